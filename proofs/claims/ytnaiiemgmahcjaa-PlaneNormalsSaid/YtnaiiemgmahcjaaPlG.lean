/- Greatest common divisors: the loops. -/
import Derived.Test.YtnaiiemgmahcjaaSy
import Derived.Test.YtnaiiemgmahcjaaBase2
namespace Go.Proofs.Ytnaiiemgmahcjaa.Ev
open Go.RowKit Ba
set_option linter.unusedVariables false
set_option linter.unusedSimpArgs false

def gcdI (a b : Int) : Int := (Int.gcd a b : Int)
theorem gcd_tstep (x y : Int) : Int.gcd y (x.tmod y) = Int.gcd x y := by
  rw [Int.gcd, Int.gcd, Int.natAbs_tmod, Nat.gcd_comm, ← Nat.gcd_rec, Nat.gcd_comm]
theorem gcd_estep (x y : Int) (h : 0 ≤ x) : Int.gcd y (x % y) = Int.gcd x y := by
  rw [← gcd_tstep x y, Int.tmod_eq_emod_of_nonneg h]
theorem gcd_zero (x : Int) : (Int.gcd x 0 : Int) = max x (-x) := by
  rw [Int.gcd_zero_right]; omega
theorem tmod_bd (x y : Int) (h : y ≠ 0) : (x.tmod y).natAbs < y.natAbs := by
  rw [Int.natAbs_tmod]; exact Nat.mod_lt _ (by omega)
set_option maxHeartbeats 400000 in
theorem divisor_any (a b : Int) (h1 : -2000000 ≤ a ∧ a ≤ 2000000) (h2 : -2000000 ≤ b ∧ b ≤ 2000000) (w : World) : Calls Try.prog 59 #[.int .i64 a, .int .i64 b] w fun e w' => e = .returned (.int .i64 (gcdI a b)) ∧ Below w.heap.size w w' := by

  obtain ⟨h1a, h1b⟩ := h1
  obtain ⟨h2a, h2b⟩ := h2
  go_enter Try.func59, Try.ntmps59
  go_wp2
  go_loopw [0, 1] (fun s t wr => ∃ x y : Int, s = .int .i64 x ∧ t = .int .i64 y ∧ -2000000 ≤ x ∧ x ≤ 2000000 ∧ -2000000 ≤ y ∧ y ≤ 2000000 ∧ Hid (Int.gcd x y = Int.gcd a b) ∧ Below w.heap.size w wr) (fun _ t _ => (intOf t).natAbs)
  case atStart => exact ⟨a, b, rfl, rfl, h1a, h1b, h2a, h2b, Lib.hid rfl, Below.refl _ _⟩
  case round =>
    clear h1a h1b h2a h2b
    obtain ⟨x, y, rfl, rfl, hx1, hx2, hy1, hy2, hg, hbw⟩ := hrel
    by_cases h0 : y = 0
    · subst h0
      have HG := Lib.hid (gcd_zero x)
      go_wp2
      all_goals (go_returns; exact ⟨ret_int (by rw [gcdI, ← hg.out, HG.out]; omega), hbw⟩)
    · have e0 : (y != 0) = true := by simp [h0]
      have hb := Lib.hid (tmod_bd x y h0)
      have hst := Lib.hid (gcd_tstep x y)
      have H0 := Lib.hid h0
      go_wp2
      go_quiet (fail)
      go_wp2
      have hb1 := hb.out
      go_roundw
      case rel => exact ⟨y, _, rfl, rfl, hy1, hy2, by omega, by omega, Lib.hid (hst.out.trans hg.out), below_drewN hbw _⟩
      case measure => simpa [intOf] using hb.out

set_option maxHeartbeats 400000 in
theorem rdivisor_any (a b : Int) (h1 : 0 ≤ a ∧ a ≤ 2000000) (h2 : 0 ≤ b ∧ b ≤ 2000000) (w : World) : Calls Try.prog 45 #[.int .i64 a, .int .i64 b] w fun e w' => e = .returned (.int .i64 (gcdI a b)) ∧ Below w.heap.size w w' := by

  obtain ⟨h1a, h1b⟩ := h1
  obtain ⟨h2a, h2b⟩ := h2
  go_enter Try.func45, Try.ntmps45
  go_wp2
  go_loopw [0, 1] (fun s t wr => ∃ x y : Int, s = .int .i64 x ∧ t = .int .i64 y ∧ 0 ≤ x ∧ x ≤ 2000000 ∧ 0 ≤ y ∧ y ≤ 2000000 ∧ Hid (Int.gcd x y = Int.gcd a b) ∧ Below w.heap.size w wr) (fun _ t _ => (intOf t).natAbs)
  case atStart => exact ⟨a, b, rfl, rfl, h1a, h1b, h2a, h2b, Lib.hid rfl, Below.refl _ _⟩
  case round =>
    clear h1a h1b h2a h2b
    obtain ⟨x, y, rfl, rfl, hx1, hx2, hy1, hy2, hg, hbw⟩ := hrel
    by_cases h0 : 0 < y
    · have hst := Lib.hid (gcd_estep x y hx1)
      have hy0 := Lib.hid (show y ≠ 0 by omega)
      have t1 := Lib.hid (Int.emod_nonneg x hy0.out)
      have t2 := Lib.hid (Int.emod_lt_of_pos x h0)
      have tm := Lib.hid (Int.tmod_eq_emod_of_nonneg (b := y) hx1)
      go_wp2
      go_quiet (fail)
      go_wp2
      have t3 := t1.out
      have t4 := t2.out
      go_roundw
      case rel => exact ⟨y, x % y, rfl, (by first | rfl | rw [tm.out]), hy1, hy2, by omega, by omega, Lib.hid (hst.out.trans hg.out), below_drewN hbw _⟩
      case measure => simp only [intOf]; (try rw [tm.out]); omega
    · obtain rfl : y = 0 := by omega
      have HG := Lib.hid (gcd_zero x)
      go_wp2
      go_returns
      exact ⟨ret_int (by rw [gcdI, ← hg.out, HG.out]; omega), hbw⟩

end Go.Proofs.Ytnaiiemgmahcjaa.Ev
