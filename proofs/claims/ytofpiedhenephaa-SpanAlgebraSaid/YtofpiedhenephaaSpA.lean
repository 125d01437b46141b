/- Contracts of the small functions over intervals: what each returns; memory that was there stays. -/
import Derived.Test.YtofpiedhenephaaRows
import Derived.Test.YtofpiedhenephaaSpMath
import Derived.WalkSpells
import Derived.WalkLawsBesides
import Derived.Deep.QuietTactic
import Derived.BigQuiet
namespace Go.Proofs.Ytofpiedhenephaa.Sp
open Go.RowKit
set_option linter.unusedVariables false

theorem outside_any (n : Int) (w : World) : Calls Try.prog 53 #[.int .i64 n] w fun e w' => e = .returned (.bool (outB n)) ∧ w = w' := by
  by_cases h1 : n < -1000000000000
  · go_enter Try.func53, Try.ntmps53
    go_wp2
    go_ret
    exact ⟨by simp [outB, h1], rfl⟩
  · by_cases h2 : 1000000000000 < n
    · go_enter Try.func53, Try.ntmps53
      go_wp2
      go_ret
      exact ⟨by simp [outB, h2], rfl⟩
    · go_enter Try.func53, Try.ntmps53
      go_wp2
      go_ret
      exact ⟨by simp [outB, h1, h2], rfl⟩

theorem ret_int {k : IntKind} {a b : Int} (h : a = b) : Ending.returned (.int k a) = .returned (.int k b) := by rw [h]

set_option maxHeartbeats 400000 in
theorem checkEach_any (A : Option Addr) (n c : Nat) (l : List (Int × Int)) (w : World) (hl : l.length = n) (hL : Lies w A (flat l)) (hn : n ≤ 9223372036854775807) :
    Calls Try.prog 40 #[.slice A n c] w fun e w' => e = .returned (.int .i64 (allE l)) ∧ Below w.heap.size w w' := by
  subst hl
  have HL := Lib.hid hL
  clear hL
  go_enter Try.func40, Try.ntmps40
  go_wp2
  go_loopw [9] (fun i wr => ∃ k : Nat, k ≤ l.length ∧ i = .int .i64 k ∧ Hid ((l.take k).any outP = false) ∧ Below w.heap.size w wr) (fun i _ => l.length - (intOf i).toNat)
  case atStart => exact ⟨0, Nat.zero_le _, rfl, rfl, Below.refl _ _⟩
  case round =>
    obtain ⟨k, hk, rfl, hgood, hb⟩ := hrel
    by_cases hlt : k < l.length
    · obtain ⟨b, o, rfl, hbl, hc⟩ := HL.out.ivs (by omega)
      have h1 := (hb.cell (p := ⟨b, o + k * 2, none⟩) hbl).trans (hc k hlt).1
      have h2 := (hb.cell (p := ⟨b, o + k * 2 + 1, none⟩) hbl).trans (hc k hlt).2
      clear hc
      generalize hp1 : l[k].1 = lo at *
      generalize hp2 : l[k].2 = hi at *
      have HP1 := Lib.hid hp1
      have HP2 := Lib.hid hp2
      clear hp1 hp2
      go_wp2_with (go_at_call 53; refine (outside_any _ _).mono ?_; rintro e w' ⟨rfl, rfl⟩)
      · go_ret
        have hx : outB lo = true := by assumption
        exact ⟨ret_int (by rw [allE, if_pos (any_of_at outP l k hlt (by simp [outP, HP1.out, hx]))]), hb.alloc hb.size _⟩
      · go_ret
        have hx : outB hi = true := by assumption
        exact ⟨ret_int (by rw [allE, if_pos (any_of_at outP l k hlt (by simp [outP, HP2.out, hx]))]), hb.alloc hb.size _⟩
      · go_roundw
        case rel =>
          have hx : ¬ outB lo = true := by assumption
          have hy : outB hi = false := by assumption
          exact ⟨k + 1, by omega, by go_num, (by rw [any_take_succ _ _ _ hlt, hgood.out]; simp [outP, HP1.out, HP2.out, hx, hy] : _ = false), hb.alloc hb.size _⟩
        case measure => simp [intOf]; omega
    · have hfull := Lib.hid (any_full outP l k (by omega) hgood.out)
      clear hgood
      go_wp2_with fail
      clear hlt
      go_loopw [24] (fun i wr => ∃ k : Nat, k ≤ l.length ∧ i = .int .i64 k ∧ Hid ((l.take k).any badP = false) ∧ Below w.heap.size w wr) (fun i _ => l.length - (intOf i).toNat)
      case atStart => exact ⟨0, Nat.zero_le _, rfl, rfl, hb⟩
      case round =>
        clear hb hk
        obtain ⟨j, hk, rfl, hgood, hb⟩ := hrel
        by_cases hlt : j < l.length
        · obtain ⟨b, o, rfl, hbl, hc⟩ := HL.out.ivs (by omega)
          have h1 := (hb.cell (p := ⟨b, o + j * 2, none⟩) hbl).trans (hc j hlt).1
          have h2 := (hb.cell (p := ⟨b, o + j * 2 + 1, none⟩) hbl).trans (hc j hlt).2
          clear hc
          generalize hp1 : l[j].1 = lo at *
          generalize hp2 : l[j].2 = hi at *
          have HP1 := Lib.hid hp1
          have HP2 := Lib.hid hp2
          clear hp1 hp2
          by_cases hbad : hi < lo
          · go_wp2
            go_ret
            exact ⟨ret_int (by rw [allE, hfull.out, if_neg (by simp), if_pos (any_of_at badP l j hlt (by simp [badP, HP1.out, HP2.out, hbad]))]), hb.alloc hb.size _⟩
          · go_wp2
            go_roundw
            case rel => exact ⟨j + 1, by omega, by go_num, (by rw [any_take_succ _ _ _ hlt, hgood.out]; simp [badP, HP1.out, HP2.out]; omega : _ = false), hb.alloc hb.size _⟩
            case measure => simp [intOf]; omega
        · have hfull2 := Lib.hid (any_full badP l j (by omega) hgood.out)
          go_wp2
          go_ret
          exact ⟨ret_int (by rw [allE, hfull.out, hfull2.out]; rfl), hb⟩
end Go.Proofs.Ytofpiedhenephaa.Sp
