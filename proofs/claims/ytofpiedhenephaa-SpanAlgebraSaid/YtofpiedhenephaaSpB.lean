/- Contracts of the functions over one or two intervals. -/
import Derived.Test.YtofpiedhenephaaSpA
namespace Go.Proofs.Ytofpiedhenephaa.Sp
open Go.RowKit
set_option linter.unusedVariables false

theorem rcontains_any (lo hi n : Int) (w : World) : Calls Try.prog 14 #[.agg #[.int .i64 lo, .int .i64 hi], .int .i64 n] w fun e w' => e = .returned (.bool (decide (lo ≤ n) && decide (n ≤ hi))) ∧ Below w.heap.size w w' := by
  by_cases h1 : lo ≤ n
  · go_enter Try.func14, Try.ntmps14
    go_wp2
    go_ret
    exact ⟨by simp [h1], below_alloc (Below.refl _ _) _⟩
  · go_enter Try.func14, Try.ntmps14
    go_wp2
    go_ret
    exact ⟨by simp; omega, below_alloc (Below.refl _ _) _⟩

theorem contains_any (lo hi n : Int) (w : World) : Calls Try.prog 13 #[.agg #[.int .i64 lo, .int .i64 hi], .int .i64 n] w fun e w' => e = .returned (.bool (decide (lo ≤ n) && decide (n ≤ hi))) ∧ Below w.heap.size w w' := by
  by_cases h1 : lo ≤ n
  · go_enter Try.func13, Try.ntmps13
    go_wp2
    go_ret
    exact ⟨by simp [h1], below_alloc (Below.refl _ _) _⟩
  · go_enter Try.func13, Try.ntmps13
    go_wp2
    go_ret
    exact ⟨by simp; omega, below_alloc (Below.refl _ _) _⟩

theorem hull_any (al ah bl bh : Int) (w : World) : Calls Try.prog 42 #[.agg #[.int .i64 al, .int .i64 ah], .agg #[.int .i64 bl, .int .i64 bh]] w fun e w' => e = .returned (.agg #[.int .i64 (min al bl), .int .i64 (max ah bh)]) ∧ Below w.heap.size w w' := by
  go_enter Try.func42, Try.ntmps42
  go_wp2
  all_goals
    refine bodyPost_ret (v := .agg #[.int .i64 (min al bl), .int .i64 (max ah bh)]) ?_ rfl ⟨rfl, ?_⟩
    · simp [results, Try.results42, go_sem]
      omega
    · repeat (first | exact Below.refl _ _ | refine below_set ?_ (by simp; omega) _ | refine below_alloc ?_ _)

theorem meet_any (al ah bl bh : Int) (w : World) : Calls Try.prog 45 #[.agg #[.int .i64 al, .int .i64 ah], .agg #[.int .i64 bl, .int .i64 bh]] w fun e w' => e = .returned (.agg #[.int .i64 (max al bl), .int .i64 (min ah bh)]) ∧ Below w.heap.size w w' := by
  go_enter Try.func45, Try.ntmps45
  go_wp2
  all_goals
    refine bodyPost_ret (v := .agg #[.int .i64 (max al bl), .int .i64 (min ah bh)]) ?_ rfl ⟨rfl, ?_⟩
    · simp [results, Try.results45, go_sem]
      omega
    · repeat (first | exact Below.refl _ _ | refine below_set ?_ (by simp; omega) _ | refine below_alloc ?_ _)

theorem routside_any (lo hi : Int) (w : World) : Calls Try.prog 54 #[.agg #[.int .i64 lo, .int .i64 hi]] w fun e w' => e = .returned (.bool (outP (lo, hi))) ∧ Below w.heap.size w w' := by
  have key : lo < -1000000000000 ∨ (¬ lo < -1000000000000 ∧ 1000000000000 < lo) ∨ (¬ lo < -1000000000000 ∧ ¬ 1000000000000 < lo ∧ hi < -1000000000000) ∨
      (¬ lo < -1000000000000 ∧ ¬ 1000000000000 < lo ∧ ¬ hi < -1000000000000 ∧ 1000000000000 < hi) ∨ (¬ lo < -1000000000000 ∧ ¬ 1000000000000 < lo ∧ ¬ hi < -1000000000000 ∧ ¬ 1000000000000 < hi) := by omega
  rcases key with h1 | ⟨h1, h2⟩ | ⟨h1, h2, h3⟩ | ⟨h1, h2, h3, h4⟩ | ⟨h1, h2, h3, h4⟩
  all_goals
    go_enter Try.func54, Try.ntmps54
    go_wp2
    go_ret
    exact ⟨by simp [outP, outB, *], below_alloc (Below.refl _ _) _⟩

theorem check_any (lo hi : Int) (w : World) : Calls Try.prog 11 #[.agg #[.int .i64 lo, .int .i64 hi]] w fun e w' => e = .returned (.int .i64 (allE [(lo, hi)])) ∧ Below w.heap.size w w' := by
  go_enter Try.func11, Try.ntmps11
  go_wp2_with (go_at_call 40; refine (checkEach_any _ 1 _ [(lo, hi)] _ rfl (lies_new _ (by simp) rfl) (by omega)).mono ?_; rintro e w1 ⟨rfl, hb⟩)
  go_ret
  exact ⟨rfl, below_trans (below_alloc (below_alloc (Below.refl _ _) _) _) hb⟩

theorem length_any (lo hi : Int) (w : World) : Calls Try.prog 17 #[.agg #[.int .i64 lo, .int .i64 hi]] w fun e w' => e = .returned (.int .i64 (lenE lo hi)) ∧ Below w.heap.size w w' := by
  by_cases h0 : allE [(lo, hi)] = 0
  · have hb0 := allE_ok h0 (lo, hi) (by simp)
    have hv : (allE [(lo, hi)] != 0) = false := by simp [h0]
    have H0 := Lib.hid h0
    clear h0
    simp only at hb0
    go_enter Try.func17, Try.ntmps17
    go_wp2_with (go_at_call 11; refine (check_any _ _ _).mono ?_; rintro e w1 ⟨rfl, hb⟩; obtain ⟨hc, hf⟩ := bcell hb)
    go_ret
    exact ⟨ret_int (by rw [lenE, if_pos H0.out]), below_trans (below_alloc (Below.refl _ _) _) hb⟩
  · have hv : (allE [(lo, hi)] != 0) = true := by simp [h0]
    have H0 := Lib.hid h0
    clear h0
    go_enter Try.func17, Try.ntmps17
    go_wp2_with (go_at_call 11; refine (check_any _ _ _).mono ?_; rintro e w1 ⟨rfl, hb⟩; obtain ⟨hc, hf⟩ := bcell hb)
    go_ret
    exact ⟨ret_int (by rw [lenE, if_neg H0.out]), below_trans (below_alloc (Below.refl _ _) _) hb⟩

set_option maxHeartbeats 400000 in
theorem rall_any (A : Option Addr) (n c : Nat) (l : List (Int × Int)) (w : World) (hl : l.length = n) (hL : Lies w A (flat l)) (hn : n ≤ 9223372036854775807) :
    Calls Try.prog 41 #[.slice A n c] w fun e w' => e = .returned (.int .i64 (allE l)) ∧ Below w.heap.size w w' := by
  subst hl
  have HL := Lib.hid hL
  clear hL
  go_enter Try.func41, Try.ntmps41
  go_wp2
  go_loopw [3] (fun i wr => ∃ k : Nat, k ≤ l.length ∧ i = .int .i64 k ∧ Hid ((l.take k).any outP = false) ∧ Below w.heap.size w wr) (fun i _ => l.length - (intOf i).toNat)
  case atStart => exact ⟨0, Nat.zero_le _, rfl, rfl, Below.refl _ _⟩
  case round =>
    obtain ⟨k, hk, rfl, hgood, hb⟩ := hrel
    by_cases hlt : k < l.length
    · obtain ⟨b, o, rfl, hbl, hc⟩ := HL.out.ivs (by omega)
      have h1 := (hb.cell (p := ⟨b, o + k * 2, none⟩) hbl).trans (hc k hlt).1
      have h2 := (hb.cell (p := ⟨b, o + k * 2 + 1, none⟩) hbl).trans (hc k hlt).2
      clear hc
      generalize hp1 : l[k].1 = lo at *
      generalize hp2 : l[k].2 = hi at *
      have HP : Hid (outP l[k] = outP (lo, hi)) := by rw [← hp1, ← hp2]; exact Lib.hid rfl
      clear hp1 hp2
      go_wp2_with (go_at_call 54; refine (routside_any _ _ _).mono ?_; rintro e w1 ⟨rfl, hb1⟩)
      · go_ret
        have hx : outP (lo, hi) = true := by assumption
        exact ⟨ret_int (by rw [allE, if_pos (any_of_at outP l k hlt (HP.out.trans hx))]), below_trans hb hb1⟩
      · go_roundw
        case rel =>
          have hy : outP (lo, hi) = false := by assumption
          exact ⟨k + 1, by omega, by go_num, (by rw [any_take_succ _ _ _ hlt, hgood.out, HP.out, hy]; rfl : _ = false), below_trans hb hb1⟩
        case measure => simp [intOf]; omega
    · have hfull := Lib.hid (any_full outP l k (by omega) hgood.out)
      clear hgood
      go_wp2_with fail
      clear hlt
      go_loopw [4] (fun i wr => ∃ k : Nat, k ≤ l.length ∧ i = .int .i64 k ∧ Hid ((l.take k).any badP = false) ∧ Below w.heap.size w wr) (fun i _ => l.length - (intOf i).toNat)
      case atStart => exact ⟨0, Nat.zero_le _, rfl, rfl, hb⟩
      case round =>
        clear hb hk
        obtain ⟨j, hk, rfl, hgood, hb⟩ := hrel
        by_cases hlt : j < l.length
        · obtain ⟨b, o, rfl, hbl, hc⟩ := HL.out.ivs (by omega)
          have h1 := (hb.cell (p := ⟨b, o + j * 2, none⟩) hbl).trans (hc j hlt).1
          have h2 := (hb.cell (p := ⟨b, o + j * 2 + 1, none⟩) hbl).trans (hc j hlt).2
          clear hc
          generalize hp1 : l[j].1 = lo at *
          generalize hp2 : l[j].2 = hi at *
          have HP : Hid (badP l[j] = badP (lo, hi)) := by rw [← hp1, ← hp2]; exact Lib.hid rfl
          clear hp1 hp2
          have hj0 : (0 : Int) ≤ (j : Int) := by omega
          have hj1 : (j : Int) < (l.length : Int) := by omega
          by_cases hbad : hi < lo
          · go_wp2_with fail
            go_quiet (fail)
            go_wp2
            go_ret
            exact ⟨ret_int (by rw [allE, hfull.out, if_neg (by simp), if_pos (any_of_at badP l j hlt (HP.out.trans (by simp [badP, hbad])))]), below_drewN hb _⟩
          · go_wp2_with fail
            go_quiet (fail)
            go_wp2
            go_roundw
            case rel => exact ⟨j + 1, by omega, by go_num, (by rw [any_take_succ _ _ _ hlt, hgood.out, HP.out]; simp [badP]; omega : _ = false), below_drewN hb _⟩
            case measure => simp [intOf]; omega
        · have hfull2 := Lib.hid (any_full badP l j (by omega) hgood.out)
          go_wp2
          go_ret
          exact ⟨ret_int (by rw [allE, hfull.out, hfull2.out]; rfl), hb⟩
end Go.Proofs.Ytofpiedhenephaa.Sp
