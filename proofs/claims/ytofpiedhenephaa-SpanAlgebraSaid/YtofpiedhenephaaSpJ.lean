/- Within; the walk of the law SpanChecks. -/
import Derived.Test.YtofpiedhenephaaSpI
namespace Go.Proofs.Ytofpiedhenephaa.Sp
open Go.RowKit Go.Lib
set_option linter.unusedVariables false

def withB (al ah bl bh : Int) : Bool := decide (ah < al) || (decide (bl ≤ al) && decide (ah ≤ bh))

theorem rwithin_any (al ah bl bh : Int) (w : World) : Calls Try.prog 16 #[.agg #[.int .i64 al, .int .i64 ah], .agg #[.int .i64 bl, .int .i64 bh]] w fun e w' => e = .returned (.bool (withB al ah bl bh)) ∧ Below w.heap.size w w' := by
  have key : ah < al ∨ (¬ ah < al ∧ ¬ bl ≤ al) ∨ (¬ ah < al ∧ bl ≤ al ∧ ah ≤ bh) ∨ (¬ ah < al ∧ bl ≤ al ∧ ¬ ah ≤ bh) := by omega
  rcases key with h1 | ⟨h1, h2⟩ | ⟨h1, h2, h3⟩ | ⟨h1, h2, h3⟩
  all_goals
    go_enter Try.func16, Try.ntmps16
    go_wp2
    go_ret
    exact ⟨ret_bool (by simp [withB, *] <;> omega), below_alloc (below_alloc (Below.refl _ _) _) _⟩

theorem hull_with (al ah bl bh : Int) (h : ¬ ah < al) : ((min al bl == bl) && (max ah bh == bh)) = withB al ah bl bh := by
  rw [Bool.eq_iff_iff]
  simp [withB]
  omega

set_option maxHeartbeats 1600000 in
theorem within_any (al ah bl bh : Int) (w : World) : Calls Try.prog 15 #[.agg #[.int .i64 al, .int .i64 ah], .agg #[.int .i64 bl, .int .i64 bh]] w fun e w' => e = .returned (.bool (withB al ah bl bh)) ∧ Below w.heap.size w w' := by
  by_cases h1 : ah < al
  · go_enter Try.func15, Try.ntmps15
    go_wp2_with fail
    go_quiet (fail)
    go_wp2
    go_ret
    exact ⟨ret_bool (by simp [withB, *]), below_drewN (below_alloc (below_alloc (Below.refl _ _) _) _) _⟩
  · have hg : decide (ah < al) = false := by simpa using h1
    have HW := Lib.hid (hull_with al ah bl bh h1)
    have heq := fun W => iv_eql (min al bl) (max ah bh) bl bh W
    rw [HW.out] at heq
    have hgd := fun x y xs ys W => iv_guard .eql x y xs ys W
    have hhull := Lib.hid fun W => hull_any al ah bl bh W
    generalize withB al ah bl bh = R at *
    generalize min al bl = m1 at *
    generalize max ah bh = m2 at *
    go_enter Try.func15, Try.ntmps15
    go_wp2_with fail
    go_region_held3 (fun w' => w'.cell? ⟨w.heap.size, 0, none⟩ = some (.int .i64 al) ∧ w'.cell? ⟨w.heap.size, 1, none⟩ = some (.int .i64 ah) ∧ w'.cell? ⟨w.heap.size + 1, 0, none⟩ = some (.int .i64 bl) ∧ w'.cell? ⟨w.heap.size + 1, 1, none⟩ = some (.int .i64 bh))
      ((go_split_ands; (repeat' apply And.intro); all_goals (first | assumption | (rw [hbm.cell (by simp <;> omega)]; first | assumption | simp [*]) | (go_keep; done))))
      ((first | (go_at_call 42; refine (hhull.out _).mono ?_; rintro e w1 ⟨rfl, hbm⟩; obtain ⟨hcm, hfm⟩ := bcell hbm; have hzm := hbm.size; simp at hzm)))
    have hw1 : Below w.heap.size w w1 := by
      refine below_trans ?_ hbm
      repeat (first | exact Below.refl _ _ | refine below_drewN ?_ _ | refine below_drewN ?_ 1 | refine below_alloc ?_ _)
    clear hcm hfm hbm
    go_wp2
    go_ret
    exact ⟨rfl, by repeat (first | exact hw1 | refine below_drewN ?_ _ | refine below_drewN ?_ 1)⟩

set_option maxHeartbeats 3200000 in
theorem checks_any (al ah bl bh x : Int) (w : World) : Calls Try.prog 3 #[.agg #[.int .i64 al, .int .i64 ah], .agg #[.int .i64 bl, .int .i64 bh], .int .i64 x] w fun e w' => e = .returned (.bool true) ∧ Below w.heap.size w w' := by
  have c0 := Lib.hid fun W => awake_any W
  have c1 := Lib.hid fun W => check_any al ah W
  have c2 := Lib.hid fun W => rcheck_any al ah W
  have c3 := Lib.hid fun W => contains_any al ah x W
  have c4 := Lib.hid fun W => rcontains_any al ah x W
  have c5 := Lib.hid fun W => within_any al ah bl bh W
  have c6 := Lib.hid fun W => rwithin_any al ah bl bh W
  have c7 := Lib.hid fun W => length_any al ah W
  have c8 := Lib.hid fun W => rlength_any al ah W
  generalize allE [(al, ah)] = E at *
  generalize (decide (al ≤ x) && decide (x ≤ ah)) = B at *
  generalize withB al ah bl bh = R at *
  generalize lenE al ah = L at *
  have t1 : (E == E) = true := by simp
  have t2 : (B == B) = true := by simp
  have t3 : (R == R) = true := by simp
  have t4 : (L == L) = true := by simp
  go_enter Try.func3, Try.ntmps3
  go_wp2_with fail
  refine (c0.out _).mono ?_
  rintro e w1 ⟨rfl, hb1⟩
  have hA := (((Blk.new w 23 #[.int .i64 al, .int .i64 ah]).alloc (.cells #[.int .i64 bl, .int .i64 bh] 23))).below hb1 (by simp <;> omega)
  have hB := (Blk.new (w.alloc (.cells #[.int .i64 al, .int .i64 ah] 23)) 23 #[.int .i64 bl, .int .i64 bh]).below hb1 (by simp)
  have a0 : w1.cell? ⟨w.heap.size, 0, none⟩ = some (.int .i64 al) := by simpa using hA.cell 0
  have a1 : w1.cell? ⟨w.heap.size, 1, none⟩ = some (.int .i64 ah) := by simpa using hA.cell 1
  have b0 : w1.cell? ⟨w.heap.size + 1, 0, none⟩ = some (.int .i64 bl) := by simpa using hB.cell 0
  have b1 : w1.cell? ⟨w.heap.size + 1, 1, none⟩ = some (.int .i64 bh) := by simpa using hB.cell 1
  have hz1 : w.heap.size + 1 < w1.heap.size := by simpa using hB.lt
  have hw1 : Below w.heap.size w w1 := below_trans (below_alloc (below_alloc (Below.refl _ _) _) _) hb1
  clear hA hB hb1
  go_wp2_with fail
  go_region_held3 (fun w' => w'.cell? ⟨w.heap.size, 0, none⟩ = some (.int .i64 al) ∧ w'.cell? ⟨w.heap.size, 1, none⟩ = some (.int .i64 ah) ∧ w'.cell? ⟨w.heap.size + 1, 0, none⟩ = some (.int .i64 bl) ∧ w'.cell? ⟨w.heap.size + 1, 1, none⟩ = some (.int .i64 bh) ∧ w.heap.size + 1 < w'.heap.size ∧ Below w.heap.size w w')
    ((go_split_ands; (repeat' apply And.intro); all_goals (first | assumption | (rw [hbm.cell (by simp <;> omega)]; first | assumption | simp [*]) | (go_keep; done) | (exact Nat.lt_of_lt_of_le (by assumption) hbm.size) | ((repeat (first | assumption | refine Below.drew ?_)); done) | (refine below_trans ?_ hbm; repeat (first | assumption | refine Below.drew ?_ | exact below_drewN (by assumption) _)))))
    ((first
      | (go_at_call 11; refine (c1.out _).mono ?_; rintro e w2 ⟨rfl, hbm⟩)
      | (go_at_call 12; refine (c2.out _).mono ?_; rintro e w2 ⟨rfl, hbm⟩)
      | (go_at_call 13; refine (c3.out _).mono ?_; rintro e w2 ⟨rfl, hbm⟩)
      | (go_at_call 14; refine (c4.out _).mono ?_; rintro e w2 ⟨rfl, hbm⟩)
      | (go_at_call 15; refine (c5.out _).mono ?_; rintro e w2 ⟨rfl, hbm⟩)
      | (go_at_call 16; refine (c6.out _).mono ?_; rintro e w2 ⟨rfl, hbm⟩)
      | (go_at_call 17; refine (c7.out _).mono ?_; rintro e w2 ⟨rfl, hbm⟩)
      | (go_at_call 18; refine (c8.out _).mono ?_; rintro e w2 ⟨rfl, hbm⟩)))
  go_split_ands
  go_wp2
  go_ret
  exact ⟨rfl, by assumption⟩
end Go.Proofs.Ytofpiedhenephaa.Sp
