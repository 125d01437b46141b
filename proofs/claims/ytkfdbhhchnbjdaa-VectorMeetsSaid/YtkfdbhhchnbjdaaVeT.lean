/- Four points of one line. -/
import Derived.Test.YtkfdbhhchnbjdaaVeS
namespace Go.Proofs.Ytkfdbhhchnbjdaa.Ve
open Go.RowKit Ba
set_option linter.unusedVariables false
attribute [local go_sem ↓] Go.wp_at_zero Go.wp_at_succ

theorem frozen_past {w : World} {b o : Nat} {x : Obj} (h : b < w.heap.size) : (w.alloc x).frozen? ⟨b, o, none⟩ = w.frozen? ⟨b, o, none⟩ := by
  have := Below.heap_alloc w x b h
  unfold World.frozen?
  rw [this]
attribute [local go_sem] frozen_past
theorem blk_set3 {w : World} {g : Nat} {t : TypeId} {a b c : Value} (h : Blk w g t #[a, b, c]) (x y z : Value) : Blk (((w.setCell ⟨g, 0, none⟩ x).setCell ⟨g, 1, none⟩ y).setCell ⟨g, 2, none⟩ z) g t #[x, y, z] := by
  have := ((h.set_ 0 x).set_ 1 y).set_ 2 z
  simpa using this
/-- the first and the last of two points -/
def fst2 (ax ay bx bY : Int) : Int × Int := if 0 < cmp3 ax ay 0 bx bY 0 then (bx, bY) else (ax, ay)
def lst2 (ax ay bx bY : Int) : Int × Int := if 0 < cmp3 ax ay 0 bx bY 0 then (ax, ay) else (bx, bY)
theorem ordered_any (ax ay bx bY : Int) (w : World) : Calls Try.prog 58 #[.agg #[.int .i64 ax, .int .i64 ay, .int .i64 0], .agg #[.int .i64 bx, .int .i64 bY, .int .i64 0]] w fun e w' => e = .returned (.tuple #[.agg #[.int .i64 (fst2 ax ay bx bY).1, .int .i64 (fst2 ax ay bx bY).2, .int .i64 0], .agg #[.int .i64 (lst2 ax ay bx bY).1, .int .i64 (lst2 ax ay bx bY).2, .int .i64 0]]) ∧ Below w.heap.size w w' := by

  by_cases h : 0 < cmp3 ax ay 0 bx bY 0
  · rw [fst2, lst2, if_pos h, if_pos h]
    exact ordered_yes ax ay 0 bx bY 0 h w
  · rw [fst2, lst2, if_neg h, if_neg h]
    exact ordered_no ax ay 0 bx bY 0 h w

theorem flat_lit (x y : Int) (w : World) : Calls Try.prog 54 #[.agg #[.int .i64 x, .int .i64 y]] w fun e w' => e = .returned (.agg #[.int .i64 x, .int .i64 y, .int .i64 0]) ∧ w' = (w.alloc (.cells #[.int .i64 x, .int .i64 y] 46)).alloc (.cells #[.int .i64 x, .int .i64 y, .int .i64 0] 23) := by
  go_enter Try.func54, Try.ntmps54
  go_wp2
  go_returns
  exact ⟨rfl, rfl⟩
/-- how many points: by the order of the later first and the earlier last point -/
def numI (c : Int) : Int := if c = -1 then 2 else if c = 0 then 1 else 0
def lineQ (f1 f2 e1 e2 f3 f4 e3 e4 : Int) : Int := numI (cmp3 (lst2 f1 f2 f3 f4).1 (lst2 f1 f2 f3 f4).2 0 (fst2 e1 e2 e3 e4).1 (fst2 e1 e2 e3 e4).2 0)
def lineI (ax ay bx bY cx cy dx dy : Int) : Int := lineQ (fst2 ax ay bx bY).1 (fst2 ax ay bx bY).2 (lst2 ax ay bx bY).1 (lst2 ax ay bx bY).2 (fst2 cx cy dx dy).1 (fst2 cx cy dx dy).2 (lst2 cx cy dx dy).1 (lst2 cx cy dx dy).2
set_option maxHeartbeats 12800000 in
theorem meetOnLine_any (ax ay bx bY cx cy dx dy : Int) (w : World) : Calls Try.prog 56 #[.agg #[.int .i64 ax, .int .i64 ay], .agg #[.int .i64 bx, .int .i64 bY], .agg #[.int .i64 cx, .int .i64 cy], .agg #[.int .i64 dx, .int .i64 dy]] w fun e w' => e = .returned (.int .i64 (lineI ax ay bx bY cx cy dx dy)) ∧ Below w.heap.size w w' := by
  have O1 := Lib.hid fun W => ordered_any ax ay bx bY W
  have O2 := Lib.hid fun W => ordered_any cx cy dx dy W
  have HL : Hid (lineI ax ay bx bY cx cy dx dy = lineQ (fst2 ax ay bx bY).1 (fst2 ax ay bx bY).2 (lst2 ax ay bx bY).1 (lst2 ax ay bx bY).2 (fst2 cx cy dx dy).1 (fst2 cx cy dx dy).2 (lst2 cx cy dx dy).1 (lst2 cx cy dx dy).2) := Lib.hid rfl
  generalize (fst2 ax ay bx bY).1 = f1 at *
  generalize (fst2 ax ay bx bY).2 = f2 at *
  generalize (lst2 ax ay bx bY).1 = e1 at *
  generalize (lst2 ax ay bx bY).2 = e2 at *
  generalize (fst2 cx cy dx dy).1 = f3 at *
  generalize (fst2 cx cy dx dy).2 = f4 at *
  generalize (lst2 cx cy dx dy).1 = e3 at *
  generalize (lst2 cx cy dx dy).2 = e4 at *
  go_enter Try.func56, Try.ntmps56
  go_upto_region 1 with fail
  go_cut [9, 10] (fun p q wx => ∃ gx hx : Nat, p = .pointer (some ⟨gx, 0, none⟩) ∧ q = .pointer (some ⟨hx, 0, none⟩) ∧ w.heap.size ≤ gx ∧ w.heap.size ≤ hx ∧ Blk wx gx 23 #[.int .i64 f1, .int .i64 f2, .int .i64 0] ∧ Blk wx hx 23 #[.int .i64 e1, .int .i64 e2, .int .i64 0] ∧ Blk wx (w.heap.size + 1 + 1) 46 #[.int .i64 cx, .int .i64 cy] ∧ Blk wx (w.heap.size + 1 + 1 + 1) 46 #[.int .i64 dx, .int .i64 dy] ∧ Below w.heap.size w wx)
  case first =>
    go_region_held3 (fun w' => w'.cell? ⟨w.heap.size, 0, none⟩ = some (.int .i64 ax) ∧ w'.cell? ⟨w.heap.size, 1, none⟩ = some (.int .i64 ay) ∧ w'.cell? ⟨w.heap.size + 1, 0, none⟩ = some (.int .i64 bx) ∧ w'.cell? ⟨w.heap.size + 1, 1, none⟩ = some (.int .i64 bY)) (((try simp only [World.cell?_drew]); (repeat' apply And.intro) <;> (first | with_reducible assumption | ((simp (disch := ((try simp only [World.size_alloc, World.size_drew, World.size_setCell]); first | done | omega)) only [far_set, World.cell?_drew, World.cell?_alloc_past, World.cell?_alloc_at]); first | done | with_reducible assumption | rfl))))
      ((first
        | (go_at_call 54; refine (flat_lit _ _ _).mono ?_; rintro e w2 ⟨rfl, rfl⟩)
        | (go_at_call 58; refine (O1.out _).mono ?_; rintro e w2 ⟨rfl, hbm⟩; obtain ⟨hcm, hfm⟩ := bcell hbm; have hzm := hbm.size; simp only [World.size_alloc, World.size_drew] at hzm; have q00 : w2.cell? ⟨w.heap.size, 0, none⟩ = some (.int .i64 ax) := (by rw [hcm _ _ (by simp only [World.size_alloc, World.size_drew]; omega)]; simp (disch := ((try simp only [World.size_alloc, World.size_drew, World.size_setCell]); first | done | omega)) only [World.cell?_drew, World.cell?_alloc_past, World.cell?_alloc_at]; first | done | assumption | rfl); have q01 : w2.cell? ⟨w.heap.size, 1, none⟩ = some (.int .i64 ay) := (by rw [hcm _ _ (by simp only [World.size_alloc, World.size_drew]; omega)]; simp (disch := ((try simp only [World.size_alloc, World.size_drew, World.size_setCell]); first | done | omega)) only [World.cell?_drew, World.cell?_alloc_past, World.cell?_alloc_at]; first | done | assumption | rfl); have q10 : w2.cell? ⟨w.heap.size + 1, 0, none⟩ = some (.int .i64 bx) := (by rw [hcm _ _ (by simp only [World.size_alloc, World.size_drew]; omega)]; simp (disch := ((try simp only [World.size_alloc, World.size_drew, World.size_setCell]); first | done | omega)) only [World.cell?_drew, World.cell?_alloc_past, World.cell?_alloc_at]; first | done | assumption | rfl); have q11 : w2.cell? ⟨w.heap.size + 1, 1, none⟩ = some (.int .i64 bY) := (by rw [hcm _ _ (by simp only [World.size_alloc, World.size_drew]; omega)]; simp (disch := ((try simp only [World.size_alloc, World.size_drew, World.size_setCell]); first | done | omega)) only [World.cell?_drew, World.cell?_alloc_past, World.cell?_alloc_at]; first | done | assumption | rfl); have zz0 : w.heap.size < w2.heap.size := (by omega); have zz1 : w.heap.size + 1 < w2.heap.size := (by omega); refine (fun hX0 : Blk w2 (w.heap.size + 1 + 1) 46 #[.int .i64 cx, .int .i64 cy] => ?_) ?_; rotate_left; (focus (with_reducible refine Blk.below ?_ hbm ?_; rotate_left; (focus (simp only [World.size_alloc, World.size_drew]; omega)); (repeat (first | with_reducible assumption | (with_reducible refine Blk_at ?_; simp only [World.size_alloc, World.size_drew, World.size_setCell]; done) | with_reducible refine Blk.drew ?_ | with_reducible refine Blk.alloc ?_ _)); done)); refine (fun hX1 : Blk w2 (w.heap.size + 1 + 1 + 1) 46 #[.int .i64 dx, .int .i64 dy] => ?_) ?_; rotate_left; (focus (with_reducible refine Blk.below ?_ hbm ?_; rotate_left; (focus (simp only [World.size_alloc, World.size_drew]; omega)); (repeat (first | with_reducible assumption | (with_reducible refine Blk_at ?_; simp only [World.size_alloc, World.size_drew, World.size_setCell]; done) | with_reducible refine Blk.drew ?_ | with_reducible refine Blk.alloc ?_ _)); done)); refine (fun hbw2 : Below w.heap.size w w2 => ?_) ?_; rotate_left; (focus ((refine below_trans ?_ hbm); repeat (first | with_reducible exact Below.refl _ _ | with_reducible refine Below.drew ?_ | with_reducible refine below_drewN ?_ _ | with_reducible refine below_set ?_ (by simp <;> omega) _ | with_reducible refine below_alloc ?_ _))); (try (refine (fun hB4 : Blk w2 (w.heap.size + 1 + 1 + 1 + 1) 23 #[.int .i64 0, .int .i64 0, .int .i64 0] => ?_) ?_; rotate_left; (focus (with_reducible refine Blk.below ?_ hbm ?_; rotate_left; (focus (simp only [World.size_alloc, World.size_drew]; omega)); (repeat (first | with_reducible assumption | (with_reducible refine Blk_at ?_; simp only [World.size_alloc, World.size_drew, World.size_setCell]; done) | with_reducible refine Blk.drew ?_ | with_reducible refine Blk.alloc ?_ _)); done)); have c4_0 : w2.cell? ⟨w.heap.size + 1 + 1 + 1 + 1, 0, none⟩ = some (.int .i64 0) := hB4.cell 0; have f4_0 : w2.frozen? ⟨w.heap.size + 1 + 1 + 1 + 1, 0, none⟩ = false := hB4.frozen 0; have c4_1 : w2.cell? ⟨w.heap.size + 1 + 1 + 1 + 1, 1, none⟩ = some (.int .i64 0) := hB4.cell 1; have f4_1 : w2.frozen? ⟨w.heap.size + 1 + 1 + 1 + 1, 1, none⟩ = false := hB4.frozen 1; have c4_2 : w2.cell? ⟨w.heap.size + 1 + 1 + 1 + 1, 2, none⟩ = some (.int .i64 0) := hB4.cell 2; have f4_2 : w2.frozen? ⟨w.heap.size + 1 + 1 + 1 + 1, 2, none⟩ = false := hB4.frozen 2; have zc4 : w.heap.size + 1 + 1 + 1 + 1 < w2.heap.size := hB4.lt)); (try (refine (fun hB5 : Blk w2 (w.heap.size + 1 + 1 + 1 + 1 + 1) 23 #[.int .i64 0, .int .i64 0, .int .i64 0] => ?_) ?_; rotate_left; (focus (with_reducible refine Blk.below ?_ hbm ?_; rotate_left; (focus (simp only [World.size_alloc, World.size_drew]; omega)); (repeat (first | with_reducible assumption | (with_reducible refine Blk_at ?_; simp only [World.size_alloc, World.size_drew, World.size_setCell]; done) | with_reducible refine Blk.drew ?_ | with_reducible refine Blk.alloc ?_ _)); done)); have c5_0 : w2.cell? ⟨w.heap.size + 1 + 1 + 1 + 1 + 1, 0, none⟩ = some (.int .i64 0) := hB5.cell 0; have f5_0 : w2.frozen? ⟨w.heap.size + 1 + 1 + 1 + 1 + 1, 0, none⟩ = false := hB5.frozen 0; have c5_1 : w2.cell? ⟨w.heap.size + 1 + 1 + 1 + 1 + 1, 1, none⟩ = some (.int .i64 0) := hB5.cell 1; have f5_1 : w2.frozen? ⟨w.heap.size + 1 + 1 + 1 + 1 + 1, 1, none⟩ = false := hB5.frozen 1; have c5_2 : w2.cell? ⟨w.heap.size + 1 + 1 + 1 + 1 + 1, 2, none⟩ = some (.int .i64 0) := hB5.cell 2; have f5_2 : w2.frozen? ⟨w.heap.size + 1 + 1 + 1 + 1 + 1, 2, none⟩ = false := hB5.frozen 2; have zc5 : w.heap.size + 1 + 1 + 1 + 1 + 1 < w2.heap.size := hB5.lt)); (try (refine (fun hB6 : Blk w2 (w.heap.size + 1 + 1 + 1 + 1 + 1 + 1) 23 #[.int .i64 0, .int .i64 0, .int .i64 0] => ?_) ?_; rotate_left; (focus (with_reducible refine Blk.below ?_ hbm ?_; rotate_left; (focus (simp only [World.size_alloc, World.size_drew]; omega)); (repeat (first | with_reducible assumption | (with_reducible refine Blk_at ?_; simp only [World.size_alloc, World.size_drew, World.size_setCell]; done) | with_reducible refine Blk.drew ?_ | with_reducible refine Blk.alloc ?_ _)); done)); have c6_0 : w2.cell? ⟨w.heap.size + 1 + 1 + 1 + 1 + 1 + 1, 0, none⟩ = some (.int .i64 0) := hB6.cell 0; have f6_0 : w2.frozen? ⟨w.heap.size + 1 + 1 + 1 + 1 + 1 + 1, 0, none⟩ = false := hB6.frozen 0; have c6_1 : w2.cell? ⟨w.heap.size + 1 + 1 + 1 + 1 + 1 + 1, 1, none⟩ = some (.int .i64 0) := hB6.cell 1; have f6_1 : w2.frozen? ⟨w.heap.size + 1 + 1 + 1 + 1 + 1 + 1, 1, none⟩ = false := hB6.frozen 1; have c6_2 : w2.cell? ⟨w.heap.size + 1 + 1 + 1 + 1 + 1 + 1, 2, none⟩ = some (.int .i64 0) := hB6.cell 2; have f6_2 : w2.frozen? ⟨w.heap.size + 1 + 1 + 1 + 1 + 1 + 1, 2, none⟩ = false := hB6.frozen 2; have zc6 : w.heap.size + 1 + 1 + 1 + 1 + 1 + 1 < w2.heap.size := hB6.lt)); (try (refine (fun hB7 : Blk w2 (w.heap.size + 1 + 1 + 1 + 1 + 1 + 1 + 1) 23 #[.int .i64 0, .int .i64 0, .int .i64 0] => ?_) ?_; rotate_left; (focus (with_reducible refine Blk.below ?_ hbm ?_; rotate_left; (focus (simp only [World.size_alloc, World.size_drew]; omega)); (repeat (first | with_reducible assumption | (with_reducible refine Blk_at ?_; simp only [World.size_alloc, World.size_drew, World.size_setCell]; done) | with_reducible refine Blk.drew ?_ | with_reducible refine Blk.alloc ?_ _)); done)); have c7_0 : w2.cell? ⟨w.heap.size + 1 + 1 + 1 + 1 + 1 + 1 + 1, 0, none⟩ = some (.int .i64 0) := hB7.cell 0; have f7_0 : w2.frozen? ⟨w.heap.size + 1 + 1 + 1 + 1 + 1 + 1 + 1, 0, none⟩ = false := hB7.frozen 0; have c7_1 : w2.cell? ⟨w.heap.size + 1 + 1 + 1 + 1 + 1 + 1 + 1, 1, none⟩ = some (.int .i64 0) := hB7.cell 1; have f7_1 : w2.frozen? ⟨w.heap.size + 1 + 1 + 1 + 1 + 1 + 1 + 1, 1, none⟩ = false := hB7.frozen 1; have c7_2 : w2.cell? ⟨w.heap.size + 1 + 1 + 1 + 1 + 1 + 1 + 1, 2, none⟩ = some (.int .i64 0) := hB7.cell 2; have f7_2 : w2.frozen? ⟨w.heap.size + 1 + 1 + 1 + 1 + 1 + 1 + 1, 2, none⟩ = false := hB7.frozen 2; have zc7 : w.heap.size + 1 + 1 + 1 + 1 + 1 + 1 + 1 < w2.heap.size := hB7.lt)); (try (refine (fun hB8 : Blk w2 (w.heap.size + 1 + 1 + 1 + 1 + 1 + 1 + 1 + 1) 23 #[.int .i64 0, .int .i64 0, .int .i64 0] => ?_) ?_; rotate_left; (focus (with_reducible refine Blk.below ?_ hbm ?_; rotate_left; (focus (simp only [World.size_alloc, World.size_drew]; omega)); (repeat (first | with_reducible assumption | (with_reducible refine Blk_at ?_; simp only [World.size_alloc, World.size_drew, World.size_setCell]; done) | with_reducible refine Blk.drew ?_ | with_reducible refine Blk.alloc ?_ _)); done)); have c8_0 : w2.cell? ⟨w.heap.size + 1 + 1 + 1 + 1 + 1 + 1 + 1 + 1, 0, none⟩ = some (.int .i64 0) := hB8.cell 0; have f8_0 : w2.frozen? ⟨w.heap.size + 1 + 1 + 1 + 1 + 1 + 1 + 1 + 1, 0, none⟩ = false := hB8.frozen 0; have c8_1 : w2.cell? ⟨w.heap.size + 1 + 1 + 1 + 1 + 1 + 1 + 1 + 1, 1, none⟩ = some (.int .i64 0) := hB8.cell 1; have f8_1 : w2.frozen? ⟨w.heap.size + 1 + 1 + 1 + 1 + 1 + 1 + 1 + 1, 1, none⟩ = false := hB8.frozen 1; have c8_2 : w2.cell? ⟨w.heap.size + 1 + 1 + 1 + 1 + 1 + 1 + 1 + 1, 2, none⟩ = some (.int .i64 0) := hB8.cell 2; have f8_2 : w2.frozen? ⟨w.heap.size + 1 + 1 + 1 + 1 + 1 + 1 + 1 + 1, 2, none⟩ = false := hB8.frozen 2; have zc8 : w.heap.size + 1 + 1 + 1 + 1 + 1 + 1 + 1 + 1 < w2.heap.size := hB8.lt)); (try (refine (fun hB9 : Blk w2 (w.heap.size + 1 + 1 + 1 + 1 + 1 + 1 + 1 + 1 + 1) 23 #[.int .i64 0, .int .i64 0, .int .i64 0] => ?_) ?_; rotate_left; (focus (with_reducible refine Blk.below ?_ hbm ?_; rotate_left; (focus (simp only [World.size_alloc, World.size_drew]; omega)); (repeat (first | with_reducible assumption | (with_reducible refine Blk_at ?_; simp only [World.size_alloc, World.size_drew, World.size_setCell]; done) | with_reducible refine Blk.drew ?_ | with_reducible refine Blk.alloc ?_ _)); done)); have c9_0 : w2.cell? ⟨w.heap.size + 1 + 1 + 1 + 1 + 1 + 1 + 1 + 1 + 1, 0, none⟩ = some (.int .i64 0) := hB9.cell 0; have f9_0 : w2.frozen? ⟨w.heap.size + 1 + 1 + 1 + 1 + 1 + 1 + 1 + 1 + 1, 0, none⟩ = false := hB9.frozen 0; have c9_1 : w2.cell? ⟨w.heap.size + 1 + 1 + 1 + 1 + 1 + 1 + 1 + 1 + 1, 1, none⟩ = some (.int .i64 0) := hB9.cell 1; have f9_1 : w2.frozen? ⟨w.heap.size + 1 + 1 + 1 + 1 + 1 + 1 + 1 + 1 + 1, 1, none⟩ = false := hB9.frozen 1; have c9_2 : w2.cell? ⟨w.heap.size + 1 + 1 + 1 + 1 + 1 + 1 + 1 + 1 + 1, 2, none⟩ = some (.int .i64 0) := hB9.cell 2; have f9_2 : w2.frozen? ⟨w.heap.size + 1 + 1 + 1 + 1 + 1 + 1 + 1 + 1 + 1, 2, none⟩ = false := hB9.frozen 2; have zc9 : w.heap.size + 1 + 1 + 1 + 1 + 1 + 1 + 1 + 1 + 1 < w2.heap.size := hB9.lt)))))
    all_goals
      go_wp2_with fail
      go_meet
      refine ⟨_, _, rfl, rfl, by omega, by omega, ?_, ?_, ?_, ?_, ?_⟩
      · repeat (first | with_reducible assumption | (with_reducible refine Blk_at ?_; simp only [World.size_alloc, World.size_drew, World.size_setCell]; done) | with_reducible refine Blk.drew ?_ | with_reducible refine Blk.alloc ?_ _ | with_reducible refine blk_set3 (a := .int .i64 0) (b := .int .i64 0) (c := .int .i64 0) ?_ _ _ _ | with_reducible refine Blk.far ?_ (by first | omega | (simp <;> omega)) _)
      · repeat (first | with_reducible assumption | (with_reducible refine Blk_at ?_; simp only [World.size_alloc, World.size_drew, World.size_setCell]; done) | with_reducible refine Blk.drew ?_ | with_reducible refine Blk.alloc ?_ _ | with_reducible refine blk_set3 (a := .int .i64 0) (b := .int .i64 0) (c := .int .i64 0) ?_ _ _ _ | with_reducible refine Blk.far ?_ (by first | omega | (simp <;> omega)) _)
      · repeat (first | with_reducible assumption | (with_reducible refine Blk_at ?_; simp only [World.size_alloc, World.size_drew, World.size_setCell]; done) | with_reducible refine Blk.drew ?_ | with_reducible refine Blk.alloc ?_ _ | with_reducible refine blk_set3 (a := .int .i64 0) (b := .int .i64 0) (c := .int .i64 0) ?_ _ _ _ | with_reducible refine Blk.far ?_ (by first | omega | (simp <;> omega)) _)
      · repeat (first | with_reducible assumption | (with_reducible refine Blk_at ?_; simp only [World.size_alloc, World.size_drew, World.size_setCell]; done) | with_reducible refine Blk.drew ?_ | with_reducible refine Blk.alloc ?_ _ | with_reducible refine blk_set3 (a := .int .i64 0) (b := .int .i64 0) (c := .int .i64 0) ?_ _ _ _ | with_reducible refine Blk.far ?_ (by first | omega | (simp <;> omega)) _)
      · repeat (first | with_reducible exact hbw2 | with_reducible exact Below.refl _ _ | with_reducible refine Below.drew ?_ | with_reducible refine below_drewN ?_ _ | with_reducible refine below_set ?_ (by simp <;> omega) _ | with_reducible refine below_alloc ?_ _)
  case rest =>
    obtain ⟨wa, rfl⟩ : ∃ wa : World, wa = wc := ⟨_, rfl⟩
    obtain ⟨g, h, rfl, rfl, hg, hh, hB1, hB2, hX0, hX1, hbw⟩ := hcut
    have y0 : wa.cell? ⟨w.heap.size + 1 + 1, 0, none⟩ = some (.int .i64 cx) := hX0.cell 0
    have y1 : wa.cell? ⟨w.heap.size + 1 + 1, 1, none⟩ = some (.int .i64 cy) := hX0.cell 1
    have y2 : wa.cell? ⟨w.heap.size + 1 + 1 + 1, 0, none⟩ = some (.int .i64 dx) := hX1.cell 0
    have y3 : wa.cell? ⟨w.heap.size + 1 + 1 + 1, 1, none⟩ = some (.int .i64 dy) := hX1.cell 1
    have zy0 : w.heap.size + 1 + 1 < wa.heap.size := hX0.lt
    have zy1 : w.heap.size + 1 + 1 + 1 < wa.heap.size := hX1.lt
    have zg := hB1.lt
    have zh := hB2.lt
    clear hX0 hX1
    go_upto_region 2 with fail
    go_cut [11, 12] (fun p q wx => ∃ gx hx : Nat, p = .pointer (some ⟨gx, 0, none⟩) ∧ q = .pointer (some ⟨hx, 0, none⟩) ∧ wa.heap.size ≤ gx ∧ wa.heap.size ≤ hx ∧ Blk wx gx 23 #[.int .i64 f3, .int .i64 f4, .int .i64 0] ∧ Blk wx hx 23 #[.int .i64 e3, .int .i64 e4, .int .i64 0] ∧ Blk wx (g) 23 #[.int .i64 f1, .int .i64 f2, .int .i64 0] ∧ Blk wx (h) 23 #[.int .i64 e1, .int .i64 e2, .int .i64 0] ∧ Below w.heap.size w wx)
    case first =>
      go_region_held3 (fun w' => w'.cell? ⟨w.heap.size + 1 + 1, 0, none⟩ = some (.int .i64 cx) ∧ w'.cell? ⟨w.heap.size + 1 + 1, 1, none⟩ = some (.int .i64 cy) ∧ w'.cell? ⟨w.heap.size + 1 + 1 + 1, 0, none⟩ = some (.int .i64 dx) ∧ w'.cell? ⟨w.heap.size + 1 + 1 + 1, 1, none⟩ = some (.int .i64 dy)) (((try simp only [World.cell?_drew]); (repeat' apply And.intro) <;> (first | with_reducible assumption | ((simp (disch := ((try simp only [World.size_alloc, World.size_drew, World.size_setCell]); first | done | omega)) only [far_set, World.cell?_drew, World.cell?_alloc_past, World.cell?_alloc_at]); first | done | with_reducible assumption | rfl))))
        ((first
          | (go_at_call 54; refine (flat_lit _ _ _).mono ?_; rintro e w2 ⟨rfl, rfl⟩)
          | (go_at_call 58; refine (O2.out _).mono ?_; rintro e w2 ⟨rfl, hbm⟩; obtain ⟨hcm, hfm⟩ := bcell hbm; have hzm := hbm.size; simp only [World.size_alloc, World.size_drew] at hzm; have q00 : w2.cell? ⟨w.heap.size + 1 + 1, 0, none⟩ = some (.int .i64 cx) := (by rw [hcm _ _ (by simp only [World.size_alloc, World.size_drew]; omega)]; simp (disch := ((try simp only [World.size_alloc, World.size_drew, World.size_setCell]); first | done | omega)) only [World.cell?_drew, World.cell?_alloc_past, World.cell?_alloc_at]; first | done | assumption | rfl); have q01 : w2.cell? ⟨w.heap.size + 1 + 1, 1, none⟩ = some (.int .i64 cy) := (by rw [hcm _ _ (by simp only [World.size_alloc, World.size_drew]; omega)]; simp (disch := ((try simp only [World.size_alloc, World.size_drew, World.size_setCell]); first | done | omega)) only [World.cell?_drew, World.cell?_alloc_past, World.cell?_alloc_at]; first | done | assumption | rfl); have q10 : w2.cell? ⟨w.heap.size + 1 + 1 + 1, 0, none⟩ = some (.int .i64 dx) := (by rw [hcm _ _ (by simp only [World.size_alloc, World.size_drew]; omega)]; simp (disch := ((try simp only [World.size_alloc, World.size_drew, World.size_setCell]); first | done | omega)) only [World.cell?_drew, World.cell?_alloc_past, World.cell?_alloc_at]; first | done | assumption | rfl); have q11 : w2.cell? ⟨w.heap.size + 1 + 1 + 1, 1, none⟩ = some (.int .i64 dy) := (by rw [hcm _ _ (by simp only [World.size_alloc, World.size_drew]; omega)]; simp (disch := ((try simp only [World.size_alloc, World.size_drew, World.size_setCell]); first | done | omega)) only [World.cell?_drew, World.cell?_alloc_past, World.cell?_alloc_at]; first | done | assumption | rfl); have zz0 : w.heap.size + 1 + 1 < w2.heap.size := (by omega); have zz1 : w.heap.size + 1 + 1 + 1 < w2.heap.size := (by omega); refine (fun hX0 : Blk w2 (g) 23 #[.int .i64 f1, .int .i64 f2, .int .i64 0] => ?_) ?_; rotate_left; (focus (with_reducible refine Blk.below ?_ hbm ?_; rotate_left; (focus (simp only [World.size_alloc, World.size_drew]; omega)); (repeat (first | with_reducible assumption | (with_reducible refine Blk_at ?_; simp only [World.size_alloc, World.size_drew, World.size_setCell]; done) | with_reducible refine Blk.drew ?_ | with_reducible refine Blk.alloc ?_ _)); done)); refine (fun hX1 : Blk w2 (h) 23 #[.int .i64 e1, .int .i64 e2, .int .i64 0] => ?_) ?_; rotate_left; (focus (with_reducible refine Blk.below ?_ hbm ?_; rotate_left; (focus (simp only [World.size_alloc, World.size_drew]; omega)); (repeat (first | with_reducible assumption | (with_reducible refine Blk_at ?_; simp only [World.size_alloc, World.size_drew, World.size_setCell]; done) | with_reducible refine Blk.drew ?_ | with_reducible refine Blk.alloc ?_ _)); done)); refine (fun hbw2 : Below w.heap.size w w2 => ?_) ?_; rotate_left; (focus ((refine below_trans ?_ hbm); repeat (first | with_reducible exact hbw | with_reducible refine Below.drew ?_ | with_reducible refine below_drewN ?_ _ | with_reducible refine below_set ?_ (by simp <;> omega) _ | with_reducible refine below_alloc ?_ _))); (try (refine (fun hB0 : Blk w2 (wa.heap.size) 23 #[.int .i64 0, .int .i64 0, .int .i64 0] => ?_) ?_; rotate_left; (focus (with_reducible refine Blk.below ?_ hbm ?_; rotate_left; (focus (simp only [World.size_alloc, World.size_drew]; omega)); (repeat (first | with_reducible assumption | (with_reducible refine Blk_at ?_; simp only [World.size_alloc, World.size_drew, World.size_setCell]; done) | with_reducible refine Blk.drew ?_ | with_reducible refine Blk.alloc ?_ _)); done)); have c0_0 : w2.cell? ⟨wa.heap.size, 0, none⟩ = some (.int .i64 0) := hB0.cell 0; have f0_0 : w2.frozen? ⟨wa.heap.size, 0, none⟩ = false := hB0.frozen 0; have c0_1 : w2.cell? ⟨wa.heap.size, 1, none⟩ = some (.int .i64 0) := hB0.cell 1; have f0_1 : w2.frozen? ⟨wa.heap.size, 1, none⟩ = false := hB0.frozen 1; have c0_2 : w2.cell? ⟨wa.heap.size, 2, none⟩ = some (.int .i64 0) := hB0.cell 2; have f0_2 : w2.frozen? ⟨wa.heap.size, 2, none⟩ = false := hB0.frozen 2; have zc0 : wa.heap.size < w2.heap.size := hB0.lt)); (try (refine (fun hB1 : Blk w2 (wa.heap.size + 1) 23 #[.int .i64 0, .int .i64 0, .int .i64 0] => ?_) ?_; rotate_left; (focus (with_reducible refine Blk.below ?_ hbm ?_; rotate_left; (focus (simp only [World.size_alloc, World.size_drew]; omega)); (repeat (first | with_reducible assumption | (with_reducible refine Blk_at ?_; simp only [World.size_alloc, World.size_drew, World.size_setCell]; done) | with_reducible refine Blk.drew ?_ | with_reducible refine Blk.alloc ?_ _)); done)); have c1_0 : w2.cell? ⟨wa.heap.size + 1, 0, none⟩ = some (.int .i64 0) := hB1.cell 0; have f1_0 : w2.frozen? ⟨wa.heap.size + 1, 0, none⟩ = false := hB1.frozen 0; have c1_1 : w2.cell? ⟨wa.heap.size + 1, 1, none⟩ = some (.int .i64 0) := hB1.cell 1; have f1_1 : w2.frozen? ⟨wa.heap.size + 1, 1, none⟩ = false := hB1.frozen 1; have c1_2 : w2.cell? ⟨wa.heap.size + 1, 2, none⟩ = some (.int .i64 0) := hB1.cell 2; have f1_2 : w2.frozen? ⟨wa.heap.size + 1, 2, none⟩ = false := hB1.frozen 2; have zc1 : wa.heap.size + 1 < w2.heap.size := hB1.lt)); (try (refine (fun hB2 : Blk w2 (wa.heap.size + 1 + 1) 23 #[.int .i64 0, .int .i64 0, .int .i64 0] => ?_) ?_; rotate_left; (focus (with_reducible refine Blk.below ?_ hbm ?_; rotate_left; (focus (simp only [World.size_alloc, World.size_drew]; omega)); (repeat (first | with_reducible assumption | (with_reducible refine Blk_at ?_; simp only [World.size_alloc, World.size_drew, World.size_setCell]; done) | with_reducible refine Blk.drew ?_ | with_reducible refine Blk.alloc ?_ _)); done)); have c2_0 : w2.cell? ⟨wa.heap.size + 1 + 1, 0, none⟩ = some (.int .i64 0) := hB2.cell 0; have f2_0 : w2.frozen? ⟨wa.heap.size + 1 + 1, 0, none⟩ = false := hB2.frozen 0; have c2_1 : w2.cell? ⟨wa.heap.size + 1 + 1, 1, none⟩ = some (.int .i64 0) := hB2.cell 1; have f2_1 : w2.frozen? ⟨wa.heap.size + 1 + 1, 1, none⟩ = false := hB2.frozen 1; have c2_2 : w2.cell? ⟨wa.heap.size + 1 + 1, 2, none⟩ = some (.int .i64 0) := hB2.cell 2; have f2_2 : w2.frozen? ⟨wa.heap.size + 1 + 1, 2, none⟩ = false := hB2.frozen 2; have zc2 : wa.heap.size + 1 + 1 < w2.heap.size := hB2.lt)); (try (refine (fun hB3 : Blk w2 (wa.heap.size + 1 + 1 + 1) 23 #[.int .i64 0, .int .i64 0, .int .i64 0] => ?_) ?_; rotate_left; (focus (with_reducible refine Blk.below ?_ hbm ?_; rotate_left; (focus (simp only [World.size_alloc, World.size_drew]; omega)); (repeat (first | with_reducible assumption | (with_reducible refine Blk_at ?_; simp only [World.size_alloc, World.size_drew, World.size_setCell]; done) | with_reducible refine Blk.drew ?_ | with_reducible refine Blk.alloc ?_ _)); done)); have c3_0 : w2.cell? ⟨wa.heap.size + 1 + 1 + 1, 0, none⟩ = some (.int .i64 0) := hB3.cell 0; have f3_0 : w2.frozen? ⟨wa.heap.size + 1 + 1 + 1, 0, none⟩ = false := hB3.frozen 0; have c3_1 : w2.cell? ⟨wa.heap.size + 1 + 1 + 1, 1, none⟩ = some (.int .i64 0) := hB3.cell 1; have f3_1 : w2.frozen? ⟨wa.heap.size + 1 + 1 + 1, 1, none⟩ = false := hB3.frozen 1; have c3_2 : w2.cell? ⟨wa.heap.size + 1 + 1 + 1, 2, none⟩ = some (.int .i64 0) := hB3.cell 2; have f3_2 : w2.frozen? ⟨wa.heap.size + 1 + 1 + 1, 2, none⟩ = false := hB3.frozen 2; have zc3 : wa.heap.size + 1 + 1 + 1 < w2.heap.size := hB3.lt)); (try (refine (fun hB4 : Blk w2 (wa.heap.size + 1 + 1 + 1 + 1) 23 #[.int .i64 0, .int .i64 0, .int .i64 0] => ?_) ?_; rotate_left; (focus (with_reducible refine Blk.below ?_ hbm ?_; rotate_left; (focus (simp only [World.size_alloc, World.size_drew]; omega)); (repeat (first | with_reducible assumption | (with_reducible refine Blk_at ?_; simp only [World.size_alloc, World.size_drew, World.size_setCell]; done) | with_reducible refine Blk.drew ?_ | with_reducible refine Blk.alloc ?_ _)); done)); have c4_0 : w2.cell? ⟨wa.heap.size + 1 + 1 + 1 + 1, 0, none⟩ = some (.int .i64 0) := hB4.cell 0; have f4_0 : w2.frozen? ⟨wa.heap.size + 1 + 1 + 1 + 1, 0, none⟩ = false := hB4.frozen 0; have c4_1 : w2.cell? ⟨wa.heap.size + 1 + 1 + 1 + 1, 1, none⟩ = some (.int .i64 0) := hB4.cell 1; have f4_1 : w2.frozen? ⟨wa.heap.size + 1 + 1 + 1 + 1, 1, none⟩ = false := hB4.frozen 1; have c4_2 : w2.cell? ⟨wa.heap.size + 1 + 1 + 1 + 1, 2, none⟩ = some (.int .i64 0) := hB4.cell 2; have f4_2 : w2.frozen? ⟨wa.heap.size + 1 + 1 + 1 + 1, 2, none⟩ = false := hB4.frozen 2; have zc4 : wa.heap.size + 1 + 1 + 1 + 1 < w2.heap.size := hB4.lt)); (try (refine (fun hB5 : Blk w2 (wa.heap.size + 1 + 1 + 1 + 1 + 1) 23 #[.int .i64 0, .int .i64 0, .int .i64 0] => ?_) ?_; rotate_left; (focus (with_reducible refine Blk.below ?_ hbm ?_; rotate_left; (focus (simp only [World.size_alloc, World.size_drew]; omega)); (repeat (first | with_reducible assumption | (with_reducible refine Blk_at ?_; simp only [World.size_alloc, World.size_drew, World.size_setCell]; done) | with_reducible refine Blk.drew ?_ | with_reducible refine Blk.alloc ?_ _)); done)); have c5_0 : w2.cell? ⟨wa.heap.size + 1 + 1 + 1 + 1 + 1, 0, none⟩ = some (.int .i64 0) := hB5.cell 0; have f5_0 : w2.frozen? ⟨wa.heap.size + 1 + 1 + 1 + 1 + 1, 0, none⟩ = false := hB5.frozen 0; have c5_1 : w2.cell? ⟨wa.heap.size + 1 + 1 + 1 + 1 + 1, 1, none⟩ = some (.int .i64 0) := hB5.cell 1; have f5_1 : w2.frozen? ⟨wa.heap.size + 1 + 1 + 1 + 1 + 1, 1, none⟩ = false := hB5.frozen 1; have c5_2 : w2.cell? ⟨wa.heap.size + 1 + 1 + 1 + 1 + 1, 2, none⟩ = some (.int .i64 0) := hB5.cell 2; have f5_2 : w2.frozen? ⟨wa.heap.size + 1 + 1 + 1 + 1 + 1, 2, none⟩ = false := hB5.frozen 2; have zc5 : wa.heap.size + 1 + 1 + 1 + 1 + 1 < w2.heap.size := hB5.lt)))))
      all_goals
        go_wp2_with fail
        go_meet
        refine ⟨_, _, rfl, rfl, by omega, by omega, ?_, ?_, ?_, ?_, ?_⟩
        · repeat (first | with_reducible assumption | (with_reducible refine Blk_at ?_; simp only [World.size_alloc, World.size_drew, World.size_setCell]; done) | with_reducible refine Blk.drew ?_ | with_reducible refine Blk.alloc ?_ _ | with_reducible refine blk_set3 (a := .int .i64 0) (b := .int .i64 0) (c := .int .i64 0) ?_ _ _ _ | with_reducible refine Blk.far ?_ (by first | omega | (simp <;> omega)) _)
        · repeat (first | with_reducible assumption | (with_reducible refine Blk_at ?_; simp only [World.size_alloc, World.size_drew, World.size_setCell]; done) | with_reducible refine Blk.drew ?_ | with_reducible refine Blk.alloc ?_ _ | with_reducible refine blk_set3 (a := .int .i64 0) (b := .int .i64 0) (c := .int .i64 0) ?_ _ _ _ | with_reducible refine Blk.far ?_ (by first | omega | (simp <;> omega)) _)
        · repeat (first | with_reducible assumption | (with_reducible refine Blk_at ?_; simp only [World.size_alloc, World.size_drew, World.size_setCell]; done) | with_reducible refine Blk.drew ?_ | with_reducible refine Blk.alloc ?_ _ | with_reducible refine blk_set3 (a := .int .i64 0) (b := .int .i64 0) (c := .int .i64 0) ?_ _ _ _ | with_reducible refine Blk.far ?_ (by first | omega | (simp <;> omega)) _)
        · repeat (first | with_reducible assumption | (with_reducible refine Blk_at ?_; simp only [World.size_alloc, World.size_drew, World.size_setCell]; done) | with_reducible refine Blk.drew ?_ | with_reducible refine Blk.alloc ?_ _ | with_reducible refine blk_set3 (a := .int .i64 0) (b := .int .i64 0) (c := .int .i64 0) ?_ _ _ _ | with_reducible refine Blk.far ?_ (by first | omega | (simp <;> omega)) _)
        · repeat (first | with_reducible exact hbw2 | with_reducible exact hbw | with_reducible refine Below.drew ?_ | with_reducible refine below_drewN ?_ _ | with_reducible refine below_set ?_ (by simp <;> omega) _ | with_reducible refine below_alloc ?_ _)
    case rest =>
      obtain ⟨wd, rfl⟩ : ∃ wd : World, wd = wc := ⟨_, rfl⟩
      obtain ⟨g2, h2, rfl, rfl, hg2, hh2, hC1, hC2, hC3, hC4, hbw2⟩ := hcut
      clear y0 y1 y2 y3 zy0 zy1 zg zh hB1 hB2 hbw hg hh hg2 hh2
      have O3 := Lib.hid fun W => ordered_any f1 f2 f3 f4 W
      have O4 := Lib.hid fun W => ordered_any e1 e2 e3 e4 W
      have HQ : Hid (lineQ f1 f2 e1 e2 f3 f4 e3 e4 = numI (cmp3 (lst2 f1 f2 f3 f4).1 (lst2 f1 f2 f3 f4).2 0 (fst2 e1 e2 e3 e4).1 (fst2 e1 e2 e3 e4).2 0)) := Lib.hid rfl
      have O5 := Lib.hid fun W => compare_any (lst2 f1 f2 f3 f4).1 (lst2 f1 f2 f3 f4).2 0 (fst2 e1 e2 e3 e4).1 (fst2 e1 e2 e3 e4).2 0 W
      generalize (lst2 f1 f2 f3 f4).1 = p1 at *
      generalize (lst2 f1 f2 f3 f4).2 = p2 at *
      generalize (fst2 f1 f2 f3 f4).1 = p3 at *
      generalize (fst2 f1 f2 f3 f4).2 = p4 at *
      generalize (fst2 e1 e2 e3 e4).1 = q1 at *
      generalize (fst2 e1 e2 e3 e4).2 = q2 at *
      generalize (lst2 e1 e2 e3 e4).1 = q3 at *
      generalize (lst2 e1 e2 e3 e4).2 = q4 at *
      generalize cmp3 p1 p2 0 q1 q2 0 = R at *
      have HH0 : Hid (Blks wd [(h2, 23, [.int .i64 e3, .int .i64 e4, .int .i64 0]), (g2, 23, [.int .i64 f3, .int .i64 f4, .int .i64 0]), (h, 23, [.int .i64 e1, .int .i64 e2, .int .i64 0]), (g, 23, [.int .i64 f1, .int .i64 f2, .int .i64 0])]) := Lib.hid (by intro p hp; simp only [List.mem_cons, List.not_mem_nil, or_false] at hp; rcases hp with rfl | rfl | rfl | rfl <;> assumption)
      have HB0 := Lib.hid hbw2
      clear hC1 hC2 hC3 hC4 hbw2
      have B0_0 : Blk wd (g) 23 #[.int .i64 f1, .int .i64 f2, .int .i64 0] := HH0.out (g, 23, [.int .i64 f1, .int .i64 f2, .int .i64 0]) (by simp)
      have k0_0_0 : wd.cell? ⟨g, 0, none⟩ = some (.int .i64 f1) := B0_0.cell 0
      have k0_0_1 : wd.cell? ⟨g, 1, none⟩ = some (.int .i64 f2) := B0_0.cell 1
      have k0_0_2 : wd.cell? ⟨g, 2, none⟩ = some (.int .i64 0) := B0_0.cell 2
      have z0_0 : g < wd.heap.size := B0_0.lt
      clear B0_0
      have B0_1 : Blk wd (h) 23 #[.int .i64 e1, .int .i64 e2, .int .i64 0] := HH0.out (h, 23, [.int .i64 e1, .int .i64 e2, .int .i64 0]) (by simp)
      have k0_1_0 : wd.cell? ⟨h, 0, none⟩ = some (.int .i64 e1) := B0_1.cell 0
      have k0_1_1 : wd.cell? ⟨h, 1, none⟩ = some (.int .i64 e2) := B0_1.cell 1
      have k0_1_2 : wd.cell? ⟨h, 2, none⟩ = some (.int .i64 0) := B0_1.cell 2
      have z0_1 : h < wd.heap.size := B0_1.lt
      clear B0_1
      have B0_2 : Blk wd (g2) 23 #[.int .i64 f3, .int .i64 f4, .int .i64 0] := HH0.out (g2, 23, [.int .i64 f3, .int .i64 f4, .int .i64 0]) (by simp)
      have k0_2_0 : wd.cell? ⟨g2, 0, none⟩ = some (.int .i64 f3) := B0_2.cell 0
      have k0_2_1 : wd.cell? ⟨g2, 1, none⟩ = some (.int .i64 f4) := B0_2.cell 1
      have k0_2_2 : wd.cell? ⟨g2, 2, none⟩ = some (.int .i64 0) := B0_2.cell 2
      have z0_2 : g2 < wd.heap.size := B0_2.lt
      clear B0_2
      have B0_3 : Blk wd (h2) 23 #[.int .i64 e3, .int .i64 e4, .int .i64 0] := HH0.out (h2, 23, [.int .i64 e3, .int .i64 e4, .int .i64 0]) (by simp)
      have k0_3_0 : wd.cell? ⟨h2, 0, none⟩ = some (.int .i64 e3) := B0_3.cell 0
      have k0_3_1 : wd.cell? ⟨h2, 1, none⟩ = some (.int .i64 e4) := B0_3.cell 1
      have k0_3_2 : wd.cell? ⟨h2, 2, none⟩ = some (.int .i64 0) := B0_3.cell 2
      have z0_3 : h2 < wd.heap.size := B0_3.lt
      clear B0_3
      go_wp2_with fail
      refine (O3.out _).mono ?_
      rintro e w1 ⟨rfl, hb1⟩
      have HH1 := Lib.hid ((HH0.out).below hb1)
      have HB1 := Lib.hid (below_trans (HB0.out) hb1)
      clear k0_0_0 k0_0_1 k0_0_2 z0_0 k0_1_0 k0_1_1 k0_1_2 z0_1 k0_2_0 k0_2_1 k0_2_2 z0_2 k0_3_0 k0_3_1 k0_3_2 z0_3
      clear hb1
      clear HH0 HB0
      have B1_0 : Blk w1 (g) 23 #[.int .i64 f1, .int .i64 f2, .int .i64 0] := HH1.out (g, 23, [.int .i64 f1, .int .i64 f2, .int .i64 0]) (by simp)
      have k1_0_0 : w1.cell? ⟨g, 0, none⟩ = some (.int .i64 f1) := B1_0.cell 0
      have k1_0_1 : w1.cell? ⟨g, 1, none⟩ = some (.int .i64 f2) := B1_0.cell 1
      have k1_0_2 : w1.cell? ⟨g, 2, none⟩ = some (.int .i64 0) := B1_0.cell 2
      have z1_0 : g < w1.heap.size := B1_0.lt
      clear B1_0
      have B1_1 : Blk w1 (h) 23 #[.int .i64 e1, .int .i64 e2, .int .i64 0] := HH1.out (h, 23, [.int .i64 e1, .int .i64 e2, .int .i64 0]) (by simp)
      have k1_1_0 : w1.cell? ⟨h, 0, none⟩ = some (.int .i64 e1) := B1_1.cell 0
      have k1_1_1 : w1.cell? ⟨h, 1, none⟩ = some (.int .i64 e2) := B1_1.cell 1
      have k1_1_2 : w1.cell? ⟨h, 2, none⟩ = some (.int .i64 0) := B1_1.cell 2
      have z1_1 : h < w1.heap.size := B1_1.lt
      clear B1_1
      have B1_2 : Blk w1 (g2) 23 #[.int .i64 f3, .int .i64 f4, .int .i64 0] := HH1.out (g2, 23, [.int .i64 f3, .int .i64 f4, .int .i64 0]) (by simp)
      have k1_2_0 : w1.cell? ⟨g2, 0, none⟩ = some (.int .i64 f3) := B1_2.cell 0
      have k1_2_1 : w1.cell? ⟨g2, 1, none⟩ = some (.int .i64 f4) := B1_2.cell 1
      have k1_2_2 : w1.cell? ⟨g2, 2, none⟩ = some (.int .i64 0) := B1_2.cell 2
      have z1_2 : g2 < w1.heap.size := B1_2.lt
      clear B1_2
      have B1_3 : Blk w1 (h2) 23 #[.int .i64 e3, .int .i64 e4, .int .i64 0] := HH1.out (h2, 23, [.int .i64 e3, .int .i64 e4, .int .i64 0]) (by simp)
      have k1_3_0 : w1.cell? ⟨h2, 0, none⟩ = some (.int .i64 e3) := B1_3.cell 0
      have k1_3_1 : w1.cell? ⟨h2, 1, none⟩ = some (.int .i64 e4) := B1_3.cell 1
      have k1_3_2 : w1.cell? ⟨h2, 2, none⟩ = some (.int .i64 0) := B1_3.cell 2
      have z1_3 : h2 < w1.heap.size := B1_3.lt
      clear B1_3
      go_wp2_with fail
      refine (O4.out _).mono ?_
      rintro e w2 ⟨rfl, hb2⟩
      have HH2 := Lib.hid ((((HH1.out).new (w1.heap.size) 23 [.int .i64 p3, .int .i64 p4, .int .i64 0] rfl).new (w1.heap.size + 1) 23 [.int .i64 p1, .int .i64 p2, .int .i64 0] (by simp)).below hb2)
      have HB2 := Lib.hid (below_trans (below_alloc (below_alloc (HB1.out) _) _) hb2)
      clear k1_0_0 k1_0_1 k1_0_2 z1_0 k1_1_0 k1_1_1 k1_1_2 z1_1 k1_2_0 k1_2_1 k1_2_2 z1_2 k1_3_0 k1_3_1 k1_3_2 z1_3
      clear hb2
      clear HH1 HB1
      have B2_0 : Blk w2 (g) 23 #[.int .i64 f1, .int .i64 f2, .int .i64 0] := HH2.out (g, 23, [.int .i64 f1, .int .i64 f2, .int .i64 0]) (by simp)
      have k2_0_0 : w2.cell? ⟨g, 0, none⟩ = some (.int .i64 f1) := B2_0.cell 0
      have k2_0_1 : w2.cell? ⟨g, 1, none⟩ = some (.int .i64 f2) := B2_0.cell 1
      have k2_0_2 : w2.cell? ⟨g, 2, none⟩ = some (.int .i64 0) := B2_0.cell 2
      have z2_0 : g < w2.heap.size := B2_0.lt
      clear B2_0
      have B2_1 : Blk w2 (h) 23 #[.int .i64 e1, .int .i64 e2, .int .i64 0] := HH2.out (h, 23, [.int .i64 e1, .int .i64 e2, .int .i64 0]) (by simp)
      have k2_1_0 : w2.cell? ⟨h, 0, none⟩ = some (.int .i64 e1) := B2_1.cell 0
      have k2_1_1 : w2.cell? ⟨h, 1, none⟩ = some (.int .i64 e2) := B2_1.cell 1
      have k2_1_2 : w2.cell? ⟨h, 2, none⟩ = some (.int .i64 0) := B2_1.cell 2
      have z2_1 : h < w2.heap.size := B2_1.lt
      clear B2_1
      have B2_2 : Blk w2 (g2) 23 #[.int .i64 f3, .int .i64 f4, .int .i64 0] := HH2.out (g2, 23, [.int .i64 f3, .int .i64 f4, .int .i64 0]) (by simp)
      have k2_2_0 : w2.cell? ⟨g2, 0, none⟩ = some (.int .i64 f3) := B2_2.cell 0
      have k2_2_1 : w2.cell? ⟨g2, 1, none⟩ = some (.int .i64 f4) := B2_2.cell 1
      have k2_2_2 : w2.cell? ⟨g2, 2, none⟩ = some (.int .i64 0) := B2_2.cell 2
      have z2_2 : g2 < w2.heap.size := B2_2.lt
      clear B2_2
      have B2_3 : Blk w2 (h2) 23 #[.int .i64 e3, .int .i64 e4, .int .i64 0] := HH2.out (h2, 23, [.int .i64 e3, .int .i64 e4, .int .i64 0]) (by simp)
      have k2_3_0 : w2.cell? ⟨h2, 0, none⟩ = some (.int .i64 e3) := B2_3.cell 0
      have k2_3_1 : w2.cell? ⟨h2, 1, none⟩ = some (.int .i64 e4) := B2_3.cell 1
      have k2_3_2 : w2.cell? ⟨h2, 2, none⟩ = some (.int .i64 0) := B2_3.cell 2
      have z2_3 : h2 < w2.heap.size := B2_3.lt
      clear B2_3
      have B2_4 : Blk w2 (w1.heap.size) 23 #[.int .i64 p3, .int .i64 p4, .int .i64 0] := HH2.out (w1.heap.size, 23, [.int .i64 p3, .int .i64 p4, .int .i64 0]) (by simp)
      have k2_4_0 : w2.cell? ⟨w1.heap.size, 0, none⟩ = some (.int .i64 p3) := B2_4.cell 0
      have k2_4_1 : w2.cell? ⟨w1.heap.size, 1, none⟩ = some (.int .i64 p4) := B2_4.cell 1
      have k2_4_2 : w2.cell? ⟨w1.heap.size, 2, none⟩ = some (.int .i64 0) := B2_4.cell 2
      have z2_4 : w1.heap.size < w2.heap.size := B2_4.lt
      clear B2_4
      have B2_5 : Blk w2 (w1.heap.size + 1) 23 #[.int .i64 p1, .int .i64 p2, .int .i64 0] := HH2.out (w1.heap.size + 1, 23, [.int .i64 p1, .int .i64 p2, .int .i64 0]) (by simp)
      have k2_5_0 : w2.cell? ⟨w1.heap.size + 1, 0, none⟩ = some (.int .i64 p1) := B2_5.cell 0
      have k2_5_1 : w2.cell? ⟨w1.heap.size + 1, 1, none⟩ = some (.int .i64 p2) := B2_5.cell 1
      have k2_5_2 : w2.cell? ⟨w1.heap.size + 1, 2, none⟩ = some (.int .i64 0) := B2_5.cell 2
      have z2_5 : w1.heap.size + 1 < w2.heap.size := B2_5.lt
      clear B2_5
      go_wp2_with fail
      refine (O5.out _).mono ?_
      rintro e w3 ⟨rfl, hb3⟩
      have HH3 := Lib.hid ((((HH2.out).new (w2.heap.size) 23 [.int .i64 q1, .int .i64 q2, .int .i64 0] rfl).new (w2.heap.size + 1) 23 [.int .i64 q3, .int .i64 q4, .int .i64 0] (by simp)).below hb3)
      have HB3 := Lib.hid (below_trans (below_alloc (below_alloc (HB2.out) _) _) hb3)
      clear k2_0_0 k2_0_1 k2_0_2 z2_0 k2_1_0 k2_1_1 k2_1_2 z2_1 k2_2_0 k2_2_1 k2_2_2 z2_2 k2_3_0 k2_3_1 k2_3_2 z2_3 k2_4_0 k2_4_1 k2_4_2 z2_4 k2_5_0 k2_5_1 k2_5_2 z2_5
      clear hb3
      clear HH2 HB2
      have B3_0 : Blk w3 (g) 23 #[.int .i64 f1, .int .i64 f2, .int .i64 0] := HH3.out (g, 23, [.int .i64 f1, .int .i64 f2, .int .i64 0]) (by simp)
      have k3_0_0 : w3.cell? ⟨g, 0, none⟩ = some (.int .i64 f1) := B3_0.cell 0
      have k3_0_1 : w3.cell? ⟨g, 1, none⟩ = some (.int .i64 f2) := B3_0.cell 1
      have k3_0_2 : w3.cell? ⟨g, 2, none⟩ = some (.int .i64 0) := B3_0.cell 2
      have z3_0 : g < w3.heap.size := B3_0.lt
      clear B3_0
      have B3_1 : Blk w3 (h) 23 #[.int .i64 e1, .int .i64 e2, .int .i64 0] := HH3.out (h, 23, [.int .i64 e1, .int .i64 e2, .int .i64 0]) (by simp)
      have k3_1_0 : w3.cell? ⟨h, 0, none⟩ = some (.int .i64 e1) := B3_1.cell 0
      have k3_1_1 : w3.cell? ⟨h, 1, none⟩ = some (.int .i64 e2) := B3_1.cell 1
      have k3_1_2 : w3.cell? ⟨h, 2, none⟩ = some (.int .i64 0) := B3_1.cell 2
      have z3_1 : h < w3.heap.size := B3_1.lt
      clear B3_1
      have B3_2 : Blk w3 (g2) 23 #[.int .i64 f3, .int .i64 f4, .int .i64 0] := HH3.out (g2, 23, [.int .i64 f3, .int .i64 f4, .int .i64 0]) (by simp)
      have k3_2_0 : w3.cell? ⟨g2, 0, none⟩ = some (.int .i64 f3) := B3_2.cell 0
      have k3_2_1 : w3.cell? ⟨g2, 1, none⟩ = some (.int .i64 f4) := B3_2.cell 1
      have k3_2_2 : w3.cell? ⟨g2, 2, none⟩ = some (.int .i64 0) := B3_2.cell 2
      have z3_2 : g2 < w3.heap.size := B3_2.lt
      clear B3_2
      have B3_3 : Blk w3 (h2) 23 #[.int .i64 e3, .int .i64 e4, .int .i64 0] := HH3.out (h2, 23, [.int .i64 e3, .int .i64 e4, .int .i64 0]) (by simp)
      have k3_3_0 : w3.cell? ⟨h2, 0, none⟩ = some (.int .i64 e3) := B3_3.cell 0
      have k3_3_1 : w3.cell? ⟨h2, 1, none⟩ = some (.int .i64 e4) := B3_3.cell 1
      have k3_3_2 : w3.cell? ⟨h2, 2, none⟩ = some (.int .i64 0) := B3_3.cell 2
      have z3_3 : h2 < w3.heap.size := B3_3.lt
      clear B3_3
      have B3_4 : Blk w3 (w1.heap.size) 23 #[.int .i64 p3, .int .i64 p4, .int .i64 0] := HH3.out (w1.heap.size, 23, [.int .i64 p3, .int .i64 p4, .int .i64 0]) (by simp)
      have k3_4_0 : w3.cell? ⟨w1.heap.size, 0, none⟩ = some (.int .i64 p3) := B3_4.cell 0
      have k3_4_1 : w3.cell? ⟨w1.heap.size, 1, none⟩ = some (.int .i64 p4) := B3_4.cell 1
      have k3_4_2 : w3.cell? ⟨w1.heap.size, 2, none⟩ = some (.int .i64 0) := B3_4.cell 2
      have z3_4 : w1.heap.size < w3.heap.size := B3_4.lt
      clear B3_4
      have B3_5 : Blk w3 (w1.heap.size + 1) 23 #[.int .i64 p1, .int .i64 p2, .int .i64 0] := HH3.out (w1.heap.size + 1, 23, [.int .i64 p1, .int .i64 p2, .int .i64 0]) (by simp)
      have k3_5_0 : w3.cell? ⟨w1.heap.size + 1, 0, none⟩ = some (.int .i64 p1) := B3_5.cell 0
      have k3_5_1 : w3.cell? ⟨w1.heap.size + 1, 1, none⟩ = some (.int .i64 p2) := B3_5.cell 1
      have k3_5_2 : w3.cell? ⟨w1.heap.size + 1, 2, none⟩ = some (.int .i64 0) := B3_5.cell 2
      have z3_5 : w1.heap.size + 1 < w3.heap.size := B3_5.lt
      clear B3_5
      have B3_6 : Blk w3 (w2.heap.size) 23 #[.int .i64 q1, .int .i64 q2, .int .i64 0] := HH3.out (w2.heap.size, 23, [.int .i64 q1, .int .i64 q2, .int .i64 0]) (by simp)
      have k3_6_0 : w3.cell? ⟨w2.heap.size, 0, none⟩ = some (.int .i64 q1) := B3_6.cell 0
      have k3_6_1 : w3.cell? ⟨w2.heap.size, 1, none⟩ = some (.int .i64 q2) := B3_6.cell 1
      have k3_6_2 : w3.cell? ⟨w2.heap.size, 2, none⟩ = some (.int .i64 0) := B3_6.cell 2
      have z3_6 : w2.heap.size < w3.heap.size := B3_6.lt
      clear B3_6
      have B3_7 : Blk w3 (w2.heap.size + 1) 23 #[.int .i64 q3, .int .i64 q4, .int .i64 0] := HH3.out (w2.heap.size + 1, 23, [.int .i64 q3, .int .i64 q4, .int .i64 0]) (by simp)
      have k3_7_0 : w3.cell? ⟨w2.heap.size + 1, 0, none⟩ = some (.int .i64 q3) := B3_7.cell 0
      have k3_7_1 : w3.cell? ⟨w2.heap.size + 1, 1, none⟩ = some (.int .i64 q4) := B3_7.cell 1
      have k3_7_2 : w3.cell? ⟨w2.heap.size + 1, 2, none⟩ = some (.int .i64 0) := B3_7.cell 2
      have z3_7 : w2.heap.size + 1 < w3.heap.size := B3_7.lt
      clear B3_7
      have HB3' := HB3.out
      by_cases r1 : R = -1
      · have HF : Hid (lineI ax ay bx bY cx cy dx dy = 2) := Lib.hid (by rw [HL.out, HQ.out, r1]; rfl)
        subst r1
        go_wp2
        go_returns
        exact ⟨ret_int HF.out.symm, HB3'⟩
      by_cases r2 : R = 0
      · have HF : Hid (lineI ax ay bx bY cx cy dx dy = 1) := Lib.hid (by rw [HL.out, HQ.out, r2]; rfl)
        subst r2
        go_wp2
        go_returns
        exact ⟨ret_int HF.out.symm, HB3'⟩
      · have HF : Hid (lineI ax ay bx bY cx cy dx dy = 0) := Lib.hid (by rw [HL.out, HQ.out, numI, if_neg r1, if_neg r2])
        have t1 : (R == -1) = false := by simp [r1]
        have t2 : (R == 0) = false := by simp [r2]
        clear r1 r2
        go_wp2
        go_returns
        exact ⟨ret_int HF.out.symm, HB3'⟩
end Go.Proofs.Ytkfdbhhchnbjdaa.Ve
