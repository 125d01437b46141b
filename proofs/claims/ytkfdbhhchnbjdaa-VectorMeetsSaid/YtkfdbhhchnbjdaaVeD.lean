/- Contracts of the reference's points: their order, segments. -/
import Derived.Test.YtkfdbhhchnbjdaaVeC
namespace Go.Proofs.Ytkfdbhhchnbjdaa.Ve
open Go.RowKit Ba
set_option linter.unusedVariables false

def onB (ax ay bx bY px py : Int) : Bool := decide (turnI ax ay bx bY px py = 0) && (decide (min ax bx ≤ px) && (decide (px ≤ max ax bx) && (decide (min ay bY ≤ py) && decide (py ≤ max ay bY))))
theorem before_any (ax ay bx bY : Int) (w : World) : Calls Try.prog 52 #[.agg #[.int .i64 ax, .int .i64 ay], .agg #[.int .i64 bx, .int .i64 bY]] w fun e w' => e = .returned (.bool (bef ax ay bx bY)) ∧ Below w.heap.size w w' := by

  by_cases h : ax < bx
  · have HL := Lib.hid (show bef ax ay bx bY = true by simp [bef, h])
    go_enter Try.func52, Try.ntmps52
    go_wp2
    go_returns
    exact ⟨ret_bool HL.out.symm, by go_grown⟩
  by_cases h2 : ax = bx
  · have HL := Lib.hid (show bef ax ay bx bY = decide (ay < bY) by simp [bef, h2])
    have e1 : (ax == bx) = true := by simp [h2]
    clear h2
    go_enter Try.func52, Try.ntmps52
    go_wp2
    go_returns
    exact ⟨ret_bool HL.out.symm, by go_grown⟩
  · have HL := Lib.hid (show bef ax ay bx bY = false by simp [bef, h, h2])
    have e1 : (ax == bx) = false := by simp [h2]
    clear h2
    go_enter Try.func52, Try.ntmps52
    go_wp2
    go_returns
    exact ⟨ret_bool HL.out.symm, by go_grown⟩

theorem sorted_yes (ax ay bx bY : Int) (h : bef bx bY ax ay = true) (w : World) : Calls Try.prog 51 #[.agg #[.int .i64 ax, .int .i64 ay], .agg #[.int .i64 bx, .int .i64 bY]] w fun e w' => e = .returned (.tuple #[.agg #[.int .i64 bx, .int .i64 bY], .agg #[.int .i64 ax, .int .i64 ay]]) ∧ Below w.heap.size w w' := by

  go_enter Try.func51, Try.ntmps51
  go_wp2_with fail
  refine (before_any _ _ _ _ _).mono ?_
  rintro e w1 ⟨rfl, hb1⟩
  obtain ⟨hc1, hf1⟩ := bcell hb1
  have hz1 := hb1.size
  simp at hz1
  have hz : w.heap.size + 3 < w1.heap.size := by omega
  go_wp2
  go_region
  all_goals
    go_wp2
    (try simp only [Exit.inBlock, Exit.then])
    refine bodyPost_ret (v := .tuple #[.agg #[.int .i64 bx, .int .i64 bY], .agg #[.int .i64 ax, .int .i64 ay]]) ?_ rfl ⟨rfl, ?_⟩
    · simp [results, Try.results51, go_sem, *]
    · repeat (first | exact Below.refl _ _ | assumption | exact below_trans (by go_grown) hb1 | refine Below.drew ?_ | refine below_set ?_ (by simp <;> omega) _ | refine below_alloc ?_ _)

theorem sorted_no (ax ay bx bY : Int) (h : bef bx bY ax ay = false) (w : World) : Calls Try.prog 51 #[.agg #[.int .i64 ax, .int .i64 ay], .agg #[.int .i64 bx, .int .i64 bY]] w fun e w' => e = .returned (.tuple #[.agg #[.int .i64 ax, .int .i64 ay], .agg #[.int .i64 bx, .int .i64 bY]]) ∧ Below w.heap.size w w' := by

  go_enter Try.func51, Try.ntmps51
  go_wp2_with fail
  refine (before_any _ _ _ _ _).mono ?_
  rintro e w1 ⟨rfl, hb1⟩
  obtain ⟨hc1, hf1⟩ := bcell hb1
  have hz1 := hb1.size
  simp at hz1
  have hz : w.heap.size + 3 < w1.heap.size := by omega
  go_wp2
  go_region
  all_goals
    go_wp2
    (try simp only [Exit.inBlock, Exit.then])
    refine bodyPost_ret (v := .tuple #[.agg #[.int .i64 ax, .int .i64 ay], .agg #[.int .i64 bx, .int .i64 bY]]) ?_ rfl ⟨rfl, ?_⟩
    · simp [results, Try.results51, go_sem, *]
    · repeat (first | exact Below.refl _ _ | assumption | exact below_trans (by go_grown) hb1 | refine Below.drew ?_ | refine below_set ?_ (by simp <;> omega) _ | refine below_alloc ?_ _)

theorem ron_any (ax ay bx bY px py : Int) (h1 : in2 ax ay = true) (h2 : in2 bx bY = true) (h3 : in2 px py = true) (w : World) : Calls Try.prog 33 #[.agg #[.int .i64 ax, .int .i64 ay], .agg #[.int .i64 bx, .int .i64 bY], .agg #[.int .i64 px, .int .i64 py]] w fun e w' => e = .returned (.bool (onB ax ay bx bY px py)) ∧ Below w.heap.size w w' := by

  have c := Lib.hid fun W => rturn_any ax ay bx bY px py h1 h2 h3 W
  have HL : Hid (onB ax ay bx bY px py = (decide (turnI ax ay bx bY px py = 0) && (decide (min ax bx ≤ px) && (decide (px ≤ max ax bx) && (decide (min ay bY ≤ py) && decide (py ≤ max ay bY)))))) := Lib.hid rfl
  clear h1 h2 h3
  generalize turnI ax ay bx bY px py = T at *
  go_enter Try.func33, Try.ntmps33
  go_wp2_with fail
  refine (c.out _).mono ?_
  rintro e w1 ⟨rfl, hb1⟩
  obtain ⟨hc1, hf1⟩ := bcell hb1
  have hz1 := hb1.size
  simp at hz1
  have hz : w.heap.size + 2 < w1.heap.size := by omega
  go_wp2
  all_goals (go_returns; exact ⟨ret_bool (by rw [HL.out, Bool.eq_iff_iff]; simp; omega), below_trans (by go_grown) hb1⟩)

end Go.Proofs.Ytkfdbhhchnbjdaa.Ve
