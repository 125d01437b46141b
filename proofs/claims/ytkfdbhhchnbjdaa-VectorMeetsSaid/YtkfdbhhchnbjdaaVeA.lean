/- Contracts of the small functions over vectors and points: what each returns; memory that was there stays. -/
import Derived.Test.YtkfdbhhchnbjdaaProg
import Derived.Test.YtkfdbhhchnbjdaaVeM
namespace Go.Proofs.Ytkfdbhhchnbjdaa.Ve
open Go.RowKit Ba
set_option linter.unusedVariables false

theorem rin_any (n : Int) (w : World) : Calls Try.prog 39 #[.int .i64 n] w fun e w' => e = .returned (.bool (inB n)) ∧ w = w' := by

  by_cases h1 : -1000000 ≤ n
  · go_enter Try.func39, Try.ntmps39
    go_wp2
    go_returns
    exact ⟨ret_bool (by simp [inB, h1]), rfl⟩
  · go_enter Try.func39, Try.ntmps39
    go_wp2
    go_returns
    exact ⟨ret_bool (by simp [inB]; omega), rfl⟩

theorem coordinates_any (x y z : Int) (w : World) : Calls Try.prog 40 #[.agg #[.int .i64 x, .int .i64 y, .int .i64 z]] w fun e w' => e = .returned (.agg #[.int .i64 x, .int .i64 y, .int .i64 z]) ∧ Below w.heap.size w w' := by

  go_enter Try.func40, Try.ntmps40
  go_wp2
  go_returns
  exact ⟨rfl, by go_grown⟩

theorem vec_any (x y z : Int) (w : World) : Calls Try.prog 45 #[.agg #[.int .i64 x, .int .i64 y, .int .i64 z]] w fun e w' => e = .returned (.agg #[.int .i64 x, .int .i64 y, .int .i64 z]) ∧ Below w.heap.size w w' := by

  go_enter Try.func45, Try.ntmps45
  go_wp2
  go_returns
  exact ⟨rfl, by go_grown⟩

theorem flat_any (x y : Int) (w : World) : Calls Try.prog 54 #[.agg #[.int .i64 x, .int .i64 y]] w fun e w' => e = .returned (.agg #[.int .i64 x, .int .i64 y, .int .i64 0]) ∧ Below w.heap.size w w' := by

  go_enter Try.func54, Try.ntmps54
  go_wp2
  go_returns
  exact ⟨rfl, by go_grown⟩

theorem nan_int (x : Int) (w : World) : Calls Try.prog 53 #[.int .i64 x] w fun e w' => e = .returned (.bool false) ∧ w = w' := by

  go_enter Try.func53, Try.ntmps53
  go_wp2
  go_returns
  exact ⟨ret_bool (by simp), rfl⟩

theorem cmp_int (x y : Int) (w : World) : Calls Try.prog 41 #[.int .i64 x, .int .i64 y] w fun e w' => e = .returned (.int .i64 (cmpI x y)) ∧ w = w' := by

  by_cases h : x < y
  · have HN := Lib.hid (show cmpI x y = -1 by unfold cmpI; rw [if_pos h])
    go_enter Try.func41, Try.ntmps41
    go_wp2_with (go_at_call 53; refine (nan_int _ _).mono ?_; rintro e w' ⟨rfl, rfl⟩)
    go_returns
    exact ⟨ret_int HN.out.symm, rfl⟩
  by_cases h2 : y < x
  · have HN := Lib.hid (show cmpI x y = 1 by unfold cmpI; rw [if_neg h, if_pos h2])
    go_enter Try.func41, Try.ntmps41
    go_wp2_with (go_at_call 53; refine (nan_int _ _).mono ?_; rintro e w' ⟨rfl, rfl⟩)
    go_returns
    exact ⟨ret_int HN.out.symm, rfl⟩
  · have HN := Lib.hid (show cmpI x y = 0 by unfold cmpI; rw [if_neg h, if_neg h2])
    go_enter Try.func41, Try.ntmps41
    go_wp2_with (go_at_call 53; refine (nan_int _ _).mono ?_; rintro e w' ⟨rfl, rfl⟩)
    go_returns
    exact ⟨ret_int HN.out.symm, rfl⟩

theorem nan_int64 (x : Int) (w : World) : Calls Try.prog 57 #[.int .i64 x] w fun e w' => e = .returned (.bool false) ∧ w = w' := by

  go_enter Try.func57, Try.ntmps57
  go_wp2
  go_returns
  exact ⟨ret_bool (by simp), rfl⟩

theorem cmp_int64 (x y : Int) (w : World) : Calls Try.prog 55 #[.int .i64 x, .int .i64 y] w fun e w' => e = .returned (.int .i64 (cmpI x y)) ∧ w = w' := by

  by_cases h : x < y
  · have HN := Lib.hid (show cmpI x y = -1 by unfold cmpI; rw [if_pos h])
    go_enter Try.func55, Try.ntmps55
    go_wp2_with (go_at_call 57; refine (nan_int64 _ _).mono ?_; rintro e w' ⟨rfl, rfl⟩)
    go_returns
    exact ⟨ret_int HN.out.symm, rfl⟩
  by_cases h2 : y < x
  · have HN := Lib.hid (show cmpI x y = 1 by unfold cmpI; rw [if_neg h, if_pos h2])
    go_enter Try.func55, Try.ntmps55
    go_wp2_with (go_at_call 57; refine (nan_int64 _ _).mono ?_; rintro e w' ⟨rfl, rfl⟩)
    go_returns
    exact ⟨ret_int HN.out.symm, rfl⟩
  · have HN := Lib.hid (show cmpI x y = 0 by unfold cmpI; rw [if_neg h, if_neg h2])
    go_enter Try.func55, Try.ntmps55
    go_wp2_with (go_at_call 57; refine (nan_int64 _ _).mono ?_; rintro e w' ⟨rfl, rfl⟩)
    go_returns
    exact ⟨ret_int HN.out.symm, rfl⟩

end Go.Proofs.Ytkfdbhhchnbjdaa.Ve
