/- Contracts of the reference's order and turn, and of the program's turn. -/
import Derived.Test.YtkfdbhhchnbjdaaVeB
namespace Go.Proofs.Ytkfdbhhchnbjdaa.Ve
open Go.RowKit Ba
set_option linter.unusedVariables false

def less3 (ax ay az bx bY bz : Int) : Bool := if ax < bx then true else if bx < ax then false else if ay < bY then true else if bY < ay then false else decide (az < bz)
theorem less_yes {ax ay az bx bY bz : Int} (h : less3 ax ay az bx bY bz = true) : cmp3 ax ay az bx bY bz = -1 := by
  unfold less3 at h
  unfold cmp3 cmpI
  repeat' split at h
  all_goals simp at h
  all_goals simp [*]
theorem less_no {ax ay az bx bY bz : Int} (h : less3 ax ay az bx bY bz = false) (h2 : less3 bx bY bz ax ay az = true) : cmp3 ax ay az bx bY bz = 1 := by
  have := less_yes h2
  unfold cmp3 cmpI at this ⊢
  unfold less3 at h
  repeat' split at h
  all_goals simp at h
  all_goals (repeat' split at this)
  all_goals (repeat' split)
  all_goals omega
theorem less_eq {ax ay az bx bY bz : Int} (h : less3 ax ay az bx bY bz = false) (h2 : less3 bx bY bz ax ay az = false) : cmp3 ax ay az bx bY bz = 0 := by
  unfold cmp3 cmpI
  unfold less3 at h h2
  repeat' split at h
  all_goals simp at h
  all_goals (repeat' split at h2)
  all_goals simp at h2
  all_goals (repeat' split)
  all_goals omega

theorem rless_any (ax ay az bx bY bz : Int) (w : World) : Calls Try.prog 42 #[.agg #[.int .i64 ax, .int .i64 ay, .int .i64 az], .agg #[.int .i64 bx, .int .i64 bY, .int .i64 bz]] w fun e w' => e = .returned (.bool (less3 ax ay az bx bY bz)) ∧ Below w.heap.size w w' := by

  by_cases hx : ax = bx
  · by_cases hy : ay = bY
    · have e1 : (ax != bx) = false := by simp [hx]
      have e2 : (ay != bY) = false := by simp [hy]
      have HL := Lib.hid (show less3 ax ay az bx bY bz = decide (az < bz) by unfold less3; rw [if_neg (by omega), if_neg (by omega), if_neg (by omega), if_neg (by omega)])
      clear hx hy
      go_enter Try.func42, Try.ntmps42
      go_wp2
      go_returns
      exact ⟨ret_bool HL.out.symm, by go_grown⟩
    · have e1 : (ax != bx) = false := by simp [hx]
      have e2 : (ay != bY) = true := by simp [hy]
      have HL := Lib.hid (show less3 ax ay az bx bY bz = decide (ay < bY) by unfold less3; rw [if_neg (by omega), if_neg (by omega)]; by_cases h : ay < bY <;> simp [h]; omega)
      clear hx hy
      go_enter Try.func42, Try.ntmps42
      go_wp2
      go_returns
      exact ⟨ret_bool HL.out.symm, by go_grown⟩
  · have e1 : (ax != bx) = true := by simp [hx]
    have HL := Lib.hid (show less3 ax ay az bx bY bz = decide (ax < bx) by unfold less3; by_cases h : ax < bx <;> simp [h]; omega)
    clear hx
    go_enter Try.func42, Try.ntmps42
    go_wp2
    go_returns
    exact ⟨ret_bool HL.out.symm, by go_grown⟩

theorem rcompare_any (ax ay az bx bY bz : Int) (w : World) : Calls Try.prog 18 #[.agg #[.int .i64 ax, .int .i64 ay, .int .i64 az], .agg #[.int .i64 bx, .int .i64 bY, .int .i64 bz]] w fun e w' => e = .returned (.int .i64 (cmp3 ax ay az bx bY bz)) ∧ Below w.heap.size w w' := by

  rcases h1 : less3 ax ay az bx bY bz with _ | _
  · rcases h2 : less3 bx bY bz ax ay az with _ | _
    · have HL := Lib.hid (less_eq h1 h2)
      go_enter Try.func18, Try.ntmps18
      go_wp2_with fail
      refine (rless_any _ _ _ _ _ _ _).mono ?_
      rintro e w1 ⟨rfl, hb1⟩
      obtain ⟨hc1, hf1⟩ := bcell hb1
      have hz1 := hb1.size
      simp at hz1
      have hz : w.heap.size + 1 < w1.heap.size := by omega
      go_wp2_with fail
      refine (rless_any _ _ _ _ _ _ _).mono ?_
      rintro e w2 ⟨rfl, hb2⟩
      go_wp2
      go_returns
      exact ⟨ret_int HL.out.symm, below_trans (below_trans (by go_grown) hb1) hb2⟩
    · have HL := Lib.hid (less_no h1 h2)
      go_enter Try.func18, Try.ntmps18
      go_wp2_with fail
      refine (rless_any _ _ _ _ _ _ _).mono ?_
      rintro e w1 ⟨rfl, hb1⟩
      obtain ⟨hc1, hf1⟩ := bcell hb1
      have hz1 := hb1.size
      simp at hz1
      have hz : w.heap.size + 1 < w1.heap.size := by omega
      go_wp2_with fail
      refine (rless_any _ _ _ _ _ _ _).mono ?_
      rintro e w2 ⟨rfl, hb2⟩
      go_wp2
      go_returns
      exact ⟨ret_int HL.out.symm, below_trans (below_trans (by go_grown) hb1) hb2⟩
  · have HL := Lib.hid (less_yes h1)
    go_enter Try.func18, Try.ntmps18
    go_wp2_with fail
    refine (rless_any _ _ _ _ _ _ _).mono ?_
    rintro e w1 ⟨rfl, hb1⟩
    go_wp2
    go_returns
    exact ⟨ret_int HL.out.symm, below_trans (by go_grown) hb1⟩

theorem turn_any (ax ay bx bY cx cy : Int) (h1 : in2 ax ay = true) (h2 : in2 bx bY = true) (h3 : in2 cx cy = true) (w : World) : Calls Try.prog 49 #[.agg #[.int .i64 ax, .int .i64 ay], .agg #[.int .i64 bx, .int .i64 bY], .agg #[.int .i64 cx, .int .i64 cy]] w fun e w' => e = .returned (.int .i64 (turnI ax ay bx bY cx cy)) ∧ Below w.heap.size w w' := by
  obtain ⟨⟨_, _⟩, ⟨_, _⟩⟩ := in2_iff.1 h1
  obtain ⟨⟨_, _⟩, ⟨_, _⟩⟩ := in2_iff.1 h2
  obtain ⟨⟨_, _⟩, ⟨_, _⟩⟩ := in2_iff.1 h3
  clear h1 h2 h3
  obtain ⟨_, _⟩ := mul7 (a := bx - ax) (b := cy - ay) ⟨by omega, by omega⟩ ⟨by omega, by omega⟩
  obtain ⟨_, _⟩ := mul7 (a := bY - ay) (b := cx - ax) ⟨by omega, by omega⟩ ⟨by omega, by omega⟩
  have HT := Lib.hid (show turnI ax ay bx bY cx cy = cmpI ((bx - ax) * (cy - ay)) ((bY - ay) * (cx - ax)) from rfl)

  go_enter Try.func49, Try.ntmps49
  go_wp2_with (go_at_call 55; refine (cmp_int64 _ _ _).mono ?_; rintro e w' ⟨rfl, rfl⟩)
  go_returns
  exact ⟨ret_int HT.out.symm, by go_grown⟩

theorem rturn_any (ax ay bx bY cx cy : Int) (h1 : in2 ax ay = true) (h2 : in2 bx bY = true) (h3 : in2 cx cy = true) (w : World) : Calls Try.prog 32 #[.agg #[.int .i64 ax, .int .i64 ay], .agg #[.int .i64 bx, .int .i64 bY], .agg #[.int .i64 cx, .int .i64 cy]] w fun e w' => e = .returned (.int .i64 (turnI ax ay bx bY cx cy)) ∧ Below w.heap.size w w' := by
  obtain ⟨⟨_, _⟩, ⟨_, _⟩⟩ := in2_iff.1 h1
  obtain ⟨⟨_, _⟩, ⟨_, _⟩⟩ := in2_iff.1 h2
  obtain ⟨⟨_, _⟩, ⟨_, _⟩⟩ := in2_iff.1 h3
  clear h1 h2 h3
  obtain ⟨_, _⟩ := mul7 (a := bx - ax) (b := cy - ay) ⟨by omega, by omega⟩ ⟨by omega, by omega⟩
  obtain ⟨_, _⟩ := mul7 (a := bY - ay) (b := cx - ax) ⟨by omega, by omega⟩ ⟨by omega, by omega⟩
  have HT := Lib.hid (show turnI ax ay bx bY cx cy = cmpI ((bx - ax) * (cy - ay)) ((bY - ay) * (cx - ax)) from rfl)

  by_cases hp : 0 < (bx - ax) * (cy - ay) - (bY - ay) * (cx - ax)
  · have HV := Lib.hid (HT.out.trans (cmpI_gt (by omega)))
    go_enter Try.func32, Try.ntmps32
    go_wp2
    go_returns
    exact ⟨ret_int HV.out.symm, by go_grown⟩
  by_cases hn : (bx - ax) * (cy - ay) - (bY - ay) * (cx - ax) < 0
  · have HV := Lib.hid (HT.out.trans (cmpI_lt (by omega)))
    go_enter Try.func32, Try.ntmps32
    go_wp2
    go_returns
    exact ⟨ret_int HV.out.symm, by go_grown⟩
  · have HV := Lib.hid (HT.out.trans ((congrArg (cmpI _) (by omega)).trans (cmpI_eq _)))
    go_enter Try.func32, Try.ntmps32
    go_wp2
    go_returns
    exact ⟨ret_int HV.out.symm, by go_grown⟩

end Go.Proofs.Ytkfdbhhchnbjdaa.Ve
