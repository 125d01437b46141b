/- Contracts of the reference's functions over vectors and points, and of the program's turn. -/
import Derived.Test.YtkfdbhhchnbjdaaVeA
namespace Go.Proofs.Ytkfdbhhchnbjdaa.Ve
open Go.RowKit Ba
set_option linter.unusedVariables false

theorem radd_any (ax ay az bx bY bz : Int) (h1 : in3 ax ay az = true) (h2 : in3 bx bY bz = true) (w : World) : Calls Try.prog 20 #[.agg #[.int .i64 ax, .int .i64 ay, .int .i64 az], .agg #[.int .i64 bx, .int .i64 bY, .int .i64 bz]] w fun e w' => e = .returned (.agg #[.int .i64 (ax + bx), .int .i64 (ay + bY), .int .i64 (az + bz)]) ∧ Below w.heap.size w w' := by
  obtain ⟨⟨_, _⟩, ⟨_, _⟩, ⟨_, _⟩⟩ := in3_iff.1 h1
  obtain ⟨⟨_, _⟩, ⟨_, _⟩, ⟨_, _⟩⟩ := in3_iff.1 h2
  clear h1 h2

  go_enter Try.func20, Try.ntmps20
  go_wp2
  go_returns
  exact ⟨rfl, by go_grown⟩

theorem rsub_any (ax ay az bx bY bz : Int) (h1 : in3 ax ay az = true) (h2 : in3 bx bY bz = true) (w : World) : Calls Try.prog 21 #[.agg #[.int .i64 ax, .int .i64 ay, .int .i64 az], .agg #[.int .i64 bx, .int .i64 bY, .int .i64 bz]] w fun e w' => e = .returned (.agg #[.int .i64 (ax - bx), .int .i64 (ay - bY), .int .i64 (az - bz)]) ∧ Below w.heap.size w w' := by
  obtain ⟨⟨_, _⟩, ⟨_, _⟩, ⟨_, _⟩⟩ := in3_iff.1 h1
  obtain ⟨⟨_, _⟩, ⟨_, _⟩, ⟨_, _⟩⟩ := in3_iff.1 h2
  clear h1 h2

  go_enter Try.func21, Try.ntmps21
  go_wp2
  go_returns
  exact ⟨rfl, by go_grown⟩

theorem rdot_any (ax ay az bx bY bz : Int) (h1 : -4000000000000 ≤ ax * bx ∧ ax * bx ≤ 4000000000000) (h2 : -4000000000000 ≤ ay * bY ∧ ay * bY ≤ 4000000000000) (h3 : -4000000000000 ≤ az * bz ∧ az * bz ≤ 4000000000000) (w : World) : Calls Try.prog 25 #[.agg #[.int .i64 ax, .int .i64 ay, .int .i64 az], .agg #[.int .i64 bx, .int .i64 bY, .int .i64 bz]] w fun e w' => e = .returned (.int .i64 (ax * bx + ay * bY + az * bz)) ∧ Below w.heap.size w w' := by

  go_enter Try.func25, Try.ntmps25
  go_wp2
  go_returns
  exact ⟨rfl, by go_grown⟩

theorem rcross_any (ax ay az bx bY bz : Int) (h1 : in3 ax ay az = true) (h2 : in3 bx bY bz = true) (w : World) : Calls Try.prog 26 #[.agg #[.int .i64 ax, .int .i64 ay, .int .i64 az], .agg #[.int .i64 bx, .int .i64 bY, .int .i64 bz]] w fun e w' => e = .returned (.agg #[.int .i64 (ay * bz - az * bY), .int .i64 (az * bx - ax * bz), .int .i64 (ax * bY - ay * bx)]) ∧ Below w.heap.size w w' := by
  obtain ⟨⟨_, _⟩, ⟨_, _⟩, ⟨_, _⟩⟩ := in3_iff.1 h1
  obtain ⟨⟨_, _⟩, ⟨_, _⟩, ⟨_, _⟩⟩ := in3_iff.1 h2
  clear h1 h2
  have _ := mul6 (a := ay) (b := bz) ⟨by assumption, by assumption⟩ ⟨by assumption, by assumption⟩
  have _ := mul6 (a := az) (b := bY) ⟨by assumption, by assumption⟩ ⟨by assumption, by assumption⟩
  have _ := mul6 (a := az) (b := bx) ⟨by assumption, by assumption⟩ ⟨by assumption, by assumption⟩
  have _ := mul6 (a := ax) (b := bz) ⟨by assumption, by assumption⟩ ⟨by assumption, by assumption⟩
  have _ := mul6 (a := ax) (b := bY) ⟨by assumption, by assumption⟩ ⟨by assumption, by assumption⟩
  have _ := mul6 (a := ay) (b := bx) ⟨by assumption, by assumption⟩ ⟨by assumption, by assumption⟩

  go_enter Try.func26, Try.ntmps26
  go_wp2
  go_returns
  exact ⟨rfl, by go_grown⟩

theorem rIn_any (x y z : Int) (w : World) : Calls Try.prog 16 #[.agg #[.int .i64 x, .int .i64 y, .int .i64 z]] w fun e w' => e = .returned (.bool (in3 x y z)) ∧ Below w.heap.size w w' := by
  rcases h0 : inB x with _ | _
  · have g0 : ¬ inB x = true := by rw [h0]; simp
    go_enter Try.func16, Try.ntmps16
    go_wp2_with (go_at_call 39; refine (rin_any _ _).mono ?_; rintro e w' ⟨rfl, rfl⟩)
    go_returns
    exact ⟨ret_bool (by simp [in3, *]), by go_grown⟩
  · rcases h1 : inB y with _ | _
    · have g1 : ¬ inB y = true := by rw [h1]; simp
      go_enter Try.func16, Try.ntmps16
      go_wp2_with (go_at_call 39; refine (rin_any _ _).mono ?_; rintro e w' ⟨rfl, rfl⟩)
      go_returns
      exact ⟨ret_bool (by simp [in3, *]), by go_grown⟩
    · rcases h2 : inB z with _ | _
      · have g2 : ¬ inB z = true := by rw [h2]; simp
        go_enter Try.func16, Try.ntmps16
        go_wp2_with (go_at_call 39; refine (rin_any _ _).mono ?_; rintro e w' ⟨rfl, rfl⟩)
        go_returns
        exact ⟨ret_bool (by simp [in3, *]), by go_grown⟩
      · go_enter Try.func16, Try.ntmps16
        go_wp2_with (go_at_call 39; refine (rin_any _ _).mono ?_; rintro e w' ⟨rfl, rfl⟩)
        go_returns
        exact ⟨ret_bool (by simp [in3, *]), by go_grown⟩

theorem rInPoint_any (x y : Int) (w : World) : Calls Try.prog 31 #[.agg #[.int .i64 x, .int .i64 y]] w fun e w' => e = .returned (.bool (in2 x y)) ∧ Below w.heap.size w w' := by
  rcases h0 : inB x with _ | _
  · have g0 : ¬ inB x = true := by rw [h0]; simp
    go_enter Try.func31, Try.ntmps31
    go_wp2_with (go_at_call 39; refine (rin_any _ _).mono ?_; rintro e w' ⟨rfl, rfl⟩)
    go_returns
    exact ⟨ret_bool (by simp [in2, *]), by go_grown⟩
  · rcases h1 : inB y with _ | _
    · have g1 : ¬ inB y = true := by rw [h1]; simp
      go_enter Try.func31, Try.ntmps31
      go_wp2_with (go_at_call 39; refine (rin_any _ _).mono ?_; rintro e w' ⟨rfl, rfl⟩)
      go_returns
      exact ⟨ret_bool (by simp [in2, *]), by go_grown⟩
    · go_enter Try.func31, Try.ntmps31
      go_wp2_with (go_at_call 39; refine (rin_any _ _).mono ?_; rintro e w' ⟨rfl, rfl⟩)
      go_returns
      exact ⟨ret_bool (by simp [in2, *]), by go_grown⟩

end Go.Proofs.Ytkfdbhhchnbjdaa.Ve
