/- The walks of VectorPrimitives and VectorOrder. -/
import Derived.Test.YtkfdbhhchnbjdaaVeAw
namespace Go.Proofs.Ytkfdbhhchnbjdaa.Ve
open Go.RowKit Ba
set_option linter.unusedVariables false

theorem gcd3_zero {x y z : Int} (h : gcd3 x y z = 0) : x = 0 ∧ y = 0 ∧ z = 0 := by
  obtain ⟨h1, h2⟩ := gcdI_zero h
  obtain ⟨h3, h4⟩ := gcdI_zero h1
  exact ⟨h3, h4, h2⟩
theorem gcd3_pos {x y z : Int} (h : ¬ (x = 0 ∧ y = 0 ∧ z = 0)) : 1 ≤ gcd3 x y z := by
  have h0 : 0 ≤ gcd3 x y z := gcdI_nonneg _ _
  have h1 : gcd3 x y z ≠ 0 := fun e => h (gcd3_zero e)
  omega
theorem vec_same_eql (a b c : Int) (W : World) : (binOp .eql 23 (.agg #[.int .i64 a, .int .i64 b, .int .i64 c]) (.agg #[.int .i64 a, .int .i64 b, .int .i64 c])).run Try.prog W = .ok (.bool true) W := by rw [vec_eql]; simp
theorem vec_diff_eql {a b c x y z : Int} (h : ¬ (a = x ∧ b = y ∧ c = z)) (W : World) : (binOp .eql 23 (.agg #[.int .i64 a, .int .i64 b, .int .i64 c]) (.agg #[.int .i64 x, .int .i64 y, .int .i64 z])).run Try.prog W = .ok (.bool false) W := by
  rw [vec_eql]
  have : ((a == x) && ((b == y) && (c == z))) = false := by
    rw [Bool.eq_false_iff]; intro hh; simp at hh; exact h hh
  rw [this]
theorem primLaw_no (x y z : Int) (h : in3 x y z = false) (w : World) : Calls Try.prog 5 #[.agg #[.int .i64 x, .int .i64 y, .int .i64 z]] w fun e w' => e = .returned (.bool true) ∧ Below w.heap.size w w' := by
  have c0 := Lib.hid fun W => awake_any W
  have c1 := Lib.hid fun W => primitive_no x y z h W
  have c2 := Lib.hid fun W => rIn_any x y z W
  rw [h] at c2
  clear h
  have e1 := fun W => vec_same_eql 0 0 0 W
  have g1 := fun x y xs ys W => vec_guard .eql x y xs ys W
  go_enter Try.func5, Try.ntmps5
  go_wp2_with fail
  refine (c0.out _).mono ?_
  rintro e w1 ⟨rfl, hb1⟩
  have HH1 := Lib.hid ((((Blks.nil (w := w))).new (w.heap.size) 23 [.int .i64 x, .int .i64 y, .int .i64 z] rfl).below hb1)
  have HB1 := Lib.hid (below_trans (below_alloc (Below.refl _ _) _) hb1)
  clear hb1
  have B1_0 : Blk w1 (w.heap.size) 23 #[.int .i64 x, .int .i64 y, .int .i64 z] := HH1.out (w.heap.size, 23, [.int .i64 x, .int .i64 y, .int .i64 z]) (by simp)
  have k1_0_0 : w1.cell? ⟨w.heap.size, 0, none⟩ = some (.int .i64 x) := B1_0.cell 0
  have k1_0_1 : w1.cell? ⟨w.heap.size, 1, none⟩ = some (.int .i64 y) := B1_0.cell 1
  have k1_0_2 : w1.cell? ⟨w.heap.size, 2, none⟩ = some (.int .i64 z) := B1_0.cell 2
  have z1_0 : w.heap.size < w1.heap.size := B1_0.lt
  clear B1_0
  go_wp2_with fail
  refine (c1.out _).mono ?_
  rintro e w2 ⟨rfl, hb2⟩
  have HH2 := Lib.hid ((HH1.out).below hb2)
  have HB2 := Lib.hid (below_trans (HB1.out) hb2)
  clear k1_0_0 k1_0_1 k1_0_2 z1_0
  clear hb2
  clear HH1 HB1
  have B2_0 : Blk w2 (w.heap.size) 23 #[.int .i64 x, .int .i64 y, .int .i64 z] := HH2.out (w.heap.size, 23, [.int .i64 x, .int .i64 y, .int .i64 z]) (by simp)
  have k2_0_0 : w2.cell? ⟨w.heap.size, 0, none⟩ = some (.int .i64 x) := B2_0.cell 0
  have k2_0_1 : w2.cell? ⟨w.heap.size, 1, none⟩ = some (.int .i64 y) := B2_0.cell 1
  have k2_0_2 : w2.cell? ⟨w.heap.size, 2, none⟩ = some (.int .i64 z) := B2_0.cell 2
  have z2_0 : w.heap.size < w2.heap.size := B2_0.lt
  clear B2_0
  go_wp2_with fail
  refine (c2.out _).mono ?_
  rintro e w3 ⟨rfl, hb3⟩
  have HH3 := Lib.hid (((HH2.out).new (w2.heap.size) 23 [.int .i64 0, .int .i64 0, .int .i64 0] rfl).below hb3)
  have HB3 := Lib.hid (below_trans (below_alloc (HB2.out) _) hb3)
  clear k2_0_0 k2_0_1 k2_0_2 z2_0
  clear hb3
  clear HH2 HB2
  have B3_0 : Blk w3 (w.heap.size) 23 #[.int .i64 x, .int .i64 y, .int .i64 z] := HH3.out (w.heap.size, 23, [.int .i64 x, .int .i64 y, .int .i64 z]) (by simp)
  have k3_0_0 : w3.cell? ⟨w.heap.size, 0, none⟩ = some (.int .i64 x) := B3_0.cell 0
  have k3_0_1 : w3.cell? ⟨w.heap.size, 1, none⟩ = some (.int .i64 y) := B3_0.cell 1
  have k3_0_2 : w3.cell? ⟨w.heap.size, 2, none⟩ = some (.int .i64 z) := B3_0.cell 2
  have z3_0 : w.heap.size < w3.heap.size := B3_0.lt
  clear B3_0
  have B3_1 : Blk w3 (w2.heap.size) 23 #[.int .i64 0, .int .i64 0, .int .i64 0] := HH3.out (w2.heap.size, 23, [.int .i64 0, .int .i64 0, .int .i64 0]) (by simp)
  have k3_1_0 : w3.cell? ⟨w2.heap.size, 0, none⟩ = some (.int .i64 0) := B3_1.cell 0
  have k3_1_1 : w3.cell? ⟨w2.heap.size, 1, none⟩ = some (.int .i64 0) := B3_1.cell 1
  have k3_1_2 : w3.cell? ⟨w2.heap.size, 2, none⟩ = some (.int .i64 0) := B3_1.cell 2
  have z3_1 : w2.heap.size < w3.heap.size := B3_1.lt
  clear B3_1
  go_wp2
  go_returns
  exact ⟨rfl, by repeat (first | with_reducible exact HB3.out | with_reducible refine Below.drew ?_ | with_reducible refine below_drewN ?_ _ | with_reducible refine below_set ?_ (by have := HB3.out.size; simp <;> omega) _ | with_reducible refine below_alloc ?_ _)⟩
theorem primLaw_zero (h : in3 0 0 0 = true) (w : World) : Calls Try.prog 5 #[.agg #[.int .i64 0, .int .i64 0, .int .i64 0]] w fun e w' => e = .returned (.bool true) ∧ Below w.heap.size w w' := by
  have c0 := Lib.hid fun W => awake_any W
  have c1 := Lib.hid fun W => primitive_zero 0 0 0 h (by decide) W
  have c2 := Lib.hid fun W => rIn_any 0 0 0 W
  rw [h] at c2
  clear h
  have e1 := fun W => vec_same_eql 0 0 0 W
  have g1 := fun x y xs ys W => vec_guard .eql x y xs ys W
  go_enter Try.func5, Try.ntmps5
  go_wp2_with fail
  refine (c0.out _).mono ?_
  rintro e w1 ⟨rfl, hb1⟩
  have HH1 := Lib.hid ((((Blks.nil (w := w))).new (w.heap.size) 23 [.int .i64 0, .int .i64 0, .int .i64 0] rfl).below hb1)
  have HB1 := Lib.hid (below_trans (below_alloc (Below.refl _ _) _) hb1)
  clear hb1
  have B1_0 : Blk w1 (w.heap.size) 23 #[.int .i64 0, .int .i64 0, .int .i64 0] := HH1.out (w.heap.size, 23, [.int .i64 0, .int .i64 0, .int .i64 0]) (by simp)
  have k1_0_0 : w1.cell? ⟨w.heap.size, 0, none⟩ = some (.int .i64 0) := B1_0.cell 0
  have k1_0_1 : w1.cell? ⟨w.heap.size, 1, none⟩ = some (.int .i64 0) := B1_0.cell 1
  have k1_0_2 : w1.cell? ⟨w.heap.size, 2, none⟩ = some (.int .i64 0) := B1_0.cell 2
  have z1_0 : w.heap.size < w1.heap.size := B1_0.lt
  clear B1_0
  go_wp2_with fail
  refine (c1.out _).mono ?_
  rintro e w2 ⟨rfl, hb2⟩
  have HH2 := Lib.hid ((HH1.out).below hb2)
  have HB2 := Lib.hid (below_trans (HB1.out) hb2)
  clear k1_0_0 k1_0_1 k1_0_2 z1_0
  clear hb2
  clear HH1 HB1
  have B2_0 : Blk w2 (w.heap.size) 23 #[.int .i64 0, .int .i64 0, .int .i64 0] := HH2.out (w.heap.size, 23, [.int .i64 0, .int .i64 0, .int .i64 0]) (by simp)
  have k2_0_0 : w2.cell? ⟨w.heap.size, 0, none⟩ = some (.int .i64 0) := B2_0.cell 0
  have k2_0_1 : w2.cell? ⟨w.heap.size, 1, none⟩ = some (.int .i64 0) := B2_0.cell 1
  have k2_0_2 : w2.cell? ⟨w.heap.size, 2, none⟩ = some (.int .i64 0) := B2_0.cell 2
  have z2_0 : w.heap.size < w2.heap.size := B2_0.lt
  clear B2_0
  go_wp2_with fail
  refine (c2.out _).mono ?_
  rintro e w3 ⟨rfl, hb3⟩
  have HH3 := Lib.hid (((HH2.out).new (w2.heap.size) 23 [.int .i64 0, .int .i64 0, .int .i64 0] rfl).below hb3)
  have HB3 := Lib.hid (below_trans (below_alloc (HB2.out) _) hb3)
  clear k2_0_0 k2_0_1 k2_0_2 z2_0
  clear hb3
  clear HH2 HB2
  have B3_0 : Blk w3 (w.heap.size) 23 #[.int .i64 0, .int .i64 0, .int .i64 0] := HH3.out (w.heap.size, 23, [.int .i64 0, .int .i64 0, .int .i64 0]) (by simp)
  have k3_0_0 : w3.cell? ⟨w.heap.size, 0, none⟩ = some (.int .i64 0) := B3_0.cell 0
  have k3_0_1 : w3.cell? ⟨w.heap.size, 1, none⟩ = some (.int .i64 0) := B3_0.cell 1
  have k3_0_2 : w3.cell? ⟨w.heap.size, 2, none⟩ = some (.int .i64 0) := B3_0.cell 2
  have z3_0 : w.heap.size < w3.heap.size := B3_0.lt
  clear B3_0
  have B3_1 : Blk w3 (w2.heap.size) 23 #[.int .i64 0, .int .i64 0, .int .i64 0] := HH3.out (w2.heap.size, 23, [.int .i64 0, .int .i64 0, .int .i64 0]) (by simp)
  have k3_1_0 : w3.cell? ⟨w2.heap.size, 0, none⟩ = some (.int .i64 0) := B3_1.cell 0
  have k3_1_1 : w3.cell? ⟨w2.heap.size, 1, none⟩ = some (.int .i64 0) := B3_1.cell 1
  have k3_1_2 : w3.cell? ⟨w2.heap.size, 2, none⟩ = some (.int .i64 0) := B3_1.cell 2
  have z3_1 : w2.heap.size < w3.heap.size := B3_1.lt
  clear B3_1
  go_wp2
  go_returns
  exact ⟨rfl, by repeat (first | with_reducible exact HB3.out | with_reducible refine Below.drew ?_ | with_reducible refine below_drewN ?_ _ | with_reducible refine below_set ?_ (by have := HB3.out.size; simp <;> omega) _ | with_reducible refine below_alloc ?_ _)⟩
theorem primLaw_ok (x y z : Int) (h : in3 x y z = true) (hz : ¬ (x = 0 ∧ y = 0 ∧ z = 0)) (w : World) : Calls Try.prog 5 #[.agg #[.int .i64 x, .int .i64 y, .int .i64 z]] w fun e w' => e = .returned (.bool true) ∧ Below w.heap.size w w' := by
  have c0 := Lib.hid fun W => awake_any W
  have hg := gcd3_pos hz
  have e0 := fun W => vec_diff_eql hz W
  have c1 := Lib.hid fun W => primitive_ok x y z h hg W
  have c3 := Lib.hid fun W => rprimitive_any x y z h hg W
  have c2 := Lib.hid fun W => rIn_any x y z W
  rw [h] at c2
  clear h hz hg
  generalize gcd3 x y z = G at *
  generalize x.tdiv G = X at *
  generalize y.tdiv G = Y at *
  generalize z.tdiv G = Z at *
  have e1 := fun W => vec_same_eql X Y Z W
  have g1 := fun x y xs ys W => vec_guard .eql x y xs ys W
  go_enter Try.func5, Try.ntmps5
  go_wp2_with fail
  refine (c0.out _).mono ?_
  rintro e w1 ⟨rfl, hb1⟩
  have HH1 := Lib.hid ((((Blks.nil (w := w))).new (w.heap.size) 23 [.int .i64 x, .int .i64 y, .int .i64 z] rfl).below hb1)
  have HB1 := Lib.hid (below_trans (below_alloc (Below.refl _ _) _) hb1)
  clear hb1
  have B1_0 : Blk w1 (w.heap.size) 23 #[.int .i64 x, .int .i64 y, .int .i64 z] := HH1.out (w.heap.size, 23, [.int .i64 x, .int .i64 y, .int .i64 z]) (by simp)
  have k1_0_0 : w1.cell? ⟨w.heap.size, 0, none⟩ = some (.int .i64 x) := B1_0.cell 0
  have k1_0_1 : w1.cell? ⟨w.heap.size, 1, none⟩ = some (.int .i64 y) := B1_0.cell 1
  have k1_0_2 : w1.cell? ⟨w.heap.size, 2, none⟩ = some (.int .i64 z) := B1_0.cell 2
  have z1_0 : w.heap.size < w1.heap.size := B1_0.lt
  clear B1_0
  go_wp2_with fail
  refine (c1.out _).mono ?_
  rintro e w2 ⟨rfl, hb2⟩
  have HH2 := Lib.hid ((HH1.out).below hb2)
  have HB2 := Lib.hid (below_trans (HB1.out) hb2)
  clear k1_0_0 k1_0_1 k1_0_2 z1_0
  clear hb2
  clear HH1 HB1
  have B2_0 : Blk w2 (w.heap.size) 23 #[.int .i64 x, .int .i64 y, .int .i64 z] := HH2.out (w.heap.size, 23, [.int .i64 x, .int .i64 y, .int .i64 z]) (by simp)
  have k2_0_0 : w2.cell? ⟨w.heap.size, 0, none⟩ = some (.int .i64 x) := B2_0.cell 0
  have k2_0_1 : w2.cell? ⟨w.heap.size, 1, none⟩ = some (.int .i64 y) := B2_0.cell 1
  have k2_0_2 : w2.cell? ⟨w.heap.size, 2, none⟩ = some (.int .i64 z) := B2_0.cell 2
  have z2_0 : w.heap.size < w2.heap.size := B2_0.lt
  clear B2_0
  go_wp2_with fail
  refine (c2.out _).mono ?_
  rintro e w3 ⟨rfl, hb3⟩
  have HH3 := Lib.hid (((HH2.out).new (w2.heap.size) 23 [.int .i64 X, .int .i64 Y, .int .i64 Z] rfl).below hb3)
  have HB3 := Lib.hid (below_trans (below_alloc (HB2.out) _) hb3)
  clear k2_0_0 k2_0_1 k2_0_2 z2_0
  clear hb3
  clear HH2 HB2
  have B3_0 : Blk w3 (w.heap.size) 23 #[.int .i64 x, .int .i64 y, .int .i64 z] := HH3.out (w.heap.size, 23, [.int .i64 x, .int .i64 y, .int .i64 z]) (by simp)
  have k3_0_0 : w3.cell? ⟨w.heap.size, 0, none⟩ = some (.int .i64 x) := B3_0.cell 0
  have k3_0_1 : w3.cell? ⟨w.heap.size, 1, none⟩ = some (.int .i64 y) := B3_0.cell 1
  have k3_0_2 : w3.cell? ⟨w.heap.size, 2, none⟩ = some (.int .i64 z) := B3_0.cell 2
  have z3_0 : w.heap.size < w3.heap.size := B3_0.lt
  clear B3_0
  have B3_1 : Blk w3 (w2.heap.size) 23 #[.int .i64 X, .int .i64 Y, .int .i64 Z] := HH3.out (w2.heap.size, 23, [.int .i64 X, .int .i64 Y, .int .i64 Z]) (by simp)
  have k3_1_0 : w3.cell? ⟨w2.heap.size, 0, none⟩ = some (.int .i64 X) := B3_1.cell 0
  have k3_1_1 : w3.cell? ⟨w2.heap.size, 1, none⟩ = some (.int .i64 Y) := B3_1.cell 1
  have k3_1_2 : w3.cell? ⟨w2.heap.size, 2, none⟩ = some (.int .i64 Z) := B3_1.cell 2
  have z3_1 : w2.heap.size < w3.heap.size := B3_1.lt
  clear B3_1
  go_wp2_with fail
  refine (c3.out _).mono ?_
  rintro e w4 ⟨rfl, hb4⟩
  have HH4 := Lib.hid ((HH3.out).below hb4)
  have HB4 := Lib.hid (below_trans (HB3.out) hb4)
  clear k3_0_0 k3_0_1 k3_0_2 z3_0 k3_1_0 k3_1_1 k3_1_2 z3_1
  clear hb4
  clear HH3 HB3
  have B4_0 : Blk w4 (w.heap.size) 23 #[.int .i64 x, .int .i64 y, .int .i64 z] := HH4.out (w.heap.size, 23, [.int .i64 x, .int .i64 y, .int .i64 z]) (by simp)
  have k4_0_0 : w4.cell? ⟨w.heap.size, 0, none⟩ = some (.int .i64 x) := B4_0.cell 0
  have k4_0_1 : w4.cell? ⟨w.heap.size, 1, none⟩ = some (.int .i64 y) := B4_0.cell 1
  have k4_0_2 : w4.cell? ⟨w.heap.size, 2, none⟩ = some (.int .i64 z) := B4_0.cell 2
  have z4_0 : w.heap.size < w4.heap.size := B4_0.lt
  clear B4_0
  have B4_1 : Blk w4 (w2.heap.size) 23 #[.int .i64 X, .int .i64 Y, .int .i64 Z] := HH4.out (w2.heap.size, 23, [.int .i64 X, .int .i64 Y, .int .i64 Z]) (by simp)
  have k4_1_0 : w4.cell? ⟨w2.heap.size, 0, none⟩ = some (.int .i64 X) := B4_1.cell 0
  have k4_1_1 : w4.cell? ⟨w2.heap.size, 1, none⟩ = some (.int .i64 Y) := B4_1.cell 1
  have k4_1_2 : w4.cell? ⟨w2.heap.size, 2, none⟩ = some (.int .i64 Z) := B4_1.cell 2
  have z4_1 : w2.heap.size < w4.heap.size := B4_1.lt
  clear B4_1
  go_wp2
  go_returns
  exact ⟨rfl, by repeat (first | with_reducible exact HB4.out | with_reducible refine Below.drew ?_ | with_reducible refine below_drewN ?_ _ | with_reducible refine below_set ?_ (by have := HB4.out.size; simp <;> omega) _ | with_reducible refine below_alloc ?_ _)⟩
theorem primLaw_any (x y z : Int) (w : World) : Calls Try.prog 5 #[.agg #[.int .i64 x, .int .i64 y, .int .i64 z]] w fun e w' => e = .returned (.bool true) ∧ Below w.heap.size w w' := by

  rcases h : in3 x y z with _ | _
  · exact primLaw_no x y z h w
  · by_cases hz : x = 0 ∧ y = 0 ∧ z = 0
    · obtain ⟨rfl, rfl, rfl⟩ := hz
      exact primLaw_zero h w
    · exact primLaw_ok x y z h hz w

end Go.Proofs.Ytkfdbhhchnbjdaa.Ve
