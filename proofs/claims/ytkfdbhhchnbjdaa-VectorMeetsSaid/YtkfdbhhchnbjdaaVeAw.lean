/- The law's own small functions: sum, awake. -/
import Derived.Test.YtkfdbhhchnbjdaaVeU2
import Derived.Test.YtkfdbhhchnbjdaaVeK2
import Derived.Test.YtkfdbhhchnbjdaaVeG3
import Derived.Test.YtkfdbhhchnbjdaaVeP3
import Derived.Test.YtkfdbhhchnbjdaaVeH1
namespace Go.Proofs.Ytkfdbhhchnbjdaa.Ve
open Go.RowKit Ba
set_option linter.unusedVariables false

set_option maxHeartbeats 1600000 in
theorem awake_any  (w : World) : Calls Try.prog 12 #[] w fun e w' => e = .returned (.bool true) ∧ Below w.heap.size w w' := by
  have c1 : Hid (∀ W, Calls Try.prog 22 #[.agg #[.int .i64 1, .int .i64 2, .int .i64 3], .agg #[.int .i64 4, .int .i64 5, .int .i64 6]] W fun e w' => e = .returned (.tuple #[.int .i64 32, .int .i64 0]) ∧ Below W.heap.size W w') := Lib.hid fun W => dot_ok 1 2 3 4 5 6 (by decide) (by decide) W
  have c2 : Hid (∀ W, Calls Try.prog 23 #[.agg #[.int .i64 1, .int .i64 2, .int .i64 3], .agg #[.int .i64 4, .int .i64 5, .int .i64 6]] W fun e w' => e = .returned (.tuple #[.agg #[.int .i64 (-3), .int .i64 6, .int .i64 (-3)], .int .i64 0]) ∧ Below W.heap.size W w') := Lib.hid fun W => cross_ok 1 2 3 4 5 6 (by decide) (by decide) W
  have hg : gcd3 6 (-9) 0 = 3 := by decide
  have c3 : Hid (∀ W, Calls Try.prog 27 #[.agg #[.int .i64 6, .int .i64 (-9), .int .i64 0]] W fun e w' => e = .returned (.tuple #[.agg #[.int .i64 2, .int .i64 (-3), .int .i64 0], .int .i64 3, .int .i64 0]) ∧ Below W.heap.size W w') := Lib.hid fun W => by
    have h := primitive_ok 6 (-9) 0 (by decide) (by rw [hg]; decide) W
    rw [hg] at h
    exact h
  clear hg
  have ht : turnI 0 0 10 0 5 1 = 1 := by decide
  have c4 : Hid (∀ W, Calls Try.prog 29 #[.agg #[.int .i64 0, .int .i64 0], .agg #[.int .i64 10, .int .i64 0], .agg #[.int .i64 5, .int .i64 1]] W fun e w' => e = .returned (.tuple #[.int .i64 1, .int .i64 0]) ∧ Below W.heap.size W w') := Lib.hid fun W => by
    have h := turnP_ok 0 0 10 0 5 1 (by decide) (by decide) (by decide) W
    rw [ht] at h
    exact h
  clear ht
  have hm : meetI 0 0 10 10 0 10 10 0 = 1 := by decide
  have c5 : Hid (∀ W, Calls Try.prog 34 #[.agg #[.int .i64 0, .int .i64 0], .agg #[.int .i64 10, .int .i64 10], .agg #[.int .i64 0, .int .i64 10], .agg #[.int .i64 10, .int .i64 0]] W fun e w' => e = .returned (.tuple #[.int .i64 1, .int .i64 0]) ∧ Below W.heap.size W w') := Lib.hid fun W => by
    have h := meetP_ok 0 0 10 10 0 10 10 0 (by decide) (by decide) (by decide) (by decide) W
    rw [hm] at h
    exact h
  clear hm
  have ho : decide (0 < meetI 0 0 10 0 5 0 5 0) = true := by decide
  have c6 : Hid (∀ W, Calls Try.prog 30 #[.agg #[.int .i64 0, .int .i64 0], .agg #[.int .i64 10, .int .i64 0], .agg #[.int .i64 5, .int .i64 0]] W fun e w' => e = .returned (.tuple #[.bool true, .int .i64 0]) ∧ Below W.heap.size W w') := Lib.hid fun W => by
    have h := onP_ok 0 0 10 0 5 0 (by decide) (by decide) (by decide) W
    rw [ho] at h
    exact h
  clear ho
  have hc : cmp3 0 0 0 0 0 1 = -1 := by decide
  have c7 : Hid (∀ W, Calls Try.prog 17 #[.agg #[.int .i64 0, .int .i64 0, .int .i64 0], .agg #[.int .i64 0, .int .i64 0, .int .i64 1]] W fun e w' => e = .returned (.int .i64 (-1)) ∧ Below W.heap.size W w') := Lib.hid fun W => by
    have h := compare_any 0 0 0 0 0 1 W
    rw [hc] at h
    exact h
  clear hc
  have e1 : ∀ W, (binOp .eql 36 (.agg #[.int .i64 (-3), .int .i64 6, .int .i64 (-3)]) (.agg #[.int .i64 (-3), .int .i64 6, .int .i64 (-3)])).run Try.prog W = .ok (.bool true) W := fun W => arr_eql (-3) 6 (-3) (-3) 6 (-3) W
  have e2 : ∀ W, (binOp .eql 23 (.agg #[.int .i64 2, .int .i64 (-3), .int .i64 0]) (.agg #[.int .i64 2, .int .i64 (-3), .int .i64 0])).run Try.prog W = .ok (.bool true) W := fun W => vec_eql 2 (-3) 0 2 (-3) 0 W
  have g1 := fun x y xs ys W => arr_guard .eql x y xs ys W
  have g2 := fun x y xs ys W => vec_guard .eql x y xs ys W
  go_enter Try.func12, Try.ntmps12
  go_wp2_with fail
  refine (c1.out _).mono ?_
  rintro e w1 ⟨rfl, hb1⟩
  have HH1 := Lib.hid (((Blks.nil (w := w))).below hb1)
  have HB1 := Lib.hid (below_trans (Below.refl _ _) hb1)
  clear hb1
  go_wp2_with fail
  refine (c2.out _).mono ?_
  rintro e w2 ⟨rfl, hb2⟩
  have HH2 := Lib.hid ((HH1.out).below hb2)
  have HB2 := Lib.hid (below_trans (HB1.out) hb2)
  clear hb2
  clear HH1 HB1
  go_wp2_with fail
  refine (c3.out _).mono ?_
  rintro e w3 ⟨rfl, hb3⟩
  have HH3 := Lib.hid (((HH2.out).new (w2.heap.size) 36 [.int .i64 (-3), .int .i64 6, .int .i64 (-3)] rfl).below hb3)
  have HB3 := Lib.hid (below_trans (below_alloc (HB2.out) _) hb3)
  clear hb3
  clear HH2 HB2
  have B3_0 : Blk w3 (w2.heap.size) 36 #[.int .i64 (-3), .int .i64 6, .int .i64 (-3)] := HH3.out (w2.heap.size, 36, [.int .i64 (-3), .int .i64 6, .int .i64 (-3)]) (by simp)
  have k3_0_0 : w3.cell? ⟨w2.heap.size, 0, none⟩ = some (.int .i64 (-3)) := B3_0.cell 0
  have k3_0_1 : w3.cell? ⟨w2.heap.size, 1, none⟩ = some (.int .i64 6) := B3_0.cell 1
  have k3_0_2 : w3.cell? ⟨w2.heap.size, 2, none⟩ = some (.int .i64 (-3)) := B3_0.cell 2
  have z3_0 : w2.heap.size < w3.heap.size := B3_0.lt
  clear B3_0
  go_wp2_with fail
  refine (c4.out _).mono ?_
  rintro e w4 ⟨rfl, hb4⟩
  have HH4 := Lib.hid (((HH3.out).new (w3.heap.size) 23 [.int .i64 2, .int .i64 (-3), .int .i64 0] rfl).below hb4)
  have HB4 := Lib.hid (below_trans (below_alloc (HB3.out) _) hb4)
  clear k3_0_0 k3_0_1 k3_0_2 z3_0
  clear hb4
  clear HH3 HB3
  have B4_0 : Blk w4 (w2.heap.size) 36 #[.int .i64 (-3), .int .i64 6, .int .i64 (-3)] := HH4.out (w2.heap.size, 36, [.int .i64 (-3), .int .i64 6, .int .i64 (-3)]) (by simp)
  have k4_0_0 : w4.cell? ⟨w2.heap.size, 0, none⟩ = some (.int .i64 (-3)) := B4_0.cell 0
  have k4_0_1 : w4.cell? ⟨w2.heap.size, 1, none⟩ = some (.int .i64 6) := B4_0.cell 1
  have k4_0_2 : w4.cell? ⟨w2.heap.size, 2, none⟩ = some (.int .i64 (-3)) := B4_0.cell 2
  have z4_0 : w2.heap.size < w4.heap.size := B4_0.lt
  clear B4_0
  have B4_1 : Blk w4 (w3.heap.size) 23 #[.int .i64 2, .int .i64 (-3), .int .i64 0] := HH4.out (w3.heap.size, 23, [.int .i64 2, .int .i64 (-3), .int .i64 0]) (by simp)
  have k4_1_0 : w4.cell? ⟨w3.heap.size, 0, none⟩ = some (.int .i64 2) := B4_1.cell 0
  have k4_1_1 : w4.cell? ⟨w3.heap.size, 1, none⟩ = some (.int .i64 (-3)) := B4_1.cell 1
  have k4_1_2 : w4.cell? ⟨w3.heap.size, 2, none⟩ = some (.int .i64 0) := B4_1.cell 2
  have z4_1 : w3.heap.size < w4.heap.size := B4_1.lt
  clear B4_1
  go_wp2_with fail
  refine (c5.out _).mono ?_
  rintro e w5 ⟨rfl, hb5⟩
  have HH5 := Lib.hid ((HH4.out).below hb5)
  have HB5 := Lib.hid (below_trans (HB4.out) hb5)
  clear k4_0_0 k4_0_1 k4_0_2 z4_0 k4_1_0 k4_1_1 k4_1_2 z4_1
  clear hb5
  clear HH4 HB4
  have B5_0 : Blk w5 (w2.heap.size) 36 #[.int .i64 (-3), .int .i64 6, .int .i64 (-3)] := HH5.out (w2.heap.size, 36, [.int .i64 (-3), .int .i64 6, .int .i64 (-3)]) (by simp)
  have k5_0_0 : w5.cell? ⟨w2.heap.size, 0, none⟩ = some (.int .i64 (-3)) := B5_0.cell 0
  have k5_0_1 : w5.cell? ⟨w2.heap.size, 1, none⟩ = some (.int .i64 6) := B5_0.cell 1
  have k5_0_2 : w5.cell? ⟨w2.heap.size, 2, none⟩ = some (.int .i64 (-3)) := B5_0.cell 2
  have z5_0 : w2.heap.size < w5.heap.size := B5_0.lt
  clear B5_0
  have B5_1 : Blk w5 (w3.heap.size) 23 #[.int .i64 2, .int .i64 (-3), .int .i64 0] := HH5.out (w3.heap.size, 23, [.int .i64 2, .int .i64 (-3), .int .i64 0]) (by simp)
  have k5_1_0 : w5.cell? ⟨w3.heap.size, 0, none⟩ = some (.int .i64 2) := B5_1.cell 0
  have k5_1_1 : w5.cell? ⟨w3.heap.size, 1, none⟩ = some (.int .i64 (-3)) := B5_1.cell 1
  have k5_1_2 : w5.cell? ⟨w3.heap.size, 2, none⟩ = some (.int .i64 0) := B5_1.cell 2
  have z5_1 : w3.heap.size < w5.heap.size := B5_1.lt
  clear B5_1
  go_wp2_with fail
  refine (c6.out _).mono ?_
  rintro e w6 ⟨rfl, hb6⟩
  have HH6 := Lib.hid ((HH5.out).below hb6)
  have HB6 := Lib.hid (below_trans (HB5.out) hb6)
  clear k5_0_0 k5_0_1 k5_0_2 z5_0 k5_1_0 k5_1_1 k5_1_2 z5_1
  clear hb6
  clear HH5 HB5
  have B6_0 : Blk w6 (w2.heap.size) 36 #[.int .i64 (-3), .int .i64 6, .int .i64 (-3)] := HH6.out (w2.heap.size, 36, [.int .i64 (-3), .int .i64 6, .int .i64 (-3)]) (by simp)
  have k6_0_0 : w6.cell? ⟨w2.heap.size, 0, none⟩ = some (.int .i64 (-3)) := B6_0.cell 0
  have k6_0_1 : w6.cell? ⟨w2.heap.size, 1, none⟩ = some (.int .i64 6) := B6_0.cell 1
  have k6_0_2 : w6.cell? ⟨w2.heap.size, 2, none⟩ = some (.int .i64 (-3)) := B6_0.cell 2
  have z6_0 : w2.heap.size < w6.heap.size := B6_0.lt
  clear B6_0
  have B6_1 : Blk w6 (w3.heap.size) 23 #[.int .i64 2, .int .i64 (-3), .int .i64 0] := HH6.out (w3.heap.size, 23, [.int .i64 2, .int .i64 (-3), .int .i64 0]) (by simp)
  have k6_1_0 : w6.cell? ⟨w3.heap.size, 0, none⟩ = some (.int .i64 2) := B6_1.cell 0
  have k6_1_1 : w6.cell? ⟨w3.heap.size, 1, none⟩ = some (.int .i64 (-3)) := B6_1.cell 1
  have k6_1_2 : w6.cell? ⟨w3.heap.size, 2, none⟩ = some (.int .i64 0) := B6_1.cell 2
  have z6_1 : w3.heap.size < w6.heap.size := B6_1.lt
  clear B6_1
  go_wp2_with fail
  refine (c7.out _).mono ?_
  rintro e w7 ⟨rfl, hb7⟩
  have HH7 := Lib.hid ((HH6.out).below hb7)
  have HB7 := Lib.hid (below_trans (HB6.out) hb7)
  clear k6_0_0 k6_0_1 k6_0_2 z6_0 k6_1_0 k6_1_1 k6_1_2 z6_1
  clear hb7
  clear HH6 HB6
  have B7_0 : Blk w7 (w2.heap.size) 36 #[.int .i64 (-3), .int .i64 6, .int .i64 (-3)] := HH7.out (w2.heap.size, 36, [.int .i64 (-3), .int .i64 6, .int .i64 (-3)]) (by simp)
  have k7_0_0 : w7.cell? ⟨w2.heap.size, 0, none⟩ = some (.int .i64 (-3)) := B7_0.cell 0
  have k7_0_1 : w7.cell? ⟨w2.heap.size, 1, none⟩ = some (.int .i64 6) := B7_0.cell 1
  have k7_0_2 : w7.cell? ⟨w2.heap.size, 2, none⟩ = some (.int .i64 (-3)) := B7_0.cell 2
  have z7_0 : w2.heap.size < w7.heap.size := B7_0.lt
  clear B7_0
  have B7_1 : Blk w7 (w3.heap.size) 23 #[.int .i64 2, .int .i64 (-3), .int .i64 0] := HH7.out (w3.heap.size, 23, [.int .i64 2, .int .i64 (-3), .int .i64 0]) (by simp)
  have k7_1_0 : w7.cell? ⟨w3.heap.size, 0, none⟩ = some (.int .i64 2) := B7_1.cell 0
  have k7_1_1 : w7.cell? ⟨w3.heap.size, 1, none⟩ = some (.int .i64 (-3)) := B7_1.cell 1
  have k7_1_2 : w7.cell? ⟨w3.heap.size, 2, none⟩ = some (.int .i64 0) := B7_1.cell 2
  have z7_1 : w3.heap.size < w7.heap.size := B7_1.lt
  clear B7_1
  go_wp2
  go_returns
  exact ⟨rfl, by repeat (first | with_reducible exact HB7.out | with_reducible refine Below.drew ?_ | with_reducible refine below_drewN ?_ _ | with_reducible refine below_set ?_ (by have := HB7.out.size; simp <;> omega) _ | with_reducible refine below_alloc ?_ _)⟩
theorem sum_ok (x y z : Int) (h : in3 x y z = true) (w : World) : Calls Try.prog 19 #[.agg #[.int .i64 x, .int .i64 y, .int .i64 z], .agg #[.int .i64 x, .int .i64 y, .int .i64 z], .int .i64 0] w fun e w' => e = .returned (.bool true) ∧ Below w.heap.size w w' := by
  have c1 := Lib.hid fun W => rIn_any x y z W
  rw [h] at c1
  clear h
  have e1 : ∀ W, (binOp .eql 23 (.agg #[.int .i64 x, .int .i64 y, .int .i64 z]) (.agg #[.int .i64 x, .int .i64 y, .int .i64 z])).run Try.prog W = .ok (.bool true) W := fun W => by rw [vec_eql]; simp
  have g1 := fun x y xs ys W => vec_guard .eql x y xs ys W
  go_enter Try.func19, Try.ntmps19
  go_wp2_with fail
  refine (c1.out _).mono ?_
  rintro e w1 ⟨rfl, hb1⟩
  have HH1 := Lib.hid (((((Blks.nil (w := w))).new (w.heap.size) 23 [.int .i64 x, .int .i64 y, .int .i64 z] rfl).new (w.heap.size + 1) 23 [.int .i64 x, .int .i64 y, .int .i64 z] (by simp)).below hb1)
  have HB1 := Lib.hid (below_trans (below_alloc (below_alloc (Below.refl _ _) _) _) hb1)
  clear hb1
  have B1_0 : Blk w1 (w.heap.size) 23 #[.int .i64 x, .int .i64 y, .int .i64 z] := HH1.out (w.heap.size, 23, [.int .i64 x, .int .i64 y, .int .i64 z]) (by simp)
  have k1_0_0 : w1.cell? ⟨w.heap.size, 0, none⟩ = some (.int .i64 x) := B1_0.cell 0
  have k1_0_1 : w1.cell? ⟨w.heap.size, 1, none⟩ = some (.int .i64 y) := B1_0.cell 1
  have k1_0_2 : w1.cell? ⟨w.heap.size, 2, none⟩ = some (.int .i64 z) := B1_0.cell 2
  have z1_0 : w.heap.size < w1.heap.size := B1_0.lt
  clear B1_0
  have B1_1 : Blk w1 (w.heap.size + 1) 23 #[.int .i64 x, .int .i64 y, .int .i64 z] := HH1.out (w.heap.size + 1, 23, [.int .i64 x, .int .i64 y, .int .i64 z]) (by simp)
  have k1_1_0 : w1.cell? ⟨w.heap.size + 1, 0, none⟩ = some (.int .i64 x) := B1_1.cell 0
  have k1_1_1 : w1.cell? ⟨w.heap.size + 1, 1, none⟩ = some (.int .i64 y) := B1_1.cell 1
  have k1_1_2 : w1.cell? ⟨w.heap.size + 1, 2, none⟩ = some (.int .i64 z) := B1_1.cell 2
  have z1_1 : w.heap.size + 1 < w1.heap.size := B1_1.lt
  clear B1_1
  go_wp2
  go_returns
  exact ⟨rfl, by repeat (first | with_reducible exact HB1.out | with_reducible refine Below.drew ?_ | with_reducible refine below_drewN ?_ _ | with_reducible refine below_set ?_ (by have := HB1.out.size; simp <;> omega) _ | with_reducible refine below_alloc ?_ _)⟩
theorem sum_no (x y z : Int) (h : in3 x y z = false) (w : World) : Calls Try.prog 19 #[.agg #[.int .i64 x, .int .i64 y, .int .i64 z], .agg #[.int .i64 0, .int .i64 0, .int .i64 0], .int .i64 6] w fun e w' => e = .returned (.bool true) ∧ Below w.heap.size w w' := by
  have c1 := Lib.hid fun W => rIn_any x y z W
  rw [h] at c1
  clear h
  have e1 : ∀ W, (binOp .eql 23 (.agg #[.int .i64 0, .int .i64 0, .int .i64 0]) (.agg #[.int .i64 0, .int .i64 0, .int .i64 0])).run Try.prog W = .ok (.bool true) W := fun W => by rw [vec_eql]; simp
  have g1 := fun x y xs ys W => vec_guard .eql x y xs ys W
  go_enter Try.func19, Try.ntmps19
  go_wp2_with fail
  refine (c1.out _).mono ?_
  rintro e w1 ⟨rfl, hb1⟩
  have HH1 := Lib.hid (((((Blks.nil (w := w))).new (w.heap.size) 23 [.int .i64 x, .int .i64 y, .int .i64 z] rfl).new (w.heap.size + 1) 23 [.int .i64 0, .int .i64 0, .int .i64 0] (by simp)).below hb1)
  have HB1 := Lib.hid (below_trans (below_alloc (below_alloc (Below.refl _ _) _) _) hb1)
  clear hb1
  have B1_0 : Blk w1 (w.heap.size) 23 #[.int .i64 x, .int .i64 y, .int .i64 z] := HH1.out (w.heap.size, 23, [.int .i64 x, .int .i64 y, .int .i64 z]) (by simp)
  have k1_0_0 : w1.cell? ⟨w.heap.size, 0, none⟩ = some (.int .i64 x) := B1_0.cell 0
  have k1_0_1 : w1.cell? ⟨w.heap.size, 1, none⟩ = some (.int .i64 y) := B1_0.cell 1
  have k1_0_2 : w1.cell? ⟨w.heap.size, 2, none⟩ = some (.int .i64 z) := B1_0.cell 2
  have z1_0 : w.heap.size < w1.heap.size := B1_0.lt
  clear B1_0
  have B1_1 : Blk w1 (w.heap.size + 1) 23 #[.int .i64 0, .int .i64 0, .int .i64 0] := HH1.out (w.heap.size + 1, 23, [.int .i64 0, .int .i64 0, .int .i64 0]) (by simp)
  have k1_1_0 : w1.cell? ⟨w.heap.size + 1, 0, none⟩ = some (.int .i64 0) := B1_1.cell 0
  have k1_1_1 : w1.cell? ⟨w.heap.size + 1, 1, none⟩ = some (.int .i64 0) := B1_1.cell 1
  have k1_1_2 : w1.cell? ⟨w.heap.size + 1, 2, none⟩ = some (.int .i64 0) := B1_1.cell 2
  have z1_1 : w.heap.size + 1 < w1.heap.size := B1_1.lt
  clear B1_1
  go_wp2
  go_returns
  exact ⟨rfl, by repeat (first | with_reducible exact HB1.out | with_reducible refine Below.drew ?_ | with_reducible refine below_drewN ?_ _ | with_reducible refine below_set ?_ (by have := HB1.out.size; simp <;> omega) _ | with_reducible refine below_alloc ?_ _)⟩
end Go.Proofs.Ytkfdbhhchnbjdaa.Ve
