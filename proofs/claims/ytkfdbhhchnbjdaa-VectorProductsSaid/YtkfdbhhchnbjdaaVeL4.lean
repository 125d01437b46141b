/- The walks of VectorProducts and VectorReduced. -/
import Derived.Test.YtkfdbhhchnbjdaaVeL2
namespace Go.Proofs.Ytkfdbhhchnbjdaa.Ve
open Go.RowKit Ba
set_option linter.unusedVariables false
attribute [local go_sem ↓] Go.wp_at_zero Go.wp_at_succ

theorem arr_same_eql (a b c : Int) (W : World) : (binOp .eql 36 (.agg #[.int .i64 a, .int .i64 b, .int .i64 c]) (.agg #[.int .i64 a, .int .i64 b, .int .i64 c])).run Try.prog W = .ok (.bool true) W := by rw [arr_eql]; simp
set_option maxHeartbeats 800000 in
theorem products_n1 (ax ay az bx bY bz : Int) {hbv : Bool} (hb : in3 bx bY bz = hbv) (ha : in3 ax ay az = false) (w : World) : Calls Try.prog 4 #[.agg #[.int .i64 ax, .int .i64 ay, .int .i64 az], .agg #[.int .i64 bx, .int .i64 bY, .int .i64 bz]] w fun e w' => e = .returned (.bool true) ∧ Below w.heap.size w w' := by
  have c0 := Lib.hid fun W => awake_any W
  have c4 := Lib.hid fun W => rIn_any ax ay az W
  have c8 := Lib.hid fun W => rIn_any bx bY bz W
  have gd := fun x y xs ys W => arr_guard .eql x y xs ys W
  have c1 := Lib.hid fun W => dot_no ax ay az bx bY bz (fun hh => by simp [ha] at hh) W
  have c2 := Lib.hid fun W => cross_no ax ay az bx bY bz (fun hh => by simp [ha] at hh) W
  have c3 := Lib.hid fun W => distance_no ax ay az bx bY bz (fun hh => by simp [ha] at hh) W
  have e1 := fun W => arr_same_eql 0 0 0 W
  rw [ha] at c4
  rw [hb] at c8
  clear ha hb
  go_enter Try.func4, Try.ntmps4
  go_wp2_with fail
  refine (c0.out _).mono ?_
  rintro e w1 ⟨rfl, hb1⟩
  have HH1 := Lib.hid (((((Blks.nil (w := w))).new (w.heap.size) 23 [.int .i64 ax, .int .i64 ay, .int .i64 az] rfl).new (w.heap.size + 1) 23 [.int .i64 bx, .int .i64 bY, .int .i64 bz] (by simp)).below hb1)
  have HB1 := Lib.hid (below_trans (below_alloc (below_alloc (Below.refl _ _) _) _) hb1)
  clear hb1
  have B1_0 : Blk w1 (w.heap.size) 23 #[.int .i64 ax, .int .i64 ay, .int .i64 az] := HH1.out (w.heap.size, 23, [.int .i64 ax, .int .i64 ay, .int .i64 az]) (by simp)
  have k1_0_0 : w1.cell? ⟨w.heap.size, 0, none⟩ = some (.int .i64 ax) := B1_0.cell 0
  have k1_0_1 : w1.cell? ⟨w.heap.size, 1, none⟩ = some (.int .i64 ay) := B1_0.cell 1
  have k1_0_2 : w1.cell? ⟨w.heap.size, 2, none⟩ = some (.int .i64 az) := B1_0.cell 2
  have z1_0 : w.heap.size < w1.heap.size := B1_0.lt
  clear B1_0
  have B1_1 : Blk w1 (w.heap.size + 1) 23 #[.int .i64 bx, .int .i64 bY, .int .i64 bz] := HH1.out (w.heap.size + 1, 23, [.int .i64 bx, .int .i64 bY, .int .i64 bz]) (by simp)
  have k1_1_0 : w1.cell? ⟨w.heap.size + 1, 0, none⟩ = some (.int .i64 bx) := B1_1.cell 0
  have k1_1_1 : w1.cell? ⟨w.heap.size + 1, 1, none⟩ = some (.int .i64 bY) := B1_1.cell 1
  have k1_1_2 : w1.cell? ⟨w.heap.size + 1, 2, none⟩ = some (.int .i64 bz) := B1_1.cell 2
  have z1_1 : w.heap.size + 1 < w1.heap.size := B1_1.lt
  clear B1_1
  go_wp2_with fail
  refine (c1.out _).mono ?_
  rintro e w2 ⟨rfl, hb2⟩
  have HH2 := Lib.hid ((HH1.out).below hb2)
  have HB2 := Lib.hid (below_trans (HB1.out) hb2)
  clear k1_0_0 k1_0_1 k1_0_2 z1_0 k1_1_0 k1_1_1 k1_1_2 z1_1
  clear hb2
  clear HH1 HB1
  have B2_0 : Blk w2 (w.heap.size) 23 #[.int .i64 ax, .int .i64 ay, .int .i64 az] := HH2.out (w.heap.size, 23, [.int .i64 ax, .int .i64 ay, .int .i64 az]) (by simp)
  have k2_0_0 : w2.cell? ⟨w.heap.size, 0, none⟩ = some (.int .i64 ax) := B2_0.cell 0
  have k2_0_1 : w2.cell? ⟨w.heap.size, 1, none⟩ = some (.int .i64 ay) := B2_0.cell 1
  have k2_0_2 : w2.cell? ⟨w.heap.size, 2, none⟩ = some (.int .i64 az) := B2_0.cell 2
  have z2_0 : w.heap.size < w2.heap.size := B2_0.lt
  clear B2_0
  have B2_1 : Blk w2 (w.heap.size + 1) 23 #[.int .i64 bx, .int .i64 bY, .int .i64 bz] := HH2.out (w.heap.size + 1, 23, [.int .i64 bx, .int .i64 bY, .int .i64 bz]) (by simp)
  have k2_1_0 : w2.cell? ⟨w.heap.size + 1, 0, none⟩ = some (.int .i64 bx) := B2_1.cell 0
  have k2_1_1 : w2.cell? ⟨w.heap.size + 1, 1, none⟩ = some (.int .i64 bY) := B2_1.cell 1
  have k2_1_2 : w2.cell? ⟨w.heap.size + 1, 2, none⟩ = some (.int .i64 bz) := B2_1.cell 2
  have z2_1 : w.heap.size + 1 < w2.heap.size := B2_1.lt
  clear B2_1
  go_wp2_with fail
  refine (c2.out _).mono ?_
  rintro e w3 ⟨rfl, hb3⟩
  have HH3 := Lib.hid ((HH2.out).below hb3)
  have HB3 := Lib.hid (below_trans (HB2.out) hb3)
  clear k2_0_0 k2_0_1 k2_0_2 z2_0 k2_1_0 k2_1_1 k2_1_2 z2_1
  clear hb3
  clear HH2 HB2
  have B3_0 : Blk w3 (w.heap.size) 23 #[.int .i64 ax, .int .i64 ay, .int .i64 az] := HH3.out (w.heap.size, 23, [.int .i64 ax, .int .i64 ay, .int .i64 az]) (by simp)
  have k3_0_0 : w3.cell? ⟨w.heap.size, 0, none⟩ = some (.int .i64 ax) := B3_0.cell 0
  have k3_0_1 : w3.cell? ⟨w.heap.size, 1, none⟩ = some (.int .i64 ay) := B3_0.cell 1
  have k3_0_2 : w3.cell? ⟨w.heap.size, 2, none⟩ = some (.int .i64 az) := B3_0.cell 2
  have z3_0 : w.heap.size < w3.heap.size := B3_0.lt
  clear B3_0
  have B3_1 : Blk w3 (w.heap.size + 1) 23 #[.int .i64 bx, .int .i64 bY, .int .i64 bz] := HH3.out (w.heap.size + 1, 23, [.int .i64 bx, .int .i64 bY, .int .i64 bz]) (by simp)
  have k3_1_0 : w3.cell? ⟨w.heap.size + 1, 0, none⟩ = some (.int .i64 bx) := B3_1.cell 0
  have k3_1_1 : w3.cell? ⟨w.heap.size + 1, 1, none⟩ = some (.int .i64 bY) := B3_1.cell 1
  have k3_1_2 : w3.cell? ⟨w.heap.size + 1, 2, none⟩ = some (.int .i64 bz) := B3_1.cell 2
  have z3_1 : w.heap.size + 1 < w3.heap.size := B3_1.lt
  clear B3_1
  go_wp2_with fail
  refine (c3.out _).mono ?_
  rintro e w4 ⟨rfl, hb4⟩
  have HH4 := Lib.hid (((HH3.out).new (w3.heap.size) 36 [.int .i64 0, .int .i64 0, .int .i64 0] rfl).below hb4)
  have HB4 := Lib.hid (below_trans (below_alloc (HB3.out) _) hb4)
  clear k3_0_0 k3_0_1 k3_0_2 z3_0 k3_1_0 k3_1_1 k3_1_2 z3_1
  clear hb4
  clear HH3 HB3
  have B4_0 : Blk w4 (w.heap.size) 23 #[.int .i64 ax, .int .i64 ay, .int .i64 az] := HH4.out (w.heap.size, 23, [.int .i64 ax, .int .i64 ay, .int .i64 az]) (by simp)
  have k4_0_0 : w4.cell? ⟨w.heap.size, 0, none⟩ = some (.int .i64 ax) := B4_0.cell 0
  have k4_0_1 : w4.cell? ⟨w.heap.size, 1, none⟩ = some (.int .i64 ay) := B4_0.cell 1
  have k4_0_2 : w4.cell? ⟨w.heap.size, 2, none⟩ = some (.int .i64 az) := B4_0.cell 2
  have z4_0 : w.heap.size < w4.heap.size := B4_0.lt
  clear B4_0
  have B4_1 : Blk w4 (w.heap.size + 1) 23 #[.int .i64 bx, .int .i64 bY, .int .i64 bz] := HH4.out (w.heap.size + 1, 23, [.int .i64 bx, .int .i64 bY, .int .i64 bz]) (by simp)
  have k4_1_0 : w4.cell? ⟨w.heap.size + 1, 0, none⟩ = some (.int .i64 bx) := B4_1.cell 0
  have k4_1_1 : w4.cell? ⟨w.heap.size + 1, 1, none⟩ = some (.int .i64 bY) := B4_1.cell 1
  have k4_1_2 : w4.cell? ⟨w.heap.size + 1, 2, none⟩ = some (.int .i64 bz) := B4_1.cell 2
  have z4_1 : w.heap.size + 1 < w4.heap.size := B4_1.lt
  clear B4_1
  have B4_2 : Blk w4 (w3.heap.size) 36 #[.int .i64 0, .int .i64 0, .int .i64 0] := HH4.out (w3.heap.size, 36, [.int .i64 0, .int .i64 0, .int .i64 0]) (by simp)
  have k4_2_0 : w4.cell? ⟨w3.heap.size, 0, none⟩ = some (.int .i64 0) := B4_2.cell 0
  have k4_2_1 : w4.cell? ⟨w3.heap.size, 1, none⟩ = some (.int .i64 0) := B4_2.cell 1
  have k4_2_2 : w4.cell? ⟨w3.heap.size, 2, none⟩ = some (.int .i64 0) := B4_2.cell 2
  have z4_2 : w3.heap.size < w4.heap.size := B4_2.lt
  clear B4_2
  go_wp2_with fail
  refine (c4.out _).mono ?_
  rintro e w5 ⟨rfl, hb5⟩
  have HH5 := Lib.hid ((HH4.out).below hb5)
  have HB5 := Lib.hid (below_trans (HB4.out) hb5)
  clear k4_0_0 k4_0_1 k4_0_2 z4_0 k4_1_0 k4_1_1 k4_1_2 z4_1 k4_2_0 k4_2_1 k4_2_2 z4_2
  clear hb5
  clear HH4 HB4
  have B5_0 : Blk w5 (w.heap.size) 23 #[.int .i64 ax, .int .i64 ay, .int .i64 az] := HH5.out (w.heap.size, 23, [.int .i64 ax, .int .i64 ay, .int .i64 az]) (by simp)
  have k5_0_0 : w5.cell? ⟨w.heap.size, 0, none⟩ = some (.int .i64 ax) := B5_0.cell 0
  have k5_0_1 : w5.cell? ⟨w.heap.size, 1, none⟩ = some (.int .i64 ay) := B5_0.cell 1
  have k5_0_2 : w5.cell? ⟨w.heap.size, 2, none⟩ = some (.int .i64 az) := B5_0.cell 2
  have z5_0 : w.heap.size < w5.heap.size := B5_0.lt
  clear B5_0
  have B5_1 : Blk w5 (w.heap.size + 1) 23 #[.int .i64 bx, .int .i64 bY, .int .i64 bz] := HH5.out (w.heap.size + 1, 23, [.int .i64 bx, .int .i64 bY, .int .i64 bz]) (by simp)
  have k5_1_0 : w5.cell? ⟨w.heap.size + 1, 0, none⟩ = some (.int .i64 bx) := B5_1.cell 0
  have k5_1_1 : w5.cell? ⟨w.heap.size + 1, 1, none⟩ = some (.int .i64 bY) := B5_1.cell 1
  have k5_1_2 : w5.cell? ⟨w.heap.size + 1, 2, none⟩ = some (.int .i64 bz) := B5_1.cell 2
  have z5_1 : w.heap.size + 1 < w5.heap.size := B5_1.lt
  clear B5_1
  have B5_2 : Blk w5 (w3.heap.size) 36 #[.int .i64 0, .int .i64 0, .int .i64 0] := HH5.out (w3.heap.size, 36, [.int .i64 0, .int .i64 0, .int .i64 0]) (by simp)
  have k5_2_0 : w5.cell? ⟨w3.heap.size, 0, none⟩ = some (.int .i64 0) := B5_2.cell 0
  have k5_2_1 : w5.cell? ⟨w3.heap.size, 1, none⟩ = some (.int .i64 0) := B5_2.cell 1
  have k5_2_2 : w5.cell? ⟨w3.heap.size, 2, none⟩ = some (.int .i64 0) := B5_2.cell 2
  have z5_2 : w3.heap.size < w5.heap.size := B5_2.lt
  clear B5_2
  go_wp2
  go_returns
  exact ⟨rfl, by repeat (first | with_reducible exact HB5.out | with_reducible refine Below.drew ?_ | with_reducible refine below_drewN ?_ _ | with_reducible refine below_set ?_ (by have := HB5.out.size; simp <;> omega) _ | with_reducible refine below_alloc ?_ _)⟩
set_option maxHeartbeats 800000 in
theorem products_n2 (ax ay az bx bY bz : Int) (ha : in3 ax ay az = true) (hb : in3 bx bY bz = false) (w : World) : Calls Try.prog 4 #[.agg #[.int .i64 ax, .int .i64 ay, .int .i64 az], .agg #[.int .i64 bx, .int .i64 bY, .int .i64 bz]] w fun e w' => e = .returned (.bool true) ∧ Below w.heap.size w w' := by
  have c0 := Lib.hid fun W => awake_any W
  have c4 := Lib.hid fun W => rIn_any ax ay az W
  have c8 := Lib.hid fun W => rIn_any bx bY bz W
  have gd := fun x y xs ys W => arr_guard .eql x y xs ys W
  have c1 := Lib.hid fun W => dot_no ax ay az bx bY bz (fun hh => by simp [hb] at hh) W
  have c2 := Lib.hid fun W => cross_no ax ay az bx bY bz (fun hh => by simp [hb] at hh) W
  have c3 := Lib.hid fun W => distance_no ax ay az bx bY bz (fun hh => by simp [hb] at hh) W
  have e1 := fun W => arr_same_eql 0 0 0 W
  rw [ha] at c4
  rw [hb] at c8
  clear ha hb
  go_enter Try.func4, Try.ntmps4
  go_wp2_with fail
  refine (c0.out _).mono ?_
  rintro e w1 ⟨rfl, hb1⟩
  have HH1 := Lib.hid (((((Blks.nil (w := w))).new (w.heap.size) 23 [.int .i64 ax, .int .i64 ay, .int .i64 az] rfl).new (w.heap.size + 1) 23 [.int .i64 bx, .int .i64 bY, .int .i64 bz] (by simp)).below hb1)
  have HB1 := Lib.hid (below_trans (below_alloc (below_alloc (Below.refl _ _) _) _) hb1)
  clear hb1
  have B1_0 : Blk w1 (w.heap.size) 23 #[.int .i64 ax, .int .i64 ay, .int .i64 az] := HH1.out (w.heap.size, 23, [.int .i64 ax, .int .i64 ay, .int .i64 az]) (by simp)
  have k1_0_0 : w1.cell? ⟨w.heap.size, 0, none⟩ = some (.int .i64 ax) := B1_0.cell 0
  have k1_0_1 : w1.cell? ⟨w.heap.size, 1, none⟩ = some (.int .i64 ay) := B1_0.cell 1
  have k1_0_2 : w1.cell? ⟨w.heap.size, 2, none⟩ = some (.int .i64 az) := B1_0.cell 2
  have z1_0 : w.heap.size < w1.heap.size := B1_0.lt
  clear B1_0
  have B1_1 : Blk w1 (w.heap.size + 1) 23 #[.int .i64 bx, .int .i64 bY, .int .i64 bz] := HH1.out (w.heap.size + 1, 23, [.int .i64 bx, .int .i64 bY, .int .i64 bz]) (by simp)
  have k1_1_0 : w1.cell? ⟨w.heap.size + 1, 0, none⟩ = some (.int .i64 bx) := B1_1.cell 0
  have k1_1_1 : w1.cell? ⟨w.heap.size + 1, 1, none⟩ = some (.int .i64 bY) := B1_1.cell 1
  have k1_1_2 : w1.cell? ⟨w.heap.size + 1, 2, none⟩ = some (.int .i64 bz) := B1_1.cell 2
  have z1_1 : w.heap.size + 1 < w1.heap.size := B1_1.lt
  clear B1_1
  go_wp2_with fail
  refine (c1.out _).mono ?_
  rintro e w2 ⟨rfl, hb2⟩
  have HH2 := Lib.hid ((HH1.out).below hb2)
  have HB2 := Lib.hid (below_trans (HB1.out) hb2)
  clear k1_0_0 k1_0_1 k1_0_2 z1_0 k1_1_0 k1_1_1 k1_1_2 z1_1
  clear hb2
  clear HH1 HB1
  have B2_0 : Blk w2 (w.heap.size) 23 #[.int .i64 ax, .int .i64 ay, .int .i64 az] := HH2.out (w.heap.size, 23, [.int .i64 ax, .int .i64 ay, .int .i64 az]) (by simp)
  have k2_0_0 : w2.cell? ⟨w.heap.size, 0, none⟩ = some (.int .i64 ax) := B2_0.cell 0
  have k2_0_1 : w2.cell? ⟨w.heap.size, 1, none⟩ = some (.int .i64 ay) := B2_0.cell 1
  have k2_0_2 : w2.cell? ⟨w.heap.size, 2, none⟩ = some (.int .i64 az) := B2_0.cell 2
  have z2_0 : w.heap.size < w2.heap.size := B2_0.lt
  clear B2_0
  have B2_1 : Blk w2 (w.heap.size + 1) 23 #[.int .i64 bx, .int .i64 bY, .int .i64 bz] := HH2.out (w.heap.size + 1, 23, [.int .i64 bx, .int .i64 bY, .int .i64 bz]) (by simp)
  have k2_1_0 : w2.cell? ⟨w.heap.size + 1, 0, none⟩ = some (.int .i64 bx) := B2_1.cell 0
  have k2_1_1 : w2.cell? ⟨w.heap.size + 1, 1, none⟩ = some (.int .i64 bY) := B2_1.cell 1
  have k2_1_2 : w2.cell? ⟨w.heap.size + 1, 2, none⟩ = some (.int .i64 bz) := B2_1.cell 2
  have z2_1 : w.heap.size + 1 < w2.heap.size := B2_1.lt
  clear B2_1
  go_wp2_with fail
  refine (c2.out _).mono ?_
  rintro e w3 ⟨rfl, hb3⟩
  have HH3 := Lib.hid ((HH2.out).below hb3)
  have HB3 := Lib.hid (below_trans (HB2.out) hb3)
  clear k2_0_0 k2_0_1 k2_0_2 z2_0 k2_1_0 k2_1_1 k2_1_2 z2_1
  clear hb3
  clear HH2 HB2
  have B3_0 : Blk w3 (w.heap.size) 23 #[.int .i64 ax, .int .i64 ay, .int .i64 az] := HH3.out (w.heap.size, 23, [.int .i64 ax, .int .i64 ay, .int .i64 az]) (by simp)
  have k3_0_0 : w3.cell? ⟨w.heap.size, 0, none⟩ = some (.int .i64 ax) := B3_0.cell 0
  have k3_0_1 : w3.cell? ⟨w.heap.size, 1, none⟩ = some (.int .i64 ay) := B3_0.cell 1
  have k3_0_2 : w3.cell? ⟨w.heap.size, 2, none⟩ = some (.int .i64 az) := B3_0.cell 2
  have z3_0 : w.heap.size < w3.heap.size := B3_0.lt
  clear B3_0
  have B3_1 : Blk w3 (w.heap.size + 1) 23 #[.int .i64 bx, .int .i64 bY, .int .i64 bz] := HH3.out (w.heap.size + 1, 23, [.int .i64 bx, .int .i64 bY, .int .i64 bz]) (by simp)
  have k3_1_0 : w3.cell? ⟨w.heap.size + 1, 0, none⟩ = some (.int .i64 bx) := B3_1.cell 0
  have k3_1_1 : w3.cell? ⟨w.heap.size + 1, 1, none⟩ = some (.int .i64 bY) := B3_1.cell 1
  have k3_1_2 : w3.cell? ⟨w.heap.size + 1, 2, none⟩ = some (.int .i64 bz) := B3_1.cell 2
  have z3_1 : w.heap.size + 1 < w3.heap.size := B3_1.lt
  clear B3_1
  go_wp2_with fail
  refine (c3.out _).mono ?_
  rintro e w4 ⟨rfl, hb4⟩
  have HH4 := Lib.hid (((HH3.out).new (w3.heap.size) 36 [.int .i64 0, .int .i64 0, .int .i64 0] rfl).below hb4)
  have HB4 := Lib.hid (below_trans (below_alloc (HB3.out) _) hb4)
  clear k3_0_0 k3_0_1 k3_0_2 z3_0 k3_1_0 k3_1_1 k3_1_2 z3_1
  clear hb4
  clear HH3 HB3
  have B4_0 : Blk w4 (w.heap.size) 23 #[.int .i64 ax, .int .i64 ay, .int .i64 az] := HH4.out (w.heap.size, 23, [.int .i64 ax, .int .i64 ay, .int .i64 az]) (by simp)
  have k4_0_0 : w4.cell? ⟨w.heap.size, 0, none⟩ = some (.int .i64 ax) := B4_0.cell 0
  have k4_0_1 : w4.cell? ⟨w.heap.size, 1, none⟩ = some (.int .i64 ay) := B4_0.cell 1
  have k4_0_2 : w4.cell? ⟨w.heap.size, 2, none⟩ = some (.int .i64 az) := B4_0.cell 2
  have z4_0 : w.heap.size < w4.heap.size := B4_0.lt
  clear B4_0
  have B4_1 : Blk w4 (w.heap.size + 1) 23 #[.int .i64 bx, .int .i64 bY, .int .i64 bz] := HH4.out (w.heap.size + 1, 23, [.int .i64 bx, .int .i64 bY, .int .i64 bz]) (by simp)
  have k4_1_0 : w4.cell? ⟨w.heap.size + 1, 0, none⟩ = some (.int .i64 bx) := B4_1.cell 0
  have k4_1_1 : w4.cell? ⟨w.heap.size + 1, 1, none⟩ = some (.int .i64 bY) := B4_1.cell 1
  have k4_1_2 : w4.cell? ⟨w.heap.size + 1, 2, none⟩ = some (.int .i64 bz) := B4_1.cell 2
  have z4_1 : w.heap.size + 1 < w4.heap.size := B4_1.lt
  clear B4_1
  have B4_2 : Blk w4 (w3.heap.size) 36 #[.int .i64 0, .int .i64 0, .int .i64 0] := HH4.out (w3.heap.size, 36, [.int .i64 0, .int .i64 0, .int .i64 0]) (by simp)
  have k4_2_0 : w4.cell? ⟨w3.heap.size, 0, none⟩ = some (.int .i64 0) := B4_2.cell 0
  have k4_2_1 : w4.cell? ⟨w3.heap.size, 1, none⟩ = some (.int .i64 0) := B4_2.cell 1
  have k4_2_2 : w4.cell? ⟨w3.heap.size, 2, none⟩ = some (.int .i64 0) := B4_2.cell 2
  have z4_2 : w3.heap.size < w4.heap.size := B4_2.lt
  clear B4_2
  go_wp2_with fail
  refine (c4.out _).mono ?_
  rintro e w5 ⟨rfl, hb5⟩
  have HH5 := Lib.hid ((HH4.out).below hb5)
  have HB5 := Lib.hid (below_trans (HB4.out) hb5)
  clear k4_0_0 k4_0_1 k4_0_2 z4_0 k4_1_0 k4_1_1 k4_1_2 z4_1 k4_2_0 k4_2_1 k4_2_2 z4_2
  clear hb5
  clear HH4 HB4
  have B5_0 : Blk w5 (w.heap.size) 23 #[.int .i64 ax, .int .i64 ay, .int .i64 az] := HH5.out (w.heap.size, 23, [.int .i64 ax, .int .i64 ay, .int .i64 az]) (by simp)
  have k5_0_0 : w5.cell? ⟨w.heap.size, 0, none⟩ = some (.int .i64 ax) := B5_0.cell 0
  have k5_0_1 : w5.cell? ⟨w.heap.size, 1, none⟩ = some (.int .i64 ay) := B5_0.cell 1
  have k5_0_2 : w5.cell? ⟨w.heap.size, 2, none⟩ = some (.int .i64 az) := B5_0.cell 2
  have z5_0 : w.heap.size < w5.heap.size := B5_0.lt
  clear B5_0
  have B5_1 : Blk w5 (w.heap.size + 1) 23 #[.int .i64 bx, .int .i64 bY, .int .i64 bz] := HH5.out (w.heap.size + 1, 23, [.int .i64 bx, .int .i64 bY, .int .i64 bz]) (by simp)
  have k5_1_0 : w5.cell? ⟨w.heap.size + 1, 0, none⟩ = some (.int .i64 bx) := B5_1.cell 0
  have k5_1_1 : w5.cell? ⟨w.heap.size + 1, 1, none⟩ = some (.int .i64 bY) := B5_1.cell 1
  have k5_1_2 : w5.cell? ⟨w.heap.size + 1, 2, none⟩ = some (.int .i64 bz) := B5_1.cell 2
  have z5_1 : w.heap.size + 1 < w5.heap.size := B5_1.lt
  clear B5_1
  have B5_2 : Blk w5 (w3.heap.size) 36 #[.int .i64 0, .int .i64 0, .int .i64 0] := HH5.out (w3.heap.size, 36, [.int .i64 0, .int .i64 0, .int .i64 0]) (by simp)
  have k5_2_0 : w5.cell? ⟨w3.heap.size, 0, none⟩ = some (.int .i64 0) := B5_2.cell 0
  have k5_2_1 : w5.cell? ⟨w3.heap.size, 1, none⟩ = some (.int .i64 0) := B5_2.cell 1
  have k5_2_2 : w5.cell? ⟨w3.heap.size, 2, none⟩ = some (.int .i64 0) := B5_2.cell 2
  have z5_2 : w3.heap.size < w5.heap.size := B5_2.lt
  clear B5_2
  go_wp2_with fail
  refine (c8.out _).mono ?_
  rintro e w6 ⟨rfl, hb6⟩
  have HH6 := Lib.hid ((HH5.out).below hb6)
  have HB6 := Lib.hid (below_trans (HB5.out) hb6)
  clear k5_0_0 k5_0_1 k5_0_2 z5_0 k5_1_0 k5_1_1 k5_1_2 z5_1 k5_2_0 k5_2_1 k5_2_2 z5_2
  clear hb6
  clear HH5 HB5
  have B6_0 : Blk w6 (w.heap.size) 23 #[.int .i64 ax, .int .i64 ay, .int .i64 az] := HH6.out (w.heap.size, 23, [.int .i64 ax, .int .i64 ay, .int .i64 az]) (by simp)
  have k6_0_0 : w6.cell? ⟨w.heap.size, 0, none⟩ = some (.int .i64 ax) := B6_0.cell 0
  have k6_0_1 : w6.cell? ⟨w.heap.size, 1, none⟩ = some (.int .i64 ay) := B6_0.cell 1
  have k6_0_2 : w6.cell? ⟨w.heap.size, 2, none⟩ = some (.int .i64 az) := B6_0.cell 2
  have z6_0 : w.heap.size < w6.heap.size := B6_0.lt
  clear B6_0
  have B6_1 : Blk w6 (w.heap.size + 1) 23 #[.int .i64 bx, .int .i64 bY, .int .i64 bz] := HH6.out (w.heap.size + 1, 23, [.int .i64 bx, .int .i64 bY, .int .i64 bz]) (by simp)
  have k6_1_0 : w6.cell? ⟨w.heap.size + 1, 0, none⟩ = some (.int .i64 bx) := B6_1.cell 0
  have k6_1_1 : w6.cell? ⟨w.heap.size + 1, 1, none⟩ = some (.int .i64 bY) := B6_1.cell 1
  have k6_1_2 : w6.cell? ⟨w.heap.size + 1, 2, none⟩ = some (.int .i64 bz) := B6_1.cell 2
  have z6_1 : w.heap.size + 1 < w6.heap.size := B6_1.lt
  clear B6_1
  have B6_2 : Blk w6 (w3.heap.size) 36 #[.int .i64 0, .int .i64 0, .int .i64 0] := HH6.out (w3.heap.size, 36, [.int .i64 0, .int .i64 0, .int .i64 0]) (by simp)
  have k6_2_0 : w6.cell? ⟨w3.heap.size, 0, none⟩ = some (.int .i64 0) := B6_2.cell 0
  have k6_2_1 : w6.cell? ⟨w3.heap.size, 1, none⟩ = some (.int .i64 0) := B6_2.cell 1
  have k6_2_2 : w6.cell? ⟨w3.heap.size, 2, none⟩ = some (.int .i64 0) := B6_2.cell 2
  have z6_2 : w3.heap.size < w6.heap.size := B6_2.lt
  clear B6_2
  go_wp2
  go_returns
  exact ⟨rfl, by repeat (first | with_reducible exact HB6.out | with_reducible refine Below.drew ?_ | with_reducible refine below_drewN ?_ _ | with_reducible refine below_set ?_ (by have := HB6.out.size; simp <;> omega) _ | with_reducible refine below_alloc ?_ _)⟩
set_option maxHeartbeats 1600000 in
theorem products_ok (ax ay az bx bY bz : Int) (ha : in3 ax ay az = true) (hb : in3 bx bY bz = true) (w : World) : Calls Try.prog 4 #[.agg #[.int .i64 ax, .int .i64 ay, .int .i64 az], .agg #[.int .i64 bx, .int .i64 bY, .int .i64 bz]] w fun e w' => e = .returned (.bool true) ∧ Below w.heap.size w w' := by
  have c0 := Lib.hid fun W => awake_any W
  have c4 := Lib.hid fun W => rIn_any ax ay az W
  have c8 := Lib.hid fun W => rIn_any bx bY bz W
  have gd := fun x y xs ys W => arr_guard .eql x y xs ys W
  obtain ⟨g1, g2, g3⟩ := in3_iff.1 ha
  obtain ⟨k1, k2, k3⟩ := in3_iff.1 hb
  have c1 := Lib.hid fun W => dot_ok ax ay az bx bY bz ha hb W
  have c2 := Lib.hid fun W => cross_ok ax ay az bx bY bz ha hb W
  have c3 := Lib.hid fun W => distance_ok ax ay az bx bY bz ha hb W
  have c5 := Lib.hid fun W => rsub_any ax ay az bx bY bz ha hb W
  have c6 := Lib.hid fun W => rdot_any ax ay az bx bY bz (dotb g1 k1) (dotb g2 k2) (dotb g3 k3) W
  have c7 := Lib.hid fun W => rcross_any ax ay az bx bY bz ha hb W
  have c9 := Lib.hid fun W => rdot_any (ax - bx) (ay - bY) (az - bz) (ax - bx) (ay - bY) (az - bz) (disb g1 k1) (disb g2 k2) (disb g3 k3) W
  rw [ha] at c4
  rw [hb] at c8
  clear ha hb g1 g2 g3 k1 k2 k3
  generalize ((ax - bx) * (ax - bx) + (ay - bY) * (ay - bY) + (az - bz) * (az - bz)) = Q at *
  generalize (ax * bx + ay * bY + az * bz) = D at *
  generalize (ay * bz - az * bY) = X at *
  generalize (az * bx - ax * bz) = Y at *
  generalize (ax * bY - ay * bx) = Z at *
  generalize ax - bx = dx at *
  generalize ay - bY = dy at *
  generalize az - bz = dz at *
  have e1 := fun W => arr_same_eql X Y Z W
  have tD : (D == D) = true := by simp
  have tQ : (Q == Q) = true := by simp
  go_enter Try.func4, Try.ntmps4
  go_wp2_with fail
  refine (c0.out _).mono ?_
  rintro e w1 ⟨rfl, hb1⟩
  have HH1 := Lib.hid (((((Blks.nil (w := w))).new (w.heap.size) 23 [.int .i64 ax, .int .i64 ay, .int .i64 az] rfl).new (w.heap.size + 1) 23 [.int .i64 bx, .int .i64 bY, .int .i64 bz] (by simp)).below hb1)
  have HB1 := Lib.hid (below_trans (below_alloc (below_alloc (Below.refl _ _) _) _) hb1)
  clear hb1
  have B1_0 : Blk w1 (w.heap.size) 23 #[.int .i64 ax, .int .i64 ay, .int .i64 az] := HH1.out (w.heap.size, 23, [.int .i64 ax, .int .i64 ay, .int .i64 az]) (by simp)
  have k1_0_0 : w1.cell? ⟨w.heap.size, 0, none⟩ = some (.int .i64 ax) := B1_0.cell 0
  have k1_0_1 : w1.cell? ⟨w.heap.size, 1, none⟩ = some (.int .i64 ay) := B1_0.cell 1
  have k1_0_2 : w1.cell? ⟨w.heap.size, 2, none⟩ = some (.int .i64 az) := B1_0.cell 2
  have z1_0 : w.heap.size < w1.heap.size := B1_0.lt
  clear B1_0
  have B1_1 : Blk w1 (w.heap.size + 1) 23 #[.int .i64 bx, .int .i64 bY, .int .i64 bz] := HH1.out (w.heap.size + 1, 23, [.int .i64 bx, .int .i64 bY, .int .i64 bz]) (by simp)
  have k1_1_0 : w1.cell? ⟨w.heap.size + 1, 0, none⟩ = some (.int .i64 bx) := B1_1.cell 0
  have k1_1_1 : w1.cell? ⟨w.heap.size + 1, 1, none⟩ = some (.int .i64 bY) := B1_1.cell 1
  have k1_1_2 : w1.cell? ⟨w.heap.size + 1, 2, none⟩ = some (.int .i64 bz) := B1_1.cell 2
  have z1_1 : w.heap.size + 1 < w1.heap.size := B1_1.lt
  clear B1_1
  go_wp2_with fail
  refine (c1.out _).mono ?_
  rintro e w2 ⟨rfl, hb2⟩
  have HH2 := Lib.hid ((HH1.out).below hb2)
  have HB2 := Lib.hid (below_trans (HB1.out) hb2)
  clear k1_0_0 k1_0_1 k1_0_2 z1_0 k1_1_0 k1_1_1 k1_1_2 z1_1
  clear hb2
  clear HH1 HB1
  have B2_0 : Blk w2 (w.heap.size) 23 #[.int .i64 ax, .int .i64 ay, .int .i64 az] := HH2.out (w.heap.size, 23, [.int .i64 ax, .int .i64 ay, .int .i64 az]) (by simp)
  have k2_0_0 : w2.cell? ⟨w.heap.size, 0, none⟩ = some (.int .i64 ax) := B2_0.cell 0
  have k2_0_1 : w2.cell? ⟨w.heap.size, 1, none⟩ = some (.int .i64 ay) := B2_0.cell 1
  have k2_0_2 : w2.cell? ⟨w.heap.size, 2, none⟩ = some (.int .i64 az) := B2_0.cell 2
  have z2_0 : w.heap.size < w2.heap.size := B2_0.lt
  clear B2_0
  have B2_1 : Blk w2 (w.heap.size + 1) 23 #[.int .i64 bx, .int .i64 bY, .int .i64 bz] := HH2.out (w.heap.size + 1, 23, [.int .i64 bx, .int .i64 bY, .int .i64 bz]) (by simp)
  have k2_1_0 : w2.cell? ⟨w.heap.size + 1, 0, none⟩ = some (.int .i64 bx) := B2_1.cell 0
  have k2_1_1 : w2.cell? ⟨w.heap.size + 1, 1, none⟩ = some (.int .i64 bY) := B2_1.cell 1
  have k2_1_2 : w2.cell? ⟨w.heap.size + 1, 2, none⟩ = some (.int .i64 bz) := B2_1.cell 2
  have z2_1 : w.heap.size + 1 < w2.heap.size := B2_1.lt
  clear B2_1
  go_wp2_with fail
  refine (c2.out _).mono ?_
  rintro e w3 ⟨rfl, hb3⟩
  have HH3 := Lib.hid ((HH2.out).below hb3)
  have HB3 := Lib.hid (below_trans (HB2.out) hb3)
  clear k2_0_0 k2_0_1 k2_0_2 z2_0 k2_1_0 k2_1_1 k2_1_2 z2_1
  clear hb3
  clear HH2 HB2
  have B3_0 : Blk w3 (w.heap.size) 23 #[.int .i64 ax, .int .i64 ay, .int .i64 az] := HH3.out (w.heap.size, 23, [.int .i64 ax, .int .i64 ay, .int .i64 az]) (by simp)
  have k3_0_0 : w3.cell? ⟨w.heap.size, 0, none⟩ = some (.int .i64 ax) := B3_0.cell 0
  have k3_0_1 : w3.cell? ⟨w.heap.size, 1, none⟩ = some (.int .i64 ay) := B3_0.cell 1
  have k3_0_2 : w3.cell? ⟨w.heap.size, 2, none⟩ = some (.int .i64 az) := B3_0.cell 2
  have z3_0 : w.heap.size < w3.heap.size := B3_0.lt
  clear B3_0
  have B3_1 : Blk w3 (w.heap.size + 1) 23 #[.int .i64 bx, .int .i64 bY, .int .i64 bz] := HH3.out (w.heap.size + 1, 23, [.int .i64 bx, .int .i64 bY, .int .i64 bz]) (by simp)
  have k3_1_0 : w3.cell? ⟨w.heap.size + 1, 0, none⟩ = some (.int .i64 bx) := B3_1.cell 0
  have k3_1_1 : w3.cell? ⟨w.heap.size + 1, 1, none⟩ = some (.int .i64 bY) := B3_1.cell 1
  have k3_1_2 : w3.cell? ⟨w.heap.size + 1, 2, none⟩ = some (.int .i64 bz) := B3_1.cell 2
  have z3_1 : w.heap.size + 1 < w3.heap.size := B3_1.lt
  clear B3_1
  go_wp2_with fail
  refine (c3.out _).mono ?_
  rintro e w4 ⟨rfl, hb4⟩
  have HH4 := Lib.hid (((HH3.out).new (w3.heap.size) 36 [.int .i64 X, .int .i64 Y, .int .i64 Z] rfl).below hb4)
  have HB4 := Lib.hid (below_trans (below_alloc (HB3.out) _) hb4)
  clear k3_0_0 k3_0_1 k3_0_2 z3_0 k3_1_0 k3_1_1 k3_1_2 z3_1
  clear hb4
  clear HH3 HB3
  have B4_0 : Blk w4 (w.heap.size) 23 #[.int .i64 ax, .int .i64 ay, .int .i64 az] := HH4.out (w.heap.size, 23, [.int .i64 ax, .int .i64 ay, .int .i64 az]) (by simp)
  have k4_0_0 : w4.cell? ⟨w.heap.size, 0, none⟩ = some (.int .i64 ax) := B4_0.cell 0
  have k4_0_1 : w4.cell? ⟨w.heap.size, 1, none⟩ = some (.int .i64 ay) := B4_0.cell 1
  have k4_0_2 : w4.cell? ⟨w.heap.size, 2, none⟩ = some (.int .i64 az) := B4_0.cell 2
  have z4_0 : w.heap.size < w4.heap.size := B4_0.lt
  clear B4_0
  have B4_1 : Blk w4 (w.heap.size + 1) 23 #[.int .i64 bx, .int .i64 bY, .int .i64 bz] := HH4.out (w.heap.size + 1, 23, [.int .i64 bx, .int .i64 bY, .int .i64 bz]) (by simp)
  have k4_1_0 : w4.cell? ⟨w.heap.size + 1, 0, none⟩ = some (.int .i64 bx) := B4_1.cell 0
  have k4_1_1 : w4.cell? ⟨w.heap.size + 1, 1, none⟩ = some (.int .i64 bY) := B4_1.cell 1
  have k4_1_2 : w4.cell? ⟨w.heap.size + 1, 2, none⟩ = some (.int .i64 bz) := B4_1.cell 2
  have z4_1 : w.heap.size + 1 < w4.heap.size := B4_1.lt
  clear B4_1
  have B4_2 : Blk w4 (w3.heap.size) 36 #[.int .i64 X, .int .i64 Y, .int .i64 Z] := HH4.out (w3.heap.size, 36, [.int .i64 X, .int .i64 Y, .int .i64 Z]) (by simp)
  have k4_2_0 : w4.cell? ⟨w3.heap.size, 0, none⟩ = some (.int .i64 X) := B4_2.cell 0
  have k4_2_1 : w4.cell? ⟨w3.heap.size, 1, none⟩ = some (.int .i64 Y) := B4_2.cell 1
  have k4_2_2 : w4.cell? ⟨w3.heap.size, 2, none⟩ = some (.int .i64 Z) := B4_2.cell 2
  have z4_2 : w3.heap.size < w4.heap.size := B4_2.lt
  clear B4_2
  go_wp2_with fail
  refine (c4.out _).mono ?_
  rintro e w5 ⟨rfl, hb5⟩
  have HH5 := Lib.hid ((HH4.out).below hb5)
  have HB5 := Lib.hid (below_trans (HB4.out) hb5)
  clear k4_0_0 k4_0_1 k4_0_2 z4_0 k4_1_0 k4_1_1 k4_1_2 z4_1 k4_2_0 k4_2_1 k4_2_2 z4_2
  clear hb5
  clear HH4 HB4
  have B5_0 : Blk w5 (w.heap.size) 23 #[.int .i64 ax, .int .i64 ay, .int .i64 az] := HH5.out (w.heap.size, 23, [.int .i64 ax, .int .i64 ay, .int .i64 az]) (by simp)
  have k5_0_0 : w5.cell? ⟨w.heap.size, 0, none⟩ = some (.int .i64 ax) := B5_0.cell 0
  have k5_0_1 : w5.cell? ⟨w.heap.size, 1, none⟩ = some (.int .i64 ay) := B5_0.cell 1
  have k5_0_2 : w5.cell? ⟨w.heap.size, 2, none⟩ = some (.int .i64 az) := B5_0.cell 2
  have z5_0 : w.heap.size < w5.heap.size := B5_0.lt
  clear B5_0
  have B5_1 : Blk w5 (w.heap.size + 1) 23 #[.int .i64 bx, .int .i64 bY, .int .i64 bz] := HH5.out (w.heap.size + 1, 23, [.int .i64 bx, .int .i64 bY, .int .i64 bz]) (by simp)
  have k5_1_0 : w5.cell? ⟨w.heap.size + 1, 0, none⟩ = some (.int .i64 bx) := B5_1.cell 0
  have k5_1_1 : w5.cell? ⟨w.heap.size + 1, 1, none⟩ = some (.int .i64 bY) := B5_1.cell 1
  have k5_1_2 : w5.cell? ⟨w.heap.size + 1, 2, none⟩ = some (.int .i64 bz) := B5_1.cell 2
  have z5_1 : w.heap.size + 1 < w5.heap.size := B5_1.lt
  clear B5_1
  have B5_2 : Blk w5 (w3.heap.size) 36 #[.int .i64 X, .int .i64 Y, .int .i64 Z] := HH5.out (w3.heap.size, 36, [.int .i64 X, .int .i64 Y, .int .i64 Z]) (by simp)
  have k5_2_0 : w5.cell? ⟨w3.heap.size, 0, none⟩ = some (.int .i64 X) := B5_2.cell 0
  have k5_2_1 : w5.cell? ⟨w3.heap.size, 1, none⟩ = some (.int .i64 Y) := B5_2.cell 1
  have k5_2_2 : w5.cell? ⟨w3.heap.size, 2, none⟩ = some (.int .i64 Z) := B5_2.cell 2
  have z5_2 : w3.heap.size < w5.heap.size := B5_2.lt
  clear B5_2
  go_wp2_with fail
  refine (c8.out _).mono ?_
  rintro e w6 ⟨rfl, hb6⟩
  have HH6 := Lib.hid ((HH5.out).below hb6)
  have HB6 := Lib.hid (below_trans (HB5.out) hb6)
  clear k5_0_0 k5_0_1 k5_0_2 z5_0 k5_1_0 k5_1_1 k5_1_2 z5_1 k5_2_0 k5_2_1 k5_2_2 z5_2
  clear hb6
  clear HH5 HB5
  have B6_0 : Blk w6 (w.heap.size) 23 #[.int .i64 ax, .int .i64 ay, .int .i64 az] := HH6.out (w.heap.size, 23, [.int .i64 ax, .int .i64 ay, .int .i64 az]) (by simp)
  have k6_0_0 : w6.cell? ⟨w.heap.size, 0, none⟩ = some (.int .i64 ax) := B6_0.cell 0
  have k6_0_1 : w6.cell? ⟨w.heap.size, 1, none⟩ = some (.int .i64 ay) := B6_0.cell 1
  have k6_0_2 : w6.cell? ⟨w.heap.size, 2, none⟩ = some (.int .i64 az) := B6_0.cell 2
  have z6_0 : w.heap.size < w6.heap.size := B6_0.lt
  clear B6_0
  have B6_1 : Blk w6 (w.heap.size + 1) 23 #[.int .i64 bx, .int .i64 bY, .int .i64 bz] := HH6.out (w.heap.size + 1, 23, [.int .i64 bx, .int .i64 bY, .int .i64 bz]) (by simp)
  have k6_1_0 : w6.cell? ⟨w.heap.size + 1, 0, none⟩ = some (.int .i64 bx) := B6_1.cell 0
  have k6_1_1 : w6.cell? ⟨w.heap.size + 1, 1, none⟩ = some (.int .i64 bY) := B6_1.cell 1
  have k6_1_2 : w6.cell? ⟨w.heap.size + 1, 2, none⟩ = some (.int .i64 bz) := B6_1.cell 2
  have z6_1 : w.heap.size + 1 < w6.heap.size := B6_1.lt
  clear B6_1
  have B6_2 : Blk w6 (w3.heap.size) 36 #[.int .i64 X, .int .i64 Y, .int .i64 Z] := HH6.out (w3.heap.size, 36, [.int .i64 X, .int .i64 Y, .int .i64 Z]) (by simp)
  have k6_2_0 : w6.cell? ⟨w3.heap.size, 0, none⟩ = some (.int .i64 X) := B6_2.cell 0
  have k6_2_1 : w6.cell? ⟨w3.heap.size, 1, none⟩ = some (.int .i64 Y) := B6_2.cell 1
  have k6_2_2 : w6.cell? ⟨w3.heap.size, 2, none⟩ = some (.int .i64 Z) := B6_2.cell 2
  have z6_2 : w3.heap.size < w6.heap.size := B6_2.lt
  clear B6_2
  go_wp2_with fail
  refine (c5.out _).mono ?_
  rintro e w7 ⟨rfl, hb7⟩
  have HH7 := Lib.hid ((HH6.out).below hb7)
  have HB7 := Lib.hid (below_trans (HB6.out) hb7)
  clear k6_0_0 k6_0_1 k6_0_2 z6_0 k6_1_0 k6_1_1 k6_1_2 z6_1 k6_2_0 k6_2_1 k6_2_2 z6_2
  clear hb7
  clear HH6 HB6
  have B7_0 : Blk w7 (w.heap.size) 23 #[.int .i64 ax, .int .i64 ay, .int .i64 az] := HH7.out (w.heap.size, 23, [.int .i64 ax, .int .i64 ay, .int .i64 az]) (by simp)
  have k7_0_0 : w7.cell? ⟨w.heap.size, 0, none⟩ = some (.int .i64 ax) := B7_0.cell 0
  have k7_0_1 : w7.cell? ⟨w.heap.size, 1, none⟩ = some (.int .i64 ay) := B7_0.cell 1
  have k7_0_2 : w7.cell? ⟨w.heap.size, 2, none⟩ = some (.int .i64 az) := B7_0.cell 2
  have z7_0 : w.heap.size < w7.heap.size := B7_0.lt
  clear B7_0
  have B7_1 : Blk w7 (w.heap.size + 1) 23 #[.int .i64 bx, .int .i64 bY, .int .i64 bz] := HH7.out (w.heap.size + 1, 23, [.int .i64 bx, .int .i64 bY, .int .i64 bz]) (by simp)
  have k7_1_0 : w7.cell? ⟨w.heap.size + 1, 0, none⟩ = some (.int .i64 bx) := B7_1.cell 0
  have k7_1_1 : w7.cell? ⟨w.heap.size + 1, 1, none⟩ = some (.int .i64 bY) := B7_1.cell 1
  have k7_1_2 : w7.cell? ⟨w.heap.size + 1, 2, none⟩ = some (.int .i64 bz) := B7_1.cell 2
  have z7_1 : w.heap.size + 1 < w7.heap.size := B7_1.lt
  clear B7_1
  have B7_2 : Blk w7 (w3.heap.size) 36 #[.int .i64 X, .int .i64 Y, .int .i64 Z] := HH7.out (w3.heap.size, 36, [.int .i64 X, .int .i64 Y, .int .i64 Z]) (by simp)
  have k7_2_0 : w7.cell? ⟨w3.heap.size, 0, none⟩ = some (.int .i64 X) := B7_2.cell 0
  have k7_2_1 : w7.cell? ⟨w3.heap.size, 1, none⟩ = some (.int .i64 Y) := B7_2.cell 1
  have k7_2_2 : w7.cell? ⟨w3.heap.size, 2, none⟩ = some (.int .i64 Z) := B7_2.cell 2
  have z7_2 : w3.heap.size < w7.heap.size := B7_2.lt
  clear B7_2
  have tok1 : True := trivial
  go_upto_region 9 with fail
  have HHq : Blks ((w7).alloc (.cells #[.int .i64 dx, .int .i64 dy, .int .i64 dz] 23)) [(w7.heap.size, 23, [.int .i64 dx, .int .i64 dy, .int .i64 dz]), (w3.heap.size, 36, [.int .i64 X, .int .i64 Y, .int .i64 Z]), (w.heap.size + 1, 23, [.int .i64 bx, .int .i64 bY, .int .i64 bz]), (w.heap.size, 23, [.int .i64 ax, .int .i64 ay, .int .i64 az])] := (HH7.out).new (w7.heap.size) 23 [.int .i64 dx, .int .i64 dy, .int .i64 dz] rfl
  have HBq : Below w.heap.size w ((w7).alloc (.cells #[.int .i64 dx, .int .i64 dy, .int .i64 dz] 23)) := below_alloc (HB7.out) _
  clear k7_0_0 k7_0_1 k7_0_2 z7_0 k7_1_0 k7_1_1 k7_1_2 z7_1 k7_2_0 k7_2_1 k7_2_2 z7_2
  clear HH7 HB7
  obtain ⟨w8, hw8⟩ : ∃ w8 : World, w8 = (w7).alloc (.cells #[.int .i64 dx, .int .i64 dy, .int .i64 dz] 23) := ⟨_, rfl⟩
  rw [← hw8] at HHq HBq ⊢
  have HH8 := Lib.hid HHq
  have HB8 := Lib.hid HBq
  clear hw8 HHq HBq
  have B8_0 : Blk w8 (w.heap.size) 23 #[.int .i64 ax, .int .i64 ay, .int .i64 az] := HH8.out (w.heap.size, 23, [.int .i64 ax, .int .i64 ay, .int .i64 az]) (by simp)
  have k8_0_0 : w8.cell? ⟨w.heap.size, 0, none⟩ = some (.int .i64 ax) := B8_0.cell 0
  have k8_0_1 : w8.cell? ⟨w.heap.size, 1, none⟩ = some (.int .i64 ay) := B8_0.cell 1
  have k8_0_2 : w8.cell? ⟨w.heap.size, 2, none⟩ = some (.int .i64 az) := B8_0.cell 2
  have z8_0 : w.heap.size < w8.heap.size := B8_0.lt
  clear B8_0
  have B8_1 : Blk w8 (w.heap.size + 1) 23 #[.int .i64 bx, .int .i64 bY, .int .i64 bz] := HH8.out (w.heap.size + 1, 23, [.int .i64 bx, .int .i64 bY, .int .i64 bz]) (by simp)
  have k8_1_0 : w8.cell? ⟨w.heap.size + 1, 0, none⟩ = some (.int .i64 bx) := B8_1.cell 0
  have k8_1_1 : w8.cell? ⟨w.heap.size + 1, 1, none⟩ = some (.int .i64 bY) := B8_1.cell 1
  have k8_1_2 : w8.cell? ⟨w.heap.size + 1, 2, none⟩ = some (.int .i64 bz) := B8_1.cell 2
  have z8_1 : w.heap.size + 1 < w8.heap.size := B8_1.lt
  clear B8_1
  have B8_2 : Blk w8 (w3.heap.size) 36 #[.int .i64 X, .int .i64 Y, .int .i64 Z] := HH8.out (w3.heap.size, 36, [.int .i64 X, .int .i64 Y, .int .i64 Z]) (by simp)
  have k8_2_0 : w8.cell? ⟨w3.heap.size, 0, none⟩ = some (.int .i64 X) := B8_2.cell 0
  have k8_2_1 : w8.cell? ⟨w3.heap.size, 1, none⟩ = some (.int .i64 Y) := B8_2.cell 1
  have k8_2_2 : w8.cell? ⟨w3.heap.size, 2, none⟩ = some (.int .i64 Z) := B8_2.cell 2
  have z8_2 : w3.heap.size < w8.heap.size := B8_2.lt
  clear B8_2
  have B8_3 : Blk w8 (w7.heap.size) 23 #[.int .i64 dx, .int .i64 dy, .int .i64 dz] := HH8.out (w7.heap.size, 23, [.int .i64 dx, .int .i64 dy, .int .i64 dz]) (by simp)
  have k8_3_0 : w8.cell? ⟨w7.heap.size, 0, none⟩ = some (.int .i64 dx) := B8_3.cell 0
  have k8_3_1 : w8.cell? ⟨w7.heap.size, 1, none⟩ = some (.int .i64 dy) := B8_3.cell 1
  have k8_3_2 : w8.cell? ⟨w7.heap.size, 2, none⟩ = some (.int .i64 dz) := B8_3.cell 2
  have z8_3 : w7.heap.size < w8.heap.size := B8_3.lt
  clear B8_3
  have HHp := HH8.out
  have HBp := HB8.out
  first
    | go_region_held3 (fun w' => w'.cell? ⟨w.heap.size, 0, none⟩ = some (.int .i64 ax) ∧ w'.cell? ⟨w.heap.size, 1, none⟩ = some (.int .i64 ay) ∧ w'.cell? ⟨w.heap.size, 2, none⟩ = some (.int .i64 az) ∧ w'.cell? ⟨w.heap.size + 1, 0, none⟩ = some (.int .i64 bx) ∧ w'.cell? ⟨w.heap.size + 1, 1, none⟩ = some (.int .i64 bY) ∧ w'.cell? ⟨w.heap.size + 1, 2, none⟩ = some (.int .i64 bz) ∧ w'.cell? ⟨w3.heap.size, 0, none⟩ = some (.int .i64 X) ∧ w'.cell? ⟨w3.heap.size, 1, none⟩ = some (.int .i64 Y) ∧ w'.cell? ⟨w3.heap.size, 2, none⟩ = some (.int .i64 Z) ∧ w'.cell? ⟨w7.heap.size, 0, none⟩ = some (.int .i64 dx) ∧ w'.cell? ⟨w7.heap.size, 1, none⟩ = some (.int .i64 dy) ∧ w'.cell? ⟨w7.heap.size, 2, none⟩ = some (.int .i64 dz) ∧ w.heap.size < w'.heap.size ∧ w.heap.size + 1 < w'.heap.size ∧ w3.heap.size < w'.heap.size ∧ w7.heap.size < w'.heap.size ∧ Blks w' [(w7.heap.size, 23, [.int .i64 dx, .int .i64 dy, .int .i64 dz]), (w3.heap.size, 36, [.int .i64 X, .int .i64 Y, .int .i64 Z]), (w.heap.size + 1, 23, [.int .i64 bx, .int .i64 bY, .int .i64 bz]), (w.heap.size, 23, [.int .i64 ax, .int .i64 ay, .int .i64 az])] ∧ Below w.heap.size w w')
      ((go_split_ands; (repeat' apply And.intro) <;> (first | with_reducible assumption | (with_reducible refine Blks.drew ?_; with_reducible assumption) | (with_reducible refine Below.drew ?_; with_reducible assumption) | (simp only [World.cell?_drew, World.size_drew]; with_reducible assumption) | (with_reducible refine Blks.below ?_ hbm; with_reducible assumption) | (with_reducible refine below_trans ?_ hbm; with_reducible assumption) | (rw [hbm.cell (by first | assumption | (simp only [World.size_drew]; assumption))]; first | with_reducible assumption | (simp only [World.cell?_drew]; with_reducible assumption)) | (refine Nat.lt_of_lt_of_le ?_ hbm.size; first | with_reducible assumption | (simp only [World.size_drew]; with_reducible assumption)))))
      ((first
        | (go_at_call 25; have _t := tok1; with_reducible refine (c6.out _).mono ?_; clear tok1 _t; rintro e w9 ⟨rfl, hbm⟩)
        | (go_at_call 26; with_reducible refine (c7.out _).mono ?_; rintro e w9 ⟨rfl, hbm⟩)
        | (go_at_call 25; with_reducible refine (c9.out _).mono ?_; rintro e w9 ⟨rfl, hbm⟩)))
    | fail
  go_split_ands
  have HH9 : Blks w9 [(w7.heap.size, 23, [.int .i64 dx, .int .i64 dy, .int .i64 dz]), (w3.heap.size, 36, [.int .i64 X, .int .i64 Y, .int .i64 Z]), (w.heap.size + 1, 23, [.int .i64 bx, .int .i64 bY, .int .i64 bz]), (w.heap.size, 23, [.int .i64 ax, .int .i64 ay, .int .i64 az])] := by assumption
  have HB9 : Below w.heap.size w w9 := by assumption
  have HH9 := Lib.hid HH9
  have HB9 := Lib.hid HB9
  clear k8_0_0 k8_0_1 k8_0_2 z8_0 k8_1_0 k8_1_1 k8_1_2 z8_1 k8_2_0 k8_2_1 k8_2_2 z8_2 k8_3_0 k8_3_1 k8_3_2 z8_3
  clear HHp HBp HH8 HB8
  have B9_0 : Blk w9 (w.heap.size) 23 #[.int .i64 ax, .int .i64 ay, .int .i64 az] := HH9.out (w.heap.size, 23, [.int .i64 ax, .int .i64 ay, .int .i64 az]) (by simp)
  have k9_0_0 : w9.cell? ⟨w.heap.size, 0, none⟩ = some (.int .i64 ax) := B9_0.cell 0
  have k9_0_1 : w9.cell? ⟨w.heap.size, 1, none⟩ = some (.int .i64 ay) := B9_0.cell 1
  have k9_0_2 : w9.cell? ⟨w.heap.size, 2, none⟩ = some (.int .i64 az) := B9_0.cell 2
  have z9_0 : w.heap.size < w9.heap.size := B9_0.lt
  clear B9_0
  have B9_1 : Blk w9 (w.heap.size + 1) 23 #[.int .i64 bx, .int .i64 bY, .int .i64 bz] := HH9.out (w.heap.size + 1, 23, [.int .i64 bx, .int .i64 bY, .int .i64 bz]) (by simp)
  have k9_1_0 : w9.cell? ⟨w.heap.size + 1, 0, none⟩ = some (.int .i64 bx) := B9_1.cell 0
  have k9_1_1 : w9.cell? ⟨w.heap.size + 1, 1, none⟩ = some (.int .i64 bY) := B9_1.cell 1
  have k9_1_2 : w9.cell? ⟨w.heap.size + 1, 2, none⟩ = some (.int .i64 bz) := B9_1.cell 2
  have z9_1 : w.heap.size + 1 < w9.heap.size := B9_1.lt
  clear B9_1
  have B9_2 : Blk w9 (w3.heap.size) 36 #[.int .i64 X, .int .i64 Y, .int .i64 Z] := HH9.out (w3.heap.size, 36, [.int .i64 X, .int .i64 Y, .int .i64 Z]) (by simp)
  have k9_2_0 : w9.cell? ⟨w3.heap.size, 0, none⟩ = some (.int .i64 X) := B9_2.cell 0
  have k9_2_1 : w9.cell? ⟨w3.heap.size, 1, none⟩ = some (.int .i64 Y) := B9_2.cell 1
  have k9_2_2 : w9.cell? ⟨w3.heap.size, 2, none⟩ = some (.int .i64 Z) := B9_2.cell 2
  have z9_2 : w3.heap.size < w9.heap.size := B9_2.lt
  clear B9_2
  have B9_3 : Blk w9 (w7.heap.size) 23 #[.int .i64 dx, .int .i64 dy, .int .i64 dz] := HH9.out (w7.heap.size, 23, [.int .i64 dx, .int .i64 dy, .int .i64 dz]) (by simp)
  have k9_3_0 : w9.cell? ⟨w7.heap.size, 0, none⟩ = some (.int .i64 dx) := B9_3.cell 0
  have k9_3_1 : w9.cell? ⟨w7.heap.size, 1, none⟩ = some (.int .i64 dy) := B9_3.cell 1
  have k9_3_2 : w9.cell? ⟨w7.heap.size, 2, none⟩ = some (.int .i64 dz) := B9_3.cell 2
  have z9_3 : w7.heap.size < w9.heap.size := B9_3.lt
  clear B9_3
  go_wp2
  go_returns
  exact ⟨rfl, by repeat (first | with_reducible exact HB9.out | with_reducible refine Below.drew ?_ | with_reducible refine below_drewN ?_ _ | with_reducible refine below_set ?_ (by have := HB9.out.size; simp <;> omega) _ | with_reducible refine below_alloc ?_ _)⟩
theorem productsLaw_any (ax ay az bx bY bz : Int) (w : World) : Calls Try.prog 4 #[.agg #[.int .i64 ax, .int .i64 ay, .int .i64 az], .agg #[.int .i64 bx, .int .i64 bY, .int .i64 bz]] w fun e w' => e = .returned (.bool true) ∧ Below w.heap.size w w' := by

  rcases ha : in3 ax ay az with _ | _
  · exact products_n1 ax ay az bx bY bz rfl ha w
  rcases hb : in3 bx bY bz with _ | _
  · exact products_n2 ax ay az bx bY bz ha hb w
  · exact products_ok ax ay az bx bY bz ha hb w

end Go.Proofs.Ytkfdbhhchnbjdaa.Ve
