/- The walk of VectorLaws. -/
import Derived.Test.YtkfdbhhchnbjdaaVeL6
namespace Go.Proofs.Ytkfdbhhchnbjdaa.Ve
open Go.RowKit Ba
set_option linter.unusedVariables false

set_option maxRecDepth 100000 in
set_option maxHeartbeats 6400000 in
theorem laws_ok (ax ay az bx bY bz cx cy cz : Int) (ha : in3 ax ay az = true) (hb : in3 bx bY bz = true) (hs : in3 (ax + bx) (ay + bY) (az + bz) = true) (w : World) : Calls Try.prog 8 #[.agg #[.int .i64 ax, .int .i64 ay, .int .i64 az], .agg #[.int .i64 bx, .int .i64 bY, .int .i64 bz], .agg #[.int .i64 cx, .int .i64 cy, .int .i64 cz]] w fun e w' => e = .returned (.bool true) ∧ Below w.heap.size w w' := by
  have c0 := Lib.hid fun W => awake_any W
  obtain ⟨p1, q1, r1, e1, a1, f1, f2, f3⟩ := add_ex ax ay az cx cy cz
  obtain ⟨p2, q2, r2, e2, a2, g1, g2, g3⟩ := add_ex bx bY bz cx cy cz
  have c1 := Lib.hid a1
  have c2 := Lib.hid a2
  have gv := fun x y xs ys W => vec_guard .neq x y xs ys W
  obtain ⟨g7, g8, g9⟩ := in3_iff.1 ha
  obtain ⟨k7, k8, k9⟩ := in3_iff.1 hb
  obtain ⟨_, _⟩ := crb g8 k9 g9 k8
  obtain ⟨_, _⟩ := crb g9 k7 g7 k9
  obtain ⟨_, _⟩ := crb g7 k8 g8 k7
  obtain ⟨_, _⟩ := mul18 (a := ax) (b := (ay * bz - az * bY)) ⟨by omega, by omega⟩ ⟨by omega, by omega⟩
  obtain ⟨_, _⟩ := mul18 (a := ay) (b := (az * bx - ax * bz)) ⟨by omega, by omega⟩ ⟨by omega, by omega⟩
  obtain ⟨_, _⟩ := mul18 (a := az) (b := (ax * bY - ay * bx)) ⟨by omega, by omega⟩ ⟨by omega, by omega⟩
  obtain ⟨_, _⟩ := mul18 (a := bx) (b := (ay * bz - az * bY)) ⟨by omega, by omega⟩ ⟨by omega, by omega⟩
  obtain ⟨_, _⟩ := mul18 (a := bY) (b := (az * bx - ax * bz)) ⟨by omega, by omega⟩ ⟨by omega, by omega⟩
  obtain ⟨_, _⟩ := mul18 (a := bz) (b := (ax * bY - ay * bx)) ⟨by omega, by omega⟩ ⟨by omega, by omega⟩
  have c4 := Lib.hid fun W => dot_ok ax ay az bx bY bz ha hb W
  have c5 := Lib.hid fun W => dot_ok bx bY bz ax ay az hb ha W
  have c6 := Lib.hid fun W => cross_ok ax ay az bx bY bz ha hb W
  have c7 := Lib.hid fun W => cross_ok bx bY bz ax ay az hb ha W
  have c8 := Lib.hid fun W => distance_ok ax ay az bx bY bz ha hb W
  have K1 : Hid (e1 = 0 → in3 (ax + cx) (ay + cy) (az + cz) = true ∧ p1 = ax + cx ∧ q1 = ay + cy ∧ r1 = az + cz) := Lib.hid (fun he => by
    have u1 : in3 ax ay az = true ∧ in3 cx cy cz = true := Classical.byContradiction fun hh => by have := (f1 hh).2.2.2; omega
    rcases hs : in3 (ax + cx) (ay + cy) (az + cz) with _ | _
    · have := (f3 u1.1 u1.2 hs).2.2.2; omega
    · obtain ⟨x1, x2, x3, _⟩ := f2 u1.1 u1.2 hs; exact ⟨rfl, x1, x2, x3⟩)
  have K2 : Hid (e2 = 0 → in3 (bx + cx) (bY + cy) (bz + cz) = true ∧ p2 = bx + cx ∧ q2 = bY + cy ∧ r2 = bz + cz) := Lib.hid (fun he => by
    have u1 : in3 bx bY bz = true ∧ in3 cx cy cz = true := Classical.byContradiction fun hh => by have := (g1 hh).2.2.2; omega
    rcases hs : in3 (bx + cx) (bY + cy) (bz + cz) with _ | _
    · have := (g3 u1.1 u1.2 hs).2.2.2; omega
    · obtain ⟨x1, x2, x3, _⟩ := g2 u1.1 u1.2 hs; exact ⟨rfl, x1, x2, x3⟩)
  have D1 : Hid (in3 (ax + cx) (ay + cy) (az + cz) = true → in3 (bx + cx) (bY + cy) (bz + cz) = true → ∀ W, Calls Try.prog 24 #[.agg #[.int .i64 (ax + cx), .int .i64 (ay + cy), .int .i64 (az + cz)], .agg #[.int .i64 (bx + cx), .int .i64 (bY + cy), .int .i64 (bz + cz)]] W fun e w' => e = .returned (.tuple #[.int .i64 ((ax - bx) * (ax - bx) + (ay - bY) * (ay - bY) + (az - bz) * (az - bz)), .int .i64 0]) ∧ Below W.heap.size W w') := Lib.hid (fun h1 h2 W => by
    have hh := distance_ok (ax + cx) (ay + cy) (az + cz) (bx + cx) (bY + cy) (bz + cz) h1 h2 W
    rw [show ax + cx - (bx + cx) = ax - bx by omega, show ay + cy - (bY + cy) = ay - bY by omega, show az + cz - (bz + cz) = az - bz by omega] at hh
    exact hh)
  rw [show bx * ax + bY * ay + bz * az = ax * bx + ay * bY + az * bz by rw [Int.mul_comm bx, Int.mul_comm bY, Int.mul_comm bz]] at c5
  rw [show bY * az - bz * ay = -(ay * bz - az * bY) by rw [Int.mul_comm bY, Int.mul_comm bz]; omega, show bz * ax - bx * az = -(az * bx - ax * bz) by rw [Int.mul_comm bz, Int.mul_comm bx]; omega, show bx * ay - bY * ax = -(ax * bY - ay * bx) by rw [Int.mul_comm bx, Int.mul_comm bY]; omega] at c7
  have o1 := ortho ax ay az bx bY bz
  have o2 := ortho2 ax ay az bx bY bz
  have c3 := Lib.hid fun W => add_ok ax ay az bx bY bz ha hb hs W
  have c9 : Hid (∀ W, Calls Try.prog 14 #[.agg #[.int .i64 (ax + bx), .int .i64 (ay + bY), .int .i64 (az + bz)], .agg #[.int .i64 bx, .int .i64 bY, .int .i64 bz]] W fun e w' => e = .returned (.tuple #[.agg #[.int .i64 ax, .int .i64 ay, .int .i64 az], .int .i64 0]) ∧ Below W.heap.size W w') := Lib.hid (fun W => by
    have hh := sub_ok (ax + bx) (ay + bY) (az + bz) bx bY bz hs hb (by rw [show ax + bx - bx = ax by omega, show ay + bY - bY = ay by omega, show az + bz - bz = az by omega]; exact ha) W
    rw [show ax + bx - bx = ax by omega, show ay + bY - bY = ay by omega, show az + bz - bz = az by omega] at hh
    exact hh)
  have en : ∀ W, (binOp .neq 23 (.agg #[.int .i64 ax, .int .i64 ay, .int .i64 az]) (.agg #[.int .i64 ax, .int .i64 ay, .int .i64 az])).run Try.prog W = .ok (.bool false) W := fun W => by rw [vec_neq]; simp
  clear a1 a2 f1 f2 f3 g1 g2 g3 ha hb hs g7 g8 g9 k7 k8 k9
  generalize ((ax - bx) * (ax - bx) + (ay - bY) * (ay - bY) + (az - bz) * (az - bz)) = Q at *
  generalize (ax * bx + ay * bY + az * bz) = D at *
  generalize hX : (ay * bz - az * bY) = X at *
  generalize hY : (az * bx - ax * bz) = Y at *
  generalize hZ : (ax * bY - ay * bx) = Z at *
  clear hX hY hZ
  have tD : (D != D) = false := by simp
  have tX : (X != - -X) = false := by simp
  have tY : (Y != - -Y) = false := by simp
  have tZ : (Z != - -Z) = false := by simp
  have tQ : (Q == Q) = true := by simp
  generalize ax + bx = sx at *
  generalize ay + bY = sy at *
  generalize az + bz = sz at *
  go_enter Try.func8, Try.ntmps8
  go_wp2_with fail
  refine (c0.out _).mono ?_
  rintro e w1 ⟨rfl, hb1⟩
  have HH1 := Lib.hid ((((((Blks.nil (w := w))).new (w.heap.size) 23 [.int .i64 ax, .int .i64 ay, .int .i64 az] rfl).new (w.heap.size + 1) 23 [.int .i64 bx, .int .i64 bY, .int .i64 bz] (by simp)).new (w.heap.size + 1 + 1) 23 [.int .i64 cx, .int .i64 cy, .int .i64 cz] (by simp)).below hb1)
  have HB1 := Lib.hid (below_trans (below_alloc (below_alloc (below_alloc (Below.refl _ _) _) _) _) hb1)
  clear hb1
  have B1_0 : Blk w1 (w.heap.size) 23 #[.int .i64 ax, .int .i64 ay, .int .i64 az] := HH1.out (w.heap.size, 23, [.int .i64 ax, .int .i64 ay, .int .i64 az]) (by simp)
  have k1_0_0 : w1.cell? ⟨w.heap.size, 0, none⟩ = some (.int .i64 ax) := B1_0.cell 0
  have k1_0_1 : w1.cell? ⟨w.heap.size, 1, none⟩ = some (.int .i64 ay) := B1_0.cell 1
  have k1_0_2 : w1.cell? ⟨w.heap.size, 2, none⟩ = some (.int .i64 az) := B1_0.cell 2
  have z1_0 : w.heap.size < w1.heap.size := B1_0.lt
  clear B1_0
  have B1_1 : Blk w1 (w.heap.size + 1) 23 #[.int .i64 bx, .int .i64 bY, .int .i64 bz] := HH1.out (w.heap.size + 1, 23, [.int .i64 bx, .int .i64 bY, .int .i64 bz]) (by simp)
  have k1_1_0 : w1.cell? ⟨w.heap.size + 1, 0, none⟩ = some (.int .i64 bx) := B1_1.cell 0
  have k1_1_1 : w1.cell? ⟨w.heap.size + 1, 1, none⟩ = some (.int .i64 bY) := B1_1.cell 1
  have k1_1_2 : w1.cell? ⟨w.heap.size + 1, 2, none⟩ = some (.int .i64 bz) := B1_1.cell 2
  have z1_1 : w.heap.size + 1 < w1.heap.size := B1_1.lt
  clear B1_1
  have B1_2 : Blk w1 (w.heap.size + 1 + 1) 23 #[.int .i64 cx, .int .i64 cy, .int .i64 cz] := HH1.out (w.heap.size + 1 + 1, 23, [.int .i64 cx, .int .i64 cy, .int .i64 cz]) (by simp)
  have k1_2_0 : w1.cell? ⟨w.heap.size + 1 + 1, 0, none⟩ = some (.int .i64 cx) := B1_2.cell 0
  have k1_2_1 : w1.cell? ⟨w.heap.size + 1 + 1, 1, none⟩ = some (.int .i64 cy) := B1_2.cell 1
  have k1_2_2 : w1.cell? ⟨w.heap.size + 1 + 1, 2, none⟩ = some (.int .i64 cz) := B1_2.cell 2
  have z1_2 : w.heap.size + 1 + 1 < w1.heap.size := B1_2.lt
  clear B1_2
  go_wp2_with fail
  refine (c3.out _).mono ?_
  rintro e w2 ⟨rfl, hb2⟩
  have HH2 := Lib.hid ((HH1.out).below hb2)
  have HB2 := Lib.hid (below_trans (HB1.out) hb2)
  clear k1_0_0 k1_0_1 k1_0_2 z1_0 k1_1_0 k1_1_1 k1_1_2 z1_1 k1_2_0 k1_2_1 k1_2_2 z1_2
  clear hb2
  clear HH1 HB1
  have B2_0 : Blk w2 (w.heap.size) 23 #[.int .i64 ax, .int .i64 ay, .int .i64 az] := HH2.out (w.heap.size, 23, [.int .i64 ax, .int .i64 ay, .int .i64 az]) (by simp)
  have k2_0_0 : w2.cell? ⟨w.heap.size, 0, none⟩ = some (.int .i64 ax) := B2_0.cell 0
  have k2_0_1 : w2.cell? ⟨w.heap.size, 1, none⟩ = some (.int .i64 ay) := B2_0.cell 1
  have k2_0_2 : w2.cell? ⟨w.heap.size, 2, none⟩ = some (.int .i64 az) := B2_0.cell 2
  have z2_0 : w.heap.size < w2.heap.size := B2_0.lt
  clear B2_0
  have B2_1 : Blk w2 (w.heap.size + 1) 23 #[.int .i64 bx, .int .i64 bY, .int .i64 bz] := HH2.out (w.heap.size + 1, 23, [.int .i64 bx, .int .i64 bY, .int .i64 bz]) (by simp)
  have k2_1_0 : w2.cell? ⟨w.heap.size + 1, 0, none⟩ = some (.int .i64 bx) := B2_1.cell 0
  have k2_1_1 : w2.cell? ⟨w.heap.size + 1, 1, none⟩ = some (.int .i64 bY) := B2_1.cell 1
  have k2_1_2 : w2.cell? ⟨w.heap.size + 1, 2, none⟩ = some (.int .i64 bz) := B2_1.cell 2
  have z2_1 : w.heap.size + 1 < w2.heap.size := B2_1.lt
  clear B2_1
  have B2_2 : Blk w2 (w.heap.size + 1 + 1) 23 #[.int .i64 cx, .int .i64 cy, .int .i64 cz] := HH2.out (w.heap.size + 1 + 1, 23, [.int .i64 cx, .int .i64 cy, .int .i64 cz]) (by simp)
  have k2_2_0 : w2.cell? ⟨w.heap.size + 1 + 1, 0, none⟩ = some (.int .i64 cx) := B2_2.cell 0
  have k2_2_1 : w2.cell? ⟨w.heap.size + 1 + 1, 1, none⟩ = some (.int .i64 cy) := B2_2.cell 1
  have k2_2_2 : w2.cell? ⟨w.heap.size + 1 + 1, 2, none⟩ = some (.int .i64 cz) := B2_2.cell 2
  have z2_2 : w.heap.size + 1 + 1 < w2.heap.size := B2_2.lt
  clear B2_2
  go_wp2_with fail
  refine (c9.out _).mono ?_
  rintro e w3 ⟨rfl, hb3⟩
  have HH3 := Lib.hid (((HH2.out).new (w2.heap.size) 23 [.int .i64 sx, .int .i64 sy, .int .i64 sz] rfl).below hb3)
  have HB3 := Lib.hid (below_trans (below_alloc (HB2.out) _) hb3)
  clear k2_0_0 k2_0_1 k2_0_2 z2_0 k2_1_0 k2_1_1 k2_1_2 z2_1 k2_2_0 k2_2_1 k2_2_2 z2_2
  clear hb3
  clear HH2 HB2
  have B3_0 : Blk w3 (w.heap.size) 23 #[.int .i64 ax, .int .i64 ay, .int .i64 az] := HH3.out (w.heap.size, 23, [.int .i64 ax, .int .i64 ay, .int .i64 az]) (by simp)
  have k3_0_0 : w3.cell? ⟨w.heap.size, 0, none⟩ = some (.int .i64 ax) := B3_0.cell 0
  have k3_0_1 : w3.cell? ⟨w.heap.size, 1, none⟩ = some (.int .i64 ay) := B3_0.cell 1
  have k3_0_2 : w3.cell? ⟨w.heap.size, 2, none⟩ = some (.int .i64 az) := B3_0.cell 2
  have z3_0 : w.heap.size < w3.heap.size := B3_0.lt
  clear B3_0
  have B3_1 : Blk w3 (w.heap.size + 1) 23 #[.int .i64 bx, .int .i64 bY, .int .i64 bz] := HH3.out (w.heap.size + 1, 23, [.int .i64 bx, .int .i64 bY, .int .i64 bz]) (by simp)
  have k3_1_0 : w3.cell? ⟨w.heap.size + 1, 0, none⟩ = some (.int .i64 bx) := B3_1.cell 0
  have k3_1_1 : w3.cell? ⟨w.heap.size + 1, 1, none⟩ = some (.int .i64 bY) := B3_1.cell 1
  have k3_1_2 : w3.cell? ⟨w.heap.size + 1, 2, none⟩ = some (.int .i64 bz) := B3_1.cell 2
  have z3_1 : w.heap.size + 1 < w3.heap.size := B3_1.lt
  clear B3_1
  have B3_2 : Blk w3 (w.heap.size + 1 + 1) 23 #[.int .i64 cx, .int .i64 cy, .int .i64 cz] := HH3.out (w.heap.size + 1 + 1, 23, [.int .i64 cx, .int .i64 cy, .int .i64 cz]) (by simp)
  have k3_2_0 : w3.cell? ⟨w.heap.size + 1 + 1, 0, none⟩ = some (.int .i64 cx) := B3_2.cell 0
  have k3_2_1 : w3.cell? ⟨w.heap.size + 1 + 1, 1, none⟩ = some (.int .i64 cy) := B3_2.cell 1
  have k3_2_2 : w3.cell? ⟨w.heap.size + 1 + 1, 2, none⟩ = some (.int .i64 cz) := B3_2.cell 2
  have z3_2 : w.heap.size + 1 + 1 < w3.heap.size := B3_2.lt
  clear B3_2
  have B3_3 : Blk w3 (w2.heap.size) 23 #[.int .i64 sx, .int .i64 sy, .int .i64 sz] := HH3.out (w2.heap.size, 23, [.int .i64 sx, .int .i64 sy, .int .i64 sz]) (by simp)
  have k3_3_0 : w3.cell? ⟨w2.heap.size, 0, none⟩ = some (.int .i64 sx) := B3_3.cell 0
  have k3_3_1 : w3.cell? ⟨w2.heap.size, 1, none⟩ = some (.int .i64 sy) := B3_3.cell 1
  have k3_3_2 : w3.cell? ⟨w2.heap.size, 2, none⟩ = some (.int .i64 sz) := B3_3.cell 2
  have z3_3 : w2.heap.size < w3.heap.size := B3_3.lt
  clear B3_3
  go_wp2_with fail
  refine (c4.out _).mono ?_
  rintro e w4 ⟨rfl, hb4⟩
  have HH4 := Lib.hid (((HH3.out).new (w3.heap.size) 23 [.int .i64 ax, .int .i64 ay, .int .i64 az] rfl).below hb4)
  have HB4 := Lib.hid (below_trans (below_alloc (HB3.out) _) hb4)
  clear k3_0_0 k3_0_1 k3_0_2 z3_0 k3_1_0 k3_1_1 k3_1_2 z3_1 k3_2_0 k3_2_1 k3_2_2 z3_2 k3_3_0 k3_3_1 k3_3_2 z3_3
  clear hb4
  clear HH3 HB3
  have B4_0 : Blk w4 (w.heap.size) 23 #[.int .i64 ax, .int .i64 ay, .int .i64 az] := HH4.out (w.heap.size, 23, [.int .i64 ax, .int .i64 ay, .int .i64 az]) (by simp)
  have k4_0_0 : w4.cell? ⟨w.heap.size, 0, none⟩ = some (.int .i64 ax) := B4_0.cell 0
  have k4_0_1 : w4.cell? ⟨w.heap.size, 1, none⟩ = some (.int .i64 ay) := B4_0.cell 1
  have k4_0_2 : w4.cell? ⟨w.heap.size, 2, none⟩ = some (.int .i64 az) := B4_0.cell 2
  have z4_0 : w.heap.size < w4.heap.size := B4_0.lt
  clear B4_0
  have B4_1 : Blk w4 (w.heap.size + 1) 23 #[.int .i64 bx, .int .i64 bY, .int .i64 bz] := HH4.out (w.heap.size + 1, 23, [.int .i64 bx, .int .i64 bY, .int .i64 bz]) (by simp)
  have k4_1_0 : w4.cell? ⟨w.heap.size + 1, 0, none⟩ = some (.int .i64 bx) := B4_1.cell 0
  have k4_1_1 : w4.cell? ⟨w.heap.size + 1, 1, none⟩ = some (.int .i64 bY) := B4_1.cell 1
  have k4_1_2 : w4.cell? ⟨w.heap.size + 1, 2, none⟩ = some (.int .i64 bz) := B4_1.cell 2
  have z4_1 : w.heap.size + 1 < w4.heap.size := B4_1.lt
  clear B4_1
  have B4_2 : Blk w4 (w.heap.size + 1 + 1) 23 #[.int .i64 cx, .int .i64 cy, .int .i64 cz] := HH4.out (w.heap.size + 1 + 1, 23, [.int .i64 cx, .int .i64 cy, .int .i64 cz]) (by simp)
  have k4_2_0 : w4.cell? ⟨w.heap.size + 1 + 1, 0, none⟩ = some (.int .i64 cx) := B4_2.cell 0
  have k4_2_1 : w4.cell? ⟨w.heap.size + 1 + 1, 1, none⟩ = some (.int .i64 cy) := B4_2.cell 1
  have k4_2_2 : w4.cell? ⟨w.heap.size + 1 + 1, 2, none⟩ = some (.int .i64 cz) := B4_2.cell 2
  have z4_2 : w.heap.size + 1 + 1 < w4.heap.size := B4_2.lt
  clear B4_2
  have B4_3 : Blk w4 (w2.heap.size) 23 #[.int .i64 sx, .int .i64 sy, .int .i64 sz] := HH4.out (w2.heap.size, 23, [.int .i64 sx, .int .i64 sy, .int .i64 sz]) (by simp)
  have k4_3_0 : w4.cell? ⟨w2.heap.size, 0, none⟩ = some (.int .i64 sx) := B4_3.cell 0
  have k4_3_1 : w4.cell? ⟨w2.heap.size, 1, none⟩ = some (.int .i64 sy) := B4_3.cell 1
  have k4_3_2 : w4.cell? ⟨w2.heap.size, 2, none⟩ = some (.int .i64 sz) := B4_3.cell 2
  have z4_3 : w2.heap.size < w4.heap.size := B4_3.lt
  clear B4_3
  have B4_4 : Blk w4 (w3.heap.size) 23 #[.int .i64 ax, .int .i64 ay, .int .i64 az] := HH4.out (w3.heap.size, 23, [.int .i64 ax, .int .i64 ay, .int .i64 az]) (by simp)
  have k4_4_0 : w4.cell? ⟨w3.heap.size, 0, none⟩ = some (.int .i64 ax) := B4_4.cell 0
  have k4_4_1 : w4.cell? ⟨w3.heap.size, 1, none⟩ = some (.int .i64 ay) := B4_4.cell 1
  have k4_4_2 : w4.cell? ⟨w3.heap.size, 2, none⟩ = some (.int .i64 az) := B4_4.cell 2
  have z4_4 : w3.heap.size < w4.heap.size := B4_4.lt
  clear B4_4
  go_wp2_with fail
  refine (c5.out _).mono ?_
  rintro e w5 ⟨rfl, hb5⟩
  have HH5 := Lib.hid ((HH4.out).below hb5)
  have HB5 := Lib.hid (below_trans (HB4.out) hb5)
  clear k4_0_0 k4_0_1 k4_0_2 z4_0 k4_1_0 k4_1_1 k4_1_2 z4_1 k4_2_0 k4_2_1 k4_2_2 z4_2 k4_3_0 k4_3_1 k4_3_2 z4_3 k4_4_0 k4_4_1 k4_4_2 z4_4
  clear hb5
  clear HH4 HB4
  have B5_0 : Blk w5 (w.heap.size) 23 #[.int .i64 ax, .int .i64 ay, .int .i64 az] := HH5.out (w.heap.size, 23, [.int .i64 ax, .int .i64 ay, .int .i64 az]) (by simp)
  have k5_0_0 : w5.cell? ⟨w.heap.size, 0, none⟩ = some (.int .i64 ax) := B5_0.cell 0
  have k5_0_1 : w5.cell? ⟨w.heap.size, 1, none⟩ = some (.int .i64 ay) := B5_0.cell 1
  have k5_0_2 : w5.cell? ⟨w.heap.size, 2, none⟩ = some (.int .i64 az) := B5_0.cell 2
  have z5_0 : w.heap.size < w5.heap.size := B5_0.lt
  clear B5_0
  have B5_1 : Blk w5 (w.heap.size + 1) 23 #[.int .i64 bx, .int .i64 bY, .int .i64 bz] := HH5.out (w.heap.size + 1, 23, [.int .i64 bx, .int .i64 bY, .int .i64 bz]) (by simp)
  have k5_1_0 : w5.cell? ⟨w.heap.size + 1, 0, none⟩ = some (.int .i64 bx) := B5_1.cell 0
  have k5_1_1 : w5.cell? ⟨w.heap.size + 1, 1, none⟩ = some (.int .i64 bY) := B5_1.cell 1
  have k5_1_2 : w5.cell? ⟨w.heap.size + 1, 2, none⟩ = some (.int .i64 bz) := B5_1.cell 2
  have z5_1 : w.heap.size + 1 < w5.heap.size := B5_1.lt
  clear B5_1
  have B5_2 : Blk w5 (w.heap.size + 1 + 1) 23 #[.int .i64 cx, .int .i64 cy, .int .i64 cz] := HH5.out (w.heap.size + 1 + 1, 23, [.int .i64 cx, .int .i64 cy, .int .i64 cz]) (by simp)
  have k5_2_0 : w5.cell? ⟨w.heap.size + 1 + 1, 0, none⟩ = some (.int .i64 cx) := B5_2.cell 0
  have k5_2_1 : w5.cell? ⟨w.heap.size + 1 + 1, 1, none⟩ = some (.int .i64 cy) := B5_2.cell 1
  have k5_2_2 : w5.cell? ⟨w.heap.size + 1 + 1, 2, none⟩ = some (.int .i64 cz) := B5_2.cell 2
  have z5_2 : w.heap.size + 1 + 1 < w5.heap.size := B5_2.lt
  clear B5_2
  have B5_3 : Blk w5 (w2.heap.size) 23 #[.int .i64 sx, .int .i64 sy, .int .i64 sz] := HH5.out (w2.heap.size, 23, [.int .i64 sx, .int .i64 sy, .int .i64 sz]) (by simp)
  have k5_3_0 : w5.cell? ⟨w2.heap.size, 0, none⟩ = some (.int .i64 sx) := B5_3.cell 0
  have k5_3_1 : w5.cell? ⟨w2.heap.size, 1, none⟩ = some (.int .i64 sy) := B5_3.cell 1
  have k5_3_2 : w5.cell? ⟨w2.heap.size, 2, none⟩ = some (.int .i64 sz) := B5_3.cell 2
  have z5_3 : w2.heap.size < w5.heap.size := B5_3.lt
  clear B5_3
  have B5_4 : Blk w5 (w3.heap.size) 23 #[.int .i64 ax, .int .i64 ay, .int .i64 az] := HH5.out (w3.heap.size, 23, [.int .i64 ax, .int .i64 ay, .int .i64 az]) (by simp)
  have k5_4_0 : w5.cell? ⟨w3.heap.size, 0, none⟩ = some (.int .i64 ax) := B5_4.cell 0
  have k5_4_1 : w5.cell? ⟨w3.heap.size, 1, none⟩ = some (.int .i64 ay) := B5_4.cell 1
  have k5_4_2 : w5.cell? ⟨w3.heap.size, 2, none⟩ = some (.int .i64 az) := B5_4.cell 2
  have z5_4 : w3.heap.size < w5.heap.size := B5_4.lt
  clear B5_4
  go_wp2_with fail
  refine (c6.out _).mono ?_
  rintro e w6 ⟨rfl, hb6⟩
  have HH6 := Lib.hid ((HH5.out).below hb6)
  have HB6 := Lib.hid (below_trans (HB5.out) hb6)
  clear k5_0_0 k5_0_1 k5_0_2 z5_0 k5_1_0 k5_1_1 k5_1_2 z5_1 k5_2_0 k5_2_1 k5_2_2 z5_2 k5_3_0 k5_3_1 k5_3_2 z5_3 k5_4_0 k5_4_1 k5_4_2 z5_4
  clear hb6
  clear HH5 HB5
  have B6_0 : Blk w6 (w.heap.size) 23 #[.int .i64 ax, .int .i64 ay, .int .i64 az] := HH6.out (w.heap.size, 23, [.int .i64 ax, .int .i64 ay, .int .i64 az]) (by simp)
  have k6_0_0 : w6.cell? ⟨w.heap.size, 0, none⟩ = some (.int .i64 ax) := B6_0.cell 0
  have k6_0_1 : w6.cell? ⟨w.heap.size, 1, none⟩ = some (.int .i64 ay) := B6_0.cell 1
  have k6_0_2 : w6.cell? ⟨w.heap.size, 2, none⟩ = some (.int .i64 az) := B6_0.cell 2
  have z6_0 : w.heap.size < w6.heap.size := B6_0.lt
  clear B6_0
  have B6_1 : Blk w6 (w.heap.size + 1) 23 #[.int .i64 bx, .int .i64 bY, .int .i64 bz] := HH6.out (w.heap.size + 1, 23, [.int .i64 bx, .int .i64 bY, .int .i64 bz]) (by simp)
  have k6_1_0 : w6.cell? ⟨w.heap.size + 1, 0, none⟩ = some (.int .i64 bx) := B6_1.cell 0
  have k6_1_1 : w6.cell? ⟨w.heap.size + 1, 1, none⟩ = some (.int .i64 bY) := B6_1.cell 1
  have k6_1_2 : w6.cell? ⟨w.heap.size + 1, 2, none⟩ = some (.int .i64 bz) := B6_1.cell 2
  have z6_1 : w.heap.size + 1 < w6.heap.size := B6_1.lt
  clear B6_1
  have B6_2 : Blk w6 (w.heap.size + 1 + 1) 23 #[.int .i64 cx, .int .i64 cy, .int .i64 cz] := HH6.out (w.heap.size + 1 + 1, 23, [.int .i64 cx, .int .i64 cy, .int .i64 cz]) (by simp)
  have k6_2_0 : w6.cell? ⟨w.heap.size + 1 + 1, 0, none⟩ = some (.int .i64 cx) := B6_2.cell 0
  have k6_2_1 : w6.cell? ⟨w.heap.size + 1 + 1, 1, none⟩ = some (.int .i64 cy) := B6_2.cell 1
  have k6_2_2 : w6.cell? ⟨w.heap.size + 1 + 1, 2, none⟩ = some (.int .i64 cz) := B6_2.cell 2
  have z6_2 : w.heap.size + 1 + 1 < w6.heap.size := B6_2.lt
  clear B6_2
  have B6_3 : Blk w6 (w2.heap.size) 23 #[.int .i64 sx, .int .i64 sy, .int .i64 sz] := HH6.out (w2.heap.size, 23, [.int .i64 sx, .int .i64 sy, .int .i64 sz]) (by simp)
  have k6_3_0 : w6.cell? ⟨w2.heap.size, 0, none⟩ = some (.int .i64 sx) := B6_3.cell 0
  have k6_3_1 : w6.cell? ⟨w2.heap.size, 1, none⟩ = some (.int .i64 sy) := B6_3.cell 1
  have k6_3_2 : w6.cell? ⟨w2.heap.size, 2, none⟩ = some (.int .i64 sz) := B6_3.cell 2
  have z6_3 : w2.heap.size < w6.heap.size := B6_3.lt
  clear B6_3
  have B6_4 : Blk w6 (w3.heap.size) 23 #[.int .i64 ax, .int .i64 ay, .int .i64 az] := HH6.out (w3.heap.size, 23, [.int .i64 ax, .int .i64 ay, .int .i64 az]) (by simp)
  have k6_4_0 : w6.cell? ⟨w3.heap.size, 0, none⟩ = some (.int .i64 ax) := B6_4.cell 0
  have k6_4_1 : w6.cell? ⟨w3.heap.size, 1, none⟩ = some (.int .i64 ay) := B6_4.cell 1
  have k6_4_2 : w6.cell? ⟨w3.heap.size, 2, none⟩ = some (.int .i64 az) := B6_4.cell 2
  have z6_4 : w3.heap.size < w6.heap.size := B6_4.lt
  clear B6_4
  go_wp2_with fail
  refine (c7.out _).mono ?_
  rintro e w7 ⟨rfl, hb7⟩
  have HH7 := Lib.hid (((HH6.out).new (w6.heap.size) 36 [.int .i64 X, .int .i64 Y, .int .i64 Z] rfl).below hb7)
  have HB7 := Lib.hid (below_trans (below_alloc (HB6.out) _) hb7)
  clear k6_0_0 k6_0_1 k6_0_2 z6_0 k6_1_0 k6_1_1 k6_1_2 z6_1 k6_2_0 k6_2_1 k6_2_2 z6_2 k6_3_0 k6_3_1 k6_3_2 z6_3 k6_4_0 k6_4_1 k6_4_2 z6_4
  clear hb7
  clear HH6 HB6
  have B7_0 : Blk w7 (w.heap.size) 23 #[.int .i64 ax, .int .i64 ay, .int .i64 az] := HH7.out (w.heap.size, 23, [.int .i64 ax, .int .i64 ay, .int .i64 az]) (by simp)
  have k7_0_0 : w7.cell? ⟨w.heap.size, 0, none⟩ = some (.int .i64 ax) := B7_0.cell 0
  have k7_0_1 : w7.cell? ⟨w.heap.size, 1, none⟩ = some (.int .i64 ay) := B7_0.cell 1
  have k7_0_2 : w7.cell? ⟨w.heap.size, 2, none⟩ = some (.int .i64 az) := B7_0.cell 2
  have z7_0 : w.heap.size < w7.heap.size := B7_0.lt
  clear B7_0
  have B7_1 : Blk w7 (w.heap.size + 1) 23 #[.int .i64 bx, .int .i64 bY, .int .i64 bz] := HH7.out (w.heap.size + 1, 23, [.int .i64 bx, .int .i64 bY, .int .i64 bz]) (by simp)
  have k7_1_0 : w7.cell? ⟨w.heap.size + 1, 0, none⟩ = some (.int .i64 bx) := B7_1.cell 0
  have k7_1_1 : w7.cell? ⟨w.heap.size + 1, 1, none⟩ = some (.int .i64 bY) := B7_1.cell 1
  have k7_1_2 : w7.cell? ⟨w.heap.size + 1, 2, none⟩ = some (.int .i64 bz) := B7_1.cell 2
  have z7_1 : w.heap.size + 1 < w7.heap.size := B7_1.lt
  clear B7_1
  have B7_2 : Blk w7 (w.heap.size + 1 + 1) 23 #[.int .i64 cx, .int .i64 cy, .int .i64 cz] := HH7.out (w.heap.size + 1 + 1, 23, [.int .i64 cx, .int .i64 cy, .int .i64 cz]) (by simp)
  have k7_2_0 : w7.cell? ⟨w.heap.size + 1 + 1, 0, none⟩ = some (.int .i64 cx) := B7_2.cell 0
  have k7_2_1 : w7.cell? ⟨w.heap.size + 1 + 1, 1, none⟩ = some (.int .i64 cy) := B7_2.cell 1
  have k7_2_2 : w7.cell? ⟨w.heap.size + 1 + 1, 2, none⟩ = some (.int .i64 cz) := B7_2.cell 2
  have z7_2 : w.heap.size + 1 + 1 < w7.heap.size := B7_2.lt
  clear B7_2
  have B7_3 : Blk w7 (w2.heap.size) 23 #[.int .i64 sx, .int .i64 sy, .int .i64 sz] := HH7.out (w2.heap.size, 23, [.int .i64 sx, .int .i64 sy, .int .i64 sz]) (by simp)
  have k7_3_0 : w7.cell? ⟨w2.heap.size, 0, none⟩ = some (.int .i64 sx) := B7_3.cell 0
  have k7_3_1 : w7.cell? ⟨w2.heap.size, 1, none⟩ = some (.int .i64 sy) := B7_3.cell 1
  have k7_3_2 : w7.cell? ⟨w2.heap.size, 2, none⟩ = some (.int .i64 sz) := B7_3.cell 2
  have z7_3 : w2.heap.size < w7.heap.size := B7_3.lt
  clear B7_3
  have B7_4 : Blk w7 (w3.heap.size) 23 #[.int .i64 ax, .int .i64 ay, .int .i64 az] := HH7.out (w3.heap.size, 23, [.int .i64 ax, .int .i64 ay, .int .i64 az]) (by simp)
  have k7_4_0 : w7.cell? ⟨w3.heap.size, 0, none⟩ = some (.int .i64 ax) := B7_4.cell 0
  have k7_4_1 : w7.cell? ⟨w3.heap.size, 1, none⟩ = some (.int .i64 ay) := B7_4.cell 1
  have k7_4_2 : w7.cell? ⟨w3.heap.size, 2, none⟩ = some (.int .i64 az) := B7_4.cell 2
  have z7_4 : w3.heap.size < w7.heap.size := B7_4.lt
  clear B7_4
  have B7_5 : Blk w7 (w6.heap.size) 36 #[.int .i64 X, .int .i64 Y, .int .i64 Z] := HH7.out (w6.heap.size, 36, [.int .i64 X, .int .i64 Y, .int .i64 Z]) (by simp)
  have k7_5_0 : w7.cell? ⟨w6.heap.size, 0, none⟩ = some (.int .i64 X) := B7_5.cell 0
  have k7_5_1 : w7.cell? ⟨w6.heap.size, 1, none⟩ = some (.int .i64 Y) := B7_5.cell 1
  have k7_5_2 : w7.cell? ⟨w6.heap.size, 2, none⟩ = some (.int .i64 Z) := B7_5.cell 2
  have z7_5 : w6.heap.size < w7.heap.size := B7_5.lt
  clear B7_5
  go_wp2_with fail
  refine (c1.out _).mono ?_
  rintro e w8 ⟨rfl, hb8⟩
  have HH8 := Lib.hid (((HH7.out).new (w7.heap.size) 36 [.int .i64 (-X), .int .i64 (-Y), .int .i64 (-Z)] rfl).below hb8)
  have HB8 := Lib.hid (below_trans (below_alloc (HB7.out) _) hb8)
  clear k7_0_0 k7_0_1 k7_0_2 z7_0 k7_1_0 k7_1_1 k7_1_2 z7_1 k7_2_0 k7_2_1 k7_2_2 z7_2 k7_3_0 k7_3_1 k7_3_2 z7_3 k7_4_0 k7_4_1 k7_4_2 z7_4 k7_5_0 k7_5_1 k7_5_2 z7_5
  clear hb8
  clear HH7 HB7
  have B8_0 : Blk w8 (w.heap.size) 23 #[.int .i64 ax, .int .i64 ay, .int .i64 az] := HH8.out (w.heap.size, 23, [.int .i64 ax, .int .i64 ay, .int .i64 az]) (by simp)
  have k8_0_0 : w8.cell? ⟨w.heap.size, 0, none⟩ = some (.int .i64 ax) := B8_0.cell 0
  have k8_0_1 : w8.cell? ⟨w.heap.size, 1, none⟩ = some (.int .i64 ay) := B8_0.cell 1
  have k8_0_2 : w8.cell? ⟨w.heap.size, 2, none⟩ = some (.int .i64 az) := B8_0.cell 2
  have z8_0 : w.heap.size < w8.heap.size := B8_0.lt
  clear B8_0
  have B8_1 : Blk w8 (w.heap.size + 1) 23 #[.int .i64 bx, .int .i64 bY, .int .i64 bz] := HH8.out (w.heap.size + 1, 23, [.int .i64 bx, .int .i64 bY, .int .i64 bz]) (by simp)
  have k8_1_0 : w8.cell? ⟨w.heap.size + 1, 0, none⟩ = some (.int .i64 bx) := B8_1.cell 0
  have k8_1_1 : w8.cell? ⟨w.heap.size + 1, 1, none⟩ = some (.int .i64 bY) := B8_1.cell 1
  have k8_1_2 : w8.cell? ⟨w.heap.size + 1, 2, none⟩ = some (.int .i64 bz) := B8_1.cell 2
  have z8_1 : w.heap.size + 1 < w8.heap.size := B8_1.lt
  clear B8_1
  have B8_2 : Blk w8 (w.heap.size + 1 + 1) 23 #[.int .i64 cx, .int .i64 cy, .int .i64 cz] := HH8.out (w.heap.size + 1 + 1, 23, [.int .i64 cx, .int .i64 cy, .int .i64 cz]) (by simp)
  have k8_2_0 : w8.cell? ⟨w.heap.size + 1 + 1, 0, none⟩ = some (.int .i64 cx) := B8_2.cell 0
  have k8_2_1 : w8.cell? ⟨w.heap.size + 1 + 1, 1, none⟩ = some (.int .i64 cy) := B8_2.cell 1
  have k8_2_2 : w8.cell? ⟨w.heap.size + 1 + 1, 2, none⟩ = some (.int .i64 cz) := B8_2.cell 2
  have z8_2 : w.heap.size + 1 + 1 < w8.heap.size := B8_2.lt
  clear B8_2
  have B8_3 : Blk w8 (w2.heap.size) 23 #[.int .i64 sx, .int .i64 sy, .int .i64 sz] := HH8.out (w2.heap.size, 23, [.int .i64 sx, .int .i64 sy, .int .i64 sz]) (by simp)
  have k8_3_0 : w8.cell? ⟨w2.heap.size, 0, none⟩ = some (.int .i64 sx) := B8_3.cell 0
  have k8_3_1 : w8.cell? ⟨w2.heap.size, 1, none⟩ = some (.int .i64 sy) := B8_3.cell 1
  have k8_3_2 : w8.cell? ⟨w2.heap.size, 2, none⟩ = some (.int .i64 sz) := B8_3.cell 2
  have z8_3 : w2.heap.size < w8.heap.size := B8_3.lt
  clear B8_3
  have B8_4 : Blk w8 (w3.heap.size) 23 #[.int .i64 ax, .int .i64 ay, .int .i64 az] := HH8.out (w3.heap.size, 23, [.int .i64 ax, .int .i64 ay, .int .i64 az]) (by simp)
  have k8_4_0 : w8.cell? ⟨w3.heap.size, 0, none⟩ = some (.int .i64 ax) := B8_4.cell 0
  have k8_4_1 : w8.cell? ⟨w3.heap.size, 1, none⟩ = some (.int .i64 ay) := B8_4.cell 1
  have k8_4_2 : w8.cell? ⟨w3.heap.size, 2, none⟩ = some (.int .i64 az) := B8_4.cell 2
  have z8_4 : w3.heap.size < w8.heap.size := B8_4.lt
  clear B8_4
  have B8_5 : Blk w8 (w6.heap.size) 36 #[.int .i64 X, .int .i64 Y, .int .i64 Z] := HH8.out (w6.heap.size, 36, [.int .i64 X, .int .i64 Y, .int .i64 Z]) (by simp)
  have k8_5_0 : w8.cell? ⟨w6.heap.size, 0, none⟩ = some (.int .i64 X) := B8_5.cell 0
  have k8_5_1 : w8.cell? ⟨w6.heap.size, 1, none⟩ = some (.int .i64 Y) := B8_5.cell 1
  have k8_5_2 : w8.cell? ⟨w6.heap.size, 2, none⟩ = some (.int .i64 Z) := B8_5.cell 2
  have z8_5 : w6.heap.size < w8.heap.size := B8_5.lt
  clear B8_5
  have B8_6 : Blk w8 (w7.heap.size) 36 #[.int .i64 (-X), .int .i64 (-Y), .int .i64 (-Z)] := HH8.out (w7.heap.size, 36, [.int .i64 (-X), .int .i64 (-Y), .int .i64 (-Z)]) (by simp)
  have k8_6_0 : w8.cell? ⟨w7.heap.size, 0, none⟩ = some (.int .i64 (-X)) := B8_6.cell 0
  have k8_6_1 : w8.cell? ⟨w7.heap.size, 1, none⟩ = some (.int .i64 (-Y)) := B8_6.cell 1
  have k8_6_2 : w8.cell? ⟨w7.heap.size, 2, none⟩ = some (.int .i64 (-Z)) := B8_6.cell 2
  have z8_6 : w7.heap.size < w8.heap.size := B8_6.lt
  clear B8_6
  go_wp2_with fail
  refine (c2.out _).mono ?_
  rintro e w9 ⟨rfl, hb9⟩
  have HH9 := Lib.hid (((HH8.out).new (w8.heap.size) 23 [.int .i64 p1, .int .i64 q1, .int .i64 r1] rfl).below hb9)
  have HB9 := Lib.hid (below_trans (below_alloc (HB8.out) _) hb9)
  clear k8_0_0 k8_0_1 k8_0_2 z8_0 k8_1_0 k8_1_1 k8_1_2 z8_1 k8_2_0 k8_2_1 k8_2_2 z8_2 k8_3_0 k8_3_1 k8_3_2 z8_3 k8_4_0 k8_4_1 k8_4_2 z8_4 k8_5_0 k8_5_1 k8_5_2 z8_5 k8_6_0 k8_6_1 k8_6_2 z8_6
  clear hb9
  clear HH8 HB8
  have B9_0 : Blk w9 (w.heap.size) 23 #[.int .i64 ax, .int .i64 ay, .int .i64 az] := HH9.out (w.heap.size, 23, [.int .i64 ax, .int .i64 ay, .int .i64 az]) (by simp)
  have k9_0_0 : w9.cell? ⟨w.heap.size, 0, none⟩ = some (.int .i64 ax) := B9_0.cell 0
  have k9_0_1 : w9.cell? ⟨w.heap.size, 1, none⟩ = some (.int .i64 ay) := B9_0.cell 1
  have k9_0_2 : w9.cell? ⟨w.heap.size, 2, none⟩ = some (.int .i64 az) := B9_0.cell 2
  have z9_0 : w.heap.size < w9.heap.size := B9_0.lt
  clear B9_0
  have B9_1 : Blk w9 (w.heap.size + 1) 23 #[.int .i64 bx, .int .i64 bY, .int .i64 bz] := HH9.out (w.heap.size + 1, 23, [.int .i64 bx, .int .i64 bY, .int .i64 bz]) (by simp)
  have k9_1_0 : w9.cell? ⟨w.heap.size + 1, 0, none⟩ = some (.int .i64 bx) := B9_1.cell 0
  have k9_1_1 : w9.cell? ⟨w.heap.size + 1, 1, none⟩ = some (.int .i64 bY) := B9_1.cell 1
  have k9_1_2 : w9.cell? ⟨w.heap.size + 1, 2, none⟩ = some (.int .i64 bz) := B9_1.cell 2
  have z9_1 : w.heap.size + 1 < w9.heap.size := B9_1.lt
  clear B9_1
  have B9_2 : Blk w9 (w.heap.size + 1 + 1) 23 #[.int .i64 cx, .int .i64 cy, .int .i64 cz] := HH9.out (w.heap.size + 1 + 1, 23, [.int .i64 cx, .int .i64 cy, .int .i64 cz]) (by simp)
  have k9_2_0 : w9.cell? ⟨w.heap.size + 1 + 1, 0, none⟩ = some (.int .i64 cx) := B9_2.cell 0
  have k9_2_1 : w9.cell? ⟨w.heap.size + 1 + 1, 1, none⟩ = some (.int .i64 cy) := B9_2.cell 1
  have k9_2_2 : w9.cell? ⟨w.heap.size + 1 + 1, 2, none⟩ = some (.int .i64 cz) := B9_2.cell 2
  have z9_2 : w.heap.size + 1 + 1 < w9.heap.size := B9_2.lt
  clear B9_2
  have B9_3 : Blk w9 (w2.heap.size) 23 #[.int .i64 sx, .int .i64 sy, .int .i64 sz] := HH9.out (w2.heap.size, 23, [.int .i64 sx, .int .i64 sy, .int .i64 sz]) (by simp)
  have k9_3_0 : w9.cell? ⟨w2.heap.size, 0, none⟩ = some (.int .i64 sx) := B9_3.cell 0
  have k9_3_1 : w9.cell? ⟨w2.heap.size, 1, none⟩ = some (.int .i64 sy) := B9_3.cell 1
  have k9_3_2 : w9.cell? ⟨w2.heap.size, 2, none⟩ = some (.int .i64 sz) := B9_3.cell 2
  have z9_3 : w2.heap.size < w9.heap.size := B9_3.lt
  clear B9_3
  have B9_4 : Blk w9 (w3.heap.size) 23 #[.int .i64 ax, .int .i64 ay, .int .i64 az] := HH9.out (w3.heap.size, 23, [.int .i64 ax, .int .i64 ay, .int .i64 az]) (by simp)
  have k9_4_0 : w9.cell? ⟨w3.heap.size, 0, none⟩ = some (.int .i64 ax) := B9_4.cell 0
  have k9_4_1 : w9.cell? ⟨w3.heap.size, 1, none⟩ = some (.int .i64 ay) := B9_4.cell 1
  have k9_4_2 : w9.cell? ⟨w3.heap.size, 2, none⟩ = some (.int .i64 az) := B9_4.cell 2
  have z9_4 : w3.heap.size < w9.heap.size := B9_4.lt
  clear B9_4
  have B9_5 : Blk w9 (w6.heap.size) 36 #[.int .i64 X, .int .i64 Y, .int .i64 Z] := HH9.out (w6.heap.size, 36, [.int .i64 X, .int .i64 Y, .int .i64 Z]) (by simp)
  have k9_5_0 : w9.cell? ⟨w6.heap.size, 0, none⟩ = some (.int .i64 X) := B9_5.cell 0
  have k9_5_1 : w9.cell? ⟨w6.heap.size, 1, none⟩ = some (.int .i64 Y) := B9_5.cell 1
  have k9_5_2 : w9.cell? ⟨w6.heap.size, 2, none⟩ = some (.int .i64 Z) := B9_5.cell 2
  have z9_5 : w6.heap.size < w9.heap.size := B9_5.lt
  clear B9_5
  have B9_6 : Blk w9 (w7.heap.size) 36 #[.int .i64 (-X), .int .i64 (-Y), .int .i64 (-Z)] := HH9.out (w7.heap.size, 36, [.int .i64 (-X), .int .i64 (-Y), .int .i64 (-Z)]) (by simp)
  have k9_6_0 : w9.cell? ⟨w7.heap.size, 0, none⟩ = some (.int .i64 (-X)) := B9_6.cell 0
  have k9_6_1 : w9.cell? ⟨w7.heap.size, 1, none⟩ = some (.int .i64 (-Y)) := B9_6.cell 1
  have k9_6_2 : w9.cell? ⟨w7.heap.size, 2, none⟩ = some (.int .i64 (-Z)) := B9_6.cell 2
  have z9_6 : w7.heap.size < w9.heap.size := B9_6.lt
  clear B9_6
  have B9_7 : Blk w9 (w8.heap.size) 23 #[.int .i64 p1, .int .i64 q1, .int .i64 r1] := HH9.out (w8.heap.size, 23, [.int .i64 p1, .int .i64 q1, .int .i64 r1]) (by simp)
  have k9_7_0 : w9.cell? ⟨w8.heap.size, 0, none⟩ = some (.int .i64 p1) := B9_7.cell 0
  have k9_7_1 : w9.cell? ⟨w8.heap.size, 1, none⟩ = some (.int .i64 q1) := B9_7.cell 1
  have k9_7_2 : w9.cell? ⟨w8.heap.size, 2, none⟩ = some (.int .i64 r1) := B9_7.cell 2
  have z9_7 : w8.heap.size < w9.heap.size := B9_7.lt
  clear B9_7
  go_upto_region 20 with fail
  have HHq : Blks ((w9).alloc (.cells #[.int .i64 p2, .int .i64 q2, .int .i64 r2] 23)) [(w9.heap.size, 23, [.int .i64 p2, .int .i64 q2, .int .i64 r2]), (w8.heap.size, 23, [.int .i64 p1, .int .i64 q1, .int .i64 r1]), (w7.heap.size, 36, [.int .i64 (-X), .int .i64 (-Y), .int .i64 (-Z)]), (w6.heap.size, 36, [.int .i64 X, .int .i64 Y, .int .i64 Z]), (w3.heap.size, 23, [.int .i64 ax, .int .i64 ay, .int .i64 az]), (w2.heap.size, 23, [.int .i64 sx, .int .i64 sy, .int .i64 sz]), (w.heap.size + 1 + 1, 23, [.int .i64 cx, .int .i64 cy, .int .i64 cz]), (w.heap.size + 1, 23, [.int .i64 bx, .int .i64 bY, .int .i64 bz]), (w.heap.size, 23, [.int .i64 ax, .int .i64 ay, .int .i64 az])] := (HH9.out).new (w9.heap.size) 23 [.int .i64 p2, .int .i64 q2, .int .i64 r2] rfl
  have HBq : Below w.heap.size w ((w9).alloc (.cells #[.int .i64 p2, .int .i64 q2, .int .i64 r2] 23)) := below_alloc (HB9.out) _
  clear k9_0_0 k9_0_1 k9_0_2 z9_0 k9_1_0 k9_1_1 k9_1_2 z9_1 k9_2_0 k9_2_1 k9_2_2 z9_2 k9_3_0 k9_3_1 k9_3_2 z9_3 k9_4_0 k9_4_1 k9_4_2 z9_4 k9_5_0 k9_5_1 k9_5_2 z9_5 k9_6_0 k9_6_1 k9_6_2 z9_6 k9_7_0 k9_7_1 k9_7_2 z9_7
  clear HH9 HB9
  obtain ⟨w10, hw10⟩ : ∃ w10 : World, w10 = (w9).alloc (.cells #[.int .i64 p2, .int .i64 q2, .int .i64 r2] 23) := ⟨_, rfl⟩
  rw [← hw10] at HHq HBq ⊢
  have HH10 := Lib.hid HHq
  have HB10 := Lib.hid HBq
  clear hw10 HHq HBq
  have B10_0 : Blk w10 (w.heap.size) 23 #[.int .i64 ax, .int .i64 ay, .int .i64 az] := HH10.out (w.heap.size, 23, [.int .i64 ax, .int .i64 ay, .int .i64 az]) (by simp)
  have k10_0_0 : w10.cell? ⟨w.heap.size, 0, none⟩ = some (.int .i64 ax) := B10_0.cell 0
  have k10_0_1 : w10.cell? ⟨w.heap.size, 1, none⟩ = some (.int .i64 ay) := B10_0.cell 1
  have k10_0_2 : w10.cell? ⟨w.heap.size, 2, none⟩ = some (.int .i64 az) := B10_0.cell 2
  have z10_0 : w.heap.size < w10.heap.size := B10_0.lt
  clear B10_0
  have B10_1 : Blk w10 (w.heap.size + 1) 23 #[.int .i64 bx, .int .i64 bY, .int .i64 bz] := HH10.out (w.heap.size + 1, 23, [.int .i64 bx, .int .i64 bY, .int .i64 bz]) (by simp)
  have k10_1_0 : w10.cell? ⟨w.heap.size + 1, 0, none⟩ = some (.int .i64 bx) := B10_1.cell 0
  have k10_1_1 : w10.cell? ⟨w.heap.size + 1, 1, none⟩ = some (.int .i64 bY) := B10_1.cell 1
  have k10_1_2 : w10.cell? ⟨w.heap.size + 1, 2, none⟩ = some (.int .i64 bz) := B10_1.cell 2
  have z10_1 : w.heap.size + 1 < w10.heap.size := B10_1.lt
  clear B10_1
  have B10_2 : Blk w10 (w.heap.size + 1 + 1) 23 #[.int .i64 cx, .int .i64 cy, .int .i64 cz] := HH10.out (w.heap.size + 1 + 1, 23, [.int .i64 cx, .int .i64 cy, .int .i64 cz]) (by simp)
  have k10_2_0 : w10.cell? ⟨w.heap.size + 1 + 1, 0, none⟩ = some (.int .i64 cx) := B10_2.cell 0
  have k10_2_1 : w10.cell? ⟨w.heap.size + 1 + 1, 1, none⟩ = some (.int .i64 cy) := B10_2.cell 1
  have k10_2_2 : w10.cell? ⟨w.heap.size + 1 + 1, 2, none⟩ = some (.int .i64 cz) := B10_2.cell 2
  have z10_2 : w.heap.size + 1 + 1 < w10.heap.size := B10_2.lt
  clear B10_2
  have B10_3 : Blk w10 (w2.heap.size) 23 #[.int .i64 sx, .int .i64 sy, .int .i64 sz] := HH10.out (w2.heap.size, 23, [.int .i64 sx, .int .i64 sy, .int .i64 sz]) (by simp)
  have k10_3_0 : w10.cell? ⟨w2.heap.size, 0, none⟩ = some (.int .i64 sx) := B10_3.cell 0
  have k10_3_1 : w10.cell? ⟨w2.heap.size, 1, none⟩ = some (.int .i64 sy) := B10_3.cell 1
  have k10_3_2 : w10.cell? ⟨w2.heap.size, 2, none⟩ = some (.int .i64 sz) := B10_3.cell 2
  have z10_3 : w2.heap.size < w10.heap.size := B10_3.lt
  clear B10_3
  have B10_4 : Blk w10 (w3.heap.size) 23 #[.int .i64 ax, .int .i64 ay, .int .i64 az] := HH10.out (w3.heap.size, 23, [.int .i64 ax, .int .i64 ay, .int .i64 az]) (by simp)
  have k10_4_0 : w10.cell? ⟨w3.heap.size, 0, none⟩ = some (.int .i64 ax) := B10_4.cell 0
  have k10_4_1 : w10.cell? ⟨w3.heap.size, 1, none⟩ = some (.int .i64 ay) := B10_4.cell 1
  have k10_4_2 : w10.cell? ⟨w3.heap.size, 2, none⟩ = some (.int .i64 az) := B10_4.cell 2
  have z10_4 : w3.heap.size < w10.heap.size := B10_4.lt
  clear B10_4
  have B10_5 : Blk w10 (w6.heap.size) 36 #[.int .i64 X, .int .i64 Y, .int .i64 Z] := HH10.out (w6.heap.size, 36, [.int .i64 X, .int .i64 Y, .int .i64 Z]) (by simp)
  have k10_5_0 : w10.cell? ⟨w6.heap.size, 0, none⟩ = some (.int .i64 X) := B10_5.cell 0
  have k10_5_1 : w10.cell? ⟨w6.heap.size, 1, none⟩ = some (.int .i64 Y) := B10_5.cell 1
  have k10_5_2 : w10.cell? ⟨w6.heap.size, 2, none⟩ = some (.int .i64 Z) := B10_5.cell 2
  have z10_5 : w6.heap.size < w10.heap.size := B10_5.lt
  clear B10_5
  have B10_6 : Blk w10 (w7.heap.size) 36 #[.int .i64 (-X), .int .i64 (-Y), .int .i64 (-Z)] := HH10.out (w7.heap.size, 36, [.int .i64 (-X), .int .i64 (-Y), .int .i64 (-Z)]) (by simp)
  have k10_6_0 : w10.cell? ⟨w7.heap.size, 0, none⟩ = some (.int .i64 (-X)) := B10_6.cell 0
  have k10_6_1 : w10.cell? ⟨w7.heap.size, 1, none⟩ = some (.int .i64 (-Y)) := B10_6.cell 1
  have k10_6_2 : w10.cell? ⟨w7.heap.size, 2, none⟩ = some (.int .i64 (-Z)) := B10_6.cell 2
  have z10_6 : w7.heap.size < w10.heap.size := B10_6.lt
  clear B10_6
  have B10_7 : Blk w10 (w8.heap.size) 23 #[.int .i64 p1, .int .i64 q1, .int .i64 r1] := HH10.out (w8.heap.size, 23, [.int .i64 p1, .int .i64 q1, .int .i64 r1]) (by simp)
  have k10_7_0 : w10.cell? ⟨w8.heap.size, 0, none⟩ = some (.int .i64 p1) := B10_7.cell 0
  have k10_7_1 : w10.cell? ⟨w8.heap.size, 1, none⟩ = some (.int .i64 q1) := B10_7.cell 1
  have k10_7_2 : w10.cell? ⟨w8.heap.size, 2, none⟩ = some (.int .i64 r1) := B10_7.cell 2
  have z10_7 : w8.heap.size < w10.heap.size := B10_7.lt
  clear B10_7
  have B10_8 : Blk w10 (w9.heap.size) 23 #[.int .i64 p2, .int .i64 q2, .int .i64 r2] := HH10.out (w9.heap.size, 23, [.int .i64 p2, .int .i64 q2, .int .i64 r2]) (by simp)
  have k10_8_0 : w10.cell? ⟨w9.heap.size, 0, none⟩ = some (.int .i64 p2) := B10_8.cell 0
  have k10_8_1 : w10.cell? ⟨w9.heap.size, 1, none⟩ = some (.int .i64 q2) := B10_8.cell 1
  have k10_8_2 : w10.cell? ⟨w9.heap.size, 2, none⟩ = some (.int .i64 r2) := B10_8.cell 2
  have z10_8 : w9.heap.size < w10.heap.size := B10_8.lt
  clear B10_8
  by_cases he1 : e1 = 0
  · by_cases he2 : e2 = 0
    · obtain ⟨h1, x1, x2, x3⟩ := K1.out he1
      obtain ⟨h2, x4, x5, x6⟩ := K2.out he2
      have c10 := Lib.hid (D1.out h1 h2)
      clear K1 K2 D1 h1 h2
      subst he1 he2 x1 x2 x3 x4 x5 x6
      go_wp2_with fail
      refine (c8.out _).mono ?_
      rintro e w11 ⟨rfl, hb11⟩
      have HH11 := Lib.hid ((HH10.out).below hb11)
      have HB11 := Lib.hid (below_trans (HB10.out) hb11)
      clear k10_0_0 k10_0_1 k10_0_2 z10_0 k10_1_0 k10_1_1 k10_1_2 z10_1 k10_2_0 k10_2_1 k10_2_2 z10_2 k10_3_0 k10_3_1 k10_3_2 z10_3 k10_4_0 k10_4_1 k10_4_2 z10_4 k10_5_0 k10_5_1 k10_5_2 z10_5 k10_6_0 k10_6_1 k10_6_2 z10_6 k10_7_0 k10_7_1 k10_7_2 z10_7 k10_8_0 k10_8_1 k10_8_2 z10_8
      clear hb11
      clear HH10 HB10
      have B11_0 : Blk w11 (w.heap.size) 23 #[.int .i64 ax, .int .i64 ay, .int .i64 az] := HH11.out (w.heap.size, 23, [.int .i64 ax, .int .i64 ay, .int .i64 az]) (by simp)
      have k11_0_0 : w11.cell? ⟨w.heap.size, 0, none⟩ = some (.int .i64 ax) := B11_0.cell 0
      have k11_0_1 : w11.cell? ⟨w.heap.size, 1, none⟩ = some (.int .i64 ay) := B11_0.cell 1
      have k11_0_2 : w11.cell? ⟨w.heap.size, 2, none⟩ = some (.int .i64 az) := B11_0.cell 2
      have z11_0 : w.heap.size < w11.heap.size := B11_0.lt
      clear B11_0
      have B11_1 : Blk w11 (w.heap.size + 1) 23 #[.int .i64 bx, .int .i64 bY, .int .i64 bz] := HH11.out (w.heap.size + 1, 23, [.int .i64 bx, .int .i64 bY, .int .i64 bz]) (by simp)
      have k11_1_0 : w11.cell? ⟨w.heap.size + 1, 0, none⟩ = some (.int .i64 bx) := B11_1.cell 0
      have k11_1_1 : w11.cell? ⟨w.heap.size + 1, 1, none⟩ = some (.int .i64 bY) := B11_1.cell 1
      have k11_1_2 : w11.cell? ⟨w.heap.size + 1, 2, none⟩ = some (.int .i64 bz) := B11_1.cell 2
      have z11_1 : w.heap.size + 1 < w11.heap.size := B11_1.lt
      clear B11_1
      have B11_2 : Blk w11 (w.heap.size + 1 + 1) 23 #[.int .i64 cx, .int .i64 cy, .int .i64 cz] := HH11.out (w.heap.size + 1 + 1, 23, [.int .i64 cx, .int .i64 cy, .int .i64 cz]) (by simp)
      have k11_2_0 : w11.cell? ⟨w.heap.size + 1 + 1, 0, none⟩ = some (.int .i64 cx) := B11_2.cell 0
      have k11_2_1 : w11.cell? ⟨w.heap.size + 1 + 1, 1, none⟩ = some (.int .i64 cy) := B11_2.cell 1
      have k11_2_2 : w11.cell? ⟨w.heap.size + 1 + 1, 2, none⟩ = some (.int .i64 cz) := B11_2.cell 2
      have z11_2 : w.heap.size + 1 + 1 < w11.heap.size := B11_2.lt
      clear B11_2
      have B11_3 : Blk w11 (w2.heap.size) 23 #[.int .i64 sx, .int .i64 sy, .int .i64 sz] := HH11.out (w2.heap.size, 23, [.int .i64 sx, .int .i64 sy, .int .i64 sz]) (by simp)
      have k11_3_0 : w11.cell? ⟨w2.heap.size, 0, none⟩ = some (.int .i64 sx) := B11_3.cell 0
      have k11_3_1 : w11.cell? ⟨w2.heap.size, 1, none⟩ = some (.int .i64 sy) := B11_3.cell 1
      have k11_3_2 : w11.cell? ⟨w2.heap.size, 2, none⟩ = some (.int .i64 sz) := B11_3.cell 2
      have z11_3 : w2.heap.size < w11.heap.size := B11_3.lt
      clear B11_3
      have B11_4 : Blk w11 (w3.heap.size) 23 #[.int .i64 ax, .int .i64 ay, .int .i64 az] := HH11.out (w3.heap.size, 23, [.int .i64 ax, .int .i64 ay, .int .i64 az]) (by simp)
      have k11_4_0 : w11.cell? ⟨w3.heap.size, 0, none⟩ = some (.int .i64 ax) := B11_4.cell 0
      have k11_4_1 : w11.cell? ⟨w3.heap.size, 1, none⟩ = some (.int .i64 ay) := B11_4.cell 1
      have k11_4_2 : w11.cell? ⟨w3.heap.size, 2, none⟩ = some (.int .i64 az) := B11_4.cell 2
      have z11_4 : w3.heap.size < w11.heap.size := B11_4.lt
      clear B11_4
      have B11_5 : Blk w11 (w6.heap.size) 36 #[.int .i64 X, .int .i64 Y, .int .i64 Z] := HH11.out (w6.heap.size, 36, [.int .i64 X, .int .i64 Y, .int .i64 Z]) (by simp)
      have k11_5_0 : w11.cell? ⟨w6.heap.size, 0, none⟩ = some (.int .i64 X) := B11_5.cell 0
      have k11_5_1 : w11.cell? ⟨w6.heap.size, 1, none⟩ = some (.int .i64 Y) := B11_5.cell 1
      have k11_5_2 : w11.cell? ⟨w6.heap.size, 2, none⟩ = some (.int .i64 Z) := B11_5.cell 2
      have z11_5 : w6.heap.size < w11.heap.size := B11_5.lt
      clear B11_5
      have B11_6 : Blk w11 (w7.heap.size) 36 #[.int .i64 (-X), .int .i64 (-Y), .int .i64 (-Z)] := HH11.out (w7.heap.size, 36, [.int .i64 (-X), .int .i64 (-Y), .int .i64 (-Z)]) (by simp)
      have k11_6_0 : w11.cell? ⟨w7.heap.size, 0, none⟩ = some (.int .i64 (-X)) := B11_6.cell 0
      have k11_6_1 : w11.cell? ⟨w7.heap.size, 1, none⟩ = some (.int .i64 (-Y)) := B11_6.cell 1
      have k11_6_2 : w11.cell? ⟨w7.heap.size, 2, none⟩ = some (.int .i64 (-Z)) := B11_6.cell 2
      have z11_6 : w7.heap.size < w11.heap.size := B11_6.lt
      clear B11_6
      have B11_7 : Blk w11 (w8.heap.size) 23 #[.int .i64 (ax + cx), .int .i64 (ay + cy), .int .i64 (az + cz)] := HH11.out (w8.heap.size, 23, [.int .i64 (ax + cx), .int .i64 (ay + cy), .int .i64 (az + cz)]) (by simp)
      have k11_7_0 : w11.cell? ⟨w8.heap.size, 0, none⟩ = some (.int .i64 (ax + cx)) := B11_7.cell 0
      have k11_7_1 : w11.cell? ⟨w8.heap.size, 1, none⟩ = some (.int .i64 (ay + cy)) := B11_7.cell 1
      have k11_7_2 : w11.cell? ⟨w8.heap.size, 2, none⟩ = some (.int .i64 (az + cz)) := B11_7.cell 2
      have z11_7 : w8.heap.size < w11.heap.size := B11_7.lt
      clear B11_7
      have B11_8 : Blk w11 (w9.heap.size) 23 #[.int .i64 (bx + cx), .int .i64 (bY + cy), .int .i64 (bz + cz)] := HH11.out (w9.heap.size, 23, [.int .i64 (bx + cx), .int .i64 (bY + cy), .int .i64 (bz + cz)]) (by simp)
      have k11_8_0 : w11.cell? ⟨w9.heap.size, 0, none⟩ = some (.int .i64 (bx + cx)) := B11_8.cell 0
      have k11_8_1 : w11.cell? ⟨w9.heap.size, 1, none⟩ = some (.int .i64 (bY + cy)) := B11_8.cell 1
      have k11_8_2 : w11.cell? ⟨w9.heap.size, 2, none⟩ = some (.int .i64 (bz + cz)) := B11_8.cell 2
      have z11_8 : w9.heap.size < w11.heap.size := B11_8.lt
      clear B11_8
      go_wp2_with fail
      refine (c10.out _).mono ?_
      rintro e w12 ⟨rfl, hb12⟩
      have HH12 := Lib.hid ((HH11.out).below hb12)
      have HB12 := Lib.hid (below_trans (HB11.out) hb12)
      clear k11_0_0 k11_0_1 k11_0_2 z11_0 k11_1_0 k11_1_1 k11_1_2 z11_1 k11_2_0 k11_2_1 k11_2_2 z11_2 k11_3_0 k11_3_1 k11_3_2 z11_3 k11_4_0 k11_4_1 k11_4_2 z11_4 k11_5_0 k11_5_1 k11_5_2 z11_5 k11_6_0 k11_6_1 k11_6_2 z11_6 k11_7_0 k11_7_1 k11_7_2 z11_7 k11_8_0 k11_8_1 k11_8_2 z11_8
      clear hb12
      clear HH11 HB11
      have B12_0 : Blk w12 (w.heap.size) 23 #[.int .i64 ax, .int .i64 ay, .int .i64 az] := HH12.out (w.heap.size, 23, [.int .i64 ax, .int .i64 ay, .int .i64 az]) (by simp)
      have k12_0_0 : w12.cell? ⟨w.heap.size, 0, none⟩ = some (.int .i64 ax) := B12_0.cell 0
      have k12_0_1 : w12.cell? ⟨w.heap.size, 1, none⟩ = some (.int .i64 ay) := B12_0.cell 1
      have k12_0_2 : w12.cell? ⟨w.heap.size, 2, none⟩ = some (.int .i64 az) := B12_0.cell 2
      have z12_0 : w.heap.size < w12.heap.size := B12_0.lt
      clear B12_0
      have B12_1 : Blk w12 (w.heap.size + 1) 23 #[.int .i64 bx, .int .i64 bY, .int .i64 bz] := HH12.out (w.heap.size + 1, 23, [.int .i64 bx, .int .i64 bY, .int .i64 bz]) (by simp)
      have k12_1_0 : w12.cell? ⟨w.heap.size + 1, 0, none⟩ = some (.int .i64 bx) := B12_1.cell 0
      have k12_1_1 : w12.cell? ⟨w.heap.size + 1, 1, none⟩ = some (.int .i64 bY) := B12_1.cell 1
      have k12_1_2 : w12.cell? ⟨w.heap.size + 1, 2, none⟩ = some (.int .i64 bz) := B12_1.cell 2
      have z12_1 : w.heap.size + 1 < w12.heap.size := B12_1.lt
      clear B12_1
      have B12_2 : Blk w12 (w.heap.size + 1 + 1) 23 #[.int .i64 cx, .int .i64 cy, .int .i64 cz] := HH12.out (w.heap.size + 1 + 1, 23, [.int .i64 cx, .int .i64 cy, .int .i64 cz]) (by simp)
      have k12_2_0 : w12.cell? ⟨w.heap.size + 1 + 1, 0, none⟩ = some (.int .i64 cx) := B12_2.cell 0
      have k12_2_1 : w12.cell? ⟨w.heap.size + 1 + 1, 1, none⟩ = some (.int .i64 cy) := B12_2.cell 1
      have k12_2_2 : w12.cell? ⟨w.heap.size + 1 + 1, 2, none⟩ = some (.int .i64 cz) := B12_2.cell 2
      have z12_2 : w.heap.size + 1 + 1 < w12.heap.size := B12_2.lt
      clear B12_2
      have B12_3 : Blk w12 (w2.heap.size) 23 #[.int .i64 sx, .int .i64 sy, .int .i64 sz] := HH12.out (w2.heap.size, 23, [.int .i64 sx, .int .i64 sy, .int .i64 sz]) (by simp)
      have k12_3_0 : w12.cell? ⟨w2.heap.size, 0, none⟩ = some (.int .i64 sx) := B12_3.cell 0
      have k12_3_1 : w12.cell? ⟨w2.heap.size, 1, none⟩ = some (.int .i64 sy) := B12_3.cell 1
      have k12_3_2 : w12.cell? ⟨w2.heap.size, 2, none⟩ = some (.int .i64 sz) := B12_3.cell 2
      have z12_3 : w2.heap.size < w12.heap.size := B12_3.lt
      clear B12_3
      have B12_4 : Blk w12 (w3.heap.size) 23 #[.int .i64 ax, .int .i64 ay, .int .i64 az] := HH12.out (w3.heap.size, 23, [.int .i64 ax, .int .i64 ay, .int .i64 az]) (by simp)
      have k12_4_0 : w12.cell? ⟨w3.heap.size, 0, none⟩ = some (.int .i64 ax) := B12_4.cell 0
      have k12_4_1 : w12.cell? ⟨w3.heap.size, 1, none⟩ = some (.int .i64 ay) := B12_4.cell 1
      have k12_4_2 : w12.cell? ⟨w3.heap.size, 2, none⟩ = some (.int .i64 az) := B12_4.cell 2
      have z12_4 : w3.heap.size < w12.heap.size := B12_4.lt
      clear B12_4
      have B12_5 : Blk w12 (w6.heap.size) 36 #[.int .i64 X, .int .i64 Y, .int .i64 Z] := HH12.out (w6.heap.size, 36, [.int .i64 X, .int .i64 Y, .int .i64 Z]) (by simp)
      have k12_5_0 : w12.cell? ⟨w6.heap.size, 0, none⟩ = some (.int .i64 X) := B12_5.cell 0
      have k12_5_1 : w12.cell? ⟨w6.heap.size, 1, none⟩ = some (.int .i64 Y) := B12_5.cell 1
      have k12_5_2 : w12.cell? ⟨w6.heap.size, 2, none⟩ = some (.int .i64 Z) := B12_5.cell 2
      have z12_5 : w6.heap.size < w12.heap.size := B12_5.lt
      clear B12_5
      have B12_6 : Blk w12 (w7.heap.size) 36 #[.int .i64 (-X), .int .i64 (-Y), .int .i64 (-Z)] := HH12.out (w7.heap.size, 36, [.int .i64 (-X), .int .i64 (-Y), .int .i64 (-Z)]) (by simp)
      have k12_6_0 : w12.cell? ⟨w7.heap.size, 0, none⟩ = some (.int .i64 (-X)) := B12_6.cell 0
      have k12_6_1 : w12.cell? ⟨w7.heap.size, 1, none⟩ = some (.int .i64 (-Y)) := B12_6.cell 1
      have k12_6_2 : w12.cell? ⟨w7.heap.size, 2, none⟩ = some (.int .i64 (-Z)) := B12_6.cell 2
      have z12_6 : w7.heap.size < w12.heap.size := B12_6.lt
      clear B12_6
      have B12_7 : Blk w12 (w8.heap.size) 23 #[.int .i64 (ax + cx), .int .i64 (ay + cy), .int .i64 (az + cz)] := HH12.out (w8.heap.size, 23, [.int .i64 (ax + cx), .int .i64 (ay + cy), .int .i64 (az + cz)]) (by simp)
      have k12_7_0 : w12.cell? ⟨w8.heap.size, 0, none⟩ = some (.int .i64 (ax + cx)) := B12_7.cell 0
      have k12_7_1 : w12.cell? ⟨w8.heap.size, 1, none⟩ = some (.int .i64 (ay + cy)) := B12_7.cell 1
      have k12_7_2 : w12.cell? ⟨w8.heap.size, 2, none⟩ = some (.int .i64 (az + cz)) := B12_7.cell 2
      have z12_7 : w8.heap.size < w12.heap.size := B12_7.lt
      clear B12_7
      have B12_8 : Blk w12 (w9.heap.size) 23 #[.int .i64 (bx + cx), .int .i64 (bY + cy), .int .i64 (bz + cz)] := HH12.out (w9.heap.size, 23, [.int .i64 (bx + cx), .int .i64 (bY + cy), .int .i64 (bz + cz)]) (by simp)
      have k12_8_0 : w12.cell? ⟨w9.heap.size, 0, none⟩ = some (.int .i64 (bx + cx)) := B12_8.cell 0
      have k12_8_1 : w12.cell? ⟨w9.heap.size, 1, none⟩ = some (.int .i64 (bY + cy)) := B12_8.cell 1
      have k12_8_2 : w12.cell? ⟨w9.heap.size, 2, none⟩ = some (.int .i64 (bz + cz)) := B12_8.cell 2
      have z12_8 : w9.heap.size < w12.heap.size := B12_8.lt
      clear B12_8
      go_wp2
      go_returns
      exact ⟨rfl, by repeat (first | with_reducible exact HB12.out | with_reducible refine Below.drew ?_ | with_reducible refine below_drewN ?_ _ | with_reducible refine below_set ?_ (by have := HB12.out.size; simp <;> omega) _ | with_reducible refine below_alloc ?_ _)⟩
    · have t2 : (e2 != 0) = true := by simp [he2]
      subst he1
      clear K1 K2 D1 he2
      go_wp2
      go_returns
      exact ⟨rfl, by repeat (first | with_reducible exact HB10.out | with_reducible refine Below.drew ?_ | with_reducible refine below_drewN ?_ _ | with_reducible refine below_set ?_ (by simp <;> omega) _ | with_reducible refine below_alloc ?_ _)⟩
  · have t1 : (e1 != 0) = true := by simp [he1]
    clear K1 K2 D1 he1
    go_wp2
    go_returns
    exact ⟨rfl, by repeat (first | with_reducible exact HB10.out | with_reducible refine Below.drew ?_ | with_reducible refine below_drewN ?_ _ | with_reducible refine below_set ?_ (by simp <;> omega) _ | with_reducible refine below_alloc ?_ _)⟩
end Go.Proofs.Ytkfdbhhchnbjdaa.Ve
