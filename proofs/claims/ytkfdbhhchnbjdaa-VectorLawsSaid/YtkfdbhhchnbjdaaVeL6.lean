/- The walk of VectorLaws. -/
import Derived.Test.YtkfdbhhchnbjdaaVeL3a
namespace Go.Proofs.Ytkfdbhhchnbjdaa.Ve
open Go.RowKit Ba
set_option linter.unusedVariables false

theorem ortho (a b c d e f : Int) : a * (b * f - c * e) + b * (c * d - a * f) + c * (a * e - b * d) = 0 := by grind
theorem ortho2 (a b c d e f : Int) : d * (b * f - c * e) + e * (c * d - a * f) + f * (a * e - b * d) = 0 := by grind
theorem mul18 {a b : Int} (h1 : -1000000 ≤ a ∧ a ≤ 1000000) (h2 : -2000000000000 ≤ b ∧ b ≤ 2000000000000) : -2000000000000000000 ≤ a * b ∧ a * b ≤ 2000000000000000000 := mul_bd 1000000 2000000000000 h1.1 h1.2 h2.1 h2.2
theorem crb {a b c d : Int} (h1 : -1000000 ≤ a ∧ a ≤ 1000000) (h2 : -1000000 ≤ b ∧ b ≤ 1000000) (h3 : -1000000 ≤ c ∧ c ≤ 1000000) (h4 : -1000000 ≤ d ∧ d ≤ 1000000) : -2000000000000 ≤ a * b - c * d ∧ a * b - c * d ≤ 2000000000000 := by
  have := mul6 h1 h2
  have := mul6 h3 h4
  omega
set_option maxRecDepth 100000 in
set_option maxHeartbeats 3200000 in
theorem laws_out (ax ay az bx bY bz cx cy cz : Int) (h : ¬ (in3 ax ay az = true ∧ in3 bx bY bz = true)) (w : World) : Calls Try.prog 8 #[.agg #[.int .i64 ax, .int .i64 ay, .int .i64 az], .agg #[.int .i64 bx, .int .i64 bY, .int .i64 bz], .agg #[.int .i64 cx, .int .i64 cy, .int .i64 cz]] w fun e w' => e = .returned (.bool true) ∧ Below w.heap.size w w' := by
  have c0 := Lib.hid fun W => awake_any W
  obtain ⟨p1, q1, r1, e1, a1, f1, f2, f3⟩ := add_ex ax ay az cx cy cz
  obtain ⟨p2, q2, r2, e2, a2, g1, g2, g3⟩ := add_ex bx bY bz cx cy cz
  have c1 := Lib.hid a1
  have c2 := Lib.hid a2
  have gv := fun x y xs ys W => vec_guard .neq x y xs ys W
  obtain ⟨p0, q0, r0, e0, a0, k1, _, _⟩ := add_ex ax ay az bx bY bz
  obtain ⟨rfl, rfl, rfl, rfl⟩ := k1 h
  have c3 := Lib.hid a0
  have c4 := Lib.hid fun W => dot_no ax ay az bx bY bz h W
  have c5 := Lib.hid fun W => dot_no bx bY bz ax ay az (fun hh => h ⟨hh.2, hh.1⟩) W
  have c6 := Lib.hid fun W => cross_no ax ay az bx bY bz h W
  have c7 := Lib.hid fun W => cross_no bx bY bz ax ay az (fun hh => h ⟨hh.2, hh.1⟩) W
  have HE : Hid (e1 = 0 → e2 ≠ 0) := Lib.hid (fun he1 he2 => by
    have u1 : in3 ax ay az = true ∧ in3 cx cy cz = true := Classical.byContradiction fun hh => by have := (f1 hh).2.2.2; omega
    have u2 : in3 bx bY bz = true ∧ in3 cx cy cz = true := Classical.byContradiction fun hh => by have := (g1 hh).2.2.2; omega
    exact h ⟨u1.1, u2.1⟩)
  clear a1 a2 a0 f1 f2 f3 g1 g2 g3 k1 h
  go_enter Try.func8, Try.ntmps8
  go_wp2_with fail
  refine (c0.out _).mono ?_
  rintro e w1 ⟨rfl, hb1⟩
  have HH1 := Lib.hid ((((((Blks.nil (w := w))).new (w.heap.size) 23 [.int .i64 ax, .int .i64 ay, .int .i64 az] rfl).new (w.heap.size + 1) 23 [.int .i64 bx, .int .i64 bY, .int .i64 bz] (by simp)).new (w.heap.size + 1 + 1) 23 [.int .i64 cx, .int .i64 cy, .int .i64 cz] (by simp)).below hb1)
  have HB1 := Lib.hid (below_trans (below_alloc (below_alloc (below_alloc (Below.refl _ _) _) _) _) hb1)
  clear hb1
  have B1_0 : Blk w1 (w.heap.size) 23 #[.int .i64 ax, .int .i64 ay, .int .i64 az] := HH1.out (w.heap.size, 23, [.int .i64 ax, .int .i64 ay, .int .i64 az]) (by simp)
  have k1_0_0 : w1.cell? ⟨w.heap.size, 0, none⟩ = some (.int .i64 ax) := B1_0.cell 0
  have k1_0_1 : w1.cell? ⟨w.heap.size, 1, none⟩ = some (.int .i64 ay) := B1_0.cell 1
  have k1_0_2 : w1.cell? ⟨w.heap.size, 2, none⟩ = some (.int .i64 az) := B1_0.cell 2
  have z1_0 : w.heap.size < w1.heap.size := B1_0.lt
  clear B1_0
  have B1_1 : Blk w1 (w.heap.size + 1) 23 #[.int .i64 bx, .int .i64 bY, .int .i64 bz] := HH1.out (w.heap.size + 1, 23, [.int .i64 bx, .int .i64 bY, .int .i64 bz]) (by simp)
  have k1_1_0 : w1.cell? ⟨w.heap.size + 1, 0, none⟩ = some (.int .i64 bx) := B1_1.cell 0
  have k1_1_1 : w1.cell? ⟨w.heap.size + 1, 1, none⟩ = some (.int .i64 bY) := B1_1.cell 1
  have k1_1_2 : w1.cell? ⟨w.heap.size + 1, 2, none⟩ = some (.int .i64 bz) := B1_1.cell 2
  have z1_1 : w.heap.size + 1 < w1.heap.size := B1_1.lt
  clear B1_1
  have B1_2 : Blk w1 (w.heap.size + 1 + 1) 23 #[.int .i64 cx, .int .i64 cy, .int .i64 cz] := HH1.out (w.heap.size + 1 + 1, 23, [.int .i64 cx, .int .i64 cy, .int .i64 cz]) (by simp)
  have k1_2_0 : w1.cell? ⟨w.heap.size + 1 + 1, 0, none⟩ = some (.int .i64 cx) := B1_2.cell 0
  have k1_2_1 : w1.cell? ⟨w.heap.size + 1 + 1, 1, none⟩ = some (.int .i64 cy) := B1_2.cell 1
  have k1_2_2 : w1.cell? ⟨w.heap.size + 1 + 1, 2, none⟩ = some (.int .i64 cz) := B1_2.cell 2
  have z1_2 : w.heap.size + 1 + 1 < w1.heap.size := B1_2.lt
  clear B1_2
  go_wp2_with fail
  refine (c3.out _).mono ?_
  rintro e w2 ⟨rfl, hb2⟩
  have HH2 := Lib.hid ((HH1.out).below hb2)
  have HB2 := Lib.hid (below_trans (HB1.out) hb2)
  clear k1_0_0 k1_0_1 k1_0_2 z1_0 k1_1_0 k1_1_1 k1_1_2 z1_1 k1_2_0 k1_2_1 k1_2_2 z1_2
  clear hb2
  clear HH1 HB1
  have B2_0 : Blk w2 (w.heap.size) 23 #[.int .i64 ax, .int .i64 ay, .int .i64 az] := HH2.out (w.heap.size, 23, [.int .i64 ax, .int .i64 ay, .int .i64 az]) (by simp)
  have k2_0_0 : w2.cell? ⟨w.heap.size, 0, none⟩ = some (.int .i64 ax) := B2_0.cell 0
  have k2_0_1 : w2.cell? ⟨w.heap.size, 1, none⟩ = some (.int .i64 ay) := B2_0.cell 1
  have k2_0_2 : w2.cell? ⟨w.heap.size, 2, none⟩ = some (.int .i64 az) := B2_0.cell 2
  have z2_0 : w.heap.size < w2.heap.size := B2_0.lt
  clear B2_0
  have B2_1 : Blk w2 (w.heap.size + 1) 23 #[.int .i64 bx, .int .i64 bY, .int .i64 bz] := HH2.out (w.heap.size + 1, 23, [.int .i64 bx, .int .i64 bY, .int .i64 bz]) (by simp)
  have k2_1_0 : w2.cell? ⟨w.heap.size + 1, 0, none⟩ = some (.int .i64 bx) := B2_1.cell 0
  have k2_1_1 : w2.cell? ⟨w.heap.size + 1, 1, none⟩ = some (.int .i64 bY) := B2_1.cell 1
  have k2_1_2 : w2.cell? ⟨w.heap.size + 1, 2, none⟩ = some (.int .i64 bz) := B2_1.cell 2
  have z2_1 : w.heap.size + 1 < w2.heap.size := B2_1.lt
  clear B2_1
  have B2_2 : Blk w2 (w.heap.size + 1 + 1) 23 #[.int .i64 cx, .int .i64 cy, .int .i64 cz] := HH2.out (w.heap.size + 1 + 1, 23, [.int .i64 cx, .int .i64 cy, .int .i64 cz]) (by simp)
  have k2_2_0 : w2.cell? ⟨w.heap.size + 1 + 1, 0, none⟩ = some (.int .i64 cx) := B2_2.cell 0
  have k2_2_1 : w2.cell? ⟨w.heap.size + 1 + 1, 1, none⟩ = some (.int .i64 cy) := B2_2.cell 1
  have k2_2_2 : w2.cell? ⟨w.heap.size + 1 + 1, 2, none⟩ = some (.int .i64 cz) := B2_2.cell 2
  have z2_2 : w.heap.size + 1 + 1 < w2.heap.size := B2_2.lt
  clear B2_2
  go_wp2_with fail
  refine (c4.out _).mono ?_
  rintro e w3 ⟨rfl, hb3⟩
  have HH3 := Lib.hid (((HH2.out).new (w2.heap.size) 23 [.int .i64 0, .int .i64 0, .int .i64 0] rfl).below hb3)
  have HB3 := Lib.hid (below_trans (below_alloc (HB2.out) _) hb3)
  clear k2_0_0 k2_0_1 k2_0_2 z2_0 k2_1_0 k2_1_1 k2_1_2 z2_1 k2_2_0 k2_2_1 k2_2_2 z2_2
  clear hb3
  clear HH2 HB2
  have B3_0 : Blk w3 (w.heap.size) 23 #[.int .i64 ax, .int .i64 ay, .int .i64 az] := HH3.out (w.heap.size, 23, [.int .i64 ax, .int .i64 ay, .int .i64 az]) (by simp)
  have k3_0_0 : w3.cell? ⟨w.heap.size, 0, none⟩ = some (.int .i64 ax) := B3_0.cell 0
  have k3_0_1 : w3.cell? ⟨w.heap.size, 1, none⟩ = some (.int .i64 ay) := B3_0.cell 1
  have k3_0_2 : w3.cell? ⟨w.heap.size, 2, none⟩ = some (.int .i64 az) := B3_0.cell 2
  have z3_0 : w.heap.size < w3.heap.size := B3_0.lt
  clear B3_0
  have B3_1 : Blk w3 (w.heap.size + 1) 23 #[.int .i64 bx, .int .i64 bY, .int .i64 bz] := HH3.out (w.heap.size + 1, 23, [.int .i64 bx, .int .i64 bY, .int .i64 bz]) (by simp)
  have k3_1_0 : w3.cell? ⟨w.heap.size + 1, 0, none⟩ = some (.int .i64 bx) := B3_1.cell 0
  have k3_1_1 : w3.cell? ⟨w.heap.size + 1, 1, none⟩ = some (.int .i64 bY) := B3_1.cell 1
  have k3_1_2 : w3.cell? ⟨w.heap.size + 1, 2, none⟩ = some (.int .i64 bz) := B3_1.cell 2
  have z3_1 : w.heap.size + 1 < w3.heap.size := B3_1.lt
  clear B3_1
  have B3_2 : Blk w3 (w.heap.size + 1 + 1) 23 #[.int .i64 cx, .int .i64 cy, .int .i64 cz] := HH3.out (w.heap.size + 1 + 1, 23, [.int .i64 cx, .int .i64 cy, .int .i64 cz]) (by simp)
  have k3_2_0 : w3.cell? ⟨w.heap.size + 1 + 1, 0, none⟩ = some (.int .i64 cx) := B3_2.cell 0
  have k3_2_1 : w3.cell? ⟨w.heap.size + 1 + 1, 1, none⟩ = some (.int .i64 cy) := B3_2.cell 1
  have k3_2_2 : w3.cell? ⟨w.heap.size + 1 + 1, 2, none⟩ = some (.int .i64 cz) := B3_2.cell 2
  have z3_2 : w.heap.size + 1 + 1 < w3.heap.size := B3_2.lt
  clear B3_2
  have B3_3 : Blk w3 (w2.heap.size) 23 #[.int .i64 0, .int .i64 0, .int .i64 0] := HH3.out (w2.heap.size, 23, [.int .i64 0, .int .i64 0, .int .i64 0]) (by simp)
  have k3_3_0 : w3.cell? ⟨w2.heap.size, 0, none⟩ = some (.int .i64 0) := B3_3.cell 0
  have k3_3_1 : w3.cell? ⟨w2.heap.size, 1, none⟩ = some (.int .i64 0) := B3_3.cell 1
  have k3_3_2 : w3.cell? ⟨w2.heap.size, 2, none⟩ = some (.int .i64 0) := B3_3.cell 2
  have z3_3 : w2.heap.size < w3.heap.size := B3_3.lt
  clear B3_3
  go_wp2_with fail
  refine (c5.out _).mono ?_
  rintro e w4 ⟨rfl, hb4⟩
  have HH4 := Lib.hid ((HH3.out).below hb4)
  have HB4 := Lib.hid (below_trans (HB3.out) hb4)
  clear k3_0_0 k3_0_1 k3_0_2 z3_0 k3_1_0 k3_1_1 k3_1_2 z3_1 k3_2_0 k3_2_1 k3_2_2 z3_2 k3_3_0 k3_3_1 k3_3_2 z3_3
  clear hb4
  clear HH3 HB3
  have B4_0 : Blk w4 (w.heap.size) 23 #[.int .i64 ax, .int .i64 ay, .int .i64 az] := HH4.out (w.heap.size, 23, [.int .i64 ax, .int .i64 ay, .int .i64 az]) (by simp)
  have k4_0_0 : w4.cell? ⟨w.heap.size, 0, none⟩ = some (.int .i64 ax) := B4_0.cell 0
  have k4_0_1 : w4.cell? ⟨w.heap.size, 1, none⟩ = some (.int .i64 ay) := B4_0.cell 1
  have k4_0_2 : w4.cell? ⟨w.heap.size, 2, none⟩ = some (.int .i64 az) := B4_0.cell 2
  have z4_0 : w.heap.size < w4.heap.size := B4_0.lt
  clear B4_0
  have B4_1 : Blk w4 (w.heap.size + 1) 23 #[.int .i64 bx, .int .i64 bY, .int .i64 bz] := HH4.out (w.heap.size + 1, 23, [.int .i64 bx, .int .i64 bY, .int .i64 bz]) (by simp)
  have k4_1_0 : w4.cell? ⟨w.heap.size + 1, 0, none⟩ = some (.int .i64 bx) := B4_1.cell 0
  have k4_1_1 : w4.cell? ⟨w.heap.size + 1, 1, none⟩ = some (.int .i64 bY) := B4_1.cell 1
  have k4_1_2 : w4.cell? ⟨w.heap.size + 1, 2, none⟩ = some (.int .i64 bz) := B4_1.cell 2
  have z4_1 : w.heap.size + 1 < w4.heap.size := B4_1.lt
  clear B4_1
  have B4_2 : Blk w4 (w.heap.size + 1 + 1) 23 #[.int .i64 cx, .int .i64 cy, .int .i64 cz] := HH4.out (w.heap.size + 1 + 1, 23, [.int .i64 cx, .int .i64 cy, .int .i64 cz]) (by simp)
  have k4_2_0 : w4.cell? ⟨w.heap.size + 1 + 1, 0, none⟩ = some (.int .i64 cx) := B4_2.cell 0
  have k4_2_1 : w4.cell? ⟨w.heap.size + 1 + 1, 1, none⟩ = some (.int .i64 cy) := B4_2.cell 1
  have k4_2_2 : w4.cell? ⟨w.heap.size + 1 + 1, 2, none⟩ = some (.int .i64 cz) := B4_2.cell 2
  have z4_2 : w.heap.size + 1 + 1 < w4.heap.size := B4_2.lt
  clear B4_2
  have B4_3 : Blk w4 (w2.heap.size) 23 #[.int .i64 0, .int .i64 0, .int .i64 0] := HH4.out (w2.heap.size, 23, [.int .i64 0, .int .i64 0, .int .i64 0]) (by simp)
  have k4_3_0 : w4.cell? ⟨w2.heap.size, 0, none⟩ = some (.int .i64 0) := B4_3.cell 0
  have k4_3_1 : w4.cell? ⟨w2.heap.size, 1, none⟩ = some (.int .i64 0) := B4_3.cell 1
  have k4_3_2 : w4.cell? ⟨w2.heap.size, 2, none⟩ = some (.int .i64 0) := B4_3.cell 2
  have z4_3 : w2.heap.size < w4.heap.size := B4_3.lt
  clear B4_3
  go_wp2_with fail
  refine (c6.out _).mono ?_
  rintro e w5 ⟨rfl, hb5⟩
  have HH5 := Lib.hid ((HH4.out).below hb5)
  have HB5 := Lib.hid (below_trans (HB4.out) hb5)
  clear k4_0_0 k4_0_1 k4_0_2 z4_0 k4_1_0 k4_1_1 k4_1_2 z4_1 k4_2_0 k4_2_1 k4_2_2 z4_2 k4_3_0 k4_3_1 k4_3_2 z4_3
  clear hb5
  clear HH4 HB4
  have B5_0 : Blk w5 (w.heap.size) 23 #[.int .i64 ax, .int .i64 ay, .int .i64 az] := HH5.out (w.heap.size, 23, [.int .i64 ax, .int .i64 ay, .int .i64 az]) (by simp)
  have k5_0_0 : w5.cell? ⟨w.heap.size, 0, none⟩ = some (.int .i64 ax) := B5_0.cell 0
  have k5_0_1 : w5.cell? ⟨w.heap.size, 1, none⟩ = some (.int .i64 ay) := B5_0.cell 1
  have k5_0_2 : w5.cell? ⟨w.heap.size, 2, none⟩ = some (.int .i64 az) := B5_0.cell 2
  have z5_0 : w.heap.size < w5.heap.size := B5_0.lt
  clear B5_0
  have B5_1 : Blk w5 (w.heap.size + 1) 23 #[.int .i64 bx, .int .i64 bY, .int .i64 bz] := HH5.out (w.heap.size + 1, 23, [.int .i64 bx, .int .i64 bY, .int .i64 bz]) (by simp)
  have k5_1_0 : w5.cell? ⟨w.heap.size + 1, 0, none⟩ = some (.int .i64 bx) := B5_1.cell 0
  have k5_1_1 : w5.cell? ⟨w.heap.size + 1, 1, none⟩ = some (.int .i64 bY) := B5_1.cell 1
  have k5_1_2 : w5.cell? ⟨w.heap.size + 1, 2, none⟩ = some (.int .i64 bz) := B5_1.cell 2
  have z5_1 : w.heap.size + 1 < w5.heap.size := B5_1.lt
  clear B5_1
  have B5_2 : Blk w5 (w.heap.size + 1 + 1) 23 #[.int .i64 cx, .int .i64 cy, .int .i64 cz] := HH5.out (w.heap.size + 1 + 1, 23, [.int .i64 cx, .int .i64 cy, .int .i64 cz]) (by simp)
  have k5_2_0 : w5.cell? ⟨w.heap.size + 1 + 1, 0, none⟩ = some (.int .i64 cx) := B5_2.cell 0
  have k5_2_1 : w5.cell? ⟨w.heap.size + 1 + 1, 1, none⟩ = some (.int .i64 cy) := B5_2.cell 1
  have k5_2_2 : w5.cell? ⟨w.heap.size + 1 + 1, 2, none⟩ = some (.int .i64 cz) := B5_2.cell 2
  have z5_2 : w.heap.size + 1 + 1 < w5.heap.size := B5_2.lt
  clear B5_2
  have B5_3 : Blk w5 (w2.heap.size) 23 #[.int .i64 0, .int .i64 0, .int .i64 0] := HH5.out (w2.heap.size, 23, [.int .i64 0, .int .i64 0, .int .i64 0]) (by simp)
  have k5_3_0 : w5.cell? ⟨w2.heap.size, 0, none⟩ = some (.int .i64 0) := B5_3.cell 0
  have k5_3_1 : w5.cell? ⟨w2.heap.size, 1, none⟩ = some (.int .i64 0) := B5_3.cell 1
  have k5_3_2 : w5.cell? ⟨w2.heap.size, 2, none⟩ = some (.int .i64 0) := B5_3.cell 2
  have z5_3 : w2.heap.size < w5.heap.size := B5_3.lt
  clear B5_3
  go_wp2_with fail
  refine (c7.out _).mono ?_
  rintro e w6 ⟨rfl, hb6⟩
  have HH6 := Lib.hid (((HH5.out).new (w5.heap.size) 36 [.int .i64 0, .int .i64 0, .int .i64 0] rfl).below hb6)
  have HB6 := Lib.hid (below_trans (below_alloc (HB5.out) _) hb6)
  clear k5_0_0 k5_0_1 k5_0_2 z5_0 k5_1_0 k5_1_1 k5_1_2 z5_1 k5_2_0 k5_2_1 k5_2_2 z5_2 k5_3_0 k5_3_1 k5_3_2 z5_3
  clear hb6
  clear HH5 HB5
  have B6_0 : Blk w6 (w.heap.size) 23 #[.int .i64 ax, .int .i64 ay, .int .i64 az] := HH6.out (w.heap.size, 23, [.int .i64 ax, .int .i64 ay, .int .i64 az]) (by simp)
  have k6_0_0 : w6.cell? ⟨w.heap.size, 0, none⟩ = some (.int .i64 ax) := B6_0.cell 0
  have k6_0_1 : w6.cell? ⟨w.heap.size, 1, none⟩ = some (.int .i64 ay) := B6_0.cell 1
  have k6_0_2 : w6.cell? ⟨w.heap.size, 2, none⟩ = some (.int .i64 az) := B6_0.cell 2
  have z6_0 : w.heap.size < w6.heap.size := B6_0.lt
  clear B6_0
  have B6_1 : Blk w6 (w.heap.size + 1) 23 #[.int .i64 bx, .int .i64 bY, .int .i64 bz] := HH6.out (w.heap.size + 1, 23, [.int .i64 bx, .int .i64 bY, .int .i64 bz]) (by simp)
  have k6_1_0 : w6.cell? ⟨w.heap.size + 1, 0, none⟩ = some (.int .i64 bx) := B6_1.cell 0
  have k6_1_1 : w6.cell? ⟨w.heap.size + 1, 1, none⟩ = some (.int .i64 bY) := B6_1.cell 1
  have k6_1_2 : w6.cell? ⟨w.heap.size + 1, 2, none⟩ = some (.int .i64 bz) := B6_1.cell 2
  have z6_1 : w.heap.size + 1 < w6.heap.size := B6_1.lt
  clear B6_1
  have B6_2 : Blk w6 (w.heap.size + 1 + 1) 23 #[.int .i64 cx, .int .i64 cy, .int .i64 cz] := HH6.out (w.heap.size + 1 + 1, 23, [.int .i64 cx, .int .i64 cy, .int .i64 cz]) (by simp)
  have k6_2_0 : w6.cell? ⟨w.heap.size + 1 + 1, 0, none⟩ = some (.int .i64 cx) := B6_2.cell 0
  have k6_2_1 : w6.cell? ⟨w.heap.size + 1 + 1, 1, none⟩ = some (.int .i64 cy) := B6_2.cell 1
  have k6_2_2 : w6.cell? ⟨w.heap.size + 1 + 1, 2, none⟩ = some (.int .i64 cz) := B6_2.cell 2
  have z6_2 : w.heap.size + 1 + 1 < w6.heap.size := B6_2.lt
  clear B6_2
  have B6_3 : Blk w6 (w2.heap.size) 23 #[.int .i64 0, .int .i64 0, .int .i64 0] := HH6.out (w2.heap.size, 23, [.int .i64 0, .int .i64 0, .int .i64 0]) (by simp)
  have k6_3_0 : w6.cell? ⟨w2.heap.size, 0, none⟩ = some (.int .i64 0) := B6_3.cell 0
  have k6_3_1 : w6.cell? ⟨w2.heap.size, 1, none⟩ = some (.int .i64 0) := B6_3.cell 1
  have k6_3_2 : w6.cell? ⟨w2.heap.size, 2, none⟩ = some (.int .i64 0) := B6_3.cell 2
  have z6_3 : w2.heap.size < w6.heap.size := B6_3.lt
  clear B6_3
  have B6_4 : Blk w6 (w5.heap.size) 36 #[.int .i64 0, .int .i64 0, .int .i64 0] := HH6.out (w5.heap.size, 36, [.int .i64 0, .int .i64 0, .int .i64 0]) (by simp)
  have k6_4_0 : w6.cell? ⟨w5.heap.size, 0, none⟩ = some (.int .i64 0) := B6_4.cell 0
  have k6_4_1 : w6.cell? ⟨w5.heap.size, 1, none⟩ = some (.int .i64 0) := B6_4.cell 1
  have k6_4_2 : w6.cell? ⟨w5.heap.size, 2, none⟩ = some (.int .i64 0) := B6_4.cell 2
  have z6_4 : w5.heap.size < w6.heap.size := B6_4.lt
  clear B6_4
  go_wp2_with fail
  refine (c1.out _).mono ?_
  rintro e w7 ⟨rfl, hb7⟩
  have HH7 := Lib.hid (((HH6.out).new (w6.heap.size) 36 [.int .i64 0, .int .i64 0, .int .i64 0] rfl).below hb7)
  have HB7 := Lib.hid (below_trans (below_alloc (HB6.out) _) hb7)
  clear k6_0_0 k6_0_1 k6_0_2 z6_0 k6_1_0 k6_1_1 k6_1_2 z6_1 k6_2_0 k6_2_1 k6_2_2 z6_2 k6_3_0 k6_3_1 k6_3_2 z6_3 k6_4_0 k6_4_1 k6_4_2 z6_4
  clear hb7
  clear HH6 HB6
  have B7_0 : Blk w7 (w.heap.size) 23 #[.int .i64 ax, .int .i64 ay, .int .i64 az] := HH7.out (w.heap.size, 23, [.int .i64 ax, .int .i64 ay, .int .i64 az]) (by simp)
  have k7_0_0 : w7.cell? ⟨w.heap.size, 0, none⟩ = some (.int .i64 ax) := B7_0.cell 0
  have k7_0_1 : w7.cell? ⟨w.heap.size, 1, none⟩ = some (.int .i64 ay) := B7_0.cell 1
  have k7_0_2 : w7.cell? ⟨w.heap.size, 2, none⟩ = some (.int .i64 az) := B7_0.cell 2
  have z7_0 : w.heap.size < w7.heap.size := B7_0.lt
  clear B7_0
  have B7_1 : Blk w7 (w.heap.size + 1) 23 #[.int .i64 bx, .int .i64 bY, .int .i64 bz] := HH7.out (w.heap.size + 1, 23, [.int .i64 bx, .int .i64 bY, .int .i64 bz]) (by simp)
  have k7_1_0 : w7.cell? ⟨w.heap.size + 1, 0, none⟩ = some (.int .i64 bx) := B7_1.cell 0
  have k7_1_1 : w7.cell? ⟨w.heap.size + 1, 1, none⟩ = some (.int .i64 bY) := B7_1.cell 1
  have k7_1_2 : w7.cell? ⟨w.heap.size + 1, 2, none⟩ = some (.int .i64 bz) := B7_1.cell 2
  have z7_1 : w.heap.size + 1 < w7.heap.size := B7_1.lt
  clear B7_1
  have B7_2 : Blk w7 (w.heap.size + 1 + 1) 23 #[.int .i64 cx, .int .i64 cy, .int .i64 cz] := HH7.out (w.heap.size + 1 + 1, 23, [.int .i64 cx, .int .i64 cy, .int .i64 cz]) (by simp)
  have k7_2_0 : w7.cell? ⟨w.heap.size + 1 + 1, 0, none⟩ = some (.int .i64 cx) := B7_2.cell 0
  have k7_2_1 : w7.cell? ⟨w.heap.size + 1 + 1, 1, none⟩ = some (.int .i64 cy) := B7_2.cell 1
  have k7_2_2 : w7.cell? ⟨w.heap.size + 1 + 1, 2, none⟩ = some (.int .i64 cz) := B7_2.cell 2
  have z7_2 : w.heap.size + 1 + 1 < w7.heap.size := B7_2.lt
  clear B7_2
  have B7_3 : Blk w7 (w2.heap.size) 23 #[.int .i64 0, .int .i64 0, .int .i64 0] := HH7.out (w2.heap.size, 23, [.int .i64 0, .int .i64 0, .int .i64 0]) (by simp)
  have k7_3_0 : w7.cell? ⟨w2.heap.size, 0, none⟩ = some (.int .i64 0) := B7_3.cell 0
  have k7_3_1 : w7.cell? ⟨w2.heap.size, 1, none⟩ = some (.int .i64 0) := B7_3.cell 1
  have k7_3_2 : w7.cell? ⟨w2.heap.size, 2, none⟩ = some (.int .i64 0) := B7_3.cell 2
  have z7_3 : w2.heap.size < w7.heap.size := B7_3.lt
  clear B7_3
  have B7_4 : Blk w7 (w5.heap.size) 36 #[.int .i64 0, .int .i64 0, .int .i64 0] := HH7.out (w5.heap.size, 36, [.int .i64 0, .int .i64 0, .int .i64 0]) (by simp)
  have k7_4_0 : w7.cell? ⟨w5.heap.size, 0, none⟩ = some (.int .i64 0) := B7_4.cell 0
  have k7_4_1 : w7.cell? ⟨w5.heap.size, 1, none⟩ = some (.int .i64 0) := B7_4.cell 1
  have k7_4_2 : w7.cell? ⟨w5.heap.size, 2, none⟩ = some (.int .i64 0) := B7_4.cell 2
  have z7_4 : w5.heap.size < w7.heap.size := B7_4.lt
  clear B7_4
  have B7_5 : Blk w7 (w6.heap.size) 36 #[.int .i64 0, .int .i64 0, .int .i64 0] := HH7.out (w6.heap.size, 36, [.int .i64 0, .int .i64 0, .int .i64 0]) (by simp)
  have k7_5_0 : w7.cell? ⟨w6.heap.size, 0, none⟩ = some (.int .i64 0) := B7_5.cell 0
  have k7_5_1 : w7.cell? ⟨w6.heap.size, 1, none⟩ = some (.int .i64 0) := B7_5.cell 1
  have k7_5_2 : w7.cell? ⟨w6.heap.size, 2, none⟩ = some (.int .i64 0) := B7_5.cell 2
  have z7_5 : w6.heap.size < w7.heap.size := B7_5.lt
  clear B7_5
  go_wp2_with fail
  refine (c2.out _).mono ?_
  rintro e w8 ⟨rfl, hb8⟩
  have HH8 := Lib.hid (((HH7.out).new (w7.heap.size) 23 [.int .i64 p1, .int .i64 q1, .int .i64 r1] rfl).below hb8)
  have HB8 := Lib.hid (below_trans (below_alloc (HB7.out) _) hb8)
  clear k7_0_0 k7_0_1 k7_0_2 z7_0 k7_1_0 k7_1_1 k7_1_2 z7_1 k7_2_0 k7_2_1 k7_2_2 z7_2 k7_3_0 k7_3_1 k7_3_2 z7_3 k7_4_0 k7_4_1 k7_4_2 z7_4 k7_5_0 k7_5_1 k7_5_2 z7_5
  clear hb8
  clear HH7 HB7
  have B8_0 : Blk w8 (w.heap.size) 23 #[.int .i64 ax, .int .i64 ay, .int .i64 az] := HH8.out (w.heap.size, 23, [.int .i64 ax, .int .i64 ay, .int .i64 az]) (by simp)
  have k8_0_0 : w8.cell? ⟨w.heap.size, 0, none⟩ = some (.int .i64 ax) := B8_0.cell 0
  have k8_0_1 : w8.cell? ⟨w.heap.size, 1, none⟩ = some (.int .i64 ay) := B8_0.cell 1
  have k8_0_2 : w8.cell? ⟨w.heap.size, 2, none⟩ = some (.int .i64 az) := B8_0.cell 2
  have z8_0 : w.heap.size < w8.heap.size := B8_0.lt
  clear B8_0
  have B8_1 : Blk w8 (w.heap.size + 1) 23 #[.int .i64 bx, .int .i64 bY, .int .i64 bz] := HH8.out (w.heap.size + 1, 23, [.int .i64 bx, .int .i64 bY, .int .i64 bz]) (by simp)
  have k8_1_0 : w8.cell? ⟨w.heap.size + 1, 0, none⟩ = some (.int .i64 bx) := B8_1.cell 0
  have k8_1_1 : w8.cell? ⟨w.heap.size + 1, 1, none⟩ = some (.int .i64 bY) := B8_1.cell 1
  have k8_1_2 : w8.cell? ⟨w.heap.size + 1, 2, none⟩ = some (.int .i64 bz) := B8_1.cell 2
  have z8_1 : w.heap.size + 1 < w8.heap.size := B8_1.lt
  clear B8_1
  have B8_2 : Blk w8 (w.heap.size + 1 + 1) 23 #[.int .i64 cx, .int .i64 cy, .int .i64 cz] := HH8.out (w.heap.size + 1 + 1, 23, [.int .i64 cx, .int .i64 cy, .int .i64 cz]) (by simp)
  have k8_2_0 : w8.cell? ⟨w.heap.size + 1 + 1, 0, none⟩ = some (.int .i64 cx) := B8_2.cell 0
  have k8_2_1 : w8.cell? ⟨w.heap.size + 1 + 1, 1, none⟩ = some (.int .i64 cy) := B8_2.cell 1
  have k8_2_2 : w8.cell? ⟨w.heap.size + 1 + 1, 2, none⟩ = some (.int .i64 cz) := B8_2.cell 2
  have z8_2 : w.heap.size + 1 + 1 < w8.heap.size := B8_2.lt
  clear B8_2
  have B8_3 : Blk w8 (w2.heap.size) 23 #[.int .i64 0, .int .i64 0, .int .i64 0] := HH8.out (w2.heap.size, 23, [.int .i64 0, .int .i64 0, .int .i64 0]) (by simp)
  have k8_3_0 : w8.cell? ⟨w2.heap.size, 0, none⟩ = some (.int .i64 0) := B8_3.cell 0
  have k8_3_1 : w8.cell? ⟨w2.heap.size, 1, none⟩ = some (.int .i64 0) := B8_3.cell 1
  have k8_3_2 : w8.cell? ⟨w2.heap.size, 2, none⟩ = some (.int .i64 0) := B8_3.cell 2
  have z8_3 : w2.heap.size < w8.heap.size := B8_3.lt
  clear B8_3
  have B8_4 : Blk w8 (w5.heap.size) 36 #[.int .i64 0, .int .i64 0, .int .i64 0] := HH8.out (w5.heap.size, 36, [.int .i64 0, .int .i64 0, .int .i64 0]) (by simp)
  have k8_4_0 : w8.cell? ⟨w5.heap.size, 0, none⟩ = some (.int .i64 0) := B8_4.cell 0
  have k8_4_1 : w8.cell? ⟨w5.heap.size, 1, none⟩ = some (.int .i64 0) := B8_4.cell 1
  have k8_4_2 : w8.cell? ⟨w5.heap.size, 2, none⟩ = some (.int .i64 0) := B8_4.cell 2
  have z8_4 : w5.heap.size < w8.heap.size := B8_4.lt
  clear B8_4
  have B8_5 : Blk w8 (w6.heap.size) 36 #[.int .i64 0, .int .i64 0, .int .i64 0] := HH8.out (w6.heap.size, 36, [.int .i64 0, .int .i64 0, .int .i64 0]) (by simp)
  have k8_5_0 : w8.cell? ⟨w6.heap.size, 0, none⟩ = some (.int .i64 0) := B8_5.cell 0
  have k8_5_1 : w8.cell? ⟨w6.heap.size, 1, none⟩ = some (.int .i64 0) := B8_5.cell 1
  have k8_5_2 : w8.cell? ⟨w6.heap.size, 2, none⟩ = some (.int .i64 0) := B8_5.cell 2
  have z8_5 : w6.heap.size < w8.heap.size := B8_5.lt
  clear B8_5
  have B8_6 : Blk w8 (w7.heap.size) 23 #[.int .i64 p1, .int .i64 q1, .int .i64 r1] := HH8.out (w7.heap.size, 23, [.int .i64 p1, .int .i64 q1, .int .i64 r1]) (by simp)
  have k8_6_0 : w8.cell? ⟨w7.heap.size, 0, none⟩ = some (.int .i64 p1) := B8_6.cell 0
  have k8_6_1 : w8.cell? ⟨w7.heap.size, 1, none⟩ = some (.int .i64 q1) := B8_6.cell 1
  have k8_6_2 : w8.cell? ⟨w7.heap.size, 2, none⟩ = some (.int .i64 r1) := B8_6.cell 2
  have z8_6 : w7.heap.size < w8.heap.size := B8_6.lt
  clear B8_6
  go_upto_region 20 with fail
  have HHq : Blks ((w8).alloc (.cells #[.int .i64 p2, .int .i64 q2, .int .i64 r2] 23)) [(w8.heap.size, 23, [.int .i64 p2, .int .i64 q2, .int .i64 r2]), (w7.heap.size, 23, [.int .i64 p1, .int .i64 q1, .int .i64 r1]), (w6.heap.size, 36, [.int .i64 0, .int .i64 0, .int .i64 0]), (w5.heap.size, 36, [.int .i64 0, .int .i64 0, .int .i64 0]), (w2.heap.size, 23, [.int .i64 0, .int .i64 0, .int .i64 0]), (w.heap.size + 1 + 1, 23, [.int .i64 cx, .int .i64 cy, .int .i64 cz]), (w.heap.size + 1, 23, [.int .i64 bx, .int .i64 bY, .int .i64 bz]), (w.heap.size, 23, [.int .i64 ax, .int .i64 ay, .int .i64 az])] := (HH8.out).new (w8.heap.size) 23 [.int .i64 p2, .int .i64 q2, .int .i64 r2] rfl
  have HBq : Below w.heap.size w ((w8).alloc (.cells #[.int .i64 p2, .int .i64 q2, .int .i64 r2] 23)) := below_alloc (HB8.out) _
  clear k8_0_0 k8_0_1 k8_0_2 z8_0 k8_1_0 k8_1_1 k8_1_2 z8_1 k8_2_0 k8_2_1 k8_2_2 z8_2 k8_3_0 k8_3_1 k8_3_2 z8_3 k8_4_0 k8_4_1 k8_4_2 z8_4 k8_5_0 k8_5_1 k8_5_2 z8_5 k8_6_0 k8_6_1 k8_6_2 z8_6
  clear HH8 HB8
  obtain ⟨w9, hw9⟩ : ∃ w9 : World, w9 = (w8).alloc (.cells #[.int .i64 p2, .int .i64 q2, .int .i64 r2] 23) := ⟨_, rfl⟩
  rw [← hw9] at HHq HBq ⊢
  have HH9 := Lib.hid HHq
  have HB9 := Lib.hid HBq
  clear hw9 HHq HBq
  have B9_0 : Blk w9 (w.heap.size) 23 #[.int .i64 ax, .int .i64 ay, .int .i64 az] := HH9.out (w.heap.size, 23, [.int .i64 ax, .int .i64 ay, .int .i64 az]) (by simp)
  have k9_0_0 : w9.cell? ⟨w.heap.size, 0, none⟩ = some (.int .i64 ax) := B9_0.cell 0
  have k9_0_1 : w9.cell? ⟨w.heap.size, 1, none⟩ = some (.int .i64 ay) := B9_0.cell 1
  have k9_0_2 : w9.cell? ⟨w.heap.size, 2, none⟩ = some (.int .i64 az) := B9_0.cell 2
  have z9_0 : w.heap.size < w9.heap.size := B9_0.lt
  clear B9_0
  have B9_1 : Blk w9 (w.heap.size + 1) 23 #[.int .i64 bx, .int .i64 bY, .int .i64 bz] := HH9.out (w.heap.size + 1, 23, [.int .i64 bx, .int .i64 bY, .int .i64 bz]) (by simp)
  have k9_1_0 : w9.cell? ⟨w.heap.size + 1, 0, none⟩ = some (.int .i64 bx) := B9_1.cell 0
  have k9_1_1 : w9.cell? ⟨w.heap.size + 1, 1, none⟩ = some (.int .i64 bY) := B9_1.cell 1
  have k9_1_2 : w9.cell? ⟨w.heap.size + 1, 2, none⟩ = some (.int .i64 bz) := B9_1.cell 2
  have z9_1 : w.heap.size + 1 < w9.heap.size := B9_1.lt
  clear B9_1
  have B9_2 : Blk w9 (w.heap.size + 1 + 1) 23 #[.int .i64 cx, .int .i64 cy, .int .i64 cz] := HH9.out (w.heap.size + 1 + 1, 23, [.int .i64 cx, .int .i64 cy, .int .i64 cz]) (by simp)
  have k9_2_0 : w9.cell? ⟨w.heap.size + 1 + 1, 0, none⟩ = some (.int .i64 cx) := B9_2.cell 0
  have k9_2_1 : w9.cell? ⟨w.heap.size + 1 + 1, 1, none⟩ = some (.int .i64 cy) := B9_2.cell 1
  have k9_2_2 : w9.cell? ⟨w.heap.size + 1 + 1, 2, none⟩ = some (.int .i64 cz) := B9_2.cell 2
  have z9_2 : w.heap.size + 1 + 1 < w9.heap.size := B9_2.lt
  clear B9_2
  have B9_3 : Blk w9 (w2.heap.size) 23 #[.int .i64 0, .int .i64 0, .int .i64 0] := HH9.out (w2.heap.size, 23, [.int .i64 0, .int .i64 0, .int .i64 0]) (by simp)
  have k9_3_0 : w9.cell? ⟨w2.heap.size, 0, none⟩ = some (.int .i64 0) := B9_3.cell 0
  have k9_3_1 : w9.cell? ⟨w2.heap.size, 1, none⟩ = some (.int .i64 0) := B9_3.cell 1
  have k9_3_2 : w9.cell? ⟨w2.heap.size, 2, none⟩ = some (.int .i64 0) := B9_3.cell 2
  have z9_3 : w2.heap.size < w9.heap.size := B9_3.lt
  clear B9_3
  have B9_4 : Blk w9 (w5.heap.size) 36 #[.int .i64 0, .int .i64 0, .int .i64 0] := HH9.out (w5.heap.size, 36, [.int .i64 0, .int .i64 0, .int .i64 0]) (by simp)
  have k9_4_0 : w9.cell? ⟨w5.heap.size, 0, none⟩ = some (.int .i64 0) := B9_4.cell 0
  have k9_4_1 : w9.cell? ⟨w5.heap.size, 1, none⟩ = some (.int .i64 0) := B9_4.cell 1
  have k9_4_2 : w9.cell? ⟨w5.heap.size, 2, none⟩ = some (.int .i64 0) := B9_4.cell 2
  have z9_4 : w5.heap.size < w9.heap.size := B9_4.lt
  clear B9_4
  have B9_5 : Blk w9 (w6.heap.size) 36 #[.int .i64 0, .int .i64 0, .int .i64 0] := HH9.out (w6.heap.size, 36, [.int .i64 0, .int .i64 0, .int .i64 0]) (by simp)
  have k9_5_0 : w9.cell? ⟨w6.heap.size, 0, none⟩ = some (.int .i64 0) := B9_5.cell 0
  have k9_5_1 : w9.cell? ⟨w6.heap.size, 1, none⟩ = some (.int .i64 0) := B9_5.cell 1
  have k9_5_2 : w9.cell? ⟨w6.heap.size, 2, none⟩ = some (.int .i64 0) := B9_5.cell 2
  have z9_5 : w6.heap.size < w9.heap.size := B9_5.lt
  clear B9_5
  have B9_6 : Blk w9 (w7.heap.size) 23 #[.int .i64 p1, .int .i64 q1, .int .i64 r1] := HH9.out (w7.heap.size, 23, [.int .i64 p1, .int .i64 q1, .int .i64 r1]) (by simp)
  have k9_6_0 : w9.cell? ⟨w7.heap.size, 0, none⟩ = some (.int .i64 p1) := B9_6.cell 0
  have k9_6_1 : w9.cell? ⟨w7.heap.size, 1, none⟩ = some (.int .i64 q1) := B9_6.cell 1
  have k9_6_2 : w9.cell? ⟨w7.heap.size, 2, none⟩ = some (.int .i64 r1) := B9_6.cell 2
  have z9_6 : w7.heap.size < w9.heap.size := B9_6.lt
  clear B9_6
  have B9_7 : Blk w9 (w8.heap.size) 23 #[.int .i64 p2, .int .i64 q2, .int .i64 r2] := HH9.out (w8.heap.size, 23, [.int .i64 p2, .int .i64 q2, .int .i64 r2]) (by simp)
  have k9_7_0 : w9.cell? ⟨w8.heap.size, 0, none⟩ = some (.int .i64 p2) := B9_7.cell 0
  have k9_7_1 : w9.cell? ⟨w8.heap.size, 1, none⟩ = some (.int .i64 q2) := B9_7.cell 1
  have k9_7_2 : w9.cell? ⟨w8.heap.size, 2, none⟩ = some (.int .i64 r2) := B9_7.cell 2
  have z9_7 : w8.heap.size < w9.heap.size := B9_7.lt
  clear B9_7
  by_cases he1 : e1 = 0
  · have t2 : (e2 != 0) = true := by simp [HE.out he1]
    subst he1
    clear HE
    go_wp2
    go_returns
    exact ⟨rfl, by repeat (first | with_reducible exact HB9.out | with_reducible refine Below.drew ?_ | with_reducible refine below_drewN ?_ _ | with_reducible refine below_set ?_ (by simp <;> omega) _ | with_reducible refine below_alloc ?_ _)⟩
  · have t1 : (e1 != 0) = true := by simp [he1]
    clear HE he1
    go_wp2
    go_returns
    exact ⟨rfl, by repeat (first | with_reducible exact HB9.out | with_reducible refine Below.drew ?_ | with_reducible refine below_drewN ?_ _ | with_reducible refine below_set ?_ (by simp <;> omega) _ | with_reducible refine below_alloc ?_ _)⟩
end Go.Proofs.Ytkfdbhhchnbjdaa.Ve
