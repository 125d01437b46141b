/- Functions that check first: inRange, Add, Sub, Dot, Distance. -/
import Derived.Test.YtkfdbhhchnbjdaaVeF
import Derived.Test.YtkfdbhhchnbjdaaVeG1
import Derived.Test.YtkfdbhhchnbjdaaBase2
namespace Go.Proofs.Ytkfdbhhchnbjdaa.Ve
open Go.RowKit Ba
set_option linter.unusedVariables false

theorem chk1_ok {x y z : Int} (h : in3 x y z = true) : chkE [(x, y, z)] = 0 := by simp [chkE, in3p, h]
theorem chk1_no {x y z : Int} (h : in3 x y z = false) : chkE [(x, y, z)] = 6 := by simp [chkE, in3p, h]
theorem chk2_ok {x y z a b c : Int} (h : in3 x y z = true) (h2 : in3 a b c = true) : chkE [(x, y, z), (a, b, c)] = 0 := by simp [chkE, in3p, h, h2]
theorem chk2_no {x y z a b c : Int} (h : ¬ (in3 x y z = true ∧ in3 a b c = true)) : chkE [(x, y, z), (a, b, c)] = 6 := by
  rcases h1 : in3 x y z <;> rcases h2 : in3 a b c <;> simp [chkE, in3p, h1, h2]
  exact h ⟨h1, h2⟩

theorem inRange_ok (x y z : Int) (h : in3 x y z = true) (w : World) : Calls Try.prog 37 #[.agg #[.int .i64 x, .int .i64 y, .int .i64 z]] w fun e w' => e = .returned (.tuple #[.agg #[.int .i64 x, .int .i64 y, .int .i64 z], .int .i64 0]) ∧ Below w.heap.size w w' := by

  have c := Lib.hid fun W => check_any x y z W
  rw [chk1_ok h] at c
  clear h
  go_enter Try.func37, Try.ntmps37
  go_wp2_with fail
  refine (c.out _).mono ?_
  rintro e w1 ⟨rfl, hb1⟩
  have hB := Lib.hid (Blk.below (((Blk.new w 23 #[.int .i64 x, .int .i64 y, .int .i64 z]).alloc (.cells #[.int .i64 0, .int .i64 0, .int .i64 0] 23))) hb1 (by simp <;> omega))
  have hC := Lib.hid (Blk.below (Blk.new (w.alloc (.cells #[.int .i64 x, .int .i64 y, .int .i64 z] 23)) 23 #[.int .i64 0, .int .i64 0, .int .i64 0]) hb1 (by simp <;> omega))
  have a0 : w1.cell? ⟨w.heap.size, 0, none⟩ = some (.int .i64 x) := hB.out.cell 0
  have a1 : w1.cell? ⟨w.heap.size, 1, none⟩ = some (.int .i64 y) := hB.out.cell 1
  have a2 : w1.cell? ⟨w.heap.size, 2, none⟩ = some (.int .i64 z) := hB.out.cell 2
  have c0 : w1.cell? ⟨w.heap.size + 1, 0, none⟩ = some (.int .i64 0) := by simpa using hC.out.cell 0
  have c1 : w1.cell? ⟨w.heap.size + 1, 1, none⟩ = some (.int .i64 0) := by simpa using hC.out.cell 1
  have c2 : w1.cell? ⟨w.heap.size + 1, 2, none⟩ = some (.int .i64 0) := by simpa using hC.out.cell 2
  have f0 : w1.frozen? ⟨w.heap.size + 1, 0, none⟩ = false := by simpa using hC.out.frozen 0
  have f1 : w1.frozen? ⟨w.heap.size + 1, 1, none⟩ = false := by simpa using hC.out.frozen 1
  have f2 : w1.frozen? ⟨w.heap.size + 1, 2, none⟩ = false := by simpa using hC.out.frozen 2
  have hz : w.heap.size + 1 < w1.heap.size := by simpa using hC.out.lt
  have hw1 : Below w.heap.size w w1 := below_trans (by go_grown) hb1
  clear hb1
  go_wp2
  refine bodyPost_ret (v := .tuple #[.agg #[.int .i64 x, .int .i64 y, .int .i64 z], .int .i64 0]) ?_ rfl ⟨rfl, ?_⟩
  · simp [results, Try.results37, go_sem, *]
  · repeat (first | exact Below.refl _ _ | exact hw1 | refine below_set ?_ (by simp <;> omega) _ | refine below_alloc ?_ _)

theorem inRange_no (x y z : Int) (h : in3 x y z = false) (w : World) : Calls Try.prog 37 #[.agg #[.int .i64 x, .int .i64 y, .int .i64 z]] w fun e w' => e = .returned (.tuple #[.agg #[.int .i64 0, .int .i64 0, .int .i64 0], .int .i64 6]) ∧ Below w.heap.size w w' := by

  have c := Lib.hid fun W => check_any x y z W
  rw [chk1_no h] at c
  clear h
  go_enter Try.func37, Try.ntmps37
  go_wp2_with fail
  refine (c.out _).mono ?_
  rintro e w1 ⟨rfl, hb1⟩
  have hB := Lib.hid (Blk.below (((Blk.new w 23 #[.int .i64 x, .int .i64 y, .int .i64 z]).alloc (.cells #[.int .i64 0, .int .i64 0, .int .i64 0] 23))) hb1 (by simp <;> omega))
  have hC := Lib.hid (Blk.below (Blk.new (w.alloc (.cells #[.int .i64 x, .int .i64 y, .int .i64 z] 23)) 23 #[.int .i64 0, .int .i64 0, .int .i64 0]) hb1 (by simp <;> omega))
  have a0 : w1.cell? ⟨w.heap.size, 0, none⟩ = some (.int .i64 x) := hB.out.cell 0
  have a1 : w1.cell? ⟨w.heap.size, 1, none⟩ = some (.int .i64 y) := hB.out.cell 1
  have a2 : w1.cell? ⟨w.heap.size, 2, none⟩ = some (.int .i64 z) := hB.out.cell 2
  have c0 : w1.cell? ⟨w.heap.size + 1, 0, none⟩ = some (.int .i64 0) := by simpa using hC.out.cell 0
  have c1 : w1.cell? ⟨w.heap.size + 1, 1, none⟩ = some (.int .i64 0) := by simpa using hC.out.cell 1
  have c2 : w1.cell? ⟨w.heap.size + 1, 2, none⟩ = some (.int .i64 0) := by simpa using hC.out.cell 2
  have f0 : w1.frozen? ⟨w.heap.size + 1, 0, none⟩ = false := by simpa using hC.out.frozen 0
  have f1 : w1.frozen? ⟨w.heap.size + 1, 1, none⟩ = false := by simpa using hC.out.frozen 1
  have f2 : w1.frozen? ⟨w.heap.size + 1, 2, none⟩ = false := by simpa using hC.out.frozen 2
  have hz : w.heap.size + 1 < w1.heap.size := by simpa using hC.out.lt
  have hw1 : Below w.heap.size w w1 := below_trans (by go_grown) hb1
  clear hb1
  go_wp2
  refine bodyPost_ret (v := .tuple #[.agg #[.int .i64 0, .int .i64 0, .int .i64 0], .int .i64 6]) ?_ rfl ⟨rfl, ?_⟩
  · simp [results, Try.results37, go_sem, *]
  · repeat (first | exact Below.refl _ _ | exact hw1 | refine below_set ?_ (by simp <;> omega) _ | refine below_alloc ?_ _)


theorem mul_one_bd {f b : Int} (hf : f = 1 ∨ f = -1) (h : -1000000 ≤ b ∧ b ≤ 1000000) : -2000000 ≤ f * b ∧ f * b ≤ 2000000 := by
  rcases hf with rfl | rfl <;> omega
theorem plus1_any (ax ay az bx bY bz : Int) (h1 : in3 ax ay az = true) (h2 : in3 bx bY bz = true) (w : World) : Calls Try.prog 38 #[.agg #[.int .i64 ax, .int .i64 ay, .int .i64 az], .agg #[.int .i64 bx, .int .i64 bY, .int .i64 bz], .int .i64 1] w fun e w' => e = .returned (.agg #[.int .i64 (ax + bx), .int .i64 (ay + bY), .int .i64 (az + bz)]) ∧ Below w.heap.size w w' := by
  obtain ⟨⟨_, _⟩, ⟨_, _⟩, ⟨_, _⟩⟩ := in3_iff.1 h1
  obtain ⟨⟨_, _⟩, ⟨_, _⟩, ⟨_, _⟩⟩ := in3_iff.1 h2
  have c := (plus_any ax ay az bx bY bz 1 ⟨by omega, by omega, mul_one_bd (by omega) ⟨by omega, by omega⟩⟩ ⟨by omega, by omega, mul_one_bd (by omega) ⟨by omega, by omega⟩⟩ ⟨by omega, by omega, mul_one_bd (by omega) ⟨by omega, by omega⟩⟩ w)
  rw [show ax + 1 * bx = ax + bx by omega, show ay + 1 * bY = ay + bY by omega, show az + 1 * bz = az + bz by omega] at c
  exact c

theorem plusm_any (ax ay az bx bY bz : Int) (h1 : in3 ax ay az = true) (h2 : in3 bx bY bz = true) (w : World) : Calls Try.prog 38 #[.agg #[.int .i64 ax, .int .i64 ay, .int .i64 az], .agg #[.int .i64 bx, .int .i64 bY, .int .i64 bz], .int .i64 (-1)] w fun e w' => e = .returned (.agg #[.int .i64 (ax - bx), .int .i64 (ay - bY), .int .i64 (az - bz)]) ∧ Below w.heap.size w w' := by
  obtain ⟨⟨_, _⟩, ⟨_, _⟩, ⟨_, _⟩⟩ := in3_iff.1 h1
  obtain ⟨⟨_, _⟩, ⟨_, _⟩, ⟨_, _⟩⟩ := in3_iff.1 h2
  have c := (plus_any ax ay az bx bY bz (-1) ⟨by omega, by omega, mul_one_bd (by omega) ⟨by omega, by omega⟩⟩ ⟨by omega, by omega, mul_one_bd (by omega) ⟨by omega, by omega⟩⟩ ⟨by omega, by omega, mul_one_bd (by omega) ⟨by omega, by omega⟩⟩ w)
  rw [show ax + (-1) * bx = ax - bx by omega, show ay + (-1) * bY = ay - bY by omega, show az + (-1) * bz = az - bz by omega] at c
  exact c

theorem add_no (ax ay az bx bY bz : Int) (h : ¬ (in3 ax ay az = true ∧ in3 bx bY bz = true)) (w : World) : Calls Try.prog 13 #[.agg #[.int .i64 ax, .int .i64 ay, .int .i64 az], .agg #[.int .i64 bx, .int .i64 bY, .int .i64 bz]] w fun e w' => e = .returned (.tuple #[.agg #[.int .i64 0, .int .i64 0, .int .i64 0], .int .i64 6]) ∧ Below w.heap.size w w' := by
  have c1 := Lib.hid fun A W (hL : Lies W A (flat3 [(ax, ay, az), (bx, bY, bz)])) => checkAll_any A 2 2 [(ax, ay, az), (bx, bY, bz)] rfl (by omega) W hL
  rw [chk2_no h] at c1
  clear h
  go_enter Try.func13, Try.ntmps13
  go_wp2_with fail
  refine (c1.out _ _ (lies_row (by simp) rfl)).mono ?_
  rintro e w1 ⟨rfl, hb1⟩
  have HH1 := Lib.hid (((((((Blks.nil (w := w))).new (w.heap.size) 23 [.int .i64 ax, .int .i64 ay, .int .i64 az] rfl).new (w.heap.size + 1) 23 [.int .i64 bx, .int .i64 bY, .int .i64 bz] (by simp)).new (w.heap.size + 1 + 1) 23 [.int .i64 0, .int .i64 0, .int .i64 0] (by simp)).new (w.heap.size + 1 + 1 + 1) 23 [.int .i64 ax, .int .i64 ay, .int .i64 az, .int .i64 bx, .int .i64 bY, .int .i64 bz] (by simp)).below hb1)
  have HB1 := Lib.hid (below_trans (below_alloc (below_alloc (below_alloc (below_alloc (Below.refl _ _) _) _) _) _) hb1)
  clear hb1
  have B1_0 : Blk w1 (w.heap.size) 23 #[.int .i64 ax, .int .i64 ay, .int .i64 az] := HH1.out (w.heap.size, 23, [.int .i64 ax, .int .i64 ay, .int .i64 az]) (by simp)
  have k1_0_0 : w1.cell? ⟨w.heap.size, 0, none⟩ = some (.int .i64 ax) := B1_0.cell 0
  have f1_0_0 : w1.frozen? ⟨w.heap.size, 0, none⟩ = false := B1_0.frozen 0
  have k1_0_1 : w1.cell? ⟨w.heap.size, 1, none⟩ = some (.int .i64 ay) := B1_0.cell 1
  have f1_0_1 : w1.frozen? ⟨w.heap.size, 1, none⟩ = false := B1_0.frozen 1
  have k1_0_2 : w1.cell? ⟨w.heap.size, 2, none⟩ = some (.int .i64 az) := B1_0.cell 2
  have f1_0_2 : w1.frozen? ⟨w.heap.size, 2, none⟩ = false := B1_0.frozen 2
  have z1_0 : w.heap.size < w1.heap.size := B1_0.lt
  clear B1_0
  have B1_1 : Blk w1 (w.heap.size + 1) 23 #[.int .i64 bx, .int .i64 bY, .int .i64 bz] := HH1.out (w.heap.size + 1, 23, [.int .i64 bx, .int .i64 bY, .int .i64 bz]) (by simp)
  have k1_1_0 : w1.cell? ⟨w.heap.size + 1, 0, none⟩ = some (.int .i64 bx) := B1_1.cell 0
  have f1_1_0 : w1.frozen? ⟨w.heap.size + 1, 0, none⟩ = false := B1_1.frozen 0
  have k1_1_1 : w1.cell? ⟨w.heap.size + 1, 1, none⟩ = some (.int .i64 bY) := B1_1.cell 1
  have f1_1_1 : w1.frozen? ⟨w.heap.size + 1, 1, none⟩ = false := B1_1.frozen 1
  have k1_1_2 : w1.cell? ⟨w.heap.size + 1, 2, none⟩ = some (.int .i64 bz) := B1_1.cell 2
  have f1_1_2 : w1.frozen? ⟨w.heap.size + 1, 2, none⟩ = false := B1_1.frozen 2
  have z1_1 : w.heap.size + 1 < w1.heap.size := B1_1.lt
  clear B1_1
  have B1_2 : Blk w1 (w.heap.size + 1 + 1) 23 #[.int .i64 0, .int .i64 0, .int .i64 0] := HH1.out (w.heap.size + 1 + 1, 23, [.int .i64 0, .int .i64 0, .int .i64 0]) (by simp)
  have k1_2_0 : w1.cell? ⟨w.heap.size + 1 + 1, 0, none⟩ = some (.int .i64 0) := B1_2.cell 0
  have f1_2_0 : w1.frozen? ⟨w.heap.size + 1 + 1, 0, none⟩ = false := B1_2.frozen 0
  have k1_2_1 : w1.cell? ⟨w.heap.size + 1 + 1, 1, none⟩ = some (.int .i64 0) := B1_2.cell 1
  have f1_2_1 : w1.frozen? ⟨w.heap.size + 1 + 1, 1, none⟩ = false := B1_2.frozen 1
  have k1_2_2 : w1.cell? ⟨w.heap.size + 1 + 1, 2, none⟩ = some (.int .i64 0) := B1_2.cell 2
  have f1_2_2 : w1.frozen? ⟨w.heap.size + 1 + 1, 2, none⟩ = false := B1_2.frozen 2
  have z1_2 : w.heap.size + 1 + 1 < w1.heap.size := B1_2.lt
  clear B1_2
  have B1_3 : Blk w1 (w.heap.size + 1 + 1 + 1) 23 #[.int .i64 ax, .int .i64 ay, .int .i64 az, .int .i64 bx, .int .i64 bY, .int .i64 bz] := HH1.out (w.heap.size + 1 + 1 + 1, 23, [.int .i64 ax, .int .i64 ay, .int .i64 az, .int .i64 bx, .int .i64 bY, .int .i64 bz]) (by simp)
  have k1_3_0 : w1.cell? ⟨w.heap.size + 1 + 1 + 1, 0, none⟩ = some (.int .i64 ax) := B1_3.cell 0
  have f1_3_0 : w1.frozen? ⟨w.heap.size + 1 + 1 + 1, 0, none⟩ = false := B1_3.frozen 0
  have k1_3_1 : w1.cell? ⟨w.heap.size + 1 + 1 + 1, 1, none⟩ = some (.int .i64 ay) := B1_3.cell 1
  have f1_3_1 : w1.frozen? ⟨w.heap.size + 1 + 1 + 1, 1, none⟩ = false := B1_3.frozen 1
  have k1_3_2 : w1.cell? ⟨w.heap.size + 1 + 1 + 1, 2, none⟩ = some (.int .i64 az) := B1_3.cell 2
  have f1_3_2 : w1.frozen? ⟨w.heap.size + 1 + 1 + 1, 2, none⟩ = false := B1_3.frozen 2
  have k1_3_3 : w1.cell? ⟨w.heap.size + 1 + 1 + 1, 3, none⟩ = some (.int .i64 bx) := B1_3.cell 3
  have f1_3_3 : w1.frozen? ⟨w.heap.size + 1 + 1 + 1, 3, none⟩ = false := B1_3.frozen 3
  have k1_3_4 : w1.cell? ⟨w.heap.size + 1 + 1 + 1, 4, none⟩ = some (.int .i64 bY) := B1_3.cell 4
  have f1_3_4 : w1.frozen? ⟨w.heap.size + 1 + 1 + 1, 4, none⟩ = false := B1_3.frozen 4
  have k1_3_5 : w1.cell? ⟨w.heap.size + 1 + 1 + 1, 5, none⟩ = some (.int .i64 bz) := B1_3.cell 5
  have f1_3_5 : w1.frozen? ⟨w.heap.size + 1 + 1 + 1, 5, none⟩ = false := B1_3.frozen 5
  have z1_3 : w.heap.size + 1 + 1 + 1 < w1.heap.size := B1_3.lt
  clear B1_3
  go_wp2
  refine bodyPost_ret (v := .tuple #[.agg #[.int .i64 0, .int .i64 0, .int .i64 0], .int .i64 6]) ?_ rfl ⟨rfl, ?_⟩
  · simp [results, Try.results13, go_sem, *]
  · repeat (first | exact HB1.out | refine below_set ?_ (by have := HB1.out.size; simp <;> omega) _ | refine below_alloc ?_ _)
theorem add_ok (ax ay az bx bY bz : Int) (h1 : in3 ax ay az = true) (h2 : in3 bx bY bz = true) (h : in3 (ax + bx) (ay + bY) (az + bz) = true) (w : World) : Calls Try.prog 13 #[.agg #[.int .i64 ax, .int .i64 ay, .int .i64 az], .agg #[.int .i64 bx, .int .i64 bY, .int .i64 bz]] w fun e w' => e = .returned (.tuple #[.agg #[.int .i64 (ax + bx), .int .i64 (ay + bY), .int .i64 (az + bz)], .int .i64 0]) ∧ Below w.heap.size w w' := by
  have c1 := Lib.hid fun A W (hL : Lies W A (flat3 [(ax, ay, az), (bx, bY, bz)])) => checkAll_any A 2 2 [(ax, ay, az), (bx, bY, bz)] rfl (by omega) W hL
  rw [chk2_ok h1 h2] at c1
  have c2 := Lib.hid fun W => plus1_any ax ay az bx bY bz h1 h2 W
  have c3 := Lib.hid fun W => inRange_ok _ _ _ h W
  clear h h1 h2
  generalize ax + bx = sx at *
  generalize ay + bY = sy at *
  generalize az + bz = sz at *
  go_enter Try.func13, Try.ntmps13
  go_wp2_with fail
  refine (c1.out _ _ (lies_row (by simp) rfl)).mono ?_
  rintro e w1 ⟨rfl, hb1⟩
  have HH1 := Lib.hid (((((((Blks.nil (w := w))).new (w.heap.size) 23 [.int .i64 ax, .int .i64 ay, .int .i64 az] rfl).new (w.heap.size + 1) 23 [.int .i64 bx, .int .i64 bY, .int .i64 bz] (by simp)).new (w.heap.size + 1 + 1) 23 [.int .i64 0, .int .i64 0, .int .i64 0] (by simp)).new (w.heap.size + 1 + 1 + 1) 23 [.int .i64 ax, .int .i64 ay, .int .i64 az, .int .i64 bx, .int .i64 bY, .int .i64 bz] (by simp)).below hb1)
  have HB1 := Lib.hid (below_trans (below_alloc (below_alloc (below_alloc (below_alloc (Below.refl _ _) _) _) _) _) hb1)
  clear hb1
  have B1_0 : Blk w1 (w.heap.size) 23 #[.int .i64 ax, .int .i64 ay, .int .i64 az] := HH1.out (w.heap.size, 23, [.int .i64 ax, .int .i64 ay, .int .i64 az]) (by simp)
  have k1_0_0 : w1.cell? ⟨w.heap.size, 0, none⟩ = some (.int .i64 ax) := B1_0.cell 0
  have f1_0_0 : w1.frozen? ⟨w.heap.size, 0, none⟩ = false := B1_0.frozen 0
  have k1_0_1 : w1.cell? ⟨w.heap.size, 1, none⟩ = some (.int .i64 ay) := B1_0.cell 1
  have f1_0_1 : w1.frozen? ⟨w.heap.size, 1, none⟩ = false := B1_0.frozen 1
  have k1_0_2 : w1.cell? ⟨w.heap.size, 2, none⟩ = some (.int .i64 az) := B1_0.cell 2
  have f1_0_2 : w1.frozen? ⟨w.heap.size, 2, none⟩ = false := B1_0.frozen 2
  have z1_0 : w.heap.size < w1.heap.size := B1_0.lt
  clear B1_0
  have B1_1 : Blk w1 (w.heap.size + 1) 23 #[.int .i64 bx, .int .i64 bY, .int .i64 bz] := HH1.out (w.heap.size + 1, 23, [.int .i64 bx, .int .i64 bY, .int .i64 bz]) (by simp)
  have k1_1_0 : w1.cell? ⟨w.heap.size + 1, 0, none⟩ = some (.int .i64 bx) := B1_1.cell 0
  have f1_1_0 : w1.frozen? ⟨w.heap.size + 1, 0, none⟩ = false := B1_1.frozen 0
  have k1_1_1 : w1.cell? ⟨w.heap.size + 1, 1, none⟩ = some (.int .i64 bY) := B1_1.cell 1
  have f1_1_1 : w1.frozen? ⟨w.heap.size + 1, 1, none⟩ = false := B1_1.frozen 1
  have k1_1_2 : w1.cell? ⟨w.heap.size + 1, 2, none⟩ = some (.int .i64 bz) := B1_1.cell 2
  have f1_1_2 : w1.frozen? ⟨w.heap.size + 1, 2, none⟩ = false := B1_1.frozen 2
  have z1_1 : w.heap.size + 1 < w1.heap.size := B1_1.lt
  clear B1_1
  have B1_2 : Blk w1 (w.heap.size + 1 + 1) 23 #[.int .i64 0, .int .i64 0, .int .i64 0] := HH1.out (w.heap.size + 1 + 1, 23, [.int .i64 0, .int .i64 0, .int .i64 0]) (by simp)
  have k1_2_0 : w1.cell? ⟨w.heap.size + 1 + 1, 0, none⟩ = some (.int .i64 0) := B1_2.cell 0
  have f1_2_0 : w1.frozen? ⟨w.heap.size + 1 + 1, 0, none⟩ = false := B1_2.frozen 0
  have k1_2_1 : w1.cell? ⟨w.heap.size + 1 + 1, 1, none⟩ = some (.int .i64 0) := B1_2.cell 1
  have f1_2_1 : w1.frozen? ⟨w.heap.size + 1 + 1, 1, none⟩ = false := B1_2.frozen 1
  have k1_2_2 : w1.cell? ⟨w.heap.size + 1 + 1, 2, none⟩ = some (.int .i64 0) := B1_2.cell 2
  have f1_2_2 : w1.frozen? ⟨w.heap.size + 1 + 1, 2, none⟩ = false := B1_2.frozen 2
  have z1_2 : w.heap.size + 1 + 1 < w1.heap.size := B1_2.lt
  clear B1_2
  have B1_3 : Blk w1 (w.heap.size + 1 + 1 + 1) 23 #[.int .i64 ax, .int .i64 ay, .int .i64 az, .int .i64 bx, .int .i64 bY, .int .i64 bz] := HH1.out (w.heap.size + 1 + 1 + 1, 23, [.int .i64 ax, .int .i64 ay, .int .i64 az, .int .i64 bx, .int .i64 bY, .int .i64 bz]) (by simp)
  have k1_3_0 : w1.cell? ⟨w.heap.size + 1 + 1 + 1, 0, none⟩ = some (.int .i64 ax) := B1_3.cell 0
  have f1_3_0 : w1.frozen? ⟨w.heap.size + 1 + 1 + 1, 0, none⟩ = false := B1_3.frozen 0
  have k1_3_1 : w1.cell? ⟨w.heap.size + 1 + 1 + 1, 1, none⟩ = some (.int .i64 ay) := B1_3.cell 1
  have f1_3_1 : w1.frozen? ⟨w.heap.size + 1 + 1 + 1, 1, none⟩ = false := B1_3.frozen 1
  have k1_3_2 : w1.cell? ⟨w.heap.size + 1 + 1 + 1, 2, none⟩ = some (.int .i64 az) := B1_3.cell 2
  have f1_3_2 : w1.frozen? ⟨w.heap.size + 1 + 1 + 1, 2, none⟩ = false := B1_3.frozen 2
  have k1_3_3 : w1.cell? ⟨w.heap.size + 1 + 1 + 1, 3, none⟩ = some (.int .i64 bx) := B1_3.cell 3
  have f1_3_3 : w1.frozen? ⟨w.heap.size + 1 + 1 + 1, 3, none⟩ = false := B1_3.frozen 3
  have k1_3_4 : w1.cell? ⟨w.heap.size + 1 + 1 + 1, 4, none⟩ = some (.int .i64 bY) := B1_3.cell 4
  have f1_3_4 : w1.frozen? ⟨w.heap.size + 1 + 1 + 1, 4, none⟩ = false := B1_3.frozen 4
  have k1_3_5 : w1.cell? ⟨w.heap.size + 1 + 1 + 1, 5, none⟩ = some (.int .i64 bz) := B1_3.cell 5
  have f1_3_5 : w1.frozen? ⟨w.heap.size + 1 + 1 + 1, 5, none⟩ = false := B1_3.frozen 5
  have z1_3 : w.heap.size + 1 + 1 + 1 < w1.heap.size := B1_3.lt
  clear B1_3
  go_wp2_with fail
  refine (c2.out _).mono ?_
  rintro e w2 ⟨rfl, hb2⟩
  have HH2 := Lib.hid ((HH1.out).below hb2)
  have HB2 := Lib.hid (below_trans (HB1.out) hb2)
  clear k1_0_0 f1_0_0 k1_0_1 f1_0_1 k1_0_2 f1_0_2 z1_0 k1_1_0 f1_1_0 k1_1_1 f1_1_1 k1_1_2 f1_1_2 z1_1 k1_2_0 f1_2_0 k1_2_1 f1_2_1 k1_2_2 f1_2_2 z1_2 k1_3_0 f1_3_0 k1_3_1 f1_3_1 k1_3_2 f1_3_2 k1_3_3 f1_3_3 k1_3_4 f1_3_4 k1_3_5 f1_3_5 z1_3
  clear hb2
  clear HH1 HB1
  have B2_0 : Blk w2 (w.heap.size) 23 #[.int .i64 ax, .int .i64 ay, .int .i64 az] := HH2.out (w.heap.size, 23, [.int .i64 ax, .int .i64 ay, .int .i64 az]) (by simp)
  have k2_0_0 : w2.cell? ⟨w.heap.size, 0, none⟩ = some (.int .i64 ax) := B2_0.cell 0
  have f2_0_0 : w2.frozen? ⟨w.heap.size, 0, none⟩ = false := B2_0.frozen 0
  have k2_0_1 : w2.cell? ⟨w.heap.size, 1, none⟩ = some (.int .i64 ay) := B2_0.cell 1
  have f2_0_1 : w2.frozen? ⟨w.heap.size, 1, none⟩ = false := B2_0.frozen 1
  have k2_0_2 : w2.cell? ⟨w.heap.size, 2, none⟩ = some (.int .i64 az) := B2_0.cell 2
  have f2_0_2 : w2.frozen? ⟨w.heap.size, 2, none⟩ = false := B2_0.frozen 2
  have z2_0 : w.heap.size < w2.heap.size := B2_0.lt
  clear B2_0
  have B2_1 : Blk w2 (w.heap.size + 1) 23 #[.int .i64 bx, .int .i64 bY, .int .i64 bz] := HH2.out (w.heap.size + 1, 23, [.int .i64 bx, .int .i64 bY, .int .i64 bz]) (by simp)
  have k2_1_0 : w2.cell? ⟨w.heap.size + 1, 0, none⟩ = some (.int .i64 bx) := B2_1.cell 0
  have f2_1_0 : w2.frozen? ⟨w.heap.size + 1, 0, none⟩ = false := B2_1.frozen 0
  have k2_1_1 : w2.cell? ⟨w.heap.size + 1, 1, none⟩ = some (.int .i64 bY) := B2_1.cell 1
  have f2_1_1 : w2.frozen? ⟨w.heap.size + 1, 1, none⟩ = false := B2_1.frozen 1
  have k2_1_2 : w2.cell? ⟨w.heap.size + 1, 2, none⟩ = some (.int .i64 bz) := B2_1.cell 2
  have f2_1_2 : w2.frozen? ⟨w.heap.size + 1, 2, none⟩ = false := B2_1.frozen 2
  have z2_1 : w.heap.size + 1 < w2.heap.size := B2_1.lt
  clear B2_1
  have B2_2 : Blk w2 (w.heap.size + 1 + 1) 23 #[.int .i64 0, .int .i64 0, .int .i64 0] := HH2.out (w.heap.size + 1 + 1, 23, [.int .i64 0, .int .i64 0, .int .i64 0]) (by simp)
  have k2_2_0 : w2.cell? ⟨w.heap.size + 1 + 1, 0, none⟩ = some (.int .i64 0) := B2_2.cell 0
  have f2_2_0 : w2.frozen? ⟨w.heap.size + 1 + 1, 0, none⟩ = false := B2_2.frozen 0
  have k2_2_1 : w2.cell? ⟨w.heap.size + 1 + 1, 1, none⟩ = some (.int .i64 0) := B2_2.cell 1
  have f2_2_1 : w2.frozen? ⟨w.heap.size + 1 + 1, 1, none⟩ = false := B2_2.frozen 1
  have k2_2_2 : w2.cell? ⟨w.heap.size + 1 + 1, 2, none⟩ = some (.int .i64 0) := B2_2.cell 2
  have f2_2_2 : w2.frozen? ⟨w.heap.size + 1 + 1, 2, none⟩ = false := B2_2.frozen 2
  have z2_2 : w.heap.size + 1 + 1 < w2.heap.size := B2_2.lt
  clear B2_2
  have B2_3 : Blk w2 (w.heap.size + 1 + 1 + 1) 23 #[.int .i64 ax, .int .i64 ay, .int .i64 az, .int .i64 bx, .int .i64 bY, .int .i64 bz] := HH2.out (w.heap.size + 1 + 1 + 1, 23, [.int .i64 ax, .int .i64 ay, .int .i64 az, .int .i64 bx, .int .i64 bY, .int .i64 bz]) (by simp)
  have k2_3_0 : w2.cell? ⟨w.heap.size + 1 + 1 + 1, 0, none⟩ = some (.int .i64 ax) := B2_3.cell 0
  have f2_3_0 : w2.frozen? ⟨w.heap.size + 1 + 1 + 1, 0, none⟩ = false := B2_3.frozen 0
  have k2_3_1 : w2.cell? ⟨w.heap.size + 1 + 1 + 1, 1, none⟩ = some (.int .i64 ay) := B2_3.cell 1
  have f2_3_1 : w2.frozen? ⟨w.heap.size + 1 + 1 + 1, 1, none⟩ = false := B2_3.frozen 1
  have k2_3_2 : w2.cell? ⟨w.heap.size + 1 + 1 + 1, 2, none⟩ = some (.int .i64 az) := B2_3.cell 2
  have f2_3_2 : w2.frozen? ⟨w.heap.size + 1 + 1 + 1, 2, none⟩ = false := B2_3.frozen 2
  have k2_3_3 : w2.cell? ⟨w.heap.size + 1 + 1 + 1, 3, none⟩ = some (.int .i64 bx) := B2_3.cell 3
  have f2_3_3 : w2.frozen? ⟨w.heap.size + 1 + 1 + 1, 3, none⟩ = false := B2_3.frozen 3
  have k2_3_4 : w2.cell? ⟨w.heap.size + 1 + 1 + 1, 4, none⟩ = some (.int .i64 bY) := B2_3.cell 4
  have f2_3_4 : w2.frozen? ⟨w.heap.size + 1 + 1 + 1, 4, none⟩ = false := B2_3.frozen 4
  have k2_3_5 : w2.cell? ⟨w.heap.size + 1 + 1 + 1, 5, none⟩ = some (.int .i64 bz) := B2_3.cell 5
  have f2_3_5 : w2.frozen? ⟨w.heap.size + 1 + 1 + 1, 5, none⟩ = false := B2_3.frozen 5
  have z2_3 : w.heap.size + 1 + 1 + 1 < w2.heap.size := B2_3.lt
  clear B2_3
  go_wp2_with fail
  refine (c3.out _).mono ?_
  rintro e w3 ⟨rfl, hb3⟩
  have HH3 := Lib.hid ((HH2.out).below hb3)
  have HB3 := Lib.hid (below_trans (HB2.out) hb3)
  clear k2_0_0 f2_0_0 k2_0_1 f2_0_1 k2_0_2 f2_0_2 z2_0 k2_1_0 f2_1_0 k2_1_1 f2_1_1 k2_1_2 f2_1_2 z2_1 k2_2_0 f2_2_0 k2_2_1 f2_2_1 k2_2_2 f2_2_2 z2_2 k2_3_0 f2_3_0 k2_3_1 f2_3_1 k2_3_2 f2_3_2 k2_3_3 f2_3_3 k2_3_4 f2_3_4 k2_3_5 f2_3_5 z2_3
  clear hb3
  clear HH2 HB2
  have B3_0 : Blk w3 (w.heap.size) 23 #[.int .i64 ax, .int .i64 ay, .int .i64 az] := HH3.out (w.heap.size, 23, [.int .i64 ax, .int .i64 ay, .int .i64 az]) (by simp)
  have k3_0_0 : w3.cell? ⟨w.heap.size, 0, none⟩ = some (.int .i64 ax) := B3_0.cell 0
  have f3_0_0 : w3.frozen? ⟨w.heap.size, 0, none⟩ = false := B3_0.frozen 0
  have k3_0_1 : w3.cell? ⟨w.heap.size, 1, none⟩ = some (.int .i64 ay) := B3_0.cell 1
  have f3_0_1 : w3.frozen? ⟨w.heap.size, 1, none⟩ = false := B3_0.frozen 1
  have k3_0_2 : w3.cell? ⟨w.heap.size, 2, none⟩ = some (.int .i64 az) := B3_0.cell 2
  have f3_0_2 : w3.frozen? ⟨w.heap.size, 2, none⟩ = false := B3_0.frozen 2
  have z3_0 : w.heap.size < w3.heap.size := B3_0.lt
  clear B3_0
  have B3_1 : Blk w3 (w.heap.size + 1) 23 #[.int .i64 bx, .int .i64 bY, .int .i64 bz] := HH3.out (w.heap.size + 1, 23, [.int .i64 bx, .int .i64 bY, .int .i64 bz]) (by simp)
  have k3_1_0 : w3.cell? ⟨w.heap.size + 1, 0, none⟩ = some (.int .i64 bx) := B3_1.cell 0
  have f3_1_0 : w3.frozen? ⟨w.heap.size + 1, 0, none⟩ = false := B3_1.frozen 0
  have k3_1_1 : w3.cell? ⟨w.heap.size + 1, 1, none⟩ = some (.int .i64 bY) := B3_1.cell 1
  have f3_1_1 : w3.frozen? ⟨w.heap.size + 1, 1, none⟩ = false := B3_1.frozen 1
  have k3_1_2 : w3.cell? ⟨w.heap.size + 1, 2, none⟩ = some (.int .i64 bz) := B3_1.cell 2
  have f3_1_2 : w3.frozen? ⟨w.heap.size + 1, 2, none⟩ = false := B3_1.frozen 2
  have z3_1 : w.heap.size + 1 < w3.heap.size := B3_1.lt
  clear B3_1
  have B3_2 : Blk w3 (w.heap.size + 1 + 1) 23 #[.int .i64 0, .int .i64 0, .int .i64 0] := HH3.out (w.heap.size + 1 + 1, 23, [.int .i64 0, .int .i64 0, .int .i64 0]) (by simp)
  have k3_2_0 : w3.cell? ⟨w.heap.size + 1 + 1, 0, none⟩ = some (.int .i64 0) := B3_2.cell 0
  have f3_2_0 : w3.frozen? ⟨w.heap.size + 1 + 1, 0, none⟩ = false := B3_2.frozen 0
  have k3_2_1 : w3.cell? ⟨w.heap.size + 1 + 1, 1, none⟩ = some (.int .i64 0) := B3_2.cell 1
  have f3_2_1 : w3.frozen? ⟨w.heap.size + 1 + 1, 1, none⟩ = false := B3_2.frozen 1
  have k3_2_2 : w3.cell? ⟨w.heap.size + 1 + 1, 2, none⟩ = some (.int .i64 0) := B3_2.cell 2
  have f3_2_2 : w3.frozen? ⟨w.heap.size + 1 + 1, 2, none⟩ = false := B3_2.frozen 2
  have z3_2 : w.heap.size + 1 + 1 < w3.heap.size := B3_2.lt
  clear B3_2
  have B3_3 : Blk w3 (w.heap.size + 1 + 1 + 1) 23 #[.int .i64 ax, .int .i64 ay, .int .i64 az, .int .i64 bx, .int .i64 bY, .int .i64 bz] := HH3.out (w.heap.size + 1 + 1 + 1, 23, [.int .i64 ax, .int .i64 ay, .int .i64 az, .int .i64 bx, .int .i64 bY, .int .i64 bz]) (by simp)
  have k3_3_0 : w3.cell? ⟨w.heap.size + 1 + 1 + 1, 0, none⟩ = some (.int .i64 ax) := B3_3.cell 0
  have f3_3_0 : w3.frozen? ⟨w.heap.size + 1 + 1 + 1, 0, none⟩ = false := B3_3.frozen 0
  have k3_3_1 : w3.cell? ⟨w.heap.size + 1 + 1 + 1, 1, none⟩ = some (.int .i64 ay) := B3_3.cell 1
  have f3_3_1 : w3.frozen? ⟨w.heap.size + 1 + 1 + 1, 1, none⟩ = false := B3_3.frozen 1
  have k3_3_2 : w3.cell? ⟨w.heap.size + 1 + 1 + 1, 2, none⟩ = some (.int .i64 az) := B3_3.cell 2
  have f3_3_2 : w3.frozen? ⟨w.heap.size + 1 + 1 + 1, 2, none⟩ = false := B3_3.frozen 2
  have k3_3_3 : w3.cell? ⟨w.heap.size + 1 + 1 + 1, 3, none⟩ = some (.int .i64 bx) := B3_3.cell 3
  have f3_3_3 : w3.frozen? ⟨w.heap.size + 1 + 1 + 1, 3, none⟩ = false := B3_3.frozen 3
  have k3_3_4 : w3.cell? ⟨w.heap.size + 1 + 1 + 1, 4, none⟩ = some (.int .i64 bY) := B3_3.cell 4
  have f3_3_4 : w3.frozen? ⟨w.heap.size + 1 + 1 + 1, 4, none⟩ = false := B3_3.frozen 4
  have k3_3_5 : w3.cell? ⟨w.heap.size + 1 + 1 + 1, 5, none⟩ = some (.int .i64 bz) := B3_3.cell 5
  have f3_3_5 : w3.frozen? ⟨w.heap.size + 1 + 1 + 1, 5, none⟩ = false := B3_3.frozen 5
  have z3_3 : w.heap.size + 1 + 1 + 1 < w3.heap.size := B3_3.lt
  clear B3_3
  go_wp2
  refine bodyPost_ret (v := .tuple #[.agg #[.int .i64 sx, .int .i64 sy, .int .i64 sz], .int .i64 0]) ?_ rfl ⟨rfl, ?_⟩
  · simp [results, Try.results13, go_sem, *]
  · repeat (first | exact HB3.out | refine below_set ?_ (by have := HB3.out.size; simp <;> omega) _ | refine below_alloc ?_ _)
theorem add_far (ax ay az bx bY bz : Int) (h1 : in3 ax ay az = true) (h2 : in3 bx bY bz = true) (h : in3 (ax + bx) (ay + bY) (az + bz) = false) (w : World) : Calls Try.prog 13 #[.agg #[.int .i64 ax, .int .i64 ay, .int .i64 az], .agg #[.int .i64 bx, .int .i64 bY, .int .i64 bz]] w fun e w' => e = .returned (.tuple #[.agg #[.int .i64 0, .int .i64 0, .int .i64 0], .int .i64 6]) ∧ Below w.heap.size w w' := by
  have c1 := Lib.hid fun A W (hL : Lies W A (flat3 [(ax, ay, az), (bx, bY, bz)])) => checkAll_any A 2 2 [(ax, ay, az), (bx, bY, bz)] rfl (by omega) W hL
  rw [chk2_ok h1 h2] at c1
  have c2 := Lib.hid fun W => plus1_any ax ay az bx bY bz h1 h2 W
  have c3 := Lib.hid fun W => inRange_no _ _ _ h W
  clear h h1 h2
  generalize ax + bx = sx at *
  generalize ay + bY = sy at *
  generalize az + bz = sz at *
  go_enter Try.func13, Try.ntmps13
  go_wp2_with fail
  refine (c1.out _ _ (lies_row (by simp) rfl)).mono ?_
  rintro e w1 ⟨rfl, hb1⟩
  have HH1 := Lib.hid (((((((Blks.nil (w := w))).new (w.heap.size) 23 [.int .i64 ax, .int .i64 ay, .int .i64 az] rfl).new (w.heap.size + 1) 23 [.int .i64 bx, .int .i64 bY, .int .i64 bz] (by simp)).new (w.heap.size + 1 + 1) 23 [.int .i64 0, .int .i64 0, .int .i64 0] (by simp)).new (w.heap.size + 1 + 1 + 1) 23 [.int .i64 ax, .int .i64 ay, .int .i64 az, .int .i64 bx, .int .i64 bY, .int .i64 bz] (by simp)).below hb1)
  have HB1 := Lib.hid (below_trans (below_alloc (below_alloc (below_alloc (below_alloc (Below.refl _ _) _) _) _) _) hb1)
  clear hb1
  have B1_0 : Blk w1 (w.heap.size) 23 #[.int .i64 ax, .int .i64 ay, .int .i64 az] := HH1.out (w.heap.size, 23, [.int .i64 ax, .int .i64 ay, .int .i64 az]) (by simp)
  have k1_0_0 : w1.cell? ⟨w.heap.size, 0, none⟩ = some (.int .i64 ax) := B1_0.cell 0
  have f1_0_0 : w1.frozen? ⟨w.heap.size, 0, none⟩ = false := B1_0.frozen 0
  have k1_0_1 : w1.cell? ⟨w.heap.size, 1, none⟩ = some (.int .i64 ay) := B1_0.cell 1
  have f1_0_1 : w1.frozen? ⟨w.heap.size, 1, none⟩ = false := B1_0.frozen 1
  have k1_0_2 : w1.cell? ⟨w.heap.size, 2, none⟩ = some (.int .i64 az) := B1_0.cell 2
  have f1_0_2 : w1.frozen? ⟨w.heap.size, 2, none⟩ = false := B1_0.frozen 2
  have z1_0 : w.heap.size < w1.heap.size := B1_0.lt
  clear B1_0
  have B1_1 : Blk w1 (w.heap.size + 1) 23 #[.int .i64 bx, .int .i64 bY, .int .i64 bz] := HH1.out (w.heap.size + 1, 23, [.int .i64 bx, .int .i64 bY, .int .i64 bz]) (by simp)
  have k1_1_0 : w1.cell? ⟨w.heap.size + 1, 0, none⟩ = some (.int .i64 bx) := B1_1.cell 0
  have f1_1_0 : w1.frozen? ⟨w.heap.size + 1, 0, none⟩ = false := B1_1.frozen 0
  have k1_1_1 : w1.cell? ⟨w.heap.size + 1, 1, none⟩ = some (.int .i64 bY) := B1_1.cell 1
  have f1_1_1 : w1.frozen? ⟨w.heap.size + 1, 1, none⟩ = false := B1_1.frozen 1
  have k1_1_2 : w1.cell? ⟨w.heap.size + 1, 2, none⟩ = some (.int .i64 bz) := B1_1.cell 2
  have f1_1_2 : w1.frozen? ⟨w.heap.size + 1, 2, none⟩ = false := B1_1.frozen 2
  have z1_1 : w.heap.size + 1 < w1.heap.size := B1_1.lt
  clear B1_1
  have B1_2 : Blk w1 (w.heap.size + 1 + 1) 23 #[.int .i64 0, .int .i64 0, .int .i64 0] := HH1.out (w.heap.size + 1 + 1, 23, [.int .i64 0, .int .i64 0, .int .i64 0]) (by simp)
  have k1_2_0 : w1.cell? ⟨w.heap.size + 1 + 1, 0, none⟩ = some (.int .i64 0) := B1_2.cell 0
  have f1_2_0 : w1.frozen? ⟨w.heap.size + 1 + 1, 0, none⟩ = false := B1_2.frozen 0
  have k1_2_1 : w1.cell? ⟨w.heap.size + 1 + 1, 1, none⟩ = some (.int .i64 0) := B1_2.cell 1
  have f1_2_1 : w1.frozen? ⟨w.heap.size + 1 + 1, 1, none⟩ = false := B1_2.frozen 1
  have k1_2_2 : w1.cell? ⟨w.heap.size + 1 + 1, 2, none⟩ = some (.int .i64 0) := B1_2.cell 2
  have f1_2_2 : w1.frozen? ⟨w.heap.size + 1 + 1, 2, none⟩ = false := B1_2.frozen 2
  have z1_2 : w.heap.size + 1 + 1 < w1.heap.size := B1_2.lt
  clear B1_2
  have B1_3 : Blk w1 (w.heap.size + 1 + 1 + 1) 23 #[.int .i64 ax, .int .i64 ay, .int .i64 az, .int .i64 bx, .int .i64 bY, .int .i64 bz] := HH1.out (w.heap.size + 1 + 1 + 1, 23, [.int .i64 ax, .int .i64 ay, .int .i64 az, .int .i64 bx, .int .i64 bY, .int .i64 bz]) (by simp)
  have k1_3_0 : w1.cell? ⟨w.heap.size + 1 + 1 + 1, 0, none⟩ = some (.int .i64 ax) := B1_3.cell 0
  have f1_3_0 : w1.frozen? ⟨w.heap.size + 1 + 1 + 1, 0, none⟩ = false := B1_3.frozen 0
  have k1_3_1 : w1.cell? ⟨w.heap.size + 1 + 1 + 1, 1, none⟩ = some (.int .i64 ay) := B1_3.cell 1
  have f1_3_1 : w1.frozen? ⟨w.heap.size + 1 + 1 + 1, 1, none⟩ = false := B1_3.frozen 1
  have k1_3_2 : w1.cell? ⟨w.heap.size + 1 + 1 + 1, 2, none⟩ = some (.int .i64 az) := B1_3.cell 2
  have f1_3_2 : w1.frozen? ⟨w.heap.size + 1 + 1 + 1, 2, none⟩ = false := B1_3.frozen 2
  have k1_3_3 : w1.cell? ⟨w.heap.size + 1 + 1 + 1, 3, none⟩ = some (.int .i64 bx) := B1_3.cell 3
  have f1_3_3 : w1.frozen? ⟨w.heap.size + 1 + 1 + 1, 3, none⟩ = false := B1_3.frozen 3
  have k1_3_4 : w1.cell? ⟨w.heap.size + 1 + 1 + 1, 4, none⟩ = some (.int .i64 bY) := B1_3.cell 4
  have f1_3_4 : w1.frozen? ⟨w.heap.size + 1 + 1 + 1, 4, none⟩ = false := B1_3.frozen 4
  have k1_3_5 : w1.cell? ⟨w.heap.size + 1 + 1 + 1, 5, none⟩ = some (.int .i64 bz) := B1_3.cell 5
  have f1_3_5 : w1.frozen? ⟨w.heap.size + 1 + 1 + 1, 5, none⟩ = false := B1_3.frozen 5
  have z1_3 : w.heap.size + 1 + 1 + 1 < w1.heap.size := B1_3.lt
  clear B1_3
  go_wp2_with fail
  refine (c2.out _).mono ?_
  rintro e w2 ⟨rfl, hb2⟩
  have HH2 := Lib.hid ((HH1.out).below hb2)
  have HB2 := Lib.hid (below_trans (HB1.out) hb2)
  clear k1_0_0 f1_0_0 k1_0_1 f1_0_1 k1_0_2 f1_0_2 z1_0 k1_1_0 f1_1_0 k1_1_1 f1_1_1 k1_1_2 f1_1_2 z1_1 k1_2_0 f1_2_0 k1_2_1 f1_2_1 k1_2_2 f1_2_2 z1_2 k1_3_0 f1_3_0 k1_3_1 f1_3_1 k1_3_2 f1_3_2 k1_3_3 f1_3_3 k1_3_4 f1_3_4 k1_3_5 f1_3_5 z1_3
  clear hb2
  clear HH1 HB1
  have B2_0 : Blk w2 (w.heap.size) 23 #[.int .i64 ax, .int .i64 ay, .int .i64 az] := HH2.out (w.heap.size, 23, [.int .i64 ax, .int .i64 ay, .int .i64 az]) (by simp)
  have k2_0_0 : w2.cell? ⟨w.heap.size, 0, none⟩ = some (.int .i64 ax) := B2_0.cell 0
  have f2_0_0 : w2.frozen? ⟨w.heap.size, 0, none⟩ = false := B2_0.frozen 0
  have k2_0_1 : w2.cell? ⟨w.heap.size, 1, none⟩ = some (.int .i64 ay) := B2_0.cell 1
  have f2_0_1 : w2.frozen? ⟨w.heap.size, 1, none⟩ = false := B2_0.frozen 1
  have k2_0_2 : w2.cell? ⟨w.heap.size, 2, none⟩ = some (.int .i64 az) := B2_0.cell 2
  have f2_0_2 : w2.frozen? ⟨w.heap.size, 2, none⟩ = false := B2_0.frozen 2
  have z2_0 : w.heap.size < w2.heap.size := B2_0.lt
  clear B2_0
  have B2_1 : Blk w2 (w.heap.size + 1) 23 #[.int .i64 bx, .int .i64 bY, .int .i64 bz] := HH2.out (w.heap.size + 1, 23, [.int .i64 bx, .int .i64 bY, .int .i64 bz]) (by simp)
  have k2_1_0 : w2.cell? ⟨w.heap.size + 1, 0, none⟩ = some (.int .i64 bx) := B2_1.cell 0
  have f2_1_0 : w2.frozen? ⟨w.heap.size + 1, 0, none⟩ = false := B2_1.frozen 0
  have k2_1_1 : w2.cell? ⟨w.heap.size + 1, 1, none⟩ = some (.int .i64 bY) := B2_1.cell 1
  have f2_1_1 : w2.frozen? ⟨w.heap.size + 1, 1, none⟩ = false := B2_1.frozen 1
  have k2_1_2 : w2.cell? ⟨w.heap.size + 1, 2, none⟩ = some (.int .i64 bz) := B2_1.cell 2
  have f2_1_2 : w2.frozen? ⟨w.heap.size + 1, 2, none⟩ = false := B2_1.frozen 2
  have z2_1 : w.heap.size + 1 < w2.heap.size := B2_1.lt
  clear B2_1
  have B2_2 : Blk w2 (w.heap.size + 1 + 1) 23 #[.int .i64 0, .int .i64 0, .int .i64 0] := HH2.out (w.heap.size + 1 + 1, 23, [.int .i64 0, .int .i64 0, .int .i64 0]) (by simp)
  have k2_2_0 : w2.cell? ⟨w.heap.size + 1 + 1, 0, none⟩ = some (.int .i64 0) := B2_2.cell 0
  have f2_2_0 : w2.frozen? ⟨w.heap.size + 1 + 1, 0, none⟩ = false := B2_2.frozen 0
  have k2_2_1 : w2.cell? ⟨w.heap.size + 1 + 1, 1, none⟩ = some (.int .i64 0) := B2_2.cell 1
  have f2_2_1 : w2.frozen? ⟨w.heap.size + 1 + 1, 1, none⟩ = false := B2_2.frozen 1
  have k2_2_2 : w2.cell? ⟨w.heap.size + 1 + 1, 2, none⟩ = some (.int .i64 0) := B2_2.cell 2
  have f2_2_2 : w2.frozen? ⟨w.heap.size + 1 + 1, 2, none⟩ = false := B2_2.frozen 2
  have z2_2 : w.heap.size + 1 + 1 < w2.heap.size := B2_2.lt
  clear B2_2
  have B2_3 : Blk w2 (w.heap.size + 1 + 1 + 1) 23 #[.int .i64 ax, .int .i64 ay, .int .i64 az, .int .i64 bx, .int .i64 bY, .int .i64 bz] := HH2.out (w.heap.size + 1 + 1 + 1, 23, [.int .i64 ax, .int .i64 ay, .int .i64 az, .int .i64 bx, .int .i64 bY, .int .i64 bz]) (by simp)
  have k2_3_0 : w2.cell? ⟨w.heap.size + 1 + 1 + 1, 0, none⟩ = some (.int .i64 ax) := B2_3.cell 0
  have f2_3_0 : w2.frozen? ⟨w.heap.size + 1 + 1 + 1, 0, none⟩ = false := B2_3.frozen 0
  have k2_3_1 : w2.cell? ⟨w.heap.size + 1 + 1 + 1, 1, none⟩ = some (.int .i64 ay) := B2_3.cell 1
  have f2_3_1 : w2.frozen? ⟨w.heap.size + 1 + 1 + 1, 1, none⟩ = false := B2_3.frozen 1
  have k2_3_2 : w2.cell? ⟨w.heap.size + 1 + 1 + 1, 2, none⟩ = some (.int .i64 az) := B2_3.cell 2
  have f2_3_2 : w2.frozen? ⟨w.heap.size + 1 + 1 + 1, 2, none⟩ = false := B2_3.frozen 2
  have k2_3_3 : w2.cell? ⟨w.heap.size + 1 + 1 + 1, 3, none⟩ = some (.int .i64 bx) := B2_3.cell 3
  have f2_3_3 : w2.frozen? ⟨w.heap.size + 1 + 1 + 1, 3, none⟩ = false := B2_3.frozen 3
  have k2_3_4 : w2.cell? ⟨w.heap.size + 1 + 1 + 1, 4, none⟩ = some (.int .i64 bY) := B2_3.cell 4
  have f2_3_4 : w2.frozen? ⟨w.heap.size + 1 + 1 + 1, 4, none⟩ = false := B2_3.frozen 4
  have k2_3_5 : w2.cell? ⟨w.heap.size + 1 + 1 + 1, 5, none⟩ = some (.int .i64 bz) := B2_3.cell 5
  have f2_3_5 : w2.frozen? ⟨w.heap.size + 1 + 1 + 1, 5, none⟩ = false := B2_3.frozen 5
  have z2_3 : w.heap.size + 1 + 1 + 1 < w2.heap.size := B2_3.lt
  clear B2_3
  go_wp2_with fail
  refine (c3.out _).mono ?_
  rintro e w3 ⟨rfl, hb3⟩
  have HH3 := Lib.hid ((HH2.out).below hb3)
  have HB3 := Lib.hid (below_trans (HB2.out) hb3)
  clear k2_0_0 f2_0_0 k2_0_1 f2_0_1 k2_0_2 f2_0_2 z2_0 k2_1_0 f2_1_0 k2_1_1 f2_1_1 k2_1_2 f2_1_2 z2_1 k2_2_0 f2_2_0 k2_2_1 f2_2_1 k2_2_2 f2_2_2 z2_2 k2_3_0 f2_3_0 k2_3_1 f2_3_1 k2_3_2 f2_3_2 k2_3_3 f2_3_3 k2_3_4 f2_3_4 k2_3_5 f2_3_5 z2_3
  clear hb3
  clear HH2 HB2
  have B3_0 : Blk w3 (w.heap.size) 23 #[.int .i64 ax, .int .i64 ay, .int .i64 az] := HH3.out (w.heap.size, 23, [.int .i64 ax, .int .i64 ay, .int .i64 az]) (by simp)
  have k3_0_0 : w3.cell? ⟨w.heap.size, 0, none⟩ = some (.int .i64 ax) := B3_0.cell 0
  have f3_0_0 : w3.frozen? ⟨w.heap.size, 0, none⟩ = false := B3_0.frozen 0
  have k3_0_1 : w3.cell? ⟨w.heap.size, 1, none⟩ = some (.int .i64 ay) := B3_0.cell 1
  have f3_0_1 : w3.frozen? ⟨w.heap.size, 1, none⟩ = false := B3_0.frozen 1
  have k3_0_2 : w3.cell? ⟨w.heap.size, 2, none⟩ = some (.int .i64 az) := B3_0.cell 2
  have f3_0_2 : w3.frozen? ⟨w.heap.size, 2, none⟩ = false := B3_0.frozen 2
  have z3_0 : w.heap.size < w3.heap.size := B3_0.lt
  clear B3_0
  have B3_1 : Blk w3 (w.heap.size + 1) 23 #[.int .i64 bx, .int .i64 bY, .int .i64 bz] := HH3.out (w.heap.size + 1, 23, [.int .i64 bx, .int .i64 bY, .int .i64 bz]) (by simp)
  have k3_1_0 : w3.cell? ⟨w.heap.size + 1, 0, none⟩ = some (.int .i64 bx) := B3_1.cell 0
  have f3_1_0 : w3.frozen? ⟨w.heap.size + 1, 0, none⟩ = false := B3_1.frozen 0
  have k3_1_1 : w3.cell? ⟨w.heap.size + 1, 1, none⟩ = some (.int .i64 bY) := B3_1.cell 1
  have f3_1_1 : w3.frozen? ⟨w.heap.size + 1, 1, none⟩ = false := B3_1.frozen 1
  have k3_1_2 : w3.cell? ⟨w.heap.size + 1, 2, none⟩ = some (.int .i64 bz) := B3_1.cell 2
  have f3_1_2 : w3.frozen? ⟨w.heap.size + 1, 2, none⟩ = false := B3_1.frozen 2
  have z3_1 : w.heap.size + 1 < w3.heap.size := B3_1.lt
  clear B3_1
  have B3_2 : Blk w3 (w.heap.size + 1 + 1) 23 #[.int .i64 0, .int .i64 0, .int .i64 0] := HH3.out (w.heap.size + 1 + 1, 23, [.int .i64 0, .int .i64 0, .int .i64 0]) (by simp)
  have k3_2_0 : w3.cell? ⟨w.heap.size + 1 + 1, 0, none⟩ = some (.int .i64 0) := B3_2.cell 0
  have f3_2_0 : w3.frozen? ⟨w.heap.size + 1 + 1, 0, none⟩ = false := B3_2.frozen 0
  have k3_2_1 : w3.cell? ⟨w.heap.size + 1 + 1, 1, none⟩ = some (.int .i64 0) := B3_2.cell 1
  have f3_2_1 : w3.frozen? ⟨w.heap.size + 1 + 1, 1, none⟩ = false := B3_2.frozen 1
  have k3_2_2 : w3.cell? ⟨w.heap.size + 1 + 1, 2, none⟩ = some (.int .i64 0) := B3_2.cell 2
  have f3_2_2 : w3.frozen? ⟨w.heap.size + 1 + 1, 2, none⟩ = false := B3_2.frozen 2
  have z3_2 : w.heap.size + 1 + 1 < w3.heap.size := B3_2.lt
  clear B3_2
  have B3_3 : Blk w3 (w.heap.size + 1 + 1 + 1) 23 #[.int .i64 ax, .int .i64 ay, .int .i64 az, .int .i64 bx, .int .i64 bY, .int .i64 bz] := HH3.out (w.heap.size + 1 + 1 + 1, 23, [.int .i64 ax, .int .i64 ay, .int .i64 az, .int .i64 bx, .int .i64 bY, .int .i64 bz]) (by simp)
  have k3_3_0 : w3.cell? ⟨w.heap.size + 1 + 1 + 1, 0, none⟩ = some (.int .i64 ax) := B3_3.cell 0
  have f3_3_0 : w3.frozen? ⟨w.heap.size + 1 + 1 + 1, 0, none⟩ = false := B3_3.frozen 0
  have k3_3_1 : w3.cell? ⟨w.heap.size + 1 + 1 + 1, 1, none⟩ = some (.int .i64 ay) := B3_3.cell 1
  have f3_3_1 : w3.frozen? ⟨w.heap.size + 1 + 1 + 1, 1, none⟩ = false := B3_3.frozen 1
  have k3_3_2 : w3.cell? ⟨w.heap.size + 1 + 1 + 1, 2, none⟩ = some (.int .i64 az) := B3_3.cell 2
  have f3_3_2 : w3.frozen? ⟨w.heap.size + 1 + 1 + 1, 2, none⟩ = false := B3_3.frozen 2
  have k3_3_3 : w3.cell? ⟨w.heap.size + 1 + 1 + 1, 3, none⟩ = some (.int .i64 bx) := B3_3.cell 3
  have f3_3_3 : w3.frozen? ⟨w.heap.size + 1 + 1 + 1, 3, none⟩ = false := B3_3.frozen 3
  have k3_3_4 : w3.cell? ⟨w.heap.size + 1 + 1 + 1, 4, none⟩ = some (.int .i64 bY) := B3_3.cell 4
  have f3_3_4 : w3.frozen? ⟨w.heap.size + 1 + 1 + 1, 4, none⟩ = false := B3_3.frozen 4
  have k3_3_5 : w3.cell? ⟨w.heap.size + 1 + 1 + 1, 5, none⟩ = some (.int .i64 bz) := B3_3.cell 5
  have f3_3_5 : w3.frozen? ⟨w.heap.size + 1 + 1 + 1, 5, none⟩ = false := B3_3.frozen 5
  have z3_3 : w.heap.size + 1 + 1 + 1 < w3.heap.size := B3_3.lt
  clear B3_3
  go_wp2
  refine bodyPost_ret (v := .tuple #[.agg #[.int .i64 0, .int .i64 0, .int .i64 0], .int .i64 6]) ?_ rfl ⟨rfl, ?_⟩
  · simp [results, Try.results13, go_sem, *]
  · repeat (first | exact HB3.out | refine below_set ?_ (by have := HB3.out.size; simp <;> omega) _ | refine below_alloc ?_ _)
theorem sub_no (ax ay az bx bY bz : Int) (h : ¬ (in3 ax ay az = true ∧ in3 bx bY bz = true)) (w : World) : Calls Try.prog 14 #[.agg #[.int .i64 ax, .int .i64 ay, .int .i64 az], .agg #[.int .i64 bx, .int .i64 bY, .int .i64 bz]] w fun e w' => e = .returned (.tuple #[.agg #[.int .i64 0, .int .i64 0, .int .i64 0], .int .i64 6]) ∧ Below w.heap.size w w' := by
  have c1 := Lib.hid fun A W (hL : Lies W A (flat3 [(ax, ay, az), (bx, bY, bz)])) => checkAll_any A 2 2 [(ax, ay, az), (bx, bY, bz)] rfl (by omega) W hL
  rw [chk2_no h] at c1
  clear h
  go_enter Try.func14, Try.ntmps14
  go_wp2_with fail
  refine (c1.out _ _ (lies_row (by simp) rfl)).mono ?_
  rintro e w1 ⟨rfl, hb1⟩
  have HH1 := Lib.hid (((((((Blks.nil (w := w))).new (w.heap.size) 23 [.int .i64 ax, .int .i64 ay, .int .i64 az] rfl).new (w.heap.size + 1) 23 [.int .i64 bx, .int .i64 bY, .int .i64 bz] (by simp)).new (w.heap.size + 1 + 1) 23 [.int .i64 0, .int .i64 0, .int .i64 0] (by simp)).new (w.heap.size + 1 + 1 + 1) 23 [.int .i64 ax, .int .i64 ay, .int .i64 az, .int .i64 bx, .int .i64 bY, .int .i64 bz] (by simp)).below hb1)
  have HB1 := Lib.hid (below_trans (below_alloc (below_alloc (below_alloc (below_alloc (Below.refl _ _) _) _) _) _) hb1)
  clear hb1
  have B1_0 : Blk w1 (w.heap.size) 23 #[.int .i64 ax, .int .i64 ay, .int .i64 az] := HH1.out (w.heap.size, 23, [.int .i64 ax, .int .i64 ay, .int .i64 az]) (by simp)
  have k1_0_0 : w1.cell? ⟨w.heap.size, 0, none⟩ = some (.int .i64 ax) := B1_0.cell 0
  have f1_0_0 : w1.frozen? ⟨w.heap.size, 0, none⟩ = false := B1_0.frozen 0
  have k1_0_1 : w1.cell? ⟨w.heap.size, 1, none⟩ = some (.int .i64 ay) := B1_0.cell 1
  have f1_0_1 : w1.frozen? ⟨w.heap.size, 1, none⟩ = false := B1_0.frozen 1
  have k1_0_2 : w1.cell? ⟨w.heap.size, 2, none⟩ = some (.int .i64 az) := B1_0.cell 2
  have f1_0_2 : w1.frozen? ⟨w.heap.size, 2, none⟩ = false := B1_0.frozen 2
  have z1_0 : w.heap.size < w1.heap.size := B1_0.lt
  clear B1_0
  have B1_1 : Blk w1 (w.heap.size + 1) 23 #[.int .i64 bx, .int .i64 bY, .int .i64 bz] := HH1.out (w.heap.size + 1, 23, [.int .i64 bx, .int .i64 bY, .int .i64 bz]) (by simp)
  have k1_1_0 : w1.cell? ⟨w.heap.size + 1, 0, none⟩ = some (.int .i64 bx) := B1_1.cell 0
  have f1_1_0 : w1.frozen? ⟨w.heap.size + 1, 0, none⟩ = false := B1_1.frozen 0
  have k1_1_1 : w1.cell? ⟨w.heap.size + 1, 1, none⟩ = some (.int .i64 bY) := B1_1.cell 1
  have f1_1_1 : w1.frozen? ⟨w.heap.size + 1, 1, none⟩ = false := B1_1.frozen 1
  have k1_1_2 : w1.cell? ⟨w.heap.size + 1, 2, none⟩ = some (.int .i64 bz) := B1_1.cell 2
  have f1_1_2 : w1.frozen? ⟨w.heap.size + 1, 2, none⟩ = false := B1_1.frozen 2
  have z1_1 : w.heap.size + 1 < w1.heap.size := B1_1.lt
  clear B1_1
  have B1_2 : Blk w1 (w.heap.size + 1 + 1) 23 #[.int .i64 0, .int .i64 0, .int .i64 0] := HH1.out (w.heap.size + 1 + 1, 23, [.int .i64 0, .int .i64 0, .int .i64 0]) (by simp)
  have k1_2_0 : w1.cell? ⟨w.heap.size + 1 + 1, 0, none⟩ = some (.int .i64 0) := B1_2.cell 0
  have f1_2_0 : w1.frozen? ⟨w.heap.size + 1 + 1, 0, none⟩ = false := B1_2.frozen 0
  have k1_2_1 : w1.cell? ⟨w.heap.size + 1 + 1, 1, none⟩ = some (.int .i64 0) := B1_2.cell 1
  have f1_2_1 : w1.frozen? ⟨w.heap.size + 1 + 1, 1, none⟩ = false := B1_2.frozen 1
  have k1_2_2 : w1.cell? ⟨w.heap.size + 1 + 1, 2, none⟩ = some (.int .i64 0) := B1_2.cell 2
  have f1_2_2 : w1.frozen? ⟨w.heap.size + 1 + 1, 2, none⟩ = false := B1_2.frozen 2
  have z1_2 : w.heap.size + 1 + 1 < w1.heap.size := B1_2.lt
  clear B1_2
  have B1_3 : Blk w1 (w.heap.size + 1 + 1 + 1) 23 #[.int .i64 ax, .int .i64 ay, .int .i64 az, .int .i64 bx, .int .i64 bY, .int .i64 bz] := HH1.out (w.heap.size + 1 + 1 + 1, 23, [.int .i64 ax, .int .i64 ay, .int .i64 az, .int .i64 bx, .int .i64 bY, .int .i64 bz]) (by simp)
  have k1_3_0 : w1.cell? ⟨w.heap.size + 1 + 1 + 1, 0, none⟩ = some (.int .i64 ax) := B1_3.cell 0
  have f1_3_0 : w1.frozen? ⟨w.heap.size + 1 + 1 + 1, 0, none⟩ = false := B1_3.frozen 0
  have k1_3_1 : w1.cell? ⟨w.heap.size + 1 + 1 + 1, 1, none⟩ = some (.int .i64 ay) := B1_3.cell 1
  have f1_3_1 : w1.frozen? ⟨w.heap.size + 1 + 1 + 1, 1, none⟩ = false := B1_3.frozen 1
  have k1_3_2 : w1.cell? ⟨w.heap.size + 1 + 1 + 1, 2, none⟩ = some (.int .i64 az) := B1_3.cell 2
  have f1_3_2 : w1.frozen? ⟨w.heap.size + 1 + 1 + 1, 2, none⟩ = false := B1_3.frozen 2
  have k1_3_3 : w1.cell? ⟨w.heap.size + 1 + 1 + 1, 3, none⟩ = some (.int .i64 bx) := B1_3.cell 3
  have f1_3_3 : w1.frozen? ⟨w.heap.size + 1 + 1 + 1, 3, none⟩ = false := B1_3.frozen 3
  have k1_3_4 : w1.cell? ⟨w.heap.size + 1 + 1 + 1, 4, none⟩ = some (.int .i64 bY) := B1_3.cell 4
  have f1_3_4 : w1.frozen? ⟨w.heap.size + 1 + 1 + 1, 4, none⟩ = false := B1_3.frozen 4
  have k1_3_5 : w1.cell? ⟨w.heap.size + 1 + 1 + 1, 5, none⟩ = some (.int .i64 bz) := B1_3.cell 5
  have f1_3_5 : w1.frozen? ⟨w.heap.size + 1 + 1 + 1, 5, none⟩ = false := B1_3.frozen 5
  have z1_3 : w.heap.size + 1 + 1 + 1 < w1.heap.size := B1_3.lt
  clear B1_3
  go_wp2
  refine bodyPost_ret (v := .tuple #[.agg #[.int .i64 0, .int .i64 0, .int .i64 0], .int .i64 6]) ?_ rfl ⟨rfl, ?_⟩
  · simp [results, Try.results14, go_sem, *]
  · repeat (first | exact HB1.out | refine below_set ?_ (by have := HB1.out.size; simp <;> omega) _ | refine below_alloc ?_ _)
theorem sub_ok (ax ay az bx bY bz : Int) (h1 : in3 ax ay az = true) (h2 : in3 bx bY bz = true) (h : in3 (ax - bx) (ay - bY) (az - bz) = true) (w : World) : Calls Try.prog 14 #[.agg #[.int .i64 ax, .int .i64 ay, .int .i64 az], .agg #[.int .i64 bx, .int .i64 bY, .int .i64 bz]] w fun e w' => e = .returned (.tuple #[.agg #[.int .i64 (ax - bx), .int .i64 (ay - bY), .int .i64 (az - bz)], .int .i64 0]) ∧ Below w.heap.size w w' := by
  have c1 := Lib.hid fun A W (hL : Lies W A (flat3 [(ax, ay, az), (bx, bY, bz)])) => checkAll_any A 2 2 [(ax, ay, az), (bx, bY, bz)] rfl (by omega) W hL
  rw [chk2_ok h1 h2] at c1
  have c2 := Lib.hid fun W => plusm_any ax ay az bx bY bz h1 h2 W
  have c3 := Lib.hid fun W => inRange_ok _ _ _ h W
  clear h h1 h2
  generalize ax - bx = sx at *
  generalize ay - bY = sy at *
  generalize az - bz = sz at *
  go_enter Try.func14, Try.ntmps14
  go_wp2_with fail
  refine (c1.out _ _ (lies_row (by simp) rfl)).mono ?_
  rintro e w1 ⟨rfl, hb1⟩
  have HH1 := Lib.hid (((((((Blks.nil (w := w))).new (w.heap.size) 23 [.int .i64 ax, .int .i64 ay, .int .i64 az] rfl).new (w.heap.size + 1) 23 [.int .i64 bx, .int .i64 bY, .int .i64 bz] (by simp)).new (w.heap.size + 1 + 1) 23 [.int .i64 0, .int .i64 0, .int .i64 0] (by simp)).new (w.heap.size + 1 + 1 + 1) 23 [.int .i64 ax, .int .i64 ay, .int .i64 az, .int .i64 bx, .int .i64 bY, .int .i64 bz] (by simp)).below hb1)
  have HB1 := Lib.hid (below_trans (below_alloc (below_alloc (below_alloc (below_alloc (Below.refl _ _) _) _) _) _) hb1)
  clear hb1
  have B1_0 : Blk w1 (w.heap.size) 23 #[.int .i64 ax, .int .i64 ay, .int .i64 az] := HH1.out (w.heap.size, 23, [.int .i64 ax, .int .i64 ay, .int .i64 az]) (by simp)
  have k1_0_0 : w1.cell? ⟨w.heap.size, 0, none⟩ = some (.int .i64 ax) := B1_0.cell 0
  have f1_0_0 : w1.frozen? ⟨w.heap.size, 0, none⟩ = false := B1_0.frozen 0
  have k1_0_1 : w1.cell? ⟨w.heap.size, 1, none⟩ = some (.int .i64 ay) := B1_0.cell 1
  have f1_0_1 : w1.frozen? ⟨w.heap.size, 1, none⟩ = false := B1_0.frozen 1
  have k1_0_2 : w1.cell? ⟨w.heap.size, 2, none⟩ = some (.int .i64 az) := B1_0.cell 2
  have f1_0_2 : w1.frozen? ⟨w.heap.size, 2, none⟩ = false := B1_0.frozen 2
  have z1_0 : w.heap.size < w1.heap.size := B1_0.lt
  clear B1_0
  have B1_1 : Blk w1 (w.heap.size + 1) 23 #[.int .i64 bx, .int .i64 bY, .int .i64 bz] := HH1.out (w.heap.size + 1, 23, [.int .i64 bx, .int .i64 bY, .int .i64 bz]) (by simp)
  have k1_1_0 : w1.cell? ⟨w.heap.size + 1, 0, none⟩ = some (.int .i64 bx) := B1_1.cell 0
  have f1_1_0 : w1.frozen? ⟨w.heap.size + 1, 0, none⟩ = false := B1_1.frozen 0
  have k1_1_1 : w1.cell? ⟨w.heap.size + 1, 1, none⟩ = some (.int .i64 bY) := B1_1.cell 1
  have f1_1_1 : w1.frozen? ⟨w.heap.size + 1, 1, none⟩ = false := B1_1.frozen 1
  have k1_1_2 : w1.cell? ⟨w.heap.size + 1, 2, none⟩ = some (.int .i64 bz) := B1_1.cell 2
  have f1_1_2 : w1.frozen? ⟨w.heap.size + 1, 2, none⟩ = false := B1_1.frozen 2
  have z1_1 : w.heap.size + 1 < w1.heap.size := B1_1.lt
  clear B1_1
  have B1_2 : Blk w1 (w.heap.size + 1 + 1) 23 #[.int .i64 0, .int .i64 0, .int .i64 0] := HH1.out (w.heap.size + 1 + 1, 23, [.int .i64 0, .int .i64 0, .int .i64 0]) (by simp)
  have k1_2_0 : w1.cell? ⟨w.heap.size + 1 + 1, 0, none⟩ = some (.int .i64 0) := B1_2.cell 0
  have f1_2_0 : w1.frozen? ⟨w.heap.size + 1 + 1, 0, none⟩ = false := B1_2.frozen 0
  have k1_2_1 : w1.cell? ⟨w.heap.size + 1 + 1, 1, none⟩ = some (.int .i64 0) := B1_2.cell 1
  have f1_2_1 : w1.frozen? ⟨w.heap.size + 1 + 1, 1, none⟩ = false := B1_2.frozen 1
  have k1_2_2 : w1.cell? ⟨w.heap.size + 1 + 1, 2, none⟩ = some (.int .i64 0) := B1_2.cell 2
  have f1_2_2 : w1.frozen? ⟨w.heap.size + 1 + 1, 2, none⟩ = false := B1_2.frozen 2
  have z1_2 : w.heap.size + 1 + 1 < w1.heap.size := B1_2.lt
  clear B1_2
  have B1_3 : Blk w1 (w.heap.size + 1 + 1 + 1) 23 #[.int .i64 ax, .int .i64 ay, .int .i64 az, .int .i64 bx, .int .i64 bY, .int .i64 bz] := HH1.out (w.heap.size + 1 + 1 + 1, 23, [.int .i64 ax, .int .i64 ay, .int .i64 az, .int .i64 bx, .int .i64 bY, .int .i64 bz]) (by simp)
  have k1_3_0 : w1.cell? ⟨w.heap.size + 1 + 1 + 1, 0, none⟩ = some (.int .i64 ax) := B1_3.cell 0
  have f1_3_0 : w1.frozen? ⟨w.heap.size + 1 + 1 + 1, 0, none⟩ = false := B1_3.frozen 0
  have k1_3_1 : w1.cell? ⟨w.heap.size + 1 + 1 + 1, 1, none⟩ = some (.int .i64 ay) := B1_3.cell 1
  have f1_3_1 : w1.frozen? ⟨w.heap.size + 1 + 1 + 1, 1, none⟩ = false := B1_3.frozen 1
  have k1_3_2 : w1.cell? ⟨w.heap.size + 1 + 1 + 1, 2, none⟩ = some (.int .i64 az) := B1_3.cell 2
  have f1_3_2 : w1.frozen? ⟨w.heap.size + 1 + 1 + 1, 2, none⟩ = false := B1_3.frozen 2
  have k1_3_3 : w1.cell? ⟨w.heap.size + 1 + 1 + 1, 3, none⟩ = some (.int .i64 bx) := B1_3.cell 3
  have f1_3_3 : w1.frozen? ⟨w.heap.size + 1 + 1 + 1, 3, none⟩ = false := B1_3.frozen 3
  have k1_3_4 : w1.cell? ⟨w.heap.size + 1 + 1 + 1, 4, none⟩ = some (.int .i64 bY) := B1_3.cell 4
  have f1_3_4 : w1.frozen? ⟨w.heap.size + 1 + 1 + 1, 4, none⟩ = false := B1_3.frozen 4
  have k1_3_5 : w1.cell? ⟨w.heap.size + 1 + 1 + 1, 5, none⟩ = some (.int .i64 bz) := B1_3.cell 5
  have f1_3_5 : w1.frozen? ⟨w.heap.size + 1 + 1 + 1, 5, none⟩ = false := B1_3.frozen 5
  have z1_3 : w.heap.size + 1 + 1 + 1 < w1.heap.size := B1_3.lt
  clear B1_3
  go_wp2_with fail
  refine (c2.out _).mono ?_
  rintro e w2 ⟨rfl, hb2⟩
  have HH2 := Lib.hid ((HH1.out).below hb2)
  have HB2 := Lib.hid (below_trans (HB1.out) hb2)
  clear k1_0_0 f1_0_0 k1_0_1 f1_0_1 k1_0_2 f1_0_2 z1_0 k1_1_0 f1_1_0 k1_1_1 f1_1_1 k1_1_2 f1_1_2 z1_1 k1_2_0 f1_2_0 k1_2_1 f1_2_1 k1_2_2 f1_2_2 z1_2 k1_3_0 f1_3_0 k1_3_1 f1_3_1 k1_3_2 f1_3_2 k1_3_3 f1_3_3 k1_3_4 f1_3_4 k1_3_5 f1_3_5 z1_3
  clear hb2
  clear HH1 HB1
  have B2_0 : Blk w2 (w.heap.size) 23 #[.int .i64 ax, .int .i64 ay, .int .i64 az] := HH2.out (w.heap.size, 23, [.int .i64 ax, .int .i64 ay, .int .i64 az]) (by simp)
  have k2_0_0 : w2.cell? ⟨w.heap.size, 0, none⟩ = some (.int .i64 ax) := B2_0.cell 0
  have f2_0_0 : w2.frozen? ⟨w.heap.size, 0, none⟩ = false := B2_0.frozen 0
  have k2_0_1 : w2.cell? ⟨w.heap.size, 1, none⟩ = some (.int .i64 ay) := B2_0.cell 1
  have f2_0_1 : w2.frozen? ⟨w.heap.size, 1, none⟩ = false := B2_0.frozen 1
  have k2_0_2 : w2.cell? ⟨w.heap.size, 2, none⟩ = some (.int .i64 az) := B2_0.cell 2
  have f2_0_2 : w2.frozen? ⟨w.heap.size, 2, none⟩ = false := B2_0.frozen 2
  have z2_0 : w.heap.size < w2.heap.size := B2_0.lt
  clear B2_0
  have B2_1 : Blk w2 (w.heap.size + 1) 23 #[.int .i64 bx, .int .i64 bY, .int .i64 bz] := HH2.out (w.heap.size + 1, 23, [.int .i64 bx, .int .i64 bY, .int .i64 bz]) (by simp)
  have k2_1_0 : w2.cell? ⟨w.heap.size + 1, 0, none⟩ = some (.int .i64 bx) := B2_1.cell 0
  have f2_1_0 : w2.frozen? ⟨w.heap.size + 1, 0, none⟩ = false := B2_1.frozen 0
  have k2_1_1 : w2.cell? ⟨w.heap.size + 1, 1, none⟩ = some (.int .i64 bY) := B2_1.cell 1
  have f2_1_1 : w2.frozen? ⟨w.heap.size + 1, 1, none⟩ = false := B2_1.frozen 1
  have k2_1_2 : w2.cell? ⟨w.heap.size + 1, 2, none⟩ = some (.int .i64 bz) := B2_1.cell 2
  have f2_1_2 : w2.frozen? ⟨w.heap.size + 1, 2, none⟩ = false := B2_1.frozen 2
  have z2_1 : w.heap.size + 1 < w2.heap.size := B2_1.lt
  clear B2_1
  have B2_2 : Blk w2 (w.heap.size + 1 + 1) 23 #[.int .i64 0, .int .i64 0, .int .i64 0] := HH2.out (w.heap.size + 1 + 1, 23, [.int .i64 0, .int .i64 0, .int .i64 0]) (by simp)
  have k2_2_0 : w2.cell? ⟨w.heap.size + 1 + 1, 0, none⟩ = some (.int .i64 0) := B2_2.cell 0
  have f2_2_0 : w2.frozen? ⟨w.heap.size + 1 + 1, 0, none⟩ = false := B2_2.frozen 0
  have k2_2_1 : w2.cell? ⟨w.heap.size + 1 + 1, 1, none⟩ = some (.int .i64 0) := B2_2.cell 1
  have f2_2_1 : w2.frozen? ⟨w.heap.size + 1 + 1, 1, none⟩ = false := B2_2.frozen 1
  have k2_2_2 : w2.cell? ⟨w.heap.size + 1 + 1, 2, none⟩ = some (.int .i64 0) := B2_2.cell 2
  have f2_2_2 : w2.frozen? ⟨w.heap.size + 1 + 1, 2, none⟩ = false := B2_2.frozen 2
  have z2_2 : w.heap.size + 1 + 1 < w2.heap.size := B2_2.lt
  clear B2_2
  have B2_3 : Blk w2 (w.heap.size + 1 + 1 + 1) 23 #[.int .i64 ax, .int .i64 ay, .int .i64 az, .int .i64 bx, .int .i64 bY, .int .i64 bz] := HH2.out (w.heap.size + 1 + 1 + 1, 23, [.int .i64 ax, .int .i64 ay, .int .i64 az, .int .i64 bx, .int .i64 bY, .int .i64 bz]) (by simp)
  have k2_3_0 : w2.cell? ⟨w.heap.size + 1 + 1 + 1, 0, none⟩ = some (.int .i64 ax) := B2_3.cell 0
  have f2_3_0 : w2.frozen? ⟨w.heap.size + 1 + 1 + 1, 0, none⟩ = false := B2_3.frozen 0
  have k2_3_1 : w2.cell? ⟨w.heap.size + 1 + 1 + 1, 1, none⟩ = some (.int .i64 ay) := B2_3.cell 1
  have f2_3_1 : w2.frozen? ⟨w.heap.size + 1 + 1 + 1, 1, none⟩ = false := B2_3.frozen 1
  have k2_3_2 : w2.cell? ⟨w.heap.size + 1 + 1 + 1, 2, none⟩ = some (.int .i64 az) := B2_3.cell 2
  have f2_3_2 : w2.frozen? ⟨w.heap.size + 1 + 1 + 1, 2, none⟩ = false := B2_3.frozen 2
  have k2_3_3 : w2.cell? ⟨w.heap.size + 1 + 1 + 1, 3, none⟩ = some (.int .i64 bx) := B2_3.cell 3
  have f2_3_3 : w2.frozen? ⟨w.heap.size + 1 + 1 + 1, 3, none⟩ = false := B2_3.frozen 3
  have k2_3_4 : w2.cell? ⟨w.heap.size + 1 + 1 + 1, 4, none⟩ = some (.int .i64 bY) := B2_3.cell 4
  have f2_3_4 : w2.frozen? ⟨w.heap.size + 1 + 1 + 1, 4, none⟩ = false := B2_3.frozen 4
  have k2_3_5 : w2.cell? ⟨w.heap.size + 1 + 1 + 1, 5, none⟩ = some (.int .i64 bz) := B2_3.cell 5
  have f2_3_5 : w2.frozen? ⟨w.heap.size + 1 + 1 + 1, 5, none⟩ = false := B2_3.frozen 5
  have z2_3 : w.heap.size + 1 + 1 + 1 < w2.heap.size := B2_3.lt
  clear B2_3
  go_wp2_with fail
  refine (c3.out _).mono ?_
  rintro e w3 ⟨rfl, hb3⟩
  have HH3 := Lib.hid ((HH2.out).below hb3)
  have HB3 := Lib.hid (below_trans (HB2.out) hb3)
  clear k2_0_0 f2_0_0 k2_0_1 f2_0_1 k2_0_2 f2_0_2 z2_0 k2_1_0 f2_1_0 k2_1_1 f2_1_1 k2_1_2 f2_1_2 z2_1 k2_2_0 f2_2_0 k2_2_1 f2_2_1 k2_2_2 f2_2_2 z2_2 k2_3_0 f2_3_0 k2_3_1 f2_3_1 k2_3_2 f2_3_2 k2_3_3 f2_3_3 k2_3_4 f2_3_4 k2_3_5 f2_3_5 z2_3
  clear hb3
  clear HH2 HB2
  have B3_0 : Blk w3 (w.heap.size) 23 #[.int .i64 ax, .int .i64 ay, .int .i64 az] := HH3.out (w.heap.size, 23, [.int .i64 ax, .int .i64 ay, .int .i64 az]) (by simp)
  have k3_0_0 : w3.cell? ⟨w.heap.size, 0, none⟩ = some (.int .i64 ax) := B3_0.cell 0
  have f3_0_0 : w3.frozen? ⟨w.heap.size, 0, none⟩ = false := B3_0.frozen 0
  have k3_0_1 : w3.cell? ⟨w.heap.size, 1, none⟩ = some (.int .i64 ay) := B3_0.cell 1
  have f3_0_1 : w3.frozen? ⟨w.heap.size, 1, none⟩ = false := B3_0.frozen 1
  have k3_0_2 : w3.cell? ⟨w.heap.size, 2, none⟩ = some (.int .i64 az) := B3_0.cell 2
  have f3_0_2 : w3.frozen? ⟨w.heap.size, 2, none⟩ = false := B3_0.frozen 2
  have z3_0 : w.heap.size < w3.heap.size := B3_0.lt
  clear B3_0
  have B3_1 : Blk w3 (w.heap.size + 1) 23 #[.int .i64 bx, .int .i64 bY, .int .i64 bz] := HH3.out (w.heap.size + 1, 23, [.int .i64 bx, .int .i64 bY, .int .i64 bz]) (by simp)
  have k3_1_0 : w3.cell? ⟨w.heap.size + 1, 0, none⟩ = some (.int .i64 bx) := B3_1.cell 0
  have f3_1_0 : w3.frozen? ⟨w.heap.size + 1, 0, none⟩ = false := B3_1.frozen 0
  have k3_1_1 : w3.cell? ⟨w.heap.size + 1, 1, none⟩ = some (.int .i64 bY) := B3_1.cell 1
  have f3_1_1 : w3.frozen? ⟨w.heap.size + 1, 1, none⟩ = false := B3_1.frozen 1
  have k3_1_2 : w3.cell? ⟨w.heap.size + 1, 2, none⟩ = some (.int .i64 bz) := B3_1.cell 2
  have f3_1_2 : w3.frozen? ⟨w.heap.size + 1, 2, none⟩ = false := B3_1.frozen 2
  have z3_1 : w.heap.size + 1 < w3.heap.size := B3_1.lt
  clear B3_1
  have B3_2 : Blk w3 (w.heap.size + 1 + 1) 23 #[.int .i64 0, .int .i64 0, .int .i64 0] := HH3.out (w.heap.size + 1 + 1, 23, [.int .i64 0, .int .i64 0, .int .i64 0]) (by simp)
  have k3_2_0 : w3.cell? ⟨w.heap.size + 1 + 1, 0, none⟩ = some (.int .i64 0) := B3_2.cell 0
  have f3_2_0 : w3.frozen? ⟨w.heap.size + 1 + 1, 0, none⟩ = false := B3_2.frozen 0
  have k3_2_1 : w3.cell? ⟨w.heap.size + 1 + 1, 1, none⟩ = some (.int .i64 0) := B3_2.cell 1
  have f3_2_1 : w3.frozen? ⟨w.heap.size + 1 + 1, 1, none⟩ = false := B3_2.frozen 1
  have k3_2_2 : w3.cell? ⟨w.heap.size + 1 + 1, 2, none⟩ = some (.int .i64 0) := B3_2.cell 2
  have f3_2_2 : w3.frozen? ⟨w.heap.size + 1 + 1, 2, none⟩ = false := B3_2.frozen 2
  have z3_2 : w.heap.size + 1 + 1 < w3.heap.size := B3_2.lt
  clear B3_2
  have B3_3 : Blk w3 (w.heap.size + 1 + 1 + 1) 23 #[.int .i64 ax, .int .i64 ay, .int .i64 az, .int .i64 bx, .int .i64 bY, .int .i64 bz] := HH3.out (w.heap.size + 1 + 1 + 1, 23, [.int .i64 ax, .int .i64 ay, .int .i64 az, .int .i64 bx, .int .i64 bY, .int .i64 bz]) (by simp)
  have k3_3_0 : w3.cell? ⟨w.heap.size + 1 + 1 + 1, 0, none⟩ = some (.int .i64 ax) := B3_3.cell 0
  have f3_3_0 : w3.frozen? ⟨w.heap.size + 1 + 1 + 1, 0, none⟩ = false := B3_3.frozen 0
  have k3_3_1 : w3.cell? ⟨w.heap.size + 1 + 1 + 1, 1, none⟩ = some (.int .i64 ay) := B3_3.cell 1
  have f3_3_1 : w3.frozen? ⟨w.heap.size + 1 + 1 + 1, 1, none⟩ = false := B3_3.frozen 1
  have k3_3_2 : w3.cell? ⟨w.heap.size + 1 + 1 + 1, 2, none⟩ = some (.int .i64 az) := B3_3.cell 2
  have f3_3_2 : w3.frozen? ⟨w.heap.size + 1 + 1 + 1, 2, none⟩ = false := B3_3.frozen 2
  have k3_3_3 : w3.cell? ⟨w.heap.size + 1 + 1 + 1, 3, none⟩ = some (.int .i64 bx) := B3_3.cell 3
  have f3_3_3 : w3.frozen? ⟨w.heap.size + 1 + 1 + 1, 3, none⟩ = false := B3_3.frozen 3
  have k3_3_4 : w3.cell? ⟨w.heap.size + 1 + 1 + 1, 4, none⟩ = some (.int .i64 bY) := B3_3.cell 4
  have f3_3_4 : w3.frozen? ⟨w.heap.size + 1 + 1 + 1, 4, none⟩ = false := B3_3.frozen 4
  have k3_3_5 : w3.cell? ⟨w.heap.size + 1 + 1 + 1, 5, none⟩ = some (.int .i64 bz) := B3_3.cell 5
  have f3_3_5 : w3.frozen? ⟨w.heap.size + 1 + 1 + 1, 5, none⟩ = false := B3_3.frozen 5
  have z3_3 : w.heap.size + 1 + 1 + 1 < w3.heap.size := B3_3.lt
  clear B3_3
  go_wp2
  refine bodyPost_ret (v := .tuple #[.agg #[.int .i64 sx, .int .i64 sy, .int .i64 sz], .int .i64 0]) ?_ rfl ⟨rfl, ?_⟩
  · simp [results, Try.results14, go_sem, *]
  · repeat (first | exact HB3.out | refine below_set ?_ (by have := HB3.out.size; simp <;> omega) _ | refine below_alloc ?_ _)
theorem sub_far (ax ay az bx bY bz : Int) (h1 : in3 ax ay az = true) (h2 : in3 bx bY bz = true) (h : in3 (ax - bx) (ay - bY) (az - bz) = false) (w : World) : Calls Try.prog 14 #[.agg #[.int .i64 ax, .int .i64 ay, .int .i64 az], .agg #[.int .i64 bx, .int .i64 bY, .int .i64 bz]] w fun e w' => e = .returned (.tuple #[.agg #[.int .i64 0, .int .i64 0, .int .i64 0], .int .i64 6]) ∧ Below w.heap.size w w' := by
  have c1 := Lib.hid fun A W (hL : Lies W A (flat3 [(ax, ay, az), (bx, bY, bz)])) => checkAll_any A 2 2 [(ax, ay, az), (bx, bY, bz)] rfl (by omega) W hL
  rw [chk2_ok h1 h2] at c1
  have c2 := Lib.hid fun W => plusm_any ax ay az bx bY bz h1 h2 W
  have c3 := Lib.hid fun W => inRange_no _ _ _ h W
  clear h h1 h2
  generalize ax - bx = sx at *
  generalize ay - bY = sy at *
  generalize az - bz = sz at *
  go_enter Try.func14, Try.ntmps14
  go_wp2_with fail
  refine (c1.out _ _ (lies_row (by simp) rfl)).mono ?_
  rintro e w1 ⟨rfl, hb1⟩
  have HH1 := Lib.hid (((((((Blks.nil (w := w))).new (w.heap.size) 23 [.int .i64 ax, .int .i64 ay, .int .i64 az] rfl).new (w.heap.size + 1) 23 [.int .i64 bx, .int .i64 bY, .int .i64 bz] (by simp)).new (w.heap.size + 1 + 1) 23 [.int .i64 0, .int .i64 0, .int .i64 0] (by simp)).new (w.heap.size + 1 + 1 + 1) 23 [.int .i64 ax, .int .i64 ay, .int .i64 az, .int .i64 bx, .int .i64 bY, .int .i64 bz] (by simp)).below hb1)
  have HB1 := Lib.hid (below_trans (below_alloc (below_alloc (below_alloc (below_alloc (Below.refl _ _) _) _) _) _) hb1)
  clear hb1
  have B1_0 : Blk w1 (w.heap.size) 23 #[.int .i64 ax, .int .i64 ay, .int .i64 az] := HH1.out (w.heap.size, 23, [.int .i64 ax, .int .i64 ay, .int .i64 az]) (by simp)
  have k1_0_0 : w1.cell? ⟨w.heap.size, 0, none⟩ = some (.int .i64 ax) := B1_0.cell 0
  have f1_0_0 : w1.frozen? ⟨w.heap.size, 0, none⟩ = false := B1_0.frozen 0
  have k1_0_1 : w1.cell? ⟨w.heap.size, 1, none⟩ = some (.int .i64 ay) := B1_0.cell 1
  have f1_0_1 : w1.frozen? ⟨w.heap.size, 1, none⟩ = false := B1_0.frozen 1
  have k1_0_2 : w1.cell? ⟨w.heap.size, 2, none⟩ = some (.int .i64 az) := B1_0.cell 2
  have f1_0_2 : w1.frozen? ⟨w.heap.size, 2, none⟩ = false := B1_0.frozen 2
  have z1_0 : w.heap.size < w1.heap.size := B1_0.lt
  clear B1_0
  have B1_1 : Blk w1 (w.heap.size + 1) 23 #[.int .i64 bx, .int .i64 bY, .int .i64 bz] := HH1.out (w.heap.size + 1, 23, [.int .i64 bx, .int .i64 bY, .int .i64 bz]) (by simp)
  have k1_1_0 : w1.cell? ⟨w.heap.size + 1, 0, none⟩ = some (.int .i64 bx) := B1_1.cell 0
  have f1_1_0 : w1.frozen? ⟨w.heap.size + 1, 0, none⟩ = false := B1_1.frozen 0
  have k1_1_1 : w1.cell? ⟨w.heap.size + 1, 1, none⟩ = some (.int .i64 bY) := B1_1.cell 1
  have f1_1_1 : w1.frozen? ⟨w.heap.size + 1, 1, none⟩ = false := B1_1.frozen 1
  have k1_1_2 : w1.cell? ⟨w.heap.size + 1, 2, none⟩ = some (.int .i64 bz) := B1_1.cell 2
  have f1_1_2 : w1.frozen? ⟨w.heap.size + 1, 2, none⟩ = false := B1_1.frozen 2
  have z1_1 : w.heap.size + 1 < w1.heap.size := B1_1.lt
  clear B1_1
  have B1_2 : Blk w1 (w.heap.size + 1 + 1) 23 #[.int .i64 0, .int .i64 0, .int .i64 0] := HH1.out (w.heap.size + 1 + 1, 23, [.int .i64 0, .int .i64 0, .int .i64 0]) (by simp)
  have k1_2_0 : w1.cell? ⟨w.heap.size + 1 + 1, 0, none⟩ = some (.int .i64 0) := B1_2.cell 0
  have f1_2_0 : w1.frozen? ⟨w.heap.size + 1 + 1, 0, none⟩ = false := B1_2.frozen 0
  have k1_2_1 : w1.cell? ⟨w.heap.size + 1 + 1, 1, none⟩ = some (.int .i64 0) := B1_2.cell 1
  have f1_2_1 : w1.frozen? ⟨w.heap.size + 1 + 1, 1, none⟩ = false := B1_2.frozen 1
  have k1_2_2 : w1.cell? ⟨w.heap.size + 1 + 1, 2, none⟩ = some (.int .i64 0) := B1_2.cell 2
  have f1_2_2 : w1.frozen? ⟨w.heap.size + 1 + 1, 2, none⟩ = false := B1_2.frozen 2
  have z1_2 : w.heap.size + 1 + 1 < w1.heap.size := B1_2.lt
  clear B1_2
  have B1_3 : Blk w1 (w.heap.size + 1 + 1 + 1) 23 #[.int .i64 ax, .int .i64 ay, .int .i64 az, .int .i64 bx, .int .i64 bY, .int .i64 bz] := HH1.out (w.heap.size + 1 + 1 + 1, 23, [.int .i64 ax, .int .i64 ay, .int .i64 az, .int .i64 bx, .int .i64 bY, .int .i64 bz]) (by simp)
  have k1_3_0 : w1.cell? ⟨w.heap.size + 1 + 1 + 1, 0, none⟩ = some (.int .i64 ax) := B1_3.cell 0
  have f1_3_0 : w1.frozen? ⟨w.heap.size + 1 + 1 + 1, 0, none⟩ = false := B1_3.frozen 0
  have k1_3_1 : w1.cell? ⟨w.heap.size + 1 + 1 + 1, 1, none⟩ = some (.int .i64 ay) := B1_3.cell 1
  have f1_3_1 : w1.frozen? ⟨w.heap.size + 1 + 1 + 1, 1, none⟩ = false := B1_3.frozen 1
  have k1_3_2 : w1.cell? ⟨w.heap.size + 1 + 1 + 1, 2, none⟩ = some (.int .i64 az) := B1_3.cell 2
  have f1_3_2 : w1.frozen? ⟨w.heap.size + 1 + 1 + 1, 2, none⟩ = false := B1_3.frozen 2
  have k1_3_3 : w1.cell? ⟨w.heap.size + 1 + 1 + 1, 3, none⟩ = some (.int .i64 bx) := B1_3.cell 3
  have f1_3_3 : w1.frozen? ⟨w.heap.size + 1 + 1 + 1, 3, none⟩ = false := B1_3.frozen 3
  have k1_3_4 : w1.cell? ⟨w.heap.size + 1 + 1 + 1, 4, none⟩ = some (.int .i64 bY) := B1_3.cell 4
  have f1_3_4 : w1.frozen? ⟨w.heap.size + 1 + 1 + 1, 4, none⟩ = false := B1_3.frozen 4
  have k1_3_5 : w1.cell? ⟨w.heap.size + 1 + 1 + 1, 5, none⟩ = some (.int .i64 bz) := B1_3.cell 5
  have f1_3_5 : w1.frozen? ⟨w.heap.size + 1 + 1 + 1, 5, none⟩ = false := B1_3.frozen 5
  have z1_3 : w.heap.size + 1 + 1 + 1 < w1.heap.size := B1_3.lt
  clear B1_3
  go_wp2_with fail
  refine (c2.out _).mono ?_
  rintro e w2 ⟨rfl, hb2⟩
  have HH2 := Lib.hid ((HH1.out).below hb2)
  have HB2 := Lib.hid (below_trans (HB1.out) hb2)
  clear k1_0_0 f1_0_0 k1_0_1 f1_0_1 k1_0_2 f1_0_2 z1_0 k1_1_0 f1_1_0 k1_1_1 f1_1_1 k1_1_2 f1_1_2 z1_1 k1_2_0 f1_2_0 k1_2_1 f1_2_1 k1_2_2 f1_2_2 z1_2 k1_3_0 f1_3_0 k1_3_1 f1_3_1 k1_3_2 f1_3_2 k1_3_3 f1_3_3 k1_3_4 f1_3_4 k1_3_5 f1_3_5 z1_3
  clear hb2
  clear HH1 HB1
  have B2_0 : Blk w2 (w.heap.size) 23 #[.int .i64 ax, .int .i64 ay, .int .i64 az] := HH2.out (w.heap.size, 23, [.int .i64 ax, .int .i64 ay, .int .i64 az]) (by simp)
  have k2_0_0 : w2.cell? ⟨w.heap.size, 0, none⟩ = some (.int .i64 ax) := B2_0.cell 0
  have f2_0_0 : w2.frozen? ⟨w.heap.size, 0, none⟩ = false := B2_0.frozen 0
  have k2_0_1 : w2.cell? ⟨w.heap.size, 1, none⟩ = some (.int .i64 ay) := B2_0.cell 1
  have f2_0_1 : w2.frozen? ⟨w.heap.size, 1, none⟩ = false := B2_0.frozen 1
  have k2_0_2 : w2.cell? ⟨w.heap.size, 2, none⟩ = some (.int .i64 az) := B2_0.cell 2
  have f2_0_2 : w2.frozen? ⟨w.heap.size, 2, none⟩ = false := B2_0.frozen 2
  have z2_0 : w.heap.size < w2.heap.size := B2_0.lt
  clear B2_0
  have B2_1 : Blk w2 (w.heap.size + 1) 23 #[.int .i64 bx, .int .i64 bY, .int .i64 bz] := HH2.out (w.heap.size + 1, 23, [.int .i64 bx, .int .i64 bY, .int .i64 bz]) (by simp)
  have k2_1_0 : w2.cell? ⟨w.heap.size + 1, 0, none⟩ = some (.int .i64 bx) := B2_1.cell 0
  have f2_1_0 : w2.frozen? ⟨w.heap.size + 1, 0, none⟩ = false := B2_1.frozen 0
  have k2_1_1 : w2.cell? ⟨w.heap.size + 1, 1, none⟩ = some (.int .i64 bY) := B2_1.cell 1
  have f2_1_1 : w2.frozen? ⟨w.heap.size + 1, 1, none⟩ = false := B2_1.frozen 1
  have k2_1_2 : w2.cell? ⟨w.heap.size + 1, 2, none⟩ = some (.int .i64 bz) := B2_1.cell 2
  have f2_1_2 : w2.frozen? ⟨w.heap.size + 1, 2, none⟩ = false := B2_1.frozen 2
  have z2_1 : w.heap.size + 1 < w2.heap.size := B2_1.lt
  clear B2_1
  have B2_2 : Blk w2 (w.heap.size + 1 + 1) 23 #[.int .i64 0, .int .i64 0, .int .i64 0] := HH2.out (w.heap.size + 1 + 1, 23, [.int .i64 0, .int .i64 0, .int .i64 0]) (by simp)
  have k2_2_0 : w2.cell? ⟨w.heap.size + 1 + 1, 0, none⟩ = some (.int .i64 0) := B2_2.cell 0
  have f2_2_0 : w2.frozen? ⟨w.heap.size + 1 + 1, 0, none⟩ = false := B2_2.frozen 0
  have k2_2_1 : w2.cell? ⟨w.heap.size + 1 + 1, 1, none⟩ = some (.int .i64 0) := B2_2.cell 1
  have f2_2_1 : w2.frozen? ⟨w.heap.size + 1 + 1, 1, none⟩ = false := B2_2.frozen 1
  have k2_2_2 : w2.cell? ⟨w.heap.size + 1 + 1, 2, none⟩ = some (.int .i64 0) := B2_2.cell 2
  have f2_2_2 : w2.frozen? ⟨w.heap.size + 1 + 1, 2, none⟩ = false := B2_2.frozen 2
  have z2_2 : w.heap.size + 1 + 1 < w2.heap.size := B2_2.lt
  clear B2_2
  have B2_3 : Blk w2 (w.heap.size + 1 + 1 + 1) 23 #[.int .i64 ax, .int .i64 ay, .int .i64 az, .int .i64 bx, .int .i64 bY, .int .i64 bz] := HH2.out (w.heap.size + 1 + 1 + 1, 23, [.int .i64 ax, .int .i64 ay, .int .i64 az, .int .i64 bx, .int .i64 bY, .int .i64 bz]) (by simp)
  have k2_3_0 : w2.cell? ⟨w.heap.size + 1 + 1 + 1, 0, none⟩ = some (.int .i64 ax) := B2_3.cell 0
  have f2_3_0 : w2.frozen? ⟨w.heap.size + 1 + 1 + 1, 0, none⟩ = false := B2_3.frozen 0
  have k2_3_1 : w2.cell? ⟨w.heap.size + 1 + 1 + 1, 1, none⟩ = some (.int .i64 ay) := B2_3.cell 1
  have f2_3_1 : w2.frozen? ⟨w.heap.size + 1 + 1 + 1, 1, none⟩ = false := B2_3.frozen 1
  have k2_3_2 : w2.cell? ⟨w.heap.size + 1 + 1 + 1, 2, none⟩ = some (.int .i64 az) := B2_3.cell 2
  have f2_3_2 : w2.frozen? ⟨w.heap.size + 1 + 1 + 1, 2, none⟩ = false := B2_3.frozen 2
  have k2_3_3 : w2.cell? ⟨w.heap.size + 1 + 1 + 1, 3, none⟩ = some (.int .i64 bx) := B2_3.cell 3
  have f2_3_3 : w2.frozen? ⟨w.heap.size + 1 + 1 + 1, 3, none⟩ = false := B2_3.frozen 3
  have k2_3_4 : w2.cell? ⟨w.heap.size + 1 + 1 + 1, 4, none⟩ = some (.int .i64 bY) := B2_3.cell 4
  have f2_3_4 : w2.frozen? ⟨w.heap.size + 1 + 1 + 1, 4, none⟩ = false := B2_3.frozen 4
  have k2_3_5 : w2.cell? ⟨w.heap.size + 1 + 1 + 1, 5, none⟩ = some (.int .i64 bz) := B2_3.cell 5
  have f2_3_5 : w2.frozen? ⟨w.heap.size + 1 + 1 + 1, 5, none⟩ = false := B2_3.frozen 5
  have z2_3 : w.heap.size + 1 + 1 + 1 < w2.heap.size := B2_3.lt
  clear B2_3
  go_wp2_with fail
  refine (c3.out _).mono ?_
  rintro e w3 ⟨rfl, hb3⟩
  have HH3 := Lib.hid ((HH2.out).below hb3)
  have HB3 := Lib.hid (below_trans (HB2.out) hb3)
  clear k2_0_0 f2_0_0 k2_0_1 f2_0_1 k2_0_2 f2_0_2 z2_0 k2_1_0 f2_1_0 k2_1_1 f2_1_1 k2_1_2 f2_1_2 z2_1 k2_2_0 f2_2_0 k2_2_1 f2_2_1 k2_2_2 f2_2_2 z2_2 k2_3_0 f2_3_0 k2_3_1 f2_3_1 k2_3_2 f2_3_2 k2_3_3 f2_3_3 k2_3_4 f2_3_4 k2_3_5 f2_3_5 z2_3
  clear hb3
  clear HH2 HB2
  have B3_0 : Blk w3 (w.heap.size) 23 #[.int .i64 ax, .int .i64 ay, .int .i64 az] := HH3.out (w.heap.size, 23, [.int .i64 ax, .int .i64 ay, .int .i64 az]) (by simp)
  have k3_0_0 : w3.cell? ⟨w.heap.size, 0, none⟩ = some (.int .i64 ax) := B3_0.cell 0
  have f3_0_0 : w3.frozen? ⟨w.heap.size, 0, none⟩ = false := B3_0.frozen 0
  have k3_0_1 : w3.cell? ⟨w.heap.size, 1, none⟩ = some (.int .i64 ay) := B3_0.cell 1
  have f3_0_1 : w3.frozen? ⟨w.heap.size, 1, none⟩ = false := B3_0.frozen 1
  have k3_0_2 : w3.cell? ⟨w.heap.size, 2, none⟩ = some (.int .i64 az) := B3_0.cell 2
  have f3_0_2 : w3.frozen? ⟨w.heap.size, 2, none⟩ = false := B3_0.frozen 2
  have z3_0 : w.heap.size < w3.heap.size := B3_0.lt
  clear B3_0
  have B3_1 : Blk w3 (w.heap.size + 1) 23 #[.int .i64 bx, .int .i64 bY, .int .i64 bz] := HH3.out (w.heap.size + 1, 23, [.int .i64 bx, .int .i64 bY, .int .i64 bz]) (by simp)
  have k3_1_0 : w3.cell? ⟨w.heap.size + 1, 0, none⟩ = some (.int .i64 bx) := B3_1.cell 0
  have f3_1_0 : w3.frozen? ⟨w.heap.size + 1, 0, none⟩ = false := B3_1.frozen 0
  have k3_1_1 : w3.cell? ⟨w.heap.size + 1, 1, none⟩ = some (.int .i64 bY) := B3_1.cell 1
  have f3_1_1 : w3.frozen? ⟨w.heap.size + 1, 1, none⟩ = false := B3_1.frozen 1
  have k3_1_2 : w3.cell? ⟨w.heap.size + 1, 2, none⟩ = some (.int .i64 bz) := B3_1.cell 2
  have f3_1_2 : w3.frozen? ⟨w.heap.size + 1, 2, none⟩ = false := B3_1.frozen 2
  have z3_1 : w.heap.size + 1 < w3.heap.size := B3_1.lt
  clear B3_1
  have B3_2 : Blk w3 (w.heap.size + 1 + 1) 23 #[.int .i64 0, .int .i64 0, .int .i64 0] := HH3.out (w.heap.size + 1 + 1, 23, [.int .i64 0, .int .i64 0, .int .i64 0]) (by simp)
  have k3_2_0 : w3.cell? ⟨w.heap.size + 1 + 1, 0, none⟩ = some (.int .i64 0) := B3_2.cell 0
  have f3_2_0 : w3.frozen? ⟨w.heap.size + 1 + 1, 0, none⟩ = false := B3_2.frozen 0
  have k3_2_1 : w3.cell? ⟨w.heap.size + 1 + 1, 1, none⟩ = some (.int .i64 0) := B3_2.cell 1
  have f3_2_1 : w3.frozen? ⟨w.heap.size + 1 + 1, 1, none⟩ = false := B3_2.frozen 1
  have k3_2_2 : w3.cell? ⟨w.heap.size + 1 + 1, 2, none⟩ = some (.int .i64 0) := B3_2.cell 2
  have f3_2_2 : w3.frozen? ⟨w.heap.size + 1 + 1, 2, none⟩ = false := B3_2.frozen 2
  have z3_2 : w.heap.size + 1 + 1 < w3.heap.size := B3_2.lt
  clear B3_2
  have B3_3 : Blk w3 (w.heap.size + 1 + 1 + 1) 23 #[.int .i64 ax, .int .i64 ay, .int .i64 az, .int .i64 bx, .int .i64 bY, .int .i64 bz] := HH3.out (w.heap.size + 1 + 1 + 1, 23, [.int .i64 ax, .int .i64 ay, .int .i64 az, .int .i64 bx, .int .i64 bY, .int .i64 bz]) (by simp)
  have k3_3_0 : w3.cell? ⟨w.heap.size + 1 + 1 + 1, 0, none⟩ = some (.int .i64 ax) := B3_3.cell 0
  have f3_3_0 : w3.frozen? ⟨w.heap.size + 1 + 1 + 1, 0, none⟩ = false := B3_3.frozen 0
  have k3_3_1 : w3.cell? ⟨w.heap.size + 1 + 1 + 1, 1, none⟩ = some (.int .i64 ay) := B3_3.cell 1
  have f3_3_1 : w3.frozen? ⟨w.heap.size + 1 + 1 + 1, 1, none⟩ = false := B3_3.frozen 1
  have k3_3_2 : w3.cell? ⟨w.heap.size + 1 + 1 + 1, 2, none⟩ = some (.int .i64 az) := B3_3.cell 2
  have f3_3_2 : w3.frozen? ⟨w.heap.size + 1 + 1 + 1, 2, none⟩ = false := B3_3.frozen 2
  have k3_3_3 : w3.cell? ⟨w.heap.size + 1 + 1 + 1, 3, none⟩ = some (.int .i64 bx) := B3_3.cell 3
  have f3_3_3 : w3.frozen? ⟨w.heap.size + 1 + 1 + 1, 3, none⟩ = false := B3_3.frozen 3
  have k3_3_4 : w3.cell? ⟨w.heap.size + 1 + 1 + 1, 4, none⟩ = some (.int .i64 bY) := B3_3.cell 4
  have f3_3_4 : w3.frozen? ⟨w.heap.size + 1 + 1 + 1, 4, none⟩ = false := B3_3.frozen 4
  have k3_3_5 : w3.cell? ⟨w.heap.size + 1 + 1 + 1, 5, none⟩ = some (.int .i64 bz) := B3_3.cell 5
  have f3_3_5 : w3.frozen? ⟨w.heap.size + 1 + 1 + 1, 5, none⟩ = false := B3_3.frozen 5
  have z3_3 : w.heap.size + 1 + 1 + 1 < w3.heap.size := B3_3.lt
  clear B3_3
  go_wp2
  refine bodyPost_ret (v := .tuple #[.agg #[.int .i64 0, .int .i64 0, .int .i64 0], .int .i64 6]) ?_ rfl ⟨rfl, ?_⟩
  · simp [results, Try.results14, go_sem, *]
  · repeat (first | exact HB3.out | refine below_set ?_ (by have := HB3.out.size; simp <;> omega) _ | refine below_alloc ?_ _)
end Go.Proofs.Ytkfdbhhchnbjdaa.Ve
