/- Dot, Distance. -/
import Derived.Test.YtkfdbhhchnbjdaaVeK
namespace Go.Proofs.Ytkfdbhhchnbjdaa.Ve
open Go.RowKit Ba
set_option linter.unusedVariables false

theorem dotb {a b : Int} (h1 : -1000000 ≤ a ∧ a ≤ 1000000) (h2 : -1000000 ≤ b ∧ b ≤ 1000000) : -4000000000000 ≤ a * b ∧ a * b ≤ 4000000000000 := by
  have := mul6 h1 h2
  omega
theorem disb {a b : Int} (h1 : -1000000 ≤ a ∧ a ≤ 1000000) (h2 : -1000000 ≤ b ∧ b ≤ 1000000) : -4000000000000 ≤ (a - b) * (a - b) ∧ (a - b) * (a - b) ≤ 4000000000000 := mul7 ⟨by omega, by omega⟩ ⟨by omega, by omega⟩
theorem dot_no (ax ay az bx bY bz : Int) (h : ¬ (in3 ax ay az = true ∧ in3 bx bY bz = true)) (w : World) : Calls Try.prog 22 #[.agg #[.int .i64 ax, .int .i64 ay, .int .i64 az], .agg #[.int .i64 bx, .int .i64 bY, .int .i64 bz]] w fun e w' => e = .returned (.tuple #[.int .i64 0, .int .i64 6]) ∧ Below w.heap.size w w' := by
  have c1 := Lib.hid fun A W (hL : Lies W A (flat3 [(ax, ay, az), (bx, bY, bz)])) => checkAll_any A 2 2 [(ax, ay, az), (bx, bY, bz)] rfl (by omega) W hL
  rw [chk2_no h] at c1
  clear h
  go_enter Try.func22, Try.ntmps22
  go_wp2_with fail
  refine (c1.out _ _ (lies_row (by simp) rfl)).mono ?_
  rintro e w1 ⟨rfl, hb1⟩
  have HH1 := Lib.hid ((((((Blks.nil (w := w))).new (w.heap.size) 23 [.int .i64 ax, .int .i64 ay, .int .i64 az] rfl).new (w.heap.size + 1) 23 [.int .i64 bx, .int .i64 bY, .int .i64 bz] (by simp)).new (w.heap.size + 1 + 1) 23 [.int .i64 ax, .int .i64 ay, .int .i64 az, .int .i64 bx, .int .i64 bY, .int .i64 bz] (by simp)).below hb1)
  have HB1 := Lib.hid (below_trans (below_alloc (below_alloc (below_alloc (Below.refl _ _) _) _) _) hb1)
  clear hb1
  have B1_0 : Blk w1 (w.heap.size) 23 #[.int .i64 ax, .int .i64 ay, .int .i64 az] := HH1.out (w.heap.size, 23, [.int .i64 ax, .int .i64 ay, .int .i64 az]) (by simp)
  have k1_0_0 : w1.cell? ⟨w.heap.size, 0, none⟩ = some (.int .i64 ax) := B1_0.cell 0
  have k1_0_1 : w1.cell? ⟨w.heap.size, 1, none⟩ = some (.int .i64 ay) := B1_0.cell 1
  have k1_0_2 : w1.cell? ⟨w.heap.size, 2, none⟩ = some (.int .i64 az) := B1_0.cell 2
  have z1_0 : w.heap.size < w1.heap.size := B1_0.lt
  clear B1_0
  have B1_1 : Blk w1 (w.heap.size + 1) 23 #[.int .i64 bx, .int .i64 bY, .int .i64 bz] := HH1.out (w.heap.size + 1, 23, [.int .i64 bx, .int .i64 bY, .int .i64 bz]) (by simp)
  have k1_1_0 : w1.cell? ⟨w.heap.size + 1, 0, none⟩ = some (.int .i64 bx) := B1_1.cell 0
  have k1_1_1 : w1.cell? ⟨w.heap.size + 1, 1, none⟩ = some (.int .i64 bY) := B1_1.cell 1
  have k1_1_2 : w1.cell? ⟨w.heap.size + 1, 2, none⟩ = some (.int .i64 bz) := B1_1.cell 2
  have z1_1 : w.heap.size + 1 < w1.heap.size := B1_1.lt
  clear B1_1
  have B1_2 : Blk w1 (w.heap.size + 1 + 1) 23 #[.int .i64 ax, .int .i64 ay, .int .i64 az, .int .i64 bx, .int .i64 bY, .int .i64 bz] := HH1.out (w.heap.size + 1 + 1, 23, [.int .i64 ax, .int .i64 ay, .int .i64 az, .int .i64 bx, .int .i64 bY, .int .i64 bz]) (by simp)
  have k1_2_0 : w1.cell? ⟨w.heap.size + 1 + 1, 0, none⟩ = some (.int .i64 ax) := B1_2.cell 0
  have k1_2_1 : w1.cell? ⟨w.heap.size + 1 + 1, 1, none⟩ = some (.int .i64 ay) := B1_2.cell 1
  have k1_2_2 : w1.cell? ⟨w.heap.size + 1 + 1, 2, none⟩ = some (.int .i64 az) := B1_2.cell 2
  have k1_2_3 : w1.cell? ⟨w.heap.size + 1 + 1, 3, none⟩ = some (.int .i64 bx) := B1_2.cell 3
  have k1_2_4 : w1.cell? ⟨w.heap.size + 1 + 1, 4, none⟩ = some (.int .i64 bY) := B1_2.cell 4
  have k1_2_5 : w1.cell? ⟨w.heap.size + 1 + 1, 5, none⟩ = some (.int .i64 bz) := B1_2.cell 5
  have z1_2 : w.heap.size + 1 + 1 < w1.heap.size := B1_2.lt
  clear B1_2
  go_wp2
  go_returns
  exact ⟨rfl, by repeat (first | exact HB1.out | refine below_set ?_ (by have := HB1.out.size; simp <;> omega) _ | refine below_alloc ?_ _)⟩
theorem dot_ok (ax ay az bx bY bz : Int) (h1 : in3 ax ay az = true) (h2 : in3 bx bY bz = true) (w : World) : Calls Try.prog 22 #[.agg #[.int .i64 ax, .int .i64 ay, .int .i64 az], .agg #[.int .i64 bx, .int .i64 bY, .int .i64 bz]] w fun e w' => e = .returned (.tuple #[.int .i64 (ax * bx + ay * bY + az * bz), .int .i64 0]) ∧ Below w.heap.size w w' := by
  obtain ⟨g1, g2, g3⟩ := in3_iff.1 h1
  obtain ⟨e1, e2, e3⟩ := in3_iff.1 h2
  have c1 := Lib.hid fun A W (hL : Lies W A (flat3 [(ax, ay, az), (bx, bY, bz)])) => checkAll_any A 2 2 [(ax, ay, az), (bx, bY, bz)] rfl (by omega) W hL
  rw [chk2_ok h1 h2] at c1
  have c2 := Lib.hid fun W => dot_any ax ay az bx bY bz (dotb g1 e1) (dotb g2 e2) (dotb g3 e3) W
  clear h1 h2 g1 g2 g3 e1 e2 e3
  go_enter Try.func22, Try.ntmps22
  go_wp2_with fail
  refine (c1.out _ _ (lies_row (by simp) rfl)).mono ?_
  rintro e w1 ⟨rfl, hb1⟩
  have HH1 := Lib.hid ((((((Blks.nil (w := w))).new (w.heap.size) 23 [.int .i64 ax, .int .i64 ay, .int .i64 az] rfl).new (w.heap.size + 1) 23 [.int .i64 bx, .int .i64 bY, .int .i64 bz] (by simp)).new (w.heap.size + 1 + 1) 23 [.int .i64 ax, .int .i64 ay, .int .i64 az, .int .i64 bx, .int .i64 bY, .int .i64 bz] (by simp)).below hb1)
  have HB1 := Lib.hid (below_trans (below_alloc (below_alloc (below_alloc (Below.refl _ _) _) _) _) hb1)
  clear hb1
  have B1_0 : Blk w1 (w.heap.size) 23 #[.int .i64 ax, .int .i64 ay, .int .i64 az] := HH1.out (w.heap.size, 23, [.int .i64 ax, .int .i64 ay, .int .i64 az]) (by simp)
  have k1_0_0 : w1.cell? ⟨w.heap.size, 0, none⟩ = some (.int .i64 ax) := B1_0.cell 0
  have k1_0_1 : w1.cell? ⟨w.heap.size, 1, none⟩ = some (.int .i64 ay) := B1_0.cell 1
  have k1_0_2 : w1.cell? ⟨w.heap.size, 2, none⟩ = some (.int .i64 az) := B1_0.cell 2
  have z1_0 : w.heap.size < w1.heap.size := B1_0.lt
  clear B1_0
  have B1_1 : Blk w1 (w.heap.size + 1) 23 #[.int .i64 bx, .int .i64 bY, .int .i64 bz] := HH1.out (w.heap.size + 1, 23, [.int .i64 bx, .int .i64 bY, .int .i64 bz]) (by simp)
  have k1_1_0 : w1.cell? ⟨w.heap.size + 1, 0, none⟩ = some (.int .i64 bx) := B1_1.cell 0
  have k1_1_1 : w1.cell? ⟨w.heap.size + 1, 1, none⟩ = some (.int .i64 bY) := B1_1.cell 1
  have k1_1_2 : w1.cell? ⟨w.heap.size + 1, 2, none⟩ = some (.int .i64 bz) := B1_1.cell 2
  have z1_1 : w.heap.size + 1 < w1.heap.size := B1_1.lt
  clear B1_1
  have B1_2 : Blk w1 (w.heap.size + 1 + 1) 23 #[.int .i64 ax, .int .i64 ay, .int .i64 az, .int .i64 bx, .int .i64 bY, .int .i64 bz] := HH1.out (w.heap.size + 1 + 1, 23, [.int .i64 ax, .int .i64 ay, .int .i64 az, .int .i64 bx, .int .i64 bY, .int .i64 bz]) (by simp)
  have k1_2_0 : w1.cell? ⟨w.heap.size + 1 + 1, 0, none⟩ = some (.int .i64 ax) := B1_2.cell 0
  have k1_2_1 : w1.cell? ⟨w.heap.size + 1 + 1, 1, none⟩ = some (.int .i64 ay) := B1_2.cell 1
  have k1_2_2 : w1.cell? ⟨w.heap.size + 1 + 1, 2, none⟩ = some (.int .i64 az) := B1_2.cell 2
  have k1_2_3 : w1.cell? ⟨w.heap.size + 1 + 1, 3, none⟩ = some (.int .i64 bx) := B1_2.cell 3
  have k1_2_4 : w1.cell? ⟨w.heap.size + 1 + 1, 4, none⟩ = some (.int .i64 bY) := B1_2.cell 4
  have k1_2_5 : w1.cell? ⟨w.heap.size + 1 + 1, 5, none⟩ = some (.int .i64 bz) := B1_2.cell 5
  have z1_2 : w.heap.size + 1 + 1 < w1.heap.size := B1_2.lt
  clear B1_2
  go_wp2_with fail
  refine (c2.out _).mono ?_
  rintro e w2 ⟨rfl, hb2⟩
  have HH2 := Lib.hid ((HH1.out).below hb2)
  have HB2 := Lib.hid (below_trans (HB1.out) hb2)
  clear k1_0_0 k1_0_1 k1_0_2 z1_0 k1_1_0 k1_1_1 k1_1_2 z1_1 k1_2_0 k1_2_1 k1_2_2 k1_2_3 k1_2_4 k1_2_5 z1_2
  clear hb2
  clear HH1 HB1
  have B2_0 : Blk w2 (w.heap.size) 23 #[.int .i64 ax, .int .i64 ay, .int .i64 az] := HH2.out (w.heap.size, 23, [.int .i64 ax, .int .i64 ay, .int .i64 az]) (by simp)
  have k2_0_0 : w2.cell? ⟨w.heap.size, 0, none⟩ = some (.int .i64 ax) := B2_0.cell 0
  have k2_0_1 : w2.cell? ⟨w.heap.size, 1, none⟩ = some (.int .i64 ay) := B2_0.cell 1
  have k2_0_2 : w2.cell? ⟨w.heap.size, 2, none⟩ = some (.int .i64 az) := B2_0.cell 2
  have z2_0 : w.heap.size < w2.heap.size := B2_0.lt
  clear B2_0
  have B2_1 : Blk w2 (w.heap.size + 1) 23 #[.int .i64 bx, .int .i64 bY, .int .i64 bz] := HH2.out (w.heap.size + 1, 23, [.int .i64 bx, .int .i64 bY, .int .i64 bz]) (by simp)
  have k2_1_0 : w2.cell? ⟨w.heap.size + 1, 0, none⟩ = some (.int .i64 bx) := B2_1.cell 0
  have k2_1_1 : w2.cell? ⟨w.heap.size + 1, 1, none⟩ = some (.int .i64 bY) := B2_1.cell 1
  have k2_1_2 : w2.cell? ⟨w.heap.size + 1, 2, none⟩ = some (.int .i64 bz) := B2_1.cell 2
  have z2_1 : w.heap.size + 1 < w2.heap.size := B2_1.lt
  clear B2_1
  have B2_2 : Blk w2 (w.heap.size + 1 + 1) 23 #[.int .i64 ax, .int .i64 ay, .int .i64 az, .int .i64 bx, .int .i64 bY, .int .i64 bz] := HH2.out (w.heap.size + 1 + 1, 23, [.int .i64 ax, .int .i64 ay, .int .i64 az, .int .i64 bx, .int .i64 bY, .int .i64 bz]) (by simp)
  have k2_2_0 : w2.cell? ⟨w.heap.size + 1 + 1, 0, none⟩ = some (.int .i64 ax) := B2_2.cell 0
  have k2_2_1 : w2.cell? ⟨w.heap.size + 1 + 1, 1, none⟩ = some (.int .i64 ay) := B2_2.cell 1
  have k2_2_2 : w2.cell? ⟨w.heap.size + 1 + 1, 2, none⟩ = some (.int .i64 az) := B2_2.cell 2
  have k2_2_3 : w2.cell? ⟨w.heap.size + 1 + 1, 3, none⟩ = some (.int .i64 bx) := B2_2.cell 3
  have k2_2_4 : w2.cell? ⟨w.heap.size + 1 + 1, 4, none⟩ = some (.int .i64 bY) := B2_2.cell 4
  have k2_2_5 : w2.cell? ⟨w.heap.size + 1 + 1, 5, none⟩ = some (.int .i64 bz) := B2_2.cell 5
  have z2_2 : w.heap.size + 1 + 1 < w2.heap.size := B2_2.lt
  clear B2_2
  go_wp2
  go_returns
  exact ⟨rfl, by repeat (first | exact HB2.out | refine below_set ?_ (by have := HB2.out.size; simp <;> omega) _ | refine below_alloc ?_ _)⟩
theorem distance_no (ax ay az bx bY bz : Int) (h : ¬ (in3 ax ay az = true ∧ in3 bx bY bz = true)) (w : World) : Calls Try.prog 24 #[.agg #[.int .i64 ax, .int .i64 ay, .int .i64 az], .agg #[.int .i64 bx, .int .i64 bY, .int .i64 bz]] w fun e w' => e = .returned (.tuple #[.int .i64 0, .int .i64 6]) ∧ Below w.heap.size w w' := by
  have c1 := Lib.hid fun A W (hL : Lies W A (flat3 [(ax, ay, az), (bx, bY, bz)])) => checkAll_any A 2 2 [(ax, ay, az), (bx, bY, bz)] rfl (by omega) W hL
  rw [chk2_no h] at c1
  clear h
  go_enter Try.func24, Try.ntmps24
  go_wp2_with fail
  refine (c1.out _ _ (lies_row (by simp) rfl)).mono ?_
  rintro e w1 ⟨rfl, hb1⟩
  have HH1 := Lib.hid ((((((Blks.nil (w := w))).new (w.heap.size) 23 [.int .i64 ax, .int .i64 ay, .int .i64 az] rfl).new (w.heap.size + 1) 23 [.int .i64 bx, .int .i64 bY, .int .i64 bz] (by simp)).new (w.heap.size + 1 + 1) 23 [.int .i64 ax, .int .i64 ay, .int .i64 az, .int .i64 bx, .int .i64 bY, .int .i64 bz] (by simp)).below hb1)
  have HB1 := Lib.hid (below_trans (below_alloc (below_alloc (below_alloc (Below.refl _ _) _) _) _) hb1)
  clear hb1
  have B1_0 : Blk w1 (w.heap.size) 23 #[.int .i64 ax, .int .i64 ay, .int .i64 az] := HH1.out (w.heap.size, 23, [.int .i64 ax, .int .i64 ay, .int .i64 az]) (by simp)
  have k1_0_0 : w1.cell? ⟨w.heap.size, 0, none⟩ = some (.int .i64 ax) := B1_0.cell 0
  have k1_0_1 : w1.cell? ⟨w.heap.size, 1, none⟩ = some (.int .i64 ay) := B1_0.cell 1
  have k1_0_2 : w1.cell? ⟨w.heap.size, 2, none⟩ = some (.int .i64 az) := B1_0.cell 2
  have z1_0 : w.heap.size < w1.heap.size := B1_0.lt
  clear B1_0
  have B1_1 : Blk w1 (w.heap.size + 1) 23 #[.int .i64 bx, .int .i64 bY, .int .i64 bz] := HH1.out (w.heap.size + 1, 23, [.int .i64 bx, .int .i64 bY, .int .i64 bz]) (by simp)
  have k1_1_0 : w1.cell? ⟨w.heap.size + 1, 0, none⟩ = some (.int .i64 bx) := B1_1.cell 0
  have k1_1_1 : w1.cell? ⟨w.heap.size + 1, 1, none⟩ = some (.int .i64 bY) := B1_1.cell 1
  have k1_1_2 : w1.cell? ⟨w.heap.size + 1, 2, none⟩ = some (.int .i64 bz) := B1_1.cell 2
  have z1_1 : w.heap.size + 1 < w1.heap.size := B1_1.lt
  clear B1_1
  have B1_2 : Blk w1 (w.heap.size + 1 + 1) 23 #[.int .i64 ax, .int .i64 ay, .int .i64 az, .int .i64 bx, .int .i64 bY, .int .i64 bz] := HH1.out (w.heap.size + 1 + 1, 23, [.int .i64 ax, .int .i64 ay, .int .i64 az, .int .i64 bx, .int .i64 bY, .int .i64 bz]) (by simp)
  have k1_2_0 : w1.cell? ⟨w.heap.size + 1 + 1, 0, none⟩ = some (.int .i64 ax) := B1_2.cell 0
  have k1_2_1 : w1.cell? ⟨w.heap.size + 1 + 1, 1, none⟩ = some (.int .i64 ay) := B1_2.cell 1
  have k1_2_2 : w1.cell? ⟨w.heap.size + 1 + 1, 2, none⟩ = some (.int .i64 az) := B1_2.cell 2
  have k1_2_3 : w1.cell? ⟨w.heap.size + 1 + 1, 3, none⟩ = some (.int .i64 bx) := B1_2.cell 3
  have k1_2_4 : w1.cell? ⟨w.heap.size + 1 + 1, 4, none⟩ = some (.int .i64 bY) := B1_2.cell 4
  have k1_2_5 : w1.cell? ⟨w.heap.size + 1 + 1, 5, none⟩ = some (.int .i64 bz) := B1_2.cell 5
  have z1_2 : w.heap.size + 1 + 1 < w1.heap.size := B1_2.lt
  clear B1_2
  go_wp2
  go_returns
  exact ⟨rfl, by repeat (first | exact HB1.out | refine below_set ?_ (by have := HB1.out.size; simp <;> omega) _ | refine below_alloc ?_ _)⟩
theorem distance_ok (ax ay az bx bY bz : Int) (h1 : in3 ax ay az = true) (h2 : in3 bx bY bz = true) (w : World) : Calls Try.prog 24 #[.agg #[.int .i64 ax, .int .i64 ay, .int .i64 az], .agg #[.int .i64 bx, .int .i64 bY, .int .i64 bz]] w fun e w' => e = .returned (.tuple #[.int .i64 ((ax - bx) * (ax - bx) + (ay - bY) * (ay - bY) + (az - bz) * (az - bz)), .int .i64 0]) ∧ Below w.heap.size w w' := by
  obtain ⟨g1, g2, g3⟩ := in3_iff.1 h1
  obtain ⟨e1, e2, e3⟩ := in3_iff.1 h2
  have c1 := Lib.hid fun A W (hL : Lies W A (flat3 [(ax, ay, az), (bx, bY, bz)])) => checkAll_any A 2 2 [(ax, ay, az), (bx, bY, bz)] rfl (by omega) W hL
  rw [chk2_ok h1 h2] at c1
  have c2 := Lib.hid fun W => plusm_any ax ay az bx bY bz h1 h2 W
  have c3 := Lib.hid fun W => dot_any (ax - bx) (ay - bY) (az - bz) (ax - bx) (ay - bY) (az - bz) (disb g1 e1) (disb g2 e2) (disb g3 e3) W
  clear h1 h2 g1 g2 g3 e1 e2 e3
  generalize ax - bx = sx at *
  generalize ay - bY = sy at *
  generalize az - bz = sz at *
  go_enter Try.func24, Try.ntmps24
  go_wp2_with fail
  refine (c1.out _ _ (lies_row (by simp) rfl)).mono ?_
  rintro e w1 ⟨rfl, hb1⟩
  have HH1 := Lib.hid ((((((Blks.nil (w := w))).new (w.heap.size) 23 [.int .i64 ax, .int .i64 ay, .int .i64 az] rfl).new (w.heap.size + 1) 23 [.int .i64 bx, .int .i64 bY, .int .i64 bz] (by simp)).new (w.heap.size + 1 + 1) 23 [.int .i64 ax, .int .i64 ay, .int .i64 az, .int .i64 bx, .int .i64 bY, .int .i64 bz] (by simp)).below hb1)
  have HB1 := Lib.hid (below_trans (below_alloc (below_alloc (below_alloc (Below.refl _ _) _) _) _) hb1)
  clear hb1
  have B1_0 : Blk w1 (w.heap.size) 23 #[.int .i64 ax, .int .i64 ay, .int .i64 az] := HH1.out (w.heap.size, 23, [.int .i64 ax, .int .i64 ay, .int .i64 az]) (by simp)
  have k1_0_0 : w1.cell? ⟨w.heap.size, 0, none⟩ = some (.int .i64 ax) := B1_0.cell 0
  have k1_0_1 : w1.cell? ⟨w.heap.size, 1, none⟩ = some (.int .i64 ay) := B1_0.cell 1
  have k1_0_2 : w1.cell? ⟨w.heap.size, 2, none⟩ = some (.int .i64 az) := B1_0.cell 2
  have z1_0 : w.heap.size < w1.heap.size := B1_0.lt
  clear B1_0
  have B1_1 : Blk w1 (w.heap.size + 1) 23 #[.int .i64 bx, .int .i64 bY, .int .i64 bz] := HH1.out (w.heap.size + 1, 23, [.int .i64 bx, .int .i64 bY, .int .i64 bz]) (by simp)
  have k1_1_0 : w1.cell? ⟨w.heap.size + 1, 0, none⟩ = some (.int .i64 bx) := B1_1.cell 0
  have k1_1_1 : w1.cell? ⟨w.heap.size + 1, 1, none⟩ = some (.int .i64 bY) := B1_1.cell 1
  have k1_1_2 : w1.cell? ⟨w.heap.size + 1, 2, none⟩ = some (.int .i64 bz) := B1_1.cell 2
  have z1_1 : w.heap.size + 1 < w1.heap.size := B1_1.lt
  clear B1_1
  have B1_2 : Blk w1 (w.heap.size + 1 + 1) 23 #[.int .i64 ax, .int .i64 ay, .int .i64 az, .int .i64 bx, .int .i64 bY, .int .i64 bz] := HH1.out (w.heap.size + 1 + 1, 23, [.int .i64 ax, .int .i64 ay, .int .i64 az, .int .i64 bx, .int .i64 bY, .int .i64 bz]) (by simp)
  have k1_2_0 : w1.cell? ⟨w.heap.size + 1 + 1, 0, none⟩ = some (.int .i64 ax) := B1_2.cell 0
  have k1_2_1 : w1.cell? ⟨w.heap.size + 1 + 1, 1, none⟩ = some (.int .i64 ay) := B1_2.cell 1
  have k1_2_2 : w1.cell? ⟨w.heap.size + 1 + 1, 2, none⟩ = some (.int .i64 az) := B1_2.cell 2
  have k1_2_3 : w1.cell? ⟨w.heap.size + 1 + 1, 3, none⟩ = some (.int .i64 bx) := B1_2.cell 3
  have k1_2_4 : w1.cell? ⟨w.heap.size + 1 + 1, 4, none⟩ = some (.int .i64 bY) := B1_2.cell 4
  have k1_2_5 : w1.cell? ⟨w.heap.size + 1 + 1, 5, none⟩ = some (.int .i64 bz) := B1_2.cell 5
  have z1_2 : w.heap.size + 1 + 1 < w1.heap.size := B1_2.lt
  clear B1_2
  go_wp2_with fail
  refine (c2.out _).mono ?_
  rintro e w2 ⟨rfl, hb2⟩
  have HH2 := Lib.hid ((HH1.out).below hb2)
  have HB2 := Lib.hid (below_trans (HB1.out) hb2)
  clear k1_0_0 k1_0_1 k1_0_2 z1_0 k1_1_0 k1_1_1 k1_1_2 z1_1 k1_2_0 k1_2_1 k1_2_2 k1_2_3 k1_2_4 k1_2_5 z1_2
  clear hb2
  clear HH1 HB1
  have B2_0 : Blk w2 (w.heap.size) 23 #[.int .i64 ax, .int .i64 ay, .int .i64 az] := HH2.out (w.heap.size, 23, [.int .i64 ax, .int .i64 ay, .int .i64 az]) (by simp)
  have k2_0_0 : w2.cell? ⟨w.heap.size, 0, none⟩ = some (.int .i64 ax) := B2_0.cell 0
  have k2_0_1 : w2.cell? ⟨w.heap.size, 1, none⟩ = some (.int .i64 ay) := B2_0.cell 1
  have k2_0_2 : w2.cell? ⟨w.heap.size, 2, none⟩ = some (.int .i64 az) := B2_0.cell 2
  have z2_0 : w.heap.size < w2.heap.size := B2_0.lt
  clear B2_0
  have B2_1 : Blk w2 (w.heap.size + 1) 23 #[.int .i64 bx, .int .i64 bY, .int .i64 bz] := HH2.out (w.heap.size + 1, 23, [.int .i64 bx, .int .i64 bY, .int .i64 bz]) (by simp)
  have k2_1_0 : w2.cell? ⟨w.heap.size + 1, 0, none⟩ = some (.int .i64 bx) := B2_1.cell 0
  have k2_1_1 : w2.cell? ⟨w.heap.size + 1, 1, none⟩ = some (.int .i64 bY) := B2_1.cell 1
  have k2_1_2 : w2.cell? ⟨w.heap.size + 1, 2, none⟩ = some (.int .i64 bz) := B2_1.cell 2
  have z2_1 : w.heap.size + 1 < w2.heap.size := B2_1.lt
  clear B2_1
  have B2_2 : Blk w2 (w.heap.size + 1 + 1) 23 #[.int .i64 ax, .int .i64 ay, .int .i64 az, .int .i64 bx, .int .i64 bY, .int .i64 bz] := HH2.out (w.heap.size + 1 + 1, 23, [.int .i64 ax, .int .i64 ay, .int .i64 az, .int .i64 bx, .int .i64 bY, .int .i64 bz]) (by simp)
  have k2_2_0 : w2.cell? ⟨w.heap.size + 1 + 1, 0, none⟩ = some (.int .i64 ax) := B2_2.cell 0
  have k2_2_1 : w2.cell? ⟨w.heap.size + 1 + 1, 1, none⟩ = some (.int .i64 ay) := B2_2.cell 1
  have k2_2_2 : w2.cell? ⟨w.heap.size + 1 + 1, 2, none⟩ = some (.int .i64 az) := B2_2.cell 2
  have k2_2_3 : w2.cell? ⟨w.heap.size + 1 + 1, 3, none⟩ = some (.int .i64 bx) := B2_2.cell 3
  have k2_2_4 : w2.cell? ⟨w.heap.size + 1 + 1, 4, none⟩ = some (.int .i64 bY) := B2_2.cell 4
  have k2_2_5 : w2.cell? ⟨w.heap.size + 1 + 1, 5, none⟩ = some (.int .i64 bz) := B2_2.cell 5
  have z2_2 : w.heap.size + 1 + 1 < w2.heap.size := B2_2.lt
  clear B2_2
  go_wp2_with fail
  refine (c3.out _).mono ?_
  rintro e w3 ⟨rfl, hb3⟩
  have HH3 := Lib.hid (((HH2.out).new (w2.heap.size) 23 [.int .i64 sx, .int .i64 sy, .int .i64 sz] rfl).below hb3)
  have HB3 := Lib.hid (below_trans (below_alloc (HB2.out) _) hb3)
  clear k2_0_0 k2_0_1 k2_0_2 z2_0 k2_1_0 k2_1_1 k2_1_2 z2_1 k2_2_0 k2_2_1 k2_2_2 k2_2_3 k2_2_4 k2_2_5 z2_2
  clear hb3
  clear HH2 HB2
  have B3_0 : Blk w3 (w.heap.size) 23 #[.int .i64 ax, .int .i64 ay, .int .i64 az] := HH3.out (w.heap.size, 23, [.int .i64 ax, .int .i64 ay, .int .i64 az]) (by simp)
  have k3_0_0 : w3.cell? ⟨w.heap.size, 0, none⟩ = some (.int .i64 ax) := B3_0.cell 0
  have k3_0_1 : w3.cell? ⟨w.heap.size, 1, none⟩ = some (.int .i64 ay) := B3_0.cell 1
  have k3_0_2 : w3.cell? ⟨w.heap.size, 2, none⟩ = some (.int .i64 az) := B3_0.cell 2
  have z3_0 : w.heap.size < w3.heap.size := B3_0.lt
  clear B3_0
  have B3_1 : Blk w3 (w.heap.size + 1) 23 #[.int .i64 bx, .int .i64 bY, .int .i64 bz] := HH3.out (w.heap.size + 1, 23, [.int .i64 bx, .int .i64 bY, .int .i64 bz]) (by simp)
  have k3_1_0 : w3.cell? ⟨w.heap.size + 1, 0, none⟩ = some (.int .i64 bx) := B3_1.cell 0
  have k3_1_1 : w3.cell? ⟨w.heap.size + 1, 1, none⟩ = some (.int .i64 bY) := B3_1.cell 1
  have k3_1_2 : w3.cell? ⟨w.heap.size + 1, 2, none⟩ = some (.int .i64 bz) := B3_1.cell 2
  have z3_1 : w.heap.size + 1 < w3.heap.size := B3_1.lt
  clear B3_1
  have B3_2 : Blk w3 (w.heap.size + 1 + 1) 23 #[.int .i64 ax, .int .i64 ay, .int .i64 az, .int .i64 bx, .int .i64 bY, .int .i64 bz] := HH3.out (w.heap.size + 1 + 1, 23, [.int .i64 ax, .int .i64 ay, .int .i64 az, .int .i64 bx, .int .i64 bY, .int .i64 bz]) (by simp)
  have k3_2_0 : w3.cell? ⟨w.heap.size + 1 + 1, 0, none⟩ = some (.int .i64 ax) := B3_2.cell 0
  have k3_2_1 : w3.cell? ⟨w.heap.size + 1 + 1, 1, none⟩ = some (.int .i64 ay) := B3_2.cell 1
  have k3_2_2 : w3.cell? ⟨w.heap.size + 1 + 1, 2, none⟩ = some (.int .i64 az) := B3_2.cell 2
  have k3_2_3 : w3.cell? ⟨w.heap.size + 1 + 1, 3, none⟩ = some (.int .i64 bx) := B3_2.cell 3
  have k3_2_4 : w3.cell? ⟨w.heap.size + 1 + 1, 4, none⟩ = some (.int .i64 bY) := B3_2.cell 4
  have k3_2_5 : w3.cell? ⟨w.heap.size + 1 + 1, 5, none⟩ = some (.int .i64 bz) := B3_2.cell 5
  have z3_2 : w.heap.size + 1 + 1 < w3.heap.size := B3_2.lt
  clear B3_2
  have B3_3 : Blk w3 (w2.heap.size) 23 #[.int .i64 sx, .int .i64 sy, .int .i64 sz] := HH3.out (w2.heap.size, 23, [.int .i64 sx, .int .i64 sy, .int .i64 sz]) (by simp)
  have k3_3_0 : w3.cell? ⟨w2.heap.size, 0, none⟩ = some (.int .i64 sx) := B3_3.cell 0
  have k3_3_1 : w3.cell? ⟨w2.heap.size, 1, none⟩ = some (.int .i64 sy) := B3_3.cell 1
  have k3_3_2 : w3.cell? ⟨w2.heap.size, 2, none⟩ = some (.int .i64 sz) := B3_3.cell 2
  have z3_3 : w2.heap.size < w3.heap.size := B3_3.lt
  clear B3_3
  go_wp2
  go_returns
  exact ⟨rfl, by repeat (first | exact HB3.out | refine below_set ?_ (by have := HB3.out.size; simp <;> omega) _ | refine below_alloc ?_ _)⟩
end Go.Proofs.Ytkfdbhhchnbjdaa.Ve
