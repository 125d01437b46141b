/- Turn, On, Meet. -/
import Derived.Test.YtkfdbhhchnbjdaaVeU
namespace Go.Proofs.Ytkfdbhhchnbjdaa.Ve
open Go.RowKit Ba
set_option linter.unusedVariables false

theorem turnP_no (ax ay bx bY cx cy : Int) (h : ¬ (in2 ax ay = true ∧ in2 bx bY = true ∧ in2 cx cy = true)) (w : World) : Calls Try.prog 29 #[.agg #[.int .i64 ax, .int .i64 ay], .agg #[.int .i64 bx, .int .i64 bY], .agg #[.int .i64 cx, .int .i64 cy]] w fun e w' => e = .returned (.tuple #[.int .i64 0, .int .i64 6]) ∧ Below w.heap.size w w' := by
  have c1 := Lib.hid fun A W (hL : Lies W A (flat2 [(ax, ay), (bx, bY), (cx, cy)])) => checkPoints_any A 3 3 [(ax, ay), (bx, bY), (cx, cy)] rfl (by omega) W hL
  rw [chkP_no (l := [(ax, ay), (bx, bY), (cx, cy)]) (by intro hh; apply h; simp at hh; exact hh)] at c1
  clear h
  go_enter Try.func29, Try.ntmps29
  go_wp2_with fail
  refine (c1.out _ _ (lies_row (by simp) rfl)).mono ?_
  rintro e w1 ⟨rfl, hb1⟩
  have HH1 := Lib.hid (((((((Blks.nil (w := w))).new (w.heap.size) 46 [.int .i64 ax, .int .i64 ay] rfl).new (w.heap.size + 1) 46 [.int .i64 bx, .int .i64 bY] (by simp)).new (w.heap.size + 1 + 1) 46 [.int .i64 cx, .int .i64 cy] (by simp)).new (w.heap.size + 1 + 1 + 1) 46 [.int .i64 ax, .int .i64 ay, .int .i64 bx, .int .i64 bY, .int .i64 cx, .int .i64 cy] (by simp)).below hb1)
  have HB1 := Lib.hid (below_trans (below_alloc (below_alloc (below_alloc (below_alloc (Below.refl _ _) _) _) _) _) hb1)
  clear hb1
  have B1_0 : Blk w1 (w.heap.size) 46 #[.int .i64 ax, .int .i64 ay] := HH1.out (w.heap.size, 46, [.int .i64 ax, .int .i64 ay]) (by simp)
  have k1_0_0 : w1.cell? ⟨w.heap.size, 0, none⟩ = some (.int .i64 ax) := B1_0.cell 0
  have k1_0_1 : w1.cell? ⟨w.heap.size, 1, none⟩ = some (.int .i64 ay) := B1_0.cell 1
  have z1_0 : w.heap.size < w1.heap.size := B1_0.lt
  clear B1_0
  have B1_1 : Blk w1 (w.heap.size + 1) 46 #[.int .i64 bx, .int .i64 bY] := HH1.out (w.heap.size + 1, 46, [.int .i64 bx, .int .i64 bY]) (by simp)
  have k1_1_0 : w1.cell? ⟨w.heap.size + 1, 0, none⟩ = some (.int .i64 bx) := B1_1.cell 0
  have k1_1_1 : w1.cell? ⟨w.heap.size + 1, 1, none⟩ = some (.int .i64 bY) := B1_1.cell 1
  have z1_1 : w.heap.size + 1 < w1.heap.size := B1_1.lt
  clear B1_1
  have B1_2 : Blk w1 (w.heap.size + 1 + 1) 46 #[.int .i64 cx, .int .i64 cy] := HH1.out (w.heap.size + 1 + 1, 46, [.int .i64 cx, .int .i64 cy]) (by simp)
  have k1_2_0 : w1.cell? ⟨w.heap.size + 1 + 1, 0, none⟩ = some (.int .i64 cx) := B1_2.cell 0
  have k1_2_1 : w1.cell? ⟨w.heap.size + 1 + 1, 1, none⟩ = some (.int .i64 cy) := B1_2.cell 1
  have z1_2 : w.heap.size + 1 + 1 < w1.heap.size := B1_2.lt
  clear B1_2
  have B1_3 : Blk w1 (w.heap.size + 1 + 1 + 1) 46 #[.int .i64 ax, .int .i64 ay, .int .i64 bx, .int .i64 bY, .int .i64 cx, .int .i64 cy] := HH1.out (w.heap.size + 1 + 1 + 1, 46, [.int .i64 ax, .int .i64 ay, .int .i64 bx, .int .i64 bY, .int .i64 cx, .int .i64 cy]) (by simp)
  have k1_3_0 : w1.cell? ⟨w.heap.size + 1 + 1 + 1, 0, none⟩ = some (.int .i64 ax) := B1_3.cell 0
  have k1_3_1 : w1.cell? ⟨w.heap.size + 1 + 1 + 1, 1, none⟩ = some (.int .i64 ay) := B1_3.cell 1
  have k1_3_2 : w1.cell? ⟨w.heap.size + 1 + 1 + 1, 2, none⟩ = some (.int .i64 bx) := B1_3.cell 2
  have k1_3_3 : w1.cell? ⟨w.heap.size + 1 + 1 + 1, 3, none⟩ = some (.int .i64 bY) := B1_3.cell 3
  have k1_3_4 : w1.cell? ⟨w.heap.size + 1 + 1 + 1, 4, none⟩ = some (.int .i64 cx) := B1_3.cell 4
  have k1_3_5 : w1.cell? ⟨w.heap.size + 1 + 1 + 1, 5, none⟩ = some (.int .i64 cy) := B1_3.cell 5
  have z1_3 : w.heap.size + 1 + 1 + 1 < w1.heap.size := B1_3.lt
  clear B1_3
  go_wp2
  go_returns
  exact ⟨rfl, by repeat (first | with_reducible exact HB1.out | with_reducible refine Below.drew ?_ | with_reducible refine below_drewN ?_ _ | with_reducible refine below_set ?_ (by have := HB1.out.size; simp <;> omega) _ | with_reducible refine below_alloc ?_ _)⟩
theorem turnP_ok (ax ay bx bY cx cy : Int) (h1 : in2 ax ay = true) (h2 : in2 bx bY = true) (h3 : in2 cx cy = true) (w : World) : Calls Try.prog 29 #[.agg #[.int .i64 ax, .int .i64 ay], .agg #[.int .i64 bx, .int .i64 bY], .agg #[.int .i64 cx, .int .i64 cy]] w fun e w' => e = .returned (.tuple #[.int .i64 (turnI ax ay bx bY cx cy), .int .i64 0]) ∧ Below w.heap.size w w' := by
  have c1 := Lib.hid fun A W (hL : Lies W A (flat2 [(ax, ay), (bx, bY), (cx, cy)])) => checkPoints_any A 3 3 [(ax, ay), (bx, bY), (cx, cy)] rfl (by omega) W hL
  rw [chkP_ok (l := [(ax, ay), (bx, bY), (cx, cy)]) (by intro p hp; simp at hp; rcases hp with rfl | rfl | rfl <;> assumption)] at c1
  have c2 := Lib.hid fun W => turn_any ax ay bx bY cx cy h1 h2 h3 W
  clear h1 h2 h3
  generalize turnI ax ay bx bY cx cy = R at *
  go_enter Try.func29, Try.ntmps29
  go_wp2_with fail
  refine (c1.out _ _ (lies_row (by simp) rfl)).mono ?_
  rintro e w1 ⟨rfl, hb1⟩
  have HH1 := Lib.hid (((((((Blks.nil (w := w))).new (w.heap.size) 46 [.int .i64 ax, .int .i64 ay] rfl).new (w.heap.size + 1) 46 [.int .i64 bx, .int .i64 bY] (by simp)).new (w.heap.size + 1 + 1) 46 [.int .i64 cx, .int .i64 cy] (by simp)).new (w.heap.size + 1 + 1 + 1) 46 [.int .i64 ax, .int .i64 ay, .int .i64 bx, .int .i64 bY, .int .i64 cx, .int .i64 cy] (by simp)).below hb1)
  have HB1 := Lib.hid (below_trans (below_alloc (below_alloc (below_alloc (below_alloc (Below.refl _ _) _) _) _) _) hb1)
  clear hb1
  have B1_0 : Blk w1 (w.heap.size) 46 #[.int .i64 ax, .int .i64 ay] := HH1.out (w.heap.size, 46, [.int .i64 ax, .int .i64 ay]) (by simp)
  have k1_0_0 : w1.cell? ⟨w.heap.size, 0, none⟩ = some (.int .i64 ax) := B1_0.cell 0
  have k1_0_1 : w1.cell? ⟨w.heap.size, 1, none⟩ = some (.int .i64 ay) := B1_0.cell 1
  have z1_0 : w.heap.size < w1.heap.size := B1_0.lt
  clear B1_0
  have B1_1 : Blk w1 (w.heap.size + 1) 46 #[.int .i64 bx, .int .i64 bY] := HH1.out (w.heap.size + 1, 46, [.int .i64 bx, .int .i64 bY]) (by simp)
  have k1_1_0 : w1.cell? ⟨w.heap.size + 1, 0, none⟩ = some (.int .i64 bx) := B1_1.cell 0
  have k1_1_1 : w1.cell? ⟨w.heap.size + 1, 1, none⟩ = some (.int .i64 bY) := B1_1.cell 1
  have z1_1 : w.heap.size + 1 < w1.heap.size := B1_1.lt
  clear B1_1
  have B1_2 : Blk w1 (w.heap.size + 1 + 1) 46 #[.int .i64 cx, .int .i64 cy] := HH1.out (w.heap.size + 1 + 1, 46, [.int .i64 cx, .int .i64 cy]) (by simp)
  have k1_2_0 : w1.cell? ⟨w.heap.size + 1 + 1, 0, none⟩ = some (.int .i64 cx) := B1_2.cell 0
  have k1_2_1 : w1.cell? ⟨w.heap.size + 1 + 1, 1, none⟩ = some (.int .i64 cy) := B1_2.cell 1
  have z1_2 : w.heap.size + 1 + 1 < w1.heap.size := B1_2.lt
  clear B1_2
  have B1_3 : Blk w1 (w.heap.size + 1 + 1 + 1) 46 #[.int .i64 ax, .int .i64 ay, .int .i64 bx, .int .i64 bY, .int .i64 cx, .int .i64 cy] := HH1.out (w.heap.size + 1 + 1 + 1, 46, [.int .i64 ax, .int .i64 ay, .int .i64 bx, .int .i64 bY, .int .i64 cx, .int .i64 cy]) (by simp)
  have k1_3_0 : w1.cell? ⟨w.heap.size + 1 + 1 + 1, 0, none⟩ = some (.int .i64 ax) := B1_3.cell 0
  have k1_3_1 : w1.cell? ⟨w.heap.size + 1 + 1 + 1, 1, none⟩ = some (.int .i64 ay) := B1_3.cell 1
  have k1_3_2 : w1.cell? ⟨w.heap.size + 1 + 1 + 1, 2, none⟩ = some (.int .i64 bx) := B1_3.cell 2
  have k1_3_3 : w1.cell? ⟨w.heap.size + 1 + 1 + 1, 3, none⟩ = some (.int .i64 bY) := B1_3.cell 3
  have k1_3_4 : w1.cell? ⟨w.heap.size + 1 + 1 + 1, 4, none⟩ = some (.int .i64 cx) := B1_3.cell 4
  have k1_3_5 : w1.cell? ⟨w.heap.size + 1 + 1 + 1, 5, none⟩ = some (.int .i64 cy) := B1_3.cell 5
  have z1_3 : w.heap.size + 1 + 1 + 1 < w1.heap.size := B1_3.lt
  clear B1_3
  go_wp2_with fail
  refine (c2.out _).mono ?_
  rintro e w2 ⟨rfl, hb2⟩
  have HH2 := Lib.hid ((HH1.out).below hb2)
  have HB2 := Lib.hid (below_trans (HB1.out) hb2)
  clear k1_0_0 k1_0_1 z1_0 k1_1_0 k1_1_1 z1_1 k1_2_0 k1_2_1 z1_2 k1_3_0 k1_3_1 k1_3_2 k1_3_3 k1_3_4 k1_3_5 z1_3
  clear hb2
  clear HH1 HB1
  have B2_0 : Blk w2 (w.heap.size) 46 #[.int .i64 ax, .int .i64 ay] := HH2.out (w.heap.size, 46, [.int .i64 ax, .int .i64 ay]) (by simp)
  have k2_0_0 : w2.cell? ⟨w.heap.size, 0, none⟩ = some (.int .i64 ax) := B2_0.cell 0
  have k2_0_1 : w2.cell? ⟨w.heap.size, 1, none⟩ = some (.int .i64 ay) := B2_0.cell 1
  have z2_0 : w.heap.size < w2.heap.size := B2_0.lt
  clear B2_0
  have B2_1 : Blk w2 (w.heap.size + 1) 46 #[.int .i64 bx, .int .i64 bY] := HH2.out (w.heap.size + 1, 46, [.int .i64 bx, .int .i64 bY]) (by simp)
  have k2_1_0 : w2.cell? ⟨w.heap.size + 1, 0, none⟩ = some (.int .i64 bx) := B2_1.cell 0
  have k2_1_1 : w2.cell? ⟨w.heap.size + 1, 1, none⟩ = some (.int .i64 bY) := B2_1.cell 1
  have z2_1 : w.heap.size + 1 < w2.heap.size := B2_1.lt
  clear B2_1
  have B2_2 : Blk w2 (w.heap.size + 1 + 1) 46 #[.int .i64 cx, .int .i64 cy] := HH2.out (w.heap.size + 1 + 1, 46, [.int .i64 cx, .int .i64 cy]) (by simp)
  have k2_2_0 : w2.cell? ⟨w.heap.size + 1 + 1, 0, none⟩ = some (.int .i64 cx) := B2_2.cell 0
  have k2_2_1 : w2.cell? ⟨w.heap.size + 1 + 1, 1, none⟩ = some (.int .i64 cy) := B2_2.cell 1
  have z2_2 : w.heap.size + 1 + 1 < w2.heap.size := B2_2.lt
  clear B2_2
  have B2_3 : Blk w2 (w.heap.size + 1 + 1 + 1) 46 #[.int .i64 ax, .int .i64 ay, .int .i64 bx, .int .i64 bY, .int .i64 cx, .int .i64 cy] := HH2.out (w.heap.size + 1 + 1 + 1, 46, [.int .i64 ax, .int .i64 ay, .int .i64 bx, .int .i64 bY, .int .i64 cx, .int .i64 cy]) (by simp)
  have k2_3_0 : w2.cell? ⟨w.heap.size + 1 + 1 + 1, 0, none⟩ = some (.int .i64 ax) := B2_3.cell 0
  have k2_3_1 : w2.cell? ⟨w.heap.size + 1 + 1 + 1, 1, none⟩ = some (.int .i64 ay) := B2_3.cell 1
  have k2_3_2 : w2.cell? ⟨w.heap.size + 1 + 1 + 1, 2, none⟩ = some (.int .i64 bx) := B2_3.cell 2
  have k2_3_3 : w2.cell? ⟨w.heap.size + 1 + 1 + 1, 3, none⟩ = some (.int .i64 bY) := B2_3.cell 3
  have k2_3_4 : w2.cell? ⟨w.heap.size + 1 + 1 + 1, 4, none⟩ = some (.int .i64 cx) := B2_3.cell 4
  have k2_3_5 : w2.cell? ⟨w.heap.size + 1 + 1 + 1, 5, none⟩ = some (.int .i64 cy) := B2_3.cell 5
  have z2_3 : w.heap.size + 1 + 1 + 1 < w2.heap.size := B2_3.lt
  clear B2_3
  go_wp2
  go_returns
  exact ⟨rfl, by repeat (first | with_reducible exact HB2.out | with_reducible refine Below.drew ?_ | with_reducible refine below_drewN ?_ _ | with_reducible refine below_set ?_ (by have := HB2.out.size; simp <;> omega) _ | with_reducible refine below_alloc ?_ _)⟩
theorem onP_no (ax ay bx bY cx cy : Int) (h : ¬ (in2 ax ay = true ∧ in2 bx bY = true ∧ in2 cx cy = true)) (w : World) : Calls Try.prog 30 #[.agg #[.int .i64 ax, .int .i64 ay], .agg #[.int .i64 bx, .int .i64 bY], .agg #[.int .i64 cx, .int .i64 cy]] w fun e w' => e = .returned (.tuple #[.bool false, .int .i64 6]) ∧ Below w.heap.size w w' := by
  have c1 := Lib.hid fun A W (hL : Lies W A (flat2 [(ax, ay), (bx, bY), (cx, cy)])) => checkPoints_any A 3 3 [(ax, ay), (bx, bY), (cx, cy)] rfl (by omega) W hL
  rw [chkP_no (l := [(ax, ay), (bx, bY), (cx, cy)]) (by intro hh; apply h; simp at hh; exact hh)] at c1
  clear h
  go_enter Try.func30, Try.ntmps30
  go_wp2_with fail
  refine (c1.out _ _ (lies_row (by simp) rfl)).mono ?_
  rintro e w1 ⟨rfl, hb1⟩
  have HH1 := Lib.hid (((((((Blks.nil (w := w))).new (w.heap.size) 46 [.int .i64 ax, .int .i64 ay] rfl).new (w.heap.size + 1) 46 [.int .i64 bx, .int .i64 bY] (by simp)).new (w.heap.size + 1 + 1) 46 [.int .i64 cx, .int .i64 cy] (by simp)).new (w.heap.size + 1 + 1 + 1) 46 [.int .i64 ax, .int .i64 ay, .int .i64 bx, .int .i64 bY, .int .i64 cx, .int .i64 cy] (by simp)).below hb1)
  have HB1 := Lib.hid (below_trans (below_alloc (below_alloc (below_alloc (below_alloc (Below.refl _ _) _) _) _) _) hb1)
  clear hb1
  have B1_0 : Blk w1 (w.heap.size) 46 #[.int .i64 ax, .int .i64 ay] := HH1.out (w.heap.size, 46, [.int .i64 ax, .int .i64 ay]) (by simp)
  have k1_0_0 : w1.cell? ⟨w.heap.size, 0, none⟩ = some (.int .i64 ax) := B1_0.cell 0
  have k1_0_1 : w1.cell? ⟨w.heap.size, 1, none⟩ = some (.int .i64 ay) := B1_0.cell 1
  have z1_0 : w.heap.size < w1.heap.size := B1_0.lt
  clear B1_0
  have B1_1 : Blk w1 (w.heap.size + 1) 46 #[.int .i64 bx, .int .i64 bY] := HH1.out (w.heap.size + 1, 46, [.int .i64 bx, .int .i64 bY]) (by simp)
  have k1_1_0 : w1.cell? ⟨w.heap.size + 1, 0, none⟩ = some (.int .i64 bx) := B1_1.cell 0
  have k1_1_1 : w1.cell? ⟨w.heap.size + 1, 1, none⟩ = some (.int .i64 bY) := B1_1.cell 1
  have z1_1 : w.heap.size + 1 < w1.heap.size := B1_1.lt
  clear B1_1
  have B1_2 : Blk w1 (w.heap.size + 1 + 1) 46 #[.int .i64 cx, .int .i64 cy] := HH1.out (w.heap.size + 1 + 1, 46, [.int .i64 cx, .int .i64 cy]) (by simp)
  have k1_2_0 : w1.cell? ⟨w.heap.size + 1 + 1, 0, none⟩ = some (.int .i64 cx) := B1_2.cell 0
  have k1_2_1 : w1.cell? ⟨w.heap.size + 1 + 1, 1, none⟩ = some (.int .i64 cy) := B1_2.cell 1
  have z1_2 : w.heap.size + 1 + 1 < w1.heap.size := B1_2.lt
  clear B1_2
  have B1_3 : Blk w1 (w.heap.size + 1 + 1 + 1) 46 #[.int .i64 ax, .int .i64 ay, .int .i64 bx, .int .i64 bY, .int .i64 cx, .int .i64 cy] := HH1.out (w.heap.size + 1 + 1 + 1, 46, [.int .i64 ax, .int .i64 ay, .int .i64 bx, .int .i64 bY, .int .i64 cx, .int .i64 cy]) (by simp)
  have k1_3_0 : w1.cell? ⟨w.heap.size + 1 + 1 + 1, 0, none⟩ = some (.int .i64 ax) := B1_3.cell 0
  have k1_3_1 : w1.cell? ⟨w.heap.size + 1 + 1 + 1, 1, none⟩ = some (.int .i64 ay) := B1_3.cell 1
  have k1_3_2 : w1.cell? ⟨w.heap.size + 1 + 1 + 1, 2, none⟩ = some (.int .i64 bx) := B1_3.cell 2
  have k1_3_3 : w1.cell? ⟨w.heap.size + 1 + 1 + 1, 3, none⟩ = some (.int .i64 bY) := B1_3.cell 3
  have k1_3_4 : w1.cell? ⟨w.heap.size + 1 + 1 + 1, 4, none⟩ = some (.int .i64 cx) := B1_3.cell 4
  have k1_3_5 : w1.cell? ⟨w.heap.size + 1 + 1 + 1, 5, none⟩ = some (.int .i64 cy) := B1_3.cell 5
  have z1_3 : w.heap.size + 1 + 1 + 1 < w1.heap.size := B1_3.lt
  clear B1_3
  go_wp2
  go_returns
  exact ⟨rfl, by repeat (first | with_reducible exact HB1.out | with_reducible refine Below.drew ?_ | with_reducible refine below_drewN ?_ _ | with_reducible refine below_set ?_ (by have := HB1.out.size; simp <;> omega) _ | with_reducible refine below_alloc ?_ _)⟩
theorem onP_ok (ax ay bx bY cx cy : Int) (h1 : in2 ax ay = true) (h2 : in2 bx bY = true) (h3 : in2 cx cy = true) (w : World) : Calls Try.prog 30 #[.agg #[.int .i64 ax, .int .i64 ay], .agg #[.int .i64 bx, .int .i64 bY], .agg #[.int .i64 cx, .int .i64 cy]] w fun e w' => e = .returned (.tuple #[.bool (decide (0 < meetI ax ay bx bY cx cy cx cy)), .int .i64 0]) ∧ Below w.heap.size w w' := by
  have c1 := Lib.hid fun A W (hL : Lies W A (flat2 [(ax, ay), (bx, bY), (cx, cy)])) => checkPoints_any A 3 3 [(ax, ay), (bx, bY), (cx, cy)] rfl (by omega) W hL
  rw [chkP_ok (l := [(ax, ay), (bx, bY), (cx, cy)]) (by intro p hp; simp at hp; rcases hp with rfl | rfl | rfl <;> assumption)] at c1
  have c2 := Lib.hid fun W => meet_any ax ay bx bY cx cy cx cy h1 h2 h3 h3 W
  clear h1 h2 h3
  generalize meetI ax ay bx bY cx cy cx cy = R at *
  go_enter Try.func30, Try.ntmps30
  go_wp2_with fail
  refine (c1.out _ _ (lies_row (by simp) rfl)).mono ?_
  rintro e w1 ⟨rfl, hb1⟩
  have HH1 := Lib.hid (((((((Blks.nil (w := w))).new (w.heap.size) 46 [.int .i64 ax, .int .i64 ay] rfl).new (w.heap.size + 1) 46 [.int .i64 bx, .int .i64 bY] (by simp)).new (w.heap.size + 1 + 1) 46 [.int .i64 cx, .int .i64 cy] (by simp)).new (w.heap.size + 1 + 1 + 1) 46 [.int .i64 ax, .int .i64 ay, .int .i64 bx, .int .i64 bY, .int .i64 cx, .int .i64 cy] (by simp)).below hb1)
  have HB1 := Lib.hid (below_trans (below_alloc (below_alloc (below_alloc (below_alloc (Below.refl _ _) _) _) _) _) hb1)
  clear hb1
  have B1_0 : Blk w1 (w.heap.size) 46 #[.int .i64 ax, .int .i64 ay] := HH1.out (w.heap.size, 46, [.int .i64 ax, .int .i64 ay]) (by simp)
  have k1_0_0 : w1.cell? ⟨w.heap.size, 0, none⟩ = some (.int .i64 ax) := B1_0.cell 0
  have k1_0_1 : w1.cell? ⟨w.heap.size, 1, none⟩ = some (.int .i64 ay) := B1_0.cell 1
  have z1_0 : w.heap.size < w1.heap.size := B1_0.lt
  clear B1_0
  have B1_1 : Blk w1 (w.heap.size + 1) 46 #[.int .i64 bx, .int .i64 bY] := HH1.out (w.heap.size + 1, 46, [.int .i64 bx, .int .i64 bY]) (by simp)
  have k1_1_0 : w1.cell? ⟨w.heap.size + 1, 0, none⟩ = some (.int .i64 bx) := B1_1.cell 0
  have k1_1_1 : w1.cell? ⟨w.heap.size + 1, 1, none⟩ = some (.int .i64 bY) := B1_1.cell 1
  have z1_1 : w.heap.size + 1 < w1.heap.size := B1_1.lt
  clear B1_1
  have B1_2 : Blk w1 (w.heap.size + 1 + 1) 46 #[.int .i64 cx, .int .i64 cy] := HH1.out (w.heap.size + 1 + 1, 46, [.int .i64 cx, .int .i64 cy]) (by simp)
  have k1_2_0 : w1.cell? ⟨w.heap.size + 1 + 1, 0, none⟩ = some (.int .i64 cx) := B1_2.cell 0
  have k1_2_1 : w1.cell? ⟨w.heap.size + 1 + 1, 1, none⟩ = some (.int .i64 cy) := B1_2.cell 1
  have z1_2 : w.heap.size + 1 + 1 < w1.heap.size := B1_2.lt
  clear B1_2
  have B1_3 : Blk w1 (w.heap.size + 1 + 1 + 1) 46 #[.int .i64 ax, .int .i64 ay, .int .i64 bx, .int .i64 bY, .int .i64 cx, .int .i64 cy] := HH1.out (w.heap.size + 1 + 1 + 1, 46, [.int .i64 ax, .int .i64 ay, .int .i64 bx, .int .i64 bY, .int .i64 cx, .int .i64 cy]) (by simp)
  have k1_3_0 : w1.cell? ⟨w.heap.size + 1 + 1 + 1, 0, none⟩ = some (.int .i64 ax) := B1_3.cell 0
  have k1_3_1 : w1.cell? ⟨w.heap.size + 1 + 1 + 1, 1, none⟩ = some (.int .i64 ay) := B1_3.cell 1
  have k1_3_2 : w1.cell? ⟨w.heap.size + 1 + 1 + 1, 2, none⟩ = some (.int .i64 bx) := B1_3.cell 2
  have k1_3_3 : w1.cell? ⟨w.heap.size + 1 + 1 + 1, 3, none⟩ = some (.int .i64 bY) := B1_3.cell 3
  have k1_3_4 : w1.cell? ⟨w.heap.size + 1 + 1 + 1, 4, none⟩ = some (.int .i64 cx) := B1_3.cell 4
  have k1_3_5 : w1.cell? ⟨w.heap.size + 1 + 1 + 1, 5, none⟩ = some (.int .i64 cy) := B1_3.cell 5
  have z1_3 : w.heap.size + 1 + 1 + 1 < w1.heap.size := B1_3.lt
  clear B1_3
  go_wp2_with fail
  refine (c2.out _).mono ?_
  rintro e w2 ⟨rfl, hb2⟩
  have HH2 := Lib.hid ((HH1.out).below hb2)
  have HB2 := Lib.hid (below_trans (HB1.out) hb2)
  clear k1_0_0 k1_0_1 z1_0 k1_1_0 k1_1_1 z1_1 k1_2_0 k1_2_1 z1_2 k1_3_0 k1_3_1 k1_3_2 k1_3_3 k1_3_4 k1_3_5 z1_3
  clear hb2
  clear HH1 HB1
  have B2_0 : Blk w2 (w.heap.size) 46 #[.int .i64 ax, .int .i64 ay] := HH2.out (w.heap.size, 46, [.int .i64 ax, .int .i64 ay]) (by simp)
  have k2_0_0 : w2.cell? ⟨w.heap.size, 0, none⟩ = some (.int .i64 ax) := B2_0.cell 0
  have k2_0_1 : w2.cell? ⟨w.heap.size, 1, none⟩ = some (.int .i64 ay) := B2_0.cell 1
  have z2_0 : w.heap.size < w2.heap.size := B2_0.lt
  clear B2_0
  have B2_1 : Blk w2 (w.heap.size + 1) 46 #[.int .i64 bx, .int .i64 bY] := HH2.out (w.heap.size + 1, 46, [.int .i64 bx, .int .i64 bY]) (by simp)
  have k2_1_0 : w2.cell? ⟨w.heap.size + 1, 0, none⟩ = some (.int .i64 bx) := B2_1.cell 0
  have k2_1_1 : w2.cell? ⟨w.heap.size + 1, 1, none⟩ = some (.int .i64 bY) := B2_1.cell 1
  have z2_1 : w.heap.size + 1 < w2.heap.size := B2_1.lt
  clear B2_1
  have B2_2 : Blk w2 (w.heap.size + 1 + 1) 46 #[.int .i64 cx, .int .i64 cy] := HH2.out (w.heap.size + 1 + 1, 46, [.int .i64 cx, .int .i64 cy]) (by simp)
  have k2_2_0 : w2.cell? ⟨w.heap.size + 1 + 1, 0, none⟩ = some (.int .i64 cx) := B2_2.cell 0
  have k2_2_1 : w2.cell? ⟨w.heap.size + 1 + 1, 1, none⟩ = some (.int .i64 cy) := B2_2.cell 1
  have z2_2 : w.heap.size + 1 + 1 < w2.heap.size := B2_2.lt
  clear B2_2
  have B2_3 : Blk w2 (w.heap.size + 1 + 1 + 1) 46 #[.int .i64 ax, .int .i64 ay, .int .i64 bx, .int .i64 bY, .int .i64 cx, .int .i64 cy] := HH2.out (w.heap.size + 1 + 1 + 1, 46, [.int .i64 ax, .int .i64 ay, .int .i64 bx, .int .i64 bY, .int .i64 cx, .int .i64 cy]) (by simp)
  have k2_3_0 : w2.cell? ⟨w.heap.size + 1 + 1 + 1, 0, none⟩ = some (.int .i64 ax) := B2_3.cell 0
  have k2_3_1 : w2.cell? ⟨w.heap.size + 1 + 1 + 1, 1, none⟩ = some (.int .i64 ay) := B2_3.cell 1
  have k2_3_2 : w2.cell? ⟨w.heap.size + 1 + 1 + 1, 2, none⟩ = some (.int .i64 bx) := B2_3.cell 2
  have k2_3_3 : w2.cell? ⟨w.heap.size + 1 + 1 + 1, 3, none⟩ = some (.int .i64 bY) := B2_3.cell 3
  have k2_3_4 : w2.cell? ⟨w.heap.size + 1 + 1 + 1, 4, none⟩ = some (.int .i64 cx) := B2_3.cell 4
  have k2_3_5 : w2.cell? ⟨w.heap.size + 1 + 1 + 1, 5, none⟩ = some (.int .i64 cy) := B2_3.cell 5
  have z2_3 : w.heap.size + 1 + 1 + 1 < w2.heap.size := B2_3.lt
  clear B2_3
  go_wp2
  go_returns
  exact ⟨rfl, by repeat (first | with_reducible exact HB2.out | with_reducible refine Below.drew ?_ | with_reducible refine below_drewN ?_ _ | with_reducible refine below_set ?_ (by have := HB2.out.size; simp <;> omega) _ | with_reducible refine below_alloc ?_ _)⟩
theorem meetP_no (ax ay bx bY cx cy dx dy : Int) (h : ¬ (in2 ax ay = true ∧ in2 bx bY = true ∧ in2 cx cy = true ∧ in2 dx dy = true)) (w : World) : Calls Try.prog 34 #[.agg #[.int .i64 ax, .int .i64 ay], .agg #[.int .i64 bx, .int .i64 bY], .agg #[.int .i64 cx, .int .i64 cy], .agg #[.int .i64 dx, .int .i64 dy]] w fun e w' => e = .returned (.tuple #[.int .i64 0, .int .i64 6]) ∧ Below w.heap.size w w' := by
  have c1 := Lib.hid fun A W (hL : Lies W A (flat2 [(ax, ay), (bx, bY), (cx, cy), (dx, dy)])) => checkPoints_any A 4 4 [(ax, ay), (bx, bY), (cx, cy), (dx, dy)] rfl (by omega) W hL
  rw [chkP_no (l := [(ax, ay), (bx, bY), (cx, cy), (dx, dy)]) (by intro hh; apply h; simp at hh; exact hh)] at c1
  clear h
  go_enter Try.func34, Try.ntmps34
  go_wp2_with fail
  refine (c1.out _ _ (lies_row (by simp) rfl)).mono ?_
  rintro e w1 ⟨rfl, hb1⟩
  have HH1 := Lib.hid ((((((((Blks.nil (w := w))).new (w.heap.size) 46 [.int .i64 ax, .int .i64 ay] rfl).new (w.heap.size + 1) 46 [.int .i64 bx, .int .i64 bY] (by simp)).new (w.heap.size + 1 + 1) 46 [.int .i64 cx, .int .i64 cy] (by simp)).new (w.heap.size + 1 + 1 + 1) 46 [.int .i64 dx, .int .i64 dy] (by simp)).new (w.heap.size + 1 + 1 + 1 + 1) 46 [.int .i64 ax, .int .i64 ay, .int .i64 bx, .int .i64 bY, .int .i64 cx, .int .i64 cy, .int .i64 dx, .int .i64 dy] (by simp)).below hb1)
  have HB1 := Lib.hid (below_trans (below_alloc (below_alloc (below_alloc (below_alloc (below_alloc (Below.refl _ _) _) _) _) _) _) hb1)
  clear hb1
  have B1_0 : Blk w1 (w.heap.size) 46 #[.int .i64 ax, .int .i64 ay] := HH1.out (w.heap.size, 46, [.int .i64 ax, .int .i64 ay]) (by simp)
  have k1_0_0 : w1.cell? ⟨w.heap.size, 0, none⟩ = some (.int .i64 ax) := B1_0.cell 0
  have k1_0_1 : w1.cell? ⟨w.heap.size, 1, none⟩ = some (.int .i64 ay) := B1_0.cell 1
  have z1_0 : w.heap.size < w1.heap.size := B1_0.lt
  clear B1_0
  have B1_1 : Blk w1 (w.heap.size + 1) 46 #[.int .i64 bx, .int .i64 bY] := HH1.out (w.heap.size + 1, 46, [.int .i64 bx, .int .i64 bY]) (by simp)
  have k1_1_0 : w1.cell? ⟨w.heap.size + 1, 0, none⟩ = some (.int .i64 bx) := B1_1.cell 0
  have k1_1_1 : w1.cell? ⟨w.heap.size + 1, 1, none⟩ = some (.int .i64 bY) := B1_1.cell 1
  have z1_1 : w.heap.size + 1 < w1.heap.size := B1_1.lt
  clear B1_1
  have B1_2 : Blk w1 (w.heap.size + 1 + 1) 46 #[.int .i64 cx, .int .i64 cy] := HH1.out (w.heap.size + 1 + 1, 46, [.int .i64 cx, .int .i64 cy]) (by simp)
  have k1_2_0 : w1.cell? ⟨w.heap.size + 1 + 1, 0, none⟩ = some (.int .i64 cx) := B1_2.cell 0
  have k1_2_1 : w1.cell? ⟨w.heap.size + 1 + 1, 1, none⟩ = some (.int .i64 cy) := B1_2.cell 1
  have z1_2 : w.heap.size + 1 + 1 < w1.heap.size := B1_2.lt
  clear B1_2
  have B1_3 : Blk w1 (w.heap.size + 1 + 1 + 1) 46 #[.int .i64 dx, .int .i64 dy] := HH1.out (w.heap.size + 1 + 1 + 1, 46, [.int .i64 dx, .int .i64 dy]) (by simp)
  have k1_3_0 : w1.cell? ⟨w.heap.size + 1 + 1 + 1, 0, none⟩ = some (.int .i64 dx) := B1_3.cell 0
  have k1_3_1 : w1.cell? ⟨w.heap.size + 1 + 1 + 1, 1, none⟩ = some (.int .i64 dy) := B1_3.cell 1
  have z1_3 : w.heap.size + 1 + 1 + 1 < w1.heap.size := B1_3.lt
  clear B1_3
  have B1_4 : Blk w1 (w.heap.size + 1 + 1 + 1 + 1) 46 #[.int .i64 ax, .int .i64 ay, .int .i64 bx, .int .i64 bY, .int .i64 cx, .int .i64 cy, .int .i64 dx, .int .i64 dy] := HH1.out (w.heap.size + 1 + 1 + 1 + 1, 46, [.int .i64 ax, .int .i64 ay, .int .i64 bx, .int .i64 bY, .int .i64 cx, .int .i64 cy, .int .i64 dx, .int .i64 dy]) (by simp)
  have k1_4_0 : w1.cell? ⟨w.heap.size + 1 + 1 + 1 + 1, 0, none⟩ = some (.int .i64 ax) := B1_4.cell 0
  have k1_4_1 : w1.cell? ⟨w.heap.size + 1 + 1 + 1 + 1, 1, none⟩ = some (.int .i64 ay) := B1_4.cell 1
  have k1_4_2 : w1.cell? ⟨w.heap.size + 1 + 1 + 1 + 1, 2, none⟩ = some (.int .i64 bx) := B1_4.cell 2
  have k1_4_3 : w1.cell? ⟨w.heap.size + 1 + 1 + 1 + 1, 3, none⟩ = some (.int .i64 bY) := B1_4.cell 3
  have k1_4_4 : w1.cell? ⟨w.heap.size + 1 + 1 + 1 + 1, 4, none⟩ = some (.int .i64 cx) := B1_4.cell 4
  have k1_4_5 : w1.cell? ⟨w.heap.size + 1 + 1 + 1 + 1, 5, none⟩ = some (.int .i64 cy) := B1_4.cell 5
  have k1_4_6 : w1.cell? ⟨w.heap.size + 1 + 1 + 1 + 1, 6, none⟩ = some (.int .i64 dx) := B1_4.cell 6
  have k1_4_7 : w1.cell? ⟨w.heap.size + 1 + 1 + 1 + 1, 7, none⟩ = some (.int .i64 dy) := B1_4.cell 7
  have z1_4 : w.heap.size + 1 + 1 + 1 + 1 < w1.heap.size := B1_4.lt
  clear B1_4
  go_wp2
  go_returns
  exact ⟨rfl, by repeat (first | with_reducible exact HB1.out | with_reducible refine Below.drew ?_ | with_reducible refine below_drewN ?_ _ | with_reducible refine below_set ?_ (by have := HB1.out.size; simp <;> omega) _ | with_reducible refine below_alloc ?_ _)⟩
theorem meetP_ok (ax ay bx bY cx cy dx dy : Int) (h1 : in2 ax ay = true) (h2 : in2 bx bY = true) (h3 : in2 cx cy = true) (h4 : in2 dx dy = true) (w : World) : Calls Try.prog 34 #[.agg #[.int .i64 ax, .int .i64 ay], .agg #[.int .i64 bx, .int .i64 bY], .agg #[.int .i64 cx, .int .i64 cy], .agg #[.int .i64 dx, .int .i64 dy]] w fun e w' => e = .returned (.tuple #[.int .i64 (meetI ax ay bx bY cx cy dx dy), .int .i64 0]) ∧ Below w.heap.size w w' := by
  have c1 := Lib.hid fun A W (hL : Lies W A (flat2 [(ax, ay), (bx, bY), (cx, cy), (dx, dy)])) => checkPoints_any A 4 4 [(ax, ay), (bx, bY), (cx, cy), (dx, dy)] rfl (by omega) W hL
  rw [chkP_ok (l := [(ax, ay), (bx, bY), (cx, cy), (dx, dy)]) (by intro p hp; simp at hp; rcases hp with rfl | rfl | rfl | rfl <;> assumption)] at c1
  have c2 := Lib.hid fun W => meet_any ax ay bx bY cx cy dx dy h1 h2 h3 h4 W
  clear h1 h2 h3 h4
  generalize meetI ax ay bx bY cx cy dx dy = R at *
  go_enter Try.func34, Try.ntmps34
  go_wp2_with fail
  refine (c1.out _ _ (lies_row (by simp) rfl)).mono ?_
  rintro e w1 ⟨rfl, hb1⟩
  have HH1 := Lib.hid ((((((((Blks.nil (w := w))).new (w.heap.size) 46 [.int .i64 ax, .int .i64 ay] rfl).new (w.heap.size + 1) 46 [.int .i64 bx, .int .i64 bY] (by simp)).new (w.heap.size + 1 + 1) 46 [.int .i64 cx, .int .i64 cy] (by simp)).new (w.heap.size + 1 + 1 + 1) 46 [.int .i64 dx, .int .i64 dy] (by simp)).new (w.heap.size + 1 + 1 + 1 + 1) 46 [.int .i64 ax, .int .i64 ay, .int .i64 bx, .int .i64 bY, .int .i64 cx, .int .i64 cy, .int .i64 dx, .int .i64 dy] (by simp)).below hb1)
  have HB1 := Lib.hid (below_trans (below_alloc (below_alloc (below_alloc (below_alloc (below_alloc (Below.refl _ _) _) _) _) _) _) hb1)
  clear hb1
  have B1_0 : Blk w1 (w.heap.size) 46 #[.int .i64 ax, .int .i64 ay] := HH1.out (w.heap.size, 46, [.int .i64 ax, .int .i64 ay]) (by simp)
  have k1_0_0 : w1.cell? ⟨w.heap.size, 0, none⟩ = some (.int .i64 ax) := B1_0.cell 0
  have k1_0_1 : w1.cell? ⟨w.heap.size, 1, none⟩ = some (.int .i64 ay) := B1_0.cell 1
  have z1_0 : w.heap.size < w1.heap.size := B1_0.lt
  clear B1_0
  have B1_1 : Blk w1 (w.heap.size + 1) 46 #[.int .i64 bx, .int .i64 bY] := HH1.out (w.heap.size + 1, 46, [.int .i64 bx, .int .i64 bY]) (by simp)
  have k1_1_0 : w1.cell? ⟨w.heap.size + 1, 0, none⟩ = some (.int .i64 bx) := B1_1.cell 0
  have k1_1_1 : w1.cell? ⟨w.heap.size + 1, 1, none⟩ = some (.int .i64 bY) := B1_1.cell 1
  have z1_1 : w.heap.size + 1 < w1.heap.size := B1_1.lt
  clear B1_1
  have B1_2 : Blk w1 (w.heap.size + 1 + 1) 46 #[.int .i64 cx, .int .i64 cy] := HH1.out (w.heap.size + 1 + 1, 46, [.int .i64 cx, .int .i64 cy]) (by simp)
  have k1_2_0 : w1.cell? ⟨w.heap.size + 1 + 1, 0, none⟩ = some (.int .i64 cx) := B1_2.cell 0
  have k1_2_1 : w1.cell? ⟨w.heap.size + 1 + 1, 1, none⟩ = some (.int .i64 cy) := B1_2.cell 1
  have z1_2 : w.heap.size + 1 + 1 < w1.heap.size := B1_2.lt
  clear B1_2
  have B1_3 : Blk w1 (w.heap.size + 1 + 1 + 1) 46 #[.int .i64 dx, .int .i64 dy] := HH1.out (w.heap.size + 1 + 1 + 1, 46, [.int .i64 dx, .int .i64 dy]) (by simp)
  have k1_3_0 : w1.cell? ⟨w.heap.size + 1 + 1 + 1, 0, none⟩ = some (.int .i64 dx) := B1_3.cell 0
  have k1_3_1 : w1.cell? ⟨w.heap.size + 1 + 1 + 1, 1, none⟩ = some (.int .i64 dy) := B1_3.cell 1
  have z1_3 : w.heap.size + 1 + 1 + 1 < w1.heap.size := B1_3.lt
  clear B1_3
  have B1_4 : Blk w1 (w.heap.size + 1 + 1 + 1 + 1) 46 #[.int .i64 ax, .int .i64 ay, .int .i64 bx, .int .i64 bY, .int .i64 cx, .int .i64 cy, .int .i64 dx, .int .i64 dy] := HH1.out (w.heap.size + 1 + 1 + 1 + 1, 46, [.int .i64 ax, .int .i64 ay, .int .i64 bx, .int .i64 bY, .int .i64 cx, .int .i64 cy, .int .i64 dx, .int .i64 dy]) (by simp)
  have k1_4_0 : w1.cell? ⟨w.heap.size + 1 + 1 + 1 + 1, 0, none⟩ = some (.int .i64 ax) := B1_4.cell 0
  have k1_4_1 : w1.cell? ⟨w.heap.size + 1 + 1 + 1 + 1, 1, none⟩ = some (.int .i64 ay) := B1_4.cell 1
  have k1_4_2 : w1.cell? ⟨w.heap.size + 1 + 1 + 1 + 1, 2, none⟩ = some (.int .i64 bx) := B1_4.cell 2
  have k1_4_3 : w1.cell? ⟨w.heap.size + 1 + 1 + 1 + 1, 3, none⟩ = some (.int .i64 bY) := B1_4.cell 3
  have k1_4_4 : w1.cell? ⟨w.heap.size + 1 + 1 + 1 + 1, 4, none⟩ = some (.int .i64 cx) := B1_4.cell 4
  have k1_4_5 : w1.cell? ⟨w.heap.size + 1 + 1 + 1 + 1, 5, none⟩ = some (.int .i64 cy) := B1_4.cell 5
  have k1_4_6 : w1.cell? ⟨w.heap.size + 1 + 1 + 1 + 1, 6, none⟩ = some (.int .i64 dx) := B1_4.cell 6
  have k1_4_7 : w1.cell? ⟨w.heap.size + 1 + 1 + 1 + 1, 7, none⟩ = some (.int .i64 dy) := B1_4.cell 7
  have z1_4 : w.heap.size + 1 + 1 + 1 + 1 < w1.heap.size := B1_4.lt
  clear B1_4
  go_wp2_with fail
  refine (c2.out _).mono ?_
  rintro e w2 ⟨rfl, hb2⟩
  have HH2 := Lib.hid ((HH1.out).below hb2)
  have HB2 := Lib.hid (below_trans (HB1.out) hb2)
  clear k1_0_0 k1_0_1 z1_0 k1_1_0 k1_1_1 z1_1 k1_2_0 k1_2_1 z1_2 k1_3_0 k1_3_1 z1_3 k1_4_0 k1_4_1 k1_4_2 k1_4_3 k1_4_4 k1_4_5 k1_4_6 k1_4_7 z1_4
  clear hb2
  clear HH1 HB1
  have B2_0 : Blk w2 (w.heap.size) 46 #[.int .i64 ax, .int .i64 ay] := HH2.out (w.heap.size, 46, [.int .i64 ax, .int .i64 ay]) (by simp)
  have k2_0_0 : w2.cell? ⟨w.heap.size, 0, none⟩ = some (.int .i64 ax) := B2_0.cell 0
  have k2_0_1 : w2.cell? ⟨w.heap.size, 1, none⟩ = some (.int .i64 ay) := B2_0.cell 1
  have z2_0 : w.heap.size < w2.heap.size := B2_0.lt
  clear B2_0
  have B2_1 : Blk w2 (w.heap.size + 1) 46 #[.int .i64 bx, .int .i64 bY] := HH2.out (w.heap.size + 1, 46, [.int .i64 bx, .int .i64 bY]) (by simp)
  have k2_1_0 : w2.cell? ⟨w.heap.size + 1, 0, none⟩ = some (.int .i64 bx) := B2_1.cell 0
  have k2_1_1 : w2.cell? ⟨w.heap.size + 1, 1, none⟩ = some (.int .i64 bY) := B2_1.cell 1
  have z2_1 : w.heap.size + 1 < w2.heap.size := B2_1.lt
  clear B2_1
  have B2_2 : Blk w2 (w.heap.size + 1 + 1) 46 #[.int .i64 cx, .int .i64 cy] := HH2.out (w.heap.size + 1 + 1, 46, [.int .i64 cx, .int .i64 cy]) (by simp)
  have k2_2_0 : w2.cell? ⟨w.heap.size + 1 + 1, 0, none⟩ = some (.int .i64 cx) := B2_2.cell 0
  have k2_2_1 : w2.cell? ⟨w.heap.size + 1 + 1, 1, none⟩ = some (.int .i64 cy) := B2_2.cell 1
  have z2_2 : w.heap.size + 1 + 1 < w2.heap.size := B2_2.lt
  clear B2_2
  have B2_3 : Blk w2 (w.heap.size + 1 + 1 + 1) 46 #[.int .i64 dx, .int .i64 dy] := HH2.out (w.heap.size + 1 + 1 + 1, 46, [.int .i64 dx, .int .i64 dy]) (by simp)
  have k2_3_0 : w2.cell? ⟨w.heap.size + 1 + 1 + 1, 0, none⟩ = some (.int .i64 dx) := B2_3.cell 0
  have k2_3_1 : w2.cell? ⟨w.heap.size + 1 + 1 + 1, 1, none⟩ = some (.int .i64 dy) := B2_3.cell 1
  have z2_3 : w.heap.size + 1 + 1 + 1 < w2.heap.size := B2_3.lt
  clear B2_3
  have B2_4 : Blk w2 (w.heap.size + 1 + 1 + 1 + 1) 46 #[.int .i64 ax, .int .i64 ay, .int .i64 bx, .int .i64 bY, .int .i64 cx, .int .i64 cy, .int .i64 dx, .int .i64 dy] := HH2.out (w.heap.size + 1 + 1 + 1 + 1, 46, [.int .i64 ax, .int .i64 ay, .int .i64 bx, .int .i64 bY, .int .i64 cx, .int .i64 cy, .int .i64 dx, .int .i64 dy]) (by simp)
  have k2_4_0 : w2.cell? ⟨w.heap.size + 1 + 1 + 1 + 1, 0, none⟩ = some (.int .i64 ax) := B2_4.cell 0
  have k2_4_1 : w2.cell? ⟨w.heap.size + 1 + 1 + 1 + 1, 1, none⟩ = some (.int .i64 ay) := B2_4.cell 1
  have k2_4_2 : w2.cell? ⟨w.heap.size + 1 + 1 + 1 + 1, 2, none⟩ = some (.int .i64 bx) := B2_4.cell 2
  have k2_4_3 : w2.cell? ⟨w.heap.size + 1 + 1 + 1 + 1, 3, none⟩ = some (.int .i64 bY) := B2_4.cell 3
  have k2_4_4 : w2.cell? ⟨w.heap.size + 1 + 1 + 1 + 1, 4, none⟩ = some (.int .i64 cx) := B2_4.cell 4
  have k2_4_5 : w2.cell? ⟨w.heap.size + 1 + 1 + 1 + 1, 5, none⟩ = some (.int .i64 cy) := B2_4.cell 5
  have k2_4_6 : w2.cell? ⟨w.heap.size + 1 + 1 + 1 + 1, 6, none⟩ = some (.int .i64 dx) := B2_4.cell 6
  have k2_4_7 : w2.cell? ⟨w.heap.size + 1 + 1 + 1 + 1, 7, none⟩ = some (.int .i64 dy) := B2_4.cell 7
  have z2_4 : w.heap.size + 1 + 1 + 1 + 1 < w2.heap.size := B2_4.lt
  clear B2_4
  go_wp2
  go_returns
  exact ⟨rfl, by repeat (first | with_reducible exact HB2.out | with_reducible refine Below.drew ?_ | with_reducible refine below_drewN ?_ _ | with_reducible refine below_set ?_ (by have := HB2.out.size; simp <;> omega) _ | with_reducible refine below_alloc ?_ _)⟩
end Go.Proofs.Ytkfdbhhchnbjdaa.Ve
