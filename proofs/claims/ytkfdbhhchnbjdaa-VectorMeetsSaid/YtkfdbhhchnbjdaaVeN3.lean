/- The reference's Meet of two segments of one line. -/
import Derived.Test.YtkfdbhhchnbjdaaVeN1
namespace Go.Proofs.Ytkfdbhhchnbjdaa.Ve
open Go.RowKit Ba
set_option linter.unusedVariables false
set_option linter.unusedSimpArgs false

theorem blk_set2 {w : World} {g : Nat} {t : TypeId} {a b : Value} (h : Blk w g t #[a, b]) (x y : Value) : Blk ((w.setCell ⟨g, 0, none⟩ x).setCell ⟨g, 1, none⟩ y) g t #[x, y] := by
  have := (h.set_ 0 x).set_ 1 y
  simpa using this
theorem pt_eq_eql {a b x y : Int} (h : a = x ∧ b = y) (W : World) : (binOp .eql 46 (.agg #[.int .i64 a, .int .i64 b]) (.agg #[.int .i64 x, .int .i64 y])).run Try.prog W = .ok (.bool true) W := by
  obtain ⟨rfl, rfl⟩ := h
  exact pt_same_eql a b W
set_option maxRecDepth 100000 in
set_option maxHeartbeats 6400000 in
theorem rmeet_3ayy (ax ay bx bY cx cy dx dy v : Int) (h1 : in2 ax ay = true) (h2 : in2 bx bY = true) (h3 : in2 cx cy = true) (h4 : in2 dx dy = true) (hab : ¬ (ax = bx ∧ ay = bY)) (hcd : ¬ (cx = dx ∧ cy = dy)) (ht1 : turnI ax ay bx bY cx cy = 0) (ht2 : turnI ax ay bx bY dx dy = 0) (hb1 : bef (fst2 ax ay bx bY).1 (fst2 ax ay bx bY).2 (fst2 cx cy dx dy).1 (fst2 cx cy dx dy).2 = true) (hb2 : bef (lst2 cx cy dx dy).1 (lst2 cx cy dx dy).2 (lst2 ax ay bx bY).1 (lst2 ax ay bx bY).2 = true) (hv : v = if bef (fst2 cx cy dx dy).1 (fst2 cx cy dx dy).2 (lst2 cx cy dx dy).1 (lst2 cx cy dx dy).2 = true then 2 else if (fst2 cx cy dx dy).1 = (lst2 cx cy dx dy).1 ∧ (fst2 cx cy dx dy).2 = (lst2 cx cy dx dy).2 then 1 else 0) (w : World) : Calls Try.prog 35 #[.agg #[.int .i64 ax, .int .i64 ay], .agg #[.int .i64 bx, .int .i64 bY], .agg #[.int .i64 cx, .int .i64 cy], .agg #[.int .i64 dx, .int .i64 dy]] w fun e w' => e = .returned (.int .i64 v) ∧ Below w.heap.size w w' := by
  have gd := fun x y xs ys W => pt_guard .eql x y xs ys W
  have q1 := fun W => pt_diff_eql hab W
  have q2 := fun W => pt_diff_eql hcd W
  have c1 := Lib.hid fun W => rturn_any ax ay bx bY cx cy h1 h2 h3 W
  have c2 := Lib.hid fun W => rturn_any ax ay bx bY dx dy h1 h2 h4 W
  rw [ht1] at c1
  rw [ht2] at c2
  have s1 := Lib.hid fun W => sorted_any ax ay bx bY W
  have s2 := Lib.hid fun W => sorted_any cx cy dx dy W
  clear h1 h2 h3 h4 hab hcd ht1 ht2
  generalize (fst2 ax ay bx bY).1 = f1 at *
  generalize (fst2 ax ay bx bY).2 = f2 at *
  generalize (lst2 ax ay bx bY).1 = e1 at *
  generalize (lst2 ax ay bx bY).2 = e2 at *
  generalize (fst2 cx cy dx dy).1 = f3 at *
  generalize (fst2 cx cy dx dy).2 = f4 at *
  generalize (lst2 cx cy dx dy).1 = e3 at *
  generalize (lst2 cx cy dx dy).2 = e4 at *
  have k1 := Lib.hid fun W => before_any f1 f2 f3 f4 W
  have k2 := Lib.hid fun W => before_any e3 e4 e1 e2 W
  have k3 := Lib.hid fun W => before_any f3 f4 e3 e4 W
  rw [hb1] at k1
  rw [hb2] at k2
  have HV := Lib.hid hv
  clear hb1 hb2 hv
  go_enter Try.func35, Try.ntmps35
  go_wp2_with fail
  refine (c1.out _).mono ?_
  rintro e w1 ⟨rfl, hb1⟩
  have HH1 := Lib.hid (((((((Blks.nil (w := w))).new (w.heap.size) 46 [.int .i64 ax, .int .i64 ay] rfl).new (w.heap.size + 1) 46 [.int .i64 bx, .int .i64 bY] (by simp)).new (w.heap.size + 1 + 1) 46 [.int .i64 cx, .int .i64 cy] (by simp)).new (w.heap.size + 1 + 1 + 1) 46 [.int .i64 dx, .int .i64 dy] (by simp)).below hb1)
  have HB1 := Lib.hid (below_trans (below_alloc (below_alloc (below_alloc (below_alloc (Below.refl _ _) _) _) _) _) hb1)
  clear hb1
  have B1_0 : Blk w1 (w.heap.size) 46 #[.int .i64 ax, .int .i64 ay] := HH1.out (w.heap.size, 46, [.int .i64 ax, .int .i64 ay]) (by simp)
  have k1_0_0 : w1.cell? ⟨w.heap.size, 0, none⟩ = some (.int .i64 ax) := B1_0.cell 0
  have k1_0_1 : w1.cell? ⟨w.heap.size, 1, none⟩ = some (.int .i64 ay) := B1_0.cell 1
  have z1_0 : w.heap.size < w1.heap.size := B1_0.lt
  clear B1_0
  have B1_1 : Blk w1 (w.heap.size + 1) 46 #[.int .i64 bx, .int .i64 bY] := HH1.out (w.heap.size + 1, 46, [.int .i64 bx, .int .i64 bY]) (by simp)
  have k1_1_0 : w1.cell? ⟨w.heap.size + 1, 0, none⟩ = some (.int .i64 bx) := B1_1.cell 0
  have k1_1_1 : w1.cell? ⟨w.heap.size + 1, 1, none⟩ = some (.int .i64 bY) := B1_1.cell 1
  have z1_1 : w.heap.size + 1 < w1.heap.size := B1_1.lt
  clear B1_1
  have B1_2 : Blk w1 (w.heap.size + 1 + 1) 46 #[.int .i64 cx, .int .i64 cy] := HH1.out (w.heap.size + 1 + 1, 46, [.int .i64 cx, .int .i64 cy]) (by simp)
  have k1_2_0 : w1.cell? ⟨w.heap.size + 1 + 1, 0, none⟩ = some (.int .i64 cx) := B1_2.cell 0
  have k1_2_1 : w1.cell? ⟨w.heap.size + 1 + 1, 1, none⟩ = some (.int .i64 cy) := B1_2.cell 1
  have z1_2 : w.heap.size + 1 + 1 < w1.heap.size := B1_2.lt
  clear B1_2
  have B1_3 : Blk w1 (w.heap.size + 1 + 1 + 1) 46 #[.int .i64 dx, .int .i64 dy] := HH1.out (w.heap.size + 1 + 1 + 1, 46, [.int .i64 dx, .int .i64 dy]) (by simp)
  have k1_3_0 : w1.cell? ⟨w.heap.size + 1 + 1 + 1, 0, none⟩ = some (.int .i64 dx) := B1_3.cell 0
  have k1_3_1 : w1.cell? ⟨w.heap.size + 1 + 1 + 1, 1, none⟩ = some (.int .i64 dy) := B1_3.cell 1
  have z1_3 : w.heap.size + 1 + 1 + 1 < w1.heap.size := B1_3.lt
  clear B1_3
  go_wp2_with fail
  refine (c2.out _).mono ?_
  rintro e w2 ⟨rfl, hb2⟩
  have HH2 := Lib.hid ((HH1.out).below hb2)
  have HB2 := Lib.hid (below_trans (HB1.out) hb2)
  clear k1_0_0 k1_0_1 z1_0 k1_1_0 k1_1_1 z1_1 k1_2_0 k1_2_1 z1_2 k1_3_0 k1_3_1 z1_3
  clear hb2
  clear HH1 HB1
  have B2_0 : Blk w2 (w.heap.size) 46 #[.int .i64 ax, .int .i64 ay] := HH2.out (w.heap.size, 46, [.int .i64 ax, .int .i64 ay]) (by simp)
  have k2_0_0 : w2.cell? ⟨w.heap.size, 0, none⟩ = some (.int .i64 ax) := B2_0.cell 0
  have k2_0_1 : w2.cell? ⟨w.heap.size, 1, none⟩ = some (.int .i64 ay) := B2_0.cell 1
  have z2_0 : w.heap.size < w2.heap.size := B2_0.lt
  clear B2_0
  have B2_1 : Blk w2 (w.heap.size + 1) 46 #[.int .i64 bx, .int .i64 bY] := HH2.out (w.heap.size + 1, 46, [.int .i64 bx, .int .i64 bY]) (by simp)
  have k2_1_0 : w2.cell? ⟨w.heap.size + 1, 0, none⟩ = some (.int .i64 bx) := B2_1.cell 0
  have k2_1_1 : w2.cell? ⟨w.heap.size + 1, 1, none⟩ = some (.int .i64 bY) := B2_1.cell 1
  have z2_1 : w.heap.size + 1 < w2.heap.size := B2_1.lt
  clear B2_1
  have B2_2 : Blk w2 (w.heap.size + 1 + 1) 46 #[.int .i64 cx, .int .i64 cy] := HH2.out (w.heap.size + 1 + 1, 46, [.int .i64 cx, .int .i64 cy]) (by simp)
  have k2_2_0 : w2.cell? ⟨w.heap.size + 1 + 1, 0, none⟩ = some (.int .i64 cx) := B2_2.cell 0
  have k2_2_1 : w2.cell? ⟨w.heap.size + 1 + 1, 1, none⟩ = some (.int .i64 cy) := B2_2.cell 1
  have z2_2 : w.heap.size + 1 + 1 < w2.heap.size := B2_2.lt
  clear B2_2
  have B2_3 : Blk w2 (w.heap.size + 1 + 1 + 1) 46 #[.int .i64 dx, .int .i64 dy] := HH2.out (w.heap.size + 1 + 1 + 1, 46, [.int .i64 dx, .int .i64 dy]) (by simp)
  have k2_3_0 : w2.cell? ⟨w.heap.size + 1 + 1 + 1, 0, none⟩ = some (.int .i64 dx) := B2_3.cell 0
  have k2_3_1 : w2.cell? ⟨w.heap.size + 1 + 1 + 1, 1, none⟩ = some (.int .i64 dy) := B2_3.cell 1
  have z2_3 : w.heap.size + 1 + 1 + 1 < w2.heap.size := B2_3.lt
  clear B2_3
  go_wp2_with fail
  refine (s1.out _).mono ?_
  rintro e w3 ⟨rfl, hb3⟩
  have HH3 := Lib.hid ((HH2.out).below hb3)
  have HB3 := Lib.hid (below_trans (HB2.out) hb3)
  clear k2_0_0 k2_0_1 z2_0 k2_1_0 k2_1_1 z2_1 k2_2_0 k2_2_1 z2_2 k2_3_0 k2_3_1 z2_3
  clear hb3
  clear HH2 HB2
  have B3_0 : Blk w3 (w.heap.size) 46 #[.int .i64 ax, .int .i64 ay] := HH3.out (w.heap.size, 46, [.int .i64 ax, .int .i64 ay]) (by simp)
  have k3_0_0 : w3.cell? ⟨w.heap.size, 0, none⟩ = some (.int .i64 ax) := B3_0.cell 0
  have f3_0_0 : w3.frozen? ⟨w.heap.size, 0, none⟩ = false := B3_0.frozen 0
  have k3_0_1 : w3.cell? ⟨w.heap.size, 1, none⟩ = some (.int .i64 ay) := B3_0.cell 1
  have f3_0_1 : w3.frozen? ⟨w.heap.size, 1, none⟩ = false := B3_0.frozen 1
  have z3_0 : w.heap.size < w3.heap.size := B3_0.lt
  clear B3_0
  have B3_1 : Blk w3 (w.heap.size + 1) 46 #[.int .i64 bx, .int .i64 bY] := HH3.out (w.heap.size + 1, 46, [.int .i64 bx, .int .i64 bY]) (by simp)
  have k3_1_0 : w3.cell? ⟨w.heap.size + 1, 0, none⟩ = some (.int .i64 bx) := B3_1.cell 0
  have f3_1_0 : w3.frozen? ⟨w.heap.size + 1, 0, none⟩ = false := B3_1.frozen 0
  have k3_1_1 : w3.cell? ⟨w.heap.size + 1, 1, none⟩ = some (.int .i64 bY) := B3_1.cell 1
  have f3_1_1 : w3.frozen? ⟨w.heap.size + 1, 1, none⟩ = false := B3_1.frozen 1
  have z3_1 : w.heap.size + 1 < w3.heap.size := B3_1.lt
  clear B3_1
  have B3_2 : Blk w3 (w.heap.size + 1 + 1) 46 #[.int .i64 cx, .int .i64 cy] := HH3.out (w.heap.size + 1 + 1, 46, [.int .i64 cx, .int .i64 cy]) (by simp)
  have k3_2_0 : w3.cell? ⟨w.heap.size + 1 + 1, 0, none⟩ = some (.int .i64 cx) := B3_2.cell 0
  have f3_2_0 : w3.frozen? ⟨w.heap.size + 1 + 1, 0, none⟩ = false := B3_2.frozen 0
  have k3_2_1 : w3.cell? ⟨w.heap.size + 1 + 1, 1, none⟩ = some (.int .i64 cy) := B3_2.cell 1
  have f3_2_1 : w3.frozen? ⟨w.heap.size + 1 + 1, 1, none⟩ = false := B3_2.frozen 1
  have z3_2 : w.heap.size + 1 + 1 < w3.heap.size := B3_2.lt
  clear B3_2
  have B3_3 : Blk w3 (w.heap.size + 1 + 1 + 1) 46 #[.int .i64 dx, .int .i64 dy] := HH3.out (w.heap.size + 1 + 1 + 1, 46, [.int .i64 dx, .int .i64 dy]) (by simp)
  have k3_3_0 : w3.cell? ⟨w.heap.size + 1 + 1 + 1, 0, none⟩ = some (.int .i64 dx) := B3_3.cell 0
  have f3_3_0 : w3.frozen? ⟨w.heap.size + 1 + 1 + 1, 0, none⟩ = false := B3_3.frozen 0
  have k3_3_1 : w3.cell? ⟨w.heap.size + 1 + 1 + 1, 1, none⟩ = some (.int .i64 dy) := B3_3.cell 1
  have f3_3_1 : w3.frozen? ⟨w.heap.size + 1 + 1 + 1, 1, none⟩ = false := B3_3.frozen 1
  have z3_3 : w.heap.size + 1 + 1 + 1 < w3.heap.size := B3_3.lt
  clear B3_3
  go_upto_region 7 with fail
  have X0 : Blk (((((w3).setCell ⟨w.heap.size, 0, none⟩ (.int .i64 f1)).setCell ⟨w.heap.size, 1, none⟩ (.int .i64 f2)).setCell ⟨w.heap.size + 1, 0, none⟩ (.int .i64 e1)).setCell ⟨w.heap.size + 1, 1, none⟩ (.int .i64 e2)) (w.heap.size) 46 #[.int .i64 f1, .int .i64 f2] := (((blk_set2 (show Blk w3 (w.heap.size) 46 #[.int .i64 ax, .int .i64 ay] from (HH3.out (w.heap.size, 46, [.int .i64 ax, .int .i64 ay]) (by simp))) (.int .i64 f1) (.int .i64 f2)).far (p := ⟨w.heap.size + 1, 0, none⟩) (by first | omega | (simp <;> omega)) (.int .i64 e1)).far (p := ⟨w.heap.size + 1, 1, none⟩) (by first | omega | (simp <;> omega)) (.int .i64 e2))
  have X1 : Blk (((((w3).setCell ⟨w.heap.size, 0, none⟩ (.int .i64 f1)).setCell ⟨w.heap.size, 1, none⟩ (.int .i64 f2)).setCell ⟨w.heap.size + 1, 0, none⟩ (.int .i64 e1)).setCell ⟨w.heap.size + 1, 1, none⟩ (.int .i64 e2)) (w.heap.size + 1) 46 #[.int .i64 e1, .int .i64 e2] := (blk_set2 (((show Blk w3 (w.heap.size + 1) 46 #[.int .i64 bx, .int .i64 bY] from (HH3.out (w.heap.size + 1, 46, [.int .i64 bx, .int .i64 bY]) (by simp))).far (p := ⟨w.heap.size, 0, none⟩) (by first | omega | (simp <;> omega)) (.int .i64 f1)).far (p := ⟨w.heap.size, 1, none⟩) (by first | omega | (simp <;> omega)) (.int .i64 f2)) (.int .i64 e1) (.int .i64 e2))
  have X2 : Blk (((((w3).setCell ⟨w.heap.size, 0, none⟩ (.int .i64 f1)).setCell ⟨w.heap.size, 1, none⟩ (.int .i64 f2)).setCell ⟨w.heap.size + 1, 0, none⟩ (.int .i64 e1)).setCell ⟨w.heap.size + 1, 1, none⟩ (.int .i64 e2)) (w.heap.size + 1 + 1) 46 #[.int .i64 cx, .int .i64 cy] := (((((show Blk w3 (w.heap.size + 1 + 1) 46 #[.int .i64 cx, .int .i64 cy] from (HH3.out (w.heap.size + 1 + 1, 46, [.int .i64 cx, .int .i64 cy]) (by simp))).far (p := ⟨w.heap.size, 0, none⟩) (by first | omega | (simp <;> omega)) (.int .i64 f1)).far (p := ⟨w.heap.size, 1, none⟩) (by first | omega | (simp <;> omega)) (.int .i64 f2)).far (p := ⟨w.heap.size + 1, 0, none⟩) (by first | omega | (simp <;> omega)) (.int .i64 e1)).far (p := ⟨w.heap.size + 1, 1, none⟩) (by first | omega | (simp <;> omega)) (.int .i64 e2))
  have X3 : Blk (((((w3).setCell ⟨w.heap.size, 0, none⟩ (.int .i64 f1)).setCell ⟨w.heap.size, 1, none⟩ (.int .i64 f2)).setCell ⟨w.heap.size + 1, 0, none⟩ (.int .i64 e1)).setCell ⟨w.heap.size + 1, 1, none⟩ (.int .i64 e2)) (w.heap.size + 1 + 1 + 1) 46 #[.int .i64 dx, .int .i64 dy] := (((((show Blk w3 (w.heap.size + 1 + 1 + 1) 46 #[.int .i64 dx, .int .i64 dy] from (HH3.out (w.heap.size + 1 + 1 + 1, 46, [.int .i64 dx, .int .i64 dy]) (by simp))).far (p := ⟨w.heap.size, 0, none⟩) (by first | omega | (simp <;> omega)) (.int .i64 f1)).far (p := ⟨w.heap.size, 1, none⟩) (by first | omega | (simp <;> omega)) (.int .i64 f2)).far (p := ⟨w.heap.size + 1, 0, none⟩) (by first | omega | (simp <;> omega)) (.int .i64 e1)).far (p := ⟨w.heap.size + 1, 1, none⟩) (by first | omega | (simp <;> omega)) (.int .i64 e2))
  have XB : Below w.heap.size w (((((w3).setCell ⟨w.heap.size, 0, none⟩ (.int .i64 f1)).setCell ⟨w.heap.size, 1, none⟩ (.int .i64 f2)).setCell ⟨w.heap.size + 1, 0, none⟩ (.int .i64 e1)).setCell ⟨w.heap.size + 1, 1, none⟩ (.int .i64 e2)) := (below_set (below_set (below_set (below_set HB3.out (by first | omega | (simp <;> omega)) _) (by first | omega | (simp <;> omega)) _) (by first | omega | (simp <;> omega)) _) (by first | omega | (simp <;> omega)) _)
  clear k3_0_0 f3_0_0 k3_0_1 f3_0_1 z3_0 k3_1_0 f3_1_0 k3_1_1 f3_1_1 z3_1 k3_2_0 f3_2_0 k3_2_1 f3_2_1 z3_2 k3_3_0 f3_3_0 k3_3_1 f3_3_1 z3_3
  clear HH3 HB3
  obtain ⟨w4, hw4⟩ : ∃ w4 : World, w4 = ((((w3).setCell ⟨w.heap.size, 0, none⟩ (.int .i64 f1)).setCell ⟨w.heap.size, 1, none⟩ (.int .i64 f2)).setCell ⟨w.heap.size + 1, 0, none⟩ (.int .i64 e1)).setCell ⟨w.heap.size + 1, 1, none⟩ (.int .i64 e2) := ⟨_, rfl⟩
  rw [← hw4] at X0 X1 X2 X3 XB ⊢
  clear hw4
  have HH4 : Hid (Blks w4 [(w.heap.size + 1 + 1 + 1, 46, [.int .i64 dx, .int .i64 dy]), (w.heap.size + 1 + 1, 46, [.int .i64 cx, .int .i64 cy]), (w.heap.size + 1, 46, [.int .i64 e1, .int .i64 e2]), (w.heap.size, 46, [.int .i64 f1, .int .i64 f2])]) := Lib.hid (by intro p hp; simp only [List.mem_cons, List.not_mem_nil, or_false] at hp; rcases hp with rfl | rfl | rfl | rfl <;> assumption)
  have HB4 := Lib.hid XB
  clear XB X0 X1 X2 X3
  have B4_0 : Blk w4 (w.heap.size) 46 #[.int .i64 f1, .int .i64 f2] := HH4.out (w.heap.size, 46, [.int .i64 f1, .int .i64 f2]) (by simp)
  have k4_0_0 : w4.cell? ⟨w.heap.size, 0, none⟩ = some (.int .i64 f1) := B4_0.cell 0
  have f4_0_0 : w4.frozen? ⟨w.heap.size, 0, none⟩ = false := B4_0.frozen 0
  have k4_0_1 : w4.cell? ⟨w.heap.size, 1, none⟩ = some (.int .i64 f2) := B4_0.cell 1
  have f4_0_1 : w4.frozen? ⟨w.heap.size, 1, none⟩ = false := B4_0.frozen 1
  have z4_0 : w.heap.size < w4.heap.size := B4_0.lt
  clear B4_0
  have B4_1 : Blk w4 (w.heap.size + 1) 46 #[.int .i64 e1, .int .i64 e2] := HH4.out (w.heap.size + 1, 46, [.int .i64 e1, .int .i64 e2]) (by simp)
  have k4_1_0 : w4.cell? ⟨w.heap.size + 1, 0, none⟩ = some (.int .i64 e1) := B4_1.cell 0
  have f4_1_0 : w4.frozen? ⟨w.heap.size + 1, 0, none⟩ = false := B4_1.frozen 0
  have k4_1_1 : w4.cell? ⟨w.heap.size + 1, 1, none⟩ = some (.int .i64 e2) := B4_1.cell 1
  have f4_1_1 : w4.frozen? ⟨w.heap.size + 1, 1, none⟩ = false := B4_1.frozen 1
  have z4_1 : w.heap.size + 1 < w4.heap.size := B4_1.lt
  clear B4_1
  have B4_2 : Blk w4 (w.heap.size + 1 + 1) 46 #[.int .i64 cx, .int .i64 cy] := HH4.out (w.heap.size + 1 + 1, 46, [.int .i64 cx, .int .i64 cy]) (by simp)
  have k4_2_0 : w4.cell? ⟨w.heap.size + 1 + 1, 0, none⟩ = some (.int .i64 cx) := B4_2.cell 0
  have f4_2_0 : w4.frozen? ⟨w.heap.size + 1 + 1, 0, none⟩ = false := B4_2.frozen 0
  have k4_2_1 : w4.cell? ⟨w.heap.size + 1 + 1, 1, none⟩ = some (.int .i64 cy) := B4_2.cell 1
  have f4_2_1 : w4.frozen? ⟨w.heap.size + 1 + 1, 1, none⟩ = false := B4_2.frozen 1
  have z4_2 : w.heap.size + 1 + 1 < w4.heap.size := B4_2.lt
  clear B4_2
  have B4_3 : Blk w4 (w.heap.size + 1 + 1 + 1) 46 #[.int .i64 dx, .int .i64 dy] := HH4.out (w.heap.size + 1 + 1 + 1, 46, [.int .i64 dx, .int .i64 dy]) (by simp)
  have k4_3_0 : w4.cell? ⟨w.heap.size + 1 + 1 + 1, 0, none⟩ = some (.int .i64 dx) := B4_3.cell 0
  have f4_3_0 : w4.frozen? ⟨w.heap.size + 1 + 1 + 1, 0, none⟩ = false := B4_3.frozen 0
  have k4_3_1 : w4.cell? ⟨w.heap.size + 1 + 1 + 1, 1, none⟩ = some (.int .i64 dy) := B4_3.cell 1
  have f4_3_1 : w4.frozen? ⟨w.heap.size + 1 + 1 + 1, 1, none⟩ = false := B4_3.frozen 1
  have z4_3 : w.heap.size + 1 + 1 + 1 < w4.heap.size := B4_3.lt
  clear B4_3
  go_wp2_with fail
  refine (s2.out _).mono ?_
  rintro e w5 ⟨rfl, hb5⟩
  have HH5 := Lib.hid ((HH4.out).below hb5)
  have HB5 := Lib.hid (below_trans (HB4.out) hb5)
  clear k4_0_0 f4_0_0 k4_0_1 f4_0_1 z4_0 k4_1_0 f4_1_0 k4_1_1 f4_1_1 z4_1 k4_2_0 f4_2_0 k4_2_1 f4_2_1 z4_2 k4_3_0 f4_3_0 k4_3_1 f4_3_1 z4_3
  clear hb5
  clear HH4 HB4
  have B5_0 : Blk w5 (w.heap.size) 46 #[.int .i64 f1, .int .i64 f2] := HH5.out (w.heap.size, 46, [.int .i64 f1, .int .i64 f2]) (by simp)
  have k5_0_0 : w5.cell? ⟨w.heap.size, 0, none⟩ = some (.int .i64 f1) := B5_0.cell 0
  have f5_0_0 : w5.frozen? ⟨w.heap.size, 0, none⟩ = false := B5_0.frozen 0
  have k5_0_1 : w5.cell? ⟨w.heap.size, 1, none⟩ = some (.int .i64 f2) := B5_0.cell 1
  have f5_0_1 : w5.frozen? ⟨w.heap.size, 1, none⟩ = false := B5_0.frozen 1
  have z5_0 : w.heap.size < w5.heap.size := B5_0.lt
  clear B5_0
  have B5_1 : Blk w5 (w.heap.size + 1) 46 #[.int .i64 e1, .int .i64 e2] := HH5.out (w.heap.size + 1, 46, [.int .i64 e1, .int .i64 e2]) (by simp)
  have k5_1_0 : w5.cell? ⟨w.heap.size + 1, 0, none⟩ = some (.int .i64 e1) := B5_1.cell 0
  have f5_1_0 : w5.frozen? ⟨w.heap.size + 1, 0, none⟩ = false := B5_1.frozen 0
  have k5_1_1 : w5.cell? ⟨w.heap.size + 1, 1, none⟩ = some (.int .i64 e2) := B5_1.cell 1
  have f5_1_1 : w5.frozen? ⟨w.heap.size + 1, 1, none⟩ = false := B5_1.frozen 1
  have z5_1 : w.heap.size + 1 < w5.heap.size := B5_1.lt
  clear B5_1
  have B5_2 : Blk w5 (w.heap.size + 1 + 1) 46 #[.int .i64 cx, .int .i64 cy] := HH5.out (w.heap.size + 1 + 1, 46, [.int .i64 cx, .int .i64 cy]) (by simp)
  have k5_2_0 : w5.cell? ⟨w.heap.size + 1 + 1, 0, none⟩ = some (.int .i64 cx) := B5_2.cell 0
  have f5_2_0 : w5.frozen? ⟨w.heap.size + 1 + 1, 0, none⟩ = false := B5_2.frozen 0
  have k5_2_1 : w5.cell? ⟨w.heap.size + 1 + 1, 1, none⟩ = some (.int .i64 cy) := B5_2.cell 1
  have f5_2_1 : w5.frozen? ⟨w.heap.size + 1 + 1, 1, none⟩ = false := B5_2.frozen 1
  have z5_2 : w.heap.size + 1 + 1 < w5.heap.size := B5_2.lt
  clear B5_2
  have B5_3 : Blk w5 (w.heap.size + 1 + 1 + 1) 46 #[.int .i64 dx, .int .i64 dy] := HH5.out (w.heap.size + 1 + 1 + 1, 46, [.int .i64 dx, .int .i64 dy]) (by simp)
  have k5_3_0 : w5.cell? ⟨w.heap.size + 1 + 1 + 1, 0, none⟩ = some (.int .i64 dx) := B5_3.cell 0
  have f5_3_0 : w5.frozen? ⟨w.heap.size + 1 + 1 + 1, 0, none⟩ = false := B5_3.frozen 0
  have k5_3_1 : w5.cell? ⟨w.heap.size + 1 + 1 + 1, 1, none⟩ = some (.int .i64 dy) := B5_3.cell 1
  have f5_3_1 : w5.frozen? ⟨w.heap.size + 1 + 1 + 1, 1, none⟩ = false := B5_3.frozen 1
  have z5_3 : w.heap.size + 1 + 1 + 1 < w5.heap.size := B5_3.lt
  clear B5_3
  go_upto_region 8 with fail
  have X0 : Blk (((((w5).setCell ⟨w.heap.size + 1 + 1, 0, none⟩ (.int .i64 f3)).setCell ⟨w.heap.size + 1 + 1, 1, none⟩ (.int .i64 f4)).setCell ⟨w.heap.size + 1 + 1 + 1, 0, none⟩ (.int .i64 e3)).setCell ⟨w.heap.size + 1 + 1 + 1, 1, none⟩ (.int .i64 e4)) (w.heap.size) 46 #[.int .i64 f1, .int .i64 f2] := (((((show Blk w5 (w.heap.size) 46 #[.int .i64 f1, .int .i64 f2] from (HH5.out (w.heap.size, 46, [.int .i64 f1, .int .i64 f2]) (by simp))).far (p := ⟨w.heap.size + 1 + 1, 0, none⟩) (by first | omega | (simp <;> omega)) (.int .i64 f3)).far (p := ⟨w.heap.size + 1 + 1, 1, none⟩) (by first | omega | (simp <;> omega)) (.int .i64 f4)).far (p := ⟨w.heap.size + 1 + 1 + 1, 0, none⟩) (by first | omega | (simp <;> omega)) (.int .i64 e3)).far (p := ⟨w.heap.size + 1 + 1 + 1, 1, none⟩) (by first | omega | (simp <;> omega)) (.int .i64 e4))
  have X1 : Blk (((((w5).setCell ⟨w.heap.size + 1 + 1, 0, none⟩ (.int .i64 f3)).setCell ⟨w.heap.size + 1 + 1, 1, none⟩ (.int .i64 f4)).setCell ⟨w.heap.size + 1 + 1 + 1, 0, none⟩ (.int .i64 e3)).setCell ⟨w.heap.size + 1 + 1 + 1, 1, none⟩ (.int .i64 e4)) (w.heap.size + 1) 46 #[.int .i64 e1, .int .i64 e2] := (((((show Blk w5 (w.heap.size + 1) 46 #[.int .i64 e1, .int .i64 e2] from (HH5.out (w.heap.size + 1, 46, [.int .i64 e1, .int .i64 e2]) (by simp))).far (p := ⟨w.heap.size + 1 + 1, 0, none⟩) (by first | omega | (simp <;> omega)) (.int .i64 f3)).far (p := ⟨w.heap.size + 1 + 1, 1, none⟩) (by first | omega | (simp <;> omega)) (.int .i64 f4)).far (p := ⟨w.heap.size + 1 + 1 + 1, 0, none⟩) (by first | omega | (simp <;> omega)) (.int .i64 e3)).far (p := ⟨w.heap.size + 1 + 1 + 1, 1, none⟩) (by first | omega | (simp <;> omega)) (.int .i64 e4))
  have X2 : Blk (((((w5).setCell ⟨w.heap.size + 1 + 1, 0, none⟩ (.int .i64 f3)).setCell ⟨w.heap.size + 1 + 1, 1, none⟩ (.int .i64 f4)).setCell ⟨w.heap.size + 1 + 1 + 1, 0, none⟩ (.int .i64 e3)).setCell ⟨w.heap.size + 1 + 1 + 1, 1, none⟩ (.int .i64 e4)) (w.heap.size + 1 + 1) 46 #[.int .i64 f3, .int .i64 f4] := (((blk_set2 (show Blk w5 (w.heap.size + 1 + 1) 46 #[.int .i64 cx, .int .i64 cy] from (HH5.out (w.heap.size + 1 + 1, 46, [.int .i64 cx, .int .i64 cy]) (by simp))) (.int .i64 f3) (.int .i64 f4)).far (p := ⟨w.heap.size + 1 + 1 + 1, 0, none⟩) (by first | omega | (simp <;> omega)) (.int .i64 e3)).far (p := ⟨w.heap.size + 1 + 1 + 1, 1, none⟩) (by first | omega | (simp <;> omega)) (.int .i64 e4))
  have X3 : Blk (((((w5).setCell ⟨w.heap.size + 1 + 1, 0, none⟩ (.int .i64 f3)).setCell ⟨w.heap.size + 1 + 1, 1, none⟩ (.int .i64 f4)).setCell ⟨w.heap.size + 1 + 1 + 1, 0, none⟩ (.int .i64 e3)).setCell ⟨w.heap.size + 1 + 1 + 1, 1, none⟩ (.int .i64 e4)) (w.heap.size + 1 + 1 + 1) 46 #[.int .i64 e3, .int .i64 e4] := (blk_set2 (((show Blk w5 (w.heap.size + 1 + 1 + 1) 46 #[.int .i64 dx, .int .i64 dy] from (HH5.out (w.heap.size + 1 + 1 + 1, 46, [.int .i64 dx, .int .i64 dy]) (by simp))).far (p := ⟨w.heap.size + 1 + 1, 0, none⟩) (by first | omega | (simp <;> omega)) (.int .i64 f3)).far (p := ⟨w.heap.size + 1 + 1, 1, none⟩) (by first | omega | (simp <;> omega)) (.int .i64 f4)) (.int .i64 e3) (.int .i64 e4))
  have XB : Below w.heap.size w (((((w5).setCell ⟨w.heap.size + 1 + 1, 0, none⟩ (.int .i64 f3)).setCell ⟨w.heap.size + 1 + 1, 1, none⟩ (.int .i64 f4)).setCell ⟨w.heap.size + 1 + 1 + 1, 0, none⟩ (.int .i64 e3)).setCell ⟨w.heap.size + 1 + 1 + 1, 1, none⟩ (.int .i64 e4)) := (below_set (below_set (below_set (below_set HB5.out (by first | omega | (simp <;> omega)) _) (by first | omega | (simp <;> omega)) _) (by first | omega | (simp <;> omega)) _) (by first | omega | (simp <;> omega)) _)
  clear k5_0_0 f5_0_0 k5_0_1 f5_0_1 z5_0 k5_1_0 f5_1_0 k5_1_1 f5_1_1 z5_1 k5_2_0 f5_2_0 k5_2_1 f5_2_1 z5_2 k5_3_0 f5_3_0 k5_3_1 f5_3_1 z5_3
  clear HH5 HB5
  obtain ⟨w6, hw6⟩ : ∃ w6 : World, w6 = ((((w5).setCell ⟨w.heap.size + 1 + 1, 0, none⟩ (.int .i64 f3)).setCell ⟨w.heap.size + 1 + 1, 1, none⟩ (.int .i64 f4)).setCell ⟨w.heap.size + 1 + 1 + 1, 0, none⟩ (.int .i64 e3)).setCell ⟨w.heap.size + 1 + 1 + 1, 1, none⟩ (.int .i64 e4) := ⟨_, rfl⟩
  rw [← hw6] at X0 X1 X2 X3 XB ⊢
  clear hw6
  have HH6 : Hid (Blks w6 [(w.heap.size + 1 + 1 + 1, 46, [.int .i64 e3, .int .i64 e4]), (w.heap.size + 1 + 1, 46, [.int .i64 f3, .int .i64 f4]), (w.heap.size + 1, 46, [.int .i64 e1, .int .i64 e2]), (w.heap.size, 46, [.int .i64 f1, .int .i64 f2])]) := Lib.hid (by intro p hp; simp only [List.mem_cons, List.not_mem_nil, or_false] at hp; rcases hp with rfl | rfl | rfl | rfl <;> assumption)
  have HB6 := Lib.hid XB
  clear XB X0 X1 X2 X3
  have B6_0 : Blk w6 (w.heap.size) 46 #[.int .i64 f1, .int .i64 f2] := HH6.out (w.heap.size, 46, [.int .i64 f1, .int .i64 f2]) (by simp)
  have k6_0_0 : w6.cell? ⟨w.heap.size, 0, none⟩ = some (.int .i64 f1) := B6_0.cell 0
  have f6_0_0 : w6.frozen? ⟨w.heap.size, 0, none⟩ = false := B6_0.frozen 0
  have k6_0_1 : w6.cell? ⟨w.heap.size, 1, none⟩ = some (.int .i64 f2) := B6_0.cell 1
  have f6_0_1 : w6.frozen? ⟨w.heap.size, 1, none⟩ = false := B6_0.frozen 1
  have z6_0 : w.heap.size < w6.heap.size := B6_0.lt
  clear B6_0
  have B6_1 : Blk w6 (w.heap.size + 1) 46 #[.int .i64 e1, .int .i64 e2] := HH6.out (w.heap.size + 1, 46, [.int .i64 e1, .int .i64 e2]) (by simp)
  have k6_1_0 : w6.cell? ⟨w.heap.size + 1, 0, none⟩ = some (.int .i64 e1) := B6_1.cell 0
  have f6_1_0 : w6.frozen? ⟨w.heap.size + 1, 0, none⟩ = false := B6_1.frozen 0
  have k6_1_1 : w6.cell? ⟨w.heap.size + 1, 1, none⟩ = some (.int .i64 e2) := B6_1.cell 1
  have f6_1_1 : w6.frozen? ⟨w.heap.size + 1, 1, none⟩ = false := B6_1.frozen 1
  have z6_1 : w.heap.size + 1 < w6.heap.size := B6_1.lt
  clear B6_1
  have B6_2 : Blk w6 (w.heap.size + 1 + 1) 46 #[.int .i64 f3, .int .i64 f4] := HH6.out (w.heap.size + 1 + 1, 46, [.int .i64 f3, .int .i64 f4]) (by simp)
  have k6_2_0 : w6.cell? ⟨w.heap.size + 1 + 1, 0, none⟩ = some (.int .i64 f3) := B6_2.cell 0
  have f6_2_0 : w6.frozen? ⟨w.heap.size + 1 + 1, 0, none⟩ = false := B6_2.frozen 0
  have k6_2_1 : w6.cell? ⟨w.heap.size + 1 + 1, 1, none⟩ = some (.int .i64 f4) := B6_2.cell 1
  have f6_2_1 : w6.frozen? ⟨w.heap.size + 1 + 1, 1, none⟩ = false := B6_2.frozen 1
  have z6_2 : w.heap.size + 1 + 1 < w6.heap.size := B6_2.lt
  clear B6_2
  have B6_3 : Blk w6 (w.heap.size + 1 + 1 + 1) 46 #[.int .i64 e3, .int .i64 e4] := HH6.out (w.heap.size + 1 + 1 + 1, 46, [.int .i64 e3, .int .i64 e4]) (by simp)
  have k6_3_0 : w6.cell? ⟨w.heap.size + 1 + 1 + 1, 0, none⟩ = some (.int .i64 e3) := B6_3.cell 0
  have f6_3_0 : w6.frozen? ⟨w.heap.size + 1 + 1 + 1, 0, none⟩ = false := B6_3.frozen 0
  have k6_3_1 : w6.cell? ⟨w.heap.size + 1 + 1 + 1, 1, none⟩ = some (.int .i64 e4) := B6_3.cell 1
  have f6_3_1 : w6.frozen? ⟨w.heap.size + 1 + 1 + 1, 1, none⟩ = false := B6_3.frozen 1
  have z6_3 : w.heap.size + 1 + 1 + 1 < w6.heap.size := B6_3.lt
  clear B6_3
  have YC : Blk w6 (w.heap.size + 1 + 1) 46 #[.int .i64 f3, .int .i64 f4] := HH6.out (w.heap.size + 1 + 1, 46, [.int .i64 f3, .int .i64 f4]) (by simp)
  have YD : Blk w6 (w.heap.size + 1 + 1 + 1) 46 #[.int .i64 e3, .int .i64 e4] := HH6.out (w.heap.size + 1 + 1 + 1, 46, [.int .i64 e3, .int .i64 e4]) (by simp)
  go_cut [9, 10] (fun p q wx => ∃ gx hx : Nat, p = .pointer (some ⟨gx, 0, none⟩) ∧ q = .pointer (some ⟨hx, 0, none⟩) ∧ gx ≠ hx ∧ w6.heap.size ≤ gx ∧ w6.heap.size ≤ hx ∧ Blk wx gx 46 #[.int .i64 f1, .int .i64 f2] ∧ Blk wx hx 46 #[.int .i64 e1, .int .i64 e2] ∧ Blk wx (w.heap.size + 1 + 1) 46 #[.int .i64 f3, .int .i64 f4] ∧ Blk wx (w.heap.size + 1 + 1 + 1) 46 #[.int .i64 e3, .int .i64 e4] ∧ Below w.heap.size w wx)
  case first =>
    go_region
    all_goals
      go_wp2_with fail
      go_meet
      refine ⟨_, _, rfl, rfl, by omega, by omega, by omega, ?_, ?_, ?_, ?_, ?_⟩
      · repeat (first | with_reducible assumption | (with_reducible refine Blk_at ?_; simp only [World.size_alloc, World.size_drew]; done) | with_reducible refine Blk.drew ?_ | with_reducible refine Blk.alloc ?_ _)
      · repeat (first | with_reducible assumption | (with_reducible refine Blk_at ?_; simp only [World.size_alloc, World.size_drew]; done) | with_reducible refine Blk.drew ?_ | with_reducible refine Blk.alloc ?_ _)
      · repeat (first | with_reducible assumption | (with_reducible refine Blk_at ?_; simp only [World.size_alloc, World.size_drew]; done) | with_reducible refine Blk.drew ?_ | with_reducible refine Blk.alloc ?_ _)
      · repeat (first | with_reducible assumption | (with_reducible refine Blk_at ?_; simp only [World.size_alloc, World.size_drew]; done) | with_reducible refine Blk.drew ?_ | with_reducible refine Blk.alloc ?_ _)
      · repeat (first | with_reducible exact HB6.out | with_reducible refine Below.drew ?_ | with_reducible refine below_drewN ?_ _ | with_reducible refine below_set ?_ (by simp <;> omega) _ | with_reducible refine below_alloc ?_ _)
  case rest =>
    obtain ⟨wd, rfl⟩ : ∃ wd : World, wd = wc := ⟨_, rfl⟩
    obtain ⟨g, h, rfl, rfl, hgh, hg, hh, hC1, hC2, hC3, hC4, hbw2⟩ := hcut
    have zC : w.heap.size + 1 + 1 < w6.heap.size := YC.lt
    have zD : w.heap.size + 1 + 1 + 1 < w6.heap.size := YD.lt
    have hhg : h ≠ g := fun e => hgh e.symm
    clear YC YD HH6 HB6 k6_0_0 f6_0_0 k6_0_1 f6_0_1 z6_0 k6_1_0 f6_1_0 k6_1_1 f6_1_1 z6_1 k6_2_0 f6_2_0 k6_2_1 f6_2_1 z6_2 k6_3_0 f6_3_0 k6_3_1 f6_3_1 z6_3
    have HH20 : Hid (Blks wd [(w.heap.size + 1 + 1 + 1, 46, [.int .i64 e3, .int .i64 e4]), (w.heap.size + 1 + 1, 46, [.int .i64 f3, .int .i64 f4]), (h, 46, [.int .i64 e1, .int .i64 e2]), (g, 46, [.int .i64 f1, .int .i64 f2])]) := Lib.hid (by intro p hp; simp only [List.mem_cons, List.not_mem_nil, or_false] at hp; rcases hp with rfl | rfl | rfl | rfl <;> assumption)
    have HB20 := Lib.hid hbw2
    clear hC1 hC2 hC3 hC4 hbw2
    have B0_0 : Blk wd (g) 46 #[.int .i64 f1, .int .i64 f2] := HH20.out (g, 46, [.int .i64 f1, .int .i64 f2]) (by simp)
    have k0_0_0 : wd.cell? ⟨g, 0, none⟩ = some (.int .i64 f1) := B0_0.cell 0
    have k0_0_1 : wd.cell? ⟨g, 1, none⟩ = some (.int .i64 f2) := B0_0.cell 1
    have z0_0 : g < wd.heap.size := B0_0.lt
    clear B0_0
    have B0_1 : Blk wd (h) 46 #[.int .i64 e1, .int .i64 e2] := HH20.out (h, 46, [.int .i64 e1, .int .i64 e2]) (by simp)
    have k0_1_0 : wd.cell? ⟨h, 0, none⟩ = some (.int .i64 e1) := B0_1.cell 0
    have k0_1_1 : wd.cell? ⟨h, 1, none⟩ = some (.int .i64 e2) := B0_1.cell 1
    have z0_1 : h < wd.heap.size := B0_1.lt
    clear B0_1
    have B0_2 : Blk wd (w.heap.size + 1 + 1) 46 #[.int .i64 f3, .int .i64 f4] := HH20.out (w.heap.size + 1 + 1, 46, [.int .i64 f3, .int .i64 f4]) (by simp)
    have k0_2_0 : wd.cell? ⟨w.heap.size + 1 + 1, 0, none⟩ = some (.int .i64 f3) := B0_2.cell 0
    have k0_2_1 : wd.cell? ⟨w.heap.size + 1 + 1, 1, none⟩ = some (.int .i64 f4) := B0_2.cell 1
    have z0_2 : w.heap.size + 1 + 1 < wd.heap.size := B0_2.lt
    clear B0_2
    have B0_3 : Blk wd (w.heap.size + 1 + 1 + 1) 46 #[.int .i64 e3, .int .i64 e4] := HH20.out (w.heap.size + 1 + 1 + 1, 46, [.int .i64 e3, .int .i64 e4]) (by simp)
    have k0_3_0 : wd.cell? ⟨w.heap.size + 1 + 1 + 1, 0, none⟩ = some (.int .i64 e3) := B0_3.cell 0
    have k0_3_1 : wd.cell? ⟨w.heap.size + 1 + 1 + 1, 1, none⟩ = some (.int .i64 e4) := B0_3.cell 1
    have z0_3 : w.heap.size + 1 + 1 + 1 < wd.heap.size := B0_3.lt
    clear B0_3
    go_wp2_with fail
    refine (k1.out _).mono ?_
    rintro e w21 ⟨rfl, hb21⟩
    have HH21 := Lib.hid ((HH20.out).below hb21)
    have HB21 := Lib.hid (below_trans (HB20.out) hb21)
    clear k0_0_0 k0_0_1 z0_0 k0_1_0 k0_1_1 z0_1 k0_2_0 k0_2_1 z0_2 k0_3_0 k0_3_1 z0_3
    clear hb21
    clear HH20 HB20
    have B21_0 : Blk w21 (g) 46 #[.int .i64 f1, .int .i64 f2] := HH21.out (g, 46, [.int .i64 f1, .int .i64 f2]) (by simp)
    have k21_0_0 : w21.cell? ⟨g, 0, none⟩ = some (.int .i64 f1) := B21_0.cell 0
    have f21_0_0 : w21.frozen? ⟨g, 0, none⟩ = false := B21_0.frozen 0
    have k21_0_1 : w21.cell? ⟨g, 1, none⟩ = some (.int .i64 f2) := B21_0.cell 1
    have f21_0_1 : w21.frozen? ⟨g, 1, none⟩ = false := B21_0.frozen 1
    have z21_0 : g < w21.heap.size := B21_0.lt
    clear B21_0
    have B21_1 : Blk w21 (h) 46 #[.int .i64 e1, .int .i64 e2] := HH21.out (h, 46, [.int .i64 e1, .int .i64 e2]) (by simp)
    have k21_1_0 : w21.cell? ⟨h, 0, none⟩ = some (.int .i64 e1) := B21_1.cell 0
    have f21_1_0 : w21.frozen? ⟨h, 0, none⟩ = false := B21_1.frozen 0
    have k21_1_1 : w21.cell? ⟨h, 1, none⟩ = some (.int .i64 e2) := B21_1.cell 1
    have f21_1_1 : w21.frozen? ⟨h, 1, none⟩ = false := B21_1.frozen 1
    have z21_1 : h < w21.heap.size := B21_1.lt
    clear B21_1
    have B21_2 : Blk w21 (w.heap.size + 1 + 1) 46 #[.int .i64 f3, .int .i64 f4] := HH21.out (w.heap.size + 1 + 1, 46, [.int .i64 f3, .int .i64 f4]) (by simp)
    have k21_2_0 : w21.cell? ⟨w.heap.size + 1 + 1, 0, none⟩ = some (.int .i64 f3) := B21_2.cell 0
    have f21_2_0 : w21.frozen? ⟨w.heap.size + 1 + 1, 0, none⟩ = false := B21_2.frozen 0
    have k21_2_1 : w21.cell? ⟨w.heap.size + 1 + 1, 1, none⟩ = some (.int .i64 f4) := B21_2.cell 1
    have f21_2_1 : w21.frozen? ⟨w.heap.size + 1 + 1, 1, none⟩ = false := B21_2.frozen 1
    have z21_2 : w.heap.size + 1 + 1 < w21.heap.size := B21_2.lt
    clear B21_2
    have B21_3 : Blk w21 (w.heap.size + 1 + 1 + 1) 46 #[.int .i64 e3, .int .i64 e4] := HH21.out (w.heap.size + 1 + 1 + 1, 46, [.int .i64 e3, .int .i64 e4]) (by simp)
    have k21_3_0 : w21.cell? ⟨w.heap.size + 1 + 1 + 1, 0, none⟩ = some (.int .i64 e3) := B21_3.cell 0
    have f21_3_0 : w21.frozen? ⟨w.heap.size + 1 + 1 + 1, 0, none⟩ = false := B21_3.frozen 0
    have k21_3_1 : w21.cell? ⟨w.heap.size + 1 + 1 + 1, 1, none⟩ = some (.int .i64 e4) := B21_3.cell 1
    have f21_3_1 : w21.frozen? ⟨w.heap.size + 1 + 1 + 1, 1, none⟩ = false := B21_3.frozen 1
    have z21_3 : w.heap.size + 1 + 1 + 1 < w21.heap.size := B21_3.lt
    clear B21_3
    go_upto_region 11 with fail
    have X0 : Blk (((w21).setCell ⟨g, 0, none⟩ (.int .i64 f3)).setCell ⟨g, 1, none⟩ (.int .i64 f4)) (g) 46 #[.int .i64 f3, .int .i64 f4] := (blk_set2 (show Blk w21 (g) 46 #[.int .i64 f1, .int .i64 f2] from (HH21.out (g, 46, [.int .i64 f1, .int .i64 f2]) (by simp))) (.int .i64 f3) (.int .i64 f4))
    have X1 : Blk (((w21).setCell ⟨g, 0, none⟩ (.int .i64 f3)).setCell ⟨g, 1, none⟩ (.int .i64 f4)) (h) 46 #[.int .i64 e1, .int .i64 e2] := (((show Blk w21 (h) 46 #[.int .i64 e1, .int .i64 e2] from (HH21.out (h, 46, [.int .i64 e1, .int .i64 e2]) (by simp))).far (p := ⟨g, 0, none⟩) (by first | omega | (simp <;> omega)) (.int .i64 f3)).far (p := ⟨g, 1, none⟩) (by first | omega | (simp <;> omega)) (.int .i64 f4))
    have X2 : Blk (((w21).setCell ⟨g, 0, none⟩ (.int .i64 f3)).setCell ⟨g, 1, none⟩ (.int .i64 f4)) (w.heap.size + 1 + 1) 46 #[.int .i64 f3, .int .i64 f4] := (((show Blk w21 (w.heap.size + 1 + 1) 46 #[.int .i64 f3, .int .i64 f4] from (HH21.out (w.heap.size + 1 + 1, 46, [.int .i64 f3, .int .i64 f4]) (by simp))).far (p := ⟨g, 0, none⟩) (by first | omega | (simp <;> omega)) (.int .i64 f3)).far (p := ⟨g, 1, none⟩) (by first | omega | (simp <;> omega)) (.int .i64 f4))
    have X3 : Blk (((w21).setCell ⟨g, 0, none⟩ (.int .i64 f3)).setCell ⟨g, 1, none⟩ (.int .i64 f4)) (w.heap.size + 1 + 1 + 1) 46 #[.int .i64 e3, .int .i64 e4] := (((show Blk w21 (w.heap.size + 1 + 1 + 1) 46 #[.int .i64 e3, .int .i64 e4] from (HH21.out (w.heap.size + 1 + 1 + 1, 46, [.int .i64 e3, .int .i64 e4]) (by simp))).far (p := ⟨g, 0, none⟩) (by first | omega | (simp <;> omega)) (.int .i64 f3)).far (p := ⟨g, 1, none⟩) (by first | omega | (simp <;> omega)) (.int .i64 f4))
    have XB : Below w.heap.size w (((w21).setCell ⟨g, 0, none⟩ (.int .i64 f3)).setCell ⟨g, 1, none⟩ (.int .i64 f4)) := (below_set (below_set HB21.out (by first | omega | (simp <;> omega)) _) (by first | omega | (simp <;> omega)) _)
    clear k21_0_0 f21_0_0 k21_0_1 f21_0_1 z21_0 k21_1_0 f21_1_0 k21_1_1 f21_1_1 z21_1 k21_2_0 f21_2_0 k21_2_1 f21_2_1 z21_2 k21_3_0 f21_3_0 k21_3_1 f21_3_1 z21_3
    clear HH21 HB21
    obtain ⟨w22, hw22⟩ : ∃ w22 : World, w22 = ((w21).setCell ⟨g, 0, none⟩ (.int .i64 f3)).setCell ⟨g, 1, none⟩ (.int .i64 f4) := ⟨_, rfl⟩
    rw [← hw22] at X0 X1 X2 X3 XB ⊢
    clear hw22
    have HH22 : Hid (Blks w22 [(w.heap.size + 1 + 1 + 1, 46, [.int .i64 e3, .int .i64 e4]), (w.heap.size + 1 + 1, 46, [.int .i64 f3, .int .i64 f4]), (h, 46, [.int .i64 e1, .int .i64 e2]), (g, 46, [.int .i64 f3, .int .i64 f4])]) := Lib.hid (by intro p hp; simp only [List.mem_cons, List.not_mem_nil, or_false] at hp; rcases hp with rfl | rfl | rfl | rfl <;> assumption)
    have HB22 := Lib.hid XB
    clear XB X0 X1 X2 X3
    have B22_0 : Blk w22 (g) 46 #[.int .i64 f3, .int .i64 f4] := HH22.out (g, 46, [.int .i64 f3, .int .i64 f4]) (by simp)
    have k22_0_0 : w22.cell? ⟨g, 0, none⟩ = some (.int .i64 f3) := B22_0.cell 0
    have f22_0_0 : w22.frozen? ⟨g, 0, none⟩ = false := B22_0.frozen 0
    have k22_0_1 : w22.cell? ⟨g, 1, none⟩ = some (.int .i64 f4) := B22_0.cell 1
    have f22_0_1 : w22.frozen? ⟨g, 1, none⟩ = false := B22_0.frozen 1
    have z22_0 : g < w22.heap.size := B22_0.lt
    clear B22_0
    have B22_1 : Blk w22 (h) 46 #[.int .i64 e1, .int .i64 e2] := HH22.out (h, 46, [.int .i64 e1, .int .i64 e2]) (by simp)
    have k22_1_0 : w22.cell? ⟨h, 0, none⟩ = some (.int .i64 e1) := B22_1.cell 0
    have f22_1_0 : w22.frozen? ⟨h, 0, none⟩ = false := B22_1.frozen 0
    have k22_1_1 : w22.cell? ⟨h, 1, none⟩ = some (.int .i64 e2) := B22_1.cell 1
    have f22_1_1 : w22.frozen? ⟨h, 1, none⟩ = false := B22_1.frozen 1
    have z22_1 : h < w22.heap.size := B22_1.lt
    clear B22_1
    have B22_2 : Blk w22 (w.heap.size + 1 + 1) 46 #[.int .i64 f3, .int .i64 f4] := HH22.out (w.heap.size + 1 + 1, 46, [.int .i64 f3, .int .i64 f4]) (by simp)
    have k22_2_0 : w22.cell? ⟨w.heap.size + 1 + 1, 0, none⟩ = some (.int .i64 f3) := B22_2.cell 0
    have f22_2_0 : w22.frozen? ⟨w.heap.size + 1 + 1, 0, none⟩ = false := B22_2.frozen 0
    have k22_2_1 : w22.cell? ⟨w.heap.size + 1 + 1, 1, none⟩ = some (.int .i64 f4) := B22_2.cell 1
    have f22_2_1 : w22.frozen? ⟨w.heap.size + 1 + 1, 1, none⟩ = false := B22_2.frozen 1
    have z22_2 : w.heap.size + 1 + 1 < w22.heap.size := B22_2.lt
    clear B22_2
    have B22_3 : Blk w22 (w.heap.size + 1 + 1 + 1) 46 #[.int .i64 e3, .int .i64 e4] := HH22.out (w.heap.size + 1 + 1 + 1, 46, [.int .i64 e3, .int .i64 e4]) (by simp)
    have k22_3_0 : w22.cell? ⟨w.heap.size + 1 + 1 + 1, 0, none⟩ = some (.int .i64 e3) := B22_3.cell 0
    have f22_3_0 : w22.frozen? ⟨w.heap.size + 1 + 1 + 1, 0, none⟩ = false := B22_3.frozen 0
    have k22_3_1 : w22.cell? ⟨w.heap.size + 1 + 1 + 1, 1, none⟩ = some (.int .i64 e4) := B22_3.cell 1
    have f22_3_1 : w22.frozen? ⟨w.heap.size + 1 + 1 + 1, 1, none⟩ = false := B22_3.frozen 1
    have z22_3 : w.heap.size + 1 + 1 + 1 < w22.heap.size := B22_3.lt
    clear B22_3
    go_wp2_with fail
    refine (k2.out _).mono ?_
    rintro e w23 ⟨rfl, hb23⟩
    have HH23 := Lib.hid ((HH22.out).below hb23)
    have HB23 := Lib.hid (below_trans (HB22.out) hb23)
    clear k22_0_0 f22_0_0 k22_0_1 f22_0_1 z22_0 k22_1_0 f22_1_0 k22_1_1 f22_1_1 z22_1 k22_2_0 f22_2_0 k22_2_1 f22_2_1 z22_2 k22_3_0 f22_3_0 k22_3_1 f22_3_1 z22_3
    clear hb23
    clear HH22 HB22
    have B23_0 : Blk w23 (g) 46 #[.int .i64 f3, .int .i64 f4] := HH23.out (g, 46, [.int .i64 f3, .int .i64 f4]) (by simp)
    have k23_0_0 : w23.cell? ⟨g, 0, none⟩ = some (.int .i64 f3) := B23_0.cell 0
    have f23_0_0 : w23.frozen? ⟨g, 0, none⟩ = false := B23_0.frozen 0
    have k23_0_1 : w23.cell? ⟨g, 1, none⟩ = some (.int .i64 f4) := B23_0.cell 1
    have f23_0_1 : w23.frozen? ⟨g, 1, none⟩ = false := B23_0.frozen 1
    have z23_0 : g < w23.heap.size := B23_0.lt
    clear B23_0
    have B23_1 : Blk w23 (h) 46 #[.int .i64 e1, .int .i64 e2] := HH23.out (h, 46, [.int .i64 e1, .int .i64 e2]) (by simp)
    have k23_1_0 : w23.cell? ⟨h, 0, none⟩ = some (.int .i64 e1) := B23_1.cell 0
    have f23_1_0 : w23.frozen? ⟨h, 0, none⟩ = false := B23_1.frozen 0
    have k23_1_1 : w23.cell? ⟨h, 1, none⟩ = some (.int .i64 e2) := B23_1.cell 1
    have f23_1_1 : w23.frozen? ⟨h, 1, none⟩ = false := B23_1.frozen 1
    have z23_1 : h < w23.heap.size := B23_1.lt
    clear B23_1
    have B23_2 : Blk w23 (w.heap.size + 1 + 1) 46 #[.int .i64 f3, .int .i64 f4] := HH23.out (w.heap.size + 1 + 1, 46, [.int .i64 f3, .int .i64 f4]) (by simp)
    have k23_2_0 : w23.cell? ⟨w.heap.size + 1 + 1, 0, none⟩ = some (.int .i64 f3) := B23_2.cell 0
    have f23_2_0 : w23.frozen? ⟨w.heap.size + 1 + 1, 0, none⟩ = false := B23_2.frozen 0
    have k23_2_1 : w23.cell? ⟨w.heap.size + 1 + 1, 1, none⟩ = some (.int .i64 f4) := B23_2.cell 1
    have f23_2_1 : w23.frozen? ⟨w.heap.size + 1 + 1, 1, none⟩ = false := B23_2.frozen 1
    have z23_2 : w.heap.size + 1 + 1 < w23.heap.size := B23_2.lt
    clear B23_2
    have B23_3 : Blk w23 (w.heap.size + 1 + 1 + 1) 46 #[.int .i64 e3, .int .i64 e4] := HH23.out (w.heap.size + 1 + 1 + 1, 46, [.int .i64 e3, .int .i64 e4]) (by simp)
    have k23_3_0 : w23.cell? ⟨w.heap.size + 1 + 1 + 1, 0, none⟩ = some (.int .i64 e3) := B23_3.cell 0
    have f23_3_0 : w23.frozen? ⟨w.heap.size + 1 + 1 + 1, 0, none⟩ = false := B23_3.frozen 0
    have k23_3_1 : w23.cell? ⟨w.heap.size + 1 + 1 + 1, 1, none⟩ = some (.int .i64 e4) := B23_3.cell 1
    have f23_3_1 : w23.frozen? ⟨w.heap.size + 1 + 1 + 1, 1, none⟩ = false := B23_3.frozen 1
    have z23_3 : w.heap.size + 1 + 1 + 1 < w23.heap.size := B23_3.lt
    clear B23_3
    go_upto_region 13 with fail
    have X0 : Blk (((w23).setCell ⟨h, 0, none⟩ (.int .i64 e3)).setCell ⟨h, 1, none⟩ (.int .i64 e4)) (g) 46 #[.int .i64 f3, .int .i64 f4] := (((show Blk w23 (g) 46 #[.int .i64 f3, .int .i64 f4] from (HH23.out (g, 46, [.int .i64 f3, .int .i64 f4]) (by simp))).far (p := ⟨h, 0, none⟩) (by first | omega | (simp <;> omega)) (.int .i64 e3)).far (p := ⟨h, 1, none⟩) (by first | omega | (simp <;> omega)) (.int .i64 e4))
    have X1 : Blk (((w23).setCell ⟨h, 0, none⟩ (.int .i64 e3)).setCell ⟨h, 1, none⟩ (.int .i64 e4)) (h) 46 #[.int .i64 e3, .int .i64 e4] := (blk_set2 (show Blk w23 (h) 46 #[.int .i64 e1, .int .i64 e2] from (HH23.out (h, 46, [.int .i64 e1, .int .i64 e2]) (by simp))) (.int .i64 e3) (.int .i64 e4))
    have X2 : Blk (((w23).setCell ⟨h, 0, none⟩ (.int .i64 e3)).setCell ⟨h, 1, none⟩ (.int .i64 e4)) (w.heap.size + 1 + 1) 46 #[.int .i64 f3, .int .i64 f4] := (((show Blk w23 (w.heap.size + 1 + 1) 46 #[.int .i64 f3, .int .i64 f4] from (HH23.out (w.heap.size + 1 + 1, 46, [.int .i64 f3, .int .i64 f4]) (by simp))).far (p := ⟨h, 0, none⟩) (by first | omega | (simp <;> omega)) (.int .i64 e3)).far (p := ⟨h, 1, none⟩) (by first | omega | (simp <;> omega)) (.int .i64 e4))
    have X3 : Blk (((w23).setCell ⟨h, 0, none⟩ (.int .i64 e3)).setCell ⟨h, 1, none⟩ (.int .i64 e4)) (w.heap.size + 1 + 1 + 1) 46 #[.int .i64 e3, .int .i64 e4] := (((show Blk w23 (w.heap.size + 1 + 1 + 1) 46 #[.int .i64 e3, .int .i64 e4] from (HH23.out (w.heap.size + 1 + 1 + 1, 46, [.int .i64 e3, .int .i64 e4]) (by simp))).far (p := ⟨h, 0, none⟩) (by first | omega | (simp <;> omega)) (.int .i64 e3)).far (p := ⟨h, 1, none⟩) (by first | omega | (simp <;> omega)) (.int .i64 e4))
    have XB : Below w.heap.size w (((w23).setCell ⟨h, 0, none⟩ (.int .i64 e3)).setCell ⟨h, 1, none⟩ (.int .i64 e4)) := (below_set (below_set HB23.out (by first | omega | (simp <;> omega)) _) (by first | omega | (simp <;> omega)) _)
    clear k23_0_0 f23_0_0 k23_0_1 f23_0_1 z23_0 k23_1_0 f23_1_0 k23_1_1 f23_1_1 z23_1 k23_2_0 f23_2_0 k23_2_1 f23_2_1 z23_2 k23_3_0 f23_3_0 k23_3_1 f23_3_1 z23_3
    clear HH23 HB23
    obtain ⟨w24, hw24⟩ : ∃ w24 : World, w24 = ((w23).setCell ⟨h, 0, none⟩ (.int .i64 e3)).setCell ⟨h, 1, none⟩ (.int .i64 e4) := ⟨_, rfl⟩
    rw [← hw24] at X0 X1 X2 X3 XB ⊢
    clear hw24
    have HH24 : Hid (Blks w24 [(w.heap.size + 1 + 1 + 1, 46, [.int .i64 e3, .int .i64 e4]), (w.heap.size + 1 + 1, 46, [.int .i64 f3, .int .i64 f4]), (h, 46, [.int .i64 e3, .int .i64 e4]), (g, 46, [.int .i64 f3, .int .i64 f4])]) := Lib.hid (by intro p hp; simp only [List.mem_cons, List.not_mem_nil, or_false] at hp; rcases hp with rfl | rfl | rfl | rfl <;> assumption)
    have HB24 := Lib.hid XB
    clear XB X0 X1 X2 X3
    have B24_0 : Blk w24 (g) 46 #[.int .i64 f3, .int .i64 f4] := HH24.out (g, 46, [.int .i64 f3, .int .i64 f4]) (by simp)
    have k24_0_0 : w24.cell? ⟨g, 0, none⟩ = some (.int .i64 f3) := B24_0.cell 0
    have f24_0_0 : w24.frozen? ⟨g, 0, none⟩ = false := B24_0.frozen 0
    have k24_0_1 : w24.cell? ⟨g, 1, none⟩ = some (.int .i64 f4) := B24_0.cell 1
    have f24_0_1 : w24.frozen? ⟨g, 1, none⟩ = false := B24_0.frozen 1
    have z24_0 : g < w24.heap.size := B24_0.lt
    clear B24_0
    have B24_1 : Blk w24 (h) 46 #[.int .i64 e3, .int .i64 e4] := HH24.out (h, 46, [.int .i64 e3, .int .i64 e4]) (by simp)
    have k24_1_0 : w24.cell? ⟨h, 0, none⟩ = some (.int .i64 e3) := B24_1.cell 0
    have f24_1_0 : w24.frozen? ⟨h, 0, none⟩ = false := B24_1.frozen 0
    have k24_1_1 : w24.cell? ⟨h, 1, none⟩ = some (.int .i64 e4) := B24_1.cell 1
    have f24_1_1 : w24.frozen? ⟨h, 1, none⟩ = false := B24_1.frozen 1
    have z24_1 : h < w24.heap.size := B24_1.lt
    clear B24_1
    have B24_2 : Blk w24 (w.heap.size + 1 + 1) 46 #[.int .i64 f3, .int .i64 f4] := HH24.out (w.heap.size + 1 + 1, 46, [.int .i64 f3, .int .i64 f4]) (by simp)
    have k24_2_0 : w24.cell? ⟨w.heap.size + 1 + 1, 0, none⟩ = some (.int .i64 f3) := B24_2.cell 0
    have f24_2_0 : w24.frozen? ⟨w.heap.size + 1 + 1, 0, none⟩ = false := B24_2.frozen 0
    have k24_2_1 : w24.cell? ⟨w.heap.size + 1 + 1, 1, none⟩ = some (.int .i64 f4) := B24_2.cell 1
    have f24_2_1 : w24.frozen? ⟨w.heap.size + 1 + 1, 1, none⟩ = false := B24_2.frozen 1
    have z24_2 : w.heap.size + 1 + 1 < w24.heap.size := B24_2.lt
    clear B24_2
    have B24_3 : Blk w24 (w.heap.size + 1 + 1 + 1) 46 #[.int .i64 e3, .int .i64 e4] := HH24.out (w.heap.size + 1 + 1 + 1, 46, [.int .i64 e3, .int .i64 e4]) (by simp)
    have k24_3_0 : w24.cell? ⟨w.heap.size + 1 + 1 + 1, 0, none⟩ = some (.int .i64 e3) := B24_3.cell 0
    have f24_3_0 : w24.frozen? ⟨w.heap.size + 1 + 1 + 1, 0, none⟩ = false := B24_3.frozen 0
    have k24_3_1 : w24.cell? ⟨w.heap.size + 1 + 1 + 1, 1, none⟩ = some (.int .i64 e4) := B24_3.cell 1
    have f24_3_1 : w24.frozen? ⟨w.heap.size + 1 + 1 + 1, 1, none⟩ = false := B24_3.frozen 1
    have z24_3 : w.heap.size + 1 + 1 + 1 < w24.heap.size := B24_3.lt
    clear B24_3
    go_wp2_with fail
    refine (k3.out _).mono ?_
    rintro e w25 ⟨rfl, hb25⟩
    have HH25 := Lib.hid ((HH24.out).below hb25)
    have HB25 := Lib.hid (below_trans (HB24.out) hb25)
    clear k24_0_0 f24_0_0 k24_0_1 f24_0_1 z24_0 k24_1_0 f24_1_0 k24_1_1 f24_1_1 z24_1 k24_2_0 f24_2_0 k24_2_1 f24_2_1 z24_2 k24_3_0 f24_3_0 k24_3_1 f24_3_1 z24_3
    clear hb25
    clear HH24 HB24
    have B25_0 : Blk w25 (g) 46 #[.int .i64 f3, .int .i64 f4] := HH25.out (g, 46, [.int .i64 f3, .int .i64 f4]) (by simp)
    have k25_0_0 : w25.cell? ⟨g, 0, none⟩ = some (.int .i64 f3) := B25_0.cell 0
    have k25_0_1 : w25.cell? ⟨g, 1, none⟩ = some (.int .i64 f4) := B25_0.cell 1
    have z25_0 : g < w25.heap.size := B25_0.lt
    clear B25_0
    have B25_1 : Blk w25 (h) 46 #[.int .i64 e3, .int .i64 e4] := HH25.out (h, 46, [.int .i64 e3, .int .i64 e4]) (by simp)
    have k25_1_0 : w25.cell? ⟨h, 0, none⟩ = some (.int .i64 e3) := B25_1.cell 0
    have k25_1_1 : w25.cell? ⟨h, 1, none⟩ = some (.int .i64 e4) := B25_1.cell 1
    have z25_1 : h < w25.heap.size := B25_1.lt
    clear B25_1
    have B25_2 : Blk w25 (w.heap.size + 1 + 1) 46 #[.int .i64 f3, .int .i64 f4] := HH25.out (w.heap.size + 1 + 1, 46, [.int .i64 f3, .int .i64 f4]) (by simp)
    have k25_2_0 : w25.cell? ⟨w.heap.size + 1 + 1, 0, none⟩ = some (.int .i64 f3) := B25_2.cell 0
    have k25_2_1 : w25.cell? ⟨w.heap.size + 1 + 1, 1, none⟩ = some (.int .i64 f4) := B25_2.cell 1
    have z25_2 : w.heap.size + 1 + 1 < w25.heap.size := B25_2.lt
    clear B25_2
    have B25_3 : Blk w25 (w.heap.size + 1 + 1 + 1) 46 #[.int .i64 e3, .int .i64 e4] := HH25.out (w.heap.size + 1 + 1 + 1, 46, [.int .i64 e3, .int .i64 e4]) (by simp)
    have k25_3_0 : w25.cell? ⟨w.heap.size + 1 + 1 + 1, 0, none⟩ = some (.int .i64 e3) := B25_3.cell 0
    have k25_3_1 : w25.cell? ⟨w.heap.size + 1 + 1 + 1, 1, none⟩ = some (.int .i64 e4) := B25_3.cell 1
    have z25_3 : w.heap.size + 1 + 1 + 1 < w25.heap.size := B25_3.lt
    clear B25_3
    have HBz := HB25.out
    rcases h3 : bef f3 f4 e3 e4 with _ | _
    · by_cases he : f3 = e3 ∧ f4 = e4
      · have HV := Lib.hid (show v = 1 by rw [HV.out, h3, if_neg (by simp), if_pos he])
        have q3 := fun W => pt_eq_eql he W
        clear he
        go_wp2
        go_returns
        exact ⟨ret_int HV.out.symm, HBz⟩
      · have HV := Lib.hid (show v = 0 by rw [HV.out, h3, if_neg (by simp), if_neg he])
        have q3 := fun W => pt_diff_eql he W
        clear he
        go_wp2
        go_returns
        exact ⟨ret_int HV.out.symm, HBz⟩
    · have HV := Lib.hid (show v = 2 by rw [HV.out, h3, if_pos rfl])
      go_wp2
      go_returns
      exact ⟨ret_int HV.out.symm, HBz⟩
set_option maxRecDepth 100000 in
set_option maxHeartbeats 6400000 in
theorem rmeet_3ayn (ax ay bx bY cx cy dx dy v : Int) (h1 : in2 ax ay = true) (h2 : in2 bx bY = true) (h3 : in2 cx cy = true) (h4 : in2 dx dy = true) (hab : ¬ (ax = bx ∧ ay = bY)) (hcd : ¬ (cx = dx ∧ cy = dy)) (ht1 : turnI ax ay bx bY cx cy = 0) (ht2 : turnI ax ay bx bY dx dy = 0) (hb1 : bef (fst2 ax ay bx bY).1 (fst2 ax ay bx bY).2 (fst2 cx cy dx dy).1 (fst2 cx cy dx dy).2 = true) (hb2 : bef (lst2 cx cy dx dy).1 (lst2 cx cy dx dy).2 (lst2 ax ay bx bY).1 (lst2 ax ay bx bY).2 = false) (hv : v = if bef (fst2 cx cy dx dy).1 (fst2 cx cy dx dy).2 (lst2 ax ay bx bY).1 (lst2 ax ay bx bY).2 = true then 2 else if (fst2 cx cy dx dy).1 = (lst2 ax ay bx bY).1 ∧ (fst2 cx cy dx dy).2 = (lst2 ax ay bx bY).2 then 1 else 0) (w : World) : Calls Try.prog 35 #[.agg #[.int .i64 ax, .int .i64 ay], .agg #[.int .i64 bx, .int .i64 bY], .agg #[.int .i64 cx, .int .i64 cy], .agg #[.int .i64 dx, .int .i64 dy]] w fun e w' => e = .returned (.int .i64 v) ∧ Below w.heap.size w w' := by
  have gd := fun x y xs ys W => pt_guard .eql x y xs ys W
  have q1 := fun W => pt_diff_eql hab W
  have q2 := fun W => pt_diff_eql hcd W
  have c1 := Lib.hid fun W => rturn_any ax ay bx bY cx cy h1 h2 h3 W
  have c2 := Lib.hid fun W => rturn_any ax ay bx bY dx dy h1 h2 h4 W
  rw [ht1] at c1
  rw [ht2] at c2
  have s1 := Lib.hid fun W => sorted_any ax ay bx bY W
  have s2 := Lib.hid fun W => sorted_any cx cy dx dy W
  clear h1 h2 h3 h4 hab hcd ht1 ht2
  generalize (fst2 ax ay bx bY).1 = f1 at *
  generalize (fst2 ax ay bx bY).2 = f2 at *
  generalize (lst2 ax ay bx bY).1 = e1 at *
  generalize (lst2 ax ay bx bY).2 = e2 at *
  generalize (fst2 cx cy dx dy).1 = f3 at *
  generalize (fst2 cx cy dx dy).2 = f4 at *
  generalize (lst2 cx cy dx dy).1 = e3 at *
  generalize (lst2 cx cy dx dy).2 = e4 at *
  have k1 := Lib.hid fun W => before_any f1 f2 f3 f4 W
  have k2 := Lib.hid fun W => before_any e3 e4 e1 e2 W
  have k3 := Lib.hid fun W => before_any f3 f4 e1 e2 W
  rw [hb1] at k1
  rw [hb2] at k2
  have HV := Lib.hid hv
  clear hb1 hb2 hv
  go_enter Try.func35, Try.ntmps35
  go_wp2_with fail
  refine (c1.out _).mono ?_
  rintro e w1 ⟨rfl, hb1⟩
  have HH1 := Lib.hid (((((((Blks.nil (w := w))).new (w.heap.size) 46 [.int .i64 ax, .int .i64 ay] rfl).new (w.heap.size + 1) 46 [.int .i64 bx, .int .i64 bY] (by simp)).new (w.heap.size + 1 + 1) 46 [.int .i64 cx, .int .i64 cy] (by simp)).new (w.heap.size + 1 + 1 + 1) 46 [.int .i64 dx, .int .i64 dy] (by simp)).below hb1)
  have HB1 := Lib.hid (below_trans (below_alloc (below_alloc (below_alloc (below_alloc (Below.refl _ _) _) _) _) _) hb1)
  clear hb1
  have B1_0 : Blk w1 (w.heap.size) 46 #[.int .i64 ax, .int .i64 ay] := HH1.out (w.heap.size, 46, [.int .i64 ax, .int .i64 ay]) (by simp)
  have k1_0_0 : w1.cell? ⟨w.heap.size, 0, none⟩ = some (.int .i64 ax) := B1_0.cell 0
  have k1_0_1 : w1.cell? ⟨w.heap.size, 1, none⟩ = some (.int .i64 ay) := B1_0.cell 1
  have z1_0 : w.heap.size < w1.heap.size := B1_0.lt
  clear B1_0
  have B1_1 : Blk w1 (w.heap.size + 1) 46 #[.int .i64 bx, .int .i64 bY] := HH1.out (w.heap.size + 1, 46, [.int .i64 bx, .int .i64 bY]) (by simp)
  have k1_1_0 : w1.cell? ⟨w.heap.size + 1, 0, none⟩ = some (.int .i64 bx) := B1_1.cell 0
  have k1_1_1 : w1.cell? ⟨w.heap.size + 1, 1, none⟩ = some (.int .i64 bY) := B1_1.cell 1
  have z1_1 : w.heap.size + 1 < w1.heap.size := B1_1.lt
  clear B1_1
  have B1_2 : Blk w1 (w.heap.size + 1 + 1) 46 #[.int .i64 cx, .int .i64 cy] := HH1.out (w.heap.size + 1 + 1, 46, [.int .i64 cx, .int .i64 cy]) (by simp)
  have k1_2_0 : w1.cell? ⟨w.heap.size + 1 + 1, 0, none⟩ = some (.int .i64 cx) := B1_2.cell 0
  have k1_2_1 : w1.cell? ⟨w.heap.size + 1 + 1, 1, none⟩ = some (.int .i64 cy) := B1_2.cell 1
  have z1_2 : w.heap.size + 1 + 1 < w1.heap.size := B1_2.lt
  clear B1_2
  have B1_3 : Blk w1 (w.heap.size + 1 + 1 + 1) 46 #[.int .i64 dx, .int .i64 dy] := HH1.out (w.heap.size + 1 + 1 + 1, 46, [.int .i64 dx, .int .i64 dy]) (by simp)
  have k1_3_0 : w1.cell? ⟨w.heap.size + 1 + 1 + 1, 0, none⟩ = some (.int .i64 dx) := B1_3.cell 0
  have k1_3_1 : w1.cell? ⟨w.heap.size + 1 + 1 + 1, 1, none⟩ = some (.int .i64 dy) := B1_3.cell 1
  have z1_3 : w.heap.size + 1 + 1 + 1 < w1.heap.size := B1_3.lt
  clear B1_3
  go_wp2_with fail
  refine (c2.out _).mono ?_
  rintro e w2 ⟨rfl, hb2⟩
  have HH2 := Lib.hid ((HH1.out).below hb2)
  have HB2 := Lib.hid (below_trans (HB1.out) hb2)
  clear k1_0_0 k1_0_1 z1_0 k1_1_0 k1_1_1 z1_1 k1_2_0 k1_2_1 z1_2 k1_3_0 k1_3_1 z1_3
  clear hb2
  clear HH1 HB1
  have B2_0 : Blk w2 (w.heap.size) 46 #[.int .i64 ax, .int .i64 ay] := HH2.out (w.heap.size, 46, [.int .i64 ax, .int .i64 ay]) (by simp)
  have k2_0_0 : w2.cell? ⟨w.heap.size, 0, none⟩ = some (.int .i64 ax) := B2_0.cell 0
  have k2_0_1 : w2.cell? ⟨w.heap.size, 1, none⟩ = some (.int .i64 ay) := B2_0.cell 1
  have z2_0 : w.heap.size < w2.heap.size := B2_0.lt
  clear B2_0
  have B2_1 : Blk w2 (w.heap.size + 1) 46 #[.int .i64 bx, .int .i64 bY] := HH2.out (w.heap.size + 1, 46, [.int .i64 bx, .int .i64 bY]) (by simp)
  have k2_1_0 : w2.cell? ⟨w.heap.size + 1, 0, none⟩ = some (.int .i64 bx) := B2_1.cell 0
  have k2_1_1 : w2.cell? ⟨w.heap.size + 1, 1, none⟩ = some (.int .i64 bY) := B2_1.cell 1
  have z2_1 : w.heap.size + 1 < w2.heap.size := B2_1.lt
  clear B2_1
  have B2_2 : Blk w2 (w.heap.size + 1 + 1) 46 #[.int .i64 cx, .int .i64 cy] := HH2.out (w.heap.size + 1 + 1, 46, [.int .i64 cx, .int .i64 cy]) (by simp)
  have k2_2_0 : w2.cell? ⟨w.heap.size + 1 + 1, 0, none⟩ = some (.int .i64 cx) := B2_2.cell 0
  have k2_2_1 : w2.cell? ⟨w.heap.size + 1 + 1, 1, none⟩ = some (.int .i64 cy) := B2_2.cell 1
  have z2_2 : w.heap.size + 1 + 1 < w2.heap.size := B2_2.lt
  clear B2_2
  have B2_3 : Blk w2 (w.heap.size + 1 + 1 + 1) 46 #[.int .i64 dx, .int .i64 dy] := HH2.out (w.heap.size + 1 + 1 + 1, 46, [.int .i64 dx, .int .i64 dy]) (by simp)
  have k2_3_0 : w2.cell? ⟨w.heap.size + 1 + 1 + 1, 0, none⟩ = some (.int .i64 dx) := B2_3.cell 0
  have k2_3_1 : w2.cell? ⟨w.heap.size + 1 + 1 + 1, 1, none⟩ = some (.int .i64 dy) := B2_3.cell 1
  have z2_3 : w.heap.size + 1 + 1 + 1 < w2.heap.size := B2_3.lt
  clear B2_3
  go_wp2_with fail
  refine (s1.out _).mono ?_
  rintro e w3 ⟨rfl, hb3⟩
  have HH3 := Lib.hid ((HH2.out).below hb3)
  have HB3 := Lib.hid (below_trans (HB2.out) hb3)
  clear k2_0_0 k2_0_1 z2_0 k2_1_0 k2_1_1 z2_1 k2_2_0 k2_2_1 z2_2 k2_3_0 k2_3_1 z2_3
  clear hb3
  clear HH2 HB2
  have B3_0 : Blk w3 (w.heap.size) 46 #[.int .i64 ax, .int .i64 ay] := HH3.out (w.heap.size, 46, [.int .i64 ax, .int .i64 ay]) (by simp)
  have k3_0_0 : w3.cell? ⟨w.heap.size, 0, none⟩ = some (.int .i64 ax) := B3_0.cell 0
  have f3_0_0 : w3.frozen? ⟨w.heap.size, 0, none⟩ = false := B3_0.frozen 0
  have k3_0_1 : w3.cell? ⟨w.heap.size, 1, none⟩ = some (.int .i64 ay) := B3_0.cell 1
  have f3_0_1 : w3.frozen? ⟨w.heap.size, 1, none⟩ = false := B3_0.frozen 1
  have z3_0 : w.heap.size < w3.heap.size := B3_0.lt
  clear B3_0
  have B3_1 : Blk w3 (w.heap.size + 1) 46 #[.int .i64 bx, .int .i64 bY] := HH3.out (w.heap.size + 1, 46, [.int .i64 bx, .int .i64 bY]) (by simp)
  have k3_1_0 : w3.cell? ⟨w.heap.size + 1, 0, none⟩ = some (.int .i64 bx) := B3_1.cell 0
  have f3_1_0 : w3.frozen? ⟨w.heap.size + 1, 0, none⟩ = false := B3_1.frozen 0
  have k3_1_1 : w3.cell? ⟨w.heap.size + 1, 1, none⟩ = some (.int .i64 bY) := B3_1.cell 1
  have f3_1_1 : w3.frozen? ⟨w.heap.size + 1, 1, none⟩ = false := B3_1.frozen 1
  have z3_1 : w.heap.size + 1 < w3.heap.size := B3_1.lt
  clear B3_1
  have B3_2 : Blk w3 (w.heap.size + 1 + 1) 46 #[.int .i64 cx, .int .i64 cy] := HH3.out (w.heap.size + 1 + 1, 46, [.int .i64 cx, .int .i64 cy]) (by simp)
  have k3_2_0 : w3.cell? ⟨w.heap.size + 1 + 1, 0, none⟩ = some (.int .i64 cx) := B3_2.cell 0
  have f3_2_0 : w3.frozen? ⟨w.heap.size + 1 + 1, 0, none⟩ = false := B3_2.frozen 0
  have k3_2_1 : w3.cell? ⟨w.heap.size + 1 + 1, 1, none⟩ = some (.int .i64 cy) := B3_2.cell 1
  have f3_2_1 : w3.frozen? ⟨w.heap.size + 1 + 1, 1, none⟩ = false := B3_2.frozen 1
  have z3_2 : w.heap.size + 1 + 1 < w3.heap.size := B3_2.lt
  clear B3_2
  have B3_3 : Blk w3 (w.heap.size + 1 + 1 + 1) 46 #[.int .i64 dx, .int .i64 dy] := HH3.out (w.heap.size + 1 + 1 + 1, 46, [.int .i64 dx, .int .i64 dy]) (by simp)
  have k3_3_0 : w3.cell? ⟨w.heap.size + 1 + 1 + 1, 0, none⟩ = some (.int .i64 dx) := B3_3.cell 0
  have f3_3_0 : w3.frozen? ⟨w.heap.size + 1 + 1 + 1, 0, none⟩ = false := B3_3.frozen 0
  have k3_3_1 : w3.cell? ⟨w.heap.size + 1 + 1 + 1, 1, none⟩ = some (.int .i64 dy) := B3_3.cell 1
  have f3_3_1 : w3.frozen? ⟨w.heap.size + 1 + 1 + 1, 1, none⟩ = false := B3_3.frozen 1
  have z3_3 : w.heap.size + 1 + 1 + 1 < w3.heap.size := B3_3.lt
  clear B3_3
  go_upto_region 7 with fail
  have X0 : Blk (((((w3).setCell ⟨w.heap.size, 0, none⟩ (.int .i64 f1)).setCell ⟨w.heap.size, 1, none⟩ (.int .i64 f2)).setCell ⟨w.heap.size + 1, 0, none⟩ (.int .i64 e1)).setCell ⟨w.heap.size + 1, 1, none⟩ (.int .i64 e2)) (w.heap.size) 46 #[.int .i64 f1, .int .i64 f2] := (((blk_set2 (show Blk w3 (w.heap.size) 46 #[.int .i64 ax, .int .i64 ay] from (HH3.out (w.heap.size, 46, [.int .i64 ax, .int .i64 ay]) (by simp))) (.int .i64 f1) (.int .i64 f2)).far (p := ⟨w.heap.size + 1, 0, none⟩) (by first | omega | (simp <;> omega)) (.int .i64 e1)).far (p := ⟨w.heap.size + 1, 1, none⟩) (by first | omega | (simp <;> omega)) (.int .i64 e2))
  have X1 : Blk (((((w3).setCell ⟨w.heap.size, 0, none⟩ (.int .i64 f1)).setCell ⟨w.heap.size, 1, none⟩ (.int .i64 f2)).setCell ⟨w.heap.size + 1, 0, none⟩ (.int .i64 e1)).setCell ⟨w.heap.size + 1, 1, none⟩ (.int .i64 e2)) (w.heap.size + 1) 46 #[.int .i64 e1, .int .i64 e2] := (blk_set2 (((show Blk w3 (w.heap.size + 1) 46 #[.int .i64 bx, .int .i64 bY] from (HH3.out (w.heap.size + 1, 46, [.int .i64 bx, .int .i64 bY]) (by simp))).far (p := ⟨w.heap.size, 0, none⟩) (by first | omega | (simp <;> omega)) (.int .i64 f1)).far (p := ⟨w.heap.size, 1, none⟩) (by first | omega | (simp <;> omega)) (.int .i64 f2)) (.int .i64 e1) (.int .i64 e2))
  have X2 : Blk (((((w3).setCell ⟨w.heap.size, 0, none⟩ (.int .i64 f1)).setCell ⟨w.heap.size, 1, none⟩ (.int .i64 f2)).setCell ⟨w.heap.size + 1, 0, none⟩ (.int .i64 e1)).setCell ⟨w.heap.size + 1, 1, none⟩ (.int .i64 e2)) (w.heap.size + 1 + 1) 46 #[.int .i64 cx, .int .i64 cy] := (((((show Blk w3 (w.heap.size + 1 + 1) 46 #[.int .i64 cx, .int .i64 cy] from (HH3.out (w.heap.size + 1 + 1, 46, [.int .i64 cx, .int .i64 cy]) (by simp))).far (p := ⟨w.heap.size, 0, none⟩) (by first | omega | (simp <;> omega)) (.int .i64 f1)).far (p := ⟨w.heap.size, 1, none⟩) (by first | omega | (simp <;> omega)) (.int .i64 f2)).far (p := ⟨w.heap.size + 1, 0, none⟩) (by first | omega | (simp <;> omega)) (.int .i64 e1)).far (p := ⟨w.heap.size + 1, 1, none⟩) (by first | omega | (simp <;> omega)) (.int .i64 e2))
  have X3 : Blk (((((w3).setCell ⟨w.heap.size, 0, none⟩ (.int .i64 f1)).setCell ⟨w.heap.size, 1, none⟩ (.int .i64 f2)).setCell ⟨w.heap.size + 1, 0, none⟩ (.int .i64 e1)).setCell ⟨w.heap.size + 1, 1, none⟩ (.int .i64 e2)) (w.heap.size + 1 + 1 + 1) 46 #[.int .i64 dx, .int .i64 dy] := (((((show Blk w3 (w.heap.size + 1 + 1 + 1) 46 #[.int .i64 dx, .int .i64 dy] from (HH3.out (w.heap.size + 1 + 1 + 1, 46, [.int .i64 dx, .int .i64 dy]) (by simp))).far (p := ⟨w.heap.size, 0, none⟩) (by first | omega | (simp <;> omega)) (.int .i64 f1)).far (p := ⟨w.heap.size, 1, none⟩) (by first | omega | (simp <;> omega)) (.int .i64 f2)).far (p := ⟨w.heap.size + 1, 0, none⟩) (by first | omega | (simp <;> omega)) (.int .i64 e1)).far (p := ⟨w.heap.size + 1, 1, none⟩) (by first | omega | (simp <;> omega)) (.int .i64 e2))
  have XB : Below w.heap.size w (((((w3).setCell ⟨w.heap.size, 0, none⟩ (.int .i64 f1)).setCell ⟨w.heap.size, 1, none⟩ (.int .i64 f2)).setCell ⟨w.heap.size + 1, 0, none⟩ (.int .i64 e1)).setCell ⟨w.heap.size + 1, 1, none⟩ (.int .i64 e2)) := (below_set (below_set (below_set (below_set HB3.out (by first | omega | (simp <;> omega)) _) (by first | omega | (simp <;> omega)) _) (by first | omega | (simp <;> omega)) _) (by first | omega | (simp <;> omega)) _)
  clear k3_0_0 f3_0_0 k3_0_1 f3_0_1 z3_0 k3_1_0 f3_1_0 k3_1_1 f3_1_1 z3_1 k3_2_0 f3_2_0 k3_2_1 f3_2_1 z3_2 k3_3_0 f3_3_0 k3_3_1 f3_3_1 z3_3
  clear HH3 HB3
  obtain ⟨w4, hw4⟩ : ∃ w4 : World, w4 = ((((w3).setCell ⟨w.heap.size, 0, none⟩ (.int .i64 f1)).setCell ⟨w.heap.size, 1, none⟩ (.int .i64 f2)).setCell ⟨w.heap.size + 1, 0, none⟩ (.int .i64 e1)).setCell ⟨w.heap.size + 1, 1, none⟩ (.int .i64 e2) := ⟨_, rfl⟩
  rw [← hw4] at X0 X1 X2 X3 XB ⊢
  clear hw4
  have HH4 : Hid (Blks w4 [(w.heap.size + 1 + 1 + 1, 46, [.int .i64 dx, .int .i64 dy]), (w.heap.size + 1 + 1, 46, [.int .i64 cx, .int .i64 cy]), (w.heap.size + 1, 46, [.int .i64 e1, .int .i64 e2]), (w.heap.size, 46, [.int .i64 f1, .int .i64 f2])]) := Lib.hid (by intro p hp; simp only [List.mem_cons, List.not_mem_nil, or_false] at hp; rcases hp with rfl | rfl | rfl | rfl <;> assumption)
  have HB4 := Lib.hid XB
  clear XB X0 X1 X2 X3
  have B4_0 : Blk w4 (w.heap.size) 46 #[.int .i64 f1, .int .i64 f2] := HH4.out (w.heap.size, 46, [.int .i64 f1, .int .i64 f2]) (by simp)
  have k4_0_0 : w4.cell? ⟨w.heap.size, 0, none⟩ = some (.int .i64 f1) := B4_0.cell 0
  have f4_0_0 : w4.frozen? ⟨w.heap.size, 0, none⟩ = false := B4_0.frozen 0
  have k4_0_1 : w4.cell? ⟨w.heap.size, 1, none⟩ = some (.int .i64 f2) := B4_0.cell 1
  have f4_0_1 : w4.frozen? ⟨w.heap.size, 1, none⟩ = false := B4_0.frozen 1
  have z4_0 : w.heap.size < w4.heap.size := B4_0.lt
  clear B4_0
  have B4_1 : Blk w4 (w.heap.size + 1) 46 #[.int .i64 e1, .int .i64 e2] := HH4.out (w.heap.size + 1, 46, [.int .i64 e1, .int .i64 e2]) (by simp)
  have k4_1_0 : w4.cell? ⟨w.heap.size + 1, 0, none⟩ = some (.int .i64 e1) := B4_1.cell 0
  have f4_1_0 : w4.frozen? ⟨w.heap.size + 1, 0, none⟩ = false := B4_1.frozen 0
  have k4_1_1 : w4.cell? ⟨w.heap.size + 1, 1, none⟩ = some (.int .i64 e2) := B4_1.cell 1
  have f4_1_1 : w4.frozen? ⟨w.heap.size + 1, 1, none⟩ = false := B4_1.frozen 1
  have z4_1 : w.heap.size + 1 < w4.heap.size := B4_1.lt
  clear B4_1
  have B4_2 : Blk w4 (w.heap.size + 1 + 1) 46 #[.int .i64 cx, .int .i64 cy] := HH4.out (w.heap.size + 1 + 1, 46, [.int .i64 cx, .int .i64 cy]) (by simp)
  have k4_2_0 : w4.cell? ⟨w.heap.size + 1 + 1, 0, none⟩ = some (.int .i64 cx) := B4_2.cell 0
  have f4_2_0 : w4.frozen? ⟨w.heap.size + 1 + 1, 0, none⟩ = false := B4_2.frozen 0
  have k4_2_1 : w4.cell? ⟨w.heap.size + 1 + 1, 1, none⟩ = some (.int .i64 cy) := B4_2.cell 1
  have f4_2_1 : w4.frozen? ⟨w.heap.size + 1 + 1, 1, none⟩ = false := B4_2.frozen 1
  have z4_2 : w.heap.size + 1 + 1 < w4.heap.size := B4_2.lt
  clear B4_2
  have B4_3 : Blk w4 (w.heap.size + 1 + 1 + 1) 46 #[.int .i64 dx, .int .i64 dy] := HH4.out (w.heap.size + 1 + 1 + 1, 46, [.int .i64 dx, .int .i64 dy]) (by simp)
  have k4_3_0 : w4.cell? ⟨w.heap.size + 1 + 1 + 1, 0, none⟩ = some (.int .i64 dx) := B4_3.cell 0
  have f4_3_0 : w4.frozen? ⟨w.heap.size + 1 + 1 + 1, 0, none⟩ = false := B4_3.frozen 0
  have k4_3_1 : w4.cell? ⟨w.heap.size + 1 + 1 + 1, 1, none⟩ = some (.int .i64 dy) := B4_3.cell 1
  have f4_3_1 : w4.frozen? ⟨w.heap.size + 1 + 1 + 1, 1, none⟩ = false := B4_3.frozen 1
  have z4_3 : w.heap.size + 1 + 1 + 1 < w4.heap.size := B4_3.lt
  clear B4_3
  go_wp2_with fail
  refine (s2.out _).mono ?_
  rintro e w5 ⟨rfl, hb5⟩
  have HH5 := Lib.hid ((HH4.out).below hb5)
  have HB5 := Lib.hid (below_trans (HB4.out) hb5)
  clear k4_0_0 f4_0_0 k4_0_1 f4_0_1 z4_0 k4_1_0 f4_1_0 k4_1_1 f4_1_1 z4_1 k4_2_0 f4_2_0 k4_2_1 f4_2_1 z4_2 k4_3_0 f4_3_0 k4_3_1 f4_3_1 z4_3
  clear hb5
  clear HH4 HB4
  have B5_0 : Blk w5 (w.heap.size) 46 #[.int .i64 f1, .int .i64 f2] := HH5.out (w.heap.size, 46, [.int .i64 f1, .int .i64 f2]) (by simp)
  have k5_0_0 : w5.cell? ⟨w.heap.size, 0, none⟩ = some (.int .i64 f1) := B5_0.cell 0
  have f5_0_0 : w5.frozen? ⟨w.heap.size, 0, none⟩ = false := B5_0.frozen 0
  have k5_0_1 : w5.cell? ⟨w.heap.size, 1, none⟩ = some (.int .i64 f2) := B5_0.cell 1
  have f5_0_1 : w5.frozen? ⟨w.heap.size, 1, none⟩ = false := B5_0.frozen 1
  have z5_0 : w.heap.size < w5.heap.size := B5_0.lt
  clear B5_0
  have B5_1 : Blk w5 (w.heap.size + 1) 46 #[.int .i64 e1, .int .i64 e2] := HH5.out (w.heap.size + 1, 46, [.int .i64 e1, .int .i64 e2]) (by simp)
  have k5_1_0 : w5.cell? ⟨w.heap.size + 1, 0, none⟩ = some (.int .i64 e1) := B5_1.cell 0
  have f5_1_0 : w5.frozen? ⟨w.heap.size + 1, 0, none⟩ = false := B5_1.frozen 0
  have k5_1_1 : w5.cell? ⟨w.heap.size + 1, 1, none⟩ = some (.int .i64 e2) := B5_1.cell 1
  have f5_1_1 : w5.frozen? ⟨w.heap.size + 1, 1, none⟩ = false := B5_1.frozen 1
  have z5_1 : w.heap.size + 1 < w5.heap.size := B5_1.lt
  clear B5_1
  have B5_2 : Blk w5 (w.heap.size + 1 + 1) 46 #[.int .i64 cx, .int .i64 cy] := HH5.out (w.heap.size + 1 + 1, 46, [.int .i64 cx, .int .i64 cy]) (by simp)
  have k5_2_0 : w5.cell? ⟨w.heap.size + 1 + 1, 0, none⟩ = some (.int .i64 cx) := B5_2.cell 0
  have f5_2_0 : w5.frozen? ⟨w.heap.size + 1 + 1, 0, none⟩ = false := B5_2.frozen 0
  have k5_2_1 : w5.cell? ⟨w.heap.size + 1 + 1, 1, none⟩ = some (.int .i64 cy) := B5_2.cell 1
  have f5_2_1 : w5.frozen? ⟨w.heap.size + 1 + 1, 1, none⟩ = false := B5_2.frozen 1
  have z5_2 : w.heap.size + 1 + 1 < w5.heap.size := B5_2.lt
  clear B5_2
  have B5_3 : Blk w5 (w.heap.size + 1 + 1 + 1) 46 #[.int .i64 dx, .int .i64 dy] := HH5.out (w.heap.size + 1 + 1 + 1, 46, [.int .i64 dx, .int .i64 dy]) (by simp)
  have k5_3_0 : w5.cell? ⟨w.heap.size + 1 + 1 + 1, 0, none⟩ = some (.int .i64 dx) := B5_3.cell 0
  have f5_3_0 : w5.frozen? ⟨w.heap.size + 1 + 1 + 1, 0, none⟩ = false := B5_3.frozen 0
  have k5_3_1 : w5.cell? ⟨w.heap.size + 1 + 1 + 1, 1, none⟩ = some (.int .i64 dy) := B5_3.cell 1
  have f5_3_1 : w5.frozen? ⟨w.heap.size + 1 + 1 + 1, 1, none⟩ = false := B5_3.frozen 1
  have z5_3 : w.heap.size + 1 + 1 + 1 < w5.heap.size := B5_3.lt
  clear B5_3
  go_upto_region 8 with fail
  have X0 : Blk (((((w5).setCell ⟨w.heap.size + 1 + 1, 0, none⟩ (.int .i64 f3)).setCell ⟨w.heap.size + 1 + 1, 1, none⟩ (.int .i64 f4)).setCell ⟨w.heap.size + 1 + 1 + 1, 0, none⟩ (.int .i64 e3)).setCell ⟨w.heap.size + 1 + 1 + 1, 1, none⟩ (.int .i64 e4)) (w.heap.size) 46 #[.int .i64 f1, .int .i64 f2] := (((((show Blk w5 (w.heap.size) 46 #[.int .i64 f1, .int .i64 f2] from (HH5.out (w.heap.size, 46, [.int .i64 f1, .int .i64 f2]) (by simp))).far (p := ⟨w.heap.size + 1 + 1, 0, none⟩) (by first | omega | (simp <;> omega)) (.int .i64 f3)).far (p := ⟨w.heap.size + 1 + 1, 1, none⟩) (by first | omega | (simp <;> omega)) (.int .i64 f4)).far (p := ⟨w.heap.size + 1 + 1 + 1, 0, none⟩) (by first | omega | (simp <;> omega)) (.int .i64 e3)).far (p := ⟨w.heap.size + 1 + 1 + 1, 1, none⟩) (by first | omega | (simp <;> omega)) (.int .i64 e4))
  have X1 : Blk (((((w5).setCell ⟨w.heap.size + 1 + 1, 0, none⟩ (.int .i64 f3)).setCell ⟨w.heap.size + 1 + 1, 1, none⟩ (.int .i64 f4)).setCell ⟨w.heap.size + 1 + 1 + 1, 0, none⟩ (.int .i64 e3)).setCell ⟨w.heap.size + 1 + 1 + 1, 1, none⟩ (.int .i64 e4)) (w.heap.size + 1) 46 #[.int .i64 e1, .int .i64 e2] := (((((show Blk w5 (w.heap.size + 1) 46 #[.int .i64 e1, .int .i64 e2] from (HH5.out (w.heap.size + 1, 46, [.int .i64 e1, .int .i64 e2]) (by simp))).far (p := ⟨w.heap.size + 1 + 1, 0, none⟩) (by first | omega | (simp <;> omega)) (.int .i64 f3)).far (p := ⟨w.heap.size + 1 + 1, 1, none⟩) (by first | omega | (simp <;> omega)) (.int .i64 f4)).far (p := ⟨w.heap.size + 1 + 1 + 1, 0, none⟩) (by first | omega | (simp <;> omega)) (.int .i64 e3)).far (p := ⟨w.heap.size + 1 + 1 + 1, 1, none⟩) (by first | omega | (simp <;> omega)) (.int .i64 e4))
  have X2 : Blk (((((w5).setCell ⟨w.heap.size + 1 + 1, 0, none⟩ (.int .i64 f3)).setCell ⟨w.heap.size + 1 + 1, 1, none⟩ (.int .i64 f4)).setCell ⟨w.heap.size + 1 + 1 + 1, 0, none⟩ (.int .i64 e3)).setCell ⟨w.heap.size + 1 + 1 + 1, 1, none⟩ (.int .i64 e4)) (w.heap.size + 1 + 1) 46 #[.int .i64 f3, .int .i64 f4] := (((blk_set2 (show Blk w5 (w.heap.size + 1 + 1) 46 #[.int .i64 cx, .int .i64 cy] from (HH5.out (w.heap.size + 1 + 1, 46, [.int .i64 cx, .int .i64 cy]) (by simp))) (.int .i64 f3) (.int .i64 f4)).far (p := ⟨w.heap.size + 1 + 1 + 1, 0, none⟩) (by first | omega | (simp <;> omega)) (.int .i64 e3)).far (p := ⟨w.heap.size + 1 + 1 + 1, 1, none⟩) (by first | omega | (simp <;> omega)) (.int .i64 e4))
  have X3 : Blk (((((w5).setCell ⟨w.heap.size + 1 + 1, 0, none⟩ (.int .i64 f3)).setCell ⟨w.heap.size + 1 + 1, 1, none⟩ (.int .i64 f4)).setCell ⟨w.heap.size + 1 + 1 + 1, 0, none⟩ (.int .i64 e3)).setCell ⟨w.heap.size + 1 + 1 + 1, 1, none⟩ (.int .i64 e4)) (w.heap.size + 1 + 1 + 1) 46 #[.int .i64 e3, .int .i64 e4] := (blk_set2 (((show Blk w5 (w.heap.size + 1 + 1 + 1) 46 #[.int .i64 dx, .int .i64 dy] from (HH5.out (w.heap.size + 1 + 1 + 1, 46, [.int .i64 dx, .int .i64 dy]) (by simp))).far (p := ⟨w.heap.size + 1 + 1, 0, none⟩) (by first | omega | (simp <;> omega)) (.int .i64 f3)).far (p := ⟨w.heap.size + 1 + 1, 1, none⟩) (by first | omega | (simp <;> omega)) (.int .i64 f4)) (.int .i64 e3) (.int .i64 e4))
  have XB : Below w.heap.size w (((((w5).setCell ⟨w.heap.size + 1 + 1, 0, none⟩ (.int .i64 f3)).setCell ⟨w.heap.size + 1 + 1, 1, none⟩ (.int .i64 f4)).setCell ⟨w.heap.size + 1 + 1 + 1, 0, none⟩ (.int .i64 e3)).setCell ⟨w.heap.size + 1 + 1 + 1, 1, none⟩ (.int .i64 e4)) := (below_set (below_set (below_set (below_set HB5.out (by first | omega | (simp <;> omega)) _) (by first | omega | (simp <;> omega)) _) (by first | omega | (simp <;> omega)) _) (by first | omega | (simp <;> omega)) _)
  clear k5_0_0 f5_0_0 k5_0_1 f5_0_1 z5_0 k5_1_0 f5_1_0 k5_1_1 f5_1_1 z5_1 k5_2_0 f5_2_0 k5_2_1 f5_2_1 z5_2 k5_3_0 f5_3_0 k5_3_1 f5_3_1 z5_3
  clear HH5 HB5
  obtain ⟨w6, hw6⟩ : ∃ w6 : World, w6 = ((((w5).setCell ⟨w.heap.size + 1 + 1, 0, none⟩ (.int .i64 f3)).setCell ⟨w.heap.size + 1 + 1, 1, none⟩ (.int .i64 f4)).setCell ⟨w.heap.size + 1 + 1 + 1, 0, none⟩ (.int .i64 e3)).setCell ⟨w.heap.size + 1 + 1 + 1, 1, none⟩ (.int .i64 e4) := ⟨_, rfl⟩
  rw [← hw6] at X0 X1 X2 X3 XB ⊢
  clear hw6
  have HH6 : Hid (Blks w6 [(w.heap.size + 1 + 1 + 1, 46, [.int .i64 e3, .int .i64 e4]), (w.heap.size + 1 + 1, 46, [.int .i64 f3, .int .i64 f4]), (w.heap.size + 1, 46, [.int .i64 e1, .int .i64 e2]), (w.heap.size, 46, [.int .i64 f1, .int .i64 f2])]) := Lib.hid (by intro p hp; simp only [List.mem_cons, List.not_mem_nil, or_false] at hp; rcases hp with rfl | rfl | rfl | rfl <;> assumption)
  have HB6 := Lib.hid XB
  clear XB X0 X1 X2 X3
  have B6_0 : Blk w6 (w.heap.size) 46 #[.int .i64 f1, .int .i64 f2] := HH6.out (w.heap.size, 46, [.int .i64 f1, .int .i64 f2]) (by simp)
  have k6_0_0 : w6.cell? ⟨w.heap.size, 0, none⟩ = some (.int .i64 f1) := B6_0.cell 0
  have f6_0_0 : w6.frozen? ⟨w.heap.size, 0, none⟩ = false := B6_0.frozen 0
  have k6_0_1 : w6.cell? ⟨w.heap.size, 1, none⟩ = some (.int .i64 f2) := B6_0.cell 1
  have f6_0_1 : w6.frozen? ⟨w.heap.size, 1, none⟩ = false := B6_0.frozen 1
  have z6_0 : w.heap.size < w6.heap.size := B6_0.lt
  clear B6_0
  have B6_1 : Blk w6 (w.heap.size + 1) 46 #[.int .i64 e1, .int .i64 e2] := HH6.out (w.heap.size + 1, 46, [.int .i64 e1, .int .i64 e2]) (by simp)
  have k6_1_0 : w6.cell? ⟨w.heap.size + 1, 0, none⟩ = some (.int .i64 e1) := B6_1.cell 0
  have f6_1_0 : w6.frozen? ⟨w.heap.size + 1, 0, none⟩ = false := B6_1.frozen 0
  have k6_1_1 : w6.cell? ⟨w.heap.size + 1, 1, none⟩ = some (.int .i64 e2) := B6_1.cell 1
  have f6_1_1 : w6.frozen? ⟨w.heap.size + 1, 1, none⟩ = false := B6_1.frozen 1
  have z6_1 : w.heap.size + 1 < w6.heap.size := B6_1.lt
  clear B6_1
  have B6_2 : Blk w6 (w.heap.size + 1 + 1) 46 #[.int .i64 f3, .int .i64 f4] := HH6.out (w.heap.size + 1 + 1, 46, [.int .i64 f3, .int .i64 f4]) (by simp)
  have k6_2_0 : w6.cell? ⟨w.heap.size + 1 + 1, 0, none⟩ = some (.int .i64 f3) := B6_2.cell 0
  have f6_2_0 : w6.frozen? ⟨w.heap.size + 1 + 1, 0, none⟩ = false := B6_2.frozen 0
  have k6_2_1 : w6.cell? ⟨w.heap.size + 1 + 1, 1, none⟩ = some (.int .i64 f4) := B6_2.cell 1
  have f6_2_1 : w6.frozen? ⟨w.heap.size + 1 + 1, 1, none⟩ = false := B6_2.frozen 1
  have z6_2 : w.heap.size + 1 + 1 < w6.heap.size := B6_2.lt
  clear B6_2
  have B6_3 : Blk w6 (w.heap.size + 1 + 1 + 1) 46 #[.int .i64 e3, .int .i64 e4] := HH6.out (w.heap.size + 1 + 1 + 1, 46, [.int .i64 e3, .int .i64 e4]) (by simp)
  have k6_3_0 : w6.cell? ⟨w.heap.size + 1 + 1 + 1, 0, none⟩ = some (.int .i64 e3) := B6_3.cell 0
  have f6_3_0 : w6.frozen? ⟨w.heap.size + 1 + 1 + 1, 0, none⟩ = false := B6_3.frozen 0
  have k6_3_1 : w6.cell? ⟨w.heap.size + 1 + 1 + 1, 1, none⟩ = some (.int .i64 e4) := B6_3.cell 1
  have f6_3_1 : w6.frozen? ⟨w.heap.size + 1 + 1 + 1, 1, none⟩ = false := B6_3.frozen 1
  have z6_3 : w.heap.size + 1 + 1 + 1 < w6.heap.size := B6_3.lt
  clear B6_3
  have YC : Blk w6 (w.heap.size + 1 + 1) 46 #[.int .i64 f3, .int .i64 f4] := HH6.out (w.heap.size + 1 + 1, 46, [.int .i64 f3, .int .i64 f4]) (by simp)
  have YD : Blk w6 (w.heap.size + 1 + 1 + 1) 46 #[.int .i64 e3, .int .i64 e4] := HH6.out (w.heap.size + 1 + 1 + 1, 46, [.int .i64 e3, .int .i64 e4]) (by simp)
  go_cut [9, 10] (fun p q wx => ∃ gx hx : Nat, p = .pointer (some ⟨gx, 0, none⟩) ∧ q = .pointer (some ⟨hx, 0, none⟩) ∧ gx ≠ hx ∧ w6.heap.size ≤ gx ∧ w6.heap.size ≤ hx ∧ Blk wx gx 46 #[.int .i64 f1, .int .i64 f2] ∧ Blk wx hx 46 #[.int .i64 e1, .int .i64 e2] ∧ Blk wx (w.heap.size + 1 + 1) 46 #[.int .i64 f3, .int .i64 f4] ∧ Blk wx (w.heap.size + 1 + 1 + 1) 46 #[.int .i64 e3, .int .i64 e4] ∧ Below w.heap.size w wx)
  case first =>
    go_region
    all_goals
      go_wp2_with fail
      go_meet
      refine ⟨_, _, rfl, rfl, by omega, by omega, by omega, ?_, ?_, ?_, ?_, ?_⟩
      · repeat (first | with_reducible assumption | (with_reducible refine Blk_at ?_; simp only [World.size_alloc, World.size_drew]; done) | with_reducible refine Blk.drew ?_ | with_reducible refine Blk.alloc ?_ _)
      · repeat (first | with_reducible assumption | (with_reducible refine Blk_at ?_; simp only [World.size_alloc, World.size_drew]; done) | with_reducible refine Blk.drew ?_ | with_reducible refine Blk.alloc ?_ _)
      · repeat (first | with_reducible assumption | (with_reducible refine Blk_at ?_; simp only [World.size_alloc, World.size_drew]; done) | with_reducible refine Blk.drew ?_ | with_reducible refine Blk.alloc ?_ _)
      · repeat (first | with_reducible assumption | (with_reducible refine Blk_at ?_; simp only [World.size_alloc, World.size_drew]; done) | with_reducible refine Blk.drew ?_ | with_reducible refine Blk.alloc ?_ _)
      · repeat (first | with_reducible exact HB6.out | with_reducible refine Below.drew ?_ | with_reducible refine below_drewN ?_ _ | with_reducible refine below_set ?_ (by simp <;> omega) _ | with_reducible refine below_alloc ?_ _)
  case rest =>
    obtain ⟨wd, rfl⟩ : ∃ wd : World, wd = wc := ⟨_, rfl⟩
    obtain ⟨g, h, rfl, rfl, hgh, hg, hh, hC1, hC2, hC3, hC4, hbw2⟩ := hcut
    have zC : w.heap.size + 1 + 1 < w6.heap.size := YC.lt
    have zD : w.heap.size + 1 + 1 + 1 < w6.heap.size := YD.lt
    have hhg : h ≠ g := fun e => hgh e.symm
    clear YC YD HH6 HB6 k6_0_0 f6_0_0 k6_0_1 f6_0_1 z6_0 k6_1_0 f6_1_0 k6_1_1 f6_1_1 z6_1 k6_2_0 f6_2_0 k6_2_1 f6_2_1 z6_2 k6_3_0 f6_3_0 k6_3_1 f6_3_1 z6_3
    have HH20 : Hid (Blks wd [(w.heap.size + 1 + 1 + 1, 46, [.int .i64 e3, .int .i64 e4]), (w.heap.size + 1 + 1, 46, [.int .i64 f3, .int .i64 f4]), (h, 46, [.int .i64 e1, .int .i64 e2]), (g, 46, [.int .i64 f1, .int .i64 f2])]) := Lib.hid (by intro p hp; simp only [List.mem_cons, List.not_mem_nil, or_false] at hp; rcases hp with rfl | rfl | rfl | rfl <;> assumption)
    have HB20 := Lib.hid hbw2
    clear hC1 hC2 hC3 hC4 hbw2
    have B0_0 : Blk wd (g) 46 #[.int .i64 f1, .int .i64 f2] := HH20.out (g, 46, [.int .i64 f1, .int .i64 f2]) (by simp)
    have k0_0_0 : wd.cell? ⟨g, 0, none⟩ = some (.int .i64 f1) := B0_0.cell 0
    have k0_0_1 : wd.cell? ⟨g, 1, none⟩ = some (.int .i64 f2) := B0_0.cell 1
    have z0_0 : g < wd.heap.size := B0_0.lt
    clear B0_0
    have B0_1 : Blk wd (h) 46 #[.int .i64 e1, .int .i64 e2] := HH20.out (h, 46, [.int .i64 e1, .int .i64 e2]) (by simp)
    have k0_1_0 : wd.cell? ⟨h, 0, none⟩ = some (.int .i64 e1) := B0_1.cell 0
    have k0_1_1 : wd.cell? ⟨h, 1, none⟩ = some (.int .i64 e2) := B0_1.cell 1
    have z0_1 : h < wd.heap.size := B0_1.lt
    clear B0_1
    have B0_2 : Blk wd (w.heap.size + 1 + 1) 46 #[.int .i64 f3, .int .i64 f4] := HH20.out (w.heap.size + 1 + 1, 46, [.int .i64 f3, .int .i64 f4]) (by simp)
    have k0_2_0 : wd.cell? ⟨w.heap.size + 1 + 1, 0, none⟩ = some (.int .i64 f3) := B0_2.cell 0
    have k0_2_1 : wd.cell? ⟨w.heap.size + 1 + 1, 1, none⟩ = some (.int .i64 f4) := B0_2.cell 1
    have z0_2 : w.heap.size + 1 + 1 < wd.heap.size := B0_2.lt
    clear B0_2
    have B0_3 : Blk wd (w.heap.size + 1 + 1 + 1) 46 #[.int .i64 e3, .int .i64 e4] := HH20.out (w.heap.size + 1 + 1 + 1, 46, [.int .i64 e3, .int .i64 e4]) (by simp)
    have k0_3_0 : wd.cell? ⟨w.heap.size + 1 + 1 + 1, 0, none⟩ = some (.int .i64 e3) := B0_3.cell 0
    have k0_3_1 : wd.cell? ⟨w.heap.size + 1 + 1 + 1, 1, none⟩ = some (.int .i64 e4) := B0_3.cell 1
    have z0_3 : w.heap.size + 1 + 1 + 1 < wd.heap.size := B0_3.lt
    clear B0_3
    go_wp2_with fail
    refine (k1.out _).mono ?_
    rintro e w21 ⟨rfl, hb21⟩
    have HH21 := Lib.hid ((HH20.out).below hb21)
    have HB21 := Lib.hid (below_trans (HB20.out) hb21)
    clear k0_0_0 k0_0_1 z0_0 k0_1_0 k0_1_1 z0_1 k0_2_0 k0_2_1 z0_2 k0_3_0 k0_3_1 z0_3
    clear hb21
    clear HH20 HB20
    have B21_0 : Blk w21 (g) 46 #[.int .i64 f1, .int .i64 f2] := HH21.out (g, 46, [.int .i64 f1, .int .i64 f2]) (by simp)
    have k21_0_0 : w21.cell? ⟨g, 0, none⟩ = some (.int .i64 f1) := B21_0.cell 0
    have f21_0_0 : w21.frozen? ⟨g, 0, none⟩ = false := B21_0.frozen 0
    have k21_0_1 : w21.cell? ⟨g, 1, none⟩ = some (.int .i64 f2) := B21_0.cell 1
    have f21_0_1 : w21.frozen? ⟨g, 1, none⟩ = false := B21_0.frozen 1
    have z21_0 : g < w21.heap.size := B21_0.lt
    clear B21_0
    have B21_1 : Blk w21 (h) 46 #[.int .i64 e1, .int .i64 e2] := HH21.out (h, 46, [.int .i64 e1, .int .i64 e2]) (by simp)
    have k21_1_0 : w21.cell? ⟨h, 0, none⟩ = some (.int .i64 e1) := B21_1.cell 0
    have f21_1_0 : w21.frozen? ⟨h, 0, none⟩ = false := B21_1.frozen 0
    have k21_1_1 : w21.cell? ⟨h, 1, none⟩ = some (.int .i64 e2) := B21_1.cell 1
    have f21_1_1 : w21.frozen? ⟨h, 1, none⟩ = false := B21_1.frozen 1
    have z21_1 : h < w21.heap.size := B21_1.lt
    clear B21_1
    have B21_2 : Blk w21 (w.heap.size + 1 + 1) 46 #[.int .i64 f3, .int .i64 f4] := HH21.out (w.heap.size + 1 + 1, 46, [.int .i64 f3, .int .i64 f4]) (by simp)
    have k21_2_0 : w21.cell? ⟨w.heap.size + 1 + 1, 0, none⟩ = some (.int .i64 f3) := B21_2.cell 0
    have f21_2_0 : w21.frozen? ⟨w.heap.size + 1 + 1, 0, none⟩ = false := B21_2.frozen 0
    have k21_2_1 : w21.cell? ⟨w.heap.size + 1 + 1, 1, none⟩ = some (.int .i64 f4) := B21_2.cell 1
    have f21_2_1 : w21.frozen? ⟨w.heap.size + 1 + 1, 1, none⟩ = false := B21_2.frozen 1
    have z21_2 : w.heap.size + 1 + 1 < w21.heap.size := B21_2.lt
    clear B21_2
    have B21_3 : Blk w21 (w.heap.size + 1 + 1 + 1) 46 #[.int .i64 e3, .int .i64 e4] := HH21.out (w.heap.size + 1 + 1 + 1, 46, [.int .i64 e3, .int .i64 e4]) (by simp)
    have k21_3_0 : w21.cell? ⟨w.heap.size + 1 + 1 + 1, 0, none⟩ = some (.int .i64 e3) := B21_3.cell 0
    have f21_3_0 : w21.frozen? ⟨w.heap.size + 1 + 1 + 1, 0, none⟩ = false := B21_3.frozen 0
    have k21_3_1 : w21.cell? ⟨w.heap.size + 1 + 1 + 1, 1, none⟩ = some (.int .i64 e4) := B21_3.cell 1
    have f21_3_1 : w21.frozen? ⟨w.heap.size + 1 + 1 + 1, 1, none⟩ = false := B21_3.frozen 1
    have z21_3 : w.heap.size + 1 + 1 + 1 < w21.heap.size := B21_3.lt
    clear B21_3
    go_upto_region 11 with fail
    have X0 : Blk (((w21).setCell ⟨g, 0, none⟩ (.int .i64 f3)).setCell ⟨g, 1, none⟩ (.int .i64 f4)) (g) 46 #[.int .i64 f3, .int .i64 f4] := (blk_set2 (show Blk w21 (g) 46 #[.int .i64 f1, .int .i64 f2] from (HH21.out (g, 46, [.int .i64 f1, .int .i64 f2]) (by simp))) (.int .i64 f3) (.int .i64 f4))
    have X1 : Blk (((w21).setCell ⟨g, 0, none⟩ (.int .i64 f3)).setCell ⟨g, 1, none⟩ (.int .i64 f4)) (h) 46 #[.int .i64 e1, .int .i64 e2] := (((show Blk w21 (h) 46 #[.int .i64 e1, .int .i64 e2] from (HH21.out (h, 46, [.int .i64 e1, .int .i64 e2]) (by simp))).far (p := ⟨g, 0, none⟩) (by first | omega | (simp <;> omega)) (.int .i64 f3)).far (p := ⟨g, 1, none⟩) (by first | omega | (simp <;> omega)) (.int .i64 f4))
    have X2 : Blk (((w21).setCell ⟨g, 0, none⟩ (.int .i64 f3)).setCell ⟨g, 1, none⟩ (.int .i64 f4)) (w.heap.size + 1 + 1) 46 #[.int .i64 f3, .int .i64 f4] := (((show Blk w21 (w.heap.size + 1 + 1) 46 #[.int .i64 f3, .int .i64 f4] from (HH21.out (w.heap.size + 1 + 1, 46, [.int .i64 f3, .int .i64 f4]) (by simp))).far (p := ⟨g, 0, none⟩) (by first | omega | (simp <;> omega)) (.int .i64 f3)).far (p := ⟨g, 1, none⟩) (by first | omega | (simp <;> omega)) (.int .i64 f4))
    have X3 : Blk (((w21).setCell ⟨g, 0, none⟩ (.int .i64 f3)).setCell ⟨g, 1, none⟩ (.int .i64 f4)) (w.heap.size + 1 + 1 + 1) 46 #[.int .i64 e3, .int .i64 e4] := (((show Blk w21 (w.heap.size + 1 + 1 + 1) 46 #[.int .i64 e3, .int .i64 e4] from (HH21.out (w.heap.size + 1 + 1 + 1, 46, [.int .i64 e3, .int .i64 e4]) (by simp))).far (p := ⟨g, 0, none⟩) (by first | omega | (simp <;> omega)) (.int .i64 f3)).far (p := ⟨g, 1, none⟩) (by first | omega | (simp <;> omega)) (.int .i64 f4))
    have XB : Below w.heap.size w (((w21).setCell ⟨g, 0, none⟩ (.int .i64 f3)).setCell ⟨g, 1, none⟩ (.int .i64 f4)) := (below_set (below_set HB21.out (by first | omega | (simp <;> omega)) _) (by first | omega | (simp <;> omega)) _)
    clear k21_0_0 f21_0_0 k21_0_1 f21_0_1 z21_0 k21_1_0 f21_1_0 k21_1_1 f21_1_1 z21_1 k21_2_0 f21_2_0 k21_2_1 f21_2_1 z21_2 k21_3_0 f21_3_0 k21_3_1 f21_3_1 z21_3
    clear HH21 HB21
    obtain ⟨w22, hw22⟩ : ∃ w22 : World, w22 = ((w21).setCell ⟨g, 0, none⟩ (.int .i64 f3)).setCell ⟨g, 1, none⟩ (.int .i64 f4) := ⟨_, rfl⟩
    rw [← hw22] at X0 X1 X2 X3 XB ⊢
    clear hw22
    have HH22 : Hid (Blks w22 [(w.heap.size + 1 + 1 + 1, 46, [.int .i64 e3, .int .i64 e4]), (w.heap.size + 1 + 1, 46, [.int .i64 f3, .int .i64 f4]), (h, 46, [.int .i64 e1, .int .i64 e2]), (g, 46, [.int .i64 f3, .int .i64 f4])]) := Lib.hid (by intro p hp; simp only [List.mem_cons, List.not_mem_nil, or_false] at hp; rcases hp with rfl | rfl | rfl | rfl <;> assumption)
    have HB22 := Lib.hid XB
    clear XB X0 X1 X2 X3
    have B22_0 : Blk w22 (g) 46 #[.int .i64 f3, .int .i64 f4] := HH22.out (g, 46, [.int .i64 f3, .int .i64 f4]) (by simp)
    have k22_0_0 : w22.cell? ⟨g, 0, none⟩ = some (.int .i64 f3) := B22_0.cell 0
    have f22_0_0 : w22.frozen? ⟨g, 0, none⟩ = false := B22_0.frozen 0
    have k22_0_1 : w22.cell? ⟨g, 1, none⟩ = some (.int .i64 f4) := B22_0.cell 1
    have f22_0_1 : w22.frozen? ⟨g, 1, none⟩ = false := B22_0.frozen 1
    have z22_0 : g < w22.heap.size := B22_0.lt
    clear B22_0
    have B22_1 : Blk w22 (h) 46 #[.int .i64 e1, .int .i64 e2] := HH22.out (h, 46, [.int .i64 e1, .int .i64 e2]) (by simp)
    have k22_1_0 : w22.cell? ⟨h, 0, none⟩ = some (.int .i64 e1) := B22_1.cell 0
    have f22_1_0 : w22.frozen? ⟨h, 0, none⟩ = false := B22_1.frozen 0
    have k22_1_1 : w22.cell? ⟨h, 1, none⟩ = some (.int .i64 e2) := B22_1.cell 1
    have f22_1_1 : w22.frozen? ⟨h, 1, none⟩ = false := B22_1.frozen 1
    have z22_1 : h < w22.heap.size := B22_1.lt
    clear B22_1
    have B22_2 : Blk w22 (w.heap.size + 1 + 1) 46 #[.int .i64 f3, .int .i64 f4] := HH22.out (w.heap.size + 1 + 1, 46, [.int .i64 f3, .int .i64 f4]) (by simp)
    have k22_2_0 : w22.cell? ⟨w.heap.size + 1 + 1, 0, none⟩ = some (.int .i64 f3) := B22_2.cell 0
    have f22_2_0 : w22.frozen? ⟨w.heap.size + 1 + 1, 0, none⟩ = false := B22_2.frozen 0
    have k22_2_1 : w22.cell? ⟨w.heap.size + 1 + 1, 1, none⟩ = some (.int .i64 f4) := B22_2.cell 1
    have f22_2_1 : w22.frozen? ⟨w.heap.size + 1 + 1, 1, none⟩ = false := B22_2.frozen 1
    have z22_2 : w.heap.size + 1 + 1 < w22.heap.size := B22_2.lt
    clear B22_2
    have B22_3 : Blk w22 (w.heap.size + 1 + 1 + 1) 46 #[.int .i64 e3, .int .i64 e4] := HH22.out (w.heap.size + 1 + 1 + 1, 46, [.int .i64 e3, .int .i64 e4]) (by simp)
    have k22_3_0 : w22.cell? ⟨w.heap.size + 1 + 1 + 1, 0, none⟩ = some (.int .i64 e3) := B22_3.cell 0
    have f22_3_0 : w22.frozen? ⟨w.heap.size + 1 + 1 + 1, 0, none⟩ = false := B22_3.frozen 0
    have k22_3_1 : w22.cell? ⟨w.heap.size + 1 + 1 + 1, 1, none⟩ = some (.int .i64 e4) := B22_3.cell 1
    have f22_3_1 : w22.frozen? ⟨w.heap.size + 1 + 1 + 1, 1, none⟩ = false := B22_3.frozen 1
    have z22_3 : w.heap.size + 1 + 1 + 1 < w22.heap.size := B22_3.lt
    clear B22_3
    go_wp2_with fail
    refine (k2.out _).mono ?_
    rintro e w23 ⟨rfl, hb23⟩
    have HH23 := Lib.hid ((HH22.out).below hb23)
    have HB23 := Lib.hid (below_trans (HB22.out) hb23)
    clear k22_0_0 f22_0_0 k22_0_1 f22_0_1 z22_0 k22_1_0 f22_1_0 k22_1_1 f22_1_1 z22_1 k22_2_0 f22_2_0 k22_2_1 f22_2_1 z22_2 k22_3_0 f22_3_0 k22_3_1 f22_3_1 z22_3
    clear hb23
    clear HH22 HB22
    have B23_0 : Blk w23 (g) 46 #[.int .i64 f3, .int .i64 f4] := HH23.out (g, 46, [.int .i64 f3, .int .i64 f4]) (by simp)
    have k23_0_0 : w23.cell? ⟨g, 0, none⟩ = some (.int .i64 f3) := B23_0.cell 0
    have f23_0_0 : w23.frozen? ⟨g, 0, none⟩ = false := B23_0.frozen 0
    have k23_0_1 : w23.cell? ⟨g, 1, none⟩ = some (.int .i64 f4) := B23_0.cell 1
    have f23_0_1 : w23.frozen? ⟨g, 1, none⟩ = false := B23_0.frozen 1
    have z23_0 : g < w23.heap.size := B23_0.lt
    clear B23_0
    have B23_1 : Blk w23 (h) 46 #[.int .i64 e1, .int .i64 e2] := HH23.out (h, 46, [.int .i64 e1, .int .i64 e2]) (by simp)
    have k23_1_0 : w23.cell? ⟨h, 0, none⟩ = some (.int .i64 e1) := B23_1.cell 0
    have f23_1_0 : w23.frozen? ⟨h, 0, none⟩ = false := B23_1.frozen 0
    have k23_1_1 : w23.cell? ⟨h, 1, none⟩ = some (.int .i64 e2) := B23_1.cell 1
    have f23_1_1 : w23.frozen? ⟨h, 1, none⟩ = false := B23_1.frozen 1
    have z23_1 : h < w23.heap.size := B23_1.lt
    clear B23_1
    have B23_2 : Blk w23 (w.heap.size + 1 + 1) 46 #[.int .i64 f3, .int .i64 f4] := HH23.out (w.heap.size + 1 + 1, 46, [.int .i64 f3, .int .i64 f4]) (by simp)
    have k23_2_0 : w23.cell? ⟨w.heap.size + 1 + 1, 0, none⟩ = some (.int .i64 f3) := B23_2.cell 0
    have f23_2_0 : w23.frozen? ⟨w.heap.size + 1 + 1, 0, none⟩ = false := B23_2.frozen 0
    have k23_2_1 : w23.cell? ⟨w.heap.size + 1 + 1, 1, none⟩ = some (.int .i64 f4) := B23_2.cell 1
    have f23_2_1 : w23.frozen? ⟨w.heap.size + 1 + 1, 1, none⟩ = false := B23_2.frozen 1
    have z23_2 : w.heap.size + 1 + 1 < w23.heap.size := B23_2.lt
    clear B23_2
    have B23_3 : Blk w23 (w.heap.size + 1 + 1 + 1) 46 #[.int .i64 e3, .int .i64 e4] := HH23.out (w.heap.size + 1 + 1 + 1, 46, [.int .i64 e3, .int .i64 e4]) (by simp)
    have k23_3_0 : w23.cell? ⟨w.heap.size + 1 + 1 + 1, 0, none⟩ = some (.int .i64 e3) := B23_3.cell 0
    have f23_3_0 : w23.frozen? ⟨w.heap.size + 1 + 1 + 1, 0, none⟩ = false := B23_3.frozen 0
    have k23_3_1 : w23.cell? ⟨w.heap.size + 1 + 1 + 1, 1, none⟩ = some (.int .i64 e4) := B23_3.cell 1
    have f23_3_1 : w23.frozen? ⟨w.heap.size + 1 + 1 + 1, 1, none⟩ = false := B23_3.frozen 1
    have z23_3 : w.heap.size + 1 + 1 + 1 < w23.heap.size := B23_3.lt
    clear B23_3
    go_wp2_with fail
    refine (k3.out _).mono ?_
    rintro e w24 ⟨rfl, hb24⟩
    have HH24 := Lib.hid ((HH23.out).below hb24)
    have HB24 := Lib.hid (below_trans (HB23.out) hb24)
    clear k23_0_0 f23_0_0 k23_0_1 f23_0_1 z23_0 k23_1_0 f23_1_0 k23_1_1 f23_1_1 z23_1 k23_2_0 f23_2_0 k23_2_1 f23_2_1 z23_2 k23_3_0 f23_3_0 k23_3_1 f23_3_1 z23_3
    clear hb24
    clear HH23 HB23
    have B24_0 : Blk w24 (g) 46 #[.int .i64 f3, .int .i64 f4] := HH24.out (g, 46, [.int .i64 f3, .int .i64 f4]) (by simp)
    have k24_0_0 : w24.cell? ⟨g, 0, none⟩ = some (.int .i64 f3) := B24_0.cell 0
    have k24_0_1 : w24.cell? ⟨g, 1, none⟩ = some (.int .i64 f4) := B24_0.cell 1
    have z24_0 : g < w24.heap.size := B24_0.lt
    clear B24_0
    have B24_1 : Blk w24 (h) 46 #[.int .i64 e1, .int .i64 e2] := HH24.out (h, 46, [.int .i64 e1, .int .i64 e2]) (by simp)
    have k24_1_0 : w24.cell? ⟨h, 0, none⟩ = some (.int .i64 e1) := B24_1.cell 0
    have k24_1_1 : w24.cell? ⟨h, 1, none⟩ = some (.int .i64 e2) := B24_1.cell 1
    have z24_1 : h < w24.heap.size := B24_1.lt
    clear B24_1
    have B24_2 : Blk w24 (w.heap.size + 1 + 1) 46 #[.int .i64 f3, .int .i64 f4] := HH24.out (w.heap.size + 1 + 1, 46, [.int .i64 f3, .int .i64 f4]) (by simp)
    have k24_2_0 : w24.cell? ⟨w.heap.size + 1 + 1, 0, none⟩ = some (.int .i64 f3) := B24_2.cell 0
    have k24_2_1 : w24.cell? ⟨w.heap.size + 1 + 1, 1, none⟩ = some (.int .i64 f4) := B24_2.cell 1
    have z24_2 : w.heap.size + 1 + 1 < w24.heap.size := B24_2.lt
    clear B24_2
    have B24_3 : Blk w24 (w.heap.size + 1 + 1 + 1) 46 #[.int .i64 e3, .int .i64 e4] := HH24.out (w.heap.size + 1 + 1 + 1, 46, [.int .i64 e3, .int .i64 e4]) (by simp)
    have k24_3_0 : w24.cell? ⟨w.heap.size + 1 + 1 + 1, 0, none⟩ = some (.int .i64 e3) := B24_3.cell 0
    have k24_3_1 : w24.cell? ⟨w.heap.size + 1 + 1 + 1, 1, none⟩ = some (.int .i64 e4) := B24_3.cell 1
    have z24_3 : w.heap.size + 1 + 1 + 1 < w24.heap.size := B24_3.lt
    clear B24_3
    have HBz := HB24.out
    rcases h3 : bef f3 f4 e1 e2 with _ | _
    · by_cases he : f3 = e1 ∧ f4 = e2
      · have HV := Lib.hid (show v = 1 by rw [HV.out, h3, if_neg (by simp), if_pos he])
        have q3 := fun W => pt_eq_eql he W
        clear he
        go_wp2
        go_returns
        exact ⟨ret_int HV.out.symm, HBz⟩
      · have HV := Lib.hid (show v = 0 by rw [HV.out, h3, if_neg (by simp), if_neg he])
        have q3 := fun W => pt_diff_eql he W
        clear he
        go_wp2
        go_returns
        exact ⟨ret_int HV.out.symm, HBz⟩
    · have HV := Lib.hid (show v = 2 by rw [HV.out, h3, if_pos rfl])
      go_wp2
      go_returns
      exact ⟨ret_int HV.out.symm, HBz⟩
set_option maxRecDepth 100000 in
set_option maxHeartbeats 6400000 in
theorem rmeet_3any (ax ay bx bY cx cy dx dy v : Int) (h1 : in2 ax ay = true) (h2 : in2 bx bY = true) (h3 : in2 cx cy = true) (h4 : in2 dx dy = true) (hab : ¬ (ax = bx ∧ ay = bY)) (hcd : ¬ (cx = dx ∧ cy = dy)) (ht1 : turnI ax ay bx bY cx cy = 0) (ht2 : turnI ax ay bx bY dx dy = 0) (hb1 : bef (fst2 ax ay bx bY).1 (fst2 ax ay bx bY).2 (fst2 cx cy dx dy).1 (fst2 cx cy dx dy).2 = false) (hb2 : bef (lst2 cx cy dx dy).1 (lst2 cx cy dx dy).2 (lst2 ax ay bx bY).1 (lst2 ax ay bx bY).2 = true) (hv : v = if bef (fst2 ax ay bx bY).1 (fst2 ax ay bx bY).2 (lst2 cx cy dx dy).1 (lst2 cx cy dx dy).2 = true then 2 else if (fst2 ax ay bx bY).1 = (lst2 cx cy dx dy).1 ∧ (fst2 ax ay bx bY).2 = (lst2 cx cy dx dy).2 then 1 else 0) (w : World) : Calls Try.prog 35 #[.agg #[.int .i64 ax, .int .i64 ay], .agg #[.int .i64 bx, .int .i64 bY], .agg #[.int .i64 cx, .int .i64 cy], .agg #[.int .i64 dx, .int .i64 dy]] w fun e w' => e = .returned (.int .i64 v) ∧ Below w.heap.size w w' := by
  have gd := fun x y xs ys W => pt_guard .eql x y xs ys W
  have q1 := fun W => pt_diff_eql hab W
  have q2 := fun W => pt_diff_eql hcd W
  have c1 := Lib.hid fun W => rturn_any ax ay bx bY cx cy h1 h2 h3 W
  have c2 := Lib.hid fun W => rturn_any ax ay bx bY dx dy h1 h2 h4 W
  rw [ht1] at c1
  rw [ht2] at c2
  have s1 := Lib.hid fun W => sorted_any ax ay bx bY W
  have s2 := Lib.hid fun W => sorted_any cx cy dx dy W
  clear h1 h2 h3 h4 hab hcd ht1 ht2
  generalize (fst2 ax ay bx bY).1 = f1 at *
  generalize (fst2 ax ay bx bY).2 = f2 at *
  generalize (lst2 ax ay bx bY).1 = e1 at *
  generalize (lst2 ax ay bx bY).2 = e2 at *
  generalize (fst2 cx cy dx dy).1 = f3 at *
  generalize (fst2 cx cy dx dy).2 = f4 at *
  generalize (lst2 cx cy dx dy).1 = e3 at *
  generalize (lst2 cx cy dx dy).2 = e4 at *
  have k1 := Lib.hid fun W => before_any f1 f2 f3 f4 W
  have k2 := Lib.hid fun W => before_any e3 e4 e1 e2 W
  have k3 := Lib.hid fun W => before_any f1 f2 e3 e4 W
  rw [hb1] at k1
  rw [hb2] at k2
  have HV := Lib.hid hv
  clear hb1 hb2 hv
  go_enter Try.func35, Try.ntmps35
  go_wp2_with fail
  refine (c1.out _).mono ?_
  rintro e w1 ⟨rfl, hb1⟩
  have HH1 := Lib.hid (((((((Blks.nil (w := w))).new (w.heap.size) 46 [.int .i64 ax, .int .i64 ay] rfl).new (w.heap.size + 1) 46 [.int .i64 bx, .int .i64 bY] (by simp)).new (w.heap.size + 1 + 1) 46 [.int .i64 cx, .int .i64 cy] (by simp)).new (w.heap.size + 1 + 1 + 1) 46 [.int .i64 dx, .int .i64 dy] (by simp)).below hb1)
  have HB1 := Lib.hid (below_trans (below_alloc (below_alloc (below_alloc (below_alloc (Below.refl _ _) _) _) _) _) hb1)
  clear hb1
  have B1_0 : Blk w1 (w.heap.size) 46 #[.int .i64 ax, .int .i64 ay] := HH1.out (w.heap.size, 46, [.int .i64 ax, .int .i64 ay]) (by simp)
  have k1_0_0 : w1.cell? ⟨w.heap.size, 0, none⟩ = some (.int .i64 ax) := B1_0.cell 0
  have k1_0_1 : w1.cell? ⟨w.heap.size, 1, none⟩ = some (.int .i64 ay) := B1_0.cell 1
  have z1_0 : w.heap.size < w1.heap.size := B1_0.lt
  clear B1_0
  have B1_1 : Blk w1 (w.heap.size + 1) 46 #[.int .i64 bx, .int .i64 bY] := HH1.out (w.heap.size + 1, 46, [.int .i64 bx, .int .i64 bY]) (by simp)
  have k1_1_0 : w1.cell? ⟨w.heap.size + 1, 0, none⟩ = some (.int .i64 bx) := B1_1.cell 0
  have k1_1_1 : w1.cell? ⟨w.heap.size + 1, 1, none⟩ = some (.int .i64 bY) := B1_1.cell 1
  have z1_1 : w.heap.size + 1 < w1.heap.size := B1_1.lt
  clear B1_1
  have B1_2 : Blk w1 (w.heap.size + 1 + 1) 46 #[.int .i64 cx, .int .i64 cy] := HH1.out (w.heap.size + 1 + 1, 46, [.int .i64 cx, .int .i64 cy]) (by simp)
  have k1_2_0 : w1.cell? ⟨w.heap.size + 1 + 1, 0, none⟩ = some (.int .i64 cx) := B1_2.cell 0
  have k1_2_1 : w1.cell? ⟨w.heap.size + 1 + 1, 1, none⟩ = some (.int .i64 cy) := B1_2.cell 1
  have z1_2 : w.heap.size + 1 + 1 < w1.heap.size := B1_2.lt
  clear B1_2
  have B1_3 : Blk w1 (w.heap.size + 1 + 1 + 1) 46 #[.int .i64 dx, .int .i64 dy] := HH1.out (w.heap.size + 1 + 1 + 1, 46, [.int .i64 dx, .int .i64 dy]) (by simp)
  have k1_3_0 : w1.cell? ⟨w.heap.size + 1 + 1 + 1, 0, none⟩ = some (.int .i64 dx) := B1_3.cell 0
  have k1_3_1 : w1.cell? ⟨w.heap.size + 1 + 1 + 1, 1, none⟩ = some (.int .i64 dy) := B1_3.cell 1
  have z1_3 : w.heap.size + 1 + 1 + 1 < w1.heap.size := B1_3.lt
  clear B1_3
  go_wp2_with fail
  refine (c2.out _).mono ?_
  rintro e w2 ⟨rfl, hb2⟩
  have HH2 := Lib.hid ((HH1.out).below hb2)
  have HB2 := Lib.hid (below_trans (HB1.out) hb2)
  clear k1_0_0 k1_0_1 z1_0 k1_1_0 k1_1_1 z1_1 k1_2_0 k1_2_1 z1_2 k1_3_0 k1_3_1 z1_3
  clear hb2
  clear HH1 HB1
  have B2_0 : Blk w2 (w.heap.size) 46 #[.int .i64 ax, .int .i64 ay] := HH2.out (w.heap.size, 46, [.int .i64 ax, .int .i64 ay]) (by simp)
  have k2_0_0 : w2.cell? ⟨w.heap.size, 0, none⟩ = some (.int .i64 ax) := B2_0.cell 0
  have k2_0_1 : w2.cell? ⟨w.heap.size, 1, none⟩ = some (.int .i64 ay) := B2_0.cell 1
  have z2_0 : w.heap.size < w2.heap.size := B2_0.lt
  clear B2_0
  have B2_1 : Blk w2 (w.heap.size + 1) 46 #[.int .i64 bx, .int .i64 bY] := HH2.out (w.heap.size + 1, 46, [.int .i64 bx, .int .i64 bY]) (by simp)
  have k2_1_0 : w2.cell? ⟨w.heap.size + 1, 0, none⟩ = some (.int .i64 bx) := B2_1.cell 0
  have k2_1_1 : w2.cell? ⟨w.heap.size + 1, 1, none⟩ = some (.int .i64 bY) := B2_1.cell 1
  have z2_1 : w.heap.size + 1 < w2.heap.size := B2_1.lt
  clear B2_1
  have B2_2 : Blk w2 (w.heap.size + 1 + 1) 46 #[.int .i64 cx, .int .i64 cy] := HH2.out (w.heap.size + 1 + 1, 46, [.int .i64 cx, .int .i64 cy]) (by simp)
  have k2_2_0 : w2.cell? ⟨w.heap.size + 1 + 1, 0, none⟩ = some (.int .i64 cx) := B2_2.cell 0
  have k2_2_1 : w2.cell? ⟨w.heap.size + 1 + 1, 1, none⟩ = some (.int .i64 cy) := B2_2.cell 1
  have z2_2 : w.heap.size + 1 + 1 < w2.heap.size := B2_2.lt
  clear B2_2
  have B2_3 : Blk w2 (w.heap.size + 1 + 1 + 1) 46 #[.int .i64 dx, .int .i64 dy] := HH2.out (w.heap.size + 1 + 1 + 1, 46, [.int .i64 dx, .int .i64 dy]) (by simp)
  have k2_3_0 : w2.cell? ⟨w.heap.size + 1 + 1 + 1, 0, none⟩ = some (.int .i64 dx) := B2_3.cell 0
  have k2_3_1 : w2.cell? ⟨w.heap.size + 1 + 1 + 1, 1, none⟩ = some (.int .i64 dy) := B2_3.cell 1
  have z2_3 : w.heap.size + 1 + 1 + 1 < w2.heap.size := B2_3.lt
  clear B2_3
  go_wp2_with fail
  refine (s1.out _).mono ?_
  rintro e w3 ⟨rfl, hb3⟩
  have HH3 := Lib.hid ((HH2.out).below hb3)
  have HB3 := Lib.hid (below_trans (HB2.out) hb3)
  clear k2_0_0 k2_0_1 z2_0 k2_1_0 k2_1_1 z2_1 k2_2_0 k2_2_1 z2_2 k2_3_0 k2_3_1 z2_3
  clear hb3
  clear HH2 HB2
  have B3_0 : Blk w3 (w.heap.size) 46 #[.int .i64 ax, .int .i64 ay] := HH3.out (w.heap.size, 46, [.int .i64 ax, .int .i64 ay]) (by simp)
  have k3_0_0 : w3.cell? ⟨w.heap.size, 0, none⟩ = some (.int .i64 ax) := B3_0.cell 0
  have f3_0_0 : w3.frozen? ⟨w.heap.size, 0, none⟩ = false := B3_0.frozen 0
  have k3_0_1 : w3.cell? ⟨w.heap.size, 1, none⟩ = some (.int .i64 ay) := B3_0.cell 1
  have f3_0_1 : w3.frozen? ⟨w.heap.size, 1, none⟩ = false := B3_0.frozen 1
  have z3_0 : w.heap.size < w3.heap.size := B3_0.lt
  clear B3_0
  have B3_1 : Blk w3 (w.heap.size + 1) 46 #[.int .i64 bx, .int .i64 bY] := HH3.out (w.heap.size + 1, 46, [.int .i64 bx, .int .i64 bY]) (by simp)
  have k3_1_0 : w3.cell? ⟨w.heap.size + 1, 0, none⟩ = some (.int .i64 bx) := B3_1.cell 0
  have f3_1_0 : w3.frozen? ⟨w.heap.size + 1, 0, none⟩ = false := B3_1.frozen 0
  have k3_1_1 : w3.cell? ⟨w.heap.size + 1, 1, none⟩ = some (.int .i64 bY) := B3_1.cell 1
  have f3_1_1 : w3.frozen? ⟨w.heap.size + 1, 1, none⟩ = false := B3_1.frozen 1
  have z3_1 : w.heap.size + 1 < w3.heap.size := B3_1.lt
  clear B3_1
  have B3_2 : Blk w3 (w.heap.size + 1 + 1) 46 #[.int .i64 cx, .int .i64 cy] := HH3.out (w.heap.size + 1 + 1, 46, [.int .i64 cx, .int .i64 cy]) (by simp)
  have k3_2_0 : w3.cell? ⟨w.heap.size + 1 + 1, 0, none⟩ = some (.int .i64 cx) := B3_2.cell 0
  have f3_2_0 : w3.frozen? ⟨w.heap.size + 1 + 1, 0, none⟩ = false := B3_2.frozen 0
  have k3_2_1 : w3.cell? ⟨w.heap.size + 1 + 1, 1, none⟩ = some (.int .i64 cy) := B3_2.cell 1
  have f3_2_1 : w3.frozen? ⟨w.heap.size + 1 + 1, 1, none⟩ = false := B3_2.frozen 1
  have z3_2 : w.heap.size + 1 + 1 < w3.heap.size := B3_2.lt
  clear B3_2
  have B3_3 : Blk w3 (w.heap.size + 1 + 1 + 1) 46 #[.int .i64 dx, .int .i64 dy] := HH3.out (w.heap.size + 1 + 1 + 1, 46, [.int .i64 dx, .int .i64 dy]) (by simp)
  have k3_3_0 : w3.cell? ⟨w.heap.size + 1 + 1 + 1, 0, none⟩ = some (.int .i64 dx) := B3_3.cell 0
  have f3_3_0 : w3.frozen? ⟨w.heap.size + 1 + 1 + 1, 0, none⟩ = false := B3_3.frozen 0
  have k3_3_1 : w3.cell? ⟨w.heap.size + 1 + 1 + 1, 1, none⟩ = some (.int .i64 dy) := B3_3.cell 1
  have f3_3_1 : w3.frozen? ⟨w.heap.size + 1 + 1 + 1, 1, none⟩ = false := B3_3.frozen 1
  have z3_3 : w.heap.size + 1 + 1 + 1 < w3.heap.size := B3_3.lt
  clear B3_3
  go_upto_region 7 with fail
  have X0 : Blk (((((w3).setCell ⟨w.heap.size, 0, none⟩ (.int .i64 f1)).setCell ⟨w.heap.size, 1, none⟩ (.int .i64 f2)).setCell ⟨w.heap.size + 1, 0, none⟩ (.int .i64 e1)).setCell ⟨w.heap.size + 1, 1, none⟩ (.int .i64 e2)) (w.heap.size) 46 #[.int .i64 f1, .int .i64 f2] := (((blk_set2 (show Blk w3 (w.heap.size) 46 #[.int .i64 ax, .int .i64 ay] from (HH3.out (w.heap.size, 46, [.int .i64 ax, .int .i64 ay]) (by simp))) (.int .i64 f1) (.int .i64 f2)).far (p := ⟨w.heap.size + 1, 0, none⟩) (by first | omega | (simp <;> omega)) (.int .i64 e1)).far (p := ⟨w.heap.size + 1, 1, none⟩) (by first | omega | (simp <;> omega)) (.int .i64 e2))
  have X1 : Blk (((((w3).setCell ⟨w.heap.size, 0, none⟩ (.int .i64 f1)).setCell ⟨w.heap.size, 1, none⟩ (.int .i64 f2)).setCell ⟨w.heap.size + 1, 0, none⟩ (.int .i64 e1)).setCell ⟨w.heap.size + 1, 1, none⟩ (.int .i64 e2)) (w.heap.size + 1) 46 #[.int .i64 e1, .int .i64 e2] := (blk_set2 (((show Blk w3 (w.heap.size + 1) 46 #[.int .i64 bx, .int .i64 bY] from (HH3.out (w.heap.size + 1, 46, [.int .i64 bx, .int .i64 bY]) (by simp))).far (p := ⟨w.heap.size, 0, none⟩) (by first | omega | (simp <;> omega)) (.int .i64 f1)).far (p := ⟨w.heap.size, 1, none⟩) (by first | omega | (simp <;> omega)) (.int .i64 f2)) (.int .i64 e1) (.int .i64 e2))
  have X2 : Blk (((((w3).setCell ⟨w.heap.size, 0, none⟩ (.int .i64 f1)).setCell ⟨w.heap.size, 1, none⟩ (.int .i64 f2)).setCell ⟨w.heap.size + 1, 0, none⟩ (.int .i64 e1)).setCell ⟨w.heap.size + 1, 1, none⟩ (.int .i64 e2)) (w.heap.size + 1 + 1) 46 #[.int .i64 cx, .int .i64 cy] := (((((show Blk w3 (w.heap.size + 1 + 1) 46 #[.int .i64 cx, .int .i64 cy] from (HH3.out (w.heap.size + 1 + 1, 46, [.int .i64 cx, .int .i64 cy]) (by simp))).far (p := ⟨w.heap.size, 0, none⟩) (by first | omega | (simp <;> omega)) (.int .i64 f1)).far (p := ⟨w.heap.size, 1, none⟩) (by first | omega | (simp <;> omega)) (.int .i64 f2)).far (p := ⟨w.heap.size + 1, 0, none⟩) (by first | omega | (simp <;> omega)) (.int .i64 e1)).far (p := ⟨w.heap.size + 1, 1, none⟩) (by first | omega | (simp <;> omega)) (.int .i64 e2))
  have X3 : Blk (((((w3).setCell ⟨w.heap.size, 0, none⟩ (.int .i64 f1)).setCell ⟨w.heap.size, 1, none⟩ (.int .i64 f2)).setCell ⟨w.heap.size + 1, 0, none⟩ (.int .i64 e1)).setCell ⟨w.heap.size + 1, 1, none⟩ (.int .i64 e2)) (w.heap.size + 1 + 1 + 1) 46 #[.int .i64 dx, .int .i64 dy] := (((((show Blk w3 (w.heap.size + 1 + 1 + 1) 46 #[.int .i64 dx, .int .i64 dy] from (HH3.out (w.heap.size + 1 + 1 + 1, 46, [.int .i64 dx, .int .i64 dy]) (by simp))).far (p := ⟨w.heap.size, 0, none⟩) (by first | omega | (simp <;> omega)) (.int .i64 f1)).far (p := ⟨w.heap.size, 1, none⟩) (by first | omega | (simp <;> omega)) (.int .i64 f2)).far (p := ⟨w.heap.size + 1, 0, none⟩) (by first | omega | (simp <;> omega)) (.int .i64 e1)).far (p := ⟨w.heap.size + 1, 1, none⟩) (by first | omega | (simp <;> omega)) (.int .i64 e2))
  have XB : Below w.heap.size w (((((w3).setCell ⟨w.heap.size, 0, none⟩ (.int .i64 f1)).setCell ⟨w.heap.size, 1, none⟩ (.int .i64 f2)).setCell ⟨w.heap.size + 1, 0, none⟩ (.int .i64 e1)).setCell ⟨w.heap.size + 1, 1, none⟩ (.int .i64 e2)) := (below_set (below_set (below_set (below_set HB3.out (by first | omega | (simp <;> omega)) _) (by first | omega | (simp <;> omega)) _) (by first | omega | (simp <;> omega)) _) (by first | omega | (simp <;> omega)) _)
  clear k3_0_0 f3_0_0 k3_0_1 f3_0_1 z3_0 k3_1_0 f3_1_0 k3_1_1 f3_1_1 z3_1 k3_2_0 f3_2_0 k3_2_1 f3_2_1 z3_2 k3_3_0 f3_3_0 k3_3_1 f3_3_1 z3_3
  clear HH3 HB3
  obtain ⟨w4, hw4⟩ : ∃ w4 : World, w4 = ((((w3).setCell ⟨w.heap.size, 0, none⟩ (.int .i64 f1)).setCell ⟨w.heap.size, 1, none⟩ (.int .i64 f2)).setCell ⟨w.heap.size + 1, 0, none⟩ (.int .i64 e1)).setCell ⟨w.heap.size + 1, 1, none⟩ (.int .i64 e2) := ⟨_, rfl⟩
  rw [← hw4] at X0 X1 X2 X3 XB ⊢
  clear hw4
  have HH4 : Hid (Blks w4 [(w.heap.size + 1 + 1 + 1, 46, [.int .i64 dx, .int .i64 dy]), (w.heap.size + 1 + 1, 46, [.int .i64 cx, .int .i64 cy]), (w.heap.size + 1, 46, [.int .i64 e1, .int .i64 e2]), (w.heap.size, 46, [.int .i64 f1, .int .i64 f2])]) := Lib.hid (by intro p hp; simp only [List.mem_cons, List.not_mem_nil, or_false] at hp; rcases hp with rfl | rfl | rfl | rfl <;> assumption)
  have HB4 := Lib.hid XB
  clear XB X0 X1 X2 X3
  have B4_0 : Blk w4 (w.heap.size) 46 #[.int .i64 f1, .int .i64 f2] := HH4.out (w.heap.size, 46, [.int .i64 f1, .int .i64 f2]) (by simp)
  have k4_0_0 : w4.cell? ⟨w.heap.size, 0, none⟩ = some (.int .i64 f1) := B4_0.cell 0
  have f4_0_0 : w4.frozen? ⟨w.heap.size, 0, none⟩ = false := B4_0.frozen 0
  have k4_0_1 : w4.cell? ⟨w.heap.size, 1, none⟩ = some (.int .i64 f2) := B4_0.cell 1
  have f4_0_1 : w4.frozen? ⟨w.heap.size, 1, none⟩ = false := B4_0.frozen 1
  have z4_0 : w.heap.size < w4.heap.size := B4_0.lt
  clear B4_0
  have B4_1 : Blk w4 (w.heap.size + 1) 46 #[.int .i64 e1, .int .i64 e2] := HH4.out (w.heap.size + 1, 46, [.int .i64 e1, .int .i64 e2]) (by simp)
  have k4_1_0 : w4.cell? ⟨w.heap.size + 1, 0, none⟩ = some (.int .i64 e1) := B4_1.cell 0
  have f4_1_0 : w4.frozen? ⟨w.heap.size + 1, 0, none⟩ = false := B4_1.frozen 0
  have k4_1_1 : w4.cell? ⟨w.heap.size + 1, 1, none⟩ = some (.int .i64 e2) := B4_1.cell 1
  have f4_1_1 : w4.frozen? ⟨w.heap.size + 1, 1, none⟩ = false := B4_1.frozen 1
  have z4_1 : w.heap.size + 1 < w4.heap.size := B4_1.lt
  clear B4_1
  have B4_2 : Blk w4 (w.heap.size + 1 + 1) 46 #[.int .i64 cx, .int .i64 cy] := HH4.out (w.heap.size + 1 + 1, 46, [.int .i64 cx, .int .i64 cy]) (by simp)
  have k4_2_0 : w4.cell? ⟨w.heap.size + 1 + 1, 0, none⟩ = some (.int .i64 cx) := B4_2.cell 0
  have f4_2_0 : w4.frozen? ⟨w.heap.size + 1 + 1, 0, none⟩ = false := B4_2.frozen 0
  have k4_2_1 : w4.cell? ⟨w.heap.size + 1 + 1, 1, none⟩ = some (.int .i64 cy) := B4_2.cell 1
  have f4_2_1 : w4.frozen? ⟨w.heap.size + 1 + 1, 1, none⟩ = false := B4_2.frozen 1
  have z4_2 : w.heap.size + 1 + 1 < w4.heap.size := B4_2.lt
  clear B4_2
  have B4_3 : Blk w4 (w.heap.size + 1 + 1 + 1) 46 #[.int .i64 dx, .int .i64 dy] := HH4.out (w.heap.size + 1 + 1 + 1, 46, [.int .i64 dx, .int .i64 dy]) (by simp)
  have k4_3_0 : w4.cell? ⟨w.heap.size + 1 + 1 + 1, 0, none⟩ = some (.int .i64 dx) := B4_3.cell 0
  have f4_3_0 : w4.frozen? ⟨w.heap.size + 1 + 1 + 1, 0, none⟩ = false := B4_3.frozen 0
  have k4_3_1 : w4.cell? ⟨w.heap.size + 1 + 1 + 1, 1, none⟩ = some (.int .i64 dy) := B4_3.cell 1
  have f4_3_1 : w4.frozen? ⟨w.heap.size + 1 + 1 + 1, 1, none⟩ = false := B4_3.frozen 1
  have z4_3 : w.heap.size + 1 + 1 + 1 < w4.heap.size := B4_3.lt
  clear B4_3
  go_wp2_with fail
  refine (s2.out _).mono ?_
  rintro e w5 ⟨rfl, hb5⟩
  have HH5 := Lib.hid ((HH4.out).below hb5)
  have HB5 := Lib.hid (below_trans (HB4.out) hb5)
  clear k4_0_0 f4_0_0 k4_0_1 f4_0_1 z4_0 k4_1_0 f4_1_0 k4_1_1 f4_1_1 z4_1 k4_2_0 f4_2_0 k4_2_1 f4_2_1 z4_2 k4_3_0 f4_3_0 k4_3_1 f4_3_1 z4_3
  clear hb5
  clear HH4 HB4
  have B5_0 : Blk w5 (w.heap.size) 46 #[.int .i64 f1, .int .i64 f2] := HH5.out (w.heap.size, 46, [.int .i64 f1, .int .i64 f2]) (by simp)
  have k5_0_0 : w5.cell? ⟨w.heap.size, 0, none⟩ = some (.int .i64 f1) := B5_0.cell 0
  have f5_0_0 : w5.frozen? ⟨w.heap.size, 0, none⟩ = false := B5_0.frozen 0
  have k5_0_1 : w5.cell? ⟨w.heap.size, 1, none⟩ = some (.int .i64 f2) := B5_0.cell 1
  have f5_0_1 : w5.frozen? ⟨w.heap.size, 1, none⟩ = false := B5_0.frozen 1
  have z5_0 : w.heap.size < w5.heap.size := B5_0.lt
  clear B5_0
  have B5_1 : Blk w5 (w.heap.size + 1) 46 #[.int .i64 e1, .int .i64 e2] := HH5.out (w.heap.size + 1, 46, [.int .i64 e1, .int .i64 e2]) (by simp)
  have k5_1_0 : w5.cell? ⟨w.heap.size + 1, 0, none⟩ = some (.int .i64 e1) := B5_1.cell 0
  have f5_1_0 : w5.frozen? ⟨w.heap.size + 1, 0, none⟩ = false := B5_1.frozen 0
  have k5_1_1 : w5.cell? ⟨w.heap.size + 1, 1, none⟩ = some (.int .i64 e2) := B5_1.cell 1
  have f5_1_1 : w5.frozen? ⟨w.heap.size + 1, 1, none⟩ = false := B5_1.frozen 1
  have z5_1 : w.heap.size + 1 < w5.heap.size := B5_1.lt
  clear B5_1
  have B5_2 : Blk w5 (w.heap.size + 1 + 1) 46 #[.int .i64 cx, .int .i64 cy] := HH5.out (w.heap.size + 1 + 1, 46, [.int .i64 cx, .int .i64 cy]) (by simp)
  have k5_2_0 : w5.cell? ⟨w.heap.size + 1 + 1, 0, none⟩ = some (.int .i64 cx) := B5_2.cell 0
  have f5_2_0 : w5.frozen? ⟨w.heap.size + 1 + 1, 0, none⟩ = false := B5_2.frozen 0
  have k5_2_1 : w5.cell? ⟨w.heap.size + 1 + 1, 1, none⟩ = some (.int .i64 cy) := B5_2.cell 1
  have f5_2_1 : w5.frozen? ⟨w.heap.size + 1 + 1, 1, none⟩ = false := B5_2.frozen 1
  have z5_2 : w.heap.size + 1 + 1 < w5.heap.size := B5_2.lt
  clear B5_2
  have B5_3 : Blk w5 (w.heap.size + 1 + 1 + 1) 46 #[.int .i64 dx, .int .i64 dy] := HH5.out (w.heap.size + 1 + 1 + 1, 46, [.int .i64 dx, .int .i64 dy]) (by simp)
  have k5_3_0 : w5.cell? ⟨w.heap.size + 1 + 1 + 1, 0, none⟩ = some (.int .i64 dx) := B5_3.cell 0
  have f5_3_0 : w5.frozen? ⟨w.heap.size + 1 + 1 + 1, 0, none⟩ = false := B5_3.frozen 0
  have k5_3_1 : w5.cell? ⟨w.heap.size + 1 + 1 + 1, 1, none⟩ = some (.int .i64 dy) := B5_3.cell 1
  have f5_3_1 : w5.frozen? ⟨w.heap.size + 1 + 1 + 1, 1, none⟩ = false := B5_3.frozen 1
  have z5_3 : w.heap.size + 1 + 1 + 1 < w5.heap.size := B5_3.lt
  clear B5_3
  go_upto_region 8 with fail
  have X0 : Blk (((((w5).setCell ⟨w.heap.size + 1 + 1, 0, none⟩ (.int .i64 f3)).setCell ⟨w.heap.size + 1 + 1, 1, none⟩ (.int .i64 f4)).setCell ⟨w.heap.size + 1 + 1 + 1, 0, none⟩ (.int .i64 e3)).setCell ⟨w.heap.size + 1 + 1 + 1, 1, none⟩ (.int .i64 e4)) (w.heap.size) 46 #[.int .i64 f1, .int .i64 f2] := (((((show Blk w5 (w.heap.size) 46 #[.int .i64 f1, .int .i64 f2] from (HH5.out (w.heap.size, 46, [.int .i64 f1, .int .i64 f2]) (by simp))).far (p := ⟨w.heap.size + 1 + 1, 0, none⟩) (by first | omega | (simp <;> omega)) (.int .i64 f3)).far (p := ⟨w.heap.size + 1 + 1, 1, none⟩) (by first | omega | (simp <;> omega)) (.int .i64 f4)).far (p := ⟨w.heap.size + 1 + 1 + 1, 0, none⟩) (by first | omega | (simp <;> omega)) (.int .i64 e3)).far (p := ⟨w.heap.size + 1 + 1 + 1, 1, none⟩) (by first | omega | (simp <;> omega)) (.int .i64 e4))
  have X1 : Blk (((((w5).setCell ⟨w.heap.size + 1 + 1, 0, none⟩ (.int .i64 f3)).setCell ⟨w.heap.size + 1 + 1, 1, none⟩ (.int .i64 f4)).setCell ⟨w.heap.size + 1 + 1 + 1, 0, none⟩ (.int .i64 e3)).setCell ⟨w.heap.size + 1 + 1 + 1, 1, none⟩ (.int .i64 e4)) (w.heap.size + 1) 46 #[.int .i64 e1, .int .i64 e2] := (((((show Blk w5 (w.heap.size + 1) 46 #[.int .i64 e1, .int .i64 e2] from (HH5.out (w.heap.size + 1, 46, [.int .i64 e1, .int .i64 e2]) (by simp))).far (p := ⟨w.heap.size + 1 + 1, 0, none⟩) (by first | omega | (simp <;> omega)) (.int .i64 f3)).far (p := ⟨w.heap.size + 1 + 1, 1, none⟩) (by first | omega | (simp <;> omega)) (.int .i64 f4)).far (p := ⟨w.heap.size + 1 + 1 + 1, 0, none⟩) (by first | omega | (simp <;> omega)) (.int .i64 e3)).far (p := ⟨w.heap.size + 1 + 1 + 1, 1, none⟩) (by first | omega | (simp <;> omega)) (.int .i64 e4))
  have X2 : Blk (((((w5).setCell ⟨w.heap.size + 1 + 1, 0, none⟩ (.int .i64 f3)).setCell ⟨w.heap.size + 1 + 1, 1, none⟩ (.int .i64 f4)).setCell ⟨w.heap.size + 1 + 1 + 1, 0, none⟩ (.int .i64 e3)).setCell ⟨w.heap.size + 1 + 1 + 1, 1, none⟩ (.int .i64 e4)) (w.heap.size + 1 + 1) 46 #[.int .i64 f3, .int .i64 f4] := (((blk_set2 (show Blk w5 (w.heap.size + 1 + 1) 46 #[.int .i64 cx, .int .i64 cy] from (HH5.out (w.heap.size + 1 + 1, 46, [.int .i64 cx, .int .i64 cy]) (by simp))) (.int .i64 f3) (.int .i64 f4)).far (p := ⟨w.heap.size + 1 + 1 + 1, 0, none⟩) (by first | omega | (simp <;> omega)) (.int .i64 e3)).far (p := ⟨w.heap.size + 1 + 1 + 1, 1, none⟩) (by first | omega | (simp <;> omega)) (.int .i64 e4))
  have X3 : Blk (((((w5).setCell ⟨w.heap.size + 1 + 1, 0, none⟩ (.int .i64 f3)).setCell ⟨w.heap.size + 1 + 1, 1, none⟩ (.int .i64 f4)).setCell ⟨w.heap.size + 1 + 1 + 1, 0, none⟩ (.int .i64 e3)).setCell ⟨w.heap.size + 1 + 1 + 1, 1, none⟩ (.int .i64 e4)) (w.heap.size + 1 + 1 + 1) 46 #[.int .i64 e3, .int .i64 e4] := (blk_set2 (((show Blk w5 (w.heap.size + 1 + 1 + 1) 46 #[.int .i64 dx, .int .i64 dy] from (HH5.out (w.heap.size + 1 + 1 + 1, 46, [.int .i64 dx, .int .i64 dy]) (by simp))).far (p := ⟨w.heap.size + 1 + 1, 0, none⟩) (by first | omega | (simp <;> omega)) (.int .i64 f3)).far (p := ⟨w.heap.size + 1 + 1, 1, none⟩) (by first | omega | (simp <;> omega)) (.int .i64 f4)) (.int .i64 e3) (.int .i64 e4))
  have XB : Below w.heap.size w (((((w5).setCell ⟨w.heap.size + 1 + 1, 0, none⟩ (.int .i64 f3)).setCell ⟨w.heap.size + 1 + 1, 1, none⟩ (.int .i64 f4)).setCell ⟨w.heap.size + 1 + 1 + 1, 0, none⟩ (.int .i64 e3)).setCell ⟨w.heap.size + 1 + 1 + 1, 1, none⟩ (.int .i64 e4)) := (below_set (below_set (below_set (below_set HB5.out (by first | omega | (simp <;> omega)) _) (by first | omega | (simp <;> omega)) _) (by first | omega | (simp <;> omega)) _) (by first | omega | (simp <;> omega)) _)
  clear k5_0_0 f5_0_0 k5_0_1 f5_0_1 z5_0 k5_1_0 f5_1_0 k5_1_1 f5_1_1 z5_1 k5_2_0 f5_2_0 k5_2_1 f5_2_1 z5_2 k5_3_0 f5_3_0 k5_3_1 f5_3_1 z5_3
  clear HH5 HB5
  obtain ⟨w6, hw6⟩ : ∃ w6 : World, w6 = ((((w5).setCell ⟨w.heap.size + 1 + 1, 0, none⟩ (.int .i64 f3)).setCell ⟨w.heap.size + 1 + 1, 1, none⟩ (.int .i64 f4)).setCell ⟨w.heap.size + 1 + 1 + 1, 0, none⟩ (.int .i64 e3)).setCell ⟨w.heap.size + 1 + 1 + 1, 1, none⟩ (.int .i64 e4) := ⟨_, rfl⟩
  rw [← hw6] at X0 X1 X2 X3 XB ⊢
  clear hw6
  have HH6 : Hid (Blks w6 [(w.heap.size + 1 + 1 + 1, 46, [.int .i64 e3, .int .i64 e4]), (w.heap.size + 1 + 1, 46, [.int .i64 f3, .int .i64 f4]), (w.heap.size + 1, 46, [.int .i64 e1, .int .i64 e2]), (w.heap.size, 46, [.int .i64 f1, .int .i64 f2])]) := Lib.hid (by intro p hp; simp only [List.mem_cons, List.not_mem_nil, or_false] at hp; rcases hp with rfl | rfl | rfl | rfl <;> assumption)
  have HB6 := Lib.hid XB
  clear XB X0 X1 X2 X3
  have B6_0 : Blk w6 (w.heap.size) 46 #[.int .i64 f1, .int .i64 f2] := HH6.out (w.heap.size, 46, [.int .i64 f1, .int .i64 f2]) (by simp)
  have k6_0_0 : w6.cell? ⟨w.heap.size, 0, none⟩ = some (.int .i64 f1) := B6_0.cell 0
  have f6_0_0 : w6.frozen? ⟨w.heap.size, 0, none⟩ = false := B6_0.frozen 0
  have k6_0_1 : w6.cell? ⟨w.heap.size, 1, none⟩ = some (.int .i64 f2) := B6_0.cell 1
  have f6_0_1 : w6.frozen? ⟨w.heap.size, 1, none⟩ = false := B6_0.frozen 1
  have z6_0 : w.heap.size < w6.heap.size := B6_0.lt
  clear B6_0
  have B6_1 : Blk w6 (w.heap.size + 1) 46 #[.int .i64 e1, .int .i64 e2] := HH6.out (w.heap.size + 1, 46, [.int .i64 e1, .int .i64 e2]) (by simp)
  have k6_1_0 : w6.cell? ⟨w.heap.size + 1, 0, none⟩ = some (.int .i64 e1) := B6_1.cell 0
  have f6_1_0 : w6.frozen? ⟨w.heap.size + 1, 0, none⟩ = false := B6_1.frozen 0
  have k6_1_1 : w6.cell? ⟨w.heap.size + 1, 1, none⟩ = some (.int .i64 e2) := B6_1.cell 1
  have f6_1_1 : w6.frozen? ⟨w.heap.size + 1, 1, none⟩ = false := B6_1.frozen 1
  have z6_1 : w.heap.size + 1 < w6.heap.size := B6_1.lt
  clear B6_1
  have B6_2 : Blk w6 (w.heap.size + 1 + 1) 46 #[.int .i64 f3, .int .i64 f4] := HH6.out (w.heap.size + 1 + 1, 46, [.int .i64 f3, .int .i64 f4]) (by simp)
  have k6_2_0 : w6.cell? ⟨w.heap.size + 1 + 1, 0, none⟩ = some (.int .i64 f3) := B6_2.cell 0
  have f6_2_0 : w6.frozen? ⟨w.heap.size + 1 + 1, 0, none⟩ = false := B6_2.frozen 0
  have k6_2_1 : w6.cell? ⟨w.heap.size + 1 + 1, 1, none⟩ = some (.int .i64 f4) := B6_2.cell 1
  have f6_2_1 : w6.frozen? ⟨w.heap.size + 1 + 1, 1, none⟩ = false := B6_2.frozen 1
  have z6_2 : w.heap.size + 1 + 1 < w6.heap.size := B6_2.lt
  clear B6_2
  have B6_3 : Blk w6 (w.heap.size + 1 + 1 + 1) 46 #[.int .i64 e3, .int .i64 e4] := HH6.out (w.heap.size + 1 + 1 + 1, 46, [.int .i64 e3, .int .i64 e4]) (by simp)
  have k6_3_0 : w6.cell? ⟨w.heap.size + 1 + 1 + 1, 0, none⟩ = some (.int .i64 e3) := B6_3.cell 0
  have f6_3_0 : w6.frozen? ⟨w.heap.size + 1 + 1 + 1, 0, none⟩ = false := B6_3.frozen 0
  have k6_3_1 : w6.cell? ⟨w.heap.size + 1 + 1 + 1, 1, none⟩ = some (.int .i64 e4) := B6_3.cell 1
  have f6_3_1 : w6.frozen? ⟨w.heap.size + 1 + 1 + 1, 1, none⟩ = false := B6_3.frozen 1
  have z6_3 : w.heap.size + 1 + 1 + 1 < w6.heap.size := B6_3.lt
  clear B6_3
  have YC : Blk w6 (w.heap.size + 1 + 1) 46 #[.int .i64 f3, .int .i64 f4] := HH6.out (w.heap.size + 1 + 1, 46, [.int .i64 f3, .int .i64 f4]) (by simp)
  have YD : Blk w6 (w.heap.size + 1 + 1 + 1) 46 #[.int .i64 e3, .int .i64 e4] := HH6.out (w.heap.size + 1 + 1 + 1, 46, [.int .i64 e3, .int .i64 e4]) (by simp)
  go_cut [9, 10] (fun p q wx => ∃ gx hx : Nat, p = .pointer (some ⟨gx, 0, none⟩) ∧ q = .pointer (some ⟨hx, 0, none⟩) ∧ gx ≠ hx ∧ w6.heap.size ≤ gx ∧ w6.heap.size ≤ hx ∧ Blk wx gx 46 #[.int .i64 f1, .int .i64 f2] ∧ Blk wx hx 46 #[.int .i64 e1, .int .i64 e2] ∧ Blk wx (w.heap.size + 1 + 1) 46 #[.int .i64 f3, .int .i64 f4] ∧ Blk wx (w.heap.size + 1 + 1 + 1) 46 #[.int .i64 e3, .int .i64 e4] ∧ Below w.heap.size w wx)
  case first =>
    go_region
    all_goals
      go_wp2_with fail
      go_meet
      refine ⟨_, _, rfl, rfl, by omega, by omega, by omega, ?_, ?_, ?_, ?_, ?_⟩
      · repeat (first | with_reducible assumption | (with_reducible refine Blk_at ?_; simp only [World.size_alloc, World.size_drew]; done) | with_reducible refine Blk.drew ?_ | with_reducible refine Blk.alloc ?_ _)
      · repeat (first | with_reducible assumption | (with_reducible refine Blk_at ?_; simp only [World.size_alloc, World.size_drew]; done) | with_reducible refine Blk.drew ?_ | with_reducible refine Blk.alloc ?_ _)
      · repeat (first | with_reducible assumption | (with_reducible refine Blk_at ?_; simp only [World.size_alloc, World.size_drew]; done) | with_reducible refine Blk.drew ?_ | with_reducible refine Blk.alloc ?_ _)
      · repeat (first | with_reducible assumption | (with_reducible refine Blk_at ?_; simp only [World.size_alloc, World.size_drew]; done) | with_reducible refine Blk.drew ?_ | with_reducible refine Blk.alloc ?_ _)
      · repeat (first | with_reducible exact HB6.out | with_reducible refine Below.drew ?_ | with_reducible refine below_drewN ?_ _ | with_reducible refine below_set ?_ (by simp <;> omega) _ | with_reducible refine below_alloc ?_ _)
  case rest =>
    obtain ⟨wd, rfl⟩ : ∃ wd : World, wd = wc := ⟨_, rfl⟩
    obtain ⟨g, h, rfl, rfl, hgh, hg, hh, hC1, hC2, hC3, hC4, hbw2⟩ := hcut
    have zC : w.heap.size + 1 + 1 < w6.heap.size := YC.lt
    have zD : w.heap.size + 1 + 1 + 1 < w6.heap.size := YD.lt
    have hhg : h ≠ g := fun e => hgh e.symm
    clear YC YD HH6 HB6 k6_0_0 f6_0_0 k6_0_1 f6_0_1 z6_0 k6_1_0 f6_1_0 k6_1_1 f6_1_1 z6_1 k6_2_0 f6_2_0 k6_2_1 f6_2_1 z6_2 k6_3_0 f6_3_0 k6_3_1 f6_3_1 z6_3
    have HH20 : Hid (Blks wd [(w.heap.size + 1 + 1 + 1, 46, [.int .i64 e3, .int .i64 e4]), (w.heap.size + 1 + 1, 46, [.int .i64 f3, .int .i64 f4]), (h, 46, [.int .i64 e1, .int .i64 e2]), (g, 46, [.int .i64 f1, .int .i64 f2])]) := Lib.hid (by intro p hp; simp only [List.mem_cons, List.not_mem_nil, or_false] at hp; rcases hp with rfl | rfl | rfl | rfl <;> assumption)
    have HB20 := Lib.hid hbw2
    clear hC1 hC2 hC3 hC4 hbw2
    have B0_0 : Blk wd (g) 46 #[.int .i64 f1, .int .i64 f2] := HH20.out (g, 46, [.int .i64 f1, .int .i64 f2]) (by simp)
    have k0_0_0 : wd.cell? ⟨g, 0, none⟩ = some (.int .i64 f1) := B0_0.cell 0
    have k0_0_1 : wd.cell? ⟨g, 1, none⟩ = some (.int .i64 f2) := B0_0.cell 1
    have z0_0 : g < wd.heap.size := B0_0.lt
    clear B0_0
    have B0_1 : Blk wd (h) 46 #[.int .i64 e1, .int .i64 e2] := HH20.out (h, 46, [.int .i64 e1, .int .i64 e2]) (by simp)
    have k0_1_0 : wd.cell? ⟨h, 0, none⟩ = some (.int .i64 e1) := B0_1.cell 0
    have k0_1_1 : wd.cell? ⟨h, 1, none⟩ = some (.int .i64 e2) := B0_1.cell 1
    have z0_1 : h < wd.heap.size := B0_1.lt
    clear B0_1
    have B0_2 : Blk wd (w.heap.size + 1 + 1) 46 #[.int .i64 f3, .int .i64 f4] := HH20.out (w.heap.size + 1 + 1, 46, [.int .i64 f3, .int .i64 f4]) (by simp)
    have k0_2_0 : wd.cell? ⟨w.heap.size + 1 + 1, 0, none⟩ = some (.int .i64 f3) := B0_2.cell 0
    have k0_2_1 : wd.cell? ⟨w.heap.size + 1 + 1, 1, none⟩ = some (.int .i64 f4) := B0_2.cell 1
    have z0_2 : w.heap.size + 1 + 1 < wd.heap.size := B0_2.lt
    clear B0_2
    have B0_3 : Blk wd (w.heap.size + 1 + 1 + 1) 46 #[.int .i64 e3, .int .i64 e4] := HH20.out (w.heap.size + 1 + 1 + 1, 46, [.int .i64 e3, .int .i64 e4]) (by simp)
    have k0_3_0 : wd.cell? ⟨w.heap.size + 1 + 1 + 1, 0, none⟩ = some (.int .i64 e3) := B0_3.cell 0
    have k0_3_1 : wd.cell? ⟨w.heap.size + 1 + 1 + 1, 1, none⟩ = some (.int .i64 e4) := B0_3.cell 1
    have z0_3 : w.heap.size + 1 + 1 + 1 < wd.heap.size := B0_3.lt
    clear B0_3
    go_wp2_with fail
    refine (k1.out _).mono ?_
    rintro e w21 ⟨rfl, hb21⟩
    have HH21 := Lib.hid ((HH20.out).below hb21)
    have HB21 := Lib.hid (below_trans (HB20.out) hb21)
    clear k0_0_0 k0_0_1 z0_0 k0_1_0 k0_1_1 z0_1 k0_2_0 k0_2_1 z0_2 k0_3_0 k0_3_1 z0_3
    clear hb21
    clear HH20 HB20
    have B21_0 : Blk w21 (g) 46 #[.int .i64 f1, .int .i64 f2] := HH21.out (g, 46, [.int .i64 f1, .int .i64 f2]) (by simp)
    have k21_0_0 : w21.cell? ⟨g, 0, none⟩ = some (.int .i64 f1) := B21_0.cell 0
    have f21_0_0 : w21.frozen? ⟨g, 0, none⟩ = false := B21_0.frozen 0
    have k21_0_1 : w21.cell? ⟨g, 1, none⟩ = some (.int .i64 f2) := B21_0.cell 1
    have f21_0_1 : w21.frozen? ⟨g, 1, none⟩ = false := B21_0.frozen 1
    have z21_0 : g < w21.heap.size := B21_0.lt
    clear B21_0
    have B21_1 : Blk w21 (h) 46 #[.int .i64 e1, .int .i64 e2] := HH21.out (h, 46, [.int .i64 e1, .int .i64 e2]) (by simp)
    have k21_1_0 : w21.cell? ⟨h, 0, none⟩ = some (.int .i64 e1) := B21_1.cell 0
    have f21_1_0 : w21.frozen? ⟨h, 0, none⟩ = false := B21_1.frozen 0
    have k21_1_1 : w21.cell? ⟨h, 1, none⟩ = some (.int .i64 e2) := B21_1.cell 1
    have f21_1_1 : w21.frozen? ⟨h, 1, none⟩ = false := B21_1.frozen 1
    have z21_1 : h < w21.heap.size := B21_1.lt
    clear B21_1
    have B21_2 : Blk w21 (w.heap.size + 1 + 1) 46 #[.int .i64 f3, .int .i64 f4] := HH21.out (w.heap.size + 1 + 1, 46, [.int .i64 f3, .int .i64 f4]) (by simp)
    have k21_2_0 : w21.cell? ⟨w.heap.size + 1 + 1, 0, none⟩ = some (.int .i64 f3) := B21_2.cell 0
    have f21_2_0 : w21.frozen? ⟨w.heap.size + 1 + 1, 0, none⟩ = false := B21_2.frozen 0
    have k21_2_1 : w21.cell? ⟨w.heap.size + 1 + 1, 1, none⟩ = some (.int .i64 f4) := B21_2.cell 1
    have f21_2_1 : w21.frozen? ⟨w.heap.size + 1 + 1, 1, none⟩ = false := B21_2.frozen 1
    have z21_2 : w.heap.size + 1 + 1 < w21.heap.size := B21_2.lt
    clear B21_2
    have B21_3 : Blk w21 (w.heap.size + 1 + 1 + 1) 46 #[.int .i64 e3, .int .i64 e4] := HH21.out (w.heap.size + 1 + 1 + 1, 46, [.int .i64 e3, .int .i64 e4]) (by simp)
    have k21_3_0 : w21.cell? ⟨w.heap.size + 1 + 1 + 1, 0, none⟩ = some (.int .i64 e3) := B21_3.cell 0
    have f21_3_0 : w21.frozen? ⟨w.heap.size + 1 + 1 + 1, 0, none⟩ = false := B21_3.frozen 0
    have k21_3_1 : w21.cell? ⟨w.heap.size + 1 + 1 + 1, 1, none⟩ = some (.int .i64 e4) := B21_3.cell 1
    have f21_3_1 : w21.frozen? ⟨w.heap.size + 1 + 1 + 1, 1, none⟩ = false := B21_3.frozen 1
    have z21_3 : w.heap.size + 1 + 1 + 1 < w21.heap.size := B21_3.lt
    clear B21_3
    go_wp2_with fail
    refine (k2.out _).mono ?_
    rintro e w22 ⟨rfl, hb22⟩
    have HH22 := Lib.hid ((HH21.out).below hb22)
    have HB22 := Lib.hid (below_trans (HB21.out) hb22)
    clear k21_0_0 f21_0_0 k21_0_1 f21_0_1 z21_0 k21_1_0 f21_1_0 k21_1_1 f21_1_1 z21_1 k21_2_0 f21_2_0 k21_2_1 f21_2_1 z21_2 k21_3_0 f21_3_0 k21_3_1 f21_3_1 z21_3
    clear hb22
    clear HH21 HB21
    have B22_0 : Blk w22 (g) 46 #[.int .i64 f1, .int .i64 f2] := HH22.out (g, 46, [.int .i64 f1, .int .i64 f2]) (by simp)
    have k22_0_0 : w22.cell? ⟨g, 0, none⟩ = some (.int .i64 f1) := B22_0.cell 0
    have f22_0_0 : w22.frozen? ⟨g, 0, none⟩ = false := B22_0.frozen 0
    have k22_0_1 : w22.cell? ⟨g, 1, none⟩ = some (.int .i64 f2) := B22_0.cell 1
    have f22_0_1 : w22.frozen? ⟨g, 1, none⟩ = false := B22_0.frozen 1
    have z22_0 : g < w22.heap.size := B22_0.lt
    clear B22_0
    have B22_1 : Blk w22 (h) 46 #[.int .i64 e1, .int .i64 e2] := HH22.out (h, 46, [.int .i64 e1, .int .i64 e2]) (by simp)
    have k22_1_0 : w22.cell? ⟨h, 0, none⟩ = some (.int .i64 e1) := B22_1.cell 0
    have f22_1_0 : w22.frozen? ⟨h, 0, none⟩ = false := B22_1.frozen 0
    have k22_1_1 : w22.cell? ⟨h, 1, none⟩ = some (.int .i64 e2) := B22_1.cell 1
    have f22_1_1 : w22.frozen? ⟨h, 1, none⟩ = false := B22_1.frozen 1
    have z22_1 : h < w22.heap.size := B22_1.lt
    clear B22_1
    have B22_2 : Blk w22 (w.heap.size + 1 + 1) 46 #[.int .i64 f3, .int .i64 f4] := HH22.out (w.heap.size + 1 + 1, 46, [.int .i64 f3, .int .i64 f4]) (by simp)
    have k22_2_0 : w22.cell? ⟨w.heap.size + 1 + 1, 0, none⟩ = some (.int .i64 f3) := B22_2.cell 0
    have f22_2_0 : w22.frozen? ⟨w.heap.size + 1 + 1, 0, none⟩ = false := B22_2.frozen 0
    have k22_2_1 : w22.cell? ⟨w.heap.size + 1 + 1, 1, none⟩ = some (.int .i64 f4) := B22_2.cell 1
    have f22_2_1 : w22.frozen? ⟨w.heap.size + 1 + 1, 1, none⟩ = false := B22_2.frozen 1
    have z22_2 : w.heap.size + 1 + 1 < w22.heap.size := B22_2.lt
    clear B22_2
    have B22_3 : Blk w22 (w.heap.size + 1 + 1 + 1) 46 #[.int .i64 e3, .int .i64 e4] := HH22.out (w.heap.size + 1 + 1 + 1, 46, [.int .i64 e3, .int .i64 e4]) (by simp)
    have k22_3_0 : w22.cell? ⟨w.heap.size + 1 + 1 + 1, 0, none⟩ = some (.int .i64 e3) := B22_3.cell 0
    have f22_3_0 : w22.frozen? ⟨w.heap.size + 1 + 1 + 1, 0, none⟩ = false := B22_3.frozen 0
    have k22_3_1 : w22.cell? ⟨w.heap.size + 1 + 1 + 1, 1, none⟩ = some (.int .i64 e4) := B22_3.cell 1
    have f22_3_1 : w22.frozen? ⟨w.heap.size + 1 + 1 + 1, 1, none⟩ = false := B22_3.frozen 1
    have z22_3 : w.heap.size + 1 + 1 + 1 < w22.heap.size := B22_3.lt
    clear B22_3
    go_upto_region 13 with fail
    have X0 : Blk (((w22).setCell ⟨h, 0, none⟩ (.int .i64 e3)).setCell ⟨h, 1, none⟩ (.int .i64 e4)) (g) 46 #[.int .i64 f1, .int .i64 f2] := (((show Blk w22 (g) 46 #[.int .i64 f1, .int .i64 f2] from (HH22.out (g, 46, [.int .i64 f1, .int .i64 f2]) (by simp))).far (p := ⟨h, 0, none⟩) (by first | omega | (simp <;> omega)) (.int .i64 e3)).far (p := ⟨h, 1, none⟩) (by first | omega | (simp <;> omega)) (.int .i64 e4))
    have X1 : Blk (((w22).setCell ⟨h, 0, none⟩ (.int .i64 e3)).setCell ⟨h, 1, none⟩ (.int .i64 e4)) (h) 46 #[.int .i64 e3, .int .i64 e4] := (blk_set2 (show Blk w22 (h) 46 #[.int .i64 e1, .int .i64 e2] from (HH22.out (h, 46, [.int .i64 e1, .int .i64 e2]) (by simp))) (.int .i64 e3) (.int .i64 e4))
    have X2 : Blk (((w22).setCell ⟨h, 0, none⟩ (.int .i64 e3)).setCell ⟨h, 1, none⟩ (.int .i64 e4)) (w.heap.size + 1 + 1) 46 #[.int .i64 f3, .int .i64 f4] := (((show Blk w22 (w.heap.size + 1 + 1) 46 #[.int .i64 f3, .int .i64 f4] from (HH22.out (w.heap.size + 1 + 1, 46, [.int .i64 f3, .int .i64 f4]) (by simp))).far (p := ⟨h, 0, none⟩) (by first | omega | (simp <;> omega)) (.int .i64 e3)).far (p := ⟨h, 1, none⟩) (by first | omega | (simp <;> omega)) (.int .i64 e4))
    have X3 : Blk (((w22).setCell ⟨h, 0, none⟩ (.int .i64 e3)).setCell ⟨h, 1, none⟩ (.int .i64 e4)) (w.heap.size + 1 + 1 + 1) 46 #[.int .i64 e3, .int .i64 e4] := (((show Blk w22 (w.heap.size + 1 + 1 + 1) 46 #[.int .i64 e3, .int .i64 e4] from (HH22.out (w.heap.size + 1 + 1 + 1, 46, [.int .i64 e3, .int .i64 e4]) (by simp))).far (p := ⟨h, 0, none⟩) (by first | omega | (simp <;> omega)) (.int .i64 e3)).far (p := ⟨h, 1, none⟩) (by first | omega | (simp <;> omega)) (.int .i64 e4))
    have XB : Below w.heap.size w (((w22).setCell ⟨h, 0, none⟩ (.int .i64 e3)).setCell ⟨h, 1, none⟩ (.int .i64 e4)) := (below_set (below_set HB22.out (by first | omega | (simp <;> omega)) _) (by first | omega | (simp <;> omega)) _)
    clear k22_0_0 f22_0_0 k22_0_1 f22_0_1 z22_0 k22_1_0 f22_1_0 k22_1_1 f22_1_1 z22_1 k22_2_0 f22_2_0 k22_2_1 f22_2_1 z22_2 k22_3_0 f22_3_0 k22_3_1 f22_3_1 z22_3
    clear HH22 HB22
    obtain ⟨w23, hw23⟩ : ∃ w23 : World, w23 = ((w22).setCell ⟨h, 0, none⟩ (.int .i64 e3)).setCell ⟨h, 1, none⟩ (.int .i64 e4) := ⟨_, rfl⟩
    rw [← hw23] at X0 X1 X2 X3 XB ⊢
    clear hw23
    have HH23 : Hid (Blks w23 [(w.heap.size + 1 + 1 + 1, 46, [.int .i64 e3, .int .i64 e4]), (w.heap.size + 1 + 1, 46, [.int .i64 f3, .int .i64 f4]), (h, 46, [.int .i64 e3, .int .i64 e4]), (g, 46, [.int .i64 f1, .int .i64 f2])]) := Lib.hid (by intro p hp; simp only [List.mem_cons, List.not_mem_nil, or_false] at hp; rcases hp with rfl | rfl | rfl | rfl <;> assumption)
    have HB23 := Lib.hid XB
    clear XB X0 X1 X2 X3
    have B23_0 : Blk w23 (g) 46 #[.int .i64 f1, .int .i64 f2] := HH23.out (g, 46, [.int .i64 f1, .int .i64 f2]) (by simp)
    have k23_0_0 : w23.cell? ⟨g, 0, none⟩ = some (.int .i64 f1) := B23_0.cell 0
    have f23_0_0 : w23.frozen? ⟨g, 0, none⟩ = false := B23_0.frozen 0
    have k23_0_1 : w23.cell? ⟨g, 1, none⟩ = some (.int .i64 f2) := B23_0.cell 1
    have f23_0_1 : w23.frozen? ⟨g, 1, none⟩ = false := B23_0.frozen 1
    have z23_0 : g < w23.heap.size := B23_0.lt
    clear B23_0
    have B23_1 : Blk w23 (h) 46 #[.int .i64 e3, .int .i64 e4] := HH23.out (h, 46, [.int .i64 e3, .int .i64 e4]) (by simp)
    have k23_1_0 : w23.cell? ⟨h, 0, none⟩ = some (.int .i64 e3) := B23_1.cell 0
    have f23_1_0 : w23.frozen? ⟨h, 0, none⟩ = false := B23_1.frozen 0
    have k23_1_1 : w23.cell? ⟨h, 1, none⟩ = some (.int .i64 e4) := B23_1.cell 1
    have f23_1_1 : w23.frozen? ⟨h, 1, none⟩ = false := B23_1.frozen 1
    have z23_1 : h < w23.heap.size := B23_1.lt
    clear B23_1
    have B23_2 : Blk w23 (w.heap.size + 1 + 1) 46 #[.int .i64 f3, .int .i64 f4] := HH23.out (w.heap.size + 1 + 1, 46, [.int .i64 f3, .int .i64 f4]) (by simp)
    have k23_2_0 : w23.cell? ⟨w.heap.size + 1 + 1, 0, none⟩ = some (.int .i64 f3) := B23_2.cell 0
    have f23_2_0 : w23.frozen? ⟨w.heap.size + 1 + 1, 0, none⟩ = false := B23_2.frozen 0
    have k23_2_1 : w23.cell? ⟨w.heap.size + 1 + 1, 1, none⟩ = some (.int .i64 f4) := B23_2.cell 1
    have f23_2_1 : w23.frozen? ⟨w.heap.size + 1 + 1, 1, none⟩ = false := B23_2.frozen 1
    have z23_2 : w.heap.size + 1 + 1 < w23.heap.size := B23_2.lt
    clear B23_2
    have B23_3 : Blk w23 (w.heap.size + 1 + 1 + 1) 46 #[.int .i64 e3, .int .i64 e4] := HH23.out (w.heap.size + 1 + 1 + 1, 46, [.int .i64 e3, .int .i64 e4]) (by simp)
    have k23_3_0 : w23.cell? ⟨w.heap.size + 1 + 1 + 1, 0, none⟩ = some (.int .i64 e3) := B23_3.cell 0
    have f23_3_0 : w23.frozen? ⟨w.heap.size + 1 + 1 + 1, 0, none⟩ = false := B23_3.frozen 0
    have k23_3_1 : w23.cell? ⟨w.heap.size + 1 + 1 + 1, 1, none⟩ = some (.int .i64 e4) := B23_3.cell 1
    have f23_3_1 : w23.frozen? ⟨w.heap.size + 1 + 1 + 1, 1, none⟩ = false := B23_3.frozen 1
    have z23_3 : w.heap.size + 1 + 1 + 1 < w23.heap.size := B23_3.lt
    clear B23_3
    go_wp2_with fail
    refine (k3.out _).mono ?_
    rintro e w24 ⟨rfl, hb24⟩
    have HH24 := Lib.hid ((HH23.out).below hb24)
    have HB24 := Lib.hid (below_trans (HB23.out) hb24)
    clear k23_0_0 f23_0_0 k23_0_1 f23_0_1 z23_0 k23_1_0 f23_1_0 k23_1_1 f23_1_1 z23_1 k23_2_0 f23_2_0 k23_2_1 f23_2_1 z23_2 k23_3_0 f23_3_0 k23_3_1 f23_3_1 z23_3
    clear hb24
    clear HH23 HB23
    have B24_0 : Blk w24 (g) 46 #[.int .i64 f1, .int .i64 f2] := HH24.out (g, 46, [.int .i64 f1, .int .i64 f2]) (by simp)
    have k24_0_0 : w24.cell? ⟨g, 0, none⟩ = some (.int .i64 f1) := B24_0.cell 0
    have k24_0_1 : w24.cell? ⟨g, 1, none⟩ = some (.int .i64 f2) := B24_0.cell 1
    have z24_0 : g < w24.heap.size := B24_0.lt
    clear B24_0
    have B24_1 : Blk w24 (h) 46 #[.int .i64 e3, .int .i64 e4] := HH24.out (h, 46, [.int .i64 e3, .int .i64 e4]) (by simp)
    have k24_1_0 : w24.cell? ⟨h, 0, none⟩ = some (.int .i64 e3) := B24_1.cell 0
    have k24_1_1 : w24.cell? ⟨h, 1, none⟩ = some (.int .i64 e4) := B24_1.cell 1
    have z24_1 : h < w24.heap.size := B24_1.lt
    clear B24_1
    have B24_2 : Blk w24 (w.heap.size + 1 + 1) 46 #[.int .i64 f3, .int .i64 f4] := HH24.out (w.heap.size + 1 + 1, 46, [.int .i64 f3, .int .i64 f4]) (by simp)
    have k24_2_0 : w24.cell? ⟨w.heap.size + 1 + 1, 0, none⟩ = some (.int .i64 f3) := B24_2.cell 0
    have k24_2_1 : w24.cell? ⟨w.heap.size + 1 + 1, 1, none⟩ = some (.int .i64 f4) := B24_2.cell 1
    have z24_2 : w.heap.size + 1 + 1 < w24.heap.size := B24_2.lt
    clear B24_2
    have B24_3 : Blk w24 (w.heap.size + 1 + 1 + 1) 46 #[.int .i64 e3, .int .i64 e4] := HH24.out (w.heap.size + 1 + 1 + 1, 46, [.int .i64 e3, .int .i64 e4]) (by simp)
    have k24_3_0 : w24.cell? ⟨w.heap.size + 1 + 1 + 1, 0, none⟩ = some (.int .i64 e3) := B24_3.cell 0
    have k24_3_1 : w24.cell? ⟨w.heap.size + 1 + 1 + 1, 1, none⟩ = some (.int .i64 e4) := B24_3.cell 1
    have z24_3 : w.heap.size + 1 + 1 + 1 < w24.heap.size := B24_3.lt
    clear B24_3
    have HBz := HB24.out
    rcases h3 : bef f1 f2 e3 e4 with _ | _
    · by_cases he : f1 = e3 ∧ f2 = e4
      · have HV := Lib.hid (show v = 1 by rw [HV.out, h3, if_neg (by simp), if_pos he])
        have q3 := fun W => pt_eq_eql he W
        clear he
        go_wp2
        go_returns
        exact ⟨ret_int HV.out.symm, HBz⟩
      · have HV := Lib.hid (show v = 0 by rw [HV.out, h3, if_neg (by simp), if_neg he])
        have q3 := fun W => pt_diff_eql he W
        clear he
        go_wp2
        go_returns
        exact ⟨ret_int HV.out.symm, HBz⟩
    · have HV := Lib.hid (show v = 2 by rw [HV.out, h3, if_pos rfl])
      go_wp2
      go_returns
      exact ⟨ret_int HV.out.symm, HBz⟩
set_option maxRecDepth 100000 in
set_option maxHeartbeats 6400000 in
theorem rmeet_3ann (ax ay bx bY cx cy dx dy v : Int) (h1 : in2 ax ay = true) (h2 : in2 bx bY = true) (h3 : in2 cx cy = true) (h4 : in2 dx dy = true) (hab : ¬ (ax = bx ∧ ay = bY)) (hcd : ¬ (cx = dx ∧ cy = dy)) (ht1 : turnI ax ay bx bY cx cy = 0) (ht2 : turnI ax ay bx bY dx dy = 0) (hb1 : bef (fst2 ax ay bx bY).1 (fst2 ax ay bx bY).2 (fst2 cx cy dx dy).1 (fst2 cx cy dx dy).2 = false) (hb2 : bef (lst2 cx cy dx dy).1 (lst2 cx cy dx dy).2 (lst2 ax ay bx bY).1 (lst2 ax ay bx bY).2 = false) (hv : v = if bef (fst2 ax ay bx bY).1 (fst2 ax ay bx bY).2 (lst2 ax ay bx bY).1 (lst2 ax ay bx bY).2 = true then 2 else if (fst2 ax ay bx bY).1 = (lst2 ax ay bx bY).1 ∧ (fst2 ax ay bx bY).2 = (lst2 ax ay bx bY).2 then 1 else 0) (w : World) : Calls Try.prog 35 #[.agg #[.int .i64 ax, .int .i64 ay], .agg #[.int .i64 bx, .int .i64 bY], .agg #[.int .i64 cx, .int .i64 cy], .agg #[.int .i64 dx, .int .i64 dy]] w fun e w' => e = .returned (.int .i64 v) ∧ Below w.heap.size w w' := by
  have gd := fun x y xs ys W => pt_guard .eql x y xs ys W
  have q1 := fun W => pt_diff_eql hab W
  have q2 := fun W => pt_diff_eql hcd W
  have c1 := Lib.hid fun W => rturn_any ax ay bx bY cx cy h1 h2 h3 W
  have c2 := Lib.hid fun W => rturn_any ax ay bx bY dx dy h1 h2 h4 W
  rw [ht1] at c1
  rw [ht2] at c2
  have s1 := Lib.hid fun W => sorted_any ax ay bx bY W
  have s2 := Lib.hid fun W => sorted_any cx cy dx dy W
  clear h1 h2 h3 h4 hab hcd ht1 ht2
  generalize (fst2 ax ay bx bY).1 = f1 at *
  generalize (fst2 ax ay bx bY).2 = f2 at *
  generalize (lst2 ax ay bx bY).1 = e1 at *
  generalize (lst2 ax ay bx bY).2 = e2 at *
  generalize (fst2 cx cy dx dy).1 = f3 at *
  generalize (fst2 cx cy dx dy).2 = f4 at *
  generalize (lst2 cx cy dx dy).1 = e3 at *
  generalize (lst2 cx cy dx dy).2 = e4 at *
  have k1 := Lib.hid fun W => before_any f1 f2 f3 f4 W
  have k2 := Lib.hid fun W => before_any e3 e4 e1 e2 W
  have k3 := Lib.hid fun W => before_any f1 f2 e1 e2 W
  rw [hb1] at k1
  rw [hb2] at k2
  have HV := Lib.hid hv
  clear hb1 hb2 hv
  go_enter Try.func35, Try.ntmps35
  go_wp2_with fail
  refine (c1.out _).mono ?_
  rintro e w1 ⟨rfl, hb1⟩
  have HH1 := Lib.hid (((((((Blks.nil (w := w))).new (w.heap.size) 46 [.int .i64 ax, .int .i64 ay] rfl).new (w.heap.size + 1) 46 [.int .i64 bx, .int .i64 bY] (by simp)).new (w.heap.size + 1 + 1) 46 [.int .i64 cx, .int .i64 cy] (by simp)).new (w.heap.size + 1 + 1 + 1) 46 [.int .i64 dx, .int .i64 dy] (by simp)).below hb1)
  have HB1 := Lib.hid (below_trans (below_alloc (below_alloc (below_alloc (below_alloc (Below.refl _ _) _) _) _) _) hb1)
  clear hb1
  have B1_0 : Blk w1 (w.heap.size) 46 #[.int .i64 ax, .int .i64 ay] := HH1.out (w.heap.size, 46, [.int .i64 ax, .int .i64 ay]) (by simp)
  have k1_0_0 : w1.cell? ⟨w.heap.size, 0, none⟩ = some (.int .i64 ax) := B1_0.cell 0
  have k1_0_1 : w1.cell? ⟨w.heap.size, 1, none⟩ = some (.int .i64 ay) := B1_0.cell 1
  have z1_0 : w.heap.size < w1.heap.size := B1_0.lt
  clear B1_0
  have B1_1 : Blk w1 (w.heap.size + 1) 46 #[.int .i64 bx, .int .i64 bY] := HH1.out (w.heap.size + 1, 46, [.int .i64 bx, .int .i64 bY]) (by simp)
  have k1_1_0 : w1.cell? ⟨w.heap.size + 1, 0, none⟩ = some (.int .i64 bx) := B1_1.cell 0
  have k1_1_1 : w1.cell? ⟨w.heap.size + 1, 1, none⟩ = some (.int .i64 bY) := B1_1.cell 1
  have z1_1 : w.heap.size + 1 < w1.heap.size := B1_1.lt
  clear B1_1
  have B1_2 : Blk w1 (w.heap.size + 1 + 1) 46 #[.int .i64 cx, .int .i64 cy] := HH1.out (w.heap.size + 1 + 1, 46, [.int .i64 cx, .int .i64 cy]) (by simp)
  have k1_2_0 : w1.cell? ⟨w.heap.size + 1 + 1, 0, none⟩ = some (.int .i64 cx) := B1_2.cell 0
  have k1_2_1 : w1.cell? ⟨w.heap.size + 1 + 1, 1, none⟩ = some (.int .i64 cy) := B1_2.cell 1
  have z1_2 : w.heap.size + 1 + 1 < w1.heap.size := B1_2.lt
  clear B1_2
  have B1_3 : Blk w1 (w.heap.size + 1 + 1 + 1) 46 #[.int .i64 dx, .int .i64 dy] := HH1.out (w.heap.size + 1 + 1 + 1, 46, [.int .i64 dx, .int .i64 dy]) (by simp)
  have k1_3_0 : w1.cell? ⟨w.heap.size + 1 + 1 + 1, 0, none⟩ = some (.int .i64 dx) := B1_3.cell 0
  have k1_3_1 : w1.cell? ⟨w.heap.size + 1 + 1 + 1, 1, none⟩ = some (.int .i64 dy) := B1_3.cell 1
  have z1_3 : w.heap.size + 1 + 1 + 1 < w1.heap.size := B1_3.lt
  clear B1_3
  go_wp2_with fail
  refine (c2.out _).mono ?_
  rintro e w2 ⟨rfl, hb2⟩
  have HH2 := Lib.hid ((HH1.out).below hb2)
  have HB2 := Lib.hid (below_trans (HB1.out) hb2)
  clear k1_0_0 k1_0_1 z1_0 k1_1_0 k1_1_1 z1_1 k1_2_0 k1_2_1 z1_2 k1_3_0 k1_3_1 z1_3
  clear hb2
  clear HH1 HB1
  have B2_0 : Blk w2 (w.heap.size) 46 #[.int .i64 ax, .int .i64 ay] := HH2.out (w.heap.size, 46, [.int .i64 ax, .int .i64 ay]) (by simp)
  have k2_0_0 : w2.cell? ⟨w.heap.size, 0, none⟩ = some (.int .i64 ax) := B2_0.cell 0
  have k2_0_1 : w2.cell? ⟨w.heap.size, 1, none⟩ = some (.int .i64 ay) := B2_0.cell 1
  have z2_0 : w.heap.size < w2.heap.size := B2_0.lt
  clear B2_0
  have B2_1 : Blk w2 (w.heap.size + 1) 46 #[.int .i64 bx, .int .i64 bY] := HH2.out (w.heap.size + 1, 46, [.int .i64 bx, .int .i64 bY]) (by simp)
  have k2_1_0 : w2.cell? ⟨w.heap.size + 1, 0, none⟩ = some (.int .i64 bx) := B2_1.cell 0
  have k2_1_1 : w2.cell? ⟨w.heap.size + 1, 1, none⟩ = some (.int .i64 bY) := B2_1.cell 1
  have z2_1 : w.heap.size + 1 < w2.heap.size := B2_1.lt
  clear B2_1
  have B2_2 : Blk w2 (w.heap.size + 1 + 1) 46 #[.int .i64 cx, .int .i64 cy] := HH2.out (w.heap.size + 1 + 1, 46, [.int .i64 cx, .int .i64 cy]) (by simp)
  have k2_2_0 : w2.cell? ⟨w.heap.size + 1 + 1, 0, none⟩ = some (.int .i64 cx) := B2_2.cell 0
  have k2_2_1 : w2.cell? ⟨w.heap.size + 1 + 1, 1, none⟩ = some (.int .i64 cy) := B2_2.cell 1
  have z2_2 : w.heap.size + 1 + 1 < w2.heap.size := B2_2.lt
  clear B2_2
  have B2_3 : Blk w2 (w.heap.size + 1 + 1 + 1) 46 #[.int .i64 dx, .int .i64 dy] := HH2.out (w.heap.size + 1 + 1 + 1, 46, [.int .i64 dx, .int .i64 dy]) (by simp)
  have k2_3_0 : w2.cell? ⟨w.heap.size + 1 + 1 + 1, 0, none⟩ = some (.int .i64 dx) := B2_3.cell 0
  have k2_3_1 : w2.cell? ⟨w.heap.size + 1 + 1 + 1, 1, none⟩ = some (.int .i64 dy) := B2_3.cell 1
  have z2_3 : w.heap.size + 1 + 1 + 1 < w2.heap.size := B2_3.lt
  clear B2_3
  go_wp2_with fail
  refine (s1.out _).mono ?_
  rintro e w3 ⟨rfl, hb3⟩
  have HH3 := Lib.hid ((HH2.out).below hb3)
  have HB3 := Lib.hid (below_trans (HB2.out) hb3)
  clear k2_0_0 k2_0_1 z2_0 k2_1_0 k2_1_1 z2_1 k2_2_0 k2_2_1 z2_2 k2_3_0 k2_3_1 z2_3
  clear hb3
  clear HH2 HB2
  have B3_0 : Blk w3 (w.heap.size) 46 #[.int .i64 ax, .int .i64 ay] := HH3.out (w.heap.size, 46, [.int .i64 ax, .int .i64 ay]) (by simp)
  have k3_0_0 : w3.cell? ⟨w.heap.size, 0, none⟩ = some (.int .i64 ax) := B3_0.cell 0
  have f3_0_0 : w3.frozen? ⟨w.heap.size, 0, none⟩ = false := B3_0.frozen 0
  have k3_0_1 : w3.cell? ⟨w.heap.size, 1, none⟩ = some (.int .i64 ay) := B3_0.cell 1
  have f3_0_1 : w3.frozen? ⟨w.heap.size, 1, none⟩ = false := B3_0.frozen 1
  have z3_0 : w.heap.size < w3.heap.size := B3_0.lt
  clear B3_0
  have B3_1 : Blk w3 (w.heap.size + 1) 46 #[.int .i64 bx, .int .i64 bY] := HH3.out (w.heap.size + 1, 46, [.int .i64 bx, .int .i64 bY]) (by simp)
  have k3_1_0 : w3.cell? ⟨w.heap.size + 1, 0, none⟩ = some (.int .i64 bx) := B3_1.cell 0
  have f3_1_0 : w3.frozen? ⟨w.heap.size + 1, 0, none⟩ = false := B3_1.frozen 0
  have k3_1_1 : w3.cell? ⟨w.heap.size + 1, 1, none⟩ = some (.int .i64 bY) := B3_1.cell 1
  have f3_1_1 : w3.frozen? ⟨w.heap.size + 1, 1, none⟩ = false := B3_1.frozen 1
  have z3_1 : w.heap.size + 1 < w3.heap.size := B3_1.lt
  clear B3_1
  have B3_2 : Blk w3 (w.heap.size + 1 + 1) 46 #[.int .i64 cx, .int .i64 cy] := HH3.out (w.heap.size + 1 + 1, 46, [.int .i64 cx, .int .i64 cy]) (by simp)
  have k3_2_0 : w3.cell? ⟨w.heap.size + 1 + 1, 0, none⟩ = some (.int .i64 cx) := B3_2.cell 0
  have f3_2_0 : w3.frozen? ⟨w.heap.size + 1 + 1, 0, none⟩ = false := B3_2.frozen 0
  have k3_2_1 : w3.cell? ⟨w.heap.size + 1 + 1, 1, none⟩ = some (.int .i64 cy) := B3_2.cell 1
  have f3_2_1 : w3.frozen? ⟨w.heap.size + 1 + 1, 1, none⟩ = false := B3_2.frozen 1
  have z3_2 : w.heap.size + 1 + 1 < w3.heap.size := B3_2.lt
  clear B3_2
  have B3_3 : Blk w3 (w.heap.size + 1 + 1 + 1) 46 #[.int .i64 dx, .int .i64 dy] := HH3.out (w.heap.size + 1 + 1 + 1, 46, [.int .i64 dx, .int .i64 dy]) (by simp)
  have k3_3_0 : w3.cell? ⟨w.heap.size + 1 + 1 + 1, 0, none⟩ = some (.int .i64 dx) := B3_3.cell 0
  have f3_3_0 : w3.frozen? ⟨w.heap.size + 1 + 1 + 1, 0, none⟩ = false := B3_3.frozen 0
  have k3_3_1 : w3.cell? ⟨w.heap.size + 1 + 1 + 1, 1, none⟩ = some (.int .i64 dy) := B3_3.cell 1
  have f3_3_1 : w3.frozen? ⟨w.heap.size + 1 + 1 + 1, 1, none⟩ = false := B3_3.frozen 1
  have z3_3 : w.heap.size + 1 + 1 + 1 < w3.heap.size := B3_3.lt
  clear B3_3
  go_upto_region 7 with fail
  have X0 : Blk (((((w3).setCell ⟨w.heap.size, 0, none⟩ (.int .i64 f1)).setCell ⟨w.heap.size, 1, none⟩ (.int .i64 f2)).setCell ⟨w.heap.size + 1, 0, none⟩ (.int .i64 e1)).setCell ⟨w.heap.size + 1, 1, none⟩ (.int .i64 e2)) (w.heap.size) 46 #[.int .i64 f1, .int .i64 f2] := (((blk_set2 (show Blk w3 (w.heap.size) 46 #[.int .i64 ax, .int .i64 ay] from (HH3.out (w.heap.size, 46, [.int .i64 ax, .int .i64 ay]) (by simp))) (.int .i64 f1) (.int .i64 f2)).far (p := ⟨w.heap.size + 1, 0, none⟩) (by first | omega | (simp <;> omega)) (.int .i64 e1)).far (p := ⟨w.heap.size + 1, 1, none⟩) (by first | omega | (simp <;> omega)) (.int .i64 e2))
  have X1 : Blk (((((w3).setCell ⟨w.heap.size, 0, none⟩ (.int .i64 f1)).setCell ⟨w.heap.size, 1, none⟩ (.int .i64 f2)).setCell ⟨w.heap.size + 1, 0, none⟩ (.int .i64 e1)).setCell ⟨w.heap.size + 1, 1, none⟩ (.int .i64 e2)) (w.heap.size + 1) 46 #[.int .i64 e1, .int .i64 e2] := (blk_set2 (((show Blk w3 (w.heap.size + 1) 46 #[.int .i64 bx, .int .i64 bY] from (HH3.out (w.heap.size + 1, 46, [.int .i64 bx, .int .i64 bY]) (by simp))).far (p := ⟨w.heap.size, 0, none⟩) (by first | omega | (simp <;> omega)) (.int .i64 f1)).far (p := ⟨w.heap.size, 1, none⟩) (by first | omega | (simp <;> omega)) (.int .i64 f2)) (.int .i64 e1) (.int .i64 e2))
  have X2 : Blk (((((w3).setCell ⟨w.heap.size, 0, none⟩ (.int .i64 f1)).setCell ⟨w.heap.size, 1, none⟩ (.int .i64 f2)).setCell ⟨w.heap.size + 1, 0, none⟩ (.int .i64 e1)).setCell ⟨w.heap.size + 1, 1, none⟩ (.int .i64 e2)) (w.heap.size + 1 + 1) 46 #[.int .i64 cx, .int .i64 cy] := (((((show Blk w3 (w.heap.size + 1 + 1) 46 #[.int .i64 cx, .int .i64 cy] from (HH3.out (w.heap.size + 1 + 1, 46, [.int .i64 cx, .int .i64 cy]) (by simp))).far (p := ⟨w.heap.size, 0, none⟩) (by first | omega | (simp <;> omega)) (.int .i64 f1)).far (p := ⟨w.heap.size, 1, none⟩) (by first | omega | (simp <;> omega)) (.int .i64 f2)).far (p := ⟨w.heap.size + 1, 0, none⟩) (by first | omega | (simp <;> omega)) (.int .i64 e1)).far (p := ⟨w.heap.size + 1, 1, none⟩) (by first | omega | (simp <;> omega)) (.int .i64 e2))
  have X3 : Blk (((((w3).setCell ⟨w.heap.size, 0, none⟩ (.int .i64 f1)).setCell ⟨w.heap.size, 1, none⟩ (.int .i64 f2)).setCell ⟨w.heap.size + 1, 0, none⟩ (.int .i64 e1)).setCell ⟨w.heap.size + 1, 1, none⟩ (.int .i64 e2)) (w.heap.size + 1 + 1 + 1) 46 #[.int .i64 dx, .int .i64 dy] := (((((show Blk w3 (w.heap.size + 1 + 1 + 1) 46 #[.int .i64 dx, .int .i64 dy] from (HH3.out (w.heap.size + 1 + 1 + 1, 46, [.int .i64 dx, .int .i64 dy]) (by simp))).far (p := ⟨w.heap.size, 0, none⟩) (by first | omega | (simp <;> omega)) (.int .i64 f1)).far (p := ⟨w.heap.size, 1, none⟩) (by first | omega | (simp <;> omega)) (.int .i64 f2)).far (p := ⟨w.heap.size + 1, 0, none⟩) (by first | omega | (simp <;> omega)) (.int .i64 e1)).far (p := ⟨w.heap.size + 1, 1, none⟩) (by first | omega | (simp <;> omega)) (.int .i64 e2))
  have XB : Below w.heap.size w (((((w3).setCell ⟨w.heap.size, 0, none⟩ (.int .i64 f1)).setCell ⟨w.heap.size, 1, none⟩ (.int .i64 f2)).setCell ⟨w.heap.size + 1, 0, none⟩ (.int .i64 e1)).setCell ⟨w.heap.size + 1, 1, none⟩ (.int .i64 e2)) := (below_set (below_set (below_set (below_set HB3.out (by first | omega | (simp <;> omega)) _) (by first | omega | (simp <;> omega)) _) (by first | omega | (simp <;> omega)) _) (by first | omega | (simp <;> omega)) _)
  clear k3_0_0 f3_0_0 k3_0_1 f3_0_1 z3_0 k3_1_0 f3_1_0 k3_1_1 f3_1_1 z3_1 k3_2_0 f3_2_0 k3_2_1 f3_2_1 z3_2 k3_3_0 f3_3_0 k3_3_1 f3_3_1 z3_3
  clear HH3 HB3
  obtain ⟨w4, hw4⟩ : ∃ w4 : World, w4 = ((((w3).setCell ⟨w.heap.size, 0, none⟩ (.int .i64 f1)).setCell ⟨w.heap.size, 1, none⟩ (.int .i64 f2)).setCell ⟨w.heap.size + 1, 0, none⟩ (.int .i64 e1)).setCell ⟨w.heap.size + 1, 1, none⟩ (.int .i64 e2) := ⟨_, rfl⟩
  rw [← hw4] at X0 X1 X2 X3 XB ⊢
  clear hw4
  have HH4 : Hid (Blks w4 [(w.heap.size + 1 + 1 + 1, 46, [.int .i64 dx, .int .i64 dy]), (w.heap.size + 1 + 1, 46, [.int .i64 cx, .int .i64 cy]), (w.heap.size + 1, 46, [.int .i64 e1, .int .i64 e2]), (w.heap.size, 46, [.int .i64 f1, .int .i64 f2])]) := Lib.hid (by intro p hp; simp only [List.mem_cons, List.not_mem_nil, or_false] at hp; rcases hp with rfl | rfl | rfl | rfl <;> assumption)
  have HB4 := Lib.hid XB
  clear XB X0 X1 X2 X3
  have B4_0 : Blk w4 (w.heap.size) 46 #[.int .i64 f1, .int .i64 f2] := HH4.out (w.heap.size, 46, [.int .i64 f1, .int .i64 f2]) (by simp)
  have k4_0_0 : w4.cell? ⟨w.heap.size, 0, none⟩ = some (.int .i64 f1) := B4_0.cell 0
  have f4_0_0 : w4.frozen? ⟨w.heap.size, 0, none⟩ = false := B4_0.frozen 0
  have k4_0_1 : w4.cell? ⟨w.heap.size, 1, none⟩ = some (.int .i64 f2) := B4_0.cell 1
  have f4_0_1 : w4.frozen? ⟨w.heap.size, 1, none⟩ = false := B4_0.frozen 1
  have z4_0 : w.heap.size < w4.heap.size := B4_0.lt
  clear B4_0
  have B4_1 : Blk w4 (w.heap.size + 1) 46 #[.int .i64 e1, .int .i64 e2] := HH4.out (w.heap.size + 1, 46, [.int .i64 e1, .int .i64 e2]) (by simp)
  have k4_1_0 : w4.cell? ⟨w.heap.size + 1, 0, none⟩ = some (.int .i64 e1) := B4_1.cell 0
  have f4_1_0 : w4.frozen? ⟨w.heap.size + 1, 0, none⟩ = false := B4_1.frozen 0
  have k4_1_1 : w4.cell? ⟨w.heap.size + 1, 1, none⟩ = some (.int .i64 e2) := B4_1.cell 1
  have f4_1_1 : w4.frozen? ⟨w.heap.size + 1, 1, none⟩ = false := B4_1.frozen 1
  have z4_1 : w.heap.size + 1 < w4.heap.size := B4_1.lt
  clear B4_1
  have B4_2 : Blk w4 (w.heap.size + 1 + 1) 46 #[.int .i64 cx, .int .i64 cy] := HH4.out (w.heap.size + 1 + 1, 46, [.int .i64 cx, .int .i64 cy]) (by simp)
  have k4_2_0 : w4.cell? ⟨w.heap.size + 1 + 1, 0, none⟩ = some (.int .i64 cx) := B4_2.cell 0
  have f4_2_0 : w4.frozen? ⟨w.heap.size + 1 + 1, 0, none⟩ = false := B4_2.frozen 0
  have k4_2_1 : w4.cell? ⟨w.heap.size + 1 + 1, 1, none⟩ = some (.int .i64 cy) := B4_2.cell 1
  have f4_2_1 : w4.frozen? ⟨w.heap.size + 1 + 1, 1, none⟩ = false := B4_2.frozen 1
  have z4_2 : w.heap.size + 1 + 1 < w4.heap.size := B4_2.lt
  clear B4_2
  have B4_3 : Blk w4 (w.heap.size + 1 + 1 + 1) 46 #[.int .i64 dx, .int .i64 dy] := HH4.out (w.heap.size + 1 + 1 + 1, 46, [.int .i64 dx, .int .i64 dy]) (by simp)
  have k4_3_0 : w4.cell? ⟨w.heap.size + 1 + 1 + 1, 0, none⟩ = some (.int .i64 dx) := B4_3.cell 0
  have f4_3_0 : w4.frozen? ⟨w.heap.size + 1 + 1 + 1, 0, none⟩ = false := B4_3.frozen 0
  have k4_3_1 : w4.cell? ⟨w.heap.size + 1 + 1 + 1, 1, none⟩ = some (.int .i64 dy) := B4_3.cell 1
  have f4_3_1 : w4.frozen? ⟨w.heap.size + 1 + 1 + 1, 1, none⟩ = false := B4_3.frozen 1
  have z4_3 : w.heap.size + 1 + 1 + 1 < w4.heap.size := B4_3.lt
  clear B4_3
  go_wp2_with fail
  refine (s2.out _).mono ?_
  rintro e w5 ⟨rfl, hb5⟩
  have HH5 := Lib.hid ((HH4.out).below hb5)
  have HB5 := Lib.hid (below_trans (HB4.out) hb5)
  clear k4_0_0 f4_0_0 k4_0_1 f4_0_1 z4_0 k4_1_0 f4_1_0 k4_1_1 f4_1_1 z4_1 k4_2_0 f4_2_0 k4_2_1 f4_2_1 z4_2 k4_3_0 f4_3_0 k4_3_1 f4_3_1 z4_3
  clear hb5
  clear HH4 HB4
  have B5_0 : Blk w5 (w.heap.size) 46 #[.int .i64 f1, .int .i64 f2] := HH5.out (w.heap.size, 46, [.int .i64 f1, .int .i64 f2]) (by simp)
  have k5_0_0 : w5.cell? ⟨w.heap.size, 0, none⟩ = some (.int .i64 f1) := B5_0.cell 0
  have f5_0_0 : w5.frozen? ⟨w.heap.size, 0, none⟩ = false := B5_0.frozen 0
  have k5_0_1 : w5.cell? ⟨w.heap.size, 1, none⟩ = some (.int .i64 f2) := B5_0.cell 1
  have f5_0_1 : w5.frozen? ⟨w.heap.size, 1, none⟩ = false := B5_0.frozen 1
  have z5_0 : w.heap.size < w5.heap.size := B5_0.lt
  clear B5_0
  have B5_1 : Blk w5 (w.heap.size + 1) 46 #[.int .i64 e1, .int .i64 e2] := HH5.out (w.heap.size + 1, 46, [.int .i64 e1, .int .i64 e2]) (by simp)
  have k5_1_0 : w5.cell? ⟨w.heap.size + 1, 0, none⟩ = some (.int .i64 e1) := B5_1.cell 0
  have f5_1_0 : w5.frozen? ⟨w.heap.size + 1, 0, none⟩ = false := B5_1.frozen 0
  have k5_1_1 : w5.cell? ⟨w.heap.size + 1, 1, none⟩ = some (.int .i64 e2) := B5_1.cell 1
  have f5_1_1 : w5.frozen? ⟨w.heap.size + 1, 1, none⟩ = false := B5_1.frozen 1
  have z5_1 : w.heap.size + 1 < w5.heap.size := B5_1.lt
  clear B5_1
  have B5_2 : Blk w5 (w.heap.size + 1 + 1) 46 #[.int .i64 cx, .int .i64 cy] := HH5.out (w.heap.size + 1 + 1, 46, [.int .i64 cx, .int .i64 cy]) (by simp)
  have k5_2_0 : w5.cell? ⟨w.heap.size + 1 + 1, 0, none⟩ = some (.int .i64 cx) := B5_2.cell 0
  have f5_2_0 : w5.frozen? ⟨w.heap.size + 1 + 1, 0, none⟩ = false := B5_2.frozen 0
  have k5_2_1 : w5.cell? ⟨w.heap.size + 1 + 1, 1, none⟩ = some (.int .i64 cy) := B5_2.cell 1
  have f5_2_1 : w5.frozen? ⟨w.heap.size + 1 + 1, 1, none⟩ = false := B5_2.frozen 1
  have z5_2 : w.heap.size + 1 + 1 < w5.heap.size := B5_2.lt
  clear B5_2
  have B5_3 : Blk w5 (w.heap.size + 1 + 1 + 1) 46 #[.int .i64 dx, .int .i64 dy] := HH5.out (w.heap.size + 1 + 1 + 1, 46, [.int .i64 dx, .int .i64 dy]) (by simp)
  have k5_3_0 : w5.cell? ⟨w.heap.size + 1 + 1 + 1, 0, none⟩ = some (.int .i64 dx) := B5_3.cell 0
  have f5_3_0 : w5.frozen? ⟨w.heap.size + 1 + 1 + 1, 0, none⟩ = false := B5_3.frozen 0
  have k5_3_1 : w5.cell? ⟨w.heap.size + 1 + 1 + 1, 1, none⟩ = some (.int .i64 dy) := B5_3.cell 1
  have f5_3_1 : w5.frozen? ⟨w.heap.size + 1 + 1 + 1, 1, none⟩ = false := B5_3.frozen 1
  have z5_3 : w.heap.size + 1 + 1 + 1 < w5.heap.size := B5_3.lt
  clear B5_3
  go_upto_region 8 with fail
  have X0 : Blk (((((w5).setCell ⟨w.heap.size + 1 + 1, 0, none⟩ (.int .i64 f3)).setCell ⟨w.heap.size + 1 + 1, 1, none⟩ (.int .i64 f4)).setCell ⟨w.heap.size + 1 + 1 + 1, 0, none⟩ (.int .i64 e3)).setCell ⟨w.heap.size + 1 + 1 + 1, 1, none⟩ (.int .i64 e4)) (w.heap.size) 46 #[.int .i64 f1, .int .i64 f2] := (((((show Blk w5 (w.heap.size) 46 #[.int .i64 f1, .int .i64 f2] from (HH5.out (w.heap.size, 46, [.int .i64 f1, .int .i64 f2]) (by simp))).far (p := ⟨w.heap.size + 1 + 1, 0, none⟩) (by first | omega | (simp <;> omega)) (.int .i64 f3)).far (p := ⟨w.heap.size + 1 + 1, 1, none⟩) (by first | omega | (simp <;> omega)) (.int .i64 f4)).far (p := ⟨w.heap.size + 1 + 1 + 1, 0, none⟩) (by first | omega | (simp <;> omega)) (.int .i64 e3)).far (p := ⟨w.heap.size + 1 + 1 + 1, 1, none⟩) (by first | omega | (simp <;> omega)) (.int .i64 e4))
  have X1 : Blk (((((w5).setCell ⟨w.heap.size + 1 + 1, 0, none⟩ (.int .i64 f3)).setCell ⟨w.heap.size + 1 + 1, 1, none⟩ (.int .i64 f4)).setCell ⟨w.heap.size + 1 + 1 + 1, 0, none⟩ (.int .i64 e3)).setCell ⟨w.heap.size + 1 + 1 + 1, 1, none⟩ (.int .i64 e4)) (w.heap.size + 1) 46 #[.int .i64 e1, .int .i64 e2] := (((((show Blk w5 (w.heap.size + 1) 46 #[.int .i64 e1, .int .i64 e2] from (HH5.out (w.heap.size + 1, 46, [.int .i64 e1, .int .i64 e2]) (by simp))).far (p := ⟨w.heap.size + 1 + 1, 0, none⟩) (by first | omega | (simp <;> omega)) (.int .i64 f3)).far (p := ⟨w.heap.size + 1 + 1, 1, none⟩) (by first | omega | (simp <;> omega)) (.int .i64 f4)).far (p := ⟨w.heap.size + 1 + 1 + 1, 0, none⟩) (by first | omega | (simp <;> omega)) (.int .i64 e3)).far (p := ⟨w.heap.size + 1 + 1 + 1, 1, none⟩) (by first | omega | (simp <;> omega)) (.int .i64 e4))
  have X2 : Blk (((((w5).setCell ⟨w.heap.size + 1 + 1, 0, none⟩ (.int .i64 f3)).setCell ⟨w.heap.size + 1 + 1, 1, none⟩ (.int .i64 f4)).setCell ⟨w.heap.size + 1 + 1 + 1, 0, none⟩ (.int .i64 e3)).setCell ⟨w.heap.size + 1 + 1 + 1, 1, none⟩ (.int .i64 e4)) (w.heap.size + 1 + 1) 46 #[.int .i64 f3, .int .i64 f4] := (((blk_set2 (show Blk w5 (w.heap.size + 1 + 1) 46 #[.int .i64 cx, .int .i64 cy] from (HH5.out (w.heap.size + 1 + 1, 46, [.int .i64 cx, .int .i64 cy]) (by simp))) (.int .i64 f3) (.int .i64 f4)).far (p := ⟨w.heap.size + 1 + 1 + 1, 0, none⟩) (by first | omega | (simp <;> omega)) (.int .i64 e3)).far (p := ⟨w.heap.size + 1 + 1 + 1, 1, none⟩) (by first | omega | (simp <;> omega)) (.int .i64 e4))
  have X3 : Blk (((((w5).setCell ⟨w.heap.size + 1 + 1, 0, none⟩ (.int .i64 f3)).setCell ⟨w.heap.size + 1 + 1, 1, none⟩ (.int .i64 f4)).setCell ⟨w.heap.size + 1 + 1 + 1, 0, none⟩ (.int .i64 e3)).setCell ⟨w.heap.size + 1 + 1 + 1, 1, none⟩ (.int .i64 e4)) (w.heap.size + 1 + 1 + 1) 46 #[.int .i64 e3, .int .i64 e4] := (blk_set2 (((show Blk w5 (w.heap.size + 1 + 1 + 1) 46 #[.int .i64 dx, .int .i64 dy] from (HH5.out (w.heap.size + 1 + 1 + 1, 46, [.int .i64 dx, .int .i64 dy]) (by simp))).far (p := ⟨w.heap.size + 1 + 1, 0, none⟩) (by first | omega | (simp <;> omega)) (.int .i64 f3)).far (p := ⟨w.heap.size + 1 + 1, 1, none⟩) (by first | omega | (simp <;> omega)) (.int .i64 f4)) (.int .i64 e3) (.int .i64 e4))
  have XB : Below w.heap.size w (((((w5).setCell ⟨w.heap.size + 1 + 1, 0, none⟩ (.int .i64 f3)).setCell ⟨w.heap.size + 1 + 1, 1, none⟩ (.int .i64 f4)).setCell ⟨w.heap.size + 1 + 1 + 1, 0, none⟩ (.int .i64 e3)).setCell ⟨w.heap.size + 1 + 1 + 1, 1, none⟩ (.int .i64 e4)) := (below_set (below_set (below_set (below_set HB5.out (by first | omega | (simp <;> omega)) _) (by first | omega | (simp <;> omega)) _) (by first | omega | (simp <;> omega)) _) (by first | omega | (simp <;> omega)) _)
  clear k5_0_0 f5_0_0 k5_0_1 f5_0_1 z5_0 k5_1_0 f5_1_0 k5_1_1 f5_1_1 z5_1 k5_2_0 f5_2_0 k5_2_1 f5_2_1 z5_2 k5_3_0 f5_3_0 k5_3_1 f5_3_1 z5_3
  clear HH5 HB5
  obtain ⟨w6, hw6⟩ : ∃ w6 : World, w6 = ((((w5).setCell ⟨w.heap.size + 1 + 1, 0, none⟩ (.int .i64 f3)).setCell ⟨w.heap.size + 1 + 1, 1, none⟩ (.int .i64 f4)).setCell ⟨w.heap.size + 1 + 1 + 1, 0, none⟩ (.int .i64 e3)).setCell ⟨w.heap.size + 1 + 1 + 1, 1, none⟩ (.int .i64 e4) := ⟨_, rfl⟩
  rw [← hw6] at X0 X1 X2 X3 XB ⊢
  clear hw6
  have HH6 : Hid (Blks w6 [(w.heap.size + 1 + 1 + 1, 46, [.int .i64 e3, .int .i64 e4]), (w.heap.size + 1 + 1, 46, [.int .i64 f3, .int .i64 f4]), (w.heap.size + 1, 46, [.int .i64 e1, .int .i64 e2]), (w.heap.size, 46, [.int .i64 f1, .int .i64 f2])]) := Lib.hid (by intro p hp; simp only [List.mem_cons, List.not_mem_nil, or_false] at hp; rcases hp with rfl | rfl | rfl | rfl <;> assumption)
  have HB6 := Lib.hid XB
  clear XB X0 X1 X2 X3
  have B6_0 : Blk w6 (w.heap.size) 46 #[.int .i64 f1, .int .i64 f2] := HH6.out (w.heap.size, 46, [.int .i64 f1, .int .i64 f2]) (by simp)
  have k6_0_0 : w6.cell? ⟨w.heap.size, 0, none⟩ = some (.int .i64 f1) := B6_0.cell 0
  have f6_0_0 : w6.frozen? ⟨w.heap.size, 0, none⟩ = false := B6_0.frozen 0
  have k6_0_1 : w6.cell? ⟨w.heap.size, 1, none⟩ = some (.int .i64 f2) := B6_0.cell 1
  have f6_0_1 : w6.frozen? ⟨w.heap.size, 1, none⟩ = false := B6_0.frozen 1
  have z6_0 : w.heap.size < w6.heap.size := B6_0.lt
  clear B6_0
  have B6_1 : Blk w6 (w.heap.size + 1) 46 #[.int .i64 e1, .int .i64 e2] := HH6.out (w.heap.size + 1, 46, [.int .i64 e1, .int .i64 e2]) (by simp)
  have k6_1_0 : w6.cell? ⟨w.heap.size + 1, 0, none⟩ = some (.int .i64 e1) := B6_1.cell 0
  have f6_1_0 : w6.frozen? ⟨w.heap.size + 1, 0, none⟩ = false := B6_1.frozen 0
  have k6_1_1 : w6.cell? ⟨w.heap.size + 1, 1, none⟩ = some (.int .i64 e2) := B6_1.cell 1
  have f6_1_1 : w6.frozen? ⟨w.heap.size + 1, 1, none⟩ = false := B6_1.frozen 1
  have z6_1 : w.heap.size + 1 < w6.heap.size := B6_1.lt
  clear B6_1
  have B6_2 : Blk w6 (w.heap.size + 1 + 1) 46 #[.int .i64 f3, .int .i64 f4] := HH6.out (w.heap.size + 1 + 1, 46, [.int .i64 f3, .int .i64 f4]) (by simp)
  have k6_2_0 : w6.cell? ⟨w.heap.size + 1 + 1, 0, none⟩ = some (.int .i64 f3) := B6_2.cell 0
  have f6_2_0 : w6.frozen? ⟨w.heap.size + 1 + 1, 0, none⟩ = false := B6_2.frozen 0
  have k6_2_1 : w6.cell? ⟨w.heap.size + 1 + 1, 1, none⟩ = some (.int .i64 f4) := B6_2.cell 1
  have f6_2_1 : w6.frozen? ⟨w.heap.size + 1 + 1, 1, none⟩ = false := B6_2.frozen 1
  have z6_2 : w.heap.size + 1 + 1 < w6.heap.size := B6_2.lt
  clear B6_2
  have B6_3 : Blk w6 (w.heap.size + 1 + 1 + 1) 46 #[.int .i64 e3, .int .i64 e4] := HH6.out (w.heap.size + 1 + 1 + 1, 46, [.int .i64 e3, .int .i64 e4]) (by simp)
  have k6_3_0 : w6.cell? ⟨w.heap.size + 1 + 1 + 1, 0, none⟩ = some (.int .i64 e3) := B6_3.cell 0
  have f6_3_0 : w6.frozen? ⟨w.heap.size + 1 + 1 + 1, 0, none⟩ = false := B6_3.frozen 0
  have k6_3_1 : w6.cell? ⟨w.heap.size + 1 + 1 + 1, 1, none⟩ = some (.int .i64 e4) := B6_3.cell 1
  have f6_3_1 : w6.frozen? ⟨w.heap.size + 1 + 1 + 1, 1, none⟩ = false := B6_3.frozen 1
  have z6_3 : w.heap.size + 1 + 1 + 1 < w6.heap.size := B6_3.lt
  clear B6_3
  have YC : Blk w6 (w.heap.size + 1 + 1) 46 #[.int .i64 f3, .int .i64 f4] := HH6.out (w.heap.size + 1 + 1, 46, [.int .i64 f3, .int .i64 f4]) (by simp)
  have YD : Blk w6 (w.heap.size + 1 + 1 + 1) 46 #[.int .i64 e3, .int .i64 e4] := HH6.out (w.heap.size + 1 + 1 + 1, 46, [.int .i64 e3, .int .i64 e4]) (by simp)
  go_cut [9, 10] (fun p q wx => ∃ gx hx : Nat, p = .pointer (some ⟨gx, 0, none⟩) ∧ q = .pointer (some ⟨hx, 0, none⟩) ∧ gx ≠ hx ∧ w6.heap.size ≤ gx ∧ w6.heap.size ≤ hx ∧ Blk wx gx 46 #[.int .i64 f1, .int .i64 f2] ∧ Blk wx hx 46 #[.int .i64 e1, .int .i64 e2] ∧ Blk wx (w.heap.size + 1 + 1) 46 #[.int .i64 f3, .int .i64 f4] ∧ Blk wx (w.heap.size + 1 + 1 + 1) 46 #[.int .i64 e3, .int .i64 e4] ∧ Below w.heap.size w wx)
  case first =>
    go_region
    all_goals
      go_wp2_with fail
      go_meet
      refine ⟨_, _, rfl, rfl, by omega, by omega, by omega, ?_, ?_, ?_, ?_, ?_⟩
      · repeat (first | with_reducible assumption | (with_reducible refine Blk_at ?_; simp only [World.size_alloc, World.size_drew]; done) | with_reducible refine Blk.drew ?_ | with_reducible refine Blk.alloc ?_ _)
      · repeat (first | with_reducible assumption | (with_reducible refine Blk_at ?_; simp only [World.size_alloc, World.size_drew]; done) | with_reducible refine Blk.drew ?_ | with_reducible refine Blk.alloc ?_ _)
      · repeat (first | with_reducible assumption | (with_reducible refine Blk_at ?_; simp only [World.size_alloc, World.size_drew]; done) | with_reducible refine Blk.drew ?_ | with_reducible refine Blk.alloc ?_ _)
      · repeat (first | with_reducible assumption | (with_reducible refine Blk_at ?_; simp only [World.size_alloc, World.size_drew]; done) | with_reducible refine Blk.drew ?_ | with_reducible refine Blk.alloc ?_ _)
      · repeat (first | with_reducible exact HB6.out | with_reducible refine Below.drew ?_ | with_reducible refine below_drewN ?_ _ | with_reducible refine below_set ?_ (by simp <;> omega) _ | with_reducible refine below_alloc ?_ _)
  case rest =>
    obtain ⟨wd, rfl⟩ : ∃ wd : World, wd = wc := ⟨_, rfl⟩
    obtain ⟨g, h, rfl, rfl, hgh, hg, hh, hC1, hC2, hC3, hC4, hbw2⟩ := hcut
    have zC : w.heap.size + 1 + 1 < w6.heap.size := YC.lt
    have zD : w.heap.size + 1 + 1 + 1 < w6.heap.size := YD.lt
    have hhg : h ≠ g := fun e => hgh e.symm
    clear YC YD HH6 HB6 k6_0_0 f6_0_0 k6_0_1 f6_0_1 z6_0 k6_1_0 f6_1_0 k6_1_1 f6_1_1 z6_1 k6_2_0 f6_2_0 k6_2_1 f6_2_1 z6_2 k6_3_0 f6_3_0 k6_3_1 f6_3_1 z6_3
    have HH20 : Hid (Blks wd [(w.heap.size + 1 + 1 + 1, 46, [.int .i64 e3, .int .i64 e4]), (w.heap.size + 1 + 1, 46, [.int .i64 f3, .int .i64 f4]), (h, 46, [.int .i64 e1, .int .i64 e2]), (g, 46, [.int .i64 f1, .int .i64 f2])]) := Lib.hid (by intro p hp; simp only [List.mem_cons, List.not_mem_nil, or_false] at hp; rcases hp with rfl | rfl | rfl | rfl <;> assumption)
    have HB20 := Lib.hid hbw2
    clear hC1 hC2 hC3 hC4 hbw2
    have B0_0 : Blk wd (g) 46 #[.int .i64 f1, .int .i64 f2] := HH20.out (g, 46, [.int .i64 f1, .int .i64 f2]) (by simp)
    have k0_0_0 : wd.cell? ⟨g, 0, none⟩ = some (.int .i64 f1) := B0_0.cell 0
    have k0_0_1 : wd.cell? ⟨g, 1, none⟩ = some (.int .i64 f2) := B0_0.cell 1
    have z0_0 : g < wd.heap.size := B0_0.lt
    clear B0_0
    have B0_1 : Blk wd (h) 46 #[.int .i64 e1, .int .i64 e2] := HH20.out (h, 46, [.int .i64 e1, .int .i64 e2]) (by simp)
    have k0_1_0 : wd.cell? ⟨h, 0, none⟩ = some (.int .i64 e1) := B0_1.cell 0
    have k0_1_1 : wd.cell? ⟨h, 1, none⟩ = some (.int .i64 e2) := B0_1.cell 1
    have z0_1 : h < wd.heap.size := B0_1.lt
    clear B0_1
    have B0_2 : Blk wd (w.heap.size + 1 + 1) 46 #[.int .i64 f3, .int .i64 f4] := HH20.out (w.heap.size + 1 + 1, 46, [.int .i64 f3, .int .i64 f4]) (by simp)
    have k0_2_0 : wd.cell? ⟨w.heap.size + 1 + 1, 0, none⟩ = some (.int .i64 f3) := B0_2.cell 0
    have k0_2_1 : wd.cell? ⟨w.heap.size + 1 + 1, 1, none⟩ = some (.int .i64 f4) := B0_2.cell 1
    have z0_2 : w.heap.size + 1 + 1 < wd.heap.size := B0_2.lt
    clear B0_2
    have B0_3 : Blk wd (w.heap.size + 1 + 1 + 1) 46 #[.int .i64 e3, .int .i64 e4] := HH20.out (w.heap.size + 1 + 1 + 1, 46, [.int .i64 e3, .int .i64 e4]) (by simp)
    have k0_3_0 : wd.cell? ⟨w.heap.size + 1 + 1 + 1, 0, none⟩ = some (.int .i64 e3) := B0_3.cell 0
    have k0_3_1 : wd.cell? ⟨w.heap.size + 1 + 1 + 1, 1, none⟩ = some (.int .i64 e4) := B0_3.cell 1
    have z0_3 : w.heap.size + 1 + 1 + 1 < wd.heap.size := B0_3.lt
    clear B0_3
    go_wp2_with fail
    refine (k1.out _).mono ?_
    rintro e w21 ⟨rfl, hb21⟩
    have HH21 := Lib.hid ((HH20.out).below hb21)
    have HB21 := Lib.hid (below_trans (HB20.out) hb21)
    clear k0_0_0 k0_0_1 z0_0 k0_1_0 k0_1_1 z0_1 k0_2_0 k0_2_1 z0_2 k0_3_0 k0_3_1 z0_3
    clear hb21
    clear HH20 HB20
    have B21_0 : Blk w21 (g) 46 #[.int .i64 f1, .int .i64 f2] := HH21.out (g, 46, [.int .i64 f1, .int .i64 f2]) (by simp)
    have k21_0_0 : w21.cell? ⟨g, 0, none⟩ = some (.int .i64 f1) := B21_0.cell 0
    have f21_0_0 : w21.frozen? ⟨g, 0, none⟩ = false := B21_0.frozen 0
    have k21_0_1 : w21.cell? ⟨g, 1, none⟩ = some (.int .i64 f2) := B21_0.cell 1
    have f21_0_1 : w21.frozen? ⟨g, 1, none⟩ = false := B21_0.frozen 1
    have z21_0 : g < w21.heap.size := B21_0.lt
    clear B21_0
    have B21_1 : Blk w21 (h) 46 #[.int .i64 e1, .int .i64 e2] := HH21.out (h, 46, [.int .i64 e1, .int .i64 e2]) (by simp)
    have k21_1_0 : w21.cell? ⟨h, 0, none⟩ = some (.int .i64 e1) := B21_1.cell 0
    have f21_1_0 : w21.frozen? ⟨h, 0, none⟩ = false := B21_1.frozen 0
    have k21_1_1 : w21.cell? ⟨h, 1, none⟩ = some (.int .i64 e2) := B21_1.cell 1
    have f21_1_1 : w21.frozen? ⟨h, 1, none⟩ = false := B21_1.frozen 1
    have z21_1 : h < w21.heap.size := B21_1.lt
    clear B21_1
    have B21_2 : Blk w21 (w.heap.size + 1 + 1) 46 #[.int .i64 f3, .int .i64 f4] := HH21.out (w.heap.size + 1 + 1, 46, [.int .i64 f3, .int .i64 f4]) (by simp)
    have k21_2_0 : w21.cell? ⟨w.heap.size + 1 + 1, 0, none⟩ = some (.int .i64 f3) := B21_2.cell 0
    have f21_2_0 : w21.frozen? ⟨w.heap.size + 1 + 1, 0, none⟩ = false := B21_2.frozen 0
    have k21_2_1 : w21.cell? ⟨w.heap.size + 1 + 1, 1, none⟩ = some (.int .i64 f4) := B21_2.cell 1
    have f21_2_1 : w21.frozen? ⟨w.heap.size + 1 + 1, 1, none⟩ = false := B21_2.frozen 1
    have z21_2 : w.heap.size + 1 + 1 < w21.heap.size := B21_2.lt
    clear B21_2
    have B21_3 : Blk w21 (w.heap.size + 1 + 1 + 1) 46 #[.int .i64 e3, .int .i64 e4] := HH21.out (w.heap.size + 1 + 1 + 1, 46, [.int .i64 e3, .int .i64 e4]) (by simp)
    have k21_3_0 : w21.cell? ⟨w.heap.size + 1 + 1 + 1, 0, none⟩ = some (.int .i64 e3) := B21_3.cell 0
    have f21_3_0 : w21.frozen? ⟨w.heap.size + 1 + 1 + 1, 0, none⟩ = false := B21_3.frozen 0
    have k21_3_1 : w21.cell? ⟨w.heap.size + 1 + 1 + 1, 1, none⟩ = some (.int .i64 e4) := B21_3.cell 1
    have f21_3_1 : w21.frozen? ⟨w.heap.size + 1 + 1 + 1, 1, none⟩ = false := B21_3.frozen 1
    have z21_3 : w.heap.size + 1 + 1 + 1 < w21.heap.size := B21_3.lt
    clear B21_3
    go_wp2_with fail
    refine (k2.out _).mono ?_
    rintro e w22 ⟨rfl, hb22⟩
    have HH22 := Lib.hid ((HH21.out).below hb22)
    have HB22 := Lib.hid (below_trans (HB21.out) hb22)
    clear k21_0_0 f21_0_0 k21_0_1 f21_0_1 z21_0 k21_1_0 f21_1_0 k21_1_1 f21_1_1 z21_1 k21_2_0 f21_2_0 k21_2_1 f21_2_1 z21_2 k21_3_0 f21_3_0 k21_3_1 f21_3_1 z21_3
    clear hb22
    clear HH21 HB21
    have B22_0 : Blk w22 (g) 46 #[.int .i64 f1, .int .i64 f2] := HH22.out (g, 46, [.int .i64 f1, .int .i64 f2]) (by simp)
    have k22_0_0 : w22.cell? ⟨g, 0, none⟩ = some (.int .i64 f1) := B22_0.cell 0
    have f22_0_0 : w22.frozen? ⟨g, 0, none⟩ = false := B22_0.frozen 0
    have k22_0_1 : w22.cell? ⟨g, 1, none⟩ = some (.int .i64 f2) := B22_0.cell 1
    have f22_0_1 : w22.frozen? ⟨g, 1, none⟩ = false := B22_0.frozen 1
    have z22_0 : g < w22.heap.size := B22_0.lt
    clear B22_0
    have B22_1 : Blk w22 (h) 46 #[.int .i64 e1, .int .i64 e2] := HH22.out (h, 46, [.int .i64 e1, .int .i64 e2]) (by simp)
    have k22_1_0 : w22.cell? ⟨h, 0, none⟩ = some (.int .i64 e1) := B22_1.cell 0
    have f22_1_0 : w22.frozen? ⟨h, 0, none⟩ = false := B22_1.frozen 0
    have k22_1_1 : w22.cell? ⟨h, 1, none⟩ = some (.int .i64 e2) := B22_1.cell 1
    have f22_1_1 : w22.frozen? ⟨h, 1, none⟩ = false := B22_1.frozen 1
    have z22_1 : h < w22.heap.size := B22_1.lt
    clear B22_1
    have B22_2 : Blk w22 (w.heap.size + 1 + 1) 46 #[.int .i64 f3, .int .i64 f4] := HH22.out (w.heap.size + 1 + 1, 46, [.int .i64 f3, .int .i64 f4]) (by simp)
    have k22_2_0 : w22.cell? ⟨w.heap.size + 1 + 1, 0, none⟩ = some (.int .i64 f3) := B22_2.cell 0
    have f22_2_0 : w22.frozen? ⟨w.heap.size + 1 + 1, 0, none⟩ = false := B22_2.frozen 0
    have k22_2_1 : w22.cell? ⟨w.heap.size + 1 + 1, 1, none⟩ = some (.int .i64 f4) := B22_2.cell 1
    have f22_2_1 : w22.frozen? ⟨w.heap.size + 1 + 1, 1, none⟩ = false := B22_2.frozen 1
    have z22_2 : w.heap.size + 1 + 1 < w22.heap.size := B22_2.lt
    clear B22_2
    have B22_3 : Blk w22 (w.heap.size + 1 + 1 + 1) 46 #[.int .i64 e3, .int .i64 e4] := HH22.out (w.heap.size + 1 + 1 + 1, 46, [.int .i64 e3, .int .i64 e4]) (by simp)
    have k22_3_0 : w22.cell? ⟨w.heap.size + 1 + 1 + 1, 0, none⟩ = some (.int .i64 e3) := B22_3.cell 0
    have f22_3_0 : w22.frozen? ⟨w.heap.size + 1 + 1 + 1, 0, none⟩ = false := B22_3.frozen 0
    have k22_3_1 : w22.cell? ⟨w.heap.size + 1 + 1 + 1, 1, none⟩ = some (.int .i64 e4) := B22_3.cell 1
    have f22_3_1 : w22.frozen? ⟨w.heap.size + 1 + 1 + 1, 1, none⟩ = false := B22_3.frozen 1
    have z22_3 : w.heap.size + 1 + 1 + 1 < w22.heap.size := B22_3.lt
    clear B22_3
    go_wp2_with fail
    refine (k3.out _).mono ?_
    rintro e w23 ⟨rfl, hb23⟩
    have HH23 := Lib.hid ((HH22.out).below hb23)
    have HB23 := Lib.hid (below_trans (HB22.out) hb23)
    clear k22_0_0 f22_0_0 k22_0_1 f22_0_1 z22_0 k22_1_0 f22_1_0 k22_1_1 f22_1_1 z22_1 k22_2_0 f22_2_0 k22_2_1 f22_2_1 z22_2 k22_3_0 f22_3_0 k22_3_1 f22_3_1 z22_3
    clear hb23
    clear HH22 HB22
    have B23_0 : Blk w23 (g) 46 #[.int .i64 f1, .int .i64 f2] := HH23.out (g, 46, [.int .i64 f1, .int .i64 f2]) (by simp)
    have k23_0_0 : w23.cell? ⟨g, 0, none⟩ = some (.int .i64 f1) := B23_0.cell 0
    have k23_0_1 : w23.cell? ⟨g, 1, none⟩ = some (.int .i64 f2) := B23_0.cell 1
    have z23_0 : g < w23.heap.size := B23_0.lt
    clear B23_0
    have B23_1 : Blk w23 (h) 46 #[.int .i64 e1, .int .i64 e2] := HH23.out (h, 46, [.int .i64 e1, .int .i64 e2]) (by simp)
    have k23_1_0 : w23.cell? ⟨h, 0, none⟩ = some (.int .i64 e1) := B23_1.cell 0
    have k23_1_1 : w23.cell? ⟨h, 1, none⟩ = some (.int .i64 e2) := B23_1.cell 1
    have z23_1 : h < w23.heap.size := B23_1.lt
    clear B23_1
    have B23_2 : Blk w23 (w.heap.size + 1 + 1) 46 #[.int .i64 f3, .int .i64 f4] := HH23.out (w.heap.size + 1 + 1, 46, [.int .i64 f3, .int .i64 f4]) (by simp)
    have k23_2_0 : w23.cell? ⟨w.heap.size + 1 + 1, 0, none⟩ = some (.int .i64 f3) := B23_2.cell 0
    have k23_2_1 : w23.cell? ⟨w.heap.size + 1 + 1, 1, none⟩ = some (.int .i64 f4) := B23_2.cell 1
    have z23_2 : w.heap.size + 1 + 1 < w23.heap.size := B23_2.lt
    clear B23_2
    have B23_3 : Blk w23 (w.heap.size + 1 + 1 + 1) 46 #[.int .i64 e3, .int .i64 e4] := HH23.out (w.heap.size + 1 + 1 + 1, 46, [.int .i64 e3, .int .i64 e4]) (by simp)
    have k23_3_0 : w23.cell? ⟨w.heap.size + 1 + 1 + 1, 0, none⟩ = some (.int .i64 e3) := B23_3.cell 0
    have k23_3_1 : w23.cell? ⟨w.heap.size + 1 + 1 + 1, 1, none⟩ = some (.int .i64 e4) := B23_3.cell 1
    have z23_3 : w.heap.size + 1 + 1 + 1 < w23.heap.size := B23_3.lt
    clear B23_3
    have HBz := HB23.out
    rcases h3 : bef f1 f2 e1 e2 with _ | _
    · by_cases he : f1 = e1 ∧ f2 = e2
      · have HV := Lib.hid (show v = 1 by rw [HV.out, h3, if_neg (by simp), if_pos he])
        have q3 := fun W => pt_eq_eql he W
        clear he
        go_wp2
        go_returns
        exact ⟨ret_int HV.out.symm, HBz⟩
      · have HV := Lib.hid (show v = 0 by rw [HV.out, h3, if_neg (by simp), if_neg he])
        have q3 := fun W => pt_diff_eql he W
        clear he
        go_wp2
        go_returns
        exact ⟨ret_int HV.out.symm, HBz⟩
    · have HV := Lib.hid (show v = 2 by rw [HV.out, h3, if_pos rfl])
      go_wp2
      go_returns
      exact ⟨ret_int HV.out.symm, HBz⟩
end Go.Proofs.Ytkfdbhhchnbjdaa.Ve
