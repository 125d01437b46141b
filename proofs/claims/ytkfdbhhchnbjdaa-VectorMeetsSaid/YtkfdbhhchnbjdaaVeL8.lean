/- Turns and meetings do not depend on the order of points and segments; the walk of VectorSegments. -/
import Derived.Test.YtkfdbhhchnbjdaaVeL7
namespace Go.Proofs.Ytkfdbhhchnbjdaa.Ve
open Go.RowKit Ba
set_option linter.unusedVariables false

theorem cmpI_diff (x y : Int) : cmpI x y = cmpI (x - y) 0 := by unfold cmpI; repeat' split
                                                                all_goals omega
theorem cmpI_of_diff {x y z v : Int} (h : x - y = z - v) : cmpI x y = cmpI z v := by rw [cmpI_diff x y, cmpI_diff z v, h]
theorem cmpI_of_anti {x y z v : Int} (h : x - y = -(z - v)) : cmpI x y = -cmpI z v := by
  unfold cmpI; repeat' split
  all_goals omega
theorem turn_swap (ax ay bx bY cx cy : Int) : turnI ax ay cx cy bx bY = -turnI ax ay bx bY cx cy := by
  unfold turnI; exact cmpI_of_anti (by rw [Int.mul_comm (cx - ax), Int.mul_comm (cy - ay)]; omega)
theorem turn_rot (ax ay bx bY cx cy : Int) : turnI bx bY cx cy ax ay = turnI ax ay bx bY cx cy := by
  unfold turnI; exact cmpI_of_diff (by grind)
theorem turn_rev (ax ay bx bY cx cy : Int) : turnI bx bY ax ay cx cy = -turnI ax ay bx bY cx cy := by
  unfold turnI; exact cmpI_of_anti (by grind)
theorem lex_total (ax ay bx bY : Int) : lexP ax ay bx bY ∨ lexP bx bY ax ay := by unfold lexP; omega
theorem lex_anti {ax ay bx bY : Int} (h1 : lexP ax ay bx bY) (h2 : lexP bx bY ax ay) : ax = bx ∧ ay = bY := by unfold lexP at *; omega
theorem ends_sym (ax ay bx bY : Int) : fst2 ax ay bx bY = fst2 bx bY ax ay ∧ lst2 ax ay bx bY = lst2 bx bY ax ay := by
  have h1 := fst2_if ax ay bx bY
  have h2 := fst2_if bx bY ax ay
  by_cases c1 : lexP ax ay bx bY <;> by_cases c2 : lexP bx bY ax ay
  · obtain ⟨rfl, rfl⟩ := lex_anti c1 c2; exact ⟨rfl, rfl⟩
  · rw [(h1.1 c1).1, (h1.1 c1).2, (h2.2 c2).1, (h2.2 c2).2]; exact ⟨rfl, rfl⟩
  · rw [(h1.2 c1).1, (h1.2 c1).2, (h2.1 c2).1, (h2.1 c2).2]; exact ⟨rfl, rfl⟩
  · rcases lex_total ax ay bx bY with h | h
    · exact absurd h c1
    · exact absurd h c2
theorem line_swap (ax ay bx bY cx cy dx dy : Int) : lineI cx cy dx dy ax ay bx bY = lineI ax ay bx bY cx cy dx dy := by
  unfold lineI lineQ
  rw [(ends_sym (fst2 cx cy dx dy).1 (fst2 cx cy dx dy).2 (fst2 ax ay bx bY).1 (fst2 ax ay bx bY).2).2, (ends_sym (lst2 cx cy dx dy).1 (lst2 cx cy dx dy).2 (lst2 ax ay bx bY).1 (lst2 ax ay bx bY).2).1]
theorem line_rev1 (ax ay bx bY cx cy dx dy : Int) : lineI bx bY ax ay cx cy dx dy = lineI ax ay bx bY cx cy dx dy := by
  unfold lineI; rw [(ends_sym bx bY ax ay).1, (ends_sym bx bY ax ay).2]
theorem line_rev2 (ax ay bx bY cx cy dx dy : Int) : lineI ax ay bx bY dx dy cx cy = lineI ax ay bx bY cx cy dx dy := by
  unfold lineI; rw [(ends_sym dx dy cx cy).1, (ends_sym dx dy cx cy).2]
theorem meet_swap (ax ay bx bY cx cy dx dy : Int) : meetI cx cy dx dy ax ay bx bY = meetI ax ay bx bY cx cy dx dy := by
  unfold meetI
  rw [line_swap]
  generalize turnI ax ay bx bY cx cy = p
  generalize turnI ax ay bx bY dx dy = q
  generalize turnI cx cy dx dy ax ay = r
  generalize turnI cx cy dx dy bx bY = s
  by_cases h : r = 0 ∧ s = 0 ∧ p = 0 ∧ q = 0
  · rw [if_pos h, if_pos ⟨h.2.2.1, h.2.2.2, h.1, h.2.1⟩]
  · rw [if_neg h, if_neg (fun hh => h ⟨hh.2.2.1, hh.2.2.2, hh.1, hh.2.1⟩)]
    by_cases h2 : 0 < p * q ∨ 0 < r * s
    · rw [if_pos h2, if_pos h2.symm]
    · rw [if_neg h2, if_neg (fun hh => h2 hh.symm)]
theorem meet_rev1 (ax ay bx bY cx cy dx dy : Int) : meetI bx bY ax ay cx cy dx dy = meetI ax ay bx bY cx cy dx dy := by
  unfold meetI
  rw [line_rev1, turn_rev ax ay bx bY cx cy, turn_rev ax ay bx bY dx dy]
  generalize turnI ax ay bx bY cx cy = p
  generalize turnI ax ay bx bY dx dy = q
  generalize turnI cx cy dx dy ax ay = r
  generalize turnI cx cy dx dy bx bY = s
  rw [Int.neg_mul_neg, Int.mul_comm s r]
  by_cases h : r = 0 ∧ s = 0 ∧ p = 0 ∧ q = 0
  · rw [if_pos h, if_pos (by omega)]
  · rw [if_neg h, if_neg (by omega)]
theorem meet_rev2 (ax ay bx bY cx cy dx dy : Int) : meetI ax ay bx bY dx dy cx cy = meetI ax ay bx bY cx cy dx dy := by
  rw [meet_swap, meet_rev1, meet_swap]
theorem meet_q (ax ay bx bY cx cy dx dy : Int) : meetI dx dy cx cy ax ay bx bY = meetI ax ay bx bY cx cy dx dy := by rw [meet_swap, meet_rev2]
theorem meet_r (ax ay bx bY cx cy dx dy : Int) : meetI bx bY ax ay dx dy cx cy = meetI ax ay bx bY cx cy dx dy := by rw [meet_rev1, meet_rev2]
theorem turn_aa (ax ay bx bY : Int) : turnI ax ay bx bY ax ay = 0 ∧ turnI ax ay bx bY bx bY = 0 := by
  unfold turnI
  refine ⟨?_, ?_⟩
  · rw [show ay - ay = 0 by omega, show ax - ax = 0 by omega, Int.mul_zero, Int.mul_zero]; exact cmpI_eq 0
  · rw [Int.mul_comm (bY - ay)]; exact cmpI_eq _
theorem numI_lex {f1 f2 l1 l2 : Int} (h : lexP f1 f2 l1 l2) : numI (cmp3 f1 f2 0 l1 l2 0) = if f1 = l1 ∧ f2 = l2 then 1 else 2 := by
  have : cmp3 f1 f2 0 l1 l2 0 = if f1 = l1 ∧ f2 = l2 then 0 else -1 := by
    unfold cmp3 cmpI; unfold lexP at h; repeat' split
    all_goals omega
  rw [this]; split <;> rfl
theorem meet_self (ax ay bx bY : Int) : meetI ax ay bx bY ax ay bx bY = if ax = bx ∧ ay = bY then 1 else 2 := by
  unfold meetI
  rw [if_pos ⟨(turn_aa ax ay bx bY).1, (turn_aa ax ay bx bY).2, (turn_aa ax ay bx bY).1, (turn_aa ax ay bx bY).2⟩]
  unfold lineI lineQ
  rw [(fst2_same (fst2 ax ay bx bY).1 (fst2 ax ay bx bY).2).2, (fst2_same (lst2 ax ay bx bY).1 (lst2 ax ay bx bY).2).1]
  have h0 := fst2_if ax ay bx bY
  by_cases c : lexP ax ay bx bY
  · rw [(h0.1 c).1, (h0.1 c).2]; exact numI_lex c
  · rw [(h0.2 c).1, (h0.2 c).2]
    have c' : lexP bx bY ax ay := by rcases lex_total ax ay bx bY with h | h; exact absurd h c; exact h
    rw [show numI (cmp3 (bx, bY).1 (bx, bY).2 0 (ax, ay).1 (ax, ay).2 0) = numI (cmp3 bx bY 0 ax ay 0) from rfl, numI_lex c']
    by_cases e : bx = ax ∧ bY = ay
    · rw [if_pos e, if_pos ⟨e.1.symm, e.2.symm⟩]
    · rw [if_neg e, if_neg (fun hh => e ⟨hh.1.symm, hh.2.symm⟩)]
theorem meet_pp_one (ax ay bx bY px py : Int) : decide (0 < meetI ax ay bx bY px py px py) = (meetI ax ay bx bY px py px py == 1) := by
  have key : meetI ax ay bx bY px py px py = 0 ∨ meetI ax ay bx bY px py px py = 1 := by
    rw [meet_pp]
    split
    · unfold lineI lineQ
      rw [(fst2_same px py).1, (fst2_same px py).2]
      generalize (fst2 ax ay bx bY).1 = f1
      generalize (fst2 ax ay bx bY).2 = f2
      generalize (lst2 ax ay bx bY).1 = e1
      generalize (lst2 ax ay bx bY).2 = e2
      have h1 := fst2_if f1 f2 px py
      have h2 := fst2_if e1 e2 px py
      by_cases c1 : lexP f1 f2 px py <;> by_cases c2 : lexP e1 e2 px py
      · rw [(h1.1 c1).2, (h2.1 c2).1]; unfold numI cmp3 cmpI lexP at *; simp only; repeat' split
        all_goals omega
      · rw [(h1.1 c1).2, (h2.2 c2).1]; unfold numI cmp3 cmpI lexP at *; simp only; repeat' split
        all_goals omega
      · rw [(h1.2 c1).2, (h2.1 c2).1]; unfold numI cmp3 cmpI lexP at *; simp only; repeat' split
        all_goals omega
      · rw [(h1.2 c1).2, (h2.2 c2).1]; unfold numI cmp3 cmpI lexP at *; simp only; repeat' split
        all_goals omega
    · exact .inl rfl
  rcases key with h | h <;> rw [h] <;> rfl

theorem pt_same_eql (a b : Int) (W : World) : (binOp .eql 46 (.agg #[.int .i64 a, .int .i64 b]) (.agg #[.int .i64 a, .int .i64 b])).run Try.prog W = .ok (.bool true) W := by rw [pt_eql]; simp
theorem pt_diff_neq {a b x y : Int} (h : ¬ (a = x ∧ b = y)) (W : World) : (binOp .neq 46 (.agg #[.int .i64 a, .int .i64 b]) (.agg #[.int .i64 x, .int .i64 y])).run Try.prog W = .ok (.bool true) W := by
  rw [pt_neq]
  have : ((a == x) && (b == y)) = false := by
    rw [Bool.eq_false_iff]; intro hh; simp at hh; exact h hh
  rw [this]; rfl
set_option maxRecDepth 100000 in
set_option maxHeartbeats 3200000 in
theorem segs_0 (ax ay bx bY cx cy dx dy : Int) (h1 : in2 ax ay = false) (w : World) : Calls Try.prog 11 #[.agg #[.int .i64 ax, .int .i64 ay], .agg #[.int .i64 bx, .int .i64 bY], .agg #[.int .i64 cx, .int .i64 cy], .agg #[.int .i64 dx, .int .i64 dy]] w fun e w' => e = .returned (.bool true) ∧ Below w.heap.size w w' := by
  have c0 := Lib.hid fun W => awake_any W
  have c1 := Lib.hid fun W => turnP_no ax ay bx bY cx cy (fun hh => by simp [h1] at hh) W
  have c2 := Lib.hid fun W => turnP_no ax ay cx cy bx bY (fun hh => by simp [h1] at hh) W
  have c3 := Lib.hid fun W => turnP_no bx bY cx cy ax ay (fun hh => by simp [h1] at hh) W
  have c4 := Lib.hid fun W => onP_no ax ay bx bY cx cy (fun hh => by simp [h1] at hh) W
  have c5 := Lib.hid fun W => meetP_no ax ay bx bY cx cy cx cy (fun hh => by simp [h1] at hh) W
  have c6 := Lib.hid fun W => meetP_no ax ay bx bY cx cy dx dy (fun hh => by simp [h1] at hh) W
  have c7 := Lib.hid fun W => meetP_no dx dy cx cy ax ay bx bY (fun hh => by simp [h1] at hh) W
  have c8 := Lib.hid fun W => meetP_no bx bY ax ay dx dy cx cy (fun hh => by simp [h1] at hh) W
  have c9 := Lib.hid fun W => meetP_no ax ay bx bY ax ay bx bY (fun hh => by simp [h1] at hh) W
  clear h1
  go_enter Try.func11, Try.ntmps11
  go_wp2_with fail
  refine (c0.out _).mono ?_
  rintro e w1 ⟨rfl, hb1⟩
  have HH1 := Lib.hid (((((((Blks.nil (w := w))).new (w.heap.size) 46 [.int .i64 ax, .int .i64 ay] rfl).new (w.heap.size + 1) 46 [.int .i64 bx, .int .i64 bY] (by simp)).new (w.heap.size + 1 + 1) 46 [.int .i64 cx, .int .i64 cy] (by simp)).new (w.heap.size + 1 + 1 + 1) 46 [.int .i64 dx, .int .i64 dy] (by simp)).below hb1)
  have HB1 := Lib.hid (below_trans (below_alloc (below_alloc (below_alloc (below_alloc (Below.refl _ _) _) _) _) _) hb1)
  clear hb1
  have B1_0 : Blk w1 (w.heap.size) 46 #[.int .i64 ax, .int .i64 ay] := HH1.out (w.heap.size, 46, [.int .i64 ax, .int .i64 ay]) (by simp)
  have k1_0_0 : w1.cell? ⟨w.heap.size, 0, none⟩ = some (.int .i64 ax) := B1_0.cell 0
  have k1_0_1 : w1.cell? ⟨w.heap.size, 1, none⟩ = some (.int .i64 ay) := B1_0.cell 1
  have z1_0 : w.heap.size < w1.heap.size := B1_0.lt
  clear B1_0
  have B1_1 : Blk w1 (w.heap.size + 1) 46 #[.int .i64 bx, .int .i64 bY] := HH1.out (w.heap.size + 1, 46, [.int .i64 bx, .int .i64 bY]) (by simp)
  have k1_1_0 : w1.cell? ⟨w.heap.size + 1, 0, none⟩ = some (.int .i64 bx) := B1_1.cell 0
  have k1_1_1 : w1.cell? ⟨w.heap.size + 1, 1, none⟩ = some (.int .i64 bY) := B1_1.cell 1
  have z1_1 : w.heap.size + 1 < w1.heap.size := B1_1.lt
  clear B1_1
  have B1_2 : Blk w1 (w.heap.size + 1 + 1) 46 #[.int .i64 cx, .int .i64 cy] := HH1.out (w.heap.size + 1 + 1, 46, [.int .i64 cx, .int .i64 cy]) (by simp)
  have k1_2_0 : w1.cell? ⟨w.heap.size + 1 + 1, 0, none⟩ = some (.int .i64 cx) := B1_2.cell 0
  have k1_2_1 : w1.cell? ⟨w.heap.size + 1 + 1, 1, none⟩ = some (.int .i64 cy) := B1_2.cell 1
  have z1_2 : w.heap.size + 1 + 1 < w1.heap.size := B1_2.lt
  clear B1_2
  have B1_3 : Blk w1 (w.heap.size + 1 + 1 + 1) 46 #[.int .i64 dx, .int .i64 dy] := HH1.out (w.heap.size + 1 + 1 + 1, 46, [.int .i64 dx, .int .i64 dy]) (by simp)
  have k1_3_0 : w1.cell? ⟨w.heap.size + 1 + 1 + 1, 0, none⟩ = some (.int .i64 dx) := B1_3.cell 0
  have k1_3_1 : w1.cell? ⟨w.heap.size + 1 + 1 + 1, 1, none⟩ = some (.int .i64 dy) := B1_3.cell 1
  have z1_3 : w.heap.size + 1 + 1 + 1 < w1.heap.size := B1_3.lt
  clear B1_3
  go_wp2_with fail
  refine (c1.out _).mono ?_
  rintro e w2 ⟨rfl, hb2⟩
  have HH2 := Lib.hid ((HH1.out).below hb2)
  have HB2 := Lib.hid (below_trans (HB1.out) hb2)
  clear k1_0_0 k1_0_1 z1_0 k1_1_0 k1_1_1 z1_1 k1_2_0 k1_2_1 z1_2 k1_3_0 k1_3_1 z1_3
  clear hb2
  clear HH1 HB1
  have B2_0 : Blk w2 (w.heap.size) 46 #[.int .i64 ax, .int .i64 ay] := HH2.out (w.heap.size, 46, [.int .i64 ax, .int .i64 ay]) (by simp)
  have k2_0_0 : w2.cell? ⟨w.heap.size, 0, none⟩ = some (.int .i64 ax) := B2_0.cell 0
  have k2_0_1 : w2.cell? ⟨w.heap.size, 1, none⟩ = some (.int .i64 ay) := B2_0.cell 1
  have z2_0 : w.heap.size < w2.heap.size := B2_0.lt
  clear B2_0
  have B2_1 : Blk w2 (w.heap.size + 1) 46 #[.int .i64 bx, .int .i64 bY] := HH2.out (w.heap.size + 1, 46, [.int .i64 bx, .int .i64 bY]) (by simp)
  have k2_1_0 : w2.cell? ⟨w.heap.size + 1, 0, none⟩ = some (.int .i64 bx) := B2_1.cell 0
  have k2_1_1 : w2.cell? ⟨w.heap.size + 1, 1, none⟩ = some (.int .i64 bY) := B2_1.cell 1
  have z2_1 : w.heap.size + 1 < w2.heap.size := B2_1.lt
  clear B2_1
  have B2_2 : Blk w2 (w.heap.size + 1 + 1) 46 #[.int .i64 cx, .int .i64 cy] := HH2.out (w.heap.size + 1 + 1, 46, [.int .i64 cx, .int .i64 cy]) (by simp)
  have k2_2_0 : w2.cell? ⟨w.heap.size + 1 + 1, 0, none⟩ = some (.int .i64 cx) := B2_2.cell 0
  have k2_2_1 : w2.cell? ⟨w.heap.size + 1 + 1, 1, none⟩ = some (.int .i64 cy) := B2_2.cell 1
  have z2_2 : w.heap.size + 1 + 1 < w2.heap.size := B2_2.lt
  clear B2_2
  have B2_3 : Blk w2 (w.heap.size + 1 + 1 + 1) 46 #[.int .i64 dx, .int .i64 dy] := HH2.out (w.heap.size + 1 + 1 + 1, 46, [.int .i64 dx, .int .i64 dy]) (by simp)
  have k2_3_0 : w2.cell? ⟨w.heap.size + 1 + 1 + 1, 0, none⟩ = some (.int .i64 dx) := B2_3.cell 0
  have k2_3_1 : w2.cell? ⟨w.heap.size + 1 + 1 + 1, 1, none⟩ = some (.int .i64 dy) := B2_3.cell 1
  have z2_3 : w.heap.size + 1 + 1 + 1 < w2.heap.size := B2_3.lt
  clear B2_3
  go_wp2_with fail
  refine (c2.out _).mono ?_
  rintro e w3 ⟨rfl, hb3⟩
  have HH3 := Lib.hid ((HH2.out).below hb3)
  have HB3 := Lib.hid (below_trans (HB2.out) hb3)
  clear k2_0_0 k2_0_1 z2_0 k2_1_0 k2_1_1 z2_1 k2_2_0 k2_2_1 z2_2 k2_3_0 k2_3_1 z2_3
  clear hb3
  clear HH2 HB2
  have B3_0 : Blk w3 (w.heap.size) 46 #[.int .i64 ax, .int .i64 ay] := HH3.out (w.heap.size, 46, [.int .i64 ax, .int .i64 ay]) (by simp)
  have k3_0_0 : w3.cell? ⟨w.heap.size, 0, none⟩ = some (.int .i64 ax) := B3_0.cell 0
  have k3_0_1 : w3.cell? ⟨w.heap.size, 1, none⟩ = some (.int .i64 ay) := B3_0.cell 1
  have z3_0 : w.heap.size < w3.heap.size := B3_0.lt
  clear B3_0
  have B3_1 : Blk w3 (w.heap.size + 1) 46 #[.int .i64 bx, .int .i64 bY] := HH3.out (w.heap.size + 1, 46, [.int .i64 bx, .int .i64 bY]) (by simp)
  have k3_1_0 : w3.cell? ⟨w.heap.size + 1, 0, none⟩ = some (.int .i64 bx) := B3_1.cell 0
  have k3_1_1 : w3.cell? ⟨w.heap.size + 1, 1, none⟩ = some (.int .i64 bY) := B3_1.cell 1
  have z3_1 : w.heap.size + 1 < w3.heap.size := B3_1.lt
  clear B3_1
  have B3_2 : Blk w3 (w.heap.size + 1 + 1) 46 #[.int .i64 cx, .int .i64 cy] := HH3.out (w.heap.size + 1 + 1, 46, [.int .i64 cx, .int .i64 cy]) (by simp)
  have k3_2_0 : w3.cell? ⟨w.heap.size + 1 + 1, 0, none⟩ = some (.int .i64 cx) := B3_2.cell 0
  have k3_2_1 : w3.cell? ⟨w.heap.size + 1 + 1, 1, none⟩ = some (.int .i64 cy) := B3_2.cell 1
  have z3_2 : w.heap.size + 1 + 1 < w3.heap.size := B3_2.lt
  clear B3_2
  have B3_3 : Blk w3 (w.heap.size + 1 + 1 + 1) 46 #[.int .i64 dx, .int .i64 dy] := HH3.out (w.heap.size + 1 + 1 + 1, 46, [.int .i64 dx, .int .i64 dy]) (by simp)
  have k3_3_0 : w3.cell? ⟨w.heap.size + 1 + 1 + 1, 0, none⟩ = some (.int .i64 dx) := B3_3.cell 0
  have k3_3_1 : w3.cell? ⟨w.heap.size + 1 + 1 + 1, 1, none⟩ = some (.int .i64 dy) := B3_3.cell 1
  have z3_3 : w.heap.size + 1 + 1 + 1 < w3.heap.size := B3_3.lt
  clear B3_3
  go_wp2_with fail
  refine (c3.out _).mono ?_
  rintro e w4 ⟨rfl, hb4⟩
  have HH4 := Lib.hid ((HH3.out).below hb4)
  have HB4 := Lib.hid (below_trans (HB3.out) hb4)
  clear k3_0_0 k3_0_1 z3_0 k3_1_0 k3_1_1 z3_1 k3_2_0 k3_2_1 z3_2 k3_3_0 k3_3_1 z3_3
  clear hb4
  clear HH3 HB3
  have B4_0 : Blk w4 (w.heap.size) 46 #[.int .i64 ax, .int .i64 ay] := HH4.out (w.heap.size, 46, [.int .i64 ax, .int .i64 ay]) (by simp)
  have k4_0_0 : w4.cell? ⟨w.heap.size, 0, none⟩ = some (.int .i64 ax) := B4_0.cell 0
  have k4_0_1 : w4.cell? ⟨w.heap.size, 1, none⟩ = some (.int .i64 ay) := B4_0.cell 1
  have z4_0 : w.heap.size < w4.heap.size := B4_0.lt
  clear B4_0
  have B4_1 : Blk w4 (w.heap.size + 1) 46 #[.int .i64 bx, .int .i64 bY] := HH4.out (w.heap.size + 1, 46, [.int .i64 bx, .int .i64 bY]) (by simp)
  have k4_1_0 : w4.cell? ⟨w.heap.size + 1, 0, none⟩ = some (.int .i64 bx) := B4_1.cell 0
  have k4_1_1 : w4.cell? ⟨w.heap.size + 1, 1, none⟩ = some (.int .i64 bY) := B4_1.cell 1
  have z4_1 : w.heap.size + 1 < w4.heap.size := B4_1.lt
  clear B4_1
  have B4_2 : Blk w4 (w.heap.size + 1 + 1) 46 #[.int .i64 cx, .int .i64 cy] := HH4.out (w.heap.size + 1 + 1, 46, [.int .i64 cx, .int .i64 cy]) (by simp)
  have k4_2_0 : w4.cell? ⟨w.heap.size + 1 + 1, 0, none⟩ = some (.int .i64 cx) := B4_2.cell 0
  have k4_2_1 : w4.cell? ⟨w.heap.size + 1 + 1, 1, none⟩ = some (.int .i64 cy) := B4_2.cell 1
  have z4_2 : w.heap.size + 1 + 1 < w4.heap.size := B4_2.lt
  clear B4_2
  have B4_3 : Blk w4 (w.heap.size + 1 + 1 + 1) 46 #[.int .i64 dx, .int .i64 dy] := HH4.out (w.heap.size + 1 + 1 + 1, 46, [.int .i64 dx, .int .i64 dy]) (by simp)
  have k4_3_0 : w4.cell? ⟨w.heap.size + 1 + 1 + 1, 0, none⟩ = some (.int .i64 dx) := B4_3.cell 0
  have k4_3_1 : w4.cell? ⟨w.heap.size + 1 + 1 + 1, 1, none⟩ = some (.int .i64 dy) := B4_3.cell 1
  have z4_3 : w.heap.size + 1 + 1 + 1 < w4.heap.size := B4_3.lt
  clear B4_3
  go_wp2_with fail
  refine (c4.out _).mono ?_
  rintro e w5 ⟨rfl, hb5⟩
  have HH5 := Lib.hid ((HH4.out).below hb5)
  have HB5 := Lib.hid (below_trans (HB4.out) hb5)
  clear k4_0_0 k4_0_1 z4_0 k4_1_0 k4_1_1 z4_1 k4_2_0 k4_2_1 z4_2 k4_3_0 k4_3_1 z4_3
  clear hb5
  clear HH4 HB4
  have B5_0 : Blk w5 (w.heap.size) 46 #[.int .i64 ax, .int .i64 ay] := HH5.out (w.heap.size, 46, [.int .i64 ax, .int .i64 ay]) (by simp)
  have k5_0_0 : w5.cell? ⟨w.heap.size, 0, none⟩ = some (.int .i64 ax) := B5_0.cell 0
  have k5_0_1 : w5.cell? ⟨w.heap.size, 1, none⟩ = some (.int .i64 ay) := B5_0.cell 1
  have z5_0 : w.heap.size < w5.heap.size := B5_0.lt
  clear B5_0
  have B5_1 : Blk w5 (w.heap.size + 1) 46 #[.int .i64 bx, .int .i64 bY] := HH5.out (w.heap.size + 1, 46, [.int .i64 bx, .int .i64 bY]) (by simp)
  have k5_1_0 : w5.cell? ⟨w.heap.size + 1, 0, none⟩ = some (.int .i64 bx) := B5_1.cell 0
  have k5_1_1 : w5.cell? ⟨w.heap.size + 1, 1, none⟩ = some (.int .i64 bY) := B5_1.cell 1
  have z5_1 : w.heap.size + 1 < w5.heap.size := B5_1.lt
  clear B5_1
  have B5_2 : Blk w5 (w.heap.size + 1 + 1) 46 #[.int .i64 cx, .int .i64 cy] := HH5.out (w.heap.size + 1 + 1, 46, [.int .i64 cx, .int .i64 cy]) (by simp)
  have k5_2_0 : w5.cell? ⟨w.heap.size + 1 + 1, 0, none⟩ = some (.int .i64 cx) := B5_2.cell 0
  have k5_2_1 : w5.cell? ⟨w.heap.size + 1 + 1, 1, none⟩ = some (.int .i64 cy) := B5_2.cell 1
  have z5_2 : w.heap.size + 1 + 1 < w5.heap.size := B5_2.lt
  clear B5_2
  have B5_3 : Blk w5 (w.heap.size + 1 + 1 + 1) 46 #[.int .i64 dx, .int .i64 dy] := HH5.out (w.heap.size + 1 + 1 + 1, 46, [.int .i64 dx, .int .i64 dy]) (by simp)
  have k5_3_0 : w5.cell? ⟨w.heap.size + 1 + 1 + 1, 0, none⟩ = some (.int .i64 dx) := B5_3.cell 0
  have k5_3_1 : w5.cell? ⟨w.heap.size + 1 + 1 + 1, 1, none⟩ = some (.int .i64 dy) := B5_3.cell 1
  have z5_3 : w.heap.size + 1 + 1 + 1 < w5.heap.size := B5_3.lt
  clear B5_3
  go_wp2_with fail
  refine (c5.out _).mono ?_
  rintro e w6 ⟨rfl, hb6⟩
  have HH6 := Lib.hid ((HH5.out).below hb6)
  have HB6 := Lib.hid (below_trans (HB5.out) hb6)
  clear k5_0_0 k5_0_1 z5_0 k5_1_0 k5_1_1 z5_1 k5_2_0 k5_2_1 z5_2 k5_3_0 k5_3_1 z5_3
  clear hb6
  clear HH5 HB5
  have B6_0 : Blk w6 (w.heap.size) 46 #[.int .i64 ax, .int .i64 ay] := HH6.out (w.heap.size, 46, [.int .i64 ax, .int .i64 ay]) (by simp)
  have k6_0_0 : w6.cell? ⟨w.heap.size, 0, none⟩ = some (.int .i64 ax) := B6_0.cell 0
  have k6_0_1 : w6.cell? ⟨w.heap.size, 1, none⟩ = some (.int .i64 ay) := B6_0.cell 1
  have z6_0 : w.heap.size < w6.heap.size := B6_0.lt
  clear B6_0
  have B6_1 : Blk w6 (w.heap.size + 1) 46 #[.int .i64 bx, .int .i64 bY] := HH6.out (w.heap.size + 1, 46, [.int .i64 bx, .int .i64 bY]) (by simp)
  have k6_1_0 : w6.cell? ⟨w.heap.size + 1, 0, none⟩ = some (.int .i64 bx) := B6_1.cell 0
  have k6_1_1 : w6.cell? ⟨w.heap.size + 1, 1, none⟩ = some (.int .i64 bY) := B6_1.cell 1
  have z6_1 : w.heap.size + 1 < w6.heap.size := B6_1.lt
  clear B6_1
  have B6_2 : Blk w6 (w.heap.size + 1 + 1) 46 #[.int .i64 cx, .int .i64 cy] := HH6.out (w.heap.size + 1 + 1, 46, [.int .i64 cx, .int .i64 cy]) (by simp)
  have k6_2_0 : w6.cell? ⟨w.heap.size + 1 + 1, 0, none⟩ = some (.int .i64 cx) := B6_2.cell 0
  have k6_2_1 : w6.cell? ⟨w.heap.size + 1 + 1, 1, none⟩ = some (.int .i64 cy) := B6_2.cell 1
  have z6_2 : w.heap.size + 1 + 1 < w6.heap.size := B6_2.lt
  clear B6_2
  have B6_3 : Blk w6 (w.heap.size + 1 + 1 + 1) 46 #[.int .i64 dx, .int .i64 dy] := HH6.out (w.heap.size + 1 + 1 + 1, 46, [.int .i64 dx, .int .i64 dy]) (by simp)
  have k6_3_0 : w6.cell? ⟨w.heap.size + 1 + 1 + 1, 0, none⟩ = some (.int .i64 dx) := B6_3.cell 0
  have k6_3_1 : w6.cell? ⟨w.heap.size + 1 + 1 + 1, 1, none⟩ = some (.int .i64 dy) := B6_3.cell 1
  have z6_3 : w.heap.size + 1 + 1 + 1 < w6.heap.size := B6_3.lt
  clear B6_3
  go_wp2_with fail
  refine (c6.out _).mono ?_
  rintro e w7 ⟨rfl, hb7⟩
  have HH7 := Lib.hid ((HH6.out).below hb7)
  have HB7 := Lib.hid (below_trans (HB6.out) hb7)
  clear k6_0_0 k6_0_1 z6_0 k6_1_0 k6_1_1 z6_1 k6_2_0 k6_2_1 z6_2 k6_3_0 k6_3_1 z6_3
  clear hb7
  clear HH6 HB6
  have B7_0 : Blk w7 (w.heap.size) 46 #[.int .i64 ax, .int .i64 ay] := HH7.out (w.heap.size, 46, [.int .i64 ax, .int .i64 ay]) (by simp)
  have k7_0_0 : w7.cell? ⟨w.heap.size, 0, none⟩ = some (.int .i64 ax) := B7_0.cell 0
  have k7_0_1 : w7.cell? ⟨w.heap.size, 1, none⟩ = some (.int .i64 ay) := B7_0.cell 1
  have z7_0 : w.heap.size < w7.heap.size := B7_0.lt
  clear B7_0
  have B7_1 : Blk w7 (w.heap.size + 1) 46 #[.int .i64 bx, .int .i64 bY] := HH7.out (w.heap.size + 1, 46, [.int .i64 bx, .int .i64 bY]) (by simp)
  have k7_1_0 : w7.cell? ⟨w.heap.size + 1, 0, none⟩ = some (.int .i64 bx) := B7_1.cell 0
  have k7_1_1 : w7.cell? ⟨w.heap.size + 1, 1, none⟩ = some (.int .i64 bY) := B7_1.cell 1
  have z7_1 : w.heap.size + 1 < w7.heap.size := B7_1.lt
  clear B7_1
  have B7_2 : Blk w7 (w.heap.size + 1 + 1) 46 #[.int .i64 cx, .int .i64 cy] := HH7.out (w.heap.size + 1 + 1, 46, [.int .i64 cx, .int .i64 cy]) (by simp)
  have k7_2_0 : w7.cell? ⟨w.heap.size + 1 + 1, 0, none⟩ = some (.int .i64 cx) := B7_2.cell 0
  have k7_2_1 : w7.cell? ⟨w.heap.size + 1 + 1, 1, none⟩ = some (.int .i64 cy) := B7_2.cell 1
  have z7_2 : w.heap.size + 1 + 1 < w7.heap.size := B7_2.lt
  clear B7_2
  have B7_3 : Blk w7 (w.heap.size + 1 + 1 + 1) 46 #[.int .i64 dx, .int .i64 dy] := HH7.out (w.heap.size + 1 + 1 + 1, 46, [.int .i64 dx, .int .i64 dy]) (by simp)
  have k7_3_0 : w7.cell? ⟨w.heap.size + 1 + 1 + 1, 0, none⟩ = some (.int .i64 dx) := B7_3.cell 0
  have k7_3_1 : w7.cell? ⟨w.heap.size + 1 + 1 + 1, 1, none⟩ = some (.int .i64 dy) := B7_3.cell 1
  have z7_3 : w.heap.size + 1 + 1 + 1 < w7.heap.size := B7_3.lt
  clear B7_3
  go_wp2_with fail
  refine (c7.out _).mono ?_
  rintro e w8 ⟨rfl, hb8⟩
  have HH8 := Lib.hid ((HH7.out).below hb8)
  have HB8 := Lib.hid (below_trans (HB7.out) hb8)
  clear k7_0_0 k7_0_1 z7_0 k7_1_0 k7_1_1 z7_1 k7_2_0 k7_2_1 z7_2 k7_3_0 k7_3_1 z7_3
  clear hb8
  clear HH7 HB7
  have B8_0 : Blk w8 (w.heap.size) 46 #[.int .i64 ax, .int .i64 ay] := HH8.out (w.heap.size, 46, [.int .i64 ax, .int .i64 ay]) (by simp)
  have k8_0_0 : w8.cell? ⟨w.heap.size, 0, none⟩ = some (.int .i64 ax) := B8_0.cell 0
  have k8_0_1 : w8.cell? ⟨w.heap.size, 1, none⟩ = some (.int .i64 ay) := B8_0.cell 1
  have z8_0 : w.heap.size < w8.heap.size := B8_0.lt
  clear B8_0
  have B8_1 : Blk w8 (w.heap.size + 1) 46 #[.int .i64 bx, .int .i64 bY] := HH8.out (w.heap.size + 1, 46, [.int .i64 bx, .int .i64 bY]) (by simp)
  have k8_1_0 : w8.cell? ⟨w.heap.size + 1, 0, none⟩ = some (.int .i64 bx) := B8_1.cell 0
  have k8_1_1 : w8.cell? ⟨w.heap.size + 1, 1, none⟩ = some (.int .i64 bY) := B8_1.cell 1
  have z8_1 : w.heap.size + 1 < w8.heap.size := B8_1.lt
  clear B8_1
  have B8_2 : Blk w8 (w.heap.size + 1 + 1) 46 #[.int .i64 cx, .int .i64 cy] := HH8.out (w.heap.size + 1 + 1, 46, [.int .i64 cx, .int .i64 cy]) (by simp)
  have k8_2_0 : w8.cell? ⟨w.heap.size + 1 + 1, 0, none⟩ = some (.int .i64 cx) := B8_2.cell 0
  have k8_2_1 : w8.cell? ⟨w.heap.size + 1 + 1, 1, none⟩ = some (.int .i64 cy) := B8_2.cell 1
  have z8_2 : w.heap.size + 1 + 1 < w8.heap.size := B8_2.lt
  clear B8_2
  have B8_3 : Blk w8 (w.heap.size + 1 + 1 + 1) 46 #[.int .i64 dx, .int .i64 dy] := HH8.out (w.heap.size + 1 + 1 + 1, 46, [.int .i64 dx, .int .i64 dy]) (by simp)
  have k8_3_0 : w8.cell? ⟨w.heap.size + 1 + 1 + 1, 0, none⟩ = some (.int .i64 dx) := B8_3.cell 0
  have k8_3_1 : w8.cell? ⟨w.heap.size + 1 + 1 + 1, 1, none⟩ = some (.int .i64 dy) := B8_3.cell 1
  have z8_3 : w.heap.size + 1 + 1 + 1 < w8.heap.size := B8_3.lt
  clear B8_3
  go_wp2_with fail
  refine (c8.out _).mono ?_
  rintro e w9 ⟨rfl, hb9⟩
  have HH9 := Lib.hid ((HH8.out).below hb9)
  have HB9 := Lib.hid (below_trans (HB8.out) hb9)
  clear k8_0_0 k8_0_1 z8_0 k8_1_0 k8_1_1 z8_1 k8_2_0 k8_2_1 z8_2 k8_3_0 k8_3_1 z8_3
  clear hb9
  clear HH8 HB8
  have B9_0 : Blk w9 (w.heap.size) 46 #[.int .i64 ax, .int .i64 ay] := HH9.out (w.heap.size, 46, [.int .i64 ax, .int .i64 ay]) (by simp)
  have k9_0_0 : w9.cell? ⟨w.heap.size, 0, none⟩ = some (.int .i64 ax) := B9_0.cell 0
  have k9_0_1 : w9.cell? ⟨w.heap.size, 1, none⟩ = some (.int .i64 ay) := B9_0.cell 1
  have z9_0 : w.heap.size < w9.heap.size := B9_0.lt
  clear B9_0
  have B9_1 : Blk w9 (w.heap.size + 1) 46 #[.int .i64 bx, .int .i64 bY] := HH9.out (w.heap.size + 1, 46, [.int .i64 bx, .int .i64 bY]) (by simp)
  have k9_1_0 : w9.cell? ⟨w.heap.size + 1, 0, none⟩ = some (.int .i64 bx) := B9_1.cell 0
  have k9_1_1 : w9.cell? ⟨w.heap.size + 1, 1, none⟩ = some (.int .i64 bY) := B9_1.cell 1
  have z9_1 : w.heap.size + 1 < w9.heap.size := B9_1.lt
  clear B9_1
  have B9_2 : Blk w9 (w.heap.size + 1 + 1) 46 #[.int .i64 cx, .int .i64 cy] := HH9.out (w.heap.size + 1 + 1, 46, [.int .i64 cx, .int .i64 cy]) (by simp)
  have k9_2_0 : w9.cell? ⟨w.heap.size + 1 + 1, 0, none⟩ = some (.int .i64 cx) := B9_2.cell 0
  have k9_2_1 : w9.cell? ⟨w.heap.size + 1 + 1, 1, none⟩ = some (.int .i64 cy) := B9_2.cell 1
  have z9_2 : w.heap.size + 1 + 1 < w9.heap.size := B9_2.lt
  clear B9_2
  have B9_3 : Blk w9 (w.heap.size + 1 + 1 + 1) 46 #[.int .i64 dx, .int .i64 dy] := HH9.out (w.heap.size + 1 + 1 + 1, 46, [.int .i64 dx, .int .i64 dy]) (by simp)
  have k9_3_0 : w9.cell? ⟨w.heap.size + 1 + 1 + 1, 0, none⟩ = some (.int .i64 dx) := B9_3.cell 0
  have k9_3_1 : w9.cell? ⟨w.heap.size + 1 + 1 + 1, 1, none⟩ = some (.int .i64 dy) := B9_3.cell 1
  have z9_3 : w.heap.size + 1 + 1 + 1 < w9.heap.size := B9_3.lt
  clear B9_3
  go_wp2_with fail
  refine (c9.out _).mono ?_
  rintro e w10 ⟨rfl, hb10⟩
  have HH10 := Lib.hid ((HH9.out).below hb10)
  have HB10 := Lib.hid (below_trans (HB9.out) hb10)
  clear k9_0_0 k9_0_1 z9_0 k9_1_0 k9_1_1 z9_1 k9_2_0 k9_2_1 z9_2 k9_3_0 k9_3_1 z9_3
  clear hb10
  clear HH9 HB9
  have B10_0 : Blk w10 (w.heap.size) 46 #[.int .i64 ax, .int .i64 ay] := HH10.out (w.heap.size, 46, [.int .i64 ax, .int .i64 ay]) (by simp)
  have k10_0_0 : w10.cell? ⟨w.heap.size, 0, none⟩ = some (.int .i64 ax) := B10_0.cell 0
  have k10_0_1 : w10.cell? ⟨w.heap.size, 1, none⟩ = some (.int .i64 ay) := B10_0.cell 1
  have z10_0 : w.heap.size < w10.heap.size := B10_0.lt
  clear B10_0
  have B10_1 : Blk w10 (w.heap.size + 1) 46 #[.int .i64 bx, .int .i64 bY] := HH10.out (w.heap.size + 1, 46, [.int .i64 bx, .int .i64 bY]) (by simp)
  have k10_1_0 : w10.cell? ⟨w.heap.size + 1, 0, none⟩ = some (.int .i64 bx) := B10_1.cell 0
  have k10_1_1 : w10.cell? ⟨w.heap.size + 1, 1, none⟩ = some (.int .i64 bY) := B10_1.cell 1
  have z10_1 : w.heap.size + 1 < w10.heap.size := B10_1.lt
  clear B10_1
  have B10_2 : Blk w10 (w.heap.size + 1 + 1) 46 #[.int .i64 cx, .int .i64 cy] := HH10.out (w.heap.size + 1 + 1, 46, [.int .i64 cx, .int .i64 cy]) (by simp)
  have k10_2_0 : w10.cell? ⟨w.heap.size + 1 + 1, 0, none⟩ = some (.int .i64 cx) := B10_2.cell 0
  have k10_2_1 : w10.cell? ⟨w.heap.size + 1 + 1, 1, none⟩ = some (.int .i64 cy) := B10_2.cell 1
  have z10_2 : w.heap.size + 1 + 1 < w10.heap.size := B10_2.lt
  clear B10_2
  have B10_3 : Blk w10 (w.heap.size + 1 + 1 + 1) 46 #[.int .i64 dx, .int .i64 dy] := HH10.out (w.heap.size + 1 + 1 + 1, 46, [.int .i64 dx, .int .i64 dy]) (by simp)
  have k10_3_0 : w10.cell? ⟨w.heap.size + 1 + 1 + 1, 0, none⟩ = some (.int .i64 dx) := B10_3.cell 0
  have k10_3_1 : w10.cell? ⟨w.heap.size + 1 + 1 + 1, 1, none⟩ = some (.int .i64 dy) := B10_3.cell 1
  have z10_3 : w.heap.size + 1 + 1 + 1 < w10.heap.size := B10_3.lt
  clear B10_3
  go_wp2
  go_returns
  exact ⟨rfl, by repeat (first | with_reducible exact HB10.out | with_reducible refine Below.drew ?_ | with_reducible refine below_drewN ?_ _ | with_reducible refine below_set ?_ (by have := HB10.out.size; simp <;> omega) _ | with_reducible refine below_alloc ?_ _)⟩
set_option maxRecDepth 100000 in
set_option maxHeartbeats 3200000 in
theorem segs_1 (ax ay bx bY cx cy dx dy : Int) (h1 : in2 ax ay = true) (h2 : in2 bx bY = false) (w : World) : Calls Try.prog 11 #[.agg #[.int .i64 ax, .int .i64 ay], .agg #[.int .i64 bx, .int .i64 bY], .agg #[.int .i64 cx, .int .i64 cy], .agg #[.int .i64 dx, .int .i64 dy]] w fun e w' => e = .returned (.bool true) ∧ Below w.heap.size w w' := by
  have c0 := Lib.hid fun W => awake_any W
  have c1 := Lib.hid fun W => turnP_no ax ay bx bY cx cy (fun hh => by simp [h2] at hh) W
  have c2 := Lib.hid fun W => turnP_no ax ay cx cy bx bY (fun hh => by simp [h2] at hh) W
  have c3 := Lib.hid fun W => turnP_no bx bY cx cy ax ay (fun hh => by simp [h2] at hh) W
  have c4 := Lib.hid fun W => onP_no ax ay bx bY cx cy (fun hh => by simp [h2] at hh) W
  have c5 := Lib.hid fun W => meetP_no ax ay bx bY cx cy cx cy (fun hh => by simp [h2] at hh) W
  have c6 := Lib.hid fun W => meetP_no ax ay bx bY cx cy dx dy (fun hh => by simp [h2] at hh) W
  have c7 := Lib.hid fun W => meetP_no dx dy cx cy ax ay bx bY (fun hh => by simp [h2] at hh) W
  have c8 := Lib.hid fun W => meetP_no bx bY ax ay dx dy cx cy (fun hh => by simp [h2] at hh) W
  have c9 := Lib.hid fun W => meetP_no ax ay bx bY ax ay bx bY (fun hh => by simp [h2] at hh) W
  clear h1 h2
  go_enter Try.func11, Try.ntmps11
  go_wp2_with fail
  refine (c0.out _).mono ?_
  rintro e w1 ⟨rfl, hb1⟩
  have HH1 := Lib.hid (((((((Blks.nil (w := w))).new (w.heap.size) 46 [.int .i64 ax, .int .i64 ay] rfl).new (w.heap.size + 1) 46 [.int .i64 bx, .int .i64 bY] (by simp)).new (w.heap.size + 1 + 1) 46 [.int .i64 cx, .int .i64 cy] (by simp)).new (w.heap.size + 1 + 1 + 1) 46 [.int .i64 dx, .int .i64 dy] (by simp)).below hb1)
  have HB1 := Lib.hid (below_trans (below_alloc (below_alloc (below_alloc (below_alloc (Below.refl _ _) _) _) _) _) hb1)
  clear hb1
  have B1_0 : Blk w1 (w.heap.size) 46 #[.int .i64 ax, .int .i64 ay] := HH1.out (w.heap.size, 46, [.int .i64 ax, .int .i64 ay]) (by simp)
  have k1_0_0 : w1.cell? ⟨w.heap.size, 0, none⟩ = some (.int .i64 ax) := B1_0.cell 0
  have k1_0_1 : w1.cell? ⟨w.heap.size, 1, none⟩ = some (.int .i64 ay) := B1_0.cell 1
  have z1_0 : w.heap.size < w1.heap.size := B1_0.lt
  clear B1_0
  have B1_1 : Blk w1 (w.heap.size + 1) 46 #[.int .i64 bx, .int .i64 bY] := HH1.out (w.heap.size + 1, 46, [.int .i64 bx, .int .i64 bY]) (by simp)
  have k1_1_0 : w1.cell? ⟨w.heap.size + 1, 0, none⟩ = some (.int .i64 bx) := B1_1.cell 0
  have k1_1_1 : w1.cell? ⟨w.heap.size + 1, 1, none⟩ = some (.int .i64 bY) := B1_1.cell 1
  have z1_1 : w.heap.size + 1 < w1.heap.size := B1_1.lt
  clear B1_1
  have B1_2 : Blk w1 (w.heap.size + 1 + 1) 46 #[.int .i64 cx, .int .i64 cy] := HH1.out (w.heap.size + 1 + 1, 46, [.int .i64 cx, .int .i64 cy]) (by simp)
  have k1_2_0 : w1.cell? ⟨w.heap.size + 1 + 1, 0, none⟩ = some (.int .i64 cx) := B1_2.cell 0
  have k1_2_1 : w1.cell? ⟨w.heap.size + 1 + 1, 1, none⟩ = some (.int .i64 cy) := B1_2.cell 1
  have z1_2 : w.heap.size + 1 + 1 < w1.heap.size := B1_2.lt
  clear B1_2
  have B1_3 : Blk w1 (w.heap.size + 1 + 1 + 1) 46 #[.int .i64 dx, .int .i64 dy] := HH1.out (w.heap.size + 1 + 1 + 1, 46, [.int .i64 dx, .int .i64 dy]) (by simp)
  have k1_3_0 : w1.cell? ⟨w.heap.size + 1 + 1 + 1, 0, none⟩ = some (.int .i64 dx) := B1_3.cell 0
  have k1_3_1 : w1.cell? ⟨w.heap.size + 1 + 1 + 1, 1, none⟩ = some (.int .i64 dy) := B1_3.cell 1
  have z1_3 : w.heap.size + 1 + 1 + 1 < w1.heap.size := B1_3.lt
  clear B1_3
  go_wp2_with fail
  refine (c1.out _).mono ?_
  rintro e w2 ⟨rfl, hb2⟩
  have HH2 := Lib.hid ((HH1.out).below hb2)
  have HB2 := Lib.hid (below_trans (HB1.out) hb2)
  clear k1_0_0 k1_0_1 z1_0 k1_1_0 k1_1_1 z1_1 k1_2_0 k1_2_1 z1_2 k1_3_0 k1_3_1 z1_3
  clear hb2
  clear HH1 HB1
  have B2_0 : Blk w2 (w.heap.size) 46 #[.int .i64 ax, .int .i64 ay] := HH2.out (w.heap.size, 46, [.int .i64 ax, .int .i64 ay]) (by simp)
  have k2_0_0 : w2.cell? ⟨w.heap.size, 0, none⟩ = some (.int .i64 ax) := B2_0.cell 0
  have k2_0_1 : w2.cell? ⟨w.heap.size, 1, none⟩ = some (.int .i64 ay) := B2_0.cell 1
  have z2_0 : w.heap.size < w2.heap.size := B2_0.lt
  clear B2_0
  have B2_1 : Blk w2 (w.heap.size + 1) 46 #[.int .i64 bx, .int .i64 bY] := HH2.out (w.heap.size + 1, 46, [.int .i64 bx, .int .i64 bY]) (by simp)
  have k2_1_0 : w2.cell? ⟨w.heap.size + 1, 0, none⟩ = some (.int .i64 bx) := B2_1.cell 0
  have k2_1_1 : w2.cell? ⟨w.heap.size + 1, 1, none⟩ = some (.int .i64 bY) := B2_1.cell 1
  have z2_1 : w.heap.size + 1 < w2.heap.size := B2_1.lt
  clear B2_1
  have B2_2 : Blk w2 (w.heap.size + 1 + 1) 46 #[.int .i64 cx, .int .i64 cy] := HH2.out (w.heap.size + 1 + 1, 46, [.int .i64 cx, .int .i64 cy]) (by simp)
  have k2_2_0 : w2.cell? ⟨w.heap.size + 1 + 1, 0, none⟩ = some (.int .i64 cx) := B2_2.cell 0
  have k2_2_1 : w2.cell? ⟨w.heap.size + 1 + 1, 1, none⟩ = some (.int .i64 cy) := B2_2.cell 1
  have z2_2 : w.heap.size + 1 + 1 < w2.heap.size := B2_2.lt
  clear B2_2
  have B2_3 : Blk w2 (w.heap.size + 1 + 1 + 1) 46 #[.int .i64 dx, .int .i64 dy] := HH2.out (w.heap.size + 1 + 1 + 1, 46, [.int .i64 dx, .int .i64 dy]) (by simp)
  have k2_3_0 : w2.cell? ⟨w.heap.size + 1 + 1 + 1, 0, none⟩ = some (.int .i64 dx) := B2_3.cell 0
  have k2_3_1 : w2.cell? ⟨w.heap.size + 1 + 1 + 1, 1, none⟩ = some (.int .i64 dy) := B2_3.cell 1
  have z2_3 : w.heap.size + 1 + 1 + 1 < w2.heap.size := B2_3.lt
  clear B2_3
  go_wp2_with fail
  refine (c2.out _).mono ?_
  rintro e w3 ⟨rfl, hb3⟩
  have HH3 := Lib.hid ((HH2.out).below hb3)
  have HB3 := Lib.hid (below_trans (HB2.out) hb3)
  clear k2_0_0 k2_0_1 z2_0 k2_1_0 k2_1_1 z2_1 k2_2_0 k2_2_1 z2_2 k2_3_0 k2_3_1 z2_3
  clear hb3
  clear HH2 HB2
  have B3_0 : Blk w3 (w.heap.size) 46 #[.int .i64 ax, .int .i64 ay] := HH3.out (w.heap.size, 46, [.int .i64 ax, .int .i64 ay]) (by simp)
  have k3_0_0 : w3.cell? ⟨w.heap.size, 0, none⟩ = some (.int .i64 ax) := B3_0.cell 0
  have k3_0_1 : w3.cell? ⟨w.heap.size, 1, none⟩ = some (.int .i64 ay) := B3_0.cell 1
  have z3_0 : w.heap.size < w3.heap.size := B3_0.lt
  clear B3_0
  have B3_1 : Blk w3 (w.heap.size + 1) 46 #[.int .i64 bx, .int .i64 bY] := HH3.out (w.heap.size + 1, 46, [.int .i64 bx, .int .i64 bY]) (by simp)
  have k3_1_0 : w3.cell? ⟨w.heap.size + 1, 0, none⟩ = some (.int .i64 bx) := B3_1.cell 0
  have k3_1_1 : w3.cell? ⟨w.heap.size + 1, 1, none⟩ = some (.int .i64 bY) := B3_1.cell 1
  have z3_1 : w.heap.size + 1 < w3.heap.size := B3_1.lt
  clear B3_1
  have B3_2 : Blk w3 (w.heap.size + 1 + 1) 46 #[.int .i64 cx, .int .i64 cy] := HH3.out (w.heap.size + 1 + 1, 46, [.int .i64 cx, .int .i64 cy]) (by simp)
  have k3_2_0 : w3.cell? ⟨w.heap.size + 1 + 1, 0, none⟩ = some (.int .i64 cx) := B3_2.cell 0
  have k3_2_1 : w3.cell? ⟨w.heap.size + 1 + 1, 1, none⟩ = some (.int .i64 cy) := B3_2.cell 1
  have z3_2 : w.heap.size + 1 + 1 < w3.heap.size := B3_2.lt
  clear B3_2
  have B3_3 : Blk w3 (w.heap.size + 1 + 1 + 1) 46 #[.int .i64 dx, .int .i64 dy] := HH3.out (w.heap.size + 1 + 1 + 1, 46, [.int .i64 dx, .int .i64 dy]) (by simp)
  have k3_3_0 : w3.cell? ⟨w.heap.size + 1 + 1 + 1, 0, none⟩ = some (.int .i64 dx) := B3_3.cell 0
  have k3_3_1 : w3.cell? ⟨w.heap.size + 1 + 1 + 1, 1, none⟩ = some (.int .i64 dy) := B3_3.cell 1
  have z3_3 : w.heap.size + 1 + 1 + 1 < w3.heap.size := B3_3.lt
  clear B3_3
  go_wp2_with fail
  refine (c3.out _).mono ?_
  rintro e w4 ⟨rfl, hb4⟩
  have HH4 := Lib.hid ((HH3.out).below hb4)
  have HB4 := Lib.hid (below_trans (HB3.out) hb4)
  clear k3_0_0 k3_0_1 z3_0 k3_1_0 k3_1_1 z3_1 k3_2_0 k3_2_1 z3_2 k3_3_0 k3_3_1 z3_3
  clear hb4
  clear HH3 HB3
  have B4_0 : Blk w4 (w.heap.size) 46 #[.int .i64 ax, .int .i64 ay] := HH4.out (w.heap.size, 46, [.int .i64 ax, .int .i64 ay]) (by simp)
  have k4_0_0 : w4.cell? ⟨w.heap.size, 0, none⟩ = some (.int .i64 ax) := B4_0.cell 0
  have k4_0_1 : w4.cell? ⟨w.heap.size, 1, none⟩ = some (.int .i64 ay) := B4_0.cell 1
  have z4_0 : w.heap.size < w4.heap.size := B4_0.lt
  clear B4_0
  have B4_1 : Blk w4 (w.heap.size + 1) 46 #[.int .i64 bx, .int .i64 bY] := HH4.out (w.heap.size + 1, 46, [.int .i64 bx, .int .i64 bY]) (by simp)
  have k4_1_0 : w4.cell? ⟨w.heap.size + 1, 0, none⟩ = some (.int .i64 bx) := B4_1.cell 0
  have k4_1_1 : w4.cell? ⟨w.heap.size + 1, 1, none⟩ = some (.int .i64 bY) := B4_1.cell 1
  have z4_1 : w.heap.size + 1 < w4.heap.size := B4_1.lt
  clear B4_1
  have B4_2 : Blk w4 (w.heap.size + 1 + 1) 46 #[.int .i64 cx, .int .i64 cy] := HH4.out (w.heap.size + 1 + 1, 46, [.int .i64 cx, .int .i64 cy]) (by simp)
  have k4_2_0 : w4.cell? ⟨w.heap.size + 1 + 1, 0, none⟩ = some (.int .i64 cx) := B4_2.cell 0
  have k4_2_1 : w4.cell? ⟨w.heap.size + 1 + 1, 1, none⟩ = some (.int .i64 cy) := B4_2.cell 1
  have z4_2 : w.heap.size + 1 + 1 < w4.heap.size := B4_2.lt
  clear B4_2
  have B4_3 : Blk w4 (w.heap.size + 1 + 1 + 1) 46 #[.int .i64 dx, .int .i64 dy] := HH4.out (w.heap.size + 1 + 1 + 1, 46, [.int .i64 dx, .int .i64 dy]) (by simp)
  have k4_3_0 : w4.cell? ⟨w.heap.size + 1 + 1 + 1, 0, none⟩ = some (.int .i64 dx) := B4_3.cell 0
  have k4_3_1 : w4.cell? ⟨w.heap.size + 1 + 1 + 1, 1, none⟩ = some (.int .i64 dy) := B4_3.cell 1
  have z4_3 : w.heap.size + 1 + 1 + 1 < w4.heap.size := B4_3.lt
  clear B4_3
  go_wp2_with fail
  refine (c4.out _).mono ?_
  rintro e w5 ⟨rfl, hb5⟩
  have HH5 := Lib.hid ((HH4.out).below hb5)
  have HB5 := Lib.hid (below_trans (HB4.out) hb5)
  clear k4_0_0 k4_0_1 z4_0 k4_1_0 k4_1_1 z4_1 k4_2_0 k4_2_1 z4_2 k4_3_0 k4_3_1 z4_3
  clear hb5
  clear HH4 HB4
  have B5_0 : Blk w5 (w.heap.size) 46 #[.int .i64 ax, .int .i64 ay] := HH5.out (w.heap.size, 46, [.int .i64 ax, .int .i64 ay]) (by simp)
  have k5_0_0 : w5.cell? ⟨w.heap.size, 0, none⟩ = some (.int .i64 ax) := B5_0.cell 0
  have k5_0_1 : w5.cell? ⟨w.heap.size, 1, none⟩ = some (.int .i64 ay) := B5_0.cell 1
  have z5_0 : w.heap.size < w5.heap.size := B5_0.lt
  clear B5_0
  have B5_1 : Blk w5 (w.heap.size + 1) 46 #[.int .i64 bx, .int .i64 bY] := HH5.out (w.heap.size + 1, 46, [.int .i64 bx, .int .i64 bY]) (by simp)
  have k5_1_0 : w5.cell? ⟨w.heap.size + 1, 0, none⟩ = some (.int .i64 bx) := B5_1.cell 0
  have k5_1_1 : w5.cell? ⟨w.heap.size + 1, 1, none⟩ = some (.int .i64 bY) := B5_1.cell 1
  have z5_1 : w.heap.size + 1 < w5.heap.size := B5_1.lt
  clear B5_1
  have B5_2 : Blk w5 (w.heap.size + 1 + 1) 46 #[.int .i64 cx, .int .i64 cy] := HH5.out (w.heap.size + 1 + 1, 46, [.int .i64 cx, .int .i64 cy]) (by simp)
  have k5_2_0 : w5.cell? ⟨w.heap.size + 1 + 1, 0, none⟩ = some (.int .i64 cx) := B5_2.cell 0
  have k5_2_1 : w5.cell? ⟨w.heap.size + 1 + 1, 1, none⟩ = some (.int .i64 cy) := B5_2.cell 1
  have z5_2 : w.heap.size + 1 + 1 < w5.heap.size := B5_2.lt
  clear B5_2
  have B5_3 : Blk w5 (w.heap.size + 1 + 1 + 1) 46 #[.int .i64 dx, .int .i64 dy] := HH5.out (w.heap.size + 1 + 1 + 1, 46, [.int .i64 dx, .int .i64 dy]) (by simp)
  have k5_3_0 : w5.cell? ⟨w.heap.size + 1 + 1 + 1, 0, none⟩ = some (.int .i64 dx) := B5_3.cell 0
  have k5_3_1 : w5.cell? ⟨w.heap.size + 1 + 1 + 1, 1, none⟩ = some (.int .i64 dy) := B5_3.cell 1
  have z5_3 : w.heap.size + 1 + 1 + 1 < w5.heap.size := B5_3.lt
  clear B5_3
  go_wp2_with fail
  refine (c5.out _).mono ?_
  rintro e w6 ⟨rfl, hb6⟩
  have HH6 := Lib.hid ((HH5.out).below hb6)
  have HB6 := Lib.hid (below_trans (HB5.out) hb6)
  clear k5_0_0 k5_0_1 z5_0 k5_1_0 k5_1_1 z5_1 k5_2_0 k5_2_1 z5_2 k5_3_0 k5_3_1 z5_3
  clear hb6
  clear HH5 HB5
  have B6_0 : Blk w6 (w.heap.size) 46 #[.int .i64 ax, .int .i64 ay] := HH6.out (w.heap.size, 46, [.int .i64 ax, .int .i64 ay]) (by simp)
  have k6_0_0 : w6.cell? ⟨w.heap.size, 0, none⟩ = some (.int .i64 ax) := B6_0.cell 0
  have k6_0_1 : w6.cell? ⟨w.heap.size, 1, none⟩ = some (.int .i64 ay) := B6_0.cell 1
  have z6_0 : w.heap.size < w6.heap.size := B6_0.lt
  clear B6_0
  have B6_1 : Blk w6 (w.heap.size + 1) 46 #[.int .i64 bx, .int .i64 bY] := HH6.out (w.heap.size + 1, 46, [.int .i64 bx, .int .i64 bY]) (by simp)
  have k6_1_0 : w6.cell? ⟨w.heap.size + 1, 0, none⟩ = some (.int .i64 bx) := B6_1.cell 0
  have k6_1_1 : w6.cell? ⟨w.heap.size + 1, 1, none⟩ = some (.int .i64 bY) := B6_1.cell 1
  have z6_1 : w.heap.size + 1 < w6.heap.size := B6_1.lt
  clear B6_1
  have B6_2 : Blk w6 (w.heap.size + 1 + 1) 46 #[.int .i64 cx, .int .i64 cy] := HH6.out (w.heap.size + 1 + 1, 46, [.int .i64 cx, .int .i64 cy]) (by simp)
  have k6_2_0 : w6.cell? ⟨w.heap.size + 1 + 1, 0, none⟩ = some (.int .i64 cx) := B6_2.cell 0
  have k6_2_1 : w6.cell? ⟨w.heap.size + 1 + 1, 1, none⟩ = some (.int .i64 cy) := B6_2.cell 1
  have z6_2 : w.heap.size + 1 + 1 < w6.heap.size := B6_2.lt
  clear B6_2
  have B6_3 : Blk w6 (w.heap.size + 1 + 1 + 1) 46 #[.int .i64 dx, .int .i64 dy] := HH6.out (w.heap.size + 1 + 1 + 1, 46, [.int .i64 dx, .int .i64 dy]) (by simp)
  have k6_3_0 : w6.cell? ⟨w.heap.size + 1 + 1 + 1, 0, none⟩ = some (.int .i64 dx) := B6_3.cell 0
  have k6_3_1 : w6.cell? ⟨w.heap.size + 1 + 1 + 1, 1, none⟩ = some (.int .i64 dy) := B6_3.cell 1
  have z6_3 : w.heap.size + 1 + 1 + 1 < w6.heap.size := B6_3.lt
  clear B6_3
  go_wp2_with fail
  refine (c6.out _).mono ?_
  rintro e w7 ⟨rfl, hb7⟩
  have HH7 := Lib.hid ((HH6.out).below hb7)
  have HB7 := Lib.hid (below_trans (HB6.out) hb7)
  clear k6_0_0 k6_0_1 z6_0 k6_1_0 k6_1_1 z6_1 k6_2_0 k6_2_1 z6_2 k6_3_0 k6_3_1 z6_3
  clear hb7
  clear HH6 HB6
  have B7_0 : Blk w7 (w.heap.size) 46 #[.int .i64 ax, .int .i64 ay] := HH7.out (w.heap.size, 46, [.int .i64 ax, .int .i64 ay]) (by simp)
  have k7_0_0 : w7.cell? ⟨w.heap.size, 0, none⟩ = some (.int .i64 ax) := B7_0.cell 0
  have k7_0_1 : w7.cell? ⟨w.heap.size, 1, none⟩ = some (.int .i64 ay) := B7_0.cell 1
  have z7_0 : w.heap.size < w7.heap.size := B7_0.lt
  clear B7_0
  have B7_1 : Blk w7 (w.heap.size + 1) 46 #[.int .i64 bx, .int .i64 bY] := HH7.out (w.heap.size + 1, 46, [.int .i64 bx, .int .i64 bY]) (by simp)
  have k7_1_0 : w7.cell? ⟨w.heap.size + 1, 0, none⟩ = some (.int .i64 bx) := B7_1.cell 0
  have k7_1_1 : w7.cell? ⟨w.heap.size + 1, 1, none⟩ = some (.int .i64 bY) := B7_1.cell 1
  have z7_1 : w.heap.size + 1 < w7.heap.size := B7_1.lt
  clear B7_1
  have B7_2 : Blk w7 (w.heap.size + 1 + 1) 46 #[.int .i64 cx, .int .i64 cy] := HH7.out (w.heap.size + 1 + 1, 46, [.int .i64 cx, .int .i64 cy]) (by simp)
  have k7_2_0 : w7.cell? ⟨w.heap.size + 1 + 1, 0, none⟩ = some (.int .i64 cx) := B7_2.cell 0
  have k7_2_1 : w7.cell? ⟨w.heap.size + 1 + 1, 1, none⟩ = some (.int .i64 cy) := B7_2.cell 1
  have z7_2 : w.heap.size + 1 + 1 < w7.heap.size := B7_2.lt
  clear B7_2
  have B7_3 : Blk w7 (w.heap.size + 1 + 1 + 1) 46 #[.int .i64 dx, .int .i64 dy] := HH7.out (w.heap.size + 1 + 1 + 1, 46, [.int .i64 dx, .int .i64 dy]) (by simp)
  have k7_3_0 : w7.cell? ⟨w.heap.size + 1 + 1 + 1, 0, none⟩ = some (.int .i64 dx) := B7_3.cell 0
  have k7_3_1 : w7.cell? ⟨w.heap.size + 1 + 1 + 1, 1, none⟩ = some (.int .i64 dy) := B7_3.cell 1
  have z7_3 : w.heap.size + 1 + 1 + 1 < w7.heap.size := B7_3.lt
  clear B7_3
  go_wp2_with fail
  refine (c7.out _).mono ?_
  rintro e w8 ⟨rfl, hb8⟩
  have HH8 := Lib.hid ((HH7.out).below hb8)
  have HB8 := Lib.hid (below_trans (HB7.out) hb8)
  clear k7_0_0 k7_0_1 z7_0 k7_1_0 k7_1_1 z7_1 k7_2_0 k7_2_1 z7_2 k7_3_0 k7_3_1 z7_3
  clear hb8
  clear HH7 HB7
  have B8_0 : Blk w8 (w.heap.size) 46 #[.int .i64 ax, .int .i64 ay] := HH8.out (w.heap.size, 46, [.int .i64 ax, .int .i64 ay]) (by simp)
  have k8_0_0 : w8.cell? ⟨w.heap.size, 0, none⟩ = some (.int .i64 ax) := B8_0.cell 0
  have k8_0_1 : w8.cell? ⟨w.heap.size, 1, none⟩ = some (.int .i64 ay) := B8_0.cell 1
  have z8_0 : w.heap.size < w8.heap.size := B8_0.lt
  clear B8_0
  have B8_1 : Blk w8 (w.heap.size + 1) 46 #[.int .i64 bx, .int .i64 bY] := HH8.out (w.heap.size + 1, 46, [.int .i64 bx, .int .i64 bY]) (by simp)
  have k8_1_0 : w8.cell? ⟨w.heap.size + 1, 0, none⟩ = some (.int .i64 bx) := B8_1.cell 0
  have k8_1_1 : w8.cell? ⟨w.heap.size + 1, 1, none⟩ = some (.int .i64 bY) := B8_1.cell 1
  have z8_1 : w.heap.size + 1 < w8.heap.size := B8_1.lt
  clear B8_1
  have B8_2 : Blk w8 (w.heap.size + 1 + 1) 46 #[.int .i64 cx, .int .i64 cy] := HH8.out (w.heap.size + 1 + 1, 46, [.int .i64 cx, .int .i64 cy]) (by simp)
  have k8_2_0 : w8.cell? ⟨w.heap.size + 1 + 1, 0, none⟩ = some (.int .i64 cx) := B8_2.cell 0
  have k8_2_1 : w8.cell? ⟨w.heap.size + 1 + 1, 1, none⟩ = some (.int .i64 cy) := B8_2.cell 1
  have z8_2 : w.heap.size + 1 + 1 < w8.heap.size := B8_2.lt
  clear B8_2
  have B8_3 : Blk w8 (w.heap.size + 1 + 1 + 1) 46 #[.int .i64 dx, .int .i64 dy] := HH8.out (w.heap.size + 1 + 1 + 1, 46, [.int .i64 dx, .int .i64 dy]) (by simp)
  have k8_3_0 : w8.cell? ⟨w.heap.size + 1 + 1 + 1, 0, none⟩ = some (.int .i64 dx) := B8_3.cell 0
  have k8_3_1 : w8.cell? ⟨w.heap.size + 1 + 1 + 1, 1, none⟩ = some (.int .i64 dy) := B8_3.cell 1
  have z8_3 : w.heap.size + 1 + 1 + 1 < w8.heap.size := B8_3.lt
  clear B8_3
  go_wp2_with fail
  refine (c8.out _).mono ?_
  rintro e w9 ⟨rfl, hb9⟩
  have HH9 := Lib.hid ((HH8.out).below hb9)
  have HB9 := Lib.hid (below_trans (HB8.out) hb9)
  clear k8_0_0 k8_0_1 z8_0 k8_1_0 k8_1_1 z8_1 k8_2_0 k8_2_1 z8_2 k8_3_0 k8_3_1 z8_3
  clear hb9
  clear HH8 HB8
  have B9_0 : Blk w9 (w.heap.size) 46 #[.int .i64 ax, .int .i64 ay] := HH9.out (w.heap.size, 46, [.int .i64 ax, .int .i64 ay]) (by simp)
  have k9_0_0 : w9.cell? ⟨w.heap.size, 0, none⟩ = some (.int .i64 ax) := B9_0.cell 0
  have k9_0_1 : w9.cell? ⟨w.heap.size, 1, none⟩ = some (.int .i64 ay) := B9_0.cell 1
  have z9_0 : w.heap.size < w9.heap.size := B9_0.lt
  clear B9_0
  have B9_1 : Blk w9 (w.heap.size + 1) 46 #[.int .i64 bx, .int .i64 bY] := HH9.out (w.heap.size + 1, 46, [.int .i64 bx, .int .i64 bY]) (by simp)
  have k9_1_0 : w9.cell? ⟨w.heap.size + 1, 0, none⟩ = some (.int .i64 bx) := B9_1.cell 0
  have k9_1_1 : w9.cell? ⟨w.heap.size + 1, 1, none⟩ = some (.int .i64 bY) := B9_1.cell 1
  have z9_1 : w.heap.size + 1 < w9.heap.size := B9_1.lt
  clear B9_1
  have B9_2 : Blk w9 (w.heap.size + 1 + 1) 46 #[.int .i64 cx, .int .i64 cy] := HH9.out (w.heap.size + 1 + 1, 46, [.int .i64 cx, .int .i64 cy]) (by simp)
  have k9_2_0 : w9.cell? ⟨w.heap.size + 1 + 1, 0, none⟩ = some (.int .i64 cx) := B9_2.cell 0
  have k9_2_1 : w9.cell? ⟨w.heap.size + 1 + 1, 1, none⟩ = some (.int .i64 cy) := B9_2.cell 1
  have z9_2 : w.heap.size + 1 + 1 < w9.heap.size := B9_2.lt
  clear B9_2
  have B9_3 : Blk w9 (w.heap.size + 1 + 1 + 1) 46 #[.int .i64 dx, .int .i64 dy] := HH9.out (w.heap.size + 1 + 1 + 1, 46, [.int .i64 dx, .int .i64 dy]) (by simp)
  have k9_3_0 : w9.cell? ⟨w.heap.size + 1 + 1 + 1, 0, none⟩ = some (.int .i64 dx) := B9_3.cell 0
  have k9_3_1 : w9.cell? ⟨w.heap.size + 1 + 1 + 1, 1, none⟩ = some (.int .i64 dy) := B9_3.cell 1
  have z9_3 : w.heap.size + 1 + 1 + 1 < w9.heap.size := B9_3.lt
  clear B9_3
  go_wp2_with fail
  refine (c9.out _).mono ?_
  rintro e w10 ⟨rfl, hb10⟩
  have HH10 := Lib.hid ((HH9.out).below hb10)
  have HB10 := Lib.hid (below_trans (HB9.out) hb10)
  clear k9_0_0 k9_0_1 z9_0 k9_1_0 k9_1_1 z9_1 k9_2_0 k9_2_1 z9_2 k9_3_0 k9_3_1 z9_3
  clear hb10
  clear HH9 HB9
  have B10_0 : Blk w10 (w.heap.size) 46 #[.int .i64 ax, .int .i64 ay] := HH10.out (w.heap.size, 46, [.int .i64 ax, .int .i64 ay]) (by simp)
  have k10_0_0 : w10.cell? ⟨w.heap.size, 0, none⟩ = some (.int .i64 ax) := B10_0.cell 0
  have k10_0_1 : w10.cell? ⟨w.heap.size, 1, none⟩ = some (.int .i64 ay) := B10_0.cell 1
  have z10_0 : w.heap.size < w10.heap.size := B10_0.lt
  clear B10_0
  have B10_1 : Blk w10 (w.heap.size + 1) 46 #[.int .i64 bx, .int .i64 bY] := HH10.out (w.heap.size + 1, 46, [.int .i64 bx, .int .i64 bY]) (by simp)
  have k10_1_0 : w10.cell? ⟨w.heap.size + 1, 0, none⟩ = some (.int .i64 bx) := B10_1.cell 0
  have k10_1_1 : w10.cell? ⟨w.heap.size + 1, 1, none⟩ = some (.int .i64 bY) := B10_1.cell 1
  have z10_1 : w.heap.size + 1 < w10.heap.size := B10_1.lt
  clear B10_1
  have B10_2 : Blk w10 (w.heap.size + 1 + 1) 46 #[.int .i64 cx, .int .i64 cy] := HH10.out (w.heap.size + 1 + 1, 46, [.int .i64 cx, .int .i64 cy]) (by simp)
  have k10_2_0 : w10.cell? ⟨w.heap.size + 1 + 1, 0, none⟩ = some (.int .i64 cx) := B10_2.cell 0
  have k10_2_1 : w10.cell? ⟨w.heap.size + 1 + 1, 1, none⟩ = some (.int .i64 cy) := B10_2.cell 1
  have z10_2 : w.heap.size + 1 + 1 < w10.heap.size := B10_2.lt
  clear B10_2
  have B10_3 : Blk w10 (w.heap.size + 1 + 1 + 1) 46 #[.int .i64 dx, .int .i64 dy] := HH10.out (w.heap.size + 1 + 1 + 1, 46, [.int .i64 dx, .int .i64 dy]) (by simp)
  have k10_3_0 : w10.cell? ⟨w.heap.size + 1 + 1 + 1, 0, none⟩ = some (.int .i64 dx) := B10_3.cell 0
  have k10_3_1 : w10.cell? ⟨w.heap.size + 1 + 1 + 1, 1, none⟩ = some (.int .i64 dy) := B10_3.cell 1
  have z10_3 : w.heap.size + 1 + 1 + 1 < w10.heap.size := B10_3.lt
  clear B10_3
  go_wp2
  go_returns
  exact ⟨rfl, by repeat (first | with_reducible exact HB10.out | with_reducible refine Below.drew ?_ | with_reducible refine below_drewN ?_ _ | with_reducible refine below_set ?_ (by have := HB10.out.size; simp <;> omega) _ | with_reducible refine below_alloc ?_ _)⟩
set_option maxRecDepth 100000 in
set_option maxHeartbeats 3200000 in
theorem segs_2e (ax ay cx cy dx dy : Int) (h1 : in2 ax ay = true) (h3 : in2 cx cy = false) (w : World) : Calls Try.prog 11 #[.agg #[.int .i64 ax, .int .i64 ay], .agg #[.int .i64 ax, .int .i64 ay], .agg #[.int .i64 cx, .int .i64 cy], .agg #[.int .i64 dx, .int .i64 dy]] w fun e w' => e = .returned (.bool true) ∧ Below w.heap.size w w' := by
  have c0 := Lib.hid fun W => awake_any W
  have c1 := Lib.hid fun W => turnP_no ax ay ax ay cx cy (fun hh => by simp [h3] at hh) W
  have c2 := Lib.hid fun W => turnP_no ax ay cx cy ax ay (fun hh => by simp [h3] at hh) W
  have c3 := Lib.hid fun W => turnP_no ax ay cx cy ax ay (fun hh => by simp [h3] at hh) W
  have c4 := Lib.hid fun W => onP_no ax ay ax ay cx cy (fun hh => by simp [h3] at hh) W
  have c5 := Lib.hid fun W => meetP_no ax ay ax ay cx cy cx cy (fun hh => by simp [h3] at hh) W
  have c6 := Lib.hid fun W => meetP_no ax ay ax ay cx cy dx dy (fun hh => by simp [h3] at hh) W
  have c7 := Lib.hid fun W => meetP_no dx dy cx cy ax ay ax ay (fun hh => by simp [h3] at hh) W
  have c8 := Lib.hid fun W => meetP_no ax ay ax ay dx dy cx cy (fun hh => by simp [h3] at hh) W
  have c9 := Lib.hid fun W => meetP_ok ax ay ax ay ax ay ax ay h1 h1 h1 h1 W
  rw [meet_self] at c9
  rw [if_pos ⟨rfl, rfl⟩] at c9
  have e1 := fun W => pt_same_eql ax ay W
  have gd := fun x y xs ys W => pt_guard .eql x y xs ys W
  have gn := fun x y xs ys W => pt_guard .neq x y xs ys W
  clear h1 h3
  go_enter Try.func11, Try.ntmps11
  go_wp2_with fail
  refine (c0.out _).mono ?_
  rintro e w1 ⟨rfl, hb1⟩
  have HH1 := Lib.hid (((((((Blks.nil (w := w))).new (w.heap.size) 46 [.int .i64 ax, .int .i64 ay] rfl).new (w.heap.size + 1) 46 [.int .i64 ax, .int .i64 ay] (by simp)).new (w.heap.size + 1 + 1) 46 [.int .i64 cx, .int .i64 cy] (by simp)).new (w.heap.size + 1 + 1 + 1) 46 [.int .i64 dx, .int .i64 dy] (by simp)).below hb1)
  have HB1 := Lib.hid (below_trans (below_alloc (below_alloc (below_alloc (below_alloc (Below.refl _ _) _) _) _) _) hb1)
  clear hb1
  have B1_0 : Blk w1 (w.heap.size) 46 #[.int .i64 ax, .int .i64 ay] := HH1.out (w.heap.size, 46, [.int .i64 ax, .int .i64 ay]) (by simp)
  have k1_0_0 : w1.cell? ⟨w.heap.size, 0, none⟩ = some (.int .i64 ax) := B1_0.cell 0
  have k1_0_1 : w1.cell? ⟨w.heap.size, 1, none⟩ = some (.int .i64 ay) := B1_0.cell 1
  have z1_0 : w.heap.size < w1.heap.size := B1_0.lt
  clear B1_0
  have B1_1 : Blk w1 (w.heap.size + 1) 46 #[.int .i64 ax, .int .i64 ay] := HH1.out (w.heap.size + 1, 46, [.int .i64 ax, .int .i64 ay]) (by simp)
  have k1_1_0 : w1.cell? ⟨w.heap.size + 1, 0, none⟩ = some (.int .i64 ax) := B1_1.cell 0
  have k1_1_1 : w1.cell? ⟨w.heap.size + 1, 1, none⟩ = some (.int .i64 ay) := B1_1.cell 1
  have z1_1 : w.heap.size + 1 < w1.heap.size := B1_1.lt
  clear B1_1
  have B1_2 : Blk w1 (w.heap.size + 1 + 1) 46 #[.int .i64 cx, .int .i64 cy] := HH1.out (w.heap.size + 1 + 1, 46, [.int .i64 cx, .int .i64 cy]) (by simp)
  have k1_2_0 : w1.cell? ⟨w.heap.size + 1 + 1, 0, none⟩ = some (.int .i64 cx) := B1_2.cell 0
  have k1_2_1 : w1.cell? ⟨w.heap.size + 1 + 1, 1, none⟩ = some (.int .i64 cy) := B1_2.cell 1
  have z1_2 : w.heap.size + 1 + 1 < w1.heap.size := B1_2.lt
  clear B1_2
  have B1_3 : Blk w1 (w.heap.size + 1 + 1 + 1) 46 #[.int .i64 dx, .int .i64 dy] := HH1.out (w.heap.size + 1 + 1 + 1, 46, [.int .i64 dx, .int .i64 dy]) (by simp)
  have k1_3_0 : w1.cell? ⟨w.heap.size + 1 + 1 + 1, 0, none⟩ = some (.int .i64 dx) := B1_3.cell 0
  have k1_3_1 : w1.cell? ⟨w.heap.size + 1 + 1 + 1, 1, none⟩ = some (.int .i64 dy) := B1_3.cell 1
  have z1_3 : w.heap.size + 1 + 1 + 1 < w1.heap.size := B1_3.lt
  clear B1_3
  go_wp2_with fail
  refine (c1.out _).mono ?_
  rintro e w2 ⟨rfl, hb2⟩
  have HH2 := Lib.hid ((HH1.out).below hb2)
  have HB2 := Lib.hid (below_trans (HB1.out) hb2)
  clear k1_0_0 k1_0_1 z1_0 k1_1_0 k1_1_1 z1_1 k1_2_0 k1_2_1 z1_2 k1_3_0 k1_3_1 z1_3
  clear hb2
  clear HH1 HB1
  have B2_0 : Blk w2 (w.heap.size) 46 #[.int .i64 ax, .int .i64 ay] := HH2.out (w.heap.size, 46, [.int .i64 ax, .int .i64 ay]) (by simp)
  have k2_0_0 : w2.cell? ⟨w.heap.size, 0, none⟩ = some (.int .i64 ax) := B2_0.cell 0
  have k2_0_1 : w2.cell? ⟨w.heap.size, 1, none⟩ = some (.int .i64 ay) := B2_0.cell 1
  have z2_0 : w.heap.size < w2.heap.size := B2_0.lt
  clear B2_0
  have B2_1 : Blk w2 (w.heap.size + 1) 46 #[.int .i64 ax, .int .i64 ay] := HH2.out (w.heap.size + 1, 46, [.int .i64 ax, .int .i64 ay]) (by simp)
  have k2_1_0 : w2.cell? ⟨w.heap.size + 1, 0, none⟩ = some (.int .i64 ax) := B2_1.cell 0
  have k2_1_1 : w2.cell? ⟨w.heap.size + 1, 1, none⟩ = some (.int .i64 ay) := B2_1.cell 1
  have z2_1 : w.heap.size + 1 < w2.heap.size := B2_1.lt
  clear B2_1
  have B2_2 : Blk w2 (w.heap.size + 1 + 1) 46 #[.int .i64 cx, .int .i64 cy] := HH2.out (w.heap.size + 1 + 1, 46, [.int .i64 cx, .int .i64 cy]) (by simp)
  have k2_2_0 : w2.cell? ⟨w.heap.size + 1 + 1, 0, none⟩ = some (.int .i64 cx) := B2_2.cell 0
  have k2_2_1 : w2.cell? ⟨w.heap.size + 1 + 1, 1, none⟩ = some (.int .i64 cy) := B2_2.cell 1
  have z2_2 : w.heap.size + 1 + 1 < w2.heap.size := B2_2.lt
  clear B2_2
  have B2_3 : Blk w2 (w.heap.size + 1 + 1 + 1) 46 #[.int .i64 dx, .int .i64 dy] := HH2.out (w.heap.size + 1 + 1 + 1, 46, [.int .i64 dx, .int .i64 dy]) (by simp)
  have k2_3_0 : w2.cell? ⟨w.heap.size + 1 + 1 + 1, 0, none⟩ = some (.int .i64 dx) := B2_3.cell 0
  have k2_3_1 : w2.cell? ⟨w.heap.size + 1 + 1 + 1, 1, none⟩ = some (.int .i64 dy) := B2_3.cell 1
  have z2_3 : w.heap.size + 1 + 1 + 1 < w2.heap.size := B2_3.lt
  clear B2_3
  go_wp2_with fail
  refine (c2.out _).mono ?_
  rintro e w3 ⟨rfl, hb3⟩
  have HH3 := Lib.hid ((HH2.out).below hb3)
  have HB3 := Lib.hid (below_trans (HB2.out) hb3)
  clear k2_0_0 k2_0_1 z2_0 k2_1_0 k2_1_1 z2_1 k2_2_0 k2_2_1 z2_2 k2_3_0 k2_3_1 z2_3
  clear hb3
  clear HH2 HB2
  have B3_0 : Blk w3 (w.heap.size) 46 #[.int .i64 ax, .int .i64 ay] := HH3.out (w.heap.size, 46, [.int .i64 ax, .int .i64 ay]) (by simp)
  have k3_0_0 : w3.cell? ⟨w.heap.size, 0, none⟩ = some (.int .i64 ax) := B3_0.cell 0
  have k3_0_1 : w3.cell? ⟨w.heap.size, 1, none⟩ = some (.int .i64 ay) := B3_0.cell 1
  have z3_0 : w.heap.size < w3.heap.size := B3_0.lt
  clear B3_0
  have B3_1 : Blk w3 (w.heap.size + 1) 46 #[.int .i64 ax, .int .i64 ay] := HH3.out (w.heap.size + 1, 46, [.int .i64 ax, .int .i64 ay]) (by simp)
  have k3_1_0 : w3.cell? ⟨w.heap.size + 1, 0, none⟩ = some (.int .i64 ax) := B3_1.cell 0
  have k3_1_1 : w3.cell? ⟨w.heap.size + 1, 1, none⟩ = some (.int .i64 ay) := B3_1.cell 1
  have z3_1 : w.heap.size + 1 < w3.heap.size := B3_1.lt
  clear B3_1
  have B3_2 : Blk w3 (w.heap.size + 1 + 1) 46 #[.int .i64 cx, .int .i64 cy] := HH3.out (w.heap.size + 1 + 1, 46, [.int .i64 cx, .int .i64 cy]) (by simp)
  have k3_2_0 : w3.cell? ⟨w.heap.size + 1 + 1, 0, none⟩ = some (.int .i64 cx) := B3_2.cell 0
  have k3_2_1 : w3.cell? ⟨w.heap.size + 1 + 1, 1, none⟩ = some (.int .i64 cy) := B3_2.cell 1
  have z3_2 : w.heap.size + 1 + 1 < w3.heap.size := B3_2.lt
  clear B3_2
  have B3_3 : Blk w3 (w.heap.size + 1 + 1 + 1) 46 #[.int .i64 dx, .int .i64 dy] := HH3.out (w.heap.size + 1 + 1 + 1, 46, [.int .i64 dx, .int .i64 dy]) (by simp)
  have k3_3_0 : w3.cell? ⟨w.heap.size + 1 + 1 + 1, 0, none⟩ = some (.int .i64 dx) := B3_3.cell 0
  have k3_3_1 : w3.cell? ⟨w.heap.size + 1 + 1 + 1, 1, none⟩ = some (.int .i64 dy) := B3_3.cell 1
  have z3_3 : w.heap.size + 1 + 1 + 1 < w3.heap.size := B3_3.lt
  clear B3_3
  go_wp2_with fail
  refine (c3.out _).mono ?_
  rintro e w4 ⟨rfl, hb4⟩
  have HH4 := Lib.hid ((HH3.out).below hb4)
  have HB4 := Lib.hid (below_trans (HB3.out) hb4)
  clear k3_0_0 k3_0_1 z3_0 k3_1_0 k3_1_1 z3_1 k3_2_0 k3_2_1 z3_2 k3_3_0 k3_3_1 z3_3
  clear hb4
  clear HH3 HB3
  have B4_0 : Blk w4 (w.heap.size) 46 #[.int .i64 ax, .int .i64 ay] := HH4.out (w.heap.size, 46, [.int .i64 ax, .int .i64 ay]) (by simp)
  have k4_0_0 : w4.cell? ⟨w.heap.size, 0, none⟩ = some (.int .i64 ax) := B4_0.cell 0
  have k4_0_1 : w4.cell? ⟨w.heap.size, 1, none⟩ = some (.int .i64 ay) := B4_0.cell 1
  have z4_0 : w.heap.size < w4.heap.size := B4_0.lt
  clear B4_0
  have B4_1 : Blk w4 (w.heap.size + 1) 46 #[.int .i64 ax, .int .i64 ay] := HH4.out (w.heap.size + 1, 46, [.int .i64 ax, .int .i64 ay]) (by simp)
  have k4_1_0 : w4.cell? ⟨w.heap.size + 1, 0, none⟩ = some (.int .i64 ax) := B4_1.cell 0
  have k4_1_1 : w4.cell? ⟨w.heap.size + 1, 1, none⟩ = some (.int .i64 ay) := B4_1.cell 1
  have z4_1 : w.heap.size + 1 < w4.heap.size := B4_1.lt
  clear B4_1
  have B4_2 : Blk w4 (w.heap.size + 1 + 1) 46 #[.int .i64 cx, .int .i64 cy] := HH4.out (w.heap.size + 1 + 1, 46, [.int .i64 cx, .int .i64 cy]) (by simp)
  have k4_2_0 : w4.cell? ⟨w.heap.size + 1 + 1, 0, none⟩ = some (.int .i64 cx) := B4_2.cell 0
  have k4_2_1 : w4.cell? ⟨w.heap.size + 1 + 1, 1, none⟩ = some (.int .i64 cy) := B4_2.cell 1
  have z4_2 : w.heap.size + 1 + 1 < w4.heap.size := B4_2.lt
  clear B4_2
  have B4_3 : Blk w4 (w.heap.size + 1 + 1 + 1) 46 #[.int .i64 dx, .int .i64 dy] := HH4.out (w.heap.size + 1 + 1 + 1, 46, [.int .i64 dx, .int .i64 dy]) (by simp)
  have k4_3_0 : w4.cell? ⟨w.heap.size + 1 + 1 + 1, 0, none⟩ = some (.int .i64 dx) := B4_3.cell 0
  have k4_3_1 : w4.cell? ⟨w.heap.size + 1 + 1 + 1, 1, none⟩ = some (.int .i64 dy) := B4_3.cell 1
  have z4_3 : w.heap.size + 1 + 1 + 1 < w4.heap.size := B4_3.lt
  clear B4_3
  go_wp2_with fail
  refine (c4.out _).mono ?_
  rintro e w5 ⟨rfl, hb5⟩
  have HH5 := Lib.hid ((HH4.out).below hb5)
  have HB5 := Lib.hid (below_trans (HB4.out) hb5)
  clear k4_0_0 k4_0_1 z4_0 k4_1_0 k4_1_1 z4_1 k4_2_0 k4_2_1 z4_2 k4_3_0 k4_3_1 z4_3
  clear hb5
  clear HH4 HB4
  have B5_0 : Blk w5 (w.heap.size) 46 #[.int .i64 ax, .int .i64 ay] := HH5.out (w.heap.size, 46, [.int .i64 ax, .int .i64 ay]) (by simp)
  have k5_0_0 : w5.cell? ⟨w.heap.size, 0, none⟩ = some (.int .i64 ax) := B5_0.cell 0
  have k5_0_1 : w5.cell? ⟨w.heap.size, 1, none⟩ = some (.int .i64 ay) := B5_0.cell 1
  have z5_0 : w.heap.size < w5.heap.size := B5_0.lt
  clear B5_0
  have B5_1 : Blk w5 (w.heap.size + 1) 46 #[.int .i64 ax, .int .i64 ay] := HH5.out (w.heap.size + 1, 46, [.int .i64 ax, .int .i64 ay]) (by simp)
  have k5_1_0 : w5.cell? ⟨w.heap.size + 1, 0, none⟩ = some (.int .i64 ax) := B5_1.cell 0
  have k5_1_1 : w5.cell? ⟨w.heap.size + 1, 1, none⟩ = some (.int .i64 ay) := B5_1.cell 1
  have z5_1 : w.heap.size + 1 < w5.heap.size := B5_1.lt
  clear B5_1
  have B5_2 : Blk w5 (w.heap.size + 1 + 1) 46 #[.int .i64 cx, .int .i64 cy] := HH5.out (w.heap.size + 1 + 1, 46, [.int .i64 cx, .int .i64 cy]) (by simp)
  have k5_2_0 : w5.cell? ⟨w.heap.size + 1 + 1, 0, none⟩ = some (.int .i64 cx) := B5_2.cell 0
  have k5_2_1 : w5.cell? ⟨w.heap.size + 1 + 1, 1, none⟩ = some (.int .i64 cy) := B5_2.cell 1
  have z5_2 : w.heap.size + 1 + 1 < w5.heap.size := B5_2.lt
  clear B5_2
  have B5_3 : Blk w5 (w.heap.size + 1 + 1 + 1) 46 #[.int .i64 dx, .int .i64 dy] := HH5.out (w.heap.size + 1 + 1 + 1, 46, [.int .i64 dx, .int .i64 dy]) (by simp)
  have k5_3_0 : w5.cell? ⟨w.heap.size + 1 + 1 + 1, 0, none⟩ = some (.int .i64 dx) := B5_3.cell 0
  have k5_3_1 : w5.cell? ⟨w.heap.size + 1 + 1 + 1, 1, none⟩ = some (.int .i64 dy) := B5_3.cell 1
  have z5_3 : w.heap.size + 1 + 1 + 1 < w5.heap.size := B5_3.lt
  clear B5_3
  go_wp2_with fail
  refine (c5.out _).mono ?_
  rintro e w6 ⟨rfl, hb6⟩
  have HH6 := Lib.hid ((HH5.out).below hb6)
  have HB6 := Lib.hid (below_trans (HB5.out) hb6)
  clear k5_0_0 k5_0_1 z5_0 k5_1_0 k5_1_1 z5_1 k5_2_0 k5_2_1 z5_2 k5_3_0 k5_3_1 z5_3
  clear hb6
  clear HH5 HB5
  have B6_0 : Blk w6 (w.heap.size) 46 #[.int .i64 ax, .int .i64 ay] := HH6.out (w.heap.size, 46, [.int .i64 ax, .int .i64 ay]) (by simp)
  have k6_0_0 : w6.cell? ⟨w.heap.size, 0, none⟩ = some (.int .i64 ax) := B6_0.cell 0
  have k6_0_1 : w6.cell? ⟨w.heap.size, 1, none⟩ = some (.int .i64 ay) := B6_0.cell 1
  have z6_0 : w.heap.size < w6.heap.size := B6_0.lt
  clear B6_0
  have B6_1 : Blk w6 (w.heap.size + 1) 46 #[.int .i64 ax, .int .i64 ay] := HH6.out (w.heap.size + 1, 46, [.int .i64 ax, .int .i64 ay]) (by simp)
  have k6_1_0 : w6.cell? ⟨w.heap.size + 1, 0, none⟩ = some (.int .i64 ax) := B6_1.cell 0
  have k6_1_1 : w6.cell? ⟨w.heap.size + 1, 1, none⟩ = some (.int .i64 ay) := B6_1.cell 1
  have z6_1 : w.heap.size + 1 < w6.heap.size := B6_1.lt
  clear B6_1
  have B6_2 : Blk w6 (w.heap.size + 1 + 1) 46 #[.int .i64 cx, .int .i64 cy] := HH6.out (w.heap.size + 1 + 1, 46, [.int .i64 cx, .int .i64 cy]) (by simp)
  have k6_2_0 : w6.cell? ⟨w.heap.size + 1 + 1, 0, none⟩ = some (.int .i64 cx) := B6_2.cell 0
  have k6_2_1 : w6.cell? ⟨w.heap.size + 1 + 1, 1, none⟩ = some (.int .i64 cy) := B6_2.cell 1
  have z6_2 : w.heap.size + 1 + 1 < w6.heap.size := B6_2.lt
  clear B6_2
  have B6_3 : Blk w6 (w.heap.size + 1 + 1 + 1) 46 #[.int .i64 dx, .int .i64 dy] := HH6.out (w.heap.size + 1 + 1 + 1, 46, [.int .i64 dx, .int .i64 dy]) (by simp)
  have k6_3_0 : w6.cell? ⟨w.heap.size + 1 + 1 + 1, 0, none⟩ = some (.int .i64 dx) := B6_3.cell 0
  have k6_3_1 : w6.cell? ⟨w.heap.size + 1 + 1 + 1, 1, none⟩ = some (.int .i64 dy) := B6_3.cell 1
  have z6_3 : w.heap.size + 1 + 1 + 1 < w6.heap.size := B6_3.lt
  clear B6_3
  go_wp2_with fail
  refine (c6.out _).mono ?_
  rintro e w7 ⟨rfl, hb7⟩
  have HH7 := Lib.hid ((HH6.out).below hb7)
  have HB7 := Lib.hid (below_trans (HB6.out) hb7)
  clear k6_0_0 k6_0_1 z6_0 k6_1_0 k6_1_1 z6_1 k6_2_0 k6_2_1 z6_2 k6_3_0 k6_3_1 z6_3
  clear hb7
  clear HH6 HB6
  have B7_0 : Blk w7 (w.heap.size) 46 #[.int .i64 ax, .int .i64 ay] := HH7.out (w.heap.size, 46, [.int .i64 ax, .int .i64 ay]) (by simp)
  have k7_0_0 : w7.cell? ⟨w.heap.size, 0, none⟩ = some (.int .i64 ax) := B7_0.cell 0
  have k7_0_1 : w7.cell? ⟨w.heap.size, 1, none⟩ = some (.int .i64 ay) := B7_0.cell 1
  have z7_0 : w.heap.size < w7.heap.size := B7_0.lt
  clear B7_0
  have B7_1 : Blk w7 (w.heap.size + 1) 46 #[.int .i64 ax, .int .i64 ay] := HH7.out (w.heap.size + 1, 46, [.int .i64 ax, .int .i64 ay]) (by simp)
  have k7_1_0 : w7.cell? ⟨w.heap.size + 1, 0, none⟩ = some (.int .i64 ax) := B7_1.cell 0
  have k7_1_1 : w7.cell? ⟨w.heap.size + 1, 1, none⟩ = some (.int .i64 ay) := B7_1.cell 1
  have z7_1 : w.heap.size + 1 < w7.heap.size := B7_1.lt
  clear B7_1
  have B7_2 : Blk w7 (w.heap.size + 1 + 1) 46 #[.int .i64 cx, .int .i64 cy] := HH7.out (w.heap.size + 1 + 1, 46, [.int .i64 cx, .int .i64 cy]) (by simp)
  have k7_2_0 : w7.cell? ⟨w.heap.size + 1 + 1, 0, none⟩ = some (.int .i64 cx) := B7_2.cell 0
  have k7_2_1 : w7.cell? ⟨w.heap.size + 1 + 1, 1, none⟩ = some (.int .i64 cy) := B7_2.cell 1
  have z7_2 : w.heap.size + 1 + 1 < w7.heap.size := B7_2.lt
  clear B7_2
  have B7_3 : Blk w7 (w.heap.size + 1 + 1 + 1) 46 #[.int .i64 dx, .int .i64 dy] := HH7.out (w.heap.size + 1 + 1 + 1, 46, [.int .i64 dx, .int .i64 dy]) (by simp)
  have k7_3_0 : w7.cell? ⟨w.heap.size + 1 + 1 + 1, 0, none⟩ = some (.int .i64 dx) := B7_3.cell 0
  have k7_3_1 : w7.cell? ⟨w.heap.size + 1 + 1 + 1, 1, none⟩ = some (.int .i64 dy) := B7_3.cell 1
  have z7_3 : w.heap.size + 1 + 1 + 1 < w7.heap.size := B7_3.lt
  clear B7_3
  go_wp2_with fail
  refine (c7.out _).mono ?_
  rintro e w8 ⟨rfl, hb8⟩
  have HH8 := Lib.hid ((HH7.out).below hb8)
  have HB8 := Lib.hid (below_trans (HB7.out) hb8)
  clear k7_0_0 k7_0_1 z7_0 k7_1_0 k7_1_1 z7_1 k7_2_0 k7_2_1 z7_2 k7_3_0 k7_3_1 z7_3
  clear hb8
  clear HH7 HB7
  have B8_0 : Blk w8 (w.heap.size) 46 #[.int .i64 ax, .int .i64 ay] := HH8.out (w.heap.size, 46, [.int .i64 ax, .int .i64 ay]) (by simp)
  have k8_0_0 : w8.cell? ⟨w.heap.size, 0, none⟩ = some (.int .i64 ax) := B8_0.cell 0
  have k8_0_1 : w8.cell? ⟨w.heap.size, 1, none⟩ = some (.int .i64 ay) := B8_0.cell 1
  have z8_0 : w.heap.size < w8.heap.size := B8_0.lt
  clear B8_0
  have B8_1 : Blk w8 (w.heap.size + 1) 46 #[.int .i64 ax, .int .i64 ay] := HH8.out (w.heap.size + 1, 46, [.int .i64 ax, .int .i64 ay]) (by simp)
  have k8_1_0 : w8.cell? ⟨w.heap.size + 1, 0, none⟩ = some (.int .i64 ax) := B8_1.cell 0
  have k8_1_1 : w8.cell? ⟨w.heap.size + 1, 1, none⟩ = some (.int .i64 ay) := B8_1.cell 1
  have z8_1 : w.heap.size + 1 < w8.heap.size := B8_1.lt
  clear B8_1
  have B8_2 : Blk w8 (w.heap.size + 1 + 1) 46 #[.int .i64 cx, .int .i64 cy] := HH8.out (w.heap.size + 1 + 1, 46, [.int .i64 cx, .int .i64 cy]) (by simp)
  have k8_2_0 : w8.cell? ⟨w.heap.size + 1 + 1, 0, none⟩ = some (.int .i64 cx) := B8_2.cell 0
  have k8_2_1 : w8.cell? ⟨w.heap.size + 1 + 1, 1, none⟩ = some (.int .i64 cy) := B8_2.cell 1
  have z8_2 : w.heap.size + 1 + 1 < w8.heap.size := B8_2.lt
  clear B8_2
  have B8_3 : Blk w8 (w.heap.size + 1 + 1 + 1) 46 #[.int .i64 dx, .int .i64 dy] := HH8.out (w.heap.size + 1 + 1 + 1, 46, [.int .i64 dx, .int .i64 dy]) (by simp)
  have k8_3_0 : w8.cell? ⟨w.heap.size + 1 + 1 + 1, 0, none⟩ = some (.int .i64 dx) := B8_3.cell 0
  have k8_3_1 : w8.cell? ⟨w.heap.size + 1 + 1 + 1, 1, none⟩ = some (.int .i64 dy) := B8_3.cell 1
  have z8_3 : w.heap.size + 1 + 1 + 1 < w8.heap.size := B8_3.lt
  clear B8_3
  go_wp2_with fail
  refine (c8.out _).mono ?_
  rintro e w9 ⟨rfl, hb9⟩
  have HH9 := Lib.hid ((HH8.out).below hb9)
  have HB9 := Lib.hid (below_trans (HB8.out) hb9)
  clear k8_0_0 k8_0_1 z8_0 k8_1_0 k8_1_1 z8_1 k8_2_0 k8_2_1 z8_2 k8_3_0 k8_3_1 z8_3
  clear hb9
  clear HH8 HB8
  have B9_0 : Blk w9 (w.heap.size) 46 #[.int .i64 ax, .int .i64 ay] := HH9.out (w.heap.size, 46, [.int .i64 ax, .int .i64 ay]) (by simp)
  have k9_0_0 : w9.cell? ⟨w.heap.size, 0, none⟩ = some (.int .i64 ax) := B9_0.cell 0
  have k9_0_1 : w9.cell? ⟨w.heap.size, 1, none⟩ = some (.int .i64 ay) := B9_0.cell 1
  have z9_0 : w.heap.size < w9.heap.size := B9_0.lt
  clear B9_0
  have B9_1 : Blk w9 (w.heap.size + 1) 46 #[.int .i64 ax, .int .i64 ay] := HH9.out (w.heap.size + 1, 46, [.int .i64 ax, .int .i64 ay]) (by simp)
  have k9_1_0 : w9.cell? ⟨w.heap.size + 1, 0, none⟩ = some (.int .i64 ax) := B9_1.cell 0
  have k9_1_1 : w9.cell? ⟨w.heap.size + 1, 1, none⟩ = some (.int .i64 ay) := B9_1.cell 1
  have z9_1 : w.heap.size + 1 < w9.heap.size := B9_1.lt
  clear B9_1
  have B9_2 : Blk w9 (w.heap.size + 1 + 1) 46 #[.int .i64 cx, .int .i64 cy] := HH9.out (w.heap.size + 1 + 1, 46, [.int .i64 cx, .int .i64 cy]) (by simp)
  have k9_2_0 : w9.cell? ⟨w.heap.size + 1 + 1, 0, none⟩ = some (.int .i64 cx) := B9_2.cell 0
  have k9_2_1 : w9.cell? ⟨w.heap.size + 1 + 1, 1, none⟩ = some (.int .i64 cy) := B9_2.cell 1
  have z9_2 : w.heap.size + 1 + 1 < w9.heap.size := B9_2.lt
  clear B9_2
  have B9_3 : Blk w9 (w.heap.size + 1 + 1 + 1) 46 #[.int .i64 dx, .int .i64 dy] := HH9.out (w.heap.size + 1 + 1 + 1, 46, [.int .i64 dx, .int .i64 dy]) (by simp)
  have k9_3_0 : w9.cell? ⟨w.heap.size + 1 + 1 + 1, 0, none⟩ = some (.int .i64 dx) := B9_3.cell 0
  have k9_3_1 : w9.cell? ⟨w.heap.size + 1 + 1 + 1, 1, none⟩ = some (.int .i64 dy) := B9_3.cell 1
  have z9_3 : w.heap.size + 1 + 1 + 1 < w9.heap.size := B9_3.lt
  clear B9_3
  go_wp2_with fail
  refine (c9.out _).mono ?_
  rintro e w10 ⟨rfl, hb10⟩
  have HH10 := Lib.hid ((HH9.out).below hb10)
  have HB10 := Lib.hid (below_trans (HB9.out) hb10)
  clear k9_0_0 k9_0_1 z9_0 k9_1_0 k9_1_1 z9_1 k9_2_0 k9_2_1 z9_2 k9_3_0 k9_3_1 z9_3
  clear hb10
  clear HH9 HB9
  have B10_0 : Blk w10 (w.heap.size) 46 #[.int .i64 ax, .int .i64 ay] := HH10.out (w.heap.size, 46, [.int .i64 ax, .int .i64 ay]) (by simp)
  have k10_0_0 : w10.cell? ⟨w.heap.size, 0, none⟩ = some (.int .i64 ax) := B10_0.cell 0
  have k10_0_1 : w10.cell? ⟨w.heap.size, 1, none⟩ = some (.int .i64 ay) := B10_0.cell 1
  have z10_0 : w.heap.size < w10.heap.size := B10_0.lt
  clear B10_0
  have B10_1 : Blk w10 (w.heap.size + 1) 46 #[.int .i64 ax, .int .i64 ay] := HH10.out (w.heap.size + 1, 46, [.int .i64 ax, .int .i64 ay]) (by simp)
  have k10_1_0 : w10.cell? ⟨w.heap.size + 1, 0, none⟩ = some (.int .i64 ax) := B10_1.cell 0
  have k10_1_1 : w10.cell? ⟨w.heap.size + 1, 1, none⟩ = some (.int .i64 ay) := B10_1.cell 1
  have z10_1 : w.heap.size + 1 < w10.heap.size := B10_1.lt
  clear B10_1
  have B10_2 : Blk w10 (w.heap.size + 1 + 1) 46 #[.int .i64 cx, .int .i64 cy] := HH10.out (w.heap.size + 1 + 1, 46, [.int .i64 cx, .int .i64 cy]) (by simp)
  have k10_2_0 : w10.cell? ⟨w.heap.size + 1 + 1, 0, none⟩ = some (.int .i64 cx) := B10_2.cell 0
  have k10_2_1 : w10.cell? ⟨w.heap.size + 1 + 1, 1, none⟩ = some (.int .i64 cy) := B10_2.cell 1
  have z10_2 : w.heap.size + 1 + 1 < w10.heap.size := B10_2.lt
  clear B10_2
  have B10_3 : Blk w10 (w.heap.size + 1 + 1 + 1) 46 #[.int .i64 dx, .int .i64 dy] := HH10.out (w.heap.size + 1 + 1 + 1, 46, [.int .i64 dx, .int .i64 dy]) (by simp)
  have k10_3_0 : w10.cell? ⟨w.heap.size + 1 + 1 + 1, 0, none⟩ = some (.int .i64 dx) := B10_3.cell 0
  have k10_3_1 : w10.cell? ⟨w.heap.size + 1 + 1 + 1, 1, none⟩ = some (.int .i64 dy) := B10_3.cell 1
  have z10_3 : w.heap.size + 1 + 1 + 1 < w10.heap.size := B10_3.lt
  clear B10_3
  go_wp2
  go_returns
  exact ⟨rfl, by repeat (first | with_reducible exact HB10.out | with_reducible refine Below.drew ?_ | with_reducible refine below_drewN ?_ _ | with_reducible refine below_set ?_ (by have := HB10.out.size; simp <;> omega) _ | with_reducible refine below_alloc ?_ _)⟩
set_option maxRecDepth 100000 in
set_option maxHeartbeats 3200000 in
theorem segs_2n (ax ay bx bY cx cy dx dy : Int) (h1 : in2 ax ay = true) (h2 : in2 bx bY = true) (h3 : in2 cx cy = false) (hne : ¬ (ax = bx ∧ ay = bY)) (w : World) : Calls Try.prog 11 #[.agg #[.int .i64 ax, .int .i64 ay], .agg #[.int .i64 bx, .int .i64 bY], .agg #[.int .i64 cx, .int .i64 cy], .agg #[.int .i64 dx, .int .i64 dy]] w fun e w' => e = .returned (.bool true) ∧ Below w.heap.size w w' := by
  have c0 := Lib.hid fun W => awake_any W
  have c1 := Lib.hid fun W => turnP_no ax ay bx bY cx cy (fun hh => by simp [h3] at hh) W
  have c2 := Lib.hid fun W => turnP_no ax ay cx cy bx bY (fun hh => by simp [h3] at hh) W
  have c3 := Lib.hid fun W => turnP_no bx bY cx cy ax ay (fun hh => by simp [h3] at hh) W
  have c4 := Lib.hid fun W => onP_no ax ay bx bY cx cy (fun hh => by simp [h3] at hh) W
  have c5 := Lib.hid fun W => meetP_no ax ay bx bY cx cy cx cy (fun hh => by simp [h3] at hh) W
  have c6 := Lib.hid fun W => meetP_no ax ay bx bY cx cy dx dy (fun hh => by simp [h3] at hh) W
  have c7 := Lib.hid fun W => meetP_no dx dy cx cy ax ay bx bY (fun hh => by simp [h3] at hh) W
  have c8 := Lib.hid fun W => meetP_no bx bY ax ay dx dy cx cy (fun hh => by simp [h3] at hh) W
  have c9 := Lib.hid fun W => meetP_ok ax ay bx bY ax ay bx bY h1 h2 h1 h2 W
  rw [meet_self] at c9
  rw [if_neg hne] at c9
  have e1 := fun W => pt_diff_neq hne W
  have gd := fun x y xs ys W => pt_guard .eql x y xs ys W
  have gn := fun x y xs ys W => pt_guard .neq x y xs ys W
  clear h1 h2 h3 hne
  go_enter Try.func11, Try.ntmps11
  go_wp2_with fail
  refine (c0.out _).mono ?_
  rintro e w1 ⟨rfl, hb1⟩
  have HH1 := Lib.hid (((((((Blks.nil (w := w))).new (w.heap.size) 46 [.int .i64 ax, .int .i64 ay] rfl).new (w.heap.size + 1) 46 [.int .i64 bx, .int .i64 bY] (by simp)).new (w.heap.size + 1 + 1) 46 [.int .i64 cx, .int .i64 cy] (by simp)).new (w.heap.size + 1 + 1 + 1) 46 [.int .i64 dx, .int .i64 dy] (by simp)).below hb1)
  have HB1 := Lib.hid (below_trans (below_alloc (below_alloc (below_alloc (below_alloc (Below.refl _ _) _) _) _) _) hb1)
  clear hb1
  have B1_0 : Blk w1 (w.heap.size) 46 #[.int .i64 ax, .int .i64 ay] := HH1.out (w.heap.size, 46, [.int .i64 ax, .int .i64 ay]) (by simp)
  have k1_0_0 : w1.cell? ⟨w.heap.size, 0, none⟩ = some (.int .i64 ax) := B1_0.cell 0
  have k1_0_1 : w1.cell? ⟨w.heap.size, 1, none⟩ = some (.int .i64 ay) := B1_0.cell 1
  have z1_0 : w.heap.size < w1.heap.size := B1_0.lt
  clear B1_0
  have B1_1 : Blk w1 (w.heap.size + 1) 46 #[.int .i64 bx, .int .i64 bY] := HH1.out (w.heap.size + 1, 46, [.int .i64 bx, .int .i64 bY]) (by simp)
  have k1_1_0 : w1.cell? ⟨w.heap.size + 1, 0, none⟩ = some (.int .i64 bx) := B1_1.cell 0
  have k1_1_1 : w1.cell? ⟨w.heap.size + 1, 1, none⟩ = some (.int .i64 bY) := B1_1.cell 1
  have z1_1 : w.heap.size + 1 < w1.heap.size := B1_1.lt
  clear B1_1
  have B1_2 : Blk w1 (w.heap.size + 1 + 1) 46 #[.int .i64 cx, .int .i64 cy] := HH1.out (w.heap.size + 1 + 1, 46, [.int .i64 cx, .int .i64 cy]) (by simp)
  have k1_2_0 : w1.cell? ⟨w.heap.size + 1 + 1, 0, none⟩ = some (.int .i64 cx) := B1_2.cell 0
  have k1_2_1 : w1.cell? ⟨w.heap.size + 1 + 1, 1, none⟩ = some (.int .i64 cy) := B1_2.cell 1
  have z1_2 : w.heap.size + 1 + 1 < w1.heap.size := B1_2.lt
  clear B1_2
  have B1_3 : Blk w1 (w.heap.size + 1 + 1 + 1) 46 #[.int .i64 dx, .int .i64 dy] := HH1.out (w.heap.size + 1 + 1 + 1, 46, [.int .i64 dx, .int .i64 dy]) (by simp)
  have k1_3_0 : w1.cell? ⟨w.heap.size + 1 + 1 + 1, 0, none⟩ = some (.int .i64 dx) := B1_3.cell 0
  have k1_3_1 : w1.cell? ⟨w.heap.size + 1 + 1 + 1, 1, none⟩ = some (.int .i64 dy) := B1_3.cell 1
  have z1_3 : w.heap.size + 1 + 1 + 1 < w1.heap.size := B1_3.lt
  clear B1_3
  go_wp2_with fail
  refine (c1.out _).mono ?_
  rintro e w2 ⟨rfl, hb2⟩
  have HH2 := Lib.hid ((HH1.out).below hb2)
  have HB2 := Lib.hid (below_trans (HB1.out) hb2)
  clear k1_0_0 k1_0_1 z1_0 k1_1_0 k1_1_1 z1_1 k1_2_0 k1_2_1 z1_2 k1_3_0 k1_3_1 z1_3
  clear hb2
  clear HH1 HB1
  have B2_0 : Blk w2 (w.heap.size) 46 #[.int .i64 ax, .int .i64 ay] := HH2.out (w.heap.size, 46, [.int .i64 ax, .int .i64 ay]) (by simp)
  have k2_0_0 : w2.cell? ⟨w.heap.size, 0, none⟩ = some (.int .i64 ax) := B2_0.cell 0
  have k2_0_1 : w2.cell? ⟨w.heap.size, 1, none⟩ = some (.int .i64 ay) := B2_0.cell 1
  have z2_0 : w.heap.size < w2.heap.size := B2_0.lt
  clear B2_0
  have B2_1 : Blk w2 (w.heap.size + 1) 46 #[.int .i64 bx, .int .i64 bY] := HH2.out (w.heap.size + 1, 46, [.int .i64 bx, .int .i64 bY]) (by simp)
  have k2_1_0 : w2.cell? ⟨w.heap.size + 1, 0, none⟩ = some (.int .i64 bx) := B2_1.cell 0
  have k2_1_1 : w2.cell? ⟨w.heap.size + 1, 1, none⟩ = some (.int .i64 bY) := B2_1.cell 1
  have z2_1 : w.heap.size + 1 < w2.heap.size := B2_1.lt
  clear B2_1
  have B2_2 : Blk w2 (w.heap.size + 1 + 1) 46 #[.int .i64 cx, .int .i64 cy] := HH2.out (w.heap.size + 1 + 1, 46, [.int .i64 cx, .int .i64 cy]) (by simp)
  have k2_2_0 : w2.cell? ⟨w.heap.size + 1 + 1, 0, none⟩ = some (.int .i64 cx) := B2_2.cell 0
  have k2_2_1 : w2.cell? ⟨w.heap.size + 1 + 1, 1, none⟩ = some (.int .i64 cy) := B2_2.cell 1
  have z2_2 : w.heap.size + 1 + 1 < w2.heap.size := B2_2.lt
  clear B2_2
  have B2_3 : Blk w2 (w.heap.size + 1 + 1 + 1) 46 #[.int .i64 dx, .int .i64 dy] := HH2.out (w.heap.size + 1 + 1 + 1, 46, [.int .i64 dx, .int .i64 dy]) (by simp)
  have k2_3_0 : w2.cell? ⟨w.heap.size + 1 + 1 + 1, 0, none⟩ = some (.int .i64 dx) := B2_3.cell 0
  have k2_3_1 : w2.cell? ⟨w.heap.size + 1 + 1 + 1, 1, none⟩ = some (.int .i64 dy) := B2_3.cell 1
  have z2_3 : w.heap.size + 1 + 1 + 1 < w2.heap.size := B2_3.lt
  clear B2_3
  go_wp2_with fail
  refine (c2.out _).mono ?_
  rintro e w3 ⟨rfl, hb3⟩
  have HH3 := Lib.hid ((HH2.out).below hb3)
  have HB3 := Lib.hid (below_trans (HB2.out) hb3)
  clear k2_0_0 k2_0_1 z2_0 k2_1_0 k2_1_1 z2_1 k2_2_0 k2_2_1 z2_2 k2_3_0 k2_3_1 z2_3
  clear hb3
  clear HH2 HB2
  have B3_0 : Blk w3 (w.heap.size) 46 #[.int .i64 ax, .int .i64 ay] := HH3.out (w.heap.size, 46, [.int .i64 ax, .int .i64 ay]) (by simp)
  have k3_0_0 : w3.cell? ⟨w.heap.size, 0, none⟩ = some (.int .i64 ax) := B3_0.cell 0
  have k3_0_1 : w3.cell? ⟨w.heap.size, 1, none⟩ = some (.int .i64 ay) := B3_0.cell 1
  have z3_0 : w.heap.size < w3.heap.size := B3_0.lt
  clear B3_0
  have B3_1 : Blk w3 (w.heap.size + 1) 46 #[.int .i64 bx, .int .i64 bY] := HH3.out (w.heap.size + 1, 46, [.int .i64 bx, .int .i64 bY]) (by simp)
  have k3_1_0 : w3.cell? ⟨w.heap.size + 1, 0, none⟩ = some (.int .i64 bx) := B3_1.cell 0
  have k3_1_1 : w3.cell? ⟨w.heap.size + 1, 1, none⟩ = some (.int .i64 bY) := B3_1.cell 1
  have z3_1 : w.heap.size + 1 < w3.heap.size := B3_1.lt
  clear B3_1
  have B3_2 : Blk w3 (w.heap.size + 1 + 1) 46 #[.int .i64 cx, .int .i64 cy] := HH3.out (w.heap.size + 1 + 1, 46, [.int .i64 cx, .int .i64 cy]) (by simp)
  have k3_2_0 : w3.cell? ⟨w.heap.size + 1 + 1, 0, none⟩ = some (.int .i64 cx) := B3_2.cell 0
  have k3_2_1 : w3.cell? ⟨w.heap.size + 1 + 1, 1, none⟩ = some (.int .i64 cy) := B3_2.cell 1
  have z3_2 : w.heap.size + 1 + 1 < w3.heap.size := B3_2.lt
  clear B3_2
  have B3_3 : Blk w3 (w.heap.size + 1 + 1 + 1) 46 #[.int .i64 dx, .int .i64 dy] := HH3.out (w.heap.size + 1 + 1 + 1, 46, [.int .i64 dx, .int .i64 dy]) (by simp)
  have k3_3_0 : w3.cell? ⟨w.heap.size + 1 + 1 + 1, 0, none⟩ = some (.int .i64 dx) := B3_3.cell 0
  have k3_3_1 : w3.cell? ⟨w.heap.size + 1 + 1 + 1, 1, none⟩ = some (.int .i64 dy) := B3_3.cell 1
  have z3_3 : w.heap.size + 1 + 1 + 1 < w3.heap.size := B3_3.lt
  clear B3_3
  go_wp2_with fail
  refine (c3.out _).mono ?_
  rintro e w4 ⟨rfl, hb4⟩
  have HH4 := Lib.hid ((HH3.out).below hb4)
  have HB4 := Lib.hid (below_trans (HB3.out) hb4)
  clear k3_0_0 k3_0_1 z3_0 k3_1_0 k3_1_1 z3_1 k3_2_0 k3_2_1 z3_2 k3_3_0 k3_3_1 z3_3
  clear hb4
  clear HH3 HB3
  have B4_0 : Blk w4 (w.heap.size) 46 #[.int .i64 ax, .int .i64 ay] := HH4.out (w.heap.size, 46, [.int .i64 ax, .int .i64 ay]) (by simp)
  have k4_0_0 : w4.cell? ⟨w.heap.size, 0, none⟩ = some (.int .i64 ax) := B4_0.cell 0
  have k4_0_1 : w4.cell? ⟨w.heap.size, 1, none⟩ = some (.int .i64 ay) := B4_0.cell 1
  have z4_0 : w.heap.size < w4.heap.size := B4_0.lt
  clear B4_0
  have B4_1 : Blk w4 (w.heap.size + 1) 46 #[.int .i64 bx, .int .i64 bY] := HH4.out (w.heap.size + 1, 46, [.int .i64 bx, .int .i64 bY]) (by simp)
  have k4_1_0 : w4.cell? ⟨w.heap.size + 1, 0, none⟩ = some (.int .i64 bx) := B4_1.cell 0
  have k4_1_1 : w4.cell? ⟨w.heap.size + 1, 1, none⟩ = some (.int .i64 bY) := B4_1.cell 1
  have z4_1 : w.heap.size + 1 < w4.heap.size := B4_1.lt
  clear B4_1
  have B4_2 : Blk w4 (w.heap.size + 1 + 1) 46 #[.int .i64 cx, .int .i64 cy] := HH4.out (w.heap.size + 1 + 1, 46, [.int .i64 cx, .int .i64 cy]) (by simp)
  have k4_2_0 : w4.cell? ⟨w.heap.size + 1 + 1, 0, none⟩ = some (.int .i64 cx) := B4_2.cell 0
  have k4_2_1 : w4.cell? ⟨w.heap.size + 1 + 1, 1, none⟩ = some (.int .i64 cy) := B4_2.cell 1
  have z4_2 : w.heap.size + 1 + 1 < w4.heap.size := B4_2.lt
  clear B4_2
  have B4_3 : Blk w4 (w.heap.size + 1 + 1 + 1) 46 #[.int .i64 dx, .int .i64 dy] := HH4.out (w.heap.size + 1 + 1 + 1, 46, [.int .i64 dx, .int .i64 dy]) (by simp)
  have k4_3_0 : w4.cell? ⟨w.heap.size + 1 + 1 + 1, 0, none⟩ = some (.int .i64 dx) := B4_3.cell 0
  have k4_3_1 : w4.cell? ⟨w.heap.size + 1 + 1 + 1, 1, none⟩ = some (.int .i64 dy) := B4_3.cell 1
  have z4_3 : w.heap.size + 1 + 1 + 1 < w4.heap.size := B4_3.lt
  clear B4_3
  go_wp2_with fail
  refine (c4.out _).mono ?_
  rintro e w5 ⟨rfl, hb5⟩
  have HH5 := Lib.hid ((HH4.out).below hb5)
  have HB5 := Lib.hid (below_trans (HB4.out) hb5)
  clear k4_0_0 k4_0_1 z4_0 k4_1_0 k4_1_1 z4_1 k4_2_0 k4_2_1 z4_2 k4_3_0 k4_3_1 z4_3
  clear hb5
  clear HH4 HB4
  have B5_0 : Blk w5 (w.heap.size) 46 #[.int .i64 ax, .int .i64 ay] := HH5.out (w.heap.size, 46, [.int .i64 ax, .int .i64 ay]) (by simp)
  have k5_0_0 : w5.cell? ⟨w.heap.size, 0, none⟩ = some (.int .i64 ax) := B5_0.cell 0
  have k5_0_1 : w5.cell? ⟨w.heap.size, 1, none⟩ = some (.int .i64 ay) := B5_0.cell 1
  have z5_0 : w.heap.size < w5.heap.size := B5_0.lt
  clear B5_0
  have B5_1 : Blk w5 (w.heap.size + 1) 46 #[.int .i64 bx, .int .i64 bY] := HH5.out (w.heap.size + 1, 46, [.int .i64 bx, .int .i64 bY]) (by simp)
  have k5_1_0 : w5.cell? ⟨w.heap.size + 1, 0, none⟩ = some (.int .i64 bx) := B5_1.cell 0
  have k5_1_1 : w5.cell? ⟨w.heap.size + 1, 1, none⟩ = some (.int .i64 bY) := B5_1.cell 1
  have z5_1 : w.heap.size + 1 < w5.heap.size := B5_1.lt
  clear B5_1
  have B5_2 : Blk w5 (w.heap.size + 1 + 1) 46 #[.int .i64 cx, .int .i64 cy] := HH5.out (w.heap.size + 1 + 1, 46, [.int .i64 cx, .int .i64 cy]) (by simp)
  have k5_2_0 : w5.cell? ⟨w.heap.size + 1 + 1, 0, none⟩ = some (.int .i64 cx) := B5_2.cell 0
  have k5_2_1 : w5.cell? ⟨w.heap.size + 1 + 1, 1, none⟩ = some (.int .i64 cy) := B5_2.cell 1
  have z5_2 : w.heap.size + 1 + 1 < w5.heap.size := B5_2.lt
  clear B5_2
  have B5_3 : Blk w5 (w.heap.size + 1 + 1 + 1) 46 #[.int .i64 dx, .int .i64 dy] := HH5.out (w.heap.size + 1 + 1 + 1, 46, [.int .i64 dx, .int .i64 dy]) (by simp)
  have k5_3_0 : w5.cell? ⟨w.heap.size + 1 + 1 + 1, 0, none⟩ = some (.int .i64 dx) := B5_3.cell 0
  have k5_3_1 : w5.cell? ⟨w.heap.size + 1 + 1 + 1, 1, none⟩ = some (.int .i64 dy) := B5_3.cell 1
  have z5_3 : w.heap.size + 1 + 1 + 1 < w5.heap.size := B5_3.lt
  clear B5_3
  go_wp2_with fail
  refine (c5.out _).mono ?_
  rintro e w6 ⟨rfl, hb6⟩
  have HH6 := Lib.hid ((HH5.out).below hb6)
  have HB6 := Lib.hid (below_trans (HB5.out) hb6)
  clear k5_0_0 k5_0_1 z5_0 k5_1_0 k5_1_1 z5_1 k5_2_0 k5_2_1 z5_2 k5_3_0 k5_3_1 z5_3
  clear hb6
  clear HH5 HB5
  have B6_0 : Blk w6 (w.heap.size) 46 #[.int .i64 ax, .int .i64 ay] := HH6.out (w.heap.size, 46, [.int .i64 ax, .int .i64 ay]) (by simp)
  have k6_0_0 : w6.cell? ⟨w.heap.size, 0, none⟩ = some (.int .i64 ax) := B6_0.cell 0
  have k6_0_1 : w6.cell? ⟨w.heap.size, 1, none⟩ = some (.int .i64 ay) := B6_0.cell 1
  have z6_0 : w.heap.size < w6.heap.size := B6_0.lt
  clear B6_0
  have B6_1 : Blk w6 (w.heap.size + 1) 46 #[.int .i64 bx, .int .i64 bY] := HH6.out (w.heap.size + 1, 46, [.int .i64 bx, .int .i64 bY]) (by simp)
  have k6_1_0 : w6.cell? ⟨w.heap.size + 1, 0, none⟩ = some (.int .i64 bx) := B6_1.cell 0
  have k6_1_1 : w6.cell? ⟨w.heap.size + 1, 1, none⟩ = some (.int .i64 bY) := B6_1.cell 1
  have z6_1 : w.heap.size + 1 < w6.heap.size := B6_1.lt
  clear B6_1
  have B6_2 : Blk w6 (w.heap.size + 1 + 1) 46 #[.int .i64 cx, .int .i64 cy] := HH6.out (w.heap.size + 1 + 1, 46, [.int .i64 cx, .int .i64 cy]) (by simp)
  have k6_2_0 : w6.cell? ⟨w.heap.size + 1 + 1, 0, none⟩ = some (.int .i64 cx) := B6_2.cell 0
  have k6_2_1 : w6.cell? ⟨w.heap.size + 1 + 1, 1, none⟩ = some (.int .i64 cy) := B6_2.cell 1
  have z6_2 : w.heap.size + 1 + 1 < w6.heap.size := B6_2.lt
  clear B6_2
  have B6_3 : Blk w6 (w.heap.size + 1 + 1 + 1) 46 #[.int .i64 dx, .int .i64 dy] := HH6.out (w.heap.size + 1 + 1 + 1, 46, [.int .i64 dx, .int .i64 dy]) (by simp)
  have k6_3_0 : w6.cell? ⟨w.heap.size + 1 + 1 + 1, 0, none⟩ = some (.int .i64 dx) := B6_3.cell 0
  have k6_3_1 : w6.cell? ⟨w.heap.size + 1 + 1 + 1, 1, none⟩ = some (.int .i64 dy) := B6_3.cell 1
  have z6_3 : w.heap.size + 1 + 1 + 1 < w6.heap.size := B6_3.lt
  clear B6_3
  go_wp2_with fail
  refine (c6.out _).mono ?_
  rintro e w7 ⟨rfl, hb7⟩
  have HH7 := Lib.hid ((HH6.out).below hb7)
  have HB7 := Lib.hid (below_trans (HB6.out) hb7)
  clear k6_0_0 k6_0_1 z6_0 k6_1_0 k6_1_1 z6_1 k6_2_0 k6_2_1 z6_2 k6_3_0 k6_3_1 z6_3
  clear hb7
  clear HH6 HB6
  have B7_0 : Blk w7 (w.heap.size) 46 #[.int .i64 ax, .int .i64 ay] := HH7.out (w.heap.size, 46, [.int .i64 ax, .int .i64 ay]) (by simp)
  have k7_0_0 : w7.cell? ⟨w.heap.size, 0, none⟩ = some (.int .i64 ax) := B7_0.cell 0
  have k7_0_1 : w7.cell? ⟨w.heap.size, 1, none⟩ = some (.int .i64 ay) := B7_0.cell 1
  have z7_0 : w.heap.size < w7.heap.size := B7_0.lt
  clear B7_0
  have B7_1 : Blk w7 (w.heap.size + 1) 46 #[.int .i64 bx, .int .i64 bY] := HH7.out (w.heap.size + 1, 46, [.int .i64 bx, .int .i64 bY]) (by simp)
  have k7_1_0 : w7.cell? ⟨w.heap.size + 1, 0, none⟩ = some (.int .i64 bx) := B7_1.cell 0
  have k7_1_1 : w7.cell? ⟨w.heap.size + 1, 1, none⟩ = some (.int .i64 bY) := B7_1.cell 1
  have z7_1 : w.heap.size + 1 < w7.heap.size := B7_1.lt
  clear B7_1
  have B7_2 : Blk w7 (w.heap.size + 1 + 1) 46 #[.int .i64 cx, .int .i64 cy] := HH7.out (w.heap.size + 1 + 1, 46, [.int .i64 cx, .int .i64 cy]) (by simp)
  have k7_2_0 : w7.cell? ⟨w.heap.size + 1 + 1, 0, none⟩ = some (.int .i64 cx) := B7_2.cell 0
  have k7_2_1 : w7.cell? ⟨w.heap.size + 1 + 1, 1, none⟩ = some (.int .i64 cy) := B7_2.cell 1
  have z7_2 : w.heap.size + 1 + 1 < w7.heap.size := B7_2.lt
  clear B7_2
  have B7_3 : Blk w7 (w.heap.size + 1 + 1 + 1) 46 #[.int .i64 dx, .int .i64 dy] := HH7.out (w.heap.size + 1 + 1 + 1, 46, [.int .i64 dx, .int .i64 dy]) (by simp)
  have k7_3_0 : w7.cell? ⟨w.heap.size + 1 + 1 + 1, 0, none⟩ = some (.int .i64 dx) := B7_3.cell 0
  have k7_3_1 : w7.cell? ⟨w.heap.size + 1 + 1 + 1, 1, none⟩ = some (.int .i64 dy) := B7_3.cell 1
  have z7_3 : w.heap.size + 1 + 1 + 1 < w7.heap.size := B7_3.lt
  clear B7_3
  go_wp2_with fail
  refine (c7.out _).mono ?_
  rintro e w8 ⟨rfl, hb8⟩
  have HH8 := Lib.hid ((HH7.out).below hb8)
  have HB8 := Lib.hid (below_trans (HB7.out) hb8)
  clear k7_0_0 k7_0_1 z7_0 k7_1_0 k7_1_1 z7_1 k7_2_0 k7_2_1 z7_2 k7_3_0 k7_3_1 z7_3
  clear hb8
  clear HH7 HB7
  have B8_0 : Blk w8 (w.heap.size) 46 #[.int .i64 ax, .int .i64 ay] := HH8.out (w.heap.size, 46, [.int .i64 ax, .int .i64 ay]) (by simp)
  have k8_0_0 : w8.cell? ⟨w.heap.size, 0, none⟩ = some (.int .i64 ax) := B8_0.cell 0
  have k8_0_1 : w8.cell? ⟨w.heap.size, 1, none⟩ = some (.int .i64 ay) := B8_0.cell 1
  have z8_0 : w.heap.size < w8.heap.size := B8_0.lt
  clear B8_0
  have B8_1 : Blk w8 (w.heap.size + 1) 46 #[.int .i64 bx, .int .i64 bY] := HH8.out (w.heap.size + 1, 46, [.int .i64 bx, .int .i64 bY]) (by simp)
  have k8_1_0 : w8.cell? ⟨w.heap.size + 1, 0, none⟩ = some (.int .i64 bx) := B8_1.cell 0
  have k8_1_1 : w8.cell? ⟨w.heap.size + 1, 1, none⟩ = some (.int .i64 bY) := B8_1.cell 1
  have z8_1 : w.heap.size + 1 < w8.heap.size := B8_1.lt
  clear B8_1
  have B8_2 : Blk w8 (w.heap.size + 1 + 1) 46 #[.int .i64 cx, .int .i64 cy] := HH8.out (w.heap.size + 1 + 1, 46, [.int .i64 cx, .int .i64 cy]) (by simp)
  have k8_2_0 : w8.cell? ⟨w.heap.size + 1 + 1, 0, none⟩ = some (.int .i64 cx) := B8_2.cell 0
  have k8_2_1 : w8.cell? ⟨w.heap.size + 1 + 1, 1, none⟩ = some (.int .i64 cy) := B8_2.cell 1
  have z8_2 : w.heap.size + 1 + 1 < w8.heap.size := B8_2.lt
  clear B8_2
  have B8_3 : Blk w8 (w.heap.size + 1 + 1 + 1) 46 #[.int .i64 dx, .int .i64 dy] := HH8.out (w.heap.size + 1 + 1 + 1, 46, [.int .i64 dx, .int .i64 dy]) (by simp)
  have k8_3_0 : w8.cell? ⟨w.heap.size + 1 + 1 + 1, 0, none⟩ = some (.int .i64 dx) := B8_3.cell 0
  have k8_3_1 : w8.cell? ⟨w.heap.size + 1 + 1 + 1, 1, none⟩ = some (.int .i64 dy) := B8_3.cell 1
  have z8_3 : w.heap.size + 1 + 1 + 1 < w8.heap.size := B8_3.lt
  clear B8_3
  go_wp2_with fail
  refine (c8.out _).mono ?_
  rintro e w9 ⟨rfl, hb9⟩
  have HH9 := Lib.hid ((HH8.out).below hb9)
  have HB9 := Lib.hid (below_trans (HB8.out) hb9)
  clear k8_0_0 k8_0_1 z8_0 k8_1_0 k8_1_1 z8_1 k8_2_0 k8_2_1 z8_2 k8_3_0 k8_3_1 z8_3
  clear hb9
  clear HH8 HB8
  have B9_0 : Blk w9 (w.heap.size) 46 #[.int .i64 ax, .int .i64 ay] := HH9.out (w.heap.size, 46, [.int .i64 ax, .int .i64 ay]) (by simp)
  have k9_0_0 : w9.cell? ⟨w.heap.size, 0, none⟩ = some (.int .i64 ax) := B9_0.cell 0
  have k9_0_1 : w9.cell? ⟨w.heap.size, 1, none⟩ = some (.int .i64 ay) := B9_0.cell 1
  have z9_0 : w.heap.size < w9.heap.size := B9_0.lt
  clear B9_0
  have B9_1 : Blk w9 (w.heap.size + 1) 46 #[.int .i64 bx, .int .i64 bY] := HH9.out (w.heap.size + 1, 46, [.int .i64 bx, .int .i64 bY]) (by simp)
  have k9_1_0 : w9.cell? ⟨w.heap.size + 1, 0, none⟩ = some (.int .i64 bx) := B9_1.cell 0
  have k9_1_1 : w9.cell? ⟨w.heap.size + 1, 1, none⟩ = some (.int .i64 bY) := B9_1.cell 1
  have z9_1 : w.heap.size + 1 < w9.heap.size := B9_1.lt
  clear B9_1
  have B9_2 : Blk w9 (w.heap.size + 1 + 1) 46 #[.int .i64 cx, .int .i64 cy] := HH9.out (w.heap.size + 1 + 1, 46, [.int .i64 cx, .int .i64 cy]) (by simp)
  have k9_2_0 : w9.cell? ⟨w.heap.size + 1 + 1, 0, none⟩ = some (.int .i64 cx) := B9_2.cell 0
  have k9_2_1 : w9.cell? ⟨w.heap.size + 1 + 1, 1, none⟩ = some (.int .i64 cy) := B9_2.cell 1
  have z9_2 : w.heap.size + 1 + 1 < w9.heap.size := B9_2.lt
  clear B9_2
  have B9_3 : Blk w9 (w.heap.size + 1 + 1 + 1) 46 #[.int .i64 dx, .int .i64 dy] := HH9.out (w.heap.size + 1 + 1 + 1, 46, [.int .i64 dx, .int .i64 dy]) (by simp)
  have k9_3_0 : w9.cell? ⟨w.heap.size + 1 + 1 + 1, 0, none⟩ = some (.int .i64 dx) := B9_3.cell 0
  have k9_3_1 : w9.cell? ⟨w.heap.size + 1 + 1 + 1, 1, none⟩ = some (.int .i64 dy) := B9_3.cell 1
  have z9_3 : w.heap.size + 1 + 1 + 1 < w9.heap.size := B9_3.lt
  clear B9_3
  go_wp2_with fail
  refine (c9.out _).mono ?_
  rintro e w10 ⟨rfl, hb10⟩
  have HH10 := Lib.hid ((HH9.out).below hb10)
  have HB10 := Lib.hid (below_trans (HB9.out) hb10)
  clear k9_0_0 k9_0_1 z9_0 k9_1_0 k9_1_1 z9_1 k9_2_0 k9_2_1 z9_2 k9_3_0 k9_3_1 z9_3
  clear hb10
  clear HH9 HB9
  have B10_0 : Blk w10 (w.heap.size) 46 #[.int .i64 ax, .int .i64 ay] := HH10.out (w.heap.size, 46, [.int .i64 ax, .int .i64 ay]) (by simp)
  have k10_0_0 : w10.cell? ⟨w.heap.size, 0, none⟩ = some (.int .i64 ax) := B10_0.cell 0
  have k10_0_1 : w10.cell? ⟨w.heap.size, 1, none⟩ = some (.int .i64 ay) := B10_0.cell 1
  have z10_0 : w.heap.size < w10.heap.size := B10_0.lt
  clear B10_0
  have B10_1 : Blk w10 (w.heap.size + 1) 46 #[.int .i64 bx, .int .i64 bY] := HH10.out (w.heap.size + 1, 46, [.int .i64 bx, .int .i64 bY]) (by simp)
  have k10_1_0 : w10.cell? ⟨w.heap.size + 1, 0, none⟩ = some (.int .i64 bx) := B10_1.cell 0
  have k10_1_1 : w10.cell? ⟨w.heap.size + 1, 1, none⟩ = some (.int .i64 bY) := B10_1.cell 1
  have z10_1 : w.heap.size + 1 < w10.heap.size := B10_1.lt
  clear B10_1
  have B10_2 : Blk w10 (w.heap.size + 1 + 1) 46 #[.int .i64 cx, .int .i64 cy] := HH10.out (w.heap.size + 1 + 1, 46, [.int .i64 cx, .int .i64 cy]) (by simp)
  have k10_2_0 : w10.cell? ⟨w.heap.size + 1 + 1, 0, none⟩ = some (.int .i64 cx) := B10_2.cell 0
  have k10_2_1 : w10.cell? ⟨w.heap.size + 1 + 1, 1, none⟩ = some (.int .i64 cy) := B10_2.cell 1
  have z10_2 : w.heap.size + 1 + 1 < w10.heap.size := B10_2.lt
  clear B10_2
  have B10_3 : Blk w10 (w.heap.size + 1 + 1 + 1) 46 #[.int .i64 dx, .int .i64 dy] := HH10.out (w.heap.size + 1 + 1 + 1, 46, [.int .i64 dx, .int .i64 dy]) (by simp)
  have k10_3_0 : w10.cell? ⟨w.heap.size + 1 + 1 + 1, 0, none⟩ = some (.int .i64 dx) := B10_3.cell 0
  have k10_3_1 : w10.cell? ⟨w.heap.size + 1 + 1 + 1, 1, none⟩ = some (.int .i64 dy) := B10_3.cell 1
  have z10_3 : w.heap.size + 1 + 1 + 1 < w10.heap.size := B10_3.lt
  clear B10_3
  go_wp2
  go_returns
  exact ⟨rfl, by repeat (first | with_reducible exact HB10.out | with_reducible refine Below.drew ?_ | with_reducible refine below_drewN ?_ _ | with_reducible refine below_set ?_ (by have := HB10.out.size; simp <;> omega) _ | with_reducible refine below_alloc ?_ _)⟩
set_option maxRecDepth 100000 in
set_option maxHeartbeats 3200000 in
theorem segs_3e (ax ay cx cy dx dy : Int) (h1 : in2 ax ay = true) (h3 : in2 cx cy = true) (h4 : in2 dx dy = false) (w : World) : Calls Try.prog 11 #[.agg #[.int .i64 ax, .int .i64 ay], .agg #[.int .i64 ax, .int .i64 ay], .agg #[.int .i64 cx, .int .i64 cy], .agg #[.int .i64 dx, .int .i64 dy]] w fun e w' => e = .returned (.bool true) ∧ Below w.heap.size w w' := by
  have c0 := Lib.hid fun W => awake_any W
  have c1 := Lib.hid fun W => turnP_ok ax ay ax ay cx cy h1 h1 h3 W
  have c2 := Lib.hid fun W => turnP_ok ax ay cx cy ax ay h1 h3 h1 W
  have c3 := Lib.hid fun W => turnP_ok ax ay cx cy ax ay h1 h3 h1 W
  have c4 := Lib.hid fun W => onP_ok ax ay ax ay cx cy h1 h1 h3 W
  have c5 := Lib.hid fun W => meetP_ok ax ay ax ay cx cy cx cy h1 h1 h3 h3 W
  have c6 := Lib.hid fun W => meetP_no ax ay ax ay cx cy dx dy (fun hh => by simp [h4] at hh) W
  have c7 := Lib.hid fun W => meetP_no dx dy cx cy ax ay ax ay (fun hh => by simp [h4] at hh) W
  have c8 := Lib.hid fun W => meetP_no ax ay ax ay dx dy cx cy (fun hh => by simp [h4] at hh) W
  have c9 := Lib.hid fun W => meetP_ok ax ay ax ay ax ay ax ay h1 h1 h1 h1 W
  obtain ⟨b1, b2⟩ := cmpI_bd ((ax - ax) * (cy - ay)) ((ay - ay) * (cx - ax))
  change -1 ≤ turnI ax ay ax ay cx cy at b1
  change turnI ax ay ax ay cx cy ≤ 1 at b2
  rw [turn_swap] at c2
  rw [turn_rot] at c3
  rw [meet_pp_one] at c4
  rw [meet_self] at c9
  rw [if_pos ⟨rfl, rfl⟩] at c9
  have e1 := fun W => pt_same_eql ax ay W
  have gd := fun x y xs ys W => pt_guard .eql x y xs ys W
  have gn := fun x y xs ys W => pt_guard .neq x y xs ys W
  clear h1 h3 h4
  generalize turnI ax ay ax ay cx cy = T at *
  generalize meetI ax ay ax ay cx cy cx cy = M at *
  have t1 : (T != - -T) = false := by simp
  have t2 : (T != T) = false := by simp
  have t3 : ((M == 1) != (M == 1)) = false := by simp
  go_enter Try.func11, Try.ntmps11
  go_wp2_with fail
  refine (c0.out _).mono ?_
  rintro e w1 ⟨rfl, hb1⟩
  have HH1 := Lib.hid (((((((Blks.nil (w := w))).new (w.heap.size) 46 [.int .i64 ax, .int .i64 ay] rfl).new (w.heap.size + 1) 46 [.int .i64 ax, .int .i64 ay] (by simp)).new (w.heap.size + 1 + 1) 46 [.int .i64 cx, .int .i64 cy] (by simp)).new (w.heap.size + 1 + 1 + 1) 46 [.int .i64 dx, .int .i64 dy] (by simp)).below hb1)
  have HB1 := Lib.hid (below_trans (below_alloc (below_alloc (below_alloc (below_alloc (Below.refl _ _) _) _) _) _) hb1)
  clear hb1
  have B1_0 : Blk w1 (w.heap.size) 46 #[.int .i64 ax, .int .i64 ay] := HH1.out (w.heap.size, 46, [.int .i64 ax, .int .i64 ay]) (by simp)
  have k1_0_0 : w1.cell? ⟨w.heap.size, 0, none⟩ = some (.int .i64 ax) := B1_0.cell 0
  have k1_0_1 : w1.cell? ⟨w.heap.size, 1, none⟩ = some (.int .i64 ay) := B1_0.cell 1
  have z1_0 : w.heap.size < w1.heap.size := B1_0.lt
  clear B1_0
  have B1_1 : Blk w1 (w.heap.size + 1) 46 #[.int .i64 ax, .int .i64 ay] := HH1.out (w.heap.size + 1, 46, [.int .i64 ax, .int .i64 ay]) (by simp)
  have k1_1_0 : w1.cell? ⟨w.heap.size + 1, 0, none⟩ = some (.int .i64 ax) := B1_1.cell 0
  have k1_1_1 : w1.cell? ⟨w.heap.size + 1, 1, none⟩ = some (.int .i64 ay) := B1_1.cell 1
  have z1_1 : w.heap.size + 1 < w1.heap.size := B1_1.lt
  clear B1_1
  have B1_2 : Blk w1 (w.heap.size + 1 + 1) 46 #[.int .i64 cx, .int .i64 cy] := HH1.out (w.heap.size + 1 + 1, 46, [.int .i64 cx, .int .i64 cy]) (by simp)
  have k1_2_0 : w1.cell? ⟨w.heap.size + 1 + 1, 0, none⟩ = some (.int .i64 cx) := B1_2.cell 0
  have k1_2_1 : w1.cell? ⟨w.heap.size + 1 + 1, 1, none⟩ = some (.int .i64 cy) := B1_2.cell 1
  have z1_2 : w.heap.size + 1 + 1 < w1.heap.size := B1_2.lt
  clear B1_2
  have B1_3 : Blk w1 (w.heap.size + 1 + 1 + 1) 46 #[.int .i64 dx, .int .i64 dy] := HH1.out (w.heap.size + 1 + 1 + 1, 46, [.int .i64 dx, .int .i64 dy]) (by simp)
  have k1_3_0 : w1.cell? ⟨w.heap.size + 1 + 1 + 1, 0, none⟩ = some (.int .i64 dx) := B1_3.cell 0
  have k1_3_1 : w1.cell? ⟨w.heap.size + 1 + 1 + 1, 1, none⟩ = some (.int .i64 dy) := B1_3.cell 1
  have z1_3 : w.heap.size + 1 + 1 + 1 < w1.heap.size := B1_3.lt
  clear B1_3
  go_wp2_with fail
  refine (c1.out _).mono ?_
  rintro e w2 ⟨rfl, hb2⟩
  have HH2 := Lib.hid ((HH1.out).below hb2)
  have HB2 := Lib.hid (below_trans (HB1.out) hb2)
  clear k1_0_0 k1_0_1 z1_0 k1_1_0 k1_1_1 z1_1 k1_2_0 k1_2_1 z1_2 k1_3_0 k1_3_1 z1_3
  clear hb2
  clear HH1 HB1
  have B2_0 : Blk w2 (w.heap.size) 46 #[.int .i64 ax, .int .i64 ay] := HH2.out (w.heap.size, 46, [.int .i64 ax, .int .i64 ay]) (by simp)
  have k2_0_0 : w2.cell? ⟨w.heap.size, 0, none⟩ = some (.int .i64 ax) := B2_0.cell 0
  have k2_0_1 : w2.cell? ⟨w.heap.size, 1, none⟩ = some (.int .i64 ay) := B2_0.cell 1
  have z2_0 : w.heap.size < w2.heap.size := B2_0.lt
  clear B2_0
  have B2_1 : Blk w2 (w.heap.size + 1) 46 #[.int .i64 ax, .int .i64 ay] := HH2.out (w.heap.size + 1, 46, [.int .i64 ax, .int .i64 ay]) (by simp)
  have k2_1_0 : w2.cell? ⟨w.heap.size + 1, 0, none⟩ = some (.int .i64 ax) := B2_1.cell 0
  have k2_1_1 : w2.cell? ⟨w.heap.size + 1, 1, none⟩ = some (.int .i64 ay) := B2_1.cell 1
  have z2_1 : w.heap.size + 1 < w2.heap.size := B2_1.lt
  clear B2_1
  have B2_2 : Blk w2 (w.heap.size + 1 + 1) 46 #[.int .i64 cx, .int .i64 cy] := HH2.out (w.heap.size + 1 + 1, 46, [.int .i64 cx, .int .i64 cy]) (by simp)
  have k2_2_0 : w2.cell? ⟨w.heap.size + 1 + 1, 0, none⟩ = some (.int .i64 cx) := B2_2.cell 0
  have k2_2_1 : w2.cell? ⟨w.heap.size + 1 + 1, 1, none⟩ = some (.int .i64 cy) := B2_2.cell 1
  have z2_2 : w.heap.size + 1 + 1 < w2.heap.size := B2_2.lt
  clear B2_2
  have B2_3 : Blk w2 (w.heap.size + 1 + 1 + 1) 46 #[.int .i64 dx, .int .i64 dy] := HH2.out (w.heap.size + 1 + 1 + 1, 46, [.int .i64 dx, .int .i64 dy]) (by simp)
  have k2_3_0 : w2.cell? ⟨w.heap.size + 1 + 1 + 1, 0, none⟩ = some (.int .i64 dx) := B2_3.cell 0
  have k2_3_1 : w2.cell? ⟨w.heap.size + 1 + 1 + 1, 1, none⟩ = some (.int .i64 dy) := B2_3.cell 1
  have z2_3 : w.heap.size + 1 + 1 + 1 < w2.heap.size := B2_3.lt
  clear B2_3
  go_wp2_with fail
  refine (c2.out _).mono ?_
  rintro e w3 ⟨rfl, hb3⟩
  have HH3 := Lib.hid ((HH2.out).below hb3)
  have HB3 := Lib.hid (below_trans (HB2.out) hb3)
  clear k2_0_0 k2_0_1 z2_0 k2_1_0 k2_1_1 z2_1 k2_2_0 k2_2_1 z2_2 k2_3_0 k2_3_1 z2_3
  clear hb3
  clear HH2 HB2
  have B3_0 : Blk w3 (w.heap.size) 46 #[.int .i64 ax, .int .i64 ay] := HH3.out (w.heap.size, 46, [.int .i64 ax, .int .i64 ay]) (by simp)
  have k3_0_0 : w3.cell? ⟨w.heap.size, 0, none⟩ = some (.int .i64 ax) := B3_0.cell 0
  have k3_0_1 : w3.cell? ⟨w.heap.size, 1, none⟩ = some (.int .i64 ay) := B3_0.cell 1
  have z3_0 : w.heap.size < w3.heap.size := B3_0.lt
  clear B3_0
  have B3_1 : Blk w3 (w.heap.size + 1) 46 #[.int .i64 ax, .int .i64 ay] := HH3.out (w.heap.size + 1, 46, [.int .i64 ax, .int .i64 ay]) (by simp)
  have k3_1_0 : w3.cell? ⟨w.heap.size + 1, 0, none⟩ = some (.int .i64 ax) := B3_1.cell 0
  have k3_1_1 : w3.cell? ⟨w.heap.size + 1, 1, none⟩ = some (.int .i64 ay) := B3_1.cell 1
  have z3_1 : w.heap.size + 1 < w3.heap.size := B3_1.lt
  clear B3_1
  have B3_2 : Blk w3 (w.heap.size + 1 + 1) 46 #[.int .i64 cx, .int .i64 cy] := HH3.out (w.heap.size + 1 + 1, 46, [.int .i64 cx, .int .i64 cy]) (by simp)
  have k3_2_0 : w3.cell? ⟨w.heap.size + 1 + 1, 0, none⟩ = some (.int .i64 cx) := B3_2.cell 0
  have k3_2_1 : w3.cell? ⟨w.heap.size + 1 + 1, 1, none⟩ = some (.int .i64 cy) := B3_2.cell 1
  have z3_2 : w.heap.size + 1 + 1 < w3.heap.size := B3_2.lt
  clear B3_2
  have B3_3 : Blk w3 (w.heap.size + 1 + 1 + 1) 46 #[.int .i64 dx, .int .i64 dy] := HH3.out (w.heap.size + 1 + 1 + 1, 46, [.int .i64 dx, .int .i64 dy]) (by simp)
  have k3_3_0 : w3.cell? ⟨w.heap.size + 1 + 1 + 1, 0, none⟩ = some (.int .i64 dx) := B3_3.cell 0
  have k3_3_1 : w3.cell? ⟨w.heap.size + 1 + 1 + 1, 1, none⟩ = some (.int .i64 dy) := B3_3.cell 1
  have z3_3 : w.heap.size + 1 + 1 + 1 < w3.heap.size := B3_3.lt
  clear B3_3
  go_wp2_with fail
  refine (c3.out _).mono ?_
  rintro e w4 ⟨rfl, hb4⟩
  have HH4 := Lib.hid ((HH3.out).below hb4)
  have HB4 := Lib.hid (below_trans (HB3.out) hb4)
  clear k3_0_0 k3_0_1 z3_0 k3_1_0 k3_1_1 z3_1 k3_2_0 k3_2_1 z3_2 k3_3_0 k3_3_1 z3_3
  clear hb4
  clear HH3 HB3
  have B4_0 : Blk w4 (w.heap.size) 46 #[.int .i64 ax, .int .i64 ay] := HH4.out (w.heap.size, 46, [.int .i64 ax, .int .i64 ay]) (by simp)
  have k4_0_0 : w4.cell? ⟨w.heap.size, 0, none⟩ = some (.int .i64 ax) := B4_0.cell 0
  have k4_0_1 : w4.cell? ⟨w.heap.size, 1, none⟩ = some (.int .i64 ay) := B4_0.cell 1
  have z4_0 : w.heap.size < w4.heap.size := B4_0.lt
  clear B4_0
  have B4_1 : Blk w4 (w.heap.size + 1) 46 #[.int .i64 ax, .int .i64 ay] := HH4.out (w.heap.size + 1, 46, [.int .i64 ax, .int .i64 ay]) (by simp)
  have k4_1_0 : w4.cell? ⟨w.heap.size + 1, 0, none⟩ = some (.int .i64 ax) := B4_1.cell 0
  have k4_1_1 : w4.cell? ⟨w.heap.size + 1, 1, none⟩ = some (.int .i64 ay) := B4_1.cell 1
  have z4_1 : w.heap.size + 1 < w4.heap.size := B4_1.lt
  clear B4_1
  have B4_2 : Blk w4 (w.heap.size + 1 + 1) 46 #[.int .i64 cx, .int .i64 cy] := HH4.out (w.heap.size + 1 + 1, 46, [.int .i64 cx, .int .i64 cy]) (by simp)
  have k4_2_0 : w4.cell? ⟨w.heap.size + 1 + 1, 0, none⟩ = some (.int .i64 cx) := B4_2.cell 0
  have k4_2_1 : w4.cell? ⟨w.heap.size + 1 + 1, 1, none⟩ = some (.int .i64 cy) := B4_2.cell 1
  have z4_2 : w.heap.size + 1 + 1 < w4.heap.size := B4_2.lt
  clear B4_2
  have B4_3 : Blk w4 (w.heap.size + 1 + 1 + 1) 46 #[.int .i64 dx, .int .i64 dy] := HH4.out (w.heap.size + 1 + 1 + 1, 46, [.int .i64 dx, .int .i64 dy]) (by simp)
  have k4_3_0 : w4.cell? ⟨w.heap.size + 1 + 1 + 1, 0, none⟩ = some (.int .i64 dx) := B4_3.cell 0
  have k4_3_1 : w4.cell? ⟨w.heap.size + 1 + 1 + 1, 1, none⟩ = some (.int .i64 dy) := B4_3.cell 1
  have z4_3 : w.heap.size + 1 + 1 + 1 < w4.heap.size := B4_3.lt
  clear B4_3
  go_wp2_with fail
  refine (c4.out _).mono ?_
  rintro e w5 ⟨rfl, hb5⟩
  have HH5 := Lib.hid ((HH4.out).below hb5)
  have HB5 := Lib.hid (below_trans (HB4.out) hb5)
  clear k4_0_0 k4_0_1 z4_0 k4_1_0 k4_1_1 z4_1 k4_2_0 k4_2_1 z4_2 k4_3_0 k4_3_1 z4_3
  clear hb5
  clear HH4 HB4
  have B5_0 : Blk w5 (w.heap.size) 46 #[.int .i64 ax, .int .i64 ay] := HH5.out (w.heap.size, 46, [.int .i64 ax, .int .i64 ay]) (by simp)
  have k5_0_0 : w5.cell? ⟨w.heap.size, 0, none⟩ = some (.int .i64 ax) := B5_0.cell 0
  have k5_0_1 : w5.cell? ⟨w.heap.size, 1, none⟩ = some (.int .i64 ay) := B5_0.cell 1
  have z5_0 : w.heap.size < w5.heap.size := B5_0.lt
  clear B5_0
  have B5_1 : Blk w5 (w.heap.size + 1) 46 #[.int .i64 ax, .int .i64 ay] := HH5.out (w.heap.size + 1, 46, [.int .i64 ax, .int .i64 ay]) (by simp)
  have k5_1_0 : w5.cell? ⟨w.heap.size + 1, 0, none⟩ = some (.int .i64 ax) := B5_1.cell 0
  have k5_1_1 : w5.cell? ⟨w.heap.size + 1, 1, none⟩ = some (.int .i64 ay) := B5_1.cell 1
  have z5_1 : w.heap.size + 1 < w5.heap.size := B5_1.lt
  clear B5_1
  have B5_2 : Blk w5 (w.heap.size + 1 + 1) 46 #[.int .i64 cx, .int .i64 cy] := HH5.out (w.heap.size + 1 + 1, 46, [.int .i64 cx, .int .i64 cy]) (by simp)
  have k5_2_0 : w5.cell? ⟨w.heap.size + 1 + 1, 0, none⟩ = some (.int .i64 cx) := B5_2.cell 0
  have k5_2_1 : w5.cell? ⟨w.heap.size + 1 + 1, 1, none⟩ = some (.int .i64 cy) := B5_2.cell 1
  have z5_2 : w.heap.size + 1 + 1 < w5.heap.size := B5_2.lt
  clear B5_2
  have B5_3 : Blk w5 (w.heap.size + 1 + 1 + 1) 46 #[.int .i64 dx, .int .i64 dy] := HH5.out (w.heap.size + 1 + 1 + 1, 46, [.int .i64 dx, .int .i64 dy]) (by simp)
  have k5_3_0 : w5.cell? ⟨w.heap.size + 1 + 1 + 1, 0, none⟩ = some (.int .i64 dx) := B5_3.cell 0
  have k5_3_1 : w5.cell? ⟨w.heap.size + 1 + 1 + 1, 1, none⟩ = some (.int .i64 dy) := B5_3.cell 1
  have z5_3 : w.heap.size + 1 + 1 + 1 < w5.heap.size := B5_3.lt
  clear B5_3
  go_wp2_with fail
  refine (c5.out _).mono ?_
  rintro e w6 ⟨rfl, hb6⟩
  have HH6 := Lib.hid ((HH5.out).below hb6)
  have HB6 := Lib.hid (below_trans (HB5.out) hb6)
  clear k5_0_0 k5_0_1 z5_0 k5_1_0 k5_1_1 z5_1 k5_2_0 k5_2_1 z5_2 k5_3_0 k5_3_1 z5_3
  clear hb6
  clear HH5 HB5
  have B6_0 : Blk w6 (w.heap.size) 46 #[.int .i64 ax, .int .i64 ay] := HH6.out (w.heap.size, 46, [.int .i64 ax, .int .i64 ay]) (by simp)
  have k6_0_0 : w6.cell? ⟨w.heap.size, 0, none⟩ = some (.int .i64 ax) := B6_0.cell 0
  have k6_0_1 : w6.cell? ⟨w.heap.size, 1, none⟩ = some (.int .i64 ay) := B6_0.cell 1
  have z6_0 : w.heap.size < w6.heap.size := B6_0.lt
  clear B6_0
  have B6_1 : Blk w6 (w.heap.size + 1) 46 #[.int .i64 ax, .int .i64 ay] := HH6.out (w.heap.size + 1, 46, [.int .i64 ax, .int .i64 ay]) (by simp)
  have k6_1_0 : w6.cell? ⟨w.heap.size + 1, 0, none⟩ = some (.int .i64 ax) := B6_1.cell 0
  have k6_1_1 : w6.cell? ⟨w.heap.size + 1, 1, none⟩ = some (.int .i64 ay) := B6_1.cell 1
  have z6_1 : w.heap.size + 1 < w6.heap.size := B6_1.lt
  clear B6_1
  have B6_2 : Blk w6 (w.heap.size + 1 + 1) 46 #[.int .i64 cx, .int .i64 cy] := HH6.out (w.heap.size + 1 + 1, 46, [.int .i64 cx, .int .i64 cy]) (by simp)
  have k6_2_0 : w6.cell? ⟨w.heap.size + 1 + 1, 0, none⟩ = some (.int .i64 cx) := B6_2.cell 0
  have k6_2_1 : w6.cell? ⟨w.heap.size + 1 + 1, 1, none⟩ = some (.int .i64 cy) := B6_2.cell 1
  have z6_2 : w.heap.size + 1 + 1 < w6.heap.size := B6_2.lt
  clear B6_2
  have B6_3 : Blk w6 (w.heap.size + 1 + 1 + 1) 46 #[.int .i64 dx, .int .i64 dy] := HH6.out (w.heap.size + 1 + 1 + 1, 46, [.int .i64 dx, .int .i64 dy]) (by simp)
  have k6_3_0 : w6.cell? ⟨w.heap.size + 1 + 1 + 1, 0, none⟩ = some (.int .i64 dx) := B6_3.cell 0
  have k6_3_1 : w6.cell? ⟨w.heap.size + 1 + 1 + 1, 1, none⟩ = some (.int .i64 dy) := B6_3.cell 1
  have z6_3 : w.heap.size + 1 + 1 + 1 < w6.heap.size := B6_3.lt
  clear B6_3
  go_wp2_with fail
  refine (c6.out _).mono ?_
  rintro e w7 ⟨rfl, hb7⟩
  have HH7 := Lib.hid ((HH6.out).below hb7)
  have HB7 := Lib.hid (below_trans (HB6.out) hb7)
  clear k6_0_0 k6_0_1 z6_0 k6_1_0 k6_1_1 z6_1 k6_2_0 k6_2_1 z6_2 k6_3_0 k6_3_1 z6_3
  clear hb7
  clear HH6 HB6
  have B7_0 : Blk w7 (w.heap.size) 46 #[.int .i64 ax, .int .i64 ay] := HH7.out (w.heap.size, 46, [.int .i64 ax, .int .i64 ay]) (by simp)
  have k7_0_0 : w7.cell? ⟨w.heap.size, 0, none⟩ = some (.int .i64 ax) := B7_0.cell 0
  have k7_0_1 : w7.cell? ⟨w.heap.size, 1, none⟩ = some (.int .i64 ay) := B7_0.cell 1
  have z7_0 : w.heap.size < w7.heap.size := B7_0.lt
  clear B7_0
  have B7_1 : Blk w7 (w.heap.size + 1) 46 #[.int .i64 ax, .int .i64 ay] := HH7.out (w.heap.size + 1, 46, [.int .i64 ax, .int .i64 ay]) (by simp)
  have k7_1_0 : w7.cell? ⟨w.heap.size + 1, 0, none⟩ = some (.int .i64 ax) := B7_1.cell 0
  have k7_1_1 : w7.cell? ⟨w.heap.size + 1, 1, none⟩ = some (.int .i64 ay) := B7_1.cell 1
  have z7_1 : w.heap.size + 1 < w7.heap.size := B7_1.lt
  clear B7_1
  have B7_2 : Blk w7 (w.heap.size + 1 + 1) 46 #[.int .i64 cx, .int .i64 cy] := HH7.out (w.heap.size + 1 + 1, 46, [.int .i64 cx, .int .i64 cy]) (by simp)
  have k7_2_0 : w7.cell? ⟨w.heap.size + 1 + 1, 0, none⟩ = some (.int .i64 cx) := B7_2.cell 0
  have k7_2_1 : w7.cell? ⟨w.heap.size + 1 + 1, 1, none⟩ = some (.int .i64 cy) := B7_2.cell 1
  have z7_2 : w.heap.size + 1 + 1 < w7.heap.size := B7_2.lt
  clear B7_2
  have B7_3 : Blk w7 (w.heap.size + 1 + 1 + 1) 46 #[.int .i64 dx, .int .i64 dy] := HH7.out (w.heap.size + 1 + 1 + 1, 46, [.int .i64 dx, .int .i64 dy]) (by simp)
  have k7_3_0 : w7.cell? ⟨w.heap.size + 1 + 1 + 1, 0, none⟩ = some (.int .i64 dx) := B7_3.cell 0
  have k7_3_1 : w7.cell? ⟨w.heap.size + 1 + 1 + 1, 1, none⟩ = some (.int .i64 dy) := B7_3.cell 1
  have z7_3 : w.heap.size + 1 + 1 + 1 < w7.heap.size := B7_3.lt
  clear B7_3
  go_wp2_with fail
  refine (c7.out _).mono ?_
  rintro e w8 ⟨rfl, hb8⟩
  have HH8 := Lib.hid ((HH7.out).below hb8)
  have HB8 := Lib.hid (below_trans (HB7.out) hb8)
  clear k7_0_0 k7_0_1 z7_0 k7_1_0 k7_1_1 z7_1 k7_2_0 k7_2_1 z7_2 k7_3_0 k7_3_1 z7_3
  clear hb8
  clear HH7 HB7
  have B8_0 : Blk w8 (w.heap.size) 46 #[.int .i64 ax, .int .i64 ay] := HH8.out (w.heap.size, 46, [.int .i64 ax, .int .i64 ay]) (by simp)
  have k8_0_0 : w8.cell? ⟨w.heap.size, 0, none⟩ = some (.int .i64 ax) := B8_0.cell 0
  have k8_0_1 : w8.cell? ⟨w.heap.size, 1, none⟩ = some (.int .i64 ay) := B8_0.cell 1
  have z8_0 : w.heap.size < w8.heap.size := B8_0.lt
  clear B8_0
  have B8_1 : Blk w8 (w.heap.size + 1) 46 #[.int .i64 ax, .int .i64 ay] := HH8.out (w.heap.size + 1, 46, [.int .i64 ax, .int .i64 ay]) (by simp)
  have k8_1_0 : w8.cell? ⟨w.heap.size + 1, 0, none⟩ = some (.int .i64 ax) := B8_1.cell 0
  have k8_1_1 : w8.cell? ⟨w.heap.size + 1, 1, none⟩ = some (.int .i64 ay) := B8_1.cell 1
  have z8_1 : w.heap.size + 1 < w8.heap.size := B8_1.lt
  clear B8_1
  have B8_2 : Blk w8 (w.heap.size + 1 + 1) 46 #[.int .i64 cx, .int .i64 cy] := HH8.out (w.heap.size + 1 + 1, 46, [.int .i64 cx, .int .i64 cy]) (by simp)
  have k8_2_0 : w8.cell? ⟨w.heap.size + 1 + 1, 0, none⟩ = some (.int .i64 cx) := B8_2.cell 0
  have k8_2_1 : w8.cell? ⟨w.heap.size + 1 + 1, 1, none⟩ = some (.int .i64 cy) := B8_2.cell 1
  have z8_2 : w.heap.size + 1 + 1 < w8.heap.size := B8_2.lt
  clear B8_2
  have B8_3 : Blk w8 (w.heap.size + 1 + 1 + 1) 46 #[.int .i64 dx, .int .i64 dy] := HH8.out (w.heap.size + 1 + 1 + 1, 46, [.int .i64 dx, .int .i64 dy]) (by simp)
  have k8_3_0 : w8.cell? ⟨w.heap.size + 1 + 1 + 1, 0, none⟩ = some (.int .i64 dx) := B8_3.cell 0
  have k8_3_1 : w8.cell? ⟨w.heap.size + 1 + 1 + 1, 1, none⟩ = some (.int .i64 dy) := B8_3.cell 1
  have z8_3 : w.heap.size + 1 + 1 + 1 < w8.heap.size := B8_3.lt
  clear B8_3
  go_wp2_with fail
  refine (c8.out _).mono ?_
  rintro e w9 ⟨rfl, hb9⟩
  have HH9 := Lib.hid ((HH8.out).below hb9)
  have HB9 := Lib.hid (below_trans (HB8.out) hb9)
  clear k8_0_0 k8_0_1 z8_0 k8_1_0 k8_1_1 z8_1 k8_2_0 k8_2_1 z8_2 k8_3_0 k8_3_1 z8_3
  clear hb9
  clear HH8 HB8
  have B9_0 : Blk w9 (w.heap.size) 46 #[.int .i64 ax, .int .i64 ay] := HH9.out (w.heap.size, 46, [.int .i64 ax, .int .i64 ay]) (by simp)
  have k9_0_0 : w9.cell? ⟨w.heap.size, 0, none⟩ = some (.int .i64 ax) := B9_0.cell 0
  have k9_0_1 : w9.cell? ⟨w.heap.size, 1, none⟩ = some (.int .i64 ay) := B9_0.cell 1
  have z9_0 : w.heap.size < w9.heap.size := B9_0.lt
  clear B9_0
  have B9_1 : Blk w9 (w.heap.size + 1) 46 #[.int .i64 ax, .int .i64 ay] := HH9.out (w.heap.size + 1, 46, [.int .i64 ax, .int .i64 ay]) (by simp)
  have k9_1_0 : w9.cell? ⟨w.heap.size + 1, 0, none⟩ = some (.int .i64 ax) := B9_1.cell 0
  have k9_1_1 : w9.cell? ⟨w.heap.size + 1, 1, none⟩ = some (.int .i64 ay) := B9_1.cell 1
  have z9_1 : w.heap.size + 1 < w9.heap.size := B9_1.lt
  clear B9_1
  have B9_2 : Blk w9 (w.heap.size + 1 + 1) 46 #[.int .i64 cx, .int .i64 cy] := HH9.out (w.heap.size + 1 + 1, 46, [.int .i64 cx, .int .i64 cy]) (by simp)
  have k9_2_0 : w9.cell? ⟨w.heap.size + 1 + 1, 0, none⟩ = some (.int .i64 cx) := B9_2.cell 0
  have k9_2_1 : w9.cell? ⟨w.heap.size + 1 + 1, 1, none⟩ = some (.int .i64 cy) := B9_2.cell 1
  have z9_2 : w.heap.size + 1 + 1 < w9.heap.size := B9_2.lt
  clear B9_2
  have B9_3 : Blk w9 (w.heap.size + 1 + 1 + 1) 46 #[.int .i64 dx, .int .i64 dy] := HH9.out (w.heap.size + 1 + 1 + 1, 46, [.int .i64 dx, .int .i64 dy]) (by simp)
  have k9_3_0 : w9.cell? ⟨w.heap.size + 1 + 1 + 1, 0, none⟩ = some (.int .i64 dx) := B9_3.cell 0
  have k9_3_1 : w9.cell? ⟨w.heap.size + 1 + 1 + 1, 1, none⟩ = some (.int .i64 dy) := B9_3.cell 1
  have z9_3 : w.heap.size + 1 + 1 + 1 < w9.heap.size := B9_3.lt
  clear B9_3
  go_wp2_with fail
  refine (c9.out _).mono ?_
  rintro e w10 ⟨rfl, hb10⟩
  have HH10 := Lib.hid ((HH9.out).below hb10)
  have HB10 := Lib.hid (below_trans (HB9.out) hb10)
  clear k9_0_0 k9_0_1 z9_0 k9_1_0 k9_1_1 z9_1 k9_2_0 k9_2_1 z9_2 k9_3_0 k9_3_1 z9_3
  clear hb10
  clear HH9 HB9
  have B10_0 : Blk w10 (w.heap.size) 46 #[.int .i64 ax, .int .i64 ay] := HH10.out (w.heap.size, 46, [.int .i64 ax, .int .i64 ay]) (by simp)
  have k10_0_0 : w10.cell? ⟨w.heap.size, 0, none⟩ = some (.int .i64 ax) := B10_0.cell 0
  have k10_0_1 : w10.cell? ⟨w.heap.size, 1, none⟩ = some (.int .i64 ay) := B10_0.cell 1
  have z10_0 : w.heap.size < w10.heap.size := B10_0.lt
  clear B10_0
  have B10_1 : Blk w10 (w.heap.size + 1) 46 #[.int .i64 ax, .int .i64 ay] := HH10.out (w.heap.size + 1, 46, [.int .i64 ax, .int .i64 ay]) (by simp)
  have k10_1_0 : w10.cell? ⟨w.heap.size + 1, 0, none⟩ = some (.int .i64 ax) := B10_1.cell 0
  have k10_1_1 : w10.cell? ⟨w.heap.size + 1, 1, none⟩ = some (.int .i64 ay) := B10_1.cell 1
  have z10_1 : w.heap.size + 1 < w10.heap.size := B10_1.lt
  clear B10_1
  have B10_2 : Blk w10 (w.heap.size + 1 + 1) 46 #[.int .i64 cx, .int .i64 cy] := HH10.out (w.heap.size + 1 + 1, 46, [.int .i64 cx, .int .i64 cy]) (by simp)
  have k10_2_0 : w10.cell? ⟨w.heap.size + 1 + 1, 0, none⟩ = some (.int .i64 cx) := B10_2.cell 0
  have k10_2_1 : w10.cell? ⟨w.heap.size + 1 + 1, 1, none⟩ = some (.int .i64 cy) := B10_2.cell 1
  have z10_2 : w.heap.size + 1 + 1 < w10.heap.size := B10_2.lt
  clear B10_2
  have B10_3 : Blk w10 (w.heap.size + 1 + 1 + 1) 46 #[.int .i64 dx, .int .i64 dy] := HH10.out (w.heap.size + 1 + 1 + 1, 46, [.int .i64 dx, .int .i64 dy]) (by simp)
  have k10_3_0 : w10.cell? ⟨w.heap.size + 1 + 1 + 1, 0, none⟩ = some (.int .i64 dx) := B10_3.cell 0
  have k10_3_1 : w10.cell? ⟨w.heap.size + 1 + 1 + 1, 1, none⟩ = some (.int .i64 dy) := B10_3.cell 1
  have z10_3 : w.heap.size + 1 + 1 + 1 < w10.heap.size := B10_3.lt
  clear B10_3
  go_wp2
  go_returns
  exact ⟨rfl, by repeat (first | with_reducible exact HB10.out | with_reducible refine Below.drew ?_ | with_reducible refine below_drewN ?_ _ | with_reducible refine below_set ?_ (by have := HB10.out.size; simp <;> omega) _ | with_reducible refine below_alloc ?_ _)⟩
set_option maxRecDepth 100000 in
set_option maxHeartbeats 3200000 in
theorem segs_3n (ax ay bx bY cx cy dx dy : Int) (h1 : in2 ax ay = true) (h2 : in2 bx bY = true) (h3 : in2 cx cy = true) (h4 : in2 dx dy = false) (hne : ¬ (ax = bx ∧ ay = bY)) (w : World) : Calls Try.prog 11 #[.agg #[.int .i64 ax, .int .i64 ay], .agg #[.int .i64 bx, .int .i64 bY], .agg #[.int .i64 cx, .int .i64 cy], .agg #[.int .i64 dx, .int .i64 dy]] w fun e w' => e = .returned (.bool true) ∧ Below w.heap.size w w' := by
  have c0 := Lib.hid fun W => awake_any W
  have c1 := Lib.hid fun W => turnP_ok ax ay bx bY cx cy h1 h2 h3 W
  have c2 := Lib.hid fun W => turnP_ok ax ay cx cy bx bY h1 h3 h2 W
  have c3 := Lib.hid fun W => turnP_ok bx bY cx cy ax ay h2 h3 h1 W
  have c4 := Lib.hid fun W => onP_ok ax ay bx bY cx cy h1 h2 h3 W
  have c5 := Lib.hid fun W => meetP_ok ax ay bx bY cx cy cx cy h1 h2 h3 h3 W
  have c6 := Lib.hid fun W => meetP_no ax ay bx bY cx cy dx dy (fun hh => by simp [h4] at hh) W
  have c7 := Lib.hid fun W => meetP_no dx dy cx cy ax ay bx bY (fun hh => by simp [h4] at hh) W
  have c8 := Lib.hid fun W => meetP_no bx bY ax ay dx dy cx cy (fun hh => by simp [h4] at hh) W
  have c9 := Lib.hid fun W => meetP_ok ax ay bx bY ax ay bx bY h1 h2 h1 h2 W
  obtain ⟨b1, b2⟩ := cmpI_bd ((bx - ax) * (cy - ay)) ((bY - ay) * (cx - ax))
  change -1 ≤ turnI ax ay bx bY cx cy at b1
  change turnI ax ay bx bY cx cy ≤ 1 at b2
  rw [turn_swap] at c2
  rw [turn_rot] at c3
  rw [meet_pp_one] at c4
  rw [meet_self] at c9
  rw [if_neg hne] at c9
  have e1 := fun W => pt_diff_neq hne W
  have gd := fun x y xs ys W => pt_guard .eql x y xs ys W
  have gn := fun x y xs ys W => pt_guard .neq x y xs ys W
  clear h1 h2 h3 h4 hne
  generalize turnI ax ay bx bY cx cy = T at *
  generalize meetI ax ay bx bY cx cy cx cy = M at *
  have t1 : (T != - -T) = false := by simp
  have t2 : (T != T) = false := by simp
  have t3 : ((M == 1) != (M == 1)) = false := by simp
  go_enter Try.func11, Try.ntmps11
  go_wp2_with fail
  refine (c0.out _).mono ?_
  rintro e w1 ⟨rfl, hb1⟩
  have HH1 := Lib.hid (((((((Blks.nil (w := w))).new (w.heap.size) 46 [.int .i64 ax, .int .i64 ay] rfl).new (w.heap.size + 1) 46 [.int .i64 bx, .int .i64 bY] (by simp)).new (w.heap.size + 1 + 1) 46 [.int .i64 cx, .int .i64 cy] (by simp)).new (w.heap.size + 1 + 1 + 1) 46 [.int .i64 dx, .int .i64 dy] (by simp)).below hb1)
  have HB1 := Lib.hid (below_trans (below_alloc (below_alloc (below_alloc (below_alloc (Below.refl _ _) _) _) _) _) hb1)
  clear hb1
  have B1_0 : Blk w1 (w.heap.size) 46 #[.int .i64 ax, .int .i64 ay] := HH1.out (w.heap.size, 46, [.int .i64 ax, .int .i64 ay]) (by simp)
  have k1_0_0 : w1.cell? ⟨w.heap.size, 0, none⟩ = some (.int .i64 ax) := B1_0.cell 0
  have k1_0_1 : w1.cell? ⟨w.heap.size, 1, none⟩ = some (.int .i64 ay) := B1_0.cell 1
  have z1_0 : w.heap.size < w1.heap.size := B1_0.lt
  clear B1_0
  have B1_1 : Blk w1 (w.heap.size + 1) 46 #[.int .i64 bx, .int .i64 bY] := HH1.out (w.heap.size + 1, 46, [.int .i64 bx, .int .i64 bY]) (by simp)
  have k1_1_0 : w1.cell? ⟨w.heap.size + 1, 0, none⟩ = some (.int .i64 bx) := B1_1.cell 0
  have k1_1_1 : w1.cell? ⟨w.heap.size + 1, 1, none⟩ = some (.int .i64 bY) := B1_1.cell 1
  have z1_1 : w.heap.size + 1 < w1.heap.size := B1_1.lt
  clear B1_1
  have B1_2 : Blk w1 (w.heap.size + 1 + 1) 46 #[.int .i64 cx, .int .i64 cy] := HH1.out (w.heap.size + 1 + 1, 46, [.int .i64 cx, .int .i64 cy]) (by simp)
  have k1_2_0 : w1.cell? ⟨w.heap.size + 1 + 1, 0, none⟩ = some (.int .i64 cx) := B1_2.cell 0
  have k1_2_1 : w1.cell? ⟨w.heap.size + 1 + 1, 1, none⟩ = some (.int .i64 cy) := B1_2.cell 1
  have z1_2 : w.heap.size + 1 + 1 < w1.heap.size := B1_2.lt
  clear B1_2
  have B1_3 : Blk w1 (w.heap.size + 1 + 1 + 1) 46 #[.int .i64 dx, .int .i64 dy] := HH1.out (w.heap.size + 1 + 1 + 1, 46, [.int .i64 dx, .int .i64 dy]) (by simp)
  have k1_3_0 : w1.cell? ⟨w.heap.size + 1 + 1 + 1, 0, none⟩ = some (.int .i64 dx) := B1_3.cell 0
  have k1_3_1 : w1.cell? ⟨w.heap.size + 1 + 1 + 1, 1, none⟩ = some (.int .i64 dy) := B1_3.cell 1
  have z1_3 : w.heap.size + 1 + 1 + 1 < w1.heap.size := B1_3.lt
  clear B1_3
  go_wp2_with fail
  refine (c1.out _).mono ?_
  rintro e w2 ⟨rfl, hb2⟩
  have HH2 := Lib.hid ((HH1.out).below hb2)
  have HB2 := Lib.hid (below_trans (HB1.out) hb2)
  clear k1_0_0 k1_0_1 z1_0 k1_1_0 k1_1_1 z1_1 k1_2_0 k1_2_1 z1_2 k1_3_0 k1_3_1 z1_3
  clear hb2
  clear HH1 HB1
  have B2_0 : Blk w2 (w.heap.size) 46 #[.int .i64 ax, .int .i64 ay] := HH2.out (w.heap.size, 46, [.int .i64 ax, .int .i64 ay]) (by simp)
  have k2_0_0 : w2.cell? ⟨w.heap.size, 0, none⟩ = some (.int .i64 ax) := B2_0.cell 0
  have k2_0_1 : w2.cell? ⟨w.heap.size, 1, none⟩ = some (.int .i64 ay) := B2_0.cell 1
  have z2_0 : w.heap.size < w2.heap.size := B2_0.lt
  clear B2_0
  have B2_1 : Blk w2 (w.heap.size + 1) 46 #[.int .i64 bx, .int .i64 bY] := HH2.out (w.heap.size + 1, 46, [.int .i64 bx, .int .i64 bY]) (by simp)
  have k2_1_0 : w2.cell? ⟨w.heap.size + 1, 0, none⟩ = some (.int .i64 bx) := B2_1.cell 0
  have k2_1_1 : w2.cell? ⟨w.heap.size + 1, 1, none⟩ = some (.int .i64 bY) := B2_1.cell 1
  have z2_1 : w.heap.size + 1 < w2.heap.size := B2_1.lt
  clear B2_1
  have B2_2 : Blk w2 (w.heap.size + 1 + 1) 46 #[.int .i64 cx, .int .i64 cy] := HH2.out (w.heap.size + 1 + 1, 46, [.int .i64 cx, .int .i64 cy]) (by simp)
  have k2_2_0 : w2.cell? ⟨w.heap.size + 1 + 1, 0, none⟩ = some (.int .i64 cx) := B2_2.cell 0
  have k2_2_1 : w2.cell? ⟨w.heap.size + 1 + 1, 1, none⟩ = some (.int .i64 cy) := B2_2.cell 1
  have z2_2 : w.heap.size + 1 + 1 < w2.heap.size := B2_2.lt
  clear B2_2
  have B2_3 : Blk w2 (w.heap.size + 1 + 1 + 1) 46 #[.int .i64 dx, .int .i64 dy] := HH2.out (w.heap.size + 1 + 1 + 1, 46, [.int .i64 dx, .int .i64 dy]) (by simp)
  have k2_3_0 : w2.cell? ⟨w.heap.size + 1 + 1 + 1, 0, none⟩ = some (.int .i64 dx) := B2_3.cell 0
  have k2_3_1 : w2.cell? ⟨w.heap.size + 1 + 1 + 1, 1, none⟩ = some (.int .i64 dy) := B2_3.cell 1
  have z2_3 : w.heap.size + 1 + 1 + 1 < w2.heap.size := B2_3.lt
  clear B2_3
  go_wp2_with fail
  refine (c2.out _).mono ?_
  rintro e w3 ⟨rfl, hb3⟩
  have HH3 := Lib.hid ((HH2.out).below hb3)
  have HB3 := Lib.hid (below_trans (HB2.out) hb3)
  clear k2_0_0 k2_0_1 z2_0 k2_1_0 k2_1_1 z2_1 k2_2_0 k2_2_1 z2_2 k2_3_0 k2_3_1 z2_3
  clear hb3
  clear HH2 HB2
  have B3_0 : Blk w3 (w.heap.size) 46 #[.int .i64 ax, .int .i64 ay] := HH3.out (w.heap.size, 46, [.int .i64 ax, .int .i64 ay]) (by simp)
  have k3_0_0 : w3.cell? ⟨w.heap.size, 0, none⟩ = some (.int .i64 ax) := B3_0.cell 0
  have k3_0_1 : w3.cell? ⟨w.heap.size, 1, none⟩ = some (.int .i64 ay) := B3_0.cell 1
  have z3_0 : w.heap.size < w3.heap.size := B3_0.lt
  clear B3_0
  have B3_1 : Blk w3 (w.heap.size + 1) 46 #[.int .i64 bx, .int .i64 bY] := HH3.out (w.heap.size + 1, 46, [.int .i64 bx, .int .i64 bY]) (by simp)
  have k3_1_0 : w3.cell? ⟨w.heap.size + 1, 0, none⟩ = some (.int .i64 bx) := B3_1.cell 0
  have k3_1_1 : w3.cell? ⟨w.heap.size + 1, 1, none⟩ = some (.int .i64 bY) := B3_1.cell 1
  have z3_1 : w.heap.size + 1 < w3.heap.size := B3_1.lt
  clear B3_1
  have B3_2 : Blk w3 (w.heap.size + 1 + 1) 46 #[.int .i64 cx, .int .i64 cy] := HH3.out (w.heap.size + 1 + 1, 46, [.int .i64 cx, .int .i64 cy]) (by simp)
  have k3_2_0 : w3.cell? ⟨w.heap.size + 1 + 1, 0, none⟩ = some (.int .i64 cx) := B3_2.cell 0
  have k3_2_1 : w3.cell? ⟨w.heap.size + 1 + 1, 1, none⟩ = some (.int .i64 cy) := B3_2.cell 1
  have z3_2 : w.heap.size + 1 + 1 < w3.heap.size := B3_2.lt
  clear B3_2
  have B3_3 : Blk w3 (w.heap.size + 1 + 1 + 1) 46 #[.int .i64 dx, .int .i64 dy] := HH3.out (w.heap.size + 1 + 1 + 1, 46, [.int .i64 dx, .int .i64 dy]) (by simp)
  have k3_3_0 : w3.cell? ⟨w.heap.size + 1 + 1 + 1, 0, none⟩ = some (.int .i64 dx) := B3_3.cell 0
  have k3_3_1 : w3.cell? ⟨w.heap.size + 1 + 1 + 1, 1, none⟩ = some (.int .i64 dy) := B3_3.cell 1
  have z3_3 : w.heap.size + 1 + 1 + 1 < w3.heap.size := B3_3.lt
  clear B3_3
  go_wp2_with fail
  refine (c3.out _).mono ?_
  rintro e w4 ⟨rfl, hb4⟩
  have HH4 := Lib.hid ((HH3.out).below hb4)
  have HB4 := Lib.hid (below_trans (HB3.out) hb4)
  clear k3_0_0 k3_0_1 z3_0 k3_1_0 k3_1_1 z3_1 k3_2_0 k3_2_1 z3_2 k3_3_0 k3_3_1 z3_3
  clear hb4
  clear HH3 HB3
  have B4_0 : Blk w4 (w.heap.size) 46 #[.int .i64 ax, .int .i64 ay] := HH4.out (w.heap.size, 46, [.int .i64 ax, .int .i64 ay]) (by simp)
  have k4_0_0 : w4.cell? ⟨w.heap.size, 0, none⟩ = some (.int .i64 ax) := B4_0.cell 0
  have k4_0_1 : w4.cell? ⟨w.heap.size, 1, none⟩ = some (.int .i64 ay) := B4_0.cell 1
  have z4_0 : w.heap.size < w4.heap.size := B4_0.lt
  clear B4_0
  have B4_1 : Blk w4 (w.heap.size + 1) 46 #[.int .i64 bx, .int .i64 bY] := HH4.out (w.heap.size + 1, 46, [.int .i64 bx, .int .i64 bY]) (by simp)
  have k4_1_0 : w4.cell? ⟨w.heap.size + 1, 0, none⟩ = some (.int .i64 bx) := B4_1.cell 0
  have k4_1_1 : w4.cell? ⟨w.heap.size + 1, 1, none⟩ = some (.int .i64 bY) := B4_1.cell 1
  have z4_1 : w.heap.size + 1 < w4.heap.size := B4_1.lt
  clear B4_1
  have B4_2 : Blk w4 (w.heap.size + 1 + 1) 46 #[.int .i64 cx, .int .i64 cy] := HH4.out (w.heap.size + 1 + 1, 46, [.int .i64 cx, .int .i64 cy]) (by simp)
  have k4_2_0 : w4.cell? ⟨w.heap.size + 1 + 1, 0, none⟩ = some (.int .i64 cx) := B4_2.cell 0
  have k4_2_1 : w4.cell? ⟨w.heap.size + 1 + 1, 1, none⟩ = some (.int .i64 cy) := B4_2.cell 1
  have z4_2 : w.heap.size + 1 + 1 < w4.heap.size := B4_2.lt
  clear B4_2
  have B4_3 : Blk w4 (w.heap.size + 1 + 1 + 1) 46 #[.int .i64 dx, .int .i64 dy] := HH4.out (w.heap.size + 1 + 1 + 1, 46, [.int .i64 dx, .int .i64 dy]) (by simp)
  have k4_3_0 : w4.cell? ⟨w.heap.size + 1 + 1 + 1, 0, none⟩ = some (.int .i64 dx) := B4_3.cell 0
  have k4_3_1 : w4.cell? ⟨w.heap.size + 1 + 1 + 1, 1, none⟩ = some (.int .i64 dy) := B4_3.cell 1
  have z4_3 : w.heap.size + 1 + 1 + 1 < w4.heap.size := B4_3.lt
  clear B4_3
  go_wp2_with fail
  refine (c4.out _).mono ?_
  rintro e w5 ⟨rfl, hb5⟩
  have HH5 := Lib.hid ((HH4.out).below hb5)
  have HB5 := Lib.hid (below_trans (HB4.out) hb5)
  clear k4_0_0 k4_0_1 z4_0 k4_1_0 k4_1_1 z4_1 k4_2_0 k4_2_1 z4_2 k4_3_0 k4_3_1 z4_3
  clear hb5
  clear HH4 HB4
  have B5_0 : Blk w5 (w.heap.size) 46 #[.int .i64 ax, .int .i64 ay] := HH5.out (w.heap.size, 46, [.int .i64 ax, .int .i64 ay]) (by simp)
  have k5_0_0 : w5.cell? ⟨w.heap.size, 0, none⟩ = some (.int .i64 ax) := B5_0.cell 0
  have k5_0_1 : w5.cell? ⟨w.heap.size, 1, none⟩ = some (.int .i64 ay) := B5_0.cell 1
  have z5_0 : w.heap.size < w5.heap.size := B5_0.lt
  clear B5_0
  have B5_1 : Blk w5 (w.heap.size + 1) 46 #[.int .i64 bx, .int .i64 bY] := HH5.out (w.heap.size + 1, 46, [.int .i64 bx, .int .i64 bY]) (by simp)
  have k5_1_0 : w5.cell? ⟨w.heap.size + 1, 0, none⟩ = some (.int .i64 bx) := B5_1.cell 0
  have k5_1_1 : w5.cell? ⟨w.heap.size + 1, 1, none⟩ = some (.int .i64 bY) := B5_1.cell 1
  have z5_1 : w.heap.size + 1 < w5.heap.size := B5_1.lt
  clear B5_1
  have B5_2 : Blk w5 (w.heap.size + 1 + 1) 46 #[.int .i64 cx, .int .i64 cy] := HH5.out (w.heap.size + 1 + 1, 46, [.int .i64 cx, .int .i64 cy]) (by simp)
  have k5_2_0 : w5.cell? ⟨w.heap.size + 1 + 1, 0, none⟩ = some (.int .i64 cx) := B5_2.cell 0
  have k5_2_1 : w5.cell? ⟨w.heap.size + 1 + 1, 1, none⟩ = some (.int .i64 cy) := B5_2.cell 1
  have z5_2 : w.heap.size + 1 + 1 < w5.heap.size := B5_2.lt
  clear B5_2
  have B5_3 : Blk w5 (w.heap.size + 1 + 1 + 1) 46 #[.int .i64 dx, .int .i64 dy] := HH5.out (w.heap.size + 1 + 1 + 1, 46, [.int .i64 dx, .int .i64 dy]) (by simp)
  have k5_3_0 : w5.cell? ⟨w.heap.size + 1 + 1 + 1, 0, none⟩ = some (.int .i64 dx) := B5_3.cell 0
  have k5_3_1 : w5.cell? ⟨w.heap.size + 1 + 1 + 1, 1, none⟩ = some (.int .i64 dy) := B5_3.cell 1
  have z5_3 : w.heap.size + 1 + 1 + 1 < w5.heap.size := B5_3.lt
  clear B5_3
  go_wp2_with fail
  refine (c5.out _).mono ?_
  rintro e w6 ⟨rfl, hb6⟩
  have HH6 := Lib.hid ((HH5.out).below hb6)
  have HB6 := Lib.hid (below_trans (HB5.out) hb6)
  clear k5_0_0 k5_0_1 z5_0 k5_1_0 k5_1_1 z5_1 k5_2_0 k5_2_1 z5_2 k5_3_0 k5_3_1 z5_3
  clear hb6
  clear HH5 HB5
  have B6_0 : Blk w6 (w.heap.size) 46 #[.int .i64 ax, .int .i64 ay] := HH6.out (w.heap.size, 46, [.int .i64 ax, .int .i64 ay]) (by simp)
  have k6_0_0 : w6.cell? ⟨w.heap.size, 0, none⟩ = some (.int .i64 ax) := B6_0.cell 0
  have k6_0_1 : w6.cell? ⟨w.heap.size, 1, none⟩ = some (.int .i64 ay) := B6_0.cell 1
  have z6_0 : w.heap.size < w6.heap.size := B6_0.lt
  clear B6_0
  have B6_1 : Blk w6 (w.heap.size + 1) 46 #[.int .i64 bx, .int .i64 bY] := HH6.out (w.heap.size + 1, 46, [.int .i64 bx, .int .i64 bY]) (by simp)
  have k6_1_0 : w6.cell? ⟨w.heap.size + 1, 0, none⟩ = some (.int .i64 bx) := B6_1.cell 0
  have k6_1_1 : w6.cell? ⟨w.heap.size + 1, 1, none⟩ = some (.int .i64 bY) := B6_1.cell 1
  have z6_1 : w.heap.size + 1 < w6.heap.size := B6_1.lt
  clear B6_1
  have B6_2 : Blk w6 (w.heap.size + 1 + 1) 46 #[.int .i64 cx, .int .i64 cy] := HH6.out (w.heap.size + 1 + 1, 46, [.int .i64 cx, .int .i64 cy]) (by simp)
  have k6_2_0 : w6.cell? ⟨w.heap.size + 1 + 1, 0, none⟩ = some (.int .i64 cx) := B6_2.cell 0
  have k6_2_1 : w6.cell? ⟨w.heap.size + 1 + 1, 1, none⟩ = some (.int .i64 cy) := B6_2.cell 1
  have z6_2 : w.heap.size + 1 + 1 < w6.heap.size := B6_2.lt
  clear B6_2
  have B6_3 : Blk w6 (w.heap.size + 1 + 1 + 1) 46 #[.int .i64 dx, .int .i64 dy] := HH6.out (w.heap.size + 1 + 1 + 1, 46, [.int .i64 dx, .int .i64 dy]) (by simp)
  have k6_3_0 : w6.cell? ⟨w.heap.size + 1 + 1 + 1, 0, none⟩ = some (.int .i64 dx) := B6_3.cell 0
  have k6_3_1 : w6.cell? ⟨w.heap.size + 1 + 1 + 1, 1, none⟩ = some (.int .i64 dy) := B6_3.cell 1
  have z6_3 : w.heap.size + 1 + 1 + 1 < w6.heap.size := B6_3.lt
  clear B6_3
  go_wp2_with fail
  refine (c6.out _).mono ?_
  rintro e w7 ⟨rfl, hb7⟩
  have HH7 := Lib.hid ((HH6.out).below hb7)
  have HB7 := Lib.hid (below_trans (HB6.out) hb7)
  clear k6_0_0 k6_0_1 z6_0 k6_1_0 k6_1_1 z6_1 k6_2_0 k6_2_1 z6_2 k6_3_0 k6_3_1 z6_3
  clear hb7
  clear HH6 HB6
  have B7_0 : Blk w7 (w.heap.size) 46 #[.int .i64 ax, .int .i64 ay] := HH7.out (w.heap.size, 46, [.int .i64 ax, .int .i64 ay]) (by simp)
  have k7_0_0 : w7.cell? ⟨w.heap.size, 0, none⟩ = some (.int .i64 ax) := B7_0.cell 0
  have k7_0_1 : w7.cell? ⟨w.heap.size, 1, none⟩ = some (.int .i64 ay) := B7_0.cell 1
  have z7_0 : w.heap.size < w7.heap.size := B7_0.lt
  clear B7_0
  have B7_1 : Blk w7 (w.heap.size + 1) 46 #[.int .i64 bx, .int .i64 bY] := HH7.out (w.heap.size + 1, 46, [.int .i64 bx, .int .i64 bY]) (by simp)
  have k7_1_0 : w7.cell? ⟨w.heap.size + 1, 0, none⟩ = some (.int .i64 bx) := B7_1.cell 0
  have k7_1_1 : w7.cell? ⟨w.heap.size + 1, 1, none⟩ = some (.int .i64 bY) := B7_1.cell 1
  have z7_1 : w.heap.size + 1 < w7.heap.size := B7_1.lt
  clear B7_1
  have B7_2 : Blk w7 (w.heap.size + 1 + 1) 46 #[.int .i64 cx, .int .i64 cy] := HH7.out (w.heap.size + 1 + 1, 46, [.int .i64 cx, .int .i64 cy]) (by simp)
  have k7_2_0 : w7.cell? ⟨w.heap.size + 1 + 1, 0, none⟩ = some (.int .i64 cx) := B7_2.cell 0
  have k7_2_1 : w7.cell? ⟨w.heap.size + 1 + 1, 1, none⟩ = some (.int .i64 cy) := B7_2.cell 1
  have z7_2 : w.heap.size + 1 + 1 < w7.heap.size := B7_2.lt
  clear B7_2
  have B7_3 : Blk w7 (w.heap.size + 1 + 1 + 1) 46 #[.int .i64 dx, .int .i64 dy] := HH7.out (w.heap.size + 1 + 1 + 1, 46, [.int .i64 dx, .int .i64 dy]) (by simp)
  have k7_3_0 : w7.cell? ⟨w.heap.size + 1 + 1 + 1, 0, none⟩ = some (.int .i64 dx) := B7_3.cell 0
  have k7_3_1 : w7.cell? ⟨w.heap.size + 1 + 1 + 1, 1, none⟩ = some (.int .i64 dy) := B7_3.cell 1
  have z7_3 : w.heap.size + 1 + 1 + 1 < w7.heap.size := B7_3.lt
  clear B7_3
  go_wp2_with fail
  refine (c7.out _).mono ?_
  rintro e w8 ⟨rfl, hb8⟩
  have HH8 := Lib.hid ((HH7.out).below hb8)
  have HB8 := Lib.hid (below_trans (HB7.out) hb8)
  clear k7_0_0 k7_0_1 z7_0 k7_1_0 k7_1_1 z7_1 k7_2_0 k7_2_1 z7_2 k7_3_0 k7_3_1 z7_3
  clear hb8
  clear HH7 HB7
  have B8_0 : Blk w8 (w.heap.size) 46 #[.int .i64 ax, .int .i64 ay] := HH8.out (w.heap.size, 46, [.int .i64 ax, .int .i64 ay]) (by simp)
  have k8_0_0 : w8.cell? ⟨w.heap.size, 0, none⟩ = some (.int .i64 ax) := B8_0.cell 0
  have k8_0_1 : w8.cell? ⟨w.heap.size, 1, none⟩ = some (.int .i64 ay) := B8_0.cell 1
  have z8_0 : w.heap.size < w8.heap.size := B8_0.lt
  clear B8_0
  have B8_1 : Blk w8 (w.heap.size + 1) 46 #[.int .i64 bx, .int .i64 bY] := HH8.out (w.heap.size + 1, 46, [.int .i64 bx, .int .i64 bY]) (by simp)
  have k8_1_0 : w8.cell? ⟨w.heap.size + 1, 0, none⟩ = some (.int .i64 bx) := B8_1.cell 0
  have k8_1_1 : w8.cell? ⟨w.heap.size + 1, 1, none⟩ = some (.int .i64 bY) := B8_1.cell 1
  have z8_1 : w.heap.size + 1 < w8.heap.size := B8_1.lt
  clear B8_1
  have B8_2 : Blk w8 (w.heap.size + 1 + 1) 46 #[.int .i64 cx, .int .i64 cy] := HH8.out (w.heap.size + 1 + 1, 46, [.int .i64 cx, .int .i64 cy]) (by simp)
  have k8_2_0 : w8.cell? ⟨w.heap.size + 1 + 1, 0, none⟩ = some (.int .i64 cx) := B8_2.cell 0
  have k8_2_1 : w8.cell? ⟨w.heap.size + 1 + 1, 1, none⟩ = some (.int .i64 cy) := B8_2.cell 1
  have z8_2 : w.heap.size + 1 + 1 < w8.heap.size := B8_2.lt
  clear B8_2
  have B8_3 : Blk w8 (w.heap.size + 1 + 1 + 1) 46 #[.int .i64 dx, .int .i64 dy] := HH8.out (w.heap.size + 1 + 1 + 1, 46, [.int .i64 dx, .int .i64 dy]) (by simp)
  have k8_3_0 : w8.cell? ⟨w.heap.size + 1 + 1 + 1, 0, none⟩ = some (.int .i64 dx) := B8_3.cell 0
  have k8_3_1 : w8.cell? ⟨w.heap.size + 1 + 1 + 1, 1, none⟩ = some (.int .i64 dy) := B8_3.cell 1
  have z8_3 : w.heap.size + 1 + 1 + 1 < w8.heap.size := B8_3.lt
  clear B8_3
  go_wp2_with fail
  refine (c8.out _).mono ?_
  rintro e w9 ⟨rfl, hb9⟩
  have HH9 := Lib.hid ((HH8.out).below hb9)
  have HB9 := Lib.hid (below_trans (HB8.out) hb9)
  clear k8_0_0 k8_0_1 z8_0 k8_1_0 k8_1_1 z8_1 k8_2_0 k8_2_1 z8_2 k8_3_0 k8_3_1 z8_3
  clear hb9
  clear HH8 HB8
  have B9_0 : Blk w9 (w.heap.size) 46 #[.int .i64 ax, .int .i64 ay] := HH9.out (w.heap.size, 46, [.int .i64 ax, .int .i64 ay]) (by simp)
  have k9_0_0 : w9.cell? ⟨w.heap.size, 0, none⟩ = some (.int .i64 ax) := B9_0.cell 0
  have k9_0_1 : w9.cell? ⟨w.heap.size, 1, none⟩ = some (.int .i64 ay) := B9_0.cell 1
  have z9_0 : w.heap.size < w9.heap.size := B9_0.lt
  clear B9_0
  have B9_1 : Blk w9 (w.heap.size + 1) 46 #[.int .i64 bx, .int .i64 bY] := HH9.out (w.heap.size + 1, 46, [.int .i64 bx, .int .i64 bY]) (by simp)
  have k9_1_0 : w9.cell? ⟨w.heap.size + 1, 0, none⟩ = some (.int .i64 bx) := B9_1.cell 0
  have k9_1_1 : w9.cell? ⟨w.heap.size + 1, 1, none⟩ = some (.int .i64 bY) := B9_1.cell 1
  have z9_1 : w.heap.size + 1 < w9.heap.size := B9_1.lt
  clear B9_1
  have B9_2 : Blk w9 (w.heap.size + 1 + 1) 46 #[.int .i64 cx, .int .i64 cy] := HH9.out (w.heap.size + 1 + 1, 46, [.int .i64 cx, .int .i64 cy]) (by simp)
  have k9_2_0 : w9.cell? ⟨w.heap.size + 1 + 1, 0, none⟩ = some (.int .i64 cx) := B9_2.cell 0
  have k9_2_1 : w9.cell? ⟨w.heap.size + 1 + 1, 1, none⟩ = some (.int .i64 cy) := B9_2.cell 1
  have z9_2 : w.heap.size + 1 + 1 < w9.heap.size := B9_2.lt
  clear B9_2
  have B9_3 : Blk w9 (w.heap.size + 1 + 1 + 1) 46 #[.int .i64 dx, .int .i64 dy] := HH9.out (w.heap.size + 1 + 1 + 1, 46, [.int .i64 dx, .int .i64 dy]) (by simp)
  have k9_3_0 : w9.cell? ⟨w.heap.size + 1 + 1 + 1, 0, none⟩ = some (.int .i64 dx) := B9_3.cell 0
  have k9_3_1 : w9.cell? ⟨w.heap.size + 1 + 1 + 1, 1, none⟩ = some (.int .i64 dy) := B9_3.cell 1
  have z9_3 : w.heap.size + 1 + 1 + 1 < w9.heap.size := B9_3.lt
  clear B9_3
  go_wp2_with fail
  refine (c9.out _).mono ?_
  rintro e w10 ⟨rfl, hb10⟩
  have HH10 := Lib.hid ((HH9.out).below hb10)
  have HB10 := Lib.hid (below_trans (HB9.out) hb10)
  clear k9_0_0 k9_0_1 z9_0 k9_1_0 k9_1_1 z9_1 k9_2_0 k9_2_1 z9_2 k9_3_0 k9_3_1 z9_3
  clear hb10
  clear HH9 HB9
  have B10_0 : Blk w10 (w.heap.size) 46 #[.int .i64 ax, .int .i64 ay] := HH10.out (w.heap.size, 46, [.int .i64 ax, .int .i64 ay]) (by simp)
  have k10_0_0 : w10.cell? ⟨w.heap.size, 0, none⟩ = some (.int .i64 ax) := B10_0.cell 0
  have k10_0_1 : w10.cell? ⟨w.heap.size, 1, none⟩ = some (.int .i64 ay) := B10_0.cell 1
  have z10_0 : w.heap.size < w10.heap.size := B10_0.lt
  clear B10_0
  have B10_1 : Blk w10 (w.heap.size + 1) 46 #[.int .i64 bx, .int .i64 bY] := HH10.out (w.heap.size + 1, 46, [.int .i64 bx, .int .i64 bY]) (by simp)
  have k10_1_0 : w10.cell? ⟨w.heap.size + 1, 0, none⟩ = some (.int .i64 bx) := B10_1.cell 0
  have k10_1_1 : w10.cell? ⟨w.heap.size + 1, 1, none⟩ = some (.int .i64 bY) := B10_1.cell 1
  have z10_1 : w.heap.size + 1 < w10.heap.size := B10_1.lt
  clear B10_1
  have B10_2 : Blk w10 (w.heap.size + 1 + 1) 46 #[.int .i64 cx, .int .i64 cy] := HH10.out (w.heap.size + 1 + 1, 46, [.int .i64 cx, .int .i64 cy]) (by simp)
  have k10_2_0 : w10.cell? ⟨w.heap.size + 1 + 1, 0, none⟩ = some (.int .i64 cx) := B10_2.cell 0
  have k10_2_1 : w10.cell? ⟨w.heap.size + 1 + 1, 1, none⟩ = some (.int .i64 cy) := B10_2.cell 1
  have z10_2 : w.heap.size + 1 + 1 < w10.heap.size := B10_2.lt
  clear B10_2
  have B10_3 : Blk w10 (w.heap.size + 1 + 1 + 1) 46 #[.int .i64 dx, .int .i64 dy] := HH10.out (w.heap.size + 1 + 1 + 1, 46, [.int .i64 dx, .int .i64 dy]) (by simp)
  have k10_3_0 : w10.cell? ⟨w.heap.size + 1 + 1 + 1, 0, none⟩ = some (.int .i64 dx) := B10_3.cell 0
  have k10_3_1 : w10.cell? ⟨w.heap.size + 1 + 1 + 1, 1, none⟩ = some (.int .i64 dy) := B10_3.cell 1
  have z10_3 : w.heap.size + 1 + 1 + 1 < w10.heap.size := B10_3.lt
  clear B10_3
  go_wp2
  go_returns
  exact ⟨rfl, by repeat (first | with_reducible exact HB10.out | with_reducible refine Below.drew ?_ | with_reducible refine below_drewN ?_ _ | with_reducible refine below_set ?_ (by have := HB10.out.size; simp <;> omega) _ | with_reducible refine below_alloc ?_ _)⟩
set_option maxRecDepth 100000 in
set_option maxHeartbeats 3200000 in
theorem segs_4e (ax ay cx cy dx dy : Int) (h1 : in2 ax ay = true) (h3 : in2 cx cy = true) (h4 : in2 dx dy = true) (w : World) : Calls Try.prog 11 #[.agg #[.int .i64 ax, .int .i64 ay], .agg #[.int .i64 ax, .int .i64 ay], .agg #[.int .i64 cx, .int .i64 cy], .agg #[.int .i64 dx, .int .i64 dy]] w fun e w' => e = .returned (.bool true) ∧ Below w.heap.size w w' := by
  have c0 := Lib.hid fun W => awake_any W
  have c1 := Lib.hid fun W => turnP_ok ax ay ax ay cx cy h1 h1 h3 W
  have c2 := Lib.hid fun W => turnP_ok ax ay cx cy ax ay h1 h3 h1 W
  have c3 := Lib.hid fun W => turnP_ok ax ay cx cy ax ay h1 h3 h1 W
  have c4 := Lib.hid fun W => onP_ok ax ay ax ay cx cy h1 h1 h3 W
  have c5 := Lib.hid fun W => meetP_ok ax ay ax ay cx cy cx cy h1 h1 h3 h3 W
  have c6 := Lib.hid fun W => meetP_ok ax ay ax ay cx cy dx dy h1 h1 h3 h4 W
  have c7 := Lib.hid fun W => meetP_ok dx dy cx cy ax ay ax ay h4 h3 h1 h1 W
  have c8 := Lib.hid fun W => meetP_ok ax ay ax ay dx dy cx cy h1 h1 h4 h3 W
  have c9 := Lib.hid fun W => meetP_ok ax ay ax ay ax ay ax ay h1 h1 h1 h1 W
  obtain ⟨b1, b2⟩ := cmpI_bd ((ax - ax) * (cy - ay)) ((ay - ay) * (cx - ax))
  change -1 ≤ turnI ax ay ax ay cx cy at b1
  change turnI ax ay ax ay cx cy ≤ 1 at b2
  rw [turn_swap] at c2
  rw [turn_rot] at c3
  rw [meet_pp_one] at c4
  rw [meet_q] at c7
  rw [meet_r] at c8
  rw [meet_self] at c9
  rw [if_pos ⟨rfl, rfl⟩] at c9
  have e1 := fun W => pt_same_eql ax ay W
  have gd := fun x y xs ys W => pt_guard .eql x y xs ys W
  have gn := fun x y xs ys W => pt_guard .neq x y xs ys W
  clear h1 h3 h4
  generalize turnI ax ay ax ay cx cy = T at *
  generalize meetI ax ay ax ay cx cy cx cy = M at *
  have t1 : (T != - -T) = false := by simp
  have t2 : (T != T) = false := by simp
  have t3 : ((M == 1) != (M == 1)) = false := by simp
  generalize meetI ax ay ax ay cx cy dx dy = Q at *
  have t4 : (Q != Q) = false := by simp
  go_enter Try.func11, Try.ntmps11
  go_wp2_with fail
  refine (c0.out _).mono ?_
  rintro e w1 ⟨rfl, hb1⟩
  have HH1 := Lib.hid (((((((Blks.nil (w := w))).new (w.heap.size) 46 [.int .i64 ax, .int .i64 ay] rfl).new (w.heap.size + 1) 46 [.int .i64 ax, .int .i64 ay] (by simp)).new (w.heap.size + 1 + 1) 46 [.int .i64 cx, .int .i64 cy] (by simp)).new (w.heap.size + 1 + 1 + 1) 46 [.int .i64 dx, .int .i64 dy] (by simp)).below hb1)
  have HB1 := Lib.hid (below_trans (below_alloc (below_alloc (below_alloc (below_alloc (Below.refl _ _) _) _) _) _) hb1)
  clear hb1
  have B1_0 : Blk w1 (w.heap.size) 46 #[.int .i64 ax, .int .i64 ay] := HH1.out (w.heap.size, 46, [.int .i64 ax, .int .i64 ay]) (by simp)
  have k1_0_0 : w1.cell? ⟨w.heap.size, 0, none⟩ = some (.int .i64 ax) := B1_0.cell 0
  have k1_0_1 : w1.cell? ⟨w.heap.size, 1, none⟩ = some (.int .i64 ay) := B1_0.cell 1
  have z1_0 : w.heap.size < w1.heap.size := B1_0.lt
  clear B1_0
  have B1_1 : Blk w1 (w.heap.size + 1) 46 #[.int .i64 ax, .int .i64 ay] := HH1.out (w.heap.size + 1, 46, [.int .i64 ax, .int .i64 ay]) (by simp)
  have k1_1_0 : w1.cell? ⟨w.heap.size + 1, 0, none⟩ = some (.int .i64 ax) := B1_1.cell 0
  have k1_1_1 : w1.cell? ⟨w.heap.size + 1, 1, none⟩ = some (.int .i64 ay) := B1_1.cell 1
  have z1_1 : w.heap.size + 1 < w1.heap.size := B1_1.lt
  clear B1_1
  have B1_2 : Blk w1 (w.heap.size + 1 + 1) 46 #[.int .i64 cx, .int .i64 cy] := HH1.out (w.heap.size + 1 + 1, 46, [.int .i64 cx, .int .i64 cy]) (by simp)
  have k1_2_0 : w1.cell? ⟨w.heap.size + 1 + 1, 0, none⟩ = some (.int .i64 cx) := B1_2.cell 0
  have k1_2_1 : w1.cell? ⟨w.heap.size + 1 + 1, 1, none⟩ = some (.int .i64 cy) := B1_2.cell 1
  have z1_2 : w.heap.size + 1 + 1 < w1.heap.size := B1_2.lt
  clear B1_2
  have B1_3 : Blk w1 (w.heap.size + 1 + 1 + 1) 46 #[.int .i64 dx, .int .i64 dy] := HH1.out (w.heap.size + 1 + 1 + 1, 46, [.int .i64 dx, .int .i64 dy]) (by simp)
  have k1_3_0 : w1.cell? ⟨w.heap.size + 1 + 1 + 1, 0, none⟩ = some (.int .i64 dx) := B1_3.cell 0
  have k1_3_1 : w1.cell? ⟨w.heap.size + 1 + 1 + 1, 1, none⟩ = some (.int .i64 dy) := B1_3.cell 1
  have z1_3 : w.heap.size + 1 + 1 + 1 < w1.heap.size := B1_3.lt
  clear B1_3
  go_wp2_with fail
  refine (c1.out _).mono ?_
  rintro e w2 ⟨rfl, hb2⟩
  have HH2 := Lib.hid ((HH1.out).below hb2)
  have HB2 := Lib.hid (below_trans (HB1.out) hb2)
  clear k1_0_0 k1_0_1 z1_0 k1_1_0 k1_1_1 z1_1 k1_2_0 k1_2_1 z1_2 k1_3_0 k1_3_1 z1_3
  clear hb2
  clear HH1 HB1
  have B2_0 : Blk w2 (w.heap.size) 46 #[.int .i64 ax, .int .i64 ay] := HH2.out (w.heap.size, 46, [.int .i64 ax, .int .i64 ay]) (by simp)
  have k2_0_0 : w2.cell? ⟨w.heap.size, 0, none⟩ = some (.int .i64 ax) := B2_0.cell 0
  have k2_0_1 : w2.cell? ⟨w.heap.size, 1, none⟩ = some (.int .i64 ay) := B2_0.cell 1
  have z2_0 : w.heap.size < w2.heap.size := B2_0.lt
  clear B2_0
  have B2_1 : Blk w2 (w.heap.size + 1) 46 #[.int .i64 ax, .int .i64 ay] := HH2.out (w.heap.size + 1, 46, [.int .i64 ax, .int .i64 ay]) (by simp)
  have k2_1_0 : w2.cell? ⟨w.heap.size + 1, 0, none⟩ = some (.int .i64 ax) := B2_1.cell 0
  have k2_1_1 : w2.cell? ⟨w.heap.size + 1, 1, none⟩ = some (.int .i64 ay) := B2_1.cell 1
  have z2_1 : w.heap.size + 1 < w2.heap.size := B2_1.lt
  clear B2_1
  have B2_2 : Blk w2 (w.heap.size + 1 + 1) 46 #[.int .i64 cx, .int .i64 cy] := HH2.out (w.heap.size + 1 + 1, 46, [.int .i64 cx, .int .i64 cy]) (by simp)
  have k2_2_0 : w2.cell? ⟨w.heap.size + 1 + 1, 0, none⟩ = some (.int .i64 cx) := B2_2.cell 0
  have k2_2_1 : w2.cell? ⟨w.heap.size + 1 + 1, 1, none⟩ = some (.int .i64 cy) := B2_2.cell 1
  have z2_2 : w.heap.size + 1 + 1 < w2.heap.size := B2_2.lt
  clear B2_2
  have B2_3 : Blk w2 (w.heap.size + 1 + 1 + 1) 46 #[.int .i64 dx, .int .i64 dy] := HH2.out (w.heap.size + 1 + 1 + 1, 46, [.int .i64 dx, .int .i64 dy]) (by simp)
  have k2_3_0 : w2.cell? ⟨w.heap.size + 1 + 1 + 1, 0, none⟩ = some (.int .i64 dx) := B2_3.cell 0
  have k2_3_1 : w2.cell? ⟨w.heap.size + 1 + 1 + 1, 1, none⟩ = some (.int .i64 dy) := B2_3.cell 1
  have z2_3 : w.heap.size + 1 + 1 + 1 < w2.heap.size := B2_3.lt
  clear B2_3
  go_wp2_with fail
  refine (c2.out _).mono ?_
  rintro e w3 ⟨rfl, hb3⟩
  have HH3 := Lib.hid ((HH2.out).below hb3)
  have HB3 := Lib.hid (below_trans (HB2.out) hb3)
  clear k2_0_0 k2_0_1 z2_0 k2_1_0 k2_1_1 z2_1 k2_2_0 k2_2_1 z2_2 k2_3_0 k2_3_1 z2_3
  clear hb3
  clear HH2 HB2
  have B3_0 : Blk w3 (w.heap.size) 46 #[.int .i64 ax, .int .i64 ay] := HH3.out (w.heap.size, 46, [.int .i64 ax, .int .i64 ay]) (by simp)
  have k3_0_0 : w3.cell? ⟨w.heap.size, 0, none⟩ = some (.int .i64 ax) := B3_0.cell 0
  have k3_0_1 : w3.cell? ⟨w.heap.size, 1, none⟩ = some (.int .i64 ay) := B3_0.cell 1
  have z3_0 : w.heap.size < w3.heap.size := B3_0.lt
  clear B3_0
  have B3_1 : Blk w3 (w.heap.size + 1) 46 #[.int .i64 ax, .int .i64 ay] := HH3.out (w.heap.size + 1, 46, [.int .i64 ax, .int .i64 ay]) (by simp)
  have k3_1_0 : w3.cell? ⟨w.heap.size + 1, 0, none⟩ = some (.int .i64 ax) := B3_1.cell 0
  have k3_1_1 : w3.cell? ⟨w.heap.size + 1, 1, none⟩ = some (.int .i64 ay) := B3_1.cell 1
  have z3_1 : w.heap.size + 1 < w3.heap.size := B3_1.lt
  clear B3_1
  have B3_2 : Blk w3 (w.heap.size + 1 + 1) 46 #[.int .i64 cx, .int .i64 cy] := HH3.out (w.heap.size + 1 + 1, 46, [.int .i64 cx, .int .i64 cy]) (by simp)
  have k3_2_0 : w3.cell? ⟨w.heap.size + 1 + 1, 0, none⟩ = some (.int .i64 cx) := B3_2.cell 0
  have k3_2_1 : w3.cell? ⟨w.heap.size + 1 + 1, 1, none⟩ = some (.int .i64 cy) := B3_2.cell 1
  have z3_2 : w.heap.size + 1 + 1 < w3.heap.size := B3_2.lt
  clear B3_2
  have B3_3 : Blk w3 (w.heap.size + 1 + 1 + 1) 46 #[.int .i64 dx, .int .i64 dy] := HH3.out (w.heap.size + 1 + 1 + 1, 46, [.int .i64 dx, .int .i64 dy]) (by simp)
  have k3_3_0 : w3.cell? ⟨w.heap.size + 1 + 1 + 1, 0, none⟩ = some (.int .i64 dx) := B3_3.cell 0
  have k3_3_1 : w3.cell? ⟨w.heap.size + 1 + 1 + 1, 1, none⟩ = some (.int .i64 dy) := B3_3.cell 1
  have z3_3 : w.heap.size + 1 + 1 + 1 < w3.heap.size := B3_3.lt
  clear B3_3
  go_wp2_with fail
  refine (c3.out _).mono ?_
  rintro e w4 ⟨rfl, hb4⟩
  have HH4 := Lib.hid ((HH3.out).below hb4)
  have HB4 := Lib.hid (below_trans (HB3.out) hb4)
  clear k3_0_0 k3_0_1 z3_0 k3_1_0 k3_1_1 z3_1 k3_2_0 k3_2_1 z3_2 k3_3_0 k3_3_1 z3_3
  clear hb4
  clear HH3 HB3
  have B4_0 : Blk w4 (w.heap.size) 46 #[.int .i64 ax, .int .i64 ay] := HH4.out (w.heap.size, 46, [.int .i64 ax, .int .i64 ay]) (by simp)
  have k4_0_0 : w4.cell? ⟨w.heap.size, 0, none⟩ = some (.int .i64 ax) := B4_0.cell 0
  have k4_0_1 : w4.cell? ⟨w.heap.size, 1, none⟩ = some (.int .i64 ay) := B4_0.cell 1
  have z4_0 : w.heap.size < w4.heap.size := B4_0.lt
  clear B4_0
  have B4_1 : Blk w4 (w.heap.size + 1) 46 #[.int .i64 ax, .int .i64 ay] := HH4.out (w.heap.size + 1, 46, [.int .i64 ax, .int .i64 ay]) (by simp)
  have k4_1_0 : w4.cell? ⟨w.heap.size + 1, 0, none⟩ = some (.int .i64 ax) := B4_1.cell 0
  have k4_1_1 : w4.cell? ⟨w.heap.size + 1, 1, none⟩ = some (.int .i64 ay) := B4_1.cell 1
  have z4_1 : w.heap.size + 1 < w4.heap.size := B4_1.lt
  clear B4_1
  have B4_2 : Blk w4 (w.heap.size + 1 + 1) 46 #[.int .i64 cx, .int .i64 cy] := HH4.out (w.heap.size + 1 + 1, 46, [.int .i64 cx, .int .i64 cy]) (by simp)
  have k4_2_0 : w4.cell? ⟨w.heap.size + 1 + 1, 0, none⟩ = some (.int .i64 cx) := B4_2.cell 0
  have k4_2_1 : w4.cell? ⟨w.heap.size + 1 + 1, 1, none⟩ = some (.int .i64 cy) := B4_2.cell 1
  have z4_2 : w.heap.size + 1 + 1 < w4.heap.size := B4_2.lt
  clear B4_2
  have B4_3 : Blk w4 (w.heap.size + 1 + 1 + 1) 46 #[.int .i64 dx, .int .i64 dy] := HH4.out (w.heap.size + 1 + 1 + 1, 46, [.int .i64 dx, .int .i64 dy]) (by simp)
  have k4_3_0 : w4.cell? ⟨w.heap.size + 1 + 1 + 1, 0, none⟩ = some (.int .i64 dx) := B4_3.cell 0
  have k4_3_1 : w4.cell? ⟨w.heap.size + 1 + 1 + 1, 1, none⟩ = some (.int .i64 dy) := B4_3.cell 1
  have z4_3 : w.heap.size + 1 + 1 + 1 < w4.heap.size := B4_3.lt
  clear B4_3
  go_wp2_with fail
  refine (c4.out _).mono ?_
  rintro e w5 ⟨rfl, hb5⟩
  have HH5 := Lib.hid ((HH4.out).below hb5)
  have HB5 := Lib.hid (below_trans (HB4.out) hb5)
  clear k4_0_0 k4_0_1 z4_0 k4_1_0 k4_1_1 z4_1 k4_2_0 k4_2_1 z4_2 k4_3_0 k4_3_1 z4_3
  clear hb5
  clear HH4 HB4
  have B5_0 : Blk w5 (w.heap.size) 46 #[.int .i64 ax, .int .i64 ay] := HH5.out (w.heap.size, 46, [.int .i64 ax, .int .i64 ay]) (by simp)
  have k5_0_0 : w5.cell? ⟨w.heap.size, 0, none⟩ = some (.int .i64 ax) := B5_0.cell 0
  have k5_0_1 : w5.cell? ⟨w.heap.size, 1, none⟩ = some (.int .i64 ay) := B5_0.cell 1
  have z5_0 : w.heap.size < w5.heap.size := B5_0.lt
  clear B5_0
  have B5_1 : Blk w5 (w.heap.size + 1) 46 #[.int .i64 ax, .int .i64 ay] := HH5.out (w.heap.size + 1, 46, [.int .i64 ax, .int .i64 ay]) (by simp)
  have k5_1_0 : w5.cell? ⟨w.heap.size + 1, 0, none⟩ = some (.int .i64 ax) := B5_1.cell 0
  have k5_1_1 : w5.cell? ⟨w.heap.size + 1, 1, none⟩ = some (.int .i64 ay) := B5_1.cell 1
  have z5_1 : w.heap.size + 1 < w5.heap.size := B5_1.lt
  clear B5_1
  have B5_2 : Blk w5 (w.heap.size + 1 + 1) 46 #[.int .i64 cx, .int .i64 cy] := HH5.out (w.heap.size + 1 + 1, 46, [.int .i64 cx, .int .i64 cy]) (by simp)
  have k5_2_0 : w5.cell? ⟨w.heap.size + 1 + 1, 0, none⟩ = some (.int .i64 cx) := B5_2.cell 0
  have k5_2_1 : w5.cell? ⟨w.heap.size + 1 + 1, 1, none⟩ = some (.int .i64 cy) := B5_2.cell 1
  have z5_2 : w.heap.size + 1 + 1 < w5.heap.size := B5_2.lt
  clear B5_2
  have B5_3 : Blk w5 (w.heap.size + 1 + 1 + 1) 46 #[.int .i64 dx, .int .i64 dy] := HH5.out (w.heap.size + 1 + 1 + 1, 46, [.int .i64 dx, .int .i64 dy]) (by simp)
  have k5_3_0 : w5.cell? ⟨w.heap.size + 1 + 1 + 1, 0, none⟩ = some (.int .i64 dx) := B5_3.cell 0
  have k5_3_1 : w5.cell? ⟨w.heap.size + 1 + 1 + 1, 1, none⟩ = some (.int .i64 dy) := B5_3.cell 1
  have z5_3 : w.heap.size + 1 + 1 + 1 < w5.heap.size := B5_3.lt
  clear B5_3
  go_wp2_with fail
  refine (c5.out _).mono ?_
  rintro e w6 ⟨rfl, hb6⟩
  have HH6 := Lib.hid ((HH5.out).below hb6)
  have HB6 := Lib.hid (below_trans (HB5.out) hb6)
  clear k5_0_0 k5_0_1 z5_0 k5_1_0 k5_1_1 z5_1 k5_2_0 k5_2_1 z5_2 k5_3_0 k5_3_1 z5_3
  clear hb6
  clear HH5 HB5
  have B6_0 : Blk w6 (w.heap.size) 46 #[.int .i64 ax, .int .i64 ay] := HH6.out (w.heap.size, 46, [.int .i64 ax, .int .i64 ay]) (by simp)
  have k6_0_0 : w6.cell? ⟨w.heap.size, 0, none⟩ = some (.int .i64 ax) := B6_0.cell 0
  have k6_0_1 : w6.cell? ⟨w.heap.size, 1, none⟩ = some (.int .i64 ay) := B6_0.cell 1
  have z6_0 : w.heap.size < w6.heap.size := B6_0.lt
  clear B6_0
  have B6_1 : Blk w6 (w.heap.size + 1) 46 #[.int .i64 ax, .int .i64 ay] := HH6.out (w.heap.size + 1, 46, [.int .i64 ax, .int .i64 ay]) (by simp)
  have k6_1_0 : w6.cell? ⟨w.heap.size + 1, 0, none⟩ = some (.int .i64 ax) := B6_1.cell 0
  have k6_1_1 : w6.cell? ⟨w.heap.size + 1, 1, none⟩ = some (.int .i64 ay) := B6_1.cell 1
  have z6_1 : w.heap.size + 1 < w6.heap.size := B6_1.lt
  clear B6_1
  have B6_2 : Blk w6 (w.heap.size + 1 + 1) 46 #[.int .i64 cx, .int .i64 cy] := HH6.out (w.heap.size + 1 + 1, 46, [.int .i64 cx, .int .i64 cy]) (by simp)
  have k6_2_0 : w6.cell? ⟨w.heap.size + 1 + 1, 0, none⟩ = some (.int .i64 cx) := B6_2.cell 0
  have k6_2_1 : w6.cell? ⟨w.heap.size + 1 + 1, 1, none⟩ = some (.int .i64 cy) := B6_2.cell 1
  have z6_2 : w.heap.size + 1 + 1 < w6.heap.size := B6_2.lt
  clear B6_2
  have B6_3 : Blk w6 (w.heap.size + 1 + 1 + 1) 46 #[.int .i64 dx, .int .i64 dy] := HH6.out (w.heap.size + 1 + 1 + 1, 46, [.int .i64 dx, .int .i64 dy]) (by simp)
  have k6_3_0 : w6.cell? ⟨w.heap.size + 1 + 1 + 1, 0, none⟩ = some (.int .i64 dx) := B6_3.cell 0
  have k6_3_1 : w6.cell? ⟨w.heap.size + 1 + 1 + 1, 1, none⟩ = some (.int .i64 dy) := B6_3.cell 1
  have z6_3 : w.heap.size + 1 + 1 + 1 < w6.heap.size := B6_3.lt
  clear B6_3
  go_wp2_with fail
  refine (c6.out _).mono ?_
  rintro e w7 ⟨rfl, hb7⟩
  have HH7 := Lib.hid ((HH6.out).below hb7)
  have HB7 := Lib.hid (below_trans (HB6.out) hb7)
  clear k6_0_0 k6_0_1 z6_0 k6_1_0 k6_1_1 z6_1 k6_2_0 k6_2_1 z6_2 k6_3_0 k6_3_1 z6_3
  clear hb7
  clear HH6 HB6
  have B7_0 : Blk w7 (w.heap.size) 46 #[.int .i64 ax, .int .i64 ay] := HH7.out (w.heap.size, 46, [.int .i64 ax, .int .i64 ay]) (by simp)
  have k7_0_0 : w7.cell? ⟨w.heap.size, 0, none⟩ = some (.int .i64 ax) := B7_0.cell 0
  have k7_0_1 : w7.cell? ⟨w.heap.size, 1, none⟩ = some (.int .i64 ay) := B7_0.cell 1
  have z7_0 : w.heap.size < w7.heap.size := B7_0.lt
  clear B7_0
  have B7_1 : Blk w7 (w.heap.size + 1) 46 #[.int .i64 ax, .int .i64 ay] := HH7.out (w.heap.size + 1, 46, [.int .i64 ax, .int .i64 ay]) (by simp)
  have k7_1_0 : w7.cell? ⟨w.heap.size + 1, 0, none⟩ = some (.int .i64 ax) := B7_1.cell 0
  have k7_1_1 : w7.cell? ⟨w.heap.size + 1, 1, none⟩ = some (.int .i64 ay) := B7_1.cell 1
  have z7_1 : w.heap.size + 1 < w7.heap.size := B7_1.lt
  clear B7_1
  have B7_2 : Blk w7 (w.heap.size + 1 + 1) 46 #[.int .i64 cx, .int .i64 cy] := HH7.out (w.heap.size + 1 + 1, 46, [.int .i64 cx, .int .i64 cy]) (by simp)
  have k7_2_0 : w7.cell? ⟨w.heap.size + 1 + 1, 0, none⟩ = some (.int .i64 cx) := B7_2.cell 0
  have k7_2_1 : w7.cell? ⟨w.heap.size + 1 + 1, 1, none⟩ = some (.int .i64 cy) := B7_2.cell 1
  have z7_2 : w.heap.size + 1 + 1 < w7.heap.size := B7_2.lt
  clear B7_2
  have B7_3 : Blk w7 (w.heap.size + 1 + 1 + 1) 46 #[.int .i64 dx, .int .i64 dy] := HH7.out (w.heap.size + 1 + 1 + 1, 46, [.int .i64 dx, .int .i64 dy]) (by simp)
  have k7_3_0 : w7.cell? ⟨w.heap.size + 1 + 1 + 1, 0, none⟩ = some (.int .i64 dx) := B7_3.cell 0
  have k7_3_1 : w7.cell? ⟨w.heap.size + 1 + 1 + 1, 1, none⟩ = some (.int .i64 dy) := B7_3.cell 1
  have z7_3 : w.heap.size + 1 + 1 + 1 < w7.heap.size := B7_3.lt
  clear B7_3
  go_wp2_with fail
  refine (c7.out _).mono ?_
  rintro e w8 ⟨rfl, hb8⟩
  have HH8 := Lib.hid ((HH7.out).below hb8)
  have HB8 := Lib.hid (below_trans (HB7.out) hb8)
  clear k7_0_0 k7_0_1 z7_0 k7_1_0 k7_1_1 z7_1 k7_2_0 k7_2_1 z7_2 k7_3_0 k7_3_1 z7_3
  clear hb8
  clear HH7 HB7
  have B8_0 : Blk w8 (w.heap.size) 46 #[.int .i64 ax, .int .i64 ay] := HH8.out (w.heap.size, 46, [.int .i64 ax, .int .i64 ay]) (by simp)
  have k8_0_0 : w8.cell? ⟨w.heap.size, 0, none⟩ = some (.int .i64 ax) := B8_0.cell 0
  have k8_0_1 : w8.cell? ⟨w.heap.size, 1, none⟩ = some (.int .i64 ay) := B8_0.cell 1
  have z8_0 : w.heap.size < w8.heap.size := B8_0.lt
  clear B8_0
  have B8_1 : Blk w8 (w.heap.size + 1) 46 #[.int .i64 ax, .int .i64 ay] := HH8.out (w.heap.size + 1, 46, [.int .i64 ax, .int .i64 ay]) (by simp)
  have k8_1_0 : w8.cell? ⟨w.heap.size + 1, 0, none⟩ = some (.int .i64 ax) := B8_1.cell 0
  have k8_1_1 : w8.cell? ⟨w.heap.size + 1, 1, none⟩ = some (.int .i64 ay) := B8_1.cell 1
  have z8_1 : w.heap.size + 1 < w8.heap.size := B8_1.lt
  clear B8_1
  have B8_2 : Blk w8 (w.heap.size + 1 + 1) 46 #[.int .i64 cx, .int .i64 cy] := HH8.out (w.heap.size + 1 + 1, 46, [.int .i64 cx, .int .i64 cy]) (by simp)
  have k8_2_0 : w8.cell? ⟨w.heap.size + 1 + 1, 0, none⟩ = some (.int .i64 cx) := B8_2.cell 0
  have k8_2_1 : w8.cell? ⟨w.heap.size + 1 + 1, 1, none⟩ = some (.int .i64 cy) := B8_2.cell 1
  have z8_2 : w.heap.size + 1 + 1 < w8.heap.size := B8_2.lt
  clear B8_2
  have B8_3 : Blk w8 (w.heap.size + 1 + 1 + 1) 46 #[.int .i64 dx, .int .i64 dy] := HH8.out (w.heap.size + 1 + 1 + 1, 46, [.int .i64 dx, .int .i64 dy]) (by simp)
  have k8_3_0 : w8.cell? ⟨w.heap.size + 1 + 1 + 1, 0, none⟩ = some (.int .i64 dx) := B8_3.cell 0
  have k8_3_1 : w8.cell? ⟨w.heap.size + 1 + 1 + 1, 1, none⟩ = some (.int .i64 dy) := B8_3.cell 1
  have z8_3 : w.heap.size + 1 + 1 + 1 < w8.heap.size := B8_3.lt
  clear B8_3
  go_wp2_with fail
  refine (c8.out _).mono ?_
  rintro e w9 ⟨rfl, hb9⟩
  have HH9 := Lib.hid ((HH8.out).below hb9)
  have HB9 := Lib.hid (below_trans (HB8.out) hb9)
  clear k8_0_0 k8_0_1 z8_0 k8_1_0 k8_1_1 z8_1 k8_2_0 k8_2_1 z8_2 k8_3_0 k8_3_1 z8_3
  clear hb9
  clear HH8 HB8
  have B9_0 : Blk w9 (w.heap.size) 46 #[.int .i64 ax, .int .i64 ay] := HH9.out (w.heap.size, 46, [.int .i64 ax, .int .i64 ay]) (by simp)
  have k9_0_0 : w9.cell? ⟨w.heap.size, 0, none⟩ = some (.int .i64 ax) := B9_0.cell 0
  have k9_0_1 : w9.cell? ⟨w.heap.size, 1, none⟩ = some (.int .i64 ay) := B9_0.cell 1
  have z9_0 : w.heap.size < w9.heap.size := B9_0.lt
  clear B9_0
  have B9_1 : Blk w9 (w.heap.size + 1) 46 #[.int .i64 ax, .int .i64 ay] := HH9.out (w.heap.size + 1, 46, [.int .i64 ax, .int .i64 ay]) (by simp)
  have k9_1_0 : w9.cell? ⟨w.heap.size + 1, 0, none⟩ = some (.int .i64 ax) := B9_1.cell 0
  have k9_1_1 : w9.cell? ⟨w.heap.size + 1, 1, none⟩ = some (.int .i64 ay) := B9_1.cell 1
  have z9_1 : w.heap.size + 1 < w9.heap.size := B9_1.lt
  clear B9_1
  have B9_2 : Blk w9 (w.heap.size + 1 + 1) 46 #[.int .i64 cx, .int .i64 cy] := HH9.out (w.heap.size + 1 + 1, 46, [.int .i64 cx, .int .i64 cy]) (by simp)
  have k9_2_0 : w9.cell? ⟨w.heap.size + 1 + 1, 0, none⟩ = some (.int .i64 cx) := B9_2.cell 0
  have k9_2_1 : w9.cell? ⟨w.heap.size + 1 + 1, 1, none⟩ = some (.int .i64 cy) := B9_2.cell 1
  have z9_2 : w.heap.size + 1 + 1 < w9.heap.size := B9_2.lt
  clear B9_2
  have B9_3 : Blk w9 (w.heap.size + 1 + 1 + 1) 46 #[.int .i64 dx, .int .i64 dy] := HH9.out (w.heap.size + 1 + 1 + 1, 46, [.int .i64 dx, .int .i64 dy]) (by simp)
  have k9_3_0 : w9.cell? ⟨w.heap.size + 1 + 1 + 1, 0, none⟩ = some (.int .i64 dx) := B9_3.cell 0
  have k9_3_1 : w9.cell? ⟨w.heap.size + 1 + 1 + 1, 1, none⟩ = some (.int .i64 dy) := B9_3.cell 1
  have z9_3 : w.heap.size + 1 + 1 + 1 < w9.heap.size := B9_3.lt
  clear B9_3
  go_wp2_with fail
  refine (c9.out _).mono ?_
  rintro e w10 ⟨rfl, hb10⟩
  have HH10 := Lib.hid ((HH9.out).below hb10)
  have HB10 := Lib.hid (below_trans (HB9.out) hb10)
  clear k9_0_0 k9_0_1 z9_0 k9_1_0 k9_1_1 z9_1 k9_2_0 k9_2_1 z9_2 k9_3_0 k9_3_1 z9_3
  clear hb10
  clear HH9 HB9
  have B10_0 : Blk w10 (w.heap.size) 46 #[.int .i64 ax, .int .i64 ay] := HH10.out (w.heap.size, 46, [.int .i64 ax, .int .i64 ay]) (by simp)
  have k10_0_0 : w10.cell? ⟨w.heap.size, 0, none⟩ = some (.int .i64 ax) := B10_0.cell 0
  have k10_0_1 : w10.cell? ⟨w.heap.size, 1, none⟩ = some (.int .i64 ay) := B10_0.cell 1
  have z10_0 : w.heap.size < w10.heap.size := B10_0.lt
  clear B10_0
  have B10_1 : Blk w10 (w.heap.size + 1) 46 #[.int .i64 ax, .int .i64 ay] := HH10.out (w.heap.size + 1, 46, [.int .i64 ax, .int .i64 ay]) (by simp)
  have k10_1_0 : w10.cell? ⟨w.heap.size + 1, 0, none⟩ = some (.int .i64 ax) := B10_1.cell 0
  have k10_1_1 : w10.cell? ⟨w.heap.size + 1, 1, none⟩ = some (.int .i64 ay) := B10_1.cell 1
  have z10_1 : w.heap.size + 1 < w10.heap.size := B10_1.lt
  clear B10_1
  have B10_2 : Blk w10 (w.heap.size + 1 + 1) 46 #[.int .i64 cx, .int .i64 cy] := HH10.out (w.heap.size + 1 + 1, 46, [.int .i64 cx, .int .i64 cy]) (by simp)
  have k10_2_0 : w10.cell? ⟨w.heap.size + 1 + 1, 0, none⟩ = some (.int .i64 cx) := B10_2.cell 0
  have k10_2_1 : w10.cell? ⟨w.heap.size + 1 + 1, 1, none⟩ = some (.int .i64 cy) := B10_2.cell 1
  have z10_2 : w.heap.size + 1 + 1 < w10.heap.size := B10_2.lt
  clear B10_2
  have B10_3 : Blk w10 (w.heap.size + 1 + 1 + 1) 46 #[.int .i64 dx, .int .i64 dy] := HH10.out (w.heap.size + 1 + 1 + 1, 46, [.int .i64 dx, .int .i64 dy]) (by simp)
  have k10_3_0 : w10.cell? ⟨w.heap.size + 1 + 1 + 1, 0, none⟩ = some (.int .i64 dx) := B10_3.cell 0
  have k10_3_1 : w10.cell? ⟨w.heap.size + 1 + 1 + 1, 1, none⟩ = some (.int .i64 dy) := B10_3.cell 1
  have z10_3 : w.heap.size + 1 + 1 + 1 < w10.heap.size := B10_3.lt
  clear B10_3
  go_wp2
  go_returns
  exact ⟨rfl, by repeat (first | with_reducible exact HB10.out | with_reducible refine Below.drew ?_ | with_reducible refine below_drewN ?_ _ | with_reducible refine below_set ?_ (by have := HB10.out.size; simp <;> omega) _ | with_reducible refine below_alloc ?_ _)⟩
set_option maxRecDepth 100000 in
set_option maxHeartbeats 3200000 in
theorem segs_4n (ax ay bx bY cx cy dx dy : Int) (h1 : in2 ax ay = true) (h2 : in2 bx bY = true) (h3 : in2 cx cy = true) (h4 : in2 dx dy = true) (hne : ¬ (ax = bx ∧ ay = bY)) (w : World) : Calls Try.prog 11 #[.agg #[.int .i64 ax, .int .i64 ay], .agg #[.int .i64 bx, .int .i64 bY], .agg #[.int .i64 cx, .int .i64 cy], .agg #[.int .i64 dx, .int .i64 dy]] w fun e w' => e = .returned (.bool true) ∧ Below w.heap.size w w' := by
  have c0 := Lib.hid fun W => awake_any W
  have c1 := Lib.hid fun W => turnP_ok ax ay bx bY cx cy h1 h2 h3 W
  have c2 := Lib.hid fun W => turnP_ok ax ay cx cy bx bY h1 h3 h2 W
  have c3 := Lib.hid fun W => turnP_ok bx bY cx cy ax ay h2 h3 h1 W
  have c4 := Lib.hid fun W => onP_ok ax ay bx bY cx cy h1 h2 h3 W
  have c5 := Lib.hid fun W => meetP_ok ax ay bx bY cx cy cx cy h1 h2 h3 h3 W
  have c6 := Lib.hid fun W => meetP_ok ax ay bx bY cx cy dx dy h1 h2 h3 h4 W
  have c7 := Lib.hid fun W => meetP_ok dx dy cx cy ax ay bx bY h4 h3 h1 h2 W
  have c8 := Lib.hid fun W => meetP_ok bx bY ax ay dx dy cx cy h2 h1 h4 h3 W
  have c9 := Lib.hid fun W => meetP_ok ax ay bx bY ax ay bx bY h1 h2 h1 h2 W
  obtain ⟨b1, b2⟩ := cmpI_bd ((bx - ax) * (cy - ay)) ((bY - ay) * (cx - ax))
  change -1 ≤ turnI ax ay bx bY cx cy at b1
  change turnI ax ay bx bY cx cy ≤ 1 at b2
  rw [turn_swap] at c2
  rw [turn_rot] at c3
  rw [meet_pp_one] at c4
  rw [meet_q] at c7
  rw [meet_r] at c8
  rw [meet_self] at c9
  rw [if_neg hne] at c9
  have e1 := fun W => pt_diff_neq hne W
  have gd := fun x y xs ys W => pt_guard .eql x y xs ys W
  have gn := fun x y xs ys W => pt_guard .neq x y xs ys W
  clear h1 h2 h3 h4 hne
  generalize turnI ax ay bx bY cx cy = T at *
  generalize meetI ax ay bx bY cx cy cx cy = M at *
  have t1 : (T != - -T) = false := by simp
  have t2 : (T != T) = false := by simp
  have t3 : ((M == 1) != (M == 1)) = false := by simp
  generalize meetI ax ay bx bY cx cy dx dy = Q at *
  have t4 : (Q != Q) = false := by simp
  go_enter Try.func11, Try.ntmps11
  go_wp2_with fail
  refine (c0.out _).mono ?_
  rintro e w1 ⟨rfl, hb1⟩
  have HH1 := Lib.hid (((((((Blks.nil (w := w))).new (w.heap.size) 46 [.int .i64 ax, .int .i64 ay] rfl).new (w.heap.size + 1) 46 [.int .i64 bx, .int .i64 bY] (by simp)).new (w.heap.size + 1 + 1) 46 [.int .i64 cx, .int .i64 cy] (by simp)).new (w.heap.size + 1 + 1 + 1) 46 [.int .i64 dx, .int .i64 dy] (by simp)).below hb1)
  have HB1 := Lib.hid (below_trans (below_alloc (below_alloc (below_alloc (below_alloc (Below.refl _ _) _) _) _) _) hb1)
  clear hb1
  have B1_0 : Blk w1 (w.heap.size) 46 #[.int .i64 ax, .int .i64 ay] := HH1.out (w.heap.size, 46, [.int .i64 ax, .int .i64 ay]) (by simp)
  have k1_0_0 : w1.cell? ⟨w.heap.size, 0, none⟩ = some (.int .i64 ax) := B1_0.cell 0
  have k1_0_1 : w1.cell? ⟨w.heap.size, 1, none⟩ = some (.int .i64 ay) := B1_0.cell 1
  have z1_0 : w.heap.size < w1.heap.size := B1_0.lt
  clear B1_0
  have B1_1 : Blk w1 (w.heap.size + 1) 46 #[.int .i64 bx, .int .i64 bY] := HH1.out (w.heap.size + 1, 46, [.int .i64 bx, .int .i64 bY]) (by simp)
  have k1_1_0 : w1.cell? ⟨w.heap.size + 1, 0, none⟩ = some (.int .i64 bx) := B1_1.cell 0
  have k1_1_1 : w1.cell? ⟨w.heap.size + 1, 1, none⟩ = some (.int .i64 bY) := B1_1.cell 1
  have z1_1 : w.heap.size + 1 < w1.heap.size := B1_1.lt
  clear B1_1
  have B1_2 : Blk w1 (w.heap.size + 1 + 1) 46 #[.int .i64 cx, .int .i64 cy] := HH1.out (w.heap.size + 1 + 1, 46, [.int .i64 cx, .int .i64 cy]) (by simp)
  have k1_2_0 : w1.cell? ⟨w.heap.size + 1 + 1, 0, none⟩ = some (.int .i64 cx) := B1_2.cell 0
  have k1_2_1 : w1.cell? ⟨w.heap.size + 1 + 1, 1, none⟩ = some (.int .i64 cy) := B1_2.cell 1
  have z1_2 : w.heap.size + 1 + 1 < w1.heap.size := B1_2.lt
  clear B1_2
  have B1_3 : Blk w1 (w.heap.size + 1 + 1 + 1) 46 #[.int .i64 dx, .int .i64 dy] := HH1.out (w.heap.size + 1 + 1 + 1, 46, [.int .i64 dx, .int .i64 dy]) (by simp)
  have k1_3_0 : w1.cell? ⟨w.heap.size + 1 + 1 + 1, 0, none⟩ = some (.int .i64 dx) := B1_3.cell 0
  have k1_3_1 : w1.cell? ⟨w.heap.size + 1 + 1 + 1, 1, none⟩ = some (.int .i64 dy) := B1_3.cell 1
  have z1_3 : w.heap.size + 1 + 1 + 1 < w1.heap.size := B1_3.lt
  clear B1_3
  go_wp2_with fail
  refine (c1.out _).mono ?_
  rintro e w2 ⟨rfl, hb2⟩
  have HH2 := Lib.hid ((HH1.out).below hb2)
  have HB2 := Lib.hid (below_trans (HB1.out) hb2)
  clear k1_0_0 k1_0_1 z1_0 k1_1_0 k1_1_1 z1_1 k1_2_0 k1_2_1 z1_2 k1_3_0 k1_3_1 z1_3
  clear hb2
  clear HH1 HB1
  have B2_0 : Blk w2 (w.heap.size) 46 #[.int .i64 ax, .int .i64 ay] := HH2.out (w.heap.size, 46, [.int .i64 ax, .int .i64 ay]) (by simp)
  have k2_0_0 : w2.cell? ⟨w.heap.size, 0, none⟩ = some (.int .i64 ax) := B2_0.cell 0
  have k2_0_1 : w2.cell? ⟨w.heap.size, 1, none⟩ = some (.int .i64 ay) := B2_0.cell 1
  have z2_0 : w.heap.size < w2.heap.size := B2_0.lt
  clear B2_0
  have B2_1 : Blk w2 (w.heap.size + 1) 46 #[.int .i64 bx, .int .i64 bY] := HH2.out (w.heap.size + 1, 46, [.int .i64 bx, .int .i64 bY]) (by simp)
  have k2_1_0 : w2.cell? ⟨w.heap.size + 1, 0, none⟩ = some (.int .i64 bx) := B2_1.cell 0
  have k2_1_1 : w2.cell? ⟨w.heap.size + 1, 1, none⟩ = some (.int .i64 bY) := B2_1.cell 1
  have z2_1 : w.heap.size + 1 < w2.heap.size := B2_1.lt
  clear B2_1
  have B2_2 : Blk w2 (w.heap.size + 1 + 1) 46 #[.int .i64 cx, .int .i64 cy] := HH2.out (w.heap.size + 1 + 1, 46, [.int .i64 cx, .int .i64 cy]) (by simp)
  have k2_2_0 : w2.cell? ⟨w.heap.size + 1 + 1, 0, none⟩ = some (.int .i64 cx) := B2_2.cell 0
  have k2_2_1 : w2.cell? ⟨w.heap.size + 1 + 1, 1, none⟩ = some (.int .i64 cy) := B2_2.cell 1
  have z2_2 : w.heap.size + 1 + 1 < w2.heap.size := B2_2.lt
  clear B2_2
  have B2_3 : Blk w2 (w.heap.size + 1 + 1 + 1) 46 #[.int .i64 dx, .int .i64 dy] := HH2.out (w.heap.size + 1 + 1 + 1, 46, [.int .i64 dx, .int .i64 dy]) (by simp)
  have k2_3_0 : w2.cell? ⟨w.heap.size + 1 + 1 + 1, 0, none⟩ = some (.int .i64 dx) := B2_3.cell 0
  have k2_3_1 : w2.cell? ⟨w.heap.size + 1 + 1 + 1, 1, none⟩ = some (.int .i64 dy) := B2_3.cell 1
  have z2_3 : w.heap.size + 1 + 1 + 1 < w2.heap.size := B2_3.lt
  clear B2_3
  go_wp2_with fail
  refine (c2.out _).mono ?_
  rintro e w3 ⟨rfl, hb3⟩
  have HH3 := Lib.hid ((HH2.out).below hb3)
  have HB3 := Lib.hid (below_trans (HB2.out) hb3)
  clear k2_0_0 k2_0_1 z2_0 k2_1_0 k2_1_1 z2_1 k2_2_0 k2_2_1 z2_2 k2_3_0 k2_3_1 z2_3
  clear hb3
  clear HH2 HB2
  have B3_0 : Blk w3 (w.heap.size) 46 #[.int .i64 ax, .int .i64 ay] := HH3.out (w.heap.size, 46, [.int .i64 ax, .int .i64 ay]) (by simp)
  have k3_0_0 : w3.cell? ⟨w.heap.size, 0, none⟩ = some (.int .i64 ax) := B3_0.cell 0
  have k3_0_1 : w3.cell? ⟨w.heap.size, 1, none⟩ = some (.int .i64 ay) := B3_0.cell 1
  have z3_0 : w.heap.size < w3.heap.size := B3_0.lt
  clear B3_0
  have B3_1 : Blk w3 (w.heap.size + 1) 46 #[.int .i64 bx, .int .i64 bY] := HH3.out (w.heap.size + 1, 46, [.int .i64 bx, .int .i64 bY]) (by simp)
  have k3_1_0 : w3.cell? ⟨w.heap.size + 1, 0, none⟩ = some (.int .i64 bx) := B3_1.cell 0
  have k3_1_1 : w3.cell? ⟨w.heap.size + 1, 1, none⟩ = some (.int .i64 bY) := B3_1.cell 1
  have z3_1 : w.heap.size + 1 < w3.heap.size := B3_1.lt
  clear B3_1
  have B3_2 : Blk w3 (w.heap.size + 1 + 1) 46 #[.int .i64 cx, .int .i64 cy] := HH3.out (w.heap.size + 1 + 1, 46, [.int .i64 cx, .int .i64 cy]) (by simp)
  have k3_2_0 : w3.cell? ⟨w.heap.size + 1 + 1, 0, none⟩ = some (.int .i64 cx) := B3_2.cell 0
  have k3_2_1 : w3.cell? ⟨w.heap.size + 1 + 1, 1, none⟩ = some (.int .i64 cy) := B3_2.cell 1
  have z3_2 : w.heap.size + 1 + 1 < w3.heap.size := B3_2.lt
  clear B3_2
  have B3_3 : Blk w3 (w.heap.size + 1 + 1 + 1) 46 #[.int .i64 dx, .int .i64 dy] := HH3.out (w.heap.size + 1 + 1 + 1, 46, [.int .i64 dx, .int .i64 dy]) (by simp)
  have k3_3_0 : w3.cell? ⟨w.heap.size + 1 + 1 + 1, 0, none⟩ = some (.int .i64 dx) := B3_3.cell 0
  have k3_3_1 : w3.cell? ⟨w.heap.size + 1 + 1 + 1, 1, none⟩ = some (.int .i64 dy) := B3_3.cell 1
  have z3_3 : w.heap.size + 1 + 1 + 1 < w3.heap.size := B3_3.lt
  clear B3_3
  go_wp2_with fail
  refine (c3.out _).mono ?_
  rintro e w4 ⟨rfl, hb4⟩
  have HH4 := Lib.hid ((HH3.out).below hb4)
  have HB4 := Lib.hid (below_trans (HB3.out) hb4)
  clear k3_0_0 k3_0_1 z3_0 k3_1_0 k3_1_1 z3_1 k3_2_0 k3_2_1 z3_2 k3_3_0 k3_3_1 z3_3
  clear hb4
  clear HH3 HB3
  have B4_0 : Blk w4 (w.heap.size) 46 #[.int .i64 ax, .int .i64 ay] := HH4.out (w.heap.size, 46, [.int .i64 ax, .int .i64 ay]) (by simp)
  have k4_0_0 : w4.cell? ⟨w.heap.size, 0, none⟩ = some (.int .i64 ax) := B4_0.cell 0
  have k4_0_1 : w4.cell? ⟨w.heap.size, 1, none⟩ = some (.int .i64 ay) := B4_0.cell 1
  have z4_0 : w.heap.size < w4.heap.size := B4_0.lt
  clear B4_0
  have B4_1 : Blk w4 (w.heap.size + 1) 46 #[.int .i64 bx, .int .i64 bY] := HH4.out (w.heap.size + 1, 46, [.int .i64 bx, .int .i64 bY]) (by simp)
  have k4_1_0 : w4.cell? ⟨w.heap.size + 1, 0, none⟩ = some (.int .i64 bx) := B4_1.cell 0
  have k4_1_1 : w4.cell? ⟨w.heap.size + 1, 1, none⟩ = some (.int .i64 bY) := B4_1.cell 1
  have z4_1 : w.heap.size + 1 < w4.heap.size := B4_1.lt
  clear B4_1
  have B4_2 : Blk w4 (w.heap.size + 1 + 1) 46 #[.int .i64 cx, .int .i64 cy] := HH4.out (w.heap.size + 1 + 1, 46, [.int .i64 cx, .int .i64 cy]) (by simp)
  have k4_2_0 : w4.cell? ⟨w.heap.size + 1 + 1, 0, none⟩ = some (.int .i64 cx) := B4_2.cell 0
  have k4_2_1 : w4.cell? ⟨w.heap.size + 1 + 1, 1, none⟩ = some (.int .i64 cy) := B4_2.cell 1
  have z4_2 : w.heap.size + 1 + 1 < w4.heap.size := B4_2.lt
  clear B4_2
  have B4_3 : Blk w4 (w.heap.size + 1 + 1 + 1) 46 #[.int .i64 dx, .int .i64 dy] := HH4.out (w.heap.size + 1 + 1 + 1, 46, [.int .i64 dx, .int .i64 dy]) (by simp)
  have k4_3_0 : w4.cell? ⟨w.heap.size + 1 + 1 + 1, 0, none⟩ = some (.int .i64 dx) := B4_3.cell 0
  have k4_3_1 : w4.cell? ⟨w.heap.size + 1 + 1 + 1, 1, none⟩ = some (.int .i64 dy) := B4_3.cell 1
  have z4_3 : w.heap.size + 1 + 1 + 1 < w4.heap.size := B4_3.lt
  clear B4_3
  go_wp2_with fail
  refine (c4.out _).mono ?_
  rintro e w5 ⟨rfl, hb5⟩
  have HH5 := Lib.hid ((HH4.out).below hb5)
  have HB5 := Lib.hid (below_trans (HB4.out) hb5)
  clear k4_0_0 k4_0_1 z4_0 k4_1_0 k4_1_1 z4_1 k4_2_0 k4_2_1 z4_2 k4_3_0 k4_3_1 z4_3
  clear hb5
  clear HH4 HB4
  have B5_0 : Blk w5 (w.heap.size) 46 #[.int .i64 ax, .int .i64 ay] := HH5.out (w.heap.size, 46, [.int .i64 ax, .int .i64 ay]) (by simp)
  have k5_0_0 : w5.cell? ⟨w.heap.size, 0, none⟩ = some (.int .i64 ax) := B5_0.cell 0
  have k5_0_1 : w5.cell? ⟨w.heap.size, 1, none⟩ = some (.int .i64 ay) := B5_0.cell 1
  have z5_0 : w.heap.size < w5.heap.size := B5_0.lt
  clear B5_0
  have B5_1 : Blk w5 (w.heap.size + 1) 46 #[.int .i64 bx, .int .i64 bY] := HH5.out (w.heap.size + 1, 46, [.int .i64 bx, .int .i64 bY]) (by simp)
  have k5_1_0 : w5.cell? ⟨w.heap.size + 1, 0, none⟩ = some (.int .i64 bx) := B5_1.cell 0
  have k5_1_1 : w5.cell? ⟨w.heap.size + 1, 1, none⟩ = some (.int .i64 bY) := B5_1.cell 1
  have z5_1 : w.heap.size + 1 < w5.heap.size := B5_1.lt
  clear B5_1
  have B5_2 : Blk w5 (w.heap.size + 1 + 1) 46 #[.int .i64 cx, .int .i64 cy] := HH5.out (w.heap.size + 1 + 1, 46, [.int .i64 cx, .int .i64 cy]) (by simp)
  have k5_2_0 : w5.cell? ⟨w.heap.size + 1 + 1, 0, none⟩ = some (.int .i64 cx) := B5_2.cell 0
  have k5_2_1 : w5.cell? ⟨w.heap.size + 1 + 1, 1, none⟩ = some (.int .i64 cy) := B5_2.cell 1
  have z5_2 : w.heap.size + 1 + 1 < w5.heap.size := B5_2.lt
  clear B5_2
  have B5_3 : Blk w5 (w.heap.size + 1 + 1 + 1) 46 #[.int .i64 dx, .int .i64 dy] := HH5.out (w.heap.size + 1 + 1 + 1, 46, [.int .i64 dx, .int .i64 dy]) (by simp)
  have k5_3_0 : w5.cell? ⟨w.heap.size + 1 + 1 + 1, 0, none⟩ = some (.int .i64 dx) := B5_3.cell 0
  have k5_3_1 : w5.cell? ⟨w.heap.size + 1 + 1 + 1, 1, none⟩ = some (.int .i64 dy) := B5_3.cell 1
  have z5_3 : w.heap.size + 1 + 1 + 1 < w5.heap.size := B5_3.lt
  clear B5_3
  go_wp2_with fail
  refine (c5.out _).mono ?_
  rintro e w6 ⟨rfl, hb6⟩
  have HH6 := Lib.hid ((HH5.out).below hb6)
  have HB6 := Lib.hid (below_trans (HB5.out) hb6)
  clear k5_0_0 k5_0_1 z5_0 k5_1_0 k5_1_1 z5_1 k5_2_0 k5_2_1 z5_2 k5_3_0 k5_3_1 z5_3
  clear hb6
  clear HH5 HB5
  have B6_0 : Blk w6 (w.heap.size) 46 #[.int .i64 ax, .int .i64 ay] := HH6.out (w.heap.size, 46, [.int .i64 ax, .int .i64 ay]) (by simp)
  have k6_0_0 : w6.cell? ⟨w.heap.size, 0, none⟩ = some (.int .i64 ax) := B6_0.cell 0
  have k6_0_1 : w6.cell? ⟨w.heap.size, 1, none⟩ = some (.int .i64 ay) := B6_0.cell 1
  have z6_0 : w.heap.size < w6.heap.size := B6_0.lt
  clear B6_0
  have B6_1 : Blk w6 (w.heap.size + 1) 46 #[.int .i64 bx, .int .i64 bY] := HH6.out (w.heap.size + 1, 46, [.int .i64 bx, .int .i64 bY]) (by simp)
  have k6_1_0 : w6.cell? ⟨w.heap.size + 1, 0, none⟩ = some (.int .i64 bx) := B6_1.cell 0
  have k6_1_1 : w6.cell? ⟨w.heap.size + 1, 1, none⟩ = some (.int .i64 bY) := B6_1.cell 1
  have z6_1 : w.heap.size + 1 < w6.heap.size := B6_1.lt
  clear B6_1
  have B6_2 : Blk w6 (w.heap.size + 1 + 1) 46 #[.int .i64 cx, .int .i64 cy] := HH6.out (w.heap.size + 1 + 1, 46, [.int .i64 cx, .int .i64 cy]) (by simp)
  have k6_2_0 : w6.cell? ⟨w.heap.size + 1 + 1, 0, none⟩ = some (.int .i64 cx) := B6_2.cell 0
  have k6_2_1 : w6.cell? ⟨w.heap.size + 1 + 1, 1, none⟩ = some (.int .i64 cy) := B6_2.cell 1
  have z6_2 : w.heap.size + 1 + 1 < w6.heap.size := B6_2.lt
  clear B6_2
  have B6_3 : Blk w6 (w.heap.size + 1 + 1 + 1) 46 #[.int .i64 dx, .int .i64 dy] := HH6.out (w.heap.size + 1 + 1 + 1, 46, [.int .i64 dx, .int .i64 dy]) (by simp)
  have k6_3_0 : w6.cell? ⟨w.heap.size + 1 + 1 + 1, 0, none⟩ = some (.int .i64 dx) := B6_3.cell 0
  have k6_3_1 : w6.cell? ⟨w.heap.size + 1 + 1 + 1, 1, none⟩ = some (.int .i64 dy) := B6_3.cell 1
  have z6_3 : w.heap.size + 1 + 1 + 1 < w6.heap.size := B6_3.lt
  clear B6_3
  go_wp2_with fail
  refine (c6.out _).mono ?_
  rintro e w7 ⟨rfl, hb7⟩
  have HH7 := Lib.hid ((HH6.out).below hb7)
  have HB7 := Lib.hid (below_trans (HB6.out) hb7)
  clear k6_0_0 k6_0_1 z6_0 k6_1_0 k6_1_1 z6_1 k6_2_0 k6_2_1 z6_2 k6_3_0 k6_3_1 z6_3
  clear hb7
  clear HH6 HB6
  have B7_0 : Blk w7 (w.heap.size) 46 #[.int .i64 ax, .int .i64 ay] := HH7.out (w.heap.size, 46, [.int .i64 ax, .int .i64 ay]) (by simp)
  have k7_0_0 : w7.cell? ⟨w.heap.size, 0, none⟩ = some (.int .i64 ax) := B7_0.cell 0
  have k7_0_1 : w7.cell? ⟨w.heap.size, 1, none⟩ = some (.int .i64 ay) := B7_0.cell 1
  have z7_0 : w.heap.size < w7.heap.size := B7_0.lt
  clear B7_0
  have B7_1 : Blk w7 (w.heap.size + 1) 46 #[.int .i64 bx, .int .i64 bY] := HH7.out (w.heap.size + 1, 46, [.int .i64 bx, .int .i64 bY]) (by simp)
  have k7_1_0 : w7.cell? ⟨w.heap.size + 1, 0, none⟩ = some (.int .i64 bx) := B7_1.cell 0
  have k7_1_1 : w7.cell? ⟨w.heap.size + 1, 1, none⟩ = some (.int .i64 bY) := B7_1.cell 1
  have z7_1 : w.heap.size + 1 < w7.heap.size := B7_1.lt
  clear B7_1
  have B7_2 : Blk w7 (w.heap.size + 1 + 1) 46 #[.int .i64 cx, .int .i64 cy] := HH7.out (w.heap.size + 1 + 1, 46, [.int .i64 cx, .int .i64 cy]) (by simp)
  have k7_2_0 : w7.cell? ⟨w.heap.size + 1 + 1, 0, none⟩ = some (.int .i64 cx) := B7_2.cell 0
  have k7_2_1 : w7.cell? ⟨w.heap.size + 1 + 1, 1, none⟩ = some (.int .i64 cy) := B7_2.cell 1
  have z7_2 : w.heap.size + 1 + 1 < w7.heap.size := B7_2.lt
  clear B7_2
  have B7_3 : Blk w7 (w.heap.size + 1 + 1 + 1) 46 #[.int .i64 dx, .int .i64 dy] := HH7.out (w.heap.size + 1 + 1 + 1, 46, [.int .i64 dx, .int .i64 dy]) (by simp)
  have k7_3_0 : w7.cell? ⟨w.heap.size + 1 + 1 + 1, 0, none⟩ = some (.int .i64 dx) := B7_3.cell 0
  have k7_3_1 : w7.cell? ⟨w.heap.size + 1 + 1 + 1, 1, none⟩ = some (.int .i64 dy) := B7_3.cell 1
  have z7_3 : w.heap.size + 1 + 1 + 1 < w7.heap.size := B7_3.lt
  clear B7_3
  go_wp2_with fail
  refine (c7.out _).mono ?_
  rintro e w8 ⟨rfl, hb8⟩
  have HH8 := Lib.hid ((HH7.out).below hb8)
  have HB8 := Lib.hid (below_trans (HB7.out) hb8)
  clear k7_0_0 k7_0_1 z7_0 k7_1_0 k7_1_1 z7_1 k7_2_0 k7_2_1 z7_2 k7_3_0 k7_3_1 z7_3
  clear hb8
  clear HH7 HB7
  have B8_0 : Blk w8 (w.heap.size) 46 #[.int .i64 ax, .int .i64 ay] := HH8.out (w.heap.size, 46, [.int .i64 ax, .int .i64 ay]) (by simp)
  have k8_0_0 : w8.cell? ⟨w.heap.size, 0, none⟩ = some (.int .i64 ax) := B8_0.cell 0
  have k8_0_1 : w8.cell? ⟨w.heap.size, 1, none⟩ = some (.int .i64 ay) := B8_0.cell 1
  have z8_0 : w.heap.size < w8.heap.size := B8_0.lt
  clear B8_0
  have B8_1 : Blk w8 (w.heap.size + 1) 46 #[.int .i64 bx, .int .i64 bY] := HH8.out (w.heap.size + 1, 46, [.int .i64 bx, .int .i64 bY]) (by simp)
  have k8_1_0 : w8.cell? ⟨w.heap.size + 1, 0, none⟩ = some (.int .i64 bx) := B8_1.cell 0
  have k8_1_1 : w8.cell? ⟨w.heap.size + 1, 1, none⟩ = some (.int .i64 bY) := B8_1.cell 1
  have z8_1 : w.heap.size + 1 < w8.heap.size := B8_1.lt
  clear B8_1
  have B8_2 : Blk w8 (w.heap.size + 1 + 1) 46 #[.int .i64 cx, .int .i64 cy] := HH8.out (w.heap.size + 1 + 1, 46, [.int .i64 cx, .int .i64 cy]) (by simp)
  have k8_2_0 : w8.cell? ⟨w.heap.size + 1 + 1, 0, none⟩ = some (.int .i64 cx) := B8_2.cell 0
  have k8_2_1 : w8.cell? ⟨w.heap.size + 1 + 1, 1, none⟩ = some (.int .i64 cy) := B8_2.cell 1
  have z8_2 : w.heap.size + 1 + 1 < w8.heap.size := B8_2.lt
  clear B8_2
  have B8_3 : Blk w8 (w.heap.size + 1 + 1 + 1) 46 #[.int .i64 dx, .int .i64 dy] := HH8.out (w.heap.size + 1 + 1 + 1, 46, [.int .i64 dx, .int .i64 dy]) (by simp)
  have k8_3_0 : w8.cell? ⟨w.heap.size + 1 + 1 + 1, 0, none⟩ = some (.int .i64 dx) := B8_3.cell 0
  have k8_3_1 : w8.cell? ⟨w.heap.size + 1 + 1 + 1, 1, none⟩ = some (.int .i64 dy) := B8_3.cell 1
  have z8_3 : w.heap.size + 1 + 1 + 1 < w8.heap.size := B8_3.lt
  clear B8_3
  go_wp2_with fail
  refine (c8.out _).mono ?_
  rintro e w9 ⟨rfl, hb9⟩
  have HH9 := Lib.hid ((HH8.out).below hb9)
  have HB9 := Lib.hid (below_trans (HB8.out) hb9)
  clear k8_0_0 k8_0_1 z8_0 k8_1_0 k8_1_1 z8_1 k8_2_0 k8_2_1 z8_2 k8_3_0 k8_3_1 z8_3
  clear hb9
  clear HH8 HB8
  have B9_0 : Blk w9 (w.heap.size) 46 #[.int .i64 ax, .int .i64 ay] := HH9.out (w.heap.size, 46, [.int .i64 ax, .int .i64 ay]) (by simp)
  have k9_0_0 : w9.cell? ⟨w.heap.size, 0, none⟩ = some (.int .i64 ax) := B9_0.cell 0
  have k9_0_1 : w9.cell? ⟨w.heap.size, 1, none⟩ = some (.int .i64 ay) := B9_0.cell 1
  have z9_0 : w.heap.size < w9.heap.size := B9_0.lt
  clear B9_0
  have B9_1 : Blk w9 (w.heap.size + 1) 46 #[.int .i64 bx, .int .i64 bY] := HH9.out (w.heap.size + 1, 46, [.int .i64 bx, .int .i64 bY]) (by simp)
  have k9_1_0 : w9.cell? ⟨w.heap.size + 1, 0, none⟩ = some (.int .i64 bx) := B9_1.cell 0
  have k9_1_1 : w9.cell? ⟨w.heap.size + 1, 1, none⟩ = some (.int .i64 bY) := B9_1.cell 1
  have z9_1 : w.heap.size + 1 < w9.heap.size := B9_1.lt
  clear B9_1
  have B9_2 : Blk w9 (w.heap.size + 1 + 1) 46 #[.int .i64 cx, .int .i64 cy] := HH9.out (w.heap.size + 1 + 1, 46, [.int .i64 cx, .int .i64 cy]) (by simp)
  have k9_2_0 : w9.cell? ⟨w.heap.size + 1 + 1, 0, none⟩ = some (.int .i64 cx) := B9_2.cell 0
  have k9_2_1 : w9.cell? ⟨w.heap.size + 1 + 1, 1, none⟩ = some (.int .i64 cy) := B9_2.cell 1
  have z9_2 : w.heap.size + 1 + 1 < w9.heap.size := B9_2.lt
  clear B9_2
  have B9_3 : Blk w9 (w.heap.size + 1 + 1 + 1) 46 #[.int .i64 dx, .int .i64 dy] := HH9.out (w.heap.size + 1 + 1 + 1, 46, [.int .i64 dx, .int .i64 dy]) (by simp)
  have k9_3_0 : w9.cell? ⟨w.heap.size + 1 + 1 + 1, 0, none⟩ = some (.int .i64 dx) := B9_3.cell 0
  have k9_3_1 : w9.cell? ⟨w.heap.size + 1 + 1 + 1, 1, none⟩ = some (.int .i64 dy) := B9_3.cell 1
  have z9_3 : w.heap.size + 1 + 1 + 1 < w9.heap.size := B9_3.lt
  clear B9_3
  go_wp2_with fail
  refine (c9.out _).mono ?_
  rintro e w10 ⟨rfl, hb10⟩
  have HH10 := Lib.hid ((HH9.out).below hb10)
  have HB10 := Lib.hid (below_trans (HB9.out) hb10)
  clear k9_0_0 k9_0_1 z9_0 k9_1_0 k9_1_1 z9_1 k9_2_0 k9_2_1 z9_2 k9_3_0 k9_3_1 z9_3
  clear hb10
  clear HH9 HB9
  have B10_0 : Blk w10 (w.heap.size) 46 #[.int .i64 ax, .int .i64 ay] := HH10.out (w.heap.size, 46, [.int .i64 ax, .int .i64 ay]) (by simp)
  have k10_0_0 : w10.cell? ⟨w.heap.size, 0, none⟩ = some (.int .i64 ax) := B10_0.cell 0
  have k10_0_1 : w10.cell? ⟨w.heap.size, 1, none⟩ = some (.int .i64 ay) := B10_0.cell 1
  have z10_0 : w.heap.size < w10.heap.size := B10_0.lt
  clear B10_0
  have B10_1 : Blk w10 (w.heap.size + 1) 46 #[.int .i64 bx, .int .i64 bY] := HH10.out (w.heap.size + 1, 46, [.int .i64 bx, .int .i64 bY]) (by simp)
  have k10_1_0 : w10.cell? ⟨w.heap.size + 1, 0, none⟩ = some (.int .i64 bx) := B10_1.cell 0
  have k10_1_1 : w10.cell? ⟨w.heap.size + 1, 1, none⟩ = some (.int .i64 bY) := B10_1.cell 1
  have z10_1 : w.heap.size + 1 < w10.heap.size := B10_1.lt
  clear B10_1
  have B10_2 : Blk w10 (w.heap.size + 1 + 1) 46 #[.int .i64 cx, .int .i64 cy] := HH10.out (w.heap.size + 1 + 1, 46, [.int .i64 cx, .int .i64 cy]) (by simp)
  have k10_2_0 : w10.cell? ⟨w.heap.size + 1 + 1, 0, none⟩ = some (.int .i64 cx) := B10_2.cell 0
  have k10_2_1 : w10.cell? ⟨w.heap.size + 1 + 1, 1, none⟩ = some (.int .i64 cy) := B10_2.cell 1
  have z10_2 : w.heap.size + 1 + 1 < w10.heap.size := B10_2.lt
  clear B10_2
  have B10_3 : Blk w10 (w.heap.size + 1 + 1 + 1) 46 #[.int .i64 dx, .int .i64 dy] := HH10.out (w.heap.size + 1 + 1 + 1, 46, [.int .i64 dx, .int .i64 dy]) (by simp)
  have k10_3_0 : w10.cell? ⟨w.heap.size + 1 + 1 + 1, 0, none⟩ = some (.int .i64 dx) := B10_3.cell 0
  have k10_3_1 : w10.cell? ⟨w.heap.size + 1 + 1 + 1, 1, none⟩ = some (.int .i64 dy) := B10_3.cell 1
  have z10_3 : w.heap.size + 1 + 1 + 1 < w10.heap.size := B10_3.lt
  clear B10_3
  go_wp2
  go_returns
  exact ⟨rfl, by repeat (first | with_reducible exact HB10.out | with_reducible refine Below.drew ?_ | with_reducible refine below_drewN ?_ _ | with_reducible refine below_set ?_ (by have := HB10.out.size; simp <;> omega) _ | with_reducible refine below_alloc ?_ _)⟩
theorem segsLaw_any (ax ay bx bY cx cy dx dy : Int) (w : World) : Calls Try.prog 11 #[.agg #[.int .i64 ax, .int .i64 ay], .agg #[.int .i64 bx, .int .i64 bY], .agg #[.int .i64 cx, .int .i64 cy], .agg #[.int .i64 dx, .int .i64 dy]] w fun e w' => e = .returned (.bool true) ∧ Below w.heap.size w w' := by

  rcases h1 : in2 ax ay with _ | _
  · exact segs_0 ax ay bx bY cx cy dx dy h1 w
  rcases h2 : in2 bx bY with _ | _
  · exact segs_1 ax ay bx bY cx cy dx dy h1 h2 w
  by_cases hne : ax = bx ∧ ay = bY
  · obtain ⟨rfl, rfl⟩ := hne
    rcases h3 : in2 cx cy with _ | _
    · exact segs_2e ax ay cx cy dx dy h1 h3 w
    rcases h4 : in2 dx dy with _ | _
    · exact segs_3e ax ay cx cy dx dy h1 h3 h4 w
    · exact segs_4e ax ay cx cy dx dy h1 h3 h4 w
  · rcases h3 : in2 cx cy with _ | _
    · exact segs_2n ax ay bx bY cx cy dx dy h1 h2 h3 hne w
    rcases h4 : in2 dx dy with _ | _
    · exact segs_3n ax ay bx bY cx cy dx dy h1 h2 h3 h4 hne w
    · exact segs_4n ax ay bx bY cx cy dx dy h1 h2 h3 h4 hne w

end Go.Proofs.Ytkfdbhhchnbjdaa.Ve
