/- What the reference's Meet returns is what the program's meet returns; the reference's Meet where one segment is a point. -/
import Derived.Test.YtkfdbhhchnbjdaaVeL8
namespace Go.Proofs.Ytkfdbhhchnbjdaa.Ve
open Go.RowKit Ba
set_option linter.unusedVariables false
set_option linter.unusedSimpArgs false

theorem bef_iff {ax ay bx bY : Int} : bef ax ay bx bY = true ↔ ¬ lexP bx bY ax ay := by unfold bef lexP; simp; omega
theorem bef_no {ax ay bx bY : Int} : bef ax ay bx bY = false ↔ lexP bx bY ax ay := by
  rw [← Bool.not_eq_true, bef_iff]; exact Classical.not_not
/-- the later of two points, the earlier of two points, as the reference takes them -/
def lateP (p q : Int × Int) : Int × Int := if bef p.1 p.2 q.1 q.2 then q else p
def earlyP (p q : Int × Int) : Int × Int := if bef q.1 q.2 p.1 p.2 then q else p
theorem late_lst (p q : Int × Int) : lateP p q = lst2 p.1 p.2 q.1 q.2 := by
  unfold lateP
  have h := fst2_if p.1 p.2 q.1 q.2
  by_cases c : lexP p.1 p.2 q.1 q.2
  · rw [(h.1 c).2]
    rcases hb : bef p.1 p.2 q.1 q.2 with _ | _
    · obtain ⟨e1, e2⟩ := lex_anti c (bef_no.1 hb); simp [Prod.ext_iff, e1, e2]
    · rfl
  · rw [(h.2 c).2]
    rcases hb : bef p.1 p.2 q.1 q.2 with _ | _
    · rfl
    · rcases lex_total p.1 p.2 q.1 q.2 with h2 | h2
      · exact absurd h2 c
      · exact absurd h2 (bef_iff.1 hb)
theorem early_fst (p q : Int × Int) : earlyP p q = fst2 p.1 p.2 q.1 q.2 := by
  unfold earlyP
  have h := fst2_if p.1 p.2 q.1 q.2
  by_cases c : lexP p.1 p.2 q.1 q.2
  · rw [(h.1 c).1]
    rcases hb : bef q.1 q.2 p.1 p.2 with _ | _
    · rfl
    · exact absurd c (bef_iff.1 hb)
  · rw [(h.2 c).1]
    rcases hb : bef q.1 q.2 p.1 p.2 with _ | _
    · exact absurd (bef_no.1 hb) c
    · rfl
theorem num_bef (p q : Int × Int) : numI (cmp3 p.1 p.2 0 q.1 q.2 0) = if bef p.1 p.2 q.1 q.2 then 2 else if p = q then 1 else 0 := by
  rcases hb : bef p.1 p.2 q.1 q.2 with _ | _
  · have := bef_no.1 hb
    by_cases e : p = q
    · subst e; simp [numI, show cmp3 p.1 p.2 0 p.1 p.2 0 = 0 by unfold cmp3 cmpI; simp]
    · have e' : ¬ (p.1 = q.1 ∧ p.2 = q.2) := fun h => e (Prod.ext h.1 h.2)
      have : cmp3 p.1 p.2 0 q.1 q.2 0 = 1 := by
        unfold lexP at this; unfold cmp3 cmpI; repeat' split
        all_goals omega
      rw [this]; simp [e]; rfl
  · have := bef_iff.1 hb
    have : cmp3 p.1 p.2 0 q.1 q.2 0 = -1 := by
      unfold lexP at this; unfold cmp3 cmpI; repeat' split
      all_goals omega
    rw [this]; rfl
/-- what the reference returns for two segments -/
def rmeetI (ax ay bx bY cx cy dx dy : Int) : Int :=
  if (ax = bx ∧ ay = bY) ∨ (cx = dx ∧ cy = dy) then (if ((ax = bx ∧ ay = bY) ∧ onB cx cy dx dy ax ay = true) ∨ ((cx = dx ∧ cy = dy) ∧ onB ax ay bx bY cx cy = true) then 1 else 0)
  else if turnI ax ay bx bY cx cy = 0 ∧ turnI ax ay bx bY dx dy = 0 then
    (if bef (lateP (fst2 ax ay bx bY) (fst2 cx cy dx dy)).1 (lateP (fst2 ax ay bx bY) (fst2 cx cy dx dy)).2 (earlyP (lst2 ax ay bx bY) (lst2 cx cy dx dy)).1 (earlyP (lst2 ax ay bx bY) (lst2 cx cy dx dy)).2 then 2
     else if lateP (fst2 ax ay bx bY) (fst2 cx cy dx dy) = earlyP (lst2 ax ay bx bY) (lst2 cx cy dx dy) then 1 else 0)
  else if turnI ax ay bx bY cx cy * turnI ax ay bx bY dx dy ≤ 0 ∧ turnI cx cy dx dy ax ay * turnI cx cy dx dy bx bY ≤ 0 then 1 else 0
theorem meet_on (ax ay bx bY px py : Int) : meetI ax ay bx bY px py px py = if onB ax ay bx bY px py = true then 1 else 0 := by
  have h1 := on_meet ax ay bx bY px py
  have h2 := meet_pp_one ax ay bx bY px py
  rcases h : onB ax ay bx bY px py with _ | _
  · rw [h] at h1
    rw [h1] at h2
    have hn : ¬ 0 < meetI ax ay bx bY px py px py := by simpa using h1
    have h3 : meetI ax ay bx bY px py px py = 0 ∨ meetI ax ay bx bY px py px py = 1 := by
      by_cases h4 : turnI ax ay bx bY px py = 0
      · have h5 : meetI ax ay bx bY px py px py = lineI ax ay bx bY px py px py := by rw [meet_pp, if_pos h4]
        have h6 : 0 ≤ lineI ax ay bx bY px py px py := by unfold lineI lineQ numI; repeat' split
                                                          all_goals omega
        omega
      · rw [meet_pp, if_neg h4]; exact .inl rfl
    simp; omega
  · rw [h] at h1
    rw [h1] at h2
    simpa using h2.symm
theorem on_same {ax ay cx cy : Int} (h : onB ax ay ax ay cx cy = true) : onB cx cy cx cy ax ay = true := by
  have h2 : cx = ax ∧ cy = ay := by unfold onB at h; simp at h; omega
  obtain ⟨rfl, rfl⟩ := h2
  exact h
theorem cross_zero {ux uy vx vy wx wy : Int} (hu : ¬ (ux = 0 ∧ uy = 0)) (h1 : ux * wy = uy * wx) (h2 : ux * vy = uy * vx) : vx * wy = vy * wx := by
  by_cases h : ux = 0
  · have hy : uy ≠ 0 := fun e => hu ⟨h, e⟩
    have : uy * (vx * wy - vy * wx) = 0 := by subst h; grind
    rcases Int.mul_eq_zero.1 this with e | e
    · exact absurd e hy
    · omega
  · have : ux * (vx * wy - vy * wx) = 0 := by grind
    rcases Int.mul_eq_zero.1 this with e | e
    · exact absurd e h
    · omega
theorem turns_zero {ax ay bx bY cx cy dx dy : Int} (hab : ¬ (ax = bx ∧ ay = bY)) (h1 : turnI ax ay bx bY cx cy = 0) (h2 : turnI ax ay bx bY dx dy = 0) : turnI cx cy dx dy ax ay = 0 ∧ turnI cx cy dx dy bx bY = 0 := by
  have e1 := cmpI_zero.1 h1
  have e2 := cmpI_zero.1 h2
  have hu : ¬ (bx - ax = 0 ∧ bY - ay = 0) := by omega
  have e3 := cross_zero hu e1 e2
  refine ⟨cmpI_zero.2 ?_, cmpI_zero.2 ?_⟩
  · grind
  · grind
theorem rmeet_meet (ax ay bx bY cx cy dx dy : Int) : rmeetI ax ay bx bY cx cy dx dy = meetI ax ay bx bY cx cy dx dy := by
  unfold rmeetI
  by_cases hab : ax = bx ∧ ay = bY
  · rw [if_pos (.inl hab)]
    obtain ⟨rfl, rfl⟩ := hab
    rw [← meet_swap, meet_on]
    by_cases h : onB cx cy dx dy ax ay = true
    · rw [if_pos (.inl ⟨⟨rfl, rfl⟩, h⟩), if_pos h]
    · rw [if_neg h, if_neg]
      rintro (⟨_, h2⟩ | ⟨⟨rfl, rfl⟩, h2⟩)
      · exact h h2
      · exact h (on_same h2)
  by_cases hcd : cx = dx ∧ cy = dy
  · rw [if_pos (.inr hcd)]
    obtain ⟨rfl, rfl⟩ := hcd
    rw [meet_on]
    by_cases h : onB ax ay bx bY cx cy = true
    · rw [if_pos (.inr ⟨⟨rfl, rfl⟩, h⟩), if_pos h]
    · rw [if_neg h, if_neg]
      rintro (⟨h1, _⟩ | ⟨_, h2⟩)
      · exact hab h1
      · exact h h2
  rw [if_neg (by rintro (h | h); exact hab h; exact hcd h)]
  by_cases h : turnI ax ay bx bY cx cy = 0 ∧ turnI ax ay bx bY dx dy = 0
  · obtain ⟨h3, h4⟩ := turns_zero hab h.1 h.2
    have hm : meetI ax ay bx bY cx cy dx dy = lineI ax ay bx bY cx cy dx dy := by unfold meetI; rw [if_pos ⟨h3, h4, h.1, h.2⟩]
    rw [if_pos h, hm]
    unfold lineI lineQ
    rw [← late_lst (fst2 ax ay bx bY) (fst2 cx cy dx dy), ← early_fst (lst2 ax ay bx bY) (lst2 cx cy dx dy), num_bef]
  · have hm : meetI ax ay bx bY cx cy dx dy = if 0 < turnI ax ay bx bY cx cy * turnI ax ay bx bY dx dy ∨ 0 < turnI cx cy dx dy ax ay * turnI cx cy dx dy bx bY then 0 else 1 := by
      unfold meetI; rw [if_neg (fun hh => h ⟨hh.2.2.1, hh.2.2.2⟩)]
    rw [if_neg h, hm]
    generalize turnI ax ay bx bY cx cy * turnI ax ay bx bY dx dy = p
    generalize turnI cx cy dx dy ax ay * turnI cx cy dx dy bx bY = q
    by_cases h2 : 0 < p ∨ 0 < q
    · rw [if_pos h2, if_neg (by omega)]
    · rw [if_neg h2, if_pos (by omega)]

theorem pt_diff_eql {a b x y : Int} (h : ¬ (a = x ∧ b = y)) (W : World) : (binOp .eql 46 (.agg #[.int .i64 a, .int .i64 b]) (.agg #[.int .i64 x, .int .i64 y])).run Try.prog W = .ok (.bool false) W := by
  rw [pt_eql]
  have : ((a == x) && (b == y)) = false := by
    rw [Bool.eq_false_iff]; intro hh; simp at hh; exact h hh
  rw [this]
set_option maxHeartbeats 800000 in
theorem rmeet_1a (ax ay cx cy dx dy : Int) (h1 : in2 ax ay = true) (h3 : in2 cx cy = true) (h4 : in2 dx dy = true) (ho : onB cx cy dx dy ax ay = true) (w : World) : Calls Try.prog 35 #[.agg #[.int .i64 ax, .int .i64 ay], .agg #[.int .i64 ax, .int .i64 ay], .agg #[.int .i64 cx, .int .i64 cy], .agg #[.int .i64 dx, .int .i64 dy]] w fun e w' => e = .returned (.int .i64 1) ∧ Below w.heap.size w w' := by
  have gd := fun x y xs ys W => pt_guard .eql x y xs ys W
  have e1 := fun W => pt_same_eql ax ay W
  have c1 := Lib.hid fun W => ron_any cx cy dx dy ax ay h3 h4 h1 W
  rw [ho] at c1
  clear h1 h3 h4 ho
  go_enter Try.func35, Try.ntmps35
  go_wp2_with fail
  refine (c1.out _).mono ?_
  rintro e w1 ⟨rfl, hb1⟩
  have HH1 := Lib.hid (((((((Blks.nil (w := w))).new (w.heap.size) 46 [.int .i64 ax, .int .i64 ay] rfl).new (w.heap.size + 1) 46 [.int .i64 ax, .int .i64 ay] (by simp)).new (w.heap.size + 1 + 1) 46 [.int .i64 cx, .int .i64 cy] (by simp)).new (w.heap.size + 1 + 1 + 1) 46 [.int .i64 dx, .int .i64 dy] (by simp)).below hb1)
  have HB1 := Lib.hid (below_trans (below_alloc (below_alloc (below_alloc (below_alloc (Below.refl _ _) _) _) _) _) hb1)
  clear hb1
  have B1_0 : Blk w1 (w.heap.size) 46 #[.int .i64 ax, .int .i64 ay] := HH1.out (w.heap.size, 46, [.int .i64 ax, .int .i64 ay]) (by simp)
  have k1_0_0 : w1.cell? ⟨w.heap.size, 0, none⟩ = some (.int .i64 ax) := B1_0.cell 0
  have k1_0_1 : w1.cell? ⟨w.heap.size, 1, none⟩ = some (.int .i64 ay) := B1_0.cell 1
  have z1_0 : w.heap.size < w1.heap.size := B1_0.lt
  clear B1_0
  have B1_1 : Blk w1 (w.heap.size + 1) 46 #[.int .i64 ax, .int .i64 ay] := HH1.out (w.heap.size + 1, 46, [.int .i64 ax, .int .i64 ay]) (by simp)
  have k1_1_0 : w1.cell? ⟨w.heap.size + 1, 0, none⟩ = some (.int .i64 ax) := B1_1.cell 0
  have k1_1_1 : w1.cell? ⟨w.heap.size + 1, 1, none⟩ = some (.int .i64 ay) := B1_1.cell 1
  have z1_1 : w.heap.size + 1 < w1.heap.size := B1_1.lt
  clear B1_1
  have B1_2 : Blk w1 (w.heap.size + 1 + 1) 46 #[.int .i64 cx, .int .i64 cy] := HH1.out (w.heap.size + 1 + 1, 46, [.int .i64 cx, .int .i64 cy]) (by simp)
  have k1_2_0 : w1.cell? ⟨w.heap.size + 1 + 1, 0, none⟩ = some (.int .i64 cx) := B1_2.cell 0
  have k1_2_1 : w1.cell? ⟨w.heap.size + 1 + 1, 1, none⟩ = some (.int .i64 cy) := B1_2.cell 1
  have z1_2 : w.heap.size + 1 + 1 < w1.heap.size := B1_2.lt
  clear B1_2
  have B1_3 : Blk w1 (w.heap.size + 1 + 1 + 1) 46 #[.int .i64 dx, .int .i64 dy] := HH1.out (w.heap.size + 1 + 1 + 1, 46, [.int .i64 dx, .int .i64 dy]) (by simp)
  have k1_3_0 : w1.cell? ⟨w.heap.size + 1 + 1 + 1, 0, none⟩ = some (.int .i64 dx) := B1_3.cell 0
  have k1_3_1 : w1.cell? ⟨w.heap.size + 1 + 1 + 1, 1, none⟩ = some (.int .i64 dy) := B1_3.cell 1
  have z1_3 : w.heap.size + 1 + 1 + 1 < w1.heap.size := B1_3.lt
  clear B1_3
  go_wp2
  go_returns
  exact ⟨rfl, by repeat (first | with_reducible exact HB1.out | with_reducible refine Below.drew ?_ | with_reducible refine below_drewN ?_ _ | with_reducible refine below_set ?_ (by have := HB1.out.size; simp <;> omega) _ | with_reducible refine below_alloc ?_ _)⟩
set_option maxHeartbeats 800000 in
theorem rmeet_1b (ax ay cx cy dx dy : Int) (h1 : in2 ax ay = true) (h3 : in2 cx cy = true) (h4 : in2 dx dy = true) (ho : onB cx cy dx dy ax ay = false) (hcd : ¬ (cx = dx ∧ cy = dy)) (w : World) : Calls Try.prog 35 #[.agg #[.int .i64 ax, .int .i64 ay], .agg #[.int .i64 ax, .int .i64 ay], .agg #[.int .i64 cx, .int .i64 cy], .agg #[.int .i64 dx, .int .i64 dy]] w fun e w' => e = .returned (.int .i64 0) ∧ Below w.heap.size w w' := by
  have gd := fun x y xs ys W => pt_guard .eql x y xs ys W
  have e1 := fun W => pt_same_eql ax ay W
  have e2 := fun W => pt_diff_eql hcd W
  have c1 := Lib.hid fun W => ron_any cx cy dx dy ax ay h3 h4 h1 W
  rw [ho] at c1
  clear h1 h3 h4 ho hcd
  go_enter Try.func35, Try.ntmps35
  go_wp2_with fail
  refine (c1.out _).mono ?_
  rintro e w1 ⟨rfl, hb1⟩
  have HH1 := Lib.hid (((((((Blks.nil (w := w))).new (w.heap.size) 46 [.int .i64 ax, .int .i64 ay] rfl).new (w.heap.size + 1) 46 [.int .i64 ax, .int .i64 ay] (by simp)).new (w.heap.size + 1 + 1) 46 [.int .i64 cx, .int .i64 cy] (by simp)).new (w.heap.size + 1 + 1 + 1) 46 [.int .i64 dx, .int .i64 dy] (by simp)).below hb1)
  have HB1 := Lib.hid (below_trans (below_alloc (below_alloc (below_alloc (below_alloc (Below.refl _ _) _) _) _) _) hb1)
  clear hb1
  have B1_0 : Blk w1 (w.heap.size) 46 #[.int .i64 ax, .int .i64 ay] := HH1.out (w.heap.size, 46, [.int .i64 ax, .int .i64 ay]) (by simp)
  have k1_0_0 : w1.cell? ⟨w.heap.size, 0, none⟩ = some (.int .i64 ax) := B1_0.cell 0
  have k1_0_1 : w1.cell? ⟨w.heap.size, 1, none⟩ = some (.int .i64 ay) := B1_0.cell 1
  have z1_0 : w.heap.size < w1.heap.size := B1_0.lt
  clear B1_0
  have B1_1 : Blk w1 (w.heap.size + 1) 46 #[.int .i64 ax, .int .i64 ay] := HH1.out (w.heap.size + 1, 46, [.int .i64 ax, .int .i64 ay]) (by simp)
  have k1_1_0 : w1.cell? ⟨w.heap.size + 1, 0, none⟩ = some (.int .i64 ax) := B1_1.cell 0
  have k1_1_1 : w1.cell? ⟨w.heap.size + 1, 1, none⟩ = some (.int .i64 ay) := B1_1.cell 1
  have z1_1 : w.heap.size + 1 < w1.heap.size := B1_1.lt
  clear B1_1
  have B1_2 : Blk w1 (w.heap.size + 1 + 1) 46 #[.int .i64 cx, .int .i64 cy] := HH1.out (w.heap.size + 1 + 1, 46, [.int .i64 cx, .int .i64 cy]) (by simp)
  have k1_2_0 : w1.cell? ⟨w.heap.size + 1 + 1, 0, none⟩ = some (.int .i64 cx) := B1_2.cell 0
  have k1_2_1 : w1.cell? ⟨w.heap.size + 1 + 1, 1, none⟩ = some (.int .i64 cy) := B1_2.cell 1
  have z1_2 : w.heap.size + 1 + 1 < w1.heap.size := B1_2.lt
  clear B1_2
  have B1_3 : Blk w1 (w.heap.size + 1 + 1 + 1) 46 #[.int .i64 dx, .int .i64 dy] := HH1.out (w.heap.size + 1 + 1 + 1, 46, [.int .i64 dx, .int .i64 dy]) (by simp)
  have k1_3_0 : w1.cell? ⟨w.heap.size + 1 + 1 + 1, 0, none⟩ = some (.int .i64 dx) := B1_3.cell 0
  have k1_3_1 : w1.cell? ⟨w.heap.size + 1 + 1 + 1, 1, none⟩ = some (.int .i64 dy) := B1_3.cell 1
  have z1_3 : w.heap.size + 1 + 1 + 1 < w1.heap.size := B1_3.lt
  clear B1_3
  go_wp2
  go_returns
  exact ⟨rfl, by repeat (first | with_reducible exact HB1.out | with_reducible refine Below.drew ?_ | with_reducible refine below_drewN ?_ _ | with_reducible refine below_set ?_ (by have := HB1.out.size; simp <;> omega) _ | with_reducible refine below_alloc ?_ _)⟩
set_option maxHeartbeats 800000 in
theorem rmeet_1c (ax ay cx cy : Int) (h1 : in2 ax ay = true) (h3 : in2 cx cy = true) (ho : onB cx cy cx cy ax ay = false) (ho2 : onB ax ay ax ay cx cy = false) (w : World) : Calls Try.prog 35 #[.agg #[.int .i64 ax, .int .i64 ay], .agg #[.int .i64 ax, .int .i64 ay], .agg #[.int .i64 cx, .int .i64 cy], .agg #[.int .i64 cx, .int .i64 cy]] w fun e w' => e = .returned (.int .i64 0) ∧ Below w.heap.size w w' := by
  have gd := fun x y xs ys W => pt_guard .eql x y xs ys W
  have e1 := fun W => pt_same_eql ax ay W
  have e2 := fun W => pt_same_eql cx cy W
  have c1 := Lib.hid fun W => ron_any cx cy cx cy ax ay h3 h3 h1 W
  have c2 := Lib.hid fun W => ron_any ax ay ax ay cx cy h1 h1 h3 W
  rw [ho] at c1
  rw [ho2] at c2
  clear h1 h3 ho ho2
  go_enter Try.func35, Try.ntmps35
  go_wp2_with fail
  refine (c1.out _).mono ?_
  rintro e w1 ⟨rfl, hb1⟩
  have HH1 := Lib.hid (((((((Blks.nil (w := w))).new (w.heap.size) 46 [.int .i64 ax, .int .i64 ay] rfl).new (w.heap.size + 1) 46 [.int .i64 ax, .int .i64 ay] (by simp)).new (w.heap.size + 1 + 1) 46 [.int .i64 cx, .int .i64 cy] (by simp)).new (w.heap.size + 1 + 1 + 1) 46 [.int .i64 cx, .int .i64 cy] (by simp)).below hb1)
  have HB1 := Lib.hid (below_trans (below_alloc (below_alloc (below_alloc (below_alloc (Below.refl _ _) _) _) _) _) hb1)
  clear hb1
  have B1_0 : Blk w1 (w.heap.size) 46 #[.int .i64 ax, .int .i64 ay] := HH1.out (w.heap.size, 46, [.int .i64 ax, .int .i64 ay]) (by simp)
  have k1_0_0 : w1.cell? ⟨w.heap.size, 0, none⟩ = some (.int .i64 ax) := B1_0.cell 0
  have k1_0_1 : w1.cell? ⟨w.heap.size, 1, none⟩ = some (.int .i64 ay) := B1_0.cell 1
  have z1_0 : w.heap.size < w1.heap.size := B1_0.lt
  clear B1_0
  have B1_1 : Blk w1 (w.heap.size + 1) 46 #[.int .i64 ax, .int .i64 ay] := HH1.out (w.heap.size + 1, 46, [.int .i64 ax, .int .i64 ay]) (by simp)
  have k1_1_0 : w1.cell? ⟨w.heap.size + 1, 0, none⟩ = some (.int .i64 ax) := B1_1.cell 0
  have k1_1_1 : w1.cell? ⟨w.heap.size + 1, 1, none⟩ = some (.int .i64 ay) := B1_1.cell 1
  have z1_1 : w.heap.size + 1 < w1.heap.size := B1_1.lt
  clear B1_1
  have B1_2 : Blk w1 (w.heap.size + 1 + 1) 46 #[.int .i64 cx, .int .i64 cy] := HH1.out (w.heap.size + 1 + 1, 46, [.int .i64 cx, .int .i64 cy]) (by simp)
  have k1_2_0 : w1.cell? ⟨w.heap.size + 1 + 1, 0, none⟩ = some (.int .i64 cx) := B1_2.cell 0
  have k1_2_1 : w1.cell? ⟨w.heap.size + 1 + 1, 1, none⟩ = some (.int .i64 cy) := B1_2.cell 1
  have z1_2 : w.heap.size + 1 + 1 < w1.heap.size := B1_2.lt
  clear B1_2
  have B1_3 : Blk w1 (w.heap.size + 1 + 1 + 1) 46 #[.int .i64 cx, .int .i64 cy] := HH1.out (w.heap.size + 1 + 1 + 1, 46, [.int .i64 cx, .int .i64 cy]) (by simp)
  have k1_3_0 : w1.cell? ⟨w.heap.size + 1 + 1 + 1, 0, none⟩ = some (.int .i64 cx) := B1_3.cell 0
  have k1_3_1 : w1.cell? ⟨w.heap.size + 1 + 1 + 1, 1, none⟩ = some (.int .i64 cy) := B1_3.cell 1
  have z1_3 : w.heap.size + 1 + 1 + 1 < w1.heap.size := B1_3.lt
  clear B1_3
  go_wp2_with fail
  refine (c2.out _).mono ?_
  rintro e w2 ⟨rfl, hb2⟩
  have HH2 := Lib.hid ((HH1.out).below hb2)
  have HB2 := Lib.hid (below_trans (HB1.out) hb2)
  clear k1_0_0 k1_0_1 z1_0 k1_1_0 k1_1_1 z1_1 k1_2_0 k1_2_1 z1_2 k1_3_0 k1_3_1 z1_3
  clear hb2
  clear HH1 HB1
  have B2_0 : Blk w2 (w.heap.size) 46 #[.int .i64 ax, .int .i64 ay] := HH2.out (w.heap.size, 46, [.int .i64 ax, .int .i64 ay]) (by simp)
  have k2_0_0 : w2.cell? ⟨w.heap.size, 0, none⟩ = some (.int .i64 ax) := B2_0.cell 0
  have k2_0_1 : w2.cell? ⟨w.heap.size, 1, none⟩ = some (.int .i64 ay) := B2_0.cell 1
  have z2_0 : w.heap.size < w2.heap.size := B2_0.lt
  clear B2_0
  have B2_1 : Blk w2 (w.heap.size + 1) 46 #[.int .i64 ax, .int .i64 ay] := HH2.out (w.heap.size + 1, 46, [.int .i64 ax, .int .i64 ay]) (by simp)
  have k2_1_0 : w2.cell? ⟨w.heap.size + 1, 0, none⟩ = some (.int .i64 ax) := B2_1.cell 0
  have k2_1_1 : w2.cell? ⟨w.heap.size + 1, 1, none⟩ = some (.int .i64 ay) := B2_1.cell 1
  have z2_1 : w.heap.size + 1 < w2.heap.size := B2_1.lt
  clear B2_1
  have B2_2 : Blk w2 (w.heap.size + 1 + 1) 46 #[.int .i64 cx, .int .i64 cy] := HH2.out (w.heap.size + 1 + 1, 46, [.int .i64 cx, .int .i64 cy]) (by simp)
  have k2_2_0 : w2.cell? ⟨w.heap.size + 1 + 1, 0, none⟩ = some (.int .i64 cx) := B2_2.cell 0
  have k2_2_1 : w2.cell? ⟨w.heap.size + 1 + 1, 1, none⟩ = some (.int .i64 cy) := B2_2.cell 1
  have z2_2 : w.heap.size + 1 + 1 < w2.heap.size := B2_2.lt
  clear B2_2
  have B2_3 : Blk w2 (w.heap.size + 1 + 1 + 1) 46 #[.int .i64 cx, .int .i64 cy] := HH2.out (w.heap.size + 1 + 1 + 1, 46, [.int .i64 cx, .int .i64 cy]) (by simp)
  have k2_3_0 : w2.cell? ⟨w.heap.size + 1 + 1 + 1, 0, none⟩ = some (.int .i64 cx) := B2_3.cell 0
  have k2_3_1 : w2.cell? ⟨w.heap.size + 1 + 1 + 1, 1, none⟩ = some (.int .i64 cy) := B2_3.cell 1
  have z2_3 : w.heap.size + 1 + 1 + 1 < w2.heap.size := B2_3.lt
  clear B2_3
  go_wp2
  go_returns
  exact ⟨rfl, by repeat (first | with_reducible exact HB2.out | with_reducible refine Below.drew ?_ | with_reducible refine below_drewN ?_ _ | with_reducible refine below_set ?_ (by have := HB2.out.size; simp <;> omega) _ | with_reducible refine below_alloc ?_ _)⟩
set_option maxHeartbeats 800000 in
theorem rmeet_2a (ax ay bx bY cx cy : Int) (h1 : in2 ax ay = true) (h2 : in2 bx bY = true) (h3 : in2 cx cy = true) (hab : ¬ (ax = bx ∧ ay = bY)) (ho : onB ax ay bx bY cx cy = true) (w : World) : Calls Try.prog 35 #[.agg #[.int .i64 ax, .int .i64 ay], .agg #[.int .i64 bx, .int .i64 bY], .agg #[.int .i64 cx, .int .i64 cy], .agg #[.int .i64 cx, .int .i64 cy]] w fun e w' => e = .returned (.int .i64 1) ∧ Below w.heap.size w w' := by
  have gd := fun x y xs ys W => pt_guard .eql x y xs ys W
  have e1 := fun W => pt_diff_eql hab W
  have e2 := fun W => pt_same_eql cx cy W
  have c1 := Lib.hid fun W => ron_any ax ay bx bY cx cy h1 h2 h3 W
  rw [ho] at c1
  clear h1 h2 h3 ho hab
  go_enter Try.func35, Try.ntmps35
  go_wp2_with fail
  refine (c1.out _).mono ?_
  rintro e w1 ⟨rfl, hb1⟩
  have HH1 := Lib.hid (((((((Blks.nil (w := w))).new (w.heap.size) 46 [.int .i64 ax, .int .i64 ay] rfl).new (w.heap.size + 1) 46 [.int .i64 bx, .int .i64 bY] (by simp)).new (w.heap.size + 1 + 1) 46 [.int .i64 cx, .int .i64 cy] (by simp)).new (w.heap.size + 1 + 1 + 1) 46 [.int .i64 cx, .int .i64 cy] (by simp)).below hb1)
  have HB1 := Lib.hid (below_trans (below_alloc (below_alloc (below_alloc (below_alloc (Below.refl _ _) _) _) _) _) hb1)
  clear hb1
  have B1_0 : Blk w1 (w.heap.size) 46 #[.int .i64 ax, .int .i64 ay] := HH1.out (w.heap.size, 46, [.int .i64 ax, .int .i64 ay]) (by simp)
  have k1_0_0 : w1.cell? ⟨w.heap.size, 0, none⟩ = some (.int .i64 ax) := B1_0.cell 0
  have k1_0_1 : w1.cell? ⟨w.heap.size, 1, none⟩ = some (.int .i64 ay) := B1_0.cell 1
  have z1_0 : w.heap.size < w1.heap.size := B1_0.lt
  clear B1_0
  have B1_1 : Blk w1 (w.heap.size + 1) 46 #[.int .i64 bx, .int .i64 bY] := HH1.out (w.heap.size + 1, 46, [.int .i64 bx, .int .i64 bY]) (by simp)
  have k1_1_0 : w1.cell? ⟨w.heap.size + 1, 0, none⟩ = some (.int .i64 bx) := B1_1.cell 0
  have k1_1_1 : w1.cell? ⟨w.heap.size + 1, 1, none⟩ = some (.int .i64 bY) := B1_1.cell 1
  have z1_1 : w.heap.size + 1 < w1.heap.size := B1_1.lt
  clear B1_1
  have B1_2 : Blk w1 (w.heap.size + 1 + 1) 46 #[.int .i64 cx, .int .i64 cy] := HH1.out (w.heap.size + 1 + 1, 46, [.int .i64 cx, .int .i64 cy]) (by simp)
  have k1_2_0 : w1.cell? ⟨w.heap.size + 1 + 1, 0, none⟩ = some (.int .i64 cx) := B1_2.cell 0
  have k1_2_1 : w1.cell? ⟨w.heap.size + 1 + 1, 1, none⟩ = some (.int .i64 cy) := B1_2.cell 1
  have z1_2 : w.heap.size + 1 + 1 < w1.heap.size := B1_2.lt
  clear B1_2
  have B1_3 : Blk w1 (w.heap.size + 1 + 1 + 1) 46 #[.int .i64 cx, .int .i64 cy] := HH1.out (w.heap.size + 1 + 1 + 1, 46, [.int .i64 cx, .int .i64 cy]) (by simp)
  have k1_3_0 : w1.cell? ⟨w.heap.size + 1 + 1 + 1, 0, none⟩ = some (.int .i64 cx) := B1_3.cell 0
  have k1_3_1 : w1.cell? ⟨w.heap.size + 1 + 1 + 1, 1, none⟩ = some (.int .i64 cy) := B1_3.cell 1
  have z1_3 : w.heap.size + 1 + 1 + 1 < w1.heap.size := B1_3.lt
  clear B1_3
  go_wp2
  go_returns
  exact ⟨rfl, by repeat (first | with_reducible exact HB1.out | with_reducible refine Below.drew ?_ | with_reducible refine below_drewN ?_ _ | with_reducible refine below_set ?_ (by have := HB1.out.size; simp <;> omega) _ | with_reducible refine below_alloc ?_ _)⟩
set_option maxHeartbeats 800000 in
theorem rmeet_2b (ax ay bx bY cx cy : Int) (h1 : in2 ax ay = true) (h2 : in2 bx bY = true) (h3 : in2 cx cy = true) (hab : ¬ (ax = bx ∧ ay = bY)) (ho : onB ax ay bx bY cx cy = false) (w : World) : Calls Try.prog 35 #[.agg #[.int .i64 ax, .int .i64 ay], .agg #[.int .i64 bx, .int .i64 bY], .agg #[.int .i64 cx, .int .i64 cy], .agg #[.int .i64 cx, .int .i64 cy]] w fun e w' => e = .returned (.int .i64 0) ∧ Below w.heap.size w w' := by
  have gd := fun x y xs ys W => pt_guard .eql x y xs ys W
  have e1 := fun W => pt_diff_eql hab W
  have e2 := fun W => pt_same_eql cx cy W
  have c1 := Lib.hid fun W => ron_any ax ay bx bY cx cy h1 h2 h3 W
  rw [ho] at c1
  clear h1 h2 h3 ho hab
  go_enter Try.func35, Try.ntmps35
  go_wp2_with fail
  refine (c1.out _).mono ?_
  rintro e w1 ⟨rfl, hb1⟩
  have HH1 := Lib.hid (((((((Blks.nil (w := w))).new (w.heap.size) 46 [.int .i64 ax, .int .i64 ay] rfl).new (w.heap.size + 1) 46 [.int .i64 bx, .int .i64 bY] (by simp)).new (w.heap.size + 1 + 1) 46 [.int .i64 cx, .int .i64 cy] (by simp)).new (w.heap.size + 1 + 1 + 1) 46 [.int .i64 cx, .int .i64 cy] (by simp)).below hb1)
  have HB1 := Lib.hid (below_trans (below_alloc (below_alloc (below_alloc (below_alloc (Below.refl _ _) _) _) _) _) hb1)
  clear hb1
  have B1_0 : Blk w1 (w.heap.size) 46 #[.int .i64 ax, .int .i64 ay] := HH1.out (w.heap.size, 46, [.int .i64 ax, .int .i64 ay]) (by simp)
  have k1_0_0 : w1.cell? ⟨w.heap.size, 0, none⟩ = some (.int .i64 ax) := B1_0.cell 0
  have k1_0_1 : w1.cell? ⟨w.heap.size, 1, none⟩ = some (.int .i64 ay) := B1_0.cell 1
  have z1_0 : w.heap.size < w1.heap.size := B1_0.lt
  clear B1_0
  have B1_1 : Blk w1 (w.heap.size + 1) 46 #[.int .i64 bx, .int .i64 bY] := HH1.out (w.heap.size + 1, 46, [.int .i64 bx, .int .i64 bY]) (by simp)
  have k1_1_0 : w1.cell? ⟨w.heap.size + 1, 0, none⟩ = some (.int .i64 bx) := B1_1.cell 0
  have k1_1_1 : w1.cell? ⟨w.heap.size + 1, 1, none⟩ = some (.int .i64 bY) := B1_1.cell 1
  have z1_1 : w.heap.size + 1 < w1.heap.size := B1_1.lt
  clear B1_1
  have B1_2 : Blk w1 (w.heap.size + 1 + 1) 46 #[.int .i64 cx, .int .i64 cy] := HH1.out (w.heap.size + 1 + 1, 46, [.int .i64 cx, .int .i64 cy]) (by simp)
  have k1_2_0 : w1.cell? ⟨w.heap.size + 1 + 1, 0, none⟩ = some (.int .i64 cx) := B1_2.cell 0
  have k1_2_1 : w1.cell? ⟨w.heap.size + 1 + 1, 1, none⟩ = some (.int .i64 cy) := B1_2.cell 1
  have z1_2 : w.heap.size + 1 + 1 < w1.heap.size := B1_2.lt
  clear B1_2
  have B1_3 : Blk w1 (w.heap.size + 1 + 1 + 1) 46 #[.int .i64 cx, .int .i64 cy] := HH1.out (w.heap.size + 1 + 1 + 1, 46, [.int .i64 cx, .int .i64 cy]) (by simp)
  have k1_3_0 : w1.cell? ⟨w.heap.size + 1 + 1 + 1, 0, none⟩ = some (.int .i64 cx) := B1_3.cell 0
  have k1_3_1 : w1.cell? ⟨w.heap.size + 1 + 1 + 1, 1, none⟩ = some (.int .i64 cy) := B1_3.cell 1
  have z1_3 : w.heap.size + 1 + 1 + 1 < w1.heap.size := B1_3.lt
  clear B1_3
  go_wp2
  go_returns
  exact ⟨rfl, by repeat (first | with_reducible exact HB1.out | with_reducible refine Below.drew ?_ | with_reducible refine below_drewN ?_ _ | with_reducible refine below_set ?_ (by have := HB1.out.size; simp <;> omega) _ | with_reducible refine below_alloc ?_ _)⟩
theorem sorted_any (ax ay bx bY : Int) (w : World) : Calls Try.prog 51 #[.agg #[.int .i64 ax, .int .i64 ay], .agg #[.int .i64 bx, .int .i64 bY]] w fun e w' => e = .returned (.tuple #[.agg #[.int .i64 (fst2 ax ay bx bY).1, .int .i64 (fst2 ax ay bx bY).2], .agg #[.int .i64 (lst2 ax ay bx bY).1, .int .i64 (lst2 ax ay bx bY).2]]) ∧ Below w.heap.size w w' := by
  have h := fst2_if ax ay bx bY
  rcases hb : bef bx bY ax ay with _ | _
  · have hl := bef_no.1 hb
    rw [(h.1 hl).1, (h.1 hl).2]
    exact sorted_no ax ay bx bY hb w
  · have hl := bef_iff.1 hb
    rw [(h.2 hl).1, (h.2 hl).2]
    exact sorted_yes ax ay bx bY hb w
end Go.Proofs.Ytkfdbhhchnbjdaa.Ve
