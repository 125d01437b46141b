/- The reference's Meet; the walk of VectorMeets. -/
import Derived.Test.YtkfdbhhchnbjdaaVeN2
import Derived.Test.YtkfdbhhchnbjdaaVeN3
namespace Go.Proofs.Ytkfdbhhchnbjdaa.Ve
open Go.RowKit Ba
set_option linter.unusedVariables false
set_option linter.unusedSimpArgs false

theorem pair_if (p q : Int × Int) : (if bef p.1 p.2 q.1 q.2 then 2 else if p = q then 1 else 0 : Int) = if bef p.1 p.2 q.1 q.2 = true then 2 else if p.1 = q.1 ∧ p.2 = q.2 then 1 else 0 := by
  have : (p = q) = (p.1 = q.1 ∧ p.2 = q.2) := by rw [Prod.ext_iff]
  simp only [this]
theorem rmeet_any (ax ay bx bY cx cy dx dy : Int) (h1 : in2 ax ay = true) (h2 : in2 bx bY = true) (h3 : in2 cx cy = true) (h4 : in2 dx dy = true) (w : World) : Calls Try.prog 35 #[.agg #[.int .i64 ax, .int .i64 ay], .agg #[.int .i64 bx, .int .i64 bY], .agg #[.int .i64 cx, .int .i64 cy], .agg #[.int .i64 dx, .int .i64 dy]] w fun e w' => e = .returned (.int .i64 (rmeetI ax ay bx bY cx cy dx dy)) ∧ Below w.heap.size w w' := by

  by_cases hab : ax = bx ∧ ay = bY
  · obtain ⟨rfl, rfl⟩ := hab
    rcases ho : onB cx cy dx dy ax ay with _ | _
    · by_cases hcd : cx = dx ∧ cy = dy
      · obtain ⟨rfl, rfl⟩ := hcd
        have ho2 : onB ax ay ax ay cx cy = false := by
          rcases h : onB ax ay ax ay cx cy with _ | _
          · rfl
          · rw [on_same h] at ho; cases ho
        have hv : rmeetI ax ay ax ay cx cy cx cy = 0 := by unfold rmeetI; rw [if_pos (.inl ⟨rfl, rfl⟩), if_neg (by simp [ho, ho2])]
        rw [hv]
        exact rmeet_1c ax ay cx cy h1 h3 ho ho2 w
      · have hv : rmeetI ax ay ax ay cx cy dx dy = 0 := by unfold rmeetI; rw [if_pos (.inl ⟨rfl, rfl⟩), if_neg (by rintro (⟨_, h⟩ | ⟨h, _⟩); rw [ho] at h; cases h; exact hcd h)]
        rw [hv]
        exact rmeet_1b ax ay cx cy dx dy h1 h3 h4 ho hcd w
    · have hv : rmeetI ax ay ax ay cx cy dx dy = 1 := by unfold rmeetI; rw [if_pos (.inl ⟨rfl, rfl⟩), if_pos (.inl ⟨⟨rfl, rfl⟩, ho⟩)]
      rw [hv]
      exact rmeet_1a ax ay cx cy dx dy h1 h3 h4 ho w
  by_cases hcd : cx = dx ∧ cy = dy
  · obtain ⟨rfl, rfl⟩ := hcd
    rcases ho : onB ax ay bx bY cx cy with _ | _
    · have hv : rmeetI ax ay bx bY cx cy cx cy = 0 := by unfold rmeetI; rw [if_pos (.inr ⟨rfl, rfl⟩), if_neg (by rintro (⟨h, _⟩ | ⟨_, h⟩); exact hab h; rw [ho] at h; cases h)]
      rw [hv]
      exact rmeet_2b ax ay bx bY cx cy h1 h2 h3 hab ho w
    · have hv : rmeetI ax ay bx bY cx cy cx cy = 1 := by unfold rmeetI; rw [if_pos (.inr ⟨rfl, rfl⟩), if_pos (.inr ⟨⟨rfl, rfl⟩, ho⟩)]
      rw [hv]
      exact rmeet_2a ax ay bx bY cx cy h1 h2 h3 hab ho w
  have hor : ¬ ((ax = bx ∧ ay = bY) ∨ (cx = dx ∧ cy = dy)) := by rintro (h | h); exact hab h; exact hcd h
  by_cases ht : turnI ax ay bx bY cx cy = 0 ∧ turnI ax ay bx bY dx dy = 0
  · have hr : rmeetI ax ay bx bY cx cy dx dy = (if bef (lateP (fst2 ax ay bx bY) (fst2 cx cy dx dy)).1 (lateP (fst2 ax ay bx bY) (fst2 cx cy dx dy)).2 (earlyP (lst2 ax ay bx bY) (lst2 cx cy dx dy)).1 (earlyP (lst2 ax ay bx bY) (lst2 cx cy dx dy)).2 then 2
     else if lateP (fst2 ax ay bx bY) (fst2 cx cy dx dy) = earlyP (lst2 ax ay bx bY) (lst2 cx cy dx dy) then 1 else 0) := by unfold rmeetI; rw [if_neg hor, if_pos ht]
    rw [pair_if] at hr
    rcases hb1 : bef (fst2 ax ay bx bY).1 (fst2 ax ay bx bY).2 (fst2 cx cy dx dy).1 (fst2 cx cy dx dy).2 with _ | _ <;>
      rcases hb2 : bef (lst2 cx cy dx dy).1 (lst2 cx cy dx dy).2 (lst2 ax ay bx bY).1 (lst2 ax ay bx bY).2 with _ | _ <;>
      (unfold lateP earlyP at hr; rw [hb1, hb2] at hr; simp only [Bool.false_eq_true, if_false, if_true] at hr)
    · exact rmeet_3ann ax ay bx bY cx cy dx dy _ h1 h2 h3 h4 hab hcd ht.1 ht.2 hb1 hb2 hr w
    · exact rmeet_3any ax ay bx bY cx cy dx dy _ h1 h2 h3 h4 hab hcd ht.1 ht.2 hb1 hb2 hr w
    · exact rmeet_3ayn ax ay bx bY cx cy dx dy _ h1 h2 h3 h4 hab hcd ht.1 ht.2 hb1 hb2 hr w
    · exact rmeet_3ayy ax ay bx bY cx cy dx dy _ h1 h2 h3 h4 hab hcd ht.1 ht.2 hb1 hb2 hr w
  have hr : rmeetI ax ay bx bY cx cy dx dy = if turnI ax ay bx bY cx cy * turnI ax ay bx bY dx dy ≤ 0 ∧ turnI cx cy dx dy ax ay * turnI cx cy dx dy bx bY ≤ 0 then 1 else 0 := by unfold rmeetI; rw [if_neg hor, if_neg ht]
  by_cases e1 : turnI ax ay bx bY cx cy = 0
  · have e2 : ¬ turnI ax ay bx bY dx dy = 0 := fun h => ht ⟨e1, h⟩
    have hp : turnI ax ay bx bY cx cy * turnI ax ay bx bY dx dy ≤ 0 := by rw [e1, Int.zero_mul]; exact Int.le_refl _
    by_cases hq : turnI cx cy dx dy ax ay * turnI cx cy dx dy bx bY ≤ 0
    · rw [hr, if_pos ⟨hp, hq⟩]; exact rmeet_3b22 ax ay bx bY cx cy dx dy h1 h2 h3 h4 hab hcd e1 e2 hp hq w
    · rw [hr, if_neg (fun h => hq h.2)]; exact rmeet_3b21 ax ay bx bY cx cy dx dy h1 h2 h3 h4 hab hcd e1 e2 hp (by omega) w
  · by_cases hp : turnI ax ay bx bY cx cy * turnI ax ay bx bY dx dy ≤ 0
    · by_cases hq : turnI cx cy dx dy ax ay * turnI cx cy dx dy bx bY ≤ 0
      · rw [hr, if_pos ⟨hp, hq⟩]; exact rmeet_3b12 ax ay bx bY cx cy dx dy h1 h2 h3 h4 hab hcd e1 hp hq w
      · rw [hr, if_neg (fun h => hq h.2)]; exact rmeet_3b11 ax ay bx bY cx cy dx dy h1 h2 h3 h4 hab hcd e1 hp (by omega) w
    · rw [hr, if_neg (fun h => hp h.1)]; exact rmeet_3b10 ax ay bx bY cx cy dx dy h1 h2 h3 h4 hab hcd e1 (by omega) w

set_option maxHeartbeats 800000 in
theorem meets_n1 (ax ay bx bY cx cy dx dy : Int) {v2 : Bool} {v3 : Bool} {v4 : Bool} (h1 : in2 ax ay = false) (h2 : in2 bx bY = v2) (h3 : in2 cx cy = v3) (h4 : in2 dx dy = v4) (w : World) : Calls Try.prog 7 #[.agg #[.int .i64 ax, .int .i64 ay], .agg #[.int .i64 bx, .int .i64 bY], .agg #[.int .i64 cx, .int .i64 cy], .agg #[.int .i64 dx, .int .i64 dy]] w fun e w' => e = .returned (.bool true) ∧ Below w.heap.size w w' := by
  have c0 := Lib.hid fun W => awake_any W
  have i1 := Lib.hid fun W => rInPoint_any ax ay W
  have i2 := Lib.hid fun W => rInPoint_any bx bY W
  have i3 := Lib.hid fun W => rInPoint_any cx cy W
  have i4 := Lib.hid fun W => rInPoint_any dx dy W
  have c1 := Lib.hid fun W => meetP_no ax ay bx bY cx cy dx dy (fun hh => by simp [h1] at hh) W
  rw [h1] at i1
  rw [h2] at i2
  rw [h3] at i3
  rw [h4] at i4
  clear h1 h2 h3 h4
  go_enter Try.func7, Try.ntmps7
  go_wp2_with fail
  refine (c0.out _).mono ?_
  rintro e w1 ⟨rfl, hb1⟩
  have HH1 := Lib.hid (((((((Blks.nil (w := w))).new (w.heap.size) 46 [.int .i64 ax, .int .i64 ay] rfl).new (w.heap.size + 1) 46 [.int .i64 bx, .int .i64 bY] (by simp)).new (w.heap.size + 1 + 1) 46 [.int .i64 cx, .int .i64 cy] (by simp)).new (w.heap.size + 1 + 1 + 1) 46 [.int .i64 dx, .int .i64 dy] (by simp)).below hb1)
  have HB1 := Lib.hid (below_trans (below_alloc (below_alloc (below_alloc (below_alloc (Below.refl _ _) _) _) _) _) hb1)
  clear hb1
  have B1_0 : Blk w1 (w.heap.size) 46 #[.int .i64 ax, .int .i64 ay] := HH1.out (w.heap.size, 46, [.int .i64 ax, .int .i64 ay]) (by simp)
  have k1_0_0 : w1.cell? ⟨w.heap.size, 0, none⟩ = some (.int .i64 ax) := B1_0.cell 0
  have k1_0_1 : w1.cell? ⟨w.heap.size, 1, none⟩ = some (.int .i64 ay) := B1_0.cell 1
  have z1_0 : w.heap.size < w1.heap.size := B1_0.lt
  clear B1_0
  have B1_1 : Blk w1 (w.heap.size + 1) 46 #[.int .i64 bx, .int .i64 bY] := HH1.out (w.heap.size + 1, 46, [.int .i64 bx, .int .i64 bY]) (by simp)
  have k1_1_0 : w1.cell? ⟨w.heap.size + 1, 0, none⟩ = some (.int .i64 bx) := B1_1.cell 0
  have k1_1_1 : w1.cell? ⟨w.heap.size + 1, 1, none⟩ = some (.int .i64 bY) := B1_1.cell 1
  have z1_1 : w.heap.size + 1 < w1.heap.size := B1_1.lt
  clear B1_1
  have B1_2 : Blk w1 (w.heap.size + 1 + 1) 46 #[.int .i64 cx, .int .i64 cy] := HH1.out (w.heap.size + 1 + 1, 46, [.int .i64 cx, .int .i64 cy]) (by simp)
  have k1_2_0 : w1.cell? ⟨w.heap.size + 1 + 1, 0, none⟩ = some (.int .i64 cx) := B1_2.cell 0
  have k1_2_1 : w1.cell? ⟨w.heap.size + 1 + 1, 1, none⟩ = some (.int .i64 cy) := B1_2.cell 1
  have z1_2 : w.heap.size + 1 + 1 < w1.heap.size := B1_2.lt
  clear B1_2
  have B1_3 : Blk w1 (w.heap.size + 1 + 1 + 1) 46 #[.int .i64 dx, .int .i64 dy] := HH1.out (w.heap.size + 1 + 1 + 1, 46, [.int .i64 dx, .int .i64 dy]) (by simp)
  have k1_3_0 : w1.cell? ⟨w.heap.size + 1 + 1 + 1, 0, none⟩ = some (.int .i64 dx) := B1_3.cell 0
  have k1_3_1 : w1.cell? ⟨w.heap.size + 1 + 1 + 1, 1, none⟩ = some (.int .i64 dy) := B1_3.cell 1
  have z1_3 : w.heap.size + 1 + 1 + 1 < w1.heap.size := B1_3.lt
  clear B1_3
  go_wp2_with fail
  refine (c1.out _).mono ?_
  rintro e w2 ⟨rfl, hb2⟩
  have HH2 := Lib.hid ((HH1.out).below hb2)
  have HB2 := Lib.hid (below_trans (HB1.out) hb2)
  clear k1_0_0 k1_0_1 z1_0 k1_1_0 k1_1_1 z1_1 k1_2_0 k1_2_1 z1_2 k1_3_0 k1_3_1 z1_3
  clear hb2
  clear HH1 HB1
  have B2_0 : Blk w2 (w.heap.size) 46 #[.int .i64 ax, .int .i64 ay] := HH2.out (w.heap.size, 46, [.int .i64 ax, .int .i64 ay]) (by simp)
  have k2_0_0 : w2.cell? ⟨w.heap.size, 0, none⟩ = some (.int .i64 ax) := B2_0.cell 0
  have k2_0_1 : w2.cell? ⟨w.heap.size, 1, none⟩ = some (.int .i64 ay) := B2_0.cell 1
  have z2_0 : w.heap.size < w2.heap.size := B2_0.lt
  clear B2_0
  have B2_1 : Blk w2 (w.heap.size + 1) 46 #[.int .i64 bx, .int .i64 bY] := HH2.out (w.heap.size + 1, 46, [.int .i64 bx, .int .i64 bY]) (by simp)
  have k2_1_0 : w2.cell? ⟨w.heap.size + 1, 0, none⟩ = some (.int .i64 bx) := B2_1.cell 0
  have k2_1_1 : w2.cell? ⟨w.heap.size + 1, 1, none⟩ = some (.int .i64 bY) := B2_1.cell 1
  have z2_1 : w.heap.size + 1 < w2.heap.size := B2_1.lt
  clear B2_1
  have B2_2 : Blk w2 (w.heap.size + 1 + 1) 46 #[.int .i64 cx, .int .i64 cy] := HH2.out (w.heap.size + 1 + 1, 46, [.int .i64 cx, .int .i64 cy]) (by simp)
  have k2_2_0 : w2.cell? ⟨w.heap.size + 1 + 1, 0, none⟩ = some (.int .i64 cx) := B2_2.cell 0
  have k2_2_1 : w2.cell? ⟨w.heap.size + 1 + 1, 1, none⟩ = some (.int .i64 cy) := B2_2.cell 1
  have z2_2 : w.heap.size + 1 + 1 < w2.heap.size := B2_2.lt
  clear B2_2
  have B2_3 : Blk w2 (w.heap.size + 1 + 1 + 1) 46 #[.int .i64 dx, .int .i64 dy] := HH2.out (w.heap.size + 1 + 1 + 1, 46, [.int .i64 dx, .int .i64 dy]) (by simp)
  have k2_3_0 : w2.cell? ⟨w.heap.size + 1 + 1 + 1, 0, none⟩ = some (.int .i64 dx) := B2_3.cell 0
  have k2_3_1 : w2.cell? ⟨w.heap.size + 1 + 1 + 1, 1, none⟩ = some (.int .i64 dy) := B2_3.cell 1
  have z2_3 : w.heap.size + 1 + 1 + 1 < w2.heap.size := B2_3.lt
  clear B2_3
  go_wp2_with fail
  refine (i1.out _).mono ?_
  rintro e w3 ⟨rfl, hb3⟩
  have HH3 := Lib.hid ((HH2.out).below hb3)
  have HB3 := Lib.hid (below_trans (HB2.out) hb3)
  clear k2_0_0 k2_0_1 z2_0 k2_1_0 k2_1_1 z2_1 k2_2_0 k2_2_1 z2_2 k2_3_0 k2_3_1 z2_3
  clear hb3
  clear HH2 HB2
  have B3_0 : Blk w3 (w.heap.size) 46 #[.int .i64 ax, .int .i64 ay] := HH3.out (w.heap.size, 46, [.int .i64 ax, .int .i64 ay]) (by simp)
  have k3_0_0 : w3.cell? ⟨w.heap.size, 0, none⟩ = some (.int .i64 ax) := B3_0.cell 0
  have k3_0_1 : w3.cell? ⟨w.heap.size, 1, none⟩ = some (.int .i64 ay) := B3_0.cell 1
  have z3_0 : w.heap.size < w3.heap.size := B3_0.lt
  clear B3_0
  have B3_1 : Blk w3 (w.heap.size + 1) 46 #[.int .i64 bx, .int .i64 bY] := HH3.out (w.heap.size + 1, 46, [.int .i64 bx, .int .i64 bY]) (by simp)
  have k3_1_0 : w3.cell? ⟨w.heap.size + 1, 0, none⟩ = some (.int .i64 bx) := B3_1.cell 0
  have k3_1_1 : w3.cell? ⟨w.heap.size + 1, 1, none⟩ = some (.int .i64 bY) := B3_1.cell 1
  have z3_1 : w.heap.size + 1 < w3.heap.size := B3_1.lt
  clear B3_1
  have B3_2 : Blk w3 (w.heap.size + 1 + 1) 46 #[.int .i64 cx, .int .i64 cy] := HH3.out (w.heap.size + 1 + 1, 46, [.int .i64 cx, .int .i64 cy]) (by simp)
  have k3_2_0 : w3.cell? ⟨w.heap.size + 1 + 1, 0, none⟩ = some (.int .i64 cx) := B3_2.cell 0
  have k3_2_1 : w3.cell? ⟨w.heap.size + 1 + 1, 1, none⟩ = some (.int .i64 cy) := B3_2.cell 1
  have z3_2 : w.heap.size + 1 + 1 < w3.heap.size := B3_2.lt
  clear B3_2
  have B3_3 : Blk w3 (w.heap.size + 1 + 1 + 1) 46 #[.int .i64 dx, .int .i64 dy] := HH3.out (w.heap.size + 1 + 1 + 1, 46, [.int .i64 dx, .int .i64 dy]) (by simp)
  have k3_3_0 : w3.cell? ⟨w.heap.size + 1 + 1 + 1, 0, none⟩ = some (.int .i64 dx) := B3_3.cell 0
  have k3_3_1 : w3.cell? ⟨w.heap.size + 1 + 1 + 1, 1, none⟩ = some (.int .i64 dy) := B3_3.cell 1
  have z3_3 : w.heap.size + 1 + 1 + 1 < w3.heap.size := B3_3.lt
  clear B3_3
  go_wp2
  go_returns
  exact ⟨rfl, by repeat (first | with_reducible exact HB3.out | with_reducible refine Below.drew ?_ | with_reducible refine below_drewN ?_ _ | with_reducible refine below_set ?_ (by have := HB3.out.size; simp <;> omega) _ | with_reducible refine below_alloc ?_ _)⟩
set_option maxHeartbeats 800000 in
theorem meets_n2 (ax ay bx bY cx cy dx dy : Int) {v3 : Bool} {v4 : Bool} (h1 : in2 ax ay = true) (h2 : in2 bx bY = false) (h3 : in2 cx cy = v3) (h4 : in2 dx dy = v4) (w : World) : Calls Try.prog 7 #[.agg #[.int .i64 ax, .int .i64 ay], .agg #[.int .i64 bx, .int .i64 bY], .agg #[.int .i64 cx, .int .i64 cy], .agg #[.int .i64 dx, .int .i64 dy]] w fun e w' => e = .returned (.bool true) ∧ Below w.heap.size w w' := by
  have c0 := Lib.hid fun W => awake_any W
  have i1 := Lib.hid fun W => rInPoint_any ax ay W
  have i2 := Lib.hid fun W => rInPoint_any bx bY W
  have i3 := Lib.hid fun W => rInPoint_any cx cy W
  have i4 := Lib.hid fun W => rInPoint_any dx dy W
  have c1 := Lib.hid fun W => meetP_no ax ay bx bY cx cy dx dy (fun hh => by simp [h2] at hh) W
  rw [h1] at i1
  rw [h2] at i2
  rw [h3] at i3
  rw [h4] at i4
  clear h1 h2 h3 h4
  go_enter Try.func7, Try.ntmps7
  go_wp2_with fail
  refine (c0.out _).mono ?_
  rintro e w1 ⟨rfl, hb1⟩
  have HH1 := Lib.hid (((((((Blks.nil (w := w))).new (w.heap.size) 46 [.int .i64 ax, .int .i64 ay] rfl).new (w.heap.size + 1) 46 [.int .i64 bx, .int .i64 bY] (by simp)).new (w.heap.size + 1 + 1) 46 [.int .i64 cx, .int .i64 cy] (by simp)).new (w.heap.size + 1 + 1 + 1) 46 [.int .i64 dx, .int .i64 dy] (by simp)).below hb1)
  have HB1 := Lib.hid (below_trans (below_alloc (below_alloc (below_alloc (below_alloc (Below.refl _ _) _) _) _) _) hb1)
  clear hb1
  have B1_0 : Blk w1 (w.heap.size) 46 #[.int .i64 ax, .int .i64 ay] := HH1.out (w.heap.size, 46, [.int .i64 ax, .int .i64 ay]) (by simp)
  have k1_0_0 : w1.cell? ⟨w.heap.size, 0, none⟩ = some (.int .i64 ax) := B1_0.cell 0
  have k1_0_1 : w1.cell? ⟨w.heap.size, 1, none⟩ = some (.int .i64 ay) := B1_0.cell 1
  have z1_0 : w.heap.size < w1.heap.size := B1_0.lt
  clear B1_0
  have B1_1 : Blk w1 (w.heap.size + 1) 46 #[.int .i64 bx, .int .i64 bY] := HH1.out (w.heap.size + 1, 46, [.int .i64 bx, .int .i64 bY]) (by simp)
  have k1_1_0 : w1.cell? ⟨w.heap.size + 1, 0, none⟩ = some (.int .i64 bx) := B1_1.cell 0
  have k1_1_1 : w1.cell? ⟨w.heap.size + 1, 1, none⟩ = some (.int .i64 bY) := B1_1.cell 1
  have z1_1 : w.heap.size + 1 < w1.heap.size := B1_1.lt
  clear B1_1
  have B1_2 : Blk w1 (w.heap.size + 1 + 1) 46 #[.int .i64 cx, .int .i64 cy] := HH1.out (w.heap.size + 1 + 1, 46, [.int .i64 cx, .int .i64 cy]) (by simp)
  have k1_2_0 : w1.cell? ⟨w.heap.size + 1 + 1, 0, none⟩ = some (.int .i64 cx) := B1_2.cell 0
  have k1_2_1 : w1.cell? ⟨w.heap.size + 1 + 1, 1, none⟩ = some (.int .i64 cy) := B1_2.cell 1
  have z1_2 : w.heap.size + 1 + 1 < w1.heap.size := B1_2.lt
  clear B1_2
  have B1_3 : Blk w1 (w.heap.size + 1 + 1 + 1) 46 #[.int .i64 dx, .int .i64 dy] := HH1.out (w.heap.size + 1 + 1 + 1, 46, [.int .i64 dx, .int .i64 dy]) (by simp)
  have k1_3_0 : w1.cell? ⟨w.heap.size + 1 + 1 + 1, 0, none⟩ = some (.int .i64 dx) := B1_3.cell 0
  have k1_3_1 : w1.cell? ⟨w.heap.size + 1 + 1 + 1, 1, none⟩ = some (.int .i64 dy) := B1_3.cell 1
  have z1_3 : w.heap.size + 1 + 1 + 1 < w1.heap.size := B1_3.lt
  clear B1_3
  go_wp2_with fail
  refine (c1.out _).mono ?_
  rintro e w2 ⟨rfl, hb2⟩
  have HH2 := Lib.hid ((HH1.out).below hb2)
  have HB2 := Lib.hid (below_trans (HB1.out) hb2)
  clear k1_0_0 k1_0_1 z1_0 k1_1_0 k1_1_1 z1_1 k1_2_0 k1_2_1 z1_2 k1_3_0 k1_3_1 z1_3
  clear hb2
  clear HH1 HB1
  have B2_0 : Blk w2 (w.heap.size) 46 #[.int .i64 ax, .int .i64 ay] := HH2.out (w.heap.size, 46, [.int .i64 ax, .int .i64 ay]) (by simp)
  have k2_0_0 : w2.cell? ⟨w.heap.size, 0, none⟩ = some (.int .i64 ax) := B2_0.cell 0
  have k2_0_1 : w2.cell? ⟨w.heap.size, 1, none⟩ = some (.int .i64 ay) := B2_0.cell 1
  have z2_0 : w.heap.size < w2.heap.size := B2_0.lt
  clear B2_0
  have B2_1 : Blk w2 (w.heap.size + 1) 46 #[.int .i64 bx, .int .i64 bY] := HH2.out (w.heap.size + 1, 46, [.int .i64 bx, .int .i64 bY]) (by simp)
  have k2_1_0 : w2.cell? ⟨w.heap.size + 1, 0, none⟩ = some (.int .i64 bx) := B2_1.cell 0
  have k2_1_1 : w2.cell? ⟨w.heap.size + 1, 1, none⟩ = some (.int .i64 bY) := B2_1.cell 1
  have z2_1 : w.heap.size + 1 < w2.heap.size := B2_1.lt
  clear B2_1
  have B2_2 : Blk w2 (w.heap.size + 1 + 1) 46 #[.int .i64 cx, .int .i64 cy] := HH2.out (w.heap.size + 1 + 1, 46, [.int .i64 cx, .int .i64 cy]) (by simp)
  have k2_2_0 : w2.cell? ⟨w.heap.size + 1 + 1, 0, none⟩ = some (.int .i64 cx) := B2_2.cell 0
  have k2_2_1 : w2.cell? ⟨w.heap.size + 1 + 1, 1, none⟩ = some (.int .i64 cy) := B2_2.cell 1
  have z2_2 : w.heap.size + 1 + 1 < w2.heap.size := B2_2.lt
  clear B2_2
  have B2_3 : Blk w2 (w.heap.size + 1 + 1 + 1) 46 #[.int .i64 dx, .int .i64 dy] := HH2.out (w.heap.size + 1 + 1 + 1, 46, [.int .i64 dx, .int .i64 dy]) (by simp)
  have k2_3_0 : w2.cell? ⟨w.heap.size + 1 + 1 + 1, 0, none⟩ = some (.int .i64 dx) := B2_3.cell 0
  have k2_3_1 : w2.cell? ⟨w.heap.size + 1 + 1 + 1, 1, none⟩ = some (.int .i64 dy) := B2_3.cell 1
  have z2_3 : w.heap.size + 1 + 1 + 1 < w2.heap.size := B2_3.lt
  clear B2_3
  go_wp2_with fail
  refine (i1.out _).mono ?_
  rintro e w3 ⟨rfl, hb3⟩
  have HH3 := Lib.hid ((HH2.out).below hb3)
  have HB3 := Lib.hid (below_trans (HB2.out) hb3)
  clear k2_0_0 k2_0_1 z2_0 k2_1_0 k2_1_1 z2_1 k2_2_0 k2_2_1 z2_2 k2_3_0 k2_3_1 z2_3
  clear hb3
  clear HH2 HB2
  have B3_0 : Blk w3 (w.heap.size) 46 #[.int .i64 ax, .int .i64 ay] := HH3.out (w.heap.size, 46, [.int .i64 ax, .int .i64 ay]) (by simp)
  have k3_0_0 : w3.cell? ⟨w.heap.size, 0, none⟩ = some (.int .i64 ax) := B3_0.cell 0
  have k3_0_1 : w3.cell? ⟨w.heap.size, 1, none⟩ = some (.int .i64 ay) := B3_0.cell 1
  have z3_0 : w.heap.size < w3.heap.size := B3_0.lt
  clear B3_0
  have B3_1 : Blk w3 (w.heap.size + 1) 46 #[.int .i64 bx, .int .i64 bY] := HH3.out (w.heap.size + 1, 46, [.int .i64 bx, .int .i64 bY]) (by simp)
  have k3_1_0 : w3.cell? ⟨w.heap.size + 1, 0, none⟩ = some (.int .i64 bx) := B3_1.cell 0
  have k3_1_1 : w3.cell? ⟨w.heap.size + 1, 1, none⟩ = some (.int .i64 bY) := B3_1.cell 1
  have z3_1 : w.heap.size + 1 < w3.heap.size := B3_1.lt
  clear B3_1
  have B3_2 : Blk w3 (w.heap.size + 1 + 1) 46 #[.int .i64 cx, .int .i64 cy] := HH3.out (w.heap.size + 1 + 1, 46, [.int .i64 cx, .int .i64 cy]) (by simp)
  have k3_2_0 : w3.cell? ⟨w.heap.size + 1 + 1, 0, none⟩ = some (.int .i64 cx) := B3_2.cell 0
  have k3_2_1 : w3.cell? ⟨w.heap.size + 1 + 1, 1, none⟩ = some (.int .i64 cy) := B3_2.cell 1
  have z3_2 : w.heap.size + 1 + 1 < w3.heap.size := B3_2.lt
  clear B3_2
  have B3_3 : Blk w3 (w.heap.size + 1 + 1 + 1) 46 #[.int .i64 dx, .int .i64 dy] := HH3.out (w.heap.size + 1 + 1 + 1, 46, [.int .i64 dx, .int .i64 dy]) (by simp)
  have k3_3_0 : w3.cell? ⟨w.heap.size + 1 + 1 + 1, 0, none⟩ = some (.int .i64 dx) := B3_3.cell 0
  have k3_3_1 : w3.cell? ⟨w.heap.size + 1 + 1 + 1, 1, none⟩ = some (.int .i64 dy) := B3_3.cell 1
  have z3_3 : w.heap.size + 1 + 1 + 1 < w3.heap.size := B3_3.lt
  clear B3_3
  go_wp2_with fail
  refine (i2.out _).mono ?_
  rintro e w4 ⟨rfl, hb4⟩
  have HH4 := Lib.hid ((HH3.out).below hb4)
  have HB4 := Lib.hid (below_trans (HB3.out) hb4)
  clear k3_0_0 k3_0_1 z3_0 k3_1_0 k3_1_1 z3_1 k3_2_0 k3_2_1 z3_2 k3_3_0 k3_3_1 z3_3
  clear hb4
  clear HH3 HB3
  have B4_0 : Blk w4 (w.heap.size) 46 #[.int .i64 ax, .int .i64 ay] := HH4.out (w.heap.size, 46, [.int .i64 ax, .int .i64 ay]) (by simp)
  have k4_0_0 : w4.cell? ⟨w.heap.size, 0, none⟩ = some (.int .i64 ax) := B4_0.cell 0
  have k4_0_1 : w4.cell? ⟨w.heap.size, 1, none⟩ = some (.int .i64 ay) := B4_0.cell 1
  have z4_0 : w.heap.size < w4.heap.size := B4_0.lt
  clear B4_0
  have B4_1 : Blk w4 (w.heap.size + 1) 46 #[.int .i64 bx, .int .i64 bY] := HH4.out (w.heap.size + 1, 46, [.int .i64 bx, .int .i64 bY]) (by simp)
  have k4_1_0 : w4.cell? ⟨w.heap.size + 1, 0, none⟩ = some (.int .i64 bx) := B4_1.cell 0
  have k4_1_1 : w4.cell? ⟨w.heap.size + 1, 1, none⟩ = some (.int .i64 bY) := B4_1.cell 1
  have z4_1 : w.heap.size + 1 < w4.heap.size := B4_1.lt
  clear B4_1
  have B4_2 : Blk w4 (w.heap.size + 1 + 1) 46 #[.int .i64 cx, .int .i64 cy] := HH4.out (w.heap.size + 1 + 1, 46, [.int .i64 cx, .int .i64 cy]) (by simp)
  have k4_2_0 : w4.cell? ⟨w.heap.size + 1 + 1, 0, none⟩ = some (.int .i64 cx) := B4_2.cell 0
  have k4_2_1 : w4.cell? ⟨w.heap.size + 1 + 1, 1, none⟩ = some (.int .i64 cy) := B4_2.cell 1
  have z4_2 : w.heap.size + 1 + 1 < w4.heap.size := B4_2.lt
  clear B4_2
  have B4_3 : Blk w4 (w.heap.size + 1 + 1 + 1) 46 #[.int .i64 dx, .int .i64 dy] := HH4.out (w.heap.size + 1 + 1 + 1, 46, [.int .i64 dx, .int .i64 dy]) (by simp)
  have k4_3_0 : w4.cell? ⟨w.heap.size + 1 + 1 + 1, 0, none⟩ = some (.int .i64 dx) := B4_3.cell 0
  have k4_3_1 : w4.cell? ⟨w.heap.size + 1 + 1 + 1, 1, none⟩ = some (.int .i64 dy) := B4_3.cell 1
  have z4_3 : w.heap.size + 1 + 1 + 1 < w4.heap.size := B4_3.lt
  clear B4_3
  go_wp2
  go_returns
  exact ⟨rfl, by repeat (first | with_reducible exact HB4.out | with_reducible refine Below.drew ?_ | with_reducible refine below_drewN ?_ _ | with_reducible refine below_set ?_ (by have := HB4.out.size; simp <;> omega) _ | with_reducible refine below_alloc ?_ _)⟩
set_option maxHeartbeats 800000 in
theorem meets_n3 (ax ay bx bY cx cy dx dy : Int) {v4 : Bool} (h1 : in2 ax ay = true) (h2 : in2 bx bY = true) (h3 : in2 cx cy = false) (h4 : in2 dx dy = v4) (w : World) : Calls Try.prog 7 #[.agg #[.int .i64 ax, .int .i64 ay], .agg #[.int .i64 bx, .int .i64 bY], .agg #[.int .i64 cx, .int .i64 cy], .agg #[.int .i64 dx, .int .i64 dy]] w fun e w' => e = .returned (.bool true) ∧ Below w.heap.size w w' := by
  have c0 := Lib.hid fun W => awake_any W
  have i1 := Lib.hid fun W => rInPoint_any ax ay W
  have i2 := Lib.hid fun W => rInPoint_any bx bY W
  have i3 := Lib.hid fun W => rInPoint_any cx cy W
  have i4 := Lib.hid fun W => rInPoint_any dx dy W
  have c1 := Lib.hid fun W => meetP_no ax ay bx bY cx cy dx dy (fun hh => by simp [h3] at hh) W
  rw [h1] at i1
  rw [h2] at i2
  rw [h3] at i3
  rw [h4] at i4
  clear h1 h2 h3 h4
  go_enter Try.func7, Try.ntmps7
  go_wp2_with fail
  refine (c0.out _).mono ?_
  rintro e w1 ⟨rfl, hb1⟩
  have HH1 := Lib.hid (((((((Blks.nil (w := w))).new (w.heap.size) 46 [.int .i64 ax, .int .i64 ay] rfl).new (w.heap.size + 1) 46 [.int .i64 bx, .int .i64 bY] (by simp)).new (w.heap.size + 1 + 1) 46 [.int .i64 cx, .int .i64 cy] (by simp)).new (w.heap.size + 1 + 1 + 1) 46 [.int .i64 dx, .int .i64 dy] (by simp)).below hb1)
  have HB1 := Lib.hid (below_trans (below_alloc (below_alloc (below_alloc (below_alloc (Below.refl _ _) _) _) _) _) hb1)
  clear hb1
  have B1_0 : Blk w1 (w.heap.size) 46 #[.int .i64 ax, .int .i64 ay] := HH1.out (w.heap.size, 46, [.int .i64 ax, .int .i64 ay]) (by simp)
  have k1_0_0 : w1.cell? ⟨w.heap.size, 0, none⟩ = some (.int .i64 ax) := B1_0.cell 0
  have k1_0_1 : w1.cell? ⟨w.heap.size, 1, none⟩ = some (.int .i64 ay) := B1_0.cell 1
  have z1_0 : w.heap.size < w1.heap.size := B1_0.lt
  clear B1_0
  have B1_1 : Blk w1 (w.heap.size + 1) 46 #[.int .i64 bx, .int .i64 bY] := HH1.out (w.heap.size + 1, 46, [.int .i64 bx, .int .i64 bY]) (by simp)
  have k1_1_0 : w1.cell? ⟨w.heap.size + 1, 0, none⟩ = some (.int .i64 bx) := B1_1.cell 0
  have k1_1_1 : w1.cell? ⟨w.heap.size + 1, 1, none⟩ = some (.int .i64 bY) := B1_1.cell 1
  have z1_1 : w.heap.size + 1 < w1.heap.size := B1_1.lt
  clear B1_1
  have B1_2 : Blk w1 (w.heap.size + 1 + 1) 46 #[.int .i64 cx, .int .i64 cy] := HH1.out (w.heap.size + 1 + 1, 46, [.int .i64 cx, .int .i64 cy]) (by simp)
  have k1_2_0 : w1.cell? ⟨w.heap.size + 1 + 1, 0, none⟩ = some (.int .i64 cx) := B1_2.cell 0
  have k1_2_1 : w1.cell? ⟨w.heap.size + 1 + 1, 1, none⟩ = some (.int .i64 cy) := B1_2.cell 1
  have z1_2 : w.heap.size + 1 + 1 < w1.heap.size := B1_2.lt
  clear B1_2
  have B1_3 : Blk w1 (w.heap.size + 1 + 1 + 1) 46 #[.int .i64 dx, .int .i64 dy] := HH1.out (w.heap.size + 1 + 1 + 1, 46, [.int .i64 dx, .int .i64 dy]) (by simp)
  have k1_3_0 : w1.cell? ⟨w.heap.size + 1 + 1 + 1, 0, none⟩ = some (.int .i64 dx) := B1_3.cell 0
  have k1_3_1 : w1.cell? ⟨w.heap.size + 1 + 1 + 1, 1, none⟩ = some (.int .i64 dy) := B1_3.cell 1
  have z1_3 : w.heap.size + 1 + 1 + 1 < w1.heap.size := B1_3.lt
  clear B1_3
  go_wp2_with fail
  refine (c1.out _).mono ?_
  rintro e w2 ⟨rfl, hb2⟩
  have HH2 := Lib.hid ((HH1.out).below hb2)
  have HB2 := Lib.hid (below_trans (HB1.out) hb2)
  clear k1_0_0 k1_0_1 z1_0 k1_1_0 k1_1_1 z1_1 k1_2_0 k1_2_1 z1_2 k1_3_0 k1_3_1 z1_3
  clear hb2
  clear HH1 HB1
  have B2_0 : Blk w2 (w.heap.size) 46 #[.int .i64 ax, .int .i64 ay] := HH2.out (w.heap.size, 46, [.int .i64 ax, .int .i64 ay]) (by simp)
  have k2_0_0 : w2.cell? ⟨w.heap.size, 0, none⟩ = some (.int .i64 ax) := B2_0.cell 0
  have k2_0_1 : w2.cell? ⟨w.heap.size, 1, none⟩ = some (.int .i64 ay) := B2_0.cell 1
  have z2_0 : w.heap.size < w2.heap.size := B2_0.lt
  clear B2_0
  have B2_1 : Blk w2 (w.heap.size + 1) 46 #[.int .i64 bx, .int .i64 bY] := HH2.out (w.heap.size + 1, 46, [.int .i64 bx, .int .i64 bY]) (by simp)
  have k2_1_0 : w2.cell? ⟨w.heap.size + 1, 0, none⟩ = some (.int .i64 bx) := B2_1.cell 0
  have k2_1_1 : w2.cell? ⟨w.heap.size + 1, 1, none⟩ = some (.int .i64 bY) := B2_1.cell 1
  have z2_1 : w.heap.size + 1 < w2.heap.size := B2_1.lt
  clear B2_1
  have B2_2 : Blk w2 (w.heap.size + 1 + 1) 46 #[.int .i64 cx, .int .i64 cy] := HH2.out (w.heap.size + 1 + 1, 46, [.int .i64 cx, .int .i64 cy]) (by simp)
  have k2_2_0 : w2.cell? ⟨w.heap.size + 1 + 1, 0, none⟩ = some (.int .i64 cx) := B2_2.cell 0
  have k2_2_1 : w2.cell? ⟨w.heap.size + 1 + 1, 1, none⟩ = some (.int .i64 cy) := B2_2.cell 1
  have z2_2 : w.heap.size + 1 + 1 < w2.heap.size := B2_2.lt
  clear B2_2
  have B2_3 : Blk w2 (w.heap.size + 1 + 1 + 1) 46 #[.int .i64 dx, .int .i64 dy] := HH2.out (w.heap.size + 1 + 1 + 1, 46, [.int .i64 dx, .int .i64 dy]) (by simp)
  have k2_3_0 : w2.cell? ⟨w.heap.size + 1 + 1 + 1, 0, none⟩ = some (.int .i64 dx) := B2_3.cell 0
  have k2_3_1 : w2.cell? ⟨w.heap.size + 1 + 1 + 1, 1, none⟩ = some (.int .i64 dy) := B2_3.cell 1
  have z2_3 : w.heap.size + 1 + 1 + 1 < w2.heap.size := B2_3.lt
  clear B2_3
  go_wp2_with fail
  refine (i1.out _).mono ?_
  rintro e w3 ⟨rfl, hb3⟩
  have HH3 := Lib.hid ((HH2.out).below hb3)
  have HB3 := Lib.hid (below_trans (HB2.out) hb3)
  clear k2_0_0 k2_0_1 z2_0 k2_1_0 k2_1_1 z2_1 k2_2_0 k2_2_1 z2_2 k2_3_0 k2_3_1 z2_3
  clear hb3
  clear HH2 HB2
  have B3_0 : Blk w3 (w.heap.size) 46 #[.int .i64 ax, .int .i64 ay] := HH3.out (w.heap.size, 46, [.int .i64 ax, .int .i64 ay]) (by simp)
  have k3_0_0 : w3.cell? ⟨w.heap.size, 0, none⟩ = some (.int .i64 ax) := B3_0.cell 0
  have k3_0_1 : w3.cell? ⟨w.heap.size, 1, none⟩ = some (.int .i64 ay) := B3_0.cell 1
  have z3_0 : w.heap.size < w3.heap.size := B3_0.lt
  clear B3_0
  have B3_1 : Blk w3 (w.heap.size + 1) 46 #[.int .i64 bx, .int .i64 bY] := HH3.out (w.heap.size + 1, 46, [.int .i64 bx, .int .i64 bY]) (by simp)
  have k3_1_0 : w3.cell? ⟨w.heap.size + 1, 0, none⟩ = some (.int .i64 bx) := B3_1.cell 0
  have k3_1_1 : w3.cell? ⟨w.heap.size + 1, 1, none⟩ = some (.int .i64 bY) := B3_1.cell 1
  have z3_1 : w.heap.size + 1 < w3.heap.size := B3_1.lt
  clear B3_1
  have B3_2 : Blk w3 (w.heap.size + 1 + 1) 46 #[.int .i64 cx, .int .i64 cy] := HH3.out (w.heap.size + 1 + 1, 46, [.int .i64 cx, .int .i64 cy]) (by simp)
  have k3_2_0 : w3.cell? ⟨w.heap.size + 1 + 1, 0, none⟩ = some (.int .i64 cx) := B3_2.cell 0
  have k3_2_1 : w3.cell? ⟨w.heap.size + 1 + 1, 1, none⟩ = some (.int .i64 cy) := B3_2.cell 1
  have z3_2 : w.heap.size + 1 + 1 < w3.heap.size := B3_2.lt
  clear B3_2
  have B3_3 : Blk w3 (w.heap.size + 1 + 1 + 1) 46 #[.int .i64 dx, .int .i64 dy] := HH3.out (w.heap.size + 1 + 1 + 1, 46, [.int .i64 dx, .int .i64 dy]) (by simp)
  have k3_3_0 : w3.cell? ⟨w.heap.size + 1 + 1 + 1, 0, none⟩ = some (.int .i64 dx) := B3_3.cell 0
  have k3_3_1 : w3.cell? ⟨w.heap.size + 1 + 1 + 1, 1, none⟩ = some (.int .i64 dy) := B3_3.cell 1
  have z3_3 : w.heap.size + 1 + 1 + 1 < w3.heap.size := B3_3.lt
  clear B3_3
  go_wp2_with fail
  refine (i2.out _).mono ?_
  rintro e w4 ⟨rfl, hb4⟩
  have HH4 := Lib.hid ((HH3.out).below hb4)
  have HB4 := Lib.hid (below_trans (HB3.out) hb4)
  clear k3_0_0 k3_0_1 z3_0 k3_1_0 k3_1_1 z3_1 k3_2_0 k3_2_1 z3_2 k3_3_0 k3_3_1 z3_3
  clear hb4
  clear HH3 HB3
  have B4_0 : Blk w4 (w.heap.size) 46 #[.int .i64 ax, .int .i64 ay] := HH4.out (w.heap.size, 46, [.int .i64 ax, .int .i64 ay]) (by simp)
  have k4_0_0 : w4.cell? ⟨w.heap.size, 0, none⟩ = some (.int .i64 ax) := B4_0.cell 0
  have k4_0_1 : w4.cell? ⟨w.heap.size, 1, none⟩ = some (.int .i64 ay) := B4_0.cell 1
  have z4_0 : w.heap.size < w4.heap.size := B4_0.lt
  clear B4_0
  have B4_1 : Blk w4 (w.heap.size + 1) 46 #[.int .i64 bx, .int .i64 bY] := HH4.out (w.heap.size + 1, 46, [.int .i64 bx, .int .i64 bY]) (by simp)
  have k4_1_0 : w4.cell? ⟨w.heap.size + 1, 0, none⟩ = some (.int .i64 bx) := B4_1.cell 0
  have k4_1_1 : w4.cell? ⟨w.heap.size + 1, 1, none⟩ = some (.int .i64 bY) := B4_1.cell 1
  have z4_1 : w.heap.size + 1 < w4.heap.size := B4_1.lt
  clear B4_1
  have B4_2 : Blk w4 (w.heap.size + 1 + 1) 46 #[.int .i64 cx, .int .i64 cy] := HH4.out (w.heap.size + 1 + 1, 46, [.int .i64 cx, .int .i64 cy]) (by simp)
  have k4_2_0 : w4.cell? ⟨w.heap.size + 1 + 1, 0, none⟩ = some (.int .i64 cx) := B4_2.cell 0
  have k4_2_1 : w4.cell? ⟨w.heap.size + 1 + 1, 1, none⟩ = some (.int .i64 cy) := B4_2.cell 1
  have z4_2 : w.heap.size + 1 + 1 < w4.heap.size := B4_2.lt
  clear B4_2
  have B4_3 : Blk w4 (w.heap.size + 1 + 1 + 1) 46 #[.int .i64 dx, .int .i64 dy] := HH4.out (w.heap.size + 1 + 1 + 1, 46, [.int .i64 dx, .int .i64 dy]) (by simp)
  have k4_3_0 : w4.cell? ⟨w.heap.size + 1 + 1 + 1, 0, none⟩ = some (.int .i64 dx) := B4_3.cell 0
  have k4_3_1 : w4.cell? ⟨w.heap.size + 1 + 1 + 1, 1, none⟩ = some (.int .i64 dy) := B4_3.cell 1
  have z4_3 : w.heap.size + 1 + 1 + 1 < w4.heap.size := B4_3.lt
  clear B4_3
  go_wp2_with fail
  refine (i3.out _).mono ?_
  rintro e w5 ⟨rfl, hb5⟩
  have HH5 := Lib.hid ((HH4.out).below hb5)
  have HB5 := Lib.hid (below_trans (HB4.out) hb5)
  clear k4_0_0 k4_0_1 z4_0 k4_1_0 k4_1_1 z4_1 k4_2_0 k4_2_1 z4_2 k4_3_0 k4_3_1 z4_3
  clear hb5
  clear HH4 HB4
  have B5_0 : Blk w5 (w.heap.size) 46 #[.int .i64 ax, .int .i64 ay] := HH5.out (w.heap.size, 46, [.int .i64 ax, .int .i64 ay]) (by simp)
  have k5_0_0 : w5.cell? ⟨w.heap.size, 0, none⟩ = some (.int .i64 ax) := B5_0.cell 0
  have k5_0_1 : w5.cell? ⟨w.heap.size, 1, none⟩ = some (.int .i64 ay) := B5_0.cell 1
  have z5_0 : w.heap.size < w5.heap.size := B5_0.lt
  clear B5_0
  have B5_1 : Blk w5 (w.heap.size + 1) 46 #[.int .i64 bx, .int .i64 bY] := HH5.out (w.heap.size + 1, 46, [.int .i64 bx, .int .i64 bY]) (by simp)
  have k5_1_0 : w5.cell? ⟨w.heap.size + 1, 0, none⟩ = some (.int .i64 bx) := B5_1.cell 0
  have k5_1_1 : w5.cell? ⟨w.heap.size + 1, 1, none⟩ = some (.int .i64 bY) := B5_1.cell 1
  have z5_1 : w.heap.size + 1 < w5.heap.size := B5_1.lt
  clear B5_1
  have B5_2 : Blk w5 (w.heap.size + 1 + 1) 46 #[.int .i64 cx, .int .i64 cy] := HH5.out (w.heap.size + 1 + 1, 46, [.int .i64 cx, .int .i64 cy]) (by simp)
  have k5_2_0 : w5.cell? ⟨w.heap.size + 1 + 1, 0, none⟩ = some (.int .i64 cx) := B5_2.cell 0
  have k5_2_1 : w5.cell? ⟨w.heap.size + 1 + 1, 1, none⟩ = some (.int .i64 cy) := B5_2.cell 1
  have z5_2 : w.heap.size + 1 + 1 < w5.heap.size := B5_2.lt
  clear B5_2
  have B5_3 : Blk w5 (w.heap.size + 1 + 1 + 1) 46 #[.int .i64 dx, .int .i64 dy] := HH5.out (w.heap.size + 1 + 1 + 1, 46, [.int .i64 dx, .int .i64 dy]) (by simp)
  have k5_3_0 : w5.cell? ⟨w.heap.size + 1 + 1 + 1, 0, none⟩ = some (.int .i64 dx) := B5_3.cell 0
  have k5_3_1 : w5.cell? ⟨w.heap.size + 1 + 1 + 1, 1, none⟩ = some (.int .i64 dy) := B5_3.cell 1
  have z5_3 : w.heap.size + 1 + 1 + 1 < w5.heap.size := B5_3.lt
  clear B5_3
  go_wp2
  go_returns
  exact ⟨rfl, by repeat (first | with_reducible exact HB5.out | with_reducible refine Below.drew ?_ | with_reducible refine below_drewN ?_ _ | with_reducible refine below_set ?_ (by have := HB5.out.size; simp <;> omega) _ | with_reducible refine below_alloc ?_ _)⟩
set_option maxHeartbeats 800000 in
theorem meets_n4 (ax ay bx bY cx cy dx dy : Int) (h1 : in2 ax ay = true) (h2 : in2 bx bY = true) (h3 : in2 cx cy = true) (h4 : in2 dx dy = false) (w : World) : Calls Try.prog 7 #[.agg #[.int .i64 ax, .int .i64 ay], .agg #[.int .i64 bx, .int .i64 bY], .agg #[.int .i64 cx, .int .i64 cy], .agg #[.int .i64 dx, .int .i64 dy]] w fun e w' => e = .returned (.bool true) ∧ Below w.heap.size w w' := by
  have c0 := Lib.hid fun W => awake_any W
  have i1 := Lib.hid fun W => rInPoint_any ax ay W
  have i2 := Lib.hid fun W => rInPoint_any bx bY W
  have i3 := Lib.hid fun W => rInPoint_any cx cy W
  have i4 := Lib.hid fun W => rInPoint_any dx dy W
  have c1 := Lib.hid fun W => meetP_no ax ay bx bY cx cy dx dy (fun hh => by simp [h4] at hh) W
  rw [h1] at i1
  rw [h2] at i2
  rw [h3] at i3
  rw [h4] at i4
  clear h1 h2 h3 h4
  go_enter Try.func7, Try.ntmps7
  go_wp2_with fail
  refine (c0.out _).mono ?_
  rintro e w1 ⟨rfl, hb1⟩
  have HH1 := Lib.hid (((((((Blks.nil (w := w))).new (w.heap.size) 46 [.int .i64 ax, .int .i64 ay] rfl).new (w.heap.size + 1) 46 [.int .i64 bx, .int .i64 bY] (by simp)).new (w.heap.size + 1 + 1) 46 [.int .i64 cx, .int .i64 cy] (by simp)).new (w.heap.size + 1 + 1 + 1) 46 [.int .i64 dx, .int .i64 dy] (by simp)).below hb1)
  have HB1 := Lib.hid (below_trans (below_alloc (below_alloc (below_alloc (below_alloc (Below.refl _ _) _) _) _) _) hb1)
  clear hb1
  have B1_0 : Blk w1 (w.heap.size) 46 #[.int .i64 ax, .int .i64 ay] := HH1.out (w.heap.size, 46, [.int .i64 ax, .int .i64 ay]) (by simp)
  have k1_0_0 : w1.cell? ⟨w.heap.size, 0, none⟩ = some (.int .i64 ax) := B1_0.cell 0
  have k1_0_1 : w1.cell? ⟨w.heap.size, 1, none⟩ = some (.int .i64 ay) := B1_0.cell 1
  have z1_0 : w.heap.size < w1.heap.size := B1_0.lt
  clear B1_0
  have B1_1 : Blk w1 (w.heap.size + 1) 46 #[.int .i64 bx, .int .i64 bY] := HH1.out (w.heap.size + 1, 46, [.int .i64 bx, .int .i64 bY]) (by simp)
  have k1_1_0 : w1.cell? ⟨w.heap.size + 1, 0, none⟩ = some (.int .i64 bx) := B1_1.cell 0
  have k1_1_1 : w1.cell? ⟨w.heap.size + 1, 1, none⟩ = some (.int .i64 bY) := B1_1.cell 1
  have z1_1 : w.heap.size + 1 < w1.heap.size := B1_1.lt
  clear B1_1
  have B1_2 : Blk w1 (w.heap.size + 1 + 1) 46 #[.int .i64 cx, .int .i64 cy] := HH1.out (w.heap.size + 1 + 1, 46, [.int .i64 cx, .int .i64 cy]) (by simp)
  have k1_2_0 : w1.cell? ⟨w.heap.size + 1 + 1, 0, none⟩ = some (.int .i64 cx) := B1_2.cell 0
  have k1_2_1 : w1.cell? ⟨w.heap.size + 1 + 1, 1, none⟩ = some (.int .i64 cy) := B1_2.cell 1
  have z1_2 : w.heap.size + 1 + 1 < w1.heap.size := B1_2.lt
  clear B1_2
  have B1_3 : Blk w1 (w.heap.size + 1 + 1 + 1) 46 #[.int .i64 dx, .int .i64 dy] := HH1.out (w.heap.size + 1 + 1 + 1, 46, [.int .i64 dx, .int .i64 dy]) (by simp)
  have k1_3_0 : w1.cell? ⟨w.heap.size + 1 + 1 + 1, 0, none⟩ = some (.int .i64 dx) := B1_3.cell 0
  have k1_3_1 : w1.cell? ⟨w.heap.size + 1 + 1 + 1, 1, none⟩ = some (.int .i64 dy) := B1_3.cell 1
  have z1_3 : w.heap.size + 1 + 1 + 1 < w1.heap.size := B1_3.lt
  clear B1_3
  go_wp2_with fail
  refine (c1.out _).mono ?_
  rintro e w2 ⟨rfl, hb2⟩
  have HH2 := Lib.hid ((HH1.out).below hb2)
  have HB2 := Lib.hid (below_trans (HB1.out) hb2)
  clear k1_0_0 k1_0_1 z1_0 k1_1_0 k1_1_1 z1_1 k1_2_0 k1_2_1 z1_2 k1_3_0 k1_3_1 z1_3
  clear hb2
  clear HH1 HB1
  have B2_0 : Blk w2 (w.heap.size) 46 #[.int .i64 ax, .int .i64 ay] := HH2.out (w.heap.size, 46, [.int .i64 ax, .int .i64 ay]) (by simp)
  have k2_0_0 : w2.cell? ⟨w.heap.size, 0, none⟩ = some (.int .i64 ax) := B2_0.cell 0
  have k2_0_1 : w2.cell? ⟨w.heap.size, 1, none⟩ = some (.int .i64 ay) := B2_0.cell 1
  have z2_0 : w.heap.size < w2.heap.size := B2_0.lt
  clear B2_0
  have B2_1 : Blk w2 (w.heap.size + 1) 46 #[.int .i64 bx, .int .i64 bY] := HH2.out (w.heap.size + 1, 46, [.int .i64 bx, .int .i64 bY]) (by simp)
  have k2_1_0 : w2.cell? ⟨w.heap.size + 1, 0, none⟩ = some (.int .i64 bx) := B2_1.cell 0
  have k2_1_1 : w2.cell? ⟨w.heap.size + 1, 1, none⟩ = some (.int .i64 bY) := B2_1.cell 1
  have z2_1 : w.heap.size + 1 < w2.heap.size := B2_1.lt
  clear B2_1
  have B2_2 : Blk w2 (w.heap.size + 1 + 1) 46 #[.int .i64 cx, .int .i64 cy] := HH2.out (w.heap.size + 1 + 1, 46, [.int .i64 cx, .int .i64 cy]) (by simp)
  have k2_2_0 : w2.cell? ⟨w.heap.size + 1 + 1, 0, none⟩ = some (.int .i64 cx) := B2_2.cell 0
  have k2_2_1 : w2.cell? ⟨w.heap.size + 1 + 1, 1, none⟩ = some (.int .i64 cy) := B2_2.cell 1
  have z2_2 : w.heap.size + 1 + 1 < w2.heap.size := B2_2.lt
  clear B2_2
  have B2_3 : Blk w2 (w.heap.size + 1 + 1 + 1) 46 #[.int .i64 dx, .int .i64 dy] := HH2.out (w.heap.size + 1 + 1 + 1, 46, [.int .i64 dx, .int .i64 dy]) (by simp)
  have k2_3_0 : w2.cell? ⟨w.heap.size + 1 + 1 + 1, 0, none⟩ = some (.int .i64 dx) := B2_3.cell 0
  have k2_3_1 : w2.cell? ⟨w.heap.size + 1 + 1 + 1, 1, none⟩ = some (.int .i64 dy) := B2_3.cell 1
  have z2_3 : w.heap.size + 1 + 1 + 1 < w2.heap.size := B2_3.lt
  clear B2_3
  go_wp2_with fail
  refine (i1.out _).mono ?_
  rintro e w3 ⟨rfl, hb3⟩
  have HH3 := Lib.hid ((HH2.out).below hb3)
  have HB3 := Lib.hid (below_trans (HB2.out) hb3)
  clear k2_0_0 k2_0_1 z2_0 k2_1_0 k2_1_1 z2_1 k2_2_0 k2_2_1 z2_2 k2_3_0 k2_3_1 z2_3
  clear hb3
  clear HH2 HB2
  have B3_0 : Blk w3 (w.heap.size) 46 #[.int .i64 ax, .int .i64 ay] := HH3.out (w.heap.size, 46, [.int .i64 ax, .int .i64 ay]) (by simp)
  have k3_0_0 : w3.cell? ⟨w.heap.size, 0, none⟩ = some (.int .i64 ax) := B3_0.cell 0
  have k3_0_1 : w3.cell? ⟨w.heap.size, 1, none⟩ = some (.int .i64 ay) := B3_0.cell 1
  have z3_0 : w.heap.size < w3.heap.size := B3_0.lt
  clear B3_0
  have B3_1 : Blk w3 (w.heap.size + 1) 46 #[.int .i64 bx, .int .i64 bY] := HH3.out (w.heap.size + 1, 46, [.int .i64 bx, .int .i64 bY]) (by simp)
  have k3_1_0 : w3.cell? ⟨w.heap.size + 1, 0, none⟩ = some (.int .i64 bx) := B3_1.cell 0
  have k3_1_1 : w3.cell? ⟨w.heap.size + 1, 1, none⟩ = some (.int .i64 bY) := B3_1.cell 1
  have z3_1 : w.heap.size + 1 < w3.heap.size := B3_1.lt
  clear B3_1
  have B3_2 : Blk w3 (w.heap.size + 1 + 1) 46 #[.int .i64 cx, .int .i64 cy] := HH3.out (w.heap.size + 1 + 1, 46, [.int .i64 cx, .int .i64 cy]) (by simp)
  have k3_2_0 : w3.cell? ⟨w.heap.size + 1 + 1, 0, none⟩ = some (.int .i64 cx) := B3_2.cell 0
  have k3_2_1 : w3.cell? ⟨w.heap.size + 1 + 1, 1, none⟩ = some (.int .i64 cy) := B3_2.cell 1
  have z3_2 : w.heap.size + 1 + 1 < w3.heap.size := B3_2.lt
  clear B3_2
  have B3_3 : Blk w3 (w.heap.size + 1 + 1 + 1) 46 #[.int .i64 dx, .int .i64 dy] := HH3.out (w.heap.size + 1 + 1 + 1, 46, [.int .i64 dx, .int .i64 dy]) (by simp)
  have k3_3_0 : w3.cell? ⟨w.heap.size + 1 + 1 + 1, 0, none⟩ = some (.int .i64 dx) := B3_3.cell 0
  have k3_3_1 : w3.cell? ⟨w.heap.size + 1 + 1 + 1, 1, none⟩ = some (.int .i64 dy) := B3_3.cell 1
  have z3_3 : w.heap.size + 1 + 1 + 1 < w3.heap.size := B3_3.lt
  clear B3_3
  go_wp2_with fail
  refine (i2.out _).mono ?_
  rintro e w4 ⟨rfl, hb4⟩
  have HH4 := Lib.hid ((HH3.out).below hb4)
  have HB4 := Lib.hid (below_trans (HB3.out) hb4)
  clear k3_0_0 k3_0_1 z3_0 k3_1_0 k3_1_1 z3_1 k3_2_0 k3_2_1 z3_2 k3_3_0 k3_3_1 z3_3
  clear hb4
  clear HH3 HB3
  have B4_0 : Blk w4 (w.heap.size) 46 #[.int .i64 ax, .int .i64 ay] := HH4.out (w.heap.size, 46, [.int .i64 ax, .int .i64 ay]) (by simp)
  have k4_0_0 : w4.cell? ⟨w.heap.size, 0, none⟩ = some (.int .i64 ax) := B4_0.cell 0
  have k4_0_1 : w4.cell? ⟨w.heap.size, 1, none⟩ = some (.int .i64 ay) := B4_0.cell 1
  have z4_0 : w.heap.size < w4.heap.size := B4_0.lt
  clear B4_0
  have B4_1 : Blk w4 (w.heap.size + 1) 46 #[.int .i64 bx, .int .i64 bY] := HH4.out (w.heap.size + 1, 46, [.int .i64 bx, .int .i64 bY]) (by simp)
  have k4_1_0 : w4.cell? ⟨w.heap.size + 1, 0, none⟩ = some (.int .i64 bx) := B4_1.cell 0
  have k4_1_1 : w4.cell? ⟨w.heap.size + 1, 1, none⟩ = some (.int .i64 bY) := B4_1.cell 1
  have z4_1 : w.heap.size + 1 < w4.heap.size := B4_1.lt
  clear B4_1
  have B4_2 : Blk w4 (w.heap.size + 1 + 1) 46 #[.int .i64 cx, .int .i64 cy] := HH4.out (w.heap.size + 1 + 1, 46, [.int .i64 cx, .int .i64 cy]) (by simp)
  have k4_2_0 : w4.cell? ⟨w.heap.size + 1 + 1, 0, none⟩ = some (.int .i64 cx) := B4_2.cell 0
  have k4_2_1 : w4.cell? ⟨w.heap.size + 1 + 1, 1, none⟩ = some (.int .i64 cy) := B4_2.cell 1
  have z4_2 : w.heap.size + 1 + 1 < w4.heap.size := B4_2.lt
  clear B4_2
  have B4_3 : Blk w4 (w.heap.size + 1 + 1 + 1) 46 #[.int .i64 dx, .int .i64 dy] := HH4.out (w.heap.size + 1 + 1 + 1, 46, [.int .i64 dx, .int .i64 dy]) (by simp)
  have k4_3_0 : w4.cell? ⟨w.heap.size + 1 + 1 + 1, 0, none⟩ = some (.int .i64 dx) := B4_3.cell 0
  have k4_3_1 : w4.cell? ⟨w.heap.size + 1 + 1 + 1, 1, none⟩ = some (.int .i64 dy) := B4_3.cell 1
  have z4_3 : w.heap.size + 1 + 1 + 1 < w4.heap.size := B4_3.lt
  clear B4_3
  go_wp2_with fail
  refine (i3.out _).mono ?_
  rintro e w5 ⟨rfl, hb5⟩
  have HH5 := Lib.hid ((HH4.out).below hb5)
  have HB5 := Lib.hid (below_trans (HB4.out) hb5)
  clear k4_0_0 k4_0_1 z4_0 k4_1_0 k4_1_1 z4_1 k4_2_0 k4_2_1 z4_2 k4_3_0 k4_3_1 z4_3
  clear hb5
  clear HH4 HB4
  have B5_0 : Blk w5 (w.heap.size) 46 #[.int .i64 ax, .int .i64 ay] := HH5.out (w.heap.size, 46, [.int .i64 ax, .int .i64 ay]) (by simp)
  have k5_0_0 : w5.cell? ⟨w.heap.size, 0, none⟩ = some (.int .i64 ax) := B5_0.cell 0
  have k5_0_1 : w5.cell? ⟨w.heap.size, 1, none⟩ = some (.int .i64 ay) := B5_0.cell 1
  have z5_0 : w.heap.size < w5.heap.size := B5_0.lt
  clear B5_0
  have B5_1 : Blk w5 (w.heap.size + 1) 46 #[.int .i64 bx, .int .i64 bY] := HH5.out (w.heap.size + 1, 46, [.int .i64 bx, .int .i64 bY]) (by simp)
  have k5_1_0 : w5.cell? ⟨w.heap.size + 1, 0, none⟩ = some (.int .i64 bx) := B5_1.cell 0
  have k5_1_1 : w5.cell? ⟨w.heap.size + 1, 1, none⟩ = some (.int .i64 bY) := B5_1.cell 1
  have z5_1 : w.heap.size + 1 < w5.heap.size := B5_1.lt
  clear B5_1
  have B5_2 : Blk w5 (w.heap.size + 1 + 1) 46 #[.int .i64 cx, .int .i64 cy] := HH5.out (w.heap.size + 1 + 1, 46, [.int .i64 cx, .int .i64 cy]) (by simp)
  have k5_2_0 : w5.cell? ⟨w.heap.size + 1 + 1, 0, none⟩ = some (.int .i64 cx) := B5_2.cell 0
  have k5_2_1 : w5.cell? ⟨w.heap.size + 1 + 1, 1, none⟩ = some (.int .i64 cy) := B5_2.cell 1
  have z5_2 : w.heap.size + 1 + 1 < w5.heap.size := B5_2.lt
  clear B5_2
  have B5_3 : Blk w5 (w.heap.size + 1 + 1 + 1) 46 #[.int .i64 dx, .int .i64 dy] := HH5.out (w.heap.size + 1 + 1 + 1, 46, [.int .i64 dx, .int .i64 dy]) (by simp)
  have k5_3_0 : w5.cell? ⟨w.heap.size + 1 + 1 + 1, 0, none⟩ = some (.int .i64 dx) := B5_3.cell 0
  have k5_3_1 : w5.cell? ⟨w.heap.size + 1 + 1 + 1, 1, none⟩ = some (.int .i64 dy) := B5_3.cell 1
  have z5_3 : w.heap.size + 1 + 1 + 1 < w5.heap.size := B5_3.lt
  clear B5_3
  go_wp2_with fail
  refine (i4.out _).mono ?_
  rintro e w6 ⟨rfl, hb6⟩
  have HH6 := Lib.hid ((HH5.out).below hb6)
  have HB6 := Lib.hid (below_trans (HB5.out) hb6)
  clear k5_0_0 k5_0_1 z5_0 k5_1_0 k5_1_1 z5_1 k5_2_0 k5_2_1 z5_2 k5_3_0 k5_3_1 z5_3
  clear hb6
  clear HH5 HB5
  have B6_0 : Blk w6 (w.heap.size) 46 #[.int .i64 ax, .int .i64 ay] := HH6.out (w.heap.size, 46, [.int .i64 ax, .int .i64 ay]) (by simp)
  have k6_0_0 : w6.cell? ⟨w.heap.size, 0, none⟩ = some (.int .i64 ax) := B6_0.cell 0
  have k6_0_1 : w6.cell? ⟨w.heap.size, 1, none⟩ = some (.int .i64 ay) := B6_0.cell 1
  have z6_0 : w.heap.size < w6.heap.size := B6_0.lt
  clear B6_0
  have B6_1 : Blk w6 (w.heap.size + 1) 46 #[.int .i64 bx, .int .i64 bY] := HH6.out (w.heap.size + 1, 46, [.int .i64 bx, .int .i64 bY]) (by simp)
  have k6_1_0 : w6.cell? ⟨w.heap.size + 1, 0, none⟩ = some (.int .i64 bx) := B6_1.cell 0
  have k6_1_1 : w6.cell? ⟨w.heap.size + 1, 1, none⟩ = some (.int .i64 bY) := B6_1.cell 1
  have z6_1 : w.heap.size + 1 < w6.heap.size := B6_1.lt
  clear B6_1
  have B6_2 : Blk w6 (w.heap.size + 1 + 1) 46 #[.int .i64 cx, .int .i64 cy] := HH6.out (w.heap.size + 1 + 1, 46, [.int .i64 cx, .int .i64 cy]) (by simp)
  have k6_2_0 : w6.cell? ⟨w.heap.size + 1 + 1, 0, none⟩ = some (.int .i64 cx) := B6_2.cell 0
  have k6_2_1 : w6.cell? ⟨w.heap.size + 1 + 1, 1, none⟩ = some (.int .i64 cy) := B6_2.cell 1
  have z6_2 : w.heap.size + 1 + 1 < w6.heap.size := B6_2.lt
  clear B6_2
  have B6_3 : Blk w6 (w.heap.size + 1 + 1 + 1) 46 #[.int .i64 dx, .int .i64 dy] := HH6.out (w.heap.size + 1 + 1 + 1, 46, [.int .i64 dx, .int .i64 dy]) (by simp)
  have k6_3_0 : w6.cell? ⟨w.heap.size + 1 + 1 + 1, 0, none⟩ = some (.int .i64 dx) := B6_3.cell 0
  have k6_3_1 : w6.cell? ⟨w.heap.size + 1 + 1 + 1, 1, none⟩ = some (.int .i64 dy) := B6_3.cell 1
  have z6_3 : w.heap.size + 1 + 1 + 1 < w6.heap.size := B6_3.lt
  clear B6_3
  go_wp2
  go_returns
  exact ⟨rfl, by repeat (first | with_reducible exact HB6.out | with_reducible refine Below.drew ?_ | with_reducible refine below_drewN ?_ _ | with_reducible refine below_set ?_ (by have := HB6.out.size; simp <;> omega) _ | with_reducible refine below_alloc ?_ _)⟩
set_option maxHeartbeats 800000 in
theorem meets_ok (ax ay bx bY cx cy dx dy : Int) (h1 : in2 ax ay = true) (h2 : in2 bx bY = true) (h3 : in2 cx cy = true) (h4 : in2 dx dy = true) (w : World) : Calls Try.prog 7 #[.agg #[.int .i64 ax, .int .i64 ay], .agg #[.int .i64 bx, .int .i64 bY], .agg #[.int .i64 cx, .int .i64 cy], .agg #[.int .i64 dx, .int .i64 dy]] w fun e w' => e = .returned (.bool true) ∧ Below w.heap.size w w' := by
  have c0 := Lib.hid fun W => awake_any W
  have i1 := Lib.hid fun W => rInPoint_any ax ay W
  have i2 := Lib.hid fun W => rInPoint_any bx bY W
  have i3 := Lib.hid fun W => rInPoint_any cx cy W
  have i4 := Lib.hid fun W => rInPoint_any dx dy W
  have c1 := Lib.hid fun W => meetP_ok ax ay bx bY cx cy dx dy h1 h2 h3 h4 W
  have c2 := Lib.hid fun W => rmeet_any ax ay bx bY cx cy dx dy h1 h2 h3 h4 W
  rw [rmeet_meet] at c2
  rw [h1] at i1
  rw [h2] at i2
  rw [h3] at i3
  rw [h4] at i4
  clear h1 h2 h3 h4
  generalize meetI ax ay bx bY cx cy dx dy = M at *
  have tM : (M == M) = true := by simp
  go_enter Try.func7, Try.ntmps7
  go_wp2_with fail
  refine (c0.out _).mono ?_
  rintro e w1 ⟨rfl, hb1⟩
  have HH1 := Lib.hid (((((((Blks.nil (w := w))).new (w.heap.size) 46 [.int .i64 ax, .int .i64 ay] rfl).new (w.heap.size + 1) 46 [.int .i64 bx, .int .i64 bY] (by simp)).new (w.heap.size + 1 + 1) 46 [.int .i64 cx, .int .i64 cy] (by simp)).new (w.heap.size + 1 + 1 + 1) 46 [.int .i64 dx, .int .i64 dy] (by simp)).below hb1)
  have HB1 := Lib.hid (below_trans (below_alloc (below_alloc (below_alloc (below_alloc (Below.refl _ _) _) _) _) _) hb1)
  clear hb1
  have B1_0 : Blk w1 (w.heap.size) 46 #[.int .i64 ax, .int .i64 ay] := HH1.out (w.heap.size, 46, [.int .i64 ax, .int .i64 ay]) (by simp)
  have k1_0_0 : w1.cell? ⟨w.heap.size, 0, none⟩ = some (.int .i64 ax) := B1_0.cell 0
  have k1_0_1 : w1.cell? ⟨w.heap.size, 1, none⟩ = some (.int .i64 ay) := B1_0.cell 1
  have z1_0 : w.heap.size < w1.heap.size := B1_0.lt
  clear B1_0
  have B1_1 : Blk w1 (w.heap.size + 1) 46 #[.int .i64 bx, .int .i64 bY] := HH1.out (w.heap.size + 1, 46, [.int .i64 bx, .int .i64 bY]) (by simp)
  have k1_1_0 : w1.cell? ⟨w.heap.size + 1, 0, none⟩ = some (.int .i64 bx) := B1_1.cell 0
  have k1_1_1 : w1.cell? ⟨w.heap.size + 1, 1, none⟩ = some (.int .i64 bY) := B1_1.cell 1
  have z1_1 : w.heap.size + 1 < w1.heap.size := B1_1.lt
  clear B1_1
  have B1_2 : Blk w1 (w.heap.size + 1 + 1) 46 #[.int .i64 cx, .int .i64 cy] := HH1.out (w.heap.size + 1 + 1, 46, [.int .i64 cx, .int .i64 cy]) (by simp)
  have k1_2_0 : w1.cell? ⟨w.heap.size + 1 + 1, 0, none⟩ = some (.int .i64 cx) := B1_2.cell 0
  have k1_2_1 : w1.cell? ⟨w.heap.size + 1 + 1, 1, none⟩ = some (.int .i64 cy) := B1_2.cell 1
  have z1_2 : w.heap.size + 1 + 1 < w1.heap.size := B1_2.lt
  clear B1_2
  have B1_3 : Blk w1 (w.heap.size + 1 + 1 + 1) 46 #[.int .i64 dx, .int .i64 dy] := HH1.out (w.heap.size + 1 + 1 + 1, 46, [.int .i64 dx, .int .i64 dy]) (by simp)
  have k1_3_0 : w1.cell? ⟨w.heap.size + 1 + 1 + 1, 0, none⟩ = some (.int .i64 dx) := B1_3.cell 0
  have k1_3_1 : w1.cell? ⟨w.heap.size + 1 + 1 + 1, 1, none⟩ = some (.int .i64 dy) := B1_3.cell 1
  have z1_3 : w.heap.size + 1 + 1 + 1 < w1.heap.size := B1_3.lt
  clear B1_3
  go_wp2_with fail
  refine (c1.out _).mono ?_
  rintro e w2 ⟨rfl, hb2⟩
  have HH2 := Lib.hid ((HH1.out).below hb2)
  have HB2 := Lib.hid (below_trans (HB1.out) hb2)
  clear k1_0_0 k1_0_1 z1_0 k1_1_0 k1_1_1 z1_1 k1_2_0 k1_2_1 z1_2 k1_3_0 k1_3_1 z1_3
  clear hb2
  clear HH1 HB1
  have B2_0 : Blk w2 (w.heap.size) 46 #[.int .i64 ax, .int .i64 ay] := HH2.out (w.heap.size, 46, [.int .i64 ax, .int .i64 ay]) (by simp)
  have k2_0_0 : w2.cell? ⟨w.heap.size, 0, none⟩ = some (.int .i64 ax) := B2_0.cell 0
  have k2_0_1 : w2.cell? ⟨w.heap.size, 1, none⟩ = some (.int .i64 ay) := B2_0.cell 1
  have z2_0 : w.heap.size < w2.heap.size := B2_0.lt
  clear B2_0
  have B2_1 : Blk w2 (w.heap.size + 1) 46 #[.int .i64 bx, .int .i64 bY] := HH2.out (w.heap.size + 1, 46, [.int .i64 bx, .int .i64 bY]) (by simp)
  have k2_1_0 : w2.cell? ⟨w.heap.size + 1, 0, none⟩ = some (.int .i64 bx) := B2_1.cell 0
  have k2_1_1 : w2.cell? ⟨w.heap.size + 1, 1, none⟩ = some (.int .i64 bY) := B2_1.cell 1
  have z2_1 : w.heap.size + 1 < w2.heap.size := B2_1.lt
  clear B2_1
  have B2_2 : Blk w2 (w.heap.size + 1 + 1) 46 #[.int .i64 cx, .int .i64 cy] := HH2.out (w.heap.size + 1 + 1, 46, [.int .i64 cx, .int .i64 cy]) (by simp)
  have k2_2_0 : w2.cell? ⟨w.heap.size + 1 + 1, 0, none⟩ = some (.int .i64 cx) := B2_2.cell 0
  have k2_2_1 : w2.cell? ⟨w.heap.size + 1 + 1, 1, none⟩ = some (.int .i64 cy) := B2_2.cell 1
  have z2_2 : w.heap.size + 1 + 1 < w2.heap.size := B2_2.lt
  clear B2_2
  have B2_3 : Blk w2 (w.heap.size + 1 + 1 + 1) 46 #[.int .i64 dx, .int .i64 dy] := HH2.out (w.heap.size + 1 + 1 + 1, 46, [.int .i64 dx, .int .i64 dy]) (by simp)
  have k2_3_0 : w2.cell? ⟨w.heap.size + 1 + 1 + 1, 0, none⟩ = some (.int .i64 dx) := B2_3.cell 0
  have k2_3_1 : w2.cell? ⟨w.heap.size + 1 + 1 + 1, 1, none⟩ = some (.int .i64 dy) := B2_3.cell 1
  have z2_3 : w.heap.size + 1 + 1 + 1 < w2.heap.size := B2_3.lt
  clear B2_3
  go_wp2_with fail
  refine (i1.out _).mono ?_
  rintro e w3 ⟨rfl, hb3⟩
  have HH3 := Lib.hid ((HH2.out).below hb3)
  have HB3 := Lib.hid (below_trans (HB2.out) hb3)
  clear k2_0_0 k2_0_1 z2_0 k2_1_0 k2_1_1 z2_1 k2_2_0 k2_2_1 z2_2 k2_3_0 k2_3_1 z2_3
  clear hb3
  clear HH2 HB2
  have B3_0 : Blk w3 (w.heap.size) 46 #[.int .i64 ax, .int .i64 ay] := HH3.out (w.heap.size, 46, [.int .i64 ax, .int .i64 ay]) (by simp)
  have k3_0_0 : w3.cell? ⟨w.heap.size, 0, none⟩ = some (.int .i64 ax) := B3_0.cell 0
  have k3_0_1 : w3.cell? ⟨w.heap.size, 1, none⟩ = some (.int .i64 ay) := B3_0.cell 1
  have z3_0 : w.heap.size < w3.heap.size := B3_0.lt
  clear B3_0
  have B3_1 : Blk w3 (w.heap.size + 1) 46 #[.int .i64 bx, .int .i64 bY] := HH3.out (w.heap.size + 1, 46, [.int .i64 bx, .int .i64 bY]) (by simp)
  have k3_1_0 : w3.cell? ⟨w.heap.size + 1, 0, none⟩ = some (.int .i64 bx) := B3_1.cell 0
  have k3_1_1 : w3.cell? ⟨w.heap.size + 1, 1, none⟩ = some (.int .i64 bY) := B3_1.cell 1
  have z3_1 : w.heap.size + 1 < w3.heap.size := B3_1.lt
  clear B3_1
  have B3_2 : Blk w3 (w.heap.size + 1 + 1) 46 #[.int .i64 cx, .int .i64 cy] := HH3.out (w.heap.size + 1 + 1, 46, [.int .i64 cx, .int .i64 cy]) (by simp)
  have k3_2_0 : w3.cell? ⟨w.heap.size + 1 + 1, 0, none⟩ = some (.int .i64 cx) := B3_2.cell 0
  have k3_2_1 : w3.cell? ⟨w.heap.size + 1 + 1, 1, none⟩ = some (.int .i64 cy) := B3_2.cell 1
  have z3_2 : w.heap.size + 1 + 1 < w3.heap.size := B3_2.lt
  clear B3_2
  have B3_3 : Blk w3 (w.heap.size + 1 + 1 + 1) 46 #[.int .i64 dx, .int .i64 dy] := HH3.out (w.heap.size + 1 + 1 + 1, 46, [.int .i64 dx, .int .i64 dy]) (by simp)
  have k3_3_0 : w3.cell? ⟨w.heap.size + 1 + 1 + 1, 0, none⟩ = some (.int .i64 dx) := B3_3.cell 0
  have k3_3_1 : w3.cell? ⟨w.heap.size + 1 + 1 + 1, 1, none⟩ = some (.int .i64 dy) := B3_3.cell 1
  have z3_3 : w.heap.size + 1 + 1 + 1 < w3.heap.size := B3_3.lt
  clear B3_3
  go_wp2_with fail
  refine (i2.out _).mono ?_
  rintro e w4 ⟨rfl, hb4⟩
  have HH4 := Lib.hid ((HH3.out).below hb4)
  have HB4 := Lib.hid (below_trans (HB3.out) hb4)
  clear k3_0_0 k3_0_1 z3_0 k3_1_0 k3_1_1 z3_1 k3_2_0 k3_2_1 z3_2 k3_3_0 k3_3_1 z3_3
  clear hb4
  clear HH3 HB3
  have B4_0 : Blk w4 (w.heap.size) 46 #[.int .i64 ax, .int .i64 ay] := HH4.out (w.heap.size, 46, [.int .i64 ax, .int .i64 ay]) (by simp)
  have k4_0_0 : w4.cell? ⟨w.heap.size, 0, none⟩ = some (.int .i64 ax) := B4_0.cell 0
  have k4_0_1 : w4.cell? ⟨w.heap.size, 1, none⟩ = some (.int .i64 ay) := B4_0.cell 1
  have z4_0 : w.heap.size < w4.heap.size := B4_0.lt
  clear B4_0
  have B4_1 : Blk w4 (w.heap.size + 1) 46 #[.int .i64 bx, .int .i64 bY] := HH4.out (w.heap.size + 1, 46, [.int .i64 bx, .int .i64 bY]) (by simp)
  have k4_1_0 : w4.cell? ⟨w.heap.size + 1, 0, none⟩ = some (.int .i64 bx) := B4_1.cell 0
  have k4_1_1 : w4.cell? ⟨w.heap.size + 1, 1, none⟩ = some (.int .i64 bY) := B4_1.cell 1
  have z4_1 : w.heap.size + 1 < w4.heap.size := B4_1.lt
  clear B4_1
  have B4_2 : Blk w4 (w.heap.size + 1 + 1) 46 #[.int .i64 cx, .int .i64 cy] := HH4.out (w.heap.size + 1 + 1, 46, [.int .i64 cx, .int .i64 cy]) (by simp)
  have k4_2_0 : w4.cell? ⟨w.heap.size + 1 + 1, 0, none⟩ = some (.int .i64 cx) := B4_2.cell 0
  have k4_2_1 : w4.cell? ⟨w.heap.size + 1 + 1, 1, none⟩ = some (.int .i64 cy) := B4_2.cell 1
  have z4_2 : w.heap.size + 1 + 1 < w4.heap.size := B4_2.lt
  clear B4_2
  have B4_3 : Blk w4 (w.heap.size + 1 + 1 + 1) 46 #[.int .i64 dx, .int .i64 dy] := HH4.out (w.heap.size + 1 + 1 + 1, 46, [.int .i64 dx, .int .i64 dy]) (by simp)
  have k4_3_0 : w4.cell? ⟨w.heap.size + 1 + 1 + 1, 0, none⟩ = some (.int .i64 dx) := B4_3.cell 0
  have k4_3_1 : w4.cell? ⟨w.heap.size + 1 + 1 + 1, 1, none⟩ = some (.int .i64 dy) := B4_3.cell 1
  have z4_3 : w.heap.size + 1 + 1 + 1 < w4.heap.size := B4_3.lt
  clear B4_3
  go_wp2_with fail
  refine (i3.out _).mono ?_
  rintro e w5 ⟨rfl, hb5⟩
  have HH5 := Lib.hid ((HH4.out).below hb5)
  have HB5 := Lib.hid (below_trans (HB4.out) hb5)
  clear k4_0_0 k4_0_1 z4_0 k4_1_0 k4_1_1 z4_1 k4_2_0 k4_2_1 z4_2 k4_3_0 k4_3_1 z4_3
  clear hb5
  clear HH4 HB4
  have B5_0 : Blk w5 (w.heap.size) 46 #[.int .i64 ax, .int .i64 ay] := HH5.out (w.heap.size, 46, [.int .i64 ax, .int .i64 ay]) (by simp)
  have k5_0_0 : w5.cell? ⟨w.heap.size, 0, none⟩ = some (.int .i64 ax) := B5_0.cell 0
  have k5_0_1 : w5.cell? ⟨w.heap.size, 1, none⟩ = some (.int .i64 ay) := B5_0.cell 1
  have z5_0 : w.heap.size < w5.heap.size := B5_0.lt
  clear B5_0
  have B5_1 : Blk w5 (w.heap.size + 1) 46 #[.int .i64 bx, .int .i64 bY] := HH5.out (w.heap.size + 1, 46, [.int .i64 bx, .int .i64 bY]) (by simp)
  have k5_1_0 : w5.cell? ⟨w.heap.size + 1, 0, none⟩ = some (.int .i64 bx) := B5_1.cell 0
  have k5_1_1 : w5.cell? ⟨w.heap.size + 1, 1, none⟩ = some (.int .i64 bY) := B5_1.cell 1
  have z5_1 : w.heap.size + 1 < w5.heap.size := B5_1.lt
  clear B5_1
  have B5_2 : Blk w5 (w.heap.size + 1 + 1) 46 #[.int .i64 cx, .int .i64 cy] := HH5.out (w.heap.size + 1 + 1, 46, [.int .i64 cx, .int .i64 cy]) (by simp)
  have k5_2_0 : w5.cell? ⟨w.heap.size + 1 + 1, 0, none⟩ = some (.int .i64 cx) := B5_2.cell 0
  have k5_2_1 : w5.cell? ⟨w.heap.size + 1 + 1, 1, none⟩ = some (.int .i64 cy) := B5_2.cell 1
  have z5_2 : w.heap.size + 1 + 1 < w5.heap.size := B5_2.lt
  clear B5_2
  have B5_3 : Blk w5 (w.heap.size + 1 + 1 + 1) 46 #[.int .i64 dx, .int .i64 dy] := HH5.out (w.heap.size + 1 + 1 + 1, 46, [.int .i64 dx, .int .i64 dy]) (by simp)
  have k5_3_0 : w5.cell? ⟨w.heap.size + 1 + 1 + 1, 0, none⟩ = some (.int .i64 dx) := B5_3.cell 0
  have k5_3_1 : w5.cell? ⟨w.heap.size + 1 + 1 + 1, 1, none⟩ = some (.int .i64 dy) := B5_3.cell 1
  have z5_3 : w.heap.size + 1 + 1 + 1 < w5.heap.size := B5_3.lt
  clear B5_3
  go_wp2_with fail
  refine (i4.out _).mono ?_
  rintro e w6 ⟨rfl, hb6⟩
  have HH6 := Lib.hid ((HH5.out).below hb6)
  have HB6 := Lib.hid (below_trans (HB5.out) hb6)
  clear k5_0_0 k5_0_1 z5_0 k5_1_0 k5_1_1 z5_1 k5_2_0 k5_2_1 z5_2 k5_3_0 k5_3_1 z5_3
  clear hb6
  clear HH5 HB5
  have B6_0 : Blk w6 (w.heap.size) 46 #[.int .i64 ax, .int .i64 ay] := HH6.out (w.heap.size, 46, [.int .i64 ax, .int .i64 ay]) (by simp)
  have k6_0_0 : w6.cell? ⟨w.heap.size, 0, none⟩ = some (.int .i64 ax) := B6_0.cell 0
  have k6_0_1 : w6.cell? ⟨w.heap.size, 1, none⟩ = some (.int .i64 ay) := B6_0.cell 1
  have z6_0 : w.heap.size < w6.heap.size := B6_0.lt
  clear B6_0
  have B6_1 : Blk w6 (w.heap.size + 1) 46 #[.int .i64 bx, .int .i64 bY] := HH6.out (w.heap.size + 1, 46, [.int .i64 bx, .int .i64 bY]) (by simp)
  have k6_1_0 : w6.cell? ⟨w.heap.size + 1, 0, none⟩ = some (.int .i64 bx) := B6_1.cell 0
  have k6_1_1 : w6.cell? ⟨w.heap.size + 1, 1, none⟩ = some (.int .i64 bY) := B6_1.cell 1
  have z6_1 : w.heap.size + 1 < w6.heap.size := B6_1.lt
  clear B6_1
  have B6_2 : Blk w6 (w.heap.size + 1 + 1) 46 #[.int .i64 cx, .int .i64 cy] := HH6.out (w.heap.size + 1 + 1, 46, [.int .i64 cx, .int .i64 cy]) (by simp)
  have k6_2_0 : w6.cell? ⟨w.heap.size + 1 + 1, 0, none⟩ = some (.int .i64 cx) := B6_2.cell 0
  have k6_2_1 : w6.cell? ⟨w.heap.size + 1 + 1, 1, none⟩ = some (.int .i64 cy) := B6_2.cell 1
  have z6_2 : w.heap.size + 1 + 1 < w6.heap.size := B6_2.lt
  clear B6_2
  have B6_3 : Blk w6 (w.heap.size + 1 + 1 + 1) 46 #[.int .i64 dx, .int .i64 dy] := HH6.out (w.heap.size + 1 + 1 + 1, 46, [.int .i64 dx, .int .i64 dy]) (by simp)
  have k6_3_0 : w6.cell? ⟨w.heap.size + 1 + 1 + 1, 0, none⟩ = some (.int .i64 dx) := B6_3.cell 0
  have k6_3_1 : w6.cell? ⟨w.heap.size + 1 + 1 + 1, 1, none⟩ = some (.int .i64 dy) := B6_3.cell 1
  have z6_3 : w.heap.size + 1 + 1 + 1 < w6.heap.size := B6_3.lt
  clear B6_3
  go_wp2_with fail
  refine (c2.out _).mono ?_
  rintro e w7 ⟨rfl, hb7⟩
  have HH7 := Lib.hid ((HH6.out).below hb7)
  have HB7 := Lib.hid (below_trans (HB6.out) hb7)
  clear k6_0_0 k6_0_1 z6_0 k6_1_0 k6_1_1 z6_1 k6_2_0 k6_2_1 z6_2 k6_3_0 k6_3_1 z6_3
  clear hb7
  clear HH6 HB6
  have B7_0 : Blk w7 (w.heap.size) 46 #[.int .i64 ax, .int .i64 ay] := HH7.out (w.heap.size, 46, [.int .i64 ax, .int .i64 ay]) (by simp)
  have k7_0_0 : w7.cell? ⟨w.heap.size, 0, none⟩ = some (.int .i64 ax) := B7_0.cell 0
  have k7_0_1 : w7.cell? ⟨w.heap.size, 1, none⟩ = some (.int .i64 ay) := B7_0.cell 1
  have z7_0 : w.heap.size < w7.heap.size := B7_0.lt
  clear B7_0
  have B7_1 : Blk w7 (w.heap.size + 1) 46 #[.int .i64 bx, .int .i64 bY] := HH7.out (w.heap.size + 1, 46, [.int .i64 bx, .int .i64 bY]) (by simp)
  have k7_1_0 : w7.cell? ⟨w.heap.size + 1, 0, none⟩ = some (.int .i64 bx) := B7_1.cell 0
  have k7_1_1 : w7.cell? ⟨w.heap.size + 1, 1, none⟩ = some (.int .i64 bY) := B7_1.cell 1
  have z7_1 : w.heap.size + 1 < w7.heap.size := B7_1.lt
  clear B7_1
  have B7_2 : Blk w7 (w.heap.size + 1 + 1) 46 #[.int .i64 cx, .int .i64 cy] := HH7.out (w.heap.size + 1 + 1, 46, [.int .i64 cx, .int .i64 cy]) (by simp)
  have k7_2_0 : w7.cell? ⟨w.heap.size + 1 + 1, 0, none⟩ = some (.int .i64 cx) := B7_2.cell 0
  have k7_2_1 : w7.cell? ⟨w.heap.size + 1 + 1, 1, none⟩ = some (.int .i64 cy) := B7_2.cell 1
  have z7_2 : w.heap.size + 1 + 1 < w7.heap.size := B7_2.lt
  clear B7_2
  have B7_3 : Blk w7 (w.heap.size + 1 + 1 + 1) 46 #[.int .i64 dx, .int .i64 dy] := HH7.out (w.heap.size + 1 + 1 + 1, 46, [.int .i64 dx, .int .i64 dy]) (by simp)
  have k7_3_0 : w7.cell? ⟨w.heap.size + 1 + 1 + 1, 0, none⟩ = some (.int .i64 dx) := B7_3.cell 0
  have k7_3_1 : w7.cell? ⟨w.heap.size + 1 + 1 + 1, 1, none⟩ = some (.int .i64 dy) := B7_3.cell 1
  have z7_3 : w.heap.size + 1 + 1 + 1 < w7.heap.size := B7_3.lt
  clear B7_3
  go_wp2
  go_returns
  exact ⟨rfl, by repeat (first | with_reducible exact HB7.out | with_reducible refine Below.drew ?_ | with_reducible refine below_drewN ?_ _ | with_reducible refine below_set ?_ (by have := HB7.out.size; simp <;> omega) _ | with_reducible refine below_alloc ?_ _)⟩
theorem meetsLaw_any (ax ay bx bY cx cy dx dy : Int) (w : World) : Calls Try.prog 7 #[.agg #[.int .i64 ax, .int .i64 ay], .agg #[.int .i64 bx, .int .i64 bY], .agg #[.int .i64 cx, .int .i64 cy], .agg #[.int .i64 dx, .int .i64 dy]] w fun e w' => e = .returned (.bool true) ∧ Below w.heap.size w w' := by

  rcases h1 : in2 ax ay with _ | _
  · exact meets_n1 ax ay bx bY cx cy dx dy h1 rfl rfl rfl w
  rcases h2 : in2 bx bY with _ | _
  · exact meets_n2 ax ay bx bY cx cy dx dy h1 h2 rfl rfl w
  rcases h3 : in2 cx cy with _ | _
  · exact meets_n3 ax ay bx bY cx cy dx dy h1 h2 h3 rfl w
  rcases h4 : in2 dx dy with _ | _
  · exact meets_n4 ax ay bx bY cx cy dx dy h1 h2 h3 h4 w
  · exact meets_ok ax ay bx bY cx cy dx dy h1 h2 h3 h4 w

end Go.Proofs.Ytkfdbhhchnbjdaa.Ve
