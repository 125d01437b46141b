/- A point lies on a segment exactly if the segment meets it; the walk of VectorTurns. -/
import Derived.Test.YtkfdbhhchnbjdaaVeL2
namespace Go.Proofs.Ytkfdbhhchnbjdaa.Ve
open Go.RowKit Ba
set_option linter.unusedVariables false

theorem cmpI_sq {x y : Int} (h : cmpI x y ≠ 0) : 0 < cmpI x y * cmpI x y := by
  have h1 : cmpI x y = -1 ∨ cmpI x y = 1 := by unfold cmpI at *; split at h <;> (try split at h) <;> simp_all
  rcases h1 with h1 | h1 <;> rw [h1] <;> decide
theorem turn_pp (px py ax ay : Int) : turnI px py px py ax ay = 0 := by
  unfold turnI; rw [show px - px = 0 by omega, show py - py = 0 by omega, Int.zero_mul, Int.zero_mul]; exact cmpI_eq 0
theorem meet_pp (ax ay bx bY px py : Int) : meetI ax ay bx bY px py px py = if turnI ax ay bx bY px py = 0 then lineI ax ay bx bY px py px py else 0 := by
  unfold meetI
  rw [turn_pp, turn_pp]
  by_cases h : turnI ax ay bx bY px py = 0
  · rw [if_pos ⟨rfl, rfl, h, h⟩, if_pos h]
  · rw [if_neg (fun hh => h hh.2.2.1), if_neg h, if_pos (.inl (cmpI_sq h))]
/-- the order of points of a plane -/
def lexP (ax ay bx bY : Int) : Prop := ax < bx ∨ (ax = bx ∧ ay ≤ bY)
theorem cmp3_pos {ax ay bx bY : Int} : 0 < cmp3 ax ay 0 bx bY 0 ↔ ¬ lexP ax ay bx bY := by
  unfold cmp3 cmpI lexP; repeat' split
  all_goals omega
theorem numI_pos {c : Int} (h : -1 ≤ c ∧ c ≤ 1) : 0 < numI c ↔ ¬ 0 < c := by
  unfold numI; split <;> (try split) <;> omega
theorem cmp3_bd0 (ax ay az bx bY bz : Int) : -1 ≤ cmp3 ax ay az bx bY bz ∧ cmp3 ax ay az bx bY bz ≤ 1 := by
  unfold cmp3 cmpI; repeat' split
  all_goals omega
theorem fst2_if (ax ay bx bY : Int) : (lexP ax ay bx bY → fst2 ax ay bx bY = (ax, ay) ∧ lst2 ax ay bx bY = (bx, bY)) ∧ (¬ lexP ax ay bx bY → fst2 ax ay bx bY = (bx, bY) ∧ lst2 ax ay bx bY = (ax, ay)) := by
  unfold fst2 lst2
  constructor
  · intro h; rw [if_neg (fun hh => (cmp3_pos.1 hh) h), if_neg (fun hh => (cmp3_pos.1 hh) h)]; exact ⟨rfl, rfl⟩
  · intro h; rw [if_pos (cmp3_pos.2 h), if_pos (cmp3_pos.2 h)]; exact ⟨rfl, rfl⟩
theorem lineQ_pos (f1 f2 e1 e2 f3 f4 e3 e4 : Int) : 0 < lineQ f1 f2 e1 e2 f3 f4 e3 e4 ↔ lexP (lst2 f1 f2 f3 f4).1 (lst2 f1 f2 f3 f4).2 (fst2 e1 e2 e3 e4).1 (fst2 e1 e2 e3 e4).2 := by
  unfold lineQ
  rw [numI_pos (cmp3_bd0 _ _ _ _ _ _), cmp3_pos]
  exact Classical.not_not
theorem fst2_same (px py : Int) : fst2 px py px py = (px, py) ∧ lst2 px py px py = (px, py) := (fst2_if px py px py).1 (.inr ⟨rfl, Int.le_refl _⟩)
theorem line_pp (ax ay bx bY px py : Int) : 0 < lineI ax ay bx bY px py px py ↔ lexP (fst2 ax ay bx bY).1 (fst2 ax ay bx bY).2 px py ∧ lexP px py (lst2 ax ay bx bY).1 (lst2 ax ay bx bY).2 := by
  unfold lineI
  rw [lineQ_pos, (fst2_same px py).1, (fst2_same px py).2]
  generalize hf : fst2 ax ay bx bY = f
  generalize hl : lst2 ax ay bx bY = l
  have hfl : lexP f.1 f.2 l.1 l.2 := by
    have h0 := fst2_if ax ay bx bY
    rw [hf, hl] at h0
    by_cases h : lexP ax ay bx bY
    · obtain ⟨rfl, rfl⟩ := h0.1 h; exact h
    · obtain ⟨rfl, rfl⟩ := h0.2 h; unfold lexP at *; simp only; omega
  have h1 := fst2_if f.1 f.2 px py
  have h2 := fst2_if l.1 l.2 px py
  by_cases c1 : lexP f.1 f.2 px py <;> by_cases c2 : lexP l.1 l.2 px py
  · rw [(h1.1 c1).2, (h2.1 c2).1]; unfold lexP at *; simp only; omega
  · rw [(h1.1 c1).2, (h2.2 c2).1]; exact ⟨fun _ => ⟨c1, by unfold lexP at *; omega⟩, fun _ => .inr ⟨rfl, Int.le_refl _⟩⟩
  · rw [(h1.2 c1).2, (h2.1 c2).1]; unfold lexP at *; simp only; omega
  · rw [(h1.2 c1).2, (h2.2 c2).1]; unfold lexP at *; simp only; omega
theorem cancel_nonneg {u s : Int} (hu : 0 < u) (h : 0 ≤ u * s) : 0 ≤ s := by
  by_cases hs : 0 ≤ s
  · exact hs
  · have := Int.mul_pos hu (show 0 < -s by omega)
    rw [Int.mul_neg] at this
    omega
theorem between {u v t s : Int} (hu : 0 < u) (e : u * s = v * t) (h0 : 0 ≤ t) (h1 : t ≤ u) : (0 ≤ v → 0 ≤ s ∧ s ≤ v) ∧ (v ≤ 0 → v ≤ s ∧ s ≤ 0) := by
  have e2 : u * (v - s) = v * (u - t) := by rw [Int.mul_sub, e, Int.mul_sub, Int.mul_comm u v]
  constructor
  · intro hv
    have a := cancel_nonneg hu (show 0 ≤ u * s by rw [e]; exact Int.mul_nonneg hv h0)
    have b := cancel_nonneg hu (show 0 ≤ u * (v - s) by rw [e2]; exact Int.mul_nonneg hv (by omega))
    omega
  · intro hv
    have a := cancel_nonneg hu (show 0 ≤ u * (-s) by rw [Int.mul_neg, e, ← Int.neg_mul]; exact Int.mul_nonneg (by omega) h0)
    have b := cancel_nonneg hu (show 0 ≤ u * (-(v - s)) by rw [Int.mul_neg, e2, ← Int.neg_mul]; exact Int.mul_nonneg (by omega) (by omega))
    omega
theorem edge {u v t s : Int} (hu : 0 < u) (e : u * s = v * t) : (t = 0 → s = 0) ∧ (t = u → s = v) := by
  constructor
  · intro h
    have := between hu e (by omega) (by omega)
    have := between (u := u) (v := -v) (t := t) (s := -s) hu (by rw [Int.mul_neg, e, Int.neg_mul]) (by omega) (by omega)
    subst h
    rw [Int.mul_zero] at e
    rcases Int.mul_eq_zero.1 e with h | h <;> omega
  · intro h
    have e2 : u * (v - s) = 0 := by rw [Int.mul_sub, e, h, Int.mul_comm u v]; omega
    rcases Int.mul_eq_zero.1 e2 with h | h <;> omega
theorem on_lex (ax ay bx bY px py : Int) (h : turnI ax ay bx bY px py = 0) :
    (lexP (fst2 ax ay bx bY).1 (fst2 ax ay bx bY).2 px py ∧ lexP px py (lst2 ax ay bx bY).1 (lst2 ax ay bx bY).2) ↔ (min ax bx ≤ px ∧ px ≤ max ax bx ∧ min ay bY ≤ py ∧ py ≤ max ay bY) := by
  have e := cmpI_zero.1 h
  have h0 := fst2_if ax ay bx bY
  by_cases c1 : ax < bx
  · obtain ⟨hf, hl⟩ := h0.1 (.inl c1)
    rw [hf, hl]
    have ed := edge (u := bx - ax) (v := bY - ay) (t := px - ax) (s := py - ay) (by omega) e
    by_cases c2 : 0 ≤ px - ax ∧ px - ax ≤ bx - ax
    · have bt := between (u := bx - ax) (by omega) e c2.1 c2.2
      unfold lexP; simp only; omega
    · unfold lexP; simp only; omega
  · by_cases c2 : bx < ax
    · obtain ⟨hf, hl⟩ := h0.2 (by unfold lexP; omega)
      rw [hf, hl]
      have e' : (ax - bx) * (py - bY) = (ay - bY) * (px - bx) := by
        have : (bx - ax) * (py - ay) = (bY - ay) * (px - ax) := e
        grind
      have ed := edge (u := ax - bx) (v := ay - bY) (t := px - bx) (s := py - bY) (by omega) e'
      by_cases c3 : 0 ≤ px - bx ∧ px - bx ≤ ax - bx
      · have bt := between (u := ax - bx) (by omega) e' c3.1 c3.2
        unfold lexP; simp only; omega
      · unfold lexP; simp only; omega
    · by_cases c3 : lexP ax ay bx bY
      · obtain ⟨hf, hl⟩ := h0.1 c3
        rw [hf, hl]; unfold lexP at *; simp only; omega
      · obtain ⟨hf, hl⟩ := h0.2 c3
        rw [hf, hl]; unfold lexP at *; simp only; omega
theorem on_meet (ax ay bx bY px py : Int) : decide (0 < meetI ax ay bx bY px py px py) = onB ax ay bx bY px py := by
  rw [meet_pp, onB]
  by_cases h : turnI ax ay bx bY px py = 0
  · rw [if_pos h, Bool.eq_iff_iff]
    simp only [decide_eq_true_eq, Bool.and_eq_true, h, true_and]
    rw [line_pp, on_lex _ _ _ _ _ _ h]
  · rw [if_neg h]; simp [h]
set_option maxHeartbeats 800000 in
theorem turns_n1 (ax ay bx bY cx cy : Int) {v2 : Bool} {v3 : Bool} (h1 : in2 ax ay = false) (h2 : in2 bx bY = v2) (h3 : in2 cx cy = v3) (w : World) : Calls Try.prog 6 #[.agg #[.int .i64 ax, .int .i64 ay], .agg #[.int .i64 bx, .int .i64 bY], .agg #[.int .i64 cx, .int .i64 cy]] w fun e w' => e = .returned (.bool true) ∧ Below w.heap.size w w' := by
  have c0 := Lib.hid fun W => awake_any W
  have i1 := Lib.hid fun W => rInPoint_any ax ay W
  have i2 := Lib.hid fun W => rInPoint_any bx bY W
  have i3 := Lib.hid fun W => rInPoint_any cx cy W
  have c1 := Lib.hid fun W => turnP_no ax ay bx bY cx cy (fun hh => by simp [h1] at hh) W
  have c2 := Lib.hid fun W => onP_no ax ay bx bY cx cy (fun hh => by simp [h1] at hh) W
  rw [h1] at i1
  rw [h2] at i2
  rw [h3] at i3
  clear h1 h2 h3
  go_enter Try.func6, Try.ntmps6
  go_wp2_with fail
  refine (c0.out _).mono ?_
  rintro e w1 ⟨rfl, hb1⟩
  have HH1 := Lib.hid ((((((Blks.nil (w := w))).new (w.heap.size) 46 [.int .i64 ax, .int .i64 ay] rfl).new (w.heap.size + 1) 46 [.int .i64 bx, .int .i64 bY] (by simp)).new (w.heap.size + 1 + 1) 46 [.int .i64 cx, .int .i64 cy] (by simp)).below hb1)
  have HB1 := Lib.hid (below_trans (below_alloc (below_alloc (below_alloc (Below.refl _ _) _) _) _) hb1)
  clear hb1
  have B1_0 : Blk w1 (w.heap.size) 46 #[.int .i64 ax, .int .i64 ay] := HH1.out (w.heap.size, 46, [.int .i64 ax, .int .i64 ay]) (by simp)
  have k1_0_0 : w1.cell? ⟨w.heap.size, 0, none⟩ = some (.int .i64 ax) := B1_0.cell 0
  have k1_0_1 : w1.cell? ⟨w.heap.size, 1, none⟩ = some (.int .i64 ay) := B1_0.cell 1
  have z1_0 : w.heap.size < w1.heap.size := B1_0.lt
  clear B1_0
  have B1_1 : Blk w1 (w.heap.size + 1) 46 #[.int .i64 bx, .int .i64 bY] := HH1.out (w.heap.size + 1, 46, [.int .i64 bx, .int .i64 bY]) (by simp)
  have k1_1_0 : w1.cell? ⟨w.heap.size + 1, 0, none⟩ = some (.int .i64 bx) := B1_1.cell 0
  have k1_1_1 : w1.cell? ⟨w.heap.size + 1, 1, none⟩ = some (.int .i64 bY) := B1_1.cell 1
  have z1_1 : w.heap.size + 1 < w1.heap.size := B1_1.lt
  clear B1_1
  have B1_2 : Blk w1 (w.heap.size + 1 + 1) 46 #[.int .i64 cx, .int .i64 cy] := HH1.out (w.heap.size + 1 + 1, 46, [.int .i64 cx, .int .i64 cy]) (by simp)
  have k1_2_0 : w1.cell? ⟨w.heap.size + 1 + 1, 0, none⟩ = some (.int .i64 cx) := B1_2.cell 0
  have k1_2_1 : w1.cell? ⟨w.heap.size + 1 + 1, 1, none⟩ = some (.int .i64 cy) := B1_2.cell 1
  have z1_2 : w.heap.size + 1 + 1 < w1.heap.size := B1_2.lt
  clear B1_2
  go_wp2_with fail
  refine (c1.out _).mono ?_
  rintro e w2 ⟨rfl, hb2⟩
  have HH2 := Lib.hid ((HH1.out).below hb2)
  have HB2 := Lib.hid (below_trans (HB1.out) hb2)
  clear k1_0_0 k1_0_1 z1_0 k1_1_0 k1_1_1 z1_1 k1_2_0 k1_2_1 z1_2
  clear hb2
  clear HH1 HB1
  have B2_0 : Blk w2 (w.heap.size) 46 #[.int .i64 ax, .int .i64 ay] := HH2.out (w.heap.size, 46, [.int .i64 ax, .int .i64 ay]) (by simp)
  have k2_0_0 : w2.cell? ⟨w.heap.size, 0, none⟩ = some (.int .i64 ax) := B2_0.cell 0
  have k2_0_1 : w2.cell? ⟨w.heap.size, 1, none⟩ = some (.int .i64 ay) := B2_0.cell 1
  have z2_0 : w.heap.size < w2.heap.size := B2_0.lt
  clear B2_0
  have B2_1 : Blk w2 (w.heap.size + 1) 46 #[.int .i64 bx, .int .i64 bY] := HH2.out (w.heap.size + 1, 46, [.int .i64 bx, .int .i64 bY]) (by simp)
  have k2_1_0 : w2.cell? ⟨w.heap.size + 1, 0, none⟩ = some (.int .i64 bx) := B2_1.cell 0
  have k2_1_1 : w2.cell? ⟨w.heap.size + 1, 1, none⟩ = some (.int .i64 bY) := B2_1.cell 1
  have z2_1 : w.heap.size + 1 < w2.heap.size := B2_1.lt
  clear B2_1
  have B2_2 : Blk w2 (w.heap.size + 1 + 1) 46 #[.int .i64 cx, .int .i64 cy] := HH2.out (w.heap.size + 1 + 1, 46, [.int .i64 cx, .int .i64 cy]) (by simp)
  have k2_2_0 : w2.cell? ⟨w.heap.size + 1 + 1, 0, none⟩ = some (.int .i64 cx) := B2_2.cell 0
  have k2_2_1 : w2.cell? ⟨w.heap.size + 1 + 1, 1, none⟩ = some (.int .i64 cy) := B2_2.cell 1
  have z2_2 : w.heap.size + 1 + 1 < w2.heap.size := B2_2.lt
  clear B2_2
  go_wp2_with fail
  refine (c2.out _).mono ?_
  rintro e w3 ⟨rfl, hb3⟩
  have HH3 := Lib.hid ((HH2.out).below hb3)
  have HB3 := Lib.hid (below_trans (HB2.out) hb3)
  clear k2_0_0 k2_0_1 z2_0 k2_1_0 k2_1_1 z2_1 k2_2_0 k2_2_1 z2_2
  clear hb3
  clear HH2 HB2
  have B3_0 : Blk w3 (w.heap.size) 46 #[.int .i64 ax, .int .i64 ay] := HH3.out (w.heap.size, 46, [.int .i64 ax, .int .i64 ay]) (by simp)
  have k3_0_0 : w3.cell? ⟨w.heap.size, 0, none⟩ = some (.int .i64 ax) := B3_0.cell 0
  have k3_0_1 : w3.cell? ⟨w.heap.size, 1, none⟩ = some (.int .i64 ay) := B3_0.cell 1
  have z3_0 : w.heap.size < w3.heap.size := B3_0.lt
  clear B3_0
  have B3_1 : Blk w3 (w.heap.size + 1) 46 #[.int .i64 bx, .int .i64 bY] := HH3.out (w.heap.size + 1, 46, [.int .i64 bx, .int .i64 bY]) (by simp)
  have k3_1_0 : w3.cell? ⟨w.heap.size + 1, 0, none⟩ = some (.int .i64 bx) := B3_1.cell 0
  have k3_1_1 : w3.cell? ⟨w.heap.size + 1, 1, none⟩ = some (.int .i64 bY) := B3_1.cell 1
  have z3_1 : w.heap.size + 1 < w3.heap.size := B3_1.lt
  clear B3_1
  have B3_2 : Blk w3 (w.heap.size + 1 + 1) 46 #[.int .i64 cx, .int .i64 cy] := HH3.out (w.heap.size + 1 + 1, 46, [.int .i64 cx, .int .i64 cy]) (by simp)
  have k3_2_0 : w3.cell? ⟨w.heap.size + 1 + 1, 0, none⟩ = some (.int .i64 cx) := B3_2.cell 0
  have k3_2_1 : w3.cell? ⟨w.heap.size + 1 + 1, 1, none⟩ = some (.int .i64 cy) := B3_2.cell 1
  have z3_2 : w.heap.size + 1 + 1 < w3.heap.size := B3_2.lt
  clear B3_2
  go_wp2_with fail
  refine (i1.out _).mono ?_
  rintro e w4 ⟨rfl, hb4⟩
  have HH4 := Lib.hid ((HH3.out).below hb4)
  have HB4 := Lib.hid (below_trans (HB3.out) hb4)
  clear k3_0_0 k3_0_1 z3_0 k3_1_0 k3_1_1 z3_1 k3_2_0 k3_2_1 z3_2
  clear hb4
  clear HH3 HB3
  have B4_0 : Blk w4 (w.heap.size) 46 #[.int .i64 ax, .int .i64 ay] := HH4.out (w.heap.size, 46, [.int .i64 ax, .int .i64 ay]) (by simp)
  have k4_0_0 : w4.cell? ⟨w.heap.size, 0, none⟩ = some (.int .i64 ax) := B4_0.cell 0
  have k4_0_1 : w4.cell? ⟨w.heap.size, 1, none⟩ = some (.int .i64 ay) := B4_0.cell 1
  have z4_0 : w.heap.size < w4.heap.size := B4_0.lt
  clear B4_0
  have B4_1 : Blk w4 (w.heap.size + 1) 46 #[.int .i64 bx, .int .i64 bY] := HH4.out (w.heap.size + 1, 46, [.int .i64 bx, .int .i64 bY]) (by simp)
  have k4_1_0 : w4.cell? ⟨w.heap.size + 1, 0, none⟩ = some (.int .i64 bx) := B4_1.cell 0
  have k4_1_1 : w4.cell? ⟨w.heap.size + 1, 1, none⟩ = some (.int .i64 bY) := B4_1.cell 1
  have z4_1 : w.heap.size + 1 < w4.heap.size := B4_1.lt
  clear B4_1
  have B4_2 : Blk w4 (w.heap.size + 1 + 1) 46 #[.int .i64 cx, .int .i64 cy] := HH4.out (w.heap.size + 1 + 1, 46, [.int .i64 cx, .int .i64 cy]) (by simp)
  have k4_2_0 : w4.cell? ⟨w.heap.size + 1 + 1, 0, none⟩ = some (.int .i64 cx) := B4_2.cell 0
  have k4_2_1 : w4.cell? ⟨w.heap.size + 1 + 1, 1, none⟩ = some (.int .i64 cy) := B4_2.cell 1
  have z4_2 : w.heap.size + 1 + 1 < w4.heap.size := B4_2.lt
  clear B4_2
  go_wp2
  go_returns
  exact ⟨rfl, by repeat (first | with_reducible exact HB4.out | with_reducible refine Below.drew ?_ | with_reducible refine below_drewN ?_ _ | with_reducible refine below_set ?_ (by have := HB4.out.size; simp <;> omega) _ | with_reducible refine below_alloc ?_ _)⟩
set_option maxHeartbeats 800000 in
theorem turns_n2 (ax ay bx bY cx cy : Int) {v3 : Bool} (h1 : in2 ax ay = true) (h2 : in2 bx bY = false) (h3 : in2 cx cy = v3) (w : World) : Calls Try.prog 6 #[.agg #[.int .i64 ax, .int .i64 ay], .agg #[.int .i64 bx, .int .i64 bY], .agg #[.int .i64 cx, .int .i64 cy]] w fun e w' => e = .returned (.bool true) ∧ Below w.heap.size w w' := by
  have c0 := Lib.hid fun W => awake_any W
  have i1 := Lib.hid fun W => rInPoint_any ax ay W
  have i2 := Lib.hid fun W => rInPoint_any bx bY W
  have i3 := Lib.hid fun W => rInPoint_any cx cy W
  have c1 := Lib.hid fun W => turnP_no ax ay bx bY cx cy (fun hh => by simp [h2] at hh) W
  have c2 := Lib.hid fun W => onP_no ax ay bx bY cx cy (fun hh => by simp [h2] at hh) W
  rw [h1] at i1
  rw [h2] at i2
  rw [h3] at i3
  clear h1 h2 h3
  go_enter Try.func6, Try.ntmps6
  go_wp2_with fail
  refine (c0.out _).mono ?_
  rintro e w1 ⟨rfl, hb1⟩
  have HH1 := Lib.hid ((((((Blks.nil (w := w))).new (w.heap.size) 46 [.int .i64 ax, .int .i64 ay] rfl).new (w.heap.size + 1) 46 [.int .i64 bx, .int .i64 bY] (by simp)).new (w.heap.size + 1 + 1) 46 [.int .i64 cx, .int .i64 cy] (by simp)).below hb1)
  have HB1 := Lib.hid (below_trans (below_alloc (below_alloc (below_alloc (Below.refl _ _) _) _) _) hb1)
  clear hb1
  have B1_0 : Blk w1 (w.heap.size) 46 #[.int .i64 ax, .int .i64 ay] := HH1.out (w.heap.size, 46, [.int .i64 ax, .int .i64 ay]) (by simp)
  have k1_0_0 : w1.cell? ⟨w.heap.size, 0, none⟩ = some (.int .i64 ax) := B1_0.cell 0
  have k1_0_1 : w1.cell? ⟨w.heap.size, 1, none⟩ = some (.int .i64 ay) := B1_0.cell 1
  have z1_0 : w.heap.size < w1.heap.size := B1_0.lt
  clear B1_0
  have B1_1 : Blk w1 (w.heap.size + 1) 46 #[.int .i64 bx, .int .i64 bY] := HH1.out (w.heap.size + 1, 46, [.int .i64 bx, .int .i64 bY]) (by simp)
  have k1_1_0 : w1.cell? ⟨w.heap.size + 1, 0, none⟩ = some (.int .i64 bx) := B1_1.cell 0
  have k1_1_1 : w1.cell? ⟨w.heap.size + 1, 1, none⟩ = some (.int .i64 bY) := B1_1.cell 1
  have z1_1 : w.heap.size + 1 < w1.heap.size := B1_1.lt
  clear B1_1
  have B1_2 : Blk w1 (w.heap.size + 1 + 1) 46 #[.int .i64 cx, .int .i64 cy] := HH1.out (w.heap.size + 1 + 1, 46, [.int .i64 cx, .int .i64 cy]) (by simp)
  have k1_2_0 : w1.cell? ⟨w.heap.size + 1 + 1, 0, none⟩ = some (.int .i64 cx) := B1_2.cell 0
  have k1_2_1 : w1.cell? ⟨w.heap.size + 1 + 1, 1, none⟩ = some (.int .i64 cy) := B1_2.cell 1
  have z1_2 : w.heap.size + 1 + 1 < w1.heap.size := B1_2.lt
  clear B1_2
  go_wp2_with fail
  refine (c1.out _).mono ?_
  rintro e w2 ⟨rfl, hb2⟩
  have HH2 := Lib.hid ((HH1.out).below hb2)
  have HB2 := Lib.hid (below_trans (HB1.out) hb2)
  clear k1_0_0 k1_0_1 z1_0 k1_1_0 k1_1_1 z1_1 k1_2_0 k1_2_1 z1_2
  clear hb2
  clear HH1 HB1
  have B2_0 : Blk w2 (w.heap.size) 46 #[.int .i64 ax, .int .i64 ay] := HH2.out (w.heap.size, 46, [.int .i64 ax, .int .i64 ay]) (by simp)
  have k2_0_0 : w2.cell? ⟨w.heap.size, 0, none⟩ = some (.int .i64 ax) := B2_0.cell 0
  have k2_0_1 : w2.cell? ⟨w.heap.size, 1, none⟩ = some (.int .i64 ay) := B2_0.cell 1
  have z2_0 : w.heap.size < w2.heap.size := B2_0.lt
  clear B2_0
  have B2_1 : Blk w2 (w.heap.size + 1) 46 #[.int .i64 bx, .int .i64 bY] := HH2.out (w.heap.size + 1, 46, [.int .i64 bx, .int .i64 bY]) (by simp)
  have k2_1_0 : w2.cell? ⟨w.heap.size + 1, 0, none⟩ = some (.int .i64 bx) := B2_1.cell 0
  have k2_1_1 : w2.cell? ⟨w.heap.size + 1, 1, none⟩ = some (.int .i64 bY) := B2_1.cell 1
  have z2_1 : w.heap.size + 1 < w2.heap.size := B2_1.lt
  clear B2_1
  have B2_2 : Blk w2 (w.heap.size + 1 + 1) 46 #[.int .i64 cx, .int .i64 cy] := HH2.out (w.heap.size + 1 + 1, 46, [.int .i64 cx, .int .i64 cy]) (by simp)
  have k2_2_0 : w2.cell? ⟨w.heap.size + 1 + 1, 0, none⟩ = some (.int .i64 cx) := B2_2.cell 0
  have k2_2_1 : w2.cell? ⟨w.heap.size + 1 + 1, 1, none⟩ = some (.int .i64 cy) := B2_2.cell 1
  have z2_2 : w.heap.size + 1 + 1 < w2.heap.size := B2_2.lt
  clear B2_2
  go_wp2_with fail
  refine (c2.out _).mono ?_
  rintro e w3 ⟨rfl, hb3⟩
  have HH3 := Lib.hid ((HH2.out).below hb3)
  have HB3 := Lib.hid (below_trans (HB2.out) hb3)
  clear k2_0_0 k2_0_1 z2_0 k2_1_0 k2_1_1 z2_1 k2_2_0 k2_2_1 z2_2
  clear hb3
  clear HH2 HB2
  have B3_0 : Blk w3 (w.heap.size) 46 #[.int .i64 ax, .int .i64 ay] := HH3.out (w.heap.size, 46, [.int .i64 ax, .int .i64 ay]) (by simp)
  have k3_0_0 : w3.cell? ⟨w.heap.size, 0, none⟩ = some (.int .i64 ax) := B3_0.cell 0
  have k3_0_1 : w3.cell? ⟨w.heap.size, 1, none⟩ = some (.int .i64 ay) := B3_0.cell 1
  have z3_0 : w.heap.size < w3.heap.size := B3_0.lt
  clear B3_0
  have B3_1 : Blk w3 (w.heap.size + 1) 46 #[.int .i64 bx, .int .i64 bY] := HH3.out (w.heap.size + 1, 46, [.int .i64 bx, .int .i64 bY]) (by simp)
  have k3_1_0 : w3.cell? ⟨w.heap.size + 1, 0, none⟩ = some (.int .i64 bx) := B3_1.cell 0
  have k3_1_1 : w3.cell? ⟨w.heap.size + 1, 1, none⟩ = some (.int .i64 bY) := B3_1.cell 1
  have z3_1 : w.heap.size + 1 < w3.heap.size := B3_1.lt
  clear B3_1
  have B3_2 : Blk w3 (w.heap.size + 1 + 1) 46 #[.int .i64 cx, .int .i64 cy] := HH3.out (w.heap.size + 1 + 1, 46, [.int .i64 cx, .int .i64 cy]) (by simp)
  have k3_2_0 : w3.cell? ⟨w.heap.size + 1 + 1, 0, none⟩ = some (.int .i64 cx) := B3_2.cell 0
  have k3_2_1 : w3.cell? ⟨w.heap.size + 1 + 1, 1, none⟩ = some (.int .i64 cy) := B3_2.cell 1
  have z3_2 : w.heap.size + 1 + 1 < w3.heap.size := B3_2.lt
  clear B3_2
  go_wp2_with fail
  refine (i1.out _).mono ?_
  rintro e w4 ⟨rfl, hb4⟩
  have HH4 := Lib.hid ((HH3.out).below hb4)
  have HB4 := Lib.hid (below_trans (HB3.out) hb4)
  clear k3_0_0 k3_0_1 z3_0 k3_1_0 k3_1_1 z3_1 k3_2_0 k3_2_1 z3_2
  clear hb4
  clear HH3 HB3
  have B4_0 : Blk w4 (w.heap.size) 46 #[.int .i64 ax, .int .i64 ay] := HH4.out (w.heap.size, 46, [.int .i64 ax, .int .i64 ay]) (by simp)
  have k4_0_0 : w4.cell? ⟨w.heap.size, 0, none⟩ = some (.int .i64 ax) := B4_0.cell 0
  have k4_0_1 : w4.cell? ⟨w.heap.size, 1, none⟩ = some (.int .i64 ay) := B4_0.cell 1
  have z4_0 : w.heap.size < w4.heap.size := B4_0.lt
  clear B4_0
  have B4_1 : Blk w4 (w.heap.size + 1) 46 #[.int .i64 bx, .int .i64 bY] := HH4.out (w.heap.size + 1, 46, [.int .i64 bx, .int .i64 bY]) (by simp)
  have k4_1_0 : w4.cell? ⟨w.heap.size + 1, 0, none⟩ = some (.int .i64 bx) := B4_1.cell 0
  have k4_1_1 : w4.cell? ⟨w.heap.size + 1, 1, none⟩ = some (.int .i64 bY) := B4_1.cell 1
  have z4_1 : w.heap.size + 1 < w4.heap.size := B4_1.lt
  clear B4_1
  have B4_2 : Blk w4 (w.heap.size + 1 + 1) 46 #[.int .i64 cx, .int .i64 cy] := HH4.out (w.heap.size + 1 + 1, 46, [.int .i64 cx, .int .i64 cy]) (by simp)
  have k4_2_0 : w4.cell? ⟨w.heap.size + 1 + 1, 0, none⟩ = some (.int .i64 cx) := B4_2.cell 0
  have k4_2_1 : w4.cell? ⟨w.heap.size + 1 + 1, 1, none⟩ = some (.int .i64 cy) := B4_2.cell 1
  have z4_2 : w.heap.size + 1 + 1 < w4.heap.size := B4_2.lt
  clear B4_2
  go_wp2_with fail
  refine (i2.out _).mono ?_
  rintro e w5 ⟨rfl, hb5⟩
  have HH5 := Lib.hid ((HH4.out).below hb5)
  have HB5 := Lib.hid (below_trans (HB4.out) hb5)
  clear k4_0_0 k4_0_1 z4_0 k4_1_0 k4_1_1 z4_1 k4_2_0 k4_2_1 z4_2
  clear hb5
  clear HH4 HB4
  have B5_0 : Blk w5 (w.heap.size) 46 #[.int .i64 ax, .int .i64 ay] := HH5.out (w.heap.size, 46, [.int .i64 ax, .int .i64 ay]) (by simp)
  have k5_0_0 : w5.cell? ⟨w.heap.size, 0, none⟩ = some (.int .i64 ax) := B5_0.cell 0
  have k5_0_1 : w5.cell? ⟨w.heap.size, 1, none⟩ = some (.int .i64 ay) := B5_0.cell 1
  have z5_0 : w.heap.size < w5.heap.size := B5_0.lt
  clear B5_0
  have B5_1 : Blk w5 (w.heap.size + 1) 46 #[.int .i64 bx, .int .i64 bY] := HH5.out (w.heap.size + 1, 46, [.int .i64 bx, .int .i64 bY]) (by simp)
  have k5_1_0 : w5.cell? ⟨w.heap.size + 1, 0, none⟩ = some (.int .i64 bx) := B5_1.cell 0
  have k5_1_1 : w5.cell? ⟨w.heap.size + 1, 1, none⟩ = some (.int .i64 bY) := B5_1.cell 1
  have z5_1 : w.heap.size + 1 < w5.heap.size := B5_1.lt
  clear B5_1
  have B5_2 : Blk w5 (w.heap.size + 1 + 1) 46 #[.int .i64 cx, .int .i64 cy] := HH5.out (w.heap.size + 1 + 1, 46, [.int .i64 cx, .int .i64 cy]) (by simp)
  have k5_2_0 : w5.cell? ⟨w.heap.size + 1 + 1, 0, none⟩ = some (.int .i64 cx) := B5_2.cell 0
  have k5_2_1 : w5.cell? ⟨w.heap.size + 1 + 1, 1, none⟩ = some (.int .i64 cy) := B5_2.cell 1
  have z5_2 : w.heap.size + 1 + 1 < w5.heap.size := B5_2.lt
  clear B5_2
  go_wp2
  go_returns
  exact ⟨rfl, by repeat (first | with_reducible exact HB5.out | with_reducible refine Below.drew ?_ | with_reducible refine below_drewN ?_ _ | with_reducible refine below_set ?_ (by have := HB5.out.size; simp <;> omega) _ | with_reducible refine below_alloc ?_ _)⟩
set_option maxHeartbeats 800000 in
theorem turns_n3 (ax ay bx bY cx cy : Int) (h1 : in2 ax ay = true) (h2 : in2 bx bY = true) (h3 : in2 cx cy = false) (w : World) : Calls Try.prog 6 #[.agg #[.int .i64 ax, .int .i64 ay], .agg #[.int .i64 bx, .int .i64 bY], .agg #[.int .i64 cx, .int .i64 cy]] w fun e w' => e = .returned (.bool true) ∧ Below w.heap.size w w' := by
  have c0 := Lib.hid fun W => awake_any W
  have i1 := Lib.hid fun W => rInPoint_any ax ay W
  have i2 := Lib.hid fun W => rInPoint_any bx bY W
  have i3 := Lib.hid fun W => rInPoint_any cx cy W
  have c1 := Lib.hid fun W => turnP_no ax ay bx bY cx cy (fun hh => by simp [h3] at hh) W
  have c2 := Lib.hid fun W => onP_no ax ay bx bY cx cy (fun hh => by simp [h3] at hh) W
  rw [h1] at i1
  rw [h2] at i2
  rw [h3] at i3
  clear h1 h2 h3
  go_enter Try.func6, Try.ntmps6
  go_wp2_with fail
  refine (c0.out _).mono ?_
  rintro e w1 ⟨rfl, hb1⟩
  have HH1 := Lib.hid ((((((Blks.nil (w := w))).new (w.heap.size) 46 [.int .i64 ax, .int .i64 ay] rfl).new (w.heap.size + 1) 46 [.int .i64 bx, .int .i64 bY] (by simp)).new (w.heap.size + 1 + 1) 46 [.int .i64 cx, .int .i64 cy] (by simp)).below hb1)
  have HB1 := Lib.hid (below_trans (below_alloc (below_alloc (below_alloc (Below.refl _ _) _) _) _) hb1)
  clear hb1
  have B1_0 : Blk w1 (w.heap.size) 46 #[.int .i64 ax, .int .i64 ay] := HH1.out (w.heap.size, 46, [.int .i64 ax, .int .i64 ay]) (by simp)
  have k1_0_0 : w1.cell? ⟨w.heap.size, 0, none⟩ = some (.int .i64 ax) := B1_0.cell 0
  have k1_0_1 : w1.cell? ⟨w.heap.size, 1, none⟩ = some (.int .i64 ay) := B1_0.cell 1
  have z1_0 : w.heap.size < w1.heap.size := B1_0.lt
  clear B1_0
  have B1_1 : Blk w1 (w.heap.size + 1) 46 #[.int .i64 bx, .int .i64 bY] := HH1.out (w.heap.size + 1, 46, [.int .i64 bx, .int .i64 bY]) (by simp)
  have k1_1_0 : w1.cell? ⟨w.heap.size + 1, 0, none⟩ = some (.int .i64 bx) := B1_1.cell 0
  have k1_1_1 : w1.cell? ⟨w.heap.size + 1, 1, none⟩ = some (.int .i64 bY) := B1_1.cell 1
  have z1_1 : w.heap.size + 1 < w1.heap.size := B1_1.lt
  clear B1_1
  have B1_2 : Blk w1 (w.heap.size + 1 + 1) 46 #[.int .i64 cx, .int .i64 cy] := HH1.out (w.heap.size + 1 + 1, 46, [.int .i64 cx, .int .i64 cy]) (by simp)
  have k1_2_0 : w1.cell? ⟨w.heap.size + 1 + 1, 0, none⟩ = some (.int .i64 cx) := B1_2.cell 0
  have k1_2_1 : w1.cell? ⟨w.heap.size + 1 + 1, 1, none⟩ = some (.int .i64 cy) := B1_2.cell 1
  have z1_2 : w.heap.size + 1 + 1 < w1.heap.size := B1_2.lt
  clear B1_2
  go_wp2_with fail
  refine (c1.out _).mono ?_
  rintro e w2 ⟨rfl, hb2⟩
  have HH2 := Lib.hid ((HH1.out).below hb2)
  have HB2 := Lib.hid (below_trans (HB1.out) hb2)
  clear k1_0_0 k1_0_1 z1_0 k1_1_0 k1_1_1 z1_1 k1_2_0 k1_2_1 z1_2
  clear hb2
  clear HH1 HB1
  have B2_0 : Blk w2 (w.heap.size) 46 #[.int .i64 ax, .int .i64 ay] := HH2.out (w.heap.size, 46, [.int .i64 ax, .int .i64 ay]) (by simp)
  have k2_0_0 : w2.cell? ⟨w.heap.size, 0, none⟩ = some (.int .i64 ax) := B2_0.cell 0
  have k2_0_1 : w2.cell? ⟨w.heap.size, 1, none⟩ = some (.int .i64 ay) := B2_0.cell 1
  have z2_0 : w.heap.size < w2.heap.size := B2_0.lt
  clear B2_0
  have B2_1 : Blk w2 (w.heap.size + 1) 46 #[.int .i64 bx, .int .i64 bY] := HH2.out (w.heap.size + 1, 46, [.int .i64 bx, .int .i64 bY]) (by simp)
  have k2_1_0 : w2.cell? ⟨w.heap.size + 1, 0, none⟩ = some (.int .i64 bx) := B2_1.cell 0
  have k2_1_1 : w2.cell? ⟨w.heap.size + 1, 1, none⟩ = some (.int .i64 bY) := B2_1.cell 1
  have z2_1 : w.heap.size + 1 < w2.heap.size := B2_1.lt
  clear B2_1
  have B2_2 : Blk w2 (w.heap.size + 1 + 1) 46 #[.int .i64 cx, .int .i64 cy] := HH2.out (w.heap.size + 1 + 1, 46, [.int .i64 cx, .int .i64 cy]) (by simp)
  have k2_2_0 : w2.cell? ⟨w.heap.size + 1 + 1, 0, none⟩ = some (.int .i64 cx) := B2_2.cell 0
  have k2_2_1 : w2.cell? ⟨w.heap.size + 1 + 1, 1, none⟩ = some (.int .i64 cy) := B2_2.cell 1
  have z2_2 : w.heap.size + 1 + 1 < w2.heap.size := B2_2.lt
  clear B2_2
  go_wp2_with fail
  refine (c2.out _).mono ?_
  rintro e w3 ⟨rfl, hb3⟩
  have HH3 := Lib.hid ((HH2.out).below hb3)
  have HB3 := Lib.hid (below_trans (HB2.out) hb3)
  clear k2_0_0 k2_0_1 z2_0 k2_1_0 k2_1_1 z2_1 k2_2_0 k2_2_1 z2_2
  clear hb3
  clear HH2 HB2
  have B3_0 : Blk w3 (w.heap.size) 46 #[.int .i64 ax, .int .i64 ay] := HH3.out (w.heap.size, 46, [.int .i64 ax, .int .i64 ay]) (by simp)
  have k3_0_0 : w3.cell? ⟨w.heap.size, 0, none⟩ = some (.int .i64 ax) := B3_0.cell 0
  have k3_0_1 : w3.cell? ⟨w.heap.size, 1, none⟩ = some (.int .i64 ay) := B3_0.cell 1
  have z3_0 : w.heap.size < w3.heap.size := B3_0.lt
  clear B3_0
  have B3_1 : Blk w3 (w.heap.size + 1) 46 #[.int .i64 bx, .int .i64 bY] := HH3.out (w.heap.size + 1, 46, [.int .i64 bx, .int .i64 bY]) (by simp)
  have k3_1_0 : w3.cell? ⟨w.heap.size + 1, 0, none⟩ = some (.int .i64 bx) := B3_1.cell 0
  have k3_1_1 : w3.cell? ⟨w.heap.size + 1, 1, none⟩ = some (.int .i64 bY) := B3_1.cell 1
  have z3_1 : w.heap.size + 1 < w3.heap.size := B3_1.lt
  clear B3_1
  have B3_2 : Blk w3 (w.heap.size + 1 + 1) 46 #[.int .i64 cx, .int .i64 cy] := HH3.out (w.heap.size + 1 + 1, 46, [.int .i64 cx, .int .i64 cy]) (by simp)
  have k3_2_0 : w3.cell? ⟨w.heap.size + 1 + 1, 0, none⟩ = some (.int .i64 cx) := B3_2.cell 0
  have k3_2_1 : w3.cell? ⟨w.heap.size + 1 + 1, 1, none⟩ = some (.int .i64 cy) := B3_2.cell 1
  have z3_2 : w.heap.size + 1 + 1 < w3.heap.size := B3_2.lt
  clear B3_2
  go_wp2_with fail
  refine (i1.out _).mono ?_
  rintro e w4 ⟨rfl, hb4⟩
  have HH4 := Lib.hid ((HH3.out).below hb4)
  have HB4 := Lib.hid (below_trans (HB3.out) hb4)
  clear k3_0_0 k3_0_1 z3_0 k3_1_0 k3_1_1 z3_1 k3_2_0 k3_2_1 z3_2
  clear hb4
  clear HH3 HB3
  have B4_0 : Blk w4 (w.heap.size) 46 #[.int .i64 ax, .int .i64 ay] := HH4.out (w.heap.size, 46, [.int .i64 ax, .int .i64 ay]) (by simp)
  have k4_0_0 : w4.cell? ⟨w.heap.size, 0, none⟩ = some (.int .i64 ax) := B4_0.cell 0
  have k4_0_1 : w4.cell? ⟨w.heap.size, 1, none⟩ = some (.int .i64 ay) := B4_0.cell 1
  have z4_0 : w.heap.size < w4.heap.size := B4_0.lt
  clear B4_0
  have B4_1 : Blk w4 (w.heap.size + 1) 46 #[.int .i64 bx, .int .i64 bY] := HH4.out (w.heap.size + 1, 46, [.int .i64 bx, .int .i64 bY]) (by simp)
  have k4_1_0 : w4.cell? ⟨w.heap.size + 1, 0, none⟩ = some (.int .i64 bx) := B4_1.cell 0
  have k4_1_1 : w4.cell? ⟨w.heap.size + 1, 1, none⟩ = some (.int .i64 bY) := B4_1.cell 1
  have z4_1 : w.heap.size + 1 < w4.heap.size := B4_1.lt
  clear B4_1
  have B4_2 : Blk w4 (w.heap.size + 1 + 1) 46 #[.int .i64 cx, .int .i64 cy] := HH4.out (w.heap.size + 1 + 1, 46, [.int .i64 cx, .int .i64 cy]) (by simp)
  have k4_2_0 : w4.cell? ⟨w.heap.size + 1 + 1, 0, none⟩ = some (.int .i64 cx) := B4_2.cell 0
  have k4_2_1 : w4.cell? ⟨w.heap.size + 1 + 1, 1, none⟩ = some (.int .i64 cy) := B4_2.cell 1
  have z4_2 : w.heap.size + 1 + 1 < w4.heap.size := B4_2.lt
  clear B4_2
  go_wp2_with fail
  refine (i2.out _).mono ?_
  rintro e w5 ⟨rfl, hb5⟩
  have HH5 := Lib.hid ((HH4.out).below hb5)
  have HB5 := Lib.hid (below_trans (HB4.out) hb5)
  clear k4_0_0 k4_0_1 z4_0 k4_1_0 k4_1_1 z4_1 k4_2_0 k4_2_1 z4_2
  clear hb5
  clear HH4 HB4
  have B5_0 : Blk w5 (w.heap.size) 46 #[.int .i64 ax, .int .i64 ay] := HH5.out (w.heap.size, 46, [.int .i64 ax, .int .i64 ay]) (by simp)
  have k5_0_0 : w5.cell? ⟨w.heap.size, 0, none⟩ = some (.int .i64 ax) := B5_0.cell 0
  have k5_0_1 : w5.cell? ⟨w.heap.size, 1, none⟩ = some (.int .i64 ay) := B5_0.cell 1
  have z5_0 : w.heap.size < w5.heap.size := B5_0.lt
  clear B5_0
  have B5_1 : Blk w5 (w.heap.size + 1) 46 #[.int .i64 bx, .int .i64 bY] := HH5.out (w.heap.size + 1, 46, [.int .i64 bx, .int .i64 bY]) (by simp)
  have k5_1_0 : w5.cell? ⟨w.heap.size + 1, 0, none⟩ = some (.int .i64 bx) := B5_1.cell 0
  have k5_1_1 : w5.cell? ⟨w.heap.size + 1, 1, none⟩ = some (.int .i64 bY) := B5_1.cell 1
  have z5_1 : w.heap.size + 1 < w5.heap.size := B5_1.lt
  clear B5_1
  have B5_2 : Blk w5 (w.heap.size + 1 + 1) 46 #[.int .i64 cx, .int .i64 cy] := HH5.out (w.heap.size + 1 + 1, 46, [.int .i64 cx, .int .i64 cy]) (by simp)
  have k5_2_0 : w5.cell? ⟨w.heap.size + 1 + 1, 0, none⟩ = some (.int .i64 cx) := B5_2.cell 0
  have k5_2_1 : w5.cell? ⟨w.heap.size + 1 + 1, 1, none⟩ = some (.int .i64 cy) := B5_2.cell 1
  have z5_2 : w.heap.size + 1 + 1 < w5.heap.size := B5_2.lt
  clear B5_2
  go_wp2_with fail
  refine (i3.out _).mono ?_
  rintro e w6 ⟨rfl, hb6⟩
  have HH6 := Lib.hid ((HH5.out).below hb6)
  have HB6 := Lib.hid (below_trans (HB5.out) hb6)
  clear k5_0_0 k5_0_1 z5_0 k5_1_0 k5_1_1 z5_1 k5_2_0 k5_2_1 z5_2
  clear hb6
  clear HH5 HB5
  have B6_0 : Blk w6 (w.heap.size) 46 #[.int .i64 ax, .int .i64 ay] := HH6.out (w.heap.size, 46, [.int .i64 ax, .int .i64 ay]) (by simp)
  have k6_0_0 : w6.cell? ⟨w.heap.size, 0, none⟩ = some (.int .i64 ax) := B6_0.cell 0
  have k6_0_1 : w6.cell? ⟨w.heap.size, 1, none⟩ = some (.int .i64 ay) := B6_0.cell 1
  have z6_0 : w.heap.size < w6.heap.size := B6_0.lt
  clear B6_0
  have B6_1 : Blk w6 (w.heap.size + 1) 46 #[.int .i64 bx, .int .i64 bY] := HH6.out (w.heap.size + 1, 46, [.int .i64 bx, .int .i64 bY]) (by simp)
  have k6_1_0 : w6.cell? ⟨w.heap.size + 1, 0, none⟩ = some (.int .i64 bx) := B6_1.cell 0
  have k6_1_1 : w6.cell? ⟨w.heap.size + 1, 1, none⟩ = some (.int .i64 bY) := B6_1.cell 1
  have z6_1 : w.heap.size + 1 < w6.heap.size := B6_1.lt
  clear B6_1
  have B6_2 : Blk w6 (w.heap.size + 1 + 1) 46 #[.int .i64 cx, .int .i64 cy] := HH6.out (w.heap.size + 1 + 1, 46, [.int .i64 cx, .int .i64 cy]) (by simp)
  have k6_2_0 : w6.cell? ⟨w.heap.size + 1 + 1, 0, none⟩ = some (.int .i64 cx) := B6_2.cell 0
  have k6_2_1 : w6.cell? ⟨w.heap.size + 1 + 1, 1, none⟩ = some (.int .i64 cy) := B6_2.cell 1
  have z6_2 : w.heap.size + 1 + 1 < w6.heap.size := B6_2.lt
  clear B6_2
  go_wp2
  go_returns
  exact ⟨rfl, by repeat (first | with_reducible exact HB6.out | with_reducible refine Below.drew ?_ | with_reducible refine below_drewN ?_ _ | with_reducible refine below_set ?_ (by have := HB6.out.size; simp <;> omega) _ | with_reducible refine below_alloc ?_ _)⟩
set_option maxHeartbeats 800000 in
theorem turns_ok (ax ay bx bY cx cy : Int) (h1 : in2 ax ay = true) (h2 : in2 bx bY = true) (h3 : in2 cx cy = true) (w : World) : Calls Try.prog 6 #[.agg #[.int .i64 ax, .int .i64 ay], .agg #[.int .i64 bx, .int .i64 bY], .agg #[.int .i64 cx, .int .i64 cy]] w fun e w' => e = .returned (.bool true) ∧ Below w.heap.size w w' := by
  have c0 := Lib.hid fun W => awake_any W
  have i1 := Lib.hid fun W => rInPoint_any ax ay W
  have i2 := Lib.hid fun W => rInPoint_any bx bY W
  have i3 := Lib.hid fun W => rInPoint_any cx cy W
  have c1 := Lib.hid fun W => turnP_ok ax ay bx bY cx cy h1 h2 h3 W
  have c2 := Lib.hid fun W => onP_ok ax ay bx bY cx cy h1 h2 h3 W
  have c3 := Lib.hid fun W => rturn_any ax ay bx bY cx cy h1 h2 h3 W
  have c4 := Lib.hid fun W => ron_any ax ay bx bY cx cy h1 h2 h3 W
  rw [on_meet] at c2
  rw [h1] at i1
  rw [h2] at i2
  rw [h3] at i3
  clear h1 h2 h3
  generalize turnI ax ay bx bY cx cy = T at *
  generalize onB ax ay bx bY cx cy = O at *
  have tT : (T == T) = true := by simp
  have tO : (O == O) = true := by simp
  go_enter Try.func6, Try.ntmps6
  go_wp2_with fail
  refine (c0.out _).mono ?_
  rintro e w1 ⟨rfl, hb1⟩
  have HH1 := Lib.hid ((((((Blks.nil (w := w))).new (w.heap.size) 46 [.int .i64 ax, .int .i64 ay] rfl).new (w.heap.size + 1) 46 [.int .i64 bx, .int .i64 bY] (by simp)).new (w.heap.size + 1 + 1) 46 [.int .i64 cx, .int .i64 cy] (by simp)).below hb1)
  have HB1 := Lib.hid (below_trans (below_alloc (below_alloc (below_alloc (Below.refl _ _) _) _) _) hb1)
  clear hb1
  have B1_0 : Blk w1 (w.heap.size) 46 #[.int .i64 ax, .int .i64 ay] := HH1.out (w.heap.size, 46, [.int .i64 ax, .int .i64 ay]) (by simp)
  have k1_0_0 : w1.cell? ⟨w.heap.size, 0, none⟩ = some (.int .i64 ax) := B1_0.cell 0
  have k1_0_1 : w1.cell? ⟨w.heap.size, 1, none⟩ = some (.int .i64 ay) := B1_0.cell 1
  have z1_0 : w.heap.size < w1.heap.size := B1_0.lt
  clear B1_0
  have B1_1 : Blk w1 (w.heap.size + 1) 46 #[.int .i64 bx, .int .i64 bY] := HH1.out (w.heap.size + 1, 46, [.int .i64 bx, .int .i64 bY]) (by simp)
  have k1_1_0 : w1.cell? ⟨w.heap.size + 1, 0, none⟩ = some (.int .i64 bx) := B1_1.cell 0
  have k1_1_1 : w1.cell? ⟨w.heap.size + 1, 1, none⟩ = some (.int .i64 bY) := B1_1.cell 1
  have z1_1 : w.heap.size + 1 < w1.heap.size := B1_1.lt
  clear B1_1
  have B1_2 : Blk w1 (w.heap.size + 1 + 1) 46 #[.int .i64 cx, .int .i64 cy] := HH1.out (w.heap.size + 1 + 1, 46, [.int .i64 cx, .int .i64 cy]) (by simp)
  have k1_2_0 : w1.cell? ⟨w.heap.size + 1 + 1, 0, none⟩ = some (.int .i64 cx) := B1_2.cell 0
  have k1_2_1 : w1.cell? ⟨w.heap.size + 1 + 1, 1, none⟩ = some (.int .i64 cy) := B1_2.cell 1
  have z1_2 : w.heap.size + 1 + 1 < w1.heap.size := B1_2.lt
  clear B1_2
  go_wp2_with fail
  refine (c1.out _).mono ?_
  rintro e w2 ⟨rfl, hb2⟩
  have HH2 := Lib.hid ((HH1.out).below hb2)
  have HB2 := Lib.hid (below_trans (HB1.out) hb2)
  clear k1_0_0 k1_0_1 z1_0 k1_1_0 k1_1_1 z1_1 k1_2_0 k1_2_1 z1_2
  clear hb2
  clear HH1 HB1
  have B2_0 : Blk w2 (w.heap.size) 46 #[.int .i64 ax, .int .i64 ay] := HH2.out (w.heap.size, 46, [.int .i64 ax, .int .i64 ay]) (by simp)
  have k2_0_0 : w2.cell? ⟨w.heap.size, 0, none⟩ = some (.int .i64 ax) := B2_0.cell 0
  have k2_0_1 : w2.cell? ⟨w.heap.size, 1, none⟩ = some (.int .i64 ay) := B2_0.cell 1
  have z2_0 : w.heap.size < w2.heap.size := B2_0.lt
  clear B2_0
  have B2_1 : Blk w2 (w.heap.size + 1) 46 #[.int .i64 bx, .int .i64 bY] := HH2.out (w.heap.size + 1, 46, [.int .i64 bx, .int .i64 bY]) (by simp)
  have k2_1_0 : w2.cell? ⟨w.heap.size + 1, 0, none⟩ = some (.int .i64 bx) := B2_1.cell 0
  have k2_1_1 : w2.cell? ⟨w.heap.size + 1, 1, none⟩ = some (.int .i64 bY) := B2_1.cell 1
  have z2_1 : w.heap.size + 1 < w2.heap.size := B2_1.lt
  clear B2_1
  have B2_2 : Blk w2 (w.heap.size + 1 + 1) 46 #[.int .i64 cx, .int .i64 cy] := HH2.out (w.heap.size + 1 + 1, 46, [.int .i64 cx, .int .i64 cy]) (by simp)
  have k2_2_0 : w2.cell? ⟨w.heap.size + 1 + 1, 0, none⟩ = some (.int .i64 cx) := B2_2.cell 0
  have k2_2_1 : w2.cell? ⟨w.heap.size + 1 + 1, 1, none⟩ = some (.int .i64 cy) := B2_2.cell 1
  have z2_2 : w.heap.size + 1 + 1 < w2.heap.size := B2_2.lt
  clear B2_2
  go_wp2_with fail
  refine (c2.out _).mono ?_
  rintro e w3 ⟨rfl, hb3⟩
  have HH3 := Lib.hid ((HH2.out).below hb3)
  have HB3 := Lib.hid (below_trans (HB2.out) hb3)
  clear k2_0_0 k2_0_1 z2_0 k2_1_0 k2_1_1 z2_1 k2_2_0 k2_2_1 z2_2
  clear hb3
  clear HH2 HB2
  have B3_0 : Blk w3 (w.heap.size) 46 #[.int .i64 ax, .int .i64 ay] := HH3.out (w.heap.size, 46, [.int .i64 ax, .int .i64 ay]) (by simp)
  have k3_0_0 : w3.cell? ⟨w.heap.size, 0, none⟩ = some (.int .i64 ax) := B3_0.cell 0
  have k3_0_1 : w3.cell? ⟨w.heap.size, 1, none⟩ = some (.int .i64 ay) := B3_0.cell 1
  have z3_0 : w.heap.size < w3.heap.size := B3_0.lt
  clear B3_0
  have B3_1 : Blk w3 (w.heap.size + 1) 46 #[.int .i64 bx, .int .i64 bY] := HH3.out (w.heap.size + 1, 46, [.int .i64 bx, .int .i64 bY]) (by simp)
  have k3_1_0 : w3.cell? ⟨w.heap.size + 1, 0, none⟩ = some (.int .i64 bx) := B3_1.cell 0
  have k3_1_1 : w3.cell? ⟨w.heap.size + 1, 1, none⟩ = some (.int .i64 bY) := B3_1.cell 1
  have z3_1 : w.heap.size + 1 < w3.heap.size := B3_1.lt
  clear B3_1
  have B3_2 : Blk w3 (w.heap.size + 1 + 1) 46 #[.int .i64 cx, .int .i64 cy] := HH3.out (w.heap.size + 1 + 1, 46, [.int .i64 cx, .int .i64 cy]) (by simp)
  have k3_2_0 : w3.cell? ⟨w.heap.size + 1 + 1, 0, none⟩ = some (.int .i64 cx) := B3_2.cell 0
  have k3_2_1 : w3.cell? ⟨w.heap.size + 1 + 1, 1, none⟩ = some (.int .i64 cy) := B3_2.cell 1
  have z3_2 : w.heap.size + 1 + 1 < w3.heap.size := B3_2.lt
  clear B3_2
  go_wp2_with fail
  refine (i1.out _).mono ?_
  rintro e w4 ⟨rfl, hb4⟩
  have HH4 := Lib.hid ((HH3.out).below hb4)
  have HB4 := Lib.hid (below_trans (HB3.out) hb4)
  clear k3_0_0 k3_0_1 z3_0 k3_1_0 k3_1_1 z3_1 k3_2_0 k3_2_1 z3_2
  clear hb4
  clear HH3 HB3
  have B4_0 : Blk w4 (w.heap.size) 46 #[.int .i64 ax, .int .i64 ay] := HH4.out (w.heap.size, 46, [.int .i64 ax, .int .i64 ay]) (by simp)
  have k4_0_0 : w4.cell? ⟨w.heap.size, 0, none⟩ = some (.int .i64 ax) := B4_0.cell 0
  have k4_0_1 : w4.cell? ⟨w.heap.size, 1, none⟩ = some (.int .i64 ay) := B4_0.cell 1
  have z4_0 : w.heap.size < w4.heap.size := B4_0.lt
  clear B4_0
  have B4_1 : Blk w4 (w.heap.size + 1) 46 #[.int .i64 bx, .int .i64 bY] := HH4.out (w.heap.size + 1, 46, [.int .i64 bx, .int .i64 bY]) (by simp)
  have k4_1_0 : w4.cell? ⟨w.heap.size + 1, 0, none⟩ = some (.int .i64 bx) := B4_1.cell 0
  have k4_1_1 : w4.cell? ⟨w.heap.size + 1, 1, none⟩ = some (.int .i64 bY) := B4_1.cell 1
  have z4_1 : w.heap.size + 1 < w4.heap.size := B4_1.lt
  clear B4_1
  have B4_2 : Blk w4 (w.heap.size + 1 + 1) 46 #[.int .i64 cx, .int .i64 cy] := HH4.out (w.heap.size + 1 + 1, 46, [.int .i64 cx, .int .i64 cy]) (by simp)
  have k4_2_0 : w4.cell? ⟨w.heap.size + 1 + 1, 0, none⟩ = some (.int .i64 cx) := B4_2.cell 0
  have k4_2_1 : w4.cell? ⟨w.heap.size + 1 + 1, 1, none⟩ = some (.int .i64 cy) := B4_2.cell 1
  have z4_2 : w.heap.size + 1 + 1 < w4.heap.size := B4_2.lt
  clear B4_2
  go_wp2_with fail
  refine (i2.out _).mono ?_
  rintro e w5 ⟨rfl, hb5⟩
  have HH5 := Lib.hid ((HH4.out).below hb5)
  have HB5 := Lib.hid (below_trans (HB4.out) hb5)
  clear k4_0_0 k4_0_1 z4_0 k4_1_0 k4_1_1 z4_1 k4_2_0 k4_2_1 z4_2
  clear hb5
  clear HH4 HB4
  have B5_0 : Blk w5 (w.heap.size) 46 #[.int .i64 ax, .int .i64 ay] := HH5.out (w.heap.size, 46, [.int .i64 ax, .int .i64 ay]) (by simp)
  have k5_0_0 : w5.cell? ⟨w.heap.size, 0, none⟩ = some (.int .i64 ax) := B5_0.cell 0
  have k5_0_1 : w5.cell? ⟨w.heap.size, 1, none⟩ = some (.int .i64 ay) := B5_0.cell 1
  have z5_0 : w.heap.size < w5.heap.size := B5_0.lt
  clear B5_0
  have B5_1 : Blk w5 (w.heap.size + 1) 46 #[.int .i64 bx, .int .i64 bY] := HH5.out (w.heap.size + 1, 46, [.int .i64 bx, .int .i64 bY]) (by simp)
  have k5_1_0 : w5.cell? ⟨w.heap.size + 1, 0, none⟩ = some (.int .i64 bx) := B5_1.cell 0
  have k5_1_1 : w5.cell? ⟨w.heap.size + 1, 1, none⟩ = some (.int .i64 bY) := B5_1.cell 1
  have z5_1 : w.heap.size + 1 < w5.heap.size := B5_1.lt
  clear B5_1
  have B5_2 : Blk w5 (w.heap.size + 1 + 1) 46 #[.int .i64 cx, .int .i64 cy] := HH5.out (w.heap.size + 1 + 1, 46, [.int .i64 cx, .int .i64 cy]) (by simp)
  have k5_2_0 : w5.cell? ⟨w.heap.size + 1 + 1, 0, none⟩ = some (.int .i64 cx) := B5_2.cell 0
  have k5_2_1 : w5.cell? ⟨w.heap.size + 1 + 1, 1, none⟩ = some (.int .i64 cy) := B5_2.cell 1
  have z5_2 : w.heap.size + 1 + 1 < w5.heap.size := B5_2.lt
  clear B5_2
  go_wp2_with fail
  refine (i3.out _).mono ?_
  rintro e w6 ⟨rfl, hb6⟩
  have HH6 := Lib.hid ((HH5.out).below hb6)
  have HB6 := Lib.hid (below_trans (HB5.out) hb6)
  clear k5_0_0 k5_0_1 z5_0 k5_1_0 k5_1_1 z5_1 k5_2_0 k5_2_1 z5_2
  clear hb6
  clear HH5 HB5
  have B6_0 : Blk w6 (w.heap.size) 46 #[.int .i64 ax, .int .i64 ay] := HH6.out (w.heap.size, 46, [.int .i64 ax, .int .i64 ay]) (by simp)
  have k6_0_0 : w6.cell? ⟨w.heap.size, 0, none⟩ = some (.int .i64 ax) := B6_0.cell 0
  have k6_0_1 : w6.cell? ⟨w.heap.size, 1, none⟩ = some (.int .i64 ay) := B6_0.cell 1
  have z6_0 : w.heap.size < w6.heap.size := B6_0.lt
  clear B6_0
  have B6_1 : Blk w6 (w.heap.size + 1) 46 #[.int .i64 bx, .int .i64 bY] := HH6.out (w.heap.size + 1, 46, [.int .i64 bx, .int .i64 bY]) (by simp)
  have k6_1_0 : w6.cell? ⟨w.heap.size + 1, 0, none⟩ = some (.int .i64 bx) := B6_1.cell 0
  have k6_1_1 : w6.cell? ⟨w.heap.size + 1, 1, none⟩ = some (.int .i64 bY) := B6_1.cell 1
  have z6_1 : w.heap.size + 1 < w6.heap.size := B6_1.lt
  clear B6_1
  have B6_2 : Blk w6 (w.heap.size + 1 + 1) 46 #[.int .i64 cx, .int .i64 cy] := HH6.out (w.heap.size + 1 + 1, 46, [.int .i64 cx, .int .i64 cy]) (by simp)
  have k6_2_0 : w6.cell? ⟨w.heap.size + 1 + 1, 0, none⟩ = some (.int .i64 cx) := B6_2.cell 0
  have k6_2_1 : w6.cell? ⟨w.heap.size + 1 + 1, 1, none⟩ = some (.int .i64 cy) := B6_2.cell 1
  have z6_2 : w.heap.size + 1 + 1 < w6.heap.size := B6_2.lt
  clear B6_2
  go_wp2_with fail
  refine (c3.out _).mono ?_
  rintro e w7 ⟨rfl, hb7⟩
  have HH7 := Lib.hid ((HH6.out).below hb7)
  have HB7 := Lib.hid (below_trans (HB6.out) hb7)
  clear k6_0_0 k6_0_1 z6_0 k6_1_0 k6_1_1 z6_1 k6_2_0 k6_2_1 z6_2
  clear hb7
  clear HH6 HB6
  have B7_0 : Blk w7 (w.heap.size) 46 #[.int .i64 ax, .int .i64 ay] := HH7.out (w.heap.size, 46, [.int .i64 ax, .int .i64 ay]) (by simp)
  have k7_0_0 : w7.cell? ⟨w.heap.size, 0, none⟩ = some (.int .i64 ax) := B7_0.cell 0
  have k7_0_1 : w7.cell? ⟨w.heap.size, 1, none⟩ = some (.int .i64 ay) := B7_0.cell 1
  have z7_0 : w.heap.size < w7.heap.size := B7_0.lt
  clear B7_0
  have B7_1 : Blk w7 (w.heap.size + 1) 46 #[.int .i64 bx, .int .i64 bY] := HH7.out (w.heap.size + 1, 46, [.int .i64 bx, .int .i64 bY]) (by simp)
  have k7_1_0 : w7.cell? ⟨w.heap.size + 1, 0, none⟩ = some (.int .i64 bx) := B7_1.cell 0
  have k7_1_1 : w7.cell? ⟨w.heap.size + 1, 1, none⟩ = some (.int .i64 bY) := B7_1.cell 1
  have z7_1 : w.heap.size + 1 < w7.heap.size := B7_1.lt
  clear B7_1
  have B7_2 : Blk w7 (w.heap.size + 1 + 1) 46 #[.int .i64 cx, .int .i64 cy] := HH7.out (w.heap.size + 1 + 1, 46, [.int .i64 cx, .int .i64 cy]) (by simp)
  have k7_2_0 : w7.cell? ⟨w.heap.size + 1 + 1, 0, none⟩ = some (.int .i64 cx) := B7_2.cell 0
  have k7_2_1 : w7.cell? ⟨w.heap.size + 1 + 1, 1, none⟩ = some (.int .i64 cy) := B7_2.cell 1
  have z7_2 : w.heap.size + 1 + 1 < w7.heap.size := B7_2.lt
  clear B7_2
  go_wp2_with fail
  refine (c4.out _).mono ?_
  rintro e w8 ⟨rfl, hb8⟩
  have HH8 := Lib.hid ((HH7.out).below hb8)
  have HB8 := Lib.hid (below_trans (HB7.out) hb8)
  clear k7_0_0 k7_0_1 z7_0 k7_1_0 k7_1_1 z7_1 k7_2_0 k7_2_1 z7_2
  clear hb8
  clear HH7 HB7
  have B8_0 : Blk w8 (w.heap.size) 46 #[.int .i64 ax, .int .i64 ay] := HH8.out (w.heap.size, 46, [.int .i64 ax, .int .i64 ay]) (by simp)
  have k8_0_0 : w8.cell? ⟨w.heap.size, 0, none⟩ = some (.int .i64 ax) := B8_0.cell 0
  have k8_0_1 : w8.cell? ⟨w.heap.size, 1, none⟩ = some (.int .i64 ay) := B8_0.cell 1
  have z8_0 : w.heap.size < w8.heap.size := B8_0.lt
  clear B8_0
  have B8_1 : Blk w8 (w.heap.size + 1) 46 #[.int .i64 bx, .int .i64 bY] := HH8.out (w.heap.size + 1, 46, [.int .i64 bx, .int .i64 bY]) (by simp)
  have k8_1_0 : w8.cell? ⟨w.heap.size + 1, 0, none⟩ = some (.int .i64 bx) := B8_1.cell 0
  have k8_1_1 : w8.cell? ⟨w.heap.size + 1, 1, none⟩ = some (.int .i64 bY) := B8_1.cell 1
  have z8_1 : w.heap.size + 1 < w8.heap.size := B8_1.lt
  clear B8_1
  have B8_2 : Blk w8 (w.heap.size + 1 + 1) 46 #[.int .i64 cx, .int .i64 cy] := HH8.out (w.heap.size + 1 + 1, 46, [.int .i64 cx, .int .i64 cy]) (by simp)
  have k8_2_0 : w8.cell? ⟨w.heap.size + 1 + 1, 0, none⟩ = some (.int .i64 cx) := B8_2.cell 0
  have k8_2_1 : w8.cell? ⟨w.heap.size + 1 + 1, 1, none⟩ = some (.int .i64 cy) := B8_2.cell 1
  have z8_2 : w.heap.size + 1 + 1 < w8.heap.size := B8_2.lt
  clear B8_2
  go_wp2
  go_returns
  exact ⟨rfl, by repeat (first | with_reducible exact HB8.out | with_reducible refine Below.drew ?_ | with_reducible refine below_drewN ?_ _ | with_reducible refine below_set ?_ (by have := HB8.out.size; simp <;> omega) _ | with_reducible refine below_alloc ?_ _)⟩
theorem turnsLaw_any (ax ay bx bY cx cy : Int) (w : World) : Calls Try.prog 6 #[.agg #[.int .i64 ax, .int .i64 ay], .agg #[.int .i64 bx, .int .i64 bY], .agg #[.int .i64 cx, .int .i64 cy]] w fun e w' => e = .returned (.bool true) ∧ Below w.heap.size w w' := by

  rcases h1 : in2 ax ay with _ | _
  · exact turns_n1 ax ay bx bY cx cy h1 rfl rfl w
  rcases h2 : in2 bx bY with _ | _
  · exact turns_n2 ax ay bx bY cx cy h1 h2 rfl w
  rcases h3 : in2 cx cy with _ | _
  · exact turns_n3 ax ay bx bY cx cy h1 h2 h3 w
  · exact turns_ok ax ay bx bY cx cy h1 h2 h3 w

end Go.Proofs.Ytkfdbhhchnbjdaa.Ve
