/- polygon: two segments, mathematics. -/
namespace Go.Proofs.Ytapcooolainmdaa.Ev
set_option linter.unusedVariables false
set_option linter.unusedSimpArgs false
def cmpI (x y : Int) : Int := if x < y then -1 else if y < x then 1 else 0
def cmp3 (ax ay az bx bY bz : Int) : Int := if ax < bx then -1 else if bx < ax then 1 else if ay < bY then -1 else if bY < ay then 1 else cmpI az bz
def turnI (ax ay bx bY cx cy : Int) : Int := cmpI ((bx - ax) * (cy - ay)) ((bY - ay) * (cx - ax))
def fst2 (ax ay bx bY : Int) : Int × Int := if 0 < cmp3 ax ay 0 bx bY 0 then (bx, bY) else (ax, ay)
def lst2 (ax ay bx bY : Int) : Int × Int := if 0 < cmp3 ax ay 0 bx bY 0 then (ax, ay) else (bx, bY)
def numI (c : Int) : Int := if c = -1 then 2 else if c = 0 then 1 else 0
def lineQ (f1 f2 e1 e2 f3 f4 e3 e4 : Int) : Int := numI (cmp3 (lst2 f1 f2 f3 f4).1 (lst2 f1 f2 f3 f4).2 0 (fst2 e1 e2 e3 e4).1 (fst2 e1 e2 e3 e4).2 0)
def lineI (ax ay bx bY cx cy dx dy : Int) : Int := lineQ (fst2 ax ay bx bY).1 (fst2 ax ay bx bY).2 (lst2 ax ay bx bY).1 (lst2 ax ay bx bY).2 (fst2 cx cy dx dy).1 (fst2 cx cy dx dy).2 (lst2 cx cy dx dy).1 (lst2 cx cy dx dy).2
def meetI (ax ay bx bY cx cy dx dy : Int) : Int :=
  if turnI cx cy dx dy ax ay = 0 ∧ turnI cx cy dx dy bx bY = 0 ∧ turnI ax ay bx bY cx cy = 0 ∧ turnI ax ay bx bY dx dy = 0 then lineI ax ay bx bY cx cy dx dy
  else if 0 < turnI ax ay bx bY cx cy * turnI ax ay bx bY dx dy ∨ 0 < turnI cx cy dx dy ax ay * turnI cx cy dx dy bx bY then 0 else 1
def onB (ax ay bx bY px py : Int) : Bool := decide (turnI ax ay bx bY px py = 0) && (decide (min ax bx ≤ px) && (decide (px ≤ max ax bx) && (decide (min ay bY ≤ py) && decide (py ≤ max ay bY))))
theorem cmpI_eq (x : Int) : cmpI x x = 0 := by unfold cmpI; rw [if_neg (by omega), if_neg (by omega)]
theorem cmpI_zero {x y : Int} : cmpI x y = 0 ↔ x = y := by unfold cmpI; split <;> (try split) <;> constructor <;> intro <;> omega
theorem cmpI_sq {x y : Int} (h : cmpI x y ≠ 0) : 0 < cmpI x y * cmpI x y := by
  have h1 : cmpI x y = -1 ∨ cmpI x y = 1 := by unfold cmpI at *; split at h <;> (try split at h) <;> simp_all
  rcases h1 with h1 | h1 <;> rw [h1] <;> decide
-- END OF COPIES
theorem turn_pp (px py ax ay : Int) : turnI px py px py ax ay = 0 := by
  unfold turnI; rw [show px - px = 0 by omega, show py - py = 0 by omega, Int.zero_mul, Int.zero_mul]; exact cmpI_eq 0
theorem meet_pp (ax ay bx bY px py : Int) : meetI ax ay bx bY px py px py = if turnI ax ay bx bY px py = 0 then lineI ax ay bx bY px py px py else 0 := by
  unfold meetI
  rw [turn_pp, turn_pp]
  by_cases h : turnI ax ay bx bY px py = 0
  · rw [if_pos ⟨rfl, rfl, h, h⟩, if_pos h]
  · rw [if_neg (fun hh => h hh.2.2.1), if_neg h, if_pos (.inl (cmpI_sq h))]
/-- the order of points of a plane -/
def lexP (ax ay bx bY : Int) : Prop := ax < bx ∨ (ax = bx ∧ ay ≤ bY)
theorem cmp3_pos {ax ay bx bY : Int} : 0 < cmp3 ax ay 0 bx bY 0 ↔ ¬ lexP ax ay bx bY := by
  unfold cmp3 cmpI lexP; repeat' split
  all_goals omega
theorem numI_pos {c : Int} (h : -1 ≤ c ∧ c ≤ 1) : 0 < numI c ↔ ¬ 0 < c := by
  unfold numI; split <;> (try split) <;> omega
theorem cmp3_bd0 (ax ay az bx bY bz : Int) : -1 ≤ cmp3 ax ay az bx bY bz ∧ cmp3 ax ay az bx bY bz ≤ 1 := by
  unfold cmp3 cmpI; repeat' split
  all_goals omega
theorem fst2_if (ax ay bx bY : Int) : (lexP ax ay bx bY → fst2 ax ay bx bY = (ax, ay) ∧ lst2 ax ay bx bY = (bx, bY)) ∧ (¬ lexP ax ay bx bY → fst2 ax ay bx bY = (bx, bY) ∧ lst2 ax ay bx bY = (ax, ay)) := by
  unfold fst2 lst2
  constructor
  · intro h; rw [if_neg (fun hh => (cmp3_pos.1 hh) h), if_neg (fun hh => (cmp3_pos.1 hh) h)]; exact ⟨rfl, rfl⟩
  · intro h; rw [if_pos (cmp3_pos.2 h), if_pos (cmp3_pos.2 h)]; exact ⟨rfl, rfl⟩
theorem lineQ_pos (f1 f2 e1 e2 f3 f4 e3 e4 : Int) : 0 < lineQ f1 f2 e1 e2 f3 f4 e3 e4 ↔ lexP (lst2 f1 f2 f3 f4).1 (lst2 f1 f2 f3 f4).2 (fst2 e1 e2 e3 e4).1 (fst2 e1 e2 e3 e4).2 := by
  unfold lineQ
  rw [numI_pos (cmp3_bd0 _ _ _ _ _ _), cmp3_pos]
  exact Classical.not_not
theorem fst2_same (px py : Int) : fst2 px py px py = (px, py) ∧ lst2 px py px py = (px, py) := (fst2_if px py px py).1 (.inr ⟨rfl, Int.le_refl _⟩)
theorem line_pp (ax ay bx bY px py : Int) : 0 < lineI ax ay bx bY px py px py ↔ lexP (fst2 ax ay bx bY).1 (fst2 ax ay bx bY).2 px py ∧ lexP px py (lst2 ax ay bx bY).1 (lst2 ax ay bx bY).2 := by
  unfold lineI
  rw [lineQ_pos, (fst2_same px py).1, (fst2_same px py).2]
  generalize hf : fst2 ax ay bx bY = f
  generalize hl : lst2 ax ay bx bY = l
  have hfl : lexP f.1 f.2 l.1 l.2 := by
    have h0 := fst2_if ax ay bx bY
    rw [hf, hl] at h0
    by_cases h : lexP ax ay bx bY
    · obtain ⟨rfl, rfl⟩ := h0.1 h; exact h
    · obtain ⟨rfl, rfl⟩ := h0.2 h; unfold lexP at *; simp only; omega
  have h1 := fst2_if f.1 f.2 px py
  have h2 := fst2_if l.1 l.2 px py
  by_cases c1 : lexP f.1 f.2 px py <;> by_cases c2 : lexP l.1 l.2 px py
  · rw [(h1.1 c1).2, (h2.1 c2).1]; unfold lexP at *; simp only; omega
  · rw [(h1.1 c1).2, (h2.2 c2).1]; exact ⟨fun _ => ⟨c1, by unfold lexP at *; omega⟩, fun _ => .inr ⟨rfl, Int.le_refl _⟩⟩
  · rw [(h1.2 c1).2, (h2.1 c2).1]; unfold lexP at *; simp only; omega
  · rw [(h1.2 c1).2, (h2.2 c2).1]; unfold lexP at *; simp only; omega
theorem cancel_nonneg {u s : Int} (hu : 0 < u) (h : 0 ≤ u * s) : 0 ≤ s := by
  by_cases hs : 0 ≤ s
  · exact hs
  · have := Int.mul_pos hu (show 0 < -s by omega)
    rw [Int.mul_neg] at this
    omega
theorem between {u v t s : Int} (hu : 0 < u) (e : u * s = v * t) (h0 : 0 ≤ t) (h1 : t ≤ u) : (0 ≤ v → 0 ≤ s ∧ s ≤ v) ∧ (v ≤ 0 → v ≤ s ∧ s ≤ 0) := by
  have e2 : u * (v - s) = v * (u - t) := by rw [Int.mul_sub, e, Int.mul_sub, Int.mul_comm u v]
  constructor
  · intro hv
    have a := cancel_nonneg hu (show 0 ≤ u * s by rw [e]; exact Int.mul_nonneg hv h0)
    have b := cancel_nonneg hu (show 0 ≤ u * (v - s) by rw [e2]; exact Int.mul_nonneg hv (by omega))
    omega
  · intro hv
    have a := cancel_nonneg hu (show 0 ≤ u * (-s) by rw [Int.mul_neg, e, ← Int.neg_mul]; exact Int.mul_nonneg (by omega) h0)
    have b := cancel_nonneg hu (show 0 ≤ u * (-(v - s)) by rw [Int.mul_neg, e2, ← Int.neg_mul]; exact Int.mul_nonneg (by omega) (by omega))
    omega
theorem edge {u v t s : Int} (hu : 0 < u) (e : u * s = v * t) : (t = 0 → s = 0) ∧ (t = u → s = v) := by
  constructor
  · intro h
    have := between hu e (by omega) (by omega)
    have := between (u := u) (v := -v) (t := t) (s := -s) hu (by rw [Int.mul_neg, e, Int.neg_mul]) (by omega) (by omega)
    subst h
    rw [Int.mul_zero] at e
    rcases Int.mul_eq_zero.1 e with h | h <;> omega
  · intro h
    have e2 : u * (v - s) = 0 := by rw [Int.mul_sub, e, h, Int.mul_comm u v]; omega
    rcases Int.mul_eq_zero.1 e2 with h | h <;> omega
theorem on_lex (ax ay bx bY px py : Int) (h : turnI ax ay bx bY px py = 0) :
    (lexP (fst2 ax ay bx bY).1 (fst2 ax ay bx bY).2 px py ∧ lexP px py (lst2 ax ay bx bY).1 (lst2 ax ay bx bY).2) ↔ (min ax bx ≤ px ∧ px ≤ max ax bx ∧ min ay bY ≤ py ∧ py ≤ max ay bY) := by
  have e := cmpI_zero.1 h
  have h0 := fst2_if ax ay bx bY
  by_cases c1 : ax < bx
  · obtain ⟨hf, hl⟩ := h0.1 (.inl c1)
    rw [hf, hl]
    have ed := edge (u := bx - ax) (v := bY - ay) (t := px - ax) (s := py - ay) (by omega) e
    by_cases c2 : 0 ≤ px - ax ∧ px - ax ≤ bx - ax
    · have bt := between (u := bx - ax) (by omega) e c2.1 c2.2
      unfold lexP; simp only; omega
    · unfold lexP; simp only; omega
  · by_cases c2 : bx < ax
    · obtain ⟨hf, hl⟩ := h0.2 (by unfold lexP; omega)
      rw [hf, hl]
      have e' : (ax - bx) * (py - bY) = (ay - bY) * (px - bx) := by
        have : (bx - ax) * (py - ay) = (bY - ay) * (px - ax) := e
        grind
      have ed := edge (u := ax - bx) (v := ay - bY) (t := px - bx) (s := py - bY) (by omega) e'
      by_cases c3 : 0 ≤ px - bx ∧ px - bx ≤ ax - bx
      · have bt := between (u := ax - bx) (by omega) e' c3.1 c3.2
        unfold lexP; simp only; omega
      · unfold lexP; simp only; omega
    · by_cases c3 : lexP ax ay bx bY
      · obtain ⟨hf, hl⟩ := h0.1 c3
        rw [hf, hl]; unfold lexP at *; simp only; omega
      · obtain ⟨hf, hl⟩ := h0.2 c3
        rw [hf, hl]; unfold lexP at *; simp only; omega
theorem on_meet (ax ay bx bY px py : Int) : decide (0 < meetI ax ay bx bY px py px py) = onB ax ay bx bY px py := by
  rw [meet_pp, onB]
  by_cases h : turnI ax ay bx bY px py = 0
  · rw [if_pos h, Bool.eq_iff_iff]
    simp only [decide_eq_true_eq, Bool.and_eq_true, h, true_and]
    rw [line_pp, on_lex _ _ _ _ _ _ h]
  · rw [if_neg h]; simp [h]
-- SEGMENTS
theorem cmpI_diff (x y : Int) : cmpI x y = cmpI (x - y) 0 := by unfold cmpI; repeat' split
                                                                all_goals omega
theorem cmpI_of_diff {x y z v : Int} (h : x - y = z - v) : cmpI x y = cmpI z v := by rw [cmpI_diff x y, cmpI_diff z v, h]
theorem cmpI_of_anti {x y z v : Int} (h : x - y = -(z - v)) : cmpI x y = -cmpI z v := by
  unfold cmpI; repeat' split
  all_goals omega
theorem turn_swap (ax ay bx bY cx cy : Int) : turnI ax ay cx cy bx bY = -turnI ax ay bx bY cx cy := by
  unfold turnI; exact cmpI_of_anti (by rw [Int.mul_comm (cx - ax), Int.mul_comm (cy - ay)]; omega)
theorem turn_rot (ax ay bx bY cx cy : Int) : turnI bx bY cx cy ax ay = turnI ax ay bx bY cx cy := by
  unfold turnI; exact cmpI_of_diff (by grind)
theorem turn_rev (ax ay bx bY cx cy : Int) : turnI bx bY ax ay cx cy = -turnI ax ay bx bY cx cy := by
  unfold turnI; exact cmpI_of_anti (by grind)
theorem lex_total (ax ay bx bY : Int) : lexP ax ay bx bY ∨ lexP bx bY ax ay := by unfold lexP; omega
theorem lex_anti {ax ay bx bY : Int} (h1 : lexP ax ay bx bY) (h2 : lexP bx bY ax ay) : ax = bx ∧ ay = bY := by unfold lexP at *; omega
theorem ends_sym (ax ay bx bY : Int) : fst2 ax ay bx bY = fst2 bx bY ax ay ∧ lst2 ax ay bx bY = lst2 bx bY ax ay := by
  have h1 := fst2_if ax ay bx bY
  have h2 := fst2_if bx bY ax ay
  by_cases c1 : lexP ax ay bx bY <;> by_cases c2 : lexP bx bY ax ay
  · obtain ⟨rfl, rfl⟩ := lex_anti c1 c2; exact ⟨rfl, rfl⟩
  · rw [(h1.1 c1).1, (h1.1 c1).2, (h2.2 c2).1, (h2.2 c2).2]; exact ⟨rfl, rfl⟩
  · rw [(h1.2 c1).1, (h1.2 c1).2, (h2.1 c2).1, (h2.1 c2).2]; exact ⟨rfl, rfl⟩
  · rcases lex_total ax ay bx bY with h | h
    · exact absurd h c1
    · exact absurd h c2
theorem line_swap (ax ay bx bY cx cy dx dy : Int) : lineI cx cy dx dy ax ay bx bY = lineI ax ay bx bY cx cy dx dy := by
  unfold lineI lineQ
  rw [(ends_sym (fst2 cx cy dx dy).1 (fst2 cx cy dx dy).2 (fst2 ax ay bx bY).1 (fst2 ax ay bx bY).2).2, (ends_sym (lst2 cx cy dx dy).1 (lst2 cx cy dx dy).2 (lst2 ax ay bx bY).1 (lst2 ax ay bx bY).2).1]
theorem line_rev1 (ax ay bx bY cx cy dx dy : Int) : lineI bx bY ax ay cx cy dx dy = lineI ax ay bx bY cx cy dx dy := by
  unfold lineI; rw [(ends_sym bx bY ax ay).1, (ends_sym bx bY ax ay).2]
theorem line_rev2 (ax ay bx bY cx cy dx dy : Int) : lineI ax ay bx bY dx dy cx cy = lineI ax ay bx bY cx cy dx dy := by
  unfold lineI; rw [(ends_sym dx dy cx cy).1, (ends_sym dx dy cx cy).2]
theorem meet_swap (ax ay bx bY cx cy dx dy : Int) : meetI cx cy dx dy ax ay bx bY = meetI ax ay bx bY cx cy dx dy := by
  unfold meetI
  rw [line_swap]
  generalize turnI ax ay bx bY cx cy = p
  generalize turnI ax ay bx bY dx dy = q
  generalize turnI cx cy dx dy ax ay = r
  generalize turnI cx cy dx dy bx bY = s
  by_cases h : r = 0 ∧ s = 0 ∧ p = 0 ∧ q = 0
  · rw [if_pos h, if_pos ⟨h.2.2.1, h.2.2.2, h.1, h.2.1⟩]
  · rw [if_neg h, if_neg (fun hh => h ⟨hh.2.2.1, hh.2.2.2, hh.1, hh.2.1⟩)]
    by_cases h2 : 0 < p * q ∨ 0 < r * s
    · rw [if_pos h2, if_pos h2.symm]
    · rw [if_neg h2, if_neg (fun hh => h2 hh.symm)]
theorem meet_rev1 (ax ay bx bY cx cy dx dy : Int) : meetI bx bY ax ay cx cy dx dy = meetI ax ay bx bY cx cy dx dy := by
  unfold meetI
  rw [line_rev1, turn_rev ax ay bx bY cx cy, turn_rev ax ay bx bY dx dy]
  generalize turnI ax ay bx bY cx cy = p
  generalize turnI ax ay bx bY dx dy = q
  generalize turnI cx cy dx dy ax ay = r
  generalize turnI cx cy dx dy bx bY = s
  rw [Int.neg_mul_neg, Int.mul_comm s r]
  by_cases h : r = 0 ∧ s = 0 ∧ p = 0 ∧ q = 0
  · rw [if_pos h, if_pos (by omega)]
  · rw [if_neg h, if_neg (by omega)]
theorem meet_rev2 (ax ay bx bY cx cy dx dy : Int) : meetI ax ay bx bY dx dy cx cy = meetI ax ay bx bY cx cy dx dy := by
  rw [meet_swap, meet_rev1, meet_swap]
theorem meet_q (ax ay bx bY cx cy dx dy : Int) : meetI dx dy cx cy ax ay bx bY = meetI ax ay bx bY cx cy dx dy := by rw [meet_swap, meet_rev2]
theorem meet_r (ax ay bx bY cx cy dx dy : Int) : meetI bx bY ax ay dx dy cx cy = meetI ax ay bx bY cx cy dx dy := by rw [meet_rev1, meet_rev2]
theorem turn_aa (ax ay bx bY : Int) : turnI ax ay bx bY ax ay = 0 ∧ turnI ax ay bx bY bx bY = 0 := by
  unfold turnI
  refine ⟨?_, ?_⟩
  · rw [show ay - ay = 0 by omega, show ax - ax = 0 by omega, Int.mul_zero, Int.mul_zero]; exact cmpI_eq 0
  · rw [Int.mul_comm (bY - ay)]; exact cmpI_eq _
theorem numI_lex {f1 f2 l1 l2 : Int} (h : lexP f1 f2 l1 l2) : numI (cmp3 f1 f2 0 l1 l2 0) = if f1 = l1 ∧ f2 = l2 then 1 else 2 := by
  have : cmp3 f1 f2 0 l1 l2 0 = if f1 = l1 ∧ f2 = l2 then 0 else -1 := by
    unfold cmp3 cmpI; unfold lexP at h; repeat' split
    all_goals omega
  rw [this]; split <;> rfl
theorem meet_self (ax ay bx bY : Int) : meetI ax ay bx bY ax ay bx bY = if ax = bx ∧ ay = bY then 1 else 2 := by
  unfold meetI
  rw [if_pos ⟨(turn_aa ax ay bx bY).1, (turn_aa ax ay bx bY).2, (turn_aa ax ay bx bY).1, (turn_aa ax ay bx bY).2⟩]
  unfold lineI lineQ
  rw [(fst2_same (fst2 ax ay bx bY).1 (fst2 ax ay bx bY).2).2, (fst2_same (lst2 ax ay bx bY).1 (lst2 ax ay bx bY).2).1]
  have h0 := fst2_if ax ay bx bY
  by_cases c : lexP ax ay bx bY
  · rw [(h0.1 c).1, (h0.1 c).2]; exact numI_lex c
  · rw [(h0.2 c).1, (h0.2 c).2]
    have c' : lexP bx bY ax ay := by rcases lex_total ax ay bx bY with h | h; exact absurd h c; exact h
    rw [show numI (cmp3 (bx, bY).1 (bx, bY).2 0 (ax, ay).1 (ax, ay).2 0) = numI (cmp3 bx bY 0 ax ay 0) from rfl, numI_lex c']
    by_cases e : bx = ax ∧ bY = ay
    · rw [if_pos e, if_pos ⟨e.1.symm, e.2.symm⟩]
    · rw [if_neg e, if_neg (fun hh => e ⟨hh.1.symm, hh.2.symm⟩)]
theorem meet_pp_one (ax ay bx bY px py : Int) : decide (0 < meetI ax ay bx bY px py px py) = (meetI ax ay bx bY px py px py == 1) := by
  have key : meetI ax ay bx bY px py px py = 0 ∨ meetI ax ay bx bY px py px py = 1 := by
    rw [meet_pp]
    split
    · unfold lineI lineQ
      rw [(fst2_same px py).1, (fst2_same px py).2]
      generalize (fst2 ax ay bx bY).1 = f1
      generalize (fst2 ax ay bx bY).2 = f2
      generalize (lst2 ax ay bx bY).1 = e1
      generalize (lst2 ax ay bx bY).2 = e2
      have h1 := fst2_if f1 f2 px py
      have h2 := fst2_if e1 e2 px py
      by_cases c1 : lexP f1 f2 px py <;> by_cases c2 : lexP e1 e2 px py
      · rw [(h1.1 c1).2, (h2.1 c2).1]; unfold numI cmp3 cmpI lexP at *; simp only; repeat' split
        all_goals omega
      · rw [(h1.1 c1).2, (h2.2 c2).1]; unfold numI cmp3 cmpI lexP at *; simp only; repeat' split
        all_goals omega
      · rw [(h1.2 c1).2, (h2.1 c2).1]; unfold numI cmp3 cmpI lexP at *; simp only; repeat' split
        all_goals omega
      · rw [(h1.2 c1).2, (h2.2 c2).1]; unfold numI cmp3 cmpI lexP at *; simp only; repeat' split
        all_goals omega
    · exact .inl rfl
  rcases key with h | h <;> rw [h] <;> rfl
-- THE REFERENCE'S MEET
def bef (ax ay bx bY : Int) : Bool := decide (ax < bx) || (decide (ax = bx) && decide (ay < bY))
theorem bef_iff {ax ay bx bY : Int} : bef ax ay bx bY = true ↔ ¬ lexP bx bY ax ay := by unfold bef lexP; simp; omega
theorem bef_no {ax ay bx bY : Int} : bef ax ay bx bY = false ↔ lexP bx bY ax ay := by
  rw [← Bool.not_eq_true, bef_iff]; exact Classical.not_not
/-- the later of two points, the earlier of two points, as the reference takes them -/
def lateP (p q : Int × Int) : Int × Int := if bef p.1 p.2 q.1 q.2 then q else p
def earlyP (p q : Int × Int) : Int × Int := if bef q.1 q.2 p.1 p.2 then q else p
theorem late_lst (p q : Int × Int) : lateP p q = lst2 p.1 p.2 q.1 q.2 := by
  unfold lateP
  have h := fst2_if p.1 p.2 q.1 q.2
  by_cases c : lexP p.1 p.2 q.1 q.2
  · rw [(h.1 c).2]
    rcases hb : bef p.1 p.2 q.1 q.2 with _ | _
    · obtain ⟨e1, e2⟩ := lex_anti c (bef_no.1 hb); simp [Prod.ext_iff, e1, e2]
    · rfl
  · rw [(h.2 c).2]
    rcases hb : bef p.1 p.2 q.1 q.2 with _ | _
    · rfl
    · rcases lex_total p.1 p.2 q.1 q.2 with h2 | h2
      · exact absurd h2 c
      · exact absurd h2 (bef_iff.1 hb)
theorem early_fst (p q : Int × Int) : earlyP p q = fst2 p.1 p.2 q.1 q.2 := by
  unfold earlyP
  have h := fst2_if p.1 p.2 q.1 q.2
  by_cases c : lexP p.1 p.2 q.1 q.2
  · rw [(h.1 c).1]
    rcases hb : bef q.1 q.2 p.1 p.2 with _ | _
    · rfl
    · exact absurd c (bef_iff.1 hb)
  · rw [(h.2 c).1]
    rcases hb : bef q.1 q.2 p.1 p.2 with _ | _
    · exact absurd (bef_no.1 hb) c
    · rfl
theorem num_bef (p q : Int × Int) : numI (cmp3 p.1 p.2 0 q.1 q.2 0) = if bef p.1 p.2 q.1 q.2 then 2 else if p = q then 1 else 0 := by
  rcases hb : bef p.1 p.2 q.1 q.2 with _ | _
  · have := bef_no.1 hb
    by_cases e : p = q
    · subst e; simp [numI, show cmp3 p.1 p.2 0 p.1 p.2 0 = 0 by unfold cmp3 cmpI; simp]
    · have e' : ¬ (p.1 = q.1 ∧ p.2 = q.2) := fun h => e (Prod.ext h.1 h.2)
      have : cmp3 p.1 p.2 0 q.1 q.2 0 = 1 := by
        unfold lexP at this; unfold cmp3 cmpI; repeat' split
        all_goals omega
      rw [this]; simp [e]; rfl
  · have := bef_iff.1 hb
    have : cmp3 p.1 p.2 0 q.1 q.2 0 = -1 := by
      unfold lexP at this; unfold cmp3 cmpI; repeat' split
      all_goals omega
    rw [this]; rfl
/-- what the reference returns for two segments -/
def rmeetI (ax ay bx bY cx cy dx dy : Int) : Int :=
  if (ax = bx ∧ ay = bY) ∨ (cx = dx ∧ cy = dy) then (if ((ax = bx ∧ ay = bY) ∧ onB cx cy dx dy ax ay = true) ∨ ((cx = dx ∧ cy = dy) ∧ onB ax ay bx bY cx cy = true) then 1 else 0)
  else if turnI ax ay bx bY cx cy = 0 ∧ turnI ax ay bx bY dx dy = 0 then
    (if bef (lateP (fst2 ax ay bx bY) (fst2 cx cy dx dy)).1 (lateP (fst2 ax ay bx bY) (fst2 cx cy dx dy)).2 (earlyP (lst2 ax ay bx bY) (lst2 cx cy dx dy)).1 (earlyP (lst2 ax ay bx bY) (lst2 cx cy dx dy)).2 then 2
     else if lateP (fst2 ax ay bx bY) (fst2 cx cy dx dy) = earlyP (lst2 ax ay bx bY) (lst2 cx cy dx dy) then 1 else 0)
  else if turnI ax ay bx bY cx cy * turnI ax ay bx bY dx dy ≤ 0 ∧ turnI cx cy dx dy ax ay * turnI cx cy dx dy bx bY ≤ 0 then 1 else 0
theorem meet_on (ax ay bx bY px py : Int) : meetI ax ay bx bY px py px py = if onB ax ay bx bY px py = true then 1 else 0 := by
  have h1 := on_meet ax ay bx bY px py
  have h2 := meet_pp_one ax ay bx bY px py
  rcases h : onB ax ay bx bY px py with _ | _
  · rw [h] at h1
    rw [h1] at h2
    have hn : ¬ 0 < meetI ax ay bx bY px py px py := by simpa using h1
    have h3 : meetI ax ay bx bY px py px py = 0 ∨ meetI ax ay bx bY px py px py = 1 := by
      by_cases h4 : turnI ax ay bx bY px py = 0
      · have h5 : meetI ax ay bx bY px py px py = lineI ax ay bx bY px py px py := by rw [meet_pp, if_pos h4]
        have h6 : 0 ≤ lineI ax ay bx bY px py px py := by unfold lineI lineQ numI; repeat' split
                                                          all_goals omega
        omega
      · rw [meet_pp, if_neg h4]; exact .inl rfl
    simp; omega
  · rw [h] at h1
    rw [h1] at h2
    simpa using h2.symm
theorem on_same {ax ay cx cy : Int} (h : onB ax ay ax ay cx cy = true) : onB cx cy cx cy ax ay = true := by
  have h2 : cx = ax ∧ cy = ay := by unfold onB at h; simp at h; omega
  obtain ⟨rfl, rfl⟩ := h2
  exact h
theorem cross_zero {ux uy vx vy wx wy : Int} (hu : ¬ (ux = 0 ∧ uy = 0)) (h1 : ux * wy = uy * wx) (h2 : ux * vy = uy * vx) : vx * wy = vy * wx := by
  by_cases h : ux = 0
  · have hy : uy ≠ 0 := fun e => hu ⟨h, e⟩
    have : uy * (vx * wy - vy * wx) = 0 := by subst h; grind
    rcases Int.mul_eq_zero.1 this with e | e
    · exact absurd e hy
    · omega
  · have : ux * (vx * wy - vy * wx) = 0 := by grind
    rcases Int.mul_eq_zero.1 this with e | e
    · exact absurd e h
    · omega
theorem turns_zero {ax ay bx bY cx cy dx dy : Int} (hab : ¬ (ax = bx ∧ ay = bY)) (h1 : turnI ax ay bx bY cx cy = 0) (h2 : turnI ax ay bx bY dx dy = 0) : turnI cx cy dx dy ax ay = 0 ∧ turnI cx cy dx dy bx bY = 0 := by
  have e1 := cmpI_zero.1 h1
  have e2 := cmpI_zero.1 h2
  have hu : ¬ (bx - ax = 0 ∧ bY - ay = 0) := by omega
  have e3 := cross_zero hu e1 e2
  refine ⟨cmpI_zero.2 ?_, cmpI_zero.2 ?_⟩
  · grind
  · grind
theorem rmeet_meet (ax ay bx bY cx cy dx dy : Int) : rmeetI ax ay bx bY cx cy dx dy = meetI ax ay bx bY cx cy dx dy := by
  unfold rmeetI
  by_cases hab : ax = bx ∧ ay = bY
  · rw [if_pos (.inl hab)]
    obtain ⟨rfl, rfl⟩ := hab
    rw [← meet_swap, meet_on]
    by_cases h : onB cx cy dx dy ax ay = true
    · rw [if_pos (.inl ⟨⟨rfl, rfl⟩, h⟩), if_pos h]
    · rw [if_neg h, if_neg]
      rintro (⟨_, h2⟩ | ⟨⟨rfl, rfl⟩, h2⟩)
      · exact h h2
      · exact h (on_same h2)
  by_cases hcd : cx = dx ∧ cy = dy
  · rw [if_pos (.inr hcd)]
    obtain ⟨rfl, rfl⟩ := hcd
    rw [meet_on]
    by_cases h : onB ax ay bx bY cx cy = true
    · rw [if_pos (.inr ⟨⟨rfl, rfl⟩, h⟩), if_pos h]
    · rw [if_neg h, if_neg]
      rintro (⟨h1, _⟩ | ⟨_, h2⟩)
      · exact hab h1
      · exact h h2
  rw [if_neg (by rintro (h | h); exact hab h; exact hcd h)]
  by_cases h : turnI ax ay bx bY cx cy = 0 ∧ turnI ax ay bx bY dx dy = 0
  · obtain ⟨h3, h4⟩ := turns_zero hab h.1 h.2
    have hm : meetI ax ay bx bY cx cy dx dy = lineI ax ay bx bY cx cy dx dy := by unfold meetI; rw [if_pos ⟨h3, h4, h.1, h.2⟩]
    rw [if_pos h, hm]
    unfold lineI lineQ
    rw [← late_lst (fst2 ax ay bx bY) (fst2 cx cy dx dy), ← early_fst (lst2 ax ay bx bY) (lst2 cx cy dx dy), num_bef]
  · have hm : meetI ax ay bx bY cx cy dx dy = if 0 < turnI ax ay bx bY cx cy * turnI ax ay bx bY dx dy ∨ 0 < turnI cx cy dx dy ax ay * turnI cx cy dx dy bx bY then 0 else 1 := by
      unfold meetI; rw [if_neg (fun hh => h ⟨hh.2.2.1, hh.2.2.2⟩)]
    rw [if_neg h, hm]
    generalize turnI ax ay bx bY cx cy * turnI ax ay bx bY dx dy = p
    generalize turnI cx cy dx dy ax ay * turnI cx cy dx dy bx bY = q
    by_cases h2 : 0 < p ∨ 0 < q
    · rw [if_pos h2, if_neg (by omega)]
    · rw [if_neg h2, if_pos (by omega)]
theorem cmpI_pos {x y : Int} : cmpI x y = 1 ↔ y < x := by unfold cmpI; split <;> (try split) <;> constructor <;> intro <;> omega
theorem cmpI_neg {x y : Int} : cmpI x y = -1 ↔ x < y := by unfold cmpI; split <;> (try split) <;> constructor <;> intro <;> omega
theorem cmpI_any (x y : Int) : cmpI x y = -1 ∨ cmpI x y = 0 ∨ cmpI x y = 1 := by unfold cmpI; split <;> (try split) <;> simp
theorem same_sign {P Q x y : Int} (hP : 0 < P) (hQ : 0 < Q) (e : P * y = Q * x) : (0 < x → 0 < y) ∧ (x < 0 → y < 0) ∧ (x = 0 → y = 0) := by
  refine ⟨fun h => ?_, fun h => ?_, fun h => ?_⟩
  · have h1 := Int.mul_pos hQ h
    rw [← e] at h1
    exact Int.pos_of_mul_pos_right h1 hP
  · have h1 := Int.mul_neg_of_pos_of_neg hQ h
    rw [← e] at h1
    rcases Int.lt_trichotomy y 0 with g | g | g
    · exact g
    · subst g; simp at h1
    · have := Int.mul_pos hP g; omega
  · rw [h, Int.mul_zero] at e
    rcases Int.mul_eq_zero.1 e with e | e <;> omega
/-- two points p, q (seen from c), of one line through c: if D × p and D × q have one sign, so have the coordinates -/
theorem one_side {Dx Dy px py qx qy : Int} (hc : px * qy = py * qx) (hs : (0 < Dx * py - Dy * px ∧ 0 < Dx * qy - Dy * qx) ∨ (Dx * py - Dy * px < 0 ∧ Dx * qy - Dy * qx < 0)) :
    ((0 < px → 0 < qx) ∧ (px < 0 → qx < 0) ∧ (px = 0 → qx = 0)) ∧ ((0 < py → 0 < qy) ∧ (py < 0 → qy < 0) ∧ (py = 0 → qy = 0)) := by
  have e1 : (Dx * py - Dy * px) * qx = (Dx * qy - Dy * qx) * px := by grind
  have e2 : (Dx * py - Dy * px) * qy = (Dx * qy - Dy * qx) * py := by grind
  generalize Dx * py - Dy * px = P at *
  generalize Dx * qy - Dy * qx = Q at *
  rcases hs with ⟨h1, h2⟩ | ⟨h1, h2⟩
  · exact ⟨same_sign h1 h2 e1, same_sign h1 h2 e2⟩
  · exact ⟨same_sign (P := -P) (Q := -Q) (by omega) (by omega) (by rw [Int.neg_mul, Int.neg_mul, e1]), same_sign (P := -P) (Q := -Q) (by omega) (by omega) (by rw [Int.neg_mul, Int.neg_mul, e2])⟩
def betw (ax ay bx bY px py : Int) : Prop := min ax bx ≤ px ∧ px ≤ max ax bx ∧ min ay bY ≤ py ∧ py ≤ max ay bY
theorem onB_iff (ax ay bx bY px py : Int) : onB ax ay bx bY px py = true ↔ turnI ax ay bx bY px py = 0 ∧ betw ax ay bx bY px py := by
  unfold onB betw; simp only [Bool.and_eq_true, decide_eq_true_eq]
theorem turn_line {ax ay bx bY cx cy : Int} (h : turnI ax ay bx bY cx cy = 0) : (ax - cx) * (bY - cy) = (ay - cy) * (bx - cx) := by
  have e := cmpI_zero.1 h
  grind
/-- if c lies on the segment from a to b, then a and b do not lie on one side of a line through c -/
theorem on_sides {ax ay bx bY cx cy : Int} (dx dy : Int) (h : onB ax ay bx bY cx cy = true) : turnI cx cy dx dy ax ay * turnI cx cy dx dy bx bY ≤ 0 := by
  obtain ⟨h1, h2⟩ := (onB_iff _ _ _ _ _ _).1 h
  have hc := turn_line h1
  have key := one_side (Dx := dx - cx) (Dy := dy - cy) hc
  unfold turnI
  unfold betw at h2
  by_cases hs : (0 < (dx - cx) * (ay - cy) - (dy - cy) * (ax - cx) ∧ 0 < (dx - cx) * (bY - cy) - (dy - cy) * (bx - cx)) ∨ ((dx - cx) * (ay - cy) - (dy - cy) * (ax - cx) < 0 ∧ (dx - cx) * (bY - cy) - (dy - cy) * (bx - cx) < 0)
  · exfalso
    have k := key hs
    have z1 : ax - cx = 0 := by omega
    have z2 : ay - cy = 0 := by omega
    rw [z1, z2, Int.mul_zero, Int.mul_zero] at hs
    omega
  · rcases cmpI_any ((dx - cx) * (ay - cy)) ((dy - cy) * (ax - cx)) with g | g | g <;> rcases cmpI_any ((dx - cx) * (bY - cy)) ((dy - cy) * (bx - cx)) with g' | g' | g' <;> rw [g, g'] <;> first | decide | (exfalso; first | (have := cmpI_neg.1 g; have := cmpI_neg.1 g'; omega) | (have := cmpI_pos.1 g; have := cmpI_pos.1 g'; omega))
/-- and the other way around, if d lies not on the line from a to b -/
theorem sides_on {ax ay bx bY cx cy dx dy : Int} (h1 : turnI ax ay bx bY cx cy = 0) (h2 : turnI ax ay bx bY dx dy ≠ 0) (h : turnI cx cy dx dy ax ay * turnI cx cy dx dy bx bY ≤ 0) : onB ax ay bx bY cx cy = true := by
  rw [onB_iff]
  refine ⟨h1, ?_⟩
  have hc := turn_line h1
  have h2' : ¬ ((bx - ax) * (dy - ay) = (bY - ay) * (dx - ax)) := fun q => h2 (cmpI_zero.2 q)
  have key := one_side (Dx := dx - cx) (Dy := dy - cy) hc
  have e1 : ((dx - cx) * (ay - cy) - (dy - cy) * (ax - cx)) * (bx - cx) = ((dx - cx) * (bY - cy) - (dy - cy) * (bx - cx)) * (ax - cx) := by grind
  have e2 : ((dx - cx) * (ay - cy) - (dy - cy) * (ax - cx)) * (bY - cy) = ((dx - cx) * (bY - cy) - (dy - cy) * (bx - cx)) * (ay - cy) := by grind
  have e3 : (bx - ax) * (dy - ay) - (bY - ay) * (dx - ax) = ((dx - cx) * (ay - cy) - (dy - cy) * (ax - cx)) - ((dx - cx) * (bY - cy) - (dy - cy) * (bx - cx)) := by grind
  have hns : ¬ ((0 < (dx - cx) * (ay - cy) - (dy - cy) * (ax - cx) ∧ 0 < (dx - cx) * (bY - cy) - (dy - cy) * (bx - cx)) ∨ ((dx - cx) * (ay - cy) - (dy - cy) * (ax - cx) < 0 ∧ (dx - cx) * (bY - cy) - (dy - cy) * (bx - cx) < 0)) := by
    rintro (⟨g1, g2⟩ | ⟨g1, g2⟩)
    · have a1 : turnI cx cy dx dy ax ay = 1 := cmpI_pos.2 (by omega)
      have a2 : turnI cx cy dx dy bx bY = 1 := cmpI_pos.2 (by omega)
      rw [a1, a2] at h; omega
    · have a1 : turnI cx cy dx dy ax ay = -1 := cmpI_neg.2 (by omega)
      have a2 : turnI cx cy dx dy bx bY = -1 := cmpI_neg.2 (by omega)
      rw [a1, a2] at h; omega
  clear key
  generalize (dx - cx) * (ay - cy) - (dy - cy) * (ax - cx) = P at *
  generalize (dx - cx) * (bY - cy) - (dy - cy) * (bx - cx) = Q at *
  have hPQ : P ≠ Q := by omega
  have no : ∀ x y : Int, P * y = Q * x → ¬ (0 < x ∧ 0 < y) := by
    intro x y e ⟨hx, hy⟩
    rcases Int.lt_trichotomy P 0 with g | g | g
    · have a1 := Int.mul_neg_of_neg_of_pos g hy
      rw [e] at a1
      rcases Int.lt_trichotomy Q 0 with g' | g' | g'
      · omega
      · subst g'; simp at a1
      · have := Int.mul_pos g' hx; omega
    · rw [g, Int.zero_mul] at e
      rcases Int.mul_eq_zero.1 e.symm with e | e <;> omega
    · have a1 := Int.mul_pos g hy
      rw [e] at a1
      rcases Int.lt_trichotomy Q 0 with g' | g' | g'
      · have := Int.mul_neg_of_neg_of_pos g' hx; omega
      · subst g'; simp at a1
      · omega
  have n1 := no _ _ e1
  have n2 := no _ _ e2
  have n3 := no (-(ax - cx)) (-(bx - cx)) (by rw [Int.mul_neg, Int.mul_neg, e1])
  have n4 := no (-(ay - cy)) (-(bY - cy)) (by rw [Int.mul_neg, Int.mul_neg, e2])
  unfold betw
  omega
def meetR (ax ay bx bY cx cy dx dy : Int) : Bool := onB ax ay bx bY cx cy || (onB ax ay bx bY dx dy || (onB cx cy dx dy ax ay || (onB cx cy dx dy bx bY || (decide (turnI ax ay bx bY cx cy * turnI ax ay bx bY dx dy < 0) && decide (turnI cx cy dx dy ax ay * turnI cx cy dx dy bx bY < 0)))))
theorem numI_zero {c : Int} (h : -1 ≤ c ∧ c ≤ 1) : numI c = 0 ↔ 0 < c := by
  unfold numI; split <;> (try split) <;> omega
theorem line_zero (ax ay bx bY cx cy dx dy : Int) (h1 : turnI ax ay bx bY cx cy = 0) (h2 : turnI ax ay bx bY dx dy = 0) (h3 : turnI cx cy dx dy ax ay = 0) (h4 : turnI cx cy dx dy bx bY = 0) : lineI ax ay bx bY cx cy dx dy = 0 ↔ ¬ (onB ax ay bx bY cx cy = true ∨ onB ax ay bx bY dx dy = true ∨ onB cx cy dx dy ax ay = true ∨ onB cx cy dx dy bx bY = true) := by
  have o1 := on_lex ax ay bx bY cx cy h1
  have o2 := on_lex ax ay bx bY dx dy h2
  have o3 := on_lex cx cy dx dy ax ay h3
  have o4 := on_lex cx cy dx dy bx bY h4
  simp only [onB_iff, h1, h2, h3, h4, true_and]
  unfold betw
  rw [← o1, ← o2, ← o3, ← o4]
  clear o1 o2 o3 o4 h1 h2 h3 h4
  unfold lineI lineQ
  rw [numI_zero (cmp3_bd0 _ _ _ _ _ _), cmp3_pos]
  have a1 := fst2_if ax ay bx bY
  have a2 := fst2_if cx cy dx dy
  by_cases c1 : lexP ax ay bx bY <;> by_cases c2 : lexP cx cy dx dy
  · rw [(a1.1 c1).1, (a1.1 c1).2, (a2.1 c2).1, (a2.1 c2).2]
    simp only
    have a3 := fst2_if ax ay cx cy
    have a4 := fst2_if bx bY dx dy
    by_cases c3 : lexP ax ay cx cy <;> by_cases c4 : lexP bx bY dx dy
    · rw [(a3.1 c3).2, (a4.1 c4).1]; unfold lexP at *; simp only; omega
    · rw [(a3.1 c3).2, (a4.2 c4).1]; unfold lexP at *; simp only; omega
    · rw [(a3.2 c3).2, (a4.1 c4).1]; unfold lexP at *; simp only; omega
    · rw [(a3.2 c3).2, (a4.2 c4).1]; unfold lexP at *; simp only; omega
  · rw [(a1.1 c1).1, (a1.1 c1).2, (a2.2 c2).1, (a2.2 c2).2]
    simp only
    have a3 := fst2_if ax ay dx dy
    have a4 := fst2_if bx bY cx cy
    by_cases c3 : lexP ax ay dx dy <;> by_cases c4 : lexP bx bY cx cy
    · rw [(a3.1 c3).2, (a4.1 c4).1]; unfold lexP at *; simp only; omega
    · rw [(a3.1 c3).2, (a4.2 c4).1]; unfold lexP at *; simp only; omega
    · rw [(a3.2 c3).2, (a4.1 c4).1]; unfold lexP at *; simp only; omega
    · rw [(a3.2 c3).2, (a4.2 c4).1]; unfold lexP at *; simp only; omega
  · rw [(a1.2 c1).1, (a1.2 c1).2, (a2.1 c2).1, (a2.1 c2).2]
    simp only
    have a3 := fst2_if bx bY cx cy
    have a4 := fst2_if ax ay dx dy
    by_cases c3 : lexP bx bY cx cy <;> by_cases c4 : lexP ax ay dx dy
    · rw [(a3.1 c3).2, (a4.1 c4).1]; unfold lexP at *; simp only; omega
    · rw [(a3.1 c3).2, (a4.2 c4).1]; unfold lexP at *; simp only; omega
    · rw [(a3.2 c3).2, (a4.1 c4).1]; unfold lexP at *; simp only; omega
    · rw [(a3.2 c3).2, (a4.2 c4).1]; unfold lexP at *; simp only; omega
  · rw [(a1.2 c1).1, (a1.2 c1).2, (a2.2 c2).1, (a2.2 c2).2]
    simp only
    have a3 := fst2_if bx bY dx dy
    have a4 := fst2_if ax ay cx cy
    by_cases c3 : lexP bx bY dx dy <;> by_cases c4 : lexP ax ay cx cy
    · rw [(a3.1 c3).2, (a4.1 c4).1]; unfold lexP at *; simp only; omega
    · rw [(a3.1 c3).2, (a4.2 c4).1]; unfold lexP at *; simp only; omega
    · rw [(a3.2 c3).2, (a4.1 c4).1]; unfold lexP at *; simp only; omega
    · rw [(a3.2 c3).2, (a4.2 c4).1]; unfold lexP at *; simp only; omega
theorem onB_turn {ax ay bx bY px py : Int} (h : turnI ax ay bx bY px py ≠ 0) : onB ax ay bx bY px py = false := by
  unfold onB; rw [decide_eq_false h]; rfl
theorem turn_vals (ax ay bx bY cx cy : Int) : turnI ax ay bx bY cx cy = -1 ∨ turnI ax ay bx bY cx cy = 0 ∨ turnI ax ay bx bY cx cy = 1 := cmpI_any _ _
/-- two segments have no common point exactly if the reference says so -/
theorem meet_zero (ax ay bx bY cx cy dx dy : Int) : meetI ax ay bx bY cx cy dx dy = 0 ↔ meetR ax ay bx bY cx cy dx dy = false := by
  unfold meetI
  by_cases h0 : turnI cx cy dx dy ax ay = 0 ∧ turnI cx cy dx dy bx bY = 0 ∧ turnI ax ay bx bY cx cy = 0 ∧ turnI ax ay bx bY dx dy = 0
  · rw [if_pos h0, line_zero ax ay bx bY cx cy dx dy h0.2.2.1 h0.2.2.2 h0.1 h0.2.1]
    unfold meetR
    rw [h0.1, h0.2.1, h0.2.2.1, h0.2.2.2]
    simp only [Int.mul_zero, Bool.or_eq_false_iff, not_or, Bool.not_eq_true]
    simp
  · rw [if_neg h0]
    have s1 := on_sides (ax := ax) (ay := ay) (bx := bx) (bY := bY) (cx := cx) (cy := cy) dx dy
    have s2 := on_sides (ax := ax) (ay := ay) (bx := bx) (bY := bY) (cx := dx) (cy := dy) cx cy
    have s3 := on_sides (ax := cx) (ay := cy) (bx := dx) (bY := dy) (cx := ax) (cy := ay) bx bY
    have s4 := on_sides (ax := cx) (ay := cy) (bx := dx) (bY := dy) (cx := bx) (cy := bY) ax ay
    have t1 := sides_on (ax := ax) (ay := ay) (bx := bx) (bY := bY) (cx := cx) (cy := cy) (dx := dx) (dy := dy)
    have t2 := sides_on (ax := ax) (ay := ay) (bx := bx) (bY := bY) (cx := dx) (cy := dy) (dx := cx) (dy := cy)
    have t3 := sides_on (ax := cx) (ay := cy) (bx := dx) (bY := dy) (cx := ax) (cy := ay) (dx := bx) (dy := bY)
    have t4 := sides_on (ax := cx) (ay := cy) (bx := dx) (bY := dy) (cx := bx) (cy := bY) (dx := ax) (dy := ay)
    rw [turn_rev cx cy dx dy ax ay, turn_rev cx cy dx dy bx bY, Int.neg_mul_neg] at s2 t2
    rw [turn_rev ax ay bx bY cx cy, turn_rev ax ay bx bY dx dy, Int.neg_mul_neg] at s4 t4
    have o1 : onB ax ay bx bY cx cy = true → turnI ax ay bx bY cx cy = 0 := fun h => ((onB_iff _ _ _ _ _ _).1 h).1
    have o2 : onB ax ay bx bY dx dy = true → turnI ax ay bx bY dx dy = 0 := fun h => ((onB_iff _ _ _ _ _ _).1 h).1
    have o3 : onB cx cy dx dy ax ay = true → turnI cx cy dx dy ax ay = 0 := fun h => ((onB_iff _ _ _ _ _ _).1 h).1
    have o4 : onB cx cy dx dy bx bY = true → turnI cx cy dx dy bx bY = 0 := fun h => ((onB_iff _ _ _ _ _ _).1 h).1
    have z1 : turnI ax ay bx bY cx cy = 0 → turnI ax ay bx bY dx dy = 0 → 0 < turnI cx cy dx dy ax ay * turnI cx cy dx dy bx bY := by
      intro g1 g2
      by_cases hab : ax = bx ∧ ay = bY
      · obtain ⟨rfl, rfl⟩ := hab
        exact cmpI_sq (fun q => h0 ⟨q, q, g1, g2⟩)
      · have := turns_zero hab g1 g2
        exact absurd ⟨this.1, this.2, g1, g2⟩ h0
    have z2 : turnI cx cy dx dy ax ay = 0 → turnI cx cy dx dy bx bY = 0 → 0 < turnI ax ay bx bY cx cy * turnI ax ay bx bY dx dy := by
      intro g1 g2
      by_cases hab : cx = dx ∧ cy = dy
      · obtain ⟨rfl, rfl⟩ := hab
        exact cmpI_sq (fun q => h0 ⟨g1, g2, q, q⟩)
      · have := turns_zero hab g1 g2
        exact absurd ⟨g1, g2, this.1, this.2⟩ h0
    unfold meetR
    clear h0
    generalize onB ax ay bx bY cx cy = b1 at *
    generalize onB ax ay bx bY dx dy = b2 at *
    generalize onB cx cy dx dy ax ay = b3 at *
    generalize onB cx cy dx dy bx bY = b4 at *
    have v1 := turn_vals ax ay bx bY cx cy
    have v2 := turn_vals ax ay bx bY dx dy
    have v3 := turn_vals cx cy dx dy ax ay
    have v4 := turn_vals cx cy dx dy bx bY
    generalize turnI ax ay bx bY cx cy = p1 at *
    generalize turnI ax ay bx bY dx dy = p2 at *
    generalize turnI cx cy dx dy ax ay = p3 at *
    generalize turnI cx cy dx dy bx bY = p4 at *
    rcases v1 with rfl | rfl | rfl <;> rcases v2 with rfl | rfl | rfl <;> rcases v3 with rfl | rfl | rfl <;> rcases v4 with rfl | rfl | rfl <;> simp_all
def backR (ax ay bx bY cx cy : Int) : Bool := onB ax ay bx bY cx cy || onB bx bY cx cy ax ay
theorem meet_back {ax ay bx bY cx cy : Int} (hab : ¬ (ax = bx ∧ ay = bY)) (hbc : ¬ (bx = cx ∧ bY = cy)) : meetI ax ay bx bY bx bY cx cy = 1 ↔ backR ax ay bx bY cx cy = false := by
  unfold meetI backR
  rw [(turn_aa ax ay bx bY).2, (turn_aa bx bY cx cy).1, turn_rot]
  by_cases h : turnI ax ay bx bY cx cy = 0
  · rw [if_pos ⟨h, rfl, rfl, h⟩]
    have h' : turnI bx bY cx cy ax ay = 0 := by rw [turn_rot]; exact h
    have o1 := on_lex ax ay bx bY cx cy h
    have o2 := on_lex bx bY cx cy ax ay h'
    have e1 := onB_iff ax ay bx bY cx cy
    have e2 := onB_iff bx bY cx cy ax ay
    unfold betw at e1 e2
    rw [← o1] at e1
    rw [← o2] at e2
    simp only [h, h', true_and] at e1 e2
    rw [Bool.or_eq_false_iff, ← Bool.not_eq_true, ← Bool.not_eq_true, e1, e2]
    clear e1 e2 o1 o2 h h'
    unfold lineI lineQ
    have a1 := fst2_if ax ay bx bY
    have a2 := fst2_if bx bY cx cy
    have u := fst2_same bx bY
    have num1 : ∀ f1 f2 l1 l2 : Int, lexP f1 f2 l1 l2 → (numI (cmp3 f1 f2 0 l1 l2 0) = 1 ↔ f1 = l1 ∧ f2 = l2) := by
      intro f1 f2 l1 l2 h
      rw [numI_lex h]
      split <;> simp_all
    have a3 := fst2_if ax ay cx cy
    by_cases c1 : lexP ax ay bx bY <;> by_cases c2 : lexP bx bY cx cy
    · simp only [(a1.1 c1).1, (a1.1 c1).2, (a2.1 c2).1, (a2.1 c2).2]
      rw [num1 _ _ _ _ (.inr ⟨rfl, Int.le_refl _⟩)]
      unfold lexP at c1 c2; unfold lexP; omega
    · simp only [(a1.1 c1).1, (a1.1 c1).2, (a2.2 c2).1, (a2.2 c2).2, u.1, u.2]
      by_cases c3 : lexP ax ay cx cy
      · simp only [(a3.1 c3).2]
        rw [num1 _ _ _ _ (by unfold lexP at *; omega)]; unfold lexP at *; omega
      · simp only [(a3.2 c3).2]
        rw [num1 _ _ _ _ c1]; unfold lexP at *; omega
    · simp only [(a1.2 c1).1, (a1.2 c1).2, (a2.1 c2).1, (a2.1 c2).2, u.1, u.2]
      by_cases c3 : lexP ax ay cx cy
      · simp only [(a3.1 c3).1]
        rw [num1 _ _ _ _ (by unfold lexP at *; omega)]; unfold lexP at *; omega
      · simp only [(a3.2 c3).1]
        rw [num1 _ _ _ _ c2]; unfold lexP at *; omega
    · simp only [(a1.2 c1).1, (a1.2 c1).2, (a2.2 c2).1, (a2.2 c2).2]
      rw [num1 _ _ _ _ (.inr ⟨rfl, Int.le_refl _⟩)]
      unfold lexP at *; omega
  · rw [if_neg (fun q => h q.1), if_neg (by rw [Int.zero_mul, Int.mul_zero]; omega), onB_turn h, onB_turn (by rw [turn_rot]; exact h)]
    simp
end Go.Proofs.Ytapcooolainmdaa.Ev
