/- prism: the program's convexity is the reference's. -/
import Derived.Test.YtapcooolainmdaaPm1
namespace Go.Proofs.Ytapcooolainmdaa.Ev
open Go.RowKit
set_option linter.unusedVariables false
set_option linter.unusedSimpArgs false
theorem ppos {z v : Int} (h : 0 < z * v) (hv : 0 ≤ v) : 0 < z := by
  rcases Int.lt_trichotomy z 0 with g | g | g
  · have := Int.mul_nonneg (show 0 ≤ -z by omega) hv
    rw [Int.neg_mul] at this; omega
  · rw [g, Int.zero_mul] at h; omega
  · exact g
theorem cnn {u s : Int} (hu : 0 < u) (h : 0 ≤ s * u) : 0 ≤ s := by
  by_cases hs : 0 ≤ s
  · exact hs
  · have := Int.mul_pos (show 0 < -s by omega) hu
    rw [Int.neg_mul] at this
    omega
def exN (x : Nat → Int) (k : Nat) : Int := x (k + 1) - x k
def crN (x y : Nat → Int) (p k : Nat) : Int := exN x p * exN y k - exN y p * exN x k
def FcN (x y : Nat → Int) (p j : Nat) : Int := exN x p * (y j - y p) - exN y p * (x j - x p)
section
variable {x y : Nat → Int} {n : Nat}
theorem crN_anti (p k : Nat) : crN x y p k = -crN x y k p := by unfold crN; grind
theorem FcN_self (p : Nat) : FcN x y p p = 0 := by unfold FcN; grind
theorem FcN_next (p : Nat) : FcN x y p (p + 1) = 0 := by unfold FcN exN; grind
theorem FcN_succ (p j : Nat) : FcN x y p (j + 1) = FcN x y p j + crN x y p j := by unfold FcN crN exN; grind
theorem cr_id (a b c : Nat) : crN x y a c * exN y b = crN x y a b * exN y c + crN x y b c * exN y a := by unfold crN; grind
/-- in the middle of a block no edge is flat -/
theorem mid_up (hl : ∀ k, 0 < crN x y k (k + 1)) {s m : Nat} (hP : ∀ k, s ≤ k → k < m → 0 ≤ exN y k) (k : Nat) (h1 : s < k) (h2 : k + 1 < m) : 0 < exN y k := by
  have g0 := hP k (by omega) (by omega)
  by_cases h : exN y k = 0
  · exfalso
    obtain ⟨j, rfl⟩ : ∃ j, k = j + 1 := ⟨k - 1, by omega⟩
    have a := hl j
    have b := hl (j + 1)
    unfold crN at a b
    rw [h] at a b
    have g1 := hP j (by omega) (by omega)
    have g2 := hP (j + 1 + 1) (by omega) (by omega)
    have b1 := ppos (z := exN x (j + 1)) (v := exN y (j + 1 + 1)) (by grind) g2
    have a1 := ppos (z := -exN x (j + 1)) (v := exN y j) (by grind) g1
    omega
  · omega
theorem blk_up (hl : ∀ k, 0 < crN x y k (k + 1)) {s m : Nat} (hP : ∀ k, s ≤ k → k < m → 0 ≤ exN y k) (p d : Nat) (h1 : s ≤ p) (h2 : p + 1 + d < m) : 0 ≤ crN x y p (p + 1 + d) := by
  induction d with
  | zero => exact Int.le_of_lt (hl p)
  | succ d ih =>
    have i1 := ih (by omega)
    have hb := mid_up hl hP (p + 1 + d) (by omega) (by omega)
    have e := cr_id (x := x) (y := y) p (p + 1 + d) (p + 1 + (d + 1))
    have k1 := Int.mul_nonneg i1 (hP (p + 1 + (d + 1)) (by omega) (by omega))
    have k2 := Int.mul_nonneg (Int.le_of_lt (hl (p + 1 + d))) (hP p (by omega) (by omega))
    rw [show p + 1 + d + 1 = p + 1 + (d + 1) from by omega] at k2
    exact cnn hb (by omega)
theorem fwd (hl : ∀ k, 0 < crN x y k (k + 1)) {s m : Nat} (hP : ∀ k, s ≤ k → k < m → 0 ≤ exN y k) (p d : Nat) (h1 : s ≤ p) (h2 : p + 2 + d ≤ m) : 0 < FcN x y p (p + 2 + d) := by
  induction d with
  | zero => rw [show p + 2 + 0 = (p + 1) + 1 from by omega, FcN_succ, FcN_next]; have := hl p; omega
  | succ d ih =>
    rw [show p + 2 + (d + 1) = (p + 2 + d) + 1 from by omega, FcN_succ]
    have i1 := ih (by omega)
    have i2 := blk_up hl hP p (d + 1) h1 (by omega)
    rw [show p + 1 + (d + 1) = p + 2 + d from by omega] at i2
    omega
theorem bwd (hl : ∀ k, 0 < crN x y k (k + 1)) {s m : Nat} (hP : ∀ k, s ≤ k → k < m → 0 ≤ exN y k) (p d i : Nat) (hi : i + 1 + d = p) (h1 : s ≤ i) (h2 : p < m) : 0 < FcN x y p i := by
  induction d generalizing i with
  | zero =>
    subst hi
    have e := FcN_succ (x := x) (y := y) (i + 1 + 0) i
    rw [show i + 1 + 0 = i + 1 from rfl] at e ⊢
    rw [FcN_self] at e
    have := hl i
    rw [crN_anti] at this
    omega
  | succ d ih =>
    have i1 := ih (i + 1) (by omega) (by omega)
    have e := FcN_succ (x := x) (y := y) p i
    have i2 := blk_up hl hP i (d + 1) h1 (by omega)
    rw [show i + 1 + (d + 1) = p from by omega, crN_anti] at i2
    omega
theorem down_stays (hl : ∀ k, 0 < crN x y k (k + 1)) {m t : Nat} {p : Nat} (hp : 0 ≤ exN y p) (hQ : ∀ k, m ≤ k → k < t → exN y k ≤ 0) (k0 d : Nat) (h0 : m ≤ k0) (hk : crN x y p k0 < 0) (h1 : k0 + d < t) : crN x y p (k0 + d) ≤ 0 := by
  induction d with
  | zero => exact Int.le_of_lt hk
  | succ d ih =>
    have i1 := ih (by omega)
    have hc := hQ (k0 + d + 1) (by omega) (by omega)
    have hb0 := hQ (k0 + d) (by omega) (by omega)
    have hbc := hl (k0 + d)
    have hb : exN y (k0 + d) < 0 := by
      by_cases h : exN y (k0 + d) = 0
      · exfalso
        have b1 : 0 < -exN x (k0 + d) := by
          unfold crN at hbc
          rw [h] at hbc
          exact ppos (z := -exN x (k0 + d)) (v := -exN y (k0 + d + 1)) (by grind) (by omega)
        cases d with
        | zero =>
          rw [Nat.add_zero] at h b1
          unfold crN at hk
          rw [h] at hk
          have := Int.mul_nonneg hp (Int.le_of_lt b1)
          grind
        | succ d =>
          have a := hl (k0 + d)
          unfold crN at a
          rw [show k0 + d + 1 = k0 + (d + 1) from rfl, h] at a
          have g1 := hQ (k0 + d) (by omega) (by omega)
          have := Int.mul_nonneg (show 0 ≤ -exN y (k0 + d) by omega) (Int.le_of_lt b1)
          grind
      · omega
    have e := cr_id (x := x) (y := y) p (k0 + d) (k0 + d + 1)
    have k1 := Int.mul_nonneg (show 0 ≤ -crN x y p (k0 + d) by omega) (show 0 ≤ -exN y (k0 + d + 1) by omega)
    have k2 := Int.mul_nonneg (Int.le_of_lt hbc) hp
    have k3 : 0 ≤ -crN x y p (k0 + d + 1) * -exN y (k0 + d) := by grind
    have := cnn (show 0 < -exN y (k0 + d) by omega) k3
    rw [show k0 + (d + 1) = k0 + d + 1 from rfl]
    omega
theorem mono_up {p a : Nat} (d : Nat) (h : ∀ k, a ≤ k → k < a + d → 0 ≤ crN x y p k) : FcN x y p a ≤ FcN x y p (a + d) := by
  induction d with
  | zero => exact Int.le_refl _
  | succ d ih =>
    have := ih (fun k h1 h2 => h k h1 (by omega))
    have q := h (a + d) (by omega) (by omega)
    rw [show a + (d + 1) = (a + d) + 1 from rfl, FcN_succ]; omega
theorem mono_down {p a : Nat} (d : Nat) (h : ∀ k, a ≤ k → k < a + d → crN x y p k ≤ 0) : FcN x y p (a + d) ≤ FcN x y p a := by
  induction d with
  | zero => exact Int.le_refl _
  | succ d ih =>
    have := ih (fun k h1 h2 => h k h1 (by omega))
    have q := h (a + d) (by omega) (by omega)
    rw [show a + (d + 1) = (a + d) + 1 from rfl, FcN_succ]; omega
theorem half_left (hx : ∀ k, x (k + n) = x k) (hy : ∀ k, y (k + n) = y k) (hl : ∀ k, 0 < crN x y k (k + 1)) {s m : Nat} (h1 : s < m) (h2 : m < s + n)
    (hP : ∀ k, s ≤ k → k < m → 0 ≤ exN y k) (hQ : ∀ k, m ≤ k → k < s + n → exN y k ≤ 0) (p j : Nat) (hp1 : s ≤ p) (hp2 : p < m) (hj1 : p + 2 ≤ j) (hj2 : j < p + n) : 0 < FcN x y p j := by
  have per : ∀ i, FcN x y p (i + n) = FcN x y p i := by intro i; unfold FcN; rw [hx, hy]
  by_cases c1 : j ≤ m
  · obtain ⟨d, rfl⟩ : ∃ d, j = p + 2 + d := ⟨j - (p + 2), by omega⟩
    exact fwd hl hP p d hp1 c1
  by_cases c2 : s + n ≤ j
  · obtain ⟨i, rfl⟩ : ∃ i, j = i + n := ⟨j - n, by omega⟩
    rw [per]
    exact bwd hl hP p (p - 1 - i) i (by omega) (by omega) hp2
  -- m < j < s + n
  have hm : 0 ≤ FcN x y p m ∧ (p + 1 < m → 0 < FcN x y p m) := by
    by_cases c : p + 1 < m
    · have := fwd hl hP p (m - (p + 2)) hp1 (by omega)
      rw [show p + 2 + (m - (p + 2)) = m from by omega] at this
      exact ⟨by omega, fun _ => this⟩
    · have e : m = p + 1 := by omega
      rw [e, FcN_next]
      exact ⟨by omega, fun h => by omega⟩
  by_cases cA : ∀ k, m ≤ k → k < j → 0 ≤ crN x y p k
  · by_cases c : p + 1 < m
    · have := mono_up (x := x) (y := y) (p := p) (a := m) (j - m) (fun k g1 g2 => cA k g1 (by omega))
      rw [show m + (j - m) = j from by omega] at this
      have := hm.2 c
      omega
    · have e : m = p + 1 := by omega
      have := mono_up (x := x) (y := y) (p := p) (a := p + 2) (j - (p + 2)) (fun k g1 g2 => cA k (by omega) (by omega))
      rw [show p + 2 + (j - (p + 2)) = j from by omega] at this
      have q : FcN x y p (p + 2) = FcN x y p (p + 1) + crN x y p (p + 1) := FcN_succ p (p + 1)
      rw [FcN_next] at q
      have := hl p
      omega
  · simp only [Classical.not_forall, Classical.not_imp, Int.not_le] at cA
    obtain ⟨k, g1, g2, g3⟩ := cA
    have st : ∀ l, j ≤ l → l < s + n → crN x y p l ≤ 0 := by
      intro l a1 a2
      have := down_stays hl (hP p hp1 hp2) hQ k (l - k) g1 g3 (by omega)
      rw [show k + (l - k) = l from by omega] at this
      exact this
    by_cases c : s < p
    · have := mono_down (x := x) (y := y) (p := p) (a := j) (s + n - j) (fun l a1 a2 => st l a1 (by omega))
      rw [show j + (s + n - j) = s + n from by omega, per] at this
      have := bwd hl hP p (p - 1 - s) s (by omega) (Nat.le_refl _) hp2
      omega
    · have e : s = p := by omega
      subst e
      have := mono_down (x := x) (y := y) (p := s) (a := j) (s + n - 1 - j) (fun l a1 a2 => st l a1 (by omega))
      rw [show j + (s + n - 1 - j) = s + n - 1 from by omega] at this
      have q : FcN x y s (s + n - 1 + 1) = FcN x y s (s + n - 1) + crN x y s (s + n - 1) := FcN_succ s (s + n - 1)
      rw [show s + n - 1 + 1 = s + n from by omega, per, FcN_self] at q
      have a := hl (s + n - 1)
      rw [show s + n - 1 + 1 = s + n from by omega] at a
      have a2 : crN x y (s + n - 1) (s + n) = crN x y (s + n - 1) s := by
        unfold crN exN
        rw [show s + n + 1 = s + 1 + n from by omega, hx, hy, hx, hy]
      rw [a2, crN_anti] at a
      omega
theorem all_left (hx : ∀ k, x (k + n) = x k) (hy : ∀ k, y (k + n) = y k) (hl : ∀ k, 0 < crN x y k (k + 1)) {s m : Nat} (h1 : s < m) (h2 : m < s + n)
    (hP : ∀ k, s ≤ k → k < m → 0 ≤ exN y k) (hQ : ∀ k, m ≤ k → k < s + n → exN y k ≤ 0) (p j : Nat) (hp1 : s ≤ p) (hp2 : p < s + n) (hj1 : p + 2 ≤ j) (hj2 : j < p + n) : 0 < FcN x y p j := by
  by_cases c : p < m
  · exact half_left hx hy hl h1 h2 hP hQ p j hp1 c hj1 hj2
  · have eX : ∀ k, exN (fun i => -x i) k = -exN x k := by intro k; show -x (k + 1) - -x k = -(x (k + 1) - x k); omega
    have eY : ∀ k, exN (fun i => -y i) k = -exN y k := by intro k; show -y (k + 1) - -y k = -(y (k + 1) - y k); omega
    have eC : ∀ a b, crN (fun i => -x i) (fun i => -y i) a b = crN x y a b := by intro a b; unfold crN; rw [eX, eX, eY, eY]; grind
    have eF : FcN (fun i => -x i) (fun i => -y i) p j = FcN x y p j := by unfold FcN; rw [eX, eY]; grind
    rw [← eF]
    refine half_left (x := fun i => -x i) (y := fun i => -y i) (n := n) (fun k => by rw [hx]) (fun k => by rw [hy]) (fun k => by rw [eC]; exact hl k) (s := m) (m := s + n) h2 (by omega) (fun k g1 g2 => ?_) (fun k g1 g2 => ?_) p j (by omega) hp2 hj1 hj2
    · rw [eY]; have := hQ k g1 g2; omega
    · rw [eY]
      obtain ⟨i, rfl⟩ : ∃ i, k = i + n := ⟨k - n, by omega⟩
      have : exN y (i + n) = exN y i := by unfold exN; rw [show i + n + 1 = i + 1 + n from by omega, hy, hy]
      rw [this]
      have := hP i (by omega) (by omega); omega
/-- one ascent: up, then down -/
theorem one_ascent (hy : ∀ k, y (k + n) = y k) {a : Nat} (ha : a < n) (h0 : exN y a ≤ 0) (h1 : 0 < exN y (a + 1)) (hu : ∀ b, b < n → exN y b ≤ 0 → 0 < exN y (b + 1) → b = a) :
    ∃ s m, s = a + 1 ∧ s < m ∧ m < s + n ∧ (∀ k, s ≤ k → k < m → 0 ≤ exN y k) ∧ (∀ k, m ≤ k → k < s + n → exN y k ≤ 0) := by
  have per : ∀ k, exN y (k + n) = exN y k := by intro k; unfold exN; rw [show k + n + 1 = k + 1 + n from by omega, hy, hy]
  have hn : 1 < n := by
    rcases Nat.lt_or_ge 1 n with h | h
    · exact h
    · have e : n = 1 := by omega
      subst e
      rw [per] at h1; omega
  -- the first edge that is not up
  have hex : ∃ d, exN y (a + 1 + d) ≤ 0 ∧ a + 1 + d < a + 1 + n := ⟨n - 1, by rw [show a + 1 + (n - 1) = a + n from by omega, per]; exact h0, by omega⟩
  have least : ∃ d, (exN y (a + 1 + d) ≤ 0 ∧ a + 1 + d < a + 1 + n) ∧ ∀ e, e < d → 0 < exN y (a + 1 + e) := by
    obtain ⟨d, hd⟩ := hex
    induction d using Nat.strongRecOn with
    | _ d ih =>
      by_cases c : ∃ e, e < d ∧ exN y (a + 1 + e) ≤ 0
      · obtain ⟨e, e1, e2⟩ := c
        exact ih e e1 ⟨e2, by omega⟩
      · refine ⟨d, hd, fun e he => ?_⟩
        have : ¬ exN y (a + 1 + e) ≤ 0 := fun q => c ⟨e, he, q⟩
        omega
  obtain ⟨d, ⟨d1, d2⟩, d3⟩ := least
  have hd0 : 0 < d := by
    rcases Nat.eq_zero_or_pos d with h | h
    · subst h; rw [Nat.add_zero] at d1; omega
    · exact h
  refine ⟨a + 1, a + 1 + d, rfl, by omega, d2, fun k g1 g2 => ?_, ?_⟩
  · have := d3 (k - (a + 1)) (by omega)
    rw [show a + 1 + (k - (a + 1)) = k from by omega] at this
    omega
  · have step : ∀ e, a + 1 + d + e < a + 1 + n → exN y (a + 1 + d + e) ≤ 0 := by
      intro e
      induction e with
      | zero => intro _; exact d1
      | succ e ih =>
        intro h
        have i1 := ih (by omega)
        by_cases c : 0 < exN y (a + 1 + d + (e + 1))
        · exfalso
          by_cases c2 : a + 1 + d + e < n
          · have := hu (a + 1 + d + e) c2 i1 c
            omega
          · obtain ⟨i, hi⟩ : ∃ i, a + 1 + d + e = i + n := ⟨a + 1 + d + e - n, by omega⟩
            rw [show a + 1 + d + (e + 1) = (a + 1 + d + e) + 1 from by omega, hi, show i + n + 1 = (i + 1) + n from by omega, per] at c
            rw [hi, per] at i1
            have := hu i (by omega) i1 c
            omega
        · omega
    intro k g1 g2
    have := step (k - (a + 1 + d)) (by omega)
    rw [show a + 1 + d + (k - (a + 1 + d)) = k from by omega] at this
    exact this
/-- two ascents: not all corners are left of all edges -/
theorem two_ascents {a b : Nat} (hl : 0 < crN x y b (b + 1)) (hb0 : exN y b ≤ 0) (hb1 : 0 < exN y (b + 1))
    (hle : y a ≤ y (b + 1)) (h1 : 0 < FcN x y b a ∨ (a = b ∧ 0 < exN y b)) (h2 : 0 < FcN x y (b + 1) a ∨ y (b + 1) < y a) : False := by
  rcases h1 with h1 | ⟨_, h⟩
  · rcases h2 with h2 | h2
    · unfold FcN at h1 h2
      unfold crN at hl
      have e1 : exN x b * (y a - y b) - exN y b * (x a - x b) = exN x b * (y a - y (b + 1)) - exN y b * (x a - x (b + 1)) := by unfold exN; grind
      rw [e1] at h1
      generalize exN x b = p at *
      generalize exN y b = r at *
      generalize exN x (b + 1) = s at *
      generalize exN y (b + 1) = t at *
      generalize x a - x (b + 1) = u at *
      have hc : y a - y (b + 1) ≤ 0 := by omega
      generalize y a - y (b + 1) = c at *
      have k1 := Int.mul_pos h1 hb1
      have k2 := Int.mul_nonneg (Int.le_of_lt h2) (show 0 ≤ -r by omega)
      have k3 := Int.mul_nonneg (show 0 ≤ -c by omega) (Int.le_of_lt hl)
      grind
    · omega
  · omega
end

theorem cnt_zero (n : Nat) (X Y : Nat → Int) (m : Nat) : cntN n X Y m = 0 ↔ ∀ b, b < m → ascP n Y b = false := by
  induction m with
  | zero => simp [cntN]
  | succ m ih =>
    have bd := (cntN_bd n X Y m).1
    unfold cntN
    rcases h : ascP n Y m with _ | _
    · rw [if_neg (by simp), ih]
      constructor
      · intro g b hb
        rcases Nat.lt_or_ge b m with c | c
        · exact g b c
        · rw [show b = m from by omega]; exact h
      · intro g b hb; exact g b (by omega)
    · rw [if_pos rfl]
      constructor
      · intro g; omega
      · intro g; rw [g m (by omega)] at h; cases h
theorem cnt_one (n : Nat) (X Y : Nat → Int) (m : Nat) : cntN n X Y m = 1 ↔ ∃ a, a < m ∧ ascP n Y a = true ∧ ∀ b, b < m → ascP n Y b = true → b = a := by
  induction m with
  | zero => simp [cntN]
  | succ m ih =>
    unfold cntN
    rcases h : ascP n Y m with _ | _
    · rw [if_neg (by simp), ih]
      constructor
      · rintro ⟨a, h1, h2, h3⟩
        refine ⟨a, by omega, h2, fun b hb hq => ?_⟩
        rcases Nat.lt_or_ge b m with c | c
        · exact h3 b c hq
        · rw [show b = m from by omega] at hq; rw [hq] at h; cases h
      · rintro ⟨a, h1, h2, h3⟩
        refine ⟨a, ?_, h2, fun b hb hq => h3 b (by omega) hq⟩
        rcases Nat.lt_or_ge a m with c | c
        · exact c
        · rw [show a = m from by omega] at h2; rw [h2] at h; cases h
    · rw [if_pos rfl]
      have e : cntN n X Y m + 1 = 1 ↔ cntN n X Y m = 0 := by omega
      rw [e, cnt_zero]
      constructor
      · intro g
        refine ⟨m, by omega, h, fun b hb hq => ?_⟩
        rcases Nat.lt_or_ge b m with c | c
        · rw [g b c] at hq; cases hq
        · omega
      · rintro ⟨a, h1, h2, h3⟩ b hb
        have := h3 m (by omega) h
        rcases q : ascP n Y b with _ | _
        · rfl
        · have := h3 b (by omega) q; omega
/-- all other corners lie on the left of an edge -/
def lefA (n : Nat) (X Y : Nat → Int) (i j : Nat) : Bool := j == i || (j == nx n i || decide (0 < (X (nx n i) - X i) * (Y j - Y i) - (Y (nx n i) - Y i) * (X j - X i)))
def cvxR (n : Nat) (X Y : Nat → Int) : Bool := allN (fun i => allN (lefA n X Y i) n) n
theorem allN_iff {q : Nat → Bool} {n : Nat} : allN q n = true ↔ ∀ i, i < n → q i = true := ⟨fun h i hi => allN_get h hi, allN_all⟩
theorem mod1 (k n : Nat) : (k % n + 1) % n = (k + 1) % n := Nat.mod_add_mod k n 1
theorem cvxR_iff {n : Nat} {X Y : Nat → Int} : cvxR n X Y = true ↔ ∀ i, i < n → ∀ j, j < n → j ≠ i → j ≠ nx n i → 0 < FcN (fun k => X (k % n)) (fun k => Y (k % n)) i j := by
  unfold cvxR
  rw [allN_iff]
  have e : ∀ i, i < n → ∀ j, j < n → (lefA n X Y i j = true ↔ (j ≠ i → j ≠ nx n i → 0 < FcN (fun k => X (k % n)) (fun k => Y (k % n)) i j)) := by
    intro i hi j hj
    have q : FcN (fun k => X (k % n)) (fun k => Y (k % n)) i j = (X (nx n i) - X i) * (Y j - Y i) - (Y (nx n i) - Y i) * (X j - X i) := by
      show (X ((i + 1) % n) - X (i % n)) * (Y (j % n) - Y (i % n)) - (Y ((i + 1) % n) - Y (i % n)) * (X (j % n) - X (i % n)) = _
      rw [Nat.mod_eq_of_lt hi, Nat.mod_eq_of_lt hj]; rfl
    rw [q]
    unfold lefA
    simp only [Bool.or_eq_true, beq_iff_eq, decide_eq_true_eq]
    by_cases c1 : j = i <;> by_cases c2 : j = nx n i <;> simp [c1, c2]
  constructor
  · intro h i hi j hj
    exact (e i hi j hj).1 (allN_iff.1 (h i hi) j hj)
  · intro h i hi
    rw [allN_iff]
    intro j hj
    exact (e i hi j hj).2 (h i hi j hj)
theorem leftP_iff {n : Nat} {X Y : Nat → Int} {i : Nat} (hi : i < n) : leftP n X Y i = true ↔ 0 < crN (fun k => X (k % n)) (fun k => Y (k % n)) i (i + 1) := by
  unfold leftP turnI
  rw [beq_iff_eq, cmpI_pos]
  have q : crN (fun k => X (k % n)) (fun k => Y (k % n)) i (i + 1) = (X (nx n i) - X i) * (Y ((i + 2) % n) - Y (nx n i)) - (Y (nx n i) - Y i) * (X ((i + 2) % n) - X (nx n i)) := by
    show (X ((i + 1) % n) - X (i % n)) * (Y ((i + 1 + 1) % n) - Y ((i + 1) % n)) - (Y ((i + 1) % n) - Y (i % n)) * (X ((i + 1 + 1) % n) - X ((i + 1) % n)) = _
    rw [Nat.mod_eq_of_lt hi]; rfl
  rw [q]
  generalize X i = a at *
  generalize Y i = b at *
  generalize X (nx n i) = c at *
  generalize Y (nx n i) = d at *
  generalize X ((i + 2) % n) = e at *
  generalize Y ((i + 2) % n) = f at *
  have : (c - a) * (f - d) - (d - b) * (e - c) = (c - a) * (f - b) - (d - b) * (e - a) := by grind
  omega
theorem ascP_iff {n : Nat} {Y : Nat → Int} {i : Nat} (hi : i < n) : ascP n Y i = true ↔ exN (fun k => Y (k % n)) i ≤ 0 ∧ 0 < exN (fun k => Y (k % n)) (i + 1) := by
  unfold ascP
  have q1 : exN (fun k => Y (k % n)) i = Y (nx n i) - Y i := by
    show Y ((i + 1) % n) - Y (i % n) = _
    rw [Nat.mod_eq_of_lt hi]; rfl
  have q2 : exN (fun k => Y (k % n)) (i + 1) = Y ((i + 2) % n) - Y (nx n i) := rfl
  rw [q1, q2]
  simp only [Bool.and_eq_true, Bool.not_eq_true', decide_eq_true_eq, decide_eq_false_iff_not]
  omega
section
variable {n : Nat} {X Y : Nat → Int}
theorem per_x (X : Nat → Int) (n k : Nat) : (fun k => X (k % n)) (k + n) = (fun k => X (k % n)) k := by show X ((k + n) % n) = X (k % n); rw [Nat.add_mod_right]
theorem cr_mod (k : Nat) : crN (fun k => X (k % n)) (fun k => Y (k % n)) k (k + 1) = crN (fun k => X (k % n)) (fun k => Y (k % n)) (k % n) (k % n + 1) := by
  show (X ((k + 1) % n) - X (k % n)) * (Y ((k + 1 + 1) % n) - Y ((k + 1) % n)) - (Y ((k + 1) % n) - Y (k % n)) * (X ((k + 1 + 1) % n) - X ((k + 1) % n)) =
    (X ((k % n + 1) % n) - X (k % n % n)) * (Y ((k % n + 1 + 1) % n) - Y ((k % n + 1) % n)) - (Y ((k % n + 1) % n) - Y (k % n % n)) * (X ((k % n + 1 + 1) % n) - X ((k % n + 1) % n))
  rw [Nat.mod_mod, mod1, show k % n + 1 + 1 = k % n + 2 from rfl, show (k % n + 2) % n = (k + 2) % n from Nat.mod_add_mod k n 2]
theorem cvx_to (hn : 3 ≤ n) (h : cvxP n X Y = true) : cvxR n X Y = true := by
  unfold cvxP at h
  rw [Bool.and_eq_true, beq_iff_eq, allN_iff, cnt_one] at h
  obtain ⟨hL, a, ha, ha2, hu⟩ := h
  obtain ⟨h0, h1⟩ := (ascP_iff ha).1 ha2
  have hl : ∀ k, 0 < crN (fun k => X (k % n)) (fun k => Y (k % n)) k (k + 1) := fun k => by
    rw [cr_mod]; exact (leftP_iff (Nat.mod_lt _ (by omega))).1 (hL _ (Nat.mod_lt _ (by omega)))
  obtain ⟨s, m, hs, g1, g2, hP, hQ⟩ := one_ascent (y := fun k => Y (k % n)) (n := n) (per_x Y n) ha h0 h1 (fun b hb q1 q2 => hu b hb ((ascP_iff hb).2 ⟨q1, q2⟩))
  rw [cvxR_iff]
  intro i hi j hj c1 c2
  -- a place of i and one of j behind it
  obtain ⟨p, p1, p2, pe⟩ : ∃ p, s ≤ p ∧ p < s + n ∧ p % n = i := by
    by_cases c : s ≤ i
    · exact ⟨i, c, by omega, Nat.mod_eq_of_lt hi⟩
    · exact ⟨i + n, by omega, by omega, by rw [Nat.add_mod_right]; exact Nat.mod_eq_of_lt hi⟩
  obtain ⟨q, q1, q2, qe⟩ : ∃ q, p ≤ q ∧ q < p + n ∧ q % n = j := by
    have hdm := Nat.div_add_mod p n
    by_cases c : i ≤ j
    · refine ⟨p + (j - i), by omega, by omega, ?_⟩
      rw [← Nat.mod_add_mod, pe, show i + (j - i) = j from by omega]; exact Nat.mod_eq_of_lt hj
    · refine ⟨p + (n + j - i), by omega, by omega, ?_⟩
      rw [← Nat.mod_add_mod, pe, show i + (n + j - i) = j + n from by omega, Nat.add_mod_right]; exact Nat.mod_eq_of_lt hj
  have n1 : q ≠ p := by rintro rfl; exact c1 (qe.symm.trans pe)
  have n2 : q ≠ p + 1 := by
    rintro rfl
    apply c2
    rw [← qe, ← pe]
    exact (mod1 p n).symm
  have r := all_left (x := fun k => X (k % n)) (y := fun k => Y (k % n)) (per_x X n) (per_x Y n) hl g1 g2 hP hQ p q p1 p2 (by omega) q2
  have e : FcN (fun k => X (k % n)) (fun k => Y (k % n)) p q = FcN (fun k => X (k % n)) (fun k => Y (k % n)) i j := by
    show (X ((p + 1) % n) - X (p % n)) * (Y (q % n) - Y (p % n)) - (Y ((p + 1) % n) - Y (p % n)) * (X (q % n) - X (p % n)) =
      (X ((i + 1) % n) - X (i % n)) * (Y (j % n) - Y (i % n)) - (Y ((i + 1) % n) - Y (i % n)) * (X (j % n) - X (i % n))
    rw [← mod1 p n, pe, qe, Nat.mod_eq_of_lt hi, Nat.mod_eq_of_lt hj]
  rw [← e]; exact r
theorem cvx_from (hn : 3 ≤ n) (h : cvxR n X Y = true) : cvxP n X Y = true := by
  rw [cvxR_iff] at h
  have hL : ∀ i, i < n → leftP n X Y i = true := by
    intro i hi
    rw [leftP_iff hi]
    have hj : (i + 2) % n < n := Nat.mod_lt _ (by omega)
    have q := h i hi ((i + 2) % n) hj (by
        intro e
        by_cases c : i + 2 < n
        · rw [Nat.mod_eq_of_lt c] at e; omega
        · rw [Nat.mod_eq_sub_mod (by omega), Nat.mod_eq_of_lt (by omega)] at e; omega) (by
        intro e
        unfold nx at e
        by_cases c : i + 2 < n
        · rw [Nat.mod_eq_of_lt c, Nat.mod_eq_of_lt (by omega)] at e; omega
        · rw [Nat.mod_eq_sub_mod (by omega), Nat.mod_eq_of_lt (show i + 2 - n < n by omega)] at e
          by_cases c2 : i + 1 < n
          · rw [Nat.mod_eq_of_lt c2] at e; omega
          · rw [Nat.mod_eq_sub_mod (show n ≤ i + 1 by omega), Nat.mod_eq_of_lt (show i + 1 - n < n by omega)] at e; omega)
    have e : FcN (fun k => X (k % n)) (fun k => Y (k % n)) i ((i + 2) % n) = FcN (fun k => X (k % n)) (fun k => Y (k % n)) i (i + 1) + crN (fun k => X (k % n)) (fun k => Y (k % n)) i (i + 1) := by
      rw [← FcN_succ]
      show (X ((i + 1) % n) - X (i % n)) * (Y ((i + 2) % n % n) - Y (i % n)) - (Y ((i + 1) % n) - Y (i % n)) * (X ((i + 2) % n % n) - X (i % n)) = _
      rw [Nat.mod_mod]; rfl
    rw [FcN_next] at e
    omega
  have hl : ∀ k, 0 < crN (fun k => X (k % n)) (fun k => Y (k % n)) k (k + 1) := fun k => by
    rw [cr_mod]; exact (leftP_iff (Nat.mod_lt _ (by omega))).1 (hL _ (Nat.mod_lt _ (by omega)))
  have perE : ∀ k, exN (fun k => Y (k % n)) (k % n) = exN (fun k => Y (k % n)) k := by
    intro k
    show Y ((k % n + 1) % n) - Y (k % n % n) = Y ((k + 1) % n) - Y (k % n)
    rw [mod1, Nat.mod_mod]
  have perE1 : ∀ k, exN (fun k => Y (k % n)) (k % n + 1) = exN (fun k => Y (k % n)) (k + 1) := by
    intro k
    show Y ((k % n + 1 + 1) % n) - Y ((k % n + 1) % n) = Y ((k + 1 + 1) % n) - Y ((k + 1) % n)
    rw [mod1, show k % n + 1 + 1 = k % n + 2 from rfl, show (k % n + 2) % n = (k + 2) % n from Nat.mod_add_mod k n 2]
  -- there is an ascent
  have ex : ∃ b, b < n ∧ ascP n Y b = true := by
    apply Classical.byContradiction
    intro hne
    have no : ∀ k, exN (fun k => Y (k % n)) k ≤ 0 → exN (fun k => Y (k % n)) (k + 1) ≤ 0 := by
      intro k hk
      apply Classical.byContradiction
      intro h2
      exact hne ⟨k % n, Nat.mod_lt _ (by omega), (ascP_iff (Nat.mod_lt _ (by omega))).2 ⟨by rw [perE]; exact hk, by rw [perE1]; omega⟩⟩
    have cyc : (fun k => Y (k % n)) (0 + n) = (fun k => Y (k % n)) 0 := per_x Y n 0
    by_cases hd : ∃ k, exN (fun k => Y (k % n)) k ≤ 0
    · obtain ⟨k0, hk0⟩ := hd
      have all : ∀ d, exN (fun k => Y (k % n)) (k0 + d) ≤ 0 := by
        intro d
        induction d with
        | zero => exact hk0
        | succ d ih => exact no _ ih
      have dec : ∀ d, (fun k => Y (k % n)) (k0 + d) ≤ (fun k => Y (k % n)) k0 := by
        intro d
        induction d with
        | zero => exact Int.le_refl _
        | succ d ih =>
          have := all d
          have e : exN (fun k => Y (k % n)) (k0 + d) = (fun k => Y (k % n)) (k0 + (d + 1)) - (fun k => Y (k % n)) (k0 + d) := rfl
          omega
      have dec2 : ∀ d, d ≤ n → (fun k => Y (k % n)) (k0 + n) ≤ (fun k => Y (k % n)) (k0 + (n - d)) := by
        intro d
        induction d with
        | zero => intro _; exact Int.le_refl _
        | succ d ih =>
          intro hd
          have i1 := ih (by omega)
          have := all (n - (d + 1))
          have e : exN (fun k => Y (k % n)) (k0 + (n - (d + 1))) = (fun k => Y (k % n)) (k0 + (n - (d + 1)) + 1) - (fun k => Y (k % n)) (k0 + (n - (d + 1))) := rfl
          rw [show k0 + (n - (d + 1)) + 1 = k0 + (n - d) from by omega] at e
          omega
      have flat : ∀ d, d ≤ n → (fun k => Y (k % n)) (k0 + d) = (fun k => Y (k % n)) k0 := by
        intro d hd
        have a1 := dec d
        have a2 := dec2 (n - d) (by omega)
        rw [show n - (n - d) = d from by omega, per_x Y n k0] at a2
        omega
      have e0 : exN (fun k => Y (k % n)) k0 = 0 := by
        have a := flat 1 (by omega)
        have e : exN (fun k => Y (k % n)) k0 = (fun k => Y (k % n)) (k0 + 1) - (fun k => Y (k % n)) k0 := rfl
        omega
      have e1 : exN (fun k => Y (k % n)) (k0 + 1) = 0 := by
        have a := flat 1 (by omega)
        have b := flat 2 (by omega)
        have e : exN (fun k => Y (k % n)) (k0 + 1) = (fun k => Y (k % n)) (k0 + 2) - (fun k => Y (k % n)) (k0 + 1) := rfl
        omega
      have c := hl k0
      unfold crN at c
      rw [e0, e1] at c
      simp at c
    · have up : ∀ k, 0 < exN (fun k => Y (k % n)) k := by
        intro k
        apply Classical.byContradiction
        intro q
        exact hd ⟨k, by omega⟩
      have inc : ∀ d, (fun k => Y (k % n)) 0 + d ≤ (fun k => Y (k % n)) (0 + d) := by
        intro d
        induction d with
        | zero => simp
        | succ d ih =>
          have := up d
          have e : exN (fun k => Y (k % n)) d = (fun k => Y (k % n)) (0 + (d + 1)) - (fun k => Y (k % n)) (0 + d) := by
            show (fun k => Y (k % n)) (d + 1) - (fun k => Y (k % n)) d = _
            rw [Nat.zero_add, Nat.zero_add]
          omega
      have := inc n
      rw [cyc] at this
      omega
  -- and there are no two
  have two : ∀ a b, a < n → b < n → ascP n Y a = true → ascP n Y b = true → a ≠ b → Y ((a + 1) % n) ≤ Y ((b + 1) % n) → False := by
    intro a b ha hb qa qb hab hle
    obtain ⟨a0, a1⟩ := (ascP_iff ha).1 qa
    obtain ⟨b0, b1⟩ := (ascP_iff hb).1 qb
    have hv : (a + 1) % n < n := Nat.mod_lt _ (by omega)
    have hw : (b + 1) % n < n := Nat.mod_lt _ (by omega)
    have hvw : (a + 1) % n ≠ (b + 1) % n := by
      intro e
      apply hab
      by_cases c1 : a + 1 < n <;> by_cases c2 : b + 1 < n
      · rw [Nat.mod_eq_of_lt c1, Nat.mod_eq_of_lt c2] at e; omega
      · rw [Nat.mod_eq_of_lt c1, show b + 1 = n from by omega, Nat.mod_self] at e; omega
      · rw [show a + 1 = n from by omega, Nat.mod_self, Nat.mod_eq_of_lt c2] at e; omega
      · omega
    refine two_ascents (x := fun k => X (k % n)) (y := fun k => Y (k % n)) (a := (a + 1) % n) (b := b) (hl b) b0 b1 (by show Y ((a + 1) % n % n) ≤ Y ((b + 1) % n); rw [Nat.mod_mod]; exact hle) ?_ ?_
    · by_cases c : (a + 1) % n = b
      · refine .inr ⟨c, ?_⟩
        rw [← c, perE]; exact a1
      · exact .inl (h b hb _ hv c hvw)
    · by_cases c : (a + 1) % n = (b + 2) % n
      · refine .inr ?_
        have e : exN (fun k => Y (k % n)) (b + 1) = Y ((b + 2) % n) - Y ((b + 1) % n) := rfl
        show Y ((b + 1) % n) < Y ((a + 1) % n % n)
        rw [Nat.mod_mod, c]; omega
      · refine .inl ?_
        have q := h _ hw _ hv hvw (by unfold nx; rw [mod1]; exact c)
        have e : FcN (fun k => X (k % n)) (fun k => Y (k % n)) ((b + 1) % n) ((a + 1) % n) = FcN (fun k => X (k % n)) (fun k => Y (k % n)) (b + 1) ((a + 1) % n) := by
          show (X (((b + 1) % n + 1) % n) - X ((b + 1) % n % n)) * (Y ((a + 1) % n % n) - Y ((b + 1) % n % n)) - (Y (((b + 1) % n + 1) % n) - Y ((b + 1) % n % n)) * (X ((a + 1) % n % n) - X ((b + 1) % n % n)) =
            (X ((b + 1 + 1) % n) - X ((b + 1) % n)) * (Y ((a + 1) % n % n) - Y ((b + 1) % n)) - (Y ((b + 1 + 1) % n) - Y ((b + 1) % n)) * (X ((a + 1) % n % n) - X ((b + 1) % n))
          rw [mod1, Nat.mod_mod]
        rw [← e]; exact q
  unfold cvxP
  rw [Bool.and_eq_true, beq_iff_eq, allN_iff, cnt_one]
  obtain ⟨a, ha, qa⟩ := ex
  refine ⟨hL, a, ha, qa, fun b hb qb => ?_⟩
  apply Classical.byContradiction
  intro hne
  rcases Int.le_total (Y ((a + 1) % n)) (Y ((b + 1) % n)) with c | c
  · exact two a b ha hb qa qb (fun e => hne e.symm) c
  · exact two b a hb ha qb qa hne c
theorem cvx_eq (hn : 3 ≤ n) : cvxP n X Y = cvxR n X Y := by
  rcases h1 : cvxP n X Y with _ | _ <;> rcases h2 : cvxR n X Y with _ | _
  · rfl
  · rw [cvx_from hn h2] at h1; cases h1
  · rw [cvx_to hn h1] at h2; cases h2
  · rfl
end
end Go.Proofs.Ytapcooolainmdaa.Ev
