/- Plain mathematics: the counts of normal forms add up. -/
import Derived.Test.YtofpiedhenephaaSpN
namespace Go.Proofs.Ytofpiedhenephaa.Sp
open Go.RowKit
set_option linter.unusedVariables false

theorem countP_ie {α : Type} (p q : α → Bool) (l : List α) : l.countP p + l.countP q = l.countP (fun x => p x || q x) + l.countP (fun x => p x && q x) := by
  induction l with
  | nil => rfl
  | cons x r ih =>
    simp only [List.countP_cons]
    rcases p x with _ | _ <;> rcases q x with _ | _ <;> simp <;> omega
theorem countP_false {α : Type} (l : List α) : l.countP (fun _ => false) = 0 := by
  induction l with
  | nil => rfl
  | cons x r ih => simp [List.countP_cons, ih]

theorem countP_range (a b : Nat) : ∀ N, (List.range N).countP (fun i => decide (a ≤ i) && decide (i ≤ b)) = min (b + 1) N - min a N := by
  intro N
  induction N with
  | zero => simp
  | succ n ih =>
    rw [List.range_succ, List.countP_append, ih]
    by_cases h1 : a ≤ n <;> by_cases h2 : n ≤ b <;> simp [List.countP_cons, h1, h2] <;> omega

/-- how many of the numbers from -M to M a set has -/
def cntF (M : Nat) (f : Int → Bool) : Nat := (List.range (2 * M + 1)).countP fun i : Nat => f ((i : Int) - M)

theorem cntF_ie (M : Nat) (f g : Int → Bool) : cntF M f + cntF M g = cntF M (fun x => f x || g x) + cntF M (fun x => f x && g x) := countP_ie _ _ _
theorem cntF_one (M : Nat) {lo hi : Int} (h1 : -(M : Int) ≤ lo) (h2 : lo ≤ hi) (h3 : hi ≤ M) : (cntF M (fun x => decide (lo ≤ x) && decide (x ≤ hi)) : Int) = hi - lo + 1 := by
  obtain ⟨a, ha⟩ : ∃ a : Nat, (a : Int) = lo + M := ⟨(lo + M).toNat, by omega⟩
  obtain ⟨b, hb⟩ : ∃ b : Nat, (b : Int) = hi + M := ⟨(hi + M).toNat, by omega⟩
  have e : cntF M (fun x => decide (lo ≤ x) && decide (x ≤ hi)) = (List.range (2 * M + 1)).countP (fun i => decide (a ≤ i) && decide (i ≤ b)) := by
    unfold cntF
    congr 1
    funext i
    rw [Bool.eq_iff_iff]
    simp
    omega
  rw [e, countP_range]
  omega

theorem cntL_cntF (M : Nat) {l : List (Int × Int)} (h : NF l) (hM : ∀ p ∈ l, -(M : Int) ≤ p.1 ∧ p.2 ≤ M) : cntL l = (cntF M (inB l) : Int) := by
  induction l with
  | nil =>
    have : cntF M (inB []) = 0 := by
      unfold cntF
      exact countP_false _
    rw [this]; rfl
  | cons p r ih =>
    have hp := h.1 p (by simp)
    have hm := hM p (by simp)
    have h1 := cntF_one M hm.1 hp hm.2
    have h2 := ih h.tail (fun q hq => hM q (by simp [hq]))
    have h3 := cntF_ie M (fun x => decide (p.1 ≤ x) && decide (x ≤ p.2)) (inB r)
    have h4 : cntF M (fun x => (decide (p.1 ≤ x) && decide (x ≤ p.2)) && inB r x) = 0 := by
      have : (fun x => (decide (p.1 ≤ x) && decide (x ≤ p.2)) && inB r x) = fun _ => false := by
        funext x
        rcases hx : inB r x with _ | _
        · simp
        · have := h.rest hx
          simp
          omega
      rw [this]
      unfold cntF
      exact countP_false _
    have h5 : cntF M (inB (p :: r)) = cntF M (fun x => (decide (p.1 ≤ x) && decide (x ≤ p.2)) || inB r x) := rfl
    rw [cntL, h5]
    omega

theorem cntL_ie {a b c u : List (Int × Int)} (ha : NF a) (hb : NF b) (hc : NF c) (hu : NF u) (oa : Ok a) (ob : Ok b) (oc : Ok c) (ou : Ok u)
    (hcm : ∀ x, inB c x = (inB a x && inB b x)) (hum : ∀ x, inB u x = (inB a x || inB b x)) : cntL u = cntL a + cntL b - cntL c := by
  have key : ∀ M : Nat, (1000000000000 : Int) = (M : Int) → cntL u = cntL a + cntL b - cntL c := by
    intro M hM
    have bd : ∀ {l : List (Int × Int)}, Ok l → ∀ p ∈ l, -(M : Int) ≤ p.1 ∧ p.2 ≤ M := fun ho p hp => by have := ho p hp; omega
    have e1 := cntL_cntF M ha (bd oa)
    have e2 := cntL_cntF M hb (bd ob)
    have e3 := cntL_cntF M hc (bd oc)
    have e4 := cntL_cntF M hu (bd ou)
    have h := cntF_ie M (inB a) (inB b)
    rw [show (fun x => inB a x || inB b x) = inB u from funext fun x => (hum x).symm, show (fun x => inB a x && inB b x) = inB c from funext fun x => (hcm x).symm] at h
    omega
  exact key 1000000000000 (by omega)

theorem cntF_ok {l : List (Int × Int)} (h : NF l) (ho : Ok l) : 0 ≤ cntL l ∧ cntL l ≤ 2000000000001 := by
  have key : ∀ M : Nat, (1000000000000 : Int) = (M : Int) → 0 ≤ cntL l ∧ cntL l ≤ 2000000000001 := by
    intro M hM
    have e := cntL_cntF M h (fun p hp => by have := ho p hp; omega)
    have hle : cntF M (inB l) ≤ 2 * M + 1 := by
      unfold cntF
      have := List.countP_le_length (p := fun i : Nat => inB l ((i : Int) - M)) (l := List.range (2 * M + 1))
      simpa using this
    omega
  exact key 1000000000000 (by omega)
end Go.Proofs.Ytofpiedhenephaa.Sp
