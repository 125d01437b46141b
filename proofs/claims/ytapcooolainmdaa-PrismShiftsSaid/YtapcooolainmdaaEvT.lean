/- The evaluator's temporaries: rows of sixteen. -/
import Derived.Test.YtapcooolainmdaaEvA
namespace Go.Proofs.Ytapcooolainmdaa.Ev
noncomputable section
open Go.RowKit
set_option linter.unusedVariables false
set_option linter.unusedSimpArgs false
variable {ρ : Env}

def getN {α : Type} (l : List α) : Nat → Option α :=
  @List.rec α (fun _ => Nat → Option α) (fun _ => none) (fun x _ ih i => @Nat.rec (fun _ => Option α) (some x) (fun j _ => ih j) i) l
def setN {α : Type} (l : List α) : Nat → α → List α :=
  @List.rec α (fun _ => Nat → α → List α) (fun _ _ => []) (fun x r ih i v => @Nat.rec (fun _ => List α) (v :: r) (fun j _ => x :: ih j v) i) l
theorem getN_eq {α : Type} : ∀ (l : List α) (i : Nat), getN l i = l[i]? := by
  intro l
  induction l with
  | nil => intro i; rfl
  | cons x r ih => intro i; cases i with
    | zero => rfl
    | succ i => rw [List.getElem?_cons_succ]; exact ih i
theorem setN_eq {α : Type} : ∀ (l : List α) (i : Nat) (v : α), setN l i v = l.set i v := by
  intro l
  induction l with
  | nil => intro i v; rfl
  | cons x r ih => intro i v; cases i with
    | zero => rfl
    | succ i => rw [List.set_cons_succ, ← ih]; rfl
abbrev Tm := List (List Value)
def Tm.at (t : Tm) (i : Nat) : Option Value :=
  match getN t (i / 16) with
  | some r => getN r (i % 16)
  | none => none
def Tm.put (t : Tm) (i : Nat) (v : Value) : Tm :=
  match getN t (i / 16) with
  | some r => setN t (i / 16) (setN r (i % 16) v)
  | none => t
theorem Tm.at_put (t : Tm) (i j : Nat) (v : Value) : (t.put i v).at j = if i = j then (t.at i).map (fun _ => v) else t.at j := by
  unfold Tm.put Tm.at
  simp only [getN_eq, setN_eq]
  cases hr : t[i / 16]? with
  | none =>
    simp only [Option.map_none]
    by_cases h : i = j
    · subst h; rw [hr, if_pos rfl]
    · rw [if_neg h]
  | some r =>
    have hlt : i / 16 < t.length := (List.getElem?_eq_some_iff.1 hr).1
    simp only [getN_eq]
    by_cases hq : i / 16 = j / 16
    · rw [← hq, List.getElem?_set_self hlt, hr]
      simp only [getN_eq]
      by_cases hm : i % 16 = j % 16
      · have hij : i = j := by omega
        subst hij
        rw [if_pos rfl, List.getElem?_set, if_pos rfl]
        by_cases hl : i % 16 < r.length
        · rw [if_pos hl, List.getElem?_eq_getElem hl]; rfl
        · rw [if_neg hl, List.getElem?_eq_none (by omega)]; rfl
      · rw [List.getElem?_set_ne hm, if_neg (fun e => hm (by rw [e]))]
    · rw [List.getElem?_set_ne hq, if_neg (fun e => hq (by rw [e]))]
theorem Tm.put_comm (t : Tm) {i j : Nat} (h : i ≠ j) (v u : Value) : (t.put i v).put j u = (t.put j u).put i v := by
  unfold Tm.put
  simp only [getN_eq, setN_eq]
  cases hr : t[i / 16]? with
  | none =>
    simp only
    cases hs : t[j / 16]? with
    | none => simp only [hr]
    | some s =>
      have : j / 16 ≠ i / 16 := fun e => by rw [e, hr] at hs; cases hs
      simp only [List.getElem?_set_ne this, hr]
  | some r =>
    have hlt : i / 16 < t.length := (List.getElem?_eq_some_iff.1 hr).1
    simp only
    by_cases hq : i / 16 = j / 16
    · rw [← hq, List.getElem?_set_self hlt, hr]
      simp only [List.getElem?_set_self hlt, List.set_set]
      have : i % 16 ≠ j % 16 := fun e => h (by omega)
      rw [List.set_comm _ _ this]
    · rw [List.getElem?_set_ne hq]
      cases hs : t[j / 16]? with
      | none => simp only [hr]
      | some s =>
        simp only [List.getElem?_set_ne (fun e => hq e.symm), hr]
        rw [List.set_comm _ _ hq]
def chunk : Nat → List Value → Tm
  | 0, _ => []
  | f + 1, l => l.take 16 :: chunk f (l.drop 16)
theorem chunk_at : ∀ (f : Nat) (l : List Value) (i : Nat), l.length ≤ 16 * f → (chunk f l).at i = l[i]? := by
  intro f
  induction f with
  | zero =>
    intro l i h
    have : l = [] := List.eq_nil_of_length_eq_zero (by omega)
    subst this
    rfl
  | succ f ih =>
    intro l i h
    unfold Tm.at
    simp only [getN_eq, chunk]
    by_cases hi : i < 16
    · rw [Nat.div_eq_of_lt hi, List.getElem?_cons_zero]
      simp only [getN_eq, List.getElem?_take]
      rw [Nat.mod_eq_of_lt hi, if_pos hi]
    · have e1 : i / 16 = (i - 16) / 16 + 1 := by omega
      have e2 : i % 16 = (i - 16) % 16 := by omega
      rw [e1, e2, List.getElem?_cons_succ]
      have := ih (l.drop 16) (i - 16) (by simp; omega)
      unfold Tm.at at this
      simp only [getN_eq] at this
      rw [this, List.getElem?_drop]
      congr 1
      omega
def RelT (ρ : Env) (β : Names) (t : Tm) (t' : Array Value) : Prop := ∀ (i : Nat), (t.at i = none ∧ t'[i]? = none) ∨ ∃ v v', t.at i = some v ∧ t'[i]? = some v' ∧ Rel ρ β v v'
theorem RelT.mono {β γ : Names} (hx : Ext β γ) {t : Tm} {t' : Array Value} (h : RelT ρ β t t') : RelT ρ γ t t' := by
  intro i
  rcases h i with h | ⟨v, v', h1, h2, h3⟩
  · exact .inl h
  · exact .inr ⟨v, v', h1, h2, h3.mono hx⟩
def sameT (same : List Value → List Value → Bool) : Tm → Tm → Bool
  | [], [] => true
  | a :: x, b :: y => same a b && sameT same x y
  | _, _ => false
theorem sameT_eq {same : List Value → List Value → Bool} (hs : ∀ a b, same a b = true → a = b) : ∀ (x y : Tm), sameT same x y = true → x = y := by
  intro x
  induction x with
  | nil => intro y h; cases y with
    | nil => rfl
    | cons b y => simp [sameT] at h
  | cons a x ih => intro y h; cases y with
    | nil => simp [sameT] at h
    | cons b y =>
      simp only [sameT, Bool.and_eq_true] at h
      rw [hs a b h.1, ih y h.2]
end
end Go.Proofs.Ytapcooolainmdaa.Ev
