/- Plain mathematics of normal forms: no walk. -/
import Derived.Test.YtofpiedhenephaaSpMath
namespace Go.Proofs.Ytofpiedhenephaa.Sp
open Go.RowKit
set_option linter.unusedVariables false

/-- a normal form: increasing, not touching -/
def NF (l : List (Int × Int)) : Prop := (∀ p ∈ l, p.1 ≤ p.2) ∧ l.Pairwise fun p q => p.2 + 2 ≤ q.1

theorem inB_nil (n : Int) : inB [] n = false := rfl
theorem inB_cons (p : Int × Int) (l : List (Int × Int)) (n : Int) : inB (p :: l) n = ((decide (p.1 ≤ n) && decide (n ≤ p.2)) || inB l n) := rfl
theorem inB_append (a b : List (Int × Int)) (n : Int) : inB (a ++ b) n = (inB a n || inB b n) := by simp [inB, List.any_append]
theorem inB_iff (l : List (Int × Int)) (n : Int) : inB l n = true ↔ ∃ p ∈ l, p.1 ≤ n ∧ n ≤ p.2 := by
  simp [inB, List.any_eq_true]
theorem inB_perm {a b : List (Int × Int)} (h : a.Perm b) (n : Int) : inB a n = inB b n := by
  rw [Bool.eq_iff_iff, inB_iff, inB_iff]
  exact ⟨fun ⟨p, hp, h'⟩ => ⟨p, h.mem_iff.1 hp, h'⟩, fun ⟨p, hp, h'⟩ => ⟨p, h.mem_iff.2 hp, h'⟩⟩

theorem NF.nil : NF [] := ⟨by simp, List.Pairwise.nil⟩
theorem NF.tail {p : Int × Int} {l : List (Int × Int)} (h : NF (p :: l)) : NF l := ⟨fun q hq => h.1 q (by simp [hq]), (List.pairwise_cons.1 h.2).2⟩
theorem NF.single {p : Int × Int} (h : p.1 ≤ p.2) : NF [p] := ⟨by simpa using h, by simp⟩

/-- all numbers of a normal form's rest are at least two behind its first end -/
theorem NF.rest {p : Int × Int} {l : List (Int × Int)} (h : NF (p :: l)) {n : Int} (hn : inB l n = true) : p.2 + 2 ≤ n := by
  obtain ⟨q, hq, h1, h2⟩ := (inB_iff _ _).1 hn
  have := (List.pairwise_cons.1 h.2).1 q hq
  omega

theorem nf_unique : ∀ {a b : List (Int × Int)}, NF a → NF b → (∀ n, inB a n = inB b n) → a = b := by
  intro a
  induction a with
  | nil =>
    intro b ha hb h
    rcases b with _ | ⟨q, r⟩
    · rfl
    · have := h q.1
      have hq := hb.1 q (by simp)
      rw [inB_nil, inB_cons] at this
      simp [hq] at this
  | cons p l ih =>
    intro b ha hb h
    rcases b with _ | ⟨q, r⟩
    · have := h p.1
      have hp := ha.1 p (by simp)
      rw [inB_nil, inB_cons] at this
      simp [hp] at this
    · have hp := ha.1 p (by simp)
      have hq := hb.1 q (by simp)
      have key : ∀ {p q : Int × Int} {l r : List (Int × Int)}, NF (p :: l) → NF (q :: r) → p.1 ≤ p.2 → q.1 ≤ q.2 → (∀ n, inB (p :: l) n = inB (q :: r) n) → q.1 ≤ p.1 ∧ p.2 ≤ q.2 ∨ q.1 < p.1 := by
        intro p q l r ha hb hp hq h
        by_cases h0 : q.1 < p.1
        · exact .inr h0
        · refine .inl ?_
          have e1 : inB (q :: r) p.1 = true := by rw [← h]; simp [inB_cons, hp]
          have h1 : q.1 ≤ p.1 ∧ p.1 ≤ q.2 := by
            rw [inB_cons, Bool.or_eq_true] at e1
            rcases e1 with e1 | e1
            · simpa using e1
            · have := hb.rest e1; omega
          refine ⟨h1.1, ?_⟩
          by_cases h2 : p.2 ≤ q.2
          · exact h2
          · have e2 : inB (q :: r) (q.2 + 1) = true := by rw [← h, inB_cons]; simp; left; omega
            rw [inB_cons, Bool.or_eq_true] at e2
            rcases e2 with e2 | e2
            · simp at e2; omega
            · have := hb.rest e2; omega
      have k1 := key ha hb hp hq h
      have k2 := key hb ha hq hp (fun n => (h n).symm)
      have e : p = q := by
        have : p.1 = q.1 ∧ p.2 = q.2 := by omega
        exact Prod.ext this.1 this.2
      subst e
      rw [ih ha.tail hb.tail fun n => ?_]
      by_cases hn : inB l n = true
      · have h3 := ha.rest hn
        have := h n
        rw [inB_cons, inB_cons] at this
        have hf : (decide (p.1 ≤ n) && decide (n ≤ p.2)) = false := by simp; omega
        rw [hf] at this
        simpa using this
      · by_cases hn' : inB r n = true
        · have h3 := hb.rest hn'
          have := h n
          rw [inB_cons, inB_cons] at this
          have hf : (decide (p.1 ≤ n) && decide (n ≤ p.2)) = false := by simp; omega
          rw [hf] at this
          simpa using this
        · rw [Bool.eq_false_iff.2 hn, Bool.eq_false_iff.2 hn']

theorem NF.snoc {l : List (Int × Int)} {p : Int × Int} (h : NF l) (hp : p.1 ≤ p.2) (hl : ∀ q ∈ l, q.2 + 2 ≤ p.1) : NF (l ++ [p]) := by
  refine ⟨fun q hq => ?_, ?_⟩
  · rw [List.mem_append] at hq
    rcases hq with hq | hq
    · exact h.1 q hq
    · simp at hq; subst hq; exact hp
  · rw [List.pairwise_append]
    exact ⟨h.2, by simp, fun q hq r hr => by simp at hr; subst hr; exact hl q hq⟩
theorem NF.init {l : List (Int × Int)} {p : Int × Int} (h : NF (l ++ [p])) : NF l ∧ p.1 ≤ p.2 ∧ ∀ q ∈ l, q.2 + 2 ≤ p.1 := by
  rw [NF, List.pairwise_append] at h
  exact ⟨⟨fun q hq => h.1 q (by simp [hq]), h.2.1⟩, h.1 p (by simp), fun q hq => h.2.2.2 q hq p (by simp)⟩
theorem NF.at_ {l : List (Int × Int)} (h : NF l) (k : Nat) (hk : k < l.length) : l[k].1 ≤ l[k].2 := h.1 _ (List.getElem_mem hk)
theorem NF.next {l : List (Int × Int)} (h : NF l) (k : Nat) (hk : k + 1 < l.length) : l[k].2 + 2 ≤ l[k + 1].1 := List.pairwise_iff_getElem.1 h.2 k (k + 1) (by omega) hk (by omega)

/-- the numbers of both, of one alone, in range -/
theorem inB_take_succ (l : List (Int × Int)) (k : Nat) (h : k < l.length) (n : Int) : inB (l.take (k + 1)) n = (inB (l.take k) n || (decide (l[k].1 ≤ n) && decide (n ≤ l[k].2))) := any_take_succ _ l k h
theorem inB_drop (l : List (Int × Int)) (k : Nat) (h : k < l.length) (n : Int) : inB (l.drop k) n = ((decide (l[k].1 ≤ n) && decide (n ≤ l[k].2)) || inB (l.drop (k + 1)) n) := by
  rw [List.drop_eq_getElem_cons h, inB_cons]
theorem NF.drop {l : List (Int × Int)} (h : NF l) (k : Nat) : NF (l.drop k) := ⟨fun p hp => h.1 p (List.mem_of_mem_drop hp), h.2.sublist (List.drop_sublist k l)⟩
theorem NF.behind {l : List (Int × Int)} (h : NF l) (k : Nat) (hk : k < l.length) {n : Int} (hn : inB (l.drop (k + 1)) n = true) : l[k].2 + 2 ≤ n := by
  have := h.drop k
  rw [List.drop_eq_getElem_cons hk] at this
  exact this.rest hn

/-- THE ROUND OF normal, ON WHAT STANDS LAST -/
theorem merge_join {o : List (Int × Int)} {q p : Int × Int} (h : NF (o ++ [q])) (hp : p.1 ≤ p.2) (hq : q.1 ≤ p.1) (hj : p.1 ≤ q.2 + 1) :
    NF (o ++ [(min q.1 p.1, max q.2 p.2)]) ∧ ∀ n, inB (o ++ [(min q.1 p.1, max q.2 p.2)]) n = (inB (o ++ [q]) n || (decide (p.1 ≤ n) && decide (n ≤ p.2))) := by
  obtain ⟨h1, h2, h3⟩ := h.init
  refine ⟨h1.snoc (by simp only; omega) (fun r hr => by have := h3 r hr; simp only; omega), fun n => ?_⟩
  rw [inB_append, inB_append, Bool.or_assoc]
  congr 1
  rw [inB_cons, inB_cons, inB_nil, Bool.eq_iff_iff]
  simp
  omega
theorem merge_new {o : List (Int × Int)} {p : Int × Int} (h : NF o) (hp : p.1 ≤ p.2) (hl : ∀ q ∈ o, q.2 + 1 < p.1) :
    NF (o ++ [p]) ∧ ∀ n, inB (o ++ [p]) n = (inB o n || (decide (p.1 ≤ n) && decide (n ≤ p.2))) := by
  refine ⟨h.snoc hp (fun q hq => by have := hl q hq; omega), fun n => ?_⟩
  rw [inB_append, inB_cons, inB_nil, Bool.or_false]
theorem NF.last_max {o : List (Int × Int)} {q : Int × Int} (h : NF (o ++ [q])) : ∀ r ∈ o ++ [q], r.2 ≤ q.2 := by
  obtain ⟨h1, h2, h3⟩ := h.init
  intro r hr
  rw [List.mem_append] at hr
  rcases hr with hr | hr
  · have := h3 r hr; have := h1.1 r hr; omega
  · simp at hr; subst hr; omega

/-- THE ROUND OF common -/
def Com (a b o : List (Int × Int)) (i k : Nat) : Prop :=
  NF o ∧ (∀ n, (inB a n && inB b n) = (inB o n || (inB (a.drop i) n && inB (b.drop k) n))) ∧ ∀ p ∈ o, ∀ n, inB (a.drop i) n = true → inB (b.drop k) n = true → p.2 + 2 ≤ n
theorem com_start (a b : List (Int × Int)) : Com a b [] 0 0 := ⟨NF.nil, fun n => by simp [inB_nil], by simp⟩
theorem com_end {a b o : List (Int × Int)} {i k : Nat} (h : Com a b o i k) (he : a.length ≤ i ∨ b.length ≤ k) : NF o ∧ ∀ n, inB o n = (inB a n && inB b n) := by
  refine ⟨h.1, fun n => ?_⟩
  rw [h.2.1 n]
  rcases he with he | he
  · rw [List.drop_eq_nil_of_le he]; simp [inB_nil]
  · rw [List.drop_eq_nil_of_le he]; simp [inB_nil]
/-- the list with what both have, if anything -/
def addM (o : List (Int × Int)) (p q : Int × Int) : List (Int × Int) := if max p.1 q.1 ≤ min p.2 q.2 then o ++ [(max p.1 q.1, min p.2 q.2)] else o
theorem inB_addM (o : List (Int × Int)) (p q : Int × Int) (n : Int) : inB (addM o p q) n = (inB o n || ((decide (p.1 ≤ n) && decide (n ≤ p.2)) && (decide (q.1 ≤ n) && decide (n ≤ q.2)))) := by
  unfold addM
  split
  · rw [inB_append, inB_cons, inB_nil, Bool.or_false]
    congr 1
    rw [Bool.eq_iff_iff]
    simp
    omega
  · have : ((decide (p.1 ≤ n) && decide (n ≤ p.2)) && (decide (q.1 ≤ n) && decide (n ≤ q.2))) = false := by
      rw [Bool.eq_false_iff]
      simp
      omega
    rw [this, Bool.or_false]
theorem com_add {a b o : List (Int × Int)} {i k : Nat} (ha : NF a) (hb : NF b) (h : Com a b o i k) (hi : i < a.length) (hk : k < b.length) : NF (addM o a[i] b[k]) := by
  unfold addM
  split
  · rename_i hm
    refine h.1.snoc hm fun p hp => ?_
    have h1 := ha.at_ i hi
    have h2 := hb.at_ k hk
    refine h.2.2 p hp _ ?_ ?_
    · rw [inB_drop a i hi]; simp; left; omega
    · rw [inB_drop b k hk]; simp; left; omega
  · exact h.1
theorem com_left {a b o : List (Int × Int)} {i k : Nat} (ha : NF a) (hb : NF b) (h : Com a b o i k) (hi : i < a.length) (hk : k < b.length) (hlt : a[i].2 < b[k].2) : Com a b (addM o a[i] b[k]) (i + 1) k := by
  refine ⟨com_add ha hb h hi hk, fun n => ?_, ?_⟩
  · rw [h.2.1 n, inB_addM, inB_drop a i hi, Bool.or_assoc]
    congr 1
    rw [inB_drop b k hk, Bool.eq_iff_iff]
    have hbb := fun hn => hb.behind k hk (n := n) hn
    simp only [Bool.or_eq_true, Bool.and_eq_true, decide_eq_true_eq]
    constructor
    · rintro ⟨h1 | h1, h2 | h2⟩
      · exact .inl ⟨h1, h2⟩
      · have := hbb h2; omega
      · exact .inr ⟨h1, .inl h2⟩
      · exact .inr ⟨h1, .inr h2⟩
    · rintro (⟨h1, h2⟩ | ⟨h1, h2⟩)
      · exact ⟨.inl h1, .inl h2⟩
      · exact ⟨.inr h1, h2⟩
  · intro p hp n h1 h2
    unfold addM at hp
    split at hp
    · rw [List.mem_append] at hp
      rcases hp with hp | hp
      · exact h.2.2 p hp n (by rw [inB_drop a i hi, h1]; simp) h2
      · simp at hp; subst hp
        have := ha.behind i hi h1
        simp only
        omega
    · exact h.2.2 p hp n (by rw [inB_drop a i hi, h1]; simp) h2
theorem com_right {a b o : List (Int × Int)} {i k : Nat} (ha : NF a) (hb : NF b) (h : Com a b o i k) (hi : i < a.length) (hk : k < b.length) (hge : b[k].2 ≤ a[i].2) : Com a b (addM o a[i] b[k]) i (k + 1) := by
  refine ⟨com_add ha hb h hi hk, fun n => ?_, ?_⟩
  · rw [h.2.1 n, inB_addM, inB_drop b k hk, Bool.or_assoc]
    congr 1
    rw [inB_drop a i hi, Bool.eq_iff_iff]
    have haa := fun hn => ha.behind i hi (n := n) hn
    simp only [Bool.or_eq_true, Bool.and_eq_true, decide_eq_true_eq]
    constructor
    · rintro ⟨h1 | h1, h2 | h2⟩
      · exact .inl ⟨h1, h2⟩
      · exact .inr ⟨.inl h1, h2⟩
      · have := haa h1; omega
      · exact .inr ⟨.inr h1, h2⟩
    · rintro (⟨h1, h2⟩ | ⟨h1, h2⟩)
      · exact ⟨.inl h1, .inl h2⟩
      · exact ⟨h1, .inr h2⟩
  · intro p hp n h1 h2
    unfold addM at hp
    split at hp
    · rw [List.mem_append] at hp
      rcases hp with hp | hp
      · exact h.2.2 p hp n h1 (by rw [inB_drop b k hk, h2]; simp)
      · simp at hp; subst hp
        have := hb.behind k hk h2
        simp only
        omega
    · exact h.2.2 p hp n h1 (by rw [inB_drop b k hk, h2]; simp)
end Go.Proofs.Ytofpiedhenephaa.Sp
