/- Plain words: lists of intervals as cells, and where a slice of them lies. -/
import Derived.WalkKit
import Derived.ProofKit
import Derived.Lib.Hide
import Derived.Deep.Draws
import Derived.Laws.Rows
import Derived.OneCell
namespace Go.Proofs.Ytofpiedhenephaa.Sp
open Go.RowKit
set_option linter.unusedVariables false

/-- the cells of a list of intervals -/
def flat : List (Int × Int) → List Value
  | [] => []
  | p :: r => .int .i64 p.1 :: .int .i64 p.2 :: flat r

theorem flat_length (l : List (Int × Int)) : (flat l).length = 2 * l.length := by
  induction l with
  | nil => rfl
  | cons p r ih => simp [flat, ih]; omega

theorem flat_append (l r : List (Int × Int)) : flat (l ++ r) = flat l ++ flat r := by
  induction l with
  | nil => rfl
  | cons p t ih => simp [flat, ih]

theorem flat_lo (l : List (Int × Int)) (k : Nat) (h : k < l.length) : (flat l)[2 * k]? = some (.int .i64 l[k].1) := by
  induction l generalizing k with
  | nil => simp at h
  | cons p r ih =>
    cases k with
    | zero => rfl
    | succ k =>
      have h' : k < r.length := by simpa using h
      have e : 2 * (k + 1) = 2 * k + 2 := by omega
      rw [e]
      simpa [flat] using ih k h'

theorem flat_hi (l : List (Int × Int)) (k : Nat) (h : k < l.length) : (flat l)[2 * k + 1]? = some (.int .i64 l[k].2) := by
  induction l generalizing k with
  | nil => simp at h
  | cons p r ih =>
    cases k with
    | zero => rfl
    | succ k =>
      have h' : k < r.length := by simpa using h
      have e : 2 * (k + 1) + 1 = 2 * k + 1 + 2 := by omega
      rw [e]
      simpa [flat] using ih k h'

/-- the cells xs lie at the address of a slice, below the heap's end -/
def Lies (w : World) (A : Option Addr) (xs : List Value) : Prop :=
  0 < xs.length → ∃ b o, A = some ⟨b, o, none⟩ ∧ b < w.heap.size ∧ ∀ j u, xs[j]? = some u → w.cell? ⟨b, o + j, none⟩ = some u

theorem Lies.below {w w' : World} {A : Option Addr} {xs : List Value} (h : Lies w A xs) {B : Nat} (hB : w.heap.size ≤ B) (hb : Below B w w') : Lies w' A xs := fun hx => by
  obtain ⟨b, o, e, hlt, hc⟩ := h hx
  exact ⟨b, o, e, Nat.lt_of_lt_of_le hlt hb.size, fun j u hu => (hb.cell (p := ⟨b, o + j, none⟩) (Nat.lt_of_lt_of_le hlt hB)).trans (hc j u hu)⟩

theorem Lies.nil_ {w : World} {A : Option Addr} : Lies w A [] := fun h => absurd h (by simp)

theorem Lies.ivs {w : World} {A : Option Addr} {l : List (Int × Int)} (h : Lies w A (flat l)) (hl : 0 < l.length) :
    ∃ b o, A = some ⟨b, o, none⟩ ∧ b < w.heap.size ∧ ∀ k (hk : k < l.length), w.cell? ⟨b, o + k * 2, none⟩ = some (.int .i64 l[k].1) ∧ w.cell? ⟨b, o + k * 2 + 1, none⟩ = some (.int .i64 l[k].2) := by
  obtain ⟨b, o, e, hlt, hc⟩ := h (by rw [flat_length]; omega)
  exact ⟨b, o, e, hlt, fun k hk => ⟨by rw [show k * 2 = 2 * k from by omega]; exact hc _ _ (flat_lo l k hk), by rw [show o + k * 2 + 1 = o + (2 * k + 1) from by omega]; exact hc _ _ (flat_hi l k hk)⟩⟩

theorem lies_new {w : World} {n : Nat} (l : List (Int × Int)) {cs : Array Value} {t : TypeId} (hn : n = w.heap.size) (hcs : cs.toList = flat l) : Lies (w.alloc (.cells cs t)) (some ⟨n, 0, none⟩) (flat l) := by
  intro _
  subst hn
  refine ⟨_, _, rfl, by simp, fun j u hu => ?_⟩
  rw [← hcs] at hu
  rw [cell_of_row (w.alloc (.cells cs t)) w.heap.size (0 + j) cs t (0, 0) (heap_alloc_new w _), Nat.zero_add, ← Array.getElem?_toList]
  exact hu

theorem below_alloc {a w : World} (h : Below a.heap.size a w) (o : Obj) : Below a.heap.size a (w.alloc o) := h.alloc h.size o
theorem below_set {a w : World} {p : Addr} (h : Below a.heap.size a w) (hp : a.heap.size ≤ p.block) (u : Value) : Below a.heap.size a (w.setCell p u) := h.setCell hp u
theorem below_trans {a w w' : World} (h : Below a.heap.size a w) (h' : Below w.heap.size w w') : Below a.heap.size a w' := h.trans (h'.mono h.size)
theorem below_drewN {a w : World} (h : Below a.heap.size a w) (n : Nat) : Below a.heap.size a (w.drewN n) := ⟨h.os, h.tape, h.output, h.size, h.block⟩
/-- behind a call: old cells and old marks read as before -/
theorem bcell {W w1 : World} (hb : Below W.heap.size W w1) : (∀ b o, b < W.heap.size → w1.cell? ⟨b, o, none⟩ = W.cell? ⟨b, o, none⟩) ∧ (∀ b o, b < W.heap.size → w1.frozen? ⟨b, o, none⟩ = W.frozen? ⟨b, o, none⟩) :=
  ⟨fun b o h => hb.cell (p := ⟨b, o, none⟩) h, fun b o h => hb.frozen (p := ⟨b, o, none⟩) h⟩

theorem far_set {w : World} {g b i o : Nat} {u : Value} (h : g ≠ b) : (w.setCell ⟨g, i, none⟩ u).cell? ⟨b, o, none⟩ = w.cell? ⟨b, o, none⟩ :=
  World.cell?_of_block (Below.heap_setCell _ _ _ _ (fun e => h e.symm))
theorem far_alloc {w : World} {b o : Nat} {x : Obj} (h : b < w.heap.size) : (w.alloc x).cell? ⟨b, o, none⟩ = w.cell? ⟨b, o, none⟩ :=
  World.cell?_of_block (Below.heap_alloc _ _ _ h)
/-- block g holds just these cells -/
def Blk (w : World) (g : Nat) (t : TypeId) (cs : Array Value) : Prop := w.heap[g]? = some (.cells cs t (0, 0))
section
variable {w w' : World} {g : Nat} {t : TypeId} {cs : Array Value}
theorem Blk.lt (h : Blk w g t cs) : g < w.heap.size := (Array.getElem?_eq_some_iff.1 h).1
theorem Blk.cell (h : Blk w g t cs) (i : Nat) : w.cell? ⟨g, i, none⟩ = cs[i]? := cell_of_row w g i cs t (0, 0) h
theorem Blk.frozen (h : Blk w g t cs) (i : Nat) : w.frozen? ⟨g, i, none⟩ = false := by
  unfold Blk at h
  simp [World.frozen?, h]
theorem Blk.new (w : World) (t : TypeId) (cs : Array Value) : Blk (w.alloc (.cells cs t)) w.heap.size t cs := heap_alloc_new w _
theorem Blk.drewN (h : Blk w g t cs) (n : Nat) : Blk (w.drewN n) g t cs := h
theorem Blk.alloc (h : Blk w g t cs) (o : Obj) : Blk (w.alloc o) g t cs := (Below.heap_alloc w o g h.lt).trans h
theorem Blk.set_ (h : Blk w g t cs) (i : Nat) (u : Value) : Blk (w.setCell ⟨g, i, none⟩ u) g t (cs.setIfInBounds i u) := by
  unfold Blk at h ⊢
  simp [World.setCell, Array.getElem?_modify, h]
theorem Blk.far (h : Blk w g t cs) {p : Addr} (hp : g ≠ p.block) (u : Value) : Blk (w.setCell p u) g t cs := (Below.heap_setCell w p u g hp).trans h
theorem Blk.below {B : Nat} (h : Blk w g t cs) (hb : Below B w w') (hg : g < B) : Blk w' g t cs := (hb.block g hg).trans h
end

def sumP : List (Int × Int) → Int × Int
  | [] => (0, 0)
  | p :: r => (p.1 + (sumP r).1, p.2 + (sumP r).2)
theorem sumP_append (l r : List (Int × Int)) : sumP (l ++ r) = ((sumP l).1 + (sumP r).1, (sumP l).2 + (sumP r).2) := by
  induction l with
  | nil => simp [sumP]
  | cons p t ih => simp [sumP, ih]; omega
theorem sumP_take (l : List (Int × Int)) (k : Nat) (h : k < l.length) : sumP (l.take (k + 1)) = ((sumP (l.take k)).1 + l[k].1, (sumP (l.take k)).2 + l[k].2) := by
  rw [List.take_succ_eq_append_getElem h, sumP_append]
  simp [sumP]
theorem sumP_bd0 (l : List (Int × Int)) (h : ∀ p ∈ l, -1000000000000 ≤ p.1 ∧ p.1 ≤ p.2 ∧ p.2 ≤ 1000000000000) :
    -(1000000000000 * (l.length : Int)) ≤ (sumP l).1 ∧ (sumP l).1 ≤ (sumP l).2 ∧ (sumP l).2 ≤ 1000000000000 * (l.length : Int) := by
  induction l with
  | nil => simp [sumP]
  | cons p r ih =>
    have h1 := h p (by simp)
    have h2 := ih (fun q hq => h q (by simp [hq]))
    simp only [sumP, List.length_cons]
    omega
theorem sumP_bd (l : List (Int × Int)) (N : Nat) (hn : l.length ≤ N) (h : ∀ p ∈ l, -1000000000000 ≤ p.1 ∧ p.1 ≤ p.2 ∧ p.2 ≤ 1000000000000) :
    -(1000000000000 * (N : Int)) ≤ (sumP l).1 ∧ (sumP l).1 ≤ (sumP l).2 ∧ (sumP l).2 ≤ 1000000000000 * (N : Int) := by
  have := sumP_bd0 l h
  omega

/-- the first error of intervals -/
def outB (n : Int) : Bool := decide (n < -1000000000000) || decide (1000000000000 < n)
def outP (p : Int × Int) : Bool := outB p.1 || outB p.2
def badP (p : Int × Int) : Bool := decide (p.2 < p.1)
def allE (l : List (Int × Int)) : Int := if l.any outP then 6 else if l.any badP then 1 else 0

def lenE (lo hi : Int) : Int := if allE [(lo, hi)] = 0 then hi - lo + 1 else 0
theorem allE_ok {l : List (Int × Int)} (h : allE l = 0) : ∀ p ∈ l, -1000000000000 ≤ p.1 ∧ p.1 ≤ p.2 ∧ p.2 ≤ 1000000000000 := by
  intro p hp
  by_cases h1 : l.any outP = true
  · rw [allE, if_pos h1] at h; omega
  · by_cases h2 : l.any badP = true
    · rw [allE, if_neg h1, if_pos h2] at h; omega
    · have e1 : outP p = false := by
        rcases hx : outP p with _ | _
        · rfl
        · exact absurd (List.any_eq_true.2 ⟨p, hp, hx⟩) h1
      have e2 : badP p = false := by
        rcases hx : badP p with _ | _
        · rfl
        · exact absurd (List.any_eq_true.2 ⟨p, hp, hx⟩) h2
      simp [outP, outB, badP] at e1 e2
      omega
theorem allE_of {l : List (Int × Int)} (h : ∀ p ∈ l, -1000000000000 ≤ p.1 ∧ p.1 ≤ p.2 ∧ p.2 ≤ 1000000000000) : allE l = 0 := by
  have h1 : l.any outP = false := by
    rw [List.any_eq_false]
    intro p hp
    have := h p hp
    simp [outP, outB]
    omega
  have h2 : l.any badP = false := by
    rw [List.any_eq_false]
    intro p hp
    have := h p hp
    simp [badP]
    omega
  rw [allE, h1, h2]
  rfl
def okA (lo hi e : Int) : Int × Int := if e = 0 then (lo, hi) else (0, 0)
theorem okA_ok (lo hi : Int) {e : Int} (h : e = 0) : okA lo hi e = (lo, hi) := by rw [okA, if_pos h]
theorem okA_no (lo hi : Int) {e : Int} (h : ¬ e = 0) : okA lo hi e = (0, 0) := by rw [okA, if_neg h]
/-- the error of a computed interval -/
def resE (lo hi : Int) : Int := if outP (lo, hi) then 6 else 0
theorem allE_res {lo hi : Int} (h : lo ≤ hi) : allE [(lo, hi)] = resE lo hi := by
  have : badP (lo, hi) = false := by simp [badP]; omega
  simp [allE, resE, this]
/-- a number is in a set -/
def inB (l : List (Int × Int)) (n : Int) : Bool := l.any fun p => decide (p.1 ≤ n) && decide (n ≤ p.2)
/-- how many numbers a normal form has -/
def cntL : List (Int × Int) → Int
  | [] => 0
  | p :: r => (p.2 - p.1 + 1) + cntL r
theorem cntL_append (l r : List (Int × Int)) : cntL (l ++ r) = cntL l + cntL r := by
  induction l with
  | nil => simp [cntL]
  | cons p t ih => simp [cntL, ih]; omega
theorem cntL_take (l : List (Int × Int)) (k : Nat) (h : k < l.length) : cntL (l.take (k + 1)) = cntL (l.take k) + (l[k].2 - l[k].1 + 1) := by
  rw [List.take_succ_eq_append_getElem h, cntL_append]
  simp [cntL]
theorem cntL_bd (l : List (Int × Int)) (N : Nat) (hn : l.length ≤ N) (h : ∀ p ∈ l, -1000000000000 ≤ p.1 ∧ p.1 ≤ p.2 ∧ p.2 ≤ 1000000000000) : 0 ≤ cntL l ∧ cntL l ≤ 2000000000001 * (N : Int) := by
  have : 0 ≤ cntL l ∧ cntL l ≤ 2000000000001 * (l.length : Int) := by
    clear hn
    induction l with
    | nil => simp [cntL]
    | cons p r ih =>
      have h1 := h p (by simp)
      have h2 := ih (fun q hq => h q (by simp [hq]))
      simp only [cntL, List.length_cons]
      omega
  omega
/-- every number in its range -/
def Ok (l : List (Int × Int)) : Prop := ∀ p ∈ l, -1000000000000 ≤ p.1 ∧ p.1 ≤ p.2 ∧ p.2 ≤ 1000000000000
/-- the next one begins at least two behind the end before -/
def gapB (l : List (Int × Int)) (k : Nat) : Bool := match l[k]? with
  | some p => decide (p.2 < p.1) || (match k with
    | 0 => false
    | j + 1 => match l[j]? with
      | some q => decide (p.1 < q.2 + 2)
      | none => false)
  | none => false
def normB (l : List (Int × Int)) : Bool := (List.range l.length).all fun k => !gapB l k
/-- what Sum answers: the error, the interval -/
def sumE (l : List (Int × Int)) : Int := if allE l = 0 then resE (sumP l).1 (sumP l).2 else allE l
def sumA (l : List (Int × Int)) : Int × Int := okA (sumP l).1 (sumP l).2 (sumE l)
theorem any_take_succ {α : Type} (f : α → Bool) (l : List α) (k : Nat) (h : k < l.length) : (l.take (k + 1)).any f = ((l.take k).any f || f l[k]) := by
  rw [List.take_succ_eq_append_getElem h, List.any_append]; simp
theorem any_of_at {α : Type} (f : α → Bool) (l : List α) (k : Nat) (h : k < l.length) (hf : f l[k] = true) : l.any f = true :=
  List.any_eq_true.2 ⟨l[k], List.getElem_mem h, hf⟩
theorem any_full {α : Type} (f : α → Bool) (l : List α) (k : Nat) (h : l.length ≤ k) (hf : (l.take k).any f = false) : l.any f = false := by
  rwa [List.take_of_length_le h] at hf
end Go.Proofs.Ytofpiedhenephaa.Sp
