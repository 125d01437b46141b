/- Arguments that are half-spaces, boxes, vectors: what their reading gives. -/
import Derived.Test.YtapcooolainmdaaRows
import Derived.Deep.Slices
import Derived.Deep.Fields
import Derived.ChangeSame
import Derived.OpenShut
import Derived.ShutString
import Derived.ChangeOld
import Derived.Lib.SmallJoins
namespace Go.Proofs.Ytapcooolainmdaa.Ev
open Go.RowKit Go.Lib Go.ChangeShapes Go.WideShapes Go.Deep
set_option linter.unusedVariables false
section
variable {P : Program} {W : World}
/-- a struct whose cells are all integers of one kind -/
theorem cells_open {e : TypeId} {fs : Array Field} {ts : List TypeId} {n : Nat} {K : IntKind} {r : Reach} {base : Nat} {v : Value}
    (he : P.underlying e = some (.struct fs)) (hts : P.cellTypes P.depth e = some ts) (hC : P.cellsOf e = n) (hk : ∀ k ∈ ts, P.underlying k = some (.int K))
    (hv : Value.okWide P W r base e v) : ∃ l : List Int, l.length = n ∧ v = .agg (l.map (Value.int K)).toArray ∧ ∀ x ∈ l, K.has x := by
  unfold Value.okWide at hv
  rw [he] at hv
  obtain ⟨cs, rfl, hsz, ts', hts', _, hcell⟩ := hv
  rw [hts] at hts'
  cases hts'
  rw [hC] at hsz
  have hone : ∀ (l : List Value), (∀ c ∈ l, ∃ x : Int, c = .int K x ∧ K.has x) → ∃ m : List Int, m.length = l.length ∧ l = m.map (Value.int K) ∧ ∀ x ∈ m, K.has x := by
    intro l
    induction l with
    | nil => intro _; exact ⟨[], rfl, rfl, fun x hx => by cases hx⟩
    | cons c l ih =>
      intro h
      obtain ⟨x, rfl, hx⟩ := h c (List.mem_cons_self ..)
      obtain ⟨m, h1, h2, h3⟩ := ih fun c hc => h c (List.mem_cons_of_mem _ hc)
      exact ⟨x :: m, by simp [h1], by simp [h2], fun y hy => (List.mem_cons.1 hy).elim (fun q => q ▸ hx) (h3 y)⟩
  obtain ⟨m, h1, h2, h3⟩ := hone cs.toList fun c hc => by
    obtain ⟨i, hi⟩ := List.mem_iff_getElem?.1 hc
    obtain ⟨u, hu, hok⟩ := hcell i c (by simpa using hi)
    have hu' := hk u (List.mem_of_getElem? hu)
    unfold Cell.okWide at hok
    rw [hu'] at hok
    unfold Cell.ok at hok
    rw [hu'] at hok
    cases c <;> simp_all
  refine ⟨m, by rw [h1]; simpa using hsz, ?_, h3⟩
  rw [← h2]
theorem box_open {e k : TypeId} {fs : Array Field} {r : Reach} {base : Nat} {v : Value}
    (he : P.underlying e = some (.struct fs)) (hts : P.cellTypes P.depth e = some [k, k, k, k, k, k]) (hC : P.cellsOf e = 6) (hk : P.underlying k = some (.int .i64))
    (hv : Value.okWide P W r base e v) : ∃ a b c x y z : Int, v = .agg #[.int .i64 a, .int .i64 b, .int .i64 c, .int .i64 x, .int .i64 y, .int .i64 z] ∧ ∀ n ∈ [a, b, c, x, y, z], IntKind.i64.has n := by
  obtain ⟨l, h1, h2, h3⟩ := cells_open (n := 6) (K := .i64) he hts hC (by simp [hk]) hv
  match l, h1, h2, h3 with
  | [a, b, c, x, y, z], _, h2, h3 => exact ⟨a, b, c, x, y, z, h2, h3⟩
theorem vec_open {e k : TypeId} {fs : Array Field} {r : Reach} {base : Nat} {v : Value}
    (he : P.underlying e = some (.struct fs)) (hts : P.cellTypes P.depth e = some [k, k, k]) (hC : P.cellsOf e = 3) (hk : P.underlying k = some (.int .i64))
    (hv : Value.okWide P W r base e v) : ∃ a b c : Int, v = .agg #[.int .i64 a, .int .i64 b, .int .i64 c] ∧ ∀ n ∈ [a, b, c], IntKind.i64.has n := by
  obtain ⟨l, h1, h2, h3⟩ := cells_open (n := 3) (K := .i64) he hts hC (by simp [hk]) hv
  match l, h1, h2, h3 with
  | [a, b, c], _, h2, h3 => exact ⟨a, b, c, h2, h3⟩
theorem half_open {e k m : TypeId} {fs : Array Field} {r : Reach} {base : Nat} {v : Value}
    (he : P.underlying e = some (.struct fs)) (hts : P.cellTypes P.depth e = some [k, k, k, m]) (hC : P.cellsOf e = 4) (hk : P.underlying k = some (.int .i64)) (hm : P.underlying m = some (.int .i64))
    (hv : Value.okWide P W r base e v) : ∃ a b c d : Int, v = .agg #[.int .i64 a, .int .i64 b, .int .i64 c, .int .i64 d] ∧ ∀ n ∈ [a, b, c, d], IntKind.i64.has n := by
  obtain ⟨l, h1, h2, h3⟩ := cells_open (n := 4) (K := .i64) he hts hC (by simp [hk, hm]) hv
  match l, h1, h2, h3 with
  | [a, b, c, d], _, h2, h3 => exact ⟨a, b, c, d, h2, h3⟩
theorem frac_open {e k : TypeId} {fs : Array Field} {r : Reach} {base : Nat} {v : Value}
    (he : P.underlying e = some (.struct fs)) (hts : P.cellTypes P.depth e = some [k, k]) (hC : P.cellsOf e = 2) (hk : P.underlying k = some (.int .i64))
    (hv : Value.okWide P W r base e v) : ∃ a b : Int, v = .agg #[.int .i64 a, .int .i64 b] ∧ ∀ n ∈ [a, b], IntKind.i64.has n := by
  obtain ⟨l, h1, h2, h3⟩ := cells_open (n := 2) (K := .i64) he hts hC (by simp [hk]) hv
  match l, h1, h2, h3 with
  | [a, b], _, h2, h3 => exact ⟨a, b, h2, h3⟩
end
end Go.Proofs.Ytapcooolainmdaa.Ev
