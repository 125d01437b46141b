/- An argument that is a slice of intervals, or of numbers: what its reading gives. -/
import Derived.Test.YtofpiedhenephaaSpMath
import Derived.Deep.Slices
import Derived.Deep.Fields
import Derived.ChangeSame
import Derived.OpenShut
import Derived.ShutString
import Derived.ChangeOld
import Derived.Lib.SmallJoins
namespace Go.Proofs.Ytofpiedhenephaa.Sp
open Go.RowKit Go.Lib Go.ChangeShapes Go.WideShapes Go.Deep
set_option linter.unusedVariables false

section
variable {H : Type} {enc : TypeId × Value → H} {P : Program} {W : World}

theorem ivs_open {t e : TypeId} {f0 f1 : Field} {k : TypeId} {base : Nat} {v : Value} {d : DataW H} {p : List MemPlace}
    (ht : P.underlying t = some (.slice e)) (he : P.underlying e = some (.struct #[f0, f1])) (hC : P.cellsOf e = 2) (h0 : f0.type = k ∧ f0.offset = 0) (h1 : f1.type = k ∧ f1.offset = 1) (hk : P.underlying k = some (.int .i64)) (hkC : P.cellsOf k = 1)
    (hv : Value.okWide P W .any base t v) (h : DataW.Trod enc P W 0 (fun _ => true) true t v d p) :
    ∃ A n c l, v = .slice A n c ∧ List.length l = n ∧ (A = none → c = 0) ∧ Lies W A (flat l) ∧ n ≤ maxLen := by
  obtain ⟨A, n, c, rfl⟩ := okWide_slice ht hv
  obtain ⟨fuel, hf⟩ := h
  rcases open_slice ht hf with ⟨hcs, _⟩ | ⟨a, len, cap, m, nf, D, Pl, hcs, hb, hl, hm, hmm, hx, hi⟩
  · simp [Value.cells] at hcs
    obtain ⟨rfl, rfl, rfl⟩ := hcs
    exact ⟨none, 0, 0, [], rfl, rfl, fun _ => rfl, Lies.nil_, by omega⟩
  · simp [Value.cells] at hcs
    obtain ⟨rfl, rfl, rfl⟩ := hcs
    simp only [if_true] at hmm
    subst hmm
    have hel : ∀ i, i < n → ∃ x y : Int, W.cell? (a.add (i * 2)) = some (.int .i64 x) ∧ W.cell? (a.add (i * 2 + 1)) = some (.int .i64 y) := by
      intro i hin
      obtain ⟨cs', hc, ht'⟩ := hi i (by omega)
      rw [hC] at hc
      obtain ⟨xs, n', _, _, hlen, hxl, hff⟩ := DataW.trod_struct he ht'
      obtain ⟨_, hcl, hat⟩ := World.cells?_some hc
      rw [hC] at hlen
      match cs', hlen with
      | [u0, u1], _ =>
        have hx2 : xs.length = 2 := hxl
        match xs, hx2 with
        | [y0, y1], _ =>
          have g0 := hff 0 f0 rfl
          have g1 := hff 1 f1 rfl
          rw [h0.1, h0.2, hkC] at g0
          rw [h1.1, h1.2, hkC] at g1
          simp at g0 g1
          obtain ⟨x, e0, _, _⟩ := DataW.trod_int hk g0
          obtain ⟨y, e1, _, _⟩ := DataW.trod_int hk g1
          simp at e0 e1
          subst e0 e1
          have a0 := hat 0 (by omega)
          have a1 := hat 1 (by omega)
          refine ⟨x, y, ?_, ?_⟩
          · simpa [Go.Deep.add_add] using a0
          · simpa [Go.Deep.add_add] using a1
    have hel' : ∃ f : Nat → Int × Int, ∀ i, i < n → W.cell? (a.add (i * 2)) = some (.int .i64 (f i).1) ∧ W.cell? (a.add (i * 2 + 1)) = some (.int .i64 (f i).2) :=
      ⟨fun i => if h : i < n then ((hel i h).choose, (hel i h).choose_spec.choose) else (0, 0), fun i h => by
        have := (hel i h).choose_spec.choose_spec
        simpa [h] using this⟩
    obtain ⟨f, hfx⟩ := hel'
    refine ⟨some a, n, m, (List.range n).map f, rfl, by simp, fun e => (by cases e), ?_, by omega⟩
    intro hpos
    rw [flat_length] at hpos
    simp at hpos
    obtain ⟨b, off, spot⟩ := a
    have hs : spot = none := by
      have := World.cell?_spot (hfx 0 hpos).1
      simpa [Addr.add] using this
    subst hs
    have hadd : ∀ j, (⟨b, off, none⟩ : Addr).add j = ⟨b, off + j, none⟩ := fun j => by unfold Addr.add; split <;> simp_all
    refine ⟨b, off, rfl, ?_, fun j u hu => ?_⟩
    · have := World.block_lt_of_cell? W _ (hfx 0 hpos).1
      rw [hadd] at this
      exact this
    · have hj : j < 2 * n := by
        have h2 : j < (flat ((List.range n).map f)).length := (List.getElem?_eq_some_iff.1 hu).1
        rw [flat_length] at h2
        simpa using h2
      have hk2 : j / 2 < ((List.range n).map f).length := by simp; omega
      have hcell := hfx (j / 2) (by omega)
      rw [hadd, hadd] at hcell
      rcases Nat.mod_two_eq_zero_or_one j with hm2 | hm2
      · have e : j = 2 * (j / 2) := by omega
        rw [e, flat_lo _ _ hk2] at hu
        have e2 : j / 2 * 2 = j := by omega
        rw [e2] at hcell
        simp at hu
        rw [hcell.1, ← hu]
      · have e : j = 2 * (j / 2) + 1 := by omega
        rw [e, flat_hi _ _ hk2] at hu
        have e2 : j / 2 * 2 + 1 = j := by omega
        rw [e2] at hcell
        simp at hu
        rw [hcell.2, ← hu]

theorem iv_open {e : TypeId} {f0 f1 : Field} {k : TypeId} {base : Nat} {v : Value} {d : DataW H} {p : List MemPlace}
    (he : P.underlying e = some (.struct #[f0, f1])) (hone : oneCellFields P #[f0, f1] = true) (hC : P.cellsOf e = 2) (h0 : f0.type = k) (h1 : f1.type = k) (hk : P.underlying k = some (.int .i64))
    (hv : Value.okWide P W .any base e v) (h : DataW.Trod enc P W 0 (fun _ => true) true e v d p) : ∃ x y : Int, v = .agg #[.int .i64 x, .int .i64 y] := by
  obtain ⟨c0, c1, y0, y1, m, rfl, _, _, hy0, hy1⟩ := Go.Joins.open_agg2 he hone hC hv h
  rw [h0] at hy0
  rw [h1] at hy1
  obtain ⟨a, e0, _, _⟩ := DataW.trod_int hk hy0
  obtain ⟨b, e1, _, _⟩ := DataW.trod_int hk hy1
  simp at e0 e1
  exact ⟨a, b, by rw [e0, e1]⟩
end
end Go.Proofs.Ytofpiedhenephaa.Sp
