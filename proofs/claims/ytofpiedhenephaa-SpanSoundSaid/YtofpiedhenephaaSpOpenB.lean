/- An argument that is a slice of numbers: what its reading gives. -/
import Derived.Test.YtofpiedhenephaaSpOpen
namespace Go.Proofs.Ytofpiedhenephaa.Sp
open Go.RowKit Go.Lib Go.ChangeShapes Go.WideShapes Go.Deep
set_option linter.unusedVariables false

/-- the cells of a list of numbers -/
def nums (l : List Int) : List Value := l.map (Value.int .i64)

section
variable {H : Type} {enc : TypeId × Value → H} {P : Program} {W : World}
theorem ints_open {t e : TypeId} {base : Nat} {v : Value} {d : DataW H} {p : List MemPlace}
    (ht : P.underlying t = some (.slice e)) (he : P.underlying e = some (.int .i64)) (hC : P.cellsOf e = 1)
    (hv : Value.okWide P W .any base t v) (h : DataW.Trod enc P W 0 (fun _ => true) true t v d p) :
    ∃ A n c l, v = .slice A n c ∧ List.length l = n ∧ Lies W A (nums l) ∧ n ≤ maxLen := by
  obtain ⟨A, n, c, rfl⟩ := okWide_slice ht hv
  obtain ⟨fuel, hf⟩ := h
  rcases open_ints ht he hC hf with ⟨hcs, _⟩ | ⟨a, len, cap, zs, hcs, _, hl, hm, hz, _, hcell, _⟩
  · simp [Value.cells] at hcs
    obtain ⟨rfl, rfl, rfl⟩ := hcs
    exact ⟨none, 0, 0, [], rfl, rfl, Lies.nil_, by omega⟩
  · simp [Value.cells] at hcs
    obtain ⟨rfl, rfl, rfl⟩ := hcs
    simp only [if_true] at hz
    refine ⟨some a, n, c, zs.take n, rfl, by rw [List.length_take]; omega, ?_, by omega⟩
    intro hpos
    have hpos' : 0 < n := by
      simp [nums] at hpos
      omega
    obtain ⟨b, off, spot⟩ := a
    have hs : spot = none := by
      have := World.cell?_spot (hcell 0 (by omega))
      simpa [Addr.add] using this
    subst hs
    have hadd : ∀ j, (⟨b, off, none⟩ : Addr).add j = ⟨b, off + j, none⟩ := fun j => by unfold Addr.add; split <;> simp_all
    refine ⟨b, off, rfl, ?_, fun j u hu => ?_⟩
    · have := World.block_lt_of_cell? W _ (hcell 0 (by omega))
      rw [hadd] at this
      exact this
    · have hj : j < n := by
        have h2 : j < (nums (zs.take n)).length := (List.getElem?_eq_some_iff.1 hu).1
        simp [nums] at h2
        omega
      have hc := hcell j (by omega)
      rw [hadd] at hc
      have hjz : j < zs.length := by omega
      rw [nums, List.getElem?_map, List.getElem?_take_of_lt hj, List.getElem?_eq_getElem hjz] at hu
      simp at hu
      rw [hc, ← hu]
      simp [hjz]
end

theorem Lies.num {w : World} {A : Option Addr} {l : List Int} (h : Lies w A (nums l)) (hl : 0 < l.length) :
    ∃ b o, A = some ⟨b, o, none⟩ ∧ b < w.heap.size ∧ ∀ k (hk : k < l.length), w.cell? ⟨b, o + k, none⟩ = some (.int .i64 l[k]) := by
  obtain ⟨b, o, e, hlt, hc⟩ := h (by simpa [nums] using hl)
  exact ⟨b, o, e, hlt, fun k hk => hc k _ (by rw [nums, List.getElem?_map, List.getElem?_eq_getElem hk]; rfl)⟩
end Go.Proofs.Ytofpiedhenephaa.Sp
