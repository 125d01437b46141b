/- An argument that is a token: what its reading gives. -/
import Derived.Test.YtmoppmpnbkemdaaDoorPlOpen
namespace Go.Proofs.YtmoppmpnbkemdaaDoor.Ev
open Go.RowKit Go.Lib Go.ChangeShapes Go.WideShapes Go.Deep
set_option linter.unusedVariables false
section
variable {P : Program} {W : World}
theorem cell_int {t : TypeId} {r : Reach} {base : Nat} {c : Value} {W : World} (ht : P.underlying t = some (.int .i64)) (h : Cell.okWide P W r base t c) : ∃ x : Int, c = .int .i64 x ∧ IntKind.i64.has x := by
  unfold Cell.okWide at h
  rw [ht] at h
  unfold Cell.ok at h
  rw [ht] at h
  cases c <;> simp_all
theorem cell_str {t : TypeId} {r : Reach} {base : Nat} {c : Value} {W : World} (ht : P.underlying t = some .string) (h : Cell.okWide P W r base t c) : ∃ s : ByteArray, c = .string s ∧ (s.size : Int) ≤ IntKind.i64.max := by
  unfold Cell.okWide at h
  rw [ht] at h
  unfold Cell.ok at h
  rw [ht] at h
  cases c <;> simp_all
theorem tok_open {e k st m : TypeId} {fs : Array Field} {r : Reach} {base : Nat} {v : Value}
    (he : P.underlying e = some (.struct fs)) (hts : P.cellTypes P.depth e = some [k, st, m, k]) (hC : P.cellsOf e = 4) (hk : P.underlying k = some (.int .i64)) (hst : P.underlying st = some .string) (hm : P.underlying m = some (.int .i64))
    (hv : Value.okWide P W r base e v) : ∃ (a : Int) (s : ByteArray) (n p : Int), v = .agg #[.int .i64 a, .string s, .int .i64 n, .int .i64 p] ∧ (IntKind.i64.has a ∧ IntKind.i64.has n ∧ IntKind.i64.has p) ∧ (s.size : Int) ≤ IntKind.i64.max := by
  unfold Value.okWide at hv
  rw [he] at hv
  obtain ⟨cs, rfl, hsz, ts', hts', _, hcell⟩ := hv
  rw [hts] at hts'
  cases hts'
  rw [hC] at hsz
  obtain ⟨l⟩ := cs
  have hl : l.length = 4 := by simpa using hsz
  match l, hl, hcell with
  | [c0, c1, c2, c3], _, hcell =>
    obtain ⟨u0, g0, o0⟩ := hcell 0 c0 (by simp)
    obtain ⟨u1, g1, o1⟩ := hcell 1 c1 (by simp)
    obtain ⟨u2, g2, o2⟩ := hcell 2 c2 (by simp)
    obtain ⟨u3, g3, o3⟩ := hcell 3 c3 (by simp)
    obtain rfl : k = u0 := by simpa using g0
    obtain rfl : st = u1 := by simpa using g1
    obtain rfl : m = u2 := by simpa using g2
    obtain rfl : k = u3 := by simpa using g3
    obtain ⟨a, rfl, ha⟩ := cell_int hk o0
    obtain ⟨s, rfl, hs⟩ := cell_str hst o1
    obtain ⟨n, rfl, hn⟩ := cell_int hm o2
    obtain ⟨p, rfl, hp⟩ := cell_int hk o3
    exact ⟨a, s, n, p, rfl, ⟨ha, hn, hp⟩, hs⟩
end
end Go.Proofs.YtmoppmpnbkemdaaDoor.Ev
