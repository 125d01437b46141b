/- Copies of slices that are only read. -/
import Derived.Test.YtapcooolainmdaaSlL
namespace Go.Proofs.Ytapcooolainmdaa.Ev
open Go.RowKit
set_option linter.unusedVariables false
set_option linter.unusedSimpArgs false
variable {ρ : Env} {P : Program}
/-- the cells of a slice of points lie behind each other -/
def Ct (w : World) (A : Option Addr) (n : Nat) (X Y : Nat → Int) : Prop :=
  0 < n → ∃ a : Addr, A = some a ∧ ∀ i, i < n → ∀ w', Below w.heap.size w w' → w'.cell? (a.add (i * 2)) = some (.int .i64 (X i)) ∧ w'.cell? (a.add (i * 2 + 1)) = some (.int .i64 (Y i))
theorem copyOK {i s n c : Nat} {A : Option Addr} {X Y : Nat → Int} (hv : ρ.val i = .slice A n c) (hl : ρ.lst s = ptL X Y n) (hs : s % 1024 = 2) (hpo : 0 < n) (h64 : n ≤ 64) (hT : Ct ρ.w A n X Y) : OwnOK ρ (.copy (oq i) s) := by
  obtain ⟨a, rfl, hc⟩ := hT hpo
  have e : inst ρ (oq i) = .slice (some a) n c := hv
  refine ⟨rfl, a, n, c, e, hpo, by rw [hl, ptL_len, hs, Nat.mul_comm], by rw [hl, ptL_len]; omega, fun w hw j u hu => ?_⟩
  rw [hl] at hu
  have hj : j < 2 * n := by have := (List.getElem?_eq_some_iff.1 hu).1; rw [ptL_len] at this; exact this
  have hi : j / 2 < n := by omega
  obtain ⟨g1, g2⟩ := ptL_get X Y n (j / 2) hi
  obtain ⟨c1, c2⟩ := hc (j / 2) hi w hw
  rcases Nat.mod_two_eq_zero_or_one j with h | h
  · have ej : j = j / 2 * 2 := by omega
    rw [ej] at hu ⊢
    rw [g1] at hu
    cases hu
    exact c1
  · have ej : j = j / 2 * 2 + 1 := by omega
    rw [ej] at hu ⊢
    rw [g2] at hu
    cases hu
    exact c2
theorem ptL_cut {X Y : Nat → Int} {n i : Nat} (h : i < n) : cut (ptL X Y n) (i * 2) 2 = [.int .i64 (X i), .int .i64 (Y i)] := by
  obtain ⟨g1, g2⟩ := ptL_get X Y n i h
  apply List.ext_getElem?
  intro j
  rw [cut_get]
  match j with
  | 0 => rw [if_pos (by omega)]; exact g1
  | 1 => rw [if_pos (by omega)]; exact g2
  | j + 2 => rw [if_neg (by omega)]; simp
theorem latOK {s k i n : Nat} {X Y : Nat → Int} {rx ry : Int} (hl : ρ.lst s = ptL X Y n) (hs : s % 1024 = 2) (hk : isSym (.ofNat k) = true) (hi : ρ.num (.ofNat k) = (i : Int)) (hin : i < n) (hx : valOf ρ rx = X i) (hy : valOf ρ ry = Y i) : LatE ρ (s, k, [.int .i64 rx, .int .i64 ry]) := by
  refine ⟨i, hk, hi, by show 0 < s % 1024; omega, ?_, rfl, ?_⟩
  · show (i + 1) * (s % 1024) ≤ (ρ.lst s).length
    rw [hl, ptL_len, hs]; omega
  · show cut (ρ.lst s) (i * (s % 1024)) (s % 1024) = _
    rw [hl, hs, ptL_cut hin]
    simp only [List.map_cons, List.map_nil, inst_int, hx, hy]
theorem llenOK {s n : Nat} {X Y : Nat → Int} {r : Int} (hl : ρ.lst s = ptL X Y n) (hs : s % 1024 = 2) (hr : valOf ρ r = n) : LlenE ρ (s, .int .i64 r) :=
  ⟨rfl, n, by show n * (s % 1024) = (ρ.lst s).length; rw [hl, ptL_len, hs, Nat.mul_comm], by rw [inst_int, hr]⟩
end Go.Proofs.Ytapcooolainmdaa.Ev
