/- Fields of the elements of slices that are only read. -/
import Derived.Test.YtapcooolainmdaaSl4
import Derived.Test.YtapcooolainmdaaSy5
namespace Go.Proofs.Ytapcooolainmdaa.Ev
open Go.RowKit
set_option linter.unusedVariables false
set_option linter.unusedSimpArgs false
variable {ρ : Env} {P : Program}
/-- the cells of a slice of structs of two integers -/
structure Cl (w : World) (n : Nat) (X Y : Nat → Int) (p : Nat → Addr) : Prop where
  c0 : ∀ i, i < n → ∀ w', Below w.heap.size w w' → w'.cell? ((p i).add 0) = some (.int .i64 (X i))
  c1 : ∀ i, i < n → ∀ w', Below w.heap.size w w' → w'.cell? ((p i).add 1) = some (.int .i64 (Y i))
theorem Cl.mono {w w' : World} {n : Nat} {X Y : Nat → Int} {p : Nat → Addr} (h : Cl w n X Y p) (hw : Below w.heap.size w w') : Cl w' n X Y p :=
  ⟨fun i hi w2 h2 => h.c0 i hi w2 (hw.trans (h2.mono hw.size)), fun i hi w2 h2 => h.c1 i hi w2 (hw.trans (h2.mono hw.size))⟩
/-- what a field of a struct is -/
def fldOf (P : Program) (s : TypeId) (f : Nat) : Option (Nat × Nat) :=
  (P.underlying s).bind fun d => match d with
    | .struct fields => (fields[f]?).bind fun fd => (P.info? fd.type).map fun i => (fd.offset, i.size)
    | _ => none
theorem pfadOK {te : TypeId} {f off sz j k : Nat} {p : Addr} (hf : fldOf P te f = some (off, sz)) (hz : sz ≠ 0) (hj : ρ.val j = .pointer (some p)) (hk : ρ.val k = .pointer (some (p.add off))) : FadOK ρ P (te, oq j, f, oq k) := by
  refine ⟨rfl, rfl, fun w => ?_⟩
  have e1 : inst ρ (oq j) = .pointer (some p) := hj
  have e2 : inst ρ (oq k) = .pointer (some (p.add off)) := hk
  simp only [e1, e2]
  unfold fldOf at hf
  simp only [Option.bind_eq_some_iff] at hf
  obtain ⟨d, h2, h3⟩ := hf
  cases d <;> first | cases h3 | skip
  simp only [Option.bind_eq_some_iff, Option.map_eq_some_iff, Prod.mk.injEq] at h3
  obtain ⟨fd, h4, i, h5, rfl, rfl⟩ := h3
  simp [Instr.fieldAt, run_underlying h2, h4, Instr.sureAddr, fieldPlace, run_sizeOf h5, hz]
theorem cldOK {it : TypeId} {k : Nat} {p : Addr} {r x : Int} (hi : P.underlying it = some (.int .i64)) (hk : ρ.val k = .pointer (some p)) (hr : valOf ρ r = x) (hc : ∀ w', Below ρ.w.heap.size ρ.w w' → w'.cell? p = some (.int .i64 x)) : LdOK ρ P (it, oq k, .int .i64 r) := by
  refine ⟨rfl, rfl, fun w hw => ?_⟩
  have e1 : inst ρ (oq k) = .pointer (some p) := hk
  simp only [e1, inst_int, hr]
  simp only [Instr.loadAt, Instr.sureAddr, loadVar, pure_bind, Sem.run_bind, run_isAgg hi, Result.andThen_ok]
  simp [hc w hw]
end Go.Proofs.Ytapcooolainmdaa.Ev
