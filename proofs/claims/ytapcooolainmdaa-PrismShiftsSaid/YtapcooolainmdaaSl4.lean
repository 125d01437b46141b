/- Slices of a world that are only read. -/
import Derived.Test.YtapcooolainmdaaSy4
namespace Go.Proofs.Ytapcooolainmdaa.Ev
open Go.RowKit
set_option linter.unusedVariables false
set_option linter.unusedSimpArgs false
variable {ρ : Env} {P : Program}
/-- a slice that the world w holds: element i is the value C i, at the address p i -/
structure Sl (P : Program) (w : World) (v : Value) (n : Nat) (ts te : TypeId) (C : Nat → Value) (p : Nat → Addr) : Prop where
  ix : ∀ i, i < n → ∀ w', (Instr.indexAt ts v (.int .i64 i)).run P w' = .ok (.pointer (some (p i))) w'
  ld : ∀ i, i < n → ∀ w', Below w.heap.size w w' → (Instr.loadAt te (.pointer (some (p i)))).run P w' = .ok (C i) w'
theorem sixOK {v : Value} {n : Nat} {ts te : TypeId} {C : Nat → Value} {p : Nat → Addr} {i j k : Nat} {r : Int} (h : Sl P ρ.w v n ts te C p) (hv : ρ.val i = v) (hr : valOf ρ r = k) (hj : ρ.val j = .pointer (some (p k))) (hk : k < n) : IxaOK ρ P (ts, oq i, .int .i64 r, oq j) := by
  refine ⟨rfl, rfl, rfl, fun w' => ?_⟩
  have e1 : inst ρ (oq i) = v := hv
  have e2 : inst ρ (oq j) = .pointer (some (p k)) := hj
  simp only [e1, e2, inst_int, hr]
  exact h.ix k hk w'
theorem sldOK {v : Value} {n : Nat} {ts te : TypeId} {C : Nat → Value} {p : Nat → Addr} {j k : Nat} {x : Value} (h : Sl P ρ.w v n ts te C p) (hj : ρ.val j = .pointer (some (p k))) (hk : k < n) (ha : af x = true) (hx : inst ρ x = C k) : LdOK ρ P (te, oq j, x) := by
  refine ⟨rfl, ha, fun w' hw => ?_⟩
  have e2 : inst ρ (oq j) = .pointer (some (p k)) := hj
  rw [e2, hx]
  exact h.ld k hk w' hw
theorem Sl.mono {w w' : World} {v : Value} {n : Nat} {ts te : TypeId} {C : Nat → Value} {p : Nat → Addr} (h : Sl P w v n ts te C p) (hw : Below w.heap.size w w') : Sl P w' v n ts te C p :=
  ⟨h.ix, fun i hi w2 h2 => h.ld i hi w2 (hw.trans (h2.mono hw.size))⟩
end Go.Proofs.Ytapcooolainmdaa.Ev
