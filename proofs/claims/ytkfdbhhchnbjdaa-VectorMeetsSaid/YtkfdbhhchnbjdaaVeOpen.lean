/- An argument that is a vector or a point: what its reading gives. -/
import Derived.Test.YtkfdbhhchnbjdaaBase
import Derived.Test.YtkfdbhhchnbjdaaRows
import Derived.Deep.Slices
import Derived.Deep.Fields
import Derived.ChangeSame
import Derived.OpenShut
import Derived.ShutString
import Derived.ChangeOld
import Derived.Lib.SmallJoins
namespace Go.Proofs.Ytkfdbhhchnbjdaa.Ve
open Go.RowKit Go.Lib Go.ChangeShapes Go.WideShapes Go.Deep
set_option linter.unusedVariables false

section
variable {H : Type} {enc : TypeId × Value → H} {P : Program} {W : World}
theorem pt_open {e : TypeId} {f0 f1 : Field} {k : TypeId} {base : Nat} {v : Value} {d : DataW H} {p : List MemPlace}
    (he : P.underlying e = some (.struct #[f0, f1])) (hone : oneCellFields P #[f0, f1] = true) (hC : P.cellsOf e = 2) (h0 : f0.type = k) (h1 : f1.type = k) (hk : P.underlying k = some (.int .i64))
    (hv : Value.okWide P W .any base e v) (h : DataW.Trod enc P W 0 (fun _ => true) true e v d p) : ∃ x y : Int, v = .agg #[.int .i64 x, .int .i64 y] := by
  obtain ⟨c0, c1, y0, y1, m, rfl, _, _, hy0, hy1⟩ := Go.Joins.open_agg2 he hone hC hv h
  rw [h0] at hy0
  rw [h1] at hy1
  obtain ⟨a, e0, _, _⟩ := DataW.trod_int hk hy0
  obtain ⟨b, e1, _, _⟩ := DataW.trod_int hk hy1
  simp at e0 e1
  exact ⟨a, b, by rw [e0, e1]⟩
theorem vec_open {e : TypeId} {f0 f1 f2 : Field} {k : TypeId} {base : Nat} {v : Value} {d : DataW H} {p : List MemPlace}
    (he : P.underlying e = some (.struct #[f0, f1, f2])) (hone : oneCellFields P #[f0, f1, f2] = true) (hC : P.cellsOf e = 3) (h0 : f0.type = k) (h1 : f1.type = k) (h2 : f2.type = k) (hk : P.underlying k = some (.int .i64))
    (hv : Value.okWide P W .any base e v) (h : DataW.Trod enc P W 0 (fun _ => true) true e v d p) : ∃ x y z : Int, v = .agg #[.int .i64 x, .int .i64 y, .int .i64 z] := by
  obtain ⟨c0, c1, c2, y0, y1, y2, m, rfl, _, _, hy0, hy1, hy2⟩ := Go.Joins.open_agg3 he hone hC hv h
  rw [h0] at hy0
  rw [h1] at hy1
  rw [h2] at hy2
  obtain ⟨a, e0, _, _⟩ := DataW.trod_int hk hy0
  obtain ⟨b, e1, _, _⟩ := DataW.trod_int hk hy1
  obtain ⟨c, e2, _, _⟩ := DataW.trod_int hk hy2
  simp at e0 e1 e2
  exact ⟨a, b, c, by rw [e0, e1, e2]⟩
end
end Go.Proofs.Ytkfdbhhchnbjdaa.Ve
