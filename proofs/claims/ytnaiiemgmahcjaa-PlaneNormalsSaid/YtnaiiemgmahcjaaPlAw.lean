/- plane: what each law of the layer asks first. -/
import Derived.Test.YtnaiiemgmahcjaaEvS
import Derived.Test.YtnaiiemgmahcjaaProg
namespace Go.Proofs.Ytnaiiemgmahcjaa.Ev
open Go.RowKit
set_option linter.unusedVariables false
set_option maxRecDepth 4000
theorem no_memo {ρ : Int → Int} {P : Program} : ∀ e ∈ ([] : List (FuncId × List Value × Heap × Value × Heap)), MemoE ρ P e := fun e q => (by cases q)
theorem awake_test : (result (evCall Try.prog ⟨[], [], [], [], [], []⟩ 1000 50 12 [] []) (.bool true) && (([] : List Value).all af && af (.bool true))) = true := by decide +kernel
theorem awake_any (w : World) : Calls Try.prog 12 #[] w fun e w' => e = .returned (.bool true) ∧ Below w.heap.size w w' :=
  run_memo (ρ := id) (lm := []) (ll := []) no_memo (fun e q => (by cases q)) 1000 50 12 [] (.bool true) awake_test rfl rfl w
end Go.Proofs.Ytnaiiemgmahcjaa.Ev
