/- box: what each law of the layer asks first, run through once. -/
import Derived.Test.YtkejlkjgpeeebaaEvS
import Derived.Test.YtkejlkjgpeeebaaProg
namespace Go.Proofs.Ytkejlkjgpeeebaa.Ev
open Go.RowKit
set_option linter.unusedVariables false
set_option maxRecDepth 4000
def zz (n : Int) : Value := .int .i64 n
def m1 : FuncId × List Value × Heap × Value × Heap :=
  (39, [.slice (some ⟨0, 0, none⟩) 3 3], [some ⟨[zz 0, zz 0, zz 0, zz 4, zz 4, zz 4, zz 2, zz 2, zz 2, zz 6, zz 6, zz 6, zz 0, zz 0, zz 0, zz 1, zz 1, zz 1], 25⟩], .tuple #[zz 120, zz 0],
    [some ⟨[zz 0, zz 0, zz 0, zz 4, zz 4, zz 4, zz 2, zz 2, zz 2, zz 6, zz 6, zz 6, zz 0, zz 0, zz 0, zz 1, zz 1, zz 1], 25⟩])
def m2 : FuncId × List Value × Heap × Value × Heap :=
  (41, [.agg #[zz 0, zz 0, zz 0, zz 4, zz 4, zz 4], .slice (some ⟨0, 0, none⟩) 2 2], [some ⟨[zz 0, zz 0, zz 0, zz 4, zz 4, zz 1, zz 0, zz 0, zz 1, zz 3, zz 4, zz 4], 25⟩], .tuple #[.agg #[zz 3, zz 0, zz 1], zz 0],
    [some ⟨[zz 0, zz 0, zz 0, zz 4, zz 4, zz 1, zz 0, zz 0, zz 1, zz 3, zz 4, zz 4], 25⟩])
theorem m1_test : result2 (evCall Try.prog {} 1000 50 m1.1 m1.2.1 m1.2.2.1) m1.2.2.2.1 m1.2.2.2.2 = true := by decide +kernel
theorem m2_test : result2 (evCall Try.prog {} 1000 50 m2.1 m2.2.1 m2.2.2.1) m2.2.2.2.1 m2.2.2.2.2 = true := by decide +kernel
theorem no_memo {ρ : Env} {P : Program} : ∀ e ∈ ([] : List (FuncId × List Value × Heap × Value × Heap)), MemoE ρ P e := fun e q => (by cases q)
theorem m1_ok (ρ : Env) : MemoE ρ Try.prog m1 := memo_of no_memo 1000 50 m1.1 m1.2.1 m1.2.2.1 m1.2.2.2.1 m1.2.2.2.2 m1_test
theorem m2_ok (ρ : Env) : MemoE ρ Try.prog m2 := memo_of no_memo 1000 50 m2.1 m2.2.1 m2.2.2.1 m2.2.2.2.1 m2.2.2.2.2 m2_test
theorem awake_test : (result (evCall Try.prog { memo := [m1, m2] } 1000 50 11 [] []) (.bool true) && (([] : List Value).all af && af (.bool true))) = true := by decide +kernel
theorem awake_any (w : World) : Calls Try.prog 11 #[] w fun e w' => e = .returned (.bool true) ∧ Below w.heap.size w w' :=
  run_memo (ρ := env [] [] w) (lm := [m1, m2]) (ll := []) (fun e q => by
    rcases List.mem_cons.1 q with rfl | q
    · exact m1_ok _
    · rcases List.mem_cons.1 q with rfl | q
      · exact m2_ok _
      · cases q) (fun e q => (by cases q)) 1000 50 11 [] (.bool true) awake_test rfl rfl w (Below.refl _ _)
end Go.Proofs.Ytkejlkjgpeeebaa.Ev
