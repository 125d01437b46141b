/- polygon: what each law of the layer asks first, run through once. -/
import Derived.Test.YtehgnkgcimdgjaaSyA
import Derived.Test.YtehgnkgcimdgjaaProg
namespace Go.Proofs.Ytehgnkgcimdgjaa.Ev
open Go.RowKit
set_option linter.unusedVariables false
set_option maxRecDepth 4000
def zz (n : Int) : Value := .int .i64 n
def sqH : Heap := [some ⟨[zz 0, zz 0, zz 10, zz 0, zz 10, zz 10, zz 0, zz 10], 31⟩]
def sqV : Value := .slice (some ⟨0, 0, none⟩) 4 4
def h5H : Heap := [some ⟨[zz 0, zz 0, zz 4, zz 0, zz 2, zz 0, zz 2, zz 1, zz 2, zz 5], 31⟩]
def h5V : Value := .slice (some ⟨0, 0, none⟩) 5 5
def m1 : FuncId × List Value × Heap × Value × Heap := (26, [sqV], sqH, .tuple #[.bool true, zz 0], sqH)
def m2 : FuncId × List Value × Heap × Value × Heap := (31, [sqV, .agg #[zz 5, zz 5]], sqH, .tuple #[zz 1, zz 0], sqH)
def m3 : FuncId × List Value × Heap × Value × Heap := (33, [h5V], h5H, .tuple #[.slice (some ⟨1, 0, none⟩) 3 3, zz 0],
  h5H ++ [some ⟨[zz 0, zz 0, zz 4, zz 0, zz 2, zz 5], 31⟩])
theorem m1_test : result2 (evCall Try.prog {} 1000 60 m1.1 m1.2.1 m1.2.2.1) m1.2.2.2.1 m1.2.2.2.2 = true := by decide +kernel
theorem m2_test : result2 (evCall Try.prog {} 1000 60 m2.1 m2.2.1 m2.2.2.1) m2.2.2.2.1 m2.2.2.2.2 = true := by decide +kernel
theorem m3_test : result2 (evCall Try.prog {} 1000 60 m3.1 m3.2.1 m3.2.2.1) m3.2.2.2.1 m3.2.2.2.2 = true := by decide +kernel
theorem no_memo {ρ : Env} {P : Program} : ∀ e ∈ ([] : List (FuncId × List Value × Heap × Value × Heap)), MemoE ρ P e := fun e q => (by cases q)
theorem m1_ok (ρ : Env) : MemoE ρ Try.prog m1 := memo_of no_memo 1000 60 m1.1 m1.2.1 m1.2.2.1 m1.2.2.2.1 m1.2.2.2.2 m1_test
theorem m2_ok (ρ : Env) : MemoE ρ Try.prog m2 := memo_of no_memo 1000 60 m2.1 m2.2.1 m2.2.2.1 m2.2.2.2.1 m2.2.2.2.2 m2_test
theorem m3_ok (ρ : Env) : MemoE ρ Try.prog m3 := memo_of no_memo 1000 60 m3.1 m3.2.1 m3.2.2.1 m3.2.2.2.1 m3.2.2.2.2 m3_test
theorem awake_test : (result (evCall Try.prog { memo := [m1, m2, m3] } 1000 60 11 [] []) (.bool true) && (([] : List Value).all af && af (.bool true))) = true := by decide +kernel
theorem awake_any (w : World) : Calls Try.prog 11 #[] w fun e w' => e = .returned (.bool true) ∧ Below w.heap.size w w' :=
  run_memo (ρ := env [] [] w) (lm := [m1, m2, m3]) (ll := []) (fun e q => by
    rcases List.mem_cons.1 q with rfl | q
    · exact m1_ok _
    · rcases List.mem_cons.1 q with rfl | q
      · exact m2_ok _
      · rcases List.mem_cons.1 q with rfl | q
        · exact m3_ok _
        · cases q) (fun e q => (by cases q)) 1000 60 11 [] (.bool true) awake_test rfl rfl w (Below.refl _ _)
end Go.Proofs.Ytehgnkgcimdgjaa.Ev
