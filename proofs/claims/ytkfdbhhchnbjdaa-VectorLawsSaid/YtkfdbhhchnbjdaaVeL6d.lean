/- The walk of VectorLaws. -/
import Derived.Test.YtkfdbhhchnbjdaaVeL6b
import Derived.Test.YtkfdbhhchnbjdaaVeL6c
namespace Go.Proofs.Ytkfdbhhchnbjdaa.Ve
open Go.RowKit Ba
set_option linter.unusedVariables false

theorem lawsLaw_any (ax ay az bx bY bz cx cy cz : Int) (w : World) : Calls Try.prog 8 #[.agg #[.int .i64 ax, .int .i64 ay, .int .i64 az], .agg #[.int .i64 bx, .int .i64 bY, .int .i64 bz], .agg #[.int .i64 cx, .int .i64 cy, .int .i64 cz]] w fun e w' => e = .returned (.bool true) ∧ Below w.heap.size w w' := by

  by_cases h : in3 ax ay az = true ∧ in3 bx bY bz = true
  · rcases hs : in3 (ax + bx) (ay + bY) (az + bz) with _ | _
    · exact laws_far ax ay az bx bY bz cx cy cz h.1 h.2 hs w
    · exact laws_ok ax ay az bx bY bz cx cy cz h.1 h.2 hs w
  · exact laws_out ax ay az bx bY bz cx cy cz h w

end Go.Proofs.Ytkfdbhhchnbjdaa.Ve
