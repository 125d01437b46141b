/- box: BoxPoints, runs. -/
import Derived.Test.YtkejlkjgpeeebaaBxP1a
import Derived.Test.YtkejlkjgpeeebaaBxP1b
import Derived.Test.YtkejlkjgpeeebaaBxP1c
import Derived.Test.YtkejlkjgpeeebaaBxP1d
namespace Go.Proofs.Ytkejlkjgpeeebaa.Ev
open Go.RowKit
set_option maxRecDepth 8000
theorem all_T : ∀ e1 e2 e3 e4 e5 e6 : Bool, allT e1 e2 e3 e4 e5 e6 = true := by
  intro e1 e2 e3 e4 e5 e6
  cases e1 <;> cases e2 <;> cases e3
  · exact all_0 e4 e5 e6
  · exact all_4 e4 e5 e6
  · exact all_2 e4 e5 e6
  · exact all_6 e4 e5 e6
  · exact all_1 e4 e5 e6
  · exact all_5 e4 e5 e6
  · exact all_3 e4 e5 e6
  · exact all_7 e4 e5 e6
end Go.Proofs.Ytkejlkjgpeeebaa.Ev
