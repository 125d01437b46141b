/- box: BoxPoints, runs. -/
import Derived.Test.YtkejlkjgpeeebaaBxP1
namespace Go.Proofs.Ytkejlkjgpeeebaa.Ev
open Go.RowKit
set_option maxRecDepth 8000
theorem all_4 : ∀ e4 e5 e6 : Bool, allT false false true e4 e5 e6 = true := by decide +kernel
theorem all_5 : ∀ e4 e5 e6 : Bool, allT true false true e4 e5 e6 = true := by decide +kernel
end Go.Proofs.Ytkejlkjgpeeebaa.Ev
