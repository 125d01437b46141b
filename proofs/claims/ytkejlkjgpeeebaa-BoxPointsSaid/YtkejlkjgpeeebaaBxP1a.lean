/- box: BoxPoints, runs. -/
import Derived.Test.YtkejlkjgpeeebaaBxP1
namespace Go.Proofs.Ytkejlkjgpeeebaa.Ev
open Go.RowKit
set_option maxRecDepth 8000
theorem all_0 : ∀ e4 e5 e6 : Bool, allT false false false e4 e5 e6 = true := by decide +kernel
theorem all_1 : ∀ e4 e5 e6 : Bool, allT true false false e4 e5 e6 = true := by decide +kernel
end Go.Proofs.Ytkejlkjgpeeebaa.Ev
