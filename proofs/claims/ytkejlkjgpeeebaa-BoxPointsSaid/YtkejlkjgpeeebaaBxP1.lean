/- box: BoxPoints. -/
import Derived.Test.YtkejlkjgpeeebaaBx5
import Derived.Test.YtkejlkjgpeeebaaBxAw
namespace Go.Proofs.Ytkejlkjgpeeebaa.Ev
open Go.RowKit
set_option linter.unusedVariables false
set_option linter.unusedSimpArgs false
set_option maxRecDepth 8000

def llP (e1 e2 e3 e4 e5 e6 h1 h2 h3 h4 h5 h6 ia ib ih : Bool) : List (FuncId × List Value × Value) := [
    (11, [], .bool true),
    (15, [.agg #[sy 0, sy 1, sy 2, sy 3, sy 4, sy 5]], .int .i64 0),
    (15, [.agg #[sy 6, sy 7, sy 8, sy 9, sy 10, sy 11]], .int .i64 0),
    (29, [.agg #[sy 0, sy 1, sy 2, sy 3, sy 4, sy 5], .agg #[sy 6, sy 7, sy 8, sy 9, sy 10, sy 11]], .bool true),
    (56, [.agg #[sy 0, sy 1, sy 2, sy 3, sy 4, sy 5], .agg #[sy 6, sy 7, sy 8, sy 9, sy 10, sy 11]], .agg #[sy 15, sy 16, sy 17, sy 18, sy 19, sy 20]),
    (21, [.agg #[sy 0, sy 1, sy 2, sy 3, sy 4, sy 5], .agg #[sy 6, sy 7, sy 8, sy 9, sy 10, sy 11]], .tuple #[.agg #[sy 21, sy 22, sy 23, sy 24, sy 25, sy 26], .int .i64 0]),
    (20, [.agg #[sy 0, sy 1, sy 2, sy 3, sy 4, sy 5], .agg #[sy 6, sy 7, sy 8, sy 9, sy 10, sy 11]], .tuple #[.agg #[sy 15, sy 16, sy 17, sy 18, sy 19, sy 20], .int .i64 0]),
    (53, [.agg #[sy 0, sy 1, sy 2, sy 3, sy 4, sy 17]], .bool (!e1)),
    (25, [.agg #[sy 0, sy 1, sy 2, sy 3, sy 4, sy 17], .agg #[sy 12, sy 13, sy 14]], .bool h1),
    (53, [.agg #[sy 0, sy 1, sy 20, sy 3, sy 4, sy 5]], .bool (!e2)),
    (25, [.agg #[sy 0, sy 1, sy 20, sy 3, sy 4, sy 5], .agg #[sy 12, sy 13, sy 14]], .bool h2),
    (53, [.agg #[sy 0, sy 1, sy 17, sy 3, sy 16, sy 20]], .bool (!e3)),
    (25, [.agg #[sy 0, sy 1, sy 17, sy 3, sy 16, sy 20], .agg #[sy 12, sy 13, sy 14]], .bool h3),
    (53, [.agg #[sy 0, sy 19, sy 17, sy 3, sy 4, sy 20]], .bool (!e4)),
    (25, [.agg #[sy 0, sy 19, sy 17, sy 3, sy 4, sy 20], .agg #[sy 12, sy 13, sy 14]], .bool h4),
    (53, [.agg #[sy 0, sy 16, sy 17, sy 15, sy 19, sy 20]], .bool (!e5)),
    (25, [.agg #[sy 0, sy 16, sy 17, sy 15, sy 19, sy 20], .agg #[sy 12, sy 13, sy 14]], .bool h5),
    (53, [.agg #[sy 18, sy 16, sy 17, sy 3, sy 19, sy 20]], .bool (!e6)),
    (25, [.agg #[sy 18, sy 16, sy 17, sy 3, sy 19, sy 20], .agg #[sy 12, sy 13, sy 14]], .bool h6),
    (25, [.agg #[sy 0, sy 1, sy 2, sy 3, sy 4, sy 5], .agg #[sy 12, sy 13, sy 14]], .bool ia),
    (25, [.agg #[sy 6, sy 7, sy 8, sy 9, sy 10, sy 11], .agg #[sy 12, sy 13, sy 14]], .bool ib),
    (25, [.agg #[sy 15, sy 16, sy 17, sy 18, sy 19, sy 20], .agg #[sy 12, sy 13, sy 14]], .bool (ia && ib)),
    (25, [.agg #[sy 21, sy 22, sy 23, sy 24, sy 25, sy 26], .agg #[sy 12, sy 13, sy 14]], .bool ih)]
def argP : List Value := [.agg #[sy 0, sy 1, sy 2, sy 3, sy 4, sy 5], .agg #[sy 6, sy 7, sy 8, sy 9, sy 10, sy 11], .agg #[sy 12, sy 13, sy 14]]
noncomputable def tst (e1 e2 e3 e4 e5 e6 h1 h2 h3 h4 h5 h6 ia ib ih : Bool) : Bool := result (evCall Try.prog ⟨[], [], [], [], llP e1 e2 e3 e4 e5 e6 h1 h2 h3 h4 h5 h6 ia ib ih, [], [], [], [], [], [], []⟩ 1000 50 7 argP []) (.bool true) && (argP.all af && af (.bool true))
noncomputable def allT (e1 e2 e3 e4 e5 e6 : Bool) : Bool := tst e1 e2 e3 e4 e5 e6 false false false false false false true true true && (tst e1 e2 e3 e4 e5 e6 false false false false false false false true true && (tst e1 e2 e3 e4 e5 e6 false false false false false false false false true && (tst e1 e2 e3 e4 e5 e6 false false false false false false false false false && ((!e1 || tst e1 e2 e3 e4 e5 e6 true false false false false false true false true) && ((!e2 || tst e1 e2 e3 e4 e5 e6 false true false false false false true false true) && ((!e3 || tst e1 e2 e3 e4 e5 e6 false false true false false false true false true) && ((!e4 || tst e1 e2 e3 e4 e5 e6 false false false true false false true false true) && ((!e5 || tst e1 e2 e3 e4 e5 e6 false false false false true false true false true) && ((!e6 || tst e1 e2 e3 e4 e5 e6 false false false false false true true false true))))))))))
end Go.Proofs.Ytkejlkjgpeeebaa.Ev
