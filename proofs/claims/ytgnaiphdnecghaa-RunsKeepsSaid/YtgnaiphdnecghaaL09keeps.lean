/- The laws of layer runs, over values without addresses: RunsKeeps, whatever comes. -/
import Derived.Test.YtgnaiphdnecghaaL09keepsA
import Derived.Test.YtgnaiphdnecghaaL09keepsB
import Derived.Test.YtgnaiphdnecghaaL09keepsC
import Derived.Test.YtgnaiphdnecghaaL09keepsD
namespace Go.Proofs.Ytgnaiphdnecghaa.Abs
open Go.RowKit
theorem l09_keeps (l : List Run) (r : Run) (i : Int) : ACalls Try.prog 5 [.one (eRuns l), .agg (eRun r), .one (i64 i)] (rB true) := by
  by_cases ha : (addR l 70 r).2 = 0
  · by_cases hs : (setR l i r).2 = 0
    · exact l09_keepsA l r i ha hs
    · exact l09_keepsB l r i ha hs
  · by_cases hs : (setR l i r).2 = 0
    · exact l09_keepsC l r i ha hs
    · exact l09_keepsD l r i ha hs
end Go.Proofs.Ytgnaiphdnecghaa.Abs
