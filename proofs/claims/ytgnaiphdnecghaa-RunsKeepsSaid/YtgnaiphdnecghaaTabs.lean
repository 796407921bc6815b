/- What the package's tables hold, by their numbers. -/
import Derived.Test.YtgnaiphdnecghaaRows
namespace Go.Proofs.Ytgnaiphdnecghaa.Abs
open Go
def tabsV : Nat → Option (List Value)
  | _ => none
end Go.Proofs.Ytgnaiphdnecghaa.Abs
