/- What the package's tables hold, by their numbers. -/
import Derived.Test.YtgkfbikffcmmdaaRows
namespace Go.Proofs.Ytgkfbikffcmmdaa.Abs
open Go
def tabsV : Nat → Option (List Value)
  | _ => none
end Go.Proofs.Ytgkfbikffcmmdaa.Abs
