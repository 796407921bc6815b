/- What is handed in, opened: nets and frames. -/
import Derived.Test.YtgkfbikffcmmdaaOpen
set_option linter.unusedSimpArgs false
set_option linter.unusedVariables false
set_option maxRecDepth 100000
namespace Go.Proofs.Ytgkfbikffcmmdaa.Abs
open Go.RowKit
end Go.Proofs.Ytgkfbikffcmmdaa.Abs
