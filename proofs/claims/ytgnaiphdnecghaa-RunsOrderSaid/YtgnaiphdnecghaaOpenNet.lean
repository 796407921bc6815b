/- What is handed in, opened: nets and frames. -/
import Derived.Test.YtgnaiphdnecghaaOpen
set_option linter.unusedSimpArgs false
set_option linter.unusedVariables false
set_option maxRecDepth 100000
namespace Go.Proofs.Ytgnaiphdnecghaa.Abs
open Go.RowKit
end Go.Proofs.Ytgnaiphdnecghaa.Abs
