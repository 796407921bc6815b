/- A cut: where ways meet again, the rest is walked once. -/
import Derived.Test.YtgkfbikffcmmdaaAbsE
set_option linter.unusedSimpArgs false
set_option linter.unusedVariables false
set_option maxRecDepth 100000
namespace Go.Proofs.Ytgkfbikffcmmdaa.Abs
open Go.RowKit
theorem AW.cutT {P : Program} {x y : Code} {σ : St} {Q : Exit → St → Prop} (σ2 : St) (rest : AW P y σ2 Q) (h : ∀ K : St → Prop, (∀ σ', Less σ' σ2 → K σ') → AW P x σ (thenQ Q K)) : AW P x σ (thenQ Q fun σ' => AW P y σ' Q) := h _ fun σ' hl => AW.lessW σ2 hl rest
end Go.Proofs.Ytgkfbikffcmmdaa.Abs
