/- What is handed in, opened: runs, people, events, parts, messages, operations, worlds. -/
import Derived.Test.YtgnaiphdnecghaaOpenNet
import Derived.Test.YtgnaiphdnecghaaOpenBox
set_option linter.unusedSimpArgs false
set_option linter.unusedVariables false
set_option maxRecDepth 100000
namespace Go.Proofs.Ytgnaiphdnecghaa.Abs
open Go.RowKit
theorem openRun : Cod.Opens Try.prog 25 runC :=
  (Cod.Opens.struct Try.underlying25 (by kernel_rfl) (Cod.OpensAt.cons rfl (Cod.Opens.num Try.underlying3 (by kernel_rfl)) (Cod.OpensAt.cons rfl (Cod.Opens.num Try.underlying3 (by kernel_rfl)) (Cod.OpensAt.cons rfl (Cod.Opens.num Try.underlying23 (by kernel_rfl)) (Cod.OpensAt.cons rfl (Cod.Opens.num Try.underlying23 (by kernel_rfl)) (Cod.OpensAt.cons rfl (Cod.Opens.num Try.underlying23 (by kernel_rfl)) (Cod.OpensAt.cons rfl (Cod.Opens.num Try.underlying23 (by kernel_rfl)) (Cod.OpensAt.cons rfl (Cod.Opens.num Try.underlying23 (by kernel_rfl)) (Cod.OpensAt.cons rfl (Cod.Opens.num Try.underlying23 (by kernel_rfl)) (Cod.OpensAt.one rfl (Cod.Opens.num Try.underlying3 (by kernel_rfl)))))))))))).via _ fun a => ⟨⟨a.1, a.2.1, a.2.2.1, a.2.2.2.1, a.2.2.2.2.1, a.2.2.2.2.2.1, a.2.2.2.2.2.2.1, a.2.2.2.2.2.2.2.1, a.2.2.2.2.2.2.2.2⟩, rfl⟩
end Go.Proofs.Ytgnaiphdnecghaa.Abs
