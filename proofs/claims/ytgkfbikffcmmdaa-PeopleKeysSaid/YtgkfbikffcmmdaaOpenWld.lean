/- What is handed in, opened: runs, people, events, parts, messages, operations, worlds. -/
import Derived.Test.YtgkfbikffcmmdaaOpenNet
import Derived.Test.YtgkfbikffcmmdaaOpenBox
set_option linter.unusedSimpArgs false
set_option linter.unusedVariables false
set_option maxRecDepth 100000
namespace Go.Proofs.Ytgkfbikffcmmdaa.Abs
open Go.RowKit
theorem openRun : Cod.Opens Try.prog 65 runC :=
  (Cod.Opens.struct Try.underlying65 (by kernel_rfl) (Cod.OpensAt.cons rfl (Cod.Opens.num Try.underlying3 (by kernel_rfl)) (Cod.OpensAt.cons rfl (Cod.Opens.num Try.underlying3 (by kernel_rfl)) (Cod.OpensAt.cons rfl (Cod.Opens.num Try.underlying36 (by kernel_rfl)) (Cod.OpensAt.cons rfl (Cod.Opens.num Try.underlying36 (by kernel_rfl)) (Cod.OpensAt.cons rfl (Cod.Opens.num Try.underlying36 (by kernel_rfl)) (Cod.OpensAt.cons rfl (Cod.Opens.num Try.underlying36 (by kernel_rfl)) (Cod.OpensAt.cons rfl (Cod.Opens.num Try.underlying36 (by kernel_rfl)) (Cod.OpensAt.cons rfl (Cod.Opens.num Try.underlying36 (by kernel_rfl)) (Cod.OpensAt.one rfl (Cod.Opens.num Try.underlying3 (by kernel_rfl)))))))))))).via _ fun a => ⟨⟨a.1, a.2.1, a.2.2.1, a.2.2.2.1, a.2.2.2.2.1, a.2.2.2.2.2.1, a.2.2.2.2.2.2.1, a.2.2.2.2.2.2.2.1, a.2.2.2.2.2.2.2.2⟩, rfl⟩
theorem openDraws : Cod.Opens Try.prog 24 drawsC :=
  (Cod.Opens.struct Try.underlying24 (by kernel_rfl) (Cod.OpensAt.cons rfl openWords (Cod.OpensAt.one rfl (Cod.Opens.num Try.underlying3 (by kernel_rfl))))).via _ fun a => ⟨⟨a.1, a.2⟩, rfl⟩
theorem openPerson : Cod.Opens Try.prog 39 personC :=
  (Cod.Opens.struct Try.underlying39 (by kernel_rfl) (Cod.OpensAt.cons rfl (Cod.Opens.num Try.underlying36 (by kernel_rfl)) (Cod.OpensAt.cons rfl (Cod.Opens.num Try.underlying36 (by kernel_rfl)) (Cod.OpensAt.cons rfl (Cod.Opens.num Try.underlying36 (by kernel_rfl)) (Cod.OpensAt.cons rfl openWords (Cod.OpensAt.cons rfl (Cod.Opens.row (e := 65) Try.underlying37 (by kernel_rfl) openRun (by decide)) (Cod.OpensAt.one rfl (Cod.Opens.flag Try.underlying4 (by kernel_rfl))))))))).via _ fun a => ⟨⟨a.1, a.2.1, a.2.2.1, a.2.2.2.1, a.2.2.2.2.1, a.2.2.2.2.2⟩, rfl⟩
end Go.Proofs.Ytgkfbikffcmmdaa.Abs
