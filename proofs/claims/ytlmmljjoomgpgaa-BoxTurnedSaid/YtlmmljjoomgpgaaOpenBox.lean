/- What is handed in, opened: boxes and their entries. -/
import Derived.Test.YtlmmljjoomgpgaaOpen
set_option linter.unusedSimpArgs false
set_option linter.unusedVariables false
namespace Go.Proofs.Ytlmmljjoomgpgaa.Abs
open Go.RowKit
theorem openSealed : Cod.Opens Try.prog 43 sealedC :=
  (Cod.Opens.struct Try.underlying43 (by kernel_rfl) (Cod.OpensAt.cons rfl (Cod.Opens.num Try.underlying25 (by kernel_rfl))
    (Cod.OpensAt.cons rfl (Cod.Opens.num Try.underlying25 (by kernel_rfl)) (Cod.OpensAt.cons rfl (Cod.Opens.num Try.underlying25 (by kernel_rfl)) (Cod.OpensAt.one rfl openWords))))).via _ fun a => ⟨⟨a.1, a.2.1, a.2.2.1, a.2.2.2⟩, rfl⟩
theorem openBox : Cod.Opens Try.prog 24 boxC :=
  (Cod.Opens.struct Try.underlying24 (by kernel_rfl) (Cod.OpensAt.cons rfl (Cod.Opens.num Try.underlying3 (by kernel_rfl))
    (Cod.OpensAt.one rfl (Cod.Opens.row (e := 43) Try.underlying22 (by kernel_rfl) openSealed (by decide))))).via _ fun a => ⟨⟨a.1, a.2⟩, rfl⟩
end Go.Proofs.Ytlmmljjoomgpgaa.Abs
