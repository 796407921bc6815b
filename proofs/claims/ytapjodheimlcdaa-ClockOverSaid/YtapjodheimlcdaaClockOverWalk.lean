/- ClockOver: whatever numbers, the law returns true. -/
import Derived.Test.YtapjodheimlcdaaClockLaws
namespace Go.Proofs.Ytapjodheimlcdaa.clockOver
open Go.RowKit
theorem walk (w : World) (now : Int) (h0 : (Lit.int .u32 now).wf = true) (t : Int) (h1 : (Lit.int .u32 t).wf = true) (d : Int) (h2 : (Lit.int .u32 d).wf = true) :
    Calls Try.prog 6 #[.int .u32 now, .int .u32 t, .int .u32 d] w fun e w' => e = .returned (.bool true) ∧ Below w.heap.size w w' := by
  have b0 := Go.bounds_u32 h0
  have b1 := Go.bounds_u32 h1
  have b2 := Go.bounds_u32 h2
  exact (clockLaws.over w now t d ⟨b0.1, by omega⟩ ⟨b1.1, by omega⟩ ⟨b2.1, by omega⟩).mono fun e w' ⟨he, hw⟩ => ⟨he, (Reads.of_eq hw).below _⟩
end Go.Proofs.Ytapjodheimlcdaa.clockOver
