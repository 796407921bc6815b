/- ClockAdds: whatever numbers, the law returns true. -/
import Derived.Test.YtapjodheimlcdaaClockLaws
namespace Go.Proofs.Ytapjodheimlcdaa.clockAdds
open Go.RowKit
theorem walk (w : World) (now : Int) (h0 : (Lit.int .u32 now).wf = true) (a : Int) (h1 : (Lit.int .u32 a).wf = true) (b : Int) (h2 : (Lit.int .u32 b).wf = true) :
    Calls Try.prog 5 #[.int .u32 now, .int .u32 a, .int .u32 b] w fun e w' => e = .returned (.bool true) ∧ Below w.heap.size w w' := by
  have b0 := Go.bounds_u32 h0
  have b1 := Go.bounds_u32 h1
  have b2 := Go.bounds_u32 h2
  exact (clockLaws.adds w now a b ⟨b0.1, by omega⟩ ⟨b1.1, by omega⟩ ⟨b2.1, by omega⟩).mono fun e w' ⟨he, hw⟩ => ⟨he, (Reads.of_eq hw).below _⟩
end Go.Proofs.Ytapjodheimlcdaa.clockAdds
