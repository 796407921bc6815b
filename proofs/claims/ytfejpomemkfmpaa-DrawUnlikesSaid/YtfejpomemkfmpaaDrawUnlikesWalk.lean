/- DrawUnlikes: whatever words, the law returns true. -/
import Derived.Test.YtfejpomemkfmpaaDrawUnlikes
namespace Go.Proofs.Ytfejpomemkfmpaa.drawUnlikes
open Go.RowKit
theorem walk (w : World) (v : Value) (L : List Int) (h : Ints .u32 w v L) (_ : ∀ n ∈ L, (Lit.int .u32 n).wf = true) :
    Calls Try.prog 4 #[v] w fun e w' => e = .returned (.bool true) ∧ Below w.heap.size w w' := by
  by_cases hn : L.length ≤ 200
  · exact drawLaws.unlikes w v L h hn
  · obtain ⟨a, c, rfl⟩ := h.form
    exact drawLaws.unlikes_long w a _ c (by omega)
end Go.Proofs.Ytfejpomemkfmpaa.drawUnlikes
