/- DrawOnce: whatever list and numbers, the law returns true. -/
import Derived.Test.YtfejpomemkfmpaaDrawOnceMain
namespace Go.Proofs.Ytfejpomemkfmpaa.drawOnce
open Go.RowKit
theorem walk (w : World) (v : Value) (L : List Int) (h : Ints .u32 w v L) (hL : ∀ n ∈ L, (Lit.int .u32 n).wf = true) (s : Int) (hs : (Lit.int .u8 s).wf = true) (n : Int) (hn : (Lit.int .u8 n).wf = true) :
    Calls Try.prog 5 #[v, .int .u8 s, .int .u8 n] w fun e w' => e = .returned (.bool true) ∧ Below w.heap.size w w' := by
  have hr : ∀ x ∈ L, 0 ≤ x ∧ x < 4294967296 := fun x hx => by have := Go.bounds_u32 (hL x hx); omega
  have b1 := Go.bounds_u8 hs
  have b2 := Go.bounds_u8 hn
  obtain ⟨k, rfl⟩ := Int.eq_ofNat_of_zero_le b1.1
  obtain ⟨m, rfl⟩ := Int.eq_ofNat_of_zero_le b2.1
  by_cases hl : L.length ≤ 100
  · exact drawLaws.once v L k m w h hr (by omega) (by omega) hl
  · obtain ⟨a, c, rfl⟩ := h.form
    exact drawLaws.once_long w a _ c _ _ (by omega)
end Go.Proofs.Ytfejpomemkfmpaa.drawOnce
