/- DrawKeeps: whatever source and number, the law returns true. -/
import Derived.Test.YtfejpomemkfmpaaDrawKeeps
namespace Go.Proofs.Ytfejpomemkfmpaa.drawKeeps
open Go.RowKit
theorem walk (w : World) (v : Value) (L : List Int) (h : Ints .u32 w v L) (hL : ∀ n ∈ L, (Lit.int .u32 n).wf = true) (nx : Int) (_ : (Lit.int .i64 nx).wf = true) (n : Int) (hn : (Lit.int .u8 n).wf = true) :
    Calls Try.prog 6 #[.agg #[v, .int .i64 nx], .int .u8 n] w fun e w' => e = .returned (.bool true) ∧ Below w.heap.size w w' := by
  have hr : ∀ x ∈ L, 0 ≤ x ∧ x < 4294967296 := fun x hx => by have := Go.bounds_u32 (hL x hx); omega
  have hb := Go.bounds_u8 hn
  cases hf : drawLaws.fitsB nx L.length with
  | false => exact drawLaws.keeps_not v L nx n w h hf
  | true =>
    have hnx : 0 ≤ nx := by simp [drawLaws.fitsB] at hf; omega
    obtain ⟨k, rfl⟩ := Int.eq_ofNat_of_zero_le hnx
    obtain ⟨m, rfl⟩ := Int.eq_ofNat_of_zero_le hb.1
    exact drawLaws.keeps v L k m w h hr (by omega) hf
end Go.Proofs.Ytfejpomemkfmpaa.drawKeeps
