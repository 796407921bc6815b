/- The reference's Get of layer msg, its answer by name; numbers in their range. -/
import Derived.Test.YthpcnekidlhfpaaDoorRefE
import Derived.Test.YthpcnekidlhfpaaDoorMsgG
import Derived.OpenShut
namespace Go.Proofs.YthpcnekidlhfpaaDoor
open Go.RowKit

theorem rmget_at (k r a b n x o er : Int) (v : Value) (A : List Int) (w : World) (hv : Ints .u32 w v A) (hr : ∀ x ∈ A, 0 ≤ x ∧ x < 4294967296) (hG : getM A = (⟨k, r, a, b, n, x, o⟩, er)) :
    Calls Tryd.prog 15 #[v] w fun e w' => e = .returned (.tuple #[.agg #[.int .u32 k, .int .u32 r, .int .u32 a, .int .u32 b, .int .u32 n, .int .u32 x, .int .u32 o], .int .i64 er]) ∧ Below w.heap.size w w' := by
  refine (rmget_any v A w hv hr).mono fun e w' ⟨h1, h2⟩ => ⟨?_, h2⟩
  rw [hG] at h1
  exact h1
theorem range32 {A : List Int} (h : ∀ n ∈ A, (Lit.int .u32 n).wf = true) : ∀ x ∈ A, 0 ≤ x ∧ x < 4294967296 := fun x hx => by
  have := Go.bounds_u32 (h x hx); omega
end Go.Proofs.YthpcnekidlhfpaaDoor
