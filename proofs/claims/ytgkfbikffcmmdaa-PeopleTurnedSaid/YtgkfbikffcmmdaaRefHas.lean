/- Is a word in a row? The contract of the reference's Has. -/
import Derived.Test.YtgkfbikffcmmdaaSame
namespace Go.Proofs.Ytgkfbikffcmmdaa
open Go.RowKit

/-- Words: is it a draw's, and it as one. -/
def drawN (n : Int) : Int := if n < 2147483648 then n + 2147483648 else n
def isDrawB (n : Int) : Bool := decide (2147483648 ≤ n)
def hasB (A : List Int) (x : Int) : Bool := decide (x ∈ A)
theorem hasB_found {A : List Int} {x : Int} {k : Nat} (hk : k < A.length) (h : (A[k] == x) = true) : true = hasB A x := by
  unfold hasB; symm; apply decide_eq_true
  have := beq_iff_eq.1 h
  exact this ▸ List.getElem_mem hk
theorem has_next {A : List Int} {x : Int} {k : Nat} (H : ∀ j, j < k → A.getD j 0 ≠ x) (hk : k < A.length) (h : (A[k] == x) = false) : ∀ j, j < k + 1 → A.getD j 0 ≠ x := by
  intro j hj
  rcases Nat.lt_succ_iff_lt_or_eq.1 hj with h1 | h1
  · exact H j h1
  · subst h1; simpa [hk] using h
theorem hasB_not {A : List Int} {x : Int} (H : ∀ j, j < A.length → A.getD j 0 ≠ x) : false = hasB A x := by
  unfold hasB; symm; apply decide_eq_false
  intro h
  obtain ⟨i, hi, e⟩ := List.getElem_of_mem h
  exact H i hi (by simp [hi, e])

end Go.Proofs.Ytgkfbikffcmmdaa
