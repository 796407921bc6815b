/- Structs of numbers, held against one another: what is asked of their cells. -/
import Derived.Test.YtgkfbikffcmmdaaEnc
import Derived.Test.YtgkfbikffcmmdaaTypes
import Derived.Test.YtgkfbikffcmmdaaProg
set_option linter.unusedSimpArgs false
set_option linter.unusedVariables false
set_option maxRecDepth 100000
namespace Go.Proofs.Ytgkfbikffcmmdaa.Abs
open Go.RowKit
theorem rB_eq {a b : Bool} (h : a = true ↔ b = true) : RV.one (CA.one (CV.v (Value.bool a))) = rB b := by
  have : a = b := by cases a <;> cases b <;> simp at h <;> rfl
  rw [this]
theorem sh_int {us : List Value} {k : IntKind} {l : List (Option (Option IntKind))} (h : us.map shV = some (some k) :: l) : ∃ a t, us = .int k a :: t ∧ t.map shV = l := by
  cases us with
  | nil => simp at h
  | cons x t =>
    simp only [List.map_cons, List.cons.injEq] at h
    obtain ⟨h1, h2⟩ := h
    cases x <;> simp [shV] at h1
    subst h1
    exact ⟨_, t, rfl, h2⟩
theorem sh_nil {us : List Value} (h : us.map shV = []) : us = [] := by simpa using h
end Go.Proofs.Ytgkfbikffcmmdaa.Abs
