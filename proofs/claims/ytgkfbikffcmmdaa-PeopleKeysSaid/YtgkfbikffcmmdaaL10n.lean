/- Rows of principals that are right: each at its name. -/
import Derived.Test.YtgkfbikffcmmdaaQ10
set_option linter.unusedSimpArgs false
set_option linter.unusedVariables false
set_option maxRecDepth 100000
namespace Go.Proofs.Ytgkfbikffcmmdaa.Abs
open Go.RowKit
theorem right_names {l : List Person} (h : rightPl l = true) : l.length ≤ 7 ∧ ∀ (i : Nat) (x : Person), l[i]? = some x → x.name = (i : Int) := by
  unfold rightPl at h
  rw [Bool.and_eq_true, decide_eq_true_eq] at h
  obtain ⟨h1, h2, h3⟩ := h
  refine ⟨by omega, fun i x hx => ?_⟩
  have hi := (List.getElem?_eq_some_iff.1 hx).1
  rw [namesB_iff.1 h1 i x hx]
  exact IntWalk.u32_in _ (by omega)
theorem getPl_at {l : List Person} (h : rightPl l = true) {i : Nat} {x : Person} (hx : l[i]? = some x) : getPl l (i : Int) = (x, true) := by
  have hn := (right_names h).2
  cases hf : l.find? (fun p => p.name == (i : Int)) with
  | none =>
    have := List.find?_eq_none.1 hf x (List.mem_of_getElem? hx)
    rw [hn i x hx] at this
    simp at this
  | some y =>
    have h1 := List.find?_some hf
    obtain ⟨j, hj⟩ := List.mem_iff_getElem?.1 (List.mem_of_find?_eq_some hf)
    have h2 := hn j y hj
    rw [beq_iff_eq] at h1
    have : j = i := by omega
    subst this
    rw [hx] at hj
    cases hj
    unfold getPl; rw [hf]
theorem getPl_no {l : List Person} (h : rightPl l = true) {n : Int} (hn : (l.length : Int) ≤ n ∨ n < 0) : getPl l n = (person0, false) := by
  have : l.find? (fun p => p.name == n) = none := List.find?_eq_none.2 fun x hx => by
    obtain ⟨i, hi⟩ := List.mem_iff_getElem?.1 hx
    have h1 := (right_names h).2 i x hi
    have h2 := (List.getElem?_eq_some_iff.1 hi).1
    rw [beq_iff_eq]
    omega
  unfold getPl; rw [this]
theorem getPl_ok {l : List Person} (h : rightPl l = true) (n : Int) : (getPl l n).2 = decide (0 ≤ n ∧ n < (l.length : Int)) := by
  by_cases hn : 0 ≤ n ∧ n < (l.length : Int)
  · obtain ⟨i, rfl⟩ : ∃ i : Nat, n = i := ⟨n.toNat, by omega⟩
    rw [getPl_at h (List.getElem?_eq_getElem (by omega)), decide_eq_true hn]
  · rw [getPl_no h (by omega), decide_eq_false hn]
end Go.Proofs.Ytgkfbikffcmmdaa.Abs
