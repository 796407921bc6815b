/- Where something is found in a list, by a test. -/
import Derived.Test.YtgggdiincblglaaEnc
set_option linter.unusedSimpArgs false
set_option linter.unusedVariables false
namespace Go.Proofs.Ytgggdiincblglaa.Abs
open Go.RowKit
/-- The place at which it is found, or -1. -/
def idxOf {α : Type} (l : List α) (p : α → Bool) : Int := match l.findIdx? p with
  | some k => (k : Int)
  | none => -1
theorem idxOf_next {α : Type} {l : List α} {p : α → Bool} {k : Nat} {x : α} (ht : ∀ s ∈ l.take k, p s = false) (hx : l[k]? = some x) (hp : p x = false) : ∀ s ∈ l.take (k + 1), p s = false := by
  intro s hs
  rw [List.take_add_one, hx] at hs
  simp only [Option.toList_some, List.mem_append, List.mem_singleton] at hs
  rcases hs with hs | rfl
  · exact ht s hs
  · exact hp
theorem idxOf_some {α : Type} {l : List α} {p : α → Bool} {k : Nat} {x : α} (ht : ∀ s ∈ l.take k, p s = false) (hx : l[k]? = some x) (hp : p x = true) : idxOf l p = (k : Int) := by
  have hk : k < l.length := (List.getElem?_eq_some_iff.1 hx).1
  have : l.findIdx? p = some k := by
    rw [List.findIdx?_eq_some_iff_getElem]
    refine ⟨hk, ?_, fun j hj => ?_⟩
    · rw [List.getElem?_eq_getElem hk] at hx; rw [Option.some.inj hx]; exact hp
    · have : p l[j] = false := ht _ (List.mem_iff_getElem?.2 ⟨j, by rw [List.getElem?_take, if_pos hj, List.getElem?_eq_getElem (by omega)]⟩)
      simp [this]
  simp [idxOf, this]
theorem idxOf_none {α : Type} {l : List α} {p : α → Bool} (ht : ∀ s ∈ l.take l.length, p s = false) : idxOf l p = -1 := by
  have : l.findIdx? p = none := by
    rw [List.findIdx?_eq_none_iff]
    intro x hx
    exact ht x (by rw [List.take_length]; exact hx)
  simp [idxOf, this]
theorem idxOf_ge {α : Type} (l : List α) (p : α → Bool) : decide (0 ≤ idxOf l p) = l.any p := by
  unfold idxOf
  cases h : l.findIdx? p with
  | none =>
    have h := List.findIdx?_eq_none_iff.1 h
    have : l.any p = false := by rw [List.any_eq_false]; intro x hx; rw [h x hx]; simp
    rw [this]; rfl
  | some k =>
    obtain ⟨hk, hp, _⟩ := List.findIdx?_eq_some_iff_getElem.1 h
    have : l.any p = true := List.any_eq_true.2 ⟨l[k], List.getElem_mem hk, hp⟩
    rw [this]; simp
/-- Either it is found nowhere, or at a place, first. -/
theorem idxOf_cases {α : Type} (l : List α) (p : α → Bool) : (idxOf l p = -1 ∧ l.find? p = none) ∨ ∃ (k : Nat) (x : α), idxOf l p = (k : Int) ∧ l[k]? = some x ∧ k < l.length ∧ p x = true ∧ l.find? p = some x := by
  unfold idxOf
  cases h : l.findIdx? p with
  | none =>
    have h := List.findIdx?_eq_none_iff.1 h
    exact .inl ⟨rfl, List.find?_eq_none.2 fun x hx => by rw [h x hx]; simp⟩
  | some k =>
    obtain ⟨hk, hp, hn⟩ := List.findIdx?_eq_some_iff_getElem.1 h
    refine .inr ⟨k, l[k], rfl, List.getElem?_eq_getElem hk, hk, hp, ?_⟩
    rw [List.find?_eq_some_iff_getElem]
    exact ⟨hp, k, hk, rfl, fun j hj => by rw [Bool.not_eq_true']; simpa using hn j hj⟩
end Go.Proofs.Ytgggdiincblglaa.Abs
