/- Of boxes: what is sealed, and opened. -/
import Derived.Test.YtlmmljjoomgpgaaL07
set_option linter.unusedSimpArgs false
set_option linter.unusedVariables false
namespace Go.Proofs.Ytlmmljjoomgpgaa.Abs
open Go.RowKit
theorem sealB_cases (b : Box) (h k l : Int) (p : List Int) (hp : p.length ≤ 64) : (∃ e, e ≠ 0 ∧ sealB b h k l p = (b, e) ∧ IntKind.i64.wrap e = e ∧ (thereB b.entries h = true ∨ b.room ≤ (b.entries.length : Int)) ∧ (thereB b.entries h = true → e = 8) ∧ (thereB b.entries h = false → e = 10)) ∨
    (thereB b.entries h = false ∧ (b.entries.length : Int) < b.room ∧ sealB b h k l p = (⟨b.room, b.entries ++ [⟨h, k, l, p⟩]⟩, 0)) := by
  have n1 : ¬ (64 < (p.length : Int)) := by omega
  cases ht : thereB b.entries h with
  | true => exact .inl ⟨8, by decide, by simp [sealB, n1, ht], by decide, .inl rfl, fun _ => rfl, fun h => by simp at h⟩
  | false =>
    by_cases hr : b.room ≤ (b.entries.length : Int)
    · exact .inl ⟨10, by decide, by simp [sealB, n1, ht, hr], by decide, .inr hr, fun h => by simp at h, fun _ => rfl⟩
    · exact .inr ⟨rfl, by omega, by simp [sealB, n1, ht, hr]⟩
theorem openP_snoc (r : Int) (es : List Sealed) (s : Sealed) (k l h : Int) : openP ⟨r, es ++ [s]⟩ k l h = if thereB es h = true then openP ⟨r, es⟩ k l h else if s.handle = h then (if s.key = k ∧ s.label = l then (s.plain, true) else ([], false)) else ([], false) := by
  unfold openP
  simp only [List.find?_append]
  cases ht : thereB es h with
  | true =>
    obtain ⟨x, hx, hh⟩ := thereB_iff.1 ht
    rw [if_pos rfl]
    cases hf : es.find? (fun s => s.handle == h) with
    | none => exact absurd (by simp [hh]) (List.find?_eq_none.1 hf x hx)
    | some y => rfl
  | false =>
    have : es.find? (fun s => s.handle == h) = none := List.find?_eq_none.2 fun s hs => by simpa using thereB_no.1 ht s hs
    rw [this, if_neg (by simp)]
    by_cases hh : s.handle = h
    · simp [hh]
    · simp [hh]
theorem right_snoc {r : Int} {es : List Sealed} {s : Sealed} (h : rightB ⟨r, es⟩ = true) (hr : (es.length : Int) < r) (hp : s.plain.length ≤ 64) (ht : thereB es s.handle = false) : rightB ⟨r, es ++ [s]⟩ = true := by
  obtain ⟨h1, h2, h3, h4⟩ := right_room h
  unfold rightB
  rw [Bool.and_eq_true]
  refine ⟨decide_eq_true ⟨h1, h2, by simp only [List.length_append, List.length_singleton]; omega⟩, entriesB_iff.2 fun i x hx => ?_⟩
  simp only at h1 h2 h3 h4 hx ⊢
  by_cases hi : i < es.length
  · rw [List.getElem?_append_left hi] at hx
    rw [List.take_append_of_le_length (by omega)]
    exact h4 i x hx
  · rw [List.getElem?_append_right (by omega)] at hx
    have hi' : i = es.length := by
      rcases Nat.lt_or_ge (i - es.length) 1 with h | h
      · omega
      · rw [List.getElem?_eq_none (by simpa using h)] at hx; simp at hx
    subst hi'
    simp at hx
    subst hx
    rw [List.take_append_of_le_length (Nat.le_refl _), List.take_length]
    exact ⟨by omega, ht⟩
theorem seal_room (b : Box) (h k l : Int) (p : List Int) : (sealB b h k l p).1.room = b.room ∧ (sealB b h k l p).1.entries.length ≤ b.entries.length + 1 := by
  unfold sealB
  split
  · exact ⟨rfl, by simp⟩
  · split
    · exact ⟨rfl, by simp⟩
    · split
      · exact ⟨rfl, by simp⟩
      · exact ⟨rfl, by simp⟩
theorem thereB_snoc (es : List Sealed) (s : Sealed) (h : Int) : thereB (es ++ [s]) h = (thereB es h || s.handle == h) := by
  simp [thereB]
end Go.Proofs.Ytlmmljjoomgpgaa.Abs
