/- The laws of layer box, over values without addresses: BoxMany. -/
import Derived.Test.YtlmmljjoomgpgaaL07m
set_option linter.unusedSimpArgs false
set_option linter.unusedVariables false
namespace Go.Proofs.Ytlmmljjoomgpgaa.Abs
open Go.RowKit
/-- The entry of a number. -/
def entM (keys : List Int) (j : Nat) : Sealed := ⟨((100 + j : Nat) : Int), keys.getD j 0, ((j % 3 : Nat) : Int), [(j : Int)]⟩
/-- So many of them. -/
def rowM (keys : List Int) (n : Nat) : List Sealed := (List.range n).map (entM keys)
theorem rowM_len (keys : List Int) (n : Nat) : (rowM keys n).length = n := by simp [rowM]
theorem rowM_succ (keys : List Int) (n : Nat) : rowM keys (n + 1) = rowM keys n ++ [entM keys n] := by simp [rowM, List.range_succ]
theorem rowM_get {keys : List Int} {n i : Nat} {s : Sealed} (h : (rowM keys n)[i]? = some s) : i < n ∧ s = entM keys i := by
  simp only [rowM, List.getElem?_map, Option.map_eq_some_iff] at h
  obtain ⟨j, hj, rfl⟩ := h
  obtain ⟨h1, h2⟩ := List.getElem?_eq_some_iff.1 hj
  simp at h1 h2
  subst h2
  exact ⟨h1, rfl⟩
theorem rowM_there (keys : List Int) (n j : Nat) (h : n ≤ j) : thereB (rowM keys n) ((100 + j : Nat) : Int) = false := by
  rw [thereB_no]
  intro s hs
  obtain ⟨i, hi⟩ := List.mem_iff_getElem?.1 hs
  obtain ⟨h1, rfl⟩ := rowM_get hi
  simp only [entM]
  omega
theorem rowM_ok (keys : List Int) (n : Nat) : entriesOK (rowM keys n) := by
  intro i x hx
  obtain ⟨h1, rfl⟩ := rowM_get hx
  refine ⟨by simp [entM], ?_⟩
  rw [thereB_no]
  intro s hs
  obtain ⟨j, hj⟩ := List.mem_iff_getElem?.1 hs
  rw [List.getElem?_take] at hj
  split at hj
  · rename_i hji
    obtain ⟨h2, rfl⟩ := rowM_get hj
    simp only [entM]
    omega
  · simp at hj
theorem rowM_mem {keys : List Int} {n i : Nat} (h : i < n) : entM keys i ∈ rowM keys n := by
  simp only [rowM, List.mem_map, List.mem_range]
  exact ⟨i, h, rfl⟩
/-- What is opened of them. -/
theorem openM_in {r : Int} {keys : List Int} {n i : Nat} (h : i < n) : openP ⟨r, rowM keys n⟩ (keys.getD i 0) ((i % 3 : Nat) : Int) ((100 + i : Nat) : Int) = ([(i : Int)], true) := by
  have := openP_some (b := ⟨r, rowM keys n⟩) (k := keys.getD i 0) (l := ((i % 3 : Nat) : Int)) (h := ((100 + i : Nat) : Int)) (rowM_ok keys n) (rowM_mem h) rfl
  rw [this]
  simp [entM]
theorem openM_out {r : Int} {keys : List Int} {n i : Nat} {k l : Int} (h : n ≤ i) : openP ⟨r, rowM keys n⟩ k l ((100 + i : Nat) : Int) = ([], false) := openP_none (rowM_there keys n i h)
theorem openM_any {r : Int} {keys : List Int} {n : Nat} {k l h : Int} : openP ⟨r, rowM keys n⟩ k l h = ([], false) ∨ ∃ i, i < n ∧ h = ((100 + i : Nat) : Int) ∧ keys.getD i 0 = k ∧ ((i % 3 : Nat) : Int) = l ∧ openP ⟨r, rowM keys n⟩ k l h = ([(i : Int)], true) := by
  cases ht : thereB (rowM keys n) h with
  | false => exact .inl (openP_none ht)
  | true =>
    obtain ⟨s, hs, hh⟩ := thereB_iff.1 ht
    obtain ⟨i, hi⟩ := List.mem_iff_getElem?.1 hs
    obtain ⟨h1, rfl⟩ := rowM_get hi
    have := openP_some (b := ⟨r, rowM keys n⟩) (k := k) (l := l) (rowM_ok keys n) hs hh
    by_cases hc : (entM keys i).key = k ∧ (entM keys i).label = l
    · rw [if_pos hc] at this
      exact .inr ⟨i, h1, hh.symm, hc.1, hc.2, this⟩
    · rw [if_neg hc] at this
      exact .inl this
theorem sealM (r : Int) (keys : List Int) (i : Nat) (hr : 0 ≤ r) (hr' : r ≤ 64) :
    (sealB ⟨r, rowM keys (min i r.toNat)⟩ ((100 + i : Nat) : Int) (keys.getD i 0) ((i % 3 : Nat) : Int) [(i : Int)]) = (⟨r, rowM keys (min (i + 1) r.toNat)⟩, if (i : Int) < r then 0 else 10) := by
  have ht := rowM_there keys (min i r.toNat) i (Nat.min_le_left _ _)
  by_cases h : (i : Int) < r
  · rw [show min i r.toNat = i by omega] at ht ⊢
    rw [show min (i + 1) r.toNat = i + 1 by omega, rowM_succ]
    have : ¬ r ≤ (i : Int) := by omega
    unfold sealB
    rw [if_neg (by simp), if_neg (by rw [ht]; simp), if_neg (by rw [rowM_len]; exact this), if_pos h]
    rfl
  · rw [show min i r.toNat = r.toNat by omega] at ht ⊢
    rw [show min (i + 1) r.toNat = r.toNat by omega]
    have : r ≤ ((r.toNat : Nat) : Int) := by omega
    unfold sealB
    rw [if_neg (by simp), if_neg (by rw [ht]; simp), if_pos (by rw [rowM_len]; exact this), if_neg h]
/-- (Stands in XAbsE from round 8 on: strike it here when this is built again.) -/
theorem in64 {x : Int} (h0 : -9223372036854775808 ≤ x) (h1 : x ≤ 9223372036854775807) : (decide (-9223372036854775808 ≤ x) && decide (x ≤ 9223372036854775807)) = true := by
  rw [decide_eq_true h0, decide_eq_true h1]; rfl
theorem wrap32I {x : Int} (h0 : 0 ≤ x) (h1 : x ≤ 4294967295) : IntKind.u32.wrap x = x := IntWalk.u32_in _ (by omega)
end Go.Proofs.Ytlmmljjoomgpgaa.Abs
