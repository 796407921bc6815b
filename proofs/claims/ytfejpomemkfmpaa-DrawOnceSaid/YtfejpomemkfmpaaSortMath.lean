/- Plain words on rows that are turned about: no program in it. -/
import Derived.Test.YtfejpomemkfmpaaBase
namespace Go.Proofs.Ytfejpomemkfmpaa
def at0 (D : List Int) (k : Nat) : Int := D.getD k 0
def swapped (D : List Int) (i j : Nat) : List Int := (D.set i (at0 D j)).set j (at0 D i)
theorem swapped_len (D : List Int) (i j : Nat) : (swapped D i j).length = D.length := by simp [swapped]
theorem at0_swapped (D : List Int) {i j : Nat} (hi : i < D.length) (hj : j < D.length) (k : Nat) : at0 (swapped D i j) k = if k = j then at0 D i else if k = i then at0 D j else at0 D k := by
  unfold swapped
  by_cases h1 : k = j
  · subst h1; rw [if_pos rfl]; unfold at0; simp [hj]
  · rw [if_neg h1]
    by_cases h2 : k = i
    · subst h2; rw [if_pos rfl]; unfold at0; simp [List.getD_eq_getElem?_getD, Ne.symm h1, hi]
    · rw [if_neg h2]; unfold at0; simp [List.getD_eq_getElem?_getD, Ne.symm h1, Ne.symm h2]
theorem swapped_perm (D : List Int) {i j : Nat} (hi : i < D.length) (hj : j < D.length) : (swapped D i j).Perm D := by
  have := List.set_set_perm hi hj
  unfold swapped at0
  simpa [List.getD_eq_getElem?_getD, hi, hj] using this
/-- From D to E what stands from a on, ahead of b, is turned about; all else stays. -/
structure Turn (a b : Nat) (D E : List Int) : Prop where
  len : E.length = D.length
  perm : E.Perm D
  out : ∀ k, k < a ∨ b ≤ k → at0 E k = at0 D k
  src : ∀ k, a ≤ k → k < b → ∃ l, a ≤ l ∧ l < b ∧ at0 E k = at0 D l
theorem Turn.refl (a b : Nat) (D : List Int) : Turn a b D D := ⟨rfl, List.Perm.refl _, fun _ _ => rfl, fun k h1 h2 => ⟨k, h1, h2, rfl⟩⟩
theorem Turn.trans {a b : Nat} {D E F : List Int} (h : Turn a b D E) (k : Turn a b E F) : Turn a b D F :=
  ⟨k.len.trans h.len, k.perm.trans h.perm, fun i hi => (k.out i hi).trans (h.out i hi), fun i h1 h2 => by
    obtain ⟨l, l1, l2, e⟩ := k.src i h1 h2
    obtain ⟨m, m1, m2, e'⟩ := h.src l l1 l2
    exact ⟨m, m1, m2, e.trans e'⟩⟩
theorem Turn.mono {a b a' b' : Nat} {D E : List Int} (h : Turn a b D E) (ha : a' ≤ a) (hb : b ≤ b') : Turn a' b' D E :=
  ⟨h.len, h.perm, fun i hi => h.out i (by omega), fun i h1 h2 => by
    by_cases hin : a ≤ i ∧ i < b
    · obtain ⟨l, l1, l2, e⟩ := h.src i hin.1 hin.2
      exact ⟨l, by omega, by omega, e⟩
    · exact ⟨i, h1, h2, h.out i (by omega)⟩⟩
theorem Turn.swap {a b : Nat} (D : List Int) {i j : Nat} (hb : b ≤ D.length) (hi : a ≤ i ∧ i < b) (hj : a ≤ j ∧ j < b) : Turn a b D (swapped D i j) :=
  ⟨swapped_len _ _ _, swapped_perm _ (by omega) (by omega), fun k hk => by rw [at0_swapped D (by omega) (by omega), if_neg (by omega), if_neg (by omega)], fun k h1 h2 => by
    rw [at0_swapped D (by omega) (by omega)]
    by_cases e1 : k = j
    · exact ⟨i, hi.1, hi.2, by rw [if_pos e1]⟩
    · by_cases e2 : k = i
      · exact ⟨j, hj.1, hj.2, by rw [if_neg e1, if_pos e2]⟩
      · exact ⟨k, h1, h2, by rw [if_neg e1, if_neg e2]⟩⟩
/-- Ascending from a on, ahead of b. -/
def Asc (D : List Int) (a b : Nat) : Prop := ∀ i j, a ≤ i → i ≤ j → j < b → at0 D i ≤ at0 D j
theorem Asc.short (D : List Int) (a b : Nat) (h : b ≤ a + 1) : Asc D a b := fun i j h1 h2 h3 => by
  obtain rfl : i = j := by omega
  exact Int.le_refl _
theorem Asc.mono {D : List Int} {a b a' b' : Nat} (h : Asc D a b) (ha : a ≤ a') (hb : b' ≤ b) : Asc D a' b' := fun i j h1 h2 h3 => h i j (by omega) h2 (by omega)
theorem Asc.out {D E : List Int} {a b c d : Nat} (h : Asc D c d) (t : Turn a b D E) (hh : d ≤ a ∨ b ≤ c) : Asc E c d := fun i j h1 h2 h3 => by
  rw [t.out i (by omega), t.out j (by omega)]; exact h i j h1 h2 h3
/-- All of a row but the place j stand in order, and what is behind j is no less than what stands there. -/
structure Sift (D : List Int) (a i j : Nat) : Prop where
  rest : ∀ p q, a ≤ p → p ≤ q → q ≤ i → p ≠ j → q ≠ j → at0 D p ≤ at0 D q
  up : ∀ q, j < q → q ≤ i → at0 D j ≤ at0 D q
theorem Sift.start {D : List Int} {a i : Nat} (h : Asc D a i) : Sift D a i i := ⟨fun p q h1 h2 h3 h4 h5 => h p q h1 h2 (by omega), fun q h1 h2 => by omega⟩
theorem Sift.done {D : List Int} {a i j : Nat} (h : Sift D a i j) (ha : a ≤ j) (hj : j ≤ i) (hs : j = a ∨ at0 D (j - 1) ≤ at0 D j) : Asc D a (i + 1) := fun p q h1 h2 h3 => by
  by_cases e1 : p = j
  · subst e1
    by_cases e2 : q = p
    · subst e2; exact Int.le_refl _
    · exact h.up q (by omega) (by omega)
  · by_cases e2 : q = j
    · subst e2
      rcases hs with rfl | hs
      · omega
      · exact Int.le_trans (h.rest p (q - 1) h1 (by omega) (by omega) e1 (by omega)) hs
    · exact h.rest p q h1 h2 (by omega) e1 e2
theorem Sift.step {D : List Int} {a i j : Nat} (h : Sift D a i j) (ha : a < j) (hj : j ≤ i) (hl : i < D.length) (hs : at0 D j < at0 D (j - 1)) : Sift (swapped D j (j - 1)) a i (j - 1) := by
  have e : ∀ k, at0 (swapped D j (j - 1)) k = if k = j - 1 then at0 D j else if k = j then at0 D (j - 1) else at0 D k := at0_swapped D (by omega) (by omega)
  refine ⟨fun p q h1 h2 h3 h4 h5 => ?_, fun q h1 h2 => ?_⟩
  · rw [e p, e q, if_neg h4, if_neg h5]
    by_cases hp : p = j
    · rw [if_pos hp]
      by_cases hq : q = j
      · rw [if_pos hq]; exact Int.le_refl _
      · rw [if_neg hq]; exact h.rest (j - 1) q (by omega) (by omega) h3 (by omega) hq
    · rw [if_neg hp]
      by_cases hq : q = j
      · rw [if_pos hq]; exact h.rest p (j - 1) h1 (by omega) (by omega) hp (by omega)
      · rw [if_neg hq]; exact h.rest p q h1 h2 h3 hp hq
  · rw [e (j - 1), e q, if_pos rfl, if_neg (by omega)]
    by_cases hq : q = j
    · rw [if_pos hq]; omega
    · rw [if_neg hq]; exact h.up q (by omega) h2
/-- A row in order has no word twice just if none stands beside itself. -/
theorem asc_nodup {D : List Int} (h : Asc D 0 D.length) : D.Nodup ↔ ∀ k, 1 ≤ k → k < D.length → at0 D k ≠ at0 D (k - 1) := by
  have g : ∀ k (hk : k < D.length), at0 D k = D[k] := fun k hk => by unfold at0; simp [hk]
  constructor
  · intro hn k h1 h2 e
    rw [g k h2, g (k - 1) (by omega)] at e
    rw [List.nodup_iff_pairwise_ne, List.pairwise_iff_getElem] at hn
    exact hn (k - 1) k (by omega) h2 (by omega) e.symm
  · intro hs
    rw [List.nodup_iff_pairwise_ne, List.pairwise_iff_getElem]
    intro i j hi hj hij e
    have h1 := h i (j - 1) (Nat.zero_le _) (by omega) (by omega)
    have h2 := h (j - 1) j (Nat.zero_le _) (by omega) hj
    have h3 := hs j (by omega) hj
    rw [g i hi] at h1
    rw [g j hj] at h2 h3
    omega
end Go.Proofs.Ytfejpomemkfmpaa
