/- The library's sort: by a heap. -/
import Derived.Test.YtfejpomemkfmpaaSortD
namespace Go.Proofs.Ytfejpomemkfmpaa
open Go.RowKit

/-- The place c is a child's of the place i. -/
def Child (c i : Nat) : Prop := c = 2 * i + 1 ∨ c = 2 * i + 2
/-- From the place lo on, ahead of hi, no child is above its parent. -/
def Heap (D : List Int) (f lo hi : Nat) : Prop := ∀ i c, lo ≤ i → Child c i → c < hi → at0 D (f + c) ≤ at0 D (f + i)
/-- A heap but for the place r. -/
structure Hole (D : List Int) (f lo hi r : Nat) : Prop where
  rest : ∀ i c, lo ≤ i → i ≠ r → Child c i → c < hi → at0 D (f + c) ≤ at0 D (f + i)
  over : ∀ p c, lo ≤ p → Child r p → Child c r → c < hi → at0 D (f + c) ≤ at0 D (f + p)
theorem Hole.start {D : List Int} {f lo hi : Nat} (h : Heap D f (lo + 1) hi) : Hole D f lo hi lo :=
  ⟨fun i c h1 h2 h3 h4 => h i c (by omega) h3 h4, fun p c h1 h2 _ _ => by rcases h2 with h2 | h2 <;> omega⟩
theorem Hole.done {D : List Int} {f lo hi r : Nat} (h : Hole D f lo hi r) (hr : ∀ c, Child c r → c < hi → at0 D (f + c) ≤ at0 D (f + r)) : Heap D f lo hi := fun i c h1 h2 h3 => by
  by_cases e : i = r
  · subst e; exact hr c h2 h3
  · exact h.rest i c h1 e h2 h3
theorem Hole.step {D : List Int} {f lo hi r d : Nat} (h : Hole D f lo hi r) (hr : lo ≤ r) (hd : Child d r) (hdh : d < hi) (hl : f + hi ≤ D.length) (hbig : ∀ c, Child c r → c < hi → at0 D (f + c) ≤ at0 D (f + d)) (hlt : at0 D (f + r) < at0 D (f + d)) :
    Hole (swapped D (f + r) (f + d)) f lo hi d := by
  have hrd : r < d := by rcases hd with h | h <;> omega
  have e : ∀ k, at0 (swapped D (f + r) (f + d)) (f + k) = if k = d then at0 D (f + r) else if k = r then at0 D (f + d) else at0 D (f + k) := fun k => by
    rw [at0_swapped D (by omega) (by omega)]
    by_cases h1 : k = d
    · subst h1; simp
    · by_cases h2 : k = r
      · subst h2; rw [if_neg (by omega), if_pos rfl, if_neg h1, if_pos rfl]
      · rw [if_neg (by omega), if_neg (by omega), if_neg h1, if_neg h2]
  refine ⟨fun i c h1 h2 h3 h4 => ?_, fun p c h1 h2 h3 h4 => ?_⟩
  · rw [e c, e i, if_neg h2]
    by_cases hi' : i = r
    · subst hi'
      rw [if_pos rfl]
      by_cases hc : c = d
      · rw [if_pos hc]; omega
      · have : c ≠ i := by rcases h3 with h | h <;> omega
        rw [if_neg hc, if_neg this]; exact hbig c h3 h4
    · rw [if_neg hi']
      have hc : c ≠ d := by intro e'; subst e'; rcases h3 with h | h <;> rcases hd with h' | h' <;> omega
      rw [if_neg hc]
      by_cases hc2 : c = r
      · rw [if_pos hc2]; subst hc2; exact h.over i d h1 h3 hd hdh
      · rw [if_neg hc2]; exact h.rest i c h1 hi' h3 h4
  · have hp : p = r := by rcases h2 with h | h <;> rcases hd with h' | h' <;> omega
    subst hp
    have hc : c ≠ d ∧ c ≠ p := by constructor <;> (rcases h3 with h | h <;> omega)
    rw [e c, e p, if_neg hc.1, if_neg hc.2, if_neg (by omega), if_pos rfl]
    exact h.rest d c (by omega) (by omega) h3 h4
/-- A heap's root is above all. -/
theorem Heap.root {D : List Int} {f hi : Nat} (h : Heap D f 0 hi) : ∀ k, k < hi → at0 D (f + k) ≤ at0 D f := by
  intro k
  induction k using Nat.strongRecOn with
  | ind k ih =>
    intro hk
    by_cases h0 : k = 0
    · subst h0; exact Int.le_refl _
    · have hp : (k - 1) / 2 < k := by omega
      have h1 := h ((k - 1) / 2) k (Nat.zero_le _) (by unfold Child; omega) hk
      exact Int.le_trans h1 (ih _ hp (by omega))
/-- What is behind a heap that is taken down: in order, and above all of the heap. -/
structure Taken (D : List Int) (a b i : Nat) : Prop where
  heap : Heap D a 0 i
  asc : Asc D (a + i) b
  over : ∀ k l, k < i → a + i ≤ l → l < b → at0 D (a + k) ≤ at0 D l
theorem Taken.start {D : List Int} {a b i : Nat} (h : Heap D a 0 i) (hb : b = a + i) : Taken D a b i := ⟨h, Asc.short _ _ _ (by omega), fun k l h1 h2 h3 => by omega⟩
/-- The root is put behind the heap: what is left is a heap but at its root. -/
theorem Taken.swap {D : List Int} {a b i : Nat} (h : Taken D a b (i + 1)) (hb : a + i < b) (hl : b ≤ D.length) :
    Heap (swapped D a (a + i)) a 1 i ∧ (∀ k, k < i → at0 (swapped D a (a + i)) (a + k) ≤ at0 (swapped D a (a + i)) (a + i)) ∧ Asc (swapped D a (a + i)) (a + i) b ∧ (∀ k l, k < i → a + i < l → l < b → at0 (swapped D a (a + i)) (a + k) ≤ at0 (swapped D a (a + i)) l) := by
  have e : ∀ k, at0 (swapped D a (a + i)) k = if k = a + i then at0 D a else if k = a then at0 D (a + i) else at0 D k := at0_swapped D (by omega) (by omega)
  have hroot := h.heap.root
  have low : ∀ k, k < i → ∃ m, m < i + 1 ∧ at0 (swapped D a (a + i)) (a + k) = at0 D (a + m) := fun k hk => by
    rw [e, if_neg (by omega)]
    by_cases hk0 : k = 0
    · subst hk0; exact ⟨i, by omega, by rw [if_pos (by omega)]⟩
    · exact ⟨k, by omega, by rw [if_neg (by omega)]⟩
  refine ⟨fun j c h1 h2 h3 => ?_, fun k hk => ?_, fun p q h1 h2 h3 => ?_, fun k l h1 h2 h3 => ?_⟩
  · have hjc : j < c := by rcases h2 with h | h <;> omega
    rw [e, e, if_neg (by omega), if_neg (by omega), if_neg (by omega), if_neg (by omega)]
    exact h.heap j c (Nat.zero_le _) h2 (by omega)
  · obtain ⟨m, hm, em⟩ := low k hk
    rw [em, e (a + i), if_pos rfl]
    exact hroot m hm
  · by_cases hp : p = a + i
    · subst hp
      by_cases hq : q = a + i
      · subst hq; exact Int.le_refl _
      · rw [e (a + i), if_pos rfl, e q, if_neg hq, if_neg (by omega)]
        exact h.over 0 q (by omega) (by omega) h3
    · rw [e p, e q, if_neg hp, if_neg (by omega), if_neg (by omega), if_neg (by omega)]
      exact h.asc p q (by omega) h2 h3
  · obtain ⟨m, hm, em⟩ := low k h1
    rw [em, e l, if_neg (by omega), if_neg (by omega)]
    exact h.over m l hm (by omega) h3
theorem Taken.next {D E : List Int} {a b i : Nat} (h1 : ∀ k, k < i → at0 D (a + k) ≤ at0 D (a + i)) (h2 : Asc D (a + i) b) (h3 : ∀ k l, k < i → a + i < l → l < b → at0 D (a + k) ≤ at0 D l) (t : Turn a (a + i) D E) (hh : Heap E a 0 i) : Taken E a b i :=
  ⟨hh, h2.out t (.inr (Nat.le_refl _)), fun k l k1 k2 k3 => by
    obtain ⟨m, m1, m2, em⟩ := t.src (a + k) (by omega) (by omega)
    rw [em, t.out l (by omega)]
    obtain ⟨q, rfl⟩ : ∃ q, m = a + q := ⟨m - a, by omega⟩
    by_cases hl : l = a + i
    · subst hl; exact h1 q (by omega)
    · exact h3 q l (by omega) (by omega) k3⟩
end Go.Proofs.Ytfejpomemkfmpaa
