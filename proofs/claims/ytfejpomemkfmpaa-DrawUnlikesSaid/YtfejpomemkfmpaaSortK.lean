/- The library's sort: what stands about the range that is still to be sorted. -/
import Derived.Test.YtfejpomemkfmpaaSortJ
namespace Go.Proofs.Ytfejpomemkfmpaa

/-- About the range from a on, ahead of b, all of the range from s on, ahead of t, stands in order. -/
structure Frame (E : List Int) (s a b t : Nat) : Prop where
  left : Asc E s a
  right : Asc E b t
  above : ∀ k l, s ≤ k → k < a → a ≤ l → l < t → at0 E k ≤ at0 E l
  below : ∀ k l, s ≤ k → k < b → b ≤ l → l < t → at0 E k ≤ at0 E l
theorem Frame.start (E : List Int) (a b : Nat) : Frame E a a b b := ⟨Asc.short _ _ _ (by omega), Asc.short _ _ _ (by omega), fun k l h1 h2 h3 h4 => by omega, fun k l h1 h2 h3 h4 => by omega⟩
theorem Frame.turn {E F : List Int} {s a b t : Nat} (h : Frame E s a b t) (hsa : s ≤ a) (hab : a ≤ b) (hbt : b ≤ t) (u : Turn a b E F) : Frame F s a b t := by
  have src : ∀ k, s ≤ k → k < t → ∃ l, s ≤ l ∧ l < t ∧ at0 F k = at0 E l ∧ (k < a → l = k) ∧ (b ≤ k → l = k) ∧ (a ≤ k → a ≤ l) ∧ (k < b → l < b) := fun k h1 h2 => by
    by_cases hin : a ≤ k ∧ k < b
    · obtain ⟨l, l1, l2, e⟩ := u.src k hin.1 hin.2
      exact ⟨l, by omega, by omega, e, by omega, by omega, fun _ => l1, fun _ => l2⟩
    · exact ⟨k, h1, h2, u.out k (by omega), fun _ => rfl, fun _ => rfl, id, id⟩
  refine ⟨h.left.out u (.inl (Nat.le_refl _)), h.right.out u (.inr (Nat.le_refl _)), fun k l h1 h2 h3 h4 => ?_, fun k l h1 h2 h3 h4 => ?_⟩
  · obtain ⟨m, m1, m2, e, mk, _, ml, _⟩ := src l (by omega) h4
    rw [u.out k (by omega), e]
    exact h.above k m h1 h2 (ml h3) m2
  · obtain ⟨m, m1, m2, e, _, _, _, mb⟩ := src k h1 (by omega)
    rw [u.out l (by omega), e]
    exact h.below m l m1 (mb h2) h3 h4
theorem Frame.done {E : List Int} {s a b t : Nat} (h : Frame E s a b t) (hsa : s ≤ a) (hab : a ≤ b) (hbt : b ≤ t) (hm : Asc E a b) : Asc E s t := fun i j h1 h2 h3 => by
  by_cases hi : i < a
  · by_cases hj : j < a
    · exact h.left i j h1 h2 hj
    · exact h.above i j h1 hi (by omega) h3
  · by_cases hj : j < b
    · exact hm i j (by omega) h2 hj
    · by_cases hi2 : i < b
      · exact h.below i j h1 hi2 (by omega) h3
      · exact h.right i j (by omega) h2 h3
theorem Frame.floor {E : List Int} {s a b t : Nat} (h : Frame E s a b t) (hsa : s ≤ a) (hbt : b ≤ t) (hf : Floor E s t) : Floor E a b := fun h0 k h1 h2 => by
  by_cases e : a = s
  · subst e; exact hf h0 k h1 (by omega)
  · exact h.above (a - 1) k (by omega) (by omega) h1 (by omega)
theorem Floor.cut {E : List Int} {a b c : Nat} (h : Floor E a b) (hc : c ≤ b) : Floor E a c := fun h0 k h1 h2 => h h0 k h1 (by omega)
theorem Split.floor {E : List Int} {a b m : Nat} (h : Split E a b m) : Floor E (m + 1) b := fun _ k h1 h2 => h.high k (by omega) h2
/-- A part of the range is put ahead: it is in order, and nothing behind it is below it. -/
theorem Frame.ahead {E : List Int} {s a c b t : Nat} (h : Frame E s a b t) (hsa : s ≤ a) (hac : a ≤ c) (hcb : c ≤ b) (hbt : b ≤ t) (h1 : Asc E a c) (h2 : ∀ k l, a ≤ k → k < c → c ≤ l → l < b → at0 E k ≤ at0 E l) : Frame E s c b t :=
  ⟨fun i j i1 i2 i3 => by
    by_cases hi : i < a
    · by_cases hj : j < a
      · exact h.left i j i1 i2 hj
      · exact h.above i j i1 hi (by omega) (by omega)
    · exact h1 i j (by omega) i2 i3, h.right, fun k l k1 k2 k3 k4 => by
    by_cases hk : k < a
    · exact h.above k l k1 hk (by omega) k4
    · by_cases hl : l < b
      · exact h2 k l (by omega) k2 k3 hl
      · exact h.below k l k1 (by omega) (by omega) k4, h.below⟩
/-- A part of the range is put behind: it is in order, and nothing ahead of it is above it. -/
theorem Frame.behind {E : List Int} {s a c b t : Nat} (h : Frame E s a b t) (hsa : s ≤ a) (hac : a ≤ c) (hcb : c ≤ b) (hbt : b ≤ t) (h1 : Asc E c b) (h2 : ∀ k l, a ≤ k → k < c → c ≤ l → l < b → at0 E k ≤ at0 E l) : Frame E s a c t :=
  ⟨h.left, fun i j i1 i2 i3 => by
    by_cases hj : j < b
    · exact h1 i j i1 i2 hj
    · by_cases hi : i < b
      · exact h.below i j (by omega) hi (by omega) i3
      · exact h.right i j (by omega) i2 i3, h.above, fun k l k1 k2 k3 k4 => by
    by_cases hl : l < b
    · by_cases hk : k < a
      · exact h.above k l k1 hk (by omega) k4
      · exact h2 k l (by omega) k2 k3 hl
    · exact h.below k l k1 (by omega) (by omega) k4⟩
/-- Behind the words that are the pivot's. -/
theorem equals_next {E : List Int} {s a m b t : Nat} (h : Frame E s a b t) (hsa : s ≤ a) (ham : a < m) (hmb : m ≤ b) (hbt : b ≤ t) (hf : Floor E a b) (h0 : 0 < a) (hp : at0 E a ≤ at0 E (a - 1)) (h1 : ∀ k, a ≤ k → k < m → at0 E k ≤ at0 E a) (h2 : ∀ k, m ≤ k → k < b → at0 E a < at0 E k) : Frame E s m b t := by
  have low : ∀ k, a ≤ k → k < m → at0 E a ≤ at0 E k := fun k k1 k2 => Int.le_trans hp (hf h0 k k1 (by omega))
  refine h.ahead hsa (by omega) hmb hbt (fun i j i1 i2 i3 => ?_) (fun k l k1 k2 k3 k4 => ?_)
  · exact Int.le_trans (h1 i i1 (by omega)) (low j (by omega) i3)
  · exact Int.le_trans (h1 k k1 k2) (Int.le_of_lt (h2 l k3 k4))
/-- The left part of a split row was sorted. -/
theorem split_left {E F : List Int} {s a m b t : Nat} (h : Frame E s a b t) (hsa : s ≤ a) (ham : a ≤ m) (hmb : m < b) (hbt : b ≤ t) (hs : Split E a b m) (u : Turn a m E F) (ha : Asc F a m) : Frame F s (m + 1) b t := by
  have hF := h.turn hsa (by omega) hbt (u.mono (Nat.le_refl _) (by omega : m ≤ b))
  have em : at0 F m = at0 E m := u.out m (.inr (Nat.le_refl _))
  have low : ∀ k, a ≤ k → k < m → at0 F k ≤ at0 F m := fun k k1 k2 => by
    obtain ⟨l, l1, l2, e⟩ := u.src k k1 k2
    rw [e, em]; exact Int.le_of_lt (hs.low l l1 l2)
  have high : ∀ l, m < l → l < b → at0 F m ≤ at0 F l := fun l l1 l2 => by
    rw [em, u.out l (.inr (by omega))]; exact hs.high l l1 l2
  refine hF.ahead hsa (by omega) (by omega) hbt (fun i j i1 i2 i3 => ?_) (fun k l k1 k2 k3 k4 => ?_)
  · by_cases hj : j = m
    · subst hj
      by_cases hi : i = j
      · subst hi; exact Int.le_refl _
      · exact low i i1 (by omega)
    · exact ha i j i1 i2 (by omega)
  · by_cases hk : k = m
    · subst hk; exact high l (by omega) k4
    · exact Int.le_trans (low k k1 (by omega)) (high l (by omega) k4)
/-- The right part of a split row was sorted. -/
theorem split_right {E F : List Int} {s a m b t : Nat} (h : Frame E s a b t) (hsa : s ≤ a) (ham : a ≤ m) (hmb : m < b) (hbt : b ≤ t) (hs : Split E a b m) (u : Turn (m + 1) b E F) (ha : Asc F (m + 1) b) : Frame F s a m t := by
  have hF := h.turn hsa (by omega) hbt (u.mono (by omega : a ≤ m + 1) (Nat.le_refl _))
  have em : at0 F m = at0 E m := u.out m (.inl (by omega))
  have low : ∀ k, a ≤ k → k < m → at0 F k ≤ at0 F m := fun k k1 k2 => by
    rw [em, u.out k (.inl (by omega))]; exact Int.le_of_lt (hs.low k k1 k2)
  have high : ∀ l, m < l → l < b → at0 F m ≤ at0 F l := fun l l1 l2 => by
    obtain ⟨q, q1, q2, e⟩ := u.src l (by omega) l2
    rw [e, em]; exact hs.high q (by omega) q2
  refine hF.behind hsa ham (by omega) hbt (fun i j i1 i2 i3 => ?_) (fun k l k1 k2 k3 k4 => ?_)
  · by_cases hi : i = m
    · subst hi
      by_cases hj : j = i
      · subst hj; exact Int.le_refl _
      · exact high j (by omega) i3
    · exact ha i j (by omega) i2 i3
  · by_cases hl : l = m
    · subst hl; exact low k k1 k2
    · exact Int.le_trans (low k k1 k2) (high l (by omega) k4)
end Go.Proofs.Ytfejpomemkfmpaa
