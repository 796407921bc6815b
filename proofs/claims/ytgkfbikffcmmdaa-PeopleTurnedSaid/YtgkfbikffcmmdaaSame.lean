/- Are two rows the same? The contract of the reference's Same. -/
import Derived.Test.YtgkfbikffcmmdaaBase
namespace Go.Proofs.Ytgkfbikffcmmdaa
open Go.RowKit

def sameB (A B : List Int) : Bool := decide (A = B)
theorem sameB_of_length {A B : List Int} (h : A.length ≠ B.length) : sameB A B = false := by
  unfold sameB; exact decide_eq_false (fun e => h (by rw [e]))
theorem sameB_diff {A B : List Int} {k : Nat} (hA : k < A.length) (hB : k < B.length) (h : (A[k] != B[k]) = true) : false = sameB A B := by
  unfold sameB; symm; apply decide_eq_false; intro e; subst e; simp at h
theorem same_next {A B : List Int} {k : Nat} (H : ∀ j, j < k → A.getD j 0 = B.getD j 0) (hA : k < A.length) (hB : k < B.length) (h : (A[k] != B[k]) = false) : ∀ j, j < k + 1 → A.getD j 0 = B.getD j 0 := by
  intro j hj
  rcases Nat.lt_succ_iff_lt_or_eq.1 hj with h1 | h1
  · exact H j h1
  · subst h1; simpa [hA, hB] using h
theorem sameB_eq {A B : List Int} {n : Nat} (hA : A.length = n) (hB : B.length = n) (H : ∀ j, j < n → A.getD j 0 = B.getD j 0) : true = sameB A B := by
  unfold sameB; symm; apply decide_eq_true
  apply List.ext_getElem (by omega)
  intro i h1 h2
  have := H i (by omega)
  simpa [h1, h2] using this

set_option maxHeartbeats 400000 in
theorem rsame_cells (b1 o1 c1 b2 o2 c2 n : Nat) (A B : List Int) (w : World) (hA : A.length = n) (hB : B.length = n) (hn : n ≤ 9223372036854775807)
    (h1 : ∀ i, i < n → w.cell? ⟨b1, o1 + i, none⟩ = some (.int .u32 (A.getD i 0))) (h2 : ∀ i, i < n → w.cell? ⟨b2, o2 + i, none⟩ = some (.int .u32 (B.getD i 0))) :
    Calls Try.prog 26 #[.slice (some ⟨b1, o1, none⟩) n c1, .slice (some ⟨b2, o2, none⟩) n c2] w fun e w' => e = .returned (.bool (sameB A B)) ∧ Reads w w' := by
  go_enter Try.func26, Try.ntmps26
  go_wp2
  go_loopw [5] (fun i wr => ∃ k : Nat, k ≤ n ∧ i = .int .i64 k ∧ (∀ j, j < k → A.getD j 0 = B.getD j 0) ∧ Reads w wr) (fun i _ => n - (intOf i).toNat)
  case atStart => exact ⟨0, Nat.zero_le _, rfl, fun j hj => absurd hj (by omega), Reads.refl _⟩
  case round =>
    obtain ⟨k, hk, rfl, hall, q, rfl⟩ := hrel
    have H := Lib.hid hall; clear hall
    have H1 := Lib.hid h1; have H2 := Lib.hid h2; clear h1 h2
    by_cases hlt : k < n
    · have e1 := H1.out k hlt
      have e2 := H2.out k hlt
      have hkA : k < A.length := by omega
      have hkB : k < B.length := by omega
      go_wp2
      go_quiet (fail)
      go_wp2
      · have ht : (A[k] != B[k]) = true := by assumption
        go_ret
        exact ⟨ret_bool (sameB_diff hkA hkB ht), reads2 _ _ _⟩
      · have ht : (A[k] != B[k]) = false := by assumption
        go_roundw
        case rel => exact ⟨k + 1, by omega, by go_num, same_next H.out hkA hkB ht, reads1 _ _⟩
        case measure => simp [intOf]; omega
    · obtain rfl : k = n := by omega
      go_wp2
      go_ret
      exact ⟨ret_bool (sameB_eq hA hB H.out), reads1 _ _⟩
set_option maxHeartbeats 400000 in
theorem rsame_zero (a1 a2 : Option Addr) (c1 c2 : Nat) (w : World) :
    Calls Try.prog 26 #[.slice a1 0 c1, .slice a2 0 c2] w fun e w' => e = .returned (.bool true) ∧ w = w' := by
  go_enter Try.func26, Try.ntmps26
  go_wp2
  go_loop [5] (fun i => i = .int .i64 0) (fun _ => 0)
  case atStart => rfl
  case round =>
    obtain rfl := hrel
    go_wp2
    go_ret
    exact ⟨rfl, rfl⟩
set_option maxHeartbeats 400000 in
theorem rsame_unlike (a1 a2 : Option Addr) (n1 c1 n2 c2 : Nat) (w : World) (h : n1 ≠ n2) :
    Calls Try.prog 26 #[.slice a1 n1 c1, .slice a2 n2 c2] w fun e w' => e = .returned (.bool false) ∧ w = w' := by
  have hb : ((n1 : Int) != (n2 : Int)) = true := by rw [bne_iff_ne]; omega
  go_enter Try.func26, Try.ntmps26
  go_wp2
  go_ret
  exact ⟨rfl, rfl⟩
/-- Of whatever rows: are they the same? -/
theorem rsame_any (v1 v2 : Value) (A B : List Int) (w : World) (h1 : Ints .u32 w v1 A) (h2 : Ints .u32 w v2 B) :
    Calls Try.prog 26 #[v1, v2] w fun e w' => e = .returned (.bool (sameB A B)) ∧ Reads w w' := by
  by_cases h : A.length = B.length
  · by_cases h0 : A.length = 0
    · obtain ⟨a1, c1, rfl⟩ := h1.form
      obtain ⟨a2, c2, rfl⟩ := h2.form
      obtain rfl : A = [] := List.eq_nil_of_length_eq_zero h0
      obtain rfl : B = [] := List.eq_nil_of_length_eq_zero h.symm
      exact (rsame_zero a1 a2 c1 c2 w).mono fun e w' ⟨he, hw⟩ => ⟨he, Reads.of_eq hw⟩
    · have hlen := h1.len
      obtain ⟨b1, o1, c1, rfl, _, _, h1⟩ := h1.cells (by intro e; rw [e] at h0; exact h0 rfl)
      obtain ⟨b2, o2, c2, rfl, _, _, h2⟩ := h2.cells (by intro e; rw [e] at h; exact h0 h)
      rw [← h]
      exact rsame_cells b1 o1 c1 b2 o2 c2 A.length A B w rfl h.symm hlen h1 (fun i hi => h2 i (by omega))
  · obtain ⟨a1, c1, rfl⟩ := h1.form
    obtain ⟨a2, c2, rfl⟩ := h2.form
    refine (rsame_unlike a1 a2 _ c1 _ c2 w h).mono fun e w' ⟨he, hw⟩ => ⟨?_, Reads.of_eq hw⟩
    rw [sameB_of_length h]; exact he
end Go.Proofs.Ytgkfbikffcmmdaa
