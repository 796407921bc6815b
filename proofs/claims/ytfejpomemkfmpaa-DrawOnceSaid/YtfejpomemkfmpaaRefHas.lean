/- Is a word in a row? The contract of the reference's Has. -/
import Derived.Test.YtfejpomemkfmpaaSame
namespace Go.Proofs.Ytfejpomemkfmpaa
open Go.RowKit

/-- Words: is it a draw's, and it as one. -/
def drawN (n : Int) : Int := if n < 2147483648 then n + 2147483648 else n
def isDrawB (n : Int) : Bool := decide (2147483648 ≤ n)
def hasB (A : List Int) (x : Int) : Bool := decide (x ∈ A)
theorem hasB_found {A : List Int} {x : Int} {k : Nat} (hk : k < A.length) (h : (A[k] == x) = true) : true = hasB A x := by
  unfold hasB; symm; apply decide_eq_true
  have := beq_iff_eq.1 h
  exact this ▸ List.getElem_mem hk
theorem has_next {A : List Int} {x : Int} {k : Nat} (H : ∀ j, j < k → A.getD j 0 ≠ x) (hk : k < A.length) (h : (A[k] == x) = false) : ∀ j, j < k + 1 → A.getD j 0 ≠ x := by
  intro j hj
  rcases Nat.lt_succ_iff_lt_or_eq.1 hj with h1 | h1
  · exact H j h1
  · subst h1; simpa [hk] using h
theorem hasB_not {A : List Int} {x : Int} (H : ∀ j, j < A.length → A.getD j 0 ≠ x) : false = hasB A x := by
  unfold hasB; symm; apply decide_eq_false
  intro h
  obtain ⟨i, hi, e⟩ := List.getElem_of_mem h
  exact H i hi (by simp [hi, e])

set_option maxHeartbeats 400000 in
theorem rhas_cells (b o c n : Nat) (x : Int) (A : List Int) (w : World) (hA : A.length = n) (hn : n ≤ 9223372036854775807) (h1 : ∀ i, i < n → w.cell? ⟨b, o + i, none⟩ = some (.int .u32 (A.getD i 0))) :
    Calls Try.prog 23 #[.slice (some ⟨b, o, none⟩) n c, .int .u32 x] w fun e w' => e = .returned (.bool (hasB A x)) ∧ w = w' := by
  go_enter Try.func23, Try.ntmps23
  go_wp2
  go_loop [5] (fun i => ∃ k : Nat, k ≤ n ∧ i = .int .i64 k ∧ (∀ j, j < k → A.getD j 0 ≠ x)) (fun i => n - (intOf i).toNat)
  case atStart => exact ⟨0, Nat.zero_le _, rfl, fun j hj => absurd hj (by omega)⟩
  case round =>
    obtain ⟨k, hk, rfl, hall⟩ := hrel
    have H := Lib.hid hall; clear hall
    have H1 := Lib.hid h1; clear h1
    by_cases hlt : k < n
    · have e1 := H1.out k hlt
      have hkA : k < A.length := by omega
      go_wp2
      · have ht : (A[k] == x) = true := by assumption
        go_ret
        exact ⟨ret_bool (hasB_found hkA ht), rfl⟩
      · have ht : (A[k] == x) = false := by assumption
        go_round
        case rel => exact ⟨k + 1, by omega, by go_num, has_next H.out hkA ht⟩
        case measure => simp [intOf]; omega
    · obtain rfl : k = n := by omega
      go_wp2
      go_ret
      exact ⟨ret_bool (hasB_not (by rw [hA]; exact H.out)), rfl⟩
set_option maxHeartbeats 400000 in
theorem rhas_zero (a : Option Addr) (c : Nat) (x : Int) (w : World) :
    Calls Try.prog 23 #[.slice a 0 c, .int .u32 x] w fun e w' => e = .returned (.bool false) ∧ w = w' := by
  go_enter Try.func23, Try.ntmps23
  go_wp2
  go_loop [5] (fun i => i = .int .i64 0) (fun _ => 0)
  case atStart => rfl
  case round =>
    obtain rfl := hrel
    go_wp2
    go_ret
    exact ⟨rfl, rfl⟩
/-- Is the word in the row? -/
theorem rhas_any (v : Value) (x : Int) (A : List Int) (w : World) (h : Ints .u32 w v A) :
    Calls Try.prog 23 #[v, .int .u32 x] w fun e w' => e = .returned (.bool (hasB A x)) ∧ w = w' := by
  have hlen := h.len
  by_cases hz : A = []
  · subst hz
    obtain ⟨a, c, rfl⟩ := h.form
    exact rhas_zero a c x w
  · obtain ⟨b, o, c, rfl, _, _, hc⟩ := h.cells hz
    exact rhas_cells b o c A.length x A w rfl hlen hc

end Go.Proofs.Ytfejpomemkfmpaa
