/- Contracts of the reference of layer msg: Has, word, May, Put, Bare. -/
import Derived.Test.YthpcnekidlhfpaaDoorMsgF
namespace Go.Proofs.YthpcnekidlhfpaaDoor
open Go.RowKit

theorem bne_lit {t c : Int} (h : t ≠ c) : (t == c) = false := by rw [beq_eq_false_iff_ne]; exact h
theorem hasT_far {k t : Int} (h : ¬ (2 ≤ t ∧ t ≤ 7)) : hasT k t = false := decide_eq_false fun e => h (kindTags_ok k t e)
theorem hasT_noKind {k t : Int} (h : isKindB k = false) : hasT k t = false := by
  have h' := of_decide_eq_false h
  unfold hasT kindTags
  rw [if_neg (by omega), if_neg (by omega), if_neg (by omega), if_neg (by omega), if_neg (by omega), if_neg (by omega), if_neg (by omega), if_neg (by omega), if_neg (by omega)]
  simp
set_option maxHeartbeats 4000000 in
theorem rhas_tag (k t : Int) (w : World) (hk : isKindB k = true) (ht : 2 ≤ t ∧ t ≤ 7) :
    Calls Tryd.prog 20 #[.int .u32 k, .int .u32 t] w fun e w' => e = .returned (.bool (hasT k t)) ∧ w = w' := by
  rcases kinds hk with rfl | rfl | rfl | rfl | rfl | rfl | rfl | rfl | rfl <;> rcases tags ht with rfl | rfl | rfl | rfl | rfl | rfl <;> clear hk ht
  all_goals
    go_enter Tryd.func20, Tryd.ntmps20
    go_wp2_with fail
    go_ret
    exact ⟨ret_bool (by decide), rfl⟩
set_option maxHeartbeats 4000000 in
theorem rhas_far (k t : Int) (w : World) (hk : isKindB k = true) (ht : ¬ (2 ≤ t ∧ t ≤ 7)) :
    Calls Tryd.prog 20 #[.int .u32 k, .int .u32 t] w fun e w' => e = .returned (.bool false) ∧ w = w' := by
  have t2 := bne_lit (show t ≠ 2 by omega)
  have t3 := bne_lit (show t ≠ 3 by omega)
  have t4 := bne_lit (show t ≠ 4 by omega)
  have t5 := bne_lit (show t ≠ 5 by omega)
  have t6 := bne_lit (show t ≠ 6 by omega)
  have t7 := bne_lit (show t ≠ 7 by omega)
  clear ht
  rcases kinds hk with rfl | rfl | rfl | rfl | rfl | rfl | rfl | rfl | rfl <;> clear hk
  all_goals
    go_enter Tryd.func20, Tryd.ntmps20
    go_wp2_with fail
    go_ret
    exact ⟨rfl, rfl⟩
/-- Has a kind a tag? -/
theorem rhas_kt (k t : Int) (w : World) (hk : isKindB k = true) :
    Calls Tryd.prog 20 #[.int .u32 k, .int .u32 t] w fun e w' => e = .returned (.bool (hasT k t)) ∧ w = w' := by
  by_cases ht : 2 ≤ t ∧ t ≤ 7
  · exact rhas_tag k t w hk ht
  · rw [hasT_far ht]; exact rhas_far k t w hk ht
set_option maxHeartbeats 4000000 in
theorem rword_any (m : M7) (t : Int) (w : World) (ht : 2 ≤ t ∧ t ≤ 7) :
    Calls Tryd.prog 21 #[.agg #[.int .u32 m.kind, .int .u32 m.run, .int .u32 m.a, .int .u32 m.b, .int .u32 m.nonce, .int .u32 m.box, .int .u32 m.more], .int .u32 t] w fun e w' => e = .returned (.int .u32 (m.word t)) ∧ Below w.heap.size w w' := by
  rcases tags ht with rfl | rfl | rfl | rfl | rfl | rfl <;> clear ht
  all_goals
    go_enter Tryd.func21, Tryd.ntmps21
    go_wp2_with fail
    go_ret
    exact ⟨by first | rfl | simp [M7.word], (Below.refl _ _).alloc (Nat.le_refl _) _⟩
set_option maxHeartbeats 1000000 in
theorem rmay_noKind (m : M7) (w : World) (hk : isKindB m.kind = false) :
    Calls Tryd.prog 12 #[.agg #[.int .u32 m.kind, .int .u32 m.run, .int .u32 m.a, .int .u32 m.b, .int .u32 m.nonce, .int .u32 m.box, .int .u32 m.more]] w fun e w' => e = .returned (.bool false) ∧ Below w.heap.size w w' := by
  have hk' := of_decide_eq_false hk
  by_cases h1 : m.kind < 1
  · clear hk hk'
    go_enter Tryd.func12, Tryd.ntmps12
    go_wp2_with fail
    go_ret
    exact ⟨rfl, (Below.refl _ _).alloc (Nat.le_refl _) _⟩
  · have d1 : decide (m.kind < 1) = false := by simpa using h1
    have h9 : 9 < m.kind := by omega
    clear hk hk' h1
    go_enter Tryd.func12, Tryd.ntmps12
    go_wp2_with fail
    go_ret
    exact ⟨rfl, (Below.refl _ _).alloc (Nat.le_refl _) _⟩
end Go.Proofs.YthpcnekidlhfpaaDoor
