/- Contracts of layer clock: Tick, Fresh, Over, and what they call. -/
import Derived.Test.YtapjodheimlcdaaClockRef
namespace Go.Proofs.Ytapjodheimlcdaa
open Go.RowKit
set_option maxHeartbeats 400000 in
theorem sum_any (a b : Int) (w : World) (h0 : 0 ≤ a ∧ a < 4294967296) (h1 : 0 ≤ b ∧ b < 4294967296) :
    Calls Try.prog 14 #[.int .u32 a, .int .u32 b] w fun e w' => e = .returned (.int .u64 (a + b)) ∧ w = w' := by
  obtain ⟨a0, a1⟩ := h0
  obtain ⟨b0, b1⟩ := h1
  go_enter Try.func14, Try.ntmps14
  go_wp2_with fail
  go_ret
  exact ⟨rfl, rfl⟩
set_option maxHeartbeats 400000 in
theorem atEnd_any (n : Int) (w : World) (h0 : 0 ≤ n ∧ n < 4294967296) :
    Calls Try.prog 15 #[.int .u32 n] w fun e w' => e = .returned (.bool (decide (1073741824 ≤ n))) ∧ w = w' := by
  obtain ⟨a0, a1⟩ := h0
  go_enter Try.func15, Try.ntmps15
  go_wp2_with fail
  go_ret
  exact ⟨rfl, rfl⟩
set_option maxHeartbeats 400000 in
theorem above_any (n a b : Int) (w : World) (h0 : 0 ≤ n ∧ n < 4294967296) (h1 : 0 ≤ a ∧ a < 4294967296) (h2 : 0 ≤ b ∧ b < 4294967296) :
    Calls Try.prog 16 #[.int .u32 n, .int .u32 a, .int .u32 b] w fun e w' => e = .returned (.bool (decide (a + b < n))) ∧ w = w' := by
  obtain ⟨n0, n1⟩ := h0
  go_enter Try.func16, Try.ntmps16
  go_wp2_with fail
  refine (sum_any a b _ h1 h2).mono ?_
  rintro e w' ⟨rfl, rfl⟩
  go_wp2_with fail
  go_ret
  exact ⟨rfl, rfl⟩
set_option maxHeartbeats 400000 in
theorem tick_any (now b : Int) (w : World) (h0 : 0 ≤ now ∧ now < 4294967296) (h1 : 0 ≤ b ∧ b < 4294967296) :
    Calls Try.prog 8 #[.int .u32 now, .int .u32 b] w fun e w' => e = .returned (.int .u32 (tickN now b)) ∧ w = w' := by
  have s0 : 0 ≤ now + b := by omega
  have s1 : now + b < 8589934592 := by omega
  by_cases h : 1073741824 < now + b
  · have HT := Lib.hid (show tickN now b = 1073741824 by unfold tickN; rw [if_pos h])
    go_enter Try.func8, Try.ntmps8
    go_wp2_with fail
    refine (sum_any now b _ h0 h1).mono ?_
    rintro e w' ⟨rfl, rfl⟩
    go_wp2_with fail
    go_ret
    exact ⟨ret_int HT.out.symm, rfl⟩
  · have HT := Lib.hid (show tickN now b = now + b by unfold tickN; rw [if_neg h])
    have hle : now + b ≤ 1073741824 := by omega
    go_enter Try.func8, Try.ntmps8
    go_wp2_with fail
    refine (sum_any now b _ h0 h1).mono ?_
    rintro e w' ⟨rfl, rfl⟩
    go_wp2_with fail
    go_ret
    exact ⟨ret_int HT.out.symm, rfl⟩
set_option maxHeartbeats 400000 in
theorem fresh_any (now t d : Int) (w : World) (h0 : 0 ≤ now ∧ now < 4294967296) (h1 : 0 ≤ t ∧ t < 4294967296) (h2 : 0 ≤ d ∧ d < 4294967296) :
    Calls Try.prog 10 #[.int .u32 now, .int .u32 t, .int .u32 d] w fun e w' => e = .returned (.bool (freshB now t d)) ∧ w = w' := by
  cases hn : decide (1073741824 ≤ now) with
  | true =>
    have HT := Lib.hid (show freshB now t d = false from decide_eq_false (by have := of_decide_eq_true hn; omega))
    go_enter Try.func10, Try.ntmps10
    go_wp2_with (first | (go_at_call 15; refine (atEnd_any _ _ (by assumption)).mono ?_; rintro e w' ⟨rfl, rfl⟩))
    go_ret
    exact ⟨ret_bool HT.out.symm, rfl⟩
  | false =>
    cases ht : decide (1073741824 ≤ t) with
    | true =>
      have HT := Lib.hid (show freshB now t d = false from decide_eq_false (by have := of_decide_eq_true ht; omega))
      go_enter Try.func10, Try.ntmps10
      go_wp2_with (first | (go_at_call 15; refine (atEnd_any _ _ (by assumption)).mono ?_; rintro e w' ⟨rfl, rfl⟩))
      go_ret
      exact ⟨ret_bool HT.out.symm, rfl⟩
    | false =>
      have hn' := of_decide_eq_false hn
      have ht' := of_decide_eq_false ht
      cases ha : decide (t + d < now) with
      | true =>
        have HT := Lib.hid (show freshB now t d = false from decide_eq_false (by have := of_decide_eq_true ha; omega))
        clear hn' ht'
        go_enter Try.func10, Try.ntmps10
        go_wp2_with (first
          | (go_at_call 15; refine (atEnd_any _ _ (by assumption)).mono ?_; rintro e w' ⟨rfl, rfl⟩)
          | (go_at_call 16; refine (above_any _ _ _ _ (by assumption) (by assumption) (by assumption)).mono ?_; rintro e w' ⟨rfl, rfl⟩))
        go_ret
        exact ⟨ret_bool HT.out.symm, rfl⟩
      | false =>
        cases hb : decide (now + d < t) with
        | true =>
          have HT := Lib.hid (show freshB now t d = false from decide_eq_false (by have := of_decide_eq_true hb; omega))
          clear hn' ht'
          go_enter Try.func10, Try.ntmps10
          go_wp2_with (first
            | (go_at_call 15; refine (atEnd_any _ _ (by assumption)).mono ?_; rintro e w' ⟨rfl, rfl⟩)
            | (go_at_call 16; refine (above_any _ _ _ _ (by assumption) (by assumption) (by assumption)).mono ?_; rintro e w' ⟨rfl, rfl⟩))
          go_ret
          exact ⟨ret_bool HT.out.symm, rfl⟩
        | false =>
          have HT := Lib.hid (show freshB now t d = true from decide_eq_true (by have := of_decide_eq_false ha; have := of_decide_eq_false hb; omega))
          clear hn' ht'
          go_enter Try.func10, Try.ntmps10
          go_wp2_with (first
            | (go_at_call 15; refine (atEnd_any _ _ (by assumption)).mono ?_; rintro e w' ⟨rfl, rfl⟩)
            | (go_at_call 16; refine (above_any _ _ _ _ (by assumption) (by assumption) (by assumption)).mono ?_; rintro e w' ⟨rfl, rfl⟩))
          go_ret
          exact ⟨ret_bool HT.out.symm, rfl⟩
set_option maxHeartbeats 400000 in
theorem over_any (now t d : Int) (w : World) (h0 : 0 ≤ now ∧ now < 4294967296) (h1 : 0 ≤ t ∧ t < 4294967296) (h2 : 0 ≤ d ∧ d < 4294967296) :
    Calls Try.prog 12 #[.int .u32 now, .int .u32 t, .int .u32 d] w fun e w' => e = .returned (.bool (overB now t d)) ∧ w = w' := by
  cases hn : decide (1073741824 ≤ now) with
  | true =>
    have HT := Lib.hid (show overB now t d = true from decide_eq_true (.inl (of_decide_eq_true hn)))
    go_enter Try.func12, Try.ntmps12
    go_wp2_with (first | (go_at_call 15; refine (atEnd_any _ _ (by assumption)).mono ?_; rintro e w' ⟨rfl, rfl⟩))
    go_ret
    exact ⟨ret_bool HT.out.symm, rfl⟩
  | false =>
    have hn' := of_decide_eq_false hn
    have HT := Lib.hid (show overB now t d = decide (t + d < now) by unfold overB; congr 1; apply propext; omega)
    clear hn'
    go_enter Try.func12, Try.ntmps12
    go_wp2_with (first
      | (go_at_call 15; refine (atEnd_any _ _ (by assumption)).mono ?_; rintro e w' ⟨rfl, rfl⟩)
      | (go_at_call 16; refine (above_any _ _ _ _ (by assumption) (by assumption) (by assumption)).mono ?_; rintro e w' ⟨rfl, rfl⟩))
    go_ret
    exact ⟨ret_bool HT.out.symm, rfl⟩
end Go.Proofs.Ytapjodheimlcdaa
