/- The walks of layer clock's statements, out of the contracts tick_any, fresh_any, over_any and the reference's. -/
import Derived.Test.YtapjodheimlcdaaClockProg
namespace Go.Proofs.Ytapjodheimlcdaa.clockLaws
open Go.RowKit

theorem awake_any (w : World) : Calls Try.prog 7 #[] w fun e w' => e = .returned (.bool true) ∧ w = w' := by
  have f1 : freshB 5 3 2 = true := by decide
  have f2 : freshB 6 3 2 = false := by decide
  have f3 : freshB 1 3 2 = true := by decide
  have f4 : freshB 1073741824 1073741824 9 = false := by decide
  have t1 : tickN 1073741823 5 = 1073741824 := by decide
  have t2 : tickN 3 4 = 7 := by decide
  have o1 : overB 6 3 2 = true := by decide
  have o2 : overB 5 3 2 = false := by decide
  have o3 : overB 0 9 2 = false := by decide
  go_enter Try.func7, Try.ntmps7
  go_wp2_with (first
    | (go_at_call 10; refine (fresh_any _ _ _ _ (by omega) (by omega) (by omega)).mono ?_; rintro e w' ⟨rfl, rfl⟩)
    | (go_at_call 8; refine (tick_any _ _ _ (by omega) (by omega)).mono ?_; rintro e w' ⟨rfl, rfl⟩)
    | (go_at_call 12; refine (over_any _ _ _ _ (by omega) (by omega) (by omega)).mono ?_; rintro e w' ⟨rfl, rfl⟩))
  go_ret
  exact ⟨rfl, rfl⟩
theorem asks (w : World) (now t d : Int) (h0 : 0 ≤ now ∧ now < 4294967296) (h1 : 0 ≤ t ∧ t < 4294967296) (h2 : 0 ≤ d ∧ d < 4294967296) :
    Calls Try.prog 3 #[.int .u32 now, .int .u32 t, .int .u32 d] w fun e w' => e = .returned (.bool true) ∧ w = w' := by
  go_enter Try.func3, Try.ntmps3
  go_wp2_with (first
    | (go_at_call 7; refine (awake_any _).mono ?_; rintro e w' ⟨rfl, rfl⟩)
    | (go_at_call 10; refine (fresh_any _ _ _ _ h0 h1 h2).mono ?_; rintro e w' ⟨rfl, rfl⟩)
    | (go_at_call 8; refine (tick_any _ _ _ h0 h1).mono ?_; rintro e w' ⟨rfl, rfl⟩)
    | (go_at_call 12; refine (over_any _ _ _ _ h0 h1 h2).mono ?_; rintro e w' ⟨rfl, rfl⟩)
    | (go_at_call 11; refine (rfresh_any _ _ _ _ h0 h1 h2).mono ?_; rintro e w' ⟨rfl, rfl⟩)
    | (go_at_call 9; refine (rtick_any _ _ _ h0 h1).mono ?_; rintro e w' ⟨rfl, rfl⟩)
    | (go_at_call 13; refine (rover_any _ _ _ _ h0 h1 h2).mono ?_; rintro e w' ⟨rfl, rfl⟩))
  go_ret
  exact ⟨rfl, rfl⟩
theorem tick_range {now b : Int} (h0 : 0 ≤ now ∧ now < 4294967296) (h1 : 0 ≤ b ∧ b < 4294967296) : 0 ≤ tickN now b ∧ tickN now b ≤ 1073741824 := by
  unfold tickN; split <;> omega
theorem adds (w : World) (now a b : Int) (h0 : 0 ≤ now ∧ now < 4294967296) (h1 : 0 ≤ a ∧ a < 4294967296) (h2 : 0 ≤ b ∧ b < 4294967296) :
    Calls Try.prog 5 #[.int .u32 now, .int .u32 a, .int .u32 b] w fun e w' => e = .returned (.bool true) ∧ w = w' := by
  have r1 := tick_range h0 h1
  by_cases ga : 2147483648 < a
  · go_enter Try.func5, Try.ntmps5
    go_wp2_with (first
    | (go_at_call 7; refine (awake_any _).mono ?_; rintro e w' ⟨rfl, rfl⟩)
    | (go_at_call 10; refine (fresh_any _ _ _ _ (by omega) (by omega) (by omega)).mono ?_; rintro e w' ⟨rfl, rfl⟩)
    | (go_at_call 8; refine (tick_any _ _ _ (by omega) (by omega)).mono ?_; rintro e w' ⟨rfl, rfl⟩)
    | (go_at_call 12; refine (over_any _ _ _ _ (by omega) (by omega) (by omega)).mono ?_; rintro e w' ⟨rfl, rfl⟩))
    go_ret
    exact ⟨rfl, rfl⟩
  · by_cases gb : 2147483648 ≤ b
    · have da : decide (2147483648 < a) = false := by simpa using ga
      go_enter Try.func5, Try.ntmps5
      go_wp2_with (first
    | (go_at_call 7; refine (awake_any _).mono ?_; rintro e w' ⟨rfl, rfl⟩)
    | (go_at_call 10; refine (fresh_any _ _ _ _ (by omega) (by omega) (by omega)).mono ?_; rintro e w' ⟨rfl, rfl⟩)
    | (go_at_call 8; refine (tick_any _ _ _ (by omega) (by omega)).mono ?_; rintro e w' ⟨rfl, rfl⟩)
    | (go_at_call 12; refine (over_any _ _ _ _ (by omega) (by omega) (by omega)).mono ?_; rintro e w' ⟨rfl, rfl⟩))
      go_ret
      exact ⟨rfl, rfl⟩
    · have da : decide (2147483648 < a) = false := by simpa using ga
      have db : decide (2147483648 ≤ b) = false := by simpa using gb
      have hT : tickN (tickN now a) b = tickN now (a + b) := by unfold tickN; repeat' split
                                                                all_goals omega
      have hs : a + b < 4294967296 := by omega
      have hs2 : 0 ≤ a + b := by omega
      go_enter Try.func5, Try.ntmps5
      go_wp2_with (first
    | (go_at_call 7; refine (awake_any _).mono ?_; rintro e w' ⟨rfl, rfl⟩)
    | (go_at_call 10; refine (fresh_any _ _ _ _ (by omega) (by omega) (by omega)).mono ?_; rintro e w' ⟨rfl, rfl⟩)
    | (go_at_call 8; refine (tick_any _ _ _ (by omega) (by omega)).mono ?_; rintro e w' ⟨rfl, rfl⟩)
    | (go_at_call 12; refine (over_any _ _ _ _ (by omega) (by omega) (by omega)).mono ?_; rintro e w' ⟨rfl, rfl⟩))
      go_ret
      exact ⟨rfl, rfl⟩
theorem over (w : World) (now t d : Int) (h0 : 0 ≤ now ∧ now < 4294967296) (h1 : 0 ≤ t ∧ t < 4294967296) (h2 : 0 ≤ d ∧ d < 4294967296) :
    Calls Try.prog 6 #[.int .u32 now, .int .u32 t, .int .u32 d] w fun e w' => e = .returned (.bool true) ∧ w = w' := by
  by_cases ga : 1073741824 ≤ now
  · go_enter Try.func6, Try.ntmps6
    go_wp2_with (first
    | (go_at_call 7; refine (awake_any _).mono ?_; rintro e w' ⟨rfl, rfl⟩)
    | (go_at_call 10; refine (fresh_any _ _ _ _ (by omega) (by omega) (by omega)).mono ?_; rintro e w' ⟨rfl, rfl⟩)
    | (go_at_call 8; refine (tick_any _ _ _ (by omega) (by omega)).mono ?_; rintro e w' ⟨rfl, rfl⟩)
    | (go_at_call 12; refine (over_any _ _ _ _ (by omega) (by omega) (by omega)).mono ?_; rintro e w' ⟨rfl, rfl⟩))
    go_ret
    exact ⟨rfl, rfl⟩
  · have da : decide (1073741824 ≤ now) = false := by simpa using ga
    by_cases gb : 1073741824 ≤ t
    · go_enter Try.func6, Try.ntmps6
      go_wp2_with (first
    | (go_at_call 7; refine (awake_any _).mono ?_; rintro e w' ⟨rfl, rfl⟩)
    | (go_at_call 10; refine (fresh_any _ _ _ _ (by omega) (by omega) (by omega)).mono ?_; rintro e w' ⟨rfl, rfl⟩)
    | (go_at_call 8; refine (tick_any _ _ _ (by omega) (by omega)).mono ?_; rintro e w' ⟨rfl, rfl⟩)
    | (go_at_call 12; refine (over_any _ _ _ _ (by omega) (by omega) (by omega)).mono ?_; rintro e w' ⟨rfl, rfl⟩))
      go_ret
      exact ⟨rfl, rfl⟩
    · have db : decide (1073741824 ≤ t) = false := by simpa using gb
      by_cases gc : 1073741824 < d
      · go_enter Try.func6, Try.ntmps6
        go_wp2_with (first
    | (go_at_call 7; refine (awake_any _).mono ?_; rintro e w' ⟨rfl, rfl⟩)
    | (go_at_call 10; refine (fresh_any _ _ _ _ (by omega) (by omega) (by omega)).mono ?_; rintro e w' ⟨rfl, rfl⟩)
    | (go_at_call 8; refine (tick_any _ _ _ (by omega) (by omega)).mono ?_; rintro e w' ⟨rfl, rfl⟩)
    | (go_at_call 12; refine (over_any _ _ _ _ (by omega) (by omega) (by omega)).mono ?_; rintro e w' ⟨rfl, rfl⟩))
        go_ret
        exact ⟨rfl, rfl⟩
      · have dc : decide (1073741824 < d) = false := by simpa using gc
        have o2 : overB (tickN now 1073741824) t d = true := decide_eq_true (by unfold tickN; split <;> omega)
        have o3 : tickN now 0 = now := by unfold tickN; split <;> omega
        have r1 := tick_range h0 (show 0 ≤ (1073741824 : Int) ∧ (1073741824 : Int) < 4294967296 by omega)
        by_cases hf : freshB now t d = true
        · have hf' := of_decide_eq_true hf
          have g1 : overB now t d = false := decide_eq_false (by omega)
          have g2 : overB t now d = false := decide_eq_false (by omega)
          clear hf'
          go_enter Try.func6, Try.ntmps6
          go_wp2_with (first
    | (go_at_call 7; refine (awake_any _).mono ?_; rintro e w' ⟨rfl, rfl⟩)
    | (go_at_call 10; refine (fresh_any _ _ _ _ (by omega) (by omega) (by omega)).mono ?_; rintro e w' ⟨rfl, rfl⟩)
    | (go_at_call 8; refine (tick_any _ _ _ (by omega) (by omega)).mono ?_; rintro e w' ⟨rfl, rfl⟩)
    | (go_at_call 12; refine (over_any _ _ _ _ (by omega) (by omega) (by omega)).mono ?_; rintro e w' ⟨rfl, rfl⟩))
          go_ret
          exact ⟨rfl, rfl⟩
        · have hf0 : freshB now t d = false := by simpa using hf
          have hf' := of_decide_eq_false hf0
          by_cases ho : overB now t d = true
          · have ho' := of_decide_eq_true ho
            have g2 : overB t now d = false := decide_eq_false (by omega)
            clear hf' ho' hf
            go_enter Try.func6, Try.ntmps6
            go_wp2_with (first
    | (go_at_call 7; refine (awake_any _).mono ?_; rintro e w' ⟨rfl, rfl⟩)
    | (go_at_call 10; refine (fresh_any _ _ _ _ (by omega) (by omega) (by omega)).mono ?_; rintro e w' ⟨rfl, rfl⟩)
    | (go_at_call 8; refine (tick_any _ _ _ (by omega) (by omega)).mono ?_; rintro e w' ⟨rfl, rfl⟩)
    | (go_at_call 12; refine (over_any _ _ _ _ (by omega) (by omega) (by omega)).mono ?_; rintro e w' ⟨rfl, rfl⟩))
            go_ret
            exact ⟨rfl, rfl⟩
          · have ho0 : overB now t d = false := by simpa using ho
            have ho' := of_decide_eq_false ho0
            have g2 : overB t now d = true := decide_eq_true (by omega)
            clear hf' ho' hf ho
            go_enter Try.func6, Try.ntmps6
            go_wp2_with (first
    | (go_at_call 7; refine (awake_any _).mono ?_; rintro e w' ⟨rfl, rfl⟩)
    | (go_at_call 10; refine (fresh_any _ _ _ _ (by omega) (by omega) (by omega)).mono ?_; rintro e w' ⟨rfl, rfl⟩)
    | (go_at_call 8; refine (tick_any _ _ _ (by omega) (by omega)).mono ?_; rintro e w' ⟨rfl, rfl⟩)
    | (go_at_call 12; refine (over_any _ _ _ _ (by omega) (by omega) (by omega)).mono ?_; rintro e w' ⟨rfl, rfl⟩))
            go_ret
            exact ⟨rfl, rfl⟩
end Go.Proofs.Ytapjodheimlcdaa.clockLaws
