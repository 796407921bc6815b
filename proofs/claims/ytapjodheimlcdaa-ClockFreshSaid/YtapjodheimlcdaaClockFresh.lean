/- The walk of ClockFresh. -/
import Derived.Test.YtapjodheimlcdaaClockLaws
namespace Go.Proofs.Ytapjodheimlcdaa.clockLaws
open Go.RowKit

set_option maxHeartbeats 4000000 in
theorem fresh_core (w : World) (now t d b wd : Int) (h0 : 0 ≤ now ∧ now ≤ 1073741824) (h1 : 0 ≤ t ∧ t < 4294967296) (h2 : 0 ≤ d ∧ d < 4294967296) (h3 : 0 ≤ b ∧ b < 4294967296) (f0 : Bool)
    (hf0 : freshB now t 0 = f0) (hq : ((now == t) && decide (now < 1073741824)) = f0) (hAF : overB now t d = true → freshB now t d = false ∧ overB (tickN now b) t d = true) (hF : freshB now t d = true → freshB t now d = true ∧ (d < 1073741824 → freshB now t wd = true)) (hw : wd = if d < 536870912 then d + 1 else 1073741824) :
    Calls Try.prog 4 #[.int .u32 now, .int .u32 t, .int .u32 d, .int .u32 b] w fun e w' => e = .returned (.bool true) ∧ w = w' := by
  have r1 := tick_range (show 0 ≤ now ∧ now < 4294967296 by omega) h3
  have r2 : now ≤ tickN now b := by unfold tickN; split <;> omega
  have dn : decide (1073741824 < now) = false := by simp; omega
  have hq' : ∃ x y, (now == t) = x ∧ decide (now < 1073741824) = y ∧ (x && y) = f0 := ⟨_, _, rfl, rfl, hq⟩
  obtain ⟨x, y, hx, hy, hxy⟩ := hq'
  clear hq
  subst hxy
  by_cases hd1 : d < 536870912
  · have hwd : wd = d + 1 := by rw [hw, if_pos hd1]
    subst hwd
    clear hw
    have dw : decide (1073741824 ≤ d) = false := by simp; omega
    have wok : freshB now t d = true → freshB t now d = true ∧ freshB now t (d + 1) = true := fun h => ⟨(hF h).1, (hF h).2 (by omega)⟩
    clear hF
    cases hA : overB now t d with
    | true =>
      obtain ⟨g1, g2⟩ := hAF hA
      clear hAF wok
      cases x <;> cases y
      all_goals
        go_enter Try.func4, Try.ntmps4
        go_wp2_with (first
            | (go_at_call 7; refine (awake_any _).mono ?_; rintro e w' ⟨rfl, rfl⟩)
            | (go_at_call 10; refine (fresh_any _ _ _ _ (by omega) (by omega) (by omega)).mono ?_; rintro e w' ⟨rfl, rfl⟩)
            | (go_at_call 8; refine (tick_any _ _ _ (by omega) (by omega)).mono ?_; rintro e w' ⟨rfl, rfl⟩)
            | (go_at_call 12; refine (over_any _ _ _ _ (by omega) (by omega) (by omega)).mono ?_; rintro e w' ⟨rfl, rfl⟩))
        go_ret
        exact ⟨rfl, rfl⟩
    | false =>
      clear hAF
      cases hf : freshB now t d with
      | true =>
        obtain ⟨g1, g2⟩ := wok hf
        clear wok
        cases x <;> cases y
        all_goals
          go_enter Try.func4, Try.ntmps4
          go_wp2_with (first
              | (go_at_call 7; refine (awake_any _).mono ?_; rintro e w' ⟨rfl, rfl⟩)
              | (go_at_call 10; refine (fresh_any _ _ _ _ (by omega) (by omega) (by omega)).mono ?_; rintro e w' ⟨rfl, rfl⟩)
              | (go_at_call 8; refine (tick_any _ _ _ (by omega) (by omega)).mono ?_; rintro e w' ⟨rfl, rfl⟩)
              | (go_at_call 12; refine (over_any _ _ _ _ (by omega) (by omega) (by omega)).mono ?_; rintro e w' ⟨rfl, rfl⟩))
          go_ret
          exact ⟨rfl, rfl⟩
      | false =>
        clear wok
        cases x <;> cases y
        all_goals
          go_enter Try.func4, Try.ntmps4
          go_wp2_with (first
              | (go_at_call 7; refine (awake_any _).mono ?_; rintro e w' ⟨rfl, rfl⟩)
              | (go_at_call 10; refine (fresh_any _ _ _ _ (by omega) (by omega) (by omega)).mono ?_; rintro e w' ⟨rfl, rfl⟩)
              | (go_at_call 8; refine (tick_any _ _ _ (by omega) (by omega)).mono ?_; rintro e w' ⟨rfl, rfl⟩)
              | (go_at_call 12; refine (over_any _ _ _ _ (by omega) (by omega) (by omega)).mono ?_; rintro e w' ⟨rfl, rfl⟩))
          go_ret
          exact ⟨rfl, rfl⟩
  · have hwd : wd = 1073741824 := by rw [hw, if_neg hd1]
    subst hwd
    clear hw
    have ds : decide (d < 536870912) = false := by simpa using hd1
    by_cases hd2 : d < 1073741824
    · have dw : decide (1073741824 ≤ d) = false := by simp; omega
      have wok : freshB now t d = true → freshB t now d = true ∧ freshB now t 1073741824 = true := fun h => ⟨(hF h).1, (hF h).2 hd2⟩
      clear hF
      cases hA : overB now t d with
      | true =>
        obtain ⟨g1, g2⟩ := hAF hA
        clear hAF wok
        cases x <;> cases y
        all_goals
          go_enter Try.func4, Try.ntmps4
          go_wp2_with (first
              | (go_at_call 7; refine (awake_any _).mono ?_; rintro e w' ⟨rfl, rfl⟩)
              | (go_at_call 10; refine (fresh_any _ _ _ _ (by omega) (by omega) (by omega)).mono ?_; rintro e w' ⟨rfl, rfl⟩)
              | (go_at_call 8; refine (tick_any _ _ _ (by omega) (by omega)).mono ?_; rintro e w' ⟨rfl, rfl⟩)
              | (go_at_call 12; refine (over_any _ _ _ _ (by omega) (by omega) (by omega)).mono ?_; rintro e w' ⟨rfl, rfl⟩))
          go_ret
          exact ⟨rfl, rfl⟩
      | false =>
        clear hAF
        cases hf : freshB now t d with
        | true =>
          obtain ⟨g1, g2⟩ := wok hf
          clear wok
          cases x <;> cases y
          all_goals
            go_enter Try.func4, Try.ntmps4
            go_wp2_with (first
                | (go_at_call 7; refine (awake_any _).mono ?_; rintro e w' ⟨rfl, rfl⟩)
                | (go_at_call 10; refine (fresh_any _ _ _ _ (by omega) (by omega) (by omega)).mono ?_; rintro e w' ⟨rfl, rfl⟩)
                | (go_at_call 8; refine (tick_any _ _ _ (by omega) (by omega)).mono ?_; rintro e w' ⟨rfl, rfl⟩)
                | (go_at_call 12; refine (over_any _ _ _ _ (by omega) (by omega) (by omega)).mono ?_; rintro e w' ⟨rfl, rfl⟩))
            go_ret
            exact ⟨rfl, rfl⟩
        | false =>
          clear wok
          cases x <;> cases y
          all_goals
            go_enter Try.func4, Try.ntmps4
            go_wp2_with (first
                | (go_at_call 7; refine (awake_any _).mono ?_; rintro e w' ⟨rfl, rfl⟩)
                | (go_at_call 10; refine (fresh_any _ _ _ _ (by omega) (by omega) (by omega)).mono ?_; rintro e w' ⟨rfl, rfl⟩)
                | (go_at_call 8; refine (tick_any _ _ _ (by omega) (by omega)).mono ?_; rintro e w' ⟨rfl, rfl⟩)
                | (go_at_call 12; refine (over_any _ _ _ _ (by omega) (by omega) (by omega)).mono ?_; rintro e w' ⟨rfl, rfl⟩))
            go_ret
            exact ⟨rfl, rfl⟩
    · have wok : freshB now t d = true → freshB t now d = true := fun h => (hF h).1
      clear hF
      cases hA : overB now t d with
      | true =>
        obtain ⟨g1, g2⟩ := hAF hA
        clear hAF wok
        cases x <;> cases y
        all_goals
          go_enter Try.func4, Try.ntmps4
          go_wp2_with (first
              | (go_at_call 7; refine (awake_any _).mono ?_; rintro e w' ⟨rfl, rfl⟩)
              | (go_at_call 10; refine (fresh_any _ _ _ _ (by omega) (by omega) (by omega)).mono ?_; rintro e w' ⟨rfl, rfl⟩)
              | (go_at_call 8; refine (tick_any _ _ _ (by omega) (by omega)).mono ?_; rintro e w' ⟨rfl, rfl⟩)
              | (go_at_call 12; refine (over_any _ _ _ _ (by omega) (by omega) (by omega)).mono ?_; rintro e w' ⟨rfl, rfl⟩))
          go_ret
          exact ⟨rfl, rfl⟩
      | false =>
        clear hAF
        cases hf : freshB now t d with
        | true =>
          have g1 := wok hf
          clear wok
          cases x <;> cases y
          all_goals
            go_enter Try.func4, Try.ntmps4
            go_wp2_with (first
                | (go_at_call 7; refine (awake_any _).mono ?_; rintro e w' ⟨rfl, rfl⟩)
                | (go_at_call 10; refine (fresh_any _ _ _ _ (by omega) (by omega) (by omega)).mono ?_; rintro e w' ⟨rfl, rfl⟩)
                | (go_at_call 8; refine (tick_any _ _ _ (by omega) (by omega)).mono ?_; rintro e w' ⟨rfl, rfl⟩)
                | (go_at_call 12; refine (over_any _ _ _ _ (by omega) (by omega) (by omega)).mono ?_; rintro e w' ⟨rfl, rfl⟩))
            go_ret
            exact ⟨rfl, rfl⟩
        | false =>
          clear wok
          cases x <;> cases y
          all_goals
            go_enter Try.func4, Try.ntmps4
            go_wp2_with (first
                | (go_at_call 7; refine (awake_any _).mono ?_; rintro e w' ⟨rfl, rfl⟩)
                | (go_at_call 10; refine (fresh_any _ _ _ _ (by omega) (by omega) (by omega)).mono ?_; rintro e w' ⟨rfl, rfl⟩)
                | (go_at_call 8; refine (tick_any _ _ _ (by omega) (by omega)).mono ?_; rintro e w' ⟨rfl, rfl⟩)
                | (go_at_call 12; refine (over_any _ _ _ _ (by omega) (by omega) (by omega)).mono ?_; rintro e w' ⟨rfl, rfl⟩))
            go_ret
            exact ⟨rfl, rfl⟩
theorem fresh (w : World) (now t d b : Int) (h0 : 0 ≤ now ∧ now < 4294967296) (h1 : 0 ≤ t ∧ t < 4294967296) (h2 : 0 ≤ d ∧ d < 4294967296) (h3 : 0 ≤ b ∧ b < 4294967296) :
    Calls Try.prog 4 #[.int .u32 now, .int .u32 t, .int .u32 d, .int .u32 b] w fun e w' => e = .returned (.bool true) ∧ w = w' := by
  by_cases hn : 1073741824 < now
  · go_enter Try.func4, Try.ntmps4
    go_wp2_with (first
    | (go_at_call 7; refine (awake_any _).mono ?_; rintro e w' ⟨rfl, rfl⟩)
    | (go_at_call 10; refine (fresh_any _ _ _ _ (by omega) (by omega) (by omega)).mono ?_; rintro e w' ⟨rfl, rfl⟩)
    | (go_at_call 8; refine (tick_any _ _ _ (by omega) (by omega)).mono ?_; rintro e w' ⟨rfl, rfl⟩)
    | (go_at_call 12; refine (over_any _ _ _ _ (by omega) (by omega) (by omega)).mono ?_; rintro e w' ⟨rfl, rfl⟩))
    go_ret
    exact ⟨rfl, rfl⟩
  · refine fresh_core w now t d b _ ⟨h0.1, by omega⟩ h1 h2 h3 _ rfl ?_ ?_ ?_ rfl
    · unfold freshB
      rw [Bool.eq_iff_iff]
      simp
      omega
    · intro h
      have h' := of_decide_eq_true h
      refine ⟨decide_eq_false (by omega), decide_eq_true ?_⟩
      unfold tickN; split <;> omega
    · intro h
      have h' := of_decide_eq_true h
      refine ⟨decide_eq_true (by omega), fun hd => decide_eq_true ?_⟩
      split <;> omega
end Go.Proofs.Ytapjodheimlcdaa.clockLaws
