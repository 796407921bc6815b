/- Contracts of the reference of layer clock. -/
import Derived.Test.YtapjodheimlcdaaBase
import Derived.OpenShut
namespace Go.Proofs.Ytapjodheimlcdaa
open Go.RowKit

def tickN (now by' : Int) : Int := if 1073741824 < now + by' then 1073741824 else now + by'
def freshB (now t w : Int) : Bool := decide (now < 1073741824 ∧ t < 1073741824 ∧ now - t ≤ w ∧ t - now ≤ w)
def overB (now t w : Int) : Bool := decide (1073741824 ≤ now ∨ t + w < now)
set_option maxHeartbeats 400000 in
theorem rtick_any (now b : Int) (w : World) (h0 : 0 ≤ now ∧ now < 4294967296) (h1 : 0 ≤ b ∧ b < 4294967296) :
    Calls Try.prog 9 #[.int .u32 now, .int .u32 b] w fun e w' => e = .returned (.int .u32 (tickN now b)) ∧ w = w' := by
  obtain ⟨a0, a1⟩ := h0
  obtain ⟨b0, b1⟩ := h1
  by_cases h : 1073741824 < now + b
  · have HT := Lib.hid (show tickN now b = 1073741824 by unfold tickN; rw [if_pos h])
    go_enter Try.func9, Try.ntmps9
    go_wp2_with fail
    go_ret
    exact ⟨ret_int HT.out.symm, rfl⟩
  · have HT := Lib.hid (show tickN now b = now + b by unfold tickN; rw [if_neg h])
    have hle : now + b ≤ 1073741824 := by omega
    go_enter Try.func9, Try.ntmps9
    go_wp2_with fail
    go_ret
    exact ⟨ret_int HT.out.symm, rfl⟩
set_option maxHeartbeats 400000 in
theorem rfresh_any (now t d : Int) (w : World) (h0 : 0 ≤ now ∧ now < 4294967296) (h1 : 0 ≤ t ∧ t < 4294967296) (h2 : 0 ≤ d ∧ d < 4294967296) :
    Calls Try.prog 11 #[.int .u32 now, .int .u32 t, .int .u32 d] w fun e w' => e = .returned (.bool (freshB now t d)) ∧ w = w' := by
  obtain ⟨a0, a1⟩ := h0
  obtain ⟨b0, b1⟩ := h1
  obtain ⟨c0, c1⟩ := h2
  by_cases hn : 1073741824 ≤ now
  · have HT := Lib.hid (show freshB now t d = false from decide_eq_false (by omega))
    go_enter Try.func11, Try.ntmps11
    go_wp2_with fail
    go_ret
    exact ⟨ret_bool HT.out.symm, rfl⟩
  · by_cases ht : 1073741824 ≤ t
    · have HT := Lib.hid (show freshB now t d = false from decide_eq_false (by omega))
      have d1 : decide (1073741824 ≤ now) = false := by simpa using hn
      go_enter Try.func11, Try.ntmps11
      go_wp2_with fail
      go_ret
      exact ⟨ret_bool HT.out.symm, rfl⟩
    · by_cases hs : now - t < 0
      · have HT := Lib.hid (show freshB now t d = decide (-(now - t) ≤ d) by unfold freshB; congr 1; apply propext; omega)
        go_enter Try.func11, Try.ntmps11
        go_wp2_with fail
        go_ret
        exact ⟨ret_bool HT.out.symm, rfl⟩
      · have HT := Lib.hid (show freshB now t d = decide (now - t ≤ d) by unfold freshB; congr 1; apply propext; omega)
        go_enter Try.func11, Try.ntmps11
        go_wp2_with fail
        go_ret
        exact ⟨ret_bool HT.out.symm, rfl⟩
set_option maxHeartbeats 400000 in
theorem rover_any (now t d : Int) (w : World) (h0 : 0 ≤ now ∧ now < 4294967296) (h1 : 0 ≤ t ∧ t < 4294967296) (h2 : 0 ≤ d ∧ d < 4294967296) :
    Calls Try.prog 13 #[.int .u32 now, .int .u32 t, .int .u32 d] w fun e w' => e = .returned (.bool (overB now t d)) ∧ w = w' := by
  obtain ⟨a0, a1⟩ := h0
  obtain ⟨b0, b1⟩ := h1
  obtain ⟨c0, c1⟩ := h2
  by_cases hn : 1073741824 ≤ now
  · have HT := Lib.hid (show overB now t d = true from decide_eq_true (.inl hn))
    go_enter Try.func13, Try.ntmps13
    go_wp2_with fail
    go_ret
    exact ⟨ret_bool HT.out.symm, rfl⟩
  · have HT := Lib.hid (show overB now t d = decide (t + d < now) by unfold overB; congr 1; apply propext; omega)
    have d1 : decide (1073741824 ≤ now) = false := by simpa using hn
    go_enter Try.func13, Try.ntmps13
    go_wp2_with fail
    go_ret
    exact ⟨ret_bool HT.out.symm, rfl⟩
end Go.Proofs.Ytapjodheimlcdaa
