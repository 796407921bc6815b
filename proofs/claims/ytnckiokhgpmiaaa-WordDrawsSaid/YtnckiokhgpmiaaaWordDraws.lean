/- WordDraws: whatever the word, the law returns true. -/
import Derived.Test.YtnckiokhgpmiaaaWordD
import Derived.OpenShut
namespace Go.Proofs.Ytnckiokhgpmiaaa.wordDraws
open Go.RowKit

set_option maxHeartbeats 1000000 in
theorem walk_plain (w : World) (n : Int) (h0 : 0 ≤ n) (h1 : n < 2147483648) :
    Calls Try.prog 3 #[.int .u32 n] w fun e w' => e = .returned (.bool true) ∧ Below w.heap.size w w' := by
  have e1 : isDrawB n = false := by unfold isDrawB; simp; omega
  have e2 : drawN n = n + 2147483648 := by unfold drawN; rw [if_pos h1]
  have E1 := Lib.hid e1; have E2 := Lib.hid e2
  have hd : isDrawB (n + 2147483648) = true := by unfold isDrawB; simp; omega
  have HD := Lib.hid hd
  clear e1 e2 hd
  go_enter Try.func3, Try.ntmps3
  go_wp2_with fail
  refine (awake_any _).mono ?_
  rintro e w1 ⟨rfl, hb⟩
  go_wp2_with fail
  refine (draw_any n _ h0 (by omega)).mono ?_
  rintro e _ ⟨rfl, rfl⟩
  rw [E2.out]
  go_wp2_with fail
  refine (isDraw_any n _ h0 (by omega)).mono ?_
  rintro e _ ⟨rfl, rfl⟩
  rw [E1.out]
  go_wp2_with fail
  refine (risDraw_any n _).mono ?_
  rintro e _ ⟨rfl, rfl⟩
  rw [E1.out]
  go_wp2_with fail
  refine (isDraw_any (n + 2147483648) _ (by omega) (by omega)).mono ?_
  rintro e _ ⟨rfl, rfl⟩
  rw [HD.out]
  go_wp2_with fail
  refine (risDraw_any n _).mono ?_
  rintro e _ ⟨rfl, rfl⟩
  rw [E1.out]
  go_wp2_with fail
  go_ret
  exact ⟨rfl, hb⟩
set_option maxHeartbeats 1000000 in
theorem walk_draw (w : World) (n : Int) (h0 : 2147483648 ≤ n) (h1 : n < 4294967296) :
    Calls Try.prog 3 #[.int .u32 n] w fun e w' => e = .returned (.bool true) ∧ Below w.heap.size w w' := by
  have e1 : isDrawB n = true := by unfold isDrawB; simp; omega
  have e2 : drawN n = n := by unfold drawN; rw [if_neg (by omega)]
  have E1 := Lib.hid e1; have E2 := Lib.hid e2
  clear e1 e2
  go_enter Try.func3, Try.ntmps3
  go_wp2_with fail
  refine (awake_any _).mono ?_
  rintro e w1 ⟨rfl, hb⟩
  go_wp2_with fail
  refine (draw_any n _ (by omega) (by omega)).mono ?_
  rintro e _ ⟨rfl, rfl⟩
  rw [E2.out]
  go_wp2_with fail
  refine (isDraw_any n _ (by omega) (by omega)).mono ?_
  rintro e _ ⟨rfl, rfl⟩
  rw [E1.out]
  go_wp2_with fail
  refine (risDraw_any n _).mono ?_
  rintro e _ ⟨rfl, rfl⟩
  rw [E1.out]
  go_wp2_with fail
  refine (isDraw_any n _ (by omega) (by omega)).mono ?_
  rintro e _ ⟨rfl, rfl⟩
  rw [E1.out]
  go_wp2_with fail
  refine (risDraw_any n _).mono ?_
  rintro e _ ⟨rfl, rfl⟩
  rw [E1.out]
  go_wp2_with fail
  go_ret
  exact ⟨rfl, hb⟩
theorem walk (w : World) (n : Int) (hw : (Lit.int .u32 n).wf = true) :
    Calls Try.prog 3 #[.int .u32 n] w fun e w' => e = .returned (.bool true) ∧ Below w.heap.size w w' := by
  have hb := Go.bounds_u32 hw
  by_cases h : n < 2147483648
  · exact walk_plain w n hb.1 h
  · exact walk_draw w n (by omega) (by omega)
end Go.Proofs.Ytnckiokhgpmiaaa.wordDraws
