/- WordFinds: whatever the rows and places, the law returns true. -/
import Derived.Test.YtnckiokhgpmiaaaWordD
import Derived.OpenShut
namespace Go.Proofs.Ytnckiokhgpmiaaa.wordFinds
open Go.RowKit

theorem same_self (A : List Int) : sameB A A = true := decide_eq_true rfl
theorem rsame_yes (v1 v2 : Value) (A : List Int) (w : World) (h1 : Ints .u32 w v1 A) (h2 : Ints .u32 w v2 A) :
    Calls Try.prog 16 #[v1, v2] w fun e w' => e = .returned (.bool true) ∧ Reads w w' := by
  have := rsame_any v1 v2 A A w h1 h2
  rw [same_self] at this
  exact this
set_option maxHeartbeats 1000000 in
theorem walk_long (w : World) (a1 a2 : Option Addr) (n1 c1 n2 c2 : Nat) (f t : Int) (h : 300 < n1 ∨ 300 < n2) :
    Calls Try.prog 4 #[.slice a1 n1 c1, .slice a2 n2 c2, .int .i64 f, .int .i64 t] w fun e w' => e = .returned (.bool true) ∧ Below w.heap.size w w' := by
  have H := Lib.hid h; clear h
  by_cases h1 : 300 < n1
  · go_enter Try.func4, Try.ntmps4
    go_wp2_with fail
    refine (awake_any _).mono ?_
    rintro e w1 ⟨rfl, hb⟩
    go_wp2_with fail
    refine (awake_any _).mono ?_
    rintro e w2 ⟨rfl, hb2⟩
    go_wp2_with fail
    go_ret
    exact ⟨rfl, hb.trans (hb2.mono hb.size)⟩
  · have h2 : 300 < n2 := by have := H.out; omega
    go_enter Try.func4, Try.ntmps4
    go_wp2_with fail
    refine (awake_any _).mono ?_
    rintro e w1 ⟨rfl, hb⟩
    go_wp2_with fail
    refine (awake_any _).mono ?_
    rintro e w2 ⟨rfl, hb2⟩
    go_wp2_with fail
    go_ret
    exact ⟨rfl, hb.trans (hb2.mono hb.size)⟩
set_option maxHeartbeats 2000000 in
theorem walk_main (w : World) (v1 v2 : Value) (A P : List Int) (f t : Int) (hA : Ints .u32 w v1 A) (hP : Ints .u32 w v2 P) (h1 : A.length ≤ 300) (h2 : P.length ≤ 300) :
    Calls Try.prog 4 #[v1, v2, .int .i64 f, .int .i64 t] w fun e w' => e = .returned (.bool true) ∧ Below w.heap.size w w' := by
  obtain ⟨a1, c1, rfl⟩ := hA.form
  obtain ⟨a2, c2, rfl⟩ := hP.form
  go_enter Try.func4, Try.ntmps4
  go_wp2_with fail
  refine (awake_any _).mono ?_
  rintro e w1 ⟨rfl, hb1⟩
  replace hA := hA.below hb1
  replace hP := hP.below hb1
  go_wp2_with fail
  refine (find_any _ _ A P _ hA hP (by omega) (by omega)).mono ?_
  rintro e w2 ⟨rfl, hr⟩
  replace hA := hA.reads hr
  replace hP := hP.reads hr
  replace hb1 := hb1.trans (hr.below _)
  clear hr
  go_wp2_with fail
  refine (rfind_any _ _ A P _ hA hP (by omega) (by omega)).mono ?_
  rintro e w3 ⟨rfl, hr⟩
  replace hA := hA.reads hr
  replace hP := hP.reads hr
  replace hb1 := hb1.trans (hr.below _)
  clear hr
  go_wp2_with fail
  refine (cut_any _ f t A _ hA (by omega)).mono ?_
  rintro e w4 ⟨u, rfl, hu, _, hb⟩
  replace hA := hA.below hb
  replace hP := hP.below hb
  replace hb1 := hb1.trans (hb.mono hb1.size)
  clear hb
  go_wp2_with fail
  refine (rcut_any _ f t A _ hA (by omega)).mono ?_
  rintro e w5 ⟨u', rfl, hu', _, hb⟩
  replace hA := hA.below hb
  replace hP := hP.below hb
  replace hu := hu.below hb
  replace hb1 := hb1.trans (hb.mono hb1.size)
  clear hb
  by_cases hz : P = []
  · subst hz
    go_wp2_with fail
    go_quiet (first
      | (go_at_call 17; exact Calls.quiet_of (same_any _ _ A [] _ (hA.reads (reads1 _ _)) (hP.reads (reads1 _ _))))
      | (go_at_call 16; exact Calls.quiet_of (rsame_yes _ _ (cutL A f t) _ (hu.reads (reads1 _ _)) (hu'.reads (reads1 _ _))))
      | (go_at_call 16; exact Calls.quiet_of (rsame_any _ _ A [] _ (hA.reads (reads1 _ _)) (hP.reads (reads1 _ _)))))
    go_wp2_with fail
    go_ret
    exact ⟨rfl, hb1.trans ((reads1 _ _).below _)⟩
  · obtain ⟨b, o, c, he, hl, hm, hc⟩ := hP.cells hz
    have hlen : 0 < P.length := List.length_pos_iff.2 hz
    have e0 := hc 0 hlen
    rw [Nat.add_zero] at e0
    have hpos : (0 : Int) < (P.length : Int) := by omega
    simp at he
    obtain ⟨rfl, rfl⟩ := he
    have hb0 : ((P.length : Int) == 0) = false := by simp; exact hz
    clear hc
    go_wp2_with fail
    go_quiet (first
      | (go_at_call 17; exact Calls.quiet_of (same_any _ _ A P _ (hA.reads (reads1 _ _)) (hP.reads (reads1 _ _))))
      | (go_at_call 16; exact Calls.quiet_of (rsame_yes _ _ (cutL A f t) _ (hu.reads (reads1 _ _)) (hu'.reads (reads1 _ _))))
      | (go_at_call 16; exact Calls.quiet_of (rsame_any _ _ A P _ (hA.reads (reads1 _ _)) (hP.reads (reads1 _ _))))
      | (go_at_call 18; exact Calls.quiet_of_same ((has_any _ _ A _ (hA.reads (reads1 _ _))).mono fun _ _ h => ⟨h.1, h.2.symm⟩))
      | (go_at_call 19; exact Calls.quiet_of_same ((rhas_any _ _ A _ (hA.reads (reads1 _ _))).mono fun _ _ h => ⟨h.1, h.2.symm⟩)))
    go_wp2_with fail
    go_ret
    exact ⟨rfl, hb1.trans ((reads1 _ _).below _)⟩
theorem walk (w : World) (v1 : Value) (A : List Int) (h1 : Ints .u32 w v1 A) (_ : ∀ n ∈ A, (Lit.int .u32 n).wf = true) (v2 : Value) (P : List Int) (h2 : Ints .u32 w v2 P) (_ : ∀ n ∈ P, (Lit.int .u32 n).wf = true) (f : Int) (_ : (Lit.int .i64 f).wf = true) (t : Int) (_ : (Lit.int .i64 t).wf = true) :
    Calls Try.prog 4 #[v1, v2, .int .i64 f, .int .i64 t] w fun e w' => e = .returned (.bool true) ∧ Below w.heap.size w w' := by
  by_cases h : 300 < A.length ∨ 300 < P.length
  · obtain ⟨a1, c1, rfl⟩ := h1.form
    obtain ⟨a2, c2, rfl⟩ := h2.form
    exact walk_long w a1 a2 _ c1 _ c2 f t h
  · exact walk_main w v1 v2 A P f t h1 h2 (by omega) (by omega)
end Go.Proofs.Ytnckiokhgpmiaaa.wordFinds
