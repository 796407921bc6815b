/- WordKeeps: whatever the row and places, the law returns true. -/
import Derived.Test.YtnckiokhgpmiaaaWordD
import Derived.OpenShut
namespace Go.Proofs.Ytnckiokhgpmiaaa.wordKeeps
open Go.RowKit

theorem same_self (A : List Int) : sameB A A = true := decide_eq_true rfl
theorem rsame_yes (v1 v2 : Value) (A : List Int) (w : World) (h1 : Ints .u32 w v1 A) (h2 : Ints .u32 w v2 A) :
    Calls Try.prog 16 #[v1, v2] w fun e w' => e = .returned (.bool true) ∧ Reads w w' := by
  have := rsame_any v1 v2 A A w h1 h2
  rw [same_self] at this
  exact this
set_option maxHeartbeats 1000000 in
theorem walk_long (w : World) (a1 : Option Addr) (n1 c1 : Nat) (f t : Int) (h1 : 200 < n1) :
    Calls Try.prog 7 #[.slice a1 n1 c1, .int .i64 f, .int .i64 t] w fun e w' => e = .returned (.bool true) ∧ Below w.heap.size w w' := by
  go_enter Try.func7, Try.ntmps7
  go_wp2_with fail
  refine (awake_any _).mono ?_
  rintro e w1 ⟨rfl, hb⟩
  go_wp2_with fail
  refine (awake_any _).mono ?_
  rintro e w2 ⟨rfl, hb2⟩
  go_wp2_with fail
  go_ret
  exact ⟨rfl, hb.trans (hb2.mono hb.size)⟩
set_option maxHeartbeats 2000000 in
theorem walk_main (w : World) (v1 : Value) (A : List Int) (f t : Int) (hA : Ints .u32 w v1 A) (h1 : A.length ≤ 200) :
    Calls Try.prog 7 #[v1, .int .i64 f, .int .i64 t] w fun e w' => e = .returned (.bool true) ∧ Below w.heap.size w w' := by
  obtain ⟨i0, hi, hz0, hz1, hz2⟩ := info_parts Try.infoU
  obtain ⟨a1, c1, rfl⟩ := hA.form
  have h200 : (A.length : Int) ≤ 200 := by omega
  go_enter Try.func7, Try.ntmps7
  go_wp2_with fail
  refine (awake_any _).mono ?_
  rintro e w1 ⟨rfl, hb1⟩
  go_wp2_with (at_builtin; refine wpList_append_ints rfl (.tmp 21) (.tmp 22) 26 rfl w.heap.size 22 i0 .u32 0 4 Try.underlying26 hi hz0 hz1 hz2 (by decide) _ 0 [] rfl (owns_lit .u32 hb1.size rfl) _ A rfl ((hA.below hb1).alloc _) ?c1 ?c2 ?_)
  case c1 => omega
  case c2 => simp; have := hb1.size; omega
  intro v2 w2 hown hgrow
  have hb2 : Below w.heap.size w w2 := (hb1.alloc hb1.size _).grown hgrow (by simp; have := hb1.size; omega) (fun g hg => by simp [Value.ownBlock] at hg; rw [← hg]; exact hb1.size)
  clear hgrow hb1
  obtain ⟨hI, hF, _⟩ := ints_of_owns hown
  have hform := owns_form hown
  go_wp2_with fail
  refine (cut_any _ f t A _ hI (by omega)).mono ?_
  rintro e w3 ⟨u, rfl, hu, hFu, hb3⟩
  have hI3 := hI.below hb3
  have hown3 : w3.ownsRow w.heap.size 22 1 v2 A.length (A.map (Value.int .u32)) := owns_below hown hb3
  go_wp2_with fail
  refine (find_any _ _ A (cutL A f t) _ hI3 hu (by omega) ?c1).mono ?_
  case c1 => have := cutL_length A f t; omega
  rintro e w4 ⟨rfl, hr⟩
  have hb4 := hb3.trans (hr.below _)
  replace hu := hu.reads hr
  clear hI3 hown3 hr hb3
  go_wp2_with fail
  refine (rsame_yes _ _ A _ (hI.below hb4) (hA.below (hb2.trans (hb4.mono hb2.size)))).mono ?_
  rintro e w5 ⟨rfl, hr⟩
  have hb5 := hb4.trans (hr.below _)
  replace hu := hu.reads hr
  clear hr hb4
  have hown5 := owns_below hown hb5
  have hbw := hb2.trans (hb5.mono hb2.size)
  have hsz := hb2.size
  have hFu2 : From w2.heap.size u := hFu
  clear hI hF hown hFu
  have HA := Lib.hid hA; clear hA
  rcases hform with h0 | ⟨g, cap, rfl, hg1, hg2⟩
  · obtain rfl : A = [] := List.eq_nil_of_length_eq_zero h0
    obtain ⟨a2, c2, rfl⟩ := (ints_of_owns hown5).1.form
    go_wp2_with fail
    go_loop [10] (fun i => i = .int .i64 0) (fun _ => 0)
    case atStart => rfl
    case round =>
      obtain rfl := hrel
      go_wp2_with fail
      refine (rcut_any _ f t [] _ (HA.out.below hbw) (by decide)).mono ?_
      rintro e w6 ⟨u', rfl, hu', _, hb6⟩
      have hu6 := hu.below hb6
      have hbw6 := hbw.trans (hb6.mono hbw.size)
      by_cases hok : cutOk [] f t = true
      · rw [hok]
        go_wp2_with fail
        refine (rsame_yes _ _ (cutL [] f t) _ hu6 hu').mono ?_
        rintro e w7 ⟨rfl, hr⟩
        go_wp2_with fail
        go_ret
        exact ⟨rfl, hbw6.trans (hr.below _)⟩
      · have hok' : cutOk [] f t = false := by simpa using hok
        rw [hok']
        go_wp2_with fail
        go_ret
        exact ⟨rfl, hbw6⟩
  · go_wp2_with fail
    go_loopw [10] (fun i wr => ∃ k : Nat, k ≤ A.length ∧ i = .int .i64 k ∧ (∃ xs, wr.ownsRow w.heap.size 22 1 (.slice (some ⟨g, 0, none⟩) A.length cap) A.length xs) ∧ Below w.heap.size w wr ∧ Ints .u32 wr u (cutL A f t)) (fun i _ => A.length - (intOf i).toNat)
    case atStart => exact ⟨0, Nat.zero_le _, rfl, ⟨_, hown5⟩, hbw, hu⟩
    case round =>
      obtain ⟨k, hk, rfl, ⟨xs, hxs⟩, hbk, huk⟩ := hrel
      by_cases hlt : k < A.length
      · obtain ⟨y, hy⟩ : ∃ y, wr.cell? ⟨g, k, none⟩ = some y := by
          rw [hxs.cellAt k (by omega), List.getElem?_eq_getElem (by rw [hxs.1]; omega)]
          exact ⟨_, rfl⟩
        have hfz := hxs.frozenAt k
        have hnext := (hxs.stored k (.int .u32 99)).1
        have HN := Lib.hid hnext
        have hb6 : Below w.heap.size w (wr.setCell ⟨g, k, none⟩ (.int .u32 99)) := hbk.setCell (p := ⟨g, k, none⟩) hg1 _
        have hu6 := huk.setCell (p := ⟨g, k, none⟩) hFu2 hg2 (.int .u32 99)
        clear hxs hnext
        go_wp2_with fail
        go_roundw
        case rel => exact ⟨k + 1, by omega, by go_num, ⟨_, HN.out⟩, hb6, hu6⟩
        case measure => simp [intOf]; omega
      · obtain rfl : k = A.length := by omega
        clear hxs
        go_wp2_with fail
        refine (rcut_any _ f t A _ (HA.out.below hbk) (by omega)).mono ?_
        rintro e w6 ⟨u', rfl, hu', _, hb6⟩
        have hu6 := huk.below hb6
        have hbw6 := hbk.trans (hb6.mono hbk.size)
        by_cases hok : cutOk A f t = true
        · rw [hok]
          go_wp2_with fail
          refine (rsame_yes _ _ (cutL A f t) _ hu6 hu').mono ?_
          rintro e w7 ⟨rfl, hr⟩
          go_wp2_with fail
          go_ret
          exact ⟨rfl, hbw6.trans (hr.below _)⟩
        · have hok' : cutOk A f t = false := by simpa using hok
          rw [hok']
          go_wp2_with fail
          go_ret
          exact ⟨rfl, hbw6⟩
theorem walk (w : World) (v1 : Value) (A : List Int) (h1 : Ints .u32 w v1 A) (_ : ∀ n ∈ A, (Lit.int .u32 n).wf = true) (f : Int) (_ : (Lit.int .i64 f).wf = true) (t : Int) (_ : (Lit.int .i64 t).wf = true) :
    Calls Try.prog 7 #[v1, .int .i64 f, .int .i64 t] w fun e w' => e = .returned (.bool true) ∧ Below w.heap.size w w' := by
  by_cases h : 200 < A.length
  · obtain ⟨a1, c1, rfl⟩ := h1.form
    exact walk_long w a1 _ c1 f t h
  · exact walk_main w v1 A f t h1 (by omega)
end Go.Proofs.Ytnckiokhgpmiaaa.wordKeeps
