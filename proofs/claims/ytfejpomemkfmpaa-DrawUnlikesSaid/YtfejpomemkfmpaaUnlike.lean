/- The program's Unlike, out of the library's sort. -/
import Derived.Test.YtfejpomemkfmpaaSortB
namespace Go.Proofs.Ytfejpomemkfmpaa
open Go.RowKit

set_option maxHeartbeats 1000000 in
theorem insertion_none (x : Option Addr) (cap : Nat) (w : World) :
    Calls Try.prog 29 #[.slice x 0 cap, .int .i64 0, .int .i64 0] w fun e w' => e = .returned (.tuple #[]) ∧ w = w' := by
  go_enter Try.func29, Try.ntmps29
  go_wp2_with fail
  go_loopw [6] (fun vi wr => vi = .int .i64 1 ∧ Hid (w = wr)) (fun _ _ => 0)
  case atStart => exact ⟨rfl, Lib.hid rfl⟩
  case round =>
    obtain ⟨rfl, HW⟩ := hrel
    go_wp2_with fail
    go_end0
    exact ⟨rfl, HW.out⟩
set_option maxRecDepth 100000 in
set_option maxHeartbeats 1000000 in
theorem pdq_none (x : Option Addr) (cap : Nat) (m : Int) (w : World) :
    Calls Try.prog 26 #[.slice x 0 cap, .int .i64 0, .int .i64 0, .int .i64 m] w fun e w' => e = .returned (.tuple #[]) ∧ w = w' := by
  go_enter Try.func26, Try.ntmps26
  go_wp2_with fail
  go_loopw [1, 2] (fun va vb wr => va = .int .i64 0 ∧ vb = .int .i64 0 ∧ Hid (w = wr)) (fun _ _ _ => 0)
  case atStart => exact ⟨rfl, rfl, Lib.hid rfl⟩
  case round =>
    obtain ⟨rfl, rfl, HW⟩ := hrel
    go_wp2_with fail
    refine (insertion_none _ _ _).mono ?_
    rintro e w1 ⟨rfl, rfl⟩
    go_wp2_with fail
    refine bodyPost_ret (results_none rfl _ _ _) rfl ?_
    exact ⟨rfl, HW.out⟩
set_option maxHeartbeats 1000000 in
theorem sort_none (x : Option Addr) (cap : Nat) (w : World) :
    Calls Try.prog 22 #[.slice x 0 cap] w fun e w' => e = .returned (.tuple #[]) ∧ w = w' := by
  go_enter Try.func22, Try.ntmps22
  go_wp2_with fail
  refine (len_any 0 _ (by omega) (by omega)).mono ?_
  rintro e w1 ⟨rfl, rfl⟩
  go_wp2_with fail
  refine (pdq_none _ _ _ _).mono ?_
  rintro e w1 ⟨rfl, rfl⟩
  go_wp2_with fail
  go_end0
  exact ⟨rfl, rfl⟩
theorem unlike_perm {L E : List Int} (h : E.Perm L) (b : Bool) (hb : b = true ↔ E.Nodup) : b = unlikeB L := by
  unfold unlikeB
  rw [Bool.eq_iff_iff, hb, decide_eq_true_iff]
  exact h.nodup_iff
set_option maxRecDepth 100000 in
set_option maxHeartbeats 2000000 in
theorem unlike_of (v : Value) (L : List Int) (w : World) (h : Ints .u32 w v L) (hn : L.length ≤ 1000000)
    (hS : ∀ (wx : World) (g cap : Nat), SRow wx w.heap.size g L.length cap L → Calls Try.prog 22 #[.slice (some ⟨g, 0, none⟩) L.length cap] wx (Sorts 0 L.length w.heap.size g L.length cap L wx)) :
    Calls Try.prog 16 #[v] w fun e w' => e = .returned (.bool (unlikeB L)) ∧ Below w.heap.size w w' := by
  have HH := Lib.hid hS; have H := Lib.hid h
  obtain ⟨va, vc, rfl⟩ := h.form
  clear hS h
  go_enter Try.func16, Try.ntmps16
  go_wp2_with fail
  refine (clone_any _ L _ H.out hn).mono ?_
  rintro e w1 ⟨u, rfl, hu, hb1⟩
  by_cases hz : L = []
  · subst hz
    obtain ⟨ua, uc, rfl⟩ : ∃ a c, u = .slice a 0 c := (ints_of_owns hu).1.form
    clear hu H HH
    go_wp2_with fail
    refine (sort_none _ _ _).mono ?_
    rintro e w2 ⟨rfl, rfl⟩
    go_wp2_with fail
    go_loopw [4] (fun vi wr => vi = .int .i64 1 ∧ Hid (w1 = wr)) (fun _ _ => 0)
    case atStart => exact ⟨rfl, Lib.hid rfl⟩
    case round =>
      obtain ⟨rfl, HW⟩ := hrel
      obtain rfl := HW.out
      go_wp2_with fail
      go_ret
      exact ⟨rfl, hb1⟩
  · have hpos : 0 < L.length := List.length_pos_iff.2 hz
    rcases owns_form hu with h0 | ⟨g, cap, rfl, hg1, hg2⟩
    · omega
    · have hR : SRow w1 w.heap.size g L.length cap L := hu
      have HR := Lib.hid hR
      clear hR hu H hz
      obtain ⟨n, hnn⟩ : ∃ n, L.length = n := ⟨_, rfl⟩
      have HN := Lib.hid hnn
      rw [hnn] at HR HH hn hpos ⊢
      clear hnn
      go_wp2_with fail
      refine (HH.out _ _ _ HR.out).mono ?_
      rintro e w2 ⟨rfl, E, ht, ha⟩
      have HT := Lib.hid ht; have HA := Lib.hid ha
      have hb2 : Below w.heap.size w w2 := hb1.grown ht.gr hb1.size (fun k e => by cases e; exact hg1)
      clear ht ha
      go_wp2_with fail
      go_loopw [4] (fun vi wr => ∃ k : Nat, 1 ≤ k ∧ k ≤ n ∧ vi = .int .i64 k ∧ Hid (∀ j, 1 ≤ j → j < k → at0 E j ≠ at0 E (j - 1)) ∧ Reads w2 wr) (fun vi _ => n - (intOf vi).toNat)
      case atStart => exact ⟨1, by omega, by omega, rfl, Lib.hid (fun j h1 h2 => by omega), Reads.refl _⟩
      case round =>
        obtain ⟨k, hk1, hk2, rfl, HJ, hr⟩ := hrel
        have HE := Lib.hid (show E.length = n from HT.out.row.len)
        have HB := Lib.hid (show Below w.heap.size w wr from hb2.trans (hr.below _))
        have HU := Lib.hid (show ∀ b : Bool, (b = true ↔ ∀ j, 1 ≤ j → j < n → at0 E j ≠ at0 E (j - 1)) → b = unlikeB L from fun b hb => unlike_perm HT.out.turn.perm b (by
          have := asc_nodup (D := E) (by rw [HE.out]; exact HA.out)
          rw [HE.out] at this
          rw [hb, this]))
        by_cases hlt : k < n
        · have e1 := (HT.out.row.reads hr).cell k hlt
          have e2 := (HT.out.row.reads hr).cell (k - 1) (by omega)
          obtain ⟨x, hx⟩ : ∃ x, at0 E k = x := ⟨_, rfl⟩
          obtain ⟨y, hy⟩ : ∃ y, at0 E (k - 1) = y := ⟨_, rfl⟩
          rw [hx] at e1
          rw [hy] at e2
          have HX := Lib.hid hx; have HY := Lib.hid hy
          have HRR := Lib.hid hr
          clear hx hy hr
          by_cases hxy : x = y
          · have b1 : (x == y) = true := by simpa using hxy
            have HQ := Lib.hid hxy
            clear hxy
            go_wp2_with fail
            go_quiet (fail)
            go_wp2_with fail
            go_ret
            exact ⟨ret_bool (HU.out false (by simp; exact ⟨k, hk1, hlt, by rw [HX.out, HY.out, HQ.out]⟩)), below_drewN HB.out _⟩
          · have b1 : (x == y) = false := by simpa using hxy
            have HQ := Lib.hid hxy
            clear hxy
            go_wp2_with fail
            go_quiet (fail)
            go_wp2_with fail
            go_roundw
            case rel => exact ⟨k + 1, by omega, by omega, by go_num, Lib.hid (fun j h1 h2 => by
              by_cases hj : j = k
              · subst hj; rw [HX.out, HY.out]; exact HQ.out
              · exact HJ.out j h1 (by omega)), HRR.out.drewN _⟩
            case measure => simp [intOf]; omega
        · obtain rfl : k = n := by omega
          go_wp2_with fail
          go_ret
          exact ⟨ret_bool (HU.out true (by simp; exact HJ.out)), HB.out⟩
theorem unlike_small (v : Value) (L : List Int) (w : World) (h : Ints .u32 w v L) (hn : L.length ≤ 12) :
    Calls Try.prog 16 #[v] w fun e w' => e = .returned (.bool (unlikeB L)) ∧ Below w.heap.size w w' :=
  unlike_of v L w h (by omega) fun wx g cap hR => sort_small _ g _ cap L wx hR hn
end Go.Proofs.Ytfejpomemkfmpaa
