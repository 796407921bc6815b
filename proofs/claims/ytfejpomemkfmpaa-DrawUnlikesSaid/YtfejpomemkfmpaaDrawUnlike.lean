/- The contract of the reference's Unlike. -/
import Derived.Test.YtfejpomemkfmpaaDrawRef
import Derived.Deep.QuietTactic
namespace Go.Proofs.Ytfejpomemkfmpaa
open Go.RowKit

def unlikeB (L : List Int) : Bool := decide L.Nodup
theorem nodup_take_next {L : List Int} {k : Nat} (hk : k < L.length) : (L.take (k + 1)).Nodup ↔ (L.take k).Nodup ∧ L[k] ∉ L.take k := by
  rw [List.take_succ_eq_append_getElem hk, List.nodup_append]
  simp
  intro _
  constructor
  · intro h hm; exact h _ hm rfl
  · intro h a ha e; exact h (e ▸ ha)
theorem unlike_found {L : List Int} {k : Nat} (hk : k < L.length) (h : hasB (L.take k) L[k] = true) : unlikeB L = false := by
  refine decide_eq_false fun hn => ?_
  have h1 : (L.take (k + 1)).Nodup := hn.sublist (List.take_sublist _ _)
  exact ((nodup_take_next hk).1 h1).2 (of_decide_eq_true h)
set_option maxRecDepth 100000 in
set_option maxHeartbeats 1000000 in
theorem runlike_some (b o c n : Nat) (L : List Int) (w : World) (hn : L.length = n) (hlc : n ≤ c) (hcm : c ≤ maxLen) (hn1 : n ≤ 1000000)
    (h1 : ∀ i, i < n → w.cell? ⟨b, o + i, none⟩ = some (.int .u32 (L.getD i 0))) :
    Calls Try.prog 17 #[.slice (some ⟨b, o, none⟩) n c] w fun e w' => e = .returned (.bool (unlikeB L)) ∧ Reads w w' := by
  have H1 := Lib.hid h1; have HN := Lib.hid hn; have HM := Lib.hid hcm; clear h1 hn
  have kc : (c : Int) ≤ 9223372036854775807 := by unfold maxLen at hcm; omega
  clear hcm
  go_enter Try.func17, Try.ntmps17
  go_wp2_with fail
  go_loopw [3] (fun i wr => ∃ k : Nat, k ≤ n ∧ i = .int .i64 k ∧ Hid ((L.take k).Nodup) ∧ Reads w wr) (fun i _ => n - (intOf i).toNat)
  case atStart => exact ⟨0, Nat.zero_le _, rfl, Lib.hid (by simp), Reads.refl _⟩
  case round =>
    obtain ⟨k, hk, rfl, HD, hrd⟩ := hrel
    have HRD := Lib.hid hrd; clear hrd
    by_cases hlt : k < n
    · have e1 : wr.cell? ⟨b, o + k, none⟩ = some (.int .u32 (L.getD k 0)) := ((HRD.out.below w.heap.size).cell (p := ⟨b, o + k, none⟩) (lt_of_cell (H1.out k hlt))).trans (H1.out k hlt)
      obtain ⟨x, hx⟩ : ∃ x, L.getD k 0 = x := ⟨_, rfl⟩
      have hkL : k < L.length := by rw [HN.out]; exact hlt
      have hxk : L[k] = x := by rw [← hx]; simp [hkL]
      rw [hx] at e1
      have HX := Lib.hid hxk
      clear hx hxk
      obtain ⟨ad, hI, hsl⟩ := slice_h (P := Try.prog) (t := 22) (by kernel_rfl) (fun _ => by kernel_rfl) (k := .u32) (w := w) (b := b) (o := o) (m := n) (c := c) (A := L) HN.out hlc HM.out H1.out (k : Int) (by omega) (by omega)
      rw [Int.toNat_natCast] at hI hsl
      have HI := Lib.hid hI
      clear hI
      have i0 : (0 : Int) ≤ (k : Int) := by omega
      have i1 : (k : Int) < (n : Int) := by omega
      have i2 : (k : Int) ≤ (c : Int) := by omega
      have hqq : ∀ wx, Reads w wx → Calls Try.prog 23 #[.slice ad k c, .int .u32 x] wx fun e w' => e = .returned (.bool (hasB (L.take k) x)) ∧ w' = wx := fun wx hr =>
        (rhas_any _ x (L.take k) wx (HI.out.reads hr)).mono fun e w' ⟨h1, h2⟩ => ⟨h1, h2.symm⟩
      have HQ := Lib.hid hqq
      clear hqq
      go_wp2_with fail
      go_quiet ((go_at_call 23; exact Calls.quiet_of_same (HQ.out _ (HRD.out.drewN _))))
      by_cases hh : hasB (L.take k) x = true
      · have HB := Lib.hid (unlike_found hkL (by rw [HX.out]; exact hh))
        have HH := Lib.hid hh
        rw [HH.out]
        clear hh
        go_wp2_with fail
        go_ret
        exact ⟨ret_bool HB.out.symm, by first | exact HRD.out.drewN _ | exact HRD.out | exact (HRD.out.drewN _).drewN _⟩
      · have hh' : hasB (L.take k) x = false := by simpa using hh
        have HT := Lib.hid ((nodup_take_next hkL).2 ⟨HD.out, by rw [HX.out]; exact of_decide_eq_false hh'⟩)
        rw [hh']
        clear hh hh'
        go_wp2_with fail
        go_roundw
        case rel => exact ⟨k + 1, by omega, by go_num, HT, by first | exact HRD.out.drewN _ | exact HRD.out | exact (HRD.out.drewN _).drewN _⟩
        case measure => simp [intOf]; omega
    · obtain rfl : k = n := by omega
      have HT := Lib.hid (show unlikeB L = true from decide_eq_true (by have := HD.out; rw [← HN.out, List.take_length] at this; exact this))
      go_wp2_with fail
      go_ret
      exact ⟨ret_bool HT.out.symm, by first | exact HRD.out.drewN _ | exact HRD.out | exact (HRD.out.drewN _).drewN _⟩
set_option maxHeartbeats 400000 in
theorem runlike_none (a : Option Addr) (c : Nat) (w : World) :
    Calls Try.prog 17 #[.slice a 0 c] w fun e w' => e = .returned (.bool true) ∧ w = w' := by
  go_enter Try.func17, Try.ntmps17
  go_wp2_with fail
  go_loop [3] (fun i => i = .int .i64 0) (fun _ => 0)
  case atStart => rfl
  case round =>
    obtain rfl := hrel
    go_wp2_with fail
    go_ret
    exact ⟨rfl, rfl⟩
theorem runlike_any (v : Value) (L : List Int) (w : World) (h : Ints .u32 w v L) (hn : L.length ≤ 1000000) :
    Calls Try.prog 17 #[v] w fun e w' => e = .returned (.bool (unlikeB L)) ∧ Reads w w' := by
  by_cases hz : L = []
  · subst hz
    obtain ⟨a, c, rfl⟩ := h.form
    exact (runlike_none a c w).mono fun e w' ⟨he, hw⟩ => ⟨he, Reads.of_eq hw⟩
  · obtain ⟨b, o, c, rfl, hl, hm, hc⟩ := h.cells hz
    exact runlike_some b o c _ L w rfl hl hm hn hc
end Go.Proofs.Ytfejpomemkfmpaa
