/- MsgGets: whatever words, the law returns true. -/
import Derived.Test.YthpcnekidlhfpaaDoorMsgH
import Derived.Deep.RegionHeld3
import Derived.Deep.DrawnRows
namespace Go.Proofs.YthpcnekidlhfpaaDoor.msgGets
open Go.RowKit
attribute [local go_sem ↓] Go.wp_at_zero Go.wp_at_succ

set_option maxHeartbeats 1000000 in
theorem walk_long (w : World) (a1 : Option Addr) (n1 c1 : Nat) (h1 : 200 < n1) (hm : Masks w) :
    Calls Tryd.prog 4 #[.slice a1 n1 c1] w fun e w' => e = .returned (.bool true) ∧ Below w.heap.size w w' := by
  have HM := Lib.hid hm; clear hm
  go_enter Tryd.func4, Tryd.ntmps4
  go_wp2_with fail
  refine (awake_any _ HM.out).mono ?_
  rintro e w1 ⟨rfl, hb1⟩
  have b1 := hb1
  go_wp2_with fail
  refine (awake_any _ (HM.out.below b1)).mono ?_
  rintro e w2 ⟨rfl, hb2⟩
  go_wp2_with fail
  go_ret
  exact ⟨rfl, b1.trans (hb2.mono b1.size)⟩
set_option maxHeartbeats 1000000 in
theorem walk_main (w : World) (v : Value) (A : List Int) (hv : Ints .u32 w v A) (hn : A.length ≤ 200) (hr : ∀ x ∈ A, 0 ≤ x ∧ x < 4294967296) (hm : Masks w) :
    Calls Tryd.prog 4 #[v] w fun e w' => e = .returned (.bool true) ∧ Below w.heap.size w w' := by
  have HM := Lib.hid hm; have HV := Lib.hid hv; have HR := Lib.hid hr
  obtain ⟨a1, c1, rfl⟩ := hv.form
  clear hm hv hr
  obtain ⟨⟨k, r, a, b, n, x, o⟩, er, hG⟩ : ∃ m er, getM A = (m, er) := ⟨_, _, rfl⟩
  have HG := Lib.hid hG; clear hG
  go_enter Tryd.func4, Tryd.ntmps4
  go_wp2_with fail
  refine (awake_any _ HM.out).mono ?_
  rintro e w1 ⟨rfl, b1⟩
  go_wp2_with fail
  refine (mget_at k r a b n x o er _ A _ (HV.out.below b1) HR.out (HM.out.below b1) HG.out).mono ?_
  rintro e w2 ⟨rfl, hb2⟩
  have b2 := b1.trans (hb2.mono b1.size)
  go_wp2_with fail
  have c2 : Below w2.heap.size w2 (w2.alloc (.cells #[.int .u32 k, .int .u32 r, .int .u32 a, .int .u32 b, .int .u32 n, .int .u32 x, .int .u32 o] 24)) := (Below.refl _ _).alloc (Nat.le_refl _) _
  have d2 := b2.trans (c2.mono b2.size)
  refine (rmget_at k r a b n x o er _ A _ (HV.out.below d2) HR.out HG.out).mono ?_
  rintro e w3 ⟨rfl, hb3⟩
  have b3 := d2.trans (hb3.mono d2.size)
  have HX := Lib.hid (block_below (heap_alloc_new w2 (.cells #[.int .u32 k, .int .u32 r, .int .u32 a, .int .u32 b, .int .u32 n, .int .u32 x, .int .u32 o] 24 (0, 0))) hb3)
  have s3 : w2.heap.size < w3.heap.size := by have := hb3.size; simp at this; omega
  go_wp2_with fail
  have HX2 := Lib.hid ((heap_old w3 (.cells #[.int .u32 k, .int .u32 r, .int .u32 a, .int .u32 b, .int .u32 n, .int .u32 x, .int .u32 o] 24) s3).trans HX.out)
  have HY2 := Lib.hid (heap_alloc_new w3 (.cells #[.int .u32 k, .int .u32 r, .int .u32 a, .int .u32 b, .int .u32 n, .int .u32 x, .int .u32 o] 24))
  have b4 : Below w.heap.size w (w3.alloc (.cells #[.int .u32 k, .int .u32 r, .int .u32 a, .int .u32 b, .int .u32 n, .int .u32 x, .int .u32 o] 24)) := b3.alloc b3.size _
  generalize w3.alloc (.cells #[.int .u32 k, .int .u32 r, .int .u32 a, .int .u32 b, .int .u32 n, .int .u32 x, .int .u32 o] 24) = W at *
  have k0 : ∀ w', Below W.heap.size W w' → w'.cell? ⟨w2.heap.size, 0, none⟩ = some (.int .u32 k) := fun w' h => (m7_cell (m := ⟨k, r, a, b, n, x, o⟩) (block_below HX2.out h)).1
  have k1 : ∀ w', Below W.heap.size W w' → w'.cell? ⟨w2.heap.size, 1, none⟩ = some (.int .u32 r) := fun w' h => (m7_cell (m := ⟨k, r, a, b, n, x, o⟩) (block_below HX2.out h)).2.1
  have k2 : ∀ w', Below W.heap.size W w' → w'.cell? ⟨w2.heap.size, 2, none⟩ = some (.int .u32 a) := fun w' h => (m7_cell (m := ⟨k, r, a, b, n, x, o⟩) (block_below HX2.out h)).2.2.1
  have k3 : ∀ w', Below W.heap.size W w' → w'.cell? ⟨w2.heap.size, 3, none⟩ = some (.int .u32 b) := fun w' h => (m7_cell (m := ⟨k, r, a, b, n, x, o⟩) (block_below HX2.out h)).2.2.2.1
  have k4 : ∀ w', Below W.heap.size W w' → w'.cell? ⟨w2.heap.size, 4, none⟩ = some (.int .u32 n) := fun w' h => (m7_cell (m := ⟨k, r, a, b, n, x, o⟩) (block_below HX2.out h)).2.2.2.2.1
  have k5 : ∀ w', Below W.heap.size W w' → w'.cell? ⟨w2.heap.size, 5, none⟩ = some (.int .u32 x) := fun w' h => (m7_cell (m := ⟨k, r, a, b, n, x, o⟩) (block_below HX2.out h)).2.2.2.2.2.1
  have k6 : ∀ w', Below W.heap.size W w' → w'.cell? ⟨w2.heap.size, 6, none⟩ = some (.int .u32 o) := fun w' h => (m7_cell (m := ⟨k, r, a, b, n, x, o⟩) (block_below HX2.out h)).2.2.2.2.2.2
  have l0 : ∀ w', Below W.heap.size W w' → w'.cell? ⟨w3.heap.size, 0, none⟩ = some (.int .u32 k) := fun w' h => (m7_cell (m := ⟨k, r, a, b, n, x, o⟩) (block_below HY2.out h)).1
  have l1 : ∀ w', Below W.heap.size W w' → w'.cell? ⟨w3.heap.size, 1, none⟩ = some (.int .u32 r) := fun w' h => (m7_cell (m := ⟨k, r, a, b, n, x, o⟩) (block_below HY2.out h)).2.1
  have l2 : ∀ w', Below W.heap.size W w' → w'.cell? ⟨w3.heap.size, 2, none⟩ = some (.int .u32 a) := fun w' h => (m7_cell (m := ⟨k, r, a, b, n, x, o⟩) (block_below HY2.out h)).2.2.1
  have l3 : ∀ w', Below W.heap.size W w' → w'.cell? ⟨w3.heap.size, 3, none⟩ = some (.int .u32 b) := fun w' h => (m7_cell (m := ⟨k, r, a, b, n, x, o⟩) (block_below HY2.out h)).2.2.2.1
  have l4 : ∀ w', Below W.heap.size W w' → w'.cell? ⟨w3.heap.size, 4, none⟩ = some (.int .u32 n) := fun w' h => (m7_cell (m := ⟨k, r, a, b, n, x, o⟩) (block_below HY2.out h)).2.2.2.2.1
  have l5 : ∀ w', Below W.heap.size W w' → w'.cell? ⟨w3.heap.size, 5, none⟩ = some (.int .u32 x) := fun w' h => (m7_cell (m := ⟨k, r, a, b, n, x, o⟩) (block_below HY2.out h)).2.2.2.2.2.1
  have l6 : ∀ w', Below W.heap.size W w' → w'.cell? ⟨w3.heap.size, 6, none⟩ = some (.int .u32 o) := fun w' h => (m7_cell (m := ⟨k, r, a, b, n, x, o⟩) (block_below HY2.out h)).2.2.2.2.2.2
  have HMK : ∀ w', Below W.heap.size W w' → Masks w' := fun w' h => HM.out.below (b4.trans (h.mono b4.size))
  have HVK : ∀ w', Below W.heap.size W w' → Ints .u32 w' (.slice a1 A.length c1) A := fun w' h => HV.out.below (b4.trans (h.mono b4.size))
  have HK := Lib.hid (show (getM A).1.kind = k by rw [HG.out])
  have HVK' := Lib.hid HVK
  have HMK' := Lib.hid HMK
  have HS0 : Below W.heap.size W W := Below.refl _ _
  clear HVK HMK
  go_region_held3 (fun w' => Below W.heap.size W w')
    (first | exact (Reads.refl _).drew.below _ | (go_split_ands; exact Below.trans (by assumption) (hbA.mono (Below.size (by assumption)))))
    ((go_at_call 16; refine (mkind_at k _ A _ (HVK'.out _ (by assumption)) HR.out (HMK'.out _ (by assumption)) HK.out).mono ?_; rintro e wA ⟨rfl, hbA⟩))
  go_wp2_with fail
  go_ret
  exact ⟨rfl, b4.trans (Below.mono (by assumption) b4.size)⟩
theorem walk (w : World) (v1 : Value) (A : List Int) (h1 : Ints .u32 w v1 A) (hw : ∀ n ∈ A, (Lit.int .u32 n).wf = true) (hm : Masks w) :
    Calls Tryd.prog 4 #[v1] w fun e w' => e = .returned (.bool true) ∧ Below w.heap.size w w' := by
  by_cases h : 200 < A.length
  · obtain ⟨a1, c1, rfl⟩ := h1.form
    exact walk_long w a1 _ c1 h hm
  · exact walk_main w v1 A h1 (by omega) (range32 hw) hm
end Go.Proofs.YthpcnekidlhfpaaDoor.msgGets
