/- MsgPuts: whatever the message, the law returns true. -/
import Derived.Test.YthpcnekidlhfpaaDoorRefE
import Derived.Test.YthpcnekidlhfpaaDoorMsgG
import Derived.Deep.RegionHeld3
import Derived.Deep.DrawnRows
namespace Go.Proofs.YthpcnekidlhfpaaDoor.msgPuts
open Go.RowKit
attribute [local go_sem ↓] Go.wp_at_zero Go.wp_at_succ

theorem same_self (A : List Int) : sameB A A = true := decide_eq_true rfl
theorem beq_self (a : Int) : (a == a) = true := by simp
theorem beq_selfB (a : Bool) : (a == a) = true := by simp
set_option maxHeartbeats 1000000 in
theorem walk_main (w : World) (m : M7) (hm : Masks w) :
    Calls Tryd.prog 3 #[.agg #[.int .u32 m.kind, .int .u32 m.run, .int .u32 m.a, .int .u32 m.b, .int .u32 m.nonce, .int .u32 m.box, .int .u32 m.more]] w fun e w' => e = .returned (.bool true) ∧ Below w.heap.size w w' := by
  have HM := Lib.hid hm; clear hm
  obtain ⟨er, her⟩ : ∃ er, putE m = er := ⟨_, rfl⟩
  have HER := Lib.hid her; clear her
  go_enter Tryd.func3, Tryd.ntmps3
  go_wp2_with fail
  refine (awake_any _ (HM.out.alloc _)).mono ?_
  rintro e w1 ⟨rfl, hb1⟩
  have b1 : Below w.heap.size w w1 := ((Below.refl _ _).alloc (Nat.le_refl _) _).trans (hb1.mono (by simp))
  obtain ⟨hc1, _⟩ := bcell hb1
  go_wp2_with fail
  refine (mput_any m _ (HM.out.below b1)).mono ?_
  rintro e w2 ⟨u2, rfl, i2, _, _, hb2⟩
  rw [HER.out]
  obtain ⟨a2, c2, rfl⟩ := i2.form
  have I2 := Lib.hid i2
  have b2 := b1.trans (hb2.mono b1.size)
  have s1 : w.heap.size < w1.heap.size := by have := hb1.size; simp at this; omega
  obtain ⟨hc2, _⟩ := bcell hb2
  clear i2
  go_wp2_with fail
  refine (rput_any m _).mono ?_
  rintro e w3 ⟨u3, rfl, i3, _, _, hb3⟩
  rw [HER.out]
  obtain ⟨a3, c3, rfl⟩ := i3.form
  have I3 := Lib.hid i3
  have J3 := Lib.hid (I2.out.below hb3)
  have b3 := b2.trans (hb3.mono b2.size)
  have s2 : w.heap.size < w2.heap.size := by have := hb2.size; omega
  obtain ⟨hc3, _⟩ := bcell hb3
  clear i3
  have HX := Lib.hid (block_below (block_below (block_below (heap_alloc_new w (.cells m.cells 24 (0, 0))) hb1) hb2) hb3)
  have k0 : ∀ w', Below w3.heap.size w3 w' → w'.cell? ⟨w.heap.size, 0, none⟩ = some (.int .u32 m.kind) := fun w' h => (m7_cell (block_below HX.out h)).1
  have k1 : ∀ w', Below w3.heap.size w3 w' → w'.cell? ⟨w.heap.size, 1, none⟩ = some (.int .u32 m.run) := fun w' h => (m7_cell (block_below HX.out h)).2.1
  have k2 : ∀ w', Below w3.heap.size w3 w' → w'.cell? ⟨w.heap.size, 2, none⟩ = some (.int .u32 m.a) := fun w' h => (m7_cell (block_below HX.out h)).2.2.1
  have k3 : ∀ w', Below w3.heap.size w3 w' → w'.cell? ⟨w.heap.size, 3, none⟩ = some (.int .u32 m.b) := fun w' h => (m7_cell (block_below HX.out h)).2.2.2.1
  have k4 : ∀ w', Below w3.heap.size w3 w' → w'.cell? ⟨w.heap.size, 4, none⟩ = some (.int .u32 m.nonce) := fun w' h => (m7_cell (block_below HX.out h)).2.2.2.2.1
  have k5 : ∀ w', Below w3.heap.size w3 w' → w'.cell? ⟨w.heap.size, 5, none⟩ = some (.int .u32 m.box) := fun w' h => (m7_cell (block_below HX.out h)).2.2.2.2.2.1
  have k6 : ∀ w', Below w3.heap.size w3 w' → w'.cell? ⟨w.heap.size, 6, none⟩ = some (.int .u32 m.more) := fun w' h => (m7_cell (block_below HX.out h)).2.2.2.2.2.2
  have HMK : ∀ w', Below w3.heap.size w3 w' → Masks w' := fun w' h => HM.out.below (b3.trans (h.mono b3.size))
  have HS0 : Below w3.heap.size w3 w3 := Below.refl _ _
  clear hc1 hc2 hc3
  go_wp2_with fail
  go_region_held3 (fun w' => Below w3.heap.size w3 w')
    (first | exact (Reads.refl _).drew.below _ | (go_split_ands; exact Below.trans (by assumption) (hbA.mono (Below.size (by assumption)))) | (go_split_ands; exact Below.trans (by assumption) (hrA.below _)))
    (first
      | (go_at_call 11; refine (mmay_any m _ (HMK _ (by assumption))).mono ?_; rintro e wA ⟨rfl, hbA⟩)
      | (go_at_call 12; refine (rmay_any m _).mono ?_; rintro e wA ⟨rfl, hbA⟩)
      | (go_at_call 13; refine (rsame_any _ _ (putL m) (putL m) _ (J3.out.below (by assumption)) (I3.out.below (by assumption))).mono ?_; rintro e wA ⟨rfl, hrA⟩; rw [same_self]))
  go_wp2_with fail
  go_ret
  exact ⟨rfl, b3.trans (Below.mono (by assumption) b3.size)⟩
theorem walk (w : World) (m : M7) (_ : (Lit.int .u32 m.kind).wf = true) (_ : (Lit.int .u32 m.run).wf = true) (_ : (Lit.int .u32 m.a).wf = true) (_ : (Lit.int .u32 m.b).wf = true) (_ : (Lit.int .u32 m.nonce).wf = true) (_ : (Lit.int .u32 m.box).wf = true) (_ : (Lit.int .u32 m.more).wf = true) (hm : Masks w) :
    Calls Tryd.prog 3 #[.agg #[.int .u32 m.kind, .int .u32 m.run, .int .u32 m.a, .int .u32 m.b, .int .u32 m.nonce, .int .u32 m.box, .int .u32 m.more]] w fun e w' => e = .returned (.bool true) ∧ Below w.heap.size w w' :=
  walk_main w m hm
end Go.Proofs.YthpcnekidlhfpaaDoor.msgPuts
