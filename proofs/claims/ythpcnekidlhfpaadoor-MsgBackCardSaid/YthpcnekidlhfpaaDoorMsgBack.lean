/- MsgBack: whatever messages and words, the law returns true. -/
import Derived.Test.YthpcnekidlhfpaaDoorMsgEq
import Derived.Deep.RegionHeld3
import Derived.Deep.DrawnRows
namespace Go.Proofs.YthpcnekidlhfpaaDoor.msgBack
open Go.RowKit
attribute [local go_sem ↓] Go.wp_at_zero Go.wp_at_succ

theorem same_put {m n : M7} (hm : mayM m = true) (hn : mayM n = true) : sameB (putM m) (putM n) = eqM m n := by
  by_cases h : m = n
  · subst h; rw [eqM_self]; exact decide_eq_true rfl
  · rw [eqM_ne h]; exact decide_eq_false fun e => h (put_inj hm hn e)
set_option maxHeartbeats 4000000 in
theorem walk_no (w : World) (m n : M7) (v : Value) (A : List Int) (hv : Ints .u32 w v A) (hn : A.length ≤ 200) (hr : ∀ x ∈ A, 0 ≤ x ∧ x < 4294967296) (hm : Masks w) (hA : mayM m = false) :
    Calls Tryd.prog 5 #[.agg #[.int .u32 m.kind, .int .u32 m.run, .int .u32 m.a, .int .u32 m.b, .int .u32 m.nonce, .int .u32 m.box, .int .u32 m.more], .agg #[.int .u32 n.kind, .int .u32 n.run, .int .u32 n.a, .int .u32 n.b, .int .u32 n.nonce, .int .u32 n.box, .int .u32 n.more], v] w fun e w' => e = .returned (.bool true) ∧ Below w.heap.size w w' := by
  have HA := Lib.hid hA; clear hA
  have HM := Lib.hid hm; have HV := Lib.hid hv; have HR := Lib.hid hr
  obtain ⟨a1, c1, rfl⟩ := hv.form
  clear hm hv hr
  have d0 : Below w.heap.size w ((w.alloc (.cells #[.int .u32 m.kind, .int .u32 m.run, .int .u32 m.a, .int .u32 m.b, .int .u32 m.nonce, .int .u32 m.box, .int .u32 m.more] 24)).alloc (.cells #[.int .u32 n.kind, .int .u32 n.run, .int .u32 n.a, .int .u32 n.b, .int .u32 n.nonce, .int .u32 n.box, .int .u32 n.more] 24)) := ((Below.refl _ _).alloc (Nat.le_refl _) _).alloc (by simp) _
  have X0 := Lib.hid ((heap_old (w.alloc (.cells #[.int .u32 m.kind, .int .u32 m.run, .int .u32 m.a, .int .u32 m.b, .int .u32 m.nonce, .int .u32 m.box, .int .u32 m.more] 24)) (.cells #[.int .u32 n.kind, .int .u32 n.run, .int .u32 n.a, .int .u32 n.b, .int .u32 n.nonce, .int .u32 n.box, .int .u32 n.more] 24) (by simp)).trans (heap_alloc_new w (.cells #[.int .u32 m.kind, .int .u32 m.run, .int .u32 m.a, .int .u32 m.b, .int .u32 m.nonce, .int .u32 m.box, .int .u32 m.more] 24)))
  have Y0 := Lib.hid (heap_new_at (w.alloc (.cells #[.int .u32 m.kind, .int .u32 m.run, .int .u32 m.a, .int .u32 m.b, .int .u32 m.nonce, .int .u32 m.box, .int .u32 m.more] 24)) (.cells #[.int .u32 n.kind, .int .u32 n.run, .int .u32 n.a, .int .u32 n.b, .int .u32 n.nonce, .int .u32 n.box, .int .u32 n.more] 24) (g := w.heap.size + 1) (by simp))
  go_enter Tryd.func5, Tryd.ntmps5
  go_wp2_with fail
  refine (awake_any _ (HM.out.below d0)).mono ?_
  rintro e w1 ⟨rfl, hb1⟩
  have b1 := d0.trans (hb1.mono d0.size)
  have X1 := Lib.hid (block_below X0.out hb1)
  have Y1 := Lib.hid (block_below Y0.out hb1)
  clear X0 Y0
  have x0 := (m7_cell (m := m) X1.out).1
  have x1 := (m7_cell (m := m) X1.out).2.1
  have x2 := (m7_cell (m := m) X1.out).2.2.1
  have x3 := (m7_cell (m := m) X1.out).2.2.2.1
  have x4 := (m7_cell (m := m) X1.out).2.2.2.2.1
  have x5 := (m7_cell (m := m) X1.out).2.2.2.2.2.1
  have x6 := (m7_cell (m := m) X1.out).2.2.2.2.2.2
  have y0 := (m7_cell (m := n) Y1.out).1
  have y1 := (m7_cell (m := n) Y1.out).2.1
  have y2 := (m7_cell (m := n) Y1.out).2.2.1
  have y3 := (m7_cell (m := n) Y1.out).2.2.2.1
  have y4 := (m7_cell (m := n) Y1.out).2.2.2.2.1
  have y5 := (m7_cell (m := n) Y1.out).2.2.2.2.2.1
  have y6 := (m7_cell (m := n) Y1.out).2.2.2.2.2.2
  have sz1 : w.heap.size + 1 < w1.heap.size := by have := hb1.size; simp at this; omega
  clear hb1
  go_wp2_with fail
  refine (mput_no m _ (HM.out.below b1) HA.out).mono ?_
  rintro e w2 ⟨u2, rfl, i2, _, _, hb2⟩
  obtain ⟨a2, c2, rfl⟩ := i2.form
  have I2 := Lib.hid i2
  have b2 := b1.trans (hb2.mono b1.size)
  have X2 := Lib.hid (block_below X1.out hb2)
  have Y2 := Lib.hid (block_below Y1.out hb2)
  have sz2 : w.heap.size + 1 < w2.heap.size := by have := hb2.size; omega
  clear i2 x0 x1 x2 x3 x4 x5 x6 y0 y1 y2 y3 y4 y5 y6 X1 Y1 sz1
  have y0 := (m7_cell (m := n) Y2.out).1
  have y1 := (m7_cell (m := n) Y2.out).2.1
  have y2 := (m7_cell (m := n) Y2.out).2.2.1
  have y3 := (m7_cell (m := n) Y2.out).2.2.2.1
  have y4 := (m7_cell (m := n) Y2.out).2.2.2.2.1
  have y5 := (m7_cell (m := n) Y2.out).2.2.2.2.2.1
  have y6 := (m7_cell (m := n) Y2.out).2.2.2.2.2.2
  go_wp2_with fail
  refine (mput_any n _ (HM.out.below b2)).mono ?_
  rintro e w3 ⟨u3, rfl, i3, _, _, hb3⟩
  obtain ⟨a3, c3, rfl⟩ := i3.form
  have b3 := b2.trans (hb3.mono b2.size)
  clear i3 y0 y1 y2 y3 y4 y5 y6 X2 Y2 I2
  cases hg : decide ((getM A).2 = 0) with
  | true =>
    have hg0 := of_decide_eq_true hg
    obtain ⟨p1, p2⟩ := put_get (fun x hx => (HR.out x hx).1) hg0
    obtain ⟨x, er, hG⟩ : ∃ x er, getM A = (x, er) := ⟨_, _, rfl⟩
    rw [hG] at hg0 p1 p2
    simp only at hg0 p1 p2
    subst hg0
    have HG := Lib.hid hG; have P1 := Lib.hid p1; have P2 := Lib.hid p2
    clear hG p1 p2 hg
    go_wp2_with fail
    refine (mget_at x.kind x.run x.a x.b x.nonce x.box x.more 0 _ A _ (HV.out.below b3) HR.out (HM.out.below b3) HG.out).mono ?_
    rintro e wp ⟨rfl, hbp⟩
    have dp : Below w.heap.size w (wp.alloc (.cells #[.int .u32 x.kind, .int .u32 x.run, .int .u32 x.a, .int .u32 x.b, .int .u32 x.nonce, .int .u32 x.box, .int .u32 x.more] 24)) := (b3.trans (hbp.mono b3.size)).alloc (b3.trans (hbp.mono b3.size)).size _
    go_wp2_with fail
    refine (mput_yes x _ (HM.out.below dp) P1.out).mono ?_
    rintro e wq ⟨uq, rfl, iq, _, _, hbq⟩
    rw [P2.out] at iq
    obtain ⟨qa, qc, rfl⟩ := iq.form
    have dq := dp.trans (hbq.mono dp.size)
    have IQ := Lib.hid iq
    clear iq
    go_wp2_with fail
    refine (rsame_any _ _ A A _ IQ.out (HV.out.below dq)).mono ?_
    rintro e wr ⟨rfl, hrr⟩
    rw [show sameB A A = true from decide_eq_true rfl]
    go_wp2_with fail
    go_ret
    exact ⟨rfl, dq.trans (hrr.below _)⟩
  | false =>
    have hg0 := of_decide_eq_false hg
    have hzz := get_zero A hg0
    obtain ⟨er, her⟩ : ∃ er, (getM A).2 = er := ⟨_, rfl⟩
    have HG := Lib.hid (show getM A = (⟨0, 0, 0, 0, 0, 0, 0⟩, er) from Prod.ext hzz her)
    have hne : (er != 0) = true := by rw [bne_iff_ne, ← her]; exact hg0
    clear hg hg0 hzz her
    go_wp2_with fail
    refine (mget_at 0 0 0 0 0 0 0 er _ A _ (HV.out.below b3) HR.out (HM.out.below b3) HG.out).mono ?_
    rintro e wp ⟨rfl, hbp⟩
    have dp := b3.trans (hbp.mono b3.size)
    go_wp2_with fail
    go_ret
    exact ⟨rfl, dp.alloc dp.size _⟩
set_option maxHeartbeats 4000000 in
theorem walk_one (w : World) (m n : M7) (v : Value) (A : List Int) (hv : Ints .u32 w v A) (hn : A.length ≤ 200) (hr : ∀ x ∈ A, 0 ≤ x ∧ x < 4294967296) (hm : Masks w) (hA : mayM m = true) (hB : mayM n = false) (hq : RangeM m) :
    Calls Tryd.prog 5 #[.agg #[.int .u32 m.kind, .int .u32 m.run, .int .u32 m.a, .int .u32 m.b, .int .u32 m.nonce, .int .u32 m.box, .int .u32 m.more], .agg #[.int .u32 n.kind, .int .u32 n.run, .int .u32 n.a, .int .u32 n.b, .int .u32 n.nonce, .int .u32 n.box, .int .u32 n.more], v] w fun e w' => e = .returned (.bool true) ∧ Below w.heap.size w w' := by
  have HA := Lib.hid hA; have HB := Lib.hid hB; have HQ := Lib.hid hq; clear hA hB hq
  have HM := Lib.hid hm; have HV := Lib.hid hv; have HR := Lib.hid hr
  obtain ⟨a1, c1, rfl⟩ := hv.form
  clear hm hv hr
  have d0 : Below w.heap.size w ((w.alloc (.cells #[.int .u32 m.kind, .int .u32 m.run, .int .u32 m.a, .int .u32 m.b, .int .u32 m.nonce, .int .u32 m.box, .int .u32 m.more] 24)).alloc (.cells #[.int .u32 n.kind, .int .u32 n.run, .int .u32 n.a, .int .u32 n.b, .int .u32 n.nonce, .int .u32 n.box, .int .u32 n.more] 24)) := ((Below.refl _ _).alloc (Nat.le_refl _) _).alloc (by simp) _
  have X0 := Lib.hid ((heap_old (w.alloc (.cells #[.int .u32 m.kind, .int .u32 m.run, .int .u32 m.a, .int .u32 m.b, .int .u32 m.nonce, .int .u32 m.box, .int .u32 m.more] 24)) (.cells #[.int .u32 n.kind, .int .u32 n.run, .int .u32 n.a, .int .u32 n.b, .int .u32 n.nonce, .int .u32 n.box, .int .u32 n.more] 24) (by simp)).trans (heap_alloc_new w (.cells #[.int .u32 m.kind, .int .u32 m.run, .int .u32 m.a, .int .u32 m.b, .int .u32 m.nonce, .int .u32 m.box, .int .u32 m.more] 24)))
  have Y0 := Lib.hid (heap_new_at (w.alloc (.cells #[.int .u32 m.kind, .int .u32 m.run, .int .u32 m.a, .int .u32 m.b, .int .u32 m.nonce, .int .u32 m.box, .int .u32 m.more] 24)) (.cells #[.int .u32 n.kind, .int .u32 n.run, .int .u32 n.a, .int .u32 n.b, .int .u32 n.nonce, .int .u32 n.box, .int .u32 n.more] 24) (g := w.heap.size + 1) (by simp))
  go_enter Tryd.func5, Tryd.ntmps5
  go_wp2_with fail
  refine (awake_any _ (HM.out.below d0)).mono ?_
  rintro e w1 ⟨rfl, hb1⟩
  have b1 := d0.trans (hb1.mono d0.size)
  have X1 := Lib.hid (block_below X0.out hb1)
  have Y1 := Lib.hid (block_below Y0.out hb1)
  clear X0 Y0
  have x0 := (m7_cell (m := m) X1.out).1
  have x1 := (m7_cell (m := m) X1.out).2.1
  have x2 := (m7_cell (m := m) X1.out).2.2.1
  have x3 := (m7_cell (m := m) X1.out).2.2.2.1
  have x4 := (m7_cell (m := m) X1.out).2.2.2.2.1
  have x5 := (m7_cell (m := m) X1.out).2.2.2.2.2.1
  have x6 := (m7_cell (m := m) X1.out).2.2.2.2.2.2
  have y0 := (m7_cell (m := n) Y1.out).1
  have y1 := (m7_cell (m := n) Y1.out).2.1
  have y2 := (m7_cell (m := n) Y1.out).2.2.1
  have y3 := (m7_cell (m := n) Y1.out).2.2.2.1
  have y4 := (m7_cell (m := n) Y1.out).2.2.2.2.1
  have y5 := (m7_cell (m := n) Y1.out).2.2.2.2.2.1
  have y6 := (m7_cell (m := n) Y1.out).2.2.2.2.2.2
  have sz1 : w.heap.size + 1 < w1.heap.size := by have := hb1.size; simp at this; omega
  clear hb1
  go_wp2_with fail
  refine (mput_yes m _ (HM.out.below b1) HA.out).mono ?_
  rintro e w2 ⟨u2, rfl, i2, _, _, hb2⟩
  obtain ⟨a2, c2, rfl⟩ := i2.form
  have I2 := Lib.hid i2
  have b2 := b1.trans (hb2.mono b1.size)
  have X2 := Lib.hid (block_below X1.out hb2)
  have Y2 := Lib.hid (block_below Y1.out hb2)
  have sz2 : w.heap.size + 1 < w2.heap.size := by have := hb2.size; omega
  clear i2 x0 x1 x2 x3 x4 x5 x6 y0 y1 y2 y3 y4 y5 y6 X1 Y1 sz1
  have y0 := (m7_cell (m := n) Y2.out).1
  have y1 := (m7_cell (m := n) Y2.out).2.1
  have y2 := (m7_cell (m := n) Y2.out).2.2.1
  have y3 := (m7_cell (m := n) Y2.out).2.2.2.1
  have y4 := (m7_cell (m := n) Y2.out).2.2.2.2.1
  have y5 := (m7_cell (m := n) Y2.out).2.2.2.2.2.1
  have y6 := (m7_cell (m := n) Y2.out).2.2.2.2.2.2
  go_wp2_with fail
  refine (mput_no n _ (HM.out.below b2) HB.out).mono ?_
  rintro e w3 ⟨u3, rfl, i3, _, _, hb3⟩
  obtain ⟨a3, c3, rfl⟩ := i3.form
  have I3 := Lib.hid i3
  have J3 := Lib.hid (I2.out.below hb3)
  have b3 := b2.trans (hb3.mono b2.size)
  have X3 := Lib.hid (block_below X2.out hb3)
  have Y3 := Lib.hid (block_below Y2.out hb3)
  have sz3 : w.heap.size + 1 < w3.heap.size := by have := hb3.size; omega
  clear i3 y0 y1 y2 y3 y4 y5 y6 X2 Y2 I2 sz2
  go_wp2_with fail
  refine (mget_at m.kind m.run m.a m.b m.nonce m.box m.more 0 _ (putM m) _ J3.out (putM_range HQ.out) (HM.out.below b3) (get_put HA.out)).mono ?_
  rintro e w4 ⟨rfl, hb4⟩
  have b4 := (b3.trans (hb4.mono b3.size)).alloc (b3.trans (hb4.mono b3.size)).size (.cells #[.int .u32 m.kind, .int .u32 m.run, .int .u32 m.a, .int .u32 m.b, .int .u32 m.nonce, .int .u32 m.box, .int .u32 m.more] 24)
  have f4 := hb4.alloc hb4.size (.cells #[.int .u32 m.kind, .int .u32 m.run, .int .u32 m.a, .int .u32 m.b, .int .u32 m.nonce, .int .u32 m.box, .int .u32 m.more] 24)
  have X4 := Lib.hid (block_below X3.out f4)
  have Y4 := Lib.hid (block_below Y3.out f4)
  have Z4 := Lib.hid (heap_alloc_new w4 (.cells #[.int .u32 m.kind, .int .u32 m.run, .int .u32 m.a, .int .u32 m.b, .int .u32 m.nonce, .int .u32 m.box, .int .u32 m.more] 24))
  have I4 := Lib.hid (I3.out.below f4)
  have J4 := Lib.hid (J3.out.below f4)
  clear X3 Y3 I3 J3 hb4 f4
  go_wp2_with fail
  generalize w4.alloc (.cells #[.int .u32 m.kind, .int .u32 m.run, .int .u32 m.a, .int .u32 m.b, .int .u32 m.nonce, .int .u32 m.box, .int .u32 m.more] 24) = W at *
  have x0 := (m7_cell (m := m) X4.out).1
  have x1 := (m7_cell (m := m) X4.out).2.1
  have x2 := (m7_cell (m := m) X4.out).2.2.1
  have x3 := (m7_cell (m := m) X4.out).2.2.2.1
  have x4 := (m7_cell (m := m) X4.out).2.2.2.2.1
  have x5 := (m7_cell (m := m) X4.out).2.2.2.2.2.1
  have x6 := (m7_cell (m := m) X4.out).2.2.2.2.2.2
  have y0 := (m7_cell (m := n) Y4.out).1
  have y1 := (m7_cell (m := n) Y4.out).2.1
  have y2 := (m7_cell (m := n) Y4.out).2.2.1
  have y3 := (m7_cell (m := n) Y4.out).2.2.2.1
  have y4 := (m7_cell (m := n) Y4.out).2.2.2.2.1
  have y5 := (m7_cell (m := n) Y4.out).2.2.2.2.2.1
  have y6 := (m7_cell (m := n) Y4.out).2.2.2.2.2.2
  have z0 := (m7_cell (m := m) Z4.out).1
  have z1 := (m7_cell (m := m) Z4.out).2.1
  have z2 := (m7_cell (m := m) Z4.out).2.2.1
  have z3 := (m7_cell (m := m) Z4.out).2.2.2.1
  have z4 := (m7_cell (m := m) Z4.out).2.2.2.2.1
  have z5 := (m7_cell (m := m) Z4.out).2.2.2.2.2.1
  have z6 := (m7_cell (m := m) Z4.out).2.2.2.2.2.2
  have q1 : ∀ wx, (Op.equalIn 10000 24 (.agg #[.int .u32 m.kind, .int .u32 m.run, .int .u32 m.a, .int .u32 m.b, .int .u32 m.nonce, .int .u32 m.box, .int .u32 m.more]) (.agg #[.int .u32 m.kind, .int .u32 m.run, .int .u32 m.a, .int .u32 m.b, .int .u32 m.nonce, .int .u32 m.box, .int .u32 m.more])).run Tryd.prog wx = .ok true wx := fun wx => by rw [eq_run m m wx, eqM_self]
  go_quiet (fail)
  have BA : ∀ q, Below w.heap.size w (W.drewN q) := fun q => b4.trans ((reads1 W q).below _)
  cases hg : decide ((getM A).2 = 0) with
  | true =>
    have hg0 := of_decide_eq_true hg
    obtain ⟨p1, p2⟩ := put_get (fun x hx => (HR.out x hx).1) hg0
    obtain ⟨x, er, hG⟩ : ∃ x er, getM A = (x, er) := ⟨_, _, rfl⟩
    rw [hG] at hg0 p1 p2
    simp only at hg0 p1 p2
    subst hg0
    have HG := Lib.hid hG; have P1 := Lib.hid p1; have P2 := Lib.hid p2
    clear hG p1 p2 hg
    go_wp2_with fail
    refine (mget_at x.kind x.run x.a x.b x.nonce x.box x.more 0 _ A _ (HV.out.below (BA _)) HR.out (HM.out.below (BA _)) HG.out).mono ?_
    rintro e wp ⟨rfl, hbp⟩
    have dp : Below w.heap.size w (wp.alloc (.cells #[.int .u32 x.kind, .int .u32 x.run, .int .u32 x.a, .int .u32 x.b, .int .u32 x.nonce, .int .u32 x.box, .int .u32 x.more] 24)) := ((BA _).trans (hbp.mono (BA _).size)).alloc ((BA _).trans (hbp.mono (BA _).size)).size _
    go_wp2_with fail
    refine (mput_yes x _ (HM.out.below dp) P1.out).mono ?_
    rintro e wq ⟨uq, rfl, iq, _, _, hbq⟩
    rw [P2.out] at iq
    obtain ⟨qa, qc, rfl⟩ := iq.form
    have dq := dp.trans (hbq.mono dp.size)
    have IQ := Lib.hid iq
    clear iq
    go_wp2_with fail
    refine (rsame_any _ _ A A _ IQ.out (HV.out.below dq)).mono ?_
    rintro e wr ⟨rfl, hrr⟩
    rw [show sameB A A = true from decide_eq_true rfl]
    go_wp2_with fail
    go_ret
    exact ⟨rfl, dq.trans (hrr.below _)⟩
  | false =>
    have hg0 := of_decide_eq_false hg
    have hzz := get_zero A hg0
    obtain ⟨er, her⟩ : ∃ er, (getM A).2 = er := ⟨_, rfl⟩
    have HG := Lib.hid (show getM A = (⟨0, 0, 0, 0, 0, 0, 0⟩, er) from Prod.ext hzz her)
    have hne : (er != 0) = true := by rw [bne_iff_ne, ← her]; exact hg0
    clear hg hg0 hzz her
    go_wp2_with fail
    refine (mget_at 0 0 0 0 0 0 0 er _ A _ (HV.out.below (BA _)) HR.out (HM.out.below (BA _)) HG.out).mono ?_
    rintro e wp ⟨rfl, hbp⟩
    have dp := (BA _).trans (hbp.mono (BA _).size)
    go_wp2_with fail
    go_ret
    exact ⟨rfl, dp.alloc dp.size _⟩
set_option maxHeartbeats 4000000 in
theorem walk_both (w : World) (m n : M7) (v : Value) (A : List Int) (hv : Ints .u32 w v A) (hn : A.length ≤ 200) (hr : ∀ x ∈ A, 0 ≤ x ∧ x < 4294967296) (hm : Masks w) (hA : mayM m = true) (hB : mayM n = true) (hq : RangeM m) :
    Calls Tryd.prog 5 #[.agg #[.int .u32 m.kind, .int .u32 m.run, .int .u32 m.a, .int .u32 m.b, .int .u32 m.nonce, .int .u32 m.box, .int .u32 m.more], .agg #[.int .u32 n.kind, .int .u32 n.run, .int .u32 n.a, .int .u32 n.b, .int .u32 n.nonce, .int .u32 n.box, .int .u32 n.more], v] w fun e w' => e = .returned (.bool true) ∧ Below w.heap.size w w' := by
  have HA := Lib.hid hA; have HB := Lib.hid hB; have HQ := Lib.hid hq; clear hA hB hq
  obtain ⟨eb, heb⟩ : ∃ eb, eqM m n = eb := ⟨_, rfl⟩
  have HEB := Lib.hid heb
  have HSB := Lib.hid (show sameB (putM m) (putM n) = eb by rw [same_put HA.out HB.out]; exact heb)
  clear heb
  have HM := Lib.hid hm; have HV := Lib.hid hv; have HR := Lib.hid hr
  obtain ⟨a1, c1, rfl⟩ := hv.form
  clear hm hv hr
  have d0 : Below w.heap.size w ((w.alloc (.cells #[.int .u32 m.kind, .int .u32 m.run, .int .u32 m.a, .int .u32 m.b, .int .u32 m.nonce, .int .u32 m.box, .int .u32 m.more] 24)).alloc (.cells #[.int .u32 n.kind, .int .u32 n.run, .int .u32 n.a, .int .u32 n.b, .int .u32 n.nonce, .int .u32 n.box, .int .u32 n.more] 24)) := ((Below.refl _ _).alloc (Nat.le_refl _) _).alloc (by simp) _
  have X0 := Lib.hid ((heap_old (w.alloc (.cells #[.int .u32 m.kind, .int .u32 m.run, .int .u32 m.a, .int .u32 m.b, .int .u32 m.nonce, .int .u32 m.box, .int .u32 m.more] 24)) (.cells #[.int .u32 n.kind, .int .u32 n.run, .int .u32 n.a, .int .u32 n.b, .int .u32 n.nonce, .int .u32 n.box, .int .u32 n.more] 24) (by simp)).trans (heap_alloc_new w (.cells #[.int .u32 m.kind, .int .u32 m.run, .int .u32 m.a, .int .u32 m.b, .int .u32 m.nonce, .int .u32 m.box, .int .u32 m.more] 24)))
  have Y0 := Lib.hid (heap_new_at (w.alloc (.cells #[.int .u32 m.kind, .int .u32 m.run, .int .u32 m.a, .int .u32 m.b, .int .u32 m.nonce, .int .u32 m.box, .int .u32 m.more] 24)) (.cells #[.int .u32 n.kind, .int .u32 n.run, .int .u32 n.a, .int .u32 n.b, .int .u32 n.nonce, .int .u32 n.box, .int .u32 n.more] 24) (g := w.heap.size + 1) (by simp))
  go_enter Tryd.func5, Tryd.ntmps5
  go_wp2_with fail
  refine (awake_any _ (HM.out.below d0)).mono ?_
  rintro e w1 ⟨rfl, hb1⟩
  have b1 := d0.trans (hb1.mono d0.size)
  have X1 := Lib.hid (block_below X0.out hb1)
  have Y1 := Lib.hid (block_below Y0.out hb1)
  clear X0 Y0
  have x0 := (m7_cell (m := m) X1.out).1
  have x1 := (m7_cell (m := m) X1.out).2.1
  have x2 := (m7_cell (m := m) X1.out).2.2.1
  have x3 := (m7_cell (m := m) X1.out).2.2.2.1
  have x4 := (m7_cell (m := m) X1.out).2.2.2.2.1
  have x5 := (m7_cell (m := m) X1.out).2.2.2.2.2.1
  have x6 := (m7_cell (m := m) X1.out).2.2.2.2.2.2
  have y0 := (m7_cell (m := n) Y1.out).1
  have y1 := (m7_cell (m := n) Y1.out).2.1
  have y2 := (m7_cell (m := n) Y1.out).2.2.1
  have y3 := (m7_cell (m := n) Y1.out).2.2.2.1
  have y4 := (m7_cell (m := n) Y1.out).2.2.2.2.1
  have y5 := (m7_cell (m := n) Y1.out).2.2.2.2.2.1
  have y6 := (m7_cell (m := n) Y1.out).2.2.2.2.2.2
  have sz1 : w.heap.size + 1 < w1.heap.size := by have := hb1.size; simp at this; omega
  clear hb1
  go_wp2_with fail
  refine (mput_yes m _ (HM.out.below b1) HA.out).mono ?_
  rintro e w2 ⟨u2, rfl, i2, _, _, hb2⟩
  obtain ⟨a2, c2, rfl⟩ := i2.form
  have I2 := Lib.hid i2
  have b2 := b1.trans (hb2.mono b1.size)
  have X2 := Lib.hid (block_below X1.out hb2)
  have Y2 := Lib.hid (block_below Y1.out hb2)
  have sz2 : w.heap.size + 1 < w2.heap.size := by have := hb2.size; omega
  clear i2 x0 x1 x2 x3 x4 x5 x6 y0 y1 y2 y3 y4 y5 y6 X1 Y1 sz1
  have y0 := (m7_cell (m := n) Y2.out).1
  have y1 := (m7_cell (m := n) Y2.out).2.1
  have y2 := (m7_cell (m := n) Y2.out).2.2.1
  have y3 := (m7_cell (m := n) Y2.out).2.2.2.1
  have y4 := (m7_cell (m := n) Y2.out).2.2.2.2.1
  have y5 := (m7_cell (m := n) Y2.out).2.2.2.2.2.1
  have y6 := (m7_cell (m := n) Y2.out).2.2.2.2.2.2
  go_wp2_with fail
  refine (mput_yes n _ (HM.out.below b2) HB.out).mono ?_
  rintro e w3 ⟨u3, rfl, i3, _, _, hb3⟩
  obtain ⟨a3, c3, rfl⟩ := i3.form
  have I3 := Lib.hid i3
  have J3 := Lib.hid (I2.out.below hb3)
  have b3 := b2.trans (hb3.mono b2.size)
  have X3 := Lib.hid (block_below X2.out hb3)
  have Y3 := Lib.hid (block_below Y2.out hb3)
  have sz3 : w.heap.size + 1 < w3.heap.size := by have := hb3.size; omega
  clear i3 y0 y1 y2 y3 y4 y5 y6 X2 Y2 I2 sz2
  go_wp2_with fail
  refine (mget_at m.kind m.run m.a m.b m.nonce m.box m.more 0 _ (putM m) _ J3.out (putM_range HQ.out) (HM.out.below b3) (get_put HA.out)).mono ?_
  rintro e w4 ⟨rfl, hb4⟩
  have b4 := (b3.trans (hb4.mono b3.size)).alloc (b3.trans (hb4.mono b3.size)).size (.cells #[.int .u32 m.kind, .int .u32 m.run, .int .u32 m.a, .int .u32 m.b, .int .u32 m.nonce, .int .u32 m.box, .int .u32 m.more] 24)
  have f4 := hb4.alloc hb4.size (.cells #[.int .u32 m.kind, .int .u32 m.run, .int .u32 m.a, .int .u32 m.b, .int .u32 m.nonce, .int .u32 m.box, .int .u32 m.more] 24)
  have X4 := Lib.hid (block_below X3.out f4)
  have Y4 := Lib.hid (block_below Y3.out f4)
  have Z4 := Lib.hid (heap_alloc_new w4 (.cells #[.int .u32 m.kind, .int .u32 m.run, .int .u32 m.a, .int .u32 m.b, .int .u32 m.nonce, .int .u32 m.box, .int .u32 m.more] 24))
  have I4 := Lib.hid (I3.out.below f4)
  have J4 := Lib.hid (J3.out.below f4)
  clear X3 Y3 I3 J3 hb4 f4
  go_wp2_with fail
  generalize w4.alloc (.cells #[.int .u32 m.kind, .int .u32 m.run, .int .u32 m.a, .int .u32 m.b, .int .u32 m.nonce, .int .u32 m.box, .int .u32 m.more] 24) = W at *
  have x0 : ∀ w', Below W.heap.size W w' → w'.cell? ⟨w.heap.size, 0, none⟩ = some (.int .u32 m.kind) := fun w' h => (m7_cell (m := m) (block_below X4.out h)).1
  have x1 : ∀ w', Below W.heap.size W w' → w'.cell? ⟨w.heap.size, 1, none⟩ = some (.int .u32 m.run) := fun w' h => (m7_cell (m := m) (block_below X4.out h)).2.1
  have x2 : ∀ w', Below W.heap.size W w' → w'.cell? ⟨w.heap.size, 2, none⟩ = some (.int .u32 m.a) := fun w' h => (m7_cell (m := m) (block_below X4.out h)).2.2.1
  have x3 : ∀ w', Below W.heap.size W w' → w'.cell? ⟨w.heap.size, 3, none⟩ = some (.int .u32 m.b) := fun w' h => (m7_cell (m := m) (block_below X4.out h)).2.2.2.1
  have x4 : ∀ w', Below W.heap.size W w' → w'.cell? ⟨w.heap.size, 4, none⟩ = some (.int .u32 m.nonce) := fun w' h => (m7_cell (m := m) (block_below X4.out h)).2.2.2.2.1
  have x5 : ∀ w', Below W.heap.size W w' → w'.cell? ⟨w.heap.size, 5, none⟩ = some (.int .u32 m.box) := fun w' h => (m7_cell (m := m) (block_below X4.out h)).2.2.2.2.2.1
  have x6 : ∀ w', Below W.heap.size W w' → w'.cell? ⟨w.heap.size, 6, none⟩ = some (.int .u32 m.more) := fun w' h => (m7_cell (m := m) (block_below X4.out h)).2.2.2.2.2.2
  have y0 : ∀ w', Below W.heap.size W w' → w'.cell? ⟨w.heap.size + 1, 0, none⟩ = some (.int .u32 n.kind) := fun w' h => (m7_cell (m := n) (block_below Y4.out h)).1
  have y1 : ∀ w', Below W.heap.size W w' → w'.cell? ⟨w.heap.size + 1, 1, none⟩ = some (.int .u32 n.run) := fun w' h => (m7_cell (m := n) (block_below Y4.out h)).2.1
  have y2 : ∀ w', Below W.heap.size W w' → w'.cell? ⟨w.heap.size + 1, 2, none⟩ = some (.int .u32 n.a) := fun w' h => (m7_cell (m := n) (block_below Y4.out h)).2.2.1
  have y3 : ∀ w', Below W.heap.size W w' → w'.cell? ⟨w.heap.size + 1, 3, none⟩ = some (.int .u32 n.b) := fun w' h => (m7_cell (m := n) (block_below Y4.out h)).2.2.2.1
  have y4 : ∀ w', Below W.heap.size W w' → w'.cell? ⟨w.heap.size + 1, 4, none⟩ = some (.int .u32 n.nonce) := fun w' h => (m7_cell (m := n) (block_below Y4.out h)).2.2.2.2.1
  have y5 : ∀ w', Below W.heap.size W w' → w'.cell? ⟨w.heap.size + 1, 5, none⟩ = some (.int .u32 n.box) := fun w' h => (m7_cell (m := n) (block_below Y4.out h)).2.2.2.2.2.1
  have y6 : ∀ w', Below W.heap.size W w' → w'.cell? ⟨w.heap.size + 1, 6, none⟩ = some (.int .u32 n.more) := fun w' h => (m7_cell (m := n) (block_below Y4.out h)).2.2.2.2.2.2
  have z0 : ∀ w', Below W.heap.size W w' → w'.cell? ⟨w4.heap.size, 0, none⟩ = some (.int .u32 m.kind) := fun w' h => (m7_cell (m := m) (block_below Z4.out h)).1
  have z1 : ∀ w', Below W.heap.size W w' → w'.cell? ⟨w4.heap.size, 1, none⟩ = some (.int .u32 m.run) := fun w' h => (m7_cell (m := m) (block_below Z4.out h)).2.1
  have z2 : ∀ w', Below W.heap.size W w' → w'.cell? ⟨w4.heap.size, 2, none⟩ = some (.int .u32 m.a) := fun w' h => (m7_cell (m := m) (block_below Z4.out h)).2.2.1
  have z3 : ∀ w', Below W.heap.size W w' → w'.cell? ⟨w4.heap.size, 3, none⟩ = some (.int .u32 m.b) := fun w' h => (m7_cell (m := m) (block_below Z4.out h)).2.2.2.1
  have z4 : ∀ w', Below W.heap.size W w' → w'.cell? ⟨w4.heap.size, 4, none⟩ = some (.int .u32 m.nonce) := fun w' h => (m7_cell (m := m) (block_below Z4.out h)).2.2.2.2.1
  have z5 : ∀ w', Below W.heap.size W w' → w'.cell? ⟨w4.heap.size, 5, none⟩ = some (.int .u32 m.box) := fun w' h => (m7_cell (m := m) (block_below Z4.out h)).2.2.2.2.2.1
  have z6 : ∀ w', Below W.heap.size W w' → w'.cell? ⟨w4.heap.size, 6, none⟩ = some (.int .u32 m.more) := fun w' h => (m7_cell (m := m) (block_below Z4.out h)).2.2.2.2.2.2
  have q1 : ∀ wx, (Op.equalIn 10000 24 (.agg #[.int .u32 m.kind, .int .u32 m.run, .int .u32 m.a, .int .u32 m.b, .int .u32 m.nonce, .int .u32 m.box, .int .u32 m.more]) (.agg #[.int .u32 m.kind, .int .u32 m.run, .int .u32 m.a, .int .u32 m.b, .int .u32 m.nonce, .int .u32 m.box, .int .u32 m.more])).run Tryd.prog wx = .ok true wx := fun wx => by rw [eq_run m m wx, eqM_self]
  have q2 : ∀ wx, (Op.equalIn 10000 24 (.agg #[.int .u32 m.kind, .int .u32 m.run, .int .u32 m.a, .int .u32 m.b, .int .u32 m.nonce, .int .u32 m.box, .int .u32 m.more]) (.agg #[.int .u32 n.kind, .int .u32 n.run, .int .u32 n.a, .int .u32 n.b, .int .u32 n.nonce, .int .u32 n.box, .int .u32 n.more])).run Tryd.prog wx = .ok eb wx := fun wx => by rw [eq_run m n wx, HEB.out]
  have HS0 : Below W.heap.size W W := Below.refl _ _
  go_region_held3 (fun w' => Below W.heap.size W w')
    (first | exact (Reads.refl _).drew.below _ | (go_split_ands; exact Below.trans (by assumption) (hrA.below _)))
    ((go_at_call 13; refine (rsame_any _ _ (putM m) (putM n) _ (J4.out.below (by assumption)) (I4.out.below (by assumption))).mono ?_; rintro e wA ⟨rfl, hrA⟩; rw [HSB.out]))
  have BA : Below w.heap.size w wA := b4.trans (Below.mono (by assumption) b4.size)
  clear HS0
  cases hg : decide ((getM A).2 = 0) with
  | true =>
    have hg0 := of_decide_eq_true hg
    obtain ⟨p1, p2⟩ := put_get (fun x hx => (HR.out x hx).1) hg0
    obtain ⟨x, er, hG⟩ : ∃ x er, getM A = (x, er) := ⟨_, _, rfl⟩
    rw [hG] at hg0 p1 p2
    simp only at hg0 p1 p2
    subst hg0
    have HG := Lib.hid hG; have P1 := Lib.hid p1; have P2 := Lib.hid p2
    clear hG p1 p2 hg
    go_wp2_with fail
    refine (mget_at x.kind x.run x.a x.b x.nonce x.box x.more 0 _ A _ (HV.out.below BA) HR.out (HM.out.below BA) HG.out).mono ?_
    rintro e wp ⟨rfl, hbp⟩
    have dp : Below w.heap.size w (wp.alloc (.cells #[.int .u32 x.kind, .int .u32 x.run, .int .u32 x.a, .int .u32 x.b, .int .u32 x.nonce, .int .u32 x.box, .int .u32 x.more] 24)) := (BA.trans (hbp.mono BA.size)).alloc (BA.trans (hbp.mono BA.size)).size _
    go_wp2_with fail
    refine (mput_yes x _ (HM.out.below dp) P1.out).mono ?_
    rintro e wq ⟨uq, rfl, iq, _, _, hbq⟩
    rw [P2.out] at iq
    obtain ⟨qa, qc, rfl⟩ := iq.form
    have dq := dp.trans (hbq.mono dp.size)
    have IQ := Lib.hid iq
    clear iq
    go_wp2_with fail
    refine (rsame_any _ _ A A _ IQ.out (HV.out.below dq)).mono ?_
    rintro e wr ⟨rfl, hrr⟩
    rw [show sameB A A = true from decide_eq_true rfl]
    go_wp2_with fail
    go_ret
    exact ⟨rfl, dq.trans (hrr.below _)⟩
  | false =>
    have hg0 := of_decide_eq_false hg
    have hzz := get_zero A hg0
    obtain ⟨er, her⟩ : ∃ er, (getM A).2 = er := ⟨_, rfl⟩
    have HG := Lib.hid (show getM A = (⟨0, 0, 0, 0, 0, 0, 0⟩, er) from Prod.ext hzz her)
    have hne : (er != 0) = true := by rw [bne_iff_ne, ← her]; exact hg0
    clear hg hg0 hzz her
    go_wp2_with fail
    refine (mget_at 0 0 0 0 0 0 0 er _ A _ (HV.out.below BA) HR.out (HM.out.below BA) HG.out).mono ?_
    rintro e wp ⟨rfl, hbp⟩
    have dp := BA.trans (hbp.mono BA.size)
    go_wp2_with fail
    go_ret
    exact ⟨rfl, dp.alloc dp.size _⟩
set_option maxHeartbeats 1000000 in
theorem walk_long (w : World) (m n : M7) (a1 : Option Addr) (n1 c1 : Nat) (h1 : 200 < n1) (hm : Masks w) :
    Calls Tryd.prog 5 #[.agg #[.int .u32 m.kind, .int .u32 m.run, .int .u32 m.a, .int .u32 m.b, .int .u32 m.nonce, .int .u32 m.box, .int .u32 m.more], .agg #[.int .u32 n.kind, .int .u32 n.run, .int .u32 n.a, .int .u32 n.b, .int .u32 n.nonce, .int .u32 n.box, .int .u32 n.more], .slice a1 n1 c1] w fun e w' => e = .returned (.bool true) ∧ Below w.heap.size w w' := by
  have HM := Lib.hid hm; clear hm
  have d0 : Below w.heap.size w ((w.alloc (.cells #[.int .u32 m.kind, .int .u32 m.run, .int .u32 m.a, .int .u32 m.b, .int .u32 m.nonce, .int .u32 m.box, .int .u32 m.more] 24)).alloc (.cells #[.int .u32 n.kind, .int .u32 n.run, .int .u32 n.a, .int .u32 n.b, .int .u32 n.nonce, .int .u32 n.box, .int .u32 n.more] 24)) := ((Below.refl _ _).alloc (Nat.le_refl _) _).alloc (by simp) _
  go_enter Tryd.func5, Tryd.ntmps5
  go_wp2_with fail
  refine (awake_any _ (HM.out.below d0)).mono ?_
  rintro e w1 ⟨rfl, hb1⟩
  have b1 := d0.trans (hb1.mono d0.size)
  go_wp2_with fail
  refine (awake_any _ (HM.out.below b1)).mono ?_
  rintro e w2 ⟨rfl, hb2⟩
  go_wp2_with fail
  go_ret
  exact ⟨rfl, b1.trans (hb2.mono b1.size)⟩
theorem walk_any (w : World) (m n : M7) (v1 : Value) (A : List Int) (h1 : Ints .u32 w v1 A) (hw : ∀ n ∈ A, (Lit.int .u32 n).wf = true) (hq : RangeM m) (hm : Masks w) :
    Calls Tryd.prog 5 #[.agg #[.int .u32 m.kind, .int .u32 m.run, .int .u32 m.a, .int .u32 m.b, .int .u32 m.nonce, .int .u32 m.box, .int .u32 m.more], .agg #[.int .u32 n.kind, .int .u32 n.run, .int .u32 n.a, .int .u32 n.b, .int .u32 n.nonce, .int .u32 n.box, .int .u32 n.more], v1] w fun e w' => e = .returned (.bool true) ∧ Below w.heap.size w w' := by
  by_cases h : 200 < A.length
  · obtain ⟨a1, c1, rfl⟩ := h1.form
    exact walk_long w m n a1 _ c1 h hm
  · cases hA : mayM m with
    | false => exact walk_no w m n v1 A h1 (by omega) (range32 hw) hm hA
    | true =>
      cases hB : mayM n with
      | false => exact walk_one w m n v1 A h1 (by omega) (range32 hw) hm hA hB hq
      | true => exact walk_both w m n v1 A h1 (by omega) (range32 hw) hm hA hB hq
theorem walk (w : World) (m : M7) (h0 : (Lit.int .u32 m.kind).wf = true) (h1 : (Lit.int .u32 m.run).wf = true) (h2 : (Lit.int .u32 m.a).wf = true) (h3 : (Lit.int .u32 m.b).wf = true) (h4 : (Lit.int .u32 m.nonce).wf = true) (h5 : (Lit.int .u32 m.box).wf = true) (h6 : (Lit.int .u32 m.more).wf = true) (n : M7) (_ : (Lit.int .u32 n.kind).wf = true) (_ : (Lit.int .u32 n.run).wf = true) (_ : (Lit.int .u32 n.a).wf = true) (_ : (Lit.int .u32 n.b).wf = true) (_ : (Lit.int .u32 n.nonce).wf = true) (_ : (Lit.int .u32 n.box).wf = true) (_ : (Lit.int .u32 n.more).wf = true) (v1 : Value) (A : List Int) (h : Ints .u32 w v1 A) (hw : ∀ n ∈ A, (Lit.int .u32 n).wf = true) (hm : Masks w) :
    Calls Tryd.prog 5 #[.agg #[.int .u32 m.kind, .int .u32 m.run, .int .u32 m.a, .int .u32 m.b, .int .u32 m.nonce, .int .u32 m.box, .int .u32 m.more], .agg #[.int .u32 n.kind, .int .u32 n.run, .int .u32 n.a, .int .u32 n.b, .int .u32 n.nonce, .int .u32 n.box, .int .u32 n.more], v1] w fun e w' => e = .returned (.bool true) ∧ Below w.heap.size w w' := by
  have b0 := Go.bounds_u32 h0
  have b1 := Go.bounds_u32 h1
  have b2 := Go.bounds_u32 h2
  have b3 := Go.bounds_u32 h3
  have b4 := Go.bounds_u32 h4
  have b5 := Go.bounds_u32 h5
  have b6 := Go.bounds_u32 h6
  exact walk_any w m n v1 A h hw ⟨⟨b0.1, by omega⟩, ⟨b1.1, by omega⟩, ⟨b2.1, by omega⟩, ⟨b3.1, by omega⟩, ⟨b4.1, by omega⟩, ⟨b5.1, by omega⟩, ⟨b6.1, by omega⟩⟩ hm
end Go.Proofs.YthpcnekidlhfpaaDoor.msgBack
