/- MsgSpoilt: whatever kind, words and places, the law returns true. -/
import Derived.Test.YthpcnekidlhfpaaDoorBare
namespace Go.Proofs.YthpcnekidlhfpaaDoor.msgSpoilt
open Go.RowKit

theorem len_pos (m : M7) (h : isKindB m.kind = true) : 6 ≤ (putM m).length ∧ (putM m).length ≤ 18 := by
  rw [putM_length]
  have : 1 ≤ (kindTags m.kind).length ∧ (kindTags m.kind).length ≤ 5 := by
    rcases kinds h with e | e | e | e | e | e | e | e | e <;> rw [e] <;> decide
  omega
theorem spoil_more {m : M7} {e : Int} (h0 : ∀ x ∈ putM m ++ [e], 0 ≤ x) : (getM (putM m ++ [e])).2 ≠ 0 := by
  intro h
  have h1 := congrArg List.length (put_get h0 h).2
  rw [putM_length, List.length_append, putM_length] at h1
  simp at h1
  omega
theorem spoil_less {m : M7} (h6 : 6 ≤ (putM m).length) (h0 : ∀ x ∈ (putM m).take ((putM m).length - 1), 0 ≤ x) : (getM ((putM m).take ((putM m).length - 1))).2 ≠ 0 := by
  intro h
  have h1 := congrArg List.length (put_get h0 h).2
  have h2 := putM_length m
  have h3 := putM_length (getM ((putM m).take ((putM m).length - 1))).1
  rw [h3, List.length_take] at h1
  omega
theorem spoil_other {m : M7} {i : Nat} {o : Int} (hm : mayM m = true) (hi : i < (putM m).length) (h0 : ∀ x ∈ (putM m).set i o, 0 ≤ x) : eqM (getM ((putM m).set i o)).1 m = ((putM m).getD i 0 == o) := by
  have hgd : (putM m).getD i 0 = (putM m)[i] := by simp [hi]
  rw [hgd]
  by_cases h : (putM m)[i] = o
  · have e : (putM m).set i o = putM m := by rw [← h]; exact List.set_getElem_self hi
    rw [e, get_put hm, eqM_self, h]; simp
  · have hb : ((putM m)[i] == o) = false := by rw [beq_eq_false_iff_ne]; exact h
    rw [hb]
    refine eqM_ne fun e => h ?_
    by_cases he : (getM ((putM m).set i o)).2 = 0
    · have h1 := (put_get h0 he).2
      rw [e] at h1
      have h2 : (putM m)[i]? = ((putM m).set i o)[i]? := by rw [← h1]
      rw [List.getElem?_set_self hi, List.getElem?_eq_getElem hi] at h2
      exact Option.some.inj h2
    · have h1 := get_zero _ he
      rw [e] at h1
      have := of_decide_eq_true (mayM_kind hm)
      rw [h1] at this
      simp [zeroM] at this
theorem slice_h {P : Program} {t : TypeId} (ht : P.underlying t = some (.slice (P.elem t))) (hz : ∀ wx, (sizeOf (P.elem t)).run P wx = .ok 1 wx) {k : IntKind} {w : World} {b o m c : Nat} {A : List Int} (hm : A.length = m) (hl : m ≤ c) (hcm : c ≤ maxLen)
    (hc : ∀ i, i < m → w.cell? ⟨b, o + i, none⟩ = some (.int k (A.getD i 0))) (j : Int) (h0 : 0 ≤ j) (hj : j ≤ m) :
    ∃ ad, Ints k w (.slice ad j.toNat c) (A.take j.toNat) ∧
      ∀ wx : World, (Instr.slice t (.slice (some ⟨b, o, none⟩) m c) none (some (.int .i64 j)) none).run P wx = .ok (.slice ad j.toNat c) wx := by
  subst hm
  have h := ints_part_if (i := 0) (n := j.toNat) hl hcm hc (by omega)
  rw [List.drop_zero, Nat.sub_zero] at h
  refine ⟨_, h, fun wx => ?_⟩
  rw [run_slice_h (w := wx) t (some ⟨b, o, none⟩) A.length c ht .i64 j h0 (by omega), hz wx]
  simp only [Result.andThen, sliced, Option.map_some, Nat.mul_one, add_row, Nat.sub_zero]
theorem owns_set {w : World} {base g n c : Nat} {T : TypeId} {L : List Int} {i : Nat} {o : Int} (h : w.ownsRow base T 1 (.slice (some ⟨g, 0, none⟩) n c) n (L.map (Value.int .u32))) :
    (w.setCell ⟨g, i, none⟩ (.int .u32 o)).ownsRow base T 1 (.slice (some ⟨g, 0, none⟩) n c) n ((L.set i o).map (Value.int .u32)) := by
  have h1 := (h.stored i (.int .u32 o)).1
  rw [List.map_set]
  exact h1
set_option maxRecDepth 100000 in
set_option maxHeartbeats 4000000 in
theorem walk_main (w : World) (kd q0 q1 q2 q3 q4 q5 at0 ot en : Int) (hk0 : 0 ≤ kd) (hk1 : kd ≤ 255) (ha0 : 0 ≤ at0) (ha1 : at0 ≤ 255) (ho : 0 ≤ ot ∧ ot < 4294967296) (he : 0 ≤ en ∧ en < 4294967296)
    (hq : RangeM ⟨1 + kd % 9, q0, q1, q2, q3, q4, q5⟩) (hm : Masks w) :
    Calls Tryd.prog 6 #[.int .u8 kd, .agg #[.int .u32 q0, .int .u32 q1, .int .u32 q2, .int .u32 q3, .int .u32 q4, .int .u32 q5], .int .u8 at0, .int .u32 ot, .int .u32 en] w fun e w' => e = .returned (.bool true) ∧ Below w.heap.size w w' := by
  obtain ⟨i0, hi, hz0, hz1, hz2⟩ := info_parts Tryd.infoU
  have HM := Lib.hid hm
  have kb : 0 ≤ kd % 9 ∧ kd % 9 < 9 := ⟨Int.emod_nonneg _ (by omega), Int.emod_lt_of_pos _ (by omega)⟩
  have HKB := Lib.hid (show isKindB (1 + kd % 9) = true from decide_eq_true ⟨by omega, by omega⟩)
  have hmay := bare_may ⟨1 + kd % 9, q0, q1, q2, q3, q4, q5⟩ HKB.out
  have hrng := bare_range hq 6
  have HB := Lib.hid (fun wx => bare_any ⟨1 + kd % 9, q0, q1, q2, q3, q4, q5⟩ wx HKB.out)
  generalize zeroTo ⟨1 + kd % 9, q0, q1, q2, q3, q4, q5⟩ 6 = mm at hmay hrng HB
  have hrl := putM_range hrng
  obtain ⟨hl6, hl18⟩ := len_pos mm (mayM_kind hmay)
  obtain ⟨L, hL⟩ : ∃ L, putM mm = L := ⟨_, rfl⟩
  have MAY := Lib.hid hmay
  have hmore := spoil_more (m := mm) (e := en) (by intro x hx; rcases List.mem_append.1 hx with h | h; exact (hrl x h).1; rw [List.mem_singleton.1 h]; exact he.1)
  have hless := spoil_less hl6 (by intro x hx; exact (hrl x (List.mem_of_mem_take hx)).1)
  have hother : ∀ i, i < (putM mm).length → eqM (getM ((putM mm).set i ot)).1 mm = ((putM mm).getD i 0 == ot) := fun i hi => spoil_other (o := ot) hmay hi (by intro x hx; rcases List.mem_or_eq_of_mem_set hx with h | h; exact (hrl x h).1; rw [h]; exact ho.1)
  rw [hL] at hrl hl6 hl18 hmore hless hother
  have HL := Lib.hid hL; have RL := Lib.hid hrl; have HO := Lib.hid hother
  have hrl2 := RL.out
  clear hm hmay hrng hrl hL hother hq
  obtain ⟨r1, s1, hg1⟩ : ∃ r e, getM (L ++ [en]) = (r, e) := ⟨_, _, rfl⟩
  obtain ⟨r2, s2, hg2⟩ : ∃ r e, getM (L.take (L.length - 1)) = (r, e) := ⟨_, _, rfl⟩
  rw [hg1] at hmore; rw [hg2] at hless
  have n1 : (s1 != 0) = true := by rw [bne_iff_ne]; exact hmore
  have n2 : (s2 != 0) = true := by rw [bne_iff_ne]; exact hless
  obtain ⟨L5, hL5⟩ : ∃ L5, L ++ [en] = L5 := ⟨_, rfl⟩
  have R5 := Lib.hid (show ∀ x ∈ L5, 0 ≤ x ∧ x < 4294967296 by
    intro x hx
    rw [← hL5] at hx
    rcases List.mem_append.1 hx with h | h
    · exact hrl2 x h
    · rw [List.mem_singleton.1 h]; exact he)
  rw [hL5] at hg1
  have HL5 := Lib.hid hL5
  have G1 := Lib.hid hg1; have G2 := Lib.hid hg2
  clear hL5 hrl2
  have RE := Lib.hid he; have RO := Lib.hid ho
  clear hmore hless hg1 hg2 he ho
  obtain ⟨n, hn⟩ : ∃ n, L.length = n := ⟨_, rfl⟩
  rw [hn] at hl6 hl18
  have HN := Lib.hid hn; clear hn
  have nz : ((n : Int) == 0) = false := by rw [beq_eq_false_iff_ne]; omega
  go_enter Tryd.func6, Tryd.ntmps6
  go_wp2_with fail
  refine (awake_any _ (HM.out.alloc _)).mono ?_
  rintro e w1 ⟨rfl, hb1⟩
  have b1 : Below w.heap.size w w1 := ((Below.refl _ _).alloc (Nat.le_refl _) _).trans (hb1.mono (by simp))
  obtain ⟨hc1, _⟩ := bcell hb1
  go_wp2_with fail
  refine (HB.out _).mono ?_
  rintro e w2 ⟨rfl, hb2⟩
  have b2 := b1.trans (hb2.mono b1.size)
  clear hc1
  go_wp2_with fail
  have d2 : Below w.heap.size w (w2.alloc (.cells #[.int .u32 mm.kind, .int .u32 mm.run, .int .u32 mm.a, .int .u32 mm.b, .int .u32 mm.nonce, .int .u32 mm.box, .int .u32 mm.more] 24)) := b2.alloc b2.size _
  refine (mput_yes mm _ (HM.out.below d2) MAY.out).mono ?_
  rintro e w3 ⟨u3, rfl, i3, _, _, hb3⟩
  rw [HL.out] at i3
  have b3 := d2.trans (hb3.mono d2.size)
  have X3 := Lib.hid (block_below (heap_alloc_new w2 (.cells #[.int .u32 mm.kind, .int .u32 mm.run, .int .u32 mm.a, .int .u32 mm.b, .int .u32 mm.nonce, .int .u32 mm.box, .int .u32 mm.more] 24 (0, 0))) hb3)
  obtain ⟨b, o, c, rfl, hlc, hcm, hcell⟩ := i3.cells (by intro e; have := HN.out; rw [e] at this; simp at this; omega)
  rw [HN.out] at hlc
  have I3 := Lib.hid i3
  have HC := Lib.hid hcell
  rw [HN.out]
  clear i3 hcell hb3
  have s3 := b3.size
  go_wp2_with (at_builtin; refine wpList_append_ints rfl (.tmp 43) (.tmp 44) 26 rfl w3.heap.size 22 i0 .u32 0 4 Tryd.underlying26 hi hz0 hz1 hz2 (by decide) _ 0 [] rfl (owns_lit .u32 (Nat.le_refl _) rfl) _ L rfl (by have := I3.out; rw [HN.out] at this; exact this.alloc _) ?c1 ?c2 ?_)
  case c1 => have := HN.out; omega
  case c2 => simp
  intro v4 w4 hown4 hgrow4
  have f4 : Below w3.heap.size w3 w4 := ((Below.refl _ _).alloc (Nat.le_refl _) _).grown hgrow4 (by simp) (fun g hg => by simp [Value.ownBlock] at hg; omega)
  have s4 := f4.size
  have O4 := Lib.hid (show w4.ownsRow w3.heap.size 22 1 v4 L.length (L.map (Value.int .u32)) by simpa using hown4)
  clear hown4 hgrow4
  go_wp2_with (at_builtin; refine wpList_append_ints rfl (.tmp 45) (.tmp 47) 26 rfl w3.heap.size 22 i0 .u32 0 4 Tryd.underlying26 hi hz0 hz1 hz2 (by decide) _ L.length L rfl (O4.out.alloc _) _ [en] rfl ?c0 ?c1 ?c2 ?_)
  case c0 => exact ints_new _ rfl rfl rfl (small _ (by simp))
  case c1 => have := HN.out; simp; omega
  case c2 => simp; omega
  intro v5 w5 hown5 hgrow5
  have f5 : Below w3.heap.size w3 w5 := (f4.alloc s4 _).grown hgrow5 (by simp; omega) (fun g hg => (O4.out.lt g hg).1)
  have hI5 := (ints_of_owns (show w5.ownsRow w3.heap.size 22 1 v5 (L.length + 1) ((L ++ [en]).map (Value.int .u32)) by rw [List.map_append]; exact hown5)).1
  rw [HL5.out] at hI5
  have I5 := Lib.hid hI5
  clear hI5
  have b5 := b3.trans (f5.mono s3)
  clear hown5 hgrow5 O4
  obtain ⟨a5, c5, hv5⟩ := I5.out.form
  subst hv5
  go_wp2_with fail
  refine (mget_at r1.kind r1.run r1.a r1.b r1.nonce r1.box r1.more s1 _ L5 _ I5.out R5.out (HM.out.below b5) G1.out).mono ?_
  rintro e w6 ⟨rfl, hb6⟩
  have f6 : Below w3.heap.size w3 (w6.alloc (.cells #[.int .u32 r1.kind, .int .u32 r1.run, .int .u32 r1.a, .int .u32 r1.b, .int .u32 r1.nonce, .int .u32 r1.box, .int .u32 r1.more] 24)) := (f5.trans (hb6.mono f5.size)).alloc (f5.trans (hb6.mono f5.size)).size _
  have b6 := b3.trans (f6.mono s3)
  obtain ⟨ad, hI7, hsl⟩ := slice_h (P := Tryd.prog) (t := 26) (by kernel_rfl) (fun _ => by kernel_rfl) (k := .u32) (w := w6.alloc (.cells #[.int .u32 r1.kind, .int .u32 r1.run, .int .u32 r1.a, .int .u32 r1.b, .int .u32 r1.nonce, .int .u32 r1.box, .int .u32 r1.more] 24)) (b := b) (o := o) (m := n) (c := c) (A := L) HN.out hlc hcm (fun i hi => (f6.cell (p := ⟨b, o + i, none⟩) (lt_of_cell (HC.out i (by rw [HN.out]; exact hi)))).trans (HC.out i (by rw [HN.out]; exact hi))) ((n : Int) - 1) (by omega) (by omega)
  rw [show ((n : Int) - 1).toNat = n - 1 from by omega] at hI7 hsl
  have I7 := Lib.hid hI7
  have hcn : (n : Int) - 1 ≤ (c : Int) := by omega
  clear hI7 hb6
  go_wp2_with fail
  refine (mget_at r2.kind r2.run r2.a r2.b r2.nonce r2.box r2.more s2 _ (L.take (n - 1)) _ I7.out (fun x hx => RL.out x (List.mem_of_mem_take hx)) (HM.out.below b6) (by have := G2.out; rw [HN.out] at this; exact this)).mono ?_
  rintro e w7 ⟨rfl, hb7⟩
  have f7 : Below w3.heap.size w3 (w7.alloc (.cells #[.int .u32 r2.kind, .int .u32 r2.run, .int .u32 r2.a, .int .u32 r2.b, .int .u32 r2.nonce, .int .u32 r2.box, .int .u32 r2.more] 24)) := (f6.trans (hb7.mono f6.size)).alloc (f6.trans (hb7.mono f6.size)).size _
  have b7 := b3.trans (f7.mono s3)
  have hn1 : (1 : Int) ≤ (n : Int) := by omega
  have p0 := Int.emod_nonneg at0 (show (n : Int) ≠ 0 from by omega)
  have p1 := Int.emod_lt_of_pos at0 (show (0 : Int) < (n : Int) from by omega)
  obtain ⟨i, hi'⟩ := Int.eq_ofNat_of_zero_le p0
  have hin : i < n := by omega
  have HI := Lib.hid hi'
  clear hi' p0 p1 hb7
  have h7s : w3.heap.size ≤ w7.heap.size + 1 := by have := f7.size; simpa using this
  have OL := owns_lit (w := w7.alloc (.cells #[.int .u32 r2.kind, .int .u32 r2.run, .int .u32 r2.a, .int .u32 r2.b, .int .u32 r2.nonce, .int .u32 r2.box, .int .u32 r2.more] 24)) (base := w3.heap.size) (e := 22) (g := w7.heap.size + 1) .u32 h7s (by simp)
  go_wp2_with (at_builtin; refine wpList_append_ints rfl (.tmp 66) (.tmp 67) 26 rfl w3.heap.size 22 i0 .u32 0 4 Tryd.underlying26 hi hz0 hz1 hz2 (by decide) _ 0 [] rfl OL _ L rfl (by have := I3.out.below f7; rw [HN.out] at this; exact this.alloc _) ?c1 ?c2 ?_)
  case c1 => have := HN.out; omega
  case c2 => simp; omega
  intro v8 w8 hown8 hgrow8
  have f8 : Below w3.heap.size w3 w8 := (f7.alloc f7.size _).grown hgrow8 (by simp; omega) (fun g hg => by simp [Value.ownBlock] at hg; omega)
  have O8 := (show w8.ownsRow w3.heap.size 22 1 v8 n (L.map (Value.int .u32)) by rw [← HN.out]; simpa using hown8)
  clear hown8 hgrow8
  rcases owns_form O8 with h0 | ⟨g, cap, rfl, hg1, hg2⟩
  · exfalso; omega
  have hcj : ∃ y, w8.cell? ⟨g, i, none⟩ = some y := by
    rw [O8.cellAt i (by omega), List.getElem?_eq_getElem (by rw [O8.1]; omega)]
    exact ⟨_, rfl⟩
  obtain ⟨y8, hy8⟩ := hcj
  have hfz := O8.frozenAt i
  obtain ⟨L8, hL8⟩ : ∃ L8, L.set i ot = L8 := ⟨_, rfl⟩
  have o9 := owns_set (o := ot) (i := i) O8
  rw [hL8] at o9
  have hlen8 : L8.length = n := by rw [← hL8, List.length_set]; exact HN.out
  have R8 := Lib.hid (show ∀ x ∈ L8, 0 ≤ x ∧ x < 4294967296 by
    intro x hx
    rw [← hL8] at hx
    rcases List.mem_or_eq_of_mem_set hx with h | h
    · exact RL.out x h
    · rw [h]; exact RO.out)
  have hIs := (ints_of_owns o9).1
  have I9 := Lib.hid hIs
  have HEQ := Lib.hid (show eqM (getM L8).1 mm = (L.getD i 0 == ot) by rw [← hL8]; exact HO.out i (by rw [HN.out]; exact hin))
  clear hL8 o9 hIs O8 hlen8
  obtain ⟨r3, q3', hG8⟩ : ∃ r e, getM L8 = (r, e) := ⟨_, _, rfl⟩
  have G8 := Lib.hid hG8
  obtain ⟨y0, hy0⟩ : ∃ y, L.getD i 0 = y := ⟨_, rfl⟩
  have HEQ2 := Lib.hid (show eqM r3 mm = (y0 == ot) by have := HEQ.out; rw [hG8, hy0] at this; exact this)
  have HY0 := Lib.hid hy0
  clear hG8 hy0 HEQ
  have f9 : Below w3.heap.size w3 (w8.setCell ⟨g, i, none⟩ (.int .u32 ot)) := f8.setCell (p := ⟨g, i, none⟩) hg1 _
  have b9 := b3.trans (f9.mono s3)
  rw [HI.out]
  go_wp2_with fail
  refine (mget_at r3.kind r3.run r3.a r3.b r3.nonce r3.box r3.more q3' _ L8 _ I9.out R8.out (HM.out.below b9) G8.out).mono ?_
  rintro e w9 ⟨rfl, hb9⟩
  have f10 : Below w3.heap.size w3 (w9.alloc (.cells #[.int .u32 r3.kind, .int .u32 r3.run, .int .u32 r3.a, .int .u32 r3.b, .int .u32 r3.nonce, .int .u32 r3.box, .int .u32 r3.more] 24)) := (f9.trans (hb9.mono f9.size)).alloc (f9.trans (hb9.mono f9.size)).size _
  have b10 := b3.trans (f10.mono s3)
  have X10 := Lib.hid (block_below X3.out f10)
  have Y10 := Lib.hid (heap_alloc_new w9 (.cells #[.int .u32 r3.kind, .int .u32 r3.run, .int .u32 r3.a, .int .u32 r3.b, .int .u32 r3.nonce, .int .u32 r3.box, .int .u32 r3.more] 24))
  have hl0 := HC.out i (by rw [HN.out]; exact hin)
  rw [HY0.out] at hl0
  have e0 := (f10.cell (p := ⟨b, o + i, none⟩) (lt_of_cell hl0)).trans hl0
  have in0 : (0 : Int) ≤ (i : Int) := by omega
  have in1 : (i : Int) < (n : Int) := by omega
  clear hl0 hb9 hy8 hfz
  go_wp2_with fail
  generalize w9.alloc (.cells #[.int .u32 r3.kind, .int .u32 r3.run, .int .u32 r3.a, .int .u32 r3.b, .int .u32 r3.nonce, .int .u32 r3.box, .int .u32 r3.more] 24) = W at *
  have x0 := (m7_cell (m := mm) X10.out).1
  have x1 := (m7_cell (m := mm) X10.out).2.1
  have x2 := (m7_cell (m := mm) X10.out).2.2.1
  have x3 := (m7_cell (m := mm) X10.out).2.2.2.1
  have x4 := (m7_cell (m := mm) X10.out).2.2.2.2.1
  have x5 := (m7_cell (m := mm) X10.out).2.2.2.2.2.1
  have x6 := (m7_cell (m := mm) X10.out).2.2.2.2.2.2
  have z0 := (m7_cell (m := r3) Y10.out).1
  have z1 := (m7_cell (m := r3) Y10.out).2.1
  have z2 := (m7_cell (m := r3) Y10.out).2.2.1
  have z3 := (m7_cell (m := r3) Y10.out).2.2.2.1
  have z4 := (m7_cell (m := r3) Y10.out).2.2.2.2.1
  have z5 := (m7_cell (m := r3) Y10.out).2.2.2.2.2.1
  have z6 := (m7_cell (m := r3) Y10.out).2.2.2.2.2.2
  have q9 : ∀ wx, (Op.equalIn 10000 24 (.agg #[.int .u32 r3.kind, .int .u32 r3.run, .int .u32 r3.a, .int .u32 r3.b, .int .u32 r3.nonce, .int .u32 r3.box, .int .u32 r3.more]) (.agg #[.int .u32 mm.kind, .int .u32 mm.run, .int .u32 mm.a, .int .u32 mm.b, .int .u32 mm.nonce, .int .u32 mm.box, .int .u32 mm.more])).run Tryd.prog wx = .ok (y0 == ot) wx := fun wx => by rw [eq_run r3 mm wx, HEQ2.out]
  go_quiet (fail)
  go_wp2_with fail
  go_ret
  exact ⟨rfl, b10.trans ((reads1 W _).below _)⟩
theorem walk (w : World) (kd : Int) (hkd : (Lit.int .u8 kd).wf = true) (q0 q1 q2 q3 q4 q5 : Int) (h0 : (Lit.int .u32 q0).wf = true) (h1 : (Lit.int .u32 q1).wf = true) (h2 : (Lit.int .u32 q2).wf = true) (h3 : (Lit.int .u32 q3).wf = true) (h4 : (Lit.int .u32 q4).wf = true) (h5 : (Lit.int .u32 q5).wf = true)
    (at0 : Int) (hat : (Lit.int .u8 at0).wf = true) (ot : Int) (hot : (Lit.int .u32 ot).wf = true) (en : Int) (hen : (Lit.int .u32 en).wf = true) (hm : Masks w) :
    Calls Tryd.prog 6 #[.int .u8 kd, .agg #[.int .u32 q0, .int .u32 q1, .int .u32 q2, .int .u32 q3, .int .u32 q4, .int .u32 q5], .int .u8 at0, .int .u32 ot, .int .u32 en] w fun e w' => e = .returned (.bool true) ∧ Below w.heap.size w w' := by
  have bk := Go.bounds_u8 hkd
  have ba := Go.bounds_u8 hat
  have b0 := Go.bounds_u32 h0
  have b1 := Go.bounds_u32 h1
  have b2 := Go.bounds_u32 h2
  have b3 := Go.bounds_u32 h3
  have b4 := Go.bounds_u32 h4
  have b5 := Go.bounds_u32 h5
  have bo := Go.bounds_u32 hot
  have be := Go.bounds_u32 hen
  have m0 := Int.emod_nonneg kd (show (9 : Int) ≠ 0 from by omega)
  have m1 := Int.emod_lt_of_pos kd (show (0 : Int) < 9 from by omega)
  exact walk_main w kd q0 q1 q2 q3 q4 q5 at0 ot en bk.1 bk.2 ba.1 ba.2 ⟨bo.1, by omega⟩ ⟨be.1, by omega⟩ ⟨⟨by simp only; omega, by simp only; omega⟩, ⟨b0.1, by simp only; omega⟩, ⟨b1.1, by simp only; omega⟩, ⟨b2.1, by simp only; omega⟩, ⟨b3.1, by simp only; omega⟩, ⟨b4.1, by simp only; omega⟩, ⟨b5.1, by simp only; omega⟩⟩ hm
end Go.Proofs.YthpcnekidlhfpaaDoor.msgSpoilt
