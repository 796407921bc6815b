/- Contracts of the reference of layer msg: May, Put. -/
import Derived.Test.YthpcnekidlhfpaaDoorRefA
namespace Go.Proofs.YthpcnekidlhfpaaDoor
open Go.RowKit

set_option maxHeartbeats 4000000 in
theorem rmay_kind (m : M7) (w : World) (hk : isKindB m.kind = true) :
    Calls Tryd.prog 12 #[.agg #[.int .u32 m.kind, .int .u32 m.run, .int .u32 m.a, .int .u32 m.b, .int .u32 m.nonce, .int .u32 m.box, .int .u32 m.more]] w fun e w' => e = .returned (.bool (mayM m)) ∧ Below w.heap.size w w' := by
  have hk' := of_decide_eq_true hk
  have k1 : 1 ≤ m.kind := hk'.1
  have k9 : m.kind ≤ 9 := hk'.2
  have d1 : decide (m.kind < 1) = false := by simp; omega
  have HK := Lib.hid hk; clear hk hk'
  go_enter Tryd.func12, Tryd.ntmps12
  go_wp2_with fail
  go_loopw [3] (fun t wr => ∃ j : Int, 2 ≤ j ∧ j ≤ 8 ∧ t = .int .u32 j ∧ Hid (∀ i : Int, 2 ≤ i → i < j → fitsM m i = true) ∧ Below (w.heap.size + 1) (w.alloc (.cells #[.int .u32 m.kind, .int .u32 m.run, .int .u32 m.a, .int .u32 m.b, .int .u32 m.nonce, .int .u32 m.box, .int .u32 m.more] 24)) wr) (fun t _ => (8 - intOf t).toNat)
  case atStart => exact ⟨2, by omega, by omega, rfl, Lib.hid (by intro i h1 h2; omega), Below.refl _ _⟩
  case round =>
    obtain ⟨j, h2, h8, rfl, HF, hb⟩ := hrel
    have hbw : Below w.heap.size w wr := ((Below.refl _ _).alloc (Nat.le_refl _) _).trans (hb.mono (by omega))
    have hc : ∀ o, wr.cell? ⟨w.heap.size, o, none⟩ = (w.alloc (.cells #[.int .u32 m.kind, .int .u32 m.run, .int .u32 m.a, .int .u32 m.b, .int .u32 m.nonce, .int .u32 m.box, .int .u32 m.more] 24)).cell? ⟨w.heap.size, o, none⟩ := fun o => hb.cell (p := ⟨w.heap.size, o, none⟩) (by simp)
    have sr : w.heap.size + 1 ≤ wr.heap.size := by have := hb.size; simpa using this
    by_cases hlt : j < 8
    · by_cases hh : hasT m.kind j = true
      · have HH := Lib.hid hh; clear hh
        go_wp2_with fail
        refine (rhas_kt m.kind j _ HK.out).mono ?_
        rintro e w2 ⟨rfl, rfl⟩
        rw [HH.out]
        go_wp2_with fail
        go_roundw
        case rel => exact ⟨j + 1, by omega, by omega, by go_num, Lib.hid (fits_next HF.out (fits_has HH.out)), hb⟩
        case measure => simp [intOf]; omega
      · have HH := Lib.hid (show hasT m.kind j = false by simpa using hh); clear hh
        obtain ⟨x, hx⟩ : ∃ x, m.word j = x := ⟨_, rfl⟩
        have HX := Lib.hid hx; clear hx
        by_cases h0 : (x != 0) = true
        · have H0 := Lib.hid (show m.word j ≠ 0 by rw [HX.out]; simpa using h0)
          go_wp2_with fail
          refine (rhas_kt m.kind j _ HK.out).mono ?_
          rintro e w2 ⟨rfl, rfl⟩
          rw [HH.out]
          go_wp2_with fail
          refine (rword_any m j _ (by omega)).mono ?_
          rintro e w2 ⟨rfl, hb2⟩
          rw [HX.out]
          go_wp2_with fail
          go_ret
          exact ⟨ret_bool (mayM_no (t := j) (by omega) (fits_not HH.out H0.out)).symm, hbw.trans (hb2.mono hbw.size)⟩
        · have h0' : (x != 0) = false := by simpa using h0
          have H0 := Lib.hid (show m.word j = 0 by rw [HX.out]; simpa using h0)
          clear h0
          go_wp2_with fail
          refine (rhas_kt m.kind j _ HK.out).mono ?_
          rintro e w2 ⟨rfl, rfl⟩
          rw [HH.out]
          go_wp2_with fail
          refine (rword_any m j _ (by omega)).mono ?_
          rintro e w2 ⟨rfl, hb2⟩
          rw [HX.out]
          go_wp2_with fail
          go_roundw
          case rel => exact ⟨j + 1, by omega, by omega, by go_num, Lib.hid (fits_next HF.out (fits_zero H0.out)), hb.trans (hb2.mono sr)⟩
          case measure => simp [intOf]; omega
    · obtain rfl : j = 8 := by omega
      go_wp2_with fail
      go_ret
      exact ⟨ret_bool (mayM_yes HK.out HF.out).symm, hbw⟩
theorem rmay_any (m : M7) (w : World) :
    Calls Tryd.prog 12 #[.agg #[.int .u32 m.kind, .int .u32 m.run, .int .u32 m.a, .int .u32 m.b, .int .u32 m.nonce, .int .u32 m.box, .int .u32 m.more]] w fun e w' => e = .returned (.bool (mayM m)) ∧ Below w.heap.size w w' := by
  by_cases hk : isKindB m.kind = true
  · exact rmay_kind m w hk
  · have hk' : isKindB m.kind = false := by simpa using hk
    rw [mayM_noKind hk']
    exact rmay_noKind m w hk'
set_option maxHeartbeats 1000000 in
theorem rput_no (m : M7) (w : World) (h : mayM m = false) :
    Calls Tryd.prog 10 #[.agg #[.int .u32 m.kind, .int .u32 m.run, .int .u32 m.a, .int .u32 m.b, .int .u32 m.nonce, .int .u32 m.box, .int .u32 m.more]] w (RowGives [] 1 w) := by
  have H := Lib.hid h; clear h
  go_enter Tryd.func10, Tryd.ntmps10
  go_wp2_with fail
  refine (rmay_any m _).mono ?_
  rintro e w1 ⟨rfl, hb1⟩
  rw [H.out]
  have hb : Below w.heap.size w w1 := ((Below.refl _ _).alloc (Nat.le_refl _) _).trans (hb1.mono (by simp))
  go_wp2_with fail
  go_ret2
  exact ⟨_, rfl, (nil_row _).1, (nil_row _).2.1, From.nil _ _ _, hb⟩
theorem flat_upto_len (m : M7) (t : Int) : (flatF (uptoM m t)).length ≤ 18 := by
  have h1 := kindTags_len m.kind
  have h2 := List.length_filter_le (fun s => decide (s < t)) (kindTags m.kind)
  have h3 := flatF_ones ((kindTags m.kind).filter fun s => decide (s < t)) m.word
  unfold uptoM
  rw [flatF_cons]
  simp only [List.length_cons, List.length_append, h3]
  simp
  omega
set_option maxHeartbeats 4000000 in
theorem rput_yes (m : M7) (w : World) (h : mayM m = true) :
    Calls Tryd.prog 10 #[.agg #[.int .u32 m.kind, .int .u32 m.run, .int .u32 m.a, .int .u32 m.b, .int .u32 m.nonce, .int .u32 m.box, .int .u32 m.more]] w (RowGives (putM m) 0 w) := by
  obtain ⟨i0, hi, hz0, hz1, hz2⟩ := info_parts Tryd.infoU
  have H := Lib.hid h; clear h
  have HK := Lib.hid (mayM_kind H.out)
  go_enter Tryd.func10, Tryd.ntmps10
  go_wp2_with fail
  refine (rmay_any m _).mono ?_
  rintro e w1 ⟨rfl, hb1⟩
  rw [H.out]
  have hc1 : ∀ o, w1.cell? ⟨w.heap.size, o, none⟩ = (w.alloc (.cells #[.int .u32 m.kind, .int .u32 m.run, .int .u32 m.a, .int .u32 m.b, .int .u32 m.nonce, .int .u32 m.box, .int .u32 m.more] 24)).cell? ⟨w.heap.size, o, none⟩ := fun o => hb1.cell (p := ⟨w.heap.size, o, none⟩) (by simp)
  have s1 : w.heap.size + 1 ≤ w1.heap.size := by have := hb1.size; simpa using this
  go_wp2_with fail
  go_loopw [4, 5] (fun lv t wr => ∃ j : Int, 2 ≤ j ∧ j ≤ 8 ∧ t = .int .u32 j ∧ Hid (wr.ownsRow (w.heap.size + 1) 22 1 lv (flatF (uptoM m j)).length ((flatF (uptoM m j)).map (Value.int .u32))) ∧ Below (w.heap.size + 1) (w.alloc (.cells #[.int .u32 m.kind, .int .u32 m.run, .int .u32 m.a, .int .u32 m.b, .int .u32 m.nonce, .int .u32 m.box, .int .u32 m.more] 24)) wr) (fun _ t _ => (8 - intOf t).toNat)
  case atStart =>
    refine ⟨2, by omega, by omega, rfl, Lib.hid ?_, (hb1.mono (by simp)).alloc (by omega) _⟩
    rw [uptoM_start]
    exact ⟨rfl, .inr ⟨w1.heap.size, 3, #[.int .u32 1, .int .u32 1, .int .u32 m.kind], rfl, by omega, heap_alloc_new w1 _, Nat.le_refl _, by decide, rfl, rfl⟩⟩
  case round =>
    obtain ⟨j, h2, h8, rfl, HO, hb⟩ := hrel
    have hbw : Below w.heap.size w wr := ((Below.refl _ _).alloc (Nat.le_refl _) _).trans (hb.mono (by omega))
    have hc : ∀ o, wr.cell? ⟨w.heap.size, o, none⟩ = (w.alloc (.cells #[.int .u32 m.kind, .int .u32 m.run, .int .u32 m.a, .int .u32 m.b, .int .u32 m.nonce, .int .u32 m.box, .int .u32 m.more] 24)).cell? ⟨w.heap.size, o, none⟩ := fun o => hb.cell (p := ⟨w.heap.size, o, none⟩) (by simp)
    have sr : w.heap.size + 1 ≤ wr.heap.size := by have := hb.size; simpa using this
    by_cases hlt : j < 8
    · by_cases hh : hasT m.kind j = true
      · have HH := Lib.hid hh; clear hh
        have hl18 := flat_upto_len m j
        have HY := Lib.hid (uptoM_yes HK.out (show 2 ≤ j ∧ j ≤ 7 by omega) HH.out)
        go_wp2_with fail
        refine (rhas_kt m.kind j _ HK.out).mono ?_
        rintro e w2 ⟨rfl, rfl⟩
        rw [HH.out]
        go_wp2_with fail
        refine (rword_any m j _ (by omega)).mono ?_
        rintro e w2 ⟨rfl, hb2⟩
        have s2 := hb2.size
        have HO2 := Lib.hid (owns_below HO.out hb2)
        go_wp2_with (at_builtin; refine wpList_append_ints rfl (.tmp 20) (.tmp 25) 26 rfl (w.heap.size + 1) 22 i0 .u32 0 4 Tryd.underlying26 hi hz0 hz1 hz2 (by decide) _ _ _ rfl (HO2.out.alloc _) _ [j, 1, m.word j] rfl ?c0 ?c1 ?c2 ?_)
        case c0 => exact ints_new _ rfl rfl rfl (small _ (by simp))
        case c1 => simp; omega
        case c2 => simp; omega
        intro v3 w3 hown3 hgrow3
        have hb3 : Below (w.heap.size + 1) (w.alloc (.cells #[.int .u32 m.kind, .int .u32 m.run, .int .u32 m.a, .int .u32 m.b, .int .u32 m.nonce, .int .u32 m.box, .int .u32 m.more] 24)) w3 :=
          ((hb.trans (hb2.mono sr)).alloc (by omega) _).grown hgrow3 (by simp; omega) (fun g hg => (HO2.out.lt g hg).1)
        have hnew : w3.ownsRow (w.heap.size + 1) 22 1 v3 (flatF (uptoM m (j + 1))).length ((flatF (uptoM m (j + 1))).map (Value.int .u32)) := by
          rw [HY.out, flatF_snoc]
          simpa [wordsF1] using hown3
        have HN := Lib.hid hnew
        clear hnew hown3 hgrow3
        go_wp2_with fail
        go_roundw
        case rel => exact ⟨j + 1, by omega, by omega, by go_num, HN, hb3⟩
        case measure => simp [intOf]; omega
      · have HH := Lib.hid (show hasT m.kind j = false by simpa using hh); clear hh
        have HY := Lib.hid (uptoM_no HK.out (show 2 ≤ j ∧ j ≤ 7 by omega) HH.out)
        go_wp2_with fail
        refine (rhas_kt m.kind j _ HK.out).mono ?_
        rintro e w2 ⟨rfl, rfl⟩
        rw [HH.out]
        go_wp2_with fail
        go_roundw
        case rel => exact ⟨j + 1, by omega, by omega, by go_num, Lib.hid (by rw [HY.out]; exact HO.out), hb⟩
        case measure => simp [intOf]; omega
    · obtain rfl : j = 8 := by omega
      rw [uptoM_end] at HO
      go_wp2_with fail
      go_ret2
      obtain ⟨r1, r2, _⟩ := ints_of_owns HO.out
      exact ⟨_, rfl, r1, Typed.owns HO.out, r2.mono (by omega), hbw⟩
/-- What the reference's Put answers. -/
theorem rput_any (m : M7) (w : World) :
    Calls Tryd.prog 10 #[.agg #[.int .u32 m.kind, .int .u32 m.run, .int .u32 m.a, .int .u32 m.b, .int .u32 m.nonce, .int .u32 m.box, .int .u32 m.more]] w (RowGives (putL m) (putE m) w) := by
  by_cases h : mayM m = true
  · unfold putL putE; rw [if_pos h, if_pos h]; exact rput_yes m w h
  · unfold putL putE; rw [if_neg h, if_neg h]; exact rput_no m w (by simpa using h)
end Go.Proofs.YthpcnekidlhfpaaDoor
