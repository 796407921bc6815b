/- Contracts of layer msg: May, fieldsOf, Put. -/
import Derived.Test.YthpcnekidlhfpaaDoorMsgA
namespace Go.Proofs.YthpcnekidlhfpaaDoor
open Go.RowKit

def M7.val (m : M7) : Value := .agg #[.int .u32 m.kind, .int .u32 m.run, .int .u32 m.a, .int .u32 m.b, .int .u32 m.nonce, .int .u32 m.box, .int .u32 m.more]
theorem mayM_noKind {m : M7} (h : isKindB m.kind = false) : mayM m = false := by unfold mayM; rw [h]; rfl
theorem mayM_no {m : M7} {t : Int} (ht : 2 ≤ t ∧ t ≤ 7) (h : fitsM m t = false) : mayM m = false := by
  rcases tags ht with rfl | rfl | rfl | rfl | rfl | rfl <;> simp [mayM, h]
theorem mayM_yes {m : M7} (hk : isKindB m.kind = true) (h : ∀ t : Int, 2 ≤ t → t < 8 → fitsM m t = true) : mayM m = true := by
  simp [mayM, hk, h 2 (by omega) (by omega), h 3 (by omega) (by omega), h 4 (by omega) (by omega), h 5 (by omega) (by omega), h 6 (by omega) (by omega), h 7 (by omega) (by omega)]
theorem fits_has {m : M7} {t : Int} (h : hasT m.kind t = true) : fitsM m t = true := by simp [fitsM, h]
theorem fits_zero {m : M7} {t : Int} (h : m.word t = 0) : fitsM m t = true := by simp [fitsM, h]
theorem fits_not {m : M7} {t : Int} (h : hasT m.kind t = false) (h0 : m.word t ≠ 0) : fitsM m t = false := by simp [fitsM, h, h0]
theorem fits_next {m : M7} {t : Int} (H : ∀ j : Int, 2 ≤ j → j < t → fitsM m j = true) (h : fitsM m t = true) : ∀ j : Int, 2 ≤ j → j < t + 1 → fitsM m j = true := by
  intro j h1 h2
  by_cases e : j = t
  · subst e; exact h
  · exact H j h1 (by omega)
set_option maxHeartbeats 400000 in
theorem mmay_noKind (m : M7) (w : World) (hk : isKindB m.kind = false) :
    Calls Tryd.prog 11 #[.agg #[.int .u32 m.kind, .int .u32 m.run, .int .u32 m.a, .int .u32 m.b, .int .u32 m.nonce, .int .u32 m.box, .int .u32 m.more]] w fun e w' => e = .returned (.bool false) ∧ Below w.heap.size w w' := by
  have HK := Lib.hid hk; clear hk
  go_enter Tryd.func11, Tryd.ntmps11
  go_wp2_with fail
  refine (isKind_any _ _).mono ?_
  rintro e w1 ⟨rfl, rfl⟩
  rw [HK.out]
  go_wp2_with fail
  go_ret
  exact ⟨rfl, (Below.refl _ _).alloc (Nat.le_refl _) _⟩
set_option maxHeartbeats 4000000 in
theorem mmay_kind (m : M7) (w : World) (hk : isKindB m.kind = true) (hm : Masks w) :
    Calls Tryd.prog 11 #[.agg #[.int .u32 m.kind, .int .u32 m.run, .int .u32 m.a, .int .u32 m.b, .int .u32 m.nonce, .int .u32 m.box, .int .u32 m.more]] w fun e w' => e = .returned (.bool (mayM m)) ∧ Below w.heap.size w w' := by
  have HK := Lib.hid hk; have HM := Lib.hid hm; clear hk hm
  go_enter Tryd.func11, Tryd.ntmps11
  go_wp2_with fail
  refine (isKind_any _ _).mono ?_
  rintro e w1 ⟨rfl, rfl⟩
  rw [HK.out]
  go_wp2_with fail
  refine (mwordsOf_any _ _ _ _ _ _ _ _).mono ?_
  rintro e w1 ⟨rfl, hb1⟩
  obtain ⟨hc, hz⟩ := bcell hb1
  have hsz : w.heap.size < w1.heap.size := by have := hb1.size; simp at this; omega
  have HB := Lib.hid (show Below w.heap.size w (w1.alloc (.cells #[.int .u32 0, .int .u32 0, .int .u32 m.run, .int .u32 m.a, .int .u32 m.b, .int .u32 m.nonce, .int .u32 m.box, .int .u32 m.more] 51)) from (((Below.refl _ _).alloc (Nat.le_refl _) _).trans (hb1.mono (by simp))).alloc (by omega) _)
  have HMW := Lib.hid (HM.out.below HB.out)
  go_wp2_with fail
  go_loop [4] (fun t => ∃ j : Int, 2 ≤ j ∧ j ≤ 8 ∧ t = .int .u32 j ∧ Hid (∀ i : Int, 2 ≤ i → i < j → fitsM m i = true)) (fun t => (8 - intOf t).toNat)
  case atStart => exact ⟨2, by omega, by omega, rfl, Lib.hid (by intro i h1 h2; omega)⟩
  case round =>
    obtain ⟨j, h2, h8, rfl, HF⟩ := hrel
    by_cases hlt : j < 8
    · rcases tags ⟨h2, by omega⟩ with rfl | rfl | rfl | rfl | rfl | rfl
      · by_cases hh : hasT m.kind 2 = true
        · have HH := Lib.hid hh; clear hh
          go_wp2_with fail
          refine (has_any m.kind 2 _ HK.out (by omega) HMW.out).mono ?_
          rintro e w2 ⟨rfl, rfl⟩
          rw [HH.out]
          go_wp2_with fail
          go_round
          case rel => exact ⟨3, by omega, by omega, rfl, Lib.hid (fits_next HF.out (fits_has HH.out))⟩
          case measure => simp [intOf]
        · have HH := Lib.hid (show hasT m.kind 2 = false by simpa using hh); clear hh
          by_cases h0 : (m.run != 0) = true
          · have H0 := Lib.hid (show m.word 2 ≠ 0 by simpa [M7.word] using h0)
            go_wp2_with fail
            refine (has_any m.kind 2 _ HK.out (by omega) HMW.out).mono ?_
            rintro e w2 ⟨rfl, rfl⟩
            rw [HH.out]
            go_wp2_with fail
            go_ret
            exact ⟨ret_bool (mayM_no (t := 2) (by omega) (fits_not HH.out H0.out)).symm, HB.out⟩
          · have h0' : (m.run != 0) = false := by simpa using h0
            have H0 := Lib.hid (show m.word 2 = 0 by simpa [M7.word] using h0)
            clear h0
            go_wp2_with fail
            refine (has_any m.kind 2 _ HK.out (by omega) HMW.out).mono ?_
            rintro e w2 ⟨rfl, rfl⟩
            rw [HH.out]
            go_wp2_with fail
            go_round
            case rel => exact ⟨3, by omega, by omega, rfl, Lib.hid (fits_next HF.out (fits_zero H0.out))⟩
            case measure => simp [intOf]
      · by_cases hh : hasT m.kind 3 = true
        · have HH := Lib.hid hh; clear hh
          go_wp2_with fail
          refine (has_any m.kind 3 _ HK.out (by omega) HMW.out).mono ?_
          rintro e w2 ⟨rfl, rfl⟩
          rw [HH.out]
          go_wp2_with fail
          go_round
          case rel => exact ⟨4, by omega, by omega, rfl, Lib.hid (fits_next HF.out (fits_has HH.out))⟩
          case measure => simp [intOf]
        · have HH := Lib.hid (show hasT m.kind 3 = false by simpa using hh); clear hh
          by_cases h0 : (m.a != 0) = true
          · have H0 := Lib.hid (show m.word 3 ≠ 0 by simpa [M7.word] using h0)
            go_wp2_with fail
            refine (has_any m.kind 3 _ HK.out (by omega) HMW.out).mono ?_
            rintro e w2 ⟨rfl, rfl⟩
            rw [HH.out]
            go_wp2_with fail
            go_ret
            exact ⟨ret_bool (mayM_no (t := 3) (by omega) (fits_not HH.out H0.out)).symm, HB.out⟩
          · have h0' : (m.a != 0) = false := by simpa using h0
            have H0 := Lib.hid (show m.word 3 = 0 by simpa [M7.word] using h0)
            clear h0
            go_wp2_with fail
            refine (has_any m.kind 3 _ HK.out (by omega) HMW.out).mono ?_
            rintro e w2 ⟨rfl, rfl⟩
            rw [HH.out]
            go_wp2_with fail
            go_round
            case rel => exact ⟨4, by omega, by omega, rfl, Lib.hid (fits_next HF.out (fits_zero H0.out))⟩
            case measure => simp [intOf]
      · by_cases hh : hasT m.kind 4 = true
        · have HH := Lib.hid hh; clear hh
          go_wp2_with fail
          refine (has_any m.kind 4 _ HK.out (by omega) HMW.out).mono ?_
          rintro e w2 ⟨rfl, rfl⟩
          rw [HH.out]
          go_wp2_with fail
          go_round
          case rel => exact ⟨5, by omega, by omega, rfl, Lib.hid (fits_next HF.out (fits_has HH.out))⟩
          case measure => simp [intOf]
        · have HH := Lib.hid (show hasT m.kind 4 = false by simpa using hh); clear hh
          by_cases h0 : (m.b != 0) = true
          · have H0 := Lib.hid (show m.word 4 ≠ 0 by simpa [M7.word] using h0)
            go_wp2_with fail
            refine (has_any m.kind 4 _ HK.out (by omega) HMW.out).mono ?_
            rintro e w2 ⟨rfl, rfl⟩
            rw [HH.out]
            go_wp2_with fail
            go_ret
            exact ⟨ret_bool (mayM_no (t := 4) (by omega) (fits_not HH.out H0.out)).symm, HB.out⟩
          · have h0' : (m.b != 0) = false := by simpa using h0
            have H0 := Lib.hid (show m.word 4 = 0 by simpa [M7.word] using h0)
            clear h0
            go_wp2_with fail
            refine (has_any m.kind 4 _ HK.out (by omega) HMW.out).mono ?_
            rintro e w2 ⟨rfl, rfl⟩
            rw [HH.out]
            go_wp2_with fail
            go_round
            case rel => exact ⟨5, by omega, by omega, rfl, Lib.hid (fits_next HF.out (fits_zero H0.out))⟩
            case measure => simp [intOf]
      · by_cases hh : hasT m.kind 5 = true
        · have HH := Lib.hid hh; clear hh
          go_wp2_with fail
          refine (has_any m.kind 5 _ HK.out (by omega) HMW.out).mono ?_
          rintro e w2 ⟨rfl, rfl⟩
          rw [HH.out]
          go_wp2_with fail
          go_round
          case rel => exact ⟨6, by omega, by omega, rfl, Lib.hid (fits_next HF.out (fits_has HH.out))⟩
          case measure => simp [intOf]
        · have HH := Lib.hid (show hasT m.kind 5 = false by simpa using hh); clear hh
          by_cases h0 : (m.nonce != 0) = true
          · have H0 := Lib.hid (show m.word 5 ≠ 0 by simpa [M7.word] using h0)
            go_wp2_with fail
            refine (has_any m.kind 5 _ HK.out (by omega) HMW.out).mono ?_
            rintro e w2 ⟨rfl, rfl⟩
            rw [HH.out]
            go_wp2_with fail
            go_ret
            exact ⟨ret_bool (mayM_no (t := 5) (by omega) (fits_not HH.out H0.out)).symm, HB.out⟩
          · have h0' : (m.nonce != 0) = false := by simpa using h0
            have H0 := Lib.hid (show m.word 5 = 0 by simpa [M7.word] using h0)
            clear h0
            go_wp2_with fail
            refine (has_any m.kind 5 _ HK.out (by omega) HMW.out).mono ?_
            rintro e w2 ⟨rfl, rfl⟩
            rw [HH.out]
            go_wp2_with fail
            go_round
            case rel => exact ⟨6, by omega, by omega, rfl, Lib.hid (fits_next HF.out (fits_zero H0.out))⟩
            case measure => simp [intOf]
      · by_cases hh : hasT m.kind 6 = true
        · have HH := Lib.hid hh; clear hh
          go_wp2_with fail
          refine (has_any m.kind 6 _ HK.out (by omega) HMW.out).mono ?_
          rintro e w2 ⟨rfl, rfl⟩
          rw [HH.out]
          go_wp2_with fail
          go_round
          case rel => exact ⟨7, by omega, by omega, rfl, Lib.hid (fits_next HF.out (fits_has HH.out))⟩
          case measure => simp [intOf]
        · have HH := Lib.hid (show hasT m.kind 6 = false by simpa using hh); clear hh
          by_cases h0 : (m.box != 0) = true
          · have H0 := Lib.hid (show m.word 6 ≠ 0 by simpa [M7.word] using h0)
            go_wp2_with fail
            refine (has_any m.kind 6 _ HK.out (by omega) HMW.out).mono ?_
            rintro e w2 ⟨rfl, rfl⟩
            rw [HH.out]
            go_wp2_with fail
            go_ret
            exact ⟨ret_bool (mayM_no (t := 6) (by omega) (fits_not HH.out H0.out)).symm, HB.out⟩
          · have h0' : (m.box != 0) = false := by simpa using h0
            have H0 := Lib.hid (show m.word 6 = 0 by simpa [M7.word] using h0)
            clear h0
            go_wp2_with fail
            refine (has_any m.kind 6 _ HK.out (by omega) HMW.out).mono ?_
            rintro e w2 ⟨rfl, rfl⟩
            rw [HH.out]
            go_wp2_with fail
            go_round
            case rel => exact ⟨7, by omega, by omega, rfl, Lib.hid (fits_next HF.out (fits_zero H0.out))⟩
            case measure => simp [intOf]
      · by_cases hh : hasT m.kind 7 = true
        · have HH := Lib.hid hh; clear hh
          go_wp2_with fail
          refine (has_any m.kind 7 _ HK.out (by omega) HMW.out).mono ?_
          rintro e w2 ⟨rfl, rfl⟩
          rw [HH.out]
          go_wp2_with fail
          go_round
          case rel => exact ⟨8, by omega, by omega, rfl, Lib.hid (fits_next HF.out (fits_has HH.out))⟩
          case measure => simp [intOf]
        · have HH := Lib.hid (show hasT m.kind 7 = false by simpa using hh); clear hh
          by_cases h0 : (m.more != 0) = true
          · have H0 := Lib.hid (show m.word 7 ≠ 0 by simpa [M7.word] using h0)
            go_wp2_with fail
            refine (has_any m.kind 7 _ HK.out (by omega) HMW.out).mono ?_
            rintro e w2 ⟨rfl, rfl⟩
            rw [HH.out]
            go_wp2_with fail
            go_ret
            exact ⟨ret_bool (mayM_no (t := 7) (by omega) (fits_not HH.out H0.out)).symm, HB.out⟩
          · have h0' : (m.more != 0) = false := by simpa using h0
            have H0 := Lib.hid (show m.word 7 = 0 by simpa [M7.word] using h0)
            clear h0
            go_wp2_with fail
            refine (has_any m.kind 7 _ HK.out (by omega) HMW.out).mono ?_
            rintro e w2 ⟨rfl, rfl⟩
            rw [HH.out]
            go_wp2_with fail
            go_round
            case rel => exact ⟨8, by omega, by omega, rfl, Lib.hid (fits_next HF.out (fits_zero H0.out))⟩
            case measure => simp [intOf]
    · obtain rfl : j = 8 := by omega
      go_wp2_with fail
      go_ret
      exact ⟨ret_bool (mayM_yes HK.out HF.out).symm, HB.out⟩
end Go.Proofs.YthpcnekidlhfpaaDoor
