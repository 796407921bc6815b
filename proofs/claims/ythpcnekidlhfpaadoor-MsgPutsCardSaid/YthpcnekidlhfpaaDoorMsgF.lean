/- The contracts of layer msg's Get and Kind. -/
import Derived.Test.YthpcnekidlhfpaaDoorMsgE
namespace Go.Proofs.YthpcnekidlhfpaaDoor
open Go.RowKit

/-- What a read gives: a message, and an error. -/
def MsgGives (m : M7) (er : Int) (w : World) (e : Ending) (w' : World) : Prop :=
  e = .returned (.tuple #[.agg #[.int .u32 m.kind, .int .u32 m.run, .int .u32 m.a, .int .u32 m.b, .int .u32 m.nonce, .int .u32 m.box, .int .u32 m.more], .int .i64 er]) ∧ Below w.heap.size w w'
theorem getM_err {A : List Int} (h : (getF A).2 ≠ 0) : getM A = (zeroM, (getF A).2) := by unfold getM; rw [if_neg h]
theorem getM_ok {A : List Int} (h : (getF A).2 = 0) : getM A = finM (getF A).1 := by unfold getM; rw [if_pos h]
theorem finM_bad {f : Fld} {R : List Fld} (h : headOk f = false) : finM (f :: R) = (zeroM, 4) := by simp only [finM]; rw [if_neg (by simp [h])]
theorem finM_no {f : Fld} {R : List Fld} (h : headOk f = true) (hw : okW (f.2.getD 0 0) R = false) : finM (f :: R) = (zeroM, 2) := by simp only [finM]; rw [if_pos h, if_neg (by rw [hw]; decide)]
theorem finM_yes {f : Fld} {R : List Fld} (h : headOk f = true) (hw : okW (f.2.getD 0 0) R = true) : finM (f :: R) = (msgOf (f.2.getD 0 0) R, 0) := by simp only [finM]; rw [if_pos h, if_pos hw]

theorem getF_len {A : List Int} (h0 : ∀ x ∈ A, 0 ≤ x) : (getF A).1.length ≤ 1000 := by
  rcases getF_read A h0 with ⟨_, h2, _⟩ | ⟨h, _⟩ | ⟨h, _⟩
  · by_cases hA : 64 < A.length
    · unfold getF; rw [if_pos hA]; simp
    · have hl : ∀ F : List Fld, F.length ≤ (flatF F).length := by
        intro F
        induction F with
        | nil => simp
        | cons f F ih => rw [flatF_cons]; simp; omega
      have := hl (getF A).1
      rw [h2] at this
      omega
  · rw [h]; simp
  · rw [h]; simp
theorem wordsIn_no (k : Int) (v : Value) (F : List Fld) (w : World) (hk : isKindB k = true) (hm : Masks w) (hF : Flds w v F) (hn : F.length ≤ 1000) (ho : okW k F = false) :
    Calls Tryd.prog 27 #[.int .u32 k, v] w fun e w' => e = .returned (.tuple #[.agg #[.int .u32 0, .int .u32 0, .int .u32 0, .int .u32 0, .int .u32 0, .int .u32 0, .int .u32 0, .int .u32 0], .bool false]) ∧ Below w.heap.size w w' := by
  refine (wordsIn_any k v F w hk hm hF hn).mono fun e w' ⟨h1, h2⟩ => ⟨?_, h2⟩
  rw [steps_all hk, if_neg (by rw [ho]; decide)] at h1
  exact h1
theorem wordsIn_yes (k : Int) (v : Value) (F : List Fld) (w : World) (hk : isKindB k = true) (hm : Masks w) (hF : Flds w v F) (hn : F.length ≤ 1000) (ho : okW k F = true) :
    Calls Tryd.prog 27 #[.int .u32 k, v] w fun e w' => e = .returned (.tuple #[.agg #[.int .u32 0, .int .u32 0, .int .u32 (wordOf F 2), .int .u32 (wordOf F 3), .int .u32 (wordOf F 4), .int .u32 (wordOf F 5), .int .u32 (wordOf F 6), .int .u32 (wordOf F 7)], .bool true]) ∧ Below w.heap.size w w' := by
  refine (wordsIn_any k v F w hk hm hF hn).mono fun e w' ⟨h1, h2⟩ => ⟨?_, h2⟩
  rw [steps_all hk, if_pos ho] at h1
  exact h1
set_option maxHeartbeats 4000000 in
theorem mget_any (v : Value) (A : List Int) (w : World) (hv : Ints .u32 w v A) (hr : ∀ x ∈ A, 0 ≤ x ∧ x < 4294967296) (hm : Masks w) :
    Calls Tryd.prog 14 #[v] w (MsgGives (getM A).1 (getM A).2 w) := by
  have hlen := getF_len (fun x hx => (hr x hx).1)
  have HV := Lib.hid hv; have HR := Lib.hid hr; have HM := Lib.hid hm; have HLN := Lib.hid hlen
  clear hv hr hm hlen
  go_enter Tryd.func14, Tryd.ntmps14
  go_wp2_with fail
  refine (wget_any _ A _ (HV.out.alloc _) HR.out).mono ?_
  rintro e w1 ⟨u, rfl, hu, hb1⟩
  obtain ⟨ER, hER⟩ : ∃ x, (getF A).2 = x := ⟨_, rfl⟩
  obtain ⟨F, hF⟩ : ∃ x, (getF A).1 = x := ⟨_, rfl⟩
  rw [hER]
  rw [hF] at hu HLN
  have hln := HLN.out
  have HER := Lib.hid hER; have HF := Lib.hid hF; clear hER hF
  obtain ⟨hc, hz⟩ := bcell hb1
  have hsz : w.heap.size < w1.heap.size := by have := hb1.size; simp at this; omega
  have hbw : Below w.heap.size w w1 := ((Below.refl _ _).alloc (Nat.le_refl _) _).trans (hb1.mono (by simp))
  have HU := Lib.hid hu
  obtain ⟨ua, uc, rfl, _⟩ := hu
  by_cases he : ER = 0
  · subst he
    have hG := getM_ok HER.out
    rw [HF.out] at hG
    have HG := Lib.hid hG; clear hG
    cases F with
    | nil =>
      go_wp2_with fail
      refine bodyPost_ret (v := .tuple #[.agg #[.int .u32 0, .int .u32 0, .int .u32 0, .int .u32 0, .int .u32 0, .int .u32 0, .int .u32 0], .int .i64 4]) (by simp [results, Tryd.results14, go_sem, hc]) rfl ?_
      refine ⟨by rw [HG.out]; rfl, ?_⟩
      (iterate 7 (refine Below.setCell ?_ (by simp) _)); exact hbw
    | cons f R =>
      obtain ⟨b2, o2, c2, h2, hl2, hm2, hcell⟩ := HU.out.cells (by simp)
      obtain ⟨m, hmm⟩ : ∃ m, (f :: R).length = m := ⟨_, rfl⟩
      rw [hmm] at h2 hl2 hln
      simp only [Value.slice.injEq, true_and] at h2
      obtain ⟨rfl, rfl⟩ := h2
      obtain ⟨da, dc, e1, e2, d3⟩ := hcell 0 f rfl
      simp only [Nat.zero_mul, Nat.add_zero] at e1 e2
      have hD := Lib.hid d3
      obtain ⟨ad, hRR, hsl⟩ := flds_l (P := Tryd.prog) (t := 45) (by kernel_rfl) (fun _ => by kernel_rfl) hmm hl2 hm2 hcell
      have hm0 : 0 < m := by simp at hmm; omega
      have hm1 : (1 : Int) ≤ (m : Int) := by omega
      have ez : ((m : Int) == 0) = false := by rw [beq_eq_false_iff_ne]; omega
      have HR2 := Lib.hid hRR; have HMM := Lib.hid hmm; have HCC := Lib.hid hcell
      have l1 := lt_of_cell e1
      have l2 := lt_of_cell e2
      simp only at l1 l2
      clear hRR hmm hcell d3
      rw [HMM.out]
      by_cases hf : f.1 = 1 ∧ f.2.length = 1
      · obtain ⟨x, rfl⟩ : ∃ x, f = ((1 : Int), [x]) := ⟨f.2.getD 0 0, Prod.ext hf.1 (getD_one hf.2)⟩
        obtain ⟨b3, o3, c3, h3, _, _, hx⟩ := hD.out.cells (by simp)
        simp only [List.length_singleton, Value.slice.injEq, true_and] at h3 e2
        obtain ⟨rfl, rfl⟩ := h3
        have ex := hx 0 (by simp)
        simp only [Nat.add_zero, List.getD_cons_zero] at ex
        have l3 := lt_of_cell ex
        simp only at l3 e1
        clear hf hx
        by_cases hk : isKindB x = true
        · have HK := Lib.hid hk; clear hk
          have HH := Lib.hid (headOk_kind HK.out)
          by_cases ho : okW x R = true
          · have HO := Lib.hid ho; clear ho
            go_wp2_with fail
            refine (isOneWord_any 1 1 _ 1 _ _).mono ?_
            rintro e w2 ⟨rfl, hb2⟩
            rw [show decide ((1 : Int) = 1 ∧ 1 = 1) = true by decide]
            obtain ⟨hc2, hz2⟩ := bcell hb2
            have s2 := hb2.size
            have hsz2 : w.heap.size < w2.heap.size := by omega
            go_wp2_with fail
            refine (isKind_any _ _).mono ?_
            rintro e _ ⟨rfl, rfl⟩
            rw [HK.out]
            go_wp2_with fail
            refine (wordsIn_yes x _ R _ HK.out ((HM.out.below hbw).below hb2) (HR2.out.below hb2) (by have := HLN.out; simp at this; omega) HO.out).mono ?_
            rintro e w3 ⟨rfl, hb3⟩
            obtain ⟨hc3, hz3⟩ := bcell hb3
            have s3 := hb3.size
            go_wp2_with fail
            refine (message_any _ _ _ _ _ _ _ _ _ _).mono ?_
            rintro e w4 ⟨rfl, hb4⟩
            have hbz : Below (w.alloc (.cells #[.int .u32 0, .int .u32 0, .int .u32 0, .int .u32 0, .int .u32 0, .int .u32 0, .int .u32 0] 24)).heap.size (w.alloc (.cells #[.int .u32 0, .int .u32 0, .int .u32 0, .int .u32 0, .int .u32 0, .int .u32 0, .int .u32 0] 24)) w4 := ((hb1.trans (hb2.mono (by simp; omega))).trans (hb3.mono (by simp; omega))).trans ((Below.alloc (Below.refl _ _) (by simp; omega) _).trans (hb4.mono (by simp; omega)))
            have hcf : ∀ o, w4.cell? ⟨w.heap.size, o, none⟩ = (w.alloc (.cells #[.int .u32 0, .int .u32 0, .int .u32 0, .int .u32 0, .int .u32 0, .int .u32 0, .int .u32 0] 24)).cell? ⟨w.heap.size, o, none⟩ := fun o => hbz.cell (p := ⟨w.heap.size, o, none⟩) (by simp)
            have hzf : ∀ o, w4.frozen? ⟨w.heap.size, o, none⟩ = (w.alloc (.cells #[.int .u32 0, .int .u32 0, .int .u32 0, .int .u32 0, .int .u32 0, .int .u32 0, .int .u32 0] 24)).frozen? ⟨w.heap.size, o, none⟩ := fun o => hbz.frozen (p := ⟨w.heap.size, o, none⟩) (by simp)
            have hb4w : Below w.heap.size w w4 := ((Below.refl _ _).alloc (Nat.le_refl _) _).trans (hbz.mono (by simp))
            clear hc hc2 hc3 hz hz2 hz3
            go_wp2_with fail
            refine bodyPost_ret (v := .tuple #[.agg #[.int .u32 x, .int .u32 (wordOf R 2), .int .u32 (wordOf R 3), .int .u32 (wordOf R 4), .int .u32 (wordOf R 5), .int .u32 (wordOf R 6), .int .u32 (wordOf R 7)], .int .i64 0]) (by simp [results, Tryd.results14, go_sem, hcf]) rfl ?_
            refine ⟨by rw [HG.out, finM_yes HH.out HO.out]; rfl, ?_⟩
            (iterate 7 (refine Below.setCell ?_ (by simp) _))
            exact hb4w
          · have HO := Lib.hid (show okW x R = false by simpa using ho); clear ho
            go_wp2_with fail
            refine (isOneWord_any 1 1 _ 1 _ _).mono ?_
            rintro e w2 ⟨rfl, hb2⟩
            rw [show decide ((1 : Int) = 1 ∧ 1 = 1) = true by decide]
            obtain ⟨hc2, hz2⟩ := bcell hb2
            have s2 := hb2.size
            have hsz2 : w.heap.size < w2.heap.size := by omega
            go_wp2_with fail
            refine (isKind_any _ _).mono ?_
            rintro e _ ⟨rfl, rfl⟩
            rw [HK.out]
            go_wp2_with fail
            refine (wordsIn_no x _ R _ HK.out ((HM.out.below hbw).below hb2) (HR2.out.below hb2) (by have := HLN.out; simp at this; omega) HO.out).mono ?_
            rintro e w3 ⟨rfl, hb3⟩
            obtain ⟨hc3, hz3⟩ := bcell hb3
            have s3 := hb3.size
            have hsz3 : w.heap.size < w3.heap.size := by omega
            go_wp2_with fail
            have hcf : ∀ o, w3.cell? ⟨w.heap.size, o, none⟩ = (w.alloc (.cells #[.int .u32 0, .int .u32 0, .int .u32 0, .int .u32 0, .int .u32 0, .int .u32 0, .int .u32 0] 24)).cell? ⟨w.heap.size, o, none⟩ := fun o => (hc3 _ _ (by omega)).trans ((hc2 _ _ (by omega)).trans (hc _ _ (by simp)))
            clear hc hc2 hc3 hz hz2 hz3
            refine bodyPost_ret (v := .tuple #[.agg #[.int .u32 0, .int .u32 0, .int .u32 0, .int .u32 0, .int .u32 0, .int .u32 0, .int .u32 0], .int .i64 2]) (by simp [results, Tryd.results14, go_sem, hcf, hsz3]) rfl ?_
            refine ⟨by rw [HG.out, finM_no HH.out HO.out]; rfl, ?_⟩
            refine Below.alloc ?_ (by simp; omega) _
            (iterate 7 (refine Below.setCell ?_ (by simp) _))
            exact (hbw.trans (hb2.mono hbw.size)).trans (hb3.mono (by omega))
        · have HK := Lib.hid (show isKindB x = false by simpa using hk); clear hk
          have HH := Lib.hid (show headOk ((1 : Int), [x]) = false from decide_eq_false (by rintro ⟨_, _, h1, h2⟩; have := of_decide_eq_false HK.out; simp at h1 h2; omega))
          go_wp2_with fail
          refine (isOneWord_any 1 1 _ 1 _ _).mono ?_
          rintro e w2 ⟨rfl, hb2⟩
          rw [show decide ((1 : Int) = 1 ∧ 1 = 1) = true by decide]
          obtain ⟨hc2, hz2⟩ := bcell hb2
          have s2 := hb2.size
          have hsz2 : w.heap.size < w2.heap.size := by omega
          go_wp2_with fail
          refine (isKind_any _ _).mono ?_
          rintro e _ ⟨rfl, rfl⟩
          rw [HK.out]
          go_wp2_with fail
          refine bodyPost_ret (v := .tuple #[.agg #[.int .u32 0, .int .u32 0, .int .u32 0, .int .u32 0, .int .u32 0, .int .u32 0, .int .u32 0], .int .i64 4]) (by simp [results, Tryd.results14, go_sem, hc, hc2, hsz]) rfl ?_
          refine ⟨by rw [HG.out, finM_bad HH.out]; rfl, ?_⟩
          (iterate 7 (refine Below.setCell ?_ (by simp) _)); exact hbw.trans (hb2.mono hbw.size)
      · have HH := Lib.hid (show headOk f = false from decide_eq_false (by rintro ⟨h1, h2, _⟩; exact hf ⟨h1, h2⟩))
        have HB := Lib.hid (show decide (f.1 = 1 ∧ f.2.length = 1) = false from decide_eq_false hf)
        clear hf
        go_wp2_with fail
        refine (isOneWord_any f.1 1 da f.2.length dc _).mono ?_
        rintro e w2 ⟨rfl, hb2⟩
        rw [HB.out]
        obtain ⟨hc2, hz2⟩ := bcell hb2
        have s2 := hb2.size
        have hsz2 : w.heap.size < w2.heap.size := by omega
        go_wp2_with fail
        refine bodyPost_ret (v := .tuple #[.agg #[.int .u32 0, .int .u32 0, .int .u32 0, .int .u32 0, .int .u32 0, .int .u32 0, .int .u32 0], .int .i64 4]) (by simp [results, Tryd.results14, go_sem, hc, hc2, hsz]) rfl ?_
        refine ⟨by rw [HG.out, finM_bad HH.out]; rfl, ?_⟩
        (iterate 7 (refine Below.setCell ?_ (by simp) _)); exact hbw.trans (hb2.mono hbw.size)
  · have hG := getM_err (A := A) (by rw [HER.out]; exact he)
    rw [HER.out] at hG
    have HG := Lib.hid hG; clear hG
    have he' : (ER != 0) = true := by rw [bne_iff_ne]; exact he
    clear he
    go_wp2_with fail
    refine bodyPost_ret (v := .tuple #[.agg #[.int .u32 0, .int .u32 0, .int .u32 0, .int .u32 0, .int .u32 0, .int .u32 0, .int .u32 0], .int .i64 ER]) (by simp [results, Tryd.results14, go_sem, hc]) rfl ?_
    refine ⟨by rw [HG.out]; rfl, ?_⟩
    (iterate 7 (refine Below.setCell ?_ (by simp) _)); exact hbw
set_option maxHeartbeats 1000000 in
theorem mkind_any (v : Value) (A : List Int) (w : World) (hv : Ints .u32 w v A) (hr : ∀ x ∈ A, 0 ≤ x ∧ x < 4294967296) (hm : Masks w) :
    Calls Tryd.prog 16 #[v] w fun e w' => e = .returned (.int .u32 (getM A).1.kind) ∧ Below w.heap.size w w' := by
  have HV := Lib.hid hv; have HR := Lib.hid hr; have HM := Lib.hid hm
  clear hv hr hm
  go_enter Tryd.func16, Tryd.ntmps16
  go_wp2_with fail
  refine (mget_any _ A _ HV.out HR.out HM.out).mono ?_
  rintro e w1 ⟨rfl, hb1⟩
  go_wp2_with fail
  go_ret
  exact ⟨rfl, hb1.alloc hb1.size _⟩
end Go.Proofs.YthpcnekidlhfpaaDoor
