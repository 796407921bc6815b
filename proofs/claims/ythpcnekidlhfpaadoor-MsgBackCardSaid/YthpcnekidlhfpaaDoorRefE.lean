/- The walk of the reference's Get of layer msg. -/
import Derived.Test.YthpcnekidlhfpaaDoorRefD
namespace Go.Proofs.YthpcnekidlhfpaaDoor
open Go.RowKit

theorem rhas_yes (k t : Int) (w : World) (hk : isKindB k = true) (h : hasT k t = true) :
    Calls Tryd.prog 20 #[.int .u32 k, .int .u32 t] w fun e w' => e = .returned (.bool true) ∧ w' = w :=
  (rhas_kt k t w hk).mono fun e w' ⟨h1, h2⟩ => ⟨by rw [h1, h], h2.symm⟩
theorem rhas_no (k t : Int) (w : World) (hk : isKindB k = true) (h : hasT k t = false) :
    Calls Tryd.prog 20 #[.int .u32 k, .int .u32 t] w fun e w' => e = .returned (.bool false) ∧ w' = w :=
  (rhas_kt k t w hk).mono fun e w' ⟨h1, h2⟩ => ⟨by rw [h1, h], h2.symm⟩
theorem m7_cell {w : World} {g : Nat} {m : M7} {T : TypeId} (h : w.heap[g]? = some (.cells m.cells T (0, 0))) :
    w.cell? ⟨g, 0, none⟩ = some (.int .u32 m.kind) ∧ w.cell? ⟨g, 1, none⟩ = some (.int .u32 m.run) ∧ w.cell? ⟨g, 2, none⟩ = some (.int .u32 m.a) ∧ w.cell? ⟨g, 3, none⟩ = some (.int .u32 m.b) ∧
      w.cell? ⟨g, 4, none⟩ = some (.int .u32 m.nonce) ∧ w.cell? ⟨g, 5, none⟩ = some (.int .u32 m.box) ∧ w.cell? ⟨g, 6, none⟩ = some (.int .u32 m.more) := by
  refine ⟨?_, ?_, ?_, ?_, ?_, ?_, ?_⟩ <;> simp [World.cell?, h, M7.cells]
set_option maxRecDepth 100000 in
set_option maxHeartbeats 8000000 in
theorem rmget_any (v : Value) (A : List Int) (w : World) (hv : Ints .u32 w v A) (hr : ∀ x ∈ A, 0 ≤ x ∧ x < 4294967296) :
    Calls Tryd.prog 15 #[v] w (MsgGives (getM A).1 (getM A).2 w) := by
  have hlen := getF_len (fun x hx => (hr x hx).1)
  have hread := getF_read A (fun x hx => (hr x hx).1)
  have HV := Lib.hid hv; have HR := Lib.hid hr; have HLN := Lib.hid hlen; have HRD := Lib.hid hread
  clear hv hr hlen hread
  go_enter Tryd.func15, Tryd.ntmps15
  go_wp2_with fail
  refine (rget_any _ A _ (HV.out.alloc _) HR.out).mono ?_
  rintro e w1 ⟨u, rfl, hu, hb1⟩
  obtain ⟨ER, hER⟩ : ∃ x, (getF A).2 = x := ⟨_, rfl⟩
  obtain ⟨F, hF⟩ : ∃ x, (getF A).1 = x := ⟨_, rfl⟩
  rw [hER]
  rw [hF] at hu HLN
  have hln := HLN.out
  have HER := Lib.hid hER; have HF := Lib.hid hF; clear hER hF
  have hc : ∀ o, w1.cell? ⟨w.heap.size, o, none⟩ = (w.alloc (.cells #[.int .u32 0, .int .u32 0, .int .u32 0, .int .u32 0, .int .u32 0, .int .u32 0, .int .u32 0] 24)).cell? ⟨w.heap.size, o, none⟩ := fun o => hb1.cell (p := ⟨w.heap.size, o, none⟩) (by simp)
  have hz : ∀ o, w1.frozen? ⟨w.heap.size, o, none⟩ = (w.alloc (.cells #[.int .u32 0, .int .u32 0, .int .u32 0, .int .u32 0, .int .u32 0, .int .u32 0, .int .u32 0] 24)).frozen? ⟨w.heap.size, o, none⟩ := fun o => hb1.frozen (p := ⟨w.heap.size, o, none⟩) (by simp)
  have hsz : w.heap.size < w1.heap.size := by have := hb1.size; simp at this; omega
  have hbw : Below w.heap.size w w1 := ((Below.refl _ _).alloc (Nat.le_refl _) _).trans (hb1.mono (by simp))
  have HU := Lib.hid hu
  obtain ⟨ua, uc, rfl, _⟩ := hu
  by_cases he : ER = 0
  · subst he
    have hG := getM_ok HER.out
    rw [HF.out] at hG
    have HG := Lib.hid hG
    have hflat : flatF F = A := by
      rcases HRD.out with ⟨_, h2, _⟩ | ⟨_, h2⟩ | ⟨_, h2⟩
      · rw [← HF.out]; exact h2
      · rw [HER.out] at h2; cases h2
      · rw [HER.out] at h2; cases h2
    have HFL := Lib.hid hflat
    clear hG hflat
    cases F with
    | nil =>
      go_wp2_with fail
      refine bodyPost_ret (v := .tuple #[.agg #[.int .u32 0, .int .u32 0, .int .u32 0, .int .u32 0, .int .u32 0, .int .u32 0, .int .u32 0], .int .i64 4]) (by simp [results, Tryd.results15, go_sem, hc]) rfl ?_
      refine ⟨by rw [HG.out]; rfl, ?_⟩
      (iterate 7 (refine Below.setCell ?_ (by simp) _)); exact hbw
    | cons f R =>
      obtain ⟨b2, o2, c2, h2, hl2, hm2, hcell⟩ := HU.out.cells (by simp)
      obtain ⟨m, hmm⟩ : ∃ m, (f :: R).length = m := ⟨_, rfl⟩
      rw [hmm] at h2 hl2 hln
      simp only [Value.slice.injEq, true_and] at h2
      obtain ⟨rfl, rfl⟩ := h2
      obtain ⟨da, dc, e1, e2, d3⟩ := hcell 0 f rfl
      simp only [Nat.zero_mul, Nat.add_zero] at e1 e2
      have hD := Lib.hid d3
      have hm0 : 0 < m := by simp at hmm; omega
      have ez : ((m : Int) == 0) = false := by rw [beq_eq_false_iff_ne]; omega
      have HMM := Lib.hid hmm; have HCC := Lib.hid hcell
      clear hmm hcell d3
      rw [HMM.out]
      by_cases hf1 : f.1 = 1
      · have q1 : (f.1 != 1) = false := by simpa using hf1
        by_cases hf2 : f.2.length = 1
        · obtain ⟨x, rfl⟩ : ∃ x, f = ((1 : Int), [x]) := ⟨f.2.getD 0 0, Prod.ext hf1 (getD_one hf2)⟩
          obtain ⟨b3, o3, c3, h3, _, _, hx⟩ := hD.out.cells (by simp)
          simp only [List.length_singleton, Value.slice.injEq, true_and] at h3 e2
          obtain ⟨rfl, rfl⟩ := h3
          have ex := hx 0 (by simp)
          simp only [Nat.add_zero, List.getD_cons_zero] at ex
          simp only at e1
          clear hf1 hf2 hx q1
          by_cases hk1 : x < 1
          · have HH := Lib.hid (show headOk ((1 : Int), [x]) = false from decide_eq_false (by rintro ⟨_, _, h1, h2⟩; simp at h1 h2; omega))
            have q1 : decide (x < 1) = true := by simpa using hk1
            go_wp2_with fail
            refine bodyPost_ret (v := .tuple #[.agg #[.int .u32 0, .int .u32 0, .int .u32 0, .int .u32 0, .int .u32 0, .int .u32 0, .int .u32 0], .int .i64 4]) (by simp [results, Tryd.results15, go_sem, hc]) rfl ?_
            refine ⟨by rw [HG.out, finM_bad HH.out]; rfl, ?_⟩
            (iterate 7 (refine Below.setCell ?_ (by simp) _)); exact hbw
          · have q1 : decide (x < 1) = false := by simpa using hk1
            by_cases hk9 : 9 < x
            · have HH := Lib.hid (show headOk ((1 : Int), [x]) = false from decide_eq_false (by rintro ⟨_, _, h1, h2⟩; simp at h1 h2; omega))
              have q2 : decide (9 < x) = true := by simpa using hk9
              go_wp2_with fail
              refine bodyPost_ret (v := .tuple #[.agg #[.int .u32 0, .int .u32 0, .int .u32 0, .int .u32 0, .int .u32 0, .int .u32 0, .int .u32 0], .int .i64 4]) (by simp [results, Tryd.results15, go_sem, hc]) rfl ?_
              refine ⟨by rw [HG.out, finM_bad HH.out]; rfl, ?_⟩
              (iterate 7 (refine Below.setCell ?_ (by simp) _)); exact hbw
            · have q2 : decide (9 < x) = false := by simpa using hk9
              have HK := Lib.hid (show isKindB x = true from decide_eq_true ⟨by omega, by omega⟩)
              clear hk1 hk9
              go_wp2_with fail
              go_loopw [7] (fun i wr => ∃ j : Nat, j ≤ R.length ∧ i = .int .i64 ((j : Int) + 1) ∧ Hid (∀ f ∈ R.take j, hasT x f.1 = true) ∧ Hid (wr.heap[w1.heap.size]? = some (.cells (foldM x (R.take j)).cells 24 (0, 0))) ∧ Below w1.heap.size w1 wr) (fun i _ => m - (intOf i).toNat)
              case atStart => exact ⟨0, Nat.zero_le _, rfl, Lib.hid (by simp), Lib.hid (heap_alloc_new w1 _), (Below.refl _ _).alloc (Nat.le_refl _) _⟩
              case round =>
                obtain ⟨j, hj, rfl, HP, HW, hb⟩ := hrel
                have hbw2 : Below w.heap.size w wr := hbw.trans (hb.mono (by omega))
                have hc2 : ∀ o, wr.cell? ⟨w.heap.size, o, none⟩ = (w.alloc (.cells #[.int .u32 0, .int .u32 0, .int .u32 0, .int .u32 0, .int .u32 0, .int .u32 0, .int .u32 0] 24)).cell? ⟨w.heap.size, o, none⟩ := fun o => (hb.cell (p := ⟨w.heap.size, o, none⟩) hsz).trans (hc o)
                have hz2 : ∀ o, wr.frozen? ⟨w.heap.size, o, none⟩ = (w.alloc (.cells #[.int .u32 0, .int .u32 0, .int .u32 0, .int .u32 0, .int .u32 0, .int .u32 0, .int .u32 0] 24)).frozen? ⟨w.heap.size, o, none⟩ := fun o => (hb.frozen (p := ⟨w.heap.size, o, none⟩) hsz).trans (hz o)
                have hml : R.length + 1 = m := by have := HMM.out; simpa using this
                have HML := Lib.hid hml
                obtain ⟨y0, y1, y2, y3, y4, y5, y6⟩ := m7_cell HW.out
                rw [foldM_kind] at y0
                have hm1000 : m ≤ 1000 := hln
                have hfz : ∀ i, wr.frozen? ⟨w1.heap.size, i, none⟩ = false := fun i => frozen_of_row _ _ _ _ _ HW.out
                by_cases hlt : j < R.length
                · obtain ⟨f, hf⟩ : ∃ f, R[j]? = some f := ⟨_, List.getElem?_eq_getElem hlt⟩
                  obtain ⟨fa, fc, g1, g2, g3⟩ := HCC.out (j + 1) f (by simpa using hf)
                  have k1 := (hb.cell (p := ⟨b2, o2 + (j + 1) * 2, none⟩) (lt_of_cell g1)).trans g1
                  have k2 := (hb.cell (p := ⟨b2, o2 + (j + 1) * 2 + 1, none⟩) (lt_of_cell g2)).trans g2
                  have HFJ := Lib.hid hf
                  have hD3 := Lib.hid g3
                  have l0 : (0 : Int) ≤ (j : Int) + 1 := by omega
                  have l1 : (j : Int) + 1 < (m : Int) := by omega
                  have l2 : ((j : Int) + 1).toNat = j + 1 := by omega
                  have L2 := Lib.hid l2
                  clear hf g1 g2 g3 hml e1 e2 ex l2
                  by_cases hf2 : f.2.length = 1
                  · obtain ⟨t, y, rfl⟩ : ∃ t y, f = (t, [y]) := ⟨f.1, f.2.getD 0 0, Prod.ext rfl (getD_one hf2)⟩
                    obtain ⟨b4, o4, c4, h4, _, _, hx4⟩ := hD3.out.cells (by simp)
                    simp only [List.length_singleton, Value.slice.injEq, true_and] at h4 k2
                    obtain ⟨rfl, rfl⟩ := h4
                    have ey := hx4 0 (by simp)
                    simp only [Nat.add_zero, List.getD_cons_zero] at ey
                    have ey' := (hb.cell (p := ⟨b4, o4, none⟩) (lt_of_cell ey)).trans ey
                    simp only at k1
                    clear hf2 hx4 ey
                    by_cases hh : hasT x t = true
                    · have HH := Lib.hid hh
                      have htr : 2 ≤ t ∧ t ≤ 7 := kindTags_ok x t (of_decide_eq_true hh)
                      have HNX := Lib.hid (foldM_next (k := x) HFJ.out)
                      have HNP := Lib.hid (show ∀ f ∈ R.take (j + 1), hasT x f.1 = true by
                        intro g hg
                        rw [List.take_succ_eq_append_getElem hlt] at hg
                        rcases List.mem_append.1 hg with h | h
                        · exact HP.out g h
                        · have hrj : R[j] = (t, [y]) := by have := HFJ.out; rw [List.getElem?_eq_getElem hlt] at this; exact Option.some.inj this
                          rcases List.mem_singleton.1 h with rfl
                          rw [hrj]; exact hh)
                      clear hh
                      have HSET := Lib.hid (set_cells (foldM x (R.take j)) (v := y) htr)
                      rcases tags htr with rfl | rfl | rfl | rfl | rfl | rfl <;> clear htr
                      all_goals
                        go_wp2_with fail
                        go_quiet ((go_at_call 20; exact Calls.quiet_of_same (rhas_yes x _ _ HK.out HH.out)))
                        go_wp2_with fail
                        go_roundw
                        case rel =>
                          refine ⟨j + 1, by omega, by go_num, HNP, ?_, ?_⟩
                          · refine Lib.hid ((heap_setCell_same _ w1.heap.size _ _ _ _ HW.out).trans ?_)
                            rw [HNX.out]
                            exact congrArg (fun z => some (Obj.cells z 24 (0, 0))) HSET.out
                          · exact (((Reads.refl wr).drewN _).below _ |> hb.trans).setCell (Nat.le_refl _) _
                        case measure => simp [intOf]; omega
                    · have HH := Lib.hid (show hasT x t = false by simpa using hh)
                      have HNO := Lib.hid (show ¬ ((t, [y]).2.length = 1 ∧ hasT x (t, [y]).1 = true) by rintro ⟨_, h⟩; exact hh h)
                      clear hh
                      go_wp2_with fail
                      go_quiet ((go_at_call 20; exact Calls.quiet_of_same (rhas_no x t _ HK.out HH.out)))
                      go_wp2_with fail
                      refine bodyPost_ret (v := .tuple #[.agg #[.int .u32 0, .int .u32 0, .int .u32 0, .int .u32 0, .int .u32 0, .int .u32 0, .int .u32 0], .int .i64 2]) (by simp [results, Tryd.results15, go_sem, hc2]) rfl ?_
                      refine ⟨by rw [HG.out, ref_fin_no HK.out (List.mem_of_getElem? HFJ.out) HNO.out]; rfl, ?_⟩
                      (iterate 7 (refine Below.setCell ?_ (by simp) _)); exact hbw2.trans (((Reads.refl wr).drewN _).below _)
                  · have HNO := Lib.hid (show ¬ (f.2.length = 1 ∧ hasT x f.1 = true) by rintro ⟨h, _⟩; exact hf2 h)
                    have q2 : ((f.2.length : Int) != 1) = true := by rw [bne_iff_ne]; omega
                    clear hf2
                    go_wp2_with fail
                    go_quiet (fail)
                    go_wp2_with fail
                    refine bodyPost_ret (v := .tuple #[.agg #[.int .u32 0, .int .u32 0, .int .u32 0, .int .u32 0, .int .u32 0, .int .u32 0, .int .u32 0], .int .i64 2]) (by simp [results, Tryd.results15, go_sem, hc2]) rfl ?_
                    refine ⟨by rw [HG.out, ref_fin_no HK.out (List.mem_of_getElem? HFJ.out) HNO.out]; rfl, ?_⟩
                    (iterate 7 (refine Below.setCell ?_ (by simp) _)); exact hbw2.trans (((Reads.refl wr).drewN _).below _)
                · obtain rfl : j = R.length := by omega
                  clear y0 y1 y2 y3 y4 y5 y6
                  obtain ⟨mm, hmm2⟩ : ∃ mm, foldM x R = mm := ⟨_, rfl⟩
                  rw [List.take_length] at HW HP
                  rw [hmm2] at HW
                  have HFIN := Lib.hid (by have := ref_fin HK.out HP.out A HFL.out; rw [hmm2] at this; exact this)
                  have hkx := foldM_kind x R
                  rw [hmm2] at hkx
                  obtain ⟨y0, y1, y2, y3, y4, y5, y6⟩ := m7_cell HW.out
                  have l1 : (m : Int) ≤ (R.length : Int) + 1 := by omega
                  have HKX := Lib.hid hkx
                  have hgl := block_lt HW.out
                  clear hmm2 hkx hml e1 e2 ex
                  go_wp2_with fail
                  refine (rput_any mm _).mono ?_
                  rintro e w2 ⟨u2, rfl, p1, p2, p3, hb2⟩
                  obtain ⟨pa, pc, rfl⟩ := p1.form
                  have P1 := Lib.hid p1
                  have hb2w : Below w1.heap.size w1 w2 := hb.trans (hb2.mono hb.size)
                  have hc3 : ∀ o, w2.cell? ⟨w.heap.size, o, none⟩ = (w.alloc (.cells #[.int .u32 0, .int .u32 0, .int .u32 0, .int .u32 0, .int .u32 0, .int .u32 0, .int .u32 0] 24)).cell? ⟨w.heap.size, o, none⟩ := fun o => (hb2w.cell (p := ⟨w.heap.size, o, none⟩) hsz).trans (hc o)
                  have hz3 : ∀ o, w2.frozen? ⟨w.heap.size, o, none⟩ = (w.alloc (.cells #[.int .u32 0, .int .u32 0, .int .u32 0, .int .u32 0, .int .u32 0, .int .u32 0, .int .u32 0] 24)).frozen? ⟨w.heap.size, o, none⟩ := fun o => (hb2w.frozen (p := ⟨w.heap.size, o, none⟩) hsz).trans (hz o)
                  obtain ⟨x0, x1, x2, x3, x4, x5, x6⟩ := m7_cell (block_below HW.out hb2)
                  clear p1 p2 p3 y0 y1 y2 y3 y4 y5 y6 hc2 hz2
                  have hbv := hbw.trans (hb2w.mono (by omega))
                  go_wp2_with fail
                  refine (rsame_any _ _ (putL mm) A _ P1.out (HV.out.below hbv)).mono ?_
                  rintro e w3 ⟨rfl, q3, rfl⟩
                  by_cases hsame : sameB (putL mm) A = true
                  · have HS := Lib.hid hsame
                    have HF2 := Lib.hid (by have := HFIN.out; rw [if_pos hsame] at this; exact this)
                    clear hsame
                    rw [HS.out]
                    go_wp2_with fail
                    refine bodyPost_ret (v := .tuple #[.agg #[.int .u32 mm.kind, .int .u32 mm.run, .int .u32 mm.a, .int .u32 mm.b, .int .u32 mm.nonce, .int .u32 mm.box, .int .u32 mm.more], .int .i64 0]) (by simp [results, Tryd.results15, go_sem, hc3]) rfl ?_
                    refine ⟨by rw [HG.out, HF2.out], ?_⟩
                    (iterate 7 (refine Below.setCell ?_ (by simp) _)); exact hbv.trans (((Reads.refl w2).drewN _).below _)
                  · have HS := Lib.hid (show sameB (putL mm) A = false by simpa using hsame)
                    have HF2 := Lib.hid (by have := HFIN.out; rw [if_neg hsame] at this; exact this)
                    clear hsame
                    rw [HS.out]
                    go_wp2_with fail
                    refine bodyPost_ret (v := .tuple #[.agg #[.int .u32 0, .int .u32 0, .int .u32 0, .int .u32 0, .int .u32 0, .int .u32 0, .int .u32 0], .int .i64 2]) (by simp [results, Tryd.results15, go_sem, hc3]) rfl ?_
                    refine ⟨by rw [HG.out, HF2.out]; rfl, ?_⟩
                    (iterate 7 (refine Below.setCell ?_ (by simp) _)); exact hbv.trans (((Reads.refl w2).drewN _).below _)
        · have HH := Lib.hid (show headOk f = false from decide_eq_false (by rintro ⟨h1, h2, _⟩; exact hf2 h2))
          have q2 : ((f.2.length : Int) != 1) = true := by rw [bne_iff_ne]; omega
          clear hf1
          go_wp2_with fail
          refine bodyPost_ret (v := .tuple #[.agg #[.int .u32 0, .int .u32 0, .int .u32 0, .int .u32 0, .int .u32 0, .int .u32 0, .int .u32 0], .int .i64 4]) (by simp [results, Tryd.results15, go_sem, hc]) rfl ?_
          refine ⟨by rw [HG.out, finM_bad HH.out]; rfl, ?_⟩
          (iterate 7 (refine Below.setCell ?_ (by simp) _)); exact hbw
      · have HH := Lib.hid (show headOk f = false from decide_eq_false (by rintro ⟨h1, _⟩; exact hf1 h1))
        have q1 : (f.1 != 1) = true := by rw [bne_iff_ne]; exact hf1
        go_wp2_with fail
        refine bodyPost_ret (v := .tuple #[.agg #[.int .u32 0, .int .u32 0, .int .u32 0, .int .u32 0, .int .u32 0, .int .u32 0, .int .u32 0], .int .i64 4]) (by simp [results, Tryd.results15, go_sem, hc]) rfl ?_
        refine ⟨by rw [HG.out, finM_bad HH.out]; rfl, ?_⟩
        (iterate 7 (refine Below.setCell ?_ (by simp) _)); exact hbw
  · have hG := getM_err (A := A) (by rw [HER.out]; exact he)
    rw [HER.out] at hG
    have HG := Lib.hid hG; clear hG
    have he' : (ER != 0) = true := by rw [bne_iff_ne]; exact he
    clear he
    go_wp2_with fail
    refine bodyPost_ret (v := .tuple #[.agg #[.int .u32 0, .int .u32 0, .int .u32 0, .int .u32 0, .int .u32 0, .int .u32 0, .int .u32 0], .int .i64 ER]) (by simp [results, Tryd.results15, go_sem, hc]) rfl ?_
    refine ⟨by rw [HG.out]; rfl, ?_⟩
    (iterate 7 (refine Below.setCell ?_ (by simp) _)); exact hbw
end Go.Proofs.YthpcnekidlhfpaaDoor
