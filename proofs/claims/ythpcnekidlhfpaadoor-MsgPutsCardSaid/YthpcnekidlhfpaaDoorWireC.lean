/- The contract of layer wire's Get. -/
import Derived.Test.YthpcnekidlhfpaaDoorWireB
import Derived.Deep.RegionHeld3
import Derived.Deep.AppendLies
import Derived.Deep.DrawnRows
import Derived.Deep.LoopGhost
namespace Go.Proofs.YthpcnekidlhfpaaDoor
open Go.RowKit
attribute [local go_sem ↓] Go.wp_at_zero Go.wp_at_succ

/-- What a read gives: a row of fields, and an error. -/
def FieldsGive (F : List Fld) (er : Int) (w : World) (e : Ending) (w' : World) : Prop :=
  ∃ u, e = .returned (.tuple #[u, .int .i64 er]) ∧ Flds w' u F ∧ Below w.heap.size w w'
set_option maxHeartbeats 1000000 in
theorem wget_many (a : Option Addr) (n c : Nat) (w : World) (h : 64 < n) :
    Calls Tryd.prog 25 #[.slice a n c] w (FieldsGive [] 3 w) := by
  go_enter Tryd.func25, Tryd.ntmps25
  go_wp2_with fail
  go_step3
  go_wp2_with fail
  (try rw [Exit.noGoto_ret])
  go_ret2
  exact ⟨_, rfl, ⟨none, 0, rfl, Nat.le_refl _, Nat.zero_le _, .inl rfl⟩, Below.refl _ _⟩
theorem nil_flds (w : World) : Flds w (.slice none 0 0) [] := ⟨none, 0, rfl, Nat.le_refl _, Nat.zero_le _, .inl rfl⟩
theorem Tryd.infoF : (Tryd.prog.info? 57).map (fun i => (i.zero, i.size, i.bytes)) = some (some (.agg #[.int .u32 0, .slice none 0 0]), 2, 32) := by kernel_rfl
theorem goF_pair {n : Nat} {acc F : List Fld} {l : List Int} {R : List Fld × Int} {e : Int} (h : goF n acc l = R) (h1 : goF n acc l = (F, e)) : R.1 = F ∧ R.2 = e := by
  rw [h1] at h; subst h; exact ⟨rfl, rfl⟩
set_option maxHeartbeats 4000000 in
theorem wget_few (v : Value) (A : List Int) (w : World) (hv : Ints .u32 w v A) (hn : A.length ≤ 64) (hr : ∀ x ∈ A, 0 ≤ x ∧ x < 4294967296) :
    Calls Tryd.prog 25 #[v] w (FieldsGive (goF 9 [] A).1 (goF 9 [] A).2 w) := by
  obtain ⟨a, c, rfl⟩ := hv.form
  have d64 : decide ((64 : Int) < (A.length : Int)) = false := by simp; omega
  have HV := Lib.hid hv; have HR := Lib.hid hr; clear hv hr
  go_enter Tryd.func25, Tryd.ntmps25
  go_wp2_with fail
  go_step3
  go_wp2_with fail
  go_step3
  go_wp2_with fail
  go_loopg [0, 4] 9 (fun g lv fv wr => ∃ (rest : List Int) (acc : List Fld), Ints .u32 w lv rest ∧ OwnsF w.heap.size wr fv acc ∧ acc.length + g = 9 ∧ acc.length ≤ 8 ∧ rest.length ≤ 64 ∧ Hid (∀ x ∈ rest, 0 ≤ x ∧ x < 4294967296) ∧ Hid (goF g acc rest = goF 9 [] A) ∧ Below w.heap.size w wr)
  case atStart => exact ⟨A, [], HV.out, OwnsF.nil _ _, rfl, by simp, hn, HR, rfl, Below.refl _ _⟩
  case round =>
    obtain ⟨rest, acc, hl, ho, hg, h8, h64, HX, HG, hb⟩ := hrel
    cases gk with
    | zero => exfalso; omega
    | succ g =>
      by_cases hz : rest.length = 0
      · obtain ⟨a1, c1, rfl⟩ := hl.form
        obtain ⟨r1, r2⟩ := goF_pair HG.out (goF_end hz)
        have R1 := Lib.hid r1; have R2 := Lib.hid r2; clear r1 r2
        have HZ := Lib.hid hz; have Hg := Lib.hid hg; have HO := Lib.hid ho; have HLL := Lib.hid hl; clear hz hg ho hl
        rw [HZ.out]
        go_wp2_with fail
        (try rw [Exit.noGoto_ret])
        go_ret2
        rw [R1.out, R2.out]
        exact ⟨_, rfl, HO.out.flds, hb⟩
      · obtain ⟨fa, fc, rfl, _⟩ := ho.flds
        obtain ⟨b1, o1, c1, rfl, hlc, hcm, hcell⟩ := hl.cells (by intro e; rw [e] at hz; exact hz rfl)
        by_cases h8e : acc.length = 8
        · obtain ⟨r1, r2⟩ := goF_pair HG.out (goF_full hz h8e)
          have R1 := Lib.hid r1; have R2 := Lib.hid r2; clear r1 r2
          have e8 : ((acc.length : Int) == 8) = true := by rw [h8e]; rfl
          have ez : ((rest.length : Int) == 0) = false := by rw [beq_eq_false_iff_ne]; omega
          have Hg := Lib.hid hg; have HO := Lib.hid ho; have HLL := Lib.hid hl; have HC := Lib.hid hcell; have H8 := Lib.hid h8e; clear hg ho hl hcell h8e
          go_wp2_with fail
          (try rw [Exit.noGoto_ret])
          go_ret2
          rw [R1.out, R2.out]
          exact ⟨_, rfl, nil_flds _, hb⟩
        · have e8 : ((acc.length : Int) == 8) = false := by rw [beq_eq_false_iff_ne]; omega
          have ez : ((rest.length : Int) == 0) = false := by rw [beq_eq_false_iff_ne]; omega
          have hlw : Ints .u32 wr (.slice (some ⟨b1, o1, none⟩) rest.length c1) rest := hl.below hb
          have Hg := Lib.hid hg; have HO := Lib.hid ho; have HLL := Lib.hid hl; have HC := Lib.hid hcell; have HLW := Lib.hid hlw; clear hg ho hl hcell hlw
          by_cases hs : starts rest = true
          · obtain ⟨k1, k2, k3, k4, k5⟩ := of_decide_eq_true hs
            obtain ⟨x0, q, r, rfl⟩ : ∃ (x0 : Int) (q : Nat) (r : List Int), rest = x0 :: (q : Int) :: r := by
              match rest, k1, HX with
              | x0 :: x1 :: r, _, HX =>
                have := HX.out x1 (by simp)
                exact ⟨x0, x1.toNat, r, by rw [Int.toNat_of_nonneg this.1]⟩
            have e0 : wr.cell? ⟨b1, o1, none⟩ = some (.int .u32 x0) := by
              have h := HC.out 0 (by simp)
              exact (hb.cell (p := ⟨b1, o1 + 0, none⟩) (lt_of_cell h)).trans h
            have e1 : wr.cell? ⟨b1, o1 + 1, none⟩ = some (.int .u32 (q : Int)) := by
              have h := HC.out 1 (by simp)
              exact (hb.cell (p := ⟨b1, o1 + 1, none⟩) (lt_of_cell h)).trans h
            simp only [List.getD_cons_zero, List.getD_cons_succ] at k2 k3 k4 k5
            have HS := Lib.hid hs; have HN := Lib.hid (goF_next (n := g) hz h8e hs)
            obtain ⟨m, hm⟩ : ∃ m, (x0 :: (q : Int) :: r).length = m := ⟨_, rfl⟩
            rw [hm] at k5 hlc h64 HLW HLL hz ez
            have HM := Lib.hid hm
            have q16 : q ≤ 16 := by omega
            have hacc : acc.length ≤ 7 := by omega
            have qm : q + 2 ≤ m := by omega
            clear hs hm k1 k2 k3 k4 k5 hz h8e
            obtain ⟨ad1, hD, hsl1⟩ := slice_lh (P := Tryd.prog) (t := 26) (by kernel_rfl) (fun _ => by kernel_rfl) (k := .u32) (w := wr) (b := b1) (o := o1) (m := m) (c := c1) (A := x0 :: (q : Int) :: r) HM.out hlc hcm (fun i hi => (hb.cell (p := ⟨b1, o1 + i, none⟩) (lt_of_cell (HC.out i (by rw [HM.out]; exact hi)))).trans (HC.out i (by rw [HM.out]; exact hi))) 2 (2 + q) (by omega) (by omega) (by omega)
            obtain ⟨ad2, hR, hsl2⟩ := slice_l (P := Tryd.prog) (t := 26) (by kernel_rfl) (fun _ => by kernel_rfl) (k := .u32) (w := w) (b := b1) (o := o1) (m := m) (c := c1) (A := x0 :: (q : Int) :: r) HM.out hlc hcm (fun i hi => HC.out i (by rw [HM.out]; exact hi)) (2 + q) (by omega) (by omega)
            rw [show (2 + (q : Int)).toNat = q + 2 from by omega, show (2 : Int).toNat = 2 from rfl, Nat.add_sub_cancel] at hD hsl1
            rw [show (2 + (q : Int)).toNat = q + 2 from by omega] at hR hsl2
            have hD : Ints .u32 wr (.slice ad1 q (c1 - 2)) (firstF (x0 :: (q : Int) :: r)).2 := by simpa [firstF] using hD
            have hR : Ints .u32 w (.slice ad2 (m - (q + 2)) (c1 - (q + 2))) (restF (x0 :: (q : Int) :: r)) := by simpa [restF, Nat.add_comm] using hR
            have HRest := Lib.hid hR; clear hR
            have hDl : (firstF (x0 :: (q : Int) :: r)).2.length ≤ 1073741824 := by simp [firstF]; omega
            have HD := Lib.hid hD; have HDL := Lib.hid hDl; clear hD hDl
            obtain ⟨E, hE, hown, hall⟩ := HO.out
            have HE := Lib.hid hE; have HA := Lib.hid hall; clear hE hall
            have i1 : (2 : Int) ≤ 2 + (q : Int) := by omega
            have i2 : 2 + (q : Int) ≤ (m : Int) := by omega
            have i3 : (m : Int) ≤ (c1 : Int) := by omega
            have i4 : (c1 : Int) ≤ 9223372036854775807 := by unfold maxLen at hcm; omega
            have i5 : (0 : Int) < (m : Int) := by omega
            have i9 : 0 < m := by omega
            have i6 : 2 + (q : Int) ≤ (c1 : Int) := by omega
            have i7 : (0 : Int) ≤ (q : Int) := by omega
            have i8 : (2 : Int) ≤ (c1 : Int) := by omega
            have hb1w : b1 < w.heap.size := lt_of_cell (HC.out 0 (by simp))
            have ne1 : (Value.slice fa acc.length fc).ownBlock ≠ some b1 := fun e => by have := (hown.lt _ e).1; omega
            have sr := hb.size
            rw [HM.out]
            go_wp2_with fail
            refine (startsField_any _ _ _ HLW.out (by rw [HM.out]; omega) HX.out).mono ?_
            rintro e w1 ⟨rfl, rfl⟩
            rw [HS.out]
            obtain ⟨i0, hi0, hz0, hz1, hz2⟩ := info_parts Tryd.infoF
            go_wp2_with fail
            go_region_held3 (fun w' => w'.cell? ⟨b1, o1, none⟩ = some (.int .u32 x0))
              (first
                | (go_split_ands; rw [hb1.cell (p := ⟨b1, o1, none⟩) (by simp; omega)]; assumption)
                | (go_split_ands; rw [hgrow.cell_far _ (by simp; omega) (Ne.symm ne1)]; assumption)
                | go_keep)
              (first
                | (go_at_call 33; refine (one_any x0 _ (firstF (x0 :: (q : Int) :: r)).2 _ (HD.out.reads (Reads.drew (Reads.refl _))) HDL.out).mono ?_; rintro e w1 ⟨u, rfl, hu, ht, hf, hb1⟩; obtain ⟨ua, uc, rfl⟩ := hu.form; have HU := Lib.hid hu; clear hu; have s1 : wr.heap.size ≤ w1.heap.size := hb1.size)
                | (refine step_append_lies _ (by rfl) _ _ _ (by rfl) w.heap.size 57 i0 _ 2 32 Tryd.underlying45 hi0 hz0 hz1 hz2 rfl (by omega) _ acc.length (cellsE E) (by rfl) (((owns_below2 hown.drew (by exact hb1)).alloc _).drew)
                    ⟨w1.heap.size, 0, none⟩ 1 1 [.int .u32 x0, .slice ua (firstF (x0 :: (q : Int) :: r)).2.length uc] (by rfl) (by rfl) (World.news_of_block (cs := #[.int .u32 x0, .slice ua (firstF (x0 :: (q : Int) :: r)).2.length uc]) (t := 57) (fr := (0, 0)) (heap_alloc_new _ _)) (by simp [Value.oneCell'])
                    (by omega) (by unfold maxLen; omega) (by omega) (by simp; omega) (w1.heap.size + 1) (by simp) ?_; intro gg cap w2 hown2 hgrow hat hlt))
            go_wp2_with fail
            have hb1' : Below wr.heap.size wr w1 := ((Reads.refl wr).drew.below wr.heap.size).trans hb1
            have hbw : Below w.heap.size w w1 := hb.trans (hb1'.mono sr)
            have hel : E.length = acc.length := by rw [← HE.out]; simp
            have hnew : OwnsF w.heap.size w2 (.slice (some ⟨gg, 0, none⟩) (acc.length + 1) cap) (acc ++ [firstF (x0 :: (q : Int) :: r)]) := by
              have hba : Below wr.heap.size wr (w1.alloc (.cells #[.int .u32 x0, .slice ua (firstF (x0 :: (q : Int) :: r)).2.length uc] 57)) := hb1'.alloc s1 _
              have := OwnsF.snoc (E := E) (p := (firstF (x0 :: (q : Int) :: r), .slice ua (firstF (x0 :: (q : Int) :: r)).2.length uc)) (v := .slice fa acc.length fc) (base := w.heap.size)
                (fun p hp => ⟨(HA.out p hp).1.below hba, (HA.out p hp).2.below hba⟩) ⟨HU.out.alloc _, ht.below ((Below.refl _ _).alloc (Nat.le_refl _) _)⟩
                (by rw [hel]; exact owns_below2 hown hba) (by rw [hel]; exact hown2) hgrow
              rw [HE.out] at this
              exact this
            have hb2 : Below w.heap.size w w2 := (hbw.alloc hbw.size _).grown hgrow (by simp; have := hbw.size; omega) (fun k hk => (hown.lt k hk).1)
            go_roundg g
            case rel =>
              refine ⟨restF (x0 :: (q : Int) :: r), acc ++ [firstF (x0 :: (q : Int) :: r)], HRest.out, hnew, ?_, ?_, ?_, ?_, HN.out.symm.trans HG.out, hb2⟩
              · have := Hg.out; simp; omega
              · simp; omega
              · have := HM.out; simp [restF] at this ⊢; omega
              · exact Lib.hid fun x hx => HX.out x (List.mem_of_mem_drop hx)
            case measure => omega
          · have hs' : starts rest = false := by simpa using hs
            obtain ⟨r1, r2⟩ := goF_pair HG.out (goF_bad hz h8e hs')
            have R1 := Lib.hid r1; have R2 := Lib.hid r2; have HS := Lib.hid hs'; clear r1 r2 hs hs'
            go_wp2_with fail
            refine (startsField_any _ rest _ HLW.out (by omega) HX.out).mono ?_
            rintro e w1 ⟨rfl, rfl⟩
            rw [HS.out]
            go_wp2_with fail
            (try rw [Exit.noGoto_ret])
            go_ret2
            rw [R1.out, R2.out]
            exact ⟨_, rfl, nil_flds _, hb⟩
/-- What Get answers of whatever words: the fields, or an error. -/
theorem wget_any (v : Value) (A : List Int) (w : World) (hv : Ints .u32 w v A) (hr : ∀ x ∈ A, 0 ≤ x ∧ x < 4294967296) :
    Calls Tryd.prog 25 #[v] w (FieldsGive (getF A).1 (getF A).2 w) := by
  by_cases h : 64 < A.length
  · obtain ⟨a, c, rfl⟩ := hv.form
    unfold getF
    rw [if_pos h]
    exact wget_many a _ c w h
  · unfold getF
    rw [if_neg h]
    exact wget_few v A w hv (by omega) hr
end Go.Proofs.YthpcnekidlhfpaaDoor
