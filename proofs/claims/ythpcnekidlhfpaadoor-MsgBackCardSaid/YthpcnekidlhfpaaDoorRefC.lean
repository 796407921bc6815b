/- The contract of the reference's Get of layer wire. -/
import Derived.Test.YthpcnekidlhfpaaDoorRefB
import Derived.IntWalk
namespace Go.Proofs.YthpcnekidlhfpaaDoor
open Go.RowKit
attribute [local go_sem ↓] Go.wp_at_zero Go.wp_at_succ

/-- 'append(v, u...)' at a step of a region that draws, v the call's own, u any slice of numbers. -/
theorem step_append_ints {P : Program} {w : World} {ops : Array Oper} {o : Oper} {a : Act} {K : Act → World → Prop} {Q : Exit → Act → World → Prop} {E : Prop} (hgd : o.guard = none) (s x : Operand) (t : TypeId)
    (ho : o.op = .call { callee := .builtin .append, args := #[s, x], argTypes := #[t, t] })
    (base : Nat) (e : TypeId) (i : TypeInfo) (k : IntKind) (z : Int) (bytes : Nat) (ht : P.underlying t = some (.slice e)) (hi : P.info? e = some i) (hz : i.zero = some (.int k z))
    (hsize : i.size = 1) (hby : i.bytes = bytes) (hb8 : bytes ≤ 8)
    (v : Value) (n : Nat) (xs : List Int) (hs : a.eval s = v) (hown : w.ownsRow base e 1 v n (xs.map (Value.int k)))
    (u : Value) (B : List Int) (hx : a.eval x = u) (hB : Ints k w u B) (hsum : n + B.length ≤ 1073741824) (hbase : base ≤ w.heap.size)
    (h : ∀ v' w', w'.ownsRow base e 1 v' (n + B.length) ((xs ++ B).map (Value.int k)) → w.grownBy w' v.ownBlock → K (a.put o.dst v') w') :
    if Region.wanted o (yielded ops a.tmps) = true then Oper.wp P o a w K Q else E := by
  have hw : Region.wanted o (yielded ops a.tmps) = true := by simp [Region.wanted, hgd]
  rw [if_pos hw]
  rcases hB with ⟨rfl, rfl⟩ | ⟨ad, c, rfl, _, _, hc⟩
  · have hrun := run_append_owned_none (P := P) w base t o.type e i 1 ht hi v n _ hown
    unfold Oper.wp
    simp [execOp, ho, resolve, invoke, builtin, hs, hx, hrun, Result.andThen]
    exact h v w (by simpa using hown) (World.grownBy.refl _ _)
  · have hmul : (n + B.length) * bytes ≤ (n + B.length) * 8 := Nat.mul_le_mul_left _ hb8
    refine wp_append_own w s x t ho base e i (.int k z) 1 bytes ht hi hz hsize hby rfl (by decide) v n _ hs hown ad B.length c (B.map (Value.int k)) hx (by simp) ?_ ?_ (by unfold maxLen; omega) (by omega) hbase ?_
    · intro j y hj
      rw [List.getElem?_map] at hj
      have hjl : j < B.length := by
        rcases Nat.lt_or_ge j B.length with h1 | h1
        · exact h1
        · rw [List.getElem?_eq_none h1] at hj; simp at hj
      rw [hc j hjl]
      simpa [hjl] using hj
    · intro y hy
      rw [List.mem_map] at hy
      obtain ⟨q, _, rfl⟩ := hy
      rfl
    · intro v' w' h1 h2 _
      rw [← List.map_append] at h1
      exact h v' w' h1 h2
theorem below_lit {w w' : World} {o : Obj} (h : (w.alloc o).grownBy w' (Value.slice (some ⟨w.heap.size, 0, none⟩) 0 0).ownBlock) : Below w.heap.size w w' :=
  ((Below.refl _ _).alloc (Nat.le_refl _) o).grown h (by simp) (fun g hg => by simp [Value.ownBlock] at hg; omega)
theorem below_lit2 {w w' : World} {o : Obj} (h : (w.alloc o).drew.grownBy w' (Value.slice (some ⟨w.heap.size, 0, none⟩) 0 0).ownBlock) : Below w.heap.size w w' :=
  (((Below.refl _ _).alloc (Nat.le_refl _) o).drew).grown h (by rw [heap_drew]; simp) (fun g hg => by simp [Value.ownBlock] at hg; omega)
set_option maxHeartbeats 1000000 in
theorem rget_many (a : Option Addr) (n c : Nat) (w : World) (h : 64 < n) :
    Calls Tryd.prog 29 #[.slice a n c] w (FieldsGive [] 3 w) := by
  go_enter Tryd.func29, Tryd.ntmps29
  go_wp2_with fail
  go_ret2
  exact ⟨_, rfl, nil_flds _, Below.refl _ _⟩
theorem drop_cons2 {A : List Int} {p : Nat} (h : p + 1 < A.length) : A.drop p = A.getD p 0 :: A.getD (p + 1) 0 :: A.drop (p + 2) := by
  rw [List.drop_eq_getElem_cons (show p < A.length by omega), List.drop_eq_getElem_cons h]
  have h0 : p < A.length := by omega
  simp [h, h0]
set_option maxRecDepth 100000 in
set_option maxHeartbeats 4000000 in
theorem rget_few (v : Value) (A : List Int) (w : World) (hv : Ints .u32 w v A) (hn : A.length ≤ 64) (hr : ∀ x ∈ A, 0 ≤ x ∧ x < 4294967296) :
    Calls Tryd.prog 29 #[v] w (FieldsGive (goF 9 [] A).1 (goF 9 [] A).2 w) := by
  obtain ⟨a, c, rfl⟩ := hv.form
  have d64 : decide ((64 : Int) < (A.length : Int)) = false := by simp; omega
  have HV := Lib.hid hv; have HR := Lib.hid hr; clear hv hr
  go_enter Tryd.func29, Tryd.ntmps29
  go_wp2_with fail
  go_loopg [4, 5] 9 (fun g fv at' wr => ∃ (p : Nat) (acc : List Fld), p ≤ A.length ∧ at' = .int .i64 p ∧ OwnsF w.heap.size wr fv acc ∧ acc.length + g = 9 ∧ acc.length ≤ 8 ∧ Hid (goF g acc (A.drop p) = goF 9 [] A) ∧ Below w.heap.size w wr)
  case atStart => exact ⟨0, [], Nat.zero_le _, rfl, OwnsF.nil _ _, rfl, by simp, rfl, Below.refl _ _⟩
  case round =>
    obtain ⟨p, acc, hp, rfl, ho, hg, h8, HG, hb⟩ := hrel
    cases gk with
    | zero => exfalso; omega
    | succ g =>
      by_cases hz : p < A.length
      · obtain ⟨fa, fc, rfl, _⟩ := ho.flds
        have hz0 : (A.drop p).length ≠ 0 := by simp; omega
        by_cases h8e : acc.length = 8
        · obtain ⟨r1, r2⟩ := goF_pair HG.out (goF_full hz0 h8e)
          have R1 := Lib.hid r1; have R2 := Lib.hid r2; clear r1 r2
          have e8 : ((acc.length : Int) == 8) = true := by rw [h8e]; rfl
          have Hg := Lib.hid hg; have HO := Lib.hid ho; have H8 := Lib.hid h8e; clear hg ho h8e hz0
          go_wp2_with fail
          go_ret2
          rw [R1.out, R2.out]
          exact ⟨_, rfl, nil_flds _, hb⟩
        · have e8 : ((acc.length : Int) == 8) = false := by rw [beq_eq_false_iff_ne]; omega
          have hacc : acc.length ≤ 7 := by omega
          by_cases h1 : p + 1 < A.length
          · obtain ⟨b1, o1, c1, he, hlc, hcm, hcell⟩ := HV.out.cells (by intro e; rw [e] at hz; simp at hz)
            simp only [Value.slice.injEq, true_and] at he
            obtain ⟨rfl, rfl⟩ := he
            obtain ⟨x0, hx0⟩ : ∃ x0, A.getD p 0 = x0 := ⟨_, rfl⟩
            have hmem1 : A.getD (p + 1) 0 ∈ A := by rw [List.getD_eq_getElem?_getD, List.getElem?_eq_getElem h1]; exact List.getElem_mem h1
            have hmem0 : A.getD p 0 ∈ A := by rw [List.getD_eq_getElem?_getD, List.getElem?_eq_getElem hz]; exact List.getElem_mem hz
            obtain ⟨q, hq⟩ : ∃ q : Nat, A.getD (p + 1) 0 = q := ⟨(A.getD (p + 1) 0).toNat, (Int.toNat_of_nonneg (HR.out _ hmem1).1).symm⟩
            have hx1 := HR.out _ hmem1
            have hx2 := HR.out _ hmem0
            have hdrop := drop_cons2 h1
            rw [hx0] at hdrop hx2
            rw [hq] at hdrop hx1
            have e0 : wr.cell? ⟨b1, o1 + p, none⟩ = some (.int .u32 x0) := by
              have h := hcell p hz
              rw [hx0] at h
              exact (hb.cell (p := ⟨b1, o1 + p, none⟩) (lt_of_cell h)).trans h
            have e1 : wr.cell? ⟨b1, o1 + (p + 1), none⟩ = some (.int .u32 (q : Int)) := by
              have h := hcell (p + 1) h1
              rw [hq] at h
              exact (hb.cell (p := ⟨b1, o1 + (p + 1), none⟩) (lt_of_cell h)).trans h
            have x00 : 0 ≤ x0 := hx2.1
            have q00 : (q : Int) < 4294967296 := hx1.2
            have hlen2 : (A.drop (p + 2)).length = A.length - (p + 2) := by simp
            have HC := Lib.hid hcell
            have dd : decide ((A.length : Int) ≤ (p : Int) + 1) = false := by simp; omega
            clear hcell hx0 hq hmem0 hmem1 hx1 hx2
            by_cases s1 : x0 = 0
            · have w1 : (x0 == 0) = true := by rw [s1]; rfl
              have hs : starts (A.drop p) = false := by
                rw [hdrop]; refine decide_eq_false ?_
                rintro ⟨_, z1, z2, z3, z4⟩
                simp at z1 z2 z3 z4
                omega
              obtain ⟨r1, r2⟩ := goF_pair HG.out (goF_bad hz0 h8e hs)
              have R1 := Lib.hid r1; have R2 := Lib.hid r2; clear r1 r2 hs
              have S1 := Lib.hid s1; clear s1
              have Hg := Lib.hid hg; have HO := Lib.hid ho; have HDR := Lib.hid hdrop; clear hg ho hz0 h8e hdrop
              go_wp2_with fail
              go_ret2
              rw [R1.out, R2.out]
              exact ⟨_, rfl, nil_flds _, hb⟩
            · have w1 : (x0 == 0) = false := by rw [beq_eq_false_iff_ne]; exact s1
              by_cases s2 : 255 < x0
              · have w2 : decide (255 < x0) = true := by simpa using s2
                have hs : starts (A.drop p) = false := by
                  rw [hdrop]; refine decide_eq_false ?_
                  rintro ⟨_, z1, z2, z3, z4⟩
                  simp at z1 z2 z3 z4
                  omega
                obtain ⟨r1, r2⟩ := goF_pair HG.out (goF_bad hz0 h8e hs)
                have R1 := Lib.hid r1; have R2 := Lib.hid r2; clear r1 r2 hs
                have Hg := Lib.hid hg; have HO := Lib.hid ho; have HDR := Lib.hid hdrop; clear hg ho hz0 h8e hdrop
                go_wp2_with fail
                go_ret2
                rw [R1.out, R2.out]
                exact ⟨_, rfl, nil_flds _, hb⟩
              · have w2 : decide (255 < x0) = false := by simpa using s2
                by_cases s3 : 16 < q
                · have w3 : decide ((16 : Int) < (q : Int)) = true := by simp; omega
                  have hs : starts (A.drop p) = false := by
                    rw [hdrop]; refine decide_eq_false ?_
                    rintro ⟨_, z1, z2, z3, z4⟩
                    simp at z1 z2 z3 z4
                    omega
                  obtain ⟨r1, r2⟩ := goF_pair HG.out (goF_bad hz0 h8e hs)
                  have R1 := Lib.hid r1; have R2 := Lib.hid r2; clear r1 r2 hs
                  have Hg := Lib.hid hg; have HO := Lib.hid ho; have HDR := Lib.hid hdrop; clear hg ho hz0 h8e hdrop
                  go_wp2_with fail
                  go_ret2
                  rw [R1.out, R2.out]
                  exact ⟨_, rfl, nil_flds _, hb⟩
                · have w3 : decide ((16 : Int) < (q : Int)) = false := by simp; omega
                  by_cases s4 : A.length < p + 2 + q
                  · have w4 : decide ((A.length : Int) < (p : Int) + 2 + (q : Int)) = true := by simp; omega
                    have hs : starts (A.drop p) = false := by
                      rw [hdrop]; refine decide_eq_false ?_
                      rintro ⟨_, z1, z2, z3, z4⟩
                      simp at z1 z2 z3 z4
                      omega
                    obtain ⟨r1, r2⟩ := goF_pair HG.out (goF_bad hz0 h8e hs)
                    have R1 := Lib.hid r1; have R2 := Lib.hid r2; clear r1 r2 hs
                    have Hg := Lib.hid hg; have HO := Lib.hid ho; have HDR := Lib.hid hdrop; clear hg ho hz0 h8e hdrop
                    go_wp2_with fail
                    go_ret2
                    rw [R1.out, R2.out]
                    exact ⟨_, rfl, nil_flds _, hb⟩
                  · have hfirst : firstF (A.drop p) = (x0, (A.drop (p + 2)).take q) := by rw [hdrop]; simp [firstF]
                    have hrest : restF (A.drop p) = A.drop (p + 2 + q) := by
                      rw [hdrop]
                      show ((x0 :: (q : Int) :: A.drop (p + 2)).drop (2 + (q : Int).toNat)) = _
                      rw [Int.toNat_natCast, Nat.add_comm 2 q]
                      show (A.drop (p + 2)).drop q = _
                      rw [List.drop_drop]
                    have hs : starts (A.drop p) = true := by
                      rw [hdrop]
                      refine decide_eq_true ⟨by simp, ?_, ?_, ?_, ?_⟩ <;> simp <;> omega
                    have hN := goF_next (n := g) hz0 h8e hs
                    rw [hfirst, hrest] at hN
                    obtain ⟨ad1, hD, hsl1⟩ := slice_lh (P := Tryd.prog) (t := 26) (by kernel_rfl) (fun _ => by kernel_rfl) (k := .u32) (w := w) (b := b1) (o := o1) (m := A.length) (c := c) (A := A) rfl hlc hcm HC.out ((p : Int) + 2) ((p : Int) + 2 + q) (by omega) (by omega) (by omega)
                    rw [show ((p : Int) + 2 + (q : Int)).toNat = p + 2 + q from by omega, show ((p : Int) + 2).toNat = p + 2 from by omega, Nat.add_sub_cancel_left] at hD hsl1
                    have hDl : ((A.drop (p + 2)).take q).length = q := by simp; omega
                    obtain ⟨D, hDD⟩ : ∃ D, (A.drop (p + 2)).take q = D := ⟨_, rfl⟩
                    rw [hDD] at hD hDl hN
                    have HD := Lib.hid (hD.below hb)
                    have HDL := Lib.hid hDl
                    have HN := Lib.hid hN
                    obtain ⟨E, hE, hown, hall⟩ := ho
                    have HE := Lib.hid hE; have HA := Lib.hid hall
                    have Hg := Lib.hid hg
                    have I3 := Lib.hid (show (p : Int) + 2 + (q : Int) ≤ (A.length : Int) by omega)
                    clear hE hall hs hN hfirst hrest hdrop hDl hD hg hDD s1 s2 s3 s4 h8e hz0 hlen2
                    have i1 : (0 : Int) ≤ (p : Int) := by omega
                    have i2 : (p : Int) < (A.length : Int) := by omega
                    have i3 := I3.out
                    have i4 : (A.length : Int) ≤ (c : Int) := by omega
                    have i5 : (c : Int) ≤ 9223372036854775807 := by unfold maxLen at hcm; omega
                    have i6 : (p : Int) + 1 < (A.length : Int) := by omega
                    have i7 : (0 : Int) ≤ (q : Int) := by omega
                    have w4 : decide ((A.length : Int) < (p : Int) + 2 + (q : Int)) = false := by simp; omega
                    have hb1w : b1 < w.heap.size := lt_of_cell (HC.out p hz)
                    have ne1 : (Value.slice fa acc.length fc).ownBlock ≠ some b1 := fun e => by have := (hown.lt _ e).1; omega
                    have sr := hb.size
                    have n1 : IntKind.i64.wrap ((p : Int) + 2) = (p : Int) + 2 := IntWalk.i64_in _ (by omega)
                    have n2 : IntKind.i64.wrap ((p : Int) + 2 + (q : Int)) = (p : Int) + 2 + (q : Int) := IntWalk.i64_in _ (by omega)
                    obtain ⟨i0, hi0, hz0, hz1, hz2⟩ := info_parts Tryd.infoF
                    obtain ⟨j0, hj0, jz0, jz1, jz2⟩ := info_parts Tryd.infoU
                    go_wp2_with fail
                    have ne5 : some b1 ≠ (Value.slice (some ⟨wr.heap.size, 0, none⟩) 0 0).ownBlock := by simp [Value.ownBlock]; omega
                    have tok1 : True := trivial
                    go_region_held3 (fun w' => w'.cell? ⟨b1, o1 + p, none⟩ = some (.int .u32 x0))
                      (first
                      | (go_split_ands; rw [hgrow5.cell_far _ (by simp; omega) ne5]; assumption)
                      | (go_split_ands; rw [hgrow.cell_far _ (by simp; omega) (Ne.symm ne1)]; assumption)
                      | go_keep)
                      (first
                      | (have _t := tok1; refine step_append_ints (by rfl) (.tmp 69) (.tmp 77) 26 (by rfl) wr.heap.size 22 j0 .u32 0 4 Tryd.underlying26 hj0 jz0 jz1 jz2 (by decide) _ 0 [] (by rfl) (by first | exact owns_lit .u32 (Nat.le_refl _) rfl | exact (owns_lit .u32 (Nat.le_refl _) rfl).drew) _ D (by rfl) (by exact (HD.out.alloc _)) (by rw [HDL.out]; omega) (by simp) ?_; intro v5 w5 hown5 hgrow5; have hb5 : Below wr.heap.size wr w5 := (by first | exact below_lit hgrow5 | exact below_lit2 hgrow5); obtain ⟨hi5, _, _⟩ := ints_of_owns hown5; obtain ⟨ua, uc, rfl⟩ := hi5.form; have HI5 := Lib.hid hi5; have HT5 := Lib.hid (Typed.owns hown5); have s5 := hb5.size; clear hi5 hown5; clear tok1)
                      | (refine step_append_lies _ (by rfl) _ _ _ (by rfl) w.heap.size 57 i0 _ 2 32 Tryd.underlying45 hi0 hz0 hz1 hz2 rfl (by omega) _ acc.length (cellsE E) (by rfl) (((owns_below2 hown hb5).alloc _).drew)
                          ⟨w5.heap.size, 0, none⟩ 1 1 [.int .u32 x0, .slice ua D.length uc] (by rfl) (by rfl) (World.news_of_block (cs := #[.int .u32 x0, .slice ua D.length uc]) (t := 57) (fr := (0, 0)) (heap_alloc_new _ _)) (by simp [Value.oneCell'])
                          (by omega) (by unfold maxLen; omega) (by omega) (by simp; omega) (w5.heap.size + 1) (by simp) ?_; intro gg cap w6 hown6 hgrow hat hlt))
                    have hI5 : Ints .u32 w5 (.slice ua D.length uc) D := HI5.out
                    have hT5 : Typed 22 w5 (.slice ua D.length uc) := HT5.out
                    have hbw : Below w.heap.size w w5 := hb.trans (hb5.mono sr)
                    have hel : E.length = acc.length := by rw [← HE.out]; simp
                    have hba : Below wr.heap.size wr (w5.alloc (.cells #[.int .u32 x0, .slice ua D.length uc] 57)) := hb5.alloc s5 _
                    have hnew : OwnsF w.heap.size w6 (.slice (some ⟨gg, 0, none⟩) (acc.length + 1) cap) (acc ++ [(x0, D)]) := by
                      have := OwnsF.snoc (E := E) (p := ((x0, D), .slice ua D.length uc)) (v := .slice fa acc.length fc) (base := w.heap.size)
                        (fun p hp => ⟨(HA.out p hp).1.below hba, (HA.out p hp).2.below hba⟩) ⟨hI5.alloc _, hT5.below ((Below.refl _ _).alloc (Nat.le_refl _) _)⟩
                        (by rw [hel]; exact owns_below2 hown hba) (by rw [hel]; exact hown6) hgrow
                      rw [HE.out] at this
                      exact this
                    have hb6 : Below w.heap.size w w6 := (hbw.alloc hbw.size _).grown hgrow (by simp; have := hbw.size; omega) (fun k hk => (hown.lt k hk).1)
                    have HNEW := Lib.hid hnew
                    clear n1 n2 hgrow5 hgrow hown6 hnew hba hel hI5 hT5
                    go_wp2_with fail
                    go_roundg g
                    case rel =>
                      refine ⟨p + 2 + q, acc ++ [(x0, D)], by omega, by go_num, HNEW.out, ?_, ?_, Lib.hid (HN.out.symm.trans HG.out), hb6⟩
                      · have := Hg.out; simp; omega
                      · simp; omega
                    case measure => omega
          · have hs : starts (A.drop p) = false := decide_eq_false (by rintro ⟨h, _⟩; simp at h; omega)
            obtain ⟨r1, r2⟩ := goF_pair HG.out (goF_bad hz0 h8e hs)
            have R1 := Lib.hid r1; have R2 := Lib.hid r2; clear r1 r2 hs
            have dd : decide ((A.length : Int) ≤ (p : Int) + 1) = true := by simp; omega
            have Hg := Lib.hid hg; have HO := Lib.hid ho; clear hg ho hz0 h8e
            go_wp2_with fail
            go_ret2
            rw [R1.out, R2.out]
            exact ⟨_, rfl, nil_flds _, hb⟩
      · have hz0 : (A.drop p).length = 0 := by simp; omega
        obtain ⟨r1, r2⟩ := goF_pair HG.out (goF_end hz0)
        have R1 := Lib.hid r1; have R2 := Lib.hid r2; clear r1 r2 hz0
        have Hg := Lib.hid hg; have HO := Lib.hid ho; clear hg ho
        go_wp2_with fail
        go_ret2
        rw [R1.out, R2.out]
        exact ⟨_, rfl, HO.out.flds, hb⟩
/-- What the reference's Get answers of whatever words: the fields, or an error. -/
theorem rget_any (v : Value) (A : List Int) (w : World) (hv : Ints .u32 w v A) (hr : ∀ x ∈ A, 0 ≤ x ∧ x < 4294967296) :
    Calls Tryd.prog 29 #[v] w (FieldsGive (getF A).1 (getF A).2 w) := by
  by_cases h : 64 < A.length
  · obtain ⟨a, c, rfl⟩ := hv.form
    unfold getF
    rw [if_pos h]
    exact rget_many a _ c w h
  · unfold getF
    rw [if_neg h]
    exact rget_few v A w hv (by omega) hr
end Go.Proofs.YthpcnekidlhfpaaDoor
