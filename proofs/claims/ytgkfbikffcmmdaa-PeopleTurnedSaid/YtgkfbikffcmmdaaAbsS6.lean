/- Each operation does what was said: append, and parts of rows. -/
import Derived.Test.YtgkfbikffcmmdaaAbsS5
set_option linter.unusedSimpArgs false
set_option linter.unusedVariables false
set_option maxRecDepth 100000
namespace Go.Proofs.Ytgkfbikffcmmdaa.Abs
open Go.RowKit
section
variable {P : Program} {c : Ctx} {w : World} {σ : St} {a : Act} {base : Nat} {S0 : Sh} {w0 : W0}

theorem flat_len2 {S : Sh} {ys : List (List CV)} {vss : List (List Value)} {sz : Nat} (h : F2 (F2 (R S w)) ys vss) (hsz : ∀ us ∈ ys, us.length = sz) : vss.flatten.length = ys.length * sz := (flat_ok h hsz).2.1
theorem append_run {o : Oper} {T : TypeId} {s x : Operand} (ho : o.op = .call { callee := .builtin .append, args := #[s, x], argTypes := #[T, T] }) {a : Act} {v : Value} {w' : World} (h : (Builtin.append_ #[T, T] o.type #[a.eval s, a.eval x]).run P w = .ok v w') :
    (execOp a.eval o).run P w = .ok (.value v) w' := by
  simp [execOp, ho, resolve, invoke, builtin, h]
theorem run_append_zero {t e : TypeId} {ty : TypeId} {i : TypeInfo} {size : Nat} {base : Nat} (ht : P.underlying t = some (.slice e)) (hi : P.info? e = some i) {v : Value} {n : Nat} {xs : List Value} (hown : w.ownsRow base e size v n xs) (ad : Addr) (cap : Nat) :
    (Builtin.append_ #[t, t] ty #[v, .slice (some ad) 0 cap]).run P w = .ok v w := by
  have hl : (Builtin.firstCells i.size 0 (.slice (some ad) 0 cap)).run P w = .ok #[] w := by
    have := run_loadCells_list (P := P) w ad [] (fun j v h => by simp at h)
    simpa [Builtin.firstCells] using this
  rcases hown.2 with ⟨rfl, rfl⟩ | ⟨g, cap', cur, rfl, _, _, hnc, _⟩
  · simp [Builtin.append_, run_underlying ht, sizeOf, typeInfo, hi, Builtin.lenOf, hl]
  · simp [Builtin.append_, run_underlying ht, sizeOf, typeInfo, hi, Builtin.lenOf, hl, hnc, storeCells]
theorem run_append_keep {t e : TypeId} {ty : TypeId} {i : TypeInfo} (ht : P.underlying t = some (.slice e)) (hi : P.info? e = some i) (ad : Option Addr) (n : Nat) (u : Value) (hu : u = .slice none 0 0 ∨ ∃ p cap, u = .slice (some p) 0 cap) :
    (Builtin.append_ #[t, t] ty #[.slice ad n n, u]).run P w = .ok (.slice ad n n) w := by
  rcases hu with rfl | ⟨p, cap, rfl⟩
  · cases ad <;> simp [Builtin.append_, run_underlying ht, sizeOf, typeInfo, hi, Builtin.lenOf, Builtin.firstCells, storeCells]
  · have hl : (Builtin.firstCells i.size 0 (.slice (some p) 0 cap)).run P w = .ok #[] w := by
      have := run_loadCells_list (P := P) w p [] (fun j v h => by simp at h)
      simpa [Builtin.firstCells] using this
    cases ad <;> simp [Builtin.append_, run_underlying ht, sizeOf, typeInfo, hi, Builtin.lenOf, hl, storeCells]
/-- What is put behind a row of the call's own. -/
theorem own_append {t e : TypeId} {ty : TypeId} {esz : Nat} {S : Sh} {base : Nat} {ie : TypeInfo} {z : Value} (ht : P.underlying t = some (.slice e)) (hi : P.info? e = some ie) (hz : ie.zero = some z) (hsz : ie.size = esz) (hby : ie.bytes ≤ 131072) (hzs : z.cells.size = esz) (hpos : 0 < esz)
    {v u : Value} {xs ys : List (List CV)} {vss : List (List Value)} (hF : F2 (F2 (R S w)) xs vss) (hown : w.ownsRow base e esz v xs.length vss.flatten) (hys : ∀ us ∈ ys, us.length = esz) (hlen : xs.length + ys.length ≤ 1073741824) (hbase : base ≤ w.heap.size)
    (hu : (u = .slice none 0 0 ∧ ys = []) ∨ ∃ ad cap tss, u = .slice (some ad) ys.length cap ∧ F2 (F2 (R S w)) ys tss ∧ ∀ j q, tss.flatten[j]? = some q → w.cell? (ad.add j) = some q) :
    ∃ v' w' tss, (Builtin.append_ #[t, t] ty #[v, u]).run P w = .ok v' w' ∧ F2 (F2 (R S w)) (xs ++ ys) tss ∧ w'.ownsRow base e esz v' (xs ++ ys).length tss.flatten ∧ w.grownBy w' v.ownBlock ∧ (ys = [] → v' = v) ∧ (∀ k, v'.ownBlock = some k → v.ownBlock = some k ∨ w.heap.size ≤ k) := by
  rcases hu with ⟨rfl, rfl⟩ | ⟨ad, cap, tss, rfl, hT, hcells⟩
  · exact ⟨v, w, vss, run_append_owned_none w base t ty e ie esz ht hi v xs.length _ hown, by rw [List.append_nil]; exact hF, by rw [List.append_nil]; exact hown, World.grownBy.refl _ _, fun _ => rfl, fun k hk => .inl hk⟩
  · by_cases h0 : ys = []
    · subst h0
      exact ⟨v, w, vss, run_append_zero ht hi hown ad cap, by rw [List.append_nil]; exact hF, by rw [List.append_nil]; exact hown, World.grownBy.refl _ _, fun _ => rfl, fun k hk => .inl hk⟩
    · obtain ⟨f1, f2, f3⟩ := flat_ok hT hys
      have hmul : (xs.length + ys.length) * ie.bytes ≤ 1073741824 * 131072 := Nat.mul_le_mul hlen hby
      obtain ⟨v', w', hr, h2, h3, _, h5⟩ := run_append_own_at (P := P) w base t ty e ie z esz ie.bytes ht hi hz hsz rfl hzs hpos v xs.length _ hown ad ys.length cap tss.flatten f2 hcells f3 (small _ hlen) (by omega) hbase
      refine ⟨v', w', vss ++ tss, hr, hF.append hT, by rw [List.flatten_append, List.length_append]; exact h2, h3, fun e => absurd e h0, fun k hk => ?_⟩
      rcases h5 with h5 | h5
      · exact .inl (by rw [← h5]; exact hk)
      · rw [h5] at hk
        cases hk
        exact .inr (Nat.le_refl _)
theorem mrg_id {id : Nat} {ids : List Nat} {b : Option Blk} {m : Mem} (h : hasN ids id = false) : mrg (id :: ids) (fun i => bif i == id then b else only (id :: ids) m i) m = upd m id b := by
  funext i
  have hN : hasN (id :: ids) i = (id == i || hasN ids i) := rfl
  show (bif hasN (id :: ids) i then (bif i == id then b else only (id :: ids) m i) else m i) = if i = id then b else m i
  rw [hN]
  by_cases hi : i = id
  · subst hi; simp
  · have h1 : (id == i) = false := by simpa using fun e => hi e.symm
    have h2 : (i == id) = false := by simpa using hi
    simp only [h1, h2, Bool.false_or, cond_false, if_neg hi]
    cases hc : hasN ids i with
    | false => rfl
    | true => simp only [cond_true]; exact only_in (List.mem_cons_of_mem _ (hasN_iff.1 hc))
theorem src_only {ids : List Nat} {m : Mem} {x : AV} (h : ∀ i ∈ ownIds x.cells, i ∈ ids) : srcOf (only ids m) x = srcOf m x ∧ (srcOK (only ids m) x ↔ srcOK m x) := by
  cases x with
  | one y =>
    cases y with
    | own id n =>
      have : only ids m id = m id := only_in (h id (by simp [AV.cells, ownIds]))
      simp [srcOf, srcOK, this]
    | c z => cases z <;> exact ⟨rfl, Iff.rfl⟩
    | _ => exact ⟨rfl, Iff.rfl⟩
  | _ => exact ⟨rfl, Iff.rfl⟩
theorem append_ok {o : Oper} {T T' : TypeId} {s x : Operand} (ho : o.op = .call { callee := .builtin .append, args := #[s, x], argTypes := #[T, T'] }) : OpOK P o σ (rAppend P o.dst T T' (ev σ s) (ev σ x)) := by
  unfold rAppend
  split
  · rename_i s1 s2 s3 s4 e esz ht
    obtain ⟨hd, ie, z, hie, hz, hsz, hby, hzs, hpos, hz1⟩ := slice_shape ht
    split
    · rename_i id n hs
      intro ro base S0 w0 c a w K Q h1 h2 h3 h4
      simp only [Req.eff, Req.mem, cond_true] at h3 h4
      generalize hids : ownIds (ev σ x).cells = ids at h3 h4
      have hin : only (id :: ids) σ.m id = σ.m id := only_in (List.mem_cons_self ..)
      obtain ⟨so1, so2⟩ := src_only (ids := id :: ids) (m := σ.m) (x := ev σ x) (fun i hi => by rw [hids] at hi; exact List.mem_cons_of_mem _ hi)
      rw [hin] at h3 h4
      rw [so1] at h3 h4
      split at h3
      · rename_i e' sz xs hm
        simp only [hm] at h4
        split at h3
        · rename_i ys hy
          simp only [hy] at h4
          obtain ⟨rfl, rfl, rfl, e4, e5, e6, e7, e8⟩ := h3
          have hv := ev_ok h1 s
          rw [hs] at hv
          obtain ⟨_, L, hL, hn, hq⟩ := hv
          have hL' : xs.length = L := by simpa [rowLen, hm] using hL
          have hpsi := hq (by omega)
          obtain ⟨p1, p2, p3, p4, vss, p5, p6⟩ := h2.blk id _ hm
          obtain ⟨v', w', tss, r1, r2, r3, r4, r5, r6⟩ := own_append (P := P) (ty := o.type) hd hie hz hsz hby hzs hpos p5 p6 e7 e8 h2.size (src_ok h2 (ev_ok h1 x) hy (so2.1 e5) e7)
          obtain ⟨g, q1, q2⟩ := h2.turn hm r4 r6 (by rw [List.length_append]; omega) (fun e => r5 (List.eq_nil_of_length_eq_zero (by rw [List.length_append] at e; omega))) (fun us hu => by
            rcases List.mem_append.1 hu with hu | hu
            · exact p1 us hu
            · exact e7 us hu) (by rw [List.length_append]; exact e8) r2 r3
          rw [mrg_id e6] at h4
          rw [List.length_append] at q2
          refine wpo_run (append_run ho (by rw [hpsi]; exact r1)) rfl ?_
          exact h4 _ _ _ g q1 q2
        · exact h3.elim
      · exact h3.elim
    · rename_i hs
      split
      · rename_i d hdst
        intro ro base S0 w0 c a w K Q h1 h2 h3 h4
        simp only [Req.eff, Req.mem, cond_true] at h3 h4
        generalize hids : ownIds (ev σ x).cells = ids at h3 h4
        have hin : only (d :: ids) σ.m d = σ.m d := only_in (List.mem_cons_self ..)
        obtain ⟨so1, so2⟩ := src_only (ids := d :: ids) (m := σ.m) (x := ev σ x) (fun i hi => by rw [hids] at hi; exact List.mem_cons_of_mem _ hi)
        rw [hin] at h3 h4
        rw [so1] at h3 h4
        split at h3
        · rename_i hm
          simp only [hm] at h4
          split at h3
          · rename_i ys hy
            simp only [hy] at h4
            obtain ⟨rfl, e2, e3, e4, e5⟩ := h3
            have hv := ev_ok h1 s
            rw [hs] at hv
            have hv : a.eval s = .slice none 0 0 := hv
            have hno : hasN ids d = false := by
              cases hh : hasN ids d with
              | false => rfl
              | true =>
                exfalso
                have hvx := ev_ok h1 x
                rw [← hids] at hh
                cases hx : ev σ x with
                | one y =>
                  cases y with
                  | own id2 n2 =>
                    rw [hx] at hh hvx
                    simp only [AV.cells, ownIds, hasN, Bool.or_false, beq_iff_eq] at hh
                    subst hh
                    obtain ⟨_, L, hL, _⟩ := hvx
                    simp [rowLen, hm] at hL
                  | mp id2 => rw [hx] at hy; simp [srcOf] at hy
                  | _ => rw [hx] at hh; simp [AV.cells, ownIds, hasN] at hh
                | agg cs => rw [hx] at hy; simp [srcOf] at hy
                | tup rs => rw [hx] at hy; simp [srcOf] at hy
                | tupo rs => rw [hx] at hy; simp [srcOf] at hy
                | junk => rw [hx] at hy; simp [srcOf] at hy
            obtain ⟨v', w', tss, r1, r2, r3, r4, r5, r6⟩ := own_append (P := P) (ty := o.type) (xs := []) (vss := []) (v := .slice none 0 0) (base := w.heap.size) hd hie hz hsz hby hzs hpos F2.nil (World.ownsRow_nil _ _ _ _) e4 (by simpa using e5) (Nat.le_refl _) (src_ok h2 (ev_ok h1 x) hy (so2.1 e3) e4)
            rw [List.nil_append] at r2 r3
            have hB : Below w.heap.size w w' := ⟨r4.os, r4.tape, r4.output, r4.size, fun k hk => r4.block k hk (by simp [Value.ownBlock])⟩
            obtain ⟨g, q1, q2⟩ := h2.rows hm hB e4 hpos e5 r2 r3
            rw [mrg_id hno] at h4
            refine wpo_run (append_run ho (by rw [hv]; exact r1)) rfl ?_
            exact h4 _ _ _ g q1 q2
          · exact h3.elim
        · exact h3.elim
      · exact OpOK.bad
    · rename_i kk xs hs
      split
      · rename_i d hdst
        intro ro base S0 w0 c a w K Q h1 h2 h3 h4
        simp only [Req.eff, Req.mem, cond_true] at h3 h4
        generalize hids : ownIds (ev σ x).cells = ids at h3 h4
        have hin : only (d :: ids) σ.m d = σ.m d := only_in (List.mem_cons_self ..)
        obtain ⟨so1, so2⟩ := src_only (ids := d :: ids) (m := σ.m) (x := ev σ x) (fun i hi => by rw [hids] at hi; exact List.mem_cons_of_mem _ hi)
        rw [hin] at h3 h4
        rw [so1] at h3 h4
        split at h3
        · rename_i hm
          simp only [hm] at h4
          split at h3
          · rename_i hy
            simp only [hy] at h4
            obtain ⟨rfl, e3, e5⟩ := h3
            have hv := ev_ok h1 s
            rw [hs] at hv
            obtain ⟨ad0, hv1, hv2⟩ := hv
            have hsrc := src_ok h2 (ev_ok h1 x) hy (so2.1 e3) (sz := esz) (by simp)
            have hrun : (Builtin.append_ #[T', T'] o.type #[a.eval s, a.eval x]).run P w = .ok (a.eval s) w := by
              rw [hv1]
              rcases hsrc with ⟨f1, _⟩ | ⟨ad, cap, tss, f1, _⟩
              · rw [f1]; exact run_append_keep hd hie _ _ _ (.inl rfl)
              · rw [f1]; exact run_append_keep hd hie _ _ _ (.inr ⟨ad, cap, rfl⟩)
            have hmem : mrg (d :: ids) (only (d :: ids) σ.m) σ.m = σ.m := by
              funext i
              unfold mrg
              cases hi : hasN (d :: ids) i with
              | false => rfl
              | true => exact only_in (hasN_iff.1 hi)
            rw [hmem] at h4
            refine wpo_run (append_run ho hrun) rfl ?_
            exact h4 _ _ _ (Goes.refl _ _ _) h2 ⟨ad0, hv1, hv2⟩
          · rename_i ys hne hy
            obtain ⟨y0, ys0, hys⟩ : ∃ y0 ys0, ys = y0 :: ys0 := by
              cases ys with
              | nil => exact (hne rfl).elim
              | cons a b => exact ⟨a, b, rfl⟩
            rw [hys] at hy
            simp only [hy] at h4
            rw [← hys] at hy h4
            obtain ⟨rfl, e2, e3, e4, e5, e6, e7⟩ := h3
            have hv := ev_ok h1 s
            rw [hs] at hv
            obtain ⟨ad0, hv1, hv2⟩ := hv
            have hno : hasN ids d = false := by
              cases hh : hasN ids d with
              | false => rfl
              | true =>
                exfalso
                have hvx := ev_ok h1 x
                rw [← hids] at hh
                cases hx : ev σ x with
                | one y =>
                  cases y with
                  | own id2 n2 =>
                    rw [hx] at hh hvx
                    simp only [AV.cells, ownIds, hasN, Bool.or_false, beq_iff_eq] at hh
                    subst hh
                    obtain ⟨_, L, hL, _⟩ := hvx
                    simp [rowLen, hm] at hL
                  | mp id2 => rw [hx] at hy; simp [srcOf] at hy
                  | _ => rw [hx] at hh; simp [AV.cells, ownIds, hasN] at hh
                | agg cs => rw [hx] at hy; simp [srcOf] at hy
                | tup rs => rw [hx] at hy; simp [srcOf] at hy
                | tupo rs => rw [hx] at hy; simp [srcOf] at hy
                | junk => rw [hx] at hy; simp [srcOf] at hy
            have hsrc := src_ok h2 (ev_ok h1 x) hy (so2.1 e3) e6
            have main : ∃ v' w' tss, (Builtin.append_ #[T', T'] o.type #[a.eval s, a.eval x]).run P w = .ok v' w' ∧ F2 (F2 (R c.S w)) (xs ++ ys) tss ∧ w'.ownsRow w.heap.size e esz v' (xs ++ ys).length tss.flatten ∧ w.grownBy w' none := by
              rcases R.flat hv2 e5 with ⟨f1, f2⟩ | ⟨ad, cap, vss, f1, f2, f3⟩
              · subst f2
                obtain ⟨v', w', tss, r1, r2, r3, r4, r5, r6⟩ := own_append (P := P) (ty := o.type) (xs := []) (vss := []) (v := .slice none 0 0) (base := w.heap.size) hd hie hz hsz hby hzs hpos F2.nil (World.ownsRow_nil _ _ _ _) e6 (by simpa using e7) (Nat.le_refl _) hsrc
                exact ⟨v', w', tss, by rw [f1]; exact r1, r2, r3, r4⟩
              · rcases hsrc with ⟨_, f4⟩ | ⟨ad2, cap2, tss, f4, f5, f6⟩
                · exact absurd f4 e4
                · have hcap : cap = xs.length := by rw [hv1] at f1; simp at f1; exact f1.2.symm
                  subst hcap
                  obtain ⟨k1, k2, k3⟩ := flat_ok f2 e5
                  obtain ⟨l1, l2, l3⟩ := flat_ok f5 e6
                  have hyl : 0 < ys.length := List.length_pos_iff.2 e4
                  have hmul : (xs.length + ys.length) * ie.bytes ≤ 1073741824 * 131072 := Nat.mul_le_mul e7 hby
                  obtain ⟨v', w', r1, r2, r3⟩ := run_append_arg_grows (P := P) w T' o.type e ie z esz ie.bytes hd hie hz hsz rfl hzs hpos ad xs.length xs.length vss.flatten k2 f3 ad2 ys.length cap2 tss.flatten l2 f6 (by omega) (small _ e7) (by omega)
                  exact ⟨v', w', vss ++ tss, by rw [f1, f4]; exact r1, f2.append f5, by rw [List.flatten_append, List.length_append]; exact r2, r3⟩
            obtain ⟨v', w', tss, r1, r2, r3, r4⟩ := main
            have hB : Below w.heap.size w w' := ⟨r4.os, r4.tape, r4.output, r4.size, fun k hk => r4.block k hk (by simp)⟩
            obtain ⟨g, q1, q2⟩ := h2.rows hm hB (fun us hu => by
              rcases List.mem_append.1 hu with hu | hu
              · exact e5 us hu
              · exact e6 us hu) hpos (by rw [List.length_append]; exact e7) r2 r3
            rw [mrg_id hno] at h4
            rw [List.length_append] at q2
            refine wpo_run (append_run ho r1) rfl ?_
            exact h4 _ _ _ g q1 q2
          · exact h3.elim
        · exact h3.elim
      · exact OpOK.bad
    · exact OpOK.bad
  · exact OpOK.bad
end
end Go.Proofs.Ytgkfbikffcmmdaa.Abs
