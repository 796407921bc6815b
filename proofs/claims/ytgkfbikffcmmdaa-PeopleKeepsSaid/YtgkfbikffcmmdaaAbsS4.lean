/- Each operation does what was said: literals of structs, what is shown, calls. -/
import Derived.Test.YtgkfbikffcmmdaaAbsS3
import Derived.Maps.AppendAt
set_option linter.unusedSimpArgs false
set_option linter.unusedVariables false
set_option maxRecDepth 100000
namespace Go.Proofs.Ytgkfbikffcmmdaa.Abs
open Go.RowKit
section
variable {P : Program} {c : Ctx} {w : World} {σ : St} {a : Act} {base : Nat} {S0 : Sh} {w0 : W0}

theorem fold_splice (off : Nat) (us cs : List Value) (h : off + us.length ≤ cs.length) : (us.toArray.zipIdx.foldl (fun cs (c, j) => cs.setIfInBounds (off + j) c) cs.toArray) = (cs.take off ++ us ++ cs.drop (off + us.length)).toArray := by
  rw [← Array.foldl_toList, Array.toList_zipIdx]
  obtain ⟨h1, h2⟩ := Great.foldl_set off us 0 cs.toArray
  apply Array.ext_getElem?
  intro k
  refine (h2 k).trans ?_
  simp only [Nat.add_zero, List.getElem?_toArray, List.size_toArray]
  by_cases hk : off ≤ k ∧ k < off + us.length ∧ k < cs.length
  · rw [if_pos hk, List.append_assoc, List.getElem?_append_right (by simp; omega), List.getElem?_append_left (by simp; omega)]
    congr 1
    simp
    omega
  · rw [if_neg hk]
    by_cases h1 : k < off
    · rw [List.append_assoc, List.getElem?_append_left (by simp; omega), List.getElem?_take_of_lt h1]
    · rw [List.getElem?_append_right (by simp; omega), List.getElem?_drop]
      congr 1
      simp
      omega
theorem fill_ok {α : Type} {Q : α → Value → Prop} {place : Nat → Option (Nat × Nat)} : ∀ {ps : List (Nat × List α)} {vps : List (Nat × Value)} {cs cs' : List α} {vals : List Value}, F2 Q cs vals → F2 (fun (p : Nat × List α) (q : Nat × Value) => p.1 = q.1 ∧ ∃ vs : List Value, q.2.cells = vs.toArray ∧ F2 Q p.2 vs) ps vps → fillA place cs ps = some cs' →
    ∃ vals', Instr.fill place vals.toArray vps = some vals'.toArray ∧ F2 Q cs' vals' := by
  intro ps
  induction ps with
  | nil =>
    intro vps cs cs' vals h k e
    rw [k.unnil]
    simp only [fillA, Option.some.injEq] at e
    subst e
    exact ⟨vals, rfl, h⟩
  | cons p ps ih =>
    intro vps cs cs' vals h k e
    obtain ⟨q, vps, rfl, k1, k2⟩ := k.uncons
    obtain ⟨i, us⟩ := p
    obtain ⟨i', v⟩ := q
    obtain ⟨rfl, vs, hvs, huv⟩ := k1
    simp only [fillA] at e
    simp only at hvs
    cases hp : place i with
    | none => rw [hp] at e; simp at e
    | some os =>
      obtain ⟨off, sz⟩ := os
      simp only [hp] at e
      cases hb : (decide (us.length = sz) && decide (off + us.length ≤ cs.length)) with
      | false => rw [hb] at e; simp at e
      | true =>
        rw [hb] at e
        simp only [Bool.and_eq_true, decide_eq_true_eq] at hb
        simp only [cond_true] at e
        obtain ⟨vals', q1, q2⟩ := ih (splice_ok h huv off) k2 e
        refine ⟨vals', ?_, q2⟩
        have hl : us.length = vs.length := huv.1
        have hl2 : cs.length = vals.length := h.1
        simp only [Instr.fill, hp, hvs]
        have hl3 : vs.length = sz := by omega
        have hl4 : off + vs.length ≤ vals.length := by omega
        rw [if_neg (by simp [hl3]; omega), fold_splice off vs vals hl4]
        simpa [splice] using q1
theorem parts_ok (h1 : Tm c w σ a) : ∀ {ps : List (Nat × Operand)}, allFlat (partsA (ev σ) ps) = true → F2 (fun (p : Nat × List A) (q : Nat × Value) => p.1 = q.1 ∧ ∃ vs : List Value, q.2.cells = vs.toArray ∧ F2 (VA c w σ.m) p.2 vs) ((partsA (ev σ) ps).map fun p => (p.1, p.2.cells)) (ps.map fun p => (p.1, a.eval p.2)) := by
  intro ps
  induction ps with
  | nil => intro _; exact F2.nil
  | cons p ps ih =>
    intro h
    simp only [partsA, List.map_cons, allFlat, Bool.and_eq_true] at h
    obtain ⟨vs, q1, q2⟩ := cellsOf_ok (ev_ok h1 p.2) h.1
    exact F2.cons ⟨rfl, vs, q1, q2⟩ (ih h.2)
theorem zeroA_ok {T : TypeId} {ti : TI} (ht : TIs P T ti) {m : Mem} : ∃ i z, P.info? T = some i ∧ i.zero = some z ∧ F2 (VA c w m) ti.zero z.cells.toList := by
  obtain ⟨i, d, z, hi, hd, hz, h1, rfl⟩ := ht
  exact ⟨i, z, hi, hz, ofCells_ok (List.all_eq_true.1 h1)⟩
theorem places_ok : ∀ (fs : List Field), (∀ f ∈ fs, (P.info? f.type).isSome = true) → fs.mapM (fun f => (P.info? f.type).map fun i => (f.offset, i.size)) = some (fs.map fun f => (f.offset, P.cellsOf f.type)) := by
  intro fs
  induction fs with
  | nil => intro _; rfl
  | cons f fs ih =>
    intro h
    obtain ⟨i, hi⟩ := Option.isSome_iff_exists.1 (h f (by simp))
    rw [List.mapM_cons, ih (fun g hg => h g (by simp [hg]))]
    simp [hi, Program.cellsOf]
theorem build_ok {o : Oper} {T : TypeId} {ps : Array (Nat × Operand)} (ho : o.op = .build T ps) : OpOK P o σ (rBuild P T (partsA (ev σ) ps.toList)) := by
  have hpv : ∀ a : Act, (ps.map fun (i, x) => (i, a.eval x)).toList = ps.toList.map fun p => (p.1, a.eval p.2) := fun a => by simp
  unfold rBuild
  split
  · rename_i s1 s2 s3 zero fs ht
    obtain ⟨fields, hd, rfl, hall⟩ := field_shape ht
    split
    · rename_i cs hcs
      refine OpOK.val fun base S0 w0 c a w h1 h2 h3 => ?_
      obtain ⟨i, z, hi, hz, hzero⟩ := zeroA_ok (c := c) (w := w) (m := σ.m) (tinfo_is ht)
      obtain ⟨vals, q1, q2⟩ := fill_ok hzero (parts_ok h1 h3) hcs
      have hb : P.built T (ps.map fun (i, x) => (i, a.eval x)).toList = some vals.toArray := by
        unfold Program.built
        simp only [hi, hd, hz, places_ok _ fun f hf => (hall f hf).1]
        rw [hpv, ← q1]
        congr 1
        funext j
        simp only [List.getElem?_toArray, List.getElem?_map]
        cases fields.toList[j]? <;> rfl
      exact ⟨_, by simp [execOp, ho, run_build w T _ _ hb], vals, rfl, q2⟩
    · exact OpOK.bad
  · rename_i s1 s2 s3 zero n e esz ht
    obtain ⟨hd, hc⟩ := arr_shape ht
    split
    · rename_i cs hcs
      refine OpOK.val fun base S0 w0 c a w h1 h2 h3 => ?_
      obtain ⟨h3, hz0⟩ := h3
      obtain ⟨i, z, hi, hz, hzero⟩ := zeroA_ok (c := c) (w := w) (m := σ.m) (tinfo_is ht)
      obtain ⟨vals, q1, q2⟩ := fill_ok hzero (parts_ok h1 h3) hcs
      obtain ⟨ie, hie, hse⟩ := info_of_cells (P := P) (t := e) (by rw [hc]; exact hz0)
      have hb : P.built T (ps.map fun (i, x) => (i, a.eval x)).toList = some vals.toArray := by
        unfold Program.built
        simp only [hi, hd, hz, hie]
        rw [hpv, ← q1, hse, hc]
      exact ⟨_, by simp [execOp, ho, run_build w T _ _ hb], vals, rfl, q2⟩
    · exact OpOK.bad
  · exact OpOK.bad

/-! What is shown. -/
theorem Goes.trans {c1 c2 : Ctx} {w1 w2 : World} {m m1 m2 : Mem} (h : Goes c w m c1 w1 m1) (k : Goes c1 w1 m1 c2 w2 m2) : Goes c w m c2 w2 m2 where
  S := fun j b hb => k.S j b (h.S j b hb)
  heap := fun j b hb => (k.heap j b (h.S j b hb)).trans (h.heap j b hb)
  box := fun id hm => by
    obtain ⟨h1, h2⟩ := h.box id hm
    obtain ⟨k1, k2⟩ := k.box id h2
    exact ⟨k1.trans h1, k2⟩
  rows := fun id L hL => by
    obtain ⟨L1, h1, h2, h3⟩ := h.rows id L hL
    obtain ⟨L2, k1, k2, k3⟩ := k.rows id L1 h1
    refine ⟨L2, k1, Nat.le_trans h2 k2, fun e => ?_⟩
    have e1 : L = L1 := by omega
    have e2 : L1 = L2 := by omega
    obtain ⟨p1, p2⟩ := h3 e1
    obtain ⟨q1, q2⟩ := k3 e2
    refine ⟨q1.trans p1, fun e sz xs hx => ?_⟩
    obtain ⟨ys, hy⟩ := q2 e sz xs hx
    exact p2 e sz ys hy
theorem freezes (ids : List Nat) : ∀ {c : Ctx} {m : Mem}, WR base S0 w0 c m w → ∃ c', Goes c w m c' w (mrg ids (frz m) m) ∧ WR base S0 w0 c' (mrg ids (frz m) m) w := by
  induction ids with
  | nil => intro c m h; exact ⟨c, by exact Goes.refl _ _ _, h⟩
  | cons i ids ih =>
    intro c m h
    have key : ∀ m1 : Mem, m1 = upd m i (frz m i) → mrg ids (frz m1) m1 = mrg (i :: ids) (frz m) m := fun m1 e => by
      subst e
      funext j
      by_cases hj : j = i
      · subst hj
        have h1 : upd m j (frz m j) j = frz m j := upd_same _ _ _
        have h2 : frz (upd m j (frz m j)) j = frz m j := by
          show frzB (upd m j (frz m j) j) = frzB (m j)
          rw [h1]
          show frzB (frzB (m j)) = frzB (m j)
          cases m j with
          | none => rfl
          | some b => cases b <;> rfl
        simp only [mrg, hasN, h1, h2]
        cases hasN ids j <;> simp
      · have h1 : upd m i (frz m i) j = m j := upd_ne _ _ hj
        have h2 : frz (upd m i (frz m i)) j = frz m j := congrArg frzB h1
        have h3 : (i == j) = false := by simpa using fun e => hj e.symm
        simp only [mrg, hasN, h1, h2, h3, Bool.false_or]
    cases hm : m i with
    | none =>
      have e : m = upd m i (frz m i) := by
        funext j
        by_cases hj : j = i
        · subst hj; rw [upd_same]; simp [frz, frzB, hm]
        · rw [upd_ne _ _ hj]
      have := ih h
      rw [key m e] at this
      exact this
    | some b =>
      have same : frzB (some b) = some b → ∃ c', Goes c w m c' w (mrg (i :: ids) (frz m) m) ∧ WR base S0 w0 c' (mrg (i :: ids) (frz m) m) w := fun hb => by
        have e : m = upd m i (frz m i) := by
          funext j
          by_cases hj : j = i
          · subst hj; rw [upd_same]; show m j = frzB (m j); rw [hm, hb]
          · rw [upd_ne _ _ hj]
        have := ih h
        rw [key m e] at this
        exact this
      cases b with
      | rows e sz xs =>
        obtain ⟨g1, h1, _⟩ := h.freeze hm
        have e1 : upd m i (some (.froz xs)) = upd m i (frz m i) := by simp [frz, frzB, hm]
        obtain ⟨c', g2, h2⟩ := ih h1
        rw [key _ e1] at g2 h2
        exact ⟨c', g1.trans g2, h2⟩
      | mapb a ks xs =>
        obtain ⟨g1, h1⟩ := h.showMap hm
        have e1 : upd m i (some (.fmap a ks xs)) = upd m i (frz m i) := by simp [frz, frzB, hm]
        obtain ⟨c', g2, h2⟩ := ih h1
        rw [key _ e1] at g2 h2
        exact ⟨c', g1.trans g2, h2⟩
      | _ => exact same rfl
theorem only_in {ids : List Nat} {m : Mem} {i : Nat} (h : i ∈ ids) : only ids m i = m i := by simp [only, hasN_iff.2 h]
theorem mrg_only {ids : List Nat} {m : Mem} : mrg ids (frz (only ids m)) m = mrg ids (frz m) m := by
  funext i
  unfold mrg
  cases h : hasN ids i with
  | false => rfl
  | true => simp only [cond_true, frz, only_in (hasN_iff.1 h)]
/-- A cell that is shown. -/
theorem clo_ok {ids : List Nat} {m : Mem} {c : Ctx} {x : A} {v : Value} (h : WR base S0 w0 c (mrg ids (frz m) m) w) (hv : VA c w (mrg ids (frz m) m) x v) (hok : cloOK (only ids m) x) (hi : ∀ i ∈ ownIds [x], i ∈ ids) : R c.S w (clo (only ids m) x) v := by
  cases x with
  | c y => exact hv
  | own id n =>
    have hin : id ∈ ids := hi id (by simp [ownIds])
    obtain ⟨_, L, hL, hn, hq⟩ := hv
    simp only [cloOK, only_in hin] at hok
    simp only [clo, only_in hin]
    have hmrg : mrg ids (frz m) m id = frz m id := by simp [mrg, hasN_iff.2 hin]
    cases hm : m id with
    | none => rw [hm] at hok; exact hok.elim
    | some b =>
      rw [hm] at hok
      cases b with
      | box cs => exact hok.elim
      | fbox cs => exact hok.elim
      | obox cs => exact hok.elim
      | orec r => exact hok.elim
      | mapb a ks xs => exact hok.elim
      | fmap a ks xs => exact hok.elim
      | gone L => exact hok.elim
      | lent j e sz xs =>
        have hf : mrg ids (frz m) m id = some (.lent j e sz xs) := by rw [hmrg]; simp [frz, frzB, hm]
        have hL' : xs.length = L := by simpa [rowLen, hf] using hL
        simp only at hok ⊢
        rw [hq (by omega)]
        obtain ⟨_, p1, p2, p3, p4, vss, p5, p6⟩ := h.blk id _ hf
        exact row_shown j p1 p5 p6 fun g hg => (p4 g hg j).2 rfl
      | rows e sz xs =>
        have hf : mrg ids (frz m) m id = some (.froz xs) := by rw [hmrg]; simp [frz, frzB, hm]
        have hL' : xs.length = L := by simpa [rowLen, hf] using hL
        simp only at hok ⊢
        rw [hq (by omega)]
        exact h.blk id _ hf
      | froz xs =>
        have hf : mrg ids (frz m) m id = some (.froz xs) := by rw [hmrg]; simp [frz, frzB, hm]
        have hL' : xs.length = L := by simpa [rowLen, hf] using hL
        simp only at hok ⊢
        rw [hq (by omega)]
        exact h.blk id _ hf
  | mp id =>
    have hin : id ∈ ids := hi id (by simp [ownIds])
    obtain ⟨_, rfl⟩ := hv
    simp only [cloOK, only_in hin] at hok
    simp only [clo, only_in hin]
    have hmrg : mrg ids (frz m) m id = frz m id := by simp [mrg, hasN_iff.2 hin]
    cases hm : m id with
    | none => rw [hm] at hok; exact hok.elim
    | some b =>
      rw [hm] at hok
      cases b with
      | mapb a ks xs =>
        have hf : mrg ids (frz m) m id = some (.fmap a ks xs) := by rw [hmrg]; simp [frz, frzB, hm]
        obtain ⟨p1, vss, p2, p3⟩ := h.blk id _ hf
        exact map_shown p1 p2 p3
      | fmap a ks xs =>
        have hf : mrg ids (frz m) m id = some (.fmap a ks xs) := by rw [hmrg]; simp [frz, frzB, hm]
        obtain ⟨p1, vss, p2, p3⟩ := h.blk id _ hf
        exact map_shown p1 p2 p3
      | _ => exact hok.elim
  | full k xs => obtain ⟨_, _, h2⟩ := hv; exact h2
  | nil => rw [show v = .slice none 0 0 from hv]; exact R.nil
  | ptr id off => exact hok.elim
  | el k cs off =>
    obtain ⟨b, o, vs, rfl, h1, h2, h3⟩ := hv
    exact R.ptr h1 h2.1 h3 h2.2
  | pel id n i off => exact hok.elim
  | bare => obtain ⟨_, _, h1, h2⟩ := hv; rw [h1]; exact R.bare h2
  | any => exact hok.elim
theorem cloAll_cons {m : Mem} {x : A} {l : List A} : cloAll m (x :: l) ↔ cloOK m x ∧ cloAll m l := by
  cases l with
  | nil => simp [cloAll]
  | cons y l => simp [cloAll]
theorem ownIds_cons {x : A} {l : List A} : ownIds (x :: l) = ownIds [x] ++ ownIds l := by cases x <;> simp [ownIds]
theorem ownIds_append (l k : List A) : ownIds (l ++ k) = ownIds l ++ ownIds k := by
  induction l with
  | nil => rfl
  | cons x l ih => rw [List.cons_append, ownIds_cons, ih, ← List.append_assoc, ← ownIds_cons]
theorem cloCells_ok {ids : List Nat} {m : Mem} {c : Ctx} (h : WR base S0 w0 c (mrg ids (frz m) m) w) : ∀ {xs : List A} {vs : List Value}, F2 (VA c w (mrg ids (frz m) m)) xs vs → cloAll (only ids m) xs → (∀ i ∈ ownIds xs, i ∈ ids) → F2 (R c.S w) (xs.map (clo (only ids m))) vs := by
  intro xs
  induction xs with
  | nil => intro vs h1 _ _; rw [h1.unnil]; exact F2.nil
  | cons x xs ih =>
    intro vs h1 h2 h3
    obtain ⟨v, vs, rfl, k1, k2⟩ := h1.uncons
    obtain ⟨p1, p2⟩ := cloAll_cons.1 h2
    rw [ownIds_cons] at h3
    exact F2.cons (clo_ok h k1 p1 fun i hi => h3 i (by simp [hi])) (ih k2 p2 fun i hi => h3 i (by simp [hi]))
theorem argsOK_cons {m : Mem} {x : AV} {l : List AV} : argsOK m (x :: l) ↔ (x.flat = true ∧ cloAll m x.cells) ∧ argsOK m l := by
  cases l with
  | nil => simp [argsOK]
  | cons y l => simp [argsOK]
theorem cloAV_ok {ids : List Nat} {m : Mem} {c : Ctx} {x : AV} {v : Value} (h : WR base S0 w0 c (mrg ids (frz m) m) w) (hv : VV c w (mrg ids (frz m) m) x v) (hf : x.flat = true) (hok : cloAll (only ids m) x.cells) (hi : ∀ i ∈ ownIds x.cells, i ∈ ids) : RC c.S w (cloAV (only ids m) x) v := by
  cases x with
  | one y => exact clo_ok h hv hok hi
  | agg cs =>
    obtain ⟨vs, rfl, h2⟩ := hv
    exact ⟨vs, rfl, cloCells_ok h h2 hok hi⟩
  | tup rs => simp [AV.flat] at hf
  | tupo rs => simp [AV.flat] at hf
  | junk => simp [AV.flat] at hf
theorem cloArg_ok {ids : List Nat} {m : Mem} {c : Ctx} {x : AV} {v : Value} (h : WR base S0 w0 c (mrg ids (frz m) m) w) (hv : VV c w (mrg ids (frz m) m) x v) (hf : x.flat = true) (hok : cloAll (only ids m) x.cells) (hi : ∀ i ∈ ownIds x.cells, i ∈ ids) : RC c.S w (cloArg (only ids m) x) v := by
  have hs := cloAV_ok h hv hf hok hi
  cases x with
  | one y =>
    cases y with
    | nil => exact hv
    | _ => exact hs
  | _ => exact hs
theorem mrg_cons {d : Nat} {ids : List Nat} {b : Option Blk} {m : Mem} : mrg (d :: ids) (fun i => bif i == d then b else frz (only (d :: ids) m) i) m = upd (mrg ids (frz m) m) d b := by
  funext i
  have hN : hasN (d :: ids) i = (d == i || hasN ids i) := rfl
  show (bif hasN (d :: ids) i then (bif i == d then b else frz (only (d :: ids) m) i) else m i) = if i = d then b else (bif hasN ids i then frz m i else m i)
  rw [hN]
  by_cases h : i = d
  · subst h; simp
  · have h1 : (d == i) = false := by simpa using fun e => h e.symm
    have h2 : (i == d) = false := by simpa using h
    simp only [h1, h2, Bool.false_or, cond_false, if_neg h]
    cases hi : hasN ids i with
    | false => rfl
    | true =>
      show frzB (only (d :: ids) m i) = frzB (m i)
      rw [only_in (List.mem_cons_of_mem _ (hasN_iff.1 hi))]
theorem only_cons {d : Nat} {ids : List Nat} {m : Mem} (hd : m d = none) : only (d :: ids) m = only ids m := by
  funext i
  have hN : hasN (d :: ids) i = (d == i || hasN ids i) := rfl
  show (bif hasN (d :: ids) i then m i else none) = (bif hasN ids i then m i else none)
  rw [hN]
  by_cases h : d = i
  · subst h
    simp only [beq_self_eq_true, Bool.true_or, cond_true]
    cases hasN ids d <;> simp [hd]
  · have h1 : (d == i) = false := by simpa using h
    simp [h1]
/-- A row of somebody's own becomes one of the call's own. -/
theorem WR.addRow {c : Ctx} {m : Mem} (h : WR base S0 w0 c m w) {d : Nat} (hd : m d = none) {b : Nat} (hbb : base ≤ b) {e : TypeId} {sz : Nat} {xs : List (List CV)} {v : Value} (hf : ∀ i k, blockOf c m i = some k → v.ownBlock ≠ some k) (ho : RO b c.S w e sz xs v) :
    let c' : Ctx := { c with ψ := upd c.ψ d v }
    let m' := upd m d (some (.rows e sz xs))
    Goes c w m c' w m' ∧ WR base S0 w0 c' m' w ∧ VA c' w m' (.own d xs.length) v := by
  intro c' m'
  obtain ⟨h1, h2, h3, h4, vss, h5, h6⟩ := ho
  have hne : ∀ id b, m id = some b → id ≠ d := fun id b hm e => by rw [e, hd] at hm; simp at hm
  have hneL : ∀ id L, rowLen m id = some L → id ≠ d := fun id L hm e => by rw [e] at hm; simp [rowLen, hd] at hm
  have hneB : ∀ id, isBox m id → id ≠ d := fun id hm e => by rw [e] at hm; simp [isBox, hd] at hm
  have g : Goes c w m c' w m' := by
    refine ⟨fun _ _ h => h, fun _ b hb => rfl, fun id hm => ⟨rfl, (isBox_upd_ne (hneB id hm)).2 hm⟩, fun id L hL => ⟨L, ?_, Nat.le_refl _, fun _ => ⟨upd_ne _ _ (hneL id L hL), fun e sz xs hx => ⟨xs, ?_⟩⟩⟩⟩
    · rw [← hL]; exact rowLen_upd_ne m _ (hneL id L hL)
    · rw [← hx]; exact (rowsOf_upd_ne (hneL id L hL)).symm
  have hbo : ∀ id k, id ≠ d → blockOf c' m' id = some k → blockOf c m id = some k := fun id k hne hk => by
    simpa [blockOf, m', c', upd_ne _ _ hne] using hk
  have hbd : ∀ k, blockOf c' m' d = some k → v.ownBlock = some k := fun k hk => by simpa [blockOf, m', c', upd_same] using hk
  refine ⟨g, ?_, ?_⟩
  · refine h.step g (fun _ b hb => .inl hb) h.lt (.of (Below.refl _ _)) (fun id bk hm => ?_) (fun id id' bk p1 p2 => ?_)
    · by_cases e' : id = d
      · right
        subst e'
        have : bk = .rows e sz xs := by simpa [m', upd_same] using hm.symm
        subst this
        have hc' : c'.ψ id = v := upd_same _ _ _
        refine ⟨h1, h2, h3, fun k hk => ?_, vss, h5.mono fun x y _ h => h.mono fun x y _ h => h.mono g.S g.heap, ?_⟩
        · rw [hc'] at hk
          exact h4 k hk
        · rw [hc']
          exact ⟨h6.1, h6.2.imp (fun h => h) fun ⟨gg, cap, cur, e1, e2, r⟩ => ⟨gg, cap, cur, e1, Nat.le_trans hbb e2, r⟩⟩
      · left
        refine ⟨by rw [← hm]; exact (upd_ne m _ e').symm, rfl, upd_ne _ _ e', fun k hk => ⟨rfl, fun _ => Iff.rfl⟩⟩
    · by_cases e1 : id = d
      · by_cases e2 : id' = d
        · rw [e1, e2]
        · subst e1
          exact absurd (hbd bk p1) (hf id' bk (hbo id' bk e2 p2))
      · by_cases e2 : id' = d
        · subst e2
          exact absurd (hbd bk p2) (hf id bk (hbo id bk e1 p1))
        · exact h.inj id id' bk (hbo id bk e1 p1) (hbo id' bk e2 p2)
  · refine ⟨?_, xs.length, by simp [rowLen, m', upd_same], Nat.le_refl _, fun _ => (upd_same _ _ _).symm⟩
    rcases h6.2 with ⟨rfl, e0⟩ | ⟨gg, cap, cur, rfl, _⟩
    · exact ⟨none, 0, by rw [e0]⟩
    · exact ⟨_, _, rfl⟩
theorem F2.toRC {S : Sh} {cs : List CV} {vs : List Value} (h : cs.length = vs.length) (k : ∀ (i : Nat) (x : CV) (v : Value), cs[i]? = some x → vs[i]? = some v → R S w x v) : F2 (RC S w) (cs.map .one) vs := F2.map_left.2 ⟨h, k⟩
theorem call_gen {ro : Option Nat} {o : Oper} {f : FuncId} {fx : Operand} {args : Array Operand} {ts : Array TypeId} {r : RV} (ho : o.op = .call { callee := .value fx, args, argTypes := ts }) {c : Ctx} {a : Act} {ids : List Nat} {pre post : List CA} (h1 : Tm c w σ a) (h2 : WR base S0 w0 c σ.m w)
    (hfx : ∃ ps qs : List Value, a.eval fx = .func (.func f) ps.toArray qs.toArray ∧ F2 (RC c.S w) pre ps ∧ F2 (RC c.S w) post qs)
    (hids : ∀ i ∈ ownIds ((args.toList.map (ev σ)).map AV.cells).flatten, i ∈ ids) (hopn : ∀ i ∈ opnIds (insOf r), i ∈ ids) (hargs : argsOK (only ids σ.m) (args.toList.map (ev σ))) (hacall : ACalls P f (pre ++ (args.toList.map (ev σ)).map (cloArg (only ids σ.m)) ++ post) r) (hcin : callIn (only ids σ.m) r) {K : Act → World → Prop} {Q : Exit → Act → World → Prop}
    (hk : ∀ (c' : Ctx) (w' : World) (v : Value), Goes c w σ.m c' w' (setBs (mrg ids (frz σ.m) σ.m) (outsOf r)) → WR base S0 w0 c' (setBs (mrg ids (frz σ.m) σ.m) (outsOf r)) w' → RR w.heap.size c'.S w' r v → (∀ i k, blockOf c' (setBs (mrg ids (frz σ.m) σ.m) (outsOf r)) i = some k → k < w.heap.size) → K (a.put o.dst v) w') : o.wpIn (Fw ro) 0 P a w K Q := by
  obtain ⟨⟨fn, hf1, hf2, hf3⟩, hcall⟩ := hacall
  obtain ⟨c1, g1, r1⟩ := freezes ids h2
  obtain ⟨ps, qs, e1, hps, hqs⟩ := hfx
  have hvs0 : F2 (RC c1.S w) ((args.toList.map (ev σ)).map (cloArg (only ids σ.m))) (args.toList.map a.eval) := by
    have hsub : ∀ x ∈ args.toList, ∀ i ∈ ownIds (ev σ x).cells, i ∈ ids := fun x hx i hi => by
      refine hids i ?_
      have : ∀ (l : List Operand), x ∈ l → i ∈ ownIds ((l.map (ev σ)).map AV.cells).flatten := by
        intro l
        induction l with
        | nil => intro h; simp at h
        | cons y l ih =>
          intro h
          simp only [List.map_cons, List.flatten_cons, ownIds_append, List.mem_append]
          rcases List.mem_cons.1 h with rfl | h
          · exact .inl hi
          · exact .inr (ih h)
      exact this _ hx
    have hok : ∀ (l : List Operand), argsOK (only ids σ.m) (l.map (ev σ)) → (∀ x ∈ l, ∀ i ∈ ownIds (ev σ x).cells, i ∈ ids) → F2 (RC c1.S w) ((l.map (ev σ)).map (cloArg (only ids σ.m))) (l.map a.eval) := by
      intro l
      induction l with
      | nil => intro _ _; exact F2.nil
      | cons x l ih =>
        intro h h'
        simp only [List.map_cons] at h ⊢
        obtain ⟨⟨p1, p2⟩, p3⟩ := argsOK_cons.1 h
        exact F2.cons (cloArg_ok r1 ((ev_ok h1 x).goes g1) p1 p2 (h' x (by simp))) (ih p3 fun y hy => h' y (by simp [hy]))
    exact hok _ hargs hsub
  have up : ∀ {l : List CA} {vs : List Value}, F2 (RC c.S w) l vs → F2 (RC c1.S w) l vs := fun h => h.mono fun x y _ h => h.mono g1.S fun k b hb => g1.heap k b hb
  have hvs := ((up hps).append hvs0).append (up hqs)
  have hr : (execOp a.eval o).run P w = .ok (.enter f (ps ++ args.toList.map a.eval ++ qs).toArray) w := by
    have e2 : (ps ++ args.toList.map a.eval ++ qs).toArray = ps.toArray ++ args.map a.eval ++ qs.toArray := by
      apply Array.ext'
      simp
    have e3 : ¬ fn.name = "runtime.NumGoroutine" := by simpa using hf3
    have e4 : ¬ fn.body = none := fun e => by rw [e] at hf2; simp at hf2
    rw [e2]
    simp [execOp, ho, resolve, Deferred.ofValue, e1, invoke, callFunc, program, Sem.run, hf1, e3, e4]
  refine wpo_run hr rfl ⟨fun h => by simp [Fence.wide] at h, callsW ?_⟩
  obtain ⟨hin, hsame⟩ : insAt (only ids σ.m) (insOf r) ∧ sameBs (insOf r) (outsOf r) := by
    cases r with
    | bx ins outs rs => exact hcin
    | _ => exact ⟨trivial, trivial⟩
  have hM : ∀ p ∈ insOf r, mrg ids (frz σ.m) σ.m (1000000 + p.1) = some p.2.blk := fun p hp => by
    have h1 := insAt_mem hin p hp
    have hi : 1000000 + p.1 ∈ ids := hopn _ (opnIds_mem (cs := p.2) hp)
    rw [only_in hi] at h1
    show (bif hasN ids (1000000 + p.1) then frzB (σ.m (1000000 + p.1)) else σ.m (1000000 + p.1)) = _
    rw [hasN_iff.2 hi, h1]
    cases p.2 <;> rfl
  have hinM : insAt (mrg ids (frz σ.m) σ.m) (insOf r) := insAt_of hM
  have hbx : ∀ p ∈ insOf r, BoxAt c1.S w p := fun p hp => by
    obtain ⟨b, oc⟩ := p
    have hB := r1.blk _ _ (hM (b, oc) hp)
    cases oc with
    | cells cs =>
      obtain ⟨q1, q2, q3, vs', TT, q4, q5⟩ := hB
      have q3 : c1.φ (1000000 + b) = b := Nat.add_left_cancel q3
      rw [q3] at q2 q4
      exact ⟨q2, vs', TT, q4, q5⟩
    | loop rr =>
      obtain ⟨q1, q2, q3, q4⟩ := hB
      have q3 : c1.φ (1000000 + b) = b := Nat.add_left_cancel q3
      rw [q3] at q2 q4
      exact ⟨q2, q4⟩
  refine (hcall c1.S w _ r1.lt (h1.gl.mono (g1.S 0) (g1.heap 0)) hvs hbx).mono ?_
  rintro e w' ⟨v, T, rfl, hT, hv, hb⟩
  obtain ⟨g2, r2, hbo⟩ := r1.callsX hinM hsame hb T hT (by
    cases r with
    | bx ins outs rs => exact hv.2
    | _ => intro p hp; simp [outsOf] at hp)
  exact hk _ w' v (g1.trans g2) r2 hv fun i k hik => (r1.apart (id := i) (k := k) (by rw [← hbo]; exact hik)).2
theorem yield_gen {ro : Option Nat} {o : Oper} {l : Nat} {fx : Operand} {args : Array Operand} {ts : Array TypeId} {r : RV} (ho : o.op = .call { callee := .value fx, args, argTypes := ts }) {c : Ctx} {a : Act} {ids : List Nat} (h1 : Tm c w σ a) (h2 : WR base S0 w0 c σ.m w)
    (hfx : a.eval fx = .func (.yield l) #[] #[])
    (hids : ∀ i ∈ ownIds ((args.toList.map (ev σ)).map AV.cells).flatten, i ∈ ids) (hopn : ∀ i ∈ opnIds (insOf r), i ∈ ids) (hargs : argsOK (only ids σ.m) (args.toList.map (ev σ))) (hacall : AYields P l ((args.toList.map (ev σ)).map (cloArg (only ids σ.m))) r) (hcin : callIn (only ids σ.m) r) {K : Act → World → Prop} {Q : Exit → Act → World → Prop}
    (hk : ∀ (c' : Ctx) (w' : World) (v : Value), Goes c w σ.m c' w' (setBs (mrg ids (frz σ.m) σ.m) (outsOf r)) → WR base S0 w0 c' (setBs (mrg ids (frz σ.m) σ.m) (outsOf r)) w' → RR w.heap.size c'.S w' r v → (∀ i k, blockOf c' (setBs (mrg ids (frz σ.m) σ.m) (outsOf r)) i = some k → k < w.heap.size) → K (a.put o.dst v) w') : o.wpIn (Fw ro) 0 P a w K Q := by
  obtain ⟨⟨rc, hrc0, hrc⟩, hcall⟩ := hacall
  obtain ⟨c1, g1, r1⟩ := freezes ids h2
  have hvs : F2 (RC c1.S w) ((args.toList.map (ev σ)).map (cloArg (only ids σ.m))) (args.toList.map a.eval) := by
    have hsub : ∀ x ∈ args.toList, ∀ i ∈ ownIds (ev σ x).cells, i ∈ ids := fun x hx i hi => by
      refine hids i ?_
      have : ∀ (l : List Operand), x ∈ l → i ∈ ownIds ((l.map (ev σ)).map AV.cells).flatten := by
        intro l
        induction l with
        | nil => intro h; simp at h
        | cons y l ih =>
          intro h
          simp only [List.map_cons, List.flatten_cons, ownIds_append, List.mem_append]
          rcases List.mem_cons.1 h with rfl | h
          · exact .inl hi
          · exact .inr (ih h)
      exact this _ hx
    have hok : ∀ (l : List Operand), argsOK (only ids σ.m) (l.map (ev σ)) → (∀ x ∈ l, ∀ i ∈ ownIds (ev σ x).cells, i ∈ ids) → F2 (RC c1.S w) ((l.map (ev σ)).map (cloArg (only ids σ.m))) (l.map a.eval) := by
      intro l
      induction l with
      | nil => intro _ _; exact F2.nil
      | cons x l ih =>
        intro h h'
        simp only [List.map_cons] at h ⊢
        obtain ⟨⟨p1, p2⟩, p3⟩ := argsOK_cons.1 h
        exact F2.cons (cloArg_ok r1 ((ev_ok h1 x).goes g1) p1 p2 (h' x (by simp))) (ih p3 fun y hy => h' y (by simp [hy]))
    exact hok _ hargs hsub
  obtain ⟨hin, hsame⟩ : insAt (only ids σ.m) (insOf r) ∧ sameBs (insOf r) (outsOf r) := by
    cases r with
    | bx ins outs rs => exact hcin
    | _ => exact ⟨trivial, trivial⟩
  have hM : ∀ p ∈ insOf r, mrg ids (frz σ.m) σ.m (1000000 + p.1) = some p.2.blk := fun p hp => by
    have h1 := insAt_mem hin p hp
    have hi : 1000000 + p.1 ∈ ids := hopn _ (opnIds_mem (cs := p.2) hp)
    rw [only_in hi] at h1
    show (bif hasN ids (1000000 + p.1) then frzB (σ.m (1000000 + p.1)) else σ.m (1000000 + p.1)) = _
    rw [hasN_iff.2 hi, h1]
    cases p.2 <;> rfl
  have hinM : insAt (mrg ids (frz σ.m) σ.m) (insOf r) := insAt_of hM
  have hbx : ∀ p ∈ insOf r, BoxAt c1.S w p := fun p hp => by
    obtain ⟨b, oc⟩ := p
    have hB := r1.blk _ _ (hM (b, oc) hp)
    cases oc with
    | cells cs =>
      obtain ⟨q1, q2, q3, vs', TT, q4, q5⟩ := hB
      have q3 : c1.φ (1000000 + b) = b := Nat.add_left_cancel q3
      rw [q3] at q2 q4
      exact ⟨q2, vs', TT, q4, q5⟩
    | loop rr =>
      obtain ⟨q1, q2, q3, q4⟩ := hB
      have q3 : c1.φ (1000000 + b) = b := Nat.add_left_cancel q3
      rw [q3] at q2 q4
      exact ⟨q2, q4⟩
  have hR : ∃ R : Loop, w.heap[l]? = some (.loop R) := by
    obtain ⟨_, R, hR, _⟩ := hbx _ hrc
    exact ⟨R, hR⟩
  obtain ⟨R, hR⟩ := hR
  obtain ⟨hsz, hround⟩ := hcall ro c1.S w _ r1.lt (h1.gl.mono (g1.S 0) (g1.heap 0)) hvs hbx R hR
  have hr : (execOp a.eval o).run P w = .ok (.round l R.fn (roundTmps R (args.toList.map a.eval)) R.assign R.body) w := by
    have e2 : args.map a.eval = (args.toList.map a.eval).toArray := by apply Array.ext'; simp
    have e3 : (args.toList.map a.eval).toArray.size = R.params.size := by simpa using hsz
    simp only [execOp, ho, resolve, Sem.run_bind, Deferred.ofValue, hfx, e2, Sem.run_pure, Result.andThen_ok, invoke]
    simp [Instr.yield, Instr.getLoop, getObj, Sem.run, hR, e3, roundTmps, Result.andThen]
  refine wpo_run hr rfl ⟨fun h => by simp [Fence.wide] at h, ?_⟩
  refine RoundIn.mono hround ?_
  rintro e w' ⟨v, T, rfl, hT, hv, hb⟩
  obtain ⟨g2, r2, hbo⟩ := r1.callsX hinM hsame hb T hT (by
    cases r with
    | bx ins outs rs => exact hv.2
    | _ => intro p hp; simp [outsOf] at hp)
  exact hk _ w' v (g1.trans g2) r2 hv fun i k hik => (r1.apart (id := i) (k := k) (by rw [← hbo]; exact hik)).2
/-! Results with rows of their own in them. -/
theorem mixC_append (d : Nat) : ∀ (l r : List RE) (k : Nat), mixC d k (l ++ r) = mixC d k l ++ mixC d (k + nOwn l) r := by
  intro l
  induction l with
  | nil => intro r k; rfl
  | cons x l ih =>
    intro r k
    cases x with
    | c y => simp only [List.cons_append, mixC, nOwn, ih]
    | own e sz xs => simp only [List.cons_append, mixC, nOwn, ih]; rw [show k + 1 + nOwn l = k + (nOwn l + 1) by omega]
theorem mixM_append (d : Nat) : ∀ (l r : List RE) (k : Nat) (m : Mem), mixM d k (l ++ r) m = mixM d (k + nOwn l) r (mixM d k l m) := by
  intro l
  induction l with
  | nil => intro r k m; rfl
  | cons x l ih =>
    intro r k m
    cases x with
    | c y => simp only [List.cons_append, mixM, nOwn, ih]
    | own e sz xs => simp only [List.cons_append, mixM, nOwn, ih]; rw [show k + 1 + nOwn l = k + (nOwn l + 1) by omega]
theorem mixI_ge (d : Nat) : ∀ (l : List RE) (k : Nat), ∀ i ∈ mixI d k l, d + 1000 * k ≤ i := by
  intro l
  induction l with
  | nil => intro k i hi; simp [mixI] at hi
  | cons x l ih =>
    intro k i hi
    cases x with
    | c y => exact ih k i hi
    | own e sz xs =>
      rcases List.mem_cons.1 hi with rfl | hi
      · exact Nat.le_refl _
      · have := ih (k + 1) i hi; omega
theorem freeAll_mem {m : Mem} : ∀ {l : List Nat}, freeAll m l = true → ∀ i ∈ l, m i = none := by
  intro l
  induction l with
  | nil => intro _ i hi; simp at hi
  | cons x l ih =>
    intro h i hi
    simp only [freeAll, Bool.and_eq_true] at h
    rcases List.mem_cons.1 hi with rfl | hi
    · have h1 := h.1
      cases hm : m i with
      | none => rfl
      | some b => rw [hm] at h1; simp at h1
    · exact ih h.2 i hi
/-- The cells' rows become rows of the call's own, one behind the other. -/
theorem mixC_ok {b d : Nat} (hbb : base ≤ b) : ∀ (l : List RE) (us : List Value) (k : Nat) (c : Ctx) (m : Mem), WR base S0 w0 c m w → F2 (RRE b c.S w) l us → (l.zip us).Pairwise apartP → (∀ i ∈ mixI d k l, m i = none) →
    (∀ i q, blockOf c m i = some q → ∀ p ∈ l.zip us, (∃ e sz xs, p.1 = .own e sz xs) → p.2.ownBlock ≠ some q) →
    ∃ c', c'.S = c.S ∧ Goes c w m c' w (mixM d k l m) ∧ WR base S0 w0 c' (mixM d k l m) w ∧ F2 (VA c' w (mixM d k l m)) (mixC d k l) us ∧
      (∀ i q, blockOf c' (mixM d k l m) i = some q → blockOf c m i = some q ∨ ∃ p ∈ l.zip us, (∃ e sz xs, p.1 = .own e sz xs) ∧ p.2.ownBlock = some q) ∧ (∀ i, i ∉ mixI d k l → mixM d k l m i = m i) := by
  intro l
  induction l with
  | nil => intro us k c m h hF _ _ _; rw [hF.unnil]; exact ⟨c, rfl, Goes.refl _ _ _, h, F2.nil, fun i q hq => .inl hq, fun _ _ => rfl⟩
  | cons x l ih =>
    intro us k c m h hF hP hfree hap
    obtain ⟨u, us, rfl, k1, k2⟩ := hF.uncons
    rw [List.zip_cons_cons, List.pairwise_cons] at hP
    cases x with
    | c y =>
      obtain ⟨c', e0, g, r, v, bl, ou⟩ := ih us k c m h k2 hP.2 hfree (fun i q hq p hp => hap i q hq p (by rw [List.zip_cons_cons]; exact List.mem_cons_of_mem _ hp))
      refine ⟨c', e0, g, r, F2.cons (VA.goes g (a := .c y) k1) v, fun i q hq => ?_, ou⟩
      rcases bl i q hq with h | ⟨p, hp, h⟩
      · exact .inl h
      · exact .inr ⟨p, by rw [List.zip_cons_cons]; exact List.mem_cons_of_mem _ hp, h⟩
    | own e sz xs =>
      have hm0 : m (d + 1000 * k) = none := hfree _ (by simp [mixI])
      obtain ⟨g1, r1, v1⟩ := h.addRow hm0 hbb (fun i q hq => hap i q hq (.own e sz xs, u) (by rw [List.zip_cons_cons]; exact List.mem_cons_self ..) ⟨_, _, _, rfl⟩) k1
      have hbo : ∀ i q, blockOf { c with ψ := upd c.ψ (d + 1000 * k) u } (upd m (d + 1000 * k) (some (.rows e sz xs))) i = some q → blockOf c m i = some q ∨ u.ownBlock = some q := fun i q hq => by
        by_cases e1 : i = d + 1000 * k
        · subst e1; right; simpa [blockOf, upd_same] using hq
        · left; simpa [blockOf, upd_ne _ _ e1] using hq
      obtain ⟨c', e0, g, r, v, bl, ou⟩ := ih us (k + 1) _ _ r1 k2 hP.2 (fun i hi => by
          have := mixI_ge d l (k + 1) i hi
          rw [upd_ne _ _ (by omega)]
          exact hfree i (by simp [mixI, hi])) (fun i q hq p hp ho => by
          rcases hbo i q hq with hq | hq
          · exact hap i q hq p (by rw [List.zip_cons_cons]; exact List.mem_cons_of_mem _ hp) ho
          · obtain ⟨e2, s2, x2, h2⟩ := ho
            have := hP.1 p hp
            unfold apartP at this
            rw [h2] at this
            exact this q hq)
      refine ⟨c', e0, g1.trans g, r, F2.cons (VA.goes g v1) v, fun i q hq => ?_, fun i hi => ?_⟩
      · rcases bl i q hq with hq | ⟨p, hp, h⟩
        · rcases hbo i q hq with hq | hq
          · exact .inl hq
          · exact .inr ⟨_, by rw [List.zip_cons_cons]; exact List.mem_cons_self .., ⟨_, _, _, rfl⟩, hq⟩
        · exact .inr ⟨p, by rw [List.zip_cons_cons]; exact List.mem_cons_of_mem _ hp, h⟩
      · simp only [mixI, List.mem_cons, not_or] at hi
        show mixM d (k + 1) l (upd m (d + 1000 * k) (some (.rows e sz xs))) i = m i
        rw [ou i hi.2, upd_ne _ _ hi.1]
theorem mixI_append (d : Nat) : ∀ (l r : List RE) (k : Nat), mixI d k (l ++ r) = mixI d k l ++ mixI d (k + nOwn l) r := by
  intro l
  induction l with
  | nil => intro r k; rfl
  | cons x l ih =>
    intro r k
    cases x with
    | c y => simp only [List.cons_append, mixI, nOwn, ih]
    | own e sz xs => simp only [List.cons_append, mixI, nOwn, ih]; rw [show k + 1 + nOwn l = k + (nOwn l + 1) by omega]
theorem mixI_lt (d : Nat) : ∀ (l : List RE) (k : Nat), ∀ i ∈ mixI d k l, i < d + 1000 * (k + nOwn l) := by
  intro l
  induction l with
  | nil => intro k i hi; simp [mixI] at hi
  | cons x l ih =>
    intro k i hi
    cases x with
    | c y => exact ih k i hi
    | own e sz xs =>
      rcases List.mem_cons.1 hi with rfl | hi
      · simp only [nOwn]; omega
      · have := ih (k + 1) i hi; simp only [nOwn]; omega
theorem mix_ok {b d : Nat} (hbb : base ≤ b) : ∀ {rs : List (Bool × List RE)} {vs : List Value} {ps : List (RE × Value)} {S : Sh}, MixR b S w rs vs ps → ∀ (k : Nat) (c : Ctx) (m : Mem), c.S = S → WR base S0 w0 c m w → ps.Pairwise apartP → (∀ i ∈ mixI d k (mixL rs), m i = none) →
    (∀ i q, blockOf c m i = some q → ∀ p ∈ ps, (∃ e sz xs, p.1 = .own e sz xs) → p.2.ownBlock ≠ some q) →
    ∃ c', Goes c w m c' w (mixM d k (mixL rs) m) ∧ WR base S0 w0 c' (mixM d k (mixL rs) m) w ∧ F2 (VM c' w (mixM d k (mixL rs) m)) (mixV d k rs) vs := by
  intro rs vs ps S hM
  induction hM with
  | nil => intro k c m _ h _ _ _; exact ⟨c, Goes.refl _ _ _, h, F2.nil⟩
  | agg hF hM ih =>
    rename_i cs us rs vs ps
    intro k c m hS h hP hfree hap
    subst hS
    obtain ⟨p1, p2, p3⟩ := List.pairwise_append.1 hP
    simp only [mixL, mixI_append, List.mem_append] at hfree
    obtain ⟨c1, e0, g1, r1, v1, bl, ou⟩ := mixC_ok hbb cs us k c m h hF p1 (fun i hi => hfree i (.inl hi)) (fun i q hq p hp => hap i q hq p (List.mem_append.2 (.inl hp)))
    obtain ⟨c2, g2, r2, v2⟩ := ih (k + nOwn cs) c1 _ e0 r1 p2 (fun i hi => by
        rw [ou i fun hi' => by have := mixI_lt d cs k i hi'; have := mixI_ge d _ _ i hi; omega]
        exact hfree i (.inr hi)) (fun i q hq p hp ho => by
        rcases bl i q hq with hq | ⟨p', hp', ho', hq⟩
        · exact hap i q hq p (List.mem_append.2 (.inr hp)) ho
        · have := p3 p' hp' p hp
          obtain ⟨e1, s1, x1, f1⟩ := ho'
          obtain ⟨e2, s2, x2, f2⟩ := ho
          unfold apartP at this
          rw [f1, f2] at this
          exact this q hq)
    refine ⟨c2, ?_, ?_, ?_⟩
    · simp only [mixL, mixM_append]; exact g1.trans g2
    · simp only [mixL, mixM_append]; exact r2
    · simp only [mixL, mixM_append, mixV]
      exact F2.cons ⟨us, rfl, v1.mono fun x y _ h => h.goes g2⟩ v2
  | one hR hM ih =>
    rename_i r u rs vs ps
    intro k c m hS h hP hfree hap
    subst hS
    obtain ⟨p1, p2⟩ := List.pairwise_cons.1 hP
    simp only [mixL, mixI_append, List.mem_append] at hfree
    obtain ⟨c1, e0, g1, r1, v1, bl, ou⟩ := mixC_ok hbb [r] [u] k c m h (F2.cons hR F2.nil) (by simp) (fun i hi => hfree i (.inl hi)) (fun i q hq p hp => by
      simp at hp; subst hp
      exact hap i q hq _ (List.mem_cons_self ..))
    obtain ⟨c2, g2, r2, v2⟩ := ih (k + nOwn [r]) c1 _ e0 r1 p2 (fun i hi => by
        rw [ou i fun hi' => by have := mixI_lt d [r] k i hi'; have := mixI_ge d _ _ i hi; omega]
        exact hfree i (.inr hi)) (fun i q hq p hp ho => by
        rcases bl i q hq with hq | ⟨p', hp', ho', hq⟩
        · exact hap i q hq p (List.mem_cons_of_mem _ hp) ho
        · simp at hp'; subst hp'
          have := p1 p hp
          obtain ⟨e1, s1, x1, f1⟩ := ho'
          obtain ⟨e2, s2, x2, f2⟩ := ho
          unfold apartP at this
          simp only at f1
          rw [f1, f2] at this
          exact this q hq)
    refine ⟨c2, ?_, ?_, ?_⟩
    · simp only [mixL, mixM_append]; exact g1.trans g2
    · simp only [mixL, mixM_append]; exact r2
    · simp only [mixL, mixM_append, mixV]
      refine F2.cons ?_ v2
      obtain ⟨v', t, e, q1, q2⟩ : ∃ v' t, mixC d k [r] = v' :: t ∧ VA c1 w (mixM d k [r] m) v' u ∧ t = [] := by
        cases r with
        | c y => exact ⟨_, _, rfl, v1.2 0 _ _ rfl rfl, rfl⟩
        | own e sz xs => exact ⟨_, _, rfl, v1.2 0 _ _ rfl rfl, rfl⟩
      subst q2
      exact ⟨v', e, q1.goes g2⟩
theorem mixM_mrg {d : Nat} {ids : List Nat} : ∀ (l : List RE) (k : Nat) (X m : Mem), (∀ i ∈ mixI d k l, i ∈ ids) → mrg ids (mixM d k l X) m = mixM d k l (mrg ids X m) := by
  intro l
  induction l with
  | nil => intro k X m _; rfl
  | cons x l ih =>
    intro k X m hi
    cases x with
    | c y => exact ih k X m hi
    | own e sz xs =>
      have h1 : d + 1000 * k ∈ ids := hi _ (by simp [mixI])
      show mrg ids (mixM d (k + 1) l (upd X (d + 1000 * k) (some (.rows e sz xs)))) m = mixM d (k + 1) l (upd (mrg ids X m) (d + 1000 * k) (some (.rows e sz xs)))
      rw [ih (k + 1) _ m fun i h => hi i (by simp [mixI, h])]
      congr 1
      funext i
      unfold mrg
      by_cases e : i = d + 1000 * k
      · subst e; simp [hasN_iff.2 h1, upd_same]
      · simp only [upd_ne _ _ e]
theorem mrg_in {d : Nat} {ids : List Nat} {b : Option Blk} {m : Mem} (hd : d ∈ ids) : mrg ids (fun i => bif i == d then b else frz (only ids m) i) m = upd (mrg ids (frz m) m) d b := by
  funext i
  show (bif hasN ids i then (bif i == d then b else frz (only ids m) i) else m i) = if i = d then b else (bif hasN ids i then frz m i else m i)
  by_cases h : i = d
  · subst h; simp [hasN_iff.2 hd]
  · have h2 : (i == d) = false := by simpa using h
    simp only [h2, cond_false, if_neg h]
    cases hi : hasN ids i with
    | false => rfl
    | true =>
      show frzB (only ids m i) = frzB (m i)
      rw [only_in (hasN_iff.1 hi)]
theorem mrg_setBs {ids : List Nat} : ∀ {l : List (Nat × OC)} {X m : Mem}, (∀ i ∈ opnIds l, i ∈ ids) → mrg ids (setBs X l) m = setBs (mrg ids X m) l := by
  intro l
  induction l with
  | nil => intro X m _; rfl
  | cons p l ih =>
    intro X m h
    obtain ⟨b, cs⟩ := p
    have h1 : 1000000 + b ∈ ids := h _ (by simp [opnIds])
    show mrg ids (upd (setBs X l) (1000000 + b) (some cs.blk)) m = upd (setBs (mrg ids X m) l) (1000000 + b) (some cs.blk)
    rw [← ih fun i hi => h i (by simp [opnIds, hi])]
    funext i
    by_cases e : i = 1000000 + b
    · subst e
      show (bif hasN ids (1000000 + b) then _ else _) = _
      rw [hasN_iff.2 h1, upd_same, upd_same]
      rfl
    · show (bif hasN ids i then upd (setBs X l) (1000000 + b) (some cs.blk) i else m i) = upd (mrg ids (setBs X l) m) (1000000 + b) (some cs.blk) i
      rw [upd_ne _ _ e, upd_ne _ _ e]
      rfl
theorem call_ok {o : Oper} {f : FuncId} {fx : Operand} {pre post : List CA} {args : Array Operand} {ts : Array TypeId} {r : RV} (ho : o.op = .call { callee := .value fx, args, argTypes := ts })
    (hfx : ∀ {c : Ctx} {w : World} {a : Act}, Tm c w σ a → ∃ ps qs : List Value, a.eval fx = .func (.func f) ps.toArray qs.toArray ∧ F2 (RC c.S w) pre ps ∧ F2 (RC c.S w) post qs) : OpOK P o σ (rCall P o.dst f pre post (args.toList.map (ev σ)) r) := by
  intro ro base S0 w0 c a w K Q h1 h2 h3 h4
  unfold rCall at h3 h4
  simp only [Req.eff, Req.mem, cond_true] at h3 h4
  generalize hids : dstL o.dst ++ (ownIds ((args.toList.map (ev σ)).map AV.cells).flatten ++ resIds o.dst r) = ids at h3 h4
  have hsub : ∀ i ∈ ownIds ((args.toList.map (ev σ)).map AV.cells).flatten, i ∈ ids := fun i hi => by rw [← hids]; exact List.mem_append.2 (.inr (List.mem_append.2 (.inl hi)))
  have hopn : ∀ i ∈ opnIds (insOf r), i ∈ ids := fun i hi => by
    rw [← hids]
    refine List.mem_append.2 (.inr (List.mem_append.2 (.inr ?_)))
    cases r with
    | bx ins outs rs => exact hi
    | _ => simp [insOf, opnIds] at hi
  refine call_gen ho h1 h2 (hfx h1) hsub hopn h3.1 h3.2.1 h3.2.2 fun c' w' v g r1 hv hlt => ?_
  cases r with
  | bx ins outs rs =>
    simp only [callVal, callMem] at h4
    have hsub2 : ∀ i ∈ opnIds outs, i ∈ ids := fun i hi => by
      have := sameBs_ids h3.2.2.2
      rw [← this] at hi
      exact hopn i hi
    rw [mrg_setBs hsub2, mrg_only] at h4
    refine h4 c' w' v g r1 ?_
    have hv := hv.1
    match rs, hv with
    | [], hv => exact hv
    | [x], hv =>
      cases x with
      | one y => exact hv
      | agg cs => obtain ⟨vs, rfl, h⟩ := hv; exact ⟨vs, rfl, F2.map_left.2 h⟩
      | nil => exact hv
    | x :: y :: l, hv => exact hv
  | one x =>
    have g : Goes c w σ.m c' w' (mrg ids (frz σ.m) σ.m) := g
    have r1 : WR base S0 w0 c' (mrg ids (frz σ.m) σ.m) w' := r1
    simp only [callVal, callMem] at h4
    rw [mrg_only] at h4
    refine h4 c' w' v g r1 ?_
    cases x with
    | one y => exact hv
    | agg cs => obtain ⟨vs, rfl, h⟩ := hv; exact ⟨vs, rfl, F2.map_left.2 h⟩
    | nil => exact hv
  | tup rs =>
    have g : Goes c w σ.m c' w' (mrg ids (frz σ.m) σ.m) := g
    have r1 : WR base S0 w0 c' (mrg ids (frz σ.m) σ.m) w' := r1
    have hlt : ∀ i k, blockOf c' (mrg ids (frz σ.m) σ.m) i = some k → k < w.heap.size := hlt
    simp only [callVal, callMem] at h4
    rw [mrg_only] at h4
    exact h4 c' w' v g r1 hv
  | own e sz xs =>
    have g : Goes c w σ.m c' w' (mrg ids (frz σ.m) σ.m) := g
    have r1 : WR base S0 w0 c' (mrg ids (frz σ.m) σ.m) w' := r1
    have hlt : ∀ i k, blockOf c' (mrg ids (frz σ.m) σ.m) i = some k → k < w.heap.size := hlt
    cases hdst : o.dst with
    | none =>
      simp only [callVal, callMem, hdst] at h4
      rw [mrg_only] at h4
      exact h4 c' w' v g r1 trivial
    | some d =>
      have hd : d ∈ ids := by rw [← hids, hdst]; simp [dstL]
      simp only [callVal, callMem, hdst, only_in hd] at h4
      cases hm : σ.m d with
      | some b =>
        simp only [hm] at h4
        rw [mrg_only] at h4
        exact h4 c' w' v g r1 trivial
      | none =>
        simp only [hm] at h4
        rw [mrg_in hd] at h4
        have hd1 : mrg ids (frz σ.m) σ.m d = none := by
          unfold mrg
          rw [hasN_iff.2 hd]
          show frzB (σ.m d) = none
          rw [hm]; rfl
        obtain ⟨g2, r2, v2⟩ := r1.addRow hd1 h2.size (fun i k hik hvk => by have := hlt i k hik; have := (hv.2.2.2.2.choose_spec.2.lt k hvk).1; omega) hv
        exact h4 _ _ _ (g.trans g2) r2 v2
  | mix rs =>
    have g : Goes c w σ.m c' w' (mrg ids (frz σ.m) σ.m) := g
    have r1 : WR base S0 w0 c' (mrg ids (frz σ.m) σ.m) w' := r1
    have hlt : ∀ i k, blockOf c' (mrg ids (frz σ.m) σ.m) i = some k → k < w.heap.size := hlt
    cases hdst : o.dst with
    | none =>
      simp only [callVal, callMem, hdst] at h4
      rw [mrg_only] at h4
      exact h4 c' w' v g r1 trivial
    | some d =>
      obtain ⟨vs, ps, hM, hP, rfl⟩ := hv
      have hin : ∀ i ∈ mixI d 0 (mixL rs), i ∈ ids := fun i hi => by rw [← hids, hdst]; simp [resIds, hi]
      simp only [callVal, callMem, hdst] at h4
      cases hfb : freeAll (only ids σ.m) (mixI d 0 (mixL rs)) with
      | false =>
        rw [hfb] at h4
        simp only [cond_false] at h4
        rw [mrg_only] at h4
        exact h4 c' w' _ g r1 trivial
      | true =>
      rw [hfb] at h4
      simp only [cond_true] at h4
      have hfr : ∀ i ∈ mixI d 0 (mixL rs), mrg ids (frz σ.m) σ.m i = none := fun i hi => by
        have h5 := freeAll_mem (m := only ids σ.m) hfb i hi
        rw [only_in (hin i hi)] at h5
        unfold mrg
        rw [hasN_iff.2 (hin i hi)]
        show frzB (σ.m i) = none
        rw [h5]; rfl
      rw [mixM_mrg _ _ _ _ hin, mrg_only] at h4
      have hge : ∀ {rs : List (Bool × List RE)} {vs : List Value} {ps : List (RE × Value)}, MixR w.heap.size c'.S w' rs vs ps → ∀ p ∈ ps, (∃ e sz xs, p.1 = .own e sz xs) → ∀ k, p.2.ownBlock = some k → w.heap.size ≤ k := by
        intro rs vs ps hM
        have one : ∀ {r : RE} {u : Value}, RRE w.heap.size c'.S w' r u → (∃ e sz xs, r = .own e sz xs) → ∀ k, u.ownBlock = some k → w.heap.size ≤ k := by
          rintro r u h ⟨e, sz, xs, rfl⟩ k hk
          exact (h.2.2.2.2.choose_spec.2.lt k hk).1
        induction hM with
        | nil => intro p hp; simp at hp
        | agg hF hM ih =>
          intro p hp ho k hk
          rcases List.mem_append.1 hp with hp | hp
          · obtain ⟨i, hi, he⟩ := List.getElem_of_mem hp
            simp at he
            subst he
            simp at hi
            exact one (hF.2 i _ _ (List.getElem?_eq_getElem (by omega)) (List.getElem?_eq_getElem (by omega))) ho k hk
          · exact ih p hp ho k hk
        | one hR hM ih =>
          intro p hp ho k hk
          rcases List.mem_cons.1 hp with rfl | hp
          · exact one hR ho k hk
          · exact ih p hp ho k hk
      obtain ⟨c2, g2, r2, v2⟩ := mix_ok h2.size hM 0 c' _ rfl r1 hP hfr (fun i q hq p hp ho hk => by
        have := hge hM p hp ho q hk
        have := hlt i q hq
        omega)
      refine h4 _ _ _ (g.trans g2) r2 ?_
      clear hge hM hP hfr hin h4
      generalize mixV d 0 rs = ms at v2
      match ms, vs, v2 with
      | [], vs, v2 => rw [v2.unnil]; exact ⟨[], rfl, F2.nil⟩
      | [(true, cs)], vs, v2 =>
        obtain ⟨u, t, rfl, k1, k2⟩ := v2.uncons
        rw [k2.unnil]
        exact k1
      | [(false, cs)], vs, v2 =>
        obtain ⟨u, t, rfl, k1, k2⟩ := v2.uncons
        rw [k2.unnil]
        obtain ⟨a, rfl, k1⟩ := k1
        exact k1
      | x :: y :: l, vs, v2 =>
        have hl := v2.1
        have : valOf vs = .tuple vs.toArray := by
          match vs, hl with
          | _ :: _ :: _, _ => rfl
        exact ⟨vs, this, v2⟩
theorem yield_ok {o : Oper} {l : Nat} {fx : Operand} {args : Array Operand} {ts : Array TypeId} {ins outs : List (Nat × OC)} {rs : List CA} (ho : o.op = .call { callee := .value fx, args, argTypes := ts })
    {x0 : Value} (hfx : ev σ fx = .one (.c (.v x0))) (hy : yieldOf x0 = some l) : OpOK P o σ (rYield P o.dst l (args.toList.map (ev σ)) (.bx ins outs rs)) := by
  intro ro base S0 w0 c a w K Q h1 h2 h3 h4
  unfold rYield at h3 h4
  simp only [Req.eff, Req.mem, cond_true] at h3 h4
  generalize hids : dstL o.dst ++ (ownIds ((args.toList.map (ev σ)).map AV.cells).flatten ++ resIds o.dst (.bx ins outs rs)) = ids at h3 h4
  have hsub : ∀ i ∈ ownIds ((args.toList.map (ev σ)).map AV.cells).flatten, i ∈ ids := fun i hi => by rw [← hids]; exact List.mem_append.2 (.inr (List.mem_append.2 (.inl hi)))
  have hopn : ∀ i ∈ opnIds ins, i ∈ ids := fun i hi => by rw [← hids]; exact List.mem_append.2 (.inr (List.mem_append.2 (.inr hi)))
  have hfx' : a.eval fx = .func (.yield l) #[] #[] := by
    have hv := ev_ok h1 fx
    rw [hfx] at hv
    have hv : R c.S w (.v x0) (a.eval fx) := hv
    have : a.eval fx = x0 := by cases hv; rfl
    rw [this]
    exact yieldOf_eq hy
  refine yield_gen (r := .bx ins outs rs) ho h1 h2 hfx' hsub hopn h3.1 h3.2.1 h3.2.2 fun c' w' v g r1 hv hlt => ?_
  simp only [callVal, callMem] at h4
  have hsub2 : ∀ i ∈ opnIds outs, i ∈ ids := fun i hi => by
    have := sameBs_ids h3.2.2.2
    rw [← this] at hi
    exact hopn i hi
  rw [mrg_setBs hsub2, mrg_only] at h4
  refine h4 c' w' v g r1 ?_
  have hv := hv.1
  match rs, hv with
  | [], hv => exact hv
  | [x], hv =>
    cases x with
    | one y => exact hv
    | agg cs => obtain ⟨vs, rfl, h⟩ := hv; exact ⟨vs, rfl, F2.map_left.2 h⟩
    | nil => exact hv
  | x :: y :: l, hv => exact hv
theorem yield_okR {o : Oper} {l : Nat} {fx : Operand} {args : Array Operand} {ts : Array TypeId} {r : RV} (ho : o.op = .call { callee := .value fx, args, argTypes := ts })
    {x0 : Value} (hfx : ev σ fx = .one (.c (.v x0))) (hy : yieldOf x0 = some l) : OpOK P o σ (rYield P o.dst l (args.toList.map (ev σ)) r) := by
  cases r with
  | bx ins outs rs => exact yield_ok ho hfx hy
  | _ =>
    intro ro base S0 w0 c a w K Q h1 h2 h3 h4
    unfold rYield at h3
    obtain ⟨⟨rc, _, hm⟩, _⟩ := h3.2.1
    simp [insOf] at hm
end
end Go.Proofs.Ytgkfbikffcmmdaa.Abs
