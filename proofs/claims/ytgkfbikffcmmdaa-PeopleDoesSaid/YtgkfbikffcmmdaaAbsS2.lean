/- Each operation does what was said: values, addresses, numbers. -/
import Derived.Test.YtgkfbikffcmmdaaAbsS
set_option linter.unusedSimpArgs false
set_option linter.unusedVariables false
set_option maxRecDepth 100000
namespace Go.Proofs.Ytgkfbikffcmmdaa.Abs
open Go.RowKit
section
variable {P : Program} {c : Ctx} {w : World} {σ : St} {a : Act} {base : Nat} {S0 : Sh} {w0 : W0}

theorem R.val {S : Sh} {x v : Value} (h : R S w (.v x) v) : v = x := by cases h; rfl
theorem move_ok {o : Oper} {x : Operand} (ho : o.op = .move x ∨ o.op = .assign x) : OpOK P o σ (.val True (ev σ x)) :=
  OpOK.val fun base S0 w0 c a w h1 _ _ => ⟨a.eval x, by rcases ho with ho | ho <;> simp [execOp, ho], ev_ok h1 x⟩
theorem pick_ok {o : Oper} {b x y : Operand} {t : Bool} (ho : o.op = .pick b x y) (hb : ev σ b = .one (.c (.v (.bool t)))) : OpOK P o σ (.val True (bif t then ev σ x else ev σ y)) :=
  OpOK.val fun base S0 w0 c a w h1 _ _ => by
    have hv := ev_ok h1 b
    rw [hb] at hv
    have hb' : a.eval b = .bool t := R.val hv
    refine ⟨if t then a.eval x else a.eval y, by simp [execOp, ho, asBool, hb'], ?_⟩
    cases t
    · exact ev_ok h1 y
    · exact ev_ok h1 x
theorem cellsOf_ok {m : Mem} {x : AV} {v : Value} (h : VV c w m x v) (hx : x.flat = true) : ∃ vs : List Value, v.cells = vs.toArray ∧ F2 (VA c w m) x.cells vs := by
  cases x with
  | one y =>
    refine ⟨[v], ?_, F2.cons h F2.nil⟩
    have h1 := VA.one h
    cases v <;> first | rfl | (simp [Value.oneCell'] at h1)
  | agg cs =>
    obtain ⟨vs, rfl, h2⟩ := h
    exact ⟨vs, rfl, h2⟩
  | tup rs => simp [AV.flat] at hx
  | tupo rs => simp [AV.flat] at hx
  | junk => simp [AV.flat] at hx
theorem newRow_run {e : TypeId} {cells : Array Value} : (newRow e cells).run P w = .ok ⟨w.heap.size, 0, none⟩ (w.alloc (.cells cells e)) := rfl
theorem mrg_one {m : Mem} {id : Nat} {nw : Mem} {b : Option Blk} (hb : nw id = b) : mrg [id] nw m = upd m id b := by
  funext i
  unfold mrg upd hasN
  by_cases h : i = id
  · subst h; simp [hb]
  · have : (id == i) = false := by simpa using fun e => h e.symm
    simp [this, h, hasN]
theorem box_ok {o : Oper} {T : TypeId} {x : Operand} {d : Nat} (ho : o.op = .box T x) : OpOK P o σ ⟨[d], true, fun m => match m d with
      | none => ⟨(ev σ x).flat = true, .one (.ptr d 0), fun _ => some (.box (ev σ x).cells)⟩
      | some _ => ⟨False, .junk, fun _ => none⟩⟩ := by
  intro ro base S0 w0 c a w K Q h1 h2 h3 h4
  cases hm : σ.m d with
  | some b => simp only [Req.eff, only_same, hm] at h3
  | none =>
    simp only [Req.eff, Req.mem, only_same, hm, cond_true] at h3 h4
    obtain ⟨vs, q1, q2⟩ := cellsOf_ok (ev_ok h1 x) h3
    obtain ⟨g, r1, r2⟩ := h2.box hm T q2
    have hr : (execOp a.eval o).run P w = .ok (.value (.pointer (some ⟨w.heap.size, 0, none⟩))) (w.alloc (.cells vs.toArray T)) := by
      simp [execOp, ho, Instr.box, newVar, q1, newRow_run]
    refine wpo_run (hr) rfl ?_
    rw [mrg_one (b := some (.box (ev σ x).cells)) rfl] at h4
    exact h4 _ _ _ g r1 r2
theorem zero_ok {T : TypeId} {ti : TI} (ht : TIs P T ti) : ∃ (z : Value) (vs : List Value), (zeroValue T).run P w = .ok z w ∧ z.cells = vs.toArray ∧ ti.zero = vs.map ofCell ∧ ∀ v ∈ vs, okV v = true := by
  obtain ⟨i, d, z, hi, hd, hz, h1, rfl⟩ := ht
  exact ⟨z, z.cells.toList, by simp [zeroValue, typeInfo, hi, hz], by simp, rfl, List.all_eq_true.1 h1⟩
theorem ofCells_ok {m : Mem} {vs : List Value} (h : ∀ v ∈ vs, okV v = true) : F2 (VA c w m) (vs.map ofCell) vs := ⟨by simp, fun i x y hx hy => by
  simp only [List.getElem?_map, Option.map_eq_some_iff] at hx
  obtain ⟨z, hz, rfl⟩ := hx
  rw [hz] at hy
  cases hy
  exact ofCell_ok (h _ (List.mem_of_getElem? hz))⟩
theorem alloc_ok {o : Oper} {T : TypeId} {ti : TI} {d : Nat} (ho : o.op = .alloc T) (ht : TIs P T ti) : OpOK P o σ ⟨[d], true, fun m => match m d with
      | none => ⟨True, .one (.ptr d 0), fun _ => some (.box ti.zero)⟩
      | some _ => ⟨False, .junk, fun _ => none⟩⟩ := by
  intro ro base S0 w0 c a w K Q h1 h2 h3 h4
  cases hm : σ.m d with
  | some b => simp only [Req.eff, only_same, hm] at h3
  | none =>
    simp only [Req.eff, Req.mem, only_same, hm, cond_true] at h3 h4
    obtain ⟨z, vs, q1, q2, q3, q4⟩ := zero_ok (w := w) ht
    have q5 : F2 (VA c w σ.m) ti.zero vs := by rw [q3]; exact ofCells_ok q4
    obtain ⟨g, r1, r2⟩ := h2.box hm T q5
    have hr : (execOp a.eval o).run P w = .ok (.value (.pointer (some ⟨w.heap.size, 0, none⟩))) (w.alloc (.cells vs.toArray T)) := by
      simp [execOp, ho, Instr.alloc, newVar, q1, q2, newRow_run]
    refine wpo_run (hr) rfl ?_
    rw [mrg_one (b := some (.box ti.zero)) rfl] at h4
    exact h4 _ _ _ g r1 r2
theorem splice_ok {α β : Type} {Q : α → β → Prop} {cs us : List α} {vs ts : List β} (h : F2 Q cs vs) (k : F2 Q us ts) (off : Nat) : F2 Q (splice cs off us) (vs.take off ++ ts ++ vs.drop (off + ts.length)) := by
  unfold splice
  rw [← k.1]
  exact ((h.take off).append k).append (h.drop _)
theorem storeBox_ok {o : Oper} {T : TypeId} {x u : Operand} (ho : o.op = .store T x u) (hpel : ∀ id n i off, ev σ x = .one (.pel id n i off) → OpOK P o σ (rStore P T (.one (.pel id n i off)) (ev σ u)))
    (hopen : ∀ x0, ev σ x = .one (.c (.v x0)) → OpOK P o σ (rStore P T (.one (.c (.v x0))) (ev σ u))) : OpOK P o σ (rStore P T (ev σ x) (ev σ u)) := by
  unfold rStore at hpel hopen ⊢
  cases ht : tinfo P T with
  | none => exact OpOK.bad
  | some ti =>
    rw [ht] at hpel hopen
    obtain ⟨i, d, z, hi, hd, hz, _, rfl⟩ := tinfo_is ht
    simp only at hpel hopen ⊢
    cases hx : ev σ x with
    | one y =>
      cases y with
      | ptr id off =>
        intro ro base S0 w0 c a w K Q h1 h2 h3 h4
        have hv := ev_ok h1 x
        rw [hx] at hv
        obtain ⟨hbx, hp⟩ := hv
        obtain ⟨cs, hm⟩ : ∃ cs, σ.m id = some (.box cs) := by
          rcases hbx with h | ⟨cs, hm⟩ | ⟨_, _, _, hm⟩ | ⟨_, _, _, hm⟩ | ⟨cs, hm⟩ | ⟨_, hm⟩
          · exact h
          all_goals simp only [Req.eff, only_same, hm] at h3
        simp only [Req.eff, Req.mem, only_same, hm, cond_true] at h3 h4
        obtain ⟨e1, e2, e3⟩ := h3
        obtain ⟨ts, q1, q2⟩ := cellsOf_ok (ev_ok h1 u) e1
        obtain ⟨b1, b2, vs, TT, b3, b4⟩ := h2.blk id _ hm
        have hl : ts.length = i.size := by rw [← q2.1]; exact e2
        have hst := run_storeCells_at P (c.φ id) off TT ts 0 vs.toArray w b3 (by have := b4.1; have := q2.1; simp; omega) (fun v hv => by
          obtain ⟨j, hj, rfl⟩ := List.getElem_of_mem hv
          obtain ⟨xx, _, hq⟩ := q2.get' (List.getElem?_eq_getElem hj)
          exact VA.one hq)
        obtain ⟨g, r1⟩ := h2.setBox hm (splice_ok b4 q2 off)
        have hr : (execOp a.eval o).run P w = .ok .skip (w.setRow (c.φ id) (vs.take off ++ ts ++ vs.drop (off + ts.length)).toArray) := by
          simp only [Nat.add_zero] at hst
          simp [execOp, ho, Instr.storeAt, Instr.sureAddr, hp, storeVar, q1, run_sizeOf hi, hl, hst]
        refine wpo_run (hr) rfl ?_
        rw [mrg_one (b := some (.box (splice cs off (ev σ u).cells))) rfl] at h4
        exact h4 _ _ undef g r1 trivial
      | el k cs off => exact OpOK.bad
      | pel id n i off => exact hpel id n i off hx
      | c y =>
        cases y with
        | v x0 => exact hopen x0 hx
        | _ => exact OpOK.bad
      | own id n => exact OpOK.bad
      | mp id => exact OpOK.bad
      | full k xs => exact OpOK.bad
      | nil => exact OpOK.bad
      | bare => exact OpOK.bad
      | any => exact OpOK.bad
    | agg cs => exact OpOK.bad
    | tup rs => exact OpOK.bad
    | tupo rs => exact OpOK.bad
    | junk => exact OpOK.bad
theorem nolist {fs : Array Field} {k : Knd} (h : k = kndOf P (.struct fs)) (hk : ∀ l, k ≠ .struct l) : k = .other := by
  simp only [kndOf] at h
  cases hb : fs.toList.all (fun f => (P.info? f.type).isSome && (P.underlying f.type).isSome) with
  | false => rw [hb] at h; exact h
  | true => rw [hb] at h; exact absurd h (hk _)
theorem noslice {e : TypeId} {k : Knd} (h : k = kndOf P (.slice e)) (hk : ∀ a b, k ≠ .slice a b) : k = .other := by
  simp only [kndOf] at h
  cases hi : P.info? e with
  | none => simp only [hi] at h; exact h
  | some ie =>
    cases hz : ie.zero with
    | none => simp only [hi, hz] at h; exact h
    | some z =>
      simp only [hi, hz] at h
      cases hb : (decide (ie.bytes ≤ 131072) && decide (z.cells.size = ie.size) && decide (0 < ie.size) && z.cells.toList.all okV) with
      | false => rw [hb] at h; exact h
      | true => rw [hb] at h; exact absurd h (hk _ _)
theorem field_shape {T : TypeId} {a b : Nat} {g : Bool} {zz : List A} {fs : List (Nat × Nat × Bool)} (ht : tinfo P T = some ⟨a, b, g, zz, .struct fs⟩) :
    ∃ fields : Array Field, P.underlying T = some (.struct fields) ∧ fs = fields.toList.map (fldOf P) ∧ ∀ f ∈ fields.toList, (P.info? f.type).isSome = true ∧ (P.underlying f.type).isSome = true := by
  obtain ⟨i, d, z, hi, hd, hz, _, he⟩ := tinfo_is ht
  simp only [TI.mk.injEq] at he
  obtain ⟨_, _, _, _, hk⟩ := he
  cases d with
  | slice e' => have := noslice hk (by intro a b e; simp at e); simp at this
  | struct fields =>
    simp only [kndOf] at hk
    cases hb : fields.toList.all (fun f => (P.info? f.type).isSome && (P.underlying f.type).isSome) with
    | false => rw [hb] at hk; simp at hk
    | true =>
      rw [hb] at hk
      simp only [cond_true, Knd.struct.injEq] at hk
      exact ⟨fields, hd, hk, fun f hf => by simpa using List.all_eq_true.1 hb f hf⟩
  | _ => simp [kndOf] at hk
theorem fieldAt_run {T : TypeId} {fields : Array Field} {f : Nat} {o sz : Nat} {ag : Bool} (hd : P.underlying T = some (.struct fields)) (hf : (fields.toList.map (fldOf P))[f]? = some (o, sz, ag)) (hs : sz ≠ 0) (p : Nat) (off : Nat) :
    (Instr.fieldAt T (.pointer (some ⟨p, off, none⟩)) f).run P w = .ok (.pointer (some ⟨p, off + o, none⟩)) w := by
  simp only [List.getElem?_map, Option.map_eq_some_iff] at hf
  obtain ⟨fd, hf1, hf2⟩ := hf
  simp only [fldOf, Prod.mk.injEq] at hf2
  obtain ⟨rfl, hsz, _⟩ := hf2
  have hf1' : fields[f]? = some fd := by simpa using hf1
  have hsz' : P.cellsOf fd.type ≠ 0 := by rw [hsz]; exact hs
  unfold Program.cellsOf at hsz'
  cases hi : P.info? fd.type with
  | none => simp [hi] at hsz'
  | some i =>
    simp [hi] at hsz'
    simp [Instr.fieldAt, run_underlying hd, hf1', Instr.sureAddr, fieldPlace, run_sizeOf hi, hsz', add_row]
theorem fieldAddr_ok {o : Oper} {T : TypeId} {x : Operand} {f : Nat} (ho : o.op = .fieldAddr T x f) : OpOK P o σ (rField P T (ev σ x) f) := by
  unfold rField
  split
  · rename_i s1 s2 s3 s4 fs ht
    obtain ⟨fields, hd, rfl, _⟩ := field_shape ht
    split
    · rename_i off sz ag id o2 hf hx
      refine OpOK.val fun base S0 w0 c a w h1 h2 h3 => ?_
      have hv := ev_ok h1 x
      rw [hx] at hv
      obtain ⟨hb, hp⟩ := hv
      exact ⟨_, by simp [execOp, ho, hp, fieldAt_run hd hf h3], hb, rfl⟩
    · rename_i off sz ag k cs o2 hf hx
      refine OpOK.val fun base S0 w0 c a w h1 h2 h3 => ?_
      have hv := ev_ok h1 x
      rw [hx] at hv
      obtain ⟨b, o', vs, hp, q⟩ := hv
      exact ⟨_, by simp [execOp, ho, hp, fieldAt_run hd hf h3]; rfl, b, o', vs, by rw [Nat.add_assoc], q⟩
    · rename_i off sz ag k cs o2 hf hx
      refine OpOK.val fun base S0 w0 c a w h1 h2 h3 => ?_
      have hv := ev_ok h1 x
      rw [hx] at hv
      have hv : R c.S w (.ptrc k cs o2) (a.eval x) := hv
      generalize hq : a.eval x = p at hv
      cases hv with
      | ptr k1 k2 k3 k4 =>
        rename_i b o' vs
        exact ⟨_, by simp [execOp, ho, hq, fieldAt_run hd hf h3]; rfl, b, o', vs, by rw [Nat.add_assoc], k1, ⟨k2, k4⟩, k3⟩
    · rename_i off sz ag id n i o2 hf hx
      refine OpOK.same rfl fun base S0 w0 c a w h1 h2 h3 => ?_
      have hv := ev_ok h1 x
      rw [hx] at hv
      simp only [Req.eff, Req.read, rowsOf_only] at h3 ⊢
      obtain ⟨⟨ad, hp⟩, L, hL, hn, hq⟩ := hv
      cases hm : rowsOf σ.m id with
      | none => rw [hm] at h3; exact h3.elim
      | some t =>
        obtain ⟨e, sz2, xs⟩ := t
        simp only [hm] at h3 ⊢
        obtain ⟨p0, _⟩ := rows_blk h2 hm
        have hL' : xs.length = L := by rw [p0] at hL; exact Option.some.inj hL
        obtain ⟨g, cap, q1, q2⟩ := hq (by omega) e sz2 xs hm
        refine ⟨_, by simp [execOp, ho, q2, fieldAt_run hd hf h3.2]; rfl, ⟨_, rfl⟩, L, hL, hn, fun e' e2 sz3 xs3 hm3 => ?_⟩
        rw [hm] at hm3
        cases hm3
        exact ⟨g, cap, q1, by rw [Nat.add_assoc]⟩
    · rename_i off sz ag x0 hf hx
      split
      · rename_i b o2 hraw
        refine OpOK.val fun base S0 w0 c a w h1 h2 h3 => ?_
        have hv := ev_ok h1 x
        rw [hx] at hv
        have hp : a.eval x = .pointer (some ⟨b, o2, none⟩) := by rw [R.val hv]; exact rawP_eq hraw
        exact ⟨_, by simp [execOp, ho, hp, fieldAt_run hd hf h3], R.v rfl⟩
      · exact OpOK.bad
    · exact OpOK.bad
  · exact OpOK.bad
theorem extract_ok {o : Oper} {x : Operand} {i : Nat} {rs : List CA} {u : CA} (ho : o.op = .extract x i) (hx : ev σ x = .tup rs) (hi : rs[i]? = some u) : OpOK P o σ (.val True u.av) :=
  OpOK.val fun base S0 w0 c a w h1 h2 h3 => by
    have hv := ev_ok h1 x
    rw [hx] at hv
    obtain ⟨vs, hp, hq⟩ := hv
    obtain ⟨v, hv1, hv2⟩ := hq.get hi
    refine ⟨v, by simp [execOp, ho, Instr.extract, hp, hv1], ?_⟩
    cases u with
    | one y => exact hv2
    | agg cs => obtain ⟨us, rfl, hus⟩ := hv2; exact ⟨us, rfl, F2.map_left.2 hus⟩
    | nil => exact hv2
theorem extract_mix {o : Oper} {x : Operand} {i : Nat} {rs : List (Bool × List A)} {u : Bool × List A} (ho : o.op = .extract x i) (hx : ev σ x = .tupo rs) (hi : rs[i]? = some u) : OpOK P o σ (.val True (avM u)) :=
  OpOK.val fun base S0 w0 c a w h1 h2 h3 => by
    have hv := ev_ok h1 x
    rw [hx] at hv
    obtain ⟨vs, hp, hq⟩ := hv
    obtain ⟨v, hv1, hv2⟩ := hq.get hi
    refine ⟨v, by simp [execOp, ho, Instr.extract, hp, hv1], ?_⟩
    obtain ⟨b, cs⟩ := u
    cases b with
    | true => exact hv2
    | false => obtain ⟨y, rfl, h⟩ := hv2; exact h
theorem slice_shape {T : TypeId} {a b : Nat} {g : Bool} {zz : List A} {e esz : Nat} (ht : tinfo P T = some ⟨a, b, g, zz, .slice e esz⟩) :
    P.underlying T = some (.slice e) ∧ ∃ ie z, P.info? e = some ie ∧ ie.zero = some z ∧ ie.size = esz ∧ ie.bytes ≤ 131072 ∧ z.cells.size = esz ∧ 0 < esz ∧ ∀ v ∈ z.cells.toList, okV v = true := by
  obtain ⟨i, d, z, hi, hd, hz, _, he⟩ := tinfo_is ht
  simp only [TI.mk.injEq] at he
  obtain ⟨_, _, _, _, hk⟩ := he
  cases d with
  | slice e' =>
    simp only [kndOf] at hk
    cases hie : P.info? e' with
    | none => simp [hie] at hk
    | some ie =>
      cases hz' : ie.zero with
      | none => simp [hie, hz'] at hk
      | some z' =>
        simp only [hie, hz'] at hk
        cases hb : (decide (ie.bytes ≤ 131072) && decide (z'.cells.size = ie.size) && decide (0 < ie.size) && z'.cells.toList.all okV) with
        | false => rw [hb] at hk; simp at hk
        | true =>
          rw [hb] at hk
          simp only [cond_true, Knd.slice.injEq] at hk
          obtain ⟨rfl, rfl⟩ := hk
          simp only [Bool.and_eq_true, decide_eq_true_eq] at hb
          obtain ⟨⟨⟨h1, h2⟩, h3⟩, h4⟩ := hb
          exact ⟨hd, ie, z', hie, hz', rfl, h1, h2, h3, List.all_eq_true.1 h4⟩
  | struct fs => simp only [kndOf] at hk; cases hb : fs.toList.all (fun f => (P.info? f.type).isSome && (P.underlying f.type).isSome) <;> simp [hb] at hk
  | _ => simp [kndOf] at hk
theorem arr_shape {T : TypeId} {a b : Nat} {g : Bool} {zz : List A} {n e esz : Nat} (ht : tinfo P T = some ⟨a, b, g, zz, .arr n e esz⟩) : P.underlying T = some (.array n e) ∧ P.cellsOf e = esz := by
  obtain ⟨i, d, z, hi, hd, hz, _, he⟩ := tinfo_is ht
  simp only [TI.mk.injEq] at he
  obtain ⟨_, _, _, _, hk⟩ := he
  cases d with
  | slice e' => have := noslice hk (by intro a b e; simp at e); simp at this
  | struct fs => have := nolist hk (by intro l e; simp at e); simp at this
  | array n' e' => simp only [kndOf, Knd.arr.injEq] at hk; obtain ⟨rfl, rfl, h2⟩ := hk; exact ⟨hd, h2.symm⟩
  | _ => simp [kndOf] at hk
theorem str_shape {T : TypeId} {a b : Nat} {g : Bool} {zz : List A} (ht : tinfo P T = some ⟨a, b, g, zz, .str⟩) : P.underlying T = some .string := by
  obtain ⟨i, d, z, hi, hd, hz, _, he⟩ := tinfo_is ht
  simp only [TI.mk.injEq] at he
  obtain ⟨_, _, _, _, hk⟩ := he
  cases d with
  | slice e' => have := noslice hk (by intro a b e; simp at e); simp at this
  | struct fs => have := nolist hk (by intro l e; simp at e); simp at this
  | string => exact hd
  | _ => simp [kndOf] at hk
theorem int_shape {T : TypeId} {a b : Nat} {g : Bool} {zz : List A} {k : IntKind} (ht : tinfo P T = some ⟨a, b, g, zz, .int k⟩) : P.underlying T = some (.int k) := by
  obtain ⟨i, d, z, hi, hd, hz, _, he⟩ := tinfo_is ht
  simp only [TI.mk.injEq] at he
  obtain ⟨_, _, _, _, hk⟩ := he
  cases d with
  | slice e' => have := noslice hk (by intro a b e; simp at e); simp at this
  | struct fs => have := nolist hk (by intro l e; simp at e); simp at this
  | int k' => simp only [kndOf, Knd.int.injEq] at hk; subst hk; exact hd
  | _ => simp [kndOf] at hk
theorem bool_shape {T : TypeId} {a b : Nat} {g : Bool} {zz : List A} (ht : tinfo P T = some ⟨a, b, g, zz, .bool⟩) : P.underlying T = some .bool := by
  obtain ⟨i, d, z, hi, hd, hz, _, he⟩ := tinfo_is ht
  simp only [TI.mk.injEq] at he
  obtain ⟨_, _, _, _, hk⟩ := he
  cases d with
  | slice e' => have := noslice hk (by intro a b e; simp at e); simp at this
  | struct fs => have := nolist hk (by intro l e; simp at e); simp at this
  | bool => exact hd
  | _ => simp [kndOf] at hk
theorem info_of_cells {t : TypeId} (h : P.cellsOf t ≠ 0) : ∃ i, P.info? t = some i ∧ i.size = P.cellsOf t := by
  unfold Program.cellsOf at h ⊢
  cases hi : P.info? t with
  | none => simp [hi] at h
  | some i => exact ⟨i, rfl, by simp⟩
theorem indexAt_run {T e : TypeId} {b o len cap : Nat} {k : IntKind} {i : Int} (hd : P.underlying T = some (.slice e)) {ie : TypeInfo} (hi : P.info? e = some ie) (h0 : 0 ≤ i) (hl : i.toNat < len) :
    (Instr.indexAt T (.slice (some ⟨b, o, none⟩) len cap) (.int k i)).run P w = .ok (.pointer (some ⟨b, o + i.toNat * ie.size, none⟩)) w := by
  have h1 : i < (len : Int) := by omega
  simp [Instr.indexAt, asIntOf, run_underlying hd, h0, h1, run_sizeOf hi, add_row]
theorem indexAtArr_run {T e : TypeId} {b o len : Nat} {k : IntKind} {i : Int} (hd : P.underlying T = some (.array len e)) {ie : TypeInfo} (hi : P.info? e = some ie) (h0 : 0 ≤ i) (hl : i.toNat < len) :
    (Instr.indexAt T (.pointer (some ⟨b, o, none⟩)) (.int k i)).run P w = .ok (.pointer (some ⟨b, o + i.toNat * ie.size, none⟩)) w := by
  have h1 : i < (len : Int) := by omega
  simp [Instr.indexAt, Instr.sureAddr, asIntOf, run_underlying hd, h0, h1, run_sizeOf hi, add_row]
theorem rowsOf_rows {m : Mem} {id : Nat} {e : TypeId} {sz : Nat} {xs : List (List CV)} (h : m id = some (.rows e sz xs)) : rowsOf m id = some (e, sz, xs) := by simp only [rowsOf, h]
theorem rowsOf_lent {m : Mem} {id j : Nat} {e : TypeId} {sz : Nat} {xs : List (List CV)} (h : m id = some (.lent j e sz xs)) : rowsOf m id = some (e, sz, xs) := by simp only [rowsOf, h]
theorem row_at {S : Sh} {k : Nat} {xs : List (List CV)} {v : Value} (h : R S w (.rowc k xs) v) {i : Int} (hi : i.toNat < xs.length) :
    ∃ b o cap vs, v = .slice (some ⟨b, o, none⟩) xs.length cap ∧ S k b ∧ F2 (R S w) (xs.getD i.toNat []) vs ∧ Holds w b (o + i.toNat * (xs.getD i.toNat []).length) vs := by
  have hxi : xs[i.toNat]? = some (xs.getD i.toNat []) := by simp [List.getD, hi]
  obtain ⟨b, o, cap, h1, h2, _, vs, h3, h4⟩ := h.elem hxi
  exact ⟨b, o, cap, vs, h1, h2, h3, h4⟩
theorem index_ok {o : Oper} {T : TypeId} {x i : Operand} (ho : o.op = .indexAddr T x i) : OpOK P o σ (rIndex P T (ev σ x) (ev σ i)) := by
  have hint : ∀ {c : Ctx} {a : Act} {w : World} {k : IntKind} {n : Int}, Tm c w σ a → ev σ i = .one (.c (.v (.int k n))) → a.eval i = .int k n := fun h1 he => by
    have hv := ev_ok h1 i
    rw [he] at hv
    exact R.val hv
  unfold rIndex
  split
  · rename_i s1 s2 s3 s4 e esz ht
    obtain ⟨hd, ie, ze, hie, hze, hc, hby, hzs, hpos, hz1⟩ := slice_shape ht
    have row : ∀ {c : Ctx} {a : Act} {w : World} {j : Nat} {xs : List (List CV)} {k : IntKind} {n : Int} {v : Value}, Tm c w σ a → a.eval x = v → R c.S w (.rowc j xs) v → a.eval i = .int k n → (0 ≤ n ∧ n.toNat < xs.length ∧ (xs.getD n.toNat []).length = esz ∧ esz ≠ 0) →
        ∃ v, (execOp a.eval o).run P w = .ok (.value v) w ∧ VV c w σ.m (.one (.el j (xs.getD n.toNat []) 0)) v := fun {c a w j xs k n v} h1 hx hr hi h3 => by
      obtain ⟨b, o', cap, vs, rfl, q1, q2, q3⟩ := row_at hr h3.2.1
      refine ⟨_, by simp [execOp, ho, hx, hi, indexAt_run hd hie h3.1 h3.2.1]; rfl, b, o' + n.toNat * ie.size, vs, by rw [Nat.add_zero], q1, q2, ?_⟩
      rw [hc, ← h3.2.2.1]
      exact q3
    split
    · rename_i j xs k n hx hi
      refine OpOK.val fun base S0 w0 c a w h1 h2 h3 => ?_
      have hv := ev_ok h1 x
      rw [hx] at hv
      exact row h1 rfl hv (hint h1 hi) h3
    · rename_i j xs k n hx hi
      refine OpOK.val fun base S0 w0 c a w h1 h2 h3 => ?_
      have hv := ev_ok h1 x
      rw [hx] at hv
      obtain ⟨ad, _, hv⟩ := hv
      exact row h1 rfl hv (hint h1 hi) h3
    · rename_i id n k j hx hi
      refine OpOK.same rfl fun base S0 w0 c a w h1 h2 h3 => ?_
      have hv := ev_ok h1 x
      rw [hx] at hv
      obtain ⟨_, L, hL, hn, hq⟩ := hv
      have pel : ∀ {e' : TypeId} {sz : Nat} {xs : List (List CV)}, rowsOf σ.m id = some (e', sz, xs) → (xs.length = n ∧ 0 ≤ j ∧ j.toNat < xs.length ∧ sz = esz) → ∃ v, (execOp a.eval o).run P w = .ok (.value v) w ∧ VV c w σ.m (.one (.pel id n j.toNat 0)) v := fun {e' sz xs} hm h3 => by
        obtain ⟨e1, e2, e3, e4⟩ := h3
        obtain ⟨p0, p1, p2, p3, vss, p5, p6⟩ := rows_blk h2 hm
        have hL' : xs.length = L := by rw [p0] at hL; exact Option.some.inj hL
        have hpsi := hq (by omega)
        rcases p6.2 with ⟨_, h0⟩ | ⟨g, cap, cur, f1, _⟩
        · omega
        · refine ⟨_, by rw [f1] at hpsi; simp [execOp, ho, hpsi, hint h1 hi, indexAt_run hd hie e2 e3]; rfl, ⟨_, rfl⟩, L, hL, hn, fun _ e2 sz2 xs2 hm2 => ?_⟩
          rw [hm] at hm2
          cases hm2
          exact ⟨g, cap, by rw [f1, e1], by rw [hc, e4]; rfl⟩
      cases hm : σ.m id with
      | none => simp [rowLen, hm] at hL
      | some blk =>
        simp only [Req.eff, Req.read, only_same, hm] at h3 ⊢
        cases blk with
        | box cs => exact h3.elim
        | gone L => exact h3.elim
        | froz xs =>
          simp only at h3 ⊢
          have hL' : xs.length = L := by simpa [rowLen, hm] using hL
          exact row h1 (hq (by omega)) (h2.blk id _ hm) (hint h1 hi) h3.2
        | fbox cs => exact h3.elim
        | obox cs => exact h3.elim
        | orec r => exact h3.elim
        | mapb a ks xs => exact h3.elim
        | fmap a ks xs => exact h3.elim
        | rows e' sz xs =>
          simp only at h3 ⊢
          exact pel (rowsOf_rows hm) h3
        | lent j e' sz xs =>
          simp only at h3 ⊢
          exact pel (rowsOf_lent hm) h3
    · exact OpOK.bad
  · rename_i s1 s2 s3 s4 len e esz ht
    obtain ⟨hd, hc⟩ := arr_shape ht
    split
    · rename_i id off k j hx hi
      refine OpOK.val fun base S0 w0 c a w h1 h2 h3 => ?_
      have hv := ev_ok h1 x
      rw [hx] at hv
      obtain ⟨hb, hp⟩ := hv
      obtain ⟨e1, e2, e3⟩ := h3
      obtain ⟨ie, hie, hse⟩ := info_of_cells (P := P) (t := e) (by rw [hc]; exact e3)
      exact ⟨_, by simp [execOp, ho, hp, hint h1 hi, indexAtArr_run hd hie e1 e2]; rfl, hb, by rw [hse, hc]⟩
    · rename_i q cs off k j hx hi
      refine OpOK.val fun base S0 w0 c a w h1 h2 h3 => ?_
      have hv := ev_ok h1 x
      rw [hx] at hv
      obtain ⟨b, o', vs, hp, q1, q2, q3⟩ := hv
      obtain ⟨e1, e2, e3⟩ := h3
      obtain ⟨ie, hie, hse⟩ := info_of_cells (P := P) (t := e) (by rw [hc]; exact e3)
      refine ⟨_, by simp [execOp, ho, hp, hint h1 hi, indexAtArr_run hd hie e1 e2]; rfl, b, o', vs, ?_, q1, q2, q3⟩
      rw [hse, hc, Nat.add_assoc]
    · rename_i q cs off k j hx hi
      refine OpOK.val fun base S0 w0 c a w h1 h2 h3 => ?_
      have hv := ev_ok h1 x
      rw [hx] at hv
      have hv : R c.S w (.ptrc q cs off) (a.eval x) := hv
      generalize hax : a.eval x = v at hv
      cases hv with
      | ptr p1 p2 p3 p4 =>
        obtain ⟨e1, e2, e3⟩ := h3
        obtain ⟨ie, hie, hse⟩ := info_of_cells (P := P) (t := e) (by rw [hc]; exact e3)
        refine ⟨_, by simp [execOp, ho, hax, hint h1 hi, indexAtArr_run hd hie e1 e2]; rfl, _, _, _, ?_, p1, ⟨p2, p4⟩, p3⟩
        rw [hse, hc, Nat.add_assoc]
    · rename_i x0 k j hx hi
      split
      · rename_i b o2 hraw
        refine OpOK.val fun base S0 w0 c a w h1 h2 h3 => ?_
        have hv := ev_ok h1 x
        rw [hx] at hv
        have hp : a.eval x = .pointer (some ⟨b, o2, none⟩) := by rw [R.val hv]; exact rawP_eq hraw
        obtain ⟨e1, e2, e3⟩ := h3
        obtain ⟨ie, hie, hse⟩ := info_of_cells (P := P) (t := e) (by rw [hc]; exact e3)
        exact ⟨_, by simp [execOp, ho, hp, hint h1 hi, indexAtArr_run hd hie e1 e2]; rfl, by rw [hse, hc]; exact R.v rfl⟩
      · exact OpOK.bad
    · exact OpOK.bad
  · exact OpOK.bad
end
end Go.Proofs.Ytgkfbikffcmmdaa.Abs
