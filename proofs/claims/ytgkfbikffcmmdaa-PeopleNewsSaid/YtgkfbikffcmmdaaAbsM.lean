/- Each operation does what was said: maps. -/
import Derived.Test.YtgkfbikffcmmdaaAbsS9
set_option linter.unusedSimpArgs false
set_option linter.unusedVariables false
set_option maxRecDepth 100000
namespace Go.Proofs.Ytgkfbikffcmmdaa.Abs
open Go.RowKit
section
variable {P : Program} {c : Ctx} {w : World} {σ : St} {a : Act} {base : Nat} {S0 : Sh} {w0 : W0}

theorem map_shape {T : TypeId} {q : IntKind} {e : TypeId} (h : mapTI P T = some (q, e)) : ∃ k, P.underlying T = some (.map k e) ∧ P.underlying k = some (.int q) ∧ ∃ i d z, P.info? e = some i ∧ P.underlying e = some d ∧ i.zero = some z ∧ isAggV z = isAggD d := by
  unfold mapTI at h
  split at h
  · rename_i k e' hT
    split at h
    · rename_i q' hk
      split at h
      · rename_i i hi
        split at h
        · rename_i d hd
          split at h
          · rename_i z hz
            cases hb : (isAggV z == isAggD d) with
            | false => rw [hb] at h; simp at h
            | true =>
              rw [hb] at h
              simp only [cond_true, Option.some.injEq, Prod.mk.injEq] at h
              obtain ⟨rfl, rfl⟩ := h
              exact ⟨k, hT, hk, i, d, z, hi, hd, hz, by simpa using hb⟩
          · simp at h
        · simp at h
      · simp at h
    · simp at h
  · simp at h
theorem keyIx_at {n : Int} : ∀ {ks : List Value} {i p : Nat}, keyIx n ks i = some p → i ≤ p ∧ ∃ j, ks[p - i]? = some (.int j n) := by
  intro ks
  induction ks with
  | nil => intro i p h; simp [keyIx] at h
  | cons k l ih =>
    intro i p h
    have next : keyIx n l (i + 1) = some p → i ≤ p ∧ ∃ j, (k :: l)[p - i]? = some (.int j n) := fun h => by
      obtain ⟨h1, h2⟩ := ih h
      refine ⟨by omega, ?_⟩
      rw [show p - i = (p - (i + 1)) + 1 by omega, List.getElem?_cons_succ]
      exact h2
    cases k with
    | int j b =>
      simp only [keyIx] at h
      cases hb : (n == b) with
      | false => rw [hb] at h; exact next h
      | true =>
        rw [hb] at h
        simp only [cond_true, Option.some.injEq] at h
        subst h
        have : n = b := by simpa using hb
        subst this
        exact ⟨Nat.le_refl _, j, by simp⟩
    | _ => exact next (by simpa only [keyIx] using h)
theorem findNow_ok {q : IntKind} {n : Int} : ∀ (es : List MapEntry) (i : Nat), keysK q (es.map (·.key)) = true → Instr.findNow (.int q) (.int q n) es i = some ((keyIx n (es.map (·.key)) i).map fun p => (p, ((es.map (·.val)).getD (p - i) undef))) := by
  intro es
  induction es with
  | nil => intro i _; rfl
  | cons e l ih =>
    intro i h
    obtain ⟨key, val, born⟩ := e
    cases key with
    | int j b =>
      simp only [List.map_cons, keysK, Bool.and_eq_true, decide_eq_true_eq] at h
      obtain ⟨rfl, h⟩ := h
      simp only [List.map_cons, Instr.findNow, Instr.sameNow, if_pos, keyIx]
      cases hb : (n == b) with
      | true => simp
      | false =>
        simp only [cond_false]
        rw [ih (i + 1) h]
        cases hk : keyIx n (l.map (·.key)) (i + 1) with
        | none => rfl
        | some p =>
          have := (keyIx_at hk).1
          simp only [Option.map_some, Option.some.injEq, Prod.mk.injEq, true_and]
          rw [show p - i = (p - (i + 1)) + 1 by omega]
          simp
    | _ => simp [keysK] at h
theorem run_checkKey {k : TypeId} {q : IntKind} (hk : P.underlying k = some (.int q)) (b : Bool) (v : Value) : (Instr.checkKey b 10000 k v).run P w = .ok () w := by
  rw [show (10000 : Nat) = 9999 + 1 from rfl, Instr.checkKey]
  simp only [Sem.run_bind, run_underlying hk, Result.andThen_ok]
  rfl
theorem run_findKey {k : TypeId} {q : IntKind} (hk : P.underlying k = some (.int q)) {n : Int} {es : List MapEntry} (h : keysK q (es.map (·.key)) = true) : (Instr.findKey k (.int q n) es).run P w = .ok ((keyIx n (es.map (·.key)) 0).map fun p => (p, ((es.map (·.val)).getD p undef))) w := by
  unfold Instr.findKey
  simp only [Sem.run_bind, run_underlying hk, Result.andThen_ok, findNow_ok es 0 h, Sem.run_pure, Nat.sub_zero]
theorem run_zero {e : TypeId} {i : TypeInfo} {z : Value} (hi : P.info? e = some i) (hz : i.zero = some z) : (zeroValue e).run P w = .ok z w := by simp [zeroValue, typeInfo, hi, hz]
theorem run_getObj {r : Nat} {es : Array MapEntry} {cl : Nat} (h : w.heap[r]? = some (.map es cl)) : (getObj r).run P w = .ok (.map es cl) w := by simp [getObj, Sem.run, h]
theorem run_lookup {T k e : TypeId} {q : IntKind} {i : TypeInfo} {z : Value} (hT : P.underlying T = some (.map k e)) (hk : P.underlying k = some (.int q)) (hi : P.info? e = some i) (hz : i.zero = some z) {b : Nat} {es : Array MapEntry} {cl : Nat} (hb : w.heap[b]? = some (.map es cl)) {n : Int} (ok : Bool)
    (h : keysK q (es.toList.map (·.key)) = true) : (Instr.lookup T (.map (some b)) (.int q n) ok).run P w = .ok (match keyIx n (es.toList.map (·.key)) 0 with
      | some p => (if ok then .tuple #[(es.toList.map (·.val)).getD p undef, .bool true] else (es.toList.map (·.val)).getD p undef)
      | none => (if ok then .tuple #[z, .bool false] else z)) w := by
  unfold Instr.lookup
  simp only [Sem.run_bind, run_underlying hT, Result.andThen_ok, run_getObj hb, Sem.run_pure, run_checkKey hk, run_findKey hk h]
  cases keyIx n (es.toList.map (·.key)) 0 with
  | none => simp only [Option.map_none, Sem.run_bind, run_zero hi hz, Result.andThen_ok, Sem.run_pure]
  | some p => simp only [Option.map_some, Sem.run_bind, Result.andThen_ok, Sem.run_pure]
theorem mkV_rc {S : Sh} {agg : Bool} {us : List CV} {vs : List Value} (h : F2 (R S w) us vs) (h1 : agg = false → vs.length = 1) : RC S w (lookCA agg us) (mkV agg vs) := by
  cases agg with
  | true => exact ⟨vs, rfl, h⟩
  | false =>
    obtain ⟨v, rfl⟩ : ∃ v, vs = [v] := List.length_eq_one_iff.1 (h1 rfl)
    match us, h with
    | [], h => exact absurd h.1 (by simp)
    | u :: us, h =>
      obtain ⟨v', t, e, k1, k2⟩ := h.uncons
      cases e
      exact k1
theorem zero_rc {S : Sh} {e : TypeId} {ti : TI} (ht : TIs P e ti) {i : TypeInfo} {d : TypeDesc} {z : Value} (hi : P.info? e = some i) (hd : P.underlying e = some d) (hz : i.zero = some z) (hag : isAggV z = isAggD d) : RC S w (zeroCA ti.agg ti.zero) z := by
  obtain ⟨i', d', z', hi', hd', hz', hok, rfl⟩ := ht
  rw [hi] at hi'; cases hi'
  rw [hd] at hd'; cases hd'
  rw [hz] at hz'; cases hz'
  have cl : ∀ v : Value, okV v = true → R S w (clo (fun _ => none) (ofCell v)) v := fun v hv => by
    unfold ofCell
    split
    · exact R.nil
    · exact R.v hv
  simp only
  rw [← hag]
  cases hz2 : isAggV z with
  | true =>
    match z, hz2 with
    | .agg cs, _ =>
      refine ⟨cs.toList, by simp, ?_⟩
      show F2 (R S w) ((cs.toList.map ofCell).map (clo fun _ => none)) cs.toList
      refine ⟨by simp, fun i x y hx hy => ?_⟩
      simp only [List.getElem?_map, Option.map_eq_some_iff] at hx
      obtain ⟨_, ⟨v, hv, rfl⟩, rfl⟩ := hx
      rw [hv] at hy
      obtain rfl : v = y := Option.some.inj hy
      exact cl v (List.all_eq_true.1 hok _ (List.mem_of_getElem? hv))
  | false =>
    have hcells : z.cells.toList = [z] := by cases z <;> first | rfl | (simp [isAggV] at hz2)
    rw [hcells]
    rw [hcells] at hok
    have hokz : okV z = true := by simpa using hok
    show RC S w (match [ofCell z] with | [.nil] => .nil | [a] => .one (clo (fun _ => none) a) | _ => .agg []) z
    cases hz3 : ofCell z with
    | nil =>
      unfold ofCell at hz3
      split at hz3
      · rfl
      · simp at hz3
    | c x => have := cl z hokz; rw [hz3] at this; exact this
    | _ => unfold ofCell at hz3; split at hz3 <;> simp at hz3
theorem lookOut_ok {c : Ctx} {m : Mem} {x : CA} {v : Value} {ok there : Bool} (h : RC c.S w x v) : VV c w m (lookOut ok there x) (if ok then .tuple #[v, .bool there] else v) := by
  cases ok with
  | true => exact ⟨[v, .bool there], rfl, F2.cons h (F2.cons (R.v rfl) F2.nil)⟩
  | false =>
    cases x with
    | one y => exact h
    | agg cs => obtain ⟨us, rfl, hus⟩ := h; exact ⟨us, rfl, F2.map_left.2 hus⟩
    | nil => exact h
theorem lookAt_ok {T : TypeId} {q j : IntKind} {e : TypeId} {ti : TI} (hT : mapTI P T = some (q, e)) (ht : tinfo P e = some ti) {n : Int} {ok agg : Bool} {ks : List Value} {xs : List (List CV)} {b : Nat} {vss : List (List Value)} {m : Mem}
    (hm : MapIs w b agg ks vss) (hF : F2 (F2 (R c.S w)) xs vss) (hok : (lookAt q j n ok ti agg ks xs).1) : ∃ v, (Instr.lookup T (.map (some b)) (.int j n) ok).run P w = .ok v w ∧ VV c w m (lookAt q j n ok ti agg ks xs).2 v := by
  obtain ⟨k, hTu, hk, i, d, z, hi, hd, hz, hag⟩ := map_shape hT
  obtain ⟨⟨es, cl, h1, h2, h3⟩, h4⟩ := hm
  obtain ⟨rfl, rfl, e3⟩ := hok
  subst h2
  refine ⟨_, run_lookup hTu hk hi hz h1 ok e3, ?_⟩
  unfold lookAt
  simp only
  cases hx : keyIx n (es.toList.map (·.key)) 0 with
  | none => exact lookOut_ok (zero_rc (tinfo_is ht) hi hd hz hag)
  | some p =>
    refine lookOut_ok ?_
    obtain ⟨_, _, hp⟩ := keyIx_at hx
    have hpl : p < es.toList.length := by have := (List.getElem?_eq_some_iff.1 hp).1; simpa using this
    have hvl : vss.length = es.toList.length := by have := congrArg List.length h3; simpa using this.symm
    have hvp : vss[p]? = some vss[p] := List.getElem?_eq_getElem (by omega)
    obtain ⟨us, hu1, hu2⟩ := hF.get' hvp
    rw [h3]
    simp only [List.getD_eq_getElem?_getD, List.getElem?_map, hvp, hu1, Option.map_some, Option.getD_some]
    exact mkV_rc hu2 fun ha => h4 ha _ (List.mem_of_getElem? hvp)
theorem lookup_ok {o : Oper} {T : TypeId} {x k : Operand} {ok : Bool} (ho : o.op = .lookup T x k ok) : OpOK P o σ (rLookup P T (ev σ x) (ev σ k) ok) := by
  unfold rLookup
  split
  · rename_i q e hT
    split
    · rename_i ti ht
      split
      · rename_i j n hk
        have hint : ∀ {c : Ctx} {a : Act} {w : World}, Tm c w σ a → a.eval k = .int j n := fun h1 => by
          have hv := ev_ok h1 k
          rw [hk] at hv
          exact R.val hv
        split
        · rename_i id hx
          refine OpOK.same rfl fun base S0 w0 c a w h1 h2 h3 => ?_
          have hv := ev_ok h1 x
          rw [hx] at hv
          obtain ⟨_, hv⟩ := hv
          simp only [Req.eff, Req.read, only_same] at h3 ⊢
          cases hm : σ.m id with
          | none => simp only [hm] at h3
          | some blk =>
            cases blk with
            | mapb agg ks xs =>
              simp only [hm] at h3 ⊢
              obtain ⟨_, _, vss, q1, q2⟩ := h2.blk id _ hm
              obtain ⟨v, r1, r2⟩ := lookAt_ok (m := σ.m) hT ht q1 q2 h3
              exact ⟨v, by simp [execOp, ho, hv, hint h1, r1], r2⟩
            | fmap agg ks xs =>
              simp only [hm] at h3 ⊢
              obtain ⟨_, vss, q1, q2⟩ := h2.blk id _ hm
              obtain ⟨v, r1, r2⟩ := lookAt_ok (m := σ.m) hT ht q1 q2 h3
              exact ⟨v, by simp [execOp, ho, hv, hint h1, r1], r2⟩
            | _ => simp only [hm] at h3
        · rename_i agg ks xs hx
          refine OpOK.val fun base S0 w0 c a w h1 h2 h3 => ?_
          have hv := ev_ok h1 x
          rw [hx] at hv
          have hv : R c.S w (.mapc agg ks xs) (a.eval x) := hv
          generalize hq : a.eval x = p at hv
          cases hv with
          | map k1 k2 k3 k4 k5 =>
            obtain ⟨v, r1, r2⟩ := lookAt_ok (c := c) (m := σ.m) hT ht k2 ⟨k3, fun i us vs hu hv => ⟨k4 i us vs hu hv, k5 i us vs hu hv⟩⟩ h3
            exact ⟨v, by simp [execOp, ho, hq, hint h1, r1], r2⟩
        · exact OpOK.bad
      · exact OpOK.bad
    · exact OpOK.bad
  · exact OpOK.bad
theorem makeMap_ok {o : Oper} {T : TypeId} (ho : o.op = .makeMap T none) : OpOK P o σ (rMakeMap P o.dst T) := by
  unfold rMakeMap
  split
  · rename_i q e d hT hd
    split
    · rename_i ti ht
      intro ro base S0 w0 c a w K Q h1 h2 h3 h4
      cases hm : σ.m d with
      | some b => simp only [Req.eff, only_same, hm] at h3
      | none =>
        simp only [Req.eff, Req.mem, only_same, hm, cond_true] at h3 h4
        obtain ⟨g, r1, r2⟩ := h2.mkMap hm ti.agg
        have hr : (execOp a.eval o).run P w = .ok (.value (.map (some w.heap.size))) (w.alloc (.map #[] 0)) := by
          simp only [execOp, ho, Option.map_none, Instr.makeMap]
          rfl
        refine wpo_run (hr) rfl ?_
        rw [mrg_one (b := some (.mapb ti.agg [] [])) rfl] at h4
        exact h4 _ _ _ g r1 r2
    · exact OpOK.bad
  · exact OpOK.bad
theorem keyThatStays_run {q : IntKind} {n : Int} : (Instr.keyThatStays (.int q n) (.int q n)).run P w = .ok (.int q n) w := by
  unfold Instr.keyThatStays
  have : Instr.sameBits 10000 (.int q n) (.int q n) = true := by
    rw [show (10000 : Nat) = 9999 + 1 from rfl]
    simp [Instr.sameBits]
  rw [this]
  rfl
theorem run_setObj {r : Nat} {es : Array MapEntry} {cl : Nat} (h : w.heap[r]? = some (.map es cl)) (o : Obj) : (setObj r o).run P w = .ok () { w with heap := w.heap.setIfInBounds r o } := by simp [setObj, Sem.run, h]
theorem nil_ok {o : Oper} {x : Operand} (ho : o.op = .nilCheck x) : OpOK P o σ (rNil (ev σ x)) := by
  have hp : ∀ {c : Ctx} {a : Act} {w : World} (p : Addr), a.eval x = .pointer (some p) → (execOp a.eval o).run P w = .ok (.value (a.eval x)) w := fun p h => by simp [execOp, ho, h]
  unfold rNil
  split
  · rename_i id off hx
    refine OpOK.val fun base S0 w0 c a w h1 h2 h3 => ?_
    have hv := ev_ok h1 x
    rw [hx] at hv
    exact ⟨_, hp (c := c) _ hv.2, hv⟩
  · rename_i k cs off hx
    refine OpOK.val fun base S0 w0 c a w h1 h2 h3 => ?_
    have hv := ev_ok h1 x
    rw [hx] at hv
    have hv2 := hv
    obtain ⟨b, o', vs, he, _⟩ := hv2
    exact ⟨_, hp (c := c) _ he, hv⟩
  · rename_i id n i off hx
    refine OpOK.same rfl fun base S0 w0 c a w h1 h2 h3 => ?_
    have hv := ev_ok h1 x
    rw [hx] at hv
    simp only [Req.eff, Req.read, rowsOf_only] at h3 ⊢
    cases hm : rowsOf σ.m id with
    | none => rw [hm] at h3; exact h3.elim
    | some t =>
      obtain ⟨e, sz, xs⟩ := t
      simp only [hm] at h3 ⊢
      obtain ⟨p0, _⟩ := rows_blk h2 hm
      have hv2 := hv
      obtain ⟨_, L, hL, hn, hq⟩ := hv2
      have hL' : xs.length = L := by rw [p0] at hL; exact Option.some.inj hL
      obtain ⟨g, cap, q1, q2⟩ := hq (by omega) e sz xs hm
      exact ⟨_, hp (c := c) _ q2, hv⟩
  · rename_i k cs off hx
    refine OpOK.val fun base S0 w0 c a w h1 h2 h3 => ?_
    have hv := ev_ok h1 x
    rw [hx] at hv
    have he : ∃ p, a.eval x = .pointer (some p) := by
      have hv : R c.S w (.ptrc k cs off) (a.eval x) := hv
      generalize a.eval x = q at hv
      cases hv with
      | ptr k1 k2 k3 k4 => exact ⟨_, rfl⟩
    obtain ⟨p, he⟩ := he
    exact ⟨_, hp (c := c) p he, hv⟩
  · rename_i f ag first caps hx
    refine OpOK.val fun base S0 w0 c a w h1 h2 h3 => ?_
    have hv := ev_ok h1 x
    rw [hx] at hv
    have he : ∃ ps qs, a.eval x = .func (.func f) ps qs := by
      have hv : R c.S w (.fn f ag first caps) (a.eval x) := hv
      generalize a.eval x = q at hv
      cases hv with
      | fn k1 k2 k3 k4 => exact ⟨_, _, rfl⟩
      | meth k1 k2 k3 k4 => exact ⟨_, _, rfl⟩
    obtain ⟨ps, qs, he⟩ := he
    exact ⟨a.eval x, by simp [execOp, ho, he], hv⟩
  · rename_i x0 hx
    split
    · rename_i p hraw
      obtain ⟨b, off⟩ := p
      refine OpOK.val fun base S0 w0 c a w h1 h2 h3 => ?_
      have hv := ev_ok h1 x
      rw [hx] at hv
      have he : a.eval x = .pointer (some ⟨b, off, none⟩) := by rw [R.val hv]; exact rawP_eq hraw
      exact ⟨_, hp (c := c) _ he, hv⟩
    · exact OpOK.bad
  · exact OpOK.bad
def muK (es : Array MapEntry) (cl b : Nat) (key val : Value) : Option (Nat × Value) → Sem Unit
  | some (i, _) => do
    let key ← Instr.keyThatStays (((es[i]?).map (·.key)).getD key) key
    setObj b (.map (es.modify i fun e => { e with key, val := val }) cl)
  | none => setObj b (.map (es.push { key, val := val, born := cl }) (cl + 1))
theorem map_set_key {es : Array MapEntry} {p : Nat} {k v : Value} (hk : (es.toList.map (·.key))[p]? = some k) : ((es.modify p fun e => { e with key := k, val := v }).toList.map (·.key)) = es.toList.map (·.key) := by
  apply List.ext_getElem?
  intro i
  simp only [List.getElem?_map, Array.getElem?_toList, Array.getElem?_modify] at hk ⊢
  by_cases h : p = i
  · subst h
    rw [if_pos rfl]
    cases he : es[p]? with
    | none => rfl
    | some e => rw [he] at hk; simpa using hk.symm
  · rw [if_neg h]
theorem map_set_val {es : Array MapEntry} {p : Nat} {k v : Value} : ((es.modify p fun e => { e with key := k, val := v }).toList.map (·.val)) = (es.toList.map (·.val)).set p v := by
  apply List.ext_getElem?
  intro i
  simp only [List.getElem?_map, Array.getElem?_toList, Array.getElem?_modify, List.getElem?_set, List.length_map, Array.length_toList]
  by_cases h : p = i
  · subst h
    rw [if_pos rfl, if_pos rfl]
    by_cases hp : p < es.size
    · rw [if_pos hp, Array.getElem?_eq_getElem hp]; rfl
    · rw [if_neg hp, Array.getElem?_eq_none (by omega)]; rfl
  · rw [if_neg h, if_neg h]
theorem insert_ok {o : Oper} {T : TypeId} {x k v : Operand} (ho : o.op = .insert T x k v ∨ o.op = .mapUpdate T x k v) : OpOK P o σ (rInsert P T (ev σ x) (ev σ k) (ev σ v)) := by
  unfold rInsert
  split
  · rename_i q e hT
    obtain ⟨kt, hT', hk', _⟩ := map_shape hT
    split
    · rename_i id j n hx hk
      intro ro base S0 w0 c a w K Q h1 h2 h3 h4
      simp only [Req.eff, Req.mem, cond_true] at h3 h4
      generalize hids : ownIds (ev σ v).cells = ids at h3 h4
      have hin : only (id :: ids) σ.m id = σ.m id := only_in (List.mem_cons_self ..)
      have hcl := cloL_only (ids := id :: ids) (m := σ.m) (l := (ev σ v).cells) (fun j hj => by rw [hids] at hj; exact List.mem_cons_of_mem _ hj)
      have hcl2 := cloL_only (ids := ids) (m := σ.m) (l := (ev σ v).cells) (fun j hj => by rw [hids] at hj; exact hj)
      rw [hin] at h3 h4
      split at h3
      · rename_i agg ks xs hm
        simp only [hm] at h4
        obtain ⟨rfl, e2, e3, e4, e6, e7⟩ := h3
        rw [hcl.1, ← hcl2.1] at h4
        rw [hcl.2, ← hcl2.2] at e6
        have hp : a.eval x = .map (some (c.φ id)) := by
          have hv := ev_ok h1 x
          rw [hx] at hv
          exact hv.2
        have hkv : a.eval k = .int j n := by
          have hv := ev_ok h1 k
          rw [hk] at hv
          exact R.val hv
        obtain ⟨c1, g1, r1⟩ := freezes ids h2
        have hm1 : mrg ids (frz σ.m) σ.m id = some (.mapb agg ks xs) := by unfold mrg; rw [e7]; exact hm
        have hφ : c1.φ id = c.φ id := (g1.box id (.inr (.inr (.inl ⟨_, _, _, hm⟩)))).1
        obtain ⟨ts, t1, t2⟩ := cellsOf_ok ((ev_ok h1 v).goes g1) e3
        have t3 := cloCells_ok r1 t2 e6 (fun j hj => by rw [hids] at hj; exact hj)
        have hval : a.eval v = mkV agg ts ∧ (agg = false → ts.length = 1) := by
          have hv := ev_ok h1 v
          cases hvx : ev σ v with
          | one y =>
            rw [hvx] at hv e4
            cases e4
            have ho1 := VA.one hv
            have hc : (a.eval v).cells = #[a.eval v] := by
              generalize a.eval v = z at ho1
              cases z <;> first | rfl | (simp [Value.oneCell'] at ho1)
            rw [hc] at t1
            have : ts = [a.eval v] := by simpa using (congrArg Array.toList t1).symm
            subst this
            exact ⟨rfl, fun _ => rfl⟩
          | agg cs =>
            rw [hvx] at hv e4
            cases e4
            obtain ⟨us, hu, _⟩ := hv
            rw [hu] at t1 ⊢
            have : us = ts := by simpa [Value.cells] using congrArg Array.toList t1
            subst this
            exact ⟨rfl, fun h => by simp at h⟩
          | tup rs => rw [hvx] at e4; simp [avAgg] at e4
          | tupo rs => rw [hvx] at e4; simp [avAgg] at e4
          | junk => rw [hvx] at e4; simp [avAgg] at e4
        obtain ⟨p1, p2, vss, ⟨⟨es, cl, p3, p4, p5⟩, p6⟩, p7⟩ := r1.blk id _ hm1
        subst p4
        rw [hφ] at p3
        have hrun : ∃ (es' : Array MapEntry) (cl' : Nat) (vss' : List (List Value)), (Instr.mapUpdate T (.map (some (c.φ id))) (.int j n) (a.eval v)).run P w = .ok () { w with heap := w.heap.setIfInBounds (c.φ id) (.map es' cl') } ∧
            es'.toList.map (·.key) = putKs j n (es.toList.map (·.key)) ∧ es'.toList.map (·.val) = vss'.map (mkV agg) ∧ (agg = false → ∀ vs ∈ vss', vs.length = 1) ∧ F2 (F2 (R c1.S w)) (putXs n (es.toList.map (·.key)) xs ((ev σ v).cells.map (clo (only ids σ.m)))) vss' := by
          have hmu : ∀ r : Option (Nat × Value), (keyIx n (es.toList.map (·.key)) 0).map (fun p => (p, ((es.toList.map (·.val)).getD p undef))) = r → (Instr.mapUpdate T (.map (some (c.φ id))) (.int j n) (a.eval v)).run P w = (muK es cl (c.φ id) (.int j n) (a.eval v) r).run P w := fun r hr => by
            unfold Instr.mapUpdate
            simp only [Sem.run_bind, run_underlying hT', Result.andThen_ok, run_getObj p3, run_checkKey hk', run_findKey hk' e2, hr]
            cases r with
            | none => rfl
            | some p => rfl
          unfold putKs putXs
          cases hix : keyIx n (es.toList.map (·.key)) 0 with
          | none =>
            refine ⟨es.push { key := .int j n, val := a.eval v, born := cl }, cl + 1, vss ++ [ts], ?_, by simp, by simp [p5, hval.1], fun ha vs hvs => ?_, p7.append (F2.cons t3 F2.nil)⟩
            · rw [hmu none (by rw [hix]; rfl)]
              exact run_setObj p3 _
            · rcases List.mem_append.1 hvs with h | h
              · exact p6 ha vs h
              · have : vs = ts := by simpa using h
                rw [this]; exact hval.2 ha
          | some p =>
            obtain ⟨_, j', hj⟩ := keyIx_at hix
            rw [Nat.sub_zero] at hj
            have hjj : j' = j := by
              have key : ∀ (l : List Value), keysK j l = true → (.int j' n) ∈ l → j' = j := by
                intro l
                induction l with
                | nil => intro _ h; simp at h
                | cons y l ih =>
                  intro h1 h2
                  cases y with
                  | int i b =>
                    simp only [keysK, Bool.and_eq_true, decide_eq_true_eq] at h1
                    rcases List.mem_cons.1 h2 with h2 | h2
                    · cases h2; exact h1.1
                    · exact ih h1.2 h2
                  | _ => simp [keysK] at h1
              exact key _ e2 (List.mem_of_getElem? hj)
            subst hjj
            have hep : (es[p]?).map (·.key) = some (.int j' n) := by simpa using hj
            refine ⟨es.modify p fun e => { e with key := .int j' n, val := a.eval v }, cl, vss.set p ts, ?_, map_set_key hj, ?_, fun ha vs hvs => ?_, p7.set t3 p⟩
            · rw [hmu (some (p, ((es.toList.map (·.val)).getD p undef))) (by rw [hix]; rfl)]
              simp only [muK, hep, Option.getD_some, Sem.run_bind, keyThatStays_run, Result.andThen_ok]
              exact run_setObj p3 _
            · rw [map_set_val, p5, hval.1, List.map_set]
            · rcases List.mem_or_eq_of_mem_set hvs with h | h
              · exact p6 ha vs h
              · rw [h]; exact hval.2 ha
        obtain ⟨es', cl', vss', hr1, hr2, hr3, hr4, hr5⟩ := hrun
        obtain ⟨g, r2⟩ := r1.setMap (es := es') (cl := cl') hm1 hr2 hr3 hr4 hr5
        rw [hφ] at g r2
        have hr : (execOp a.eval o).run P w = .ok .skip { w with heap := w.heap.setIfInBounds (c.φ id) (.map es' cl') } := by
          rcases ho with ho | ho <;> simp [execOp, ho, hp, hkv, hr1]
        refine wpo_run (hr) rfl ?_
        rw [mrg_cons] at h4
        exact h4 _ _ undef (g1.trans g) r2 trivial
      · exact h3.elim
    · exact OpOK.bad
  · exact OpOK.bad
end
end Go.Proofs.Ytgkfbikffcmmdaa.Abs
