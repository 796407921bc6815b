/- Each operation does what was said: those that only read. -/
import Derived.Test.YtgkfbikffcmmdaaAbsO
set_option linter.unusedSimpArgs false
set_option linter.unusedVariables false
set_option maxRecDepth 100000
namespace Go.Proofs.Ytgkfbikffcmmdaa.Abs
open Go.RowKit

structure Tm (c : Ctx) (w : World) (σ : St) (a : Act) : Prop where
  size : a.tmps.size = σ.n
  val : ∀ d, d < σ.n → VV c w σ.m (σ.t d) (a.tmps.getD d undef)
  gl : Gl c.S w
theorem ofCell_ok {c : Ctx} {w : World} {m : Mem} {x : Value} (h : okV x = true) : VA c w m (ofCell x) x := by
  unfold ofCell
  split
  · rfl
  · exact R.v h
theorem ofVal_ok {c : Ctx} {w : World} {m : Mem} (x : Value) : VV c w m (ofVal x) x := by
  unfold ofVal
  split
  · rename_i cs
    cases h : cs.toList.all okV with
    | false => trivial
    | true =>
      refine ⟨cs.toList, by simp, by simp, fun i x y hx hy => ?_⟩
      simp only [List.getElem?_map, Option.map_eq_some_iff] at hx
      obtain ⟨z, hz, rfl⟩ := hx
      rw [hz] at hy
      cases hy
      exact ofCell_ok (List.all_eq_true.1 h _ (List.mem_of_getElem? hz))
  · trivial
  · rename_i h1 h2
    cases h : okV x with
    | false => trivial
    | true => exact ofCell_ok h
section
variable {P : Program} {c : Ctx} {w : World} {σ : St} {a : Act} {base : Nat} {S0 : Sh} {w0 : W0}
theorem ev_ok (h : Tm c w σ a) (x : Operand) : VV c w σ.m (ev σ x) (a.eval x) := by
  cases x with
  | tmp t =>
    show VV c w σ.m (bif decide (t < σ.n) then σ.t t else .junk) (a.tmps.getD t undef)
    by_cases ht : t < σ.n
    · rw [decide_eq_true ht]; exact h.2 t ht
    · rw [decide_eq_false ht]; trivial
  | const v => exact ofVal_ok v
  | global g =>
    show VV c w σ.m (match tabsV g with | some vs => .one (.c (.ptrc 0 (vs.map .v) 0)) | none => .junk) (.pointer (some ⟨g, 0, none⟩))
    cases hg : tabsV g with
    | none => trivial
    | some vs => exact h.gl.ptr hg
  | func f => exact R.fn (us := []) (ts := []) rfl (fun i x v h => by simp at h) rfl (fun i x v h => by simp at h)

def plainN : Next → Bool
  | .value _ => true
  | .skip => true
  | .enter _ _ => true
  | .round _ _ _ _ _ => true
  | _ => false
theorem wpo_run {o : Oper} {ro : Option Nat} {K : Act → World → Prop} {Q : Exit → Act → World → Prop} {x : Next} {w1 : World} (hr : (execOp a.eval o).run P w = .ok x w1) (hx : plainN x = true) (h : o.uponIn (Fw ro) 0 P a K Q (.ok x w1)) : o.wpIn (Fw ro) 0 P a w K Q := by
  refine ⟨fun _ _ => trivial, ?_⟩
  rw [Oper.semAt_eq _ _ _ fun c hc => ?_, hr]
  · exact h
  · have : execOp a.eval o = (do let d ← resolve a.eval c o.type; pure (.defer d)) := by unfold execOp; rw [hc]
    rw [this, Sem.run_bind] at hr
    cases hd : (resolve a.eval c o.type).run P w with
    | ok d w2 =>
      rw [hd] at hr
      simp only [Result.andThen_ok, Sem.run_pure] at hr
      cases hr
      simp [plainN] at hx
    | halt y w2 => rw [hd] at hr; simp [Result.andThen] at hr
theorem callsW {ro : Option Nat} {n : Nat} {f : FuncId} {args : Array Value} {R : Ending → World → Prop} (h : Calls P f args w R) : CallsIn (Fw ro) n P f args w R := callsIn_wide.2 h
/-- The operation does what is asked. -/
def OpOK (P : Program) (o : Oper) (σ : St) (rq : Req) : Prop := ∀ (ro : Option Nat) (base : Nat) (S0 : Sh) (w0 : W0) (c : Ctx) (a : Act) (w : World) (K : Act → World → Prop) (Q : Exit → Act → World → Prop),
  Tm c w σ a → WR base S0 w0 c σ.m w → (rq.eff σ.m).ok →
  (∀ (c' : Ctx) (w' : World) (v : Value), Goes c w σ.m c' w' (rq.mem σ.m) → WR base S0 w0 c' (rq.mem σ.m) w' → VV c' w' (rq.mem σ.m) (rq.eff σ.m).val v → K (a.put o.dst v) w') → o.wpIn (Fw ro) 0 P a w K Q
theorem OpOK.bad {o : Oper} : OpOK P o σ .bad := fun _ _ _ _ _ _ _ _ _ _ _ h => h.elim
/-- An operation that makes a value out of values and of what is there. -/
theorem OpOK.same {o : Oper} {rq : Req} (hw : rq.wr = false)
    (h : ∀ (base : Nat) (S0 : Sh) (w0 : W0) (c : Ctx) (a : Act) (w : World), Tm c w σ a → WR base S0 w0 c σ.m w → (rq.eff σ.m).ok → ∃ v, (execOp a.eval o).run P w = .ok (.value v) w ∧ VV c w σ.m (rq.eff σ.m).val v) : OpOK P o σ rq := by
  intro ro base S0 w0 c a w K Q h1 h2 h3 h4
  obtain ⟨v, hr, hv⟩ := h base S0 w0 c a w h1 h2 h3
  have hm : rq.mem σ.m = σ.m := by unfold Req.mem; rw [hw]; rfl
  rw [hm] at h4
  refine wpo_run hr rfl ?_
  exact h4 c w v (Goes.refl _ _ _) h2 hv
theorem OpOK.val {o : Oper} {ok : Prop} {v : AV}
    (h : ∀ (base : Nat) (S0 : Sh) (w0 : W0) (c : Ctx) (a : Act) (w : World), Tm c w σ a → WR base S0 w0 c σ.m w → ok → ∃ x, (execOp a.eval o).run P w = .ok (.value x) w ∧ VV c w σ.m v x) : OpOK P o σ (.val ok v) :=
  OpOK.same rfl fun base S0 w0 c a w h1 h2 h3 => h base S0 w0 c a w h1 h2 h3

theorem only_same {m : Mem} {id : Nat} : only [id] m id = m id := by simp [only, hasN]
theorem run_agg {T : TypeId} {d : TypeDesc} (hd : P.underlying T = some d) : (isAgg T).run P w = .ok (isAggD d) w := by
  unfold isAgg isAggD
  simp only [Sem.run_bind, run_underlying hd, Result.andThen_ok]
  cases d <;> rfl
theorem run_sizeOf {T : TypeId} {i : TypeInfo} (hi : P.info? T = some i) : (sizeOf T).run P w = .ok i.size w := by
  simp [sizeOf, typeInfo, hi]
theorem run_load {b o : Nat} {v : Value} (h : w.cell? ⟨b, o, none⟩ = some v) : (Go.load ⟨b, o, none⟩).run P w = .ok v w := by
  simp [Go.load, Sem.run, h]
theorem rd_ok {m : Mem} {T : TypeId} {ti : TI} (ht : TIs P T ti) {cs : List A} {vs : List Value} {b o off : Nat} (hcs : F2 (VA c w m) cs vs) (hv : Holds w b o vs) (hok : (rd ti cs off).1) :
    ∃ v, (loadVar T ⟨b, o + off, none⟩).run P w = .ok v w ∧ VV c w m (rd ti cs off).2 v := by
  obtain ⟨i, d, z, hi, hd, hz, _, rfl⟩ := ht
  unfold loadVar
  simp only [Sem.run_bind, run_agg hd, Result.andThen_ok]
  unfold rd at hok ⊢
  cases hagg : isAggD d with
  | true =>
    simp only [hagg, cond_true] at hok ⊢
    have hl : ((vs.drop off).take i.size).length = i.size := by
      have := hcs.1
      simp
      omega
    have hload := run_loadCells_list (P := P) w ⟨b, o + off, none⟩ ((vs.drop off).take i.size) (fun j v hj => by
      rw [add_row, Nat.add_assoc]
      rw [List.getElem?_take] at hj
      split at hj
      · exact hv (off + j) v (by simpa using hj)
      · simp at hj)
    rw [hl] at hload
    refine ⟨.agg ((vs.drop off).take i.size).toArray, by simp [run_sizeOf hi, hload], _, rfl, (hcs.drop off).take _⟩
  | false =>
    simp only [hagg, cond_false] at hok ⊢
    cases hx : cs[off]? with
    | none => rw [hx] at hok; exact hok.elim
    | some x =>
      obtain ⟨v, hv1, hv2⟩ := hcs.get hx
      exact ⟨v, by simpa using run_load (P := P) (hv off v hv1), hv2⟩
theorem cells_c {c : Ctx} {m : Mem} {cs : List CV} {vs : List Value} (h : F2 (R c.S w) cs vs) : F2 (VA c w m) (cs.map .c) vs := F2.map_left.2 h
theorem fbox_holds {m : Mem} {id : Nat} {cs : List CV} (h : WR base S0 w0 c m w) (hm : m id = some (.fbox cs)) : ∃ vs, F2 (VA c w m) (cs.map .c) vs ∧ Holds w (c.φ id) 0 vs := by
  obtain ⟨_, vs, h1, h2⟩ := h.blk id _ hm
  exact ⟨vs, cells_c h1, h2⟩
/-- The rows that are of the call's own, be they lent. -/
theorem rows_blk {m : Mem} {id : Nat} {e : TypeId} {sz : Nat} {xs : List (List CV)} (h : WR base S0 w0 c m w) (hm : rowsOf m id = some (e, sz, xs)) : rowLen m id = some xs.length ∧ (∀ us ∈ xs, us.length = sz) ∧ 0 < sz ∧ xs.length ≤ 1073741824 ∧ ∃ vss : List (List Value), F2 (F2 (R c.S w)) xs vss ∧ w.ownsRow base e sz (c.ψ id) xs.length vss.flatten := by
  unfold rowsOf at hm
  split at hm
  · rename_i hm2
    simp only [Option.some.injEq, Prod.mk.injEq] at hm
    obtain ⟨rfl, rfl, rfl⟩ := hm
    obtain ⟨h1, h2, h3, _, h5⟩ := h.blk id _ hm2
    exact ⟨by simp [rowLen, hm2], h1, h2, h3, h5⟩
  · rename_i hm2
    simp only [Option.some.injEq, Prod.mk.injEq] at hm
    obtain ⟨rfl, rfl, rfl⟩ := hm
    obtain ⟨_, h1, h2, h3, _, h5⟩ := h.blk id _ hm2
    exact ⟨by simp [rowLen, hm2], h1, h2, h3, h5⟩
  · simp at hm
theorem rowsOf_only {m : Mem} {id : Nat} : rowsOf (only [id] m) id = rowsOf m id := by simp only [rowsOf, only_same]
theorem box_holds {m : Mem} {id : Nat} {cs : List A} (h : WR base S0 w0 c m w) (hm : m id = some (.box cs)) : ∃ vs, F2 (VA c w m) cs vs ∧ Holds w (c.φ id) 0 vs := by
  obtain ⟨_, _, vs, T, h3, h4⟩ := h.blk id _ hm
  exact ⟨vs, h4, fun j u hj => by rw [Nat.zero_add]; simpa [World.cell?, h3] using hj⟩
/-- A pointer by its address: an open box's. -/
theorem rawP_eq {x : Value} {b off : Nat} (h : rawP x = some (b, off)) : x = .pointer (some ⟨b, off, none⟩) := by
  unfold rawP at h
  split at h
  · cases h; rfl
  · simp at h
theorem obox_holds {m : Mem} {id : Nat} {cs : List CV} (h : WR base S0 w0 c m w) (hm : m id = some (.obox cs)) : ∃ vs, F2 (R c.S w) cs vs ∧ Holds w (c.φ id) 0 vs ∧ 1000000 + c.φ id = id := by
  obtain ⟨_, _, he, vs, T, h3, h4⟩ := h.blk id _ hm
  exact ⟨vs, h4, fun j u hj => by rw [Nat.zero_add]; simpa [World.cell?, h3] using hj, he⟩
theorem load_ok {o : Oper} {T : TypeId} {x : Operand} (ho : o.op = .load T x) : OpOK P o σ (rLoad P T (ev σ x)) := by
  unfold rLoad
  cases ht : tinfo P T with
  | none => exact OpOK.bad
  | some ti =>
    have ht := tinfo_is ht
    have hex : ∀ (a : Act) (w : World) (p : Addr) (v : Value), a.eval x = .pointer (some p) → (loadVar T p).run P w = .ok v w → (execOp a.eval o).run P w = .ok (.value v) w := fun a w p v hp hl => by
      simp [execOp, ho, Instr.loadAt, Instr.sureAddr, hp, hl]
    simp only
    cases hx : ev σ x with
    | one y =>
      cases y with
      | ptr id off =>
        refine OpOK.same rfl fun base S0 w0 c a w h1 h2 h3 => ?_
        have hv := ev_ok h1 x
        rw [hx] at hv
        obtain ⟨⟨cs, hm⟩ | ⟨cs, hm⟩ | ⟨_, _, _, hm⟩ | ⟨_, _, _, hm⟩ | ⟨cs, hm⟩ | ⟨_, hm⟩, hp⟩ := hv
        · simp only [Req.eff, Req.read, only_same, hm] at h3 ⊢
          obtain ⟨vs, q1, q2⟩ := box_holds h2 hm
          obtain ⟨v, r1, r2⟩ := rd_ok ht q1 q2 h3
          exact ⟨v, hex a w _ v hp (by simpa using r1), r2⟩
        · simp only [Req.eff, Req.read, only_same, hm] at h3 ⊢
          obtain ⟨vs, q1, q2⟩ := fbox_holds h2 hm
          obtain ⟨v, r1, r2⟩ := rd_ok ht q1 q2 h3
          exact ⟨v, hex a w _ v hp (by simpa using r1), r2⟩
        · simp only [Req.eff, Req.read, only_same, hm] at h3
        · simp only [Req.eff, Req.read, only_same, hm] at h3
        · simp only [Req.eff, Req.read, only_same, hm] at h3
        · simp only [Req.eff, Req.read, only_same, hm] at h3
      | el k cs off =>
        refine OpOK.val fun base S0 w0 c a w h1 h2 h3 => ?_
        have hv := ev_ok h1 x
        rw [hx] at hv
        obtain ⟨b, o', vs, hp, _, q1, q2⟩ := hv
        obtain ⟨v, r1, r2⟩ := rd_ok ht (cells_c (m := σ.m) q1) q2 h3
        exact ⟨v, hex a w _ v hp r1, r2⟩
      | pel id n i off =>
        refine OpOK.same rfl fun base S0 w0 c a w h1 h2 h3 => ?_
        have hv := ev_ok h1 x
        rw [hx] at hv
        obtain ⟨_, L, hL, hn, hpel⟩ := hv
        simp only [Req.eff, Req.read, rowsOf_only] at h3 ⊢
        cases hm : rowsOf σ.m id with
        | none => rw [hm] at h3; exact h3.elim
        | some t =>
          obtain ⟨e, sz, xs⟩ := t
          simp only [hm] at h3 ⊢
          obtain ⟨e1, e2, e3⟩ := h3
          obtain ⟨p0, p1, p2, p3, vss, p5, p6⟩ := rows_blk h2 hm
          have hL' : xs.length = L := by rw [p0] at hL; exact Option.some.inj hL
          obtain ⟨g, cap, q1, q2⟩ := hpel (by omega) e sz xs hm
          have hlen : vss.length = xs.length := p5.1.symm
          have hszv : ∀ u ∈ vss, u.length = sz := fun u hu => by
            obtain ⟨i, hi, rfl⟩ := List.getElem_of_mem hu
            obtain ⟨x, hx, hq⟩ := p5.get' (List.getElem?_eq_getElem hi)
            rw [← hq.1]
            exact p1 x (List.mem_of_getElem? hx)
          have hi : i < xs.length := by omega
          have hxi : xs[i]? = some (xs.getD i []) := by simp [List.getD, hi]
          obtain ⟨vs, hvs, hq⟩ := p5.get hxi
          obtain ⟨g2, cap2, f1, _, _, f2⟩ := holds_flat p6 hszv hlen i vs hvs
          rw [q1] at f1
          simp at f1
          obtain ⟨rfl, _⟩ := f1
          obtain ⟨v, r1, r2⟩ := rd_ok ht (cells_c (m := σ.m) hq) f2 e3
          exact ⟨v, hex a w _ v q2 r1, r2⟩
      | c y =>
        cases y with
        | ptrc k cs off =>
          refine OpOK.val fun base S0 w0 c a w h1 h2 h3 => ?_
          have hv := ev_ok h1 x
          rw [hx] at hv
          have hv : R c.S w (.ptrc k cs off) (a.eval x) := hv
          generalize hq : a.eval x = p at hv
          cases hv with
          | ptr k1 k2 k3 k4 =>
            obtain ⟨v, r1, r2⟩ := rd_ok ht (cells_c (m := σ.m) ⟨k2, k4⟩) k3 h3
            exact ⟨v, hex a w _ v hq r1, r2⟩
        | v x0 =>
          simp only
          cases hraw : rawP x0 with
          | none => exact OpOK.bad
          | some p =>
            obtain ⟨b, off⟩ := p
            refine OpOK.same rfl fun base S0 w0 c a w h1 h2 h3 => ?_
            have hv := ev_ok h1 x
            rw [hx] at hv
            have hp : a.eval x = .pointer (some ⟨b, off, none⟩) := by rw [show a.eval x = x0 from by cases hv; rfl]; exact rawP_eq hraw
            simp only [Req.eff, Req.read, only_same] at h3 ⊢
            cases hm : σ.m (1000000 + b) with
            | none => simp only [hm] at h3
            | some blk =>
              cases blk with
              | obox cs =>
                simp only [hm] at h3 ⊢
                obtain ⟨vs, q1, q2, q3⟩ := obox_holds h2 hm
                have q3 : c.φ (1000000 + b) = b := Nat.add_left_cancel q3
                rw [q3] at q2
                obtain ⟨v, r1, r2⟩ := rd_ok ht (cells_c (m := σ.m) q1) q2 h3
                exact ⟨v, hex a w _ v hp (by rw [Nat.zero_add] at r1; exact r1), r2⟩
              | _ => simp only [hm] at h3
        | _ => exact OpOK.bad
      | own id n => exact OpOK.bad
      | mp id => exact OpOK.bad
      | full k xs => exact OpOK.bad
      | nil => exact OpOK.bad
      | bare => exact OpOK.bad
      | any => exact OpOK.bad
    | agg cs => exact OpOK.bad
    | tup rs => exact OpOK.bad
    | tupo rs => exact OpOK.bad
    | junk => exact OpOK.bad
end
end Go.Proofs.Ytgkfbikffcmmdaa.Abs
