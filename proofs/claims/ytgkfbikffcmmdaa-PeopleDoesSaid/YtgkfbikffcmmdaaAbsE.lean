/- Walking: a region's operations are reckoned one by one, up to the next call. -/
import Derived.Test.YtgkfbikffcmmdaaAbsC
import Derived.IntWalk
import Derived.Scope
set_option linter.unusedSimpArgs false
set_option linter.unusedVariables false
set_option maxRecDepth 100000
namespace Go.Proofs.Ytgkfbikffcmmdaa.Abs
open Go.RowKit
section
variable {P : Program}

theorem ite_on {c a b : Prop} [Decidable c] (h1 : c → a) (h2 : ¬ c → b) : if c then a else b := by
  split
  · exact h1 ‹_›
  · exact h2 ‹_›
/-- The walk stands still. -/
structure AWs (P : Program) (c : Code) (σ : St) (Q : Exit → St → Prop) : Prop where
  h : AW P c σ Q
theorem AW.halt {id : Nat} {P : Program} {ops : Array Oper} {b : Bool} {y : Code} {σ : St} {Q : Exit → St → Prop} (h : AWs P (.seq (.region id ops b) y) σ Q) : AW P (.seq (.region id ops b) y) σ Q := h.h
theorem AW.lessW {P : Program} {c : Code} {σ : St} (σ' : St) {Q : Exit → St → Prop} (hl : Less σ σ') (h : AW P c σ' Q) : AW P c σ Q := AW.less σ' hl.1 hl.2.1 hl.2.2.1 hl.2.2.2 h
theorem partOf_lo {α : Type} (f : α → List CV) (l : List α) (k : Nat) : partOf (l.map f) 0 (k : Int) = (l.take k).map f := by simp [partOf]
theorem partOf_hi {α : Type} (f : α → List CV) (l : List α) (k : Nat) : partOf (l.map f) (k : Int) (l.length : Int) = (l.drop k).map f := by
  simp only [partOf, Int.toNat_natCast, ← List.map_drop, ← List.map_take]
  rw [List.take_of_length_le (by simp)]
theorem lcons {α : Type} {sz : Nat} {x : List α} {l : List (List α)} (h : x.length = sz) (k : ∀ us ∈ l, us.length = sz) : ∀ us, us = x ∨ us ∈ l → us.length = sz := fun us hu => hu.elim (fun e => e ▸ h) (k us)
theorem wrapI {x : Int} (h0 : -9223372036854775808 ≤ x) (h1 : x ≤ 9223372036854775807) : IntKind.i64.wrap x = x := IntWalk.i64_in _ (by omega)
/-- A number is of its kind. -/
theorem in64 {x : Int} (h0 : -9223372036854775808 ≤ x) (h1 : x ≤ 9223372036854775807) : (decide (-9223372036854775808 ≤ x) && decide (x ≤ 9223372036854775807)) = true := by
  rw [decide_eq_true h0, decide_eq_true h1]; rfl
theorem in32 {x : Int} (h0 : 0 ≤ x) (h1 : x ≤ 4294967295) : (decide (0 ≤ x) && decide (x ≤ 4294967295)) = true := by
  rw [decide_eq_true h0, decide_eq_true h1]; rfl
/-- What is nothing is a row without elements. -/
theorem LeT.nil0 {m' : Mem} {f g : Nat → AV} {d : Nat} (h1 : f d = .one .nil) (h : LeT m' f g) : LeT m' f (Abs.upd g d (.one (.c (.row [])))) := LeT.upd (h1 ▸ LeV.nil) trivial h
theorem thenN {Q : Exit → St → Prop} {K : St → Prop} {σ : St} : thenQ Q K .normal σ = K σ := rfl
/-- A scope's end: no run leaves it by a goto. -/
def scopeQ (Q : Exit → St → Prop) : Exit → St → Prop
  | .goto _, _ => False
  | e, σ => Q e σ
theorem scopeN {Q : Exit → St → Prop} {σ : St} : scopeQ Q .normal σ = Q .normal σ := rfl
theorem stepR_scope {b : Frame} {a : Act} {k : List Item} {cs : List Frame} {w : World} {c : Code} : step P (lone (b.atR a (.code (.scope c) :: k)) cs w) = .next (lone (b.atR a (.code c :: .inScope c :: k)) cs w) :=
  step_lone_go (by simp [stepG, stepG.exec, Frame.atR])
theorem stepR_inScope {b : Frame} {a : Act} {k : List Item} {cs : List Frame} {w : World} {c : Code} : step P (lone (b.atR a (.inScope c :: k)) cs w) = .next (lone (b.atR a k) cs w) :=
  step_lone_go (by simp [stepG, stepG.exec, Frame.atR])
theorem wpIn_scope_straight {F : Fence} {n : Nat} {c : Code} {Q : Exit → Act → World → Prop} {a : Act} {w : World} (h : c.wpIn F n P (Exit.noGoto Q) a w) : (Code.scope c).wpIn F n P Q a w := by
  intro b k cs hro hb hr
  obtain ⟨e, a₁, w₁, hq, harr⟩ := h b (.inScope c :: k) cs hro hb hr
  have s0 := StepsIn.one (I := Machine.fenced P F) (fenced_calm (fr := b.atR a (.code (.scope c) :: k)) hb hr rfl) (stepR_scope (P := P) (b := b) (a := a) (k := k) (cs := cs) (w := w) (c := c))
  cases e with
  | normal => exact ⟨.normal, a₁, w₁, hq, s0.trans (StepsIn.trans harr (.one (fenced_calm hb hr rfl) stepR_inScope))⟩
  | exit id => exact ⟨.exit id, a₁, w₁, hq, fun k' hk => s0.trans (harr.1 k' (by simp [exitTo, hk])), fun hr' hk => by
      obtain ⟨k₁, h1, h2⟩ := harr.2 hr' (by simp [exitTo, hk])
      exact ⟨k₁, h1, s0.trans h2⟩⟩
  | goto l => exact hq.elim
  | ret => exact ⟨_, a₁, w₁, hq, .of_steps s0 harr⟩
  | panic ch => exact ⟨_, a₁, w₁, hq, .of_steps s0 harr⟩
  | outgrown => exact ⟨_, a₁, w₁, hq, .of_steps s0 harr⟩
theorem AW.scope {c : Code} {σ : St} {Q : Exit → St → Prop} (h : AW P c σ (scopeQ Q)) : AW P (.scope c) σ Q := fun base S0 w0 df a w hG =>
  wpIn_scope_straight (wpIn_mono (h base S0 w0 df a w hG) fun e a' w' ⟨σ', h1, h2⟩ => by
    cases e with
    | goto l => exact h1.elim
    | _ => exact ⟨σ', h1, h2⟩)
theorem AW.label {l : Nat} {σ : St} {Q : Exit → St → Prop} (h : Q .normal σ) : AW P (.label l) σ Q := fun _ _ _ _ _ _ hG => wpIn_label ⟨σ, h, hG⟩
theorem blockN {id : Nat} {Q : Exit → St → Prop} {σ : St} : blockQ id Q .normal σ = Q .normal σ := rfl
def isCall : Op → Bool
  | .call ⟨.value _, _, _⟩ => true
  | _ => false
def okE (P : Program) (σ : St) (o : Oper) : Prop := ((reqR P (.tup []) σ o).eff σ.m).ok
def nextR (P : Program) (r : RV) (σ : St) (o : Oper) : St := stepSt σ o.dst ((reqR P r σ o).eff σ.m).val ((reqR P r σ o).mem σ.m)
def fpR (P : Program) (r : RV) (σ : St) (o : Oper) : List Nat × Bool := ((reqR P r σ o).ids, (reqR P r σ o).wr)
def setB (σ : St) (s : Nat) (b : Bool) : St := ⟨σ.n, upd σ.t s (.one (.c (.v (.bool b)))), σ.m⟩
def runE (P : Program) (ops : Array Oper) (C : Oper → List Oper → St → Trace → Prop) : List Oper → St → Trace → (St → Trace → Prop) → Prop
  | [], σ, tr, K => K σ tr
  | o :: rest, σ, tr, K => match o.guard with
    | none => bif isCall o.op then C o rest σ tr else (dstOK σ.n o.dst ∧ okE P σ o) ∧ runE P ops C rest (nextR P (.tup []) σ o) (tr ++ [fpR P (.tup []) σ o]) K
    | some (j, want) => match (ops[j]?).bind (·.dst) with
      | none => dstOK σ.n o.dst ∧ runE P ops C rest (stepSt σ o.dst (.tup []) σ.m) (tr ++ [([], false)]) K
      | some s => match ev σ (.tmp s) with
        | .one (.c (.v (.bool b))) =>
          if b = want then (bif isCall o.op then C o rest (setB σ s want) tr else (dstOK σ.n o.dst ∧ okE P (setB σ s want) o) ∧ runE P ops C rest (nextR P (.tup []) (setB σ s want) o) (tr ++ [fpR P (.tup []) (setB σ s want) o]) K)
          else dstOK σ.n o.dst ∧ runE P ops C rest (stepSt (setB σ s (!want)) o.dst (.tup []) σ.m) (tr ++ [([], false)]) K
        | .tup _ => dstOK σ.n o.dst ∧ runE P ops C rest (stepSt σ o.dst (.tup []) σ.m) (tr ++ [([], false)]) K
        | _ => False
theorem setB_same {σ : St} {s : Nat} {b : Bool} (h : ev σ (.tmp s) = .one (.c (.v (.bool b)))) : setB σ s b = σ := by
  have ht : σ.t s = .one (.c (.v (.bool b))) := by
    unfold ev at h
    by_cases hs : s < σ.n
    · simpa [hs] using h
    · simp [hs] at h
  unfold setB
  cases σ with
  | mk n t m =>
    simp only [St.mk.injEq, true_and, and_true]
    funext e
    by_cases he : e = s
    · subst he; rw [upd_same]; exact ht.symm
    · rw [upd_ne _ _ he]
/-- What is left at a call serves. -/
def CallsOn (P : Program) (ops : Array Oper) (C : Oper → List Oper → St → Trace → Prop) (K : St → Trace → Prop) : Prop := ∀ (o : Oper) (rest : List Oper) (σ : St) (tr : Trace), C o rest σ tr → RunP P ops (o :: rest) σ tr K
theorem runE_ok {ops : Array Oper} {C : Oper → List Oper → St → Trace → Prop} {K : St → Trace → Prop} (hC : CallsOn P ops C K) : ∀ (l : List Oper) (σ : St) (tr : Trace), runE P ops C l σ tr K → RunP P ops l σ tr K := by
  intro l
  induction l with
  | nil => intro σ tr h; exact h
  | cons o rest ih =>
    intro σ tr h
    have go : ∀ σ : St, wantd ops σ o = some true → (bif isCall o.op then C o rest σ tr else (dstOK σ.n o.dst ∧ okE P σ o) ∧ runE P ops C rest (nextR P (.tup []) σ o) (tr ++ [fpR P (.tup []) σ o]) K) → RunP P ops (o :: rest) σ tr K := fun σ hw h => by
      cases hc : isCall o.op with
      | true => rw [hc] at h; exact hC o rest σ tr h
      | false =>
        rw [hc] at h
        obtain ⟨⟨h1, h2⟩, h3⟩ := h
        refine ⟨.tup [], h1, ?_⟩
        rw [hw]
        exact ⟨h2, ih _ _ h3⟩
    unfold runE at h
    split at h
    · rename_i hg
      exact go σ (by unfold wantd; rw [hg]) h
    · rename_i j want hg
      split at h
      · rename_i hj
        refine ⟨.tup [], h.1, ?_⟩
        rw [show wantd ops σ o = some false by unfold wantd; rw [hg]; simp only [hj]]
        exact ih _ _ h.2
      · rename_i s hj
        split at h
        · rename_i b hb
          by_cases hbw : b = want
          · subst hbw
            rw [if_pos rfl, setB_same hb] at h
            exact go σ (by unfold wantd; rw [hg]; simp only [hj, hb]; simp) h
          · rw [if_neg hbw] at h
            have hb' : (!want) = b := by clear hb h; cases b <;> cases want <;> first | rfl | exact absurd rfl hbw
            rw [hb', setB_same hb] at h
            refine ⟨.tup [], h.1, ?_⟩
            have hbf : (b == want) = false := beq_eq_false_iff_ne.2 hbw
            rw [show wantd ops σ o = some false by unfold wantd; rw [hg]; simp only [hj, hb, hbf]]
            exact ih _ _ h.2
        · rename_i rs hb
          refine ⟨.tup [], h.1, ?_⟩
          rw [show wantd ops σ o = some false by unfold wantd; rw [hg]; simp only [hj, hb]]
          exact ih _ _ h.2
        · exact h.elim
/-- At a call: what the function gives, and the walk goes on. -/
def CallIn (P : Program) (ops : Array Oper) (C : Oper → List Oper → St → Trace → Prop) (K : St → Trace → Prop) : Prop :=
  ∀ (r : RV) {o : Oper} {rest : List Oper} {σ : St} {tr : Trace}, wantd ops σ o = some true → dstOK σ.n o.dst → ((reqR P r σ o).eff σ.m).ok → runE P ops C rest (nextR P r σ o) (tr ++ [fpR P r σ o]) K → C o rest σ tr
theorem AW.reg {id : Nat} {ops : Array Oper} {σ : St} {Q : Exit → St → Prop} (h : ∀ (K : St → Trace → Prop) (C : Oper → List Oper → St → Trace → Prop), (∀ σ' tr, Q .normal σ' → K σ' tr) → CallIn P ops C K → runE P ops C ops.toList σ [] K) : AW P (.region id ops false) σ Q := by
  refine AW.region (runE_ok (C := fun o rest σ tr => RunP P ops (o :: rest) σ tr fun σ' _ => Q .normal σ') (fun _ _ _ _ h => h) _ _ _ (h _ _ (fun _ _ h => h) fun r o rest σ tr h1 h2 h3 h4 => ⟨r, h2, ?_⟩))
  rw [h1]
  exact ⟨h3, runE_ok (fun _ _ _ _ h => h) _ _ _ h4⟩
theorem AW.regD {id : Nat} {ops : Array Oper} {σ : St} {Q : Exit → St → Prop} (hm : P.follows .mixedOrders = true) (h : ∀ (K : St → Trace → Prop) (C : Oper → List Oper → St → Trace → Prop), (∀ σ' tr, checkB ops (crs tr) = true → Q .normal σ' → K σ' tr) → CallIn P ops C K → runE P ops C ops.toList σ [] K) : AW P (.region id ops true) σ Q := by
  refine AW.draw hm (runE_ok (C := fun o rest σ tr => RunP P ops (o :: rest) σ tr fun σ' tr => checkB ops (crs tr) = true ∧ Q .normal σ') (fun _ _ _ _ h => h) _ _ _ (h _ _ (fun _ _ h1 h2 => ⟨h1, h2⟩) fun r o rest σ tr h1 h2 h3 h4 => ⟨r, h2, ?_⟩))
  rw [h1]
  exact ⟨h3, runE_ok (fun _ _ _ _ h => h) _ _ _ h4⟩
theorem AW.seqR {id : Nat} {ops : Array Oper} {y : Code} {σ : St} {Q : Exit → St → Prop} (h : ∀ (K : St → Trace → Prop) (C : Oper → List Oper → St → Trace → Prop), (∀ σ' tr, AW P y σ' Q → K σ' tr) → CallIn P ops C K → runE P ops C ops.toList σ [] K) : AW P (.seq (.region id ops false) y) σ Q := AW.seq (AW.reg h)
theorem AW.seqD {id : Nat} {ops : Array Oper} {y : Code} {σ : St} {Q : Exit → St → Prop} (hm : P.follows .mixedOrders = true) (h : ∀ (K : St → Trace → Prop) (C : Oper → List Oper → St → Trace → Prop), (∀ σ' tr, checkB ops (crs tr) = true → AW P y σ' Q → K σ' tr) → CallIn P ops C K → runE P ops C ops.toList σ [] K) : AW P (.seq (.region id ops true) y) σ Q := AW.seq (AW.regD hm h)
theorem AW.seqS {y : Code} {σ : St} {Q : Exit → St → Prop} (h : AW P y σ Q) : AW P (.seq .skip y) σ Q := AW.seq (AW.skip h)
end
/-- A call that is handed nothing of the call's own leaves the memory as it is. -/
theorem mrg_frz {d : Nat} {m : Mem} (h : frzB (m d) = m d) : mrg [d] (frz (only [d] m)) m = m := by
  funext i
  by_cases e : i = d
  · subst e; simp [mrg, hasN, frz, only, h]
  · have : (d == i) = false := by rw [beq_eq_false_iff_ne]; exact fun h => e h.symm
    simp [mrg, hasN, this]
/-- What is written, block by block. -/
theorem mrg_each {i : Nat} {l : List Nat} {nw m : Mem} : mrg (i :: l) nw m = upd (mrg l nw m) i (nw i) := by
  funext j
  unfold mrg upd
  by_cases h : j = i
  · subst h; simp [hasN]
  · have : (i == j) = false := beq_eq_false_iff_ne.2 fun e => h e.symm
    simp [hasN, this, h]
theorem mrg_none {nw m : Mem} : mrg [] nw m = m := rfl
attribute [go_sem high] mrg_frz
attribute [go_sem] mrg_each mrg_none insOf setBs opnIds insAt sameBs callIn OC.blk yieldOf_func rYield rawP rNil keysK keyIx avAgg putKs putXs rMakeMap rInsert lookCA zeroCA lookOut lookAt rLookup List.headD_cons inK okV runE isCall okE nextR fpR setB reqR areq ev Req.eff Req.mem Req.val Req.read Req.bad only hasN rLoad rStore rField rFieldV rIndex rMM rIndexV tabsV rd rLen rBin rBuild rBuildSlice rAppend rSlice rSlice3 bndOf rCap rMake rCopy rAppendX resOKs resO PostAt Option.isSome_some rCall rd stepSt dstOK upd ofVal ofCell AV.flat AV.cells CA.av callVal callMem dstL resIds freeAll mixI mixV mixC mixM mixL mixAV avM nOwn resE resEs resMs distN idsM fnFirst rMakeFunc plainA plainL clo0 capOK capsOK capCV capIds shutB firstOK firstAgg firstCV rowsOf unl unlB splice vbin nilA icmp iari eqL eqA eqCV partsA fillA allFlat idxOK rowsOK cloAll cloOK clo cloAV cloArg frz frzB ownIds srcOf srcOK argsOK shA shV entryT cond_true cond_false decide_true decide_false if_true if_false BEq.rfl beq_self_eq_true Bool.or_false Bool.or_true Bool.false_or Bool.true_or Bool.and_true Bool.true_and Bool.and_false Bool.false_and Bool.not_true Bool.not_false true_and and_true ne_eq not_false_eq_true List.getElem?_cons_succ List.getElem?_cons_zero List.getElem?_nil List.drop_succ_cons List.drop_zero List.drop_nil List.take_succ_cons List.take_zero List.take_nil List.length_cons List.length_nil List.cons_append List.nil_append List.append_nil List.map_cons List.map_nil List.flatten_cons List.flatten_nil List.all_cons List.all_nil Option.bind_some Option.bind_none Option.map_some Option.map_none List.getElem?_toArray Value.oneCell' Post resAll resAV resOK RVof thenQ blockQ scopeQ Int.natCast_nonneg Int.toNat_natCast Int.toNat_zero false_implies implies_true partOf_lo partOf_hi Int.natCast_zero List.take_length List.length_replicate List.length_map List.getD_eq_getElem?_getD List.getElem?_map Option.getD_some Option.getD_none live A.ids AV.ids idsL Blk.ids
end Go.Proofs.Ytgkfbikffcmmdaa.Abs
