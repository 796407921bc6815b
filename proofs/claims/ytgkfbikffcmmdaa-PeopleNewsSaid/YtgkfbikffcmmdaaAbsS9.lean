/- Each operation does what was said: functions as values. -/
import Derived.Test.YtgkfbikffcmmdaaAbsS8
set_option linter.unusedSimpArgs false
set_option linter.unusedVariables false
set_option maxRecDepth 100000
namespace Go.Proofs.Ytgkfbikffcmmdaa.Abs
open Go.RowKit
section
variable {P : Program} {c : Ctx} {w : World} {σ : St} {a : Act} {base : Nat} {S0 : Sh} {w0 : W0}

theorem clo0_ok {m : Mem} {x : A} {v : Value} (h : VA c w m x v) (hp : plainA x) : R c.S w (clo0 x) v := by
  cases x with
  | c y => exact h
  | full k xs => exact h.choose_spec.2
  | el k cs off =>
    obtain ⟨b, o, vs, rfl, h1, h2, h3⟩ := h
    exact R.ptr h1 h2.1 h3 h2.2
  | nil => rw [show v = .slice none 0 0 from h]; exact R.nil
  | bare => obtain ⟨_, _, h1, h2⟩ := h; rw [h1]; exact R.bare h2
  | _ => exact hp.elim
theorem clo0L_ok {m : Mem} : ∀ {cs : List A} {vs : List Value}, F2 (VA c w m) cs vs → plainL cs → F2 (R c.S w) (cs.map clo0) vs := by
  intro cs
  induction cs with
  | nil => intro vs h _; rw [h.unnil]; exact F2.nil
  | cons x cs ih =>
    intro vs h hp
    obtain ⟨v, vs, rfl, h1, h2⟩ := h.uncons
    exact F2.cons (clo0_ok h1 hp.1) (ih h2 hp.2)
def plainB : Option Blk → Prop
  | some (.box cs) => plainL cs
  | _ => True
theorem shutB_idem (b : Option Blk) : shutB (shutB b) = shutB b := by
  cases b with
  | none => rfl
  | some b => cases b <;> rfl
theorem plain_shut (b : Option Blk) : plainB (shutB b) := by
  cases b with
  | none => trivial
  | some b => cases b <;> trivial
theorem shut_one {m : Mem} (h : WR base S0 w0 c m w) {i : Nat} (hp : plainB (m i)) : ∃ c', Goes c w m c' w (upd m i (shutB (m i))) ∧ WR base S0 w0 c' (upd m i (shutB (m i))) w := by
  have same : shutB (m i) = m i → ∃ c', Goes c w m c' w (upd m i (shutB (m i))) ∧ WR base S0 w0 c' (upd m i (shutB (m i))) w := fun e => by
    have : upd m i (shutB (m i)) = m := by
      funext j
      by_cases hj : j = i
      · subst hj; rw [upd_same, e]
      · rw [upd_ne _ _ hj]
    rw [this]
    exact ⟨c, Goes.refl _ _ _, h⟩
  cases hm : m i with
  | none => exact hm ▸ same (by rw [hm]; rfl)
  | some b =>
    cases b with
    | box cs =>
      rw [hm] at hp
      obtain ⟨g, r, _⟩ := h.shut hm (ds := cs.map clo0) fun c' vs hS _ h4 => (clo0L_ok h4 hp).mono fun x y _ h => h.mono hS fun _ _ _ => rfl
      exact ⟨_, g, r⟩
    | _ => exact hm ▸ same (by rw [hm]; rfl)
theorem shuts (ids : List Nat) : ∀ {c : Ctx} {m : Mem}, WR base S0 w0 c m w → (∀ i ∈ ids, plainB (m i)) → ∃ c', Goes c w m c' w (mrg ids (fun i => shutB (m i)) m) ∧ WR base S0 w0 c' (mrg ids (fun i => shutB (m i)) m) w := by
  induction ids with
  | nil => intro c m h _; exact ⟨c, by exact Goes.refl _ _ _, h⟩
  | cons i ids ih =>
    intro c m h hp
    obtain ⟨c1, g1, r1⟩ := shut_one h (hp i (by simp))
    obtain ⟨c2, g2, r2⟩ := ih r1 fun j hj => by
      by_cases e : j = i
      · subst e; rw [upd_same]; exact plain_shut _
      · rw [upd_ne _ _ e]; exact hp j (by simp [hj])
    have key : mrg ids (fun j => shutB (upd m i (shutB (m i)) j)) (upd m i (shutB (m i))) = mrg (i :: ids) (fun j => shutB (m j)) m := by
      funext j
      by_cases hj : j = i
      · subst hj
        have h1 : upd m j (shutB (m j)) j = shutB (m j) := upd_same _ _ _
        simp only [mrg, hasN, h1, shutB_idem]
        cases hasN ids j <;> simp
      · have h1 : upd m i (shutB (m i)) j = m j := upd_ne _ _ hj
        have h3 : (i == j) = false := by simpa using fun e => hj e.symm
        simp only [mrg, hasN, h1, h3, Bool.false_or]
    rw [key] at g2 r2
    exact ⟨c2, g1.trans g2, r2⟩
theorem makeFunc_ok {o : Oper} {f : FuncId} {first caps : Array Operand} (ho : o.op = .makeFunc (.func f) first caps) : OpOK P o σ (rMakeFunc f (first.toList.map (ev σ)) (caps.toList.map (ev σ))) := by
  intro ro base S0 w0 c a w K Q h1 h2 h3 h4
  unfold rMakeFunc at h3 h4
  simp only [Req.eff, Req.mem, cond_true] at h3 h4
  generalize hids : capIds (caps.toList.map (ev σ)) = ids at h3 h4
  obtain ⟨hcaps, hfirst⟩ := h3
  have hmm : mrg ids (fun i => shutB (only ids σ.m i)) σ.m = mrg ids (fun i => shutB (σ.m i)) σ.m := by
    funext i
    unfold mrg
    cases h : hasN ids i with
    | false => rfl
    | true => simp only [cond_true, only_in (hasN_iff.1 h)]
  rw [hmm] at h4
  -- which boxes are asked of
  have hin : ∀ (l : List Operand), capsOK (only ids σ.m) (l.map (ev σ)) → (∀ i ∈ capIds (l.map (ev σ)), i ∈ ids) → (∀ i ∈ capIds (l.map (ev σ)), plainB (σ.m i)) := by
    intro l
    induction l with
    | nil => intro _ _ i hi; simp [capIds] at hi
    | cons x l ih =>
      intro hc hi
      simp only [List.map_cons] at hc hi ⊢
      generalize ev σ x = y at hc hi
      cases y with
      | one z =>
        cases z with
        | ptr id off =>
          have hid : id ∈ ids := hi id (by simp [capIds])
          intro i hii
          simp only [capIds, List.mem_cons] at hii
          rcases hii with rfl | hii
          · have h0 := hc.1
            cases off with
            | zero =>
              simp only [capOK, only_in hid] at h0
              cases hm : σ.m i with
              | none => trivial
              | some b => cases b <;> simp_all [plainB]
            | succ n => exact h0.elim
          · exact ih hc.2 (fun k hk => hi k (by simp [capIds, hk])) i hii
        | _ => exact fun i hii => ih hc.2 (fun k hk => hi k (by simpa [capIds] using hk)) i (by simpa [capIds] using hii)
      | _ => exact fun i hii => ih hc.2 (fun k hk => hi k (by simpa [capIds] using hk)) i (by simpa [capIds] using hii)
  obtain ⟨c1, g1, r1⟩ := shuts ids h2 fun i hi => hin caps.toList hcaps (fun i hi => by rw [← hids]; exact hi) i (by rw [hids]; exact hi)
  have hcv : ∀ (l : List Operand), capsOK (only ids σ.m) (l.map (ev σ)) → (∀ i ∈ capIds (l.map (ev σ)), i ∈ ids) → F2 (R c1.S w) ((l.map (ev σ)).map (capCV (only ids σ.m))) (l.map a.eval) := by
    intro l
    induction l with
    | nil => intro _ _; exact F2.nil
    | cons x l ih =>
      intro hc hi
      have hv := (ev_ok h1 x).goes g1
      simp only [List.map_cons] at hc hi ⊢
      refine F2.cons ?_ (ih hc.2 fun k hk => hi k ?_)
      · generalize ev σ x = y at hc hi hv
        cases y with
        | one z =>
          cases z with
          | ptr id off =>
            have hid : id ∈ ids := hi id (by simp [capIds])
            have h0 := hc.1
            cases off with
            | zero =>
              obtain ⟨_, hp⟩ := hv
              simp only [capOK, only_in hid] at h0
              have hm' : mrg ids (fun i => shutB (σ.m i)) σ.m id = shutB (σ.m id) := by simp [mrg, hasN_iff.2 hid]
              have fin : ∀ ds, shutB (σ.m id) = some (.fbox ds) → R c1.S w (.ptrc 0 ds 0) (a.eval x) := fun ds hd => by
                obtain ⟨p1, vs, p2, p3⟩ := r1.blk id _ (hm'.trans hd)
                rw [hp]
                exact R.ptr p1 p2.1 p3 p2.2
              simp only [capCV, only_in hid]
              cases hm : σ.m id with
              | none => rw [hm] at h0; exact h0.elim
              | some b =>
                cases b with
                | box cs => exact fin _ (by rw [hm]; rfl)
                | fbox cs => exact fin _ (by rw [hm]; rfl)
                | _ => rw [hm] at h0; exact h0.elim
            | succ n => exact h0.elim
          | c y => exact hv
          | _ => exact hc.1.elim
        | _ => exact hc.1.elim
      · generalize ev σ x = y
        cases y with
        | one z => cases z <;> simp [capIds, hk]
        | _ => simpa [capIds] using hk
  have hF := hcv caps.toList hcaps (fun i hi => by rw [← hids]; exact hi)
  have hex : (execOp a.eval o).run P w = .ok (.value (.func (.func f) (first.map a.eval) (caps.map a.eval))) w := by
    simp [execOp, ho, Instr.makeFunc]
  refine wpo_run (hex) rfl ?_
  refine h4 c1 w _ g1 r1 ?_
  have ec : caps.map a.eval = (caps.toList.map a.eval).toArray := by rw [← Array.toList_map, Array.toArray_toList]
  have ef : first.map a.eval = (first.toList.map a.eval).toArray := by rw [← Array.toList_map, Array.toArray_toList]
  rw [ec, ef]
  generalize first.toList = fl at hfirst
  match fl, hfirst with
  | [], _ => exact R.fn (first := []) (us := []) rfl (fun i x v h => by simp at h) hF.1 hF.2
  | [x], hfirst =>
    simp only [List.map_cons, List.map_nil] at hfirst ⊢
    have hv := (ev_ok h1 x).goes g1
    generalize ev σ x = y at hfirst hv
    cases y with
    | agg cs =>
      obtain ⟨vs, e1, e2⟩ := hv
      have := clo0L_ok e2 hfirst
      rw [e1]
      exact R.meth this.1 this.2 hF.1 hF.2
    | one z =>
      cases z with
      | c q =>
        have h0 := F2.cons (show R c1.S w q (a.eval x) from hv) F2.nil
        exact R.fn (first := [q]) (us := [a.eval x]) h0.1 h0.2 hF.1 hF.2
      | _ => exact hfirst.elim
    | _ => exact hfirst.elim
  | x :: y :: l, hfirst =>
    simp only [List.map_cons] at hfirst
    generalize ev σ x = z at hfirst
    cases z with
    | one q => cases q <;> exact hfirst.elim
    | _ => exact hfirst.elim
/-- A function that is a value. -/
theorem fnval_ok {fx : Operand} {f : FuncId} {ag : Bool} {first caps : List CV} (hx : ev σ fx = .one (.c (.fn f ag first caps))) {c : Ctx} {w : World} {a : Act} (h1 : Tm c w σ a) :
    ∃ ps qs : List Value, a.eval fx = .func (.func f) ps.toArray qs.toArray ∧ F2 (RC c.S w) (fnFirst ag first) ps ∧ F2 (RC c.S w) (caps.map .one) qs := by
  have hv := ev_ok h1 fx
  rw [hx] at hv
  have hv : R c.S w (.fn f ag first caps) (a.eval fx) := hv
  generalize a.eval fx = v at hv
  cases hv with
  | fn k1 k2 k3 k4 => exact ⟨_, _, rfl, F2.toRC k1 k2, F2.toRC k3 k4⟩
  | meth k1 k2 k3 k4 => exact ⟨[_], _, rfl, F2.cons ⟨_, rfl, k1, k2⟩ F2.nil, F2.toRC k3 k4⟩
end
end Go.Proofs.Ytgkfbikffcmmdaa.Abs
