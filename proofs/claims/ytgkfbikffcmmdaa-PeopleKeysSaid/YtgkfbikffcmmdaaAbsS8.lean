/- Each operation does what was said: parts of rows, rows that are made, taken over, written. -/
import Derived.Test.YtgkfbikffcmmdaaAbsS7
import Derived.Lib.AppendZeros
set_option linter.unusedSimpArgs false
set_option linter.unusedVariables false
set_option maxRecDepth 100000
namespace Go.Proofs.Ytgkfbikffcmmdaa.Abs
open Go.RowKit
section
variable {P : Program} {c : Ctx} {w : World} {σ : St} {a : Act} {base : Nat} {S0 : Sh} {w0 : W0}

theorem take_flat {α : Type} {sz : Nat} : ∀ {vss : List (List α)} (l : Nat), (∀ u ∈ vss, u.length = sz) → vss.flatten.take (l * sz) = (vss.take l).flatten := by
  intro vss
  induction vss with
  | nil => intro l _; simp
  | cons v vss ih =>
    intro l h
    cases l with
    | zero => simp
    | succ l =>
      have hv := h v (by simp)
      rw [List.flatten_cons, List.take_succ_cons, List.flatten_cons, Nat.succ_mul, Nat.add_comm, List.take_append, hv, Nat.add_sub_cancel_left, List.take_of_length_le (by omega), ih l fun u hu => h u (by simp [hu])]
theorem drop_flat {α : Type} {sz : Nat} : ∀ {vss : List (List α)} (l : Nat), (∀ u ∈ vss, u.length = sz) → vss.flatten.drop (l * sz) = (vss.drop l).flatten := by
  intro vss
  induction vss with
  | nil => intro l _; simp
  | cons v vss ih =>
    intro l h
    cases l with
    | zero => simp
    | succ l =>
      have hv := h v (by simp)
      rw [List.flatten_cons, List.drop_succ_cons, Nat.succ_mul, Nat.add_comm, List.drop_append, hv, Nat.add_sub_cancel_left, List.drop_of_length_le (by omega), List.nil_append, ih l fun u hu => h u (by simp [hu])]
theorem set_flat {α : Type} {sz : Nat} {off : Nat} {ts : List α} (hfit : off + ts.length ≤ sz) : ∀ {vss : List (List α)} {i : Nat} {v : List α}, (∀ u ∈ vss, u.length = sz) → vss[i]? = some v → (vss.set i (splice v off ts)).flatten = splice vss.flatten (i * sz + off) ts := by
  intro vss
  induction vss with
  | nil => intro i v _ h; simp at h
  | cons x vss ih =>
    intro i v h hi
    have hx := h x (by simp)
    cases i with
    | zero =>
      simp at hi
      subst hi
      simp only [List.set_cons_zero, List.flatten_cons, splice, Nat.zero_mul, Nat.zero_add]
      rw [List.take_append_of_le_length (by omega), List.drop_append_of_le_length (by omega)]
      simp only [List.append_assoc]
    | succ i =>
      simp only [List.getElem?_cons_succ] at hi
      have := ih (fun u hu => h u (by simp [hu])) hi
      rw [List.set_cons_succ, List.flatten_cons, this, List.flatten_cons]
      unfold splice
      rw [show (i + 1) * sz + off = x.length + (i * sz + off) by rw [hx, Nat.succ_mul]; omega, List.take_length_add_append, Nat.add_assoc x.length, List.drop_length_add_append]
      simp only [List.append_assoc]
theorem F2.set {α β : Type} {Q : α → β → Prop} {xs : List α} {ys : List β} (h : F2 Q xs ys) {x : α} {y : β} (hxy : Q x y) (i : Nat) : F2 Q (xs.set i x) (ys.set i y) := ⟨by simp [h.1], fun j a b ha hb => by
  rw [List.getElem?_set] at ha hb
  by_cases hij : i = j
  · subst hij
    rw [if_pos rfl] at ha hb
    by_cases hl : i < xs.length
    · rw [if_pos hl] at ha
      rw [if_pos (h.1 ▸ hl)] at hb
      cases ha; cases hb; exact hxy
    · rw [if_neg hl] at ha; simp at ha
  · rw [if_neg hij] at ha hb
    exact h.2 j a b ha hb⟩
/-- The first part of a row of the call's own goes over to another name; of the old one nothing is known any more. -/
theorem WR.part {m : Mem} (h : WR base S0 w0 c m w) {id d : Nat} {e : TypeId} {sz : Nat} {xs : List (List CV)} (hm : m id = some (.rows e sz xs)) (hd : m d = none) {n : Nat} (hn : n ≤ xs.length) {v : Value}
    (hv : ∃ ad cap, c.ψ id = .slice ad xs.length cap ∧ v = .slice ad n cap) :
    let c' : Ctx := { c with ψ := upd c.ψ d v }
    let m' := upd (upd m id (some (.gone (xs.length + 1)))) d (some (.rows e sz (xs.take n)))
    Goes c w m c' w m' ∧ WR base S0 w0 c' m' w ∧ VA c' w m' (.own d n) v := by
  intro c' m'
  obtain ⟨ad, cap, hv1, rfl⟩ := hv
  obtain ⟨h1, h2, h3, h4, vss, h5, h6⟩ := h.blk id _ hm
  have hid : id ≠ d := fun e => by rw [e, hd] at hm; simp at hm
  have hszv : ∀ u ∈ vss, u.length = sz := fun u hu => by
    obtain ⟨i, hi, rfl⟩ := List.getElem_of_mem hu
    obtain ⟨x, hx, hq⟩ := h5.get' (List.getElem?_eq_getElem hi)
    rw [← hq.1]
    exact h1 x (List.mem_of_getElem? hx)
  have hm' : ∀ i, i ≠ d → i ≠ id → m' i = m i := fun i e1 e2 => by simp only [m']; rw [upd_ne _ _ e1, upd_ne _ _ e2]
  have hm'id : m' id = some (.gone (xs.length + 1)) := by simp only [m']; rw [upd_ne _ _ hid, upd_same]
  have hm'd : m' d = some (.rows e sz (xs.take n)) := upd_same _ _ _
  have hob : (Value.slice ad n cap).ownBlock = (c.ψ id).ownBlock := by rw [hv1]; cases ad <;> rfl
  have g : Goes c w m c' w m' := by
    refine ⟨fun _ _ h => h, fun _ b hb => rfl, fun i hi => ⟨rfl, ?_⟩, fun i L hL => ?_⟩
    · have e1 : i ≠ d := fun e => by rw [e] at hi; simp [isBox, hd] at hi
      have e2 : i ≠ id := fun e => by rw [e] at hi; simp [isBox, hm] at hi
      simp only [isBox, hm' i e1 e2]; exact hi
    · have e1 : i ≠ d := fun e => by rw [e] at hL; simp [rowLen, hd] at hL
      by_cases e2 : i = id
      · subst e2
        have : L = xs.length := by simpa [rowLen, hm] using hL.symm
        subst this
        exact ⟨xs.length + 1, by simp [rowLen, hm'id], by omega, fun e => by omega⟩
      · refine ⟨L, by simp only [rowLen, hm' i e1 e2]; exact hL, Nat.le_refl _, fun _ => ⟨upd_ne _ _ e1, fun e sz xs hx => ⟨xs, by simp only [rowsOf, hm' i e1 e2] at hx; exact hx⟩⟩⟩
  have hbo : ∀ i, i ≠ d → i ≠ id → blockOf c' m' i = blockOf c m i := fun i e1 e2 => by simp [blockOf, hm' i e1 e2, c', upd_ne _ _ e1]
  have hboid : blockOf c' m' id = none := by simp [blockOf, hm'id]
  have hbod : blockOf c' m' d = blockOf c m id := by simp [blockOf, hm'd, hm, c', upd_same, hob]
  refine ⟨g, ?_, ?_⟩
  · refine h.step g (fun _ b hb => .inl hb) h.lt (.of (Below.refl _ _)) (fun i bk hi => ?_) (fun i i' bk p1 p2 => ?_)
    · by_cases e1 : i = d
      · right
        subst e1
        rw [hm'd] at hi
        cases hi
        have hc' : c'.ψ i = .slice ad n cap := upd_same _ _ _
        have hl : (xs.take n).length = n := by simp; omega
        refine ⟨fun us hu => h1 us (List.mem_of_mem_take hu), h2, by rw [hl]; omega, fun k hk => ?_, vss.take n, (h5.take n).mono fun x y _ h => h.mono fun x y _ h => h.mono g.S g.heap, ?_⟩
        · rw [hc', hob] at hk; exact h4 k hk
        · rw [hc', hl]
          rcases h6.2 with ⟨f1, f2⟩ | ⟨gg, cap2, cur, f1, f2, f3, f4, f5, f6, f7⟩
          · rw [hv1] at f1
            simp only [Value.slice.injEq] at f1
            obtain ⟨rfl, f3, rfl⟩ := f1
            have hn0 : n = 0 := by omega
            subst hn0
            exact ⟨by simp, .inl ⟨rfl, rfl⟩⟩
          · rw [hv1] at f1
            simp only [Value.slice.injEq] at f1
            obtain ⟨rfl, _, rfl⟩ := f1
            refine ⟨?_, .inr ⟨gg, cap, cur, rfl, f2, f3, by omega, f5, f6, ?_⟩⟩
            · rw [← take_flat n hszv, List.length_take, h6.1, Nat.min_eq_left (Nat.mul_le_mul_right _ hn)]
            · rw [← take_flat n hszv, ← f7, List.take_take, Nat.min_eq_left (Nat.mul_le_mul_right _ hn)]
      · by_cases e2 : i = id
        · right
          subst e2
          rw [hm'id] at hi
          cases hi
          show xs.length + 1 ≤ 1073741825
          omega
        · left
          refine ⟨by rw [← hm' i e1 e2]; exact hi, rfl, upd_ne _ _ e1, fun k hk => ⟨rfl, fun _ => Iff.rfl⟩⟩
    · have e1 : i ≠ id := fun e => by rw [e, hboid] at p1; simp at p1
      have e2 : i' ≠ id := fun e => by rw [e, hboid] at p2; simp at p2
      by_cases d1 : i = d
      · by_cases d2 : i' = d
        · rw [d1, d2]
        · rw [d1, hbod] at p1
          rw [hbo i' d2 e2] at p2
          exact absurd (h.inj id i' bk p1 p2).symm e2
      · by_cases d2 : i' = d
        · rw [d2, hbod] at p2
          rw [hbo i d1 e1] at p1
          exact absurd (h.inj i id bk p1 p2) e1
        · rw [hbo i d1 e1] at p1
          rw [hbo i' d2 e2] at p2
          exact h.inj i i' bk p1 p2
  · refine ⟨⟨_, _, rfl⟩, n, by simp [rowLen, hm'd]; omega, Nat.le_refl _, fun _ => (upd_same _ _ _).symm⟩
theorem nil_run {T e : TypeId} {ie : TypeInfo} (hd : P.underlying T = some (.slice e)) (hie : P.info? e = some ie) {vl vh vm : Option Value} (hlo : vl = none ∨ ∃ k, vl = some (.int k 0)) (hhi : (vm = none ∧ (vh = none ∨ ∃ k, vh = some (.int k 0))) ∨ ((∃ k, vm = some (.int k 0)) ∧ ∃ k, vh = some (.int k 0))) :
    (Instr.sliceAt T (.slice none 0 0) vl vh vm).run P w = .ok (.slice none 0 0) w := by
  have hb : ∀ k code, (Instr.sliceBound (.int k 0) 0 code).run P w = .ok 0 w := fun k code => by simpa using bound_run (P := P) (w := w) (k := k) (i := 0) (y := 0) (code := code) (by omega) (by omega)
  have key : (Instr.sliceBounds true 0 0 vl vh vm).run P w = .ok (0, 0, 0) w := by
    rcases hlo with rfl | ⟨k1, rfl⟩ <;> rcases hhi with ⟨rfl, rfl | ⟨k2, rfl⟩⟩ | ⟨⟨k3, rfl⟩, k2, rfl⟩ <;> simp [Instr.sliceBounds, hb]
  have := run_sizeOf (P := P) (w := w) hie
  simp [Instr.sliceAt, Instr.slice, run_underlying hd, key, this]
theorem own_val (h : Tm c w σ a) {x : Operand} {id n : Nat} (hx : ev σ x = .one (.own id n)) {e : TypeId} {sz : Nat} {xs : List (List CV)} (hm : σ.m id = some (.rows e sz xs)) (hn : xs.length = n) : a.eval x = c.ψ id ∧ ∃ ad cap, c.ψ id = .slice ad xs.length cap := by
  have hv := ev_ok h x
  rw [hx] at hv
  obtain ⟨⟨ad, k, he⟩, L, hL, hn', hq⟩ := hv
  have hL' : xs.length = L := by simpa [rowLen, hm] using hL
  have := hq (by omega)
  exact ⟨this, ad, k, by rw [← this, he, hn]⟩
theorem froz_val (h : Tm c w σ a) (h2 : WR base S0 w0 c σ.m w) {x : Operand} {id n : Nat} (hx : ev σ x = .one (.own id n)) {xs : List (List CV)} (hm : σ.m id = some (.froz xs)) (hn : xs.length = n) : R c.S w (.row xs) (a.eval x) := by
  have hv := ev_ok h x
  rw [hx] at hv
  obtain ⟨_, L, hL, hn', hq⟩ := hv
  have hL' : xs.length = L := by simpa [rowLen, hm] using hL
  rw [show a.eval x = c.ψ id from hq (by omega)]
  exact h2.blk id _ hm
theorem lent_val (h : Tm c w σ a) (h2 : WR base S0 w0 c σ.m w) {x : Operand} {id n j : Nat} (hx : ev σ x = .one (.own id n)) {e : TypeId} {sz : Nat} {xs : List (List CV)} (hm : σ.m id = some (.lent j e sz xs)) (hn : xs.length = n) : R c.S w (.rowc j xs) (a.eval x) ∧ ∀ us ∈ xs, us.length = sz := by
  have hv := ev_ok h x
  rw [hx] at hv
  obtain ⟨_, L, hL, hn', hq⟩ := hv
  have hL' : xs.length = L := by simpa [rowLen, hm] using hL
  rw [show a.eval x = c.ψ id from hq (by omega)]
  obtain ⟨_, p1, p2, p3, p4, vss, p5, p6⟩ := h2.blk id _ hm
  exact ⟨row_shown j p1 p5 p6 fun g hg => (p4 g hg j).2 rfl, p1⟩
theorem mrg_self {id : Nat} {m : Mem} : mrg [id] (frz (only [id] m)) m = upd m id (frzB (m id)) := by
  rw [mrg_one (b := frzB (m id)) (by simp [frz, only_same])]
theorem mrg_keep {ids : List Nat} {m : Mem} : mrg ids (only ids m) m = m := by
  funext i
  unfold mrg
  cases hi : hasN ids i with
  | false => rfl
  | true => exact only_in (hasN_iff.1 hi)
theorem froz_own (h : Tm c w σ a) (h2 : WR base S0 w0 c σ.m w) {x : Operand} {id n : Nat} (hx : ev σ x = .one (.own id n)) {e : TypeId} {sz : Nat} {xs : List (List CV)} (hm : σ.m id = some (.rows e sz xs)) (hn : xs.length = n) :
    ∃ c', Goes c w σ.m c' w (mrg [id] (frz (only [id] σ.m)) σ.m) ∧ WR base S0 w0 c' (mrg [id] (frz (only [id] σ.m)) σ.m) w ∧ R c'.S w (.row xs) (a.eval x) ∧ ∀ us ∈ xs, us.length = sz := by
  have hmm : mrg [id] (frz (only [id] σ.m)) σ.m = upd σ.m id (some (.froz xs)) := by rw [mrg_self, hm]; rfl
  obtain ⟨g, r, hr⟩ := h2.freeze hm
  rw [hmm]
  obtain ⟨hv, _⟩ := own_val h hx hm hn
  exact ⟨_, g, r, by rw [hv]; exact hr, (h2.blk id _ hm).1⟩
theorem slice_ok {o : Oper} {T : TypeId} {x : Operand} {lo hi : Option Operand} (ho : o.op = .slice T x lo hi none) : OpOK P o σ (rSlice P o.dst T (ev σ x) (lo.map (ev σ)) (hi.map (ev σ))) := by
  have hex : ∀ (a : Act) (w : World) (u : Value), (Instr.sliceAt T (a.eval x) (lo.map a.eval) (hi.map a.eval) none).run P w = .ok u w → (execOp a.eval o).run P w = .ok (.value u) w := fun a w u h => by simp [execOp, ho, h]
  unfold rSlice
  split
  · rename_i s1 s2 s3 s4 e esz ht
    obtain ⟨hd, ie, z, hie, hz, hsz, hby, hzs, hpos, hz1⟩ := slice_shape ht
    split
    · rename_i kc xs hx
      split
      · rename_i l h hl hh
        refine OpOK.val fun base S0 w0 c a w h1 h2 h3 => ?_
        obtain ⟨e1, e2, e3, e4⟩ := h3
        have hv := ev_ok h1 x
        rw [hx] at hv
        obtain ⟨u, r1, r2⟩ := slice_run (w := w) hd hie hsz hv e4 (bnd_ok h1 hl) (bnd_ok h1 hh) e1 e2 e3
        exact ⟨u, hex a w u r1, r2⟩
      · exact OpOK.bad
    · rename_i kc xs hx
      split
      · rename_i l h hl hh
        refine OpOK.val fun base S0 w0 c a w h1 h2 h3 => ?_
        obtain ⟨e1, e2, e3, e4⟩ := h3
        have hv := ev_ok h1 x
        rw [hx] at hv
        obtain ⟨_, _, hv⟩ := hv
        obtain ⟨u, r1, r2⟩ := slice_run (w := w) hd hie hsz hv e4 (bnd_ok h1 hl) (bnd_ok h1 hh) e1 e2 e3
        exact ⟨u, hex a w u r1, r2⟩
      · exact OpOK.bad
    · rename_i hx
      split
      · rename_i l h hl hh
        refine OpOK.val fun base S0 w0 c a w h1 h2 h3 => ?_
        obtain ⟨rfl, rfl⟩ := h3
        have hv := ev_ok h1 x
        rw [hx] at hv
        have hv : a.eval x = .slice none 0 0 := hv
        refine ⟨.slice none 0 0, hex a w _ ?_, rfl⟩
        rw [hv]
        exact nil_run hd hie ((bnd_ok h1 hl).imp (·.1) id) (.inl ⟨rfl, (bnd_ok h1 hh).imp (·.1) id⟩)
      · exact OpOK.bad
    · rename_i id n hx
      split
      · rename_i hlo
        have hlo0 : lo = none := by cases lo with
          | none => rfl
          | some y => simp at hlo
        subst hlo0
        split
        · rename_i d h hdst hh
          intro ro base S0 w0 c a w K Q h1 h2 h3 h4
          have o1 : only [id, d] σ.m id = σ.m id := only_in (by simp)
          have o2 : only [id, d] σ.m d = σ.m d := only_in (by simp)
          simp only [Req.eff, Req.mem, cond_true, o1, o2] at h3 h4
          split at h3
          · rename_i e' sz xs hm hmd
            simp only [hm, hmd] at h4
            obtain ⟨e1, e2, e3⟩ := h3
            obtain ⟨v1, ad, cap, v2⟩ := own_val h1 hx hm e1
            have hnle : h.toNat ≤ xs.length := by omega
            obtain ⟨g, r1, r2⟩ := h2.part hm hmd hnle ⟨ad, cap, v2, rfl⟩
            have hid : id ≠ d := fun e => by rw [e, hmd] at hm; simp at hm
            have hcap : xs.length ≤ cap := by
              rcases (h2.blk id _ hm).2.2.2.2 with ⟨vss, _, h6⟩
              rcases h6.2 with ⟨f1, f2⟩ | ⟨gg, cap2, cur, f1, f2, f3, f4, _⟩
              · omega
              · rw [v2] at f1
                simp only [Value.slice.injEq] at f1
                omega
            have hrun : (Instr.sliceAt T (a.eval x) ((none : Option Operand).map a.eval) (hi.map a.eval) none).run P w = .ok (.slice ad h.toNat cap) w := by
              have hb2 : h ≤ (cap : Int) := by omega
              have key : (Instr.sliceBounds true xs.length cap none (hi.map a.eval) none).run P w = .ok (0, h.toNat, cap) w := by
                rcases bnd_ok h1 hh with ⟨q1, q2⟩ | ⟨k, q1⟩
                · rw [q1]; simp [Instr.sliceBounds, q2, e1]
                · rw [q1]; simp [Instr.sliceBounds, bound_run e2 hb2]
              have := run_sizeOf (P := P) (w := w) hie
              rw [v1, v2]
              have hz : ∀ q : Addr, q.add 0 = q := fun q => by unfold Addr.add; cases q with | mk b o s => cases s <;> simp
              simp [Instr.sliceAt, Instr.slice, run_underlying hd, key, this]
              cases ad <;> simp [hz]
            refine wpo_run (hex a w _ hrun) rfl ?_
            have hmm : mrg [id, d] (fun i => bif i == d then some (.rows e' sz (xs.take h.toNat)) else some (.gone (n + 1))) σ.m = upd (upd σ.m id (some (.gone (xs.length + 1)))) d (some (.rows e' sz (xs.take h.toNat))) := by
              funext i
              unfold mrg upd hasN
              by_cases i1 : i = d
              · subst i1; simp [hasN]
              · have : (d == i) = false := by simpa using fun e => i1 e.symm
                have : (i == d) = false := by simpa using i1
                by_cases i2 : i = id
                · subst i2; simp [hasN, i1, e1, *]
                · have : (id == i) = false := by simpa using fun e => i2 e.symm
                  simp [hasN, i1, i2, *]
            rw [hmm] at h4
            exact h4 _ _ _ g r1 r2
          · rename_i xs hm
            obtain ⟨e1, e2, e3, e4⟩ := h3
            have hv := froz_val h1 h2 hx hm e1
            obtain ⟨u, r1, r2⟩ := slice_run (P := P) (w := w) (l := 0) hd hie hsz hv e4 (vl := (none : Option Operand).map a.eval) (.inl ⟨rfl, rfl⟩) (bnd_ok h1 (e1 ▸ hh)) (by omega) e2 (by omega)
            have h4' := h4
            simp only [hm] at h4'
            rw [mrg_keep] at h4'
            refine wpo_run (hex a w _ r1) rfl ?_
            exact h4' _ _ _ (Goes.refl _ _ _) h2 r2
          · rename_i j e' sz xs hm
            obtain ⟨e1, e2, e3, e4⟩ := h3
            obtain ⟨hv, hrow⟩ := lent_val h1 h2 hx hm e1
            obtain ⟨u, r1, r2⟩ := slice_run (P := P) (w := w) (l := 0) hd hie hsz hv (by rw [← e4]; exact hrow) (vl := (none : Option Operand).map a.eval) (.inl ⟨rfl, rfl⟩) (bnd_ok h1 (e1 ▸ hh)) (by omega) e2 (by omega)
            have h4' := h4
            simp only [hm] at h4'
            rw [mrg_keep] at h4'
            refine wpo_run (hex a w _ r1) rfl ?_
            exact h4' _ _ _ (Goes.refl _ _ _) h2 r2
          · exact h3.elim
        · exact OpOK.bad
      · rename_i y hlo
        split
        · rename_i l h hl hh
          intro ro base S0 w0 c a w K Q h1 h2 h3 h4
          simp only [Req.eff, Req.mem, cond_true, only_same] at h3 h4
          split at h3
          · rename_i e' sz xs hm
            simp only [hm] at h4
            obtain ⟨e1, e2, e3, e4, e5⟩ := h3
            obtain ⟨c', g, r, hv, hrow⟩ := froz_own h1 h2 hx hm e1
            obtain ⟨u, r1, r2⟩ := slice_run (P := P) (w := w) hd hie hsz hv (by rw [← e5]; exact hrow) (bnd_ok (lo := lo) h1 hl) (bnd_ok h1 (e1 ▸ hh)) e2 e3 (by omega)
            refine wpo_run (hex a w _ r1) rfl ?_
            exact h4 _ _ _ g r r2
          · rename_i xs hm
            simp only [hm] at h4
            obtain ⟨e1, e2, e3, e4, e5⟩ := h3
            have hv := froz_val h1 h2 hx hm e1
            obtain ⟨u, r1, r2⟩ := slice_run (P := P) (w := w) hd hie hsz hv e5 (bnd_ok (lo := lo) h1 hl) (bnd_ok h1 (e1 ▸ hh)) e2 e3 (by omega)
            have hmm : mrg [id] (frz (only [id] σ.m)) σ.m = σ.m := by
              rw [mrg_self, hm]
              funext i
              by_cases hi : i = id
              · subst hi; rw [upd_same, hm]; rfl
              · rw [upd_ne _ _ hi]
            rw [hmm] at h4
            refine wpo_run (hex a w _ r1) rfl ?_
            exact h4 _ _ _ (Goes.refl _ _ _) h2 r2
          · rename_i j e' sz xs hm
            simp only [hm] at h4
            obtain ⟨e1, e2, e3, e4, e5⟩ := h3
            obtain ⟨hv, hrow⟩ := lent_val h1 h2 hx hm e1
            obtain ⟨u, r1, r2⟩ := slice_run (P := P) (w := w) hd hie hsz hv (by rw [← e5]; exact hrow) (bnd_ok (lo := lo) h1 hl) (bnd_ok h1 (e1 ▸ hh)) e2 e3 (by omega)
            have hmm : mrg [id] (frz (only [id] σ.m)) σ.m = σ.m := by
              rw [mrg_self, hm]
              funext i
              by_cases hi : i = id
              · subst hi; rw [upd_same, hm]; rfl
              · rw [upd_ne _ _ hi]
            rw [hmm] at h4
            refine wpo_run (hex a w _ r1) rfl ?_
            exact h4 _ _ _ (Goes.refl _ _ _) h2 r2
          · exact h3.elim
        · exact OpOK.bad
    · exact OpOK.bad
  · exact OpOK.bad
theorem slice3_ok {o : Oper} {T : TypeId} {x : Operand} {lo hi : Option Operand} {mx : Operand} (ho : o.op = .slice T x lo hi (some mx)) : OpOK P o σ (rSlice3 P T (ev σ x) (lo.map (ev σ)) (hi.map (ev σ)) (ev σ mx)) := by
  have hex : ∀ (a : Act) (w : World) (u : Value), (Instr.sliceAt T (a.eval x) (lo.map a.eval) (hi.map a.eval) (some (a.eval mx))).run P w = .ok u w → (execOp a.eval o).run P w = .ok (.value u) w := fun a w u h => by simp [execOp, ho, h]
  have some_ok : ∀ {c : Ctx} {w : World} {a : Act} {d : Nat} {h : Int}, Tm c w σ a → (hi.map (ev σ)).isSome = true → bndOf (hi.map (ev σ)) d = some h → ∃ k, hi.map a.eval = some (.int k h) := fun h1 e hh => by
    rcases bnd_ok h1 hh with ⟨q1, _⟩ | q
    · cases hi with
      | none => simp at e
      | some y => simp at q1
    · exact q
  have mx_ok : ∀ {c : Ctx} {w : World} {a : Act} {h : Int}, Tm c w σ a → bndOf (some (ev σ mx)) 0 = some h → ∃ k, a.eval mx = .int k h := fun {c w a h} h1 hh => by
    rcases bnd_ok (lo := some mx) h1 hh with ⟨q1, _⟩ | ⟨k, q⟩
    · simp at q1
    · exact ⟨k, by simpa using q⟩
  have row : ∀ {c : Ctx} {w : World} {a : Act} {S : Sh} {e : TypeId} {esz : Nat} {ie : TypeInfo} {kc : Nat} {xs : List (List CV)} {l h : Int}, P.underlying T = some (.slice e) → P.info? e = some ie → ie.size = esz → Tm c w σ a → R S w (.rowc kc xs) (a.eval x) → (∀ us ∈ xs, us.length = esz) → bndOf (lo.map (ev σ)) 0 = some l → bndOf (hi.map (ev σ)) xs.length = some h → bndOf (some (ev σ mx)) 0 = some h → (hi.map (ev σ)).isSome = true → 0 ≤ l → l ≤ h → h ≤ (xs.length : Int) →
      ∃ ad, (execOp a.eval o).run P w = .ok (.value (.slice ad (partOf xs l h).length (partOf xs l h).length)) w ∧ R S w (.rowc kc (partOf xs l h)) (.slice ad (partOf xs l h).length (partOf xs l h).length) := fun {c w a S e esz ie kc xs l h} hd hie hsz h1 hv e4 hl hh hm e0 e1 e2 e3 => by
    obtain ⟨k2, q2⟩ := some_ok h1 e0 hh
    obtain ⟨k3, q3⟩ := mx_ok h1 hm
    obtain ⟨ad, r1, r2⟩ := slice3_run (P := P) (w := w) (k2 := k2) (k3 := k3) hd hie hsz hv e4 (bnd_ok h1 hl) e1 e2 e3
    exact ⟨ad, hex a w _ (by rw [q2, q3]; exact r1), r2⟩
  unfold rSlice3
  split
  · rename_i s1 s2 s3 s4 e esz ht
    obtain ⟨hd, ie, z, hie, hz, hsz, hby, hzs, hpos, hz1⟩ := slice_shape ht
    split
    · rename_i kc xs hx
      split
      · rename_i l h m hl hh hm
        refine OpOK.val fun base S0 w0 c a w h1 h2 h3 => ?_
        obtain ⟨e0, e1, e2, rfl, e3, e4⟩ := h3
        have hv := ev_ok h1 x
        rw [hx] at hv
        obtain ⟨ad, r1, r2⟩ := row hd hie hsz h1 hv e4 hl hh hm e0 e1 e2 e3
        exact ⟨_, r1, ad, rfl, r2⟩
      · exact OpOK.bad
    · rename_i kc xs hx
      split
      · rename_i l h m hl hh hm
        refine OpOK.val fun base S0 w0 c a w h1 h2 h3 => ?_
        obtain ⟨e0, e1, e2, rfl, e3, e4⟩ := h3
        have hv := ev_ok h1 x
        rw [hx] at hv
        obtain ⟨_, _, hv⟩ := hv
        obtain ⟨ad, r1, r2⟩ := row hd hie hsz h1 hv e4 hl hh hm e0 e1 e2 e3
        exact ⟨_, r1, ad, rfl, r2⟩
      · exact OpOK.bad
    · rename_i hx
      split
      · rename_i l h m hl hh hm
        refine OpOK.val fun base S0 w0 c a w h1 h2 h3 => ?_
        obtain ⟨e0, rfl, rfl, rfl⟩ := h3
        have hv := ev_ok h1 x
        rw [hx] at hv
        have hv : a.eval x = .slice none 0 0 := hv
        refine ⟨.slice none 0 0, hex a w _ ?_, rfl⟩
        rw [hv]
        obtain ⟨k3, q3⟩ := mx_ok h1 hm
        exact nil_run hd hie ((bnd_ok h1 hl).imp (·.1) id) (.inr ⟨⟨k3, by rw [q3]⟩, some_ok h1 e0 hh⟩)
      · exact OpOK.bad
    · rename_i id n hx
      split
      · rename_i l h k hl hh hk
        intro ro base S0 w0 c a w K Q h1 h2 h3 h4
        simp only [Req.eff, Req.mem, cond_true, only_same] at h3 h4
        split at h3
        · rename_i e' sz xs hm
          simp only [hm] at h4
          obtain ⟨e0, e1, e2, e3, rfl, e5, e6⟩ := h3
          obtain ⟨c', g, r, hv, hrow⟩ := froz_own h1 h2 hx hm e1
          obtain ⟨ad, r1, r2⟩ := row hd hie hsz h1 hv (by rw [← e6]; exact hrow) hl (e1 ▸ hh) hk e0 e2 e3 (by omega)
          refine wpo_run (r1) rfl ?_
          exact h4 _ _ _ g r ⟨ad, rfl, r2⟩
        · rename_i xs hm
          simp only [hm] at h4
          obtain ⟨e0, e1, e2, e3, rfl, e5, e6⟩ := h3
          have hv := froz_val h1 h2 hx hm e1
          obtain ⟨ad, r1, r2⟩ := row hd hie hsz h1 hv e6 hl (e1 ▸ hh) hk e0 e2 e3 (by omega)
          have hmm : mrg [id] (frz (only [id] σ.m)) σ.m = σ.m := by
            rw [mrg_self, hm]
            funext i
            by_cases hi : i = id
            · subst hi; rw [upd_same, hm]; rfl
            · rw [upd_ne _ _ hi]
          rw [hmm] at h4
          refine wpo_run (r1) rfl ?_
          exact h4 _ _ _ (Goes.refl _ _ _) h2 ⟨ad, rfl, r2⟩
        · rename_i j e' sz xs hm
          simp only [hm] at h4
          obtain ⟨e0, e1, e2, e3, rfl, e5, e6⟩ := h3
          obtain ⟨hv, hrow⟩ := lent_val h1 h2 hx hm e1
          obtain ⟨ad, r1, r2⟩ := row hd hie hsz h1 hv (by rw [← e6]; exact hrow) hl (e1 ▸ hh) hk e0 e2 e3 (by omega)
          have hmm : mrg [id] (frz (only [id] σ.m)) σ.m = σ.m := by
            rw [mrg_self, hm]
            funext i
            by_cases hi : i = id
            · subst hi; rw [upd_same, hm]; rfl
            · rw [upd_ne _ _ hi]
          rw [hmm] at h4
          refine wpo_run (r1) rfl ?_
          exact h4 _ _ _ (Goes.refl _ _ _) h2 ⟨ad, rfl, r2⟩
        · exact h3.elim
      · exact OpOK.bad
    · exact OpOK.bad
  · exact OpOK.bad
theorem cap_ok {o : Oper} {T : TypeId} {x : Operand} (ho : o.op = .call { callee := .builtin .cap, args := #[x], argTypes := #[T] }) : OpOK P o σ (rCap P T (ev σ x)) := by
  unfold rCap
  split
  · rename_i s1 s2 s3 s4 e esz ht
    obtain ⟨hd, _⟩ := slice_shape ht
    have hr : ∀ (a : Act) (w : World) (ad : Option Addr) (n k : Nat), a.eval x = .slice ad n k → (execOp a.eval o).run P w = .ok (.value (.int .i64 k)) w := fun a w ad n k h => by
      simp [execOp, ho, resolve, invoke, builtin, Builtin.cap_, run_underlying hd, h, goInt]
    split
    · rename_i kc xs hx
      refine OpOK.val fun base S0 w0 c a w h1 h2 h3 => ?_
      have hv := ev_ok h1 x
      rw [hx] at hv
      obtain ⟨ad, he, hv⟩ := hv
      obtain ⟨_, _, _, hl1, hl2⟩ := R.slice hv
      exact ⟨_, hr a w ad _ _ he, R.v (okLen (by omega))⟩
    · rename_i hx
      refine OpOK.val fun base S0 w0 c a w h1 h2 h3 => ?_
      have hv := ev_ok h1 x
      rw [hx] at hv
      exact ⟨_, hr a w none 0 0 hv, R.v rfl⟩
    · exact OpOK.bad
  · exact OpOK.bad
theorem made_flat {z : Array Value} {sz : Nat} (hz : z.size = sz) (hp : 0 < sz) (k : Nat) : (madeCells z (k * sz)).toList = (List.replicate k z.toList).flatten := by
  subst hz
  apply List.ext_getElem?
  intro j
  have hl : ∀ (n : Nat), (List.replicate n z.toList).flatten.length = n * z.size := fun n => by
    induction n with
    | zero => simp
    | succ n ih => rw [List.replicate_succ, List.flatten_cons, List.length_append, ih, Nat.succ_mul]; simp; omega
  by_cases hj : j < k * z.size
  · have hget : ∀ (n j : Nat), j < n * z.size → (List.replicate n z.toList).flatten[j]? = some (z[j % z.size]!) := by
      intro n
      induction n with
      | zero => intro j h; simp at h
      | succ n ih =>
        intro j h
        rw [List.replicate_succ, List.flatten_cons]
        by_cases hjz : j < z.size
        · rw [List.getElem?_append_left (by simpa using hjz), Nat.mod_eq_of_lt hjz]
          simp [hjz]
        · rw [List.getElem?_append_right (by simpa using hjz)]
          rw [Nat.succ_mul] at h
          have := ih (j - z.size) (by omega)
          rw [Array.length_toList, this, Nat.mod_eq_sub_mod (Nat.le_of_not_lt hjz)]
    rw [hget k j hj]
    simp [madeCells, hj]
  · rw [List.getElem?_eq_none (by simp [madeCells]; omega), List.getElem?_eq_none (by rw [hl]; omega)]
theorem zeros_F2 {z : Value} (hz1 : ∀ v ∈ z.cells.toList, okV v = true) (n : Nat) : F2 (F2 (R c.S w)) (List.replicate n ((z.cells.toList.map ofCell).map (clo fun _ => none))) (List.replicate n z.cells.toList) := ⟨by simp, fun j x y hx hy => by
  have hx := List.eq_of_mem_replicate (List.mem_of_getElem? hx)
  have hy := List.eq_of_mem_replicate (List.mem_of_getElem? hy)
  subst hx hy
  refine ⟨by simp, fun j x y hx hy => ?_⟩
  simp only [List.getElem?_map, Option.map_eq_some_iff] at hx
  obtain ⟨_, ⟨u, hu, rfl⟩, rfl⟩ := hx
  rw [hu] at hy
  cases hy
  have := hz1 _ (List.mem_of_getElem? hu)
  unfold ofCell
  split
  · exact R.nil
  · exact R.v this⟩
theorem appendX_ok {o : Oper} {T T' : TypeId} {s x : Operand} (ho : o.op = .call { callee := .builtin .append, args := #[s, x], argTypes := #[T, T'] }) : OpOK P o σ (rAppendX P o.dst T T' (ev σ s) (ev σ x)) := by
  unfold rAppendX
  split
  · rename_i kn n hx
    split
    · rename_i s1 s2 s3 s4 e esz t1 t2 t3 t4 k ht htn
      obtain ⟨hd, ie, z, hie, hz, hsz, hby, hzs, hpos, hz1⟩ := slice_shape ht
      have hdn := int_shape htn
      split
      · rename_i u1 u2 u3 zero u5 d hte hdst
        obtain ⟨i, d', z', hi', hd', hz', hz2, he⟩ := tinfo_is hte
        simp only [TI.mk.injEq] at he
        obtain ⟨_, _, _, rfl, _⟩ := he
        rw [hie] at hi'
        cases hi'
        rw [hz] at hz'
        cases hz'
        split
        · rename_i hs
          intro ro base S0 w0 c a w K Q h1 h2 h3 h4
          cases hm : σ.m d with
          | some b => simp only [Req.eff, only_same, hm] at h3
          | none =>
            simp only [Req.eff, Req.mem, only_same, hm, cond_true] at h3 h4
            obtain ⟨e1, e2⟩ := h3
            have vs := ev_ok h1 s
            have vx := ev_ok h1 x
            rw [hs] at vs
            rw [hx] at vx
            have vs : a.eval s = .slice none 0 0 := vs
            have vx : a.eval x = .int kn n := R.val vx
            obtain ⟨N, rfl⟩ : ∃ N : Nat, n = N := ⟨n.toNat, by omega⟩
            rw [Int.toNat_natCast] at h4
            have hb : N * ie.bytes ≤ 281474976710656 := Nat.le_trans (Nat.mul_le_mul (show N ≤ 1073741824 by omega) hby) (by omega)
            have hrun := Lib.run_append_nil_zeros (P := P) w T T' o.type e ie z kn k hd hdn hie hz N (by omega) (by omega) (by omega) hb
            have hge := grownCap_ge w N 0 e
            have hle := grownCap_le_maxLen w N 0 e (by unfold maxLen; omega)
            have hlen : (List.replicate N ((z.cells.toList.map ofCell).map (clo fun _ => none))).length = N := by simp
            have hzc : ∀ q, (Builtin.zeroCells z.cells q).toList = (List.replicate q z.cells.toList).flatten := fun q => by
              have := made_flat hzs hpos q
              rw [← this]
              simp [Builtin.zeroCells, madeCells, hzs]
            have hfl : ∀ q, ((List.replicate q z.cells.toList).flatten).length = q * esz := fun q => by
              have := made_flat hzs hpos q
              rw [← this, Array.length_toList, size_madeCells]
            have hown : (w.drew.alloc (.cells (Builtin.zeroCells z.cells N ++ Builtin.zeroCells z.cells (grownCap w N 0 e - N)) e)).ownsRow w.heap.size e esz (.slice (some ⟨w.heap.size, 0, none⟩) N (grownCap w N 0 e)) N (List.replicate N z.cells.toList).flatten := by
              refine ⟨hfl N, .inr ⟨w.heap.size, _, _, rfl, Nat.le_refl _, heap_alloc_new w.drew _, hge, hle, ?_, ?_⟩⟩
              · rw [← Array.length_toList, Array.toList_append, List.length_append, hzc, hzc, hfl, hfl, ← Nat.add_mul, Nat.add_sub_cancel' hge]
              · rw [Array.toList_append, hzc, hzc, List.take_left' (hfl N)]
            have hB : Below w.heap.size w (w.drew.alloc (.cells (Builtin.zeroCells z.cells N ++ Builtin.zeroCells z.cells (grownCap w N 0 e - N)) e)) :=
              ⟨rfl, rfl, rfl, by rw [show (w.drew.alloc (.cells (Builtin.zeroCells z.cells N ++ Builtin.zeroCells z.cells (grownCap w N 0 e - N)) e)).heap.size = w.drew.heap.size + 1 from alloc_size _ _]; exact Nat.le_succ _, fun k hk => heap_old w.drew _ hk⟩
            obtain ⟨g, r1, r2⟩ := h2.rows (xs := List.replicate N ((z.cells.toList.map ofCell).map (clo fun _ => none))) hm (e := e) (sz := esz) hB (fun us hu => by rw [List.eq_of_mem_replicate hu]; simpa using hzs) hpos (by rw [hlen]; omega) (zeros_F2 hz1 N) (by rw [hlen]; exact hown)
            rw [hlen] at r2
            have hr : (execOp a.eval o).run P w = .ok (.value (.slice (some ⟨w.heap.size, 0, none⟩) N (grownCap w N 0 e))) (w.drew.alloc (.cells (Builtin.zeroCells z.cells N ++ Builtin.zeroCells z.cells (grownCap w N 0 e - N)) e)) := by
              simp [execOp, ho, resolve, invoke, builtin, vs, vx, hrun]
            refine wpo_run (hr) rfl ?_
            rw [mrg_one (b := some (.rows e esz (List.replicate N ((z.cells.toList.map ofCell).map (clo fun _ => none))))) rfl] at h4
            exact h4 _ _ _ g r1 r2
        · exact OpOK.bad
      · exact OpOK.bad
    · exact OpOK.bad
  · exact append_ok ho
theorem make_ok {o : Oper} {T : TypeId} {l k : Operand} (ho : o.op = .makeSlice T l k) : OpOK P o σ (rMake P o.dst T (ev σ l) (ev σ k)) := by
  unfold rMake
  split
  · rename_i s1 s2 s3 s4 e esz ht
    obtain ⟨hd, ie, z, hie, hz, hsz, hby, hzs, hpos, hz1⟩ := slice_shape ht
    split
    · rename_i t1 t2 t3 zero t5 d hte hdst
      obtain ⟨i, d', z', hi', hd', hz', hz2, he⟩ := tinfo_is hte
      simp only [TI.mk.injEq] at he
      obtain ⟨_, _, _, rfl, _⟩ := he
      rw [hie] at hi'
      cases hi'
      rw [hz] at hz'
      cases hz'
      split
      · rename_i kl L kk C hl hk
        intro ro base S0 w0 c a w K Q h1 h2 h3 h4
        cases hm : σ.m d with
        | some b => simp only [Req.eff, only_same, hm] at h3
        | none =>
          simp only [Req.eff, Req.mem, only_same, hm, cond_true] at h3 h4
          obtain ⟨e1, e2, e3⟩ := h3
          have vl := ev_ok h1 l
          have vk := ev_ok h1 k
          rw [hl] at vl
          rw [hk] at vk
          have vl : a.eval l = .int kl L := R.val vl
          have vk : a.eval k = .int kk C := R.val vk
          have hbytes : (ie.bytes : Int) * C ≤ 281474976710656 := by
            have q1 : (ie.bytes : Int) ≤ 131072 := by omega
            have q2 : (ie.bytes : Int) * C ≤ 131072 * 1073741824 := Int.mul_le_mul q1 e3 (by omega) (by omega)
            omega
          have hrun := run_make (P := P) w T e ie z hd hie hz kl kk L C e1 e2 hbytes (by omega)
          have hlen : (List.replicate L.toNat (((z.cells.toList.map ofCell)).map (clo fun _ => none))).length = L.toNat := by simp
          have hcell : F2 (R c.S w) ((z.cells.toList.map ofCell).map (clo fun _ => none)) z.cells.toList := ⟨by simp, fun j x y hx hy => by
            simp only [List.getElem?_map, Option.map_eq_some_iff] at hx
            obtain ⟨_, ⟨u, hu, rfl⟩, rfl⟩ := hx
            rw [hu] at hy
            cases hy
            have := hz1 _ (List.mem_of_getElem? hu)
            unfold ofCell
            split
            · exact R.nil
            · exact R.v this⟩
          have hF : F2 (F2 (R c.S w)) (List.replicate L.toNat ((z.cells.toList.map ofCell).map (clo fun _ => none))) (List.replicate L.toNat z.cells.toList) := ⟨by simp, fun j x y hx hy => by
            have hx := List.eq_of_mem_replicate (List.mem_of_getElem? hx)
            have hy := List.eq_of_mem_replicate (List.mem_of_getElem? hy)
            subst hx hy
            exact hcell⟩
          have hfl : ((List.replicate L.toNat z.cells.toList).flatten).length = L.toNat * esz := by
            have := made_flat hzs hpos L.toNat
            rw [← this, Array.length_toList, size_madeCells]
          have hown : (w.alloc (.cells (madeCells z.cells (C.toNat * ie.size)) e)).ownsRow w.heap.size e esz (.slice (some ⟨w.heap.size, 0, none⟩) L.toNat C.toNat) L.toNat (List.replicate L.toNat z.cells.toList).flatten := by
            refine ⟨hfl, .inr ⟨w.heap.size, C.toNat, _, rfl, Nat.le_refl _, heap_alloc_new w _, by omega, by unfold maxLen; omega, by rw [size_madeCells, hsz], ?_⟩⟩
            rw [hsz, made_flat hzs hpos, take_flat (sz := esz) L.toNat (fun u hu => by rw [List.eq_of_mem_replicate hu]; simpa using hzs), List.take_replicate, Nat.min_eq_left (by omega)]
          obtain ⟨g, r1, r2⟩ := h2.rows (xs := List.replicate L.toNat ((z.cells.toList.map ofCell).map (clo fun _ => none))) hm (e := e) (sz := esz) ((Below.refl _ _).alloc (Nat.le_refl _) _) (fun us hu => by rw [List.eq_of_mem_replicate hu]; simpa using hzs) hpos (by rw [hlen]; omega) hF (by rw [hlen]; exact hown)
          rw [hlen] at r2
          have hr : (execOp a.eval o).run P w = .ok (.value (.slice (some ⟨w.heap.size, 0, none⟩) L.toNat C.toNat)) (w.alloc (.cells (madeCells z.cells (C.toNat * ie.size)) e)) := by
            simp [execOp, ho, vl, vk, hrun]
          refine wpo_run (hr) rfl ?_
          rw [mrg_one (b := some (.rows e esz (List.replicate L.toNat ((z.cells.toList.map ofCell).map (clo fun _ => none))))) rfl] at h4
          exact h4 _ _ _ g r1 r2
      · exact OpOK.bad
    · exact OpOK.bad
  · exact OpOK.bad
theorem run_copy_rows {dT sT ty elem : TypeId} {ie : TypeInfo} {g dLen dCap : Nat} {ad : Addr} {sLen sCap : Nat} {cur : Array Value} {t : TypeId} {cs : List Value} (hu : P.underlying dT = some (.slice elem)) (hs : P.info? elem = some ie)
    (hg : w.heap[g]? = some (.cells cur t (0, 0))) (hn : cs.length = Nat.min sLen dLen * ie.size) (hsrc : ∀ j v, cs[j]? = some v → w.cell? (ad.add j) = some v) (hfit : cs.length ≤ cur.size) (h1 : ∀ v ∈ cs, v.oneCell' = true) :
    (Builtin.copy_ #[dT, sT] ty #[.slice (some ⟨g, 0, none⟩) dLen dCap, .slice (some ad) sLen sCap]).run P w = .ok (goInt (Nat.min sLen dLen)) (w.setRow g (cs ++ cur.toList.drop cs.length).toArray) := by
  have hl := run_loadCells_list (P := P) w ad cs hsrc
  have hst := run_storeCells_at P g 0 t cs 0 cur w hg (by simpa using hfit) h1
  simp only [Nat.zero_add, List.take_zero, List.nil_append] at hst
  rw [hn] at hl
  simp [Builtin.copy_, run_underlying hu, Builtin.lenOf, Builtin.firstCells, sizeOf, typeInfo, hs, hl, hst]
theorem run_copy_zero {dT sT ty elem : TypeId} {ie : TypeInfo} {d ad : Option Addr} {dLen dCap sLen sCap : Nat} (hu : P.underlying dT = some (.slice elem)) (hs : P.info? elem = some ie) (hn : Nat.min sLen dLen = 0) :
    (Builtin.copy_ #[dT, sT] ty #[.slice d dLen dCap, .slice ad sLen sCap]).run P w = .ok (goInt 0) w := by
  have hl : ∀ (x : Addr), (loadCells x 0).run P w = .ok #[] w := fun x => by simpa using run_loadCells_list (P := P) w x [] (by simp)
  cases d <;> cases ad <;> simp [Builtin.copy_, run_underlying hu, Builtin.lenOf, Builtin.firstCells, sizeOf, typeInfo, hs, hn, storeCells, hl]
theorem nmin (a b : Nat) : Nat.min a b = if a ≤ b then a else b := Nat.min_def ..
theorem copy_ok {o : Oper} {T T' : TypeId} {s x : Operand} (ho : o.op = .call { callee := .builtin .copy, args := #[s, x], argTypes := #[T, T'] }) : OpOK P o σ (rCopy P T (ev σ s) (ev σ x)) := by
  have hex : ∀ {a : Act} {w w' : World} {v : Value}, (Builtin.copy_ #[T, T'] o.type #[a.eval s, a.eval x]).run P w = .ok v w' → (execOp a.eval o).run P w = .ok (.value v) w' := fun {a w w' v} h => by
    simp [execOp, ho, resolve, invoke, builtin, h]
  unfold rCopy
  split
  · rename_i s1 s2 s3 s4 e0 esz ht
    obtain ⟨hd, ie, z, hie, hz, hsz, hby, hzs, hpos, hz1⟩ := slice_shape ht
    split
    · rename_i id n hs
      intro ro base S0 w0 c a w K Q h1 h2 h3 h4
      simp only [Req.eff, Req.mem, cond_true] at h3 h4
      generalize hids : ownIds (ev σ x).cells = ids at h3 h4
      have hin : only (id :: ids) σ.m id = σ.m id := only_in (List.mem_cons_self ..)
      obtain ⟨so1, so2⟩ := src_only (ids := id :: ids) (m := σ.m) (x := ev σ x) (fun i hi => by rw [hids] at hi; exact List.mem_cons_of_mem _ hi)
      rw [hin] at h3 h4
      rw [so1] at h3 h4
      split at h3
      · rename_i e sz xs hm
        simp only [hm] at h4
        split at h3
        · rename_i ys hy
          simp only [hy] at h4
          obtain ⟨rfl, e4, e5, e6, e7⟩ := h3
          rw [mrg_id e6] at h4
          obtain ⟨v1, ad0, cap0, v2⟩ := own_val h1 hs hm e4
          obtain ⟨p1, p2, p3, p4, vss, p5, p6⟩ := h2.blk id _ hm
          have hsrc := src_ok h2 (ev_ok h1 x) hy (so2.1 e5) e7
          have hvl : vss.length = xs.length := p5.1.symm
          have hszv : ∀ u ∈ vss, u.length = sz := (flat_ok p5 p1).1
          have hyslen : ys.length ≤ maxLen := by
            rcases hsrc with ⟨_, f⟩ | ⟨ad, cap, tss, f1, f2, f3⟩
            · simp [f]
            · have hv := ev_ok h1 x
              generalize hq : ev σ x = q at hv hy
              unfold srcOf at hy
              split at hy
              · cases hy; obtain ⟨_, _, _, q1, q2⟩ := R.slice hv; omega
              · cases hy; obtain ⟨_, _, hv⟩ := hv; obtain ⟨_, _, _, q1, q2⟩ := R.slice hv; omega
              · cases hy; simp
              · cases hy; simp
              · obtain ⟨_, L, hL, hn, hq⟩ := hv
                have hr := rowLen_le h2 hL
                split at hy
                · rename_i hm2; cases hy; simp only [rowLen, hm2, Option.some.injEq] at hL; omega
                · rename_i hm2; cases hy; simp only [rowLen, hm2, Option.some.injEq] at hL; omega
                · rename_i hm2; cases hy; simp only [rowLen, hm2, Option.some.injEq] at hL; omega
                · simp at hy
              · simp at hy
          have hnum : okV (.int .i64 ((Nat.min ys.length n : Nat) : Int)) = true := okLen (Nat.le_trans (Nat.min_le_left _ _) hyslen)
          by_cases h0 : Nat.min ys.length n = 0
          · -- nothing goes over
            have hsame : ys.take xs.length ++ xs.drop ys.length = xs := by
              rcases Nat.eq_zero_or_pos ys.length with hy0 | hy0
              · have : ys = [] := List.eq_nil_of_length_eq_zero hy0
                subst this; simp
              · have : xs.length = 0 := by
                  have : Nat.min ys.length n = 0 := h0
                  rw [nmin] at this
                  split at this <;> omega
                have : xs = [] := List.eq_nil_of_length_eq_zero this
                subst this; simp
            have hrun : (Builtin.copy_ #[T, T'] o.type #[a.eval s, a.eval x]).run P w = .ok (goInt 0) w := by
              rw [v1, v2, e4]
              rcases hsrc with ⟨f1, f2⟩ | ⟨ad, cap, tss, f1, _⟩
              · rw [f1]; exact run_copy_zero hd hie (by simp)
              · rw [f1]; exact run_copy_zero hd hie h0
            rw [hsame] at h4
            have hmm : upd σ.m id (some (.rows e sz xs)) = σ.m := by
              funext i
              by_cases hi : i = id
              · subst hi; rw [upd_same, hm]
              · rw [upd_ne _ _ hi]
            rw [hmm] at h4
            refine wpo_run (hex hrun) rfl ?_
            refine h4 _ _ _ (Goes.refl _ _ _) h2 ?_
            rw [h0]
            exact R.v rfl
          · rcases hsrc with ⟨f1, f2⟩ | ⟨ad, cap, tss, f1, f2, f3⟩
            · subst f2; simp at h0
            · rcases p6.2 with ⟨_, g0⟩ | ⟨g, gcap, cur, g1, g2, g3, g4, g5, g6, g7⟩
              · rw [nmin] at h0
                split at h0 <;> omega
              · obtain ⟨k1, k2, k3⟩ := flat_ok f2 e7
                have hmin : Nat.min ys.length n ≤ ys.length ∧ Nat.min ys.length n ≤ n := ⟨Nat.min_le_left _ _, Nat.min_le_right _ _⟩
                generalize hq : Nat.min ys.length n = q at h0 hmin hnum h4
                have hcs : (tss.flatten.take (q * sz)).length = q * sz := by
                  rw [List.length_take, k2, Nat.min_eq_left (Nat.mul_le_mul_right _ hmin.1)]
                have hrun : (Builtin.copy_ #[T, T'] o.type #[a.eval s, a.eval x]).run P w = .ok (goInt q) (w.setRow g (tss.flatten.take (q * sz) ++ cur.toList.drop (q * sz)).toArray) := by
                  rw [v1, g1, f1, e4]
                  have := run_copy_rows (P := P) (w := w) (sT := T') (ty := o.type) (ad := ad) (dLen := n) (dCap := gcap) (sLen := ys.length) (sCap := cap) (cs := tss.flatten.take (q * sz)) hd hie g3 (by rw [hcs, hq, hsz]) (fun j v hj => f3 j v (by rw [List.getElem?_take] at hj; split at hj <;> simp_all)) (by rw [hcs, g6]; exact Nat.mul_le_mul_right _ (by omega)) (fun v hv => k3 v (List.mem_of_mem_take hv))
                  rw [hq, hcs] at this
                  exact this
                have htss : tss.length = ys.length := f2.1.symm
                have hnew : ys.take xs.length ++ xs.drop ys.length = ys.take q ++ xs.drop q := by
                  rw [nmin] at hq
                  split at hq
                  · subst hq; rw [List.take_of_length_le (by omega), List.take_of_length_le (by omega)]
                  · subst hq; rw [e4, List.drop_of_length_le (by omega), List.drop_of_length_le (by omega)]
                rw [hnew] at h4
                have hl : (ys.take q ++ xs.drop q).length = xs.length := by simp; omega
                have hflat : (tss.take q ++ vss.drop q).flatten = tss.flatten.take (q * sz) ++ vss.flatten.drop (q * sz) := by
                  rw [List.flatten_append, take_flat q k1, drop_flat q hszv]
                have hgb : w.grownBy (w.setRow g (tss.flatten.take (q * sz) ++ cur.toList.drop (q * sz)).toArray) (c.ψ id).ownBlock := by
                  refine ⟨rfl, rfl, rfl, by rw [setRow_size]; exact Nat.le_refl _, fun k _ hk => setRow_other w g k _ fun e => hk ?_⟩
                  rw [g1, e]; rfl
                have hown : (w.setRow g (tss.flatten.take (q * sz) ++ cur.toList.drop (q * sz)).toArray).ownsRow base e sz (c.ψ id) (ys.take q ++ xs.drop q).length (tss.take q ++ vss.drop q).flatten := by
                  rw [hflat, hl]
                  have hp6 := p6.1
                  have hqx : q * sz ≤ xs.length * sz := Nat.mul_le_mul_right _ (by omega)
                  refine ⟨by rw [List.length_append, hcs, List.length_drop, hp6]; omega, .inr ⟨g, gcap, _, g1, g2, setRow_heap w g cur _ _ _ g3, g4, g5, ?_, ?_⟩⟩
                  · have hq2 : q * sz ≤ gcap * sz := Nat.mul_le_mul_right _ (by omega)
                    simp only [List.size_toArray, List.length_append, hcs, List.length_drop, Array.length_toList, g6]
                    omega
                  · rw [← g7]
                    simp only []
                    rw [List.take_append, hcs, List.take_of_length_le (by rw [hcs]; exact hqx), List.take_drop, Nat.add_sub_cancel' hqx]
                obtain ⟨gg, r1, r2⟩ := h2.turn (ys := ys.take q ++ xs.drop q) hm hgb (fun k hk => .inl hk) (by omega) (fun _ => rfl) (fun us hu => by
                  rcases List.mem_append.1 hu with hu | hu
                  · exact e7 us (List.mem_of_mem_take hu)
                  · exact p1 us (List.mem_of_mem_drop hu)) (by omega) ((f2.take q).append (p5.drop q)) hown
                refine wpo_run (hex hrun) rfl ?_
                exact h4 _ _ _ gg r1 (R.v hnum)
        · exact h3.elim
      · exact h3.elim
    · exact OpOK.bad
  · exact OpOK.bad
theorem clo_only {ids : List Nat} {m : Mem} {x : A} (h : ∀ i ∈ ownIds [x], i ∈ ids) : clo (only ids m) x = clo m x ∧ (cloOK (only ids m) x ↔ cloOK m x) := by
  cases x with
  | own id n => have : only ids m id = m id := only_in (h id (by simp [ownIds])); simp [clo, cloOK, this]
  | mp id => have : only ids m id = m id := only_in (h id (by simp [ownIds])); simp [clo, cloOK, this]
  | _ => exact ⟨rfl, Iff.rfl⟩
theorem cloL_only {ids : List Nat} {m : Mem} : ∀ {l : List A}, (∀ i ∈ ownIds l, i ∈ ids) → l.map (clo (only ids m)) = l.map (clo m) ∧ (cloAll (only ids m) l ↔ cloAll m l) := by
  intro l
  induction l with
  | nil => intro _; exact ⟨rfl, Iff.rfl⟩
  | cons x l ih =>
    intro h
    rw [ownIds_cons] at h
    obtain ⟨h1, h2⟩ := clo_only (ids := ids) (m := m) (x := x) fun i hi => h i (by simp [hi])
    obtain ⟨k1, k2⟩ := ih fun i hi => h i (by simp [hi])
    exact ⟨by simp only [List.map_cons]; rw [h1, k1], by rw [cloAll_cons, cloAll_cons, h2, k2]⟩
theorem take_splice {α : Type} {cs us : List α} {o k : Nat} (h : o + us.length ≤ k) (hk : k ≤ cs.length) : (splice cs o us).take k = splice (cs.take k) o us := by
  have hA : (cs.take o ++ us).length = o + us.length := by simp; omega
  simp only [splice]
  rw [List.take_append, hA, List.take_of_length_le (by rw [hA]; omega), List.drop_take, List.take_take, Nat.min_eq_left (by omega)]
theorem storeEl_ok {o : Oper} {T : TypeId} {x u : Operand} (ho : o.op = .store T x u) (id n i off : Nat) (hx : ev σ x = .one (.pel id n i off)) : OpOK P o σ (rStore P T (.one (.pel id n i off)) (ev σ u)) := by
  unfold rStore
  cases ht : tinfo P T with
  | none => exact OpOK.bad
  | some ti =>
    obtain ⟨ii, d, z, hi, hd, hz, _, rfl⟩ := tinfo_is ht
    simp only
    intro ro base S0 w0 c a w K Q h1 h2 h3 h4
    simp only [Req.eff, Req.mem, cond_true] at h3 h4
    generalize hids : ownIds (ev σ u).cells = ids at h3 h4
    have hin : only (id :: ids) σ.m id = σ.m id := only_in (List.mem_cons_self ..)
    have hcl := cloL_only (ids := id :: ids) (m := σ.m) (l := (ev σ u).cells) (fun j hj => by rw [hids] at hj; exact List.mem_cons_of_mem _ hj)
    have hcl2 := cloL_only (ids := ids) (m := σ.m) (l := (ev σ u).cells) (fun j hj => by rw [hids] at hj; exact hj)
    rw [hin] at h3 h4
    split at h3
    · rename_i e sz xs hm
      simp only [hm] at h4
      obtain ⟨e1, e2, e3, e4, e5, e6, e7⟩ := h3
      rw [hcl.1, ← hcl2.1] at h4
      rw [hcl.2, ← hcl2.2] at e6
      have hv := ev_ok h1 x
      rw [hx] at hv
      obtain ⟨_, L, hL, hn, hq⟩ := hv
      have hL' : xs.length = L := by simpa [rowLen, hm] using hL
      obtain ⟨g, cap, q1, q2⟩ := hq (by omega) e sz xs (rowsOf_rows hm)
      obtain ⟨c1, g1, r1⟩ := freezes ids h2
      have hm1 : mrg ids (frz σ.m) σ.m id = some (.rows e sz xs) := by unfold mrg; rw [e7]; exact hm
      have hpsi : c1.ψ id = c.ψ id := by
        obtain ⟨L', k1, k2, k3⟩ := g1.rows id L hL
        have : L = L' := by
          have : xs.length = L' := by simpa [rowLen, hm1] using k1
          omega
        exact (k3 this).1
      obtain ⟨ts, t1, t2⟩ := cellsOf_ok ((ev_ok h1 u).goes g1) e1
      have t3 := cloCells_ok r1 t2 e6 (fun j hj => by rw [hids] at hj; exact hj)
      obtain ⟨p1, p2, p3, p4, vss, p5, p6⟩ := r1.blk id _ hm1
      have hszv : ∀ u ∈ vss, u.length = sz := (flat_ok p5 p1).1
      have hil : i < xs.length := by omega
      have hxi : xs[i]? = some (xs.getD i []) := by simp [List.getD, hil]
      obtain ⟨vs, hvs, hvq⟩ := p5.get hxi
      have htl : ts.length = ii.size := by rw [← t2.1]; exact e2
      rcases p6.2 with ⟨_, g0⟩ | ⟨g', gcap, cur, f1, f2, f3, f4, f5, f6, f7⟩
      · omega
      · rw [hpsi, q1] at f1
        simp only [Value.slice.injEq, Option.some.injEq, Addr.mk.injEq, and_true] at f1
        obtain ⟨rfl, _, rfl⟩ := f1
        have hmul : i * sz + sz ≤ n * sz := by rw [← Nat.succ_mul]; exact Nat.mul_le_mul_right _ (by omega)
        have hmul2 : n * sz ≤ cap * sz := Nat.mul_le_mul_right _ (by omega)
        have hst := run_storeCells_at P g (i * sz + off) e ts 0 cur w f3 (by rw [f6]; omega) (fun v hv => by
          obtain ⟨j, hj, rfl⟩ := List.getElem_of_mem hv
          obtain ⟨xx, _, hq⟩ := t2.get' (List.getElem?_eq_getElem hj)
          exact VA.one hq)
        simp only [Nat.add_zero] at hst
        have hr : (execOp a.eval o).run P w = .ok .skip (w.setRow g (splice cur.toList (i * sz + off) ts).toArray) := by
          simp [execOp, ho, Instr.storeAt, Instr.sureAddr, q2, storeVar, t1, run_sizeOf hi, htl, hst]
          simp [splice, htl]
        have hsp : F2 (R c1.S w) (splice (xs.getD i []) off ((ev σ u).cells.map (clo (only ids σ.m)))) (splice vs off ts) := splice_ok hvq t3 off
        have hrow : (bif off == 0 && ii.size == sz then (ev σ u).cells.map (clo (only ids σ.m)) else splice (xs.getD i []) off ((ev σ u).cells.map (clo (only ids σ.m)))) = splice (xs.getD i []) off ((ev σ u).cells.map (clo (only ids σ.m))) := by
          cases hb : (off == 0 && ii.size == sz) with
          | false => rfl
          | true =>
            simp only [Bool.and_eq_true, beq_iff_eq] at hb
            obtain ⟨rfl, hb⟩ := hb
            have : (xs.getD i []).length = sz := p1 _ (List.mem_of_getElem? hxi)
            simp only [cond_true, splice, List.take_zero, List.nil_append, Nat.zero_add]
            rw [List.drop_of_length_le (by rw [List.length_map, e2]; omega), List.append_nil]
        rw [hrow] at h4
        have hvl : (splice vs off ts).length = sz := by
          have := hszv vs (List.mem_of_getElem? hvs)
          simp [splice]; omega
        have hown : (w.setRow g (splice cur.toList (i * sz + off) ts).toArray).ownsRow base e sz (c1.ψ id) (xs.set i (splice (xs.getD i []) off ((ev σ u).cells.map (clo (only ids σ.m))))).length (vss.set i (splice vs off ts)).flatten := by
          rw [set_flat (by omega) hszv hvs, List.length_set]
          have hp6 := p6.1
          have hfl : i * sz + off + ts.length ≤ xs.length * sz := by rw [e3]; omega
          refine ⟨by simp [splice, hp6]; omega, .inr ⟨g, cap, _, by rw [hpsi, q1, e3], f2, setRow_heap w g cur _ _ _ f3, by omega, f5, by simp [splice, f6]; omega, ?_⟩⟩
          rw [← f7]
          exact take_splice (by omega) (by rw [show cur.toList.length = cap * sz by simpa using f6, e3]; omega)
        have hgb : w.grownBy (w.setRow g (splice cur.toList (i * sz + off) ts).toArray) (c1.ψ id).ownBlock := by
          refine ⟨rfl, rfl, rfl, by rw [setRow_size]; exact Nat.le_refl _, fun k _ hk => setRow_other w g k _ fun e => hk ?_⟩
          rw [hpsi, q1, e]; rfl
        obtain ⟨gg, r2, r3⟩ := r1.turn (ys := xs.set i (splice (xs.getD i []) off ((ev σ u).cells.map (clo (only ids σ.m))))) hm1 hgb (fun k hk => .inl hk) (by simp) (fun _ => rfl) (fun us hu => by
          rcases List.mem_or_eq_of_mem_set hu with hu | rfl
          · exact p1 us hu
          · rw [hsp.1]; exact hvl) (by rw [List.length_set]; exact p3) (p5.set hsp i) hown
        refine wpo_run (hr) rfl ?_
        rw [hpsi] at gg r2
        have hcc : ({ c1 with ψ := upd c1.ψ id (c.ψ id) } : Ctx) = c1 := by
          have : upd c1.ψ id (c.ψ id) = c1.ψ := by
            funext k
            by_cases hk : k = id
            · subst hk; rw [upd_same, hpsi]
            · rw [upd_ne _ _ hk]
          rw [this]
        rw [hcc] at gg r2
        have hmc : mrg (id :: ids) (fun j => bif j == id then some (.rows e sz (xs.set i (splice (xs.getD i []) off ((ev σ u).cells.map (clo (only ids σ.m)))))) else frz (only (id :: ids) σ.m) j) σ.m = upd (mrg ids (frz σ.m) σ.m) id (some (.rows e sz (xs.set i (splice (xs.getD i []) off ((ev σ u).cells.map (clo (only ids σ.m))))))) := mrg_cons
        rw [hmc] at h4
        exact h4 _ _ undef (g1.trans gg) r2 trivial
    · exact h3.elim
theorem storeOpen_ok {o : Oper} {T : TypeId} {x u : Operand} (ho : o.op = .store T x u) (x0 : Value) (hx : ev σ x = .one (.c (.v x0))) : OpOK P o σ (rStore P T (.one (.c (.v x0))) (ev σ u)) := by
  unfold rStore
  cases ht : tinfo P T with
  | none => exact OpOK.bad
  | some ti =>
    obtain ⟨ii, d, z, hi, hd, hz, _, rfl⟩ := tinfo_is ht
    simp only
    cases hraw : rawP x0 with
    | none => exact OpOK.bad
    | some pp =>
    obtain ⟨b, off⟩ := pp
    simp only
    intro ro base S0 w0 c a w K Q h1 h2 h3 h4
    simp only [Req.eff, Req.mem, cond_true] at h3 h4
    generalize hid : 1000000 + b = id at h3 h4
    generalize hids : ownIds (ev σ u).cells = ids at h3 h4
    have hin : only (id :: ids) σ.m id = σ.m id := only_in (List.mem_cons_self ..)
    have hcl := cloL_only (ids := id :: ids) (m := σ.m) (l := (ev σ u).cells) (fun j hj => by rw [hids] at hj; exact List.mem_cons_of_mem _ hj)
    have hcl2 := cloL_only (ids := ids) (m := σ.m) (l := (ev σ u).cells) (fun j hj => by rw [hids] at hj; exact hj)
    rw [hin] at h3 h4
    split at h3
    · rename_i cs hm
      simp only [hm] at h4
      obtain ⟨e1, e2, e3, e6, e7⟩ := h3
      rw [hcl.1, ← hcl2.1] at h4
      rw [hcl.2, ← hcl2.2] at e6
      have hv := ev_ok h1 x
      rw [hx] at hv
      have hp : a.eval x = .pointer (some ⟨b, off, none⟩) := by rw [R.val hv]; exact rawP_eq hraw
      obtain ⟨c1, g1, r1⟩ := freezes ids h2
      have hm1 : mrg ids (frz σ.m) σ.m id = some (.obox cs) := by unfold mrg; rw [e7]; exact hm
      obtain ⟨ts, t1, t2⟩ := cellsOf_ok ((ev_ok h1 u).goes g1) e1
      have t3 := cloCells_ok r1 t2 e6 (fun j hj => by rw [hids] at hj; exact hj)
      obtain ⟨p1, p2, p5, vs, TT, p3, p4⟩ := r1.blk id _ hm1
      have hφ : c1.φ id = b := by rw [← hid] at p5 ⊢; exact Nat.add_left_cancel p5
      have htl : ts.length = ii.size := by rw [← t2.1]; exact e2
      have hst := run_storeCells_at P (c1.φ id) off TT ts 0 vs.toArray w p3 (by have := p4.1; have := t2.1; simp; omega) (fun v hv => by
        obtain ⟨j, hj, rfl⟩ := List.getElem_of_mem hv
        obtain ⟨xx, _, hq⟩ := t2.get' (List.getElem?_eq_getElem hj)
        exact VA.one hq)
      obtain ⟨g, r2⟩ := r1.setOpen hm1 (splice_ok p4 t3 off)
      have hr : (execOp a.eval o).run P w = .ok .skip (w.setRow (c1.φ id) (splice vs off ts).toArray) := by
        simp only [Nat.add_zero, hφ] at hst
        simp [execOp, ho, Instr.storeAt, Instr.sureAddr, hp, storeVar, t1, run_sizeOf hi, htl, hst]
        simp [splice, htl, hφ]
      refine wpo_run (hr) rfl ?_
      rw [mrg_cons] at h4
      exact h4 _ _ undef (g1.trans g) r2 trivial
    · exact h3.elim
theorem store_ok {o : Oper} {T : TypeId} {x u : Operand} (ho : o.op = .store T x u) : OpOK P o σ (rStore P T (ev σ x) (ev σ u)) := storeBox_ok ho (fun id n i off hx => storeEl_ok ho id n i off hx) fun x0 hx => storeOpen_ok ho x0 hx
end
end Go.Proofs.Ytgkfbikffcmmdaa.Abs
