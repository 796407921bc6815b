/- Each operation does what was said: lengths, numbers, literals, what is put behind, parts, calls. -/
import Derived.Test.YtgkfbikffcmmdaaAbsS2
import Derived.Great.BuildSlice
import Derived.ArgAppend
import Derived.OpenShut
set_option linter.unusedSimpArgs false
set_option linter.unusedVariables false
set_option maxRecDepth 100000
namespace Go.Proofs.Ytgkfbikffcmmdaa.Abs
open Go.RowKit
section
variable {P : Program} {c : Ctx} {w : World} {σ : St} {a : Act} {base : Nat} {S0 : Sh} {w0 : W0}

theorem okLen {n : Nat} (h : n ≤ maxLen) : okV (.int .i64 (n : Int)) = true := by
  unfold maxLen at h
  simp only [okV, inK, Bool.and_eq_true, decide_eq_true_eq]
  omega
theorem rowLen_le {c : Ctx} {m : Mem} (h : WR base S0 w0 c m w) {id L : Nat} (hL : rowLen m id = some L) : L ≤ maxLen := by
  unfold rowLen at hL
  split at hL
  · rename_i e sz xs hm
    cases hL
    obtain ⟨_, _, h3, _⟩ := h.blk id _ hm
    exact small _ h3
  · rename_i xs hm
    cases hL
    obtain ⟨_, _, _, h1, h2⟩ := R.slice (h.blk id _ hm)
    omega
  · rename_i K hm
    cases hL
    have := h.blk id _ hm
    have h1 : L ≤ 1073741825 := this
    unfold maxLen
    omega
  · rename_i j e sz xs hm
    cases hL
    obtain ⟨_, _, _, h3, _⟩ := h.blk id _ hm
    exact small _ h3
  · simp at hL
theorem len_ok {o : Oper} {T : TypeId} {x : Operand} (ho : o.op = .call { callee := .builtin .len, args := #[x], argTypes := #[T] }) : OpOK P o σ (rLen P T (ev σ x)) := by
  unfold rLen
  split
  · rename_i s1 s2 s3 s4 e esz ht
    obtain ⟨hd, _⟩ := slice_shape ht
    have hr : ∀ (a : Act) (w : World) (ad : Option Addr) (n k : Nat), a.eval x = .slice ad n k → (execOp a.eval o).run P w = .ok (.value (.int .i64 n)) w := fun a w ad n k h => by
      simp [execOp, ho, resolve, invoke, builtin, Builtin.len_, run_underlying hd, h, goInt]
    split
    · rename_i k xs hx
      refine OpOK.val fun base S0 w0 c a w h1 h2 h3 => ?_
      have hv := ev_ok h1 x
      rw [hx] at hv
      obtain ⟨ad, cap, he, hl1, hl2⟩ := R.slice hv
      exact ⟨_, hr a w ad _ cap he, R.v (okLen (by omega))⟩
    · rename_i k xs hx
      refine OpOK.val fun base S0 w0 c a w h1 h2 h3 => ?_
      have hv := ev_ok h1 x
      rw [hx] at hv
      obtain ⟨ad, he, hv⟩ := hv
      obtain ⟨_, _, _, hl1, hl2⟩ := R.slice hv
      exact ⟨_, hr a w ad _ _ he, R.v (okLen (by omega))⟩
    · rename_i hx
      refine OpOK.val fun base S0 w0 c a w h1 h2 h3 => ?_
      have hv := ev_ok h1 x
      rw [hx] at hv
      exact ⟨_, hr a w none 0 0 hv, R.v rfl⟩
    · rename_i hx
      refine OpOK.val fun base S0 w0 c a w h1 h2 h3 => ?_
      have hv := ev_ok h1 x
      rw [hx] at hv
      obtain ⟨ad, k, hv, _⟩ := hv
      exact ⟨_, hr a w (some ad) 0 k hv, R.v rfl⟩
    · rename_i id n hx
      refine OpOK.val fun base S0 w0 c a w h1 h2 h3 => ?_
      have hv := ev_ok h1 x
      rw [hx] at hv
      obtain ⟨⟨ad, k, he⟩, L, hL, hn, _⟩ := hv
      exact ⟨_, hr a w ad n k he, R.v (okLen (Nat.le_trans hn (rowLen_le h2 hL)))⟩
    · exact OpOK.bad
  · rename_i s1 s2 s3 s4 ht
    have hd := str_shape ht
    split
    · rename_i s hx
      refine OpOK.val fun base S0 w0 c a w h1 h2 h3 => ?_
      have hv := ev_ok h1 x
      rw [hx] at hv
      exact ⟨_, by simp [execOp, ho, resolve, invoke, builtin, Builtin.len_, run_underlying hd, R.val hv, goInt], R.v h3⟩
    · exact OpOK.bad
  · exact OpOK.bad
theorem vbin_ok {op : BinOp} {T : TypeId} {x y v : Value} (h : vbin op x y = some v) : (binOp op T x y).run P w = .ok v w ∧ okV v = true ∧ ∃ k k' a b, x = .int k a ∧ y = .int k' b := by
  unfold vbin at h
  split at h
  · rename_i k a k' b
    cases hk : decide (k = k') with
    | false => rw [hk] at h; simp at h
    | true =>
      rw [hk] at h
      have hk' := of_decide_eq_true hk
      subst hk'
      simp only [cond_true] at h
      cases op <;> simp [icmp, iari] at h
      case quo =>
        cases hb : decide (b = 0) with
        | true => rw [hb] at h; simp at h
        | false =>
          rw [hb] at h
          have hb0 := of_decide_eq_false hb
          simp only [cond_false, Option.some.injEq] at h
          subst h
          exact ⟨by simp [binOp, Op.intDiv, hb0], (inK_wf).trans (wf_wrap _ _), _, _, _, _, rfl, rfl⟩
      all_goals subst h
      all_goals exact ⟨by simp [binOp, Op.intArith, Op.intCmp, Op.intBits], by first | rfl | exact (inK_wf).trans (wf_wrap _ _), _, _, _, _, rfl, rfl⟩
  · simp at h
theorem eqL_ok {m : Mem} : ∀ {cs ds : List A} {b : Bool} {us vs : List Value}, eqL cs ds = some b → F2 (VA c w m) cs us → F2 (VA c w m) ds vs → us.map shV = cs.map shA ∧ vs.map shV = cs.map shA ∧ eqVs us vs = b := by
  have one : ∀ {x y : A} {b : Bool} {u v : Value}, eqA x y = some b → VA c w m x u → VA c w m y v → shV u = shA x ∧ shV v = shA x ∧ eqV u v = b := fun {x y b u v} h hx hy => by
    unfold eqA at h
    split at h
    · rename_i p q
      unfold eqCV at h
      split at h
      · rename_i k a k' a'
        cases hk : decide (k = k') with
        | false => rw [hk] at h; simp at h
        | true =>
          rw [hk] at h
          have hk' := of_decide_eq_true hk
          subst hk'
          simp at h
          rw [R.val hx, R.val hy]
          exact ⟨rfl, rfl, h⟩
      · rename_i a a'
        simp at h
        rw [R.val hx, R.val hy]
        exact ⟨rfl, rfl, h⟩
      · simp at h
    · simp at h
  intro cs
  induction cs with
  | nil =>
    intro ds b us vs h hu hv
    cases ds with
    | nil => simp [eqL] at h; rw [hu.unnil, hv.unnil]; subst h; exact ⟨rfl, rfl, rfl⟩
    | cons y ys => simp [eqL] at h
  | cons x xs ih =>
    intro ds b us vs h hu hv
    cases ds with
    | nil => simp [eqL] at h
    | cons y ys =>
      obtain ⟨u, us, rfl, hu1, hu2⟩ := hu.uncons
      obtain ⟨v, vs, rfl, hv1, hv2⟩ := hv.uncons
      have gen : ∀ b1 b2, eqA x y = some b1 → eqL xs ys = some b2 → b = (b1 && b2) → (u :: us).map shV = (x :: xs).map shA ∧ (v :: vs).map shV = (x :: xs).map shA ∧ eqVs (u :: us) (v :: vs) = b := fun b1 b2 e1 e2 e => by
        obtain ⟨p1, p2, p3⟩ := one e1 hu1 hv1
        obtain ⟨q1, q2, q3⟩ := ih e2 hu2 hv2
        exact ⟨by simp [p1, q1], by simp [p2, q2], by rw [e]; simp [eqVs, p3, q3]⟩
      cases xs with
      | nil =>
        cases ys with
        | nil =>
          simp only [eqL] at h
          exact gen b true h rfl (by simp)
        | cons y2 ys =>
          simp only [eqL] at h
          split at h
          · simp at h
          · simp at h
      | cons x2 xs =>
        simp only [eqL] at h
        cases e1 : eqA x y with
        | none => simp [e1] at h
        | some b1 =>
          cases e2 : eqL (x2 :: xs) ys with
          | none => simp [e1, e2] at h
          | some b2 =>
            simp only [e1, e2] at h
            exact gen b1 b2 e1 e2 (Option.some.inj h).symm
theorem eq_bool {T : TypeId} (hd : P.underlying T = some .bool) (p q : Bool) : (Op.equal T (.bool p) (.bool q)).run P w = .ok (p == q) w := by
  show (Op.equalIn (9999 + 1) T (.bool p) (.bool q)).run P w = _
  generalize 9999 = n
  rw [Op.equalIn]
  simp only [Sem.run_bind, run_underlying hd, Result.andThen_ok]
  rfl
theorem nilA_ok {m : Mem} {x : A} {v : Value} {b : Bool} (h : VA c w m x v) (hb : nilA x = some b) : ∃ ad n k, v = .slice ad n k ∧ b = ad.isNone := by
  unfold nilA at hb
  split at hb
  · cases hb; exact ⟨none, 0, 0, h, rfl⟩
  · cases hb; obtain ⟨a, k, h1, _⟩ := h; exact ⟨some a, 0, k, h1, rfl⟩
  · cases hb
    obtain ⟨bb, o, cap, h1, _⟩ := R.elem (i := 0) h rfl
    exact ⟨_, _, cap, h1, rfl⟩
  · cases hb
    obtain ⟨_, _, h⟩ := h
    obtain ⟨bb, o, cap, h1, _⟩ := R.elem (i := 0) h rfl
    exact ⟨_, _, cap, h1, rfl⟩
  · simp at hb
theorem eq_nil {T e : TypeId} (hd : P.underlying T = some (.slice e)) (ad : Option Addr) (n k : Nat) : (Op.equal T (.slice ad n k) (.slice none 0 0)).run P w = .ok ad.isNone w := by
  show (Op.equalIn (9999 + 1) T (.slice ad n k) (.slice none 0 0)).run P w = _
  generalize 9999 = q
  rw [Op.equalIn]
  simp only [Sem.run_bind, run_underlying hd, Result.andThen_ok]
  cases ad <;> rfl
theorem bin_ok {o : Oper} {op : BinOp} {T T' : TypeId} {x y : Operand} (ho : o.op = .binOp op T x y T') : OpOK P o σ (rBin P op T (ev σ x) (ev σ y)) := by
  unfold rBin
  split
  · rename_i a b hx hy
    have hvals : ∀ {c : Ctx} {a' : Act} {w : World}, Tm c w σ a' → a'.eval x = a ∧ a'.eval y = b := fun h1 => by
      have v1 := ev_ok h1 x
      have v2 := ev_ok h1 y
      rw [hx] at v1
      rw [hy] at v2
      exact ⟨R.val v1, R.val v2⟩
    split
    · rename_i v hv
      refine OpOK.val fun base S0 w0 c a' w h1 h2 h3 => ?_
      obtain ⟨e1, e2⟩ := hvals h1
      obtain ⟨q1, q2, k, k', i, j, rfl, rfl⟩ := vbin_ok (P := P) (w := w) (T := T) hv
      have hg : (eqGuard op T x y (.int k i) (.int k' j)).run P w = .ok () w := by cases op <;> simp [eqGuard]
      exact ⟨v, by simp [execOp, ho, e1, e2, hg, q1], R.v q2⟩
    · split
      · rename_i p q s1 s2 s3 s4 ht _
        have hd := bool_shape ht
        split
        · refine OpOK.val fun base S0 w0 c a' w h1 h2 h3 => ?_
          obtain ⟨e1, e2⟩ := hvals h1
          exact ⟨_, by simp [execOp, ho, e1, e2, eqGuard, binOp, eq_bool hd], R.v rfl⟩
        · refine OpOK.val fun base S0 w0 c a' w h1 h2 h3 => ?_
          obtain ⟨e1, e2⟩ := hvals h1
          exact ⟨_, by simp [execOp, ho, e1, e2, eqGuard, binOp, eq_bool hd], R.v rfl⟩
        · exact OpOK.bad
      · rename_i p q ht
        split
        · refine OpOK.val fun base S0 w0 c a' w h1 h2 h3 => ?_
          obtain ⟨e1, e2⟩ := hvals h1
          exact ⟨_, by simp [execOp, ho, e1, e2, eqGuard, binOp, Op.stringOp], R.v rfl⟩
        · refine OpOK.val fun base S0 w0 c a' w h1 h2 h3 => ?_
          obtain ⟨e1, e2⟩ := hvals h1
          exact ⟨_, by simp [execOp, ho, e1, e2, eqGuard, binOp, Op.stringOp], R.v rfl⟩
        · exact OpOK.bad
      · rename_i k p k' q bb _
        split
        · refine OpOK.val fun base S0 w0 c a' w h1 h2 h3 => ?_
          obtain ⟨e1, e2⟩ := hvals h1
          obtain ⟨rfl, e3, e4⟩ := h3
          exact ⟨_, by simp [execOp, ho, e1, e2, eqGuard, binOp, Op.intDiv, e3], R.v e4⟩
        · refine OpOK.val fun base S0 w0 c a' w h1 h2 h3 => ?_
          obtain ⟨e1, e2⟩ := hvals h1
          have h4 : ¬ bb < 0 := by omega
          exact ⟨_, by simp [execOp, ho, e1, e2, eqGuard, binOp, Op.shift, h4], R.v ((inK_wf).trans (wf_wrap _ _))⟩
        · refine OpOK.val fun base S0 w0 c a' w h1 h2 h3 => ?_
          obtain ⟨e1, e2⟩ := hvals h1
          have h4 : ¬ bb < 0 := by omega
          exact ⟨_, by simp [execOp, ho, e1, e2, eqGuard, binOp, Op.shift, h4], R.v h3.2⟩
        · exact OpOK.bad
      · exact OpOK.bad
  · rename_i x1 hx hy
    split
    · rename_i s1 s2 s3 s4 e esz b ht hb
      obtain ⟨hd, _⟩ := slice_shape ht
      have hvals : ∀ {c : Ctx} {a' : Act} {w : World}, Tm c w σ a' → (∃ ad n k, a'.eval x = .slice ad n k ∧ b = ad.isNone) ∧ a'.eval y = .slice none 0 0 := fun h1 => by
        have v1 := ev_ok h1 x
        have v2 := ev_ok h1 y
        rw [hx] at v1
        rw [hy] at v2
        exact ⟨nilA_ok v1 hb, v2⟩
      split
      · refine OpOK.val fun base S0 w0 c a' w h1 h2 h3 => ?_
        obtain ⟨⟨ad, n, k, e1, rfl⟩, e2⟩ := hvals h1
        exact ⟨_, by simp [execOp, ho, e1, e2, eqGuard, binOp, eq_nil hd], R.v rfl⟩
      · refine OpOK.val fun base S0 w0 c a' w h1 h2 h3 => ?_
        obtain ⟨⟨ad, n, k, e1, rfl⟩, e2⟩ := hvals h1
        exact ⟨_, by simp [execOp, ho, e1, e2, eqGuard, binOp, eq_nil hd], R.v rfl⟩
      · exact OpOK.bad
    · exact OpOK.bad
  · rename_i cs ds hx hy
    split
    · rename_i b hb
      have main : ∀ {c : Ctx} {a' : Act} {w : World}, Tm c w σ a' → EqOK P T (cs.map shA) → ∃ us vs : List Value, a'.eval x = .agg us.toArray ∧ a'.eval y = .agg vs.toArray ∧ (Op.equal T (.agg us.toArray) (.agg vs.toArray)).run P w = .ok b w ∧ P.eqGuardType P.depth T = false := fun {c a' w} h1 hq => by
        have v1 := ev_ok h1 x
        have v2 := ev_ok h1 y
        rw [hx] at v1
        rw [hy] at v2
        obtain ⟨us, e1, f1⟩ := v1
        obtain ⟨vs, e2, f2⟩ := v2
        obtain ⟨q1, q2, q3⟩ := eqL_ok hb f1 f2
        refine ⟨us, vs, e1, e2, ?_, hq.1⟩
        rw [← q3]
        exact hq.2 us vs w q1 q2
      split
      · refine OpOK.val fun base S0 w0 c a' w h1 h2 h3 => ?_
        obtain ⟨us, vs, e1, e2, e3, e4⟩ := main h1 h3
        exact ⟨_, by simp [execOp, ho, e1, e2, eqGuard, binOp, e3, e4, program, Sem.run], R.v rfl⟩
      · refine OpOK.val fun base S0 w0 c a' w h1 h2 h3 => ?_
        obtain ⟨us, vs, e1, e2, e3, e4⟩ := main h1 h3
        exact ⟨_, by simp [execOp, ho, e1, e2, eqGuard, binOp, e3, e4, program, Sem.run], R.v rfl⟩
      · exact OpOK.bad
    · exact OpOK.bad
  · exact OpOK.bad
theorem not_ok {o : Oper} {T : TypeId} {x : Operand} {b : Bool} (ho : o.op = .unOp .not T x) (hx : ev σ x = .one (.c (.v (.bool b)))) : OpOK P o σ (.val True (.one (.c (.v (.bool (!b)))))) :=
  OpOK.val fun base S0 w0 c a w h1 h2 h3 => by
    have hv := ev_ok h1 x
    rw [hx] at hv
    exact ⟨_, by simp [execOp, ho, R.val hv, Op.unary], R.v rfl⟩
theorem under_some {t : TypeId} {i : TypeInfo} (h : P.info? t = some i) (hn : ∀ n u, i.desc ≠ .named n u) : P.underlying t = some i.desc := by
  unfold Program.underlying
  rw [h]
  obtain ⟨desc, b, c', d, e, f, g, hh, ii, j⟩ := i
  cases desc <;> first | rfl | exact absurd rfl (hn _ _)
theorem convert_ok {o : Oper} {S T : TypeId} {x : Operand} {a1 a2 : Nat} {a3 : Bool} {a4 : List A} {k k' : IntKind} {n : Int} {ds : TypeDesc} (ho : o.op = .convert S T x) (ht : tinfo P T = some ⟨a1, a2, a3, a4, .int k⟩) (hs : P.underlying S = some ds)
    (hx : ev σ x = .one (.c (.v (.int k' n)))) : OpOK P o σ (.val True (.one (.c (.v (.int k (k.wrap n)))))) :=
  OpOK.val fun base S0 w0 c a w h1 h2 h3 => by
    have hv := ev_ok h1 x
    rw [hx] at hv
    have hd := int_shape ht
    exact ⟨_, by simp [execOp, ho, R.val hv, convert, run_underlying hd, run_underlying hs, Conv.intToInt], R.v (inK_wf.trans (wf_wrap _ _))⟩
theorem mm_ok {o : Oper} {x y : Operand} {ts : Array TypeId} {lo : Bool} (ho : o.op = .call { callee := .builtin (bif lo then .min else .max), args := #[x, y], argTypes := ts }) : OpOK P o σ (rMM lo (ev σ x) (ev σ y)) := by
  unfold rMM
  split
  · rename_i k a k' b hx hy
    refine OpOK.val fun base S0 w0 c a' w h1 h2 h3 => ?_
    have v1 := ev_ok h1 x
    have v2 := ev_ok h1 y
    rw [hx] at v1
    rw [hy] at v2
    subst h3
    have v1 : R c.S w (.v (.int k a)) (a'.eval x) := v1
    have v2 : R c.S w (.v (.int k b)) (a'.eval y) := v2
    have okR : ∀ {z v : Value}, R c.S w (.v z) v → okV z = true := fun h => by cases h; assumption
    have o1 := okR v1
    have o2 := okR v2
    cases lo with
    | true =>
      refine ⟨_, by simp [execOp, ho, resolve, invoke, builtin, Builtin.min_, Builtin.min2, R.val v1, R.val v2], R.v ?_⟩
      simp only [cond_true]
      split <;> assumption
    | false =>
      refine ⟨_, by simp [execOp, ho, resolve, invoke, builtin, Builtin.max_, Builtin.max2, R.val v1, R.val v2], R.v ?_⟩
      simp only [cond_false]
      split <;> assumption
  · exact OpOK.bad
end
end Go.Proofs.Ytgkfbikffcmmdaa.Abs
