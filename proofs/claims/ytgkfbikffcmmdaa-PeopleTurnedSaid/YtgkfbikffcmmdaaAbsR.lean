/- A step of a region; regions, in whatever order. -/
import Derived.Test.YtgkfbikffcmmdaaAbsM
import Derived.Orders
set_option linter.unusedSimpArgs false
set_option linter.unusedVariables false
set_option maxRecDepth 100000
namespace Go.Proofs.Ytgkfbikffcmmdaa.Abs
open Go.RowKit
section
variable {P : Program} {σ : St} {base : Nat} {S0 : Sh} {w0 : W0}

theorem areq_ok (o : Oper) (r : RV) : OpOK P o σ (areq P o.dst r (ev σ) o.op) := by
  cases ho : o.op with
  | move x => exact move_ok (.inl ho)
  | assign x => exact move_ok (.inr ho)
  | pick c x y =>
    simp only [areq]
    split
    · rename_i b hb; exact pick_ok ho hb
    · exact OpOK.bad
  | alloc T =>
    simp only [areq]
    split
    · rename_i ti d ht hd; exact alloc_ok ho (tinfo_is ht)
    · exact OpOK.bad
  | box T x =>
    simp only [areq]
    split
    · rename_i d hd; exact box_ok ho
    · exact OpOK.bad
  | load T x => exact load_ok ho
  | store T x u => exact store_ok ho
  | fieldAddr T x f => exact fieldAddr_ok ho
  | extract x i =>
    simp only [areq]
    split
    · rename_i rs hx
      split
      · rename_i u hu; exact extract_ok ho hx hu
      · exact OpOK.bad
    · rename_i rs hx
      split
      · rename_i u hu; exact extract_mix ho hx hu
      · exact OpOK.bad
    · exact OpOK.bad
  | indexAddr T x i => exact index_ok ho
  | index T x i => exact indexV_ok ho
  | binOp op T x y T' => exact bin_ok ho
  | unOp u T x =>
    cases u with
    | not =>
      simp only [areq]
      split
      · rename_i b hx; exact not_ok ho hx
      · exact OpOK.bad
    | _ => exact OpOK.bad
  | convert S T x =>
    simp only [areq]
    split
    · rename_i ts a1 a2 a3 a4 k hs ht
      split
      · rename_i k' n hx
        obtain ⟨_, ds, _, _, hds, _⟩ := tinfo_is hs
        exact convert_ok ho ht hds hx
      · exact OpOK.bad
    · exact OpOK.bad
  | makeSlice T l k => exact make_ok ho
  | makeFunc fn first caps =>
    cases fn with
    | func f => exact makeFunc_ok ho
    | _ => exact OpOK.bad
  | nilCheck x => exact nil_ok ho
  | makeMap T r0 =>
    cases r0 with
    | none => exact makeMap_ok ho
    | some y => exact OpOK.bad
  | insert T x k v => exact insert_ok (.inl ho)
  | mapUpdate T x k v => exact insert_ok (.inr ho)
  | lookup T x k ok => exact lookup_ok ho
  | build T ps => exact build_ok ho
  | buildSlice T len ps => exact buildSlice_ok ho
  | slice T x lo hi mx =>
    cases mx with
    | none => exact slice_ok ho
    | some y => exact slice3_ok ho
  | call c =>
    obtain ⟨callee, args, argTypes⟩ := c
    simp only [areq]
    split
    · rename_i x T h2 h3
      have e2 : args = #[x] := by rw [← h2, Array.toArray_toList]
      have e3 : argTypes = #[T] := by rw [← h3, Array.toArray_toList]
      subst e2 e3
      exact len_ok ho
    · rename_i s x T T' h2 h3
      have e2 : args = #[s, x] := by rw [← h2, Array.toArray_toList]
      have e3 : argTypes = #[T, T'] := by rw [← h3, Array.toArray_toList]
      subst e2 e3
      exact appendX_ok ho
    · rename_i x T h2 h3
      have e2 : args = #[x] := by rw [← h2, Array.toArray_toList]
      have e3 : argTypes = #[T] := by rw [← h3, Array.toArray_toList]
      subst e2 e3
      exact cap_ok ho
    · rename_i s x T T' h2 h3
      have e2 : args = #[s, x] := by rw [← h2, Array.toArray_toList]
      have e3 : argTypes = #[T, T'] := by rw [← h3, Array.toArray_toList]
      subst e2 e3
      exact copy_ok ho
    · rename_i x y h2
      have e2 : args = #[x, y] := by rw [← h2, Array.toArray_toList]
      subst e2
      exact mm_ok (lo := true) (by rw [ho]; rfl)
    · rename_i x y h2
      have e2 : args = #[x, y] := by rw [← h2, Array.toArray_toList]
      subst e2
      exact mm_ok (lo := false) (by rw [ho]; rfl)
    · exact call_ok ho fun h1 => ⟨[], [], rfl, F2.nil, F2.nil⟩
    · rename_i x _
      split
      · rename_i f ag first caps hx
        exact call_ok ho (fnval_ok hx)
      · rename_i v hx
        split
        · rename_i l hy
          exact yield_okR ho hx hy
        · exact OpOK.bad
      · exact OpOK.bad
    · exact OpOK.bad
  | field T x f => exact fieldV_ok ho
  | _ => exact OpOK.bad

def stepSt (σ : St) (dst : Option Nat) (v : AV) (m : Mem) : St := ⟨σ.n, match dst with | some d => upd σ.t d v | none => σ.t, m⟩
def dstOK (n : Nat) : Option Nat → Prop
  | some d => d < n
  | none => True
/-- The mark that a loop over a function leaves among the deferred calls. -/
def mkDf (r : Nat) : Deferred := { target := .collected r, args := #[] }
/-- The deferred calls are those, but for marks of loops, in whose rounds nothing was deferred. -/
def DfOK (base : Nat) (c : Ctx) (w : World) (df ds : List Deferred) : Prop := ∃ ms : List Nat, ds = ms.map mkDf ++ df ∧ ms.Nodup ∧ ∀ r ∈ ms, base ≤ r ∧ c.S 0 r ∧ w.heap[r]? = some (.deferred (some []))
theorem DfOK.none {base : Nat} {c : Ctx} {w : World} {df : List Deferred} : DfOK base c w df df := ⟨[], rfl, .nil, fun r h => by simp at h⟩
theorem DfOK.goes {base : Nat} {c c' : Ctx} {w w' : World} {m m' : Mem} {df ds : List Deferred} (h : DfOK base c w df ds) (g : Goes c w m c' w' m') : DfOK base c' w' df ds := by
  obtain ⟨ms, h1, h2, h3⟩ := h
  exact ⟨ms, h1, h2, fun r hr => ⟨(h3 r hr).1, g.S 0 r (h3 r hr).2.1, (g.heap 0 r (h3 r hr).2.1).trans (h3 r hr).2.2⟩⟩
/-- What is known of a frame and a world. -/
def Gm (base : Nat) (S0 : Sh) (w0 : W0) (df : List Deferred) (σ : St) (a : Act) (w : World) : Prop := ∃ c, Tm c w σ a ∧ WR base S0 w0 c σ.m w ∧ DfOK base c w df a.defers
theorem put_defers (a : Act) (d : Option Nat) (v : Value) : (a.put d v).defers = a.defers := by cases d <;> rfl
theorem put_ok {c c' : Ctx} {w w' : World} {m' : Mem} {a : Act} {dst : Option Nat} {v : Value} {x : AV} (h : Tm c w σ a) (g : Goes c w σ.m c' w' m') (hd : dstOK σ.n dst) (hv : VV c' w' m' x v) : Tm c' w' (stepSt σ dst x m') (a.put dst v) := by
  cases dst with
  | none => exact ⟨h.1, fun d hd => (h.2 d hd).goes g, h.3.mono (g.S 0) (g.heap 0)⟩
  | some d =>
    refine ⟨by simp [Act.put, h.1, stepSt], fun e he => ?_, h.3.mono (g.S 0) (g.heap 0)⟩
    show VV c' w' m' (upd σ.t d x e) ((a.tmps.setIfInBounds d v).getD e undef)
    by_cases hed : e = d
    · subst hed
      rw [upd_same]
      have : e < a.tmps.size := by rw [h.1]; exact he
      simpa [this] using hv
    · rw [upd_ne _ _ hed]
      have : (a.tmps.setIfInBounds d v).getD e undef = a.tmps.getD e undef := by
        simp [Ne.symm hed]
      rw [this]
      exact (h.2 e he).goes g

/-! One operation of a region, by its number. -/
def wantd (ops : Array Oper) (σ : St) (o : Oper) : Option Bool := match o.guard with
  | none => some true
  | some (j, want) => match (ops[j]?).bind (·.dst) with
    | none => some false
    | some s => match ev σ (.tmp s) with
      | .one (.c (.v (.bool b))) => some (b == want)
      | .tup _ => some false
      | _ => none
def reqI (P : Program) (cs : Nat → RV) (σ : St) (i : Nat) (o : Oper) : Req := areq P o.dst (cs i) (ev σ) o.op
def okI (P : Program) (ops : Array Oper) (cs : Nat → RV) (i : Nat) (σ : St) : Prop := match ops[i]? with
  | none => False
  | some o => dstOK σ.n o.dst ∧ match wantd ops σ o with
    | some true => ((reqI P cs σ i o).eff σ.m).ok
    | some false => True
    | none => False
def stepI (P : Program) (ops : Array Oper) (cs : Nat → RV) (i : Nat) (σ : St) : St := match ops[i]? with
  | none => σ
  | some o => match wantd ops σ o with
    | some true => stepSt σ o.dst ((reqI P cs σ i o).eff σ.m).val ((reqI P cs σ i o).mem σ.m)
    | _ => stepSt σ o.dst (.tup []) σ.m
def fpI (P : Program) (ops : Array Oper) (cs : Nat → RV) (i : Nat) (σ : St) : List Nat × Bool := match ops[i]? with
  | none => ([], false)
  | some o => match wantd ops σ o with
    | some true => ((reqI P cs σ i o).ids, (reqI P cs σ i o).wr)
    | _ => ([], false)
theorem wantd_ok {ops : Array Oper} {o : Oper} {b : Bool} {c : Ctx} {w : World} {a : Act} (h : Tm c w σ a) (hw : wantd ops σ o = some b) : Region.wanted o (yielded ops a.tmps) = b := by
  unfold wantd at hw
  unfold Region.wanted
  split at hw
  · rename_i hg; rw [hg]; simpa using hw
  · rename_i j want hg
    rw [hg]
    simp only
    split at hw
    · rename_i hj
      cases hw
      simp [yielded, hj]
    · rename_i s hj
      split at hw
      · rename_i t ht
        cases hw
        have hs : s < σ.n := by
          by_cases hs : s < σ.n
          · exact hs
          · simp [ev, hs] at ht
        have hv := ev_ok h (.tmp s)
        rw [ht] at hv
        have hv : a.tmps.getD s undef = .bool t := R.val hv
        have hs' : s < a.tmps.size := by rw [h.1]; exact hs
        have : a.tmps[s]? = some (.bool t) := by
          rw [Array.getElem?_eq_getElem hs']
          simpa [Array.getD, hs'] using hv
        simp only [yielded, hj, Option.bind_some, this]
        cases t <;> cases want <;> rfl
      · rename_i rs ht
        cases hw
        have hs : s < σ.n := by
          by_cases hs : s < σ.n
          · exact hs
          · simp [ev, hs] at ht
        have hv := ev_ok h (.tmp s)
        rw [ht] at hv
        obtain ⟨vs, hv, _⟩ := hv
        have hv : a.tmps.getD s undef = .tuple vs.toArray := hv
        have hs' : s < a.tmps.size := by rw [h.1]; exact hs
        have : a.tmps[s]? = some (.tuple vs.toArray) := by
          rw [Array.getElem?_eq_getElem hs']
          simpa [Array.getD, hs'] using hv
        simp only [yielded, hj, Option.bind_some, this]
        cases want <;> rfl
      · simp at hw
theorem opI_ok {ro : Option Nat} {ops : Array Oper} {cs : Nat → RV} {i : Nat} {df : List Deferred} {a : Act} {w : World} {K : Act → World → Prop} {Q : Exit → Act → World → Prop} (hok : okI P ops cs i σ) (hG : Gm base S0 w0 df σ a w)
    (hK : ∀ a' w', Gm base S0 w0 df (stepI P ops cs i σ) a' w' → K a' w') : wpOpIn (Fw ro) 0 P ops Q i K a w := by
  obtain ⟨c, h1, h2, h3⟩ := hG
  unfold okI at hok
  unfold stepI at hK
  unfold wpOpIn
  cases ho : ops[i]? with
  | none => simp only [ho] at hok
  | some o =>
    simp only [ho] at hok hK ⊢
    obtain ⟨hd, hok⟩ := hok
    cases hw : wantd ops σ o with
    | none => simp only [hw] at hok
    | some b =>
      rw [wantd_ok h1 hw]
      cases b with
      | false =>
        simp only [hw] at hK
        rw [if_neg (by simp)]
        exact ⟨fun _ _ => trivial, hK _ _ ⟨c, put_ok h1 (Goes.refl _ _ _) hd ⟨[], rfl, F2.nil⟩, h2, by rw [put_defers]; exact h3⟩⟩
      | true =>
        simp only [hw] at hok hK
        rw [if_pos rfl]
        exact areq_ok o (cs i) ro base S0 w0 c a w K Q h1 h2 hok fun c' w' v g r hv => hK _ _ ⟨c', put_ok h1 g hd hv, r, by rw [put_defers]; exact h3.goes g⟩
end

/-! Whatever order. -/
section
variable {X : Type} (ok : Nat → X → Prop) (step : Nat → X → X) (ind : Nat → Nat → Prop)
def runOK : List Nat → X → Prop
  | [], _ => True
  | i :: l, s => ok i s ∧ runOK l (step i s)
def runEnd : List Nat → X → X
  | [], s => s
  | i :: l, s => runEnd l (step i s)
theorem runOK_append (l k : List Nat) (s : X) : runOK ok step (l ++ k) s ↔ runOK ok step l s ∧ runOK ok step k (runEnd step l s) := by
  induction l generalizing s with
  | nil => simp [runOK, runEnd]
  | cons i l ih => simp [runOK, runEnd, ih, and_assoc]
theorem runEnd_append (l k : List Nat) (s : X) : runEnd step (l ++ k) s = runEnd step k (runEnd step l s) := by
  induction l generalizing s with
  | nil => rfl
  | cons i l ih => simp [runEnd, ih]
variable (swap : ∀ i j s, ind i j → ok i s → ok j (step i s) → ok j s ∧ ok i (step j s) ∧ step i (step j s) = step j (step i s))
include swap in
theorem move_back (i : Nat) : ∀ (A B : List Nat) (s : X), (∀ a ∈ A, ind i a) → runOK ok step (i :: (A ++ B)) s → runOK ok step (A ++ i :: B) s ∧ runEnd step (A ++ i :: B) s = runEnd step (i :: (A ++ B)) s := by
  intro A
  induction A with
  | nil => intro B s _ h; exact ⟨h, rfl⟩
  | cons a A ih =>
    intro B s hA h
    obtain ⟨h1, h2, h3⟩ := h
    obtain ⟨k1, k2, k3⟩ := swap i a s (hA a (by simp)) h1 h2
    have h4 : runOK ok step (i :: (A ++ B)) (step a s) := ⟨k2, by rw [k3]; exact h3⟩
    obtain ⟨q1, q2⟩ := ih B (step a s) (fun b hb => hA b (by simp [hb])) h4
    refine ⟨⟨k1, q1⟩, ?_⟩
    show runEnd step (A ++ i :: B) (step a s) = runEnd step (A ++ B) (step a (step i s))
    rw [q2, ← k3]
    rfl
include swap in
theorem any_order : ∀ (m k : Nat) (L : List Nat) (s : X), L.Perm (List.range' k m) → L.Pairwise (fun a b => b < a → ind b a) → runOK ok step (List.range' k m) s → runOK ok step L s ∧ runEnd step L s = runEnd step (List.range' k m) s := by
  intro m
  induction m with
  | zero =>
    intro k L s hp _ _
    have : L = [] := hp.eq_nil
    subst this
    exact ⟨trivial, rfl⟩
  | succ m ih =>
    intro k L s hp hw hr
    rw [List.range'_succ] at hp hr ⊢
    obtain ⟨A, B, rfl⟩ := List.append_of_mem (hp.mem_iff.2 (List.mem_cons_self ..))
    have hp2 : (A ++ B).Perm (List.range' (k + 1) m) := List.Perm.cons_inv ((List.perm_middle).symm.trans hp)
    have hw2 : (A ++ B).Pairwise (fun a b => b < a → ind b a) := hw.sublist (List.Sublist.append_left (List.sublist_cons_self k B) A)
    obtain ⟨q1, q2⟩ := ih (k + 1) (A ++ B) (step k s) hp2 hw2 hr.2
    have hA : ∀ a ∈ A, ind k a := fun a ha => by
      have h1 : k < a := by
        have : a ∈ List.range' (k + 1) m := hp2.mem_iff.1 (List.mem_append.2 (.inl ha))
        have := List.mem_range'_1.1 this
        omega
      exact (List.pairwise_append.1 hw).2.2 a ha k (by simp) h1
    obtain ⟨r1, r2⟩ := move_back ok step ind swap k A B s hA ⟨hr.1, q1⟩
    exact ⟨r1, by rw [r2]; exact q2⟩
end
end Go.Proofs.Ytgkfbikffcmmdaa.Abs
