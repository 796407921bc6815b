/- Whole functions: their code, walked over values without addresses. -/
import Derived.Test.YtgkfbikffcmmdaaAbsR3
import Derived.RangeFuncLeaves
import Derived.RangeFuncRecord
set_option linter.unusedSimpArgs false
set_option linter.unusedVariables false
set_option maxRecDepth 100000
namespace Go.Proofs.Ytgkfbikffcmmdaa.Abs
open Go.RowKit
section
variable {P : Program}

/-- From whatever stands for the state the code comes to an end of which Q holds. -/
def AW (P : Program) (c : Code) (σ : St) (Q : Exit → St → Prop) : Prop := ∀ (base : Nat) (S0 : Sh) (w0 : W0) (df : List Deferred) (a : Act) (w : World), Gm base S0 w0 df σ a w →
  c.wpIn (Fw w0.ro) 0 P (fun e a' w' => ∃ σ', Q e σ' ∧ Gm base S0 w0 df σ' a' w') a w
def thenQ (Q : Exit → St → Prop) (K : St → Prop) : Exit → St → Prop
  | .normal, σ => K σ
  | e, σ => Q e σ
def blockQ (id : Nat) (Q : Exit → St → Prop) : Exit → St → Prop
  | .exit id', σ => if id' = id then Q .normal σ else Q (.exit id') σ
  | e, σ => Q e σ
theorem AW.mono {c : Code} {σ : St} {Q Q' : Exit → St → Prop} (h : AW P c σ Q) (hq : ∀ e σ, Q e σ → Q' e σ) : AW P c σ Q' := fun base S0 w0 df a w hG =>
  wpIn_mono (h base S0 w0 df a w hG) fun e a' w' ⟨σ', h1, h2⟩ => ⟨σ', hq e σ' h1, h2⟩
theorem AW.skip {σ : St} {Q : Exit → St → Prop} (h : Q .normal σ) : AW P .skip σ Q := fun _ _ _ _ _ _ hG => wpIn_skip ⟨σ, h, hG⟩
theorem AW.ret {σ : St} {Q : Exit → St → Prop} (h : Q .ret σ) : AW P .ret σ Q := fun _ _ _ _ _ _ hG => wpIn_ret ⟨σ, h, hG⟩
theorem AW.exit {id : Nat} {σ : St} {Q : Exit → St → Prop} (h : Q (.exit id) σ) : AW P (.exit id) σ Q := fun _ _ _ _ _ _ hG => wpIn_exit ⟨σ, h, hG⟩
theorem AW.block {id : Nat} {c : Code} {σ : St} {Q : Exit → St → Prop} (h : AW P c σ (blockQ id Q)) : AW P (.block id c) σ Q := fun base S0 w0 df a w hG =>
  wpIn_block (wpIn_mono (h base S0 w0 df a w hG) fun e a' w' ⟨σ', h1, h2⟩ => by
    cases e with
    | exit id' =>
      by_cases hid : id' = id
      · simp only [blockQ, hid, if_true] at h1
        simp only [Exit.inBlock, hid, if_true]
        exact ⟨σ', h1, h2⟩
      · simp only [blockQ, hid, if_false] at h1
        simp only [Exit.inBlock, hid, if_false]
        exact ⟨σ', h1, h2⟩
    | _ => exact ⟨σ', h1, h2⟩)
theorem AW.seq {x y : Code} {σ : St} {Q : Exit → St → Prop} (h : AW P x σ (thenQ Q fun σ' => AW P y σ' Q)) : AW P (.seq x y) σ Q := fun base S0 w0 df a w hG =>
  wpIn_seq (wpIn_mono (h base S0 w0 df a w hG) fun e a' w' ⟨σ', h1, h2⟩ => by
    cases e with
    | normal => exact h1 base S0 w0 df a' w' h2
    | _ => exact ⟨σ', h1, h2⟩)
theorem AW.cond {c : Operand} {x y : Code} {σ : St} {Q : Exit → St → Prop} {b : Bool} (hc : ev σ c = .one (.c (.v (.bool b)))) (ht : b = true → AW P x σ Q) (hf : b = false → AW P y σ Q) : AW P (.cond c x y) σ Q := fun base S0 w0 df a w hG => by
  obtain ⟨cc, h1, h2, h3⟩ := hG
  have hv := ev_ok h1 c
  rw [hc] at hv
  have hv : a.eval c = .bool b := R.val hv
  refine wpIn_cond hv ?_
  cases b with
  | true => exact ht rfl base S0 w0 df a w ⟨cc, h1, h2, h3⟩
  | false => exact hf rfl base S0 w0 df a w ⟨cc, h1, h2, h3⟩
theorem AW.region {id : Nat} {ops : Array Oper} {σ : St} {Q : Exit → St → Prop} (h : RunP P ops ops.toList σ [] fun σ' _ => Q .normal σ') : AW P (.region id ops false) σ Q := fun base S0 w0 df a w hG =>
  region_ok h hG fun σ' tr a' w' h1 h2 => ⟨σ', h1, h2⟩
theorem AW.draw {id : Nat} {ops : Array Oper} {σ : St} {Q : Exit → St → Prop} (hm : P.follows .mixedOrders = true) (h : RunP P ops ops.toList σ [] fun σ' tr => checkB ops (crs tr) = true ∧ Q .normal σ') : AW P (.region id ops true) σ Q := fun base S0 w0 df a w hG =>
  draw_ok hm h hG fun σ' tr a' w' h1 => ⟨checkB_crs h1.1, fun h2 => ⟨σ', h1.2, h2⟩⟩
theorem wpIn_loop_n {F : Fence} {nn : Nat} {c : Code} {Q : Exit → Act → World → Prop} {a : Act} {w : World} (J : Nat → Act → World → Prop) {n : Nat} (h0 : J n a w) (round : ∀ n a w, J n a w → c.wpIn F nn P (Exit.then (fun a' w' => ∃ m, m < n ∧ J m a' w') Q) a w) : (Code.loop c).wpIn F nn P Q a w := by
  intro b k cs hro hb hr
  have key : ∀ n a w, J n a w → ∃ e a' w', Q e a' w' ∧ ArrivesIn (Machine.fenced P F) P (lone (b.atR a (.code c :: .inLoop c :: k)) cs w) b k cs e a' w' := by
    intro n
    induction n using Nat.strongRecOn with
    | _ n ih =>
      intro a w hI
      obtain ⟨e, a₁, w₁, hq, harr⟩ := round n a w hI b (.inLoop c :: k) cs hro hb hr
      cases e with
      | normal =>
        obtain ⟨m, hlt, hI₁⟩ := hq
        obtain ⟨e₂, a₂, w₂, hq₂, harr₂⟩ := ih m hlt a₁ w₁ hI₁
        exact ⟨e₂, a₂, w₂, hq₂, .of_steps (StepsIn.trans harr (.one (fenced_calm hb hr rfl) stepR_inLoop)) harr₂⟩
      | exit id => exact ⟨_, a₁, w₁, hq, .pass (x := .inLoop c) rfl (fun _ _ => .inl (by simp)) harr⟩
      | goto l => exact ⟨_, a₁, w₁, hq, .pass (x := .inLoop c) rfl (fun _ _ => .inl (by simp)) harr⟩
      | ret => exact ⟨_, a₁, w₁, hq, .pass (x := .inLoop c) rfl (fun _ _ => .inl (by simp)) harr⟩
      | panic ch => exact ⟨_, a₁, w₁, hq, .pass (x := .inLoop c) rfl (fun _ _ => .inl (by simp)) harr⟩
      | outgrown => exact ⟨_, a₁, w₁, hq, .pass (x := .inLoop c) rfl (fun _ _ => .inl (by simp)) harr⟩
  obtain ⟨e, a', w', hq, harr⟩ := key n a w h0
  exact ⟨e, a', w', hq, .of_steps (.one (fenced_calm hb hr rfl) stepR_loop) harr⟩
/-- A loop, by what holds at its head with so many rounds to come. -/
theorem AW.loop {c : Code} {σ : St} {Q : Exit → St → Prop} (I : Nat → St → Prop) {n : Nat} (h0 : I n σ) (round : ∀ n σ, I n σ → AW P c σ (thenQ Q fun σ' => ∃ m, m < n ∧ I m σ')) : AW P (.loop c) σ Q := fun base S0 w0 df a w hG =>
  wpIn_loop_n (fun n a w => ∃ σ, I n σ ∧ Gm base S0 w0 df σ a w) ⟨σ, h0, hG⟩ fun n a w ⟨σ1, h1, h2⟩ =>
    wpIn_mono (round n σ1 h1 base S0 w0 df a w h2) fun e a' w' ⟨σ', h3, h4⟩ => by
      cases e with
      | normal => obtain ⟨m, h5, h6⟩ := h3; exact ⟨m, h5, σ', h6, h4⟩
      | _ => exact ⟨σ', h3, h4⟩

/-! Less is known. -/
def A.ids : A → List Nat
  | .ptr id _ => [id]
  | .own id _ => [id]
  | .pel id _ _ _ => [id]
  | .mp id => [id]
  | _ => []
def idsL : List A → List Nat
  | [] => []
  | a :: l => a.ids ++ idsL l
def idsM : List (Bool × List A) → List Nat
  | [] => []
  | (_, cs) :: l => idsL cs ++ idsM l
def AV.ids : AV → List Nat
  | .one a => a.ids
  | .agg cs => idsL cs
  | .tupo rs => idsM rs
  | _ => []
def Blk.ids : Blk → List Nat
  | .box cs => idsL cs
  | _ => []
def live (m : Mem) : List Nat → Prop
  | [] => True
  | i :: l => (match m i with | some _ => True | none => False) ∧ live m l
theorem live_mem {m : Mem} : ∀ {l : List Nat}, live m l → ∀ i ∈ l, ∃ b, m i = some b := by
  intro l
  induction l with
  | nil => intro _ i hi; simp at hi
  | cons x l ih =>
    intro h i hi
    rcases List.mem_cons.1 hi with rfl | hi
    · have h1 := h.1
      cases hm : m i with
      | none => rw [hm] at h1; exact h1.elim
      | some b => exact ⟨b, rfl⟩
    · exact ih h.2 i hi
/-- Of memory some is forgotten. -/
def LeM (m m' : Mem) : Prop := ∀ id b, m' id = some b → m id = some b
theorem isBox.less {m m' : Mem} {id : Nat} {b : Blk} (hm : LeM m m') (hb : m' id = some b) (h : isBox m id) : isBox m' id := by
  have := hm id b hb
  unfold isBox at *
  rw [this] at h
  rw [hb]
  exact h
theorem VA.less {c : Ctx} {w : World} {m m' : Mem} {a : A} {v : Value} (h : VA c w m a v) (hm : LeM m m') (hl : live m' a.ids) : VA c w m' a v := by
  have hl := live_mem hl
  have hr : ∀ id L b, m' id = some b → rowLen m id = some L → rowLen m' id = some L := fun id L b hb hL => by
    simp only [rowLen, hm id b hb] at hL
    simp only [rowLen, hb]
    exact hL
  cases a with
  | ptr id off =>
    obtain ⟨hc, he⟩ := h
    obtain ⟨b, hb⟩ := hl id (by simp [A.ids])
    exact ⟨hc.less hm hb, he⟩
  | mp id =>
    obtain ⟨hc, he⟩ := h
    obtain ⟨b, hb⟩ := hl id (by simp [A.ids])
    exact ⟨hc.less hm hb, he⟩
  | own id n =>
    obtain ⟨h0, L, h1, h2⟩ := h
    obtain ⟨b, hb⟩ := hl id (by simp [A.ids])
    exact ⟨h0, L, hr id L b hb h1, h2⟩
  | pel id n i off =>
    obtain ⟨h0, L, h1, h2, h3⟩ := h
    obtain ⟨b, hb⟩ := hl id (by simp [A.ids])
    exact ⟨h0, L, hr id L b hb h1, h2, fun e ty sz xs hx => h3 e ty sz xs (by simp only [rowsOf, hm id b hb]; simp only [rowsOf, hb] at hx; exact hx)⟩
  | c x => exact h
  | el k cs off => exact h
  | full k xs => exact h
  | nil => exact h
  | bare => exact h
  | any => exact h
theorem live_split {m' : Mem} {l k : List Nat} (h : live m' (l ++ k)) : live m' l ∧ live m' k := by
  induction l with
  | nil => exact ⟨trivial, h⟩
  | cons x l ih => exact ⟨⟨h.1, (ih h.2).1⟩, (ih h.2).2⟩
theorem F2.less {c : Ctx} {w : World} {m m' : Mem} (hm : LeM m m') : ∀ {cs : List A} {vs : List Value}, F2 (VA c w m) cs vs → live m' (idsL cs) → F2 (VA c w m') cs vs := by
  intro cs
  induction cs with
  | nil => intro vs h _; rw [h.unnil]; exact F2.nil
  | cons a cs ih =>
    intro vs h hl
    obtain ⟨v, vs, rfl, h1, h2⟩ := h.uncons
    obtain ⟨l1, l2⟩ := live_split hl
    exact F2.cons (h1.less hm l1) (ih h2 l2)
theorem VM.less {c : Ctx} {w : World} {m m' : Mem} (hm : LeM m m') : ∀ {rs : List (Bool × List A)} {vs : List Value}, F2 (VM c w m) rs vs → live m' (idsM rs) → F2 (VM c w m') rs vs := by
  intro rs
  induction rs with
  | nil => intro vs h _; rw [h.unnil]; exact F2.nil
  | cons x rs ih =>
    intro vs h hl
    obtain ⟨v, vs, rfl, h1, h2⟩ := h.uncons
    obtain ⟨b, cs⟩ := x
    obtain ⟨l1, l2⟩ := live_split hl
    refine F2.cons ?_ (ih h2 l2)
    cases b with
    | true => obtain ⟨us, e1, e2⟩ := h1; exact ⟨us, e1, e2.less hm l1⟩
    | false =>
      obtain ⟨a, e1, e2⟩ := h1
      have e1 : cs = [a] := e1
      subst e1
      exact ⟨a, rfl, e2.less hm (by simpa [idsL] using l1)⟩
theorem VV.less {c : Ctx} {w : World} {m m' : Mem} {x : AV} {v : Value} (h : VV c w m x v) (hm : LeM m m') (hl : live m' x.ids) : VV c w m' x v := by
  cases x with
  | one a => exact VA.less h hm hl
  | agg cs => obtain ⟨vs, h1, h2⟩ := h; exact ⟨vs, h1, h2.less hm hl⟩
  | tup rs => exact h
  | tupo rs => obtain ⟨vs, h1, h2⟩ := h; exact ⟨vs, h1, VM.less hm h2 hl⟩
  | junk => exact h
/-- What stands for the one stands for the other. -/
def LeV (x y : AV) : Prop := ∀ (c : Ctx) (w : World) (m : Mem) (v : Value), VV c w m x v → VV c w m y v
theorem LeV.refl (x : AV) : LeV x x := fun _ _ _ _ h => h
theorem LeV.junk (x : AV) : LeV x .junk := fun _ _ _ _ _ => trivial
theorem LeV.nil : LeV (.one .nil) (.one (.c (.row []))) := fun c w m v h => by rw [show v = .slice none 0 0 from h]; exact R.nil
theorem LeV.full {k : Nat} {xs : List (List CV)} : LeV (.one (.full k xs)) (.one (.c (.rowc k xs))) := fun c w m v h => h.choose_spec.2
def LeT (m' : Mem) (f g : Nat → AV) : Prop := ∀ d, LeV (f d) (g d) ∧ live m' (g d).ids
theorem LeT.junk {m' : Mem} {f : Nat → AV} : LeT m' f (fun _ => .junk) := fun _ => ⟨LeV.junk _, trivial⟩
theorem LeT.upd {m' : Mem} {f g : Nat → AV} {d : Nat} {x : AV} (h1 : LeV (f d) x) (h2 : live m' x.ids) (h : LeT m' f g) : LeT m' f (upd g d x) := fun e => by
  by_cases he : e = d
  · subst he; rw [upd_same]; exact ⟨h1, h2⟩
  · rw [upd_ne _ _ he]; exact h e
theorem LeT.same {m' : Mem} {f g : Nat → AV} {d : Nat} {x : AV} (h1 : f d = x) (h2 : live m' x.ids) (h : LeT m' f g) : LeT m' f (Abs.upd g d x) := LeT.upd (h1 ▸ LeV.refl _) h2 h
theorem LeM.none {m : Mem} : LeM m (fun _ => none) := fun id b h => by simp at h
theorem LeM.same {m m' : Mem} {d : Nat} {b : Option Blk} (h1 : m d = b) (h : LeM m m') : LeM m (Abs.upd m' d b) := fun e b' hb => by
  by_cases he : e = d
  · subst he; rw [upd_same] at hb; rw [h1, hb]
  · rw [upd_ne _ _ he] at hb; exact h e b' hb
/-- Boxes that are known know of what is known alone. -/
def LiveM (k : Mem) (m : Mem) : Prop := ∀ id b, m id = some b → live k b.ids
theorem LiveM.none {k : Mem} : LiveM k (fun _ => none) := fun id b h => by simp at h
theorem LiveM.upd {k m : Mem} {d : Nat} {b : Option Blk} (h1 : match b with | some b => live k b.ids | Option.none => True) (h : LiveM k m) : LiveM k (Abs.upd m d b) := fun e b' hb => by
  by_cases he : e = d
  · subst he; rw [upd_same] at hb; subst hb; exact h1
  · rw [upd_ne _ _ he] at hb; exact h e b' hb
theorem Gm.less {base : Nat} {S0 : Sh} {w0 : W0} {df : List Deferred} {σ σ' : St} {a : Act} {w : World} (h : Gm base S0 w0 df σ a w) (hn : σ'.n = σ.n) (hT : LeT σ'.m σ.t σ'.t) (hM : LeM σ.m σ'.m) (hL : LiveM σ'.m σ'.m) : Gm base S0 w0 df σ' a w := by
  obtain ⟨c, h1, h2, h3⟩ := h
  refine ⟨c, ⟨by rw [hn]; exact h1.1, fun d hd => ?_, h1.3⟩, ?_, h3⟩
  · obtain ⟨k1, k2⟩ := hT d
    have hx := k1 c w σ.m _ (h1.2 d (by rw [← hn]; exact hd))
    exact hx.less hM k2
  · refine ⟨fun id b hb => ?_, fun id id' b e1 e2 => ?_, h2.lt, h2.old, h2.new, h2.below, h2.rok, h2.size, h2.s0⟩
    · have h4 := h2.blk id b (hM id b hb)
      cases b with
      | box cs =>
        obtain ⟨q1, q2, vs, T, q3, q4⟩ := h4
        exact ⟨q1, q2, vs, T, q3, q4.less hM (hL id _ hb)⟩
      | rows e sz xs => exact h4
      | froz xs => exact h4
      | gone L => exact h4
      | lent j e sz xs => exact h4
      | fbox cs => exact h4
      | obox cs => exact h4
      | orec r => exact h4
      | mapb a ks xs => exact h4
      | fmap a ks xs => exact h4
    · have hb : ∀ id b, blockOf c σ'.m id = some b → blockOf c σ.m id = some b := fun id b hb => by
        unfold blockOf at hb ⊢
        cases hm : σ'.m id with
        | none => rw [hm] at hb; simp at hb
        | some blk => rw [hM id blk hm]; rw [hm] at hb; exact hb
      exact h2.inj id id' b (hb _ _ e1) (hb _ _ e2)
/-- The walk goes on from a state of which less is known. -/
theorem AW.less {c : Code} {σ : St} (σ' : St) {Q : Exit → St → Prop} (hn : σ'.n = σ.n) (hT : LeT σ'.m σ.t σ'.t) (hM : LeM σ.m σ'.m) (hL : LiveM σ'.m σ'.m) (h : AW P c σ' Q) : AW P c σ Q := fun base S0 w0 df a w hG => h base S0 w0 df a w (hG.less hn hT hM hL)
theorem AW.weak {c : Code} {σ : St} {Q : Exit → St → Prop} {K : Exit → St → Prop} (h : AW P c σ K) (hK : ∀ e σ1, K e σ1 → Q e σ1 ∨ ∃ σ2, σ2.n = σ1.n ∧ LeT σ2.m σ1.t σ2.t ∧ LeM σ1.m σ2.m ∧ LiveM σ2.m σ2.m ∧ Q e σ2) : AW P c σ Q := fun base S0 w0 df a w hG =>
  wpIn_mono (h base S0 w0 df a w hG) fun e a' w' ⟨σ', h1, h2⟩ => by
    rcases hK e σ' h1 with h3 | ⟨σ2, e1, e2, e3, e4, e5⟩
    · exact ⟨σ', h3, h2⟩
    · exact ⟨σ2, e5, h2.less e1 e2 e3 e4⟩
/-- Of the second state no more is known than of the first one. -/
def Less (σ σ' : St) : Prop := σ'.n = σ.n ∧ LeT σ'.m σ.t σ'.t ∧ LeM σ.m σ'.m ∧ LiveM σ'.m σ'.m
/-- A loop, by what holds at its head with so many rounds to come; at a round's end some of what is known may be forgotten. -/
theorem AW.loopW {c : Code} {σ : St} {Q : Exit → St → Prop} (I : Nat → St → Prop) {n : Nat} (σ0 : St) (h0 : I n σ0) (hl : Less σ σ0) (round : ∀ n σ, I n σ → AW P c σ (thenQ Q fun σ' => ∃ m, m < n ∧ ∃ σ2, I m σ2 ∧ Less σ' σ2)) : AW P (.loop c) σ Q := by
  refine AW.less σ0 hl.1 hl.2.1 hl.2.2.1 hl.2.2.2 (AW.loop I h0 fun n σ hI => AW.weak (round n σ hI) fun e σ1 h => ?_)
  cases e with
  | normal =>
    obtain ⟨m, h1, σ2, h2, h3⟩ := h
    exact .inr ⟨σ2, h3.1, h3.2.1, h3.2.2.1, h3.2.2.2, m, h1, h2⟩
  | _ => exact .inl h
/-- Nothing becomes a row of the call's own. -/
theorem AW.fresh {c : Code} {σ : St} {Q : Exit → St → Prop} (d id : Nat) (e : TypeId) (sz : Nat) (hs : 0 < sz) (hd : σ.t d = .one .nil) (hm : σ.m id = none) (h : AW P c ⟨σ.n, upd σ.t d (.one (.own id 0)), upd σ.m id (some (.rows e sz []))⟩ Q) : AW P c σ Q := fun base S0 w0 df a w hG => by
  refine h base S0 w0 df a w ?_
  obtain ⟨cc, h1, h2, h3⟩ := hG
  obtain ⟨g, r, hv⟩ := h2.rows hm (e := e) (sz := sz) (xs := []) (v := .slice none 0 0) (Below.refl _ w) (by simp) hs (by simp) (vss := []) F2.nil (World.ownsRow_nil _ _ _ _)
  refine ⟨_, ⟨h1.1, fun q hq => ?_, h1.3.mono (g.S 0) (g.heap 0)⟩, r, h3.goes g⟩
  show VV _ w _ (upd σ.t d (.one (.own id 0)) q) _
  by_cases hqd : q = d
  · subst hqd
    rw [upd_same]
    have := h1.2 q hq
    rw [hd] at this
    rw [show a.tmps.getD q undef = .slice none 0 0 from this]
    exact hv
  · rw [upd_ne _ _ hqd]
    exact (h1.2 q hq).goes g

/-- A row without elements is nothing, or lies somewhere. -/
theorem AW.empty {c : Code} {σ : St} {Q : Exit → St → Prop} {j : Nat} (d : Nat) (hd : σ.t d = .one (.c (.rowc j []))) (h1 : AW P c ⟨σ.n, upd σ.t d (.one .nil), σ.m⟩ Q) (h2 : AW P c ⟨σ.n, upd σ.t d (.one .bare), σ.m⟩ Q) : AW P c σ Q := fun base S0 w0 df a w hG => by
  obtain ⟨cc, t1, t2, t3⟩ := hG
  by_cases hdn : d < σ.n
  · have hv := t1.2 d hdn
    rw [hd] at hv
    have hv : R cc.S w (.rowc j []) (a.tmps.getD d undef) := hv
    have go : ∀ x : A, VA cc w σ.m x (a.tmps.getD d undef) → Gm base S0 w0 df ⟨σ.n, upd σ.t d (.one x), σ.m⟩ a w := fun x hx => by
      refine ⟨cc, ⟨t1.1, fun q hq => ?_, t1.3⟩, t2, t3⟩
      show VV cc w _ (upd σ.t d (.one x) q) _
      by_cases hqd : q = d
      · subst hqd; rw [upd_same]; exact hx
      · rw [upd_ne _ _ hqd]; exact t1.2 q hq
    generalize a.tmps.getD d undef = v at hv go
    cases hv with
    | nil => exact h1 base S0 w0 df a w (go .nil rfl)
    | bare h => exact h2 base S0 w0 df a w (go .bare ⟨_, _, rfl, h⟩)
    | row g h => exact absurd rfl h
  · refine h1 base S0 w0 df a w ⟨cc, ⟨t1.1, fun q hq => ?_, t1.3⟩, t2, t3⟩
    have hq : q < σ.n := hq
    show VV cc w _ (upd σ.t d (.one .nil) q) _
    rw [upd_ne _ _ (by omega)]
    exact t1.2 q hq
/-- A row of the call's own is written no more. -/
theorem AW.freeze {c : Code} {σ : St} {Q : Exit → St → Prop} (d id : Nat) {n : Nat} {e : TypeId} {sz : Nat} {xs : List (List CV)} (hd : σ.t d = .one (.own id n)) (hm : σ.m id = some (.rows e sz xs)) (hn : xs.length = n)
    (h : AW P c ⟨σ.n, upd σ.t d (.one (.c (.row xs))), upd σ.m id (some (.froz xs))⟩ Q) : AW P c σ Q := fun base S0 w0 df a w hG => by
  refine h base S0 w0 df a w ?_
  obtain ⟨cc, h1, h2, h3⟩ := hG
  obtain ⟨g, r, hv⟩ := h2.freeze hm
  refine ⟨_, ⟨h1.1, fun q hq => ?_, h1.3.mono (g.S 0) (g.heap 0)⟩, r, h3.goes g⟩
  show VV _ w _ (upd σ.t d (.one (.c (.row xs))) q) _
  by_cases hqd : q = d
  · subst hqd
    rw [upd_same]
    have := h1.2 q hq
    rw [hd] at this
    obtain ⟨_, L, hL, hle, he⟩ := this
    have hL' : xs.length = L := by simpa [rowLen, hm] using hL
    rw [he (by omega)]
    exact hv
  · rw [upd_ne _ _ hqd]
    exact (h1.2 q hq).goes g

/-! Rows that are lent: shown in a colour, as long as a call looks at them; then they are of the call's own again. -/
theorem AW.lend {c : Code} {σ : St} {Q : Exit → St → Prop} (id j : Nat) (hj : j ≠ 0) {e : TypeId} {sz : Nat} {xs : List (List CV)} (hm : σ.m id = some (.rows e sz xs)) (h : AW P c ⟨σ.n, σ.t, upd σ.m id (some (.lent j e sz xs))⟩ Q) : AW P c σ Q := fun base S0 w0 df a w hG => by
  refine h base S0 w0 df a w ?_
  obtain ⟨cc, h1, h2, h3⟩ := hG
  obtain ⟨g, r, _⟩ := h2.show hm j _ (.inr ⟨hj, rfl⟩)
  exact ⟨_, ⟨h1.1, fun q hq => (h1.2 q hq).goes g, h1.3.mono (g.S 0) (g.heap 0)⟩, r, h3.goes g⟩
/-- No colour is in it. -/
inductive C0 : CV → Prop
  | v {x : Value} : C0 (.v x)
  | row {xs : List (List CV)} : (∀ us ∈ xs, ∀ u ∈ us, C0 u) → C0 (.rowc 0 xs)
  | ptr {cs : List CV} {off : Nat} : (∀ u ∈ cs, C0 u) → C0 (.ptrc 0 cs off)
  | fn {f : FuncId} {a : Bool} {first caps : List CV} : (∀ u ∈ first, C0 u) → (∀ u ∈ caps, C0 u) → C0 (.fn f a first caps)
  | map {a : Bool} {ks : List Value} {xs : List (List CV)} : (∀ us ∈ xs, ∀ u ∈ us, C0 u) → C0 (.mapc a ks xs)
theorem R.drop {S : Sh} {w : World} {x : CV} {v : Value} (h : R S w x v) : C0 x → R (fun k b => k = 0 ∧ S k b) w x v := by
  induction h with
  | v h => intro _; exact .v h
  | nil => intro h; cases h; exact .nil
  | bare h => intro h'; cases h'; exact .bare h
  | row g h1 h2 h3 h4 h5 h6 h7 ih =>
    intro h'
    cases h' with
    | row hc => exact .row g h1 h2 h3 ⟨rfl, h4⟩ h5 h6 fun i us hi j u hu => ih i us hi j u hu (hc us (List.mem_of_getElem? hi) u (List.mem_of_getElem? hu))
  | ptr h1 h2 h3 h4 ih =>
    intro h'
    cases h' with
    | ptr hc => exact .ptr ⟨rfl, h1⟩ h2 h3 fun i x v hx hv => ih i x v hx hv (hc x (List.mem_of_getElem? hx))
  | fn h1 h2 h3 h4 ih1 ih2 =>
    intro h'
    cases h' with
    | fn ha hb => exact .fn h1 (fun i x v hx hv => ih1 i x v hx hv (ha x (List.mem_of_getElem? hx))) h3 fun i x v hx hv => ih2 i x v hx hv (hb x (List.mem_of_getElem? hx))
  | meth h1 h2 h3 h4 ih1 ih2 =>
    intro h'
    cases h' with
    | fn ha hb => exact .meth h1 (fun i x v hx hv => ih1 i x v hx hv (ha x (List.mem_of_getElem? hx))) h3 fun i x v hx hv => ih2 i x v hx hv (hb x (List.mem_of_getElem? hx))
  | map h1 h2 h3 h4 h5 ih =>
    intro h'
    cases h' with
    | map hc => exact .map ⟨rfl, h1⟩ h2 h3 h4 fun i us vs hu hv j x v hx hw => ih i us vs hu hv j x v hx hw (hc us (List.mem_of_getElem? hu) x (List.mem_of_getElem? hx))
def C0A : A → Prop
  | .c x => C0 x
  | .full k xs => C0 (.rowc k xs)
  | .el k cs off => C0 (.ptrc k cs off)
  | _ => True
def C0L : List A → Prop
  | [] => True
  | a :: l => C0A a ∧ C0L l
def C0CA : CA → Prop
  | .one x => C0 x
  | .agg cs => ∀ u ∈ cs, C0 u
  | .nil => True
def C0Cs : List CA → Prop
  | [] => True
  | a :: l => C0CA a ∧ C0Cs l
def C0M' : List (Bool × List A) → Prop
  | [] => True
  | (_, cs) :: l => C0L cs ∧ C0M' l
def C0V : AV → Prop
  | .one a => C0A a
  | .agg cs => C0L cs
  | .tup rs => C0Cs rs
  | .tupo rs => C0M' rs
  | .junk => True
def C0B : Blk → Prop
  | .box cs => C0L cs
  | .rows _ _ xs => C0 (.rowc 0 xs)
  | .froz xs => C0 (.rowc 0 xs)
  | .gone _ => True
  | .lent _ _ _ xs => C0 (.rowc 0 xs)
  | .fbox cs => ∀ u ∈ cs, C0 u
  | .obox cs => ∀ u ∈ cs, C0 u
  | .orec r => ∀ d, C0V (r.t d)
  | .mapb _ _ xs => ∀ us ∈ xs, ∀ u ∈ us, C0 u
  | .fmap _ _ xs => ∀ us ∈ xs, ∀ u ∈ us, C0 u
def C0T (t : Nat → AV) : Prop := ∀ d, C0V (t d)
def C0M (m : Mem) : Prop := ∀ id b, m id = some b → C0B b
theorem C0T.junk : C0T (fun _ => .junk) := fun _ => trivial
theorem C0T.upd {t : Nat → AV} {d : Nat} {x : AV} (h : C0V x) (k : C0T t) : C0T (Abs.upd t d x) := fun e => by
  by_cases he : e = d
  · subst he; rw [upd_same]; exact h
  · rw [upd_ne _ _ he]; exact k e
theorem C0M.none : C0M (fun _ => Option.none) := fun id b h => by simp at h
theorem C0M.upd {m : Mem} {d : Nat} {b : Blk} (h : C0B b) (k : C0M m) : C0M (Abs.upd m d (some b)) := fun e b' hb => by
  by_cases he : e = d
  · subst he; rw [upd_same] at hb; cases hb; exact h
  · rw [upd_ne _ _ he] at hb; exact k e b' hb
def unlB : Option Blk → Option Blk
  | some (.lent _ e sz xs) => some (.rows e sz xs)
  | b => b
def unl (m : Mem) : Mem := fun i => unlB (m i)
section
variable {cc cc' : Ctx} {w : World} {m : Mem}
theorem unl_rowLen (id : Nat) : rowLen (unl m) id = rowLen m id := by
  unfold rowLen unl
  cases m id with
  | none => rfl
  | some b => cases b <;> rfl
theorem unl_rowsOf (id : Nat) : rowsOf (unl m) id = rowsOf m id := by
  unfold rowsOf unl
  cases m id with
  | none => rfl
  | some b => cases b <;> rfl
theorem unl_isBox (id : Nat) : isBox (unl m) id ↔ isBox m id := by
  unfold isBox unl
  cases m id with
  | none => exact Iff.rfl
  | some b => cases b <;> simp [unlB]
theorem VA.unl (hψ : cc'.ψ = cc.ψ) (hφ : cc'.φ = cc.φ) (hS : ∀ b, cc.S 0 b → cc'.S 0 b) {x : A} {v : Value} (h : VA cc w m x v) (hx : C0A x) : VA cc' w (unl m) x v := by
  have up : ∀ {y : CV} {v : Value}, R cc.S w y v → C0 y → R cc'.S w y v := fun h hc => (R.drop h hc).mono (fun k b hb => hb.1 ▸ hS b (hb.1 ▸ hb.2)) fun _ _ _ => rfl
  cases x with
  | c y => exact up h hx
  | ptr id off => exact ⟨(unl_isBox id).2 h.1, by rw [hφ]; exact h.2⟩
  | mp id => exact ⟨(unl_isBox id).2 h.1, by rw [hφ]; exact h.2⟩
  | own id n =>
    obtain ⟨h0, L, h1, h2, h3⟩ := h
    exact ⟨h0, L, by rw [unl_rowLen]; exact h1, h2, fun e => by rw [hψ]; exact h3 e⟩
  | el k cs off =>
    obtain ⟨b, o, vs, h1, h2, h3, h4⟩ := h
    cases hx with
    | ptr hc => exact ⟨b, o, vs, h1, hS b h2, h3.mono fun x y hx h => up h (hc x hx), h4⟩
  | pel id n i off =>
    obtain ⟨h0, L, h1, h2, h3⟩ := h
    exact ⟨h0, L, by rw [unl_rowLen]; exact h1, h2, fun e ty sz xs hr => by rw [unl_rowsOf] at hr; rw [hψ]; exact h3 e ty sz xs hr⟩
  | full k xs => obtain ⟨a, h1, h2⟩ := h; exact ⟨a, h1, up h2 hx⟩
  | nil => exact h
  | bare => exact h
  | any => exact h
theorem VL.unl (hψ : cc'.ψ = cc.ψ) (hφ : cc'.φ = cc.φ) (hS : ∀ b, cc.S 0 b → cc'.S 0 b) : ∀ {cs : List A} {vs : List Value}, F2 (VA cc w m) cs vs → C0L cs → F2 (VA cc' w (unl m)) cs vs := by
  intro cs
  induction cs with
  | nil => intro vs h _; rw [h.unnil]; exact F2.nil
  | cons x cs ih =>
    intro vs h hc
    obtain ⟨v, vs, rfl, h1, h2⟩ := h.uncons
    exact F2.cons (h1.unl hψ hφ hS hc.1) (ih h2 hc.2)
theorem VV.unl (hψ : cc'.ψ = cc.ψ) (hφ : cc'.φ = cc.φ) (hS : ∀ b, cc.S 0 b → cc'.S 0 b) {x : AV} {v : Value} (hv : VV cc w m x v) (hc : C0V x) : VV cc' w (unl m) x v := by
  have up : ∀ {y : CV} {v : Value}, R cc.S w y v → C0 y → R cc'.S w y v := fun h hc => (R.drop h hc).mono (fun k b hb => hb.1 ▸ hS b (hb.1 ▸ hb.2)) fun _ _ _ => rfl
  cases x with
  | one y => exact VA.unl hψ hφ hS hv hc
  | agg cs => obtain ⟨vs, e1, e2⟩ := hv; exact ⟨vs, e1, VL.unl hψ hφ hS e2 hc⟩
  | tup rs =>
    obtain ⟨vs, e1, e2⟩ := hv
    refine ⟨vs, e1, ?_⟩
    clear e1
    induction rs generalizing vs with
    | nil => rw [e2.unnil]; exact F2.nil
    | cons r rs ih =>
      obtain ⟨v, vs, rfl, k1, k2⟩ := e2.uncons
      refine F2.cons ?_ (ih hc.2 vs k2)
      cases r with
      | one y => exact up k1 hc.1
      | agg cs => obtain ⟨us, f1, f2⟩ := k1; exact ⟨us, f1, f2.mono fun x y hx h => up h (hc.1 x hx)⟩
      | nil => exact k1
  | tupo rs =>
    obtain ⟨vs, e1, e2⟩ := hv
    refine ⟨vs, e1, ?_⟩
    clear e1
    induction rs generalizing vs with
    | nil => rw [e2.unnil]; exact F2.nil
    | cons r rs ih =>
      obtain ⟨v, vs, rfl, k1, k2⟩ := e2.uncons
      refine F2.cons ?_ (ih hc.2 vs k2)
      obtain ⟨b, cs⟩ := r
      cases b with
      | true => obtain ⟨us, f1, f2⟩ := k1; exact ⟨us, f1, VL.unl hψ hφ hS f2 hc.1⟩
      | false =>
        obtain ⟨a, f1, f2⟩ := k1
        have f1 : cs = [a] := f1
        subst f1
        exact ⟨a, rfl, VA.unl hψ hφ hS f2 hc.1.1⟩
  | junk => trivial
theorem VV.unl0 {S S' : Sh} {x : AV} {v : Value} (hS : ∀ b, S 0 b → S' 0 b) (hv : VV ⟨S, fun _ => 0, fun _ => undef⟩ w (fun _ => none) x v) (hc : C0V x) : VV ⟨S', fun _ => 0, fun _ => undef⟩ w (fun _ => none) x v :=
  VV.unl (cc := ⟨S, fun _ => 0, fun _ => undef⟩) (cc' := ⟨S', fun _ => 0, fun _ => undef⟩) (m := fun _ => none) rfl rfl hS hv hc
end
/-- What was lent is of the call's own again, where nothing is left that looks at it. -/
theorem AW.unlend {c : Code} {σ : St} {Q : Exit → St → Prop} (hT : C0T σ.t) (hM : C0M σ.m) (h : AW P c ⟨σ.n, σ.t, unl σ.m⟩ Q) : AW P c σ Q := fun base S0 w0 df a w hG => by
  refine h base S0 w0 df a w ?_
  obtain ⟨cc, h1, h2, h3⟩ := hG
  let cc' : Ctx := { cc with S := fun k b => (k = 0 ∧ cc.S k b) ∨ S0 k b }
  have hS : ∀ b, cc.S 0 b → cc'.S 0 b := fun b hb => .inl ⟨rfl, hb⟩
  have hsub : ∀ k b, cc'.S k b → cc.S k b := fun k b hb => hb.elim (·.2) (h2.old k b)
  have up : ∀ {y : CV} {v : Value}, R cc.S w y v → C0 y → R cc'.S w y v := fun h hc => (R.drop h hc).mono (fun k b hb => .inl hb) fun _ _ _ => rfl
  have ups : ∀ {xs : List (List CV)} {vss : List (List Value)}, F2 (F2 (R cc.S w)) xs vss → C0 (.rowc 0 xs) → F2 (F2 (R cc'.S w)) xs vss := fun hF hc => by
    cases hc with
    | row hc => exact hF.mono fun us vs hu h => h.mono fun x v hx h => up h (hc us hu x hx)
  have hbo : ∀ id, blockOf cc' (unl σ.m) id = blockOf cc σ.m id := fun id => by
    unfold blockOf unl
    cases σ.m id with
    | none => rfl
    | some b => cases b <;> rfl
  refine ⟨cc', ⟨h1.1, fun q hq => ?_, h1.3.mono (fun b hb => .inl ⟨rfl, hb⟩) fun _ _ => rfl⟩, ⟨fun id b hb => ?_, fun id id' b e1 e2 => ?_, fun k b hb => h2.lt k b (hsub k b hb), fun k b hb => .inr hb, fun k b hb => hb.elim (fun hb => h2.new k b hb.2) .inl, h2.below, h2.rok, h2.size, h2.s0⟩, by obtain ⟨ms, d1, d2, d3⟩ := h3; exact ⟨ms, d1, d2, fun r hr => ⟨(d3 r hr).1, .inl ⟨rfl, (d3 r hr).2.1⟩, (d3 r hr).2.2⟩⟩⟩
  · have hv := h1.2 q hq
    have hc := hT q
    show VV cc' w (unl σ.m) (σ.t q) _
    generalize σ.t q = x at hv hc
    cases x with
    | one y => exact VA.unl (cc := cc) (cc' := cc') rfl rfl hS hv hc
    | agg cs => obtain ⟨vs, e1, e2⟩ := hv; exact ⟨vs, e1, VL.unl (cc := cc) (cc' := cc') rfl rfl hS e2 hc⟩
    | tup rs =>
      obtain ⟨vs, e1, e2⟩ := hv
      refine ⟨vs, e1, ?_⟩
      clear e1
      induction rs generalizing vs with
      | nil => rw [e2.unnil]; exact F2.nil
      | cons r rs ih =>
        obtain ⟨v, vs, rfl, k1, k2⟩ := e2.uncons
        refine F2.cons ?_ (ih hc.2 vs k2)
        cases r with
        | one y => exact up k1 hc.1
        | agg cs => obtain ⟨us, f1, f2⟩ := k1; exact ⟨us, f1, f2.mono fun x y hx h => up h (hc.1 x hx)⟩
        | nil => exact k1
    | tupo rs =>
      obtain ⟨vs, e1, e2⟩ := hv
      refine ⟨vs, e1, ?_⟩
      clear e1
      induction rs generalizing vs with
      | nil => rw [e2.unnil]; exact F2.nil
      | cons r rs ih =>
        obtain ⟨v, vs, rfl, k1, k2⟩ := e2.uncons
        refine F2.cons ?_ (ih hc.2 vs k2)
        obtain ⟨b, cs⟩ := r
        cases b with
        | true => obtain ⟨us, f1, f2⟩ := k1; exact ⟨us, f1, VL.unl (cc := cc) (cc' := cc') rfl rfl hS f2 hc.1⟩
        | false =>
          obtain ⟨a, f1, f2⟩ := k1
          have f1 : cs = [a] := f1
          subst f1
          exact ⟨a, rfl, VA.unl (cc := cc) (cc' := cc') rfl rfl hS f2 hc.1.1⟩
    | junk => trivial
  · have hb' : unlB (σ.m id) = some b := hb
    cases hm : σ.m id with
    | none => rw [hm] at hb'; simp [unlB] at hb'
    | some b0 =>
      rw [hm] at hb'
      have h4 := h2.blk id b0 hm
      have hc := hM id b0 hm
      cases b0 with
      | box cs =>
        cases hb'
        obtain ⟨q1, q2, vs, T, q3, q4⟩ := h4
        exact ⟨q1, fun k hs => q2 k (hsub k _ hs), vs, T, q3, VL.unl (cc := cc) (cc' := cc') rfl rfl hS q4 hc⟩
      | rows e sz xs =>
        cases hb'
        obtain ⟨q1, q2, q3, q4, vss, q5, q6⟩ := h4
        exact ⟨q1, q2, q3, fun g hg k hs => q4 g hg k (hsub k _ hs), vss, ups q5 hc, q6⟩
      | lent j e sz xs =>
        cases hb'
        obtain ⟨q0, q1, q2, q3, q4, vss, q5, q6⟩ := h4
        refine ⟨q1, q2, q3, fun g hg k hs => ?_, vss, ups q5 hc, q6⟩
        rcases hs with ⟨rfl, hs⟩ | hs
        · exact q0 ((q4 g hg 0).1 hs).symm
        · have := h2.s0 k g hs
          have := (q6.lt g hg).1
          omega
      | froz xs => cases hb'; exact up h4 hc
      | gone L => cases hb'; exact h4
      | fbox cs =>
        cases hb'
        obtain ⟨q1, vs, q2, q3⟩ := h4
        exact ⟨hS _ q1, vs, q2.mono fun x y hx h => up h (hc x hx), q3⟩
      | obox cs =>
        cases hb'
        obtain ⟨q1, q2, q5, vs, T, q3, q4⟩ := h4
        exact ⟨q1, fun k hs => q2 k (hsub k _ hs), q5, vs, T, q3, q4.mono fun x y hx h => up h (hc x hx)⟩
      | orec r =>
        cases hb'
        obtain ⟨q1, q2, q5, R, k1, k2, k3, k4, k5, k6, k7, k8, k9⟩ := h4
        exact ⟨q1, fun k hs => q2 k (hsub k _ hs), q5, R, k1, k2, k3, k4, k5, k6, k7, k8, fun d hd => VV.unl0 hS (k9 d hd) (hc d)⟩
      | mapb a ks xs =>
        cases hb'
        obtain ⟨q1, q2, vss, q3, q4⟩ := h4
        exact ⟨q1, fun k hs => q2 k (hsub k _ hs), vss, q3, q4.mono fun us vs hu h => h.mono fun x y hx h => up h (hc us hu x hx)⟩
      | fmap a ks xs =>
        cases hb'
        obtain ⟨q1, vss, q3, q4⟩ := h4
        exact ⟨hS _ q1, vss, q3, q4.mono fun us vs hu h => h.mono fun x y hx h => up h (hc us hu x hx)⟩
  · rw [hbo] at e1 e2
    exact h2.inj id id' b e1 e2
/-! Functions. -/
def entryT : List CA → Nat → Nat → AV
  | [], _ => fun _ => .junk
  | x :: l, k => upd (entryT l (k + 1)) k x.av
theorem entryT_at : ∀ (l : List CA) (k d : Nat), entryT l k d = if k ≤ d then (match l[d - k]? with | some x => x.av | none => .junk) else .junk := by
  intro l
  induction l with
  | nil => intro k d; simp [entryT]
  | cons x l ih =>
    intro k d
    by_cases h : d = k
    · subst h; simp [entryT, upd_same]
    · show upd (entryT l (k + 1)) k x.av d = _
      rw [upd_ne _ _ h, ih (k + 1) d]
      by_cases hk : k ≤ d
      · have h1 : k + 1 ≤ d := by omega
        rw [if_pos hk, if_pos h1, show d - k = (d - (k + 1)) + 1 by omega, List.getElem?_cons_succ]
      · rw [if_neg hk, if_neg (by omega)]
def resAV (P : Program) (σ : St) : ResultVar → AV
  | .tmp t => ev σ (.tmp t)
  | .cell a T => match tinfo P T with
    | some ti => match ev σ (.tmp a) with
      | .one (.ptr id off) => match σ.m id with
        | some (.box cs) => (rd ti cs off).2
        | _ => .junk
      | _ => .junk
    | none => .junk
def resOK (P : Program) (σ : St) : ResultVar → Prop
  | .tmp _ => True
  | .cell a T => match tinfo P T with
    | some ti => match ev σ (.tmp a) with
      | .one (.ptr id off) => match σ.m id with
        | some (.box cs) => (rd ti cs off).1
        | _ => False
      | _ => False
    | none => False
def resAll (P : Program) (σ : St) : List ResultVar → Prop
  | [] => True
  | x :: l => (resOK P σ x ∧ (resAV P σ x).flat = true ∧ cloAll σ.m (resAV P σ x).cells) ∧ resAll P σ l
def RVof : List CA → RV
  | [x] => .one x
  | l => .tup l
def resOKs (P : Program) (σ : St) : List ResultVar → Prop
  | [] => True
  | x :: l => resOK P σ x ∧ resOKs P σ l
/-- What is given is a row of the call's own. -/
def resO (m : Mem) (e : TypeId) (sz : Nat) (xs : List (List CV)) : List AV → Prop
  | [.one (.own id n)] => match m id with
    | some (.rows e' sz' xs') => e' = e ∧ sz' = sz ∧ xs' = xs ∧ xs'.length = n
    | _ => False
  | [.one .nil] => xs = [] ∧ 0 < sz
  | _ => False
/-- What is given, cell by cell: rows of the call's own may be given over. -/
def resE (m : Mem) : A → RE → Prop
  | .own id n, .own e sz xs => match m id with
    | some (.rows e' sz' xs') => e' = e ∧ sz' = sz ∧ xs' = xs ∧ xs'.length = n
    | _ => False
  | .own id n, .c x => match m id with
    | some (.froz xs) => xs.length = n ∧ CV.row xs = x
    | _ => False
  | .nil, .own _ sz xs => xs = [] ∧ 0 < sz
  | .nil, .c x => x = .row []
  | .bare, .c x => x = .row []
  | .full k xs, .c x => .rowc k xs = x
  | .el k cs off, .c x => .ptrc k cs off = x
  | .c y, .c x => y = x
  | _, _ => False
def resEs (m : Mem) : List A → List RE → Prop
  | [], [] => True
  | [a], [r] => resE m a r
  | a :: l, r :: k => resE m a r ∧ resEs m l k
  | _, _ => False
def resMs (m : Mem) : List AV → List (Bool × List RE) → Prop
  | [], [] => True
  | .agg cs :: l, (true, rs) :: k => resEs m cs rs ∧ resMs m l k
  | .one a :: l, (false, [r]) :: k => resE m a r ∧ resMs m l k
  | _, _ => False
def distN : List Nat → Prop
  | [] => True
  | i :: l => hasN l i = false ∧ distN l
def PostAt (P : Program) (rs : List ResultVar) (σ : St) : RV → Prop
  | .bx _ outs l => resAll P σ rs ∧ (rs.map fun x => cloAV σ.m (resAV P σ x)) = l ∧ insAt σ.m outs
  | .one x => resAll P σ rs ∧ RVof (rs.map fun x => cloAV σ.m (resAV P σ x)) = .one x
  | .tup l => resAll P σ rs ∧ RVof (rs.map fun x => cloAV σ.m (resAV P σ x)) = .tup l
  | .own e sz xs => resOKs P σ rs ∧ resO σ.m e sz xs (rs.map (resAV P σ))
  | .mix l => resOKs P σ rs ∧ resMs σ.m (rs.map (resAV P σ)) l ∧ distN (ownIds ((rs.map (resAV P σ)).map AV.cells).flatten)
/-- At the end: the results are these. -/
def Post (P : Program) (rs : List ResultVar) (r : RV) : Exit → St → Prop
  | .ret, σ => PostAt P rs σ r
  | .normal, σ => PostAt P rs σ r
  | _, _ => False
theorem resOKs_of {σ : St} : ∀ {rs : List ResultVar}, resAll P σ rs → resOKs P σ rs := by
  intro rs
  induction rs with
  | nil => intro _; trivial
  | cons x l ih => intro h; exact ⟨h.1.1, ih h.2⟩
/-- A name's address. -/
def unOpn (i : Nat) : Nat := i - 1000000
theorem unOpn_eq (b : Nat) : unOpn (1000000 + b) = b := Nat.add_sub_cancel_left ..
theorem entry_wr {S : Sh} {w : World} {ro : Option Nat} (ins : List (Nat × OC)) (hS : ∀ k b, S k b → b < w.heap.size) (hbx : ∀ p ∈ ins, BoxAt S w p) (hro : RoOK w.heap.size ⟨w, fun b => ∃ cs, (b, cs) ∈ ins, ro⟩) : WR w.heap.size S ⟨w, fun b => ∃ cs, (b, cs) ∈ ins, ro⟩ ⟨S, unOpn, fun _ => undef⟩ (setBs (fun _ => none) ins) w := by
  have hno : ∀ i, i ∉ opnIds ins → setBs (fun _ => none) ins i = none := fun i h => setBs_not h
  have hin : ∀ i bk, setBs (fun _ => none) ins i = some bk → ∃ b cs, i = 1000000 + b ∧ (b, cs) ∈ ins ∧ bk = cs.blk := fun i bk h => by
    by_cases e : i ∈ opnIds ins
    · obtain ⟨b, cs, e1, e2, e3⟩ := setBs_in (m := fun _ => none) e
      rw [e3] at h
      exact ⟨b, cs, e1, e2, (Option.some.inj h).symm⟩
    · rw [hno i e] at h; simp at h
  refine ⟨fun id b hb => ?_, fun id id' b hb hb' => ?_, hS, fun _ _ h => h, fun _ _ h => .inl h, .of (Below.refl _ _), hro, Nat.le_refl _, hS⟩
  · obtain ⟨b1, cs, rfl, h2, rfl⟩ := hin id b hb
    have hφ : ({ S := S, φ := unOpn, ψ := fun _ => undef } : Ctx).φ (1000000 + b1) = b1 := unOpn_eq b1
    have hO := hbx _ h2
    cases cs with
    | cells ds =>
      obtain ⟨q1, us, T, q2, q3⟩ := hO
      exact ⟨.inr ⟨_, by rw [hφ]; exact h2⟩, by rw [hφ]; exact q1, by rw [hφ], us, T, by rw [hφ]; exact q2, q3⟩
    | loop r =>
      obtain ⟨q1, q2⟩ := hO
      exact ⟨.inr ⟨_, by rw [hφ]; exact h2⟩, by rw [hφ]; exact q1, by rw [hφ], by rw [hφ]; exact q2⟩
  · have key : ∀ i, blockOf ⟨S, unOpn, fun _ => undef⟩ (setBs (fun _ => none) ins) i = some b → i = 1000000 + b := fun i hi => by
      cases hm : setBs (fun _ => none) ins i with
      | none => simp only [blockOf, hm] at hi; cases hi
      | some bk =>
        obtain ⟨b1, cs, rfl, _, rfl⟩ := hin i bk hm
        cases cs <;> (simp only [blockOf, hm, OC.blk] at hi; rw [unOpn_eq] at hi; cases hi; rfl)
    rw [key id hb, key id' hb']
theorem entry_ok {S : Sh} {w : World} {args : List CA} {vs : List Value} {n : Nat} {df : List Deferred} (ins : List (Nat × OC)) (hS : ∀ k b, S k b → b < w.heap.size) (hg : Gl S w) (h : F2 (RC S w) args vs) (hn : args.length ≤ n) (hbx : ∀ p ∈ ins, BoxAt S w p) :
    Gm w.heap.size S ⟨w, fun b => ∃ cs, (b, cs) ∈ ins, none⟩ df ⟨n, entryT args 0, setBs (fun _ => none) ins⟩ { tmps := vs.toArray ++ Array.replicate (n - vs.length) undef, defers := df } w := by
  refine ⟨⟨S, unOpn, fun _ => undef⟩, ⟨?_, fun d hd => ?_, hg⟩, entry_wr ins hS hbx (fun l h => by simp at h), DfOK.none⟩
  · have := h.1; simp; omega
  · show VV _ w _ (entryT args 0 d) _
    rw [entryT_at, if_pos (Nat.zero_le _), Nat.sub_zero]
    cases hx : args[d]? with
    | none => trivial
    | some x =>
      obtain ⟨v, hv1, hv2⟩ := h.get hx
      have hget : (vs.toArray ++ Array.replicate (n - vs.length) undef).getD d undef = v := by
        have hdl : d < vs.length := (List.getElem?_eq_some_iff.1 hv1).1
        have : (vs.toArray ++ Array.replicate (n - vs.length) undef)[d]? = some v := by
          rw [Array.getElem?_append_left (by simpa using hdl)]
          simpa using hv1
        simp [Array.getD_eq_getD_getElem?, this]
      simp only [hget]
      cases x with
      | one y => exact hv2
      | agg cs => obtain ⟨us, rfl, hus⟩ := hv2; exact ⟨us, rfl, F2.map_left.2 hus⟩
      | nil => exact hv2
def resSem (tmps : Array Value) : ResultVar → Sem Value
  | .tmp t => pure (tmps.getD t undef)
  | .cell b t => do loadVar t (← asAddr (tmps.getD b undef))
theorem res_run {base : Nat} {S0 : Sh} {w0 : W0} {c : Ctx} {σ : St} {a : Act} {w : World} (h1 : Tm c w σ a) (h2 : WR base S0 w0 c σ.m w) (x : ResultVar) (hok : resOK P σ x) :
    ∃ v, (resSem a.tmps x).run P w = .ok v w ∧ VV c w σ.m (resAV P σ x) v := by
  cases x with
  | tmp t => exact ⟨a.tmps.getD t undef, rfl, ev_ok h1 (.tmp t)⟩
  | cell b T =>
    simp only [resOK, resAV] at hok ⊢
    cases ht : tinfo P T with
    | none => rw [ht] at hok; exact hok.elim
    | some ti =>
      simp only [ht] at hok ⊢
      have hv := ev_ok h1 (.tmp b)
      split at hok
      · rename_i id off he
        rw [he] at hv
        obtain ⟨hbx, hp⟩ := hv
        obtain ⟨cs, hm⟩ : ∃ cs, σ.m id = some (.box cs) := by
          rcases hbx with h | ⟨cs, hm⟩ | ⟨_, _, _, hm⟩ | ⟨_, _, _, hm⟩ | ⟨cs, hm⟩ | ⟨_, hm⟩
          · exact h
          all_goals simp only [hm] at hok
        simp only [hm] at hok ⊢
        obtain ⟨vs, q1, q2⟩ := box_holds h2 hm
        obtain ⟨v, r1, r2⟩ := rd_ok (tinfo_is ht) q1 q2 hok
        have hp : a.tmps.getD b undef = .pointer (some ⟨c.φ id, off, none⟩) := hp
        exact ⟨v, by simpa [resSem, hp, asAddr] using r1, r2⟩
      · exact hok.elim
theorem results_run {base : Nat} {S0 : Sh} {w0 : W0} {c : Ctx} {σ : St} {a : Act} {w : World} (h1 : Tm c w σ a) (h2 : WR base S0 w0 c σ.m w) : ∀ (rs : List ResultVar), resOKs P σ rs →
    ∃ vs : List Value, (rs.mapM (resSem a.tmps)).run P w = .ok vs w ∧ F2 (VV c w σ.m) (rs.map (resAV P σ)) vs := by
  intro rs
  induction rs with
  | nil => intro _; exact ⟨[], rfl, F2.nil⟩
  | cons x rs ih =>
    intro h
    obtain ⟨v, q1, q2⟩ := res_run h1 h2 x h.1
    obtain ⟨vs, r1, r2⟩ := ih h.2
    refine ⟨v :: vs, ?_, F2.cons q2 r2⟩
    simp only [List.mapM_cons, Sem.run_bind, q1, Result.andThen_ok, r1, Sem.run_pure]
theorem cloAV_only {ids : List Nat} {m : Mem} {x : AV} (h : ∀ i ∈ ownIds x.cells, i ∈ ids) : cloAV (only ids m) x = cloAV m x := by
  cases x with
  | one y => simp only [cloAV]; rw [(clo_only h).1]
  | agg cs => simp only [cloAV]; rw [(cloL_only (l := cs) h).1]
  | tup rs => rfl
  | tupo rs => rfl
  | junk => rfl
theorem resEs_cons {m : Mem} {a : A} {l : List A} {r : RE} {k : List RE} : resEs m (a :: l) (r :: k) ↔ resE m a r ∧ resEs m l k := by
  cases l with
  | nil => cases k <;> simp [resEs]
  | cons b l => simp [resEs]
theorem resE_ok {base : Nat} {S0 : Sh} {w0 : W0} {c : Ctx} {m : Mem} {w : World} (h : WR base S0 w0 c m w) {a : A} {r : RE} {v : Value} (hv : VA c w m a v) (hr : resE m a r) : RRE base c.S w r v ∧ ((∃ e sz xs, r = .own e sz xs) → ∀ b, v.ownBlock = some b → ∃ id ∈ ownIds [a], blockOf c m id = some b) := by
  have nope : ∀ {x : CV}, (∃ e sz xs, (RE.c x) = .own e sz xs) → ∀ b, v.ownBlock = some b → ∃ id ∈ ownIds [a], blockOf c m id = some b := fun ⟨_, _, _, h⟩ => by simp at h
  cases a with
  | own id n =>
    cases r with
    | own e sz xs =>
      simp only [resE] at hr
      split at hr
      · rename_i e' sz' xs' hm
        obtain ⟨rfl, rfl, rfl, hn⟩ := hr
        obtain ⟨_, L, hL, hn', hq⟩ := hv
        have hL' : xs'.length = L := by simpa [rowLen, hm] using hL
        obtain ⟨p1, p2, p3, p4, vss, p5, p6⟩ := h.blk id _ hm
        have hv : v = c.ψ id := hq (by omega)
        subst hv
        exact ⟨⟨p1, p2, p3, p4, vss, p5, p6⟩, fun _ b hb => ⟨id, by simp [ownIds], by simp [blockOf, hm, hb]⟩⟩
      · exact hr.elim
    | c x =>
      simp only [resE] at hr
      split at hr
      · rename_i xs' hm
        obtain ⟨hn, rfl⟩ := hr
        obtain ⟨_, L, hL, hn', hq⟩ := hv
        have hL' : xs'.length = L := by simpa [rowLen, hm] using hL
        have hv : v = c.ψ id := hq (by omega)
        subst hv
        exact ⟨h.blk id _ hm, nope⟩
      · exact hr.elim
  | nil =>
    have hv : v = .slice none 0 0 := hv
    subst hv
    cases r with
    | own e sz xs =>
      obtain ⟨rfl, hs⟩ := hr
      exact ⟨⟨by simp, hs, by simp, fun g hg => by simp [Value.ownBlock] at hg, [], F2.nil, World.ownsRow_nil _ _ _ _⟩, fun _ b hb => by simp [Value.ownBlock] at hb⟩
    | c x => have hr : x = .row [] := hr; subst hr; exact ⟨R.nil, nope⟩
  | bare =>
    obtain ⟨ad, k, rfl, hk⟩ := hv
    cases r with
    | own e sz xs => exact hr.elim
    | c x => have hr : x = .row [] := hr; subst hr; exact ⟨R.bare hk, nope⟩
  | full k xs =>
    obtain ⟨ad, rfl, hv⟩ := hv
    cases r with
    | own e sz xs => exact hr.elim
    | c x => have hr : CV.rowc k xs = x := hr; subst hr; exact ⟨hv, nope⟩
  | el k cs off =>
    obtain ⟨b, o, vs, rfl, h1, h2, h3⟩ := hv
    cases r with
    | own e sz xs => exact hr.elim
    | c x => have hr : CV.ptrc k cs off = x := hr; subst hr; exact ⟨R.ptr h1 h2.1 h3 h2.2, nope⟩
  | c y =>
    cases r with
    | own e sz xs => exact hr.elim
    | c x => have hr : y = x := hr; subst hr; exact ⟨hv, nope⟩
  | ptr id off => cases r <;> exact hr.elim
  | mp id => cases r <;> exact hr.elim
  | pel id n i off => cases r <;> exact hr.elim
  | any => cases r <;> exact hr.elim
theorem distN_append {l k : List Nat} (h : distN (l ++ k)) : distN l ∧ distN k ∧ ∀ i ∈ l, i ∉ k := by
  induction l with
  | nil => exact ⟨trivial, h, fun i hi => by simp at hi⟩
  | cons x l ih =>
    obtain ⟨h1, h2⟩ := h
    obtain ⟨q1, q2, q3⟩ := ih h2
    have h1 : hasN (l ++ k) x = false := h1
    have hx : x ∉ l ++ k := fun hm => by rw [hasN_iff.2 hm] at h1; simp at h1
    refine ⟨⟨?_, q1⟩, q2, fun i hi => ?_⟩
    · cases hh : hasN l x with
      | false => rfl
      | true => exact absurd (List.mem_append.2 (.inl (hasN_iff.1 hh))) hx
    · rcases List.mem_cons.1 hi with rfl | hi
      · exact fun hk => hx (List.mem_append.2 (.inr hk))
      · exact q3 i hi
/-- Cells that are given: each is what was said; rows lie apart. -/
theorem resEs_ok {base : Nat} {S0 : Sh} {w0 : W0} {c : Ctx} {m : Mem} {w : World} (h : WR base S0 w0 c m w) : ∀ {cs : List A} {rs : List RE} {us : List Value}, F2 (VA c w m) cs us → resEs m cs rs → distN (ownIds cs) →
    F2 (RRE base c.S w) rs us ∧ (rs.zip us).Pairwise apartP ∧ ∀ p ∈ rs.zip us, (∃ e sz xs, p.1 = .own e sz xs) → ∀ b, p.2.ownBlock = some b → ∃ id ∈ ownIds cs, blockOf c m id = some b := by
  intro cs
  induction cs with
  | nil =>
    intro rs us hF hr _
    rw [hF.unnil]
    cases rs with
    | nil => exact ⟨F2.nil, by simp, fun p hp => by simp at hp⟩
    | cons r rs => cases hr
  | cons a cs ih =>
    intro rs us hF hr hd
    obtain ⟨u, us, rfl, k1, k2⟩ := hF.uncons
    cases rs with
    | nil => cases cs <;> cases hr
    | cons r rs =>
      obtain ⟨r1, r2⟩ := resEs_cons.1 hr
      rw [ownIds_cons] at hd
      obtain ⟨d1, d2, d3⟩ := distN_append hd
      obtain ⟨q1, q2, q3⟩ := ih k2 r2 d2
      obtain ⟨e1, e2⟩ := resE_ok h k1 r1
      refine ⟨F2.cons e1 q1, ?_, fun p hp ho b hb => ?_⟩
      · rw [List.zip_cons_cons, List.pairwise_cons]
        refine ⟨fun p hp => ?_, q2⟩
        unfold apartP
        split
        · rename_i x1 x2 x3 x4 x5 x6 f1 f2
          intro b hb hb'
          obtain ⟨id, hi1, hi2⟩ := e2 ⟨_, _, _, f1⟩ b hb
          obtain ⟨id', hi3, hi4⟩ := q3 p hp ⟨_, _, _, f2⟩ b hb'
          have := h.inj id id' b hi2 hi4
          subst this
          exact d3 id hi1 hi3
        · trivial
      · rw [List.zip_cons_cons] at hp
        rw [ownIds_cons]
        rcases List.mem_cons.1 hp with rfl | hp
        · obtain ⟨id, h1, h2⟩ := e2 ho b hb
          exact ⟨id, List.mem_append.2 (.inl h1), h2⟩
        · obtain ⟨id, h1, h2⟩ := q3 p hp ho b hb
          exact ⟨id, List.mem_append.2 (.inr h1), h2⟩
theorem resMs_ok {base : Nat} {S0 : Sh} {w0 : W0} {c : Ctx} {m : Mem} {w : World} (h : WR base S0 w0 c m w) : ∀ {xs : List AV} {rs : List (Bool × List RE)} {vs : List Value}, F2 (VV c w m) xs vs → resMs m xs rs → distN (ownIds (xs.map AV.cells).flatten) →
    ∃ ps, MixR base c.S w rs vs ps ∧ ps.Pairwise apartP ∧ ∀ p ∈ ps, (∃ e sz xs, p.1 = .own e sz xs) → ∀ b, p.2.ownBlock = some b → ∃ id ∈ ownIds (xs.map AV.cells).flatten, blockOf c m id = some b := by
  intro xs
  induction xs with
  | nil =>
    intro rs vs hF hr _
    rw [hF.unnil]
    cases rs with
    | nil => exact ⟨[], .nil, by simp, fun p hp => by simp at hp⟩
    | cons r rs => cases hr
  | cons x xs ih =>
    intro rs vs hF hr hd
    obtain ⟨v, vs, rfl, k1, k2⟩ := hF.uncons
    simp only [List.map_cons, List.flatten_cons, ownIds_append] at hd
    obtain ⟨d1, d2, d3⟩ := distN_append hd
    have both : ∀ {ps qs : List (RE × Value)}, ps.Pairwise apartP → qs.Pairwise apartP → (∀ p ∈ ps, (∃ e sz xs, p.1 = .own e sz xs) → ∀ b, p.2.ownBlock = some b → ∃ id ∈ ownIds x.cells, blockOf c m id = some b) →
        (∀ p ∈ qs, (∃ e sz xs, p.1 = .own e sz xs) → ∀ b, p.2.ownBlock = some b → ∃ id ∈ ownIds (xs.map AV.cells).flatten, blockOf c m id = some b) →
        (ps ++ qs).Pairwise apartP ∧ ∀ p ∈ ps ++ qs, (∃ e sz xs, p.1 = .own e sz xs) → ∀ b, p.2.ownBlock = some b → ∃ id ∈ ownIds ((x :: xs).map AV.cells).flatten, blockOf c m id = some b := by
      intro ps qs a1 a2 a3 a4
      refine ⟨List.pairwise_append.2 ⟨a1, a2, fun p hp q hq => ?_⟩, fun p hp ho b hb => ?_⟩
      · unfold apartP
        split
        · rename_i x1 x2 x3 x4 x5 x6 f1 f2
          intro b hb hb'
          obtain ⟨id, hi1, hi2⟩ := a3 p hp ⟨_, _, _, f1⟩ b hb
          obtain ⟨id', hi3, hi4⟩ := a4 q hq ⟨_, _, _, f2⟩ b hb'
          have := h.inj id id' b hi2 hi4
          subst this
          exact d3 id hi1 hi3
        · trivial
      · simp only [List.map_cons, List.flatten_cons, ownIds_append, List.mem_append]
        rcases List.mem_append.1 hp with hp | hp
        · obtain ⟨id, h1, h2⟩ := a3 p hp ho b hb; exact ⟨id, .inl h1, h2⟩
        · obtain ⟨id, h1, h2⟩ := a4 p hp ho b hb; exact ⟨id, .inr h1, h2⟩
    cases x with
    | agg cs =>
      match rs, hr with
      | (true, es) :: rs, hr =>
        obtain ⟨us, rfl, k1⟩ := k1
        obtain ⟨q1, q2, q3⟩ := resEs_ok h k1 hr.1 d1
        obtain ⟨ps, p1, p2, p3⟩ := ih k2 hr.2 d2
        exact ⟨_, .agg q1 p1, both q2 p2 q3 p3⟩
    | one a =>
      match rs, hr with
      | (false, [r]) :: rs, hr =>
        obtain ⟨e1, e2⟩ := resE_ok h (show VA c w m a v from k1) hr.1
        obtain ⟨ps, p1, p2, p3⟩ := ih k2 hr.2 d2
        exact ⟨_, .one e1 p1, both (ps := [(r, v)]) (by simp) p2 (fun p hp ho b hb => by simp at hp; subst hp; exact e2 ho b hb) p3⟩
    | tup l => match rs, hr with | [], hr => exact hr.elim
    | tupo l => match rs, hr with | [], hr => exact hr.elim
    | junk => match rs, hr with | [], hr => exact hr.elim
theorem RRE.mono {base : Nat} {S S' : Sh} {w : World} {r : RE} {v : Value} (h : RRE base S w r v) (hS : ∀ k b, S k b → S' k b) (hS' : ∀ k b, S' k b → S k b) : RRE base S' w r v := by
  cases r with
  | c x => exact R.mono h hS fun _ _ _ => rfl
  | own e sz xs =>
    obtain ⟨p1, p2, p3, p4, vss, p5, p6⟩ := h
    exact ⟨p1, p2, p3, fun g hg k hs => p4 g hg k (hS' k g hs), vss, p5.mono fun x y _ h => h.mono fun x y _ h => h.mono hS fun _ _ _ => rfl, p6⟩
theorem MixR.mono {base : Nat} {S S' : Sh} {w : World} {rs : List (Bool × List RE)} {vs : List Value} {ps : List (RE × Value)} (h : MixR base S w rs vs ps) (hS : ∀ k b, S k b → S' k b) (hS' : ∀ k b, S' k b → S k b) : MixR base S' w rs vs ps := by
  induction h with
  | nil => exact .nil
  | agg hF hM ih => exact .agg (hF.mono fun x y _ h => h.mono hS hS') ih
  | one hR hM ih => exact .one (hR.mono hS hS') ih
/-! At the end the marks are taken. -/
def takes : List Nat → World → World
  | [], w => w
  | r :: l, w => takes l (w.putObj r (.deferred none))
/-- Only blocks that hold deferred calls are turned. -/
structure Took (w w2 : World) : Prop where
  os : w2.os = w.os
  tape : w2.tape = w.tape
  output : w2.output = w.output
  size : w2.heap.size = w.heap.size
  block : ∀ k : Nat, w2.heap[k]? = w.heap[k]? ∨ ∃ x, w.heap[k]? = some (.deferred x)
section
variable {w w2 : World}
theorem put_size (w : World) (r : Nat) (o : Obj) : (w.putObj r o).heap.size = w.heap.size := by simp [World.putObj]
theorem put_other (w : World) {r k : Nat} (o : Obj) (h : k ≠ r) : (w.putObj r o).heap[k]? = w.heap[k]? := by
  simp only [World.putObj]
  rw [Array.getElem?_setIfInBounds_ne (Ne.symm h)]
theorem takes_ok : ∀ (ms : List Nat) (w : World), ms.Nodup → (∀ r ∈ ms, w.heap[r]? = some (.deferred (some []))) → Took w (takes ms w) ∧ ∀ k, k ∉ ms → (takes ms w).heap[k]? = w.heap[k]? := by
  intro ms
  induction ms with
  | nil => intro w _ _; exact ⟨⟨rfl, rfl, rfl, rfl, fun _ => .inl rfl⟩, fun _ _ => rfl⟩
  | cons r ms ih =>
    intro w hnd h
    obtain ⟨n1, n2⟩ := List.nodup_cons.1 hnd
    obtain ⟨t, u⟩ := ih (w.putObj r (.deferred none)) n2 fun q hq => by
      have hqr : q ≠ r := fun e => n1 (e ▸ hq)
      rw [put_other w _ hqr]
      exact h q (by simp [hq])
    have hu : ∀ k, k ∉ r :: ms → (takes (r :: ms) w).heap[k]? = w.heap[k]? := fun k hk => by
      simp only [List.mem_cons, not_or] at hk
      exact (u k hk.2).trans (put_other w _ hk.1)
    refine ⟨⟨t.os, t.tape, t.output, t.size.trans (put_size w r _), fun k => ?_⟩, hu⟩
    by_cases hk : k ∈ r :: ms
    · exact .inr ⟨_, h k hk⟩
    · exact .inl (hu k hk)
theorem leaves_end {F : Fence} {n : Nat} {fn : Func} {tmps : Array Value} {R : Ending → World → Prop} : ∀ (ms : List Nat) (w : World), ms.Nodup → (∀ r ∈ ms, w.heap[r]? = some (.deferred (some []))) →
    (∃ v, (results fn tmps).run P (takes ms w) = .ok v (takes ms w) ∧ R (.returned v) (takes ms w)) → LeavesInM F n P fn tmps R (ms.map mkDf ++ []) .returning w := by
  intro ms
  induction ms with
  | nil => intro w _ _ h; exact h
  | cons r ms ih =>
    intro w hnd h hv
    obtain ⟨n1, n2⟩ := List.nodup_cons.1 hnd
    refine ⟨by simp, .inl ⟨r, w.putObj r (.deferred none), rfl, run_takeDeferred (h r (by simp)), ?_⟩⟩
    refine ih _ n2 (fun q hq => ?_) hv
    have hqr : q ≠ r := fun e => n1 (e ▸ hq)
    rw [put_other w _ hqr]
    exact h q (by simp [hq])
theorem Took.cell (t : Took w w2) {a : Addr} {v : Value} (h : w.cell? a = some v) : w2.cell? a = some v := by
  rcases t.block a.block with h1 | ⟨x, h1⟩
  · rw [← h]; exact World.cell?_of_block h1
  · simp [World.cell?, h1] at h
theorem Took.holds (t : Took w w2) {b o : Nat} {us : List Value} (h : Holds w b o us) : Holds w2 b o us := fun j u hj => t.cell (h j u hj)
theorem Took.at_ (t : Took w w2) {b : Nat} {o : Obj} (h : w.heap[b]? = some o) (ho : ∀ x, o ≠ .deferred x) : w2.heap[b]? = some o := by
  rcases t.block b with h1 | ⟨x, h1⟩
  · rw [h1]; exact h
  · rw [h1] at h; cases h; exact absurd rfl (ho x)
theorem Took.mapIs (t : Took w w2) {b : Nat} {agg : Bool} {ks : List Value} {vss : List (List Value)} (h : MapIs w b agg ks vss) : MapIs w2 b agg ks vss := by
  obtain ⟨⟨es, cl, h1, h2⟩, h3⟩ := h
  exact ⟨⟨es, cl, t.at_ h1 (fun x => by simp), h2⟩, h3⟩
theorem R.took (t : Took w w2) {S : Sh} {x : CV} {v : Value} (h : R S w x v) : R S w2 x v := by
  induction h with
  | v h => exact .v h
  | nil => exact .nil
  | bare h => exact .bare h
  | row g h1 h2 h3 h4 h5 h6 h7 ih => exact .row g h1 h2 h3 h4 h5 (fun i us hi j hj => t.cell (h6 i us hi j hj)) ih
  | ptr h1 h2 h3 h4 ih => exact .ptr h1 h2 (t.holds h3) ih
  | fn h1 h2 h3 h4 ih1 ih2 => exact .fn h1 ih1 h3 ih2
  | meth h1 h2 h3 h4 ih1 ih2 => exact .meth h1 ih1 h3 ih2
  | map h1 h2 h3 h4 h5 ih => exact .map h1 (t.mapIs h2) h3 h4 ih
theorem RC.took (t : Took w w2) {S : Sh} {x : CA} {v : Value} (h : RC S w x v) : RC S w2 x v := by
  cases x with
  | one y => exact R.took t h
  | agg cs => obtain ⟨vs, h1, h2⟩ := h; exact ⟨vs, h1, h2.mono fun x y _ h => R.took t h⟩
  | nil => exact h
theorem VA.took (t : Took w w2) {c : Ctx} {m : Mem} {x : A} {v : Value} (h : VA c w m x v) : VA c w2 m x v := by
  cases x with
  | c y => exact R.took t h
  | el k cs off => obtain ⟨b, o, vs, h1, h2, h3, h4⟩ := h; exact ⟨b, o, vs, h1, h2, h3.mono fun x y _ h => R.took t h, t.holds h4⟩
  | full k xs => obtain ⟨a, h1, h2⟩ := h; exact ⟨a, h1, R.took t h2⟩
  | ptr id off => exact h
  | own id n => exact h
  | pel id n i off => exact h
  | mp id => exact h
  | nil => exact h
  | bare => exact h
  | any => exact h
theorem VV.took (t : Took w w2) {c : Ctx} {m : Mem} {x : AV} {v : Value} (h : VV c w m x v) : VV c w2 m x v := by
  cases x with
  | one a => exact VA.took t h
  | agg cs => obtain ⟨vs, h1, h2⟩ := h; exact ⟨vs, h1, h2.mono fun x y _ h => VA.took t h⟩
  | tup rs => obtain ⟨vs, h1, h2⟩ := h; exact ⟨vs, h1, h2.mono fun x y _ h => RC.took t h⟩
  | tupo rs =>
    obtain ⟨vs, h1, h2⟩ := h
    refine ⟨vs, h1, h2.mono fun x y _ h => ?_⟩
    obtain ⟨b, cs⟩ := x
    cases b with
    | true => obtain ⟨us, e1, e2⟩ := h; exact ⟨us, e1, e2.mono fun x y _ h => VA.took t h⟩
    | false => obtain ⟨a, e1, e2⟩ := h; exact ⟨a, e1, VA.took t e2⟩
  | junk => exact h
theorem Tm.took (t : Took w w2) {c : Ctx} {σ : St} {a : Act} (h : Tm c w σ a) : Tm c w2 σ a := ⟨h.1, fun d hd => VV.took t (h.2 d hd), fun g vs hg => ⟨(h.3 g vs hg).1, t.holds (h.3 g vs hg).2⟩⟩
theorem ownsRow_took (t : Took w w2) {base : Nat} {e : TypeId} {sz n : Nat} {v : Value} {xs : List Value} (h : w.ownsRow base e sz v n xs) : w2.ownsRow base e sz v n xs := by
  refine ⟨h.1, h.2.imp (fun h => h) fun ⟨g, cap, cur, e1, e2, e3, r⟩ => ⟨g, cap, cur, e1, e2, t.at_ e3 (fun x => by simp), r⟩⟩
theorem WR.took (t : Took w w2) {base : Nat} {S0 : Sh} {w0 : W0} {c : Ctx} {m : Mem} (h : WR base S0 w0 c m w) (hb : ∀ k, k < base → w2.heap[k]? = w.heap[k]?) : WR base S0 w0 c m w2 := by
  have up : ∀ {xs : List CV} {vs : List Value}, F2 (R c.S w) xs vs → F2 (R c.S w2) xs vs := fun h => h.mono fun x y _ h => R.took t h
  have ups : ∀ {xs : List (List CV)} {vss : List (List Value)}, F2 (F2 (R c.S w)) xs vss → F2 (F2 (R c.S w2)) xs vss := fun h => h.mono fun x y _ h => up h
  refine ⟨fun id b hm => ?_, h.inj, fun k b hb => by rw [t.size]; exact h.lt k b hb, h.old, h.new, ⟨t.os.trans h.below.os, t.tape.trans h.below.tape, t.output.trans h.below.output, by rw [t.size]; exact h.below.size, fun k hk hn => (hb k hk).trans (h.below.block k hk hn)⟩, h.rok, by rw [t.size]; exact h.size, h.s0⟩
  have hB := h.blk id b hm
  cases b with
  | box cs => obtain ⟨h1, h2, vs, T, h3, h4⟩ := hB; exact ⟨h1, h2, vs, T, t.at_ h3 (fun x => by simp), h4.mono fun x y _ h => VA.took t h⟩
  | rows e sz xs => obtain ⟨h1, h2, h3, h4, vss, h5, h6⟩ := hB; exact ⟨h1, h2, h3, h4, vss, ups h5, ownsRow_took t h6⟩
  | froz xs => exact R.took t hB
  | gone L => exact hB
  | lent j e sz xs => obtain ⟨h0, h1, h2, h3, h4, vss, h5, h6⟩ := hB; exact ⟨h0, h1, h2, h3, h4, vss, ups h5, ownsRow_took t h6⟩
  | fbox cs => obtain ⟨h1, vs, h2, h3⟩ := hB; exact ⟨h1, vs, up h2, t.holds h3⟩
  | obox cs => obtain ⟨h1, h2, h3, vs, T, h4, h5⟩ := hB; exact ⟨h1, h2, h3, vs, T, t.at_ h4 (fun x => by simp), up h5⟩
  | orec r =>
    obtain ⟨h1, h2, h3, RR, k1, k2, k3, k4, k5, k6, k7, k8, k9⟩ := hB
    exact ⟨h1, h2, h3, RR, t.at_ k1 (fun x => by simp), k2, k3, k4, k5, k6, k7, k8, fun d hd => VV.took t (k9 d hd)⟩
  | mapb a ks xs => obtain ⟨h1, h2, vss, h3, h4⟩ := hB; exact ⟨h1, h2, vss, t.mapIs h3, ups h4⟩
  | fmap a ks xs => obtain ⟨h1, vss, h3, h4⟩ := hB; exact ⟨h1, vss, t.mapIs h3, ups h4⟩
end
/-- A function's contract, by its code. -/
theorem ACalls.introX {f : FuncId} {fn : Func} {c : Code} {args : List CA} {r : RV} (hf : P.funcs[f]? = some fn) (hb : fn.body = some c) (hname : (fn.name == "runtime.NumGoroutine") = false) (hn : args.length ≤ fn.ntmps)
    (h : AW P c ⟨fn.ntmps, entryT args 0, setBs (fun _ => none) (insOf r)⟩ (Post P fn.results.toList r)) : ACalls P f args r := by
  refine ⟨⟨fn, hf, by rw [hb]; rfl, hname⟩, fun S w vs hS hgl hvs hbx => ?_⟩
  refine (callsIn_wide (n := 0)).1 (callsIn_of_wp_marks hf hb trivial ?_)
  have hG := entry_ok (df := []) (insOf r) hS hgl hvs hn hbx
  rw [List.size_toArray]
  refine wpIn_mono (h _ S _ [] _ w hG) fun e a' w' ⟨σ', h1, cc, t1, t2, t3⟩ => ?_
  obtain ⟨ms, t3, t4, t5⟩ := t3
  have hms : ∀ r ∈ ms, w'.heap[r]? = some (.deferred (some [])) := fun r hr => (t5 r hr).2.2
  obtain ⟨tk, tk2⟩ := takes_ok ms w' t4 hms
  have t1 := Tm.took tk t1
  have t2 := WR.took tk t2 fun k hk => tk2 k fun hkm => by have := (t5 k hkm).1; omega
  have wrap : (∃ v, (results fn a'.tmps).run P (takes ms w') = .ok v (takes ms w') ∧ ∃ (v' : Value) (T : Sh), Ending.returned v = .returned v' ∧ (∀ k b, T k b → S k b ∨ (w.heap.size ≤ b ∧ b < (takes ms w').heap.size)) ∧ RR w.heap.size (fun k b => S k b ∨ T k b) (takes ms w') r v' ∧ BelowX w.heap.size (lentR r) w (takes ms w')) →
      LeavesInM Fence.wide 0 P fn a'.tmps (fun e w' => ∃ (v : Value) (T : Sh), e = .returned v ∧ (∀ k b, T k b → S k b ∨ (w.heap.size ≤ b ∧ b < w'.heap.size)) ∧ RR w.heap.size (fun k b => S k b ∨ T k b) w' r v ∧ BelowX w.heap.size (lentR r) w w') a'.defers .returning w' := fun h => by
    rw [t3]
    exact leaves_end ms w' t4 hms h
  generalize takes ms w' = w2 at t1 t2 wrap
  have hrun : ∀ us : List Value, (fn.results.toList.mapM (resSem a'.tmps)).run P w2 = .ok us w2 → (results fn a'.tmps).run P w2 = .ok (if h : us.toArray.size = 1 then us.toArray[0] else .tuple us.toArray) w2 := fun us q1 => by
    have hres : results fn a'.tmps = (do let vs ← fn.results.mapM (resSem a'.tmps); pure (if h : vs.size = 1 then vs[0] else .tuple vs)) := by
      unfold results
      congr 1
    rw [hres, Array.mapM_eq_mapM_toList]
    simp only [Sem.run_bind, Sem.run_map, q1, Result.andThen_ok, Sem.run_pure]
  have gen : resAll P σ' fn.results.toList → (∀ (us : List Value) (c1 : Ctx) (ids : List Nat), WR w.heap.size S ⟨w, lentR r, none⟩ c1 (mrg ids (frz σ'.m) σ'.m) w2 → F2 (RC (fun k b => S k b ∨ c1.S k b) w2) (fn.results.toList.map fun x => cloAV σ'.m (resAV P σ' x)) us → RR w.heap.size (fun k b => S k b ∨ c1.S k b) w2 r (if h : us.toArray.size = 1 then us.toArray[0] else .tuple us.toArray)) → ∃ v, (results fn a'.tmps).run P w2 = .ok v w2 ∧ ∃ (v' : Value) (T : Sh), Ending.returned v = .returned v' ∧ (∀ k b, T k b → S k b ∨ (w.heap.size ≤ b ∧ b < w2.heap.size)) ∧ RR w.heap.size (fun k b => S k b ∨ T k b) w2 r v' ∧ BelowX w.heap.size (lentR r) w w2 := fun hra hfin => by
    obtain ⟨us, q1, q2⟩ := results_run t1 t2 _ (resOKs_of hra)
    refine ⟨_, hrun us q1, (if h : us.toArray.size = 1 then us.toArray[0] else .tuple us.toArray), ?_⟩
    obtain ⟨c1, g1, r1⟩ := freezes (ownIds ((fn.results.toList.map (resAV P σ')).map AV.cells).flatten) t2
    refine ⟨c1.S, rfl, fun k b hb => ?_, ?_, r1.below⟩
    · rcases r1.new k b hb with h | h
      · exact .inl h
      · exact .inr ⟨h, r1.lt k b hb⟩
    · generalize hids : ownIds ((fn.results.toList.map (resAV P σ')).map AV.cells).flatten = ids at g1 r1
      have hcl : ∀ (rs : List ResultVar) (us : List Value), resAll P σ' rs → (∀ i ∈ ownIds ((rs.map (resAV P σ')).map AV.cells).flatten, i ∈ ids) → F2 (VV cc w2 σ'.m) (rs.map (resAV P σ')) us → F2 (RC (fun k b => S k b ∨ c1.S k b) w2) (rs.map fun x => cloAV σ'.m (resAV P σ' x)) us := by
        intro rs
        induction rs with
        | nil => intro us _ _ h; rw [h.unnil]; exact F2.nil
        | cons x rs ih =>
          intro us ha hi h
          simp only [List.map_cons] at h hi ⊢
          obtain ⟨v, us, rfl, k1, k2⟩ := h.uncons
          simp only [List.flatten_cons, ownIds_append, List.mem_append] at hi
          have hi1 : ∀ i ∈ ownIds (resAV P σ' x).cells, i ∈ ids := fun i h => hi i (.inl h)
          refine F2.cons ?_ (ih us ha.2 (fun i h => hi i (.inr h)) k2)
          have := cloAV_ok r1 (k1.goes g1) ha.1.2.1 ((cloL_only hi1).2.2 ha.1.2.2) hi1
          rw [cloAV_only hi1] at this
          exact RC.mono this (fun k b hb => .inr hb) fun _ _ _ => rfl
      have hall := hcl _ us hra (fun i hi => by rw [← hids]; exact hi) q2
      exact hfin us c1 ids r1 hall
  have one_of : ∀ {S' : Sh} (rs : List CA) (us : List Value), F2 (RC S' w2) rs us → RRs S' w2 rs (if h : us.toArray.size = 1 then us.toArray[0] else .tuple us.toArray) := fun {S'} rs us hall => by
    match rs, us, hall with
    | [], us, hall =>
      have : us = [] := hall.unnil
      subst this
      exact ⟨[], by simp, F2.nil⟩
    | [x], us, hall =>
      obtain ⟨v, us, rfl, k1, k2⟩ := hall.uncons
      have : us = [] := k2.unnil
      subst this
      exact k1
    | x :: y :: rs, us, hall =>
      have hl := hall.1
      have hne : ¬ us.toArray.size = 1 := by simp at hl ⊢; omega
      refine ⟨us, by rw [dif_neg hne], hall⟩
  have main : resAll P σ' fn.results.toList → RVof (fn.results.toList.map fun x => cloAV σ'.m (resAV P σ' x)) = r → ∃ v, (results fn a'.tmps).run P w2 = .ok v w2 ∧ ∃ (v' : Value) (T : Sh), Ending.returned v = .returned v' ∧ (∀ k b, T k b → S k b ∨ (w.heap.size ≤ b ∧ b < w2.heap.size)) ∧ RR w.heap.size (fun k b => S k b ∨ T k b) w2 r v' ∧ BelowX w.heap.size (lentR r) w w2 := fun hra hr => gen hra fun us c1 ids r1 hall => by
    rw [← hr]
    have := one_of _ us hall
    generalize fn.results.toList.map (fun x => cloAV σ'.m (resAV P σ' x)) = rs at this
    match rs, this with
    | [], this => exact this
    | [x], this => exact this
    | x :: y :: l, this => exact this
  have mainX : ∀ ins outs l, r = .bx ins outs l → resAll P σ' fn.results.toList → (fn.results.toList.map fun x => cloAV σ'.m (resAV P σ' x)) = l → insAt σ'.m outs → ∃ v, (results fn a'.tmps).run P w2 = .ok v w2 ∧ ∃ (v' : Value) (T : Sh), Ending.returned v = .returned v' ∧ (∀ k b, T k b → S k b ∨ (w.heap.size ≤ b ∧ b < w2.heap.size)) ∧ RR w.heap.size (fun k b => S k b ∨ T k b) w2 r v' ∧ BelowX w.heap.size (lentR r) w w2 := fun ins outs l hr hra hl hout => gen hra fun us c1 ids r1 hall => by
    have h1 := one_of _ us hall
    rw [hl] at h1
    rw [hr]
    refine ⟨h1, fun p hp => ?_⟩
    have hm := insAt_mem hout p hp
    have hm1 : mrg ids (frz σ'.m) σ'.m (1000000 + p.1) = some p.2.blk := by
      show (bif hasN ids (1000000 + p.1) then frzB (σ'.m (1000000 + p.1)) else σ'.m (1000000 + p.1)) = _
      rw [hm]
      cases hasN ids (1000000 + p.1) <;> cases p.2 <;> rfl
    obtain ⟨b, oc⟩ := p
    have hB := r1.blk _ _ hm1
    have up : ∀ k b, c1.S k b → S k b ∨ c1.S k b := fun k b hb => .inr hb
    cases oc with
    | cells cs =>
      obtain ⟨q1, q2, q3, us', TT, q4, q5⟩ := hB
      have q3 : c1.φ (1000000 + b) = b := Nat.add_left_cancel q3
      rw [q3] at q2 q4
      exact ⟨fun k hk => hk.elim (fun h => q2 k (r1.old k _ h)) (q2 k), us', TT, q4, q5.mono fun x y _ h => h.mono up fun _ _ _ => rfl⟩
    | loop rr =>
      obtain ⟨q1, q2, q3, q4⟩ := hB
      have q3 : c1.φ (1000000 + b) = b := Nat.add_left_cancel q3
      rw [q3] at q2 q4
      exact ⟨fun k hk => hk.elim (fun h => q2 k (r1.old k _ h)) (q2 k), q4.mono rfl up fun _ _ _ => rfl⟩
  have mainO : ∀ e sz xs, r = .own e sz xs → resOKs P σ' fn.results.toList → resO σ'.m e sz xs (fn.results.toList.map (resAV P σ')) → ∃ v, (results fn a'.tmps).run P w2 = .ok v w2 ∧ ∃ (v' : Value) (T : Sh), Ending.returned v = .returned v' ∧ (∀ k b, T k b → S k b ∨ (w.heap.size ≤ b ∧ b < w2.heap.size)) ∧ RR w.heap.size (fun k b => S k b ∨ T k b) w2 r v' ∧ BelowX w.heap.size (lentR r) w w2 := fun e sz xs hr hok ho => by
    subst hr
    obtain ⟨us, q1, q2⟩ := results_run t1 t2 _ hok
    refine ⟨_, hrun us q1, (if h : us.toArray.size = 1 then us.toArray[0] else .tuple us.toArray), cc.S, rfl, fun k b hb => ?_, ?_, t2.below⟩
    · rcases t2.new k b hb with h | h
      · exact .inl h
      · exact .inr ⟨h, t2.lt k b hb⟩
    · generalize fn.results.toList.map (resAV P σ') = rs at q2 ho
      unfold resO at ho
      split at ho
      · rename_i id n
        obtain ⟨v, us, rfl, k1, k2⟩ := q2.uncons
        have : us = [] := k2.unnil
        subst this
        split at ho
        · rename_i e' sz' xs' hm
          obtain ⟨rfl, rfl, rfl, hn⟩ := ho
          obtain ⟨_, L, hL, hn', hq⟩ := k1
          have hL' : xs'.length = L := by simpa [rowLen, hm] using hL
          obtain ⟨p1, p2, p3, p4, vss, p5, p6⟩ := t2.blk id _ hm
          have hv : v = cc.ψ id := hq (by omega)
          subst hv
          show RO w.heap.size (fun k b => S k b ∨ cc.S k b) w2 e' sz' xs' (cc.ψ id)
          exact ⟨p1, p2, p3, fun g hg k hs => p4 g hg k (hs.elim (t2.old k g) fun h => h), vss, p5.mono fun x y _ h => h.mono fun x y _ h => h.mono (fun k b hb => .inr hb) fun _ _ _ => rfl, p6⟩
        · exact ho.elim
      · obtain ⟨v, us, rfl, k1, k2⟩ := q2.uncons
        have : us = [] := k2.unnil
        subst this
        obtain ⟨rfl, hs⟩ := ho
        have k1 : v = .slice none 0 0 := k1
        subst k1
        exact ⟨by simp, hs, by simp, fun g hg => by simp [Value.ownBlock] at hg, [], F2.nil, World.ownsRow_nil _ _ _ _⟩
      · exact ho.elim
  have mainM : ∀ l, r = .mix l → resOKs P σ' fn.results.toList → resMs σ'.m (fn.results.toList.map (resAV P σ')) l → distN (ownIds ((fn.results.toList.map (resAV P σ')).map AV.cells).flatten) → ∃ v, (results fn a'.tmps).run P w2 = .ok v w2 ∧ ∃ (v' : Value) (T : Sh), Ending.returned v = .returned v' ∧ (∀ k b, T k b → S k b ∨ (w.heap.size ≤ b ∧ b < w2.heap.size)) ∧ RR w.heap.size (fun k b => S k b ∨ T k b) w2 r v' ∧ BelowX w.heap.size (lentR r) w w2 := fun l hr hok ho hd => by
    subst hr
    obtain ⟨us, q1, q2⟩ := results_run t1 t2 _ hok
    refine ⟨_, hrun us q1, (if h : us.toArray.size = 1 then us.toArray[0] else .tuple us.toArray), cc.S, rfl, fun k b hb => ?_, ?_, t2.below⟩
    · rcases t2.new k b hb with h | h
      · exact .inl h
      · exact .inr ⟨h, t2.lt k b hb⟩
    · obtain ⟨ps, p1, p2, _⟩ := resMs_ok t2 q2 ho hd
      refine ⟨us, ps, p1.mono (fun k b hb => .inr hb) (fun k b hb => hb.elim (t2.old k b) fun h => h), p2, ?_⟩
      match us with
      | [] => simp [valOf]
      | [x] => simp [valOf]
      | x :: y :: t => simp [valOf]
  have both : PostAt P fn.results.toList σ' r → ∃ v, (results fn a'.tmps).run P w2 = .ok v w2 ∧ ∃ (v' : Value) (T : Sh), Ending.returned v = .returned v' ∧ (∀ k b, T k b → S k b ∨ (w.heap.size ≤ b ∧ b < w2.heap.size)) ∧ RR w.heap.size (fun k b => S k b ∨ T k b) w2 r v' ∧ BelowX w.heap.size (lentR r) w w2 := fun h => by
    cases r with
    | bx ins outs l => exact mainX ins outs l rfl h.1 h.2.1 h.2.2
    | one x => exact main h.1 h.2
    | tup l => exact main h.1 h.2
    | own e sz xs => exact mainO e sz xs rfl h.1 h.2
    | mix l => exact mainM l rfl h.1 h.2.1 h.2.2
  cases e with
  | ret => exact wrap (both h1)
  | normal => exact wrap (both h1)
  | exit id => exact h1.elim
  | goto l => exact h1.elim
  | panic ch => exact h1.elim
  | outgrown => exact h1.elim
theorem ACalls.intro {f : FuncId} {fn : Func} {c : Code} {args : List CA} {r : RV} (hf : P.funcs[f]? = some fn) (hb : fn.body = some c) (hname : (fn.name == "runtime.NumGoroutine") = false) (hn : args.length ≤ fn.ntmps)
    (h : AW P c ⟨fn.ntmps, entryT args 0, fun _ => none⟩ (Post P fn.results.toList r)) (h0 : insOf r = [] := by rfl) : ACalls P f args r := ACalls.introX hf hb hname hn (by rw [h0]; exact h)
def FineCA : CA → Prop
  | .one x => Fine x
  | .agg cs => ∀ u ∈ cs, Fine u
  | .nil => True
theorem RC.fine {S : Sh} {w : World} {x : CA} {v : Value} (h : RC S w x v) : FineCA x := by
  cases x with
  | one y => exact R.fine h
  | agg cs =>
    obtain ⟨vs, _, h2⟩ := h
    intro u hu
    obtain ⟨i, hi, rfl⟩ := List.getElem_of_mem hu
    obtain ⟨v, _, hv⟩ := h2.get (List.getElem?_eq_getElem hi)
    exact R.fine hv
  | nil => trivial
/-- A function's contract, by its code; of what is handed over numbers are of their kinds, rows no longer than rows may be. -/
theorem ACalls.introF {f : FuncId} {fn : Func} {c : Code} {args : List CA} {r : RV} (hf : P.funcs[f]? = some fn) (hb : fn.body = some c) (hname : (fn.name == "runtime.NumGoroutine") = false) (hn : args.length ≤ fn.ntmps)
    (h : (∀ x ∈ args, FineCA x) → AW P c ⟨fn.ntmps, entryT args 0, fun _ => none⟩ (Post P fn.results.toList r)) (h0 : insOf r = [] := by rfl) : ACalls P f args r := by
  refine ⟨⟨fn, hf, by rw [hb]; rfl, hname⟩, fun S w vs hS hgl hvs hbx => ?_⟩
  have hfine : ∀ x ∈ args, FineCA x := fun x hx => by
    obtain ⟨i, hi, rfl⟩ := List.getElem_of_mem hx
    obtain ⟨v, _, hv⟩ := hvs.get (List.getElem?_eq_getElem hi)
    exact RC.fine hv
  exact (ACalls.intro hf hb hname hn (h hfine) h0).2 S w vs hS hgl hvs hbx
theorem fineArgs {x : CA} {l : List CA} (h : ∀ y ∈ x :: l, FineCA y) : FineCA x ∧ ∀ y ∈ l, FineCA y := ⟨h x (by simp), fun y hy => h y (by simp [hy])⟩
theorem Fine.int {k : IntKind} {n : Int} (h : Fine (.v (.int k n))) : inK k n = true := by cases h; assumption
theorem Fine.rowI {xs : List (List CV)} (h : Fine (.row xs)) : xs.length ≤ maxLen ∧ ∀ us ∈ xs, ∀ u ∈ us, Fine u := by cases h; exact ⟨‹_›, ‹_›⟩
theorem Fine.rowM {α : Type} {f : α → List CV} {xs : List α} (h : Fine (.row (xs.map f))) : xs.length ≤ 9223372036854775807 ∧ ∀ x ∈ xs, ∀ u ∈ f x, Fine u := by
  obtain ⟨h1, h2⟩ := h.rowI
  rw [List.length_map] at h1
  exact ⟨by unfold maxLen at h1; exact h1, fun x hx => h2 _ (List.mem_map_of_mem hx)⟩
theorem Fine.rowC {α : Type} {f : α → List CV} {k : Nat} {xs : List α} (h : Fine (.rowc k (xs.map f))) : xs.length ≤ 9223372036854775807 := by
  cases h with
  | row h1 h2 => rw [List.length_map] at h1; unfold maxLen at h1; exact h1
theorem in_u32 {n : Int} (h : inK .u32 n = true) : 0 ≤ n ∧ n < 4294967296 := by
  simp only [inK, Bool.and_eq_true, decide_eq_true_eq] at h; omega
theorem in_i64 {n : Int} (h : inK .i64 n = true) : -9223372036854775808 ≤ n ∧ n ≤ 9223372036854775807 := by
  simp only [inK, Bool.and_eq_true, decide_eq_true_eq] at h; omega
/-- Nothing is a row without elements. -/
def LeArgs : List CA → List CA → Prop
  | [], [] => True
  | a :: l, b :: k => ((a = .nil ∧ b = .one (.row [])) ∨ a = b) ∧ LeArgs l k
  | _, _ => False
theorem LeArgs.ok {S : Sh} {w : World} : ∀ {l k : List CA} {vs : List Value}, LeArgs l k → F2 (RC S w) l vs → F2 (RC S w) k vs := by
  intro l
  induction l with
  | nil => intro k vs h h2; cases k with
    | nil => exact h2
    | cons b k => exact h.elim
  | cons a l ih =>
    intro k vs h h2
    cases k with
    | nil => exact h.elim
    | cons b k =>
      obtain ⟨v, vs, rfl, h3, h4⟩ := h2.uncons
      refine F2.cons ?_ (ih h.2 h4)
      rcases h.1 with ⟨rfl, rfl⟩ | rfl
      · rw [show v = .slice none 0 0 from h3]; exact R.nil
      · exact h3
theorem ACalls.args {f : FuncId} {l k : List CA} {r : RV} (h : ACalls P f k r) (hl : LeArgs l k) : ACalls P f l r := ⟨h.1, fun S w vs h1 hg h2 hb => h.2 S w vs h1 hg (hl.ok h2) hb⟩
/-- A law that holds of what stands for the arguments holds. -/
theorem ACalls.law {f : FuncId} {args : List CA} (h : ACalls P f args (.one (.one (.v (.bool true))))) {w : World} {vs : List Value} (hvs : F2 (RC (fun k b => k = 0 ∧ b < w.heap.size) w) args vs) (hg : Gl (fun k b => k = 0 ∧ b < w.heap.size) w := by intro g vs h; simp [tabsV] at h) :
    Calls P f vs.toArray w fun e w' => e = .returned (.bool true) ∧ Below w.heap.size w w' := by
  refine (h.2 (fun k b => k = 0 ∧ b < w.heap.size) w vs (fun _ _ h => h.2) hg hvs (fun p hp => by simp [insOf] at hp)).mono ?_
  rintro e w' ⟨v, T, rfl, _, hv, hb⟩
  have hv : R _ w' (.v (.bool true)) v := hv
  exact ⟨by rw [R.val hv], hb.to fun b ⟨cs, hc⟩ => by simp [insOf] at hc⟩
end
end Go.Proofs.Ytgkfbikffcmmdaa.Abs
