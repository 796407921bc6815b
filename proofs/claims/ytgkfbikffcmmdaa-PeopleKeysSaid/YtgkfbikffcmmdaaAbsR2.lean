/- Regions that draw their order: operations that are apart change places. -/
import Derived.Test.YtgkfbikffcmmdaaAbsR
set_option linter.unusedSimpArgs false
set_option linter.unusedVariables false
set_option maxRecDepth 100000
namespace Go.Proofs.Ytgkfbikffcmmdaa.Abs
open Go.RowKit
section
variable {P : Program}

theorem areq_congr {dst : Option Nat} {r : RV} {op : Op} {g g' : Operand → AV} (h : ∀ x ∈ op.operands, g x = g' x) : areq P dst r g op = areq P dst r g' op := by
  cases op with
  | move x => simp only [areq]; rw [h x (by simp [Op.operands])]
  | assign x => simp only [areq]; rw [h x (by simp [Op.operands])]
  | pick c x y => simp only [areq]; rw [h c (by simp [Op.operands]), h x (by simp [Op.operands]), h y (by simp [Op.operands])]
  | alloc T => rfl
  | box T x => simp only [areq]; rw [h x (by simp [Op.operands])]
  | load T x => simp only [areq]; rw [h x (by simp [Op.operands])]
  | store T x u => simp only [areq]; rw [h x (by simp [Op.operands]), h u (by simp [Op.operands])]
  | fieldAddr T x f => simp only [areq]; rw [h x (by simp [Op.operands])]
  | field T x f => simp only [areq]; rw [h x (by simp [Op.operands])]
  | extract x i => simp only [areq]; rw [h x (by simp [Op.operands])]
  | indexAddr T x i => simp only [areq]; rw [h x (by simp [Op.operands]), h i (by simp [Op.operands])]
  | index T x i => simp only [areq]; rw [h x (by simp [Op.operands]), h i (by simp [Op.operands])]
  | binOp op T x y T' => simp only [areq]; rw [h x (by simp [Op.operands]), h y (by simp [Op.operands])]
  | unOp u T x =>
    cases u with
    | not => simp only [areq]; rw [h x (by simp [Op.operands])]
    | _ => rfl
  | convert S T x => simp only [areq]; rw [h x (by simp [Op.operands])]
  | makeFunc fn first caps =>
    cases fn with
    | func f =>
      simp only [areq]
      rw [List.map_congr_left fun x hx => h x (by simp [Op.operands]; exact .inl (by simpa using hx)), List.map_congr_left fun x hx => h x (by simp [Op.operands]; exact .inr (by simpa using hx))]
    | _ => rfl
  | makeSlice T l k => simp only [areq]; rw [h l (by simp [Op.operands]), h k (by simp [Op.operands])]
  | nilCheck x => simp only [areq]; rw [h x (by simp [Op.operands])]
  | makeMap T r0 => cases r0 <;> rfl
  | insert T x k v => simp only [areq]; rw [h x (by simp [Op.operands]), h k (by simp [Op.operands]), h v (by simp [Op.operands])]
  | mapUpdate T x k v => simp only [areq]; rw [h x (by simp [Op.operands]), h k (by simp [Op.operands]), h v (by simp [Op.operands])]
  | lookup T x k ok => simp only [areq]; rw [h x (by simp [Op.operands]), h k (by simp [Op.operands])]
  | build T ps =>
    simp only [areq]
    have : partsA g ps.toList = partsA g' ps.toList := List.map_congr_left fun p hp => by rw [h p.2 (by simp [Op.operands]; exact ⟨p.1, by simpa using hp⟩)]
    rw [this]
  | buildSlice T len ps =>
    simp only [areq]
    have : partsA g ps.toList = partsA g' ps.toList := List.map_congr_left fun p hp => by rw [h p.2 (by simp [Op.operands]; exact ⟨p.1, by simpa using hp⟩)]
    rw [this]
  | slice T x lo hi mx =>
    have e1 : lo.map g = lo.map g' := by
      cases lo with
      | none => rfl
      | some y => simp only [Option.map_some]; rw [h y (by simp [Op.operands])]
    have e2 : hi.map g = hi.map g' := by
      cases hi with
      | none => rfl
      | some y => simp only [Option.map_some]; rw [h y (by simp [Op.operands])]
    cases mx with
    | none => simp only [areq]; rw [h x (by simp [Op.operands]), e1, e2]
    | some y => simp only [areq]; rw [h x (by simp [Op.operands]), h y (by simp [Op.operands]), e1, e2]
  | call c =>
    obtain ⟨callee, args, ts⟩ := c
    have ha : ∀ x ∈ args.toList, g x = g' x := fun x hx => h x (by simp only [Op.operands, Call.operands, Array.mem_append]; exact .inr (by simpa using hx))
    simp only [areq]
    split
    · rename_i x T h2 h3
      rw [ha x (by rw [h2]; simp)]
    · rename_i s x T T' h2 h3
      rw [ha x (by rw [h2]; simp), ha s (by rw [h2]; simp)]
    · rename_i x T h2 h3
      rw [ha x (by rw [h2]; simp)]
    · rename_i s x T T' h2 h3
      rw [ha x (by rw [h2]; simp), ha s (by rw [h2]; simp)]
    · rename_i x y h2
      rw [ha x (by rw [h2]; simp), ha y (by rw [h2]; simp)]
    · rename_i x y h2
      rw [ha x (by rw [h2]; simp), ha y (by rw [h2]; simp)]
    · rw [List.map_congr_left ha]
    · rename_i x _
      have hx : g x = g' x := h x (by simp only [Op.operands, Call.operands, Array.mem_append]; exact .inl (by simp))
      rw [hx, List.map_congr_left ha]
    · rfl
  | _ => rfl

theorem ev_put {σ : St} {dst : Option Nat} {v : AV} {m : Mem} {x : Operand} (h : ∀ d, dst = some d → x ≠ .tmp d) : ev (stepSt σ dst v m) x = ev σ x := by
  cases x with
  | tmp t =>
    cases dst with
    | none => rfl
    | some d =>
      have : t ≠ d := fun e => h d rfl (by rw [e])
      show (bif decide (t < σ.n) then upd σ.t d v t else .junk) = (bif decide (t < σ.n) then σ.t t else .junk)
      rw [upd_ne _ _ this]
  | _ => rfl
/-- What the operation gives. -/
def outI (P : Program) (ops : Array Oper) (cs : Nat → RV) (i : Nat) (o : Oper) (σ : St) : AV × Mem := match wantd ops σ o with
  | some true => (((reqI P cs σ i o).eff σ.m).val, (reqI P cs σ i o).mem σ.m)
  | _ => (.tup [], σ.m)
theorem stepI_out {ops : Array Oper} {cs : Nat → RV} {i : Nat} {o : Oper} {σ : St} (ho : ops[i]? = some o) : stepI P ops cs i σ = stepSt σ o.dst (outI P ops cs i o σ).1 (outI P ops cs i o σ).2 := by
  unfold stepI outI
  rw [ho]
  simp only
  cases wantd ops σ o with
  | none => rfl
  | some b => cases b <;> rfl
theorem mem_looks {ops : Array Oper} {o : Oper} {t : Nat} (h : Operand.tmp t ∈ o.op.operands) : t ∈ o.looksAt ops := by
  unfold Oper.looksAt
  refine List.mem_append.2 (.inl (List.mem_filterMap.2 ⟨.tmp t, by simpa using h, rfl⟩))
theorem guard_looks {ops : Array Oper} {o : Oper} {g : Nat} {b : Bool} {s : Nat} (h : o.guard = some (g, b)) (hs : (ops[g]?).bind (·.dst) = some s) : s ∈ o.looksAt ops := by
  unfold Oper.looksAt
  rw [h]
  simp [hs]
/-- An operation sees what it looks at, and the blocks that it asks of. -/
theorem local_I {ops : Array Oper} {cs : Nat → RV} {j : Nat} {y : Oper} {σ σ' : St} (hy : ops[j]? = some y) (hn : σ'.n = σ.n) (hl : ∀ d, d ∈ y.looksAt ops → ev σ' (.tmp d) = ev σ (.tmp d)) (hm : ∀ i ∈ (fpI P ops cs j σ).1, σ'.m i = σ.m i) :
    (okI P ops cs j σ' ↔ okI P ops cs j σ) ∧ fpI P ops cs j σ' = fpI P ops cs j σ ∧ (outI P ops cs j y σ').1 = (outI P ops cs j y σ).1 ∧
      (∀ i, i ∉ (fpI P ops cs j σ).1 → (outI P ops cs j y σ').2 i = σ'.m i ∧ (outI P ops cs j y σ).2 i = σ.m i) ∧ (∀ i ∈ (fpI P ops cs j σ).1, (outI P ops cs j y σ').2 i = (outI P ops cs j y σ).2 i) ∧ ((fpI P ops cs j σ).2 = false → (outI P ops cs j y σ').2 = σ'.m ∧ (outI P ops cs j y σ).2 = σ.m) := by
  have hop : ∀ x ∈ y.op.operands, ev σ' x = ev σ x := fun x hx => by
    cases x with
    | tmp t => exact hl t (mem_looks hx)
    | _ => rfl
  have hreq : reqI P cs σ' j y = reqI P cs σ j y := areq_congr hop
  have hw : wantd ops σ' y = wantd ops σ y := by
    unfold wantd
    cases hg : y.guard with
    | none => rfl
    | some gb =>
      obtain ⟨g, b⟩ := gb
      cases hs : (ops[g]?).bind (·.dst) with
      | none => simp only [hs]
      | some s => simp only [hs]; rw [hl s (guard_looks hg hs)]
  unfold okI fpI outI at *
  simp only [hy, hw, hreq, hn] at hm ⊢
  cases hwd : wantd ops σ y with
  | none => simp only [hwd] at hm ⊢; simp
  | some b =>
    cases b with
    | false => simp only [hwd] at hm ⊢; simp
    | true =>
      simp only [hwd] at hm ⊢
      generalize hq : reqI P cs σ j y = q at hm
      have hon : only q.ids σ'.m = only q.ids σ.m := by
        funext i
        unfold only
        cases hi : hasN q.ids i with
        | false => rfl
        | true => simp only [cond_true]; exact hm i (hasN_iff.1 hi)
      have heff : q.eff σ'.m = q.eff σ.m := by unfold Req.eff; rw [hon]
      refine ⟨by rw [heff], trivial, by rw [heff], fun i hi => ?_, fun i hi => ?_, fun hwr => ?_⟩
      · have hh : hasN q.ids i = false := by
          cases hh : hasN q.ids i with
          | false => rfl
          | true => exact absurd (hasN_iff.1 hh) hi
        unfold Req.mem
        cases q.wr <;> simp [mrg, hh]
      · have hh := hasN_iff.2 hi
        unfold Req.mem
        rw [heff]
        cases q.wr with
        | false => simp only [cond_false]; exact hm i hi
        | true => simp [mrg, hh]
      · unfold Req.mem
        rw [hwr]
        exact ⟨rfl, rfl⟩
/-- Two operations that may change places. -/
def indI (ops : Array Oper) (F : Nat → List Nat × Bool) (i j : Nat) : Prop := ∃ x y, ops[i]? = some x ∧ ops[j]? = some y ∧ x.apart ops y = true ∧ (((F i).2 = false ∧ (F j).2 = false) ∨ ∀ k ∈ (F i).1, k ∉ (F j).1)
theorem swapI {ops : Array Oper} {cs : Nat → RV} {F : Nat → List Nat × Bool} (i j : Nat) (s : St) (hind : indI ops F i j) (h1 : okI P ops cs i s ∧ fpI P ops cs i s = F i) (h2 : okI P ops cs j (stepI P ops cs i s) ∧ fpI P ops cs j (stepI P ops cs i s) = F j) :
    (okI P ops cs j s ∧ fpI P ops cs j s = F j) ∧ (okI P ops cs i (stepI P ops cs j s) ∧ fpI P ops cs i (stepI P ops cs j s) = F i) ∧ stepI P ops cs i (stepI P ops cs j s) = stepI P ops cs j (stepI P ops cs i s) := by
  obtain ⟨x, y, hx, hy, hap, hF⟩ := hind
  have e0 := stepI_out (P := P) (cs := cs) (σ := s) hx
  obtain ⟨p1, p2⟩ := Oper.apart_spec hap
  unfold Oper.apart at hap
  have a1 : ∀ d, x.dst = some d → d ∉ y.looksAt ops ∧ y.dst ≠ some d := fun d hd => by
    simp only [hd, Bool.and_eq_true, Bool.not_eq_true', bne_iff_ne] at hap
    exact ⟨fun hm => by have := hap.1.1; simp [hm] at this, hap.1.2⟩
  have a2 : ∀ d, y.dst = some d → d ∉ x.looksAt ops := fun d hd hm => by
    simp only [hd, Bool.and_eq_true, Bool.not_eq_true'] at hap
    have := hap.2
    simp [hm] at this
  have evx : ∀ (v : AV) (m : Mem) d, d ∈ y.looksAt ops → ev (stepSt s x.dst v m) (.tmp d) = ev s (.tmp d) := fun v m d hd => ev_put fun d' hd' e => by cases e; exact (a1 d hd').1 hd
  have evy : ∀ (v : AV) (m : Mem) d, d ∈ x.looksAt ops → ev (stepSt s y.dst v m) (.tmp d) = ev s (.tmp d) := fun v m d hd => ev_put fun d' hd' e => by cases e; exact a2 d hd' hd
  -- y at s, from y behind x
  have hmy : ∀ k ∈ (F j).1, (stepI P ops cs i s).m k = s.m k := fun k hk => by
    rw [e0]
    show (outI P ops cs i x s).2 k = s.m k
    obtain ⟨_, _, _, l1, _, l2⟩ := local_I (P := P) (cs := cs) (σ := s) (σ' := s) hx rfl (fun _ _ => rfl) (fun _ _ => rfl)
    rw [h1.2] at l1 l2
    rcases hF with hF | hF
    · rw [(l2 hF.1).2]
    · exact (l1 k fun hk' => hF k hk' hk).2
  have ly := local_I (P := P) (cs := cs) (σ := stepI P ops cs i s) (σ' := s) hy (by rw [e0]; rfl) (fun d hd => by rw [e0]; exact (evx _ _ d hd).symm) (fun k hk => by rw [h2.2] at hk; exact (hmy k hk).symm)
  rw [h2.2] at ly
  obtain ⟨y1, y2, y3, y4, y5, y6⟩ := ly
  have q1 : okI P ops cs j s ∧ fpI P ops cs j s = F j := ⟨y1.2 h2.1, y2⟩
  have e1 := stepI_out (P := P) (cs := cs) (σ := s) hy
  have hmx : ∀ k ∈ (F i).1, (stepI P ops cs j s).m k = s.m k := fun k hk => by
    rw [e1]
    show (outI P ops cs j y s).2 k = s.m k
    rcases hF with hF | hF
    · rw [(y6 hF.2).1]
    · exact (y4 k (hF k hk)).1
  have lx := local_I (P := P) (cs := cs) (σ := s) (σ' := stepI P ops cs j s) hx (by rw [e1]; rfl) (fun d hd => by rw [e1]; exact evy _ _ d hd) (fun k hk => by rw [h1.2] at hk; exact hmx k hk)
  rw [h1.2] at lx
  obtain ⟨x1, x2, x3, x4, x5, x6⟩ := lx
  refine ⟨q1, ⟨x1.2 h1.1, x2⟩, ?_⟩
  rw [stepI_out (P := P) (cs := cs) (σ := stepI P ops cs j s) hx, stepI_out (P := P) (cs := cs) (σ := stepI P ops cs i s) hy, x3, ← y3]
  have hm : (outI P ops cs i x (stepI P ops cs j s)).2 = (outI P ops cs j y (stepI P ops cs i s)).2 := by
    have m1 : (stepI P ops cs j s).m = (outI P ops cs j y s).2 := by rw [e1]; rfl
    have m2 : (stepI P ops cs i s).m = (outI P ops cs i x s).2 := by rw [e0]; rfl
    funext k
    rcases hF with ⟨f1, f2⟩ | hF
    · rw [(x6 f1).1, (y6 f2).2, m1, m2, (x6 f1).2, (y6 f2).1]
    · by_cases hki : k ∈ (F i).1
      · rw [x5 k hki, (y4 k (hF k hki)).2, m2]
      · by_cases hkj : k ∈ (F j).1
        · rw [(x4 k hki).1, m1, ← y5 k hkj]
        · rw [(x4 k hki).1, (y4 k hkj).2, m1, m2, (y4 k hkj).1, (x4 k hki).2]
  rw [hm]
  generalize (outI P ops cs j y (stepI P ops cs i s)).2 = M
  rw [e0, e1]
  show stepSt (stepSt s y.dst _ _) x.dst _ M = stepSt (stepSt s x.dst _ _) y.dst _ M
  unfold stepSt
  simp only [St.mk.injEq, true_and, and_true]
  cases hdx : x.dst with
  | none => rfl
  | some dx =>
    cases hdy : y.dst with
    | none => rfl
    | some dy =>
      have hne : dx ≠ dy := fun e => (a1 dx hdx).2 (by rw [hdy, e])
      funext t
      simp only [upd]
      by_cases t1 : t = dx
      · subst t1; simp [hne]
      · simp [t1]
end
end Go.Proofs.Ytgkfbikffcmmdaa.Abs
