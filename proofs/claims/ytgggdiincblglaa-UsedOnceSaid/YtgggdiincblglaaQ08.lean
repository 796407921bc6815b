/- The reference of layer used, over values without addresses. -/
import Derived.Test.YtgggdiincblglaaQ01
set_option linter.unusedSimpArgs false
set_option linter.unusedVariables false
namespace Go.Proofs.Ytgggdiincblglaa.Abs
open Go.RowKit
def hasB (l : List Int) (w : Int) : Bool := l.any fun x => x == w
theorem hasB_iff {l : List Int} {w : Int} : hasB l w = true ↔ w ∈ l := by
  unfold hasB
  rw [List.any_eq_true]
  constructor
  · rintro ⟨x, hx, h⟩; rw [beq_iff_eq] at h; exact h ▸ hx
  · intro h; exact ⟨w, h, by simp⟩
theorem hasB_no {l : List Int} {w : Int} : hasB l w = false ↔ w ∉ l := by
  rw [← hasB_iff]; cases hasB l w <;> simp
theorem hasB_snoc (l : List Int) (w x : Int) : hasB (l ++ [w]) x = (hasB l x || w == x) := by simp [hasB]
theorem hasB_next {l : List Int} {w x : Int} {k : Nat} (ht : hasB (l.take k) w = false) (hx : l[k]? = some x) (hp : (x == w) = false) : hasB (l.take (k + 1)) w = false := by
  rw [List.take_add_one, hx]
  simp [hasB_snoc, ht, hp]
theorem hasB_at {l : List Int} {w x : Int} {k : Nat} (hx : l[k]? = some x) (hp : (x == w) = true) : hasB l w = true := hasB_iff.2 (by rw [beq_iff_eq] at hp; exact hp ▸ List.mem_of_getElem? hx)
theorem q01_has (j : Nat) (l : List Int) (w : Int) : ACalls Try.prog 14 [.one (.rowc j (l.map eWord)), .one (u32 w)] (rB (hasB l w)) := by
  refine ACalls.introF (fn := Try.f14) rfl rfl rfl (by simp [Try.f14]) fun hf => ?_
  have hl := Fine.rowC (hf _ (by simp) : FineCA (.one (.rowc j (l.map eWord))))
  clear hf
  unfold Try.f14
  simp only [rB]
  repeat' (first
    | (refine hK _ _ ?_; clear hK hC; clear K C)
    | (refine hK _ _ rfl ?_; clear hK hC; clear K C)
    | (refine AW.seqR fun K C hK hC => ?_; simp only [go_sem, ↓reduceIte, reduceCtorEq, Nat.reduceLT, Nat.reduceEqDiff, Nat.reduceBEq, Nat.reduceAdd, Nat.reduceSub, Nat.reduceMul, Nat.reduceLeDiff, Int.reduceLE, Int.reduceLT, Int.reduceNeg, Int.reduceEq, Int.reduceBEq, Int.reduceBNe, Int.reduceToNat])
    | (refine AW.seqD rfl fun K C hK hC => ?_; simp only [go_sem, ↓reduceIte, reduceCtorEq, Nat.reduceLT, Nat.reduceEqDiff, Nat.reduceBEq, Nat.reduceAdd, Nat.reduceSub, Nat.reduceMul, Nat.reduceLeDiff, Int.reduceLE, Int.reduceLT, Int.reduceNeg, Int.reduceEq, Int.reduceBEq, Int.reduceBNe, Int.reduceToNat])
    | (refine AW.reg fun K C hK hC => ?_; simp only [go_sem, ↓reduceIte, reduceCtorEq, Nat.reduceLT, Nat.reduceEqDiff, Nat.reduceBEq, Nat.reduceAdd, Nat.reduceSub, Nat.reduceMul, Nat.reduceLeDiff, Int.reduceLE, Int.reduceLT, Int.reduceNeg, Int.reduceEq, Int.reduceBEq, Int.reduceBNe, Int.reduceToNat])
    | refine AW.seqS ?_
    | (refine AW.ret ?_; simp only [go_sem, ↓reduceIte, reduceCtorEq, Nat.reduceLT, Nat.reduceEqDiff, Nat.reduceBEq, Nat.reduceAdd, Nat.reduceSub, Nat.reduceMul, Nat.reduceLeDiff, Int.reduceLE, Int.reduceLT, Int.reduceNeg, Int.reduceEq, Int.reduceBEq, Int.reduceBNe, Int.reduceToNat])
    | (refine AW.cond rfl (fun h => ?_) (fun h => ?_) <;> (try simp only [decide_eq_true_eq, decide_eq_false_iff_not, bne_iff_ne, beq_iff_eq, bne_eq_false_iff_eq, beq_eq_false_iff_ne, ne_eq, ge_iff_le, gt_iff_lt, Bool.not_eq_true, Bool.not_eq_false, Bool.not_not, Bool.not_true, Bool.not_false, Int.not_le, Int.not_lt, not_true_eq_false, not_false_eq_true, reduceCtorEq, Bool.false_eq_true, Bool.not_eq_true', Bool.not_eq_false'] at h) <;> first | (exfalso; omega) | skip)
    | refine AW.skip ?_
    | refine AW.seq ?_
    | refine AW.block ?_
    | (refine AW.exit ?_; simp only [go_sem, ↓reduceIte, reduceCtorEq, Nat.reduceLT, Nat.reduceEqDiff, Nat.reduceBEq, Nat.reduceAdd, Nat.reduceSub, Nat.reduceMul, Nat.reduceLeDiff, Int.reduceLE, Int.reduceLT, Int.reduceNeg, Int.reduceEq, Int.reduceBEq, Int.reduceBNe, Int.reduceToNat])
    | (refine ite_on (fun h => ?_) (fun h => ?_) <;> (try simp only [decide_eq_true_eq, decide_eq_false_iff_not, bne_iff_ne, beq_iff_eq, bne_eq_false_iff_eq, beq_eq_false_iff_ne, ne_eq, ge_iff_le, gt_iff_lt, Bool.not_eq_true, Bool.not_eq_false, Bool.not_not, Bool.not_true, Bool.not_false, Int.not_le, Int.not_lt, not_true_eq_false, not_false_eq_true, reduceCtorEq, Bool.false_eq_true, Bool.not_eq_true', Bool.not_eq_false'] at h) <;> first | (exfalso; omega) | skip)
    | rw [thenN]
    | rw [blockN]
    | rw [scopeN]
    | refine AW.scope ?_
    | refine AW.label ?_
    | refine And.intro ?_ ?_
    | refine lcons rfl ?_
    | exact lGram _
    | exact lSeen _
    | exact lWord _
    | exact lSealed _
    | exact lRun _
    | exact lPerson _
    | exact lEvent _
    | exact lLeak _
    | exact lNum _
    | exact lOprn _
    | exact in64 (by omega) (by omega)
    | exact in32 (by omega) (by omega)
    | omega)
  refine AW.loopW (fun n σ => ∃ k : Nat, n = l.length - k ∧ k ≤ l.length ∧ hasB (l.take k) w = false ∧ σ = ⟨18, (upd (upd (upd (fun _ => .junk) 0 (.one (.c (.rowc j (l.map eWord))))) 1 (.one (.c (u32 w)))) 5 (.one (.c (i64 k)))), (fun _ => none)⟩) (n := l.length) _ ⟨0, rfl, Nat.zero_le _, rfl, rfl⟩ (by (refine ⟨rfl, ?_, ?_, ?_⟩ <;> repeat' (first | exact LeT.junk | exact LeM.none | exact LiveM.none | refine LeT.nil0 (by simp only [go_sem, ↓reduceIte, reduceCtorEq, Nat.reduceLT, Nat.reduceEqDiff, Nat.reduceBEq, Nat.reduceAdd, Nat.reduceSub, Nat.reduceMul, Nat.reduceLeDiff, Int.reduceLE, Int.reduceLT, Int.reduceNeg, Int.reduceEq, Int.reduceBEq, Int.reduceBNe, Int.reduceToNat]; done) ?_ | refine LeT.same ?_ ?_ ?_ | refine LeM.same ?_ ?_ | refine LiveM.upd ?_ ?_ | trivial | (simp only [go_sem, ↓reduceIte, reduceCtorEq, Nat.reduceLT, Nat.reduceEqDiff, Nat.reduceBEq, Nat.reduceAdd, Nat.reduceSub, Nat.reduceMul, Nat.reduceLeDiff, Int.reduceLE, Int.reduceLT, Int.reduceNeg, Int.reduceEq, Int.reduceBEq, Int.reduceBNe, Int.reduceToNat]; done) | rfl))) ?_
  rintro n σ ⟨k, rfl, hk, ht, rfl⟩
  by_cases hlt : k < l.length
  · obtain ⟨x, hx⟩ : ∃ x, l[k]? = some x := ⟨_, List.getElem?_eq_getElem hlt⟩
    have hs := wrapI (x := (k : Int) + 1) (by omega) (by omega)
    cases hp : (x == w)
    · repeat' (first
    | (refine hK _ _ ?_; clear hK hC; clear K C)
    | (refine hK _ _ rfl ?_; clear hK hC; clear K C)
    | (refine AW.seqR fun K C hK hC => ?_; simp only [go_sem, ↓reduceIte, reduceCtorEq, Nat.reduceLT, Nat.reduceEqDiff, Nat.reduceBEq, Nat.reduceAdd, Nat.reduceSub, Nat.reduceMul, Nat.reduceLeDiff, Int.reduceLE, Int.reduceLT, Int.reduceNeg, Int.reduceEq, Int.reduceBEq, Int.reduceBNe, Int.reduceToNat, hx, hlt, hs, hp, eWord])
    | (refine AW.seqD rfl fun K C hK hC => ?_; simp only [go_sem, ↓reduceIte, reduceCtorEq, Nat.reduceLT, Nat.reduceEqDiff, Nat.reduceBEq, Nat.reduceAdd, Nat.reduceSub, Nat.reduceMul, Nat.reduceLeDiff, Int.reduceLE, Int.reduceLT, Int.reduceNeg, Int.reduceEq, Int.reduceBEq, Int.reduceBNe, Int.reduceToNat, hx, hlt, hs, hp, eWord])
    | (refine AW.reg fun K C hK hC => ?_; simp only [go_sem, ↓reduceIte, reduceCtorEq, Nat.reduceLT, Nat.reduceEqDiff, Nat.reduceBEq, Nat.reduceAdd, Nat.reduceSub, Nat.reduceMul, Nat.reduceLeDiff, Int.reduceLE, Int.reduceLT, Int.reduceNeg, Int.reduceEq, Int.reduceBEq, Int.reduceBNe, Int.reduceToNat, hx, hlt, hs, hp, eWord])
    | refine AW.seqS ?_
    | (refine AW.ret ?_; simp only [go_sem, ↓reduceIte, reduceCtorEq, Nat.reduceLT, Nat.reduceEqDiff, Nat.reduceBEq, Nat.reduceAdd, Nat.reduceSub, Nat.reduceMul, Nat.reduceLeDiff, Int.reduceLE, Int.reduceLT, Int.reduceNeg, Int.reduceEq, Int.reduceBEq, Int.reduceBNe, Int.reduceToNat, hx, hlt, hs, hp, eWord])
    | (refine AW.cond rfl (fun h => ?_) (fun h => ?_) <;> (try simp only [decide_eq_true_eq, decide_eq_false_iff_not, bne_iff_ne, beq_iff_eq, bne_eq_false_iff_eq, beq_eq_false_iff_ne, ne_eq, ge_iff_le, gt_iff_lt, Bool.not_eq_true, Bool.not_eq_false, Bool.not_not, Bool.not_true, Bool.not_false, Int.not_le, Int.not_lt, not_true_eq_false, not_false_eq_true, reduceCtorEq, Bool.false_eq_true, Bool.not_eq_true', Bool.not_eq_false'] at h) <;> first | (exfalso; omega) | skip)
    | refine AW.skip ?_
    | refine AW.seq ?_
    | refine AW.block ?_
    | (refine AW.exit ?_; simp only [go_sem, ↓reduceIte, reduceCtorEq, Nat.reduceLT, Nat.reduceEqDiff, Nat.reduceBEq, Nat.reduceAdd, Nat.reduceSub, Nat.reduceMul, Nat.reduceLeDiff, Int.reduceLE, Int.reduceLT, Int.reduceNeg, Int.reduceEq, Int.reduceBEq, Int.reduceBNe, Int.reduceToNat, hx, hlt, hs, hp, eWord])
    | (refine ite_on (fun h => ?_) (fun h => ?_) <;> (try simp only [decide_eq_true_eq, decide_eq_false_iff_not, bne_iff_ne, beq_iff_eq, bne_eq_false_iff_eq, beq_eq_false_iff_ne, ne_eq, ge_iff_le, gt_iff_lt, Bool.not_eq_true, Bool.not_eq_false, Bool.not_not, Bool.not_true, Bool.not_false, Int.not_le, Int.not_lt, not_true_eq_false, not_false_eq_true, reduceCtorEq, Bool.false_eq_true, Bool.not_eq_true', Bool.not_eq_false'] at h) <;> first | (exfalso; omega) | skip)
    | rw [thenN]
    | rw [blockN]
    | rw [scopeN]
    | refine AW.scope ?_
    | refine AW.label ?_
    | refine And.intro ?_ ?_
    | refine lcons rfl ?_
    | exact lGram _
    | exact lSeen _
    | exact lWord _
    | exact lSealed _
    | exact lRun _
    | exact lPerson _
    | exact lEvent _
    | exact lLeak _
    | exact lNum _
    | exact lOprn _
    | exact in64 (by omega) (by omega)
    | exact in32 (by omega) (by omega)
    | omega)
      refine ⟨l.length - (k + 1), by omega, _, ⟨k + 1, rfl, by omega, hasB_next ht hx hp, rfl⟩, ?_⟩
      (refine ⟨rfl, ?_, ?_, ?_⟩ <;> repeat' (first | exact LeT.junk | exact LeM.none | exact LiveM.none | refine LeT.nil0 (by simp only [go_sem, ↓reduceIte, reduceCtorEq, Nat.reduceLT, Nat.reduceEqDiff, Nat.reduceBEq, Nat.reduceAdd, Nat.reduceSub, Nat.reduceMul, Nat.reduceLeDiff, Int.reduceLE, Int.reduceLT, Int.reduceNeg, Int.reduceEq, Int.reduceBEq, Int.reduceBNe, Int.reduceToNat]; done) ?_ | refine LeT.same ?_ ?_ ?_ | refine LeM.same ?_ ?_ | refine LiveM.upd ?_ ?_ | trivial | (simp only [go_sem, ↓reduceIte, reduceCtorEq, Nat.reduceLT, Nat.reduceEqDiff, Nat.reduceBEq, Nat.reduceAdd, Nat.reduceSub, Nat.reduceMul, Nat.reduceLeDiff, Int.reduceLE, Int.reduceLT, Int.reduceNeg, Int.reduceEq, Int.reduceBEq, Int.reduceBNe, Int.reduceToNat]; done) | rfl))
    · repeat' (first
    | (refine hK _ _ ?_; clear hK hC; clear K C)
    | (refine hK _ _ rfl ?_; clear hK hC; clear K C)
    | (refine AW.seqR fun K C hK hC => ?_; simp only [go_sem, ↓reduceIte, reduceCtorEq, Nat.reduceLT, Nat.reduceEqDiff, Nat.reduceBEq, Nat.reduceAdd, Nat.reduceSub, Nat.reduceMul, Nat.reduceLeDiff, Int.reduceLE, Int.reduceLT, Int.reduceNeg, Int.reduceEq, Int.reduceBEq, Int.reduceBNe, Int.reduceToNat, hx, hlt, hs, hp, eWord])
    | (refine AW.seqD rfl fun K C hK hC => ?_; simp only [go_sem, ↓reduceIte, reduceCtorEq, Nat.reduceLT, Nat.reduceEqDiff, Nat.reduceBEq, Nat.reduceAdd, Nat.reduceSub, Nat.reduceMul, Nat.reduceLeDiff, Int.reduceLE, Int.reduceLT, Int.reduceNeg, Int.reduceEq, Int.reduceBEq, Int.reduceBNe, Int.reduceToNat, hx, hlt, hs, hp, eWord])
    | (refine AW.reg fun K C hK hC => ?_; simp only [go_sem, ↓reduceIte, reduceCtorEq, Nat.reduceLT, Nat.reduceEqDiff, Nat.reduceBEq, Nat.reduceAdd, Nat.reduceSub, Nat.reduceMul, Nat.reduceLeDiff, Int.reduceLE, Int.reduceLT, Int.reduceNeg, Int.reduceEq, Int.reduceBEq, Int.reduceBNe, Int.reduceToNat, hx, hlt, hs, hp, eWord])
    | refine AW.seqS ?_
    | (refine AW.ret ?_; simp only [go_sem, ↓reduceIte, reduceCtorEq, Nat.reduceLT, Nat.reduceEqDiff, Nat.reduceBEq, Nat.reduceAdd, Nat.reduceSub, Nat.reduceMul, Nat.reduceLeDiff, Int.reduceLE, Int.reduceLT, Int.reduceNeg, Int.reduceEq, Int.reduceBEq, Int.reduceBNe, Int.reduceToNat, hx, hlt, hs, hp, eWord])
    | (refine AW.cond rfl (fun h => ?_) (fun h => ?_) <;> (try simp only [decide_eq_true_eq, decide_eq_false_iff_not, bne_iff_ne, beq_iff_eq, bne_eq_false_iff_eq, beq_eq_false_iff_ne, ne_eq, ge_iff_le, gt_iff_lt, Bool.not_eq_true, Bool.not_eq_false, Bool.not_not, Bool.not_true, Bool.not_false, Int.not_le, Int.not_lt, not_true_eq_false, not_false_eq_true, reduceCtorEq, Bool.false_eq_true, Bool.not_eq_true', Bool.not_eq_false'] at h) <;> first | (exfalso; omega) | skip)
    | refine AW.skip ?_
    | refine AW.seq ?_
    | refine AW.block ?_
    | (refine AW.exit ?_; simp only [go_sem, ↓reduceIte, reduceCtorEq, Nat.reduceLT, Nat.reduceEqDiff, Nat.reduceBEq, Nat.reduceAdd, Nat.reduceSub, Nat.reduceMul, Nat.reduceLeDiff, Int.reduceLE, Int.reduceLT, Int.reduceNeg, Int.reduceEq, Int.reduceBEq, Int.reduceBNe, Int.reduceToNat, hx, hlt, hs, hp, eWord])
    | (refine ite_on (fun h => ?_) (fun h => ?_) <;> (try simp only [decide_eq_true_eq, decide_eq_false_iff_not, bne_iff_ne, beq_iff_eq, bne_eq_false_iff_eq, beq_eq_false_iff_ne, ne_eq, ge_iff_le, gt_iff_lt, Bool.not_eq_true, Bool.not_eq_false, Bool.not_not, Bool.not_true, Bool.not_false, Int.not_le, Int.not_lt, not_true_eq_false, not_false_eq_true, reduceCtorEq, Bool.false_eq_true, Bool.not_eq_true', Bool.not_eq_false'] at h) <;> first | (exfalso; omega) | skip)
    | rw [thenN]
    | rw [blockN]
    | rw [scopeN]
    | refine AW.scope ?_
    | refine AW.label ?_
    | refine And.intro ?_ ?_
    | refine lcons rfl ?_
    | exact lGram _
    | exact lSeen _
    | exact lWord _
    | exact lSealed _
    | exact lRun _
    | exact lPerson _
    | exact lEvent _
    | exact lLeak _
    | exact lNum _
    | exact lOprn _
    | exact in64 (by omega) (by omega)
    | exact in32 (by omega) (by omega)
    | omega)
      rw [hasB_at hx hp]
  · obtain rfl : k = l.length := by omega
    rw [List.take_length] at ht
    repeat' (first
    | (refine hK _ _ ?_; clear hK hC; clear K C)
    | (refine hK _ _ rfl ?_; clear hK hC; clear K C)
    | (refine AW.seqR fun K C hK hC => ?_; simp only [go_sem, ↓reduceIte, reduceCtorEq, Nat.reduceLT, Nat.reduceEqDiff, Nat.reduceBEq, Nat.reduceAdd, Nat.reduceSub, Nat.reduceMul, Nat.reduceLeDiff, Int.reduceLE, Int.reduceLT, Int.reduceNeg, Int.reduceEq, Int.reduceBEq, Int.reduceBNe, Int.reduceToNat])
    | (refine AW.seqD rfl fun K C hK hC => ?_; simp only [go_sem, ↓reduceIte, reduceCtorEq, Nat.reduceLT, Nat.reduceEqDiff, Nat.reduceBEq, Nat.reduceAdd, Nat.reduceSub, Nat.reduceMul, Nat.reduceLeDiff, Int.reduceLE, Int.reduceLT, Int.reduceNeg, Int.reduceEq, Int.reduceBEq, Int.reduceBNe, Int.reduceToNat])
    | (refine AW.reg fun K C hK hC => ?_; simp only [go_sem, ↓reduceIte, reduceCtorEq, Nat.reduceLT, Nat.reduceEqDiff, Nat.reduceBEq, Nat.reduceAdd, Nat.reduceSub, Nat.reduceMul, Nat.reduceLeDiff, Int.reduceLE, Int.reduceLT, Int.reduceNeg, Int.reduceEq, Int.reduceBEq, Int.reduceBNe, Int.reduceToNat])
    | refine AW.seqS ?_
    | (refine AW.ret ?_; simp only [go_sem, ↓reduceIte, reduceCtorEq, Nat.reduceLT, Nat.reduceEqDiff, Nat.reduceBEq, Nat.reduceAdd, Nat.reduceSub, Nat.reduceMul, Nat.reduceLeDiff, Int.reduceLE, Int.reduceLT, Int.reduceNeg, Int.reduceEq, Int.reduceBEq, Int.reduceBNe, Int.reduceToNat])
    | (refine AW.cond rfl (fun h => ?_) (fun h => ?_) <;> (try simp only [decide_eq_true_eq, decide_eq_false_iff_not, bne_iff_ne, beq_iff_eq, bne_eq_false_iff_eq, beq_eq_false_iff_ne, ne_eq, ge_iff_le, gt_iff_lt, Bool.not_eq_true, Bool.not_eq_false, Bool.not_not, Bool.not_true, Bool.not_false, Int.not_le, Int.not_lt, not_true_eq_false, not_false_eq_true, reduceCtorEq, Bool.false_eq_true, Bool.not_eq_true', Bool.not_eq_false'] at h) <;> first | (exfalso; omega) | skip)
    | refine AW.skip ?_
    | refine AW.seq ?_
    | refine AW.block ?_
    | (refine AW.exit ?_; simp only [go_sem, ↓reduceIte, reduceCtorEq, Nat.reduceLT, Nat.reduceEqDiff, Nat.reduceBEq, Nat.reduceAdd, Nat.reduceSub, Nat.reduceMul, Nat.reduceLeDiff, Int.reduceLE, Int.reduceLT, Int.reduceNeg, Int.reduceEq, Int.reduceBEq, Int.reduceBNe, Int.reduceToNat])
    | (refine ite_on (fun h => ?_) (fun h => ?_) <;> (try simp only [decide_eq_true_eq, decide_eq_false_iff_not, bne_iff_ne, beq_iff_eq, bne_eq_false_iff_eq, beq_eq_false_iff_ne, ne_eq, ge_iff_le, gt_iff_lt, Bool.not_eq_true, Bool.not_eq_false, Bool.not_not, Bool.not_true, Bool.not_false, Int.not_le, Int.not_lt, not_true_eq_false, not_false_eq_true, reduceCtorEq, Bool.false_eq_true, Bool.not_eq_true', Bool.not_eq_false'] at h) <;> first | (exfalso; omega) | skip)
    | rw [thenN]
    | rw [blockN]
    | rw [scopeN]
    | refine AW.scope ?_
    | refine AW.label ?_
    | refine And.intro ?_ ?_
    | refine lcons rfl ?_
    | exact lGram _
    | exact lSeen _
    | exact lWord _
    | exact lSealed _
    | exact lRun _
    | exact lPerson _
    | exact lEvent _
    | exact lLeak _
    | exact lNum _
    | exact lOprn _
    | exact in64 (by omega) (by omega)
    | exact in32 (by omega) (by omega)
    | omega)
    rw [ht]
/-- None is there twice. -/
def distOK (l : List Int) : Prop := ∀ (i : Nat) (x : Int), l[i]? = some x → hasB (l.take i) x = false
def distB (l : List Int) : Bool := (List.range l.length).all fun i => match l[i]? with
  | some x => !hasB (l.take i) x
  | none => true
theorem distB_iff {l : List Int} : distB l = true ↔ distOK l := by
  unfold distB distOK
  rw [List.all_eq_true]
  constructor
  · intro h i x hx
    have := h i (List.mem_range.2 (List.getElem?_eq_some_iff.1 hx).1)
    rw [hx] at this
    simpa using this
  · intro h i hi
    cases hx : l[i]? with
    | none => rfl
    | some x => simpa using h i x hx
theorem distB_no {l : List Int} (h : ¬ distOK l) : distB l = false := by
  cases hb : distB l with
  | false => rfl
  | true => exact absurd (distB_iff.1 hb) h
def usedR (l : List Int) (room : Int) : Bool := distB l && decide ((l.length : Int) ≤ room)
def mayU (l : List Int) (room w : Int) : Int := if hasB l w = true then 8 else if room ≤ (l.length : Int) then 10 else 0
theorem q08_may (j : Nat) (l : List Int) (room w : Int) : ACalls Try.prog 12 [.one (.rowc j (l.map eWord)), .one (i64 room), .one (u32 w)] (rI (mayU l room w)) := by
  refine ACalls.intro (fn := Try.f12) rfl rfl rfl (by simp [Try.f12]) ?_
  have hh := q01_has j l w
  unfold Try.f12
  simp only [rI, rB] at *
  cases hb : hasB l w
  · rw [hb] at hh
    by_cases hr : room ≤ (l.length : Int)
    · repeat' (first
    | (refine hC ?_ ?_ ?_ ?_ ?_
       rotate_left
       · rfl
       · simp only [go_sem, ↓reduceIte, reduceCtorEq, Nat.reduceLT, Nat.reduceEqDiff, Nat.reduceBEq, Nat.reduceAdd, Nat.reduceSub, Nat.reduceMul, Nat.reduceLeDiff, Int.reduceLE, Int.reduceLT, Int.reduceNeg, Int.reduceEq, Int.reduceBEq, Int.reduceBNe, Int.reduceToNat, hr]
       · simp only [go_sem, ↓reduceIte, reduceCtorEq, Nat.reduceLT, Nat.reduceEqDiff, Nat.reduceBEq, Nat.reduceAdd, Nat.reduceSub, Nat.reduceMul, Nat.reduceLeDiff, Int.reduceLE, Int.reduceLT, Int.reduceNeg, Int.reduceEq, Int.reduceBEq, Int.reduceBNe, Int.reduceToNat, hr]
         first | exact hh | (refine ACalls.args (k := ?_) ?_ ?_; rotate_left; exact hh; repeat' (first | exact trivial | exact Or.inl ⟨rfl, rfl⟩ | exact Or.inr rfl | apply And.intro))
       simp only [go_sem, ↓reduceIte, reduceCtorEq, Nat.reduceLT, Nat.reduceEqDiff, Nat.reduceBEq, Nat.reduceAdd, Nat.reduceSub, Nat.reduceMul, Nat.reduceLeDiff, Int.reduceLE, Int.reduceLT, Int.reduceNeg, Int.reduceEq, Int.reduceBEq, Int.reduceBNe, Int.reduceToNat, hr])
    | (refine hK _ _ ?_; clear hK hC; clear K C)
    | (refine hK _ _ rfl ?_; clear hK hC; clear K C)
    | (refine AW.seqR fun K C hK hC => ?_; simp only [go_sem, ↓reduceIte, reduceCtorEq, Nat.reduceLT, Nat.reduceEqDiff, Nat.reduceBEq, Nat.reduceAdd, Nat.reduceSub, Nat.reduceMul, Nat.reduceLeDiff, Int.reduceLE, Int.reduceLT, Int.reduceNeg, Int.reduceEq, Int.reduceBEq, Int.reduceBNe, Int.reduceToNat, hr])
    | (refine AW.seqD rfl fun K C hK hC => ?_; simp only [go_sem, ↓reduceIte, reduceCtorEq, Nat.reduceLT, Nat.reduceEqDiff, Nat.reduceBEq, Nat.reduceAdd, Nat.reduceSub, Nat.reduceMul, Nat.reduceLeDiff, Int.reduceLE, Int.reduceLT, Int.reduceNeg, Int.reduceEq, Int.reduceBEq, Int.reduceBNe, Int.reduceToNat, hr])
    | (refine AW.reg fun K C hK hC => ?_; simp only [go_sem, ↓reduceIte, reduceCtorEq, Nat.reduceLT, Nat.reduceEqDiff, Nat.reduceBEq, Nat.reduceAdd, Nat.reduceSub, Nat.reduceMul, Nat.reduceLeDiff, Int.reduceLE, Int.reduceLT, Int.reduceNeg, Int.reduceEq, Int.reduceBEq, Int.reduceBNe, Int.reduceToNat, hr])
    | refine AW.seqS ?_
    | (refine AW.ret ?_; simp only [go_sem, ↓reduceIte, reduceCtorEq, Nat.reduceLT, Nat.reduceEqDiff, Nat.reduceBEq, Nat.reduceAdd, Nat.reduceSub, Nat.reduceMul, Nat.reduceLeDiff, Int.reduceLE, Int.reduceLT, Int.reduceNeg, Int.reduceEq, Int.reduceBEq, Int.reduceBNe, Int.reduceToNat, hr])
    | (refine AW.cond rfl (fun h => ?_) (fun h => ?_) <;> (try simp only [decide_eq_true_eq, decide_eq_false_iff_not, bne_iff_ne, beq_iff_eq, bne_eq_false_iff_eq, beq_eq_false_iff_ne, ne_eq, ge_iff_le, gt_iff_lt, Bool.not_eq_true, Bool.not_eq_false, Bool.not_not, Bool.not_true, Bool.not_false, Int.not_le, Int.not_lt, not_true_eq_false, not_false_eq_true, reduceCtorEq, Bool.false_eq_true, Bool.not_eq_true', Bool.not_eq_false'] at h) <;> first | (exfalso; omega) | skip)
    | refine AW.skip ?_
    | refine AW.seq ?_
    | refine AW.block ?_
    | (refine AW.exit ?_; simp only [go_sem, ↓reduceIte, reduceCtorEq, Nat.reduceLT, Nat.reduceEqDiff, Nat.reduceBEq, Nat.reduceAdd, Nat.reduceSub, Nat.reduceMul, Nat.reduceLeDiff, Int.reduceLE, Int.reduceLT, Int.reduceNeg, Int.reduceEq, Int.reduceBEq, Int.reduceBNe, Int.reduceToNat, hr])
    | (refine ite_on (fun h => ?_) (fun h => ?_) <;> (try simp only [decide_eq_true_eq, decide_eq_false_iff_not, bne_iff_ne, beq_iff_eq, bne_eq_false_iff_eq, beq_eq_false_iff_ne, ne_eq, ge_iff_le, gt_iff_lt, Bool.not_eq_true, Bool.not_eq_false, Bool.not_not, Bool.not_true, Bool.not_false, Int.not_le, Int.not_lt, not_true_eq_false, not_false_eq_true, reduceCtorEq, Bool.false_eq_true, Bool.not_eq_true', Bool.not_eq_false'] at h) <;> first | (exfalso; omega) | skip)
    | rw [thenN]
    | rw [blockN]
    | rw [scopeN]
    | refine AW.scope ?_
    | refine AW.label ?_
    | refine And.intro ?_ ?_
    | refine lcons rfl ?_
    | exact lGram _
    | exact lSeen _
    | exact lWord _
    | exact lSealed _
    | exact lRun _
    | exact lPerson _
    | exact lEvent _
    | exact lLeak _
    | exact lNum _
    | exact lOprn _
    | exact in64 (by omega) (by omega)
    | exact in32 (by omega) (by omega)
    | omega)
      simp [mayU, hb, hr]
    · repeat' (first
    | (refine hC ?_ ?_ ?_ ?_ ?_
       rotate_left
       · rfl
       · simp only [go_sem, ↓reduceIte, reduceCtorEq, Nat.reduceLT, Nat.reduceEqDiff, Nat.reduceBEq, Nat.reduceAdd, Nat.reduceSub, Nat.reduceMul, Nat.reduceLeDiff, Int.reduceLE, Int.reduceLT, Int.reduceNeg, Int.reduceEq, Int.reduceBEq, Int.reduceBNe, Int.reduceToNat, hr]
       · simp only [go_sem, ↓reduceIte, reduceCtorEq, Nat.reduceLT, Nat.reduceEqDiff, Nat.reduceBEq, Nat.reduceAdd, Nat.reduceSub, Nat.reduceMul, Nat.reduceLeDiff, Int.reduceLE, Int.reduceLT, Int.reduceNeg, Int.reduceEq, Int.reduceBEq, Int.reduceBNe, Int.reduceToNat, hr]
         first | exact hh | (refine ACalls.args (k := ?_) ?_ ?_; rotate_left; exact hh; repeat' (first | exact trivial | exact Or.inl ⟨rfl, rfl⟩ | exact Or.inr rfl | apply And.intro))
       simp only [go_sem, ↓reduceIte, reduceCtorEq, Nat.reduceLT, Nat.reduceEqDiff, Nat.reduceBEq, Nat.reduceAdd, Nat.reduceSub, Nat.reduceMul, Nat.reduceLeDiff, Int.reduceLE, Int.reduceLT, Int.reduceNeg, Int.reduceEq, Int.reduceBEq, Int.reduceBNe, Int.reduceToNat, hr])
    | (refine hK _ _ ?_; clear hK hC; clear K C)
    | (refine hK _ _ rfl ?_; clear hK hC; clear K C)
    | (refine AW.seqR fun K C hK hC => ?_; simp only [go_sem, ↓reduceIte, reduceCtorEq, Nat.reduceLT, Nat.reduceEqDiff, Nat.reduceBEq, Nat.reduceAdd, Nat.reduceSub, Nat.reduceMul, Nat.reduceLeDiff, Int.reduceLE, Int.reduceLT, Int.reduceNeg, Int.reduceEq, Int.reduceBEq, Int.reduceBNe, Int.reduceToNat, hr])
    | (refine AW.seqD rfl fun K C hK hC => ?_; simp only [go_sem, ↓reduceIte, reduceCtorEq, Nat.reduceLT, Nat.reduceEqDiff, Nat.reduceBEq, Nat.reduceAdd, Nat.reduceSub, Nat.reduceMul, Nat.reduceLeDiff, Int.reduceLE, Int.reduceLT, Int.reduceNeg, Int.reduceEq, Int.reduceBEq, Int.reduceBNe, Int.reduceToNat, hr])
    | (refine AW.reg fun K C hK hC => ?_; simp only [go_sem, ↓reduceIte, reduceCtorEq, Nat.reduceLT, Nat.reduceEqDiff, Nat.reduceBEq, Nat.reduceAdd, Nat.reduceSub, Nat.reduceMul, Nat.reduceLeDiff, Int.reduceLE, Int.reduceLT, Int.reduceNeg, Int.reduceEq, Int.reduceBEq, Int.reduceBNe, Int.reduceToNat, hr])
    | refine AW.seqS ?_
    | (refine AW.ret ?_; simp only [go_sem, ↓reduceIte, reduceCtorEq, Nat.reduceLT, Nat.reduceEqDiff, Nat.reduceBEq, Nat.reduceAdd, Nat.reduceSub, Nat.reduceMul, Nat.reduceLeDiff, Int.reduceLE, Int.reduceLT, Int.reduceNeg, Int.reduceEq, Int.reduceBEq, Int.reduceBNe, Int.reduceToNat, hr])
    | (refine AW.cond rfl (fun h => ?_) (fun h => ?_) <;> (try simp only [decide_eq_true_eq, decide_eq_false_iff_not, bne_iff_ne, beq_iff_eq, bne_eq_false_iff_eq, beq_eq_false_iff_ne, ne_eq, ge_iff_le, gt_iff_lt, Bool.not_eq_true, Bool.not_eq_false, Bool.not_not, Bool.not_true, Bool.not_false, Int.not_le, Int.not_lt, not_true_eq_false, not_false_eq_true, reduceCtorEq, Bool.false_eq_true, Bool.not_eq_true', Bool.not_eq_false'] at h) <;> first | (exfalso; omega) | skip)
    | refine AW.skip ?_
    | refine AW.seq ?_
    | refine AW.block ?_
    | (refine AW.exit ?_; simp only [go_sem, ↓reduceIte, reduceCtorEq, Nat.reduceLT, Nat.reduceEqDiff, Nat.reduceBEq, Nat.reduceAdd, Nat.reduceSub, Nat.reduceMul, Nat.reduceLeDiff, Int.reduceLE, Int.reduceLT, Int.reduceNeg, Int.reduceEq, Int.reduceBEq, Int.reduceBNe, Int.reduceToNat, hr])
    | (refine ite_on (fun h => ?_) (fun h => ?_) <;> (try simp only [decide_eq_true_eq, decide_eq_false_iff_not, bne_iff_ne, beq_iff_eq, bne_eq_false_iff_eq, beq_eq_false_iff_ne, ne_eq, ge_iff_le, gt_iff_lt, Bool.not_eq_true, Bool.not_eq_false, Bool.not_not, Bool.not_true, Bool.not_false, Int.not_le, Int.not_lt, not_true_eq_false, not_false_eq_true, reduceCtorEq, Bool.false_eq_true, Bool.not_eq_true', Bool.not_eq_false'] at h) <;> first | (exfalso; omega) | skip)
    | rw [thenN]
    | rw [blockN]
    | rw [scopeN]
    | refine AW.scope ?_
    | refine AW.label ?_
    | refine And.intro ?_ ?_
    | refine lcons rfl ?_
    | exact lGram _
    | exact lSeen _
    | exact lWord _
    | exact lSealed _
    | exact lRun _
    | exact lPerson _
    | exact lEvent _
    | exact lLeak _
    | exact lNum _
    | exact lOprn _
    | exact in64 (by omega) (by omega)
    | exact in32 (by omega) (by omega)
    | omega)
      simp [mayU, hb, hr]
  · rw [hb] at hh
    repeat' (first
    | (refine hC ?_ ?_ ?_ ?_ ?_
       rotate_left
       · rfl
       · simp only [go_sem, ↓reduceIte, reduceCtorEq, Nat.reduceLT, Nat.reduceEqDiff, Nat.reduceBEq, Nat.reduceAdd, Nat.reduceSub, Nat.reduceMul, Nat.reduceLeDiff, Int.reduceLE, Int.reduceLT, Int.reduceNeg, Int.reduceEq, Int.reduceBEq, Int.reduceBNe, Int.reduceToNat]
       · simp only [go_sem, ↓reduceIte, reduceCtorEq, Nat.reduceLT, Nat.reduceEqDiff, Nat.reduceBEq, Nat.reduceAdd, Nat.reduceSub, Nat.reduceMul, Nat.reduceLeDiff, Int.reduceLE, Int.reduceLT, Int.reduceNeg, Int.reduceEq, Int.reduceBEq, Int.reduceBNe, Int.reduceToNat]
         first | exact hh | (refine ACalls.args (k := ?_) ?_ ?_; rotate_left; exact hh; repeat' (first | exact trivial | exact Or.inl ⟨rfl, rfl⟩ | exact Or.inr rfl | apply And.intro))
       simp only [go_sem, ↓reduceIte, reduceCtorEq, Nat.reduceLT, Nat.reduceEqDiff, Nat.reduceBEq, Nat.reduceAdd, Nat.reduceSub, Nat.reduceMul, Nat.reduceLeDiff, Int.reduceLE, Int.reduceLT, Int.reduceNeg, Int.reduceEq, Int.reduceBEq, Int.reduceBNe, Int.reduceToNat])
    | (refine hK _ _ ?_; clear hK hC; clear K C)
    | (refine hK _ _ rfl ?_; clear hK hC; clear K C)
    | (refine AW.seqR fun K C hK hC => ?_; simp only [go_sem, ↓reduceIte, reduceCtorEq, Nat.reduceLT, Nat.reduceEqDiff, Nat.reduceBEq, Nat.reduceAdd, Nat.reduceSub, Nat.reduceMul, Nat.reduceLeDiff, Int.reduceLE, Int.reduceLT, Int.reduceNeg, Int.reduceEq, Int.reduceBEq, Int.reduceBNe, Int.reduceToNat])
    | (refine AW.seqD rfl fun K C hK hC => ?_; simp only [go_sem, ↓reduceIte, reduceCtorEq, Nat.reduceLT, Nat.reduceEqDiff, Nat.reduceBEq, Nat.reduceAdd, Nat.reduceSub, Nat.reduceMul, Nat.reduceLeDiff, Int.reduceLE, Int.reduceLT, Int.reduceNeg, Int.reduceEq, Int.reduceBEq, Int.reduceBNe, Int.reduceToNat])
    | (refine AW.reg fun K C hK hC => ?_; simp only [go_sem, ↓reduceIte, reduceCtorEq, Nat.reduceLT, Nat.reduceEqDiff, Nat.reduceBEq, Nat.reduceAdd, Nat.reduceSub, Nat.reduceMul, Nat.reduceLeDiff, Int.reduceLE, Int.reduceLT, Int.reduceNeg, Int.reduceEq, Int.reduceBEq, Int.reduceBNe, Int.reduceToNat])
    | refine AW.seqS ?_
    | (refine AW.ret ?_; simp only [go_sem, ↓reduceIte, reduceCtorEq, Nat.reduceLT, Nat.reduceEqDiff, Nat.reduceBEq, Nat.reduceAdd, Nat.reduceSub, Nat.reduceMul, Nat.reduceLeDiff, Int.reduceLE, Int.reduceLT, Int.reduceNeg, Int.reduceEq, Int.reduceBEq, Int.reduceBNe, Int.reduceToNat])
    | (refine AW.cond rfl (fun h => ?_) (fun h => ?_) <;> (try simp only [decide_eq_true_eq, decide_eq_false_iff_not, bne_iff_ne, beq_iff_eq, bne_eq_false_iff_eq, beq_eq_false_iff_ne, ne_eq, ge_iff_le, gt_iff_lt, Bool.not_eq_true, Bool.not_eq_false, Bool.not_not, Bool.not_true, Bool.not_false, Int.not_le, Int.not_lt, not_true_eq_false, not_false_eq_true, reduceCtorEq, Bool.false_eq_true, Bool.not_eq_true', Bool.not_eq_false'] at h) <;> first | (exfalso; omega) | skip)
    | refine AW.skip ?_
    | refine AW.seq ?_
    | refine AW.block ?_
    | (refine AW.exit ?_; simp only [go_sem, ↓reduceIte, reduceCtorEq, Nat.reduceLT, Nat.reduceEqDiff, Nat.reduceBEq, Nat.reduceAdd, Nat.reduceSub, Nat.reduceMul, Nat.reduceLeDiff, Int.reduceLE, Int.reduceLT, Int.reduceNeg, Int.reduceEq, Int.reduceBEq, Int.reduceBNe, Int.reduceToNat])
    | (refine ite_on (fun h => ?_) (fun h => ?_) <;> (try simp only [decide_eq_true_eq, decide_eq_false_iff_not, bne_iff_ne, beq_iff_eq, bne_eq_false_iff_eq, beq_eq_false_iff_ne, ne_eq, ge_iff_le, gt_iff_lt, Bool.not_eq_true, Bool.not_eq_false, Bool.not_not, Bool.not_true, Bool.not_false, Int.not_le, Int.not_lt, not_true_eq_false, not_false_eq_true, reduceCtorEq, Bool.false_eq_true, Bool.not_eq_true', Bool.not_eq_false'] at h) <;> first | (exfalso; omega) | skip)
    | rw [thenN]
    | rw [blockN]
    | rw [scopeN]
    | refine AW.scope ?_
    | refine AW.label ?_
    | refine And.intro ?_ ?_
    | refine lcons rfl ?_
    | exact lGram _
    | exact lSeen _
    | exact lWord _
    | exact lSealed _
    | exact lRun _
    | exact lPerson _
    | exact lEvent _
    | exact lLeak _
    | exact lNum _
    | exact lOprn _
    | exact in64 (by omega) (by omega)
    | exact in32 (by omega) (by omega)
    | omega)
    simp [mayU, hb]
set_option maxHeartbeats 1000000 in
theorem q08_right (l : List Int) (room : Int) : ACalls Try.prog 9 [.one (eWords l), .one (i64 room)] (rB (usedR l room)) := by
  refine ACalls.introF (fn := Try.f9) rfl rfl rfl (by simp [Try.f9]) fun hf => ?_
  have hl := (fineWords (hf _ (by simp) : FineCA (.one (eWords l)))).1
  clear hf
  unfold Try.f9
  simp only [rB, eWords]
  repeat' (first
    | (refine hK _ _ ?_; clear hK hC; clear K C)
    | (refine hK _ _ rfl ?_; clear hK hC; clear K C)
    | (refine AW.seqR fun K C hK hC => ?_; simp only [go_sem, ↓reduceIte, reduceCtorEq, Nat.reduceLT, Nat.reduceEqDiff, Nat.reduceBEq, Nat.reduceAdd, Nat.reduceSub, Nat.reduceMul, Nat.reduceLeDiff, Int.reduceLE, Int.reduceLT, Int.reduceNeg, Int.reduceEq, Int.reduceBEq, Int.reduceBNe, Int.reduceToNat])
    | (refine AW.seqD rfl fun K C hK hC => ?_; simp only [go_sem, ↓reduceIte, reduceCtorEq, Nat.reduceLT, Nat.reduceEqDiff, Nat.reduceBEq, Nat.reduceAdd, Nat.reduceSub, Nat.reduceMul, Nat.reduceLeDiff, Int.reduceLE, Int.reduceLT, Int.reduceNeg, Int.reduceEq, Int.reduceBEq, Int.reduceBNe, Int.reduceToNat])
    | (refine AW.reg fun K C hK hC => ?_; simp only [go_sem, ↓reduceIte, reduceCtorEq, Nat.reduceLT, Nat.reduceEqDiff, Nat.reduceBEq, Nat.reduceAdd, Nat.reduceSub, Nat.reduceMul, Nat.reduceLeDiff, Int.reduceLE, Int.reduceLT, Int.reduceNeg, Int.reduceEq, Int.reduceBEq, Int.reduceBNe, Int.reduceToNat])
    | refine AW.seqS ?_
    | (refine AW.ret ?_; simp only [go_sem, ↓reduceIte, reduceCtorEq, Nat.reduceLT, Nat.reduceEqDiff, Nat.reduceBEq, Nat.reduceAdd, Nat.reduceSub, Nat.reduceMul, Nat.reduceLeDiff, Int.reduceLE, Int.reduceLT, Int.reduceNeg, Int.reduceEq, Int.reduceBEq, Int.reduceBNe, Int.reduceToNat])
    | (refine AW.cond rfl (fun h => ?_) (fun h => ?_) <;> (try simp only [decide_eq_true_eq, decide_eq_false_iff_not, bne_iff_ne, beq_iff_eq, bne_eq_false_iff_eq, beq_eq_false_iff_ne, ne_eq, ge_iff_le, gt_iff_lt, Bool.not_eq_true, Bool.not_eq_false, Bool.not_not, Bool.not_true, Bool.not_false, Int.not_le, Int.not_lt, not_true_eq_false, not_false_eq_true, reduceCtorEq, Bool.false_eq_true, Bool.not_eq_true', Bool.not_eq_false'] at h) <;> first | (exfalso; omega) | skip)
    | refine AW.skip ?_
    | refine AW.seq ?_
    | refine AW.block ?_
    | (refine AW.exit ?_; simp only [go_sem, ↓reduceIte, reduceCtorEq, Nat.reduceLT, Nat.reduceEqDiff, Nat.reduceBEq, Nat.reduceAdd, Nat.reduceSub, Nat.reduceMul, Nat.reduceLeDiff, Int.reduceLE, Int.reduceLT, Int.reduceNeg, Int.reduceEq, Int.reduceBEq, Int.reduceBNe, Int.reduceToNat])
    | (refine ite_on (fun h => ?_) (fun h => ?_) <;> (try simp only [decide_eq_true_eq, decide_eq_false_iff_not, bne_iff_ne, beq_iff_eq, bne_eq_false_iff_eq, beq_eq_false_iff_ne, ne_eq, ge_iff_le, gt_iff_lt, Bool.not_eq_true, Bool.not_eq_false, Bool.not_not, Bool.not_true, Bool.not_false, Int.not_le, Int.not_lt, not_true_eq_false, not_false_eq_true, reduceCtorEq, Bool.false_eq_true, Bool.not_eq_true', Bool.not_eq_false'] at h) <;> first | (exfalso; omega) | skip)
    | rw [thenN]
    | rw [blockN]
    | rw [scopeN]
    | refine AW.scope ?_
    | refine AW.label ?_
    | refine And.intro ?_ ?_
    | refine lcons rfl ?_
    | exact lGram _
    | exact lSeen _
    | exact lWord _
    | exact lSealed _
    | exact lRun _
    | exact lPerson _
    | exact lEvent _
    | exact lLeak _
    | exact lNum _
    | exact lOprn _
    | exact in64 (by omega) (by omega)
    | exact in32 (by omega) (by omega)
    | omega)
  refine AW.loopW (fun n σ => ∃ k : Nat, n = l.length - k ∧ k ≤ l.length ∧ (∀ (i : Nat) (x : Int), i < k → l[i]? = some x → hasB (l.take i) x = false) ∧ σ = ⟨31, (upd (upd (upd (fun _ => .junk) 0 (.one (.c (.row (l.map eWord))))) 1 (.one (.c (i64 room)))) 5 (.one (.c (i64 k)))), (fun _ => none)⟩) (n := l.length) _ ⟨0, rfl, Nat.zero_le _, fun i x h => by omega, rfl⟩ (by (refine ⟨rfl, ?_, ?_, ?_⟩ <;> repeat' (first | exact LeT.junk | exact LeM.none | exact LiveM.none | refine LeT.nil0 (by simp only [go_sem, ↓reduceIte, reduceCtorEq, Nat.reduceLT, Nat.reduceEqDiff, Nat.reduceBEq, Nat.reduceAdd, Nat.reduceSub, Nat.reduceMul, Nat.reduceLeDiff, Int.reduceLE, Int.reduceLT, Int.reduceNeg, Int.reduceEq, Int.reduceBEq, Int.reduceBNe, Int.reduceToNat]; done) ?_ | refine LeT.same ?_ ?_ ?_ | refine LeM.same ?_ ?_ | refine LiveM.upd ?_ ?_ | trivial | (simp only [go_sem, ↓reduceIte, reduceCtorEq, Nat.reduceLT, Nat.reduceEqDiff, Nat.reduceBEq, Nat.reduceAdd, Nat.reduceSub, Nat.reduceMul, Nat.reduceLeDiff, Int.reduceLE, Int.reduceLT, Int.reduceNeg, Int.reduceEq, Int.reduceBEq, Int.reduceBNe, Int.reduceToNat]; done) | rfl))) ?_
  rintro n σ ⟨k, rfl, hk, ht, rfl⟩
  by_cases hlt : k < l.length
  · obtain ⟨x, hx⟩ : ∃ x, l[k]? = some x := ⟨_, List.getElem?_eq_getElem hlt⟩
    have hs := wrapI (x := (k : Int) + 1) (by omega) (by omega)
    repeat' (first
    | (refine hK _ _ ?_; clear hK hC; clear K C)
    | (refine hK _ _ rfl ?_; clear hK hC; clear K C)
    | (refine AW.seqR fun K C hK hC => ?_; simp only [go_sem, ↓reduceIte, reduceCtorEq, Nat.reduceLT, Nat.reduceEqDiff, Nat.reduceBEq, Nat.reduceAdd, Nat.reduceSub, Nat.reduceMul, Nat.reduceLeDiff, Int.reduceLE, Int.reduceLT, Int.reduceNeg, Int.reduceEq, Int.reduceBEq, Int.reduceBNe, Int.reduceToNat, hx, hlt, eWord])
    | (refine AW.seqD rfl fun K C hK hC => ?_; simp only [go_sem, ↓reduceIte, reduceCtorEq, Nat.reduceLT, Nat.reduceEqDiff, Nat.reduceBEq, Nat.reduceAdd, Nat.reduceSub, Nat.reduceMul, Nat.reduceLeDiff, Int.reduceLE, Int.reduceLT, Int.reduceNeg, Int.reduceEq, Int.reduceBEq, Int.reduceBNe, Int.reduceToNat, hx, hlt, eWord])
    | (refine AW.reg fun K C hK hC => ?_; simp only [go_sem, ↓reduceIte, reduceCtorEq, Nat.reduceLT, Nat.reduceEqDiff, Nat.reduceBEq, Nat.reduceAdd, Nat.reduceSub, Nat.reduceMul, Nat.reduceLeDiff, Int.reduceLE, Int.reduceLT, Int.reduceNeg, Int.reduceEq, Int.reduceBEq, Int.reduceBNe, Int.reduceToNat, hx, hlt, eWord])
    | refine AW.seqS ?_
    | (refine AW.ret ?_; simp only [go_sem, ↓reduceIte, reduceCtorEq, Nat.reduceLT, Nat.reduceEqDiff, Nat.reduceBEq, Nat.reduceAdd, Nat.reduceSub, Nat.reduceMul, Nat.reduceLeDiff, Int.reduceLE, Int.reduceLT, Int.reduceNeg, Int.reduceEq, Int.reduceBEq, Int.reduceBNe, Int.reduceToNat, hx, hlt, eWord])
    | (refine AW.cond rfl (fun h => ?_) (fun h => ?_) <;> (try simp only [decide_eq_true_eq, decide_eq_false_iff_not, bne_iff_ne, beq_iff_eq, bne_eq_false_iff_eq, beq_eq_false_iff_ne, ne_eq, ge_iff_le, gt_iff_lt, Bool.not_eq_true, Bool.not_eq_false, Bool.not_not, Bool.not_true, Bool.not_false, Int.not_le, Int.not_lt, not_true_eq_false, not_false_eq_true, reduceCtorEq, Bool.false_eq_true, Bool.not_eq_true', Bool.not_eq_false'] at h) <;> first | (exfalso; omega) | skip)
    | refine AW.skip ?_
    | refine AW.seq ?_
    | refine AW.block ?_
    | (refine AW.exit ?_; simp only [go_sem, ↓reduceIte, reduceCtorEq, Nat.reduceLT, Nat.reduceEqDiff, Nat.reduceBEq, Nat.reduceAdd, Nat.reduceSub, Nat.reduceMul, Nat.reduceLeDiff, Int.reduceLE, Int.reduceLT, Int.reduceNeg, Int.reduceEq, Int.reduceBEq, Int.reduceBNe, Int.reduceToNat, hx, hlt, eWord])
    | (refine ite_on (fun h => ?_) (fun h => ?_) <;> (try simp only [decide_eq_true_eq, decide_eq_false_iff_not, bne_iff_ne, beq_iff_eq, bne_eq_false_iff_eq, beq_eq_false_iff_ne, ne_eq, ge_iff_le, gt_iff_lt, Bool.not_eq_true, Bool.not_eq_false, Bool.not_not, Bool.not_true, Bool.not_false, Int.not_le, Int.not_lt, not_true_eq_false, not_false_eq_true, reduceCtorEq, Bool.false_eq_true, Bool.not_eq_true', Bool.not_eq_false'] at h) <;> first | (exfalso; omega) | skip)
    | rw [thenN]
    | rw [blockN]
    | rw [scopeN]
    | refine AW.scope ?_
    | refine AW.label ?_
    | refine And.intro ?_ ?_
    | refine lcons rfl ?_
    | exact lGram _
    | exact lSeen _
    | exact lWord _
    | exact lSealed _
    | exact lRun _
    | exact lPerson _
    | exact lEvent _
    | exact lLeak _
    | exact lNum _
    | exact lOprn _
    | exact in64 (by omega) (by omega)
    | exact in32 (by omega) (by omega)
    | omega)
    refine AW.loopW (fun n σ => ∃ q : Nat, n = k - q ∧ q ≤ k ∧ hasB (l.take q) x = false ∧ σ = ⟨31, (upd (upd (upd (upd (fun _ => .junk) 0 (.one (.c (.row (l.map eWord))))) 1 (.one (.c (i64 room)))) 5 (.one (.c (i64 k)))) 6 (.one (.c (i64 q)))), (fun _ => none)⟩) (n := k) _ ⟨0, rfl, Nat.zero_le _, rfl, rfl⟩ (by (refine ⟨rfl, ?_, ?_, ?_⟩ <;> repeat' (first | exact LeT.junk | exact LeM.none | exact LiveM.none | refine LeT.nil0 (by simp only [go_sem, ↓reduceIte, reduceCtorEq, Nat.reduceLT, Nat.reduceEqDiff, Nat.reduceBEq, Nat.reduceAdd, Nat.reduceSub, Nat.reduceMul, Nat.reduceLeDiff, Int.reduceLE, Int.reduceLT, Int.reduceNeg, Int.reduceEq, Int.reduceBEq, Int.reduceBNe, Int.reduceToNat]; done) ?_ | refine LeT.same ?_ ?_ ?_ | refine LeM.same ?_ ?_ | refine LiveM.upd ?_ ?_ | trivial | (simp only [go_sem, ↓reduceIte, reduceCtorEq, Nat.reduceLT, Nat.reduceEqDiff, Nat.reduceBEq, Nat.reduceAdd, Nat.reduceSub, Nat.reduceMul, Nat.reduceLeDiff, Int.reduceLE, Int.reduceLT, Int.reduceNeg, Int.reduceEq, Int.reduceBEq, Int.reduceBNe, Int.reduceToNat]; done) | rfl))) ?_
    rintro n σ ⟨q, rfl, hq, hno, rfl⟩
    by_cases hqk : q < k
    · obtain ⟨y, hy⟩ : ∃ y, l[q]? = some y := ⟨_, List.getElem?_eq_getElem (by omega)⟩
      have hql : q < l.length := by omega
      have hqi : (q : Int) < (k : Int) := by omega
      have hs2 := wrapI (x := (q : Int) + 1) (by omega) (by omega)
      cases hp : (x == y)
      · repeat' (first
    | (refine hK _ _ ?_; clear hK hC; clear K C)
    | (refine hK _ _ rfl ?_; clear hK hC; clear K C)
    | (refine AW.seqR fun K C hK hC => ?_; simp only [go_sem, ↓reduceIte, reduceCtorEq, Nat.reduceLT, Nat.reduceEqDiff, Nat.reduceBEq, Nat.reduceAdd, Nat.reduceSub, Nat.reduceMul, Nat.reduceLeDiff, Int.reduceLE, Int.reduceLT, Int.reduceNeg, Int.reduceEq, Int.reduceBEq, Int.reduceBNe, Int.reduceToNat, hx, hy, hlt, hql, hqi, hs2, hp, eWord])
    | (refine AW.seqD rfl fun K C hK hC => ?_; simp only [go_sem, ↓reduceIte, reduceCtorEq, Nat.reduceLT, Nat.reduceEqDiff, Nat.reduceBEq, Nat.reduceAdd, Nat.reduceSub, Nat.reduceMul, Nat.reduceLeDiff, Int.reduceLE, Int.reduceLT, Int.reduceNeg, Int.reduceEq, Int.reduceBEq, Int.reduceBNe, Int.reduceToNat, hx, hy, hlt, hql, hqi, hs2, hp, eWord])
    | (refine AW.reg fun K C hK hC => ?_; simp only [go_sem, ↓reduceIte, reduceCtorEq, Nat.reduceLT, Nat.reduceEqDiff, Nat.reduceBEq, Nat.reduceAdd, Nat.reduceSub, Nat.reduceMul, Nat.reduceLeDiff, Int.reduceLE, Int.reduceLT, Int.reduceNeg, Int.reduceEq, Int.reduceBEq, Int.reduceBNe, Int.reduceToNat, hx, hy, hlt, hql, hqi, hs2, hp, eWord])
    | refine AW.seqS ?_
    | (refine AW.ret ?_; simp only [go_sem, ↓reduceIte, reduceCtorEq, Nat.reduceLT, Nat.reduceEqDiff, Nat.reduceBEq, Nat.reduceAdd, Nat.reduceSub, Nat.reduceMul, Nat.reduceLeDiff, Int.reduceLE, Int.reduceLT, Int.reduceNeg, Int.reduceEq, Int.reduceBEq, Int.reduceBNe, Int.reduceToNat, hx, hy, hlt, hql, hqi, hs2, hp, eWord])
    | (refine AW.cond rfl (fun h => ?_) (fun h => ?_) <;> (try simp only [decide_eq_true_eq, decide_eq_false_iff_not, bne_iff_ne, beq_iff_eq, bne_eq_false_iff_eq, beq_eq_false_iff_ne, ne_eq, ge_iff_le, gt_iff_lt, Bool.not_eq_true, Bool.not_eq_false, Bool.not_not, Bool.not_true, Bool.not_false, Int.not_le, Int.not_lt, not_true_eq_false, not_false_eq_true, reduceCtorEq, Bool.false_eq_true, Bool.not_eq_true', Bool.not_eq_false'] at h) <;> first | (exfalso; omega) | skip)
    | refine AW.skip ?_
    | refine AW.seq ?_
    | refine AW.block ?_
    | (refine AW.exit ?_; simp only [go_sem, ↓reduceIte, reduceCtorEq, Nat.reduceLT, Nat.reduceEqDiff, Nat.reduceBEq, Nat.reduceAdd, Nat.reduceSub, Nat.reduceMul, Nat.reduceLeDiff, Int.reduceLE, Int.reduceLT, Int.reduceNeg, Int.reduceEq, Int.reduceBEq, Int.reduceBNe, Int.reduceToNat, hx, hy, hlt, hql, hqi, hs2, hp, eWord])
    | (refine ite_on (fun h => ?_) (fun h => ?_) <;> (try simp only [decide_eq_true_eq, decide_eq_false_iff_not, bne_iff_ne, beq_iff_eq, bne_eq_false_iff_eq, beq_eq_false_iff_ne, ne_eq, ge_iff_le, gt_iff_lt, Bool.not_eq_true, Bool.not_eq_false, Bool.not_not, Bool.not_true, Bool.not_false, Int.not_le, Int.not_lt, not_true_eq_false, not_false_eq_true, reduceCtorEq, Bool.false_eq_true, Bool.not_eq_true', Bool.not_eq_false'] at h) <;> first | (exfalso; omega) | skip)
    | rw [thenN]
    | rw [blockN]
    | rw [scopeN]
    | refine AW.scope ?_
    | refine AW.label ?_
    | refine And.intro ?_ ?_
    | refine lcons rfl ?_
    | exact lGram _
    | exact lSeen _
    | exact lWord _
    | exact lSealed _
    | exact lRun _
    | exact lPerson _
    | exact lEvent _
    | exact lLeak _
    | exact lNum _
    | exact lOprn _
    | exact in64 (by omega) (by omega)
    | exact in32 (by omega) (by omega)
    | omega)
        refine ⟨k - (q + 1), by omega, _, ⟨q + 1, rfl, by omega, hasB_next hno hy (by rw [Bool.beq_comm]; exact hp), rfl⟩, ?_⟩
        (refine ⟨rfl, ?_, ?_, ?_⟩ <;> repeat' (first | exact LeT.junk | exact LeM.none | exact LiveM.none | refine LeT.nil0 (by simp only [go_sem, ↓reduceIte, reduceCtorEq, Nat.reduceLT, Nat.reduceEqDiff, Nat.reduceBEq, Nat.reduceAdd, Nat.reduceSub, Nat.reduceMul, Nat.reduceLeDiff, Int.reduceLE, Int.reduceLT, Int.reduceNeg, Int.reduceEq, Int.reduceBEq, Int.reduceBNe, Int.reduceToNat]; done) ?_ | refine LeT.same ?_ ?_ ?_ | refine LeM.same ?_ ?_ | refine LiveM.upd ?_ ?_ | trivial | (simp only [go_sem, ↓reduceIte, reduceCtorEq, Nat.reduceLT, Nat.reduceEqDiff, Nat.reduceBEq, Nat.reduceAdd, Nat.reduceSub, Nat.reduceMul, Nat.reduceLeDiff, Int.reduceLE, Int.reduceLT, Int.reduceNeg, Int.reduceEq, Int.reduceBEq, Int.reduceBNe, Int.reduceToNat]; done) | rfl))
      · have no : usedR l room = false := by
          unfold usedR
          rw [distB_no fun h => ?_, Bool.false_and]
          have := h k x hx
          rw [hasB_no] at this
          rw [beq_iff_eq] at hp
          exact this (List.mem_iff_getElem?.2 ⟨q, by rw [List.getElem?_take, if_pos hqk, hy, hp]⟩)
        rw [no]
        repeat' (first
    | (refine hK _ _ ?_; clear hK hC; clear K C)
    | (refine hK _ _ rfl ?_; clear hK hC; clear K C)
    | (refine AW.seqR fun K C hK hC => ?_; simp only [go_sem, ↓reduceIte, reduceCtorEq, Nat.reduceLT, Nat.reduceEqDiff, Nat.reduceBEq, Nat.reduceAdd, Nat.reduceSub, Nat.reduceMul, Nat.reduceLeDiff, Int.reduceLE, Int.reduceLT, Int.reduceNeg, Int.reduceEq, Int.reduceBEq, Int.reduceBNe, Int.reduceToNat, hx, hy, hlt, hql, hqi, hs2, hp, eWord])
    | (refine AW.seqD rfl fun K C hK hC => ?_; simp only [go_sem, ↓reduceIte, reduceCtorEq, Nat.reduceLT, Nat.reduceEqDiff, Nat.reduceBEq, Nat.reduceAdd, Nat.reduceSub, Nat.reduceMul, Nat.reduceLeDiff, Int.reduceLE, Int.reduceLT, Int.reduceNeg, Int.reduceEq, Int.reduceBEq, Int.reduceBNe, Int.reduceToNat, hx, hy, hlt, hql, hqi, hs2, hp, eWord])
    | (refine AW.reg fun K C hK hC => ?_; simp only [go_sem, ↓reduceIte, reduceCtorEq, Nat.reduceLT, Nat.reduceEqDiff, Nat.reduceBEq, Nat.reduceAdd, Nat.reduceSub, Nat.reduceMul, Nat.reduceLeDiff, Int.reduceLE, Int.reduceLT, Int.reduceNeg, Int.reduceEq, Int.reduceBEq, Int.reduceBNe, Int.reduceToNat, hx, hy, hlt, hql, hqi, hs2, hp, eWord])
    | refine AW.seqS ?_
    | (refine AW.ret ?_; simp only [go_sem, ↓reduceIte, reduceCtorEq, Nat.reduceLT, Nat.reduceEqDiff, Nat.reduceBEq, Nat.reduceAdd, Nat.reduceSub, Nat.reduceMul, Nat.reduceLeDiff, Int.reduceLE, Int.reduceLT, Int.reduceNeg, Int.reduceEq, Int.reduceBEq, Int.reduceBNe, Int.reduceToNat, hx, hy, hlt, hql, hqi, hs2, hp, eWord])
    | (refine AW.cond rfl (fun h => ?_) (fun h => ?_) <;> (try simp only [decide_eq_true_eq, decide_eq_false_iff_not, bne_iff_ne, beq_iff_eq, bne_eq_false_iff_eq, beq_eq_false_iff_ne, ne_eq, ge_iff_le, gt_iff_lt, Bool.not_eq_true, Bool.not_eq_false, Bool.not_not, Bool.not_true, Bool.not_false, Int.not_le, Int.not_lt, not_true_eq_false, not_false_eq_true, reduceCtorEq, Bool.false_eq_true, Bool.not_eq_true', Bool.not_eq_false'] at h) <;> first | (exfalso; omega) | skip)
    | refine AW.skip ?_
    | refine AW.seq ?_
    | refine AW.block ?_
    | (refine AW.exit ?_; simp only [go_sem, ↓reduceIte, reduceCtorEq, Nat.reduceLT, Nat.reduceEqDiff, Nat.reduceBEq, Nat.reduceAdd, Nat.reduceSub, Nat.reduceMul, Nat.reduceLeDiff, Int.reduceLE, Int.reduceLT, Int.reduceNeg, Int.reduceEq, Int.reduceBEq, Int.reduceBNe, Int.reduceToNat, hx, hy, hlt, hql, hqi, hs2, hp, eWord])
    | (refine ite_on (fun h => ?_) (fun h => ?_) <;> (try simp only [decide_eq_true_eq, decide_eq_false_iff_not, bne_iff_ne, beq_iff_eq, bne_eq_false_iff_eq, beq_eq_false_iff_ne, ne_eq, ge_iff_le, gt_iff_lt, Bool.not_eq_true, Bool.not_eq_false, Bool.not_not, Bool.not_true, Bool.not_false, Int.not_le, Int.not_lt, not_true_eq_false, not_false_eq_true, reduceCtorEq, Bool.false_eq_true, Bool.not_eq_true', Bool.not_eq_false'] at h) <;> first | (exfalso; omega) | skip)
    | rw [thenN]
    | rw [blockN]
    | rw [scopeN]
    | refine AW.scope ?_
    | refine AW.label ?_
    | refine And.intro ?_ ?_
    | refine lcons rfl ?_
    | exact lGram _
    | exact lSeen _
    | exact lWord _
    | exact lSealed _
    | exact lRun _
    | exact lPerson _
    | exact lEvent _
    | exact lLeak _
    | exact lNum _
    | exact lOprn _
    | exact in64 (by omega) (by omega)
    | exact in32 (by omega) (by omega)
    | omega)
    · obtain rfl : q = k := by omega
      repeat' (first
    | (refine hK _ _ ?_; clear hK hC; clear K C)
    | (refine hK _ _ rfl ?_; clear hK hC; clear K C)
    | (refine AW.seqR fun K C hK hC => ?_; simp only [go_sem, ↓reduceIte, reduceCtorEq, Nat.reduceLT, Nat.reduceEqDiff, Nat.reduceBEq, Nat.reduceAdd, Nat.reduceSub, Nat.reduceMul, Nat.reduceLeDiff, Int.reduceLE, Int.reduceLT, Int.reduceNeg, Int.reduceEq, Int.reduceBEq, Int.reduceBNe, Int.reduceToNat, hs])
    | (refine AW.seqD rfl fun K C hK hC => ?_; simp only [go_sem, ↓reduceIte, reduceCtorEq, Nat.reduceLT, Nat.reduceEqDiff, Nat.reduceBEq, Nat.reduceAdd, Nat.reduceSub, Nat.reduceMul, Nat.reduceLeDiff, Int.reduceLE, Int.reduceLT, Int.reduceNeg, Int.reduceEq, Int.reduceBEq, Int.reduceBNe, Int.reduceToNat, hs])
    | (refine AW.reg fun K C hK hC => ?_; simp only [go_sem, ↓reduceIte, reduceCtorEq, Nat.reduceLT, Nat.reduceEqDiff, Nat.reduceBEq, Nat.reduceAdd, Nat.reduceSub, Nat.reduceMul, Nat.reduceLeDiff, Int.reduceLE, Int.reduceLT, Int.reduceNeg, Int.reduceEq, Int.reduceBEq, Int.reduceBNe, Int.reduceToNat, hs])
    | refine AW.seqS ?_
    | (refine AW.ret ?_; simp only [go_sem, ↓reduceIte, reduceCtorEq, Nat.reduceLT, Nat.reduceEqDiff, Nat.reduceBEq, Nat.reduceAdd, Nat.reduceSub, Nat.reduceMul, Nat.reduceLeDiff, Int.reduceLE, Int.reduceLT, Int.reduceNeg, Int.reduceEq, Int.reduceBEq, Int.reduceBNe, Int.reduceToNat, hs])
    | (refine AW.cond rfl (fun h => ?_) (fun h => ?_) <;> (try simp only [decide_eq_true_eq, decide_eq_false_iff_not, bne_iff_ne, beq_iff_eq, bne_eq_false_iff_eq, beq_eq_false_iff_ne, ne_eq, ge_iff_le, gt_iff_lt, Bool.not_eq_true, Bool.not_eq_false, Bool.not_not, Bool.not_true, Bool.not_false, Int.not_le, Int.not_lt, not_true_eq_false, not_false_eq_true, reduceCtorEq, Bool.false_eq_true, Bool.not_eq_true', Bool.not_eq_false'] at h) <;> first | (exfalso; omega) | skip)
    | refine AW.skip ?_
    | refine AW.seq ?_
    | refine AW.block ?_
    | (refine AW.exit ?_; simp only [go_sem, ↓reduceIte, reduceCtorEq, Nat.reduceLT, Nat.reduceEqDiff, Nat.reduceBEq, Nat.reduceAdd, Nat.reduceSub, Nat.reduceMul, Nat.reduceLeDiff, Int.reduceLE, Int.reduceLT, Int.reduceNeg, Int.reduceEq, Int.reduceBEq, Int.reduceBNe, Int.reduceToNat, hs])
    | (refine ite_on (fun h => ?_) (fun h => ?_) <;> (try simp only [decide_eq_true_eq, decide_eq_false_iff_not, bne_iff_ne, beq_iff_eq, bne_eq_false_iff_eq, beq_eq_false_iff_ne, ne_eq, ge_iff_le, gt_iff_lt, Bool.not_eq_true, Bool.not_eq_false, Bool.not_not, Bool.not_true, Bool.not_false, Int.not_le, Int.not_lt, not_true_eq_false, not_false_eq_true, reduceCtorEq, Bool.false_eq_true, Bool.not_eq_true', Bool.not_eq_false'] at h) <;> first | (exfalso; omega) | skip)
    | rw [thenN]
    | rw [blockN]
    | rw [scopeN]
    | refine AW.scope ?_
    | refine AW.label ?_
    | refine And.intro ?_ ?_
    | refine lcons rfl ?_
    | exact lGram _
    | exact lSeen _
    | exact lWord _
    | exact lSealed _
    | exact lRun _
    | exact lPerson _
    | exact lEvent _
    | exact lLeak _
    | exact lNum _
    | exact lOprn _
    | exact in64 (by omega) (by omega)
    | exact in32 (by omega) (by omega)
    | omega)
      refine ⟨l.length - (q + 1), by omega, _, ⟨q + 1, rfl, by omega, fun i y hi hy => ?_, rfl⟩, ?_⟩
      · rcases Nat.lt_succ_iff_lt_or_eq.1 hi with h | rfl
        · exact ht i y h hy
        · rw [hx] at hy; cases hy; exact hno
      · (refine ⟨rfl, ?_, ?_, ?_⟩ <;> repeat' (first | exact LeT.junk | exact LeM.none | exact LiveM.none | refine LeT.nil0 (by simp only [go_sem, ↓reduceIte, reduceCtorEq, Nat.reduceLT, Nat.reduceEqDiff, Nat.reduceBEq, Nat.reduceAdd, Nat.reduceSub, Nat.reduceMul, Nat.reduceLeDiff, Int.reduceLE, Int.reduceLT, Int.reduceNeg, Int.reduceEq, Int.reduceBEq, Int.reduceBNe, Int.reduceToNat]; done) ?_ | refine LeT.same ?_ ?_ ?_ | refine LeM.same ?_ ?_ | refine LiveM.upd ?_ ?_ | trivial | (simp only [go_sem, ↓reduceIte, reduceCtorEq, Nat.reduceLT, Nat.reduceEqDiff, Nat.reduceBEq, Nat.reduceAdd, Nat.reduceSub, Nat.reduceMul, Nat.reduceLeDiff, Int.reduceLE, Int.reduceLT, Int.reduceNeg, Int.reduceEq, Int.reduceBEq, Int.reduceBNe, Int.reduceToNat]; done) | rfl))
  · obtain rfl : k = l.length := by omega
    have yes : distB l = true := distB_iff.2 fun i x hx => ht i x (List.getElem?_eq_some_iff.1 hx).1 hx
    have : usedR l room = decide ((l.length : Int) ≤ room) := by rw [usedR, yes, Bool.true_and]
    rw [this]
    repeat' (first
    | (refine hK _ _ ?_; clear hK hC; clear K C)
    | (refine hK _ _ rfl ?_; clear hK hC; clear K C)
    | (refine AW.seqR fun K C hK hC => ?_; simp only [go_sem, ↓reduceIte, reduceCtorEq, Nat.reduceLT, Nat.reduceEqDiff, Nat.reduceBEq, Nat.reduceAdd, Nat.reduceSub, Nat.reduceMul, Nat.reduceLeDiff, Int.reduceLE, Int.reduceLT, Int.reduceNeg, Int.reduceEq, Int.reduceBEq, Int.reduceBNe, Int.reduceToNat])
    | (refine AW.seqD rfl fun K C hK hC => ?_; simp only [go_sem, ↓reduceIte, reduceCtorEq, Nat.reduceLT, Nat.reduceEqDiff, Nat.reduceBEq, Nat.reduceAdd, Nat.reduceSub, Nat.reduceMul, Nat.reduceLeDiff, Int.reduceLE, Int.reduceLT, Int.reduceNeg, Int.reduceEq, Int.reduceBEq, Int.reduceBNe, Int.reduceToNat])
    | (refine AW.reg fun K C hK hC => ?_; simp only [go_sem, ↓reduceIte, reduceCtorEq, Nat.reduceLT, Nat.reduceEqDiff, Nat.reduceBEq, Nat.reduceAdd, Nat.reduceSub, Nat.reduceMul, Nat.reduceLeDiff, Int.reduceLE, Int.reduceLT, Int.reduceNeg, Int.reduceEq, Int.reduceBEq, Int.reduceBNe, Int.reduceToNat])
    | refine AW.seqS ?_
    | (refine AW.ret ?_; simp only [go_sem, ↓reduceIte, reduceCtorEq, Nat.reduceLT, Nat.reduceEqDiff, Nat.reduceBEq, Nat.reduceAdd, Nat.reduceSub, Nat.reduceMul, Nat.reduceLeDiff, Int.reduceLE, Int.reduceLT, Int.reduceNeg, Int.reduceEq, Int.reduceBEq, Int.reduceBNe, Int.reduceToNat])
    | (refine AW.cond rfl (fun h => ?_) (fun h => ?_) <;> (try simp only [decide_eq_true_eq, decide_eq_false_iff_not, bne_iff_ne, beq_iff_eq, bne_eq_false_iff_eq, beq_eq_false_iff_ne, ne_eq, ge_iff_le, gt_iff_lt, Bool.not_eq_true, Bool.not_eq_false, Bool.not_not, Bool.not_true, Bool.not_false, Int.not_le, Int.not_lt, not_true_eq_false, not_false_eq_true, reduceCtorEq, Bool.false_eq_true, Bool.not_eq_true', Bool.not_eq_false'] at h) <;> first | (exfalso; omega) | skip)
    | refine AW.skip ?_
    | refine AW.seq ?_
    | refine AW.block ?_
    | (refine AW.exit ?_; simp only [go_sem, ↓reduceIte, reduceCtorEq, Nat.reduceLT, Nat.reduceEqDiff, Nat.reduceBEq, Nat.reduceAdd, Nat.reduceSub, Nat.reduceMul, Nat.reduceLeDiff, Int.reduceLE, Int.reduceLT, Int.reduceNeg, Int.reduceEq, Int.reduceBEq, Int.reduceBNe, Int.reduceToNat])
    | (refine ite_on (fun h => ?_) (fun h => ?_) <;> (try simp only [decide_eq_true_eq, decide_eq_false_iff_not, bne_iff_ne, beq_iff_eq, bne_eq_false_iff_eq, beq_eq_false_iff_ne, ne_eq, ge_iff_le, gt_iff_lt, Bool.not_eq_true, Bool.not_eq_false, Bool.not_not, Bool.not_true, Bool.not_false, Int.not_le, Int.not_lt, not_true_eq_false, not_false_eq_true, reduceCtorEq, Bool.false_eq_true, Bool.not_eq_true', Bool.not_eq_false'] at h) <;> first | (exfalso; omega) | skip)
    | rw [thenN]
    | rw [blockN]
    | rw [scopeN]
    | refine AW.scope ?_
    | refine AW.label ?_
    | refine And.intro ?_ ?_
    | refine lcons rfl ?_
    | exact lGram _
    | exact lSeen _
    | exact lWord _
    | exact lSealed _
    | exact lRun _
    | exact lPerson _
    | exact lEvent _
    | exact lLeak _
    | exact lNum _
    | exact lOprn _
    | exact in64 (by omega) (by omega)
    | exact in32 (by omega) (by omega)
    | omega)
end Go.Proofs.Ytgggdiincblglaa.Abs
