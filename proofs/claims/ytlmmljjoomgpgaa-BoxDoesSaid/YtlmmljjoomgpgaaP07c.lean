/- The landed box, over values without addresses: Seal, Open. -/
import Derived.Test.YtlmmljjoomgpgaaP07
set_option linter.unusedSimpArgs false
set_option linter.unusedVariables false
namespace Go.Proofs.Ytlmmljjoomgpgaa.Abs
open Go.RowKit
theorem lib_clone_words (j : Nat) (l : List Int) (hl : l.length ≤ 1000000) : ACalls Try.prog 24 [.one (.rowc j (l.map eWord))] (.own 25 1 (l.map eWord)) := by
  refine ACalls.intro (fn := Try.f24) rfl rfl rfl (by simp [Try.f24]) ?_
  unfold Try.f24
  simp only []
  cases l with
  | nil =>
    refine AW.empty 0 rfl ?_ ?_
    · repeat' (first
    | (refine hK _ _ ?_; clear hK hC; clear K C)
    | (refine hK _ _ rfl ?_; clear hK hC; clear K C)
    | (refine AW.seqR fun K C hK hC => ?_; simp only [go_sem, ↓reduceIte, reduceCtorEq, Nat.reduceLT, Nat.reduceEqDiff, Nat.reduceBEq, Nat.reduceAdd, Nat.reduceSub, Nat.reduceMul, Nat.reduceLeDiff, Int.reduceLE, Int.reduceLT, Int.reduceNeg, Int.reduceEq, Int.reduceBEq, Int.reduceBNe])
    | (refine AW.seqD rfl fun K C hK hC => ?_; simp only [go_sem, ↓reduceIte, reduceCtorEq, Nat.reduceLT, Nat.reduceEqDiff, Nat.reduceBEq, Nat.reduceAdd, Nat.reduceSub, Nat.reduceMul, Nat.reduceLeDiff, Int.reduceLE, Int.reduceLT, Int.reduceNeg, Int.reduceEq, Int.reduceBEq, Int.reduceBNe])
    | (refine AW.reg fun K C hK hC => ?_; simp only [go_sem, ↓reduceIte, reduceCtorEq, Nat.reduceLT, Nat.reduceEqDiff, Nat.reduceBEq, Nat.reduceAdd, Nat.reduceSub, Nat.reduceMul, Nat.reduceLeDiff, Int.reduceLE, Int.reduceLT, Int.reduceNeg, Int.reduceEq, Int.reduceBEq, Int.reduceBNe])
    | refine AW.seqS ?_
    | (refine AW.ret ?_; simp only [go_sem, ↓reduceIte, reduceCtorEq, Nat.reduceLT, Nat.reduceEqDiff, Nat.reduceBEq, Nat.reduceAdd, Nat.reduceSub, Nat.reduceMul, Nat.reduceLeDiff, Int.reduceLE, Int.reduceLT, Int.reduceNeg, Int.reduceEq, Int.reduceBEq, Int.reduceBNe])
    | (refine AW.cond rfl (fun h => ?_) (fun h => ?_) <;> (try simp only [decide_eq_true_eq, decide_eq_false_iff_not, bne_iff_ne, beq_iff_eq, bne_eq_false_iff_eq, beq_eq_false_iff_ne, ne_eq, ge_iff_le, gt_iff_lt, Bool.not_eq_true, Bool.not_eq_false, Bool.not_not, Bool.not_true, Bool.not_false, Int.not_le, Int.not_lt, not_true_eq_false, not_false_eq_true, reduceCtorEq, Bool.false_eq_true, Bool.not_eq_true', Bool.not_eq_false'] at h) <;> first | (exfalso; omega) | skip)
    | refine AW.skip ?_
    | refine AW.seq ?_
    | refine AW.block ?_
    | (refine AW.exit ?_; simp only [go_sem, ↓reduceIte, reduceCtorEq, Nat.reduceLT, Nat.reduceEqDiff, Nat.reduceBEq, Nat.reduceAdd, Nat.reduceSub, Nat.reduceMul, Nat.reduceLeDiff, Int.reduceLE, Int.reduceLT, Int.reduceNeg, Int.reduceEq, Int.reduceBEq, Int.reduceBNe])
    | (refine ite_on (fun h => ?_) (fun h => ?_) <;> (try simp only [decide_eq_true_eq, decide_eq_false_iff_not, bne_iff_ne, beq_iff_eq, bne_eq_false_iff_eq, beq_eq_false_iff_ne, ne_eq, ge_iff_le, gt_iff_lt, Bool.not_eq_true, Bool.not_eq_false, Bool.not_not, Bool.not_true, Bool.not_false, Int.not_le, Int.not_lt, not_true_eq_false, not_false_eq_true, reduceCtorEq, Bool.false_eq_true, Bool.not_eq_true', Bool.not_eq_false'] at h) <;> first | (exfalso; omega) | skip)
    | rw [thenN]
    | rw [blockN]
    | refine And.intro ?_ ?_
    | refine lcons rfl ?_
    | exact lGram _
    | exact lSeen _
    | exact lWord _
    | exact lSealed _
    | exact lRun _
    | exact lPerson _
    | exact lEvent _
    | exact lLeak _
    | exact lNum _
    | exact lOprn _
    | exact in64 (by omega) (by omega)
    | omega)
    · repeat' (first
    | (refine hK _ _ ?_; clear hK hC; clear K C)
    | (refine hK _ _ rfl ?_; clear hK hC; clear K C)
    | (refine AW.seqR fun K C hK hC => ?_; simp only [go_sem, ↓reduceIte, reduceCtorEq, Nat.reduceLT, Nat.reduceEqDiff, Nat.reduceBEq, Nat.reduceAdd, Nat.reduceSub, Nat.reduceMul, Nat.reduceLeDiff, Int.reduceLE, Int.reduceLT, Int.reduceNeg, Int.reduceEq, Int.reduceBEq, Int.reduceBNe])
    | (refine AW.seqD rfl fun K C hK hC => ?_; simp only [go_sem, ↓reduceIte, reduceCtorEq, Nat.reduceLT, Nat.reduceEqDiff, Nat.reduceBEq, Nat.reduceAdd, Nat.reduceSub, Nat.reduceMul, Nat.reduceLeDiff, Int.reduceLE, Int.reduceLT, Int.reduceNeg, Int.reduceEq, Int.reduceBEq, Int.reduceBNe])
    | (refine AW.reg fun K C hK hC => ?_; simp only [go_sem, ↓reduceIte, reduceCtorEq, Nat.reduceLT, Nat.reduceEqDiff, Nat.reduceBEq, Nat.reduceAdd, Nat.reduceSub, Nat.reduceMul, Nat.reduceLeDiff, Int.reduceLE, Int.reduceLT, Int.reduceNeg, Int.reduceEq, Int.reduceBEq, Int.reduceBNe])
    | refine AW.seqS ?_
    | (refine AW.ret ?_; simp only [go_sem, ↓reduceIte, reduceCtorEq, Nat.reduceLT, Nat.reduceEqDiff, Nat.reduceBEq, Nat.reduceAdd, Nat.reduceSub, Nat.reduceMul, Nat.reduceLeDiff, Int.reduceLE, Int.reduceLT, Int.reduceNeg, Int.reduceEq, Int.reduceBEq, Int.reduceBNe])
    | (refine AW.cond rfl (fun h => ?_) (fun h => ?_) <;> (try simp only [decide_eq_true_eq, decide_eq_false_iff_not, bne_iff_ne, beq_iff_eq, bne_eq_false_iff_eq, beq_eq_false_iff_ne, ne_eq, ge_iff_le, gt_iff_lt, Bool.not_eq_true, Bool.not_eq_false, Bool.not_not, Bool.not_true, Bool.not_false, Int.not_le, Int.not_lt, not_true_eq_false, not_false_eq_true, reduceCtorEq, Bool.false_eq_true, Bool.not_eq_true', Bool.not_eq_false'] at h) <;> first | (exfalso; omega) | skip)
    | refine AW.skip ?_
    | refine AW.seq ?_
    | refine AW.block ?_
    | (refine AW.exit ?_; simp only [go_sem, ↓reduceIte, reduceCtorEq, Nat.reduceLT, Nat.reduceEqDiff, Nat.reduceBEq, Nat.reduceAdd, Nat.reduceSub, Nat.reduceMul, Nat.reduceLeDiff, Int.reduceLE, Int.reduceLT, Int.reduceNeg, Int.reduceEq, Int.reduceBEq, Int.reduceBNe])
    | (refine ite_on (fun h => ?_) (fun h => ?_) <;> (try simp only [decide_eq_true_eq, decide_eq_false_iff_not, bne_iff_ne, beq_iff_eq, bne_eq_false_iff_eq, beq_eq_false_iff_ne, ne_eq, ge_iff_le, gt_iff_lt, Bool.not_eq_true, Bool.not_eq_false, Bool.not_not, Bool.not_true, Bool.not_false, Int.not_le, Int.not_lt, not_true_eq_false, not_false_eq_true, reduceCtorEq, Bool.false_eq_true, Bool.not_eq_true', Bool.not_eq_false'] at h) <;> first | (exfalso; omega) | skip)
    | rw [thenN]
    | rw [blockN]
    | refine And.intro ?_ ?_
    | refine lcons rfl ?_
    | exact lGram _
    | exact lSeen _
    | exact lWord _
    | exact lSealed _
    | exact lRun _
    | exact lPerson _
    | exact lEvent _
    | exact lLeak _
    | exact lNum _
    | exact lOprn _
    | exact in64 (by omega) (by omega)
    | omega)
  | cons x l =>
    simp only [List.length_cons] at hl
    repeat' (first
    | (refine hK _ _ ?_; clear hK hC; clear K C)
    | (refine hK _ _ rfl ?_; clear hK hC; clear K C)
    | (refine AW.seqR fun K C hK hC => ?_; simp only [go_sem, ↓reduceIte, reduceCtorEq, Nat.reduceLT, Nat.reduceEqDiff, Nat.reduceBEq, Nat.reduceAdd, Nat.reduceSub, Nat.reduceMul, Nat.reduceLeDiff, Int.reduceLE, Int.reduceLT, Int.reduceNeg, Int.reduceEq, Int.reduceBEq, Int.reduceBNe])
    | (refine AW.seqD rfl fun K C hK hC => ?_; simp only [go_sem, ↓reduceIte, reduceCtorEq, Nat.reduceLT, Nat.reduceEqDiff, Nat.reduceBEq, Nat.reduceAdd, Nat.reduceSub, Nat.reduceMul, Nat.reduceLeDiff, Int.reduceLE, Int.reduceLT, Int.reduceNeg, Int.reduceEq, Int.reduceBEq, Int.reduceBNe])
    | (refine AW.reg fun K C hK hC => ?_; simp only [go_sem, ↓reduceIte, reduceCtorEq, Nat.reduceLT, Nat.reduceEqDiff, Nat.reduceBEq, Nat.reduceAdd, Nat.reduceSub, Nat.reduceMul, Nat.reduceLeDiff, Int.reduceLE, Int.reduceLT, Int.reduceNeg, Int.reduceEq, Int.reduceBEq, Int.reduceBNe])
    | refine AW.seqS ?_
    | (refine AW.ret ?_; simp only [go_sem, ↓reduceIte, reduceCtorEq, Nat.reduceLT, Nat.reduceEqDiff, Nat.reduceBEq, Nat.reduceAdd, Nat.reduceSub, Nat.reduceMul, Nat.reduceLeDiff, Int.reduceLE, Int.reduceLT, Int.reduceNeg, Int.reduceEq, Int.reduceBEq, Int.reduceBNe])
    | (refine AW.cond rfl (fun h => ?_) (fun h => ?_) <;> (try simp only [decide_eq_true_eq, decide_eq_false_iff_not, bne_iff_ne, beq_iff_eq, bne_eq_false_iff_eq, beq_eq_false_iff_ne, ne_eq, ge_iff_le, gt_iff_lt, Bool.not_eq_true, Bool.not_eq_false, Bool.not_not, Bool.not_true, Bool.not_false, Int.not_le, Int.not_lt, not_true_eq_false, not_false_eq_true, reduceCtorEq, Bool.false_eq_true, Bool.not_eq_true', Bool.not_eq_false'] at h) <;> first | (exfalso; omega) | skip)
    | refine AW.skip ?_
    | refine AW.seq ?_
    | refine AW.block ?_
    | (refine AW.exit ?_; simp only [go_sem, ↓reduceIte, reduceCtorEq, Nat.reduceLT, Nat.reduceEqDiff, Nat.reduceBEq, Nat.reduceAdd, Nat.reduceSub, Nat.reduceMul, Nat.reduceLeDiff, Int.reduceLE, Int.reduceLT, Int.reduceNeg, Int.reduceEq, Int.reduceBEq, Int.reduceBNe])
    | (refine ite_on (fun h => ?_) (fun h => ?_) <;> (try simp only [decide_eq_true_eq, decide_eq_false_iff_not, bne_iff_ne, beq_iff_eq, bne_eq_false_iff_eq, beq_eq_false_iff_ne, ne_eq, ge_iff_le, gt_iff_lt, Bool.not_eq_true, Bool.not_eq_false, Bool.not_not, Bool.not_true, Bool.not_false, Int.not_le, Int.not_lt, not_true_eq_false, not_false_eq_true, reduceCtorEq, Bool.false_eq_true, Bool.not_eq_true', Bool.not_eq_false'] at h) <;> first | (exfalso; omega) | skip)
    | rw [thenN]
    | rw [blockN]
    | refine And.intro ?_ ?_
    | refine lcons rfl ?_
    | exact lGram _
    | exact lSeen _
    | exact lWord _
    | exact lSealed _
    | exact lRun _
    | exact lPerson _
    | exact lEvent _
    | exact lLeak _
    | exact lNum _
    | exact lOprn _
    | exact in64 (by omega) (by omega)
    | omega)

theorem lib_clone_sealed (j : Nat) (l : List Sealed) (hl : l.length ≤ 1000000) : ACalls Try.prog 25 [.one (.rowc j (l.map eSealed))] (.own 43 4 (l.map eSealed)) := by
  refine ACalls.intro (fn := Try.f25) rfl rfl rfl (by simp [Try.f25]) ?_
  unfold Try.f25
  simp only []
  cases l with
  | nil =>
    refine AW.empty 0 rfl ?_ ?_
    · repeat' (first
    | (refine hK _ _ ?_; clear hK hC; clear K C)
    | (refine hK _ _ rfl ?_; clear hK hC; clear K C)
    | (refine AW.seqR fun K C hK hC => ?_; simp only [go_sem, ↓reduceIte, reduceCtorEq, Nat.reduceLT, Nat.reduceEqDiff, Nat.reduceBEq, Nat.reduceAdd, Nat.reduceSub, Nat.reduceMul, Nat.reduceLeDiff, Int.reduceLE, Int.reduceLT, Int.reduceNeg, Int.reduceEq, Int.reduceBEq, Int.reduceBNe])
    | (refine AW.seqD rfl fun K C hK hC => ?_; simp only [go_sem, ↓reduceIte, reduceCtorEq, Nat.reduceLT, Nat.reduceEqDiff, Nat.reduceBEq, Nat.reduceAdd, Nat.reduceSub, Nat.reduceMul, Nat.reduceLeDiff, Int.reduceLE, Int.reduceLT, Int.reduceNeg, Int.reduceEq, Int.reduceBEq, Int.reduceBNe])
    | (refine AW.reg fun K C hK hC => ?_; simp only [go_sem, ↓reduceIte, reduceCtorEq, Nat.reduceLT, Nat.reduceEqDiff, Nat.reduceBEq, Nat.reduceAdd, Nat.reduceSub, Nat.reduceMul, Nat.reduceLeDiff, Int.reduceLE, Int.reduceLT, Int.reduceNeg, Int.reduceEq, Int.reduceBEq, Int.reduceBNe])
    | refine AW.seqS ?_
    | (refine AW.ret ?_; simp only [go_sem, ↓reduceIte, reduceCtorEq, Nat.reduceLT, Nat.reduceEqDiff, Nat.reduceBEq, Nat.reduceAdd, Nat.reduceSub, Nat.reduceMul, Nat.reduceLeDiff, Int.reduceLE, Int.reduceLT, Int.reduceNeg, Int.reduceEq, Int.reduceBEq, Int.reduceBNe])
    | (refine AW.cond rfl (fun h => ?_) (fun h => ?_) <;> (try simp only [decide_eq_true_eq, decide_eq_false_iff_not, bne_iff_ne, beq_iff_eq, bne_eq_false_iff_eq, beq_eq_false_iff_ne, ne_eq, ge_iff_le, gt_iff_lt, Bool.not_eq_true, Bool.not_eq_false, Bool.not_not, Bool.not_true, Bool.not_false, Int.not_le, Int.not_lt, not_true_eq_false, not_false_eq_true, reduceCtorEq, Bool.false_eq_true, Bool.not_eq_true', Bool.not_eq_false'] at h) <;> first | (exfalso; omega) | skip)
    | refine AW.skip ?_
    | refine AW.seq ?_
    | refine AW.block ?_
    | (refine AW.exit ?_; simp only [go_sem, ↓reduceIte, reduceCtorEq, Nat.reduceLT, Nat.reduceEqDiff, Nat.reduceBEq, Nat.reduceAdd, Nat.reduceSub, Nat.reduceMul, Nat.reduceLeDiff, Int.reduceLE, Int.reduceLT, Int.reduceNeg, Int.reduceEq, Int.reduceBEq, Int.reduceBNe])
    | (refine ite_on (fun h => ?_) (fun h => ?_) <;> (try simp only [decide_eq_true_eq, decide_eq_false_iff_not, bne_iff_ne, beq_iff_eq, bne_eq_false_iff_eq, beq_eq_false_iff_ne, ne_eq, ge_iff_le, gt_iff_lt, Bool.not_eq_true, Bool.not_eq_false, Bool.not_not, Bool.not_true, Bool.not_false, Int.not_le, Int.not_lt, not_true_eq_false, not_false_eq_true, reduceCtorEq, Bool.false_eq_true, Bool.not_eq_true', Bool.not_eq_false'] at h) <;> first | (exfalso; omega) | skip)
    | rw [thenN]
    | rw [blockN]
    | refine And.intro ?_ ?_
    | refine lcons rfl ?_
    | exact lGram _
    | exact lSeen _
    | exact lWord _
    | exact lSealed _
    | exact lRun _
    | exact lPerson _
    | exact lEvent _
    | exact lLeak _
    | exact lNum _
    | exact lOprn _
    | exact in64 (by omega) (by omega)
    | omega)
    · repeat' (first
    | (refine hK _ _ ?_; clear hK hC; clear K C)
    | (refine hK _ _ rfl ?_; clear hK hC; clear K C)
    | (refine AW.seqR fun K C hK hC => ?_; simp only [go_sem, ↓reduceIte, reduceCtorEq, Nat.reduceLT, Nat.reduceEqDiff, Nat.reduceBEq, Nat.reduceAdd, Nat.reduceSub, Nat.reduceMul, Nat.reduceLeDiff, Int.reduceLE, Int.reduceLT, Int.reduceNeg, Int.reduceEq, Int.reduceBEq, Int.reduceBNe])
    | (refine AW.seqD rfl fun K C hK hC => ?_; simp only [go_sem, ↓reduceIte, reduceCtorEq, Nat.reduceLT, Nat.reduceEqDiff, Nat.reduceBEq, Nat.reduceAdd, Nat.reduceSub, Nat.reduceMul, Nat.reduceLeDiff, Int.reduceLE, Int.reduceLT, Int.reduceNeg, Int.reduceEq, Int.reduceBEq, Int.reduceBNe])
    | (refine AW.reg fun K C hK hC => ?_; simp only [go_sem, ↓reduceIte, reduceCtorEq, Nat.reduceLT, Nat.reduceEqDiff, Nat.reduceBEq, Nat.reduceAdd, Nat.reduceSub, Nat.reduceMul, Nat.reduceLeDiff, Int.reduceLE, Int.reduceLT, Int.reduceNeg, Int.reduceEq, Int.reduceBEq, Int.reduceBNe])
    | refine AW.seqS ?_
    | (refine AW.ret ?_; simp only [go_sem, ↓reduceIte, reduceCtorEq, Nat.reduceLT, Nat.reduceEqDiff, Nat.reduceBEq, Nat.reduceAdd, Nat.reduceSub, Nat.reduceMul, Nat.reduceLeDiff, Int.reduceLE, Int.reduceLT, Int.reduceNeg, Int.reduceEq, Int.reduceBEq, Int.reduceBNe])
    | (refine AW.cond rfl (fun h => ?_) (fun h => ?_) <;> (try simp only [decide_eq_true_eq, decide_eq_false_iff_not, bne_iff_ne, beq_iff_eq, bne_eq_false_iff_eq, beq_eq_false_iff_ne, ne_eq, ge_iff_le, gt_iff_lt, Bool.not_eq_true, Bool.not_eq_false, Bool.not_not, Bool.not_true, Bool.not_false, Int.not_le, Int.not_lt, not_true_eq_false, not_false_eq_true, reduceCtorEq, Bool.false_eq_true, Bool.not_eq_true', Bool.not_eq_false'] at h) <;> first | (exfalso; omega) | skip)
    | refine AW.skip ?_
    | refine AW.seq ?_
    | refine AW.block ?_
    | (refine AW.exit ?_; simp only [go_sem, ↓reduceIte, reduceCtorEq, Nat.reduceLT, Nat.reduceEqDiff, Nat.reduceBEq, Nat.reduceAdd, Nat.reduceSub, Nat.reduceMul, Nat.reduceLeDiff, Int.reduceLE, Int.reduceLT, Int.reduceNeg, Int.reduceEq, Int.reduceBEq, Int.reduceBNe])
    | (refine ite_on (fun h => ?_) (fun h => ?_) <;> (try simp only [decide_eq_true_eq, decide_eq_false_iff_not, bne_iff_ne, beq_iff_eq, bne_eq_false_iff_eq, beq_eq_false_iff_ne, ne_eq, ge_iff_le, gt_iff_lt, Bool.not_eq_true, Bool.not_eq_false, Bool.not_not, Bool.not_true, Bool.not_false, Int.not_le, Int.not_lt, not_true_eq_false, not_false_eq_true, reduceCtorEq, Bool.false_eq_true, Bool.not_eq_true', Bool.not_eq_false'] at h) <;> first | (exfalso; omega) | skip)
    | rw [thenN]
    | rw [blockN]
    | refine And.intro ?_ ?_
    | refine lcons rfl ?_
    | exact lGram _
    | exact lSeen _
    | exact lWord _
    | exact lSealed _
    | exact lRun _
    | exact lPerson _
    | exact lEvent _
    | exact lLeak _
    | exact lNum _
    | exact lOprn _
    | exact in64 (by omega) (by omega)
    | omega)
  | cons x l =>
    simp only [List.length_cons] at hl
    repeat' (first
    | (refine hK _ _ ?_; clear hK hC; clear K C)
    | (refine hK _ _ rfl ?_; clear hK hC; clear K C)
    | (refine AW.seqR fun K C hK hC => ?_; simp only [go_sem, ↓reduceIte, reduceCtorEq, Nat.reduceLT, Nat.reduceEqDiff, Nat.reduceBEq, Nat.reduceAdd, Nat.reduceSub, Nat.reduceMul, Nat.reduceLeDiff, Int.reduceLE, Int.reduceLT, Int.reduceNeg, Int.reduceEq, Int.reduceBEq, Int.reduceBNe])
    | (refine AW.seqD rfl fun K C hK hC => ?_; simp only [go_sem, ↓reduceIte, reduceCtorEq, Nat.reduceLT, Nat.reduceEqDiff, Nat.reduceBEq, Nat.reduceAdd, Nat.reduceSub, Nat.reduceMul, Nat.reduceLeDiff, Int.reduceLE, Int.reduceLT, Int.reduceNeg, Int.reduceEq, Int.reduceBEq, Int.reduceBNe])
    | (refine AW.reg fun K C hK hC => ?_; simp only [go_sem, ↓reduceIte, reduceCtorEq, Nat.reduceLT, Nat.reduceEqDiff, Nat.reduceBEq, Nat.reduceAdd, Nat.reduceSub, Nat.reduceMul, Nat.reduceLeDiff, Int.reduceLE, Int.reduceLT, Int.reduceNeg, Int.reduceEq, Int.reduceBEq, Int.reduceBNe])
    | refine AW.seqS ?_
    | (refine AW.ret ?_; simp only [go_sem, ↓reduceIte, reduceCtorEq, Nat.reduceLT, Nat.reduceEqDiff, Nat.reduceBEq, Nat.reduceAdd, Nat.reduceSub, Nat.reduceMul, Nat.reduceLeDiff, Int.reduceLE, Int.reduceLT, Int.reduceNeg, Int.reduceEq, Int.reduceBEq, Int.reduceBNe])
    | (refine AW.cond rfl (fun h => ?_) (fun h => ?_) <;> (try simp only [decide_eq_true_eq, decide_eq_false_iff_not, bne_iff_ne, beq_iff_eq, bne_eq_false_iff_eq, beq_eq_false_iff_ne, ne_eq, ge_iff_le, gt_iff_lt, Bool.not_eq_true, Bool.not_eq_false, Bool.not_not, Bool.not_true, Bool.not_false, Int.not_le, Int.not_lt, not_true_eq_false, not_false_eq_true, reduceCtorEq, Bool.false_eq_true, Bool.not_eq_true', Bool.not_eq_false'] at h) <;> first | (exfalso; omega) | skip)
    | refine AW.skip ?_
    | refine AW.seq ?_
    | refine AW.block ?_
    | (refine AW.exit ?_; simp only [go_sem, ↓reduceIte, reduceCtorEq, Nat.reduceLT, Nat.reduceEqDiff, Nat.reduceBEq, Nat.reduceAdd, Nat.reduceSub, Nat.reduceMul, Nat.reduceLeDiff, Int.reduceLE, Int.reduceLT, Int.reduceNeg, Int.reduceEq, Int.reduceBEq, Int.reduceBNe])
    | (refine ite_on (fun h => ?_) (fun h => ?_) <;> (try simp only [decide_eq_true_eq, decide_eq_false_iff_not, bne_iff_ne, beq_iff_eq, bne_eq_false_iff_eq, beq_eq_false_iff_ne, ne_eq, ge_iff_le, gt_iff_lt, Bool.not_eq_true, Bool.not_eq_false, Bool.not_not, Bool.not_true, Bool.not_false, Int.not_le, Int.not_lt, not_true_eq_false, not_false_eq_true, reduceCtorEq, Bool.false_eq_true, Bool.not_eq_true', Bool.not_eq_false'] at h) <;> first | (exfalso; omega) | skip)
    | rw [thenN]
    | rw [blockN]
    | refine And.intro ?_ ?_
    | refine lcons rfl ?_
    | exact lGram _
    | exact lSeen _
    | exact lWord _
    | exact lSealed _
    | exact lRun _
    | exact lPerson _
    | exact lEvent _
    | exact lLeak _
    | exact lNum _
    | exact lOprn _
    | exact in64 (by omega) (by omega)
    | omega)

/-- A box that Seal answers: of a list that is lent where it is refused. -/
def sealC (j : Nat) (b : Box) (h k l : Int) (p : List Int) : List CV := if (sealB b h k l p).2 = 0 then eBox (sealB b h k l p).1 else eBoxC j b
theorem p07_seal (j jp : Nat) (b : Box) (h k l : Int) (p : List Int) (h0 : 0 ≤ b.room) (h1 : b.room ≤ 64) (hl : b.entries.length < 1000000) (hp : p.length < 1000000) : ACalls Try.prog 12 [.agg (eBoxC j b), .one (u32 h), .one (u32 k), .one (u32 l), .one (.rowc jp (p.map eWord))] (.tup [.agg (sealC j b h k l p), .one (i64 (sealB b h k l p).2)]) := by
  refine ACalls.intro (fn := Try.f12) rfl rfl rfl (by simp [Try.f12]) ?_
  have hfi := p07_fits jp p
  have hth := p07_contains j b.entries h
  have hof := p07_of h
  have hfr := p07_free j b h0 h1 hl
  have hcw := lib_clone_words jp p (by omega)
  have hcs := lib_clone_sealed j b.entries (by omega)
  unfold Try.f12
  simp only [eBoxC, eBox, eSealeds, eWords, rB, rI] at *
  by_cases g1 : (p.length : Int) ≤ 64
  · have n1 : ¬ (64 < (p.length : Int)) := by omega
    rw [decide_eq_true g1] at hfi
    cases g2 : thereB b.entries h
    · rw [g2] at hth
      by_cases g3 : b.room ≤ (b.entries.length : Int)
      · have e : sealB b h k l p = (b, 10) := by simp [sealB, n1, g2, g3]
        have g4 : b.room - (b.entries.length : Int) < 1 := by omega
        repeat' (first
    | (refine hC ?_ ?_ ?_ ?_ ?_
       rotate_left
       · rfl
       · simp only [go_sem, ↓reduceIte, reduceCtorEq, Nat.reduceLT, Nat.reduceEqDiff, Nat.reduceBEq, Nat.reduceAdd, Nat.reduceSub, Nat.reduceMul, Nat.reduceLeDiff, Int.reduceLE, Int.reduceLT, Int.reduceNeg, Int.reduceEq, Int.reduceBEq, Int.reduceBNe, g4]
       · simp only [go_sem, ↓reduceIte, reduceCtorEq, Nat.reduceLT, Nat.reduceEqDiff, Nat.reduceBEq, Nat.reduceAdd, Nat.reduceSub, Nat.reduceMul, Nat.reduceLeDiff, Int.reduceLE, Int.reduceLT, Int.reduceNeg, Int.reduceEq, Int.reduceBEq, Int.reduceBNe, g4]
         first | exact hfi | (refine ACalls.args (k := ?_) ?_ ?_; rotate_left; exact hfi; repeat' (first | exact trivial | exact Or.inl ⟨rfl, rfl⟩ | exact Or.inr rfl | apply And.intro))
       simp only [go_sem, ↓reduceIte, reduceCtorEq, Nat.reduceLT, Nat.reduceEqDiff, Nat.reduceBEq, Nat.reduceAdd, Nat.reduceSub, Nat.reduceMul, Nat.reduceLeDiff, Int.reduceLE, Int.reduceLT, Int.reduceNeg, Int.reduceEq, Int.reduceBEq, Int.reduceBNe, g4])
    | (refine hC ?_ ?_ ?_ ?_ ?_
       rotate_left
       · rfl
       · simp only [go_sem, ↓reduceIte, reduceCtorEq, Nat.reduceLT, Nat.reduceEqDiff, Nat.reduceBEq, Nat.reduceAdd, Nat.reduceSub, Nat.reduceMul, Nat.reduceLeDiff, Int.reduceLE, Int.reduceLT, Int.reduceNeg, Int.reduceEq, Int.reduceBEq, Int.reduceBNe, g4]
       · simp only [go_sem, ↓reduceIte, reduceCtorEq, Nat.reduceLT, Nat.reduceEqDiff, Nat.reduceBEq, Nat.reduceAdd, Nat.reduceSub, Nat.reduceMul, Nat.reduceLeDiff, Int.reduceLE, Int.reduceLT, Int.reduceNeg, Int.reduceEq, Int.reduceBEq, Int.reduceBNe, g4]
         first | exact hof | (refine ACalls.args (k := ?_) ?_ ?_; rotate_left; exact hof; repeat' (first | exact trivial | exact Or.inl ⟨rfl, rfl⟩ | exact Or.inr rfl | apply And.intro))
       simp only [go_sem, ↓reduceIte, reduceCtorEq, Nat.reduceLT, Nat.reduceEqDiff, Nat.reduceBEq, Nat.reduceAdd, Nat.reduceSub, Nat.reduceMul, Nat.reduceLeDiff, Int.reduceLE, Int.reduceLT, Int.reduceNeg, Int.reduceEq, Int.reduceBEq, Int.reduceBNe, g4])
    | (refine hC ?_ ?_ ?_ ?_ ?_
       rotate_left
       · rfl
       · simp only [go_sem, ↓reduceIte, reduceCtorEq, Nat.reduceLT, Nat.reduceEqDiff, Nat.reduceBEq, Nat.reduceAdd, Nat.reduceSub, Nat.reduceMul, Nat.reduceLeDiff, Int.reduceLE, Int.reduceLT, Int.reduceNeg, Int.reduceEq, Int.reduceBEq, Int.reduceBNe, g4]
       · simp only [go_sem, ↓reduceIte, reduceCtorEq, Nat.reduceLT, Nat.reduceEqDiff, Nat.reduceBEq, Nat.reduceAdd, Nat.reduceSub, Nat.reduceMul, Nat.reduceLeDiff, Int.reduceLE, Int.reduceLT, Int.reduceNeg, Int.reduceEq, Int.reduceBEq, Int.reduceBNe, g4]
         first | exact hth | (refine ACalls.args (k := ?_) ?_ ?_; rotate_left; exact hth; repeat' (first | exact trivial | exact Or.inl ⟨rfl, rfl⟩ | exact Or.inr rfl | apply And.intro))
       simp only [go_sem, ↓reduceIte, reduceCtorEq, Nat.reduceLT, Nat.reduceEqDiff, Nat.reduceBEq, Nat.reduceAdd, Nat.reduceSub, Nat.reduceMul, Nat.reduceLeDiff, Int.reduceLE, Int.reduceLT, Int.reduceNeg, Int.reduceEq, Int.reduceBEq, Int.reduceBNe, g4])
    | (refine hC ?_ ?_ ?_ ?_ ?_
       rotate_left
       · rfl
       · simp only [go_sem, ↓reduceIte, reduceCtorEq, Nat.reduceLT, Nat.reduceEqDiff, Nat.reduceBEq, Nat.reduceAdd, Nat.reduceSub, Nat.reduceMul, Nat.reduceLeDiff, Int.reduceLE, Int.reduceLT, Int.reduceNeg, Int.reduceEq, Int.reduceBEq, Int.reduceBNe, g4]
       · simp only [go_sem, ↓reduceIte, reduceCtorEq, Nat.reduceLT, Nat.reduceEqDiff, Nat.reduceBEq, Nat.reduceAdd, Nat.reduceSub, Nat.reduceMul, Nat.reduceLeDiff, Int.reduceLE, Int.reduceLT, Int.reduceNeg, Int.reduceEq, Int.reduceBEq, Int.reduceBNe, g4]
         first | exact hfr | (refine ACalls.args (k := ?_) ?_ ?_; rotate_left; exact hfr; repeat' (first | exact trivial | exact Or.inl ⟨rfl, rfl⟩ | exact Or.inr rfl | apply And.intro))
       simp only [go_sem, ↓reduceIte, reduceCtorEq, Nat.reduceLT, Nat.reduceEqDiff, Nat.reduceBEq, Nat.reduceAdd, Nat.reduceSub, Nat.reduceMul, Nat.reduceLeDiff, Int.reduceLE, Int.reduceLT, Int.reduceNeg, Int.reduceEq, Int.reduceBEq, Int.reduceBNe, g4])
    | (refine hK _ _ ?_; clear hK hC; clear K C)
    | (refine hK _ _ rfl ?_; clear hK hC; clear K C)
    | (refine AW.seqR fun K C hK hC => ?_; simp only [go_sem, ↓reduceIte, reduceCtorEq, Nat.reduceLT, Nat.reduceEqDiff, Nat.reduceBEq, Nat.reduceAdd, Nat.reduceSub, Nat.reduceMul, Nat.reduceLeDiff, Int.reduceLE, Int.reduceLT, Int.reduceNeg, Int.reduceEq, Int.reduceBEq, Int.reduceBNe, g4])
    | (refine AW.seqD rfl fun K C hK hC => ?_; simp only [go_sem, ↓reduceIte, reduceCtorEq, Nat.reduceLT, Nat.reduceEqDiff, Nat.reduceBEq, Nat.reduceAdd, Nat.reduceSub, Nat.reduceMul, Nat.reduceLeDiff, Int.reduceLE, Int.reduceLT, Int.reduceNeg, Int.reduceEq, Int.reduceBEq, Int.reduceBNe, g4])
    | (refine AW.reg fun K C hK hC => ?_; simp only [go_sem, ↓reduceIte, reduceCtorEq, Nat.reduceLT, Nat.reduceEqDiff, Nat.reduceBEq, Nat.reduceAdd, Nat.reduceSub, Nat.reduceMul, Nat.reduceLeDiff, Int.reduceLE, Int.reduceLT, Int.reduceNeg, Int.reduceEq, Int.reduceBEq, Int.reduceBNe, g4])
    | refine AW.seqS ?_
    | (refine AW.ret ?_; simp only [go_sem, ↓reduceIte, reduceCtorEq, Nat.reduceLT, Nat.reduceEqDiff, Nat.reduceBEq, Nat.reduceAdd, Nat.reduceSub, Nat.reduceMul, Nat.reduceLeDiff, Int.reduceLE, Int.reduceLT, Int.reduceNeg, Int.reduceEq, Int.reduceBEq, Int.reduceBNe, g4])
    | (refine AW.cond rfl (fun h => ?_) (fun h => ?_) <;> (try simp only [decide_eq_true_eq, decide_eq_false_iff_not, bne_iff_ne, beq_iff_eq, bne_eq_false_iff_eq, beq_eq_false_iff_ne, ne_eq, ge_iff_le, gt_iff_lt, Bool.not_eq_true, Bool.not_eq_false, Bool.not_not, Bool.not_true, Bool.not_false, Int.not_le, Int.not_lt, not_true_eq_false, not_false_eq_true, reduceCtorEq, Bool.false_eq_true, Bool.not_eq_true', Bool.not_eq_false'] at h) <;> first | (exfalso; omega) | skip)
    | refine AW.skip ?_
    | refine AW.seq ?_
    | refine AW.block ?_
    | (refine AW.exit ?_; simp only [go_sem, ↓reduceIte, reduceCtorEq, Nat.reduceLT, Nat.reduceEqDiff, Nat.reduceBEq, Nat.reduceAdd, Nat.reduceSub, Nat.reduceMul, Nat.reduceLeDiff, Int.reduceLE, Int.reduceLT, Int.reduceNeg, Int.reduceEq, Int.reduceBEq, Int.reduceBNe, g4])
    | (refine ite_on (fun h => ?_) (fun h => ?_) <;> (try simp only [decide_eq_true_eq, decide_eq_false_iff_not, bne_iff_ne, beq_iff_eq, bne_eq_false_iff_eq, beq_eq_false_iff_ne, ne_eq, ge_iff_le, gt_iff_lt, Bool.not_eq_true, Bool.not_eq_false, Bool.not_not, Bool.not_true, Bool.not_false, Int.not_le, Int.not_lt, not_true_eq_false, not_false_eq_true, reduceCtorEq, Bool.false_eq_true, Bool.not_eq_true', Bool.not_eq_false'] at h) <;> first | (exfalso; omega) | skip)
    | rw [thenN]
    | rw [blockN]
    | refine And.intro ?_ ?_
    | refine lcons rfl ?_
    | exact lGram _
    | exact lSeen _
    | exact lWord _
    | exact lSealed _
    | exact lRun _
    | exact lPerson _
    | exact lEvent _
    | exact lLeak _
    | exact lNum _
    | exact lOprn _
    | exact in64 (by omega) (by omega)
    | omega)
        simp [sealC, e, eBoxC]
      · have e : sealB b h k l p = (⟨b.room, b.entries ++ [⟨h, k, l, p⟩]⟩, 0) := by simp [sealB, n1, g2, g3]
        have g4 : ¬ (b.room - (b.entries.length : Int) < 1) := by omega
        repeat' (first
    | (refine hC ?_ ?_ ?_ ?_ ?_
       rotate_left
       · rfl
       · simp only [go_sem, ↓reduceIte, reduceCtorEq, Nat.reduceLT, Nat.reduceEqDiff, Nat.reduceBEq, Nat.reduceAdd, Nat.reduceSub, Nat.reduceMul, Nat.reduceLeDiff, Int.reduceLE, Int.reduceLT, Int.reduceNeg, Int.reduceEq, Int.reduceBEq, Int.reduceBNe, g4]
       · simp only [go_sem, ↓reduceIte, reduceCtorEq, Nat.reduceLT, Nat.reduceEqDiff, Nat.reduceBEq, Nat.reduceAdd, Nat.reduceSub, Nat.reduceMul, Nat.reduceLeDiff, Int.reduceLE, Int.reduceLT, Int.reduceNeg, Int.reduceEq, Int.reduceBEq, Int.reduceBNe, g4]
         first | exact hfi | (refine ACalls.args (k := ?_) ?_ ?_; rotate_left; exact hfi; repeat' (first | exact trivial | exact Or.inl ⟨rfl, rfl⟩ | exact Or.inr rfl | apply And.intro))
       simp only [go_sem, ↓reduceIte, reduceCtorEq, Nat.reduceLT, Nat.reduceEqDiff, Nat.reduceBEq, Nat.reduceAdd, Nat.reduceSub, Nat.reduceMul, Nat.reduceLeDiff, Int.reduceLE, Int.reduceLT, Int.reduceNeg, Int.reduceEq, Int.reduceBEq, Int.reduceBNe, g4])
    | (refine hC ?_ ?_ ?_ ?_ ?_
       rotate_left
       · rfl
       · simp only [go_sem, ↓reduceIte, reduceCtorEq, Nat.reduceLT, Nat.reduceEqDiff, Nat.reduceBEq, Nat.reduceAdd, Nat.reduceSub, Nat.reduceMul, Nat.reduceLeDiff, Int.reduceLE, Int.reduceLT, Int.reduceNeg, Int.reduceEq, Int.reduceBEq, Int.reduceBNe, g4]
       · simp only [go_sem, ↓reduceIte, reduceCtorEq, Nat.reduceLT, Nat.reduceEqDiff, Nat.reduceBEq, Nat.reduceAdd, Nat.reduceSub, Nat.reduceMul, Nat.reduceLeDiff, Int.reduceLE, Int.reduceLT, Int.reduceNeg, Int.reduceEq, Int.reduceBEq, Int.reduceBNe, g4]
         first | exact hof | (refine ACalls.args (k := ?_) ?_ ?_; rotate_left; exact hof; repeat' (first | exact trivial | exact Or.inl ⟨rfl, rfl⟩ | exact Or.inr rfl | apply And.intro))
       simp only [go_sem, ↓reduceIte, reduceCtorEq, Nat.reduceLT, Nat.reduceEqDiff, Nat.reduceBEq, Nat.reduceAdd, Nat.reduceSub, Nat.reduceMul, Nat.reduceLeDiff, Int.reduceLE, Int.reduceLT, Int.reduceNeg, Int.reduceEq, Int.reduceBEq, Int.reduceBNe, g4])
    | (refine hC ?_ ?_ ?_ ?_ ?_
       rotate_left
       · rfl
       · simp only [go_sem, ↓reduceIte, reduceCtorEq, Nat.reduceLT, Nat.reduceEqDiff, Nat.reduceBEq, Nat.reduceAdd, Nat.reduceSub, Nat.reduceMul, Nat.reduceLeDiff, Int.reduceLE, Int.reduceLT, Int.reduceNeg, Int.reduceEq, Int.reduceBEq, Int.reduceBNe, g4]
       · simp only [go_sem, ↓reduceIte, reduceCtorEq, Nat.reduceLT, Nat.reduceEqDiff, Nat.reduceBEq, Nat.reduceAdd, Nat.reduceSub, Nat.reduceMul, Nat.reduceLeDiff, Int.reduceLE, Int.reduceLT, Int.reduceNeg, Int.reduceEq, Int.reduceBEq, Int.reduceBNe, g4]
         first | exact hth | (refine ACalls.args (k := ?_) ?_ ?_; rotate_left; exact hth; repeat' (first | exact trivial | exact Or.inl ⟨rfl, rfl⟩ | exact Or.inr rfl | apply And.intro))
       simp only [go_sem, ↓reduceIte, reduceCtorEq, Nat.reduceLT, Nat.reduceEqDiff, Nat.reduceBEq, Nat.reduceAdd, Nat.reduceSub, Nat.reduceMul, Nat.reduceLeDiff, Int.reduceLE, Int.reduceLT, Int.reduceNeg, Int.reduceEq, Int.reduceBEq, Int.reduceBNe, g4])
    | (refine hC ?_ ?_ ?_ ?_ ?_
       rotate_left
       · rfl
       · simp only [go_sem, ↓reduceIte, reduceCtorEq, Nat.reduceLT, Nat.reduceEqDiff, Nat.reduceBEq, Nat.reduceAdd, Nat.reduceSub, Nat.reduceMul, Nat.reduceLeDiff, Int.reduceLE, Int.reduceLT, Int.reduceNeg, Int.reduceEq, Int.reduceBEq, Int.reduceBNe, g4]
       · simp only [go_sem, ↓reduceIte, reduceCtorEq, Nat.reduceLT, Nat.reduceEqDiff, Nat.reduceBEq, Nat.reduceAdd, Nat.reduceSub, Nat.reduceMul, Nat.reduceLeDiff, Int.reduceLE, Int.reduceLT, Int.reduceNeg, Int.reduceEq, Int.reduceBEq, Int.reduceBNe, g4]
         first | exact hfr | (refine ACalls.args (k := ?_) ?_ ?_; rotate_left; exact hfr; repeat' (first | exact trivial | exact Or.inl ⟨rfl, rfl⟩ | exact Or.inr rfl | apply And.intro))
       simp only [go_sem, ↓reduceIte, reduceCtorEq, Nat.reduceLT, Nat.reduceEqDiff, Nat.reduceBEq, Nat.reduceAdd, Nat.reduceSub, Nat.reduceMul, Nat.reduceLeDiff, Int.reduceLE, Int.reduceLT, Int.reduceNeg, Int.reduceEq, Int.reduceBEq, Int.reduceBNe, g4])
    | (refine hC ?_ ?_ ?_ ?_ ?_
       rotate_left
       · rfl
       · simp only [go_sem, ↓reduceIte, reduceCtorEq, Nat.reduceLT, Nat.reduceEqDiff, Nat.reduceBEq, Nat.reduceAdd, Nat.reduceSub, Nat.reduceMul, Nat.reduceLeDiff, Int.reduceLE, Int.reduceLT, Int.reduceNeg, Int.reduceEq, Int.reduceBEq, Int.reduceBNe, g4]
       · simp only [go_sem, ↓reduceIte, reduceCtorEq, Nat.reduceLT, Nat.reduceEqDiff, Nat.reduceBEq, Nat.reduceAdd, Nat.reduceSub, Nat.reduceMul, Nat.reduceLeDiff, Int.reduceLE, Int.reduceLT, Int.reduceNeg, Int.reduceEq, Int.reduceBEq, Int.reduceBNe, g4]
         first | exact hcw | (refine ACalls.args (k := ?_) ?_ ?_; rotate_left; exact hcw; repeat' (first | exact trivial | exact Or.inl ⟨rfl, rfl⟩ | exact Or.inr rfl | apply And.intro))
       simp only [go_sem, ↓reduceIte, reduceCtorEq, Nat.reduceLT, Nat.reduceEqDiff, Nat.reduceBEq, Nat.reduceAdd, Nat.reduceSub, Nat.reduceMul, Nat.reduceLeDiff, Int.reduceLE, Int.reduceLT, Int.reduceNeg, Int.reduceEq, Int.reduceBEq, Int.reduceBNe, g4])
    | (refine hC ?_ ?_ ?_ ?_ ?_
       rotate_left
       · rfl
       · simp only [go_sem, ↓reduceIte, reduceCtorEq, Nat.reduceLT, Nat.reduceEqDiff, Nat.reduceBEq, Nat.reduceAdd, Nat.reduceSub, Nat.reduceMul, Nat.reduceLeDiff, Int.reduceLE, Int.reduceLT, Int.reduceNeg, Int.reduceEq, Int.reduceBEq, Int.reduceBNe, g4]
       · simp only [go_sem, ↓reduceIte, reduceCtorEq, Nat.reduceLT, Nat.reduceEqDiff, Nat.reduceBEq, Nat.reduceAdd, Nat.reduceSub, Nat.reduceMul, Nat.reduceLeDiff, Int.reduceLE, Int.reduceLT, Int.reduceNeg, Int.reduceEq, Int.reduceBEq, Int.reduceBNe, g4]
         first | exact hcs | (refine ACalls.args (k := ?_) ?_ ?_; rotate_left; exact hcs; repeat' (first | exact trivial | exact Or.inl ⟨rfl, rfl⟩ | exact Or.inr rfl | apply And.intro))
       simp only [go_sem, ↓reduceIte, reduceCtorEq, Nat.reduceLT, Nat.reduceEqDiff, Nat.reduceBEq, Nat.reduceAdd, Nat.reduceSub, Nat.reduceMul, Nat.reduceLeDiff, Int.reduceLE, Int.reduceLT, Int.reduceNeg, Int.reduceEq, Int.reduceBEq, Int.reduceBNe, g4])
    | (refine hK _ _ ?_; clear hK hC; clear K C)
    | (refine hK _ _ rfl ?_; clear hK hC; clear K C)
    | (refine AW.seqR fun K C hK hC => ?_; simp only [go_sem, ↓reduceIte, reduceCtorEq, Nat.reduceLT, Nat.reduceEqDiff, Nat.reduceBEq, Nat.reduceAdd, Nat.reduceSub, Nat.reduceMul, Nat.reduceLeDiff, Int.reduceLE, Int.reduceLT, Int.reduceNeg, Int.reduceEq, Int.reduceBEq, Int.reduceBNe, g4])
    | (refine AW.seqD rfl fun K C hK hC => ?_; simp only [go_sem, ↓reduceIte, reduceCtorEq, Nat.reduceLT, Nat.reduceEqDiff, Nat.reduceBEq, Nat.reduceAdd, Nat.reduceSub, Nat.reduceMul, Nat.reduceLeDiff, Int.reduceLE, Int.reduceLT, Int.reduceNeg, Int.reduceEq, Int.reduceBEq, Int.reduceBNe, g4])
    | (refine AW.reg fun K C hK hC => ?_; simp only [go_sem, ↓reduceIte, reduceCtorEq, Nat.reduceLT, Nat.reduceEqDiff, Nat.reduceBEq, Nat.reduceAdd, Nat.reduceSub, Nat.reduceMul, Nat.reduceLeDiff, Int.reduceLE, Int.reduceLT, Int.reduceNeg, Int.reduceEq, Int.reduceBEq, Int.reduceBNe, g4])
    | refine AW.seqS ?_
    | (refine AW.ret ?_; simp only [go_sem, ↓reduceIte, reduceCtorEq, Nat.reduceLT, Nat.reduceEqDiff, Nat.reduceBEq, Nat.reduceAdd, Nat.reduceSub, Nat.reduceMul, Nat.reduceLeDiff, Int.reduceLE, Int.reduceLT, Int.reduceNeg, Int.reduceEq, Int.reduceBEq, Int.reduceBNe, g4])
    | (refine AW.cond rfl (fun h => ?_) (fun h => ?_) <;> (try simp only [decide_eq_true_eq, decide_eq_false_iff_not, bne_iff_ne, beq_iff_eq, bne_eq_false_iff_eq, beq_eq_false_iff_ne, ne_eq, ge_iff_le, gt_iff_lt, Bool.not_eq_true, Bool.not_eq_false, Bool.not_not, Bool.not_true, Bool.not_false, Int.not_le, Int.not_lt, not_true_eq_false, not_false_eq_true, reduceCtorEq, Bool.false_eq_true, Bool.not_eq_true', Bool.not_eq_false'] at h) <;> first | (exfalso; omega) | skip)
    | refine AW.skip ?_
    | refine AW.seq ?_
    | refine AW.block ?_
    | (refine AW.exit ?_; simp only [go_sem, ↓reduceIte, reduceCtorEq, Nat.reduceLT, Nat.reduceEqDiff, Nat.reduceBEq, Nat.reduceAdd, Nat.reduceSub, Nat.reduceMul, Nat.reduceLeDiff, Int.reduceLE, Int.reduceLT, Int.reduceNeg, Int.reduceEq, Int.reduceBEq, Int.reduceBNe, g4])
    | (refine ite_on (fun h => ?_) (fun h => ?_) <;> (try simp only [decide_eq_true_eq, decide_eq_false_iff_not, bne_iff_ne, beq_iff_eq, bne_eq_false_iff_eq, beq_eq_false_iff_ne, ne_eq, ge_iff_le, gt_iff_lt, Bool.not_eq_true, Bool.not_eq_false, Bool.not_not, Bool.not_true, Bool.not_false, Int.not_le, Int.not_lt, not_true_eq_false, not_false_eq_true, reduceCtorEq, Bool.false_eq_true, Bool.not_eq_true', Bool.not_eq_false'] at h) <;> first | (exfalso; omega) | skip)
    | rw [thenN]
    | rw [blockN]
    | refine And.intro ?_ ?_
    | refine lcons rfl ?_
    | exact lGram _
    | exact lSeen _
    | exact lWord _
    | exact lSealed _
    | exact lRun _
    | exact lPerson _
    | exact lEvent _
    | exact lLeak _
    | exact lNum _
    | exact lOprn _
    | exact in64 (by omega) (by omega)
    | omega)
        simp [sealC, e, eBox, eSealeds, eSealed, eWords]
    · rw [g2] at hth
      have e : sealB b h k l p = (b, 8) := by simp [sealB, n1, g2]
      repeat' (first
    | (refine hC ?_ ?_ ?_ ?_ ?_
       rotate_left
       · rfl
       · simp only [go_sem, ↓reduceIte, reduceCtorEq, Nat.reduceLT, Nat.reduceEqDiff, Nat.reduceBEq, Nat.reduceAdd, Nat.reduceSub, Nat.reduceMul, Nat.reduceLeDiff, Int.reduceLE, Int.reduceLT, Int.reduceNeg, Int.reduceEq, Int.reduceBEq, Int.reduceBNe]
       · simp only [go_sem, ↓reduceIte, reduceCtorEq, Nat.reduceLT, Nat.reduceEqDiff, Nat.reduceBEq, Nat.reduceAdd, Nat.reduceSub, Nat.reduceMul, Nat.reduceLeDiff, Int.reduceLE, Int.reduceLT, Int.reduceNeg, Int.reduceEq, Int.reduceBEq, Int.reduceBNe]
         first | exact hfi | (refine ACalls.args (k := ?_) ?_ ?_; rotate_left; exact hfi; repeat' (first | exact trivial | exact Or.inl ⟨rfl, rfl⟩ | exact Or.inr rfl | apply And.intro))
       simp only [go_sem, ↓reduceIte, reduceCtorEq, Nat.reduceLT, Nat.reduceEqDiff, Nat.reduceBEq, Nat.reduceAdd, Nat.reduceSub, Nat.reduceMul, Nat.reduceLeDiff, Int.reduceLE, Int.reduceLT, Int.reduceNeg, Int.reduceEq, Int.reduceBEq, Int.reduceBNe])
    | (refine hC ?_ ?_ ?_ ?_ ?_
       rotate_left
       · rfl
       · simp only [go_sem, ↓reduceIte, reduceCtorEq, Nat.reduceLT, Nat.reduceEqDiff, Nat.reduceBEq, Nat.reduceAdd, Nat.reduceSub, Nat.reduceMul, Nat.reduceLeDiff, Int.reduceLE, Int.reduceLT, Int.reduceNeg, Int.reduceEq, Int.reduceBEq, Int.reduceBNe]
       · simp only [go_sem, ↓reduceIte, reduceCtorEq, Nat.reduceLT, Nat.reduceEqDiff, Nat.reduceBEq, Nat.reduceAdd, Nat.reduceSub, Nat.reduceMul, Nat.reduceLeDiff, Int.reduceLE, Int.reduceLT, Int.reduceNeg, Int.reduceEq, Int.reduceBEq, Int.reduceBNe]
         first | exact hof | (refine ACalls.args (k := ?_) ?_ ?_; rotate_left; exact hof; repeat' (first | exact trivial | exact Or.inl ⟨rfl, rfl⟩ | exact Or.inr rfl | apply And.intro))
       simp only [go_sem, ↓reduceIte, reduceCtorEq, Nat.reduceLT, Nat.reduceEqDiff, Nat.reduceBEq, Nat.reduceAdd, Nat.reduceSub, Nat.reduceMul, Nat.reduceLeDiff, Int.reduceLE, Int.reduceLT, Int.reduceNeg, Int.reduceEq, Int.reduceBEq, Int.reduceBNe])
    | (refine hC ?_ ?_ ?_ ?_ ?_
       rotate_left
       · rfl
       · simp only [go_sem, ↓reduceIte, reduceCtorEq, Nat.reduceLT, Nat.reduceEqDiff, Nat.reduceBEq, Nat.reduceAdd, Nat.reduceSub, Nat.reduceMul, Nat.reduceLeDiff, Int.reduceLE, Int.reduceLT, Int.reduceNeg, Int.reduceEq, Int.reduceBEq, Int.reduceBNe]
       · simp only [go_sem, ↓reduceIte, reduceCtorEq, Nat.reduceLT, Nat.reduceEqDiff, Nat.reduceBEq, Nat.reduceAdd, Nat.reduceSub, Nat.reduceMul, Nat.reduceLeDiff, Int.reduceLE, Int.reduceLT, Int.reduceNeg, Int.reduceEq, Int.reduceBEq, Int.reduceBNe]
         first | exact hth | (refine ACalls.args (k := ?_) ?_ ?_; rotate_left; exact hth; repeat' (first | exact trivial | exact Or.inl ⟨rfl, rfl⟩ | exact Or.inr rfl | apply And.intro))
       simp only [go_sem, ↓reduceIte, reduceCtorEq, Nat.reduceLT, Nat.reduceEqDiff, Nat.reduceBEq, Nat.reduceAdd, Nat.reduceSub, Nat.reduceMul, Nat.reduceLeDiff, Int.reduceLE, Int.reduceLT, Int.reduceNeg, Int.reduceEq, Int.reduceBEq, Int.reduceBNe])
    | (refine hK _ _ ?_; clear hK hC; clear K C)
    | (refine hK _ _ rfl ?_; clear hK hC; clear K C)
    | (refine AW.seqR fun K C hK hC => ?_; simp only [go_sem, ↓reduceIte, reduceCtorEq, Nat.reduceLT, Nat.reduceEqDiff, Nat.reduceBEq, Nat.reduceAdd, Nat.reduceSub, Nat.reduceMul, Nat.reduceLeDiff, Int.reduceLE, Int.reduceLT, Int.reduceNeg, Int.reduceEq, Int.reduceBEq, Int.reduceBNe])
    | (refine AW.seqD rfl fun K C hK hC => ?_; simp only [go_sem, ↓reduceIte, reduceCtorEq, Nat.reduceLT, Nat.reduceEqDiff, Nat.reduceBEq, Nat.reduceAdd, Nat.reduceSub, Nat.reduceMul, Nat.reduceLeDiff, Int.reduceLE, Int.reduceLT, Int.reduceNeg, Int.reduceEq, Int.reduceBEq, Int.reduceBNe])
    | (refine AW.reg fun K C hK hC => ?_; simp only [go_sem, ↓reduceIte, reduceCtorEq, Nat.reduceLT, Nat.reduceEqDiff, Nat.reduceBEq, Nat.reduceAdd, Nat.reduceSub, Nat.reduceMul, Nat.reduceLeDiff, Int.reduceLE, Int.reduceLT, Int.reduceNeg, Int.reduceEq, Int.reduceBEq, Int.reduceBNe])
    | refine AW.seqS ?_
    | (refine AW.ret ?_; simp only [go_sem, ↓reduceIte, reduceCtorEq, Nat.reduceLT, Nat.reduceEqDiff, Nat.reduceBEq, Nat.reduceAdd, Nat.reduceSub, Nat.reduceMul, Nat.reduceLeDiff, Int.reduceLE, Int.reduceLT, Int.reduceNeg, Int.reduceEq, Int.reduceBEq, Int.reduceBNe])
    | (refine AW.cond rfl (fun h => ?_) (fun h => ?_) <;> (try simp only [decide_eq_true_eq, decide_eq_false_iff_not, bne_iff_ne, beq_iff_eq, bne_eq_false_iff_eq, beq_eq_false_iff_ne, ne_eq, ge_iff_le, gt_iff_lt, Bool.not_eq_true, Bool.not_eq_false, Bool.not_not, Bool.not_true, Bool.not_false, Int.not_le, Int.not_lt, not_true_eq_false, not_false_eq_true, reduceCtorEq, Bool.false_eq_true, Bool.not_eq_true', Bool.not_eq_false'] at h) <;> first | (exfalso; omega) | skip)
    | refine AW.skip ?_
    | refine AW.seq ?_
    | refine AW.block ?_
    | (refine AW.exit ?_; simp only [go_sem, ↓reduceIte, reduceCtorEq, Nat.reduceLT, Nat.reduceEqDiff, Nat.reduceBEq, Nat.reduceAdd, Nat.reduceSub, Nat.reduceMul, Nat.reduceLeDiff, Int.reduceLE, Int.reduceLT, Int.reduceNeg, Int.reduceEq, Int.reduceBEq, Int.reduceBNe])
    | (refine ite_on (fun h => ?_) (fun h => ?_) <;> (try simp only [decide_eq_true_eq, decide_eq_false_iff_not, bne_iff_ne, beq_iff_eq, bne_eq_false_iff_eq, beq_eq_false_iff_ne, ne_eq, ge_iff_le, gt_iff_lt, Bool.not_eq_true, Bool.not_eq_false, Bool.not_not, Bool.not_true, Bool.not_false, Int.not_le, Int.not_lt, not_true_eq_false, not_false_eq_true, reduceCtorEq, Bool.false_eq_true, Bool.not_eq_true', Bool.not_eq_false'] at h) <;> first | (exfalso; omega) | skip)
    | rw [thenN]
    | rw [blockN]
    | refine And.intro ?_ ?_
    | refine lcons rfl ?_
    | exact lGram _
    | exact lSeen _
    | exact lWord _
    | exact lSealed _
    | exact lRun _
    | exact lPerson _
    | exact lEvent _
    | exact lLeak _
    | exact lNum _
    | exact lOprn _
    | exact in64 (by omega) (by omega)
    | omega)
      simp [sealC, e, eBoxC]
  · have n1 : 64 < (p.length : Int) := by omega
    rw [decide_eq_false g1] at hfi
    have e : sealB b h k l p = (b, 3) := by simp [sealB, n1]
    repeat' (first
    | (refine hC ?_ ?_ ?_ ?_ ?_
       rotate_left
       · rfl
       · simp only [go_sem, ↓reduceIte, reduceCtorEq, Nat.reduceLT, Nat.reduceEqDiff, Nat.reduceBEq, Nat.reduceAdd, Nat.reduceSub, Nat.reduceMul, Nat.reduceLeDiff, Int.reduceLE, Int.reduceLT, Int.reduceNeg, Int.reduceEq, Int.reduceBEq, Int.reduceBNe]
       · simp only [go_sem, ↓reduceIte, reduceCtorEq, Nat.reduceLT, Nat.reduceEqDiff, Nat.reduceBEq, Nat.reduceAdd, Nat.reduceSub, Nat.reduceMul, Nat.reduceLeDiff, Int.reduceLE, Int.reduceLT, Int.reduceNeg, Int.reduceEq, Int.reduceBEq, Int.reduceBNe]
         first | exact hfi | (refine ACalls.args (k := ?_) ?_ ?_; rotate_left; exact hfi; repeat' (first | exact trivial | exact Or.inl ⟨rfl, rfl⟩ | exact Or.inr rfl | apply And.intro))
       simp only [go_sem, ↓reduceIte, reduceCtorEq, Nat.reduceLT, Nat.reduceEqDiff, Nat.reduceBEq, Nat.reduceAdd, Nat.reduceSub, Nat.reduceMul, Nat.reduceLeDiff, Int.reduceLE, Int.reduceLT, Int.reduceNeg, Int.reduceEq, Int.reduceBEq, Int.reduceBNe])
    | (refine hK _ _ ?_; clear hK hC; clear K C)
    | (refine hK _ _ rfl ?_; clear hK hC; clear K C)
    | (refine AW.seqR fun K C hK hC => ?_; simp only [go_sem, ↓reduceIte, reduceCtorEq, Nat.reduceLT, Nat.reduceEqDiff, Nat.reduceBEq, Nat.reduceAdd, Nat.reduceSub, Nat.reduceMul, Nat.reduceLeDiff, Int.reduceLE, Int.reduceLT, Int.reduceNeg, Int.reduceEq, Int.reduceBEq, Int.reduceBNe])
    | (refine AW.seqD rfl fun K C hK hC => ?_; simp only [go_sem, ↓reduceIte, reduceCtorEq, Nat.reduceLT, Nat.reduceEqDiff, Nat.reduceBEq, Nat.reduceAdd, Nat.reduceSub, Nat.reduceMul, Nat.reduceLeDiff, Int.reduceLE, Int.reduceLT, Int.reduceNeg, Int.reduceEq, Int.reduceBEq, Int.reduceBNe])
    | (refine AW.reg fun K C hK hC => ?_; simp only [go_sem, ↓reduceIte, reduceCtorEq, Nat.reduceLT, Nat.reduceEqDiff, Nat.reduceBEq, Nat.reduceAdd, Nat.reduceSub, Nat.reduceMul, Nat.reduceLeDiff, Int.reduceLE, Int.reduceLT, Int.reduceNeg, Int.reduceEq, Int.reduceBEq, Int.reduceBNe])
    | refine AW.seqS ?_
    | (refine AW.ret ?_; simp only [go_sem, ↓reduceIte, reduceCtorEq, Nat.reduceLT, Nat.reduceEqDiff, Nat.reduceBEq, Nat.reduceAdd, Nat.reduceSub, Nat.reduceMul, Nat.reduceLeDiff, Int.reduceLE, Int.reduceLT, Int.reduceNeg, Int.reduceEq, Int.reduceBEq, Int.reduceBNe])
    | (refine AW.cond rfl (fun h => ?_) (fun h => ?_) <;> (try simp only [decide_eq_true_eq, decide_eq_false_iff_not, bne_iff_ne, beq_iff_eq, bne_eq_false_iff_eq, beq_eq_false_iff_ne, ne_eq, ge_iff_le, gt_iff_lt, Bool.not_eq_true, Bool.not_eq_false, Bool.not_not, Bool.not_true, Bool.not_false, Int.not_le, Int.not_lt, not_true_eq_false, not_false_eq_true, reduceCtorEq, Bool.false_eq_true, Bool.not_eq_true', Bool.not_eq_false'] at h) <;> first | (exfalso; omega) | skip)
    | refine AW.skip ?_
    | refine AW.seq ?_
    | refine AW.block ?_
    | (refine AW.exit ?_; simp only [go_sem, ↓reduceIte, reduceCtorEq, Nat.reduceLT, Nat.reduceEqDiff, Nat.reduceBEq, Nat.reduceAdd, Nat.reduceSub, Nat.reduceMul, Nat.reduceLeDiff, Int.reduceLE, Int.reduceLT, Int.reduceNeg, Int.reduceEq, Int.reduceBEq, Int.reduceBNe])
    | (refine ite_on (fun h => ?_) (fun h => ?_) <;> (try simp only [decide_eq_true_eq, decide_eq_false_iff_not, bne_iff_ne, beq_iff_eq, bne_eq_false_iff_eq, beq_eq_false_iff_ne, ne_eq, ge_iff_le, gt_iff_lt, Bool.not_eq_true, Bool.not_eq_false, Bool.not_not, Bool.not_true, Bool.not_false, Int.not_le, Int.not_lt, not_true_eq_false, not_false_eq_true, reduceCtorEq, Bool.false_eq_true, Bool.not_eq_true', Bool.not_eq_false'] at h) <;> first | (exfalso; omega) | skip)
    | rw [thenN]
    | rw [blockN]
    | refine And.intro ?_ ?_
    | refine lcons rfl ?_
    | exact lGram _
    | exact lSeen _
    | exact lWord _
    | exact lSealed _
    | exact lRun _
    | exact lPerson _
    | exact lEvent _
    | exact lLeak _
    | exact lNum _
    | exact lOprn _
    | exact in64 (by omega) (by omega)
    | omega)
    simp [sealC, e, eBoxC]
def openP (b : Box) (k l h : Int) : List Int × Bool := match b.entries.find? (fun s => s.handle == h) with
  | some s => if s.key = k ∧ s.label = l then (s.plain, true) else ([], false)
  | none => ([], false)
theorem p07_open (b : Box) (kk ll hh : Int) (hs : ∀ s ∈ b.entries, s.plain.length < 1000000) : ACalls Try.prog 14 [.agg (eBox b), .one (u32 kk), .one (u32 ll), .one (u32 hh)] (.tup [.one (eWords (openP b kk ll hh).1), .one (bl (openP b kk ll hh).2)]) := by
  refine ACalls.intro (fn := Try.f14) rfl rfl rfl (by simp [Try.f14]) ?_
  have hof := p07_of hh
  have hix := p07_index 0 b.entries hh
  unfold Try.f14
  simp only [eBox, eSealeds, eWords, rI] at *
  rcases idxOf_cases b.entries (fun s => s.handle == hh) with ⟨hi, hf⟩ | ⟨k, x, hi, hx, hlt, hp, hf⟩
  · rw [hi] at hix
    repeat' (first
    | (refine hC ?_ ?_ ?_ ?_ ?_
       rotate_left
       · rfl
       · simp only [go_sem, ↓reduceIte, reduceCtorEq, Nat.reduceLT, Nat.reduceEqDiff, Nat.reduceBEq, Nat.reduceAdd, Nat.reduceSub, Nat.reduceMul, Nat.reduceLeDiff, Int.reduceLE, Int.reduceLT, Int.reduceNeg, Int.reduceEq, Int.reduceBEq, Int.reduceBNe]
       · simp only [go_sem, ↓reduceIte, reduceCtorEq, Nat.reduceLT, Nat.reduceEqDiff, Nat.reduceBEq, Nat.reduceAdd, Nat.reduceSub, Nat.reduceMul, Nat.reduceLeDiff, Int.reduceLE, Int.reduceLT, Int.reduceNeg, Int.reduceEq, Int.reduceBEq, Int.reduceBNe]
         first | exact hof | (refine ACalls.args (k := ?_) ?_ ?_; rotate_left; exact hof; repeat' (first | exact trivial | exact Or.inl ⟨rfl, rfl⟩ | exact Or.inr rfl | apply And.intro))
       simp only [go_sem, ↓reduceIte, reduceCtorEq, Nat.reduceLT, Nat.reduceEqDiff, Nat.reduceBEq, Nat.reduceAdd, Nat.reduceSub, Nat.reduceMul, Nat.reduceLeDiff, Int.reduceLE, Int.reduceLT, Int.reduceNeg, Int.reduceEq, Int.reduceBEq, Int.reduceBNe])
    | (refine hC ?_ ?_ ?_ ?_ ?_
       rotate_left
       · rfl
       · simp only [go_sem, ↓reduceIte, reduceCtorEq, Nat.reduceLT, Nat.reduceEqDiff, Nat.reduceBEq, Nat.reduceAdd, Nat.reduceSub, Nat.reduceMul, Nat.reduceLeDiff, Int.reduceLE, Int.reduceLT, Int.reduceNeg, Int.reduceEq, Int.reduceBEq, Int.reduceBNe]
       · simp only [go_sem, ↓reduceIte, reduceCtorEq, Nat.reduceLT, Nat.reduceEqDiff, Nat.reduceBEq, Nat.reduceAdd, Nat.reduceSub, Nat.reduceMul, Nat.reduceLeDiff, Int.reduceLE, Int.reduceLT, Int.reduceNeg, Int.reduceEq, Int.reduceBEq, Int.reduceBNe]
         first | exact hix | (refine ACalls.args (k := ?_) ?_ ?_; rotate_left; exact hix; repeat' (first | exact trivial | exact Or.inl ⟨rfl, rfl⟩ | exact Or.inr rfl | apply And.intro))
       simp only [go_sem, ↓reduceIte, reduceCtorEq, Nat.reduceLT, Nat.reduceEqDiff, Nat.reduceBEq, Nat.reduceAdd, Nat.reduceSub, Nat.reduceMul, Nat.reduceLeDiff, Int.reduceLE, Int.reduceLT, Int.reduceNeg, Int.reduceEq, Int.reduceBEq, Int.reduceBNe])
    | (refine hK _ _ ?_; clear hK hC; clear K C)
    | (refine hK _ _ rfl ?_; clear hK hC; clear K C)
    | (refine AW.seqR fun K C hK hC => ?_; simp only [go_sem, ↓reduceIte, reduceCtorEq, Nat.reduceLT, Nat.reduceEqDiff, Nat.reduceBEq, Nat.reduceAdd, Nat.reduceSub, Nat.reduceMul, Nat.reduceLeDiff, Int.reduceLE, Int.reduceLT, Int.reduceNeg, Int.reduceEq, Int.reduceBEq, Int.reduceBNe])
    | (refine AW.seqD rfl fun K C hK hC => ?_; simp only [go_sem, ↓reduceIte, reduceCtorEq, Nat.reduceLT, Nat.reduceEqDiff, Nat.reduceBEq, Nat.reduceAdd, Nat.reduceSub, Nat.reduceMul, Nat.reduceLeDiff, Int.reduceLE, Int.reduceLT, Int.reduceNeg, Int.reduceEq, Int.reduceBEq, Int.reduceBNe])
    | (refine AW.reg fun K C hK hC => ?_; simp only [go_sem, ↓reduceIte, reduceCtorEq, Nat.reduceLT, Nat.reduceEqDiff, Nat.reduceBEq, Nat.reduceAdd, Nat.reduceSub, Nat.reduceMul, Nat.reduceLeDiff, Int.reduceLE, Int.reduceLT, Int.reduceNeg, Int.reduceEq, Int.reduceBEq, Int.reduceBNe])
    | refine AW.seqS ?_
    | (refine AW.ret ?_; simp only [go_sem, ↓reduceIte, reduceCtorEq, Nat.reduceLT, Nat.reduceEqDiff, Nat.reduceBEq, Nat.reduceAdd, Nat.reduceSub, Nat.reduceMul, Nat.reduceLeDiff, Int.reduceLE, Int.reduceLT, Int.reduceNeg, Int.reduceEq, Int.reduceBEq, Int.reduceBNe])
    | (refine AW.cond rfl (fun h => ?_) (fun h => ?_) <;> (try simp only [decide_eq_true_eq, decide_eq_false_iff_not, bne_iff_ne, beq_iff_eq, bne_eq_false_iff_eq, beq_eq_false_iff_ne, ne_eq, ge_iff_le, gt_iff_lt, Bool.not_eq_true, Bool.not_eq_false, Bool.not_not, Bool.not_true, Bool.not_false, Int.not_le, Int.not_lt, not_true_eq_false, not_false_eq_true, reduceCtorEq, Bool.false_eq_true, Bool.not_eq_true', Bool.not_eq_false'] at h) <;> first | (exfalso; omega) | skip)
    | refine AW.skip ?_
    | refine AW.seq ?_
    | refine AW.block ?_
    | (refine AW.exit ?_; simp only [go_sem, ↓reduceIte, reduceCtorEq, Nat.reduceLT, Nat.reduceEqDiff, Nat.reduceBEq, Nat.reduceAdd, Nat.reduceSub, Nat.reduceMul, Nat.reduceLeDiff, Int.reduceLE, Int.reduceLT, Int.reduceNeg, Int.reduceEq, Int.reduceBEq, Int.reduceBNe])
    | (refine ite_on (fun h => ?_) (fun h => ?_) <;> (try simp only [decide_eq_true_eq, decide_eq_false_iff_not, bne_iff_ne, beq_iff_eq, bne_eq_false_iff_eq, beq_eq_false_iff_ne, ne_eq, ge_iff_le, gt_iff_lt, Bool.not_eq_true, Bool.not_eq_false, Bool.not_not, Bool.not_true, Bool.not_false, Int.not_le, Int.not_lt, not_true_eq_false, not_false_eq_true, reduceCtorEq, Bool.false_eq_true, Bool.not_eq_true', Bool.not_eq_false'] at h) <;> first | (exfalso; omega) | skip)
    | rw [thenN]
    | rw [blockN]
    | refine And.intro ?_ ?_
    | refine lcons rfl ?_
    | exact lGram _
    | exact lSeen _
    | exact lWord _
    | exact lSealed _
    | exact lRun _
    | exact lPerson _
    | exact lEvent _
    | exact lLeak _
    | exact lNum _
    | exact lOprn _
    | exact in64 (by omega) (by omega)
    | omega)
    simp [openP, hf]
  · rw [hi] at hix
    have hpl := hs x (List.mem_of_getElem? hx)
    have hcw := lib_clone_words 0 x.plain (by omega)
    have hk0 : ¬ ((k : Int) < 0) := by omega
    by_cases h1 : x.key = kk
    · have d1 : (x.key != kk) = false := by simp [h1]
      by_cases h2 : x.label = ll
      · have d2 : (x.label != ll) = false := by simp [h2]
        repeat' (first
    | (refine hC ?_ ?_ ?_ ?_ ?_
       rotate_left
       · rfl
       · simp only [go_sem, ↓reduceIte, reduceCtorEq, Nat.reduceLT, Nat.reduceEqDiff, Nat.reduceBEq, Nat.reduceAdd, Nat.reduceSub, Nat.reduceMul, Nat.reduceLeDiff, Int.reduceLE, Int.reduceLT, Int.reduceNeg, Int.reduceEq, Int.reduceBEq, Int.reduceBNe, hx, hlt, hk0, d1, d2, eSealed, eWords]
       · simp only [go_sem, ↓reduceIte, reduceCtorEq, Nat.reduceLT, Nat.reduceEqDiff, Nat.reduceBEq, Nat.reduceAdd, Nat.reduceSub, Nat.reduceMul, Nat.reduceLeDiff, Int.reduceLE, Int.reduceLT, Int.reduceNeg, Int.reduceEq, Int.reduceBEq, Int.reduceBNe, hx, hlt, hk0, d1, d2, eSealed, eWords]
         first | exact hof | (refine ACalls.args (k := ?_) ?_ ?_; rotate_left; exact hof; repeat' (first | exact trivial | exact Or.inl ⟨rfl, rfl⟩ | exact Or.inr rfl | apply And.intro))
       simp only [go_sem, ↓reduceIte, reduceCtorEq, Nat.reduceLT, Nat.reduceEqDiff, Nat.reduceBEq, Nat.reduceAdd, Nat.reduceSub, Nat.reduceMul, Nat.reduceLeDiff, Int.reduceLE, Int.reduceLT, Int.reduceNeg, Int.reduceEq, Int.reduceBEq, Int.reduceBNe, hx, hlt, hk0, d1, d2, eSealed, eWords])
    | (refine hC ?_ ?_ ?_ ?_ ?_
       rotate_left
       · rfl
       · simp only [go_sem, ↓reduceIte, reduceCtorEq, Nat.reduceLT, Nat.reduceEqDiff, Nat.reduceBEq, Nat.reduceAdd, Nat.reduceSub, Nat.reduceMul, Nat.reduceLeDiff, Int.reduceLE, Int.reduceLT, Int.reduceNeg, Int.reduceEq, Int.reduceBEq, Int.reduceBNe, hx, hlt, hk0, d1, d2, eSealed, eWords]
       · simp only [go_sem, ↓reduceIte, reduceCtorEq, Nat.reduceLT, Nat.reduceEqDiff, Nat.reduceBEq, Nat.reduceAdd, Nat.reduceSub, Nat.reduceMul, Nat.reduceLeDiff, Int.reduceLE, Int.reduceLT, Int.reduceNeg, Int.reduceEq, Int.reduceBEq, Int.reduceBNe, hx, hlt, hk0, d1, d2, eSealed, eWords]
         first | exact hix | (refine ACalls.args (k := ?_) ?_ ?_; rotate_left; exact hix; repeat' (first | exact trivial | exact Or.inl ⟨rfl, rfl⟩ | exact Or.inr rfl | apply And.intro))
       simp only [go_sem, ↓reduceIte, reduceCtorEq, Nat.reduceLT, Nat.reduceEqDiff, Nat.reduceBEq, Nat.reduceAdd, Nat.reduceSub, Nat.reduceMul, Nat.reduceLeDiff, Int.reduceLE, Int.reduceLT, Int.reduceNeg, Int.reduceEq, Int.reduceBEq, Int.reduceBNe, hx, hlt, hk0, d1, d2, eSealed, eWords])
    | (refine hC ?_ ?_ ?_ ?_ ?_
       rotate_left
       · rfl
       · simp only [go_sem, ↓reduceIte, reduceCtorEq, Nat.reduceLT, Nat.reduceEqDiff, Nat.reduceBEq, Nat.reduceAdd, Nat.reduceSub, Nat.reduceMul, Nat.reduceLeDiff, Int.reduceLE, Int.reduceLT, Int.reduceNeg, Int.reduceEq, Int.reduceBEq, Int.reduceBNe, hx, hlt, hk0, d1, d2, eSealed, eWords]
       · simp only [go_sem, ↓reduceIte, reduceCtorEq, Nat.reduceLT, Nat.reduceEqDiff, Nat.reduceBEq, Nat.reduceAdd, Nat.reduceSub, Nat.reduceMul, Nat.reduceLeDiff, Int.reduceLE, Int.reduceLT, Int.reduceNeg, Int.reduceEq, Int.reduceBEq, Int.reduceBNe, hx, hlt, hk0, d1, d2, eSealed, eWords]
         first | exact hcw | (refine ACalls.args (k := ?_) ?_ ?_; rotate_left; exact hcw; repeat' (first | exact trivial | exact Or.inl ⟨rfl, rfl⟩ | exact Or.inr rfl | apply And.intro))
       simp only [go_sem, ↓reduceIte, reduceCtorEq, Nat.reduceLT, Nat.reduceEqDiff, Nat.reduceBEq, Nat.reduceAdd, Nat.reduceSub, Nat.reduceMul, Nat.reduceLeDiff, Int.reduceLE, Int.reduceLT, Int.reduceNeg, Int.reduceEq, Int.reduceBEq, Int.reduceBNe, hx, hlt, hk0, d1, d2, eSealed, eWords])
    | (refine hK _ _ ?_; clear hK hC; clear K C)
    | (refine hK _ _ rfl ?_; clear hK hC; clear K C)
    | (refine AW.seqR fun K C hK hC => ?_; simp only [go_sem, ↓reduceIte, reduceCtorEq, Nat.reduceLT, Nat.reduceEqDiff, Nat.reduceBEq, Nat.reduceAdd, Nat.reduceSub, Nat.reduceMul, Nat.reduceLeDiff, Int.reduceLE, Int.reduceLT, Int.reduceNeg, Int.reduceEq, Int.reduceBEq, Int.reduceBNe, hx, hlt, hk0, d1, d2, eSealed, eWords])
    | (refine AW.seqD rfl fun K C hK hC => ?_; simp only [go_sem, ↓reduceIte, reduceCtorEq, Nat.reduceLT, Nat.reduceEqDiff, Nat.reduceBEq, Nat.reduceAdd, Nat.reduceSub, Nat.reduceMul, Nat.reduceLeDiff, Int.reduceLE, Int.reduceLT, Int.reduceNeg, Int.reduceEq, Int.reduceBEq, Int.reduceBNe, hx, hlt, hk0, d1, d2, eSealed, eWords])
    | (refine AW.reg fun K C hK hC => ?_; simp only [go_sem, ↓reduceIte, reduceCtorEq, Nat.reduceLT, Nat.reduceEqDiff, Nat.reduceBEq, Nat.reduceAdd, Nat.reduceSub, Nat.reduceMul, Nat.reduceLeDiff, Int.reduceLE, Int.reduceLT, Int.reduceNeg, Int.reduceEq, Int.reduceBEq, Int.reduceBNe, hx, hlt, hk0, d1, d2, eSealed, eWords])
    | refine AW.seqS ?_
    | (refine AW.ret ?_; simp only [go_sem, ↓reduceIte, reduceCtorEq, Nat.reduceLT, Nat.reduceEqDiff, Nat.reduceBEq, Nat.reduceAdd, Nat.reduceSub, Nat.reduceMul, Nat.reduceLeDiff, Int.reduceLE, Int.reduceLT, Int.reduceNeg, Int.reduceEq, Int.reduceBEq, Int.reduceBNe, hx, hlt, hk0, d1, d2, eSealed, eWords])
    | (refine AW.cond rfl (fun h => ?_) (fun h => ?_) <;> (try simp only [decide_eq_true_eq, decide_eq_false_iff_not, bne_iff_ne, beq_iff_eq, bne_eq_false_iff_eq, beq_eq_false_iff_ne, ne_eq, ge_iff_le, gt_iff_lt, Bool.not_eq_true, Bool.not_eq_false, Bool.not_not, Bool.not_true, Bool.not_false, Int.not_le, Int.not_lt, not_true_eq_false, not_false_eq_true, reduceCtorEq, Bool.false_eq_true, Bool.not_eq_true', Bool.not_eq_false'] at h) <;> first | (exfalso; omega) | skip)
    | refine AW.skip ?_
    | refine AW.seq ?_
    | refine AW.block ?_
    | (refine AW.exit ?_; simp only [go_sem, ↓reduceIte, reduceCtorEq, Nat.reduceLT, Nat.reduceEqDiff, Nat.reduceBEq, Nat.reduceAdd, Nat.reduceSub, Nat.reduceMul, Nat.reduceLeDiff, Int.reduceLE, Int.reduceLT, Int.reduceNeg, Int.reduceEq, Int.reduceBEq, Int.reduceBNe, hx, hlt, hk0, d1, d2, eSealed, eWords])
    | (refine ite_on (fun h => ?_) (fun h => ?_) <;> (try simp only [decide_eq_true_eq, decide_eq_false_iff_not, bne_iff_ne, beq_iff_eq, bne_eq_false_iff_eq, beq_eq_false_iff_ne, ne_eq, ge_iff_le, gt_iff_lt, Bool.not_eq_true, Bool.not_eq_false, Bool.not_not, Bool.not_true, Bool.not_false, Int.not_le, Int.not_lt, not_true_eq_false, not_false_eq_true, reduceCtorEq, Bool.false_eq_true, Bool.not_eq_true', Bool.not_eq_false'] at h) <;> first | (exfalso; omega) | skip)
    | rw [thenN]
    | rw [blockN]
    | refine And.intro ?_ ?_
    | refine lcons rfl ?_
    | exact lGram _
    | exact lSeen _
    | exact lWord _
    | exact lSealed _
    | exact lRun _
    | exact lPerson _
    | exact lEvent _
    | exact lLeak _
    | exact lNum _
    | exact lOprn _
    | exact in64 (by omega) (by omega)
    | omega)
        simp [openP, hf, h1, h2]
      · have d2 : (x.label != ll) = true := by simp [h2]
        repeat' (first
    | (refine hC ?_ ?_ ?_ ?_ ?_
       rotate_left
       · rfl
       · simp only [go_sem, ↓reduceIte, reduceCtorEq, Nat.reduceLT, Nat.reduceEqDiff, Nat.reduceBEq, Nat.reduceAdd, Nat.reduceSub, Nat.reduceMul, Nat.reduceLeDiff, Int.reduceLE, Int.reduceLT, Int.reduceNeg, Int.reduceEq, Int.reduceBEq, Int.reduceBNe, hx, hlt, hk0, d1, d2, eSealed, eWords]
       · simp only [go_sem, ↓reduceIte, reduceCtorEq, Nat.reduceLT, Nat.reduceEqDiff, Nat.reduceBEq, Nat.reduceAdd, Nat.reduceSub, Nat.reduceMul, Nat.reduceLeDiff, Int.reduceLE, Int.reduceLT, Int.reduceNeg, Int.reduceEq, Int.reduceBEq, Int.reduceBNe, hx, hlt, hk0, d1, d2, eSealed, eWords]
         first | exact hof | (refine ACalls.args (k := ?_) ?_ ?_; rotate_left; exact hof; repeat' (first | exact trivial | exact Or.inl ⟨rfl, rfl⟩ | exact Or.inr rfl | apply And.intro))
       simp only [go_sem, ↓reduceIte, reduceCtorEq, Nat.reduceLT, Nat.reduceEqDiff, Nat.reduceBEq, Nat.reduceAdd, Nat.reduceSub, Nat.reduceMul, Nat.reduceLeDiff, Int.reduceLE, Int.reduceLT, Int.reduceNeg, Int.reduceEq, Int.reduceBEq, Int.reduceBNe, hx, hlt, hk0, d1, d2, eSealed, eWords])
    | (refine hC ?_ ?_ ?_ ?_ ?_
       rotate_left
       · rfl
       · simp only [go_sem, ↓reduceIte, reduceCtorEq, Nat.reduceLT, Nat.reduceEqDiff, Nat.reduceBEq, Nat.reduceAdd, Nat.reduceSub, Nat.reduceMul, Nat.reduceLeDiff, Int.reduceLE, Int.reduceLT, Int.reduceNeg, Int.reduceEq, Int.reduceBEq, Int.reduceBNe, hx, hlt, hk0, d1, d2, eSealed, eWords]
       · simp only [go_sem, ↓reduceIte, reduceCtorEq, Nat.reduceLT, Nat.reduceEqDiff, Nat.reduceBEq, Nat.reduceAdd, Nat.reduceSub, Nat.reduceMul, Nat.reduceLeDiff, Int.reduceLE, Int.reduceLT, Int.reduceNeg, Int.reduceEq, Int.reduceBEq, Int.reduceBNe, hx, hlt, hk0, d1, d2, eSealed, eWords]
         first | exact hix | (refine ACalls.args (k := ?_) ?_ ?_; rotate_left; exact hix; repeat' (first | exact trivial | exact Or.inl ⟨rfl, rfl⟩ | exact Or.inr rfl | apply And.intro))
       simp only [go_sem, ↓reduceIte, reduceCtorEq, Nat.reduceLT, Nat.reduceEqDiff, Nat.reduceBEq, Nat.reduceAdd, Nat.reduceSub, Nat.reduceMul, Nat.reduceLeDiff, Int.reduceLE, Int.reduceLT, Int.reduceNeg, Int.reduceEq, Int.reduceBEq, Int.reduceBNe, hx, hlt, hk0, d1, d2, eSealed, eWords])
    | (refine hK _ _ ?_; clear hK hC; clear K C)
    | (refine hK _ _ rfl ?_; clear hK hC; clear K C)
    | (refine AW.seqR fun K C hK hC => ?_; simp only [go_sem, ↓reduceIte, reduceCtorEq, Nat.reduceLT, Nat.reduceEqDiff, Nat.reduceBEq, Nat.reduceAdd, Nat.reduceSub, Nat.reduceMul, Nat.reduceLeDiff, Int.reduceLE, Int.reduceLT, Int.reduceNeg, Int.reduceEq, Int.reduceBEq, Int.reduceBNe, hx, hlt, hk0, d1, d2, eSealed, eWords])
    | (refine AW.seqD rfl fun K C hK hC => ?_; simp only [go_sem, ↓reduceIte, reduceCtorEq, Nat.reduceLT, Nat.reduceEqDiff, Nat.reduceBEq, Nat.reduceAdd, Nat.reduceSub, Nat.reduceMul, Nat.reduceLeDiff, Int.reduceLE, Int.reduceLT, Int.reduceNeg, Int.reduceEq, Int.reduceBEq, Int.reduceBNe, hx, hlt, hk0, d1, d2, eSealed, eWords])
    | (refine AW.reg fun K C hK hC => ?_; simp only [go_sem, ↓reduceIte, reduceCtorEq, Nat.reduceLT, Nat.reduceEqDiff, Nat.reduceBEq, Nat.reduceAdd, Nat.reduceSub, Nat.reduceMul, Nat.reduceLeDiff, Int.reduceLE, Int.reduceLT, Int.reduceNeg, Int.reduceEq, Int.reduceBEq, Int.reduceBNe, hx, hlt, hk0, d1, d2, eSealed, eWords])
    | refine AW.seqS ?_
    | (refine AW.ret ?_; simp only [go_sem, ↓reduceIte, reduceCtorEq, Nat.reduceLT, Nat.reduceEqDiff, Nat.reduceBEq, Nat.reduceAdd, Nat.reduceSub, Nat.reduceMul, Nat.reduceLeDiff, Int.reduceLE, Int.reduceLT, Int.reduceNeg, Int.reduceEq, Int.reduceBEq, Int.reduceBNe, hx, hlt, hk0, d1, d2, eSealed, eWords])
    | (refine AW.cond rfl (fun h => ?_) (fun h => ?_) <;> (try simp only [decide_eq_true_eq, decide_eq_false_iff_not, bne_iff_ne, beq_iff_eq, bne_eq_false_iff_eq, beq_eq_false_iff_ne, ne_eq, ge_iff_le, gt_iff_lt, Bool.not_eq_true, Bool.not_eq_false, Bool.not_not, Bool.not_true, Bool.not_false, Int.not_le, Int.not_lt, not_true_eq_false, not_false_eq_true, reduceCtorEq, Bool.false_eq_true, Bool.not_eq_true', Bool.not_eq_false'] at h) <;> first | (exfalso; omega) | skip)
    | refine AW.skip ?_
    | refine AW.seq ?_
    | refine AW.block ?_
    | (refine AW.exit ?_; simp only [go_sem, ↓reduceIte, reduceCtorEq, Nat.reduceLT, Nat.reduceEqDiff, Nat.reduceBEq, Nat.reduceAdd, Nat.reduceSub, Nat.reduceMul, Nat.reduceLeDiff, Int.reduceLE, Int.reduceLT, Int.reduceNeg, Int.reduceEq, Int.reduceBEq, Int.reduceBNe, hx, hlt, hk0, d1, d2, eSealed, eWords])
    | (refine ite_on (fun h => ?_) (fun h => ?_) <;> (try simp only [decide_eq_true_eq, decide_eq_false_iff_not, bne_iff_ne, beq_iff_eq, bne_eq_false_iff_eq, beq_eq_false_iff_ne, ne_eq, ge_iff_le, gt_iff_lt, Bool.not_eq_true, Bool.not_eq_false, Bool.not_not, Bool.not_true, Bool.not_false, Int.not_le, Int.not_lt, not_true_eq_false, not_false_eq_true, reduceCtorEq, Bool.false_eq_true, Bool.not_eq_true', Bool.not_eq_false'] at h) <;> first | (exfalso; omega) | skip)
    | rw [thenN]
    | rw [blockN]
    | refine And.intro ?_ ?_
    | refine lcons rfl ?_
    | exact lGram _
    | exact lSeen _
    | exact lWord _
    | exact lSealed _
    | exact lRun _
    | exact lPerson _
    | exact lEvent _
    | exact lLeak _
    | exact lNum _
    | exact lOprn _
    | exact in64 (by omega) (by omega)
    | omega)
        simp [openP, hf, h1, h2]
    · have d1 : (x.key != kk) = true := by simp [h1]
      repeat' (first
    | (refine hC ?_ ?_ ?_ ?_ ?_
       rotate_left
       · rfl
       · simp only [go_sem, ↓reduceIte, reduceCtorEq, Nat.reduceLT, Nat.reduceEqDiff, Nat.reduceBEq, Nat.reduceAdd, Nat.reduceSub, Nat.reduceMul, Nat.reduceLeDiff, Int.reduceLE, Int.reduceLT, Int.reduceNeg, Int.reduceEq, Int.reduceBEq, Int.reduceBNe, hx, hlt, hk0, d1, eSealed, eWords]
       · simp only [go_sem, ↓reduceIte, reduceCtorEq, Nat.reduceLT, Nat.reduceEqDiff, Nat.reduceBEq, Nat.reduceAdd, Nat.reduceSub, Nat.reduceMul, Nat.reduceLeDiff, Int.reduceLE, Int.reduceLT, Int.reduceNeg, Int.reduceEq, Int.reduceBEq, Int.reduceBNe, hx, hlt, hk0, d1, eSealed, eWords]
         first | exact hof | (refine ACalls.args (k := ?_) ?_ ?_; rotate_left; exact hof; repeat' (first | exact trivial | exact Or.inl ⟨rfl, rfl⟩ | exact Or.inr rfl | apply And.intro))
       simp only [go_sem, ↓reduceIte, reduceCtorEq, Nat.reduceLT, Nat.reduceEqDiff, Nat.reduceBEq, Nat.reduceAdd, Nat.reduceSub, Nat.reduceMul, Nat.reduceLeDiff, Int.reduceLE, Int.reduceLT, Int.reduceNeg, Int.reduceEq, Int.reduceBEq, Int.reduceBNe, hx, hlt, hk0, d1, eSealed, eWords])
    | (refine hC ?_ ?_ ?_ ?_ ?_
       rotate_left
       · rfl
       · simp only [go_sem, ↓reduceIte, reduceCtorEq, Nat.reduceLT, Nat.reduceEqDiff, Nat.reduceBEq, Nat.reduceAdd, Nat.reduceSub, Nat.reduceMul, Nat.reduceLeDiff, Int.reduceLE, Int.reduceLT, Int.reduceNeg, Int.reduceEq, Int.reduceBEq, Int.reduceBNe, hx, hlt, hk0, d1, eSealed, eWords]
       · simp only [go_sem, ↓reduceIte, reduceCtorEq, Nat.reduceLT, Nat.reduceEqDiff, Nat.reduceBEq, Nat.reduceAdd, Nat.reduceSub, Nat.reduceMul, Nat.reduceLeDiff, Int.reduceLE, Int.reduceLT, Int.reduceNeg, Int.reduceEq, Int.reduceBEq, Int.reduceBNe, hx, hlt, hk0, d1, eSealed, eWords]
         first | exact hix | (refine ACalls.args (k := ?_) ?_ ?_; rotate_left; exact hix; repeat' (first | exact trivial | exact Or.inl ⟨rfl, rfl⟩ | exact Or.inr rfl | apply And.intro))
       simp only [go_sem, ↓reduceIte, reduceCtorEq, Nat.reduceLT, Nat.reduceEqDiff, Nat.reduceBEq, Nat.reduceAdd, Nat.reduceSub, Nat.reduceMul, Nat.reduceLeDiff, Int.reduceLE, Int.reduceLT, Int.reduceNeg, Int.reduceEq, Int.reduceBEq, Int.reduceBNe, hx, hlt, hk0, d1, eSealed, eWords])
    | (refine hK _ _ ?_; clear hK hC; clear K C)
    | (refine hK _ _ rfl ?_; clear hK hC; clear K C)
    | (refine AW.seqR fun K C hK hC => ?_; simp only [go_sem, ↓reduceIte, reduceCtorEq, Nat.reduceLT, Nat.reduceEqDiff, Nat.reduceBEq, Nat.reduceAdd, Nat.reduceSub, Nat.reduceMul, Nat.reduceLeDiff, Int.reduceLE, Int.reduceLT, Int.reduceNeg, Int.reduceEq, Int.reduceBEq, Int.reduceBNe, hx, hlt, hk0, d1, eSealed, eWords])
    | (refine AW.seqD rfl fun K C hK hC => ?_; simp only [go_sem, ↓reduceIte, reduceCtorEq, Nat.reduceLT, Nat.reduceEqDiff, Nat.reduceBEq, Nat.reduceAdd, Nat.reduceSub, Nat.reduceMul, Nat.reduceLeDiff, Int.reduceLE, Int.reduceLT, Int.reduceNeg, Int.reduceEq, Int.reduceBEq, Int.reduceBNe, hx, hlt, hk0, d1, eSealed, eWords])
    | (refine AW.reg fun K C hK hC => ?_; simp only [go_sem, ↓reduceIte, reduceCtorEq, Nat.reduceLT, Nat.reduceEqDiff, Nat.reduceBEq, Nat.reduceAdd, Nat.reduceSub, Nat.reduceMul, Nat.reduceLeDiff, Int.reduceLE, Int.reduceLT, Int.reduceNeg, Int.reduceEq, Int.reduceBEq, Int.reduceBNe, hx, hlt, hk0, d1, eSealed, eWords])
    | refine AW.seqS ?_
    | (refine AW.ret ?_; simp only [go_sem, ↓reduceIte, reduceCtorEq, Nat.reduceLT, Nat.reduceEqDiff, Nat.reduceBEq, Nat.reduceAdd, Nat.reduceSub, Nat.reduceMul, Nat.reduceLeDiff, Int.reduceLE, Int.reduceLT, Int.reduceNeg, Int.reduceEq, Int.reduceBEq, Int.reduceBNe, hx, hlt, hk0, d1, eSealed, eWords])
    | (refine AW.cond rfl (fun h => ?_) (fun h => ?_) <;> (try simp only [decide_eq_true_eq, decide_eq_false_iff_not, bne_iff_ne, beq_iff_eq, bne_eq_false_iff_eq, beq_eq_false_iff_ne, ne_eq, ge_iff_le, gt_iff_lt, Bool.not_eq_true, Bool.not_eq_false, Bool.not_not, Bool.not_true, Bool.not_false, Int.not_le, Int.not_lt, not_true_eq_false, not_false_eq_true, reduceCtorEq, Bool.false_eq_true, Bool.not_eq_true', Bool.not_eq_false'] at h) <;> first | (exfalso; omega) | skip)
    | refine AW.skip ?_
    | refine AW.seq ?_
    | refine AW.block ?_
    | (refine AW.exit ?_; simp only [go_sem, ↓reduceIte, reduceCtorEq, Nat.reduceLT, Nat.reduceEqDiff, Nat.reduceBEq, Nat.reduceAdd, Nat.reduceSub, Nat.reduceMul, Nat.reduceLeDiff, Int.reduceLE, Int.reduceLT, Int.reduceNeg, Int.reduceEq, Int.reduceBEq, Int.reduceBNe, hx, hlt, hk0, d1, eSealed, eWords])
    | (refine ite_on (fun h => ?_) (fun h => ?_) <;> (try simp only [decide_eq_true_eq, decide_eq_false_iff_not, bne_iff_ne, beq_iff_eq, bne_eq_false_iff_eq, beq_eq_false_iff_ne, ne_eq, ge_iff_le, gt_iff_lt, Bool.not_eq_true, Bool.not_eq_false, Bool.not_not, Bool.not_true, Bool.not_false, Int.not_le, Int.not_lt, not_true_eq_false, not_false_eq_true, reduceCtorEq, Bool.false_eq_true, Bool.not_eq_true', Bool.not_eq_false'] at h) <;> first | (exfalso; omega) | skip)
    | rw [thenN]
    | rw [blockN]
    | refine And.intro ?_ ?_
    | refine lcons rfl ?_
    | exact lGram _
    | exact lSeen _
    | exact lWord _
    | exact lSealed _
    | exact lRun _
    | exact lPerson _
    | exact lEvent _
    | exact lLeak _
    | exact lNum _
    | exact lOprn _
    | exact in64 (by omega) (by omega)
    | omega)
      simp [openP, hf, h1]
end Go.Proofs.Ytlmmljjoomgpgaa.Abs
