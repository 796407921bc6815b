/- The landed used, over values without addresses. -/
import Derived.Test.YtgggdiincblglaaQ08
import Derived.Test.YtgggdiincblglaaIdx
set_option linter.unusedSimpArgs false
set_option linter.unusedVariables false
namespace Go.Proofs.Ytgggdiincblglaa.Abs
open Go.RowKit
theorem lib_grow_words (n : Int) (h0 : 0 ≤ n) (hn : n ≤ 1000000) : ACalls Try.prog 18 [.nil, .one (i64 n)] (.own 23 1 []) := by
  refine ACalls.intro (fn := Try.f18) rfl rfl rfl (by simp [Try.f18]) ?_
  have w0 : IntKind.i64.wrap 0 = 0 := by decide
  have w1 : IntKind.i64.wrap n = n := wrapI (by omega) (by omega)
  obtain ⟨N, rfl⟩ : ∃ N : Nat, n = N := ⟨n.toNat, by omega⟩
  unfold Try.f18
  simp only []
  repeat' (first
    | (refine hK _ _ ?_; clear hK hC; clear K C)
    | (refine hK _ _ rfl ?_; clear hK hC; clear K C)
    | (refine AW.seqR fun K C hK hC => ?_; simp only [go_sem, ↓reduceIte, reduceCtorEq, Nat.reduceLT, Nat.reduceEqDiff, Nat.reduceBEq, Nat.reduceAdd, Nat.reduceSub, Nat.reduceMul, Nat.reduceLeDiff, Int.reduceLE, Int.reduceLT, Int.reduceNeg, Int.reduceEq, Int.reduceBEq, Int.reduceBNe, Int.reduceToNat, Int.sub_self, Int.sub_zero, w0, w1])
    | (refine AW.seqD rfl fun K C hK hC => ?_; simp only [go_sem, ↓reduceIte, reduceCtorEq, Nat.reduceLT, Nat.reduceEqDiff, Nat.reduceBEq, Nat.reduceAdd, Nat.reduceSub, Nat.reduceMul, Nat.reduceLeDiff, Int.reduceLE, Int.reduceLT, Int.reduceNeg, Int.reduceEq, Int.reduceBEq, Int.reduceBNe, Int.reduceToNat, Int.sub_self, Int.sub_zero, w0, w1])
    | (refine AW.reg fun K C hK hC => ?_; simp only [go_sem, ↓reduceIte, reduceCtorEq, Nat.reduceLT, Nat.reduceEqDiff, Nat.reduceBEq, Nat.reduceAdd, Nat.reduceSub, Nat.reduceMul, Nat.reduceLeDiff, Int.reduceLE, Int.reduceLT, Int.reduceNeg, Int.reduceEq, Int.reduceBEq, Int.reduceBNe, Int.reduceToNat, Int.sub_self, Int.sub_zero, w0, w1])
    | refine AW.seqS ?_
    | (refine AW.ret ?_; simp only [go_sem, ↓reduceIte, reduceCtorEq, Nat.reduceLT, Nat.reduceEqDiff, Nat.reduceBEq, Nat.reduceAdd, Nat.reduceSub, Nat.reduceMul, Nat.reduceLeDiff, Int.reduceLE, Int.reduceLT, Int.reduceNeg, Int.reduceEq, Int.reduceBEq, Int.reduceBNe, Int.reduceToNat, Int.sub_self, Int.sub_zero, w0, w1])
    | (refine AW.cond rfl (fun h => ?_) (fun h => ?_) <;> (try simp only [decide_eq_true_eq, decide_eq_false_iff_not, bne_iff_ne, beq_iff_eq, bne_eq_false_iff_eq, beq_eq_false_iff_ne, ne_eq, ge_iff_le, gt_iff_lt, Bool.not_eq_true, Bool.not_eq_false, Bool.not_not, Bool.not_true, Bool.not_false, Int.not_le, Int.not_lt, not_true_eq_false, not_false_eq_true, reduceCtorEq, Bool.false_eq_true, Bool.not_eq_true', Bool.not_eq_false'] at h) <;> first | (exfalso; omega) | skip)
    | refine AW.skip ?_
    | refine AW.seq ?_
    | refine AW.block ?_
    | (refine AW.exit ?_; simp only [go_sem, ↓reduceIte, reduceCtorEq, Nat.reduceLT, Nat.reduceEqDiff, Nat.reduceBEq, Nat.reduceAdd, Nat.reduceSub, Nat.reduceMul, Nat.reduceLeDiff, Int.reduceLE, Int.reduceLT, Int.reduceNeg, Int.reduceEq, Int.reduceBEq, Int.reduceBNe, Int.reduceToNat, Int.sub_self, Int.sub_zero, w0, w1])
    | (refine ite_on (fun h => ?_) (fun h => ?_) <;> (try simp only [decide_eq_true_eq, decide_eq_false_iff_not, bne_iff_ne, beq_iff_eq, bne_eq_false_iff_eq, beq_eq_false_iff_ne, ne_eq, ge_iff_le, gt_iff_lt, Bool.not_eq_true, Bool.not_eq_false, Bool.not_not, Bool.not_true, Bool.not_false, Int.not_le, Int.not_lt, not_true_eq_false, not_false_eq_true, reduceCtorEq, Bool.false_eq_true, Bool.not_eq_true', Bool.not_eq_false'] at h) <;> first | (exfalso; omega) | skip)
    | rw [thenN]
    | rw [blockN]
    | rw [scopeN]
    | refine AW.scope ?_
    | refine AW.label ?_
    | refine And.intro ?_ ?_
    | refine lcons rfl ?_
    | exact lGram _
    | exact lSeen _
    | exact lWord _
    | exact lSealed _
    | exact lRun _
    | exact lPerson _
    | exact lEvent _
    | exact lLeak _
    | exact lNum _
    | exact lOprn _
    | exact in64 (by omega) (by omega)
    | exact in32 (by omega) (by omega)
    | omega)

theorem lib_concatC_words (ls : List (Nat × List Int)) (hk : ls.length ≤ 1000000) (hl : (ls.map (·.2)).flatten.length ≤ 1000000) : ACalls Try.prog 16 [.one (.row (ls.map fun l => [.rowc l.1 (l.2.map eWord)]))] (.own 23 1 ((ls.map (·.2)).flatten.map eWord)) := by
  refine ACalls.intro (fn := Try.f16) rfl rfl rfl (by simp [Try.f16]) ?_
  unfold Try.f16
  simp only []
  have hstep : ∀ {k : Nat} {x : Nat × List Int}, ls[k]? = some x → ((ls.map (·.2)).take (k + 1)).flatten = ((ls.map (·.2)).take k).flatten ++ x.2 := fun {k x} hx => by
    rw [List.take_add_one, List.getElem?_map, hx]; simp
  have hle : ∀ k, ((ls.map (·.2)).take k).flatten.length ≤ (ls.map (·.2)).flatten.length := fun k => by
    have := congrArg (fun l => l.flatten.length) (List.take_append_drop k (ls.map (·.2)))
    simp only [List.flatten_append, List.length_append] at this
    omega
  repeat' (first
    | (refine hK _ _ ?_; clear hK hC; clear K C)
    | (refine hK _ _ rfl ?_; clear hK hC; clear K C)
    | (refine AW.seqR fun K C hK hC => ?_; simp only [go_sem, ↓reduceIte, reduceCtorEq, Nat.reduceLT, Nat.reduceEqDiff, Nat.reduceBEq, Nat.reduceAdd, Nat.reduceSub, Nat.reduceMul, Nat.reduceLeDiff, Int.reduceLE, Int.reduceLT, Int.reduceNeg, Int.reduceEq, Int.reduceBEq, Int.reduceBNe, Int.reduceToNat])
    | (refine AW.seqD rfl fun K C hK hC => ?_; simp only [go_sem, ↓reduceIte, reduceCtorEq, Nat.reduceLT, Nat.reduceEqDiff, Nat.reduceBEq, Nat.reduceAdd, Nat.reduceSub, Nat.reduceMul, Nat.reduceLeDiff, Int.reduceLE, Int.reduceLT, Int.reduceNeg, Int.reduceEq, Int.reduceBEq, Int.reduceBNe, Int.reduceToNat])
    | (refine AW.reg fun K C hK hC => ?_; simp only [go_sem, ↓reduceIte, reduceCtorEq, Nat.reduceLT, Nat.reduceEqDiff, Nat.reduceBEq, Nat.reduceAdd, Nat.reduceSub, Nat.reduceMul, Nat.reduceLeDiff, Int.reduceLE, Int.reduceLT, Int.reduceNeg, Int.reduceEq, Int.reduceBEq, Int.reduceBNe, Int.reduceToNat])
    | refine AW.seqS ?_
    | (refine AW.ret ?_; simp only [go_sem, ↓reduceIte, reduceCtorEq, Nat.reduceLT, Nat.reduceEqDiff, Nat.reduceBEq, Nat.reduceAdd, Nat.reduceSub, Nat.reduceMul, Nat.reduceLeDiff, Int.reduceLE, Int.reduceLT, Int.reduceNeg, Int.reduceEq, Int.reduceBEq, Int.reduceBNe, Int.reduceToNat])
    | (refine AW.cond rfl (fun h => ?_) (fun h => ?_) <;> (try simp only [decide_eq_true_eq, decide_eq_false_iff_not, bne_iff_ne, beq_iff_eq, bne_eq_false_iff_eq, beq_eq_false_iff_ne, ne_eq, ge_iff_le, gt_iff_lt, Bool.not_eq_true, Bool.not_eq_false, Bool.not_not, Bool.not_true, Bool.not_false, Int.not_le, Int.not_lt, not_true_eq_false, not_false_eq_true, reduceCtorEq, Bool.false_eq_true, Bool.not_eq_true', Bool.not_eq_false'] at h) <;> first | (exfalso; omega) | skip)
    | refine AW.skip ?_
    | refine AW.seq ?_
    | refine AW.block ?_
    | (refine AW.exit ?_; simp only [go_sem, ↓reduceIte, reduceCtorEq, Nat.reduceLT, Nat.reduceEqDiff, Nat.reduceBEq, Nat.reduceAdd, Nat.reduceSub, Nat.reduceMul, Nat.reduceLeDiff, Int.reduceLE, Int.reduceLT, Int.reduceNeg, Int.reduceEq, Int.reduceBEq, Int.reduceBNe, Int.reduceToNat])
    | (refine ite_on (fun h => ?_) (fun h => ?_) <;> (try simp only [decide_eq_true_eq, decide_eq_false_iff_not, bne_iff_ne, beq_iff_eq, bne_eq_false_iff_eq, beq_eq_false_iff_ne, ne_eq, ge_iff_le, gt_iff_lt, Bool.not_eq_true, Bool.not_eq_false, Bool.not_not, Bool.not_true, Bool.not_false, Int.not_le, Int.not_lt, not_true_eq_false, not_false_eq_true, reduceCtorEq, Bool.false_eq_true, Bool.not_eq_true', Bool.not_eq_false'] at h) <;> first | (exfalso; omega) | skip)
    | rw [thenN]
    | rw [blockN]
    | rw [scopeN]
    | refine AW.scope ?_
    | refine AW.label ?_
    | refine And.intro ?_ ?_
    | refine lcons rfl ?_
    | exact lGram _
    | exact lSeen _
    | exact lWord _
    | exact lSealed _
    | exact lRun _
    | exact lPerson _
    | exact lEvent _
    | exact lLeak _
    | exact lNum _
    | exact lOprn _
    | exact in64 (by omega) (by omega)
    | exact in32 (by omega) (by omega)
    | omega)
  refine AW.loopW (fun n σ => ∃ k : Nat, n = ls.length - k ∧ k ≤ ls.length ∧ σ = ⟨36, upd (upd (upd (upd (upd (fun _ => .junk) 11 (.one (.c (i64 k)))) 10 (.one (.c (i64 ls.length)))) 9 (.one (.c (.row (ls.map fun l => [.rowc l.1 (l.2.map eWord)]))))) 3 (.one (.c (i64 (((ls.map (·.2)).take k).flatten.length : Nat))))) 0 (.one (.c (.row (ls.map fun l => [.rowc l.1 (l.2.map eWord)])))), fun _ => none⟩) (n := ls.length) _ ⟨0, rfl, Nat.zero_le _, rfl⟩ (by (refine ⟨rfl, ?_, ?_, ?_⟩ <;> repeat' (first | exact LeT.junk | exact LeM.none | exact LiveM.none | refine LeT.nil0 (by simp only [go_sem, ↓reduceIte, reduceCtorEq, Nat.reduceLT, Nat.reduceEqDiff, Nat.reduceBEq, Nat.reduceAdd, Nat.reduceSub, Nat.reduceMul, Nat.reduceLeDiff, Int.reduceLE, Int.reduceLT, Int.reduceNeg, Int.reduceEq, Int.reduceBEq, Int.reduceBNe, Int.reduceToNat]; done) ?_ | refine LeT.same ?_ ?_ ?_ | refine LeM.same ?_ ?_ | refine LiveM.upd ?_ ?_ | trivial | (simp only [go_sem, ↓reduceIte, reduceCtorEq, Nat.reduceLT, Nat.reduceEqDiff, Nat.reduceBEq, Nat.reduceAdd, Nat.reduceSub, Nat.reduceMul, Nat.reduceLeDiff, Int.reduceLE, Int.reduceLT, Int.reduceNeg, Int.reduceEq, Int.reduceBEq, Int.reduceBNe, Int.reduceToNat]; done) | rfl))) ?_
  rintro n σ ⟨k, rfl, hkl, rfl⟩
  by_cases hlt : k < ls.length
  · obtain ⟨x, hx⟩ : ∃ x : Nat × List Int, ls[k]? = some x := ⟨_, List.getElem?_eq_getElem hlt⟩
    have h1 := hle (k + 1)
    have hst := hstep hx
    rw [hst, List.length_append] at h1
    have hs := wrapI (x := (k : Int) + 1) (by omega) (by omega)
    have hs2 := wrapI (x := (((ls.map (·.2)).take k).flatten.length : Int) + (x.2.length : Int)) (by omega) (by omega)
    generalize hq : ((ls.map (·.2)).take k).flatten.length = q at hs2 h1
    repeat' (first
    | (refine hK _ _ ?_; clear hK hC; clear K C)
    | (refine hK _ _ rfl ?_; clear hK hC; clear K C)
    | (refine AW.seqR fun K C hK hC => ?_; simp only [go_sem, ↓reduceIte, reduceCtorEq, Nat.reduceLT, Nat.reduceEqDiff, Nat.reduceBEq, Nat.reduceAdd, Nat.reduceSub, Nat.reduceMul, Nat.reduceLeDiff, Int.reduceLE, Int.reduceLT, Int.reduceNeg, Int.reduceEq, Int.reduceBEq, Int.reduceBNe, Int.reduceToNat, hx, hlt, hs, hs2, eWords])
    | (refine AW.seqD rfl fun K C hK hC => ?_; simp only [go_sem, ↓reduceIte, reduceCtorEq, Nat.reduceLT, Nat.reduceEqDiff, Nat.reduceBEq, Nat.reduceAdd, Nat.reduceSub, Nat.reduceMul, Nat.reduceLeDiff, Int.reduceLE, Int.reduceLT, Int.reduceNeg, Int.reduceEq, Int.reduceBEq, Int.reduceBNe, Int.reduceToNat, hx, hlt, hs, hs2, eWords])
    | (refine AW.reg fun K C hK hC => ?_; simp only [go_sem, ↓reduceIte, reduceCtorEq, Nat.reduceLT, Nat.reduceEqDiff, Nat.reduceBEq, Nat.reduceAdd, Nat.reduceSub, Nat.reduceMul, Nat.reduceLeDiff, Int.reduceLE, Int.reduceLT, Int.reduceNeg, Int.reduceEq, Int.reduceBEq, Int.reduceBNe, Int.reduceToNat, hx, hlt, hs, hs2, eWords])
    | refine AW.seqS ?_
    | (refine AW.ret ?_; simp only [go_sem, ↓reduceIte, reduceCtorEq, Nat.reduceLT, Nat.reduceEqDiff, Nat.reduceBEq, Nat.reduceAdd, Nat.reduceSub, Nat.reduceMul, Nat.reduceLeDiff, Int.reduceLE, Int.reduceLT, Int.reduceNeg, Int.reduceEq, Int.reduceBEq, Int.reduceBNe, Int.reduceToNat, hx, hlt, hs, hs2, eWords])
    | (refine AW.cond rfl (fun h => ?_) (fun h => ?_) <;> (try simp only [decide_eq_true_eq, decide_eq_false_iff_not, bne_iff_ne, beq_iff_eq, bne_eq_false_iff_eq, beq_eq_false_iff_ne, ne_eq, ge_iff_le, gt_iff_lt, Bool.not_eq_true, Bool.not_eq_false, Bool.not_not, Bool.not_true, Bool.not_false, Int.not_le, Int.not_lt, not_true_eq_false, not_false_eq_true, reduceCtorEq, Bool.false_eq_true, Bool.not_eq_true', Bool.not_eq_false'] at h) <;> first | (exfalso; omega) | skip)
    | refine AW.skip ?_
    | refine AW.seq ?_
    | refine AW.block ?_
    | (refine AW.exit ?_; simp only [go_sem, ↓reduceIte, reduceCtorEq, Nat.reduceLT, Nat.reduceEqDiff, Nat.reduceBEq, Nat.reduceAdd, Nat.reduceSub, Nat.reduceMul, Nat.reduceLeDiff, Int.reduceLE, Int.reduceLT, Int.reduceNeg, Int.reduceEq, Int.reduceBEq, Int.reduceBNe, Int.reduceToNat, hx, hlt, hs, hs2, eWords])
    | (refine ite_on (fun h => ?_) (fun h => ?_) <;> (try simp only [decide_eq_true_eq, decide_eq_false_iff_not, bne_iff_ne, beq_iff_eq, bne_eq_false_iff_eq, beq_eq_false_iff_ne, ne_eq, ge_iff_le, gt_iff_lt, Bool.not_eq_true, Bool.not_eq_false, Bool.not_not, Bool.not_true, Bool.not_false, Int.not_le, Int.not_lt, not_true_eq_false, not_false_eq_true, reduceCtorEq, Bool.false_eq_true, Bool.not_eq_true', Bool.not_eq_false'] at h) <;> first | (exfalso; omega) | skip)
    | rw [thenN]
    | rw [blockN]
    | rw [scopeN]
    | refine AW.scope ?_
    | refine AW.label ?_
    | refine And.intro ?_ ?_
    | refine lcons rfl ?_
    | exact lGram _
    | exact lSeen _
    | exact lWord _
    | exact lSealed _
    | exact lRun _
    | exact lPerson _
    | exact lEvent _
    | exact lLeak _
    | exact lNum _
    | exact lOprn _
    | exact in64 (by omega) (by omega)
    | exact in32 (by omega) (by omega)
    | omega)
    refine ⟨ls.length - (k + 1), by omega, _, ⟨k + 1, rfl, by omega, rfl⟩, ?_⟩
    rw [hst, List.length_append, hq]
    have hc : ((q + x.2.length : Nat) : Int) = (q : Int) + (x.2.length : Int) := by omega
    (refine ⟨rfl, ?_, ?_, ?_⟩ <;> repeat' (first | exact LeT.junk | exact LeM.none | exact LiveM.none | refine LeT.nil0 (by simp only [go_sem, ↓reduceIte, reduceCtorEq, Nat.reduceLT, Nat.reduceEqDiff, Nat.reduceBEq, Nat.reduceAdd, Nat.reduceSub, Nat.reduceMul, Nat.reduceLeDiff, Int.reduceLE, Int.reduceLT, Int.reduceNeg, Int.reduceEq, Int.reduceBEq, Int.reduceBNe, Int.reduceToNat, hc]; done) ?_ | refine LeT.same ?_ ?_ ?_ | refine LeM.same ?_ ?_ | refine LiveM.upd ?_ ?_ | trivial | (simp only [go_sem, ↓reduceIte, reduceCtorEq, Nat.reduceLT, Nat.reduceEqDiff, Nat.reduceBEq, Nat.reduceAdd, Nat.reduceSub, Nat.reduceMul, Nat.reduceLeDiff, Int.reduceLE, Int.reduceLT, Int.reduceNeg, Int.reduceEq, Int.reduceBEq, Int.reduceBNe, Int.reduceToNat, hc]; done) | rfl))
  · obtain rfl : k = ls.length := by omega
    rw [List.take_of_length_le (by simp)]
    generalize hq : (ls.map (·.2)).flatten.length = q at hl hle
    have gw := lib_grow_words q (by omega) (by omega)
    repeat' (first
    | (refine hC ?_ ?_ ?_ ?_ ?_
       rotate_left
       · rfl
       · simp only [go_sem, ↓reduceIte, reduceCtorEq, Nat.reduceLT, Nat.reduceEqDiff, Nat.reduceBEq, Nat.reduceAdd, Nat.reduceSub, Nat.reduceMul, Nat.reduceLeDiff, Int.reduceLE, Int.reduceLT, Int.reduceNeg, Int.reduceEq, Int.reduceBEq, Int.reduceBNe, Int.reduceToNat]
       · simp only [go_sem, ↓reduceIte, reduceCtorEq, Nat.reduceLT, Nat.reduceEqDiff, Nat.reduceBEq, Nat.reduceAdd, Nat.reduceSub, Nat.reduceMul, Nat.reduceLeDiff, Int.reduceLE, Int.reduceLT, Int.reduceNeg, Int.reduceEq, Int.reduceBEq, Int.reduceBNe, Int.reduceToNat]
         first | exact gw | (refine ACalls.args (k := ?_) ?_ ?_; rotate_left; exact gw; repeat' (first | exact trivial | exact Or.inl ⟨rfl, rfl⟩ | exact Or.inr rfl | apply And.intro))
       simp only [go_sem, ↓reduceIte, reduceCtorEq, Nat.reduceLT, Nat.reduceEqDiff, Nat.reduceBEq, Nat.reduceAdd, Nat.reduceSub, Nat.reduceMul, Nat.reduceLeDiff, Int.reduceLE, Int.reduceLT, Int.reduceNeg, Int.reduceEq, Int.reduceBEq, Int.reduceBNe, Int.reduceToNat])
    | (refine hK _ _ ?_; clear hK hC; clear K C)
    | (refine hK _ _ rfl ?_; clear hK hC; clear K C)
    | (refine AW.seqR fun K C hK hC => ?_; simp only [go_sem, ↓reduceIte, reduceCtorEq, Nat.reduceLT, Nat.reduceEqDiff, Nat.reduceBEq, Nat.reduceAdd, Nat.reduceSub, Nat.reduceMul, Nat.reduceLeDiff, Int.reduceLE, Int.reduceLT, Int.reduceNeg, Int.reduceEq, Int.reduceBEq, Int.reduceBNe, Int.reduceToNat])
    | (refine AW.seqD rfl fun K C hK hC => ?_; simp only [go_sem, ↓reduceIte, reduceCtorEq, Nat.reduceLT, Nat.reduceEqDiff, Nat.reduceBEq, Nat.reduceAdd, Nat.reduceSub, Nat.reduceMul, Nat.reduceLeDiff, Int.reduceLE, Int.reduceLT, Int.reduceNeg, Int.reduceEq, Int.reduceBEq, Int.reduceBNe, Int.reduceToNat])
    | (refine AW.reg fun K C hK hC => ?_; simp only [go_sem, ↓reduceIte, reduceCtorEq, Nat.reduceLT, Nat.reduceEqDiff, Nat.reduceBEq, Nat.reduceAdd, Nat.reduceSub, Nat.reduceMul, Nat.reduceLeDiff, Int.reduceLE, Int.reduceLT, Int.reduceNeg, Int.reduceEq, Int.reduceBEq, Int.reduceBNe, Int.reduceToNat])
    | refine AW.seqS ?_
    | (refine AW.ret ?_; simp only [go_sem, ↓reduceIte, reduceCtorEq, Nat.reduceLT, Nat.reduceEqDiff, Nat.reduceBEq, Nat.reduceAdd, Nat.reduceSub, Nat.reduceMul, Nat.reduceLeDiff, Int.reduceLE, Int.reduceLT, Int.reduceNeg, Int.reduceEq, Int.reduceBEq, Int.reduceBNe, Int.reduceToNat])
    | (refine AW.cond rfl (fun h => ?_) (fun h => ?_) <;> (try simp only [decide_eq_true_eq, decide_eq_false_iff_not, bne_iff_ne, beq_iff_eq, bne_eq_false_iff_eq, beq_eq_false_iff_ne, ne_eq, ge_iff_le, gt_iff_lt, Bool.not_eq_true, Bool.not_eq_false, Bool.not_not, Bool.not_true, Bool.not_false, Int.not_le, Int.not_lt, not_true_eq_false, not_false_eq_true, reduceCtorEq, Bool.false_eq_true, Bool.not_eq_true', Bool.not_eq_false'] at h) <;> first | (exfalso; omega) | skip)
    | refine AW.skip ?_
    | refine AW.seq ?_
    | refine AW.block ?_
    | (refine AW.exit ?_; simp only [go_sem, ↓reduceIte, reduceCtorEq, Nat.reduceLT, Nat.reduceEqDiff, Nat.reduceBEq, Nat.reduceAdd, Nat.reduceSub, Nat.reduceMul, Nat.reduceLeDiff, Int.reduceLE, Int.reduceLT, Int.reduceNeg, Int.reduceEq, Int.reduceBEq, Int.reduceBNe, Int.reduceToNat])
    | (refine ite_on (fun h => ?_) (fun h => ?_) <;> (try simp only [decide_eq_true_eq, decide_eq_false_iff_not, bne_iff_ne, beq_iff_eq, bne_eq_false_iff_eq, beq_eq_false_iff_ne, ne_eq, ge_iff_le, gt_iff_lt, Bool.not_eq_true, Bool.not_eq_false, Bool.not_not, Bool.not_true, Bool.not_false, Int.not_le, Int.not_lt, not_true_eq_false, not_false_eq_true, reduceCtorEq, Bool.false_eq_true, Bool.not_eq_true', Bool.not_eq_false'] at h) <;> first | (exfalso; omega) | skip)
    | rw [thenN]
    | rw [blockN]
    | rw [scopeN]
    | refine AW.scope ?_
    | refine AW.label ?_
    | refine And.intro ?_ ?_
    | refine lcons rfl ?_
    | exact lGram _
    | exact lSeen _
    | exact lWord _
    | exact lSealed _
    | exact lRun _
    | exact lPerson _
    | exact lEvent _
    | exact lLeak _
    | exact lNum _
    | exact lOprn _
    | exact in64 (by omega) (by omega)
    | exact in32 (by omega) (by omega)
    | omega)
    refine AW.loopW (fun n σ => ∃ k : Nat, n = ls.length - k ∧ k ≤ ls.length ∧ σ = ⟨36, upd (upd (upd (upd (fun _ => .junk) 27 (.one (.c (i64 k)))) 26 (.one (.c (i64 ls.length)))) 25 (.one (.c (.row (ls.map fun l => [.rowc l.1 (l.2.map eWord)]))))) 6 (.one (.own 24 ((ls.map (·.2)).take k).flatten.length)), upd (fun _ => none) 24 (some (.rows 23 1 (((ls.map (·.2)).take k).flatten.map eWord)))⟩) (n := ls.length) _ ⟨0, rfl, Nat.zero_le _, rfl⟩ (by (refine ⟨rfl, ?_, ?_, ?_⟩ <;> repeat' (first | exact LeT.junk | exact LeM.none | exact LiveM.none | refine LeT.nil0 (by simp only [go_sem, ↓reduceIte, reduceCtorEq, Nat.reduceLT, Nat.reduceEqDiff, Nat.reduceBEq, Nat.reduceAdd, Nat.reduceSub, Nat.reduceMul, Nat.reduceLeDiff, Int.reduceLE, Int.reduceLT, Int.reduceNeg, Int.reduceEq, Int.reduceBEq, Int.reduceBNe, Int.reduceToNat]; done) ?_ | refine LeT.same ?_ ?_ ?_ | refine LeM.same ?_ ?_ | refine LiveM.upd ?_ ?_ | trivial | (simp only [go_sem, ↓reduceIte, reduceCtorEq, Nat.reduceLT, Nat.reduceEqDiff, Nat.reduceBEq, Nat.reduceAdd, Nat.reduceSub, Nat.reduceMul, Nat.reduceLeDiff, Int.reduceLE, Int.reduceLT, Int.reduceNeg, Int.reduceEq, Int.reduceBEq, Int.reduceBNe, Int.reduceToNat]; done) | rfl))) ?_
    rintro n σ ⟨k, rfl, hkl, rfl⟩
    by_cases hlt : k < ls.length
    · obtain ⟨x, hx⟩ : ∃ x : Nat × List Int, ls[k]? = some x := ⟨_, List.getElem?_eq_getElem hlt⟩
      have h1 := hle (k + 1)
      have hst := hstep hx
      rw [hst, List.length_append] at h1
      have hs := wrapI (x := (k : Int) + 1) (by omega) (by omega)
      repeat' (first
    | (refine hK _ _ ?_; clear hK hC; clear K C)
    | (refine hK _ _ rfl ?_; clear hK hC; clear K C)
    | (refine AW.seqR fun K C hK hC => ?_; simp only [go_sem, ↓reduceIte, reduceCtorEq, Nat.reduceLT, Nat.reduceEqDiff, Nat.reduceBEq, Nat.reduceAdd, Nat.reduceSub, Nat.reduceMul, Nat.reduceLeDiff, Int.reduceLE, Int.reduceLT, Int.reduceNeg, Int.reduceEq, Int.reduceBEq, Int.reduceBNe, Int.reduceToNat, hx, hlt, hs, eWords])
    | (refine AW.seqD rfl fun K C hK hC => ?_; simp only [go_sem, ↓reduceIte, reduceCtorEq, Nat.reduceLT, Nat.reduceEqDiff, Nat.reduceBEq, Nat.reduceAdd, Nat.reduceSub, Nat.reduceMul, Nat.reduceLeDiff, Int.reduceLE, Int.reduceLT, Int.reduceNeg, Int.reduceEq, Int.reduceBEq, Int.reduceBNe, Int.reduceToNat, hx, hlt, hs, eWords])
    | (refine AW.reg fun K C hK hC => ?_; simp only [go_sem, ↓reduceIte, reduceCtorEq, Nat.reduceLT, Nat.reduceEqDiff, Nat.reduceBEq, Nat.reduceAdd, Nat.reduceSub, Nat.reduceMul, Nat.reduceLeDiff, Int.reduceLE, Int.reduceLT, Int.reduceNeg, Int.reduceEq, Int.reduceBEq, Int.reduceBNe, Int.reduceToNat, hx, hlt, hs, eWords])
    | refine AW.seqS ?_
    | (refine AW.ret ?_; simp only [go_sem, ↓reduceIte, reduceCtorEq, Nat.reduceLT, Nat.reduceEqDiff, Nat.reduceBEq, Nat.reduceAdd, Nat.reduceSub, Nat.reduceMul, Nat.reduceLeDiff, Int.reduceLE, Int.reduceLT, Int.reduceNeg, Int.reduceEq, Int.reduceBEq, Int.reduceBNe, Int.reduceToNat, hx, hlt, hs, eWords])
    | (refine AW.cond rfl (fun h => ?_) (fun h => ?_) <;> (try simp only [decide_eq_true_eq, decide_eq_false_iff_not, bne_iff_ne, beq_iff_eq, bne_eq_false_iff_eq, beq_eq_false_iff_ne, ne_eq, ge_iff_le, gt_iff_lt, Bool.not_eq_true, Bool.not_eq_false, Bool.not_not, Bool.not_true, Bool.not_false, Int.not_le, Int.not_lt, not_true_eq_false, not_false_eq_true, reduceCtorEq, Bool.false_eq_true, Bool.not_eq_true', Bool.not_eq_false'] at h) <;> first | (exfalso; omega) | skip)
    | refine AW.skip ?_
    | refine AW.seq ?_
    | refine AW.block ?_
    | (refine AW.exit ?_; simp only [go_sem, ↓reduceIte, reduceCtorEq, Nat.reduceLT, Nat.reduceEqDiff, Nat.reduceBEq, Nat.reduceAdd, Nat.reduceSub, Nat.reduceMul, Nat.reduceLeDiff, Int.reduceLE, Int.reduceLT, Int.reduceNeg, Int.reduceEq, Int.reduceBEq, Int.reduceBNe, Int.reduceToNat, hx, hlt, hs, eWords])
    | (refine ite_on (fun h => ?_) (fun h => ?_) <;> (try simp only [decide_eq_true_eq, decide_eq_false_iff_not, bne_iff_ne, beq_iff_eq, bne_eq_false_iff_eq, beq_eq_false_iff_ne, ne_eq, ge_iff_le, gt_iff_lt, Bool.not_eq_true, Bool.not_eq_false, Bool.not_not, Bool.not_true, Bool.not_false, Int.not_le, Int.not_lt, not_true_eq_false, not_false_eq_true, reduceCtorEq, Bool.false_eq_true, Bool.not_eq_true', Bool.not_eq_false'] at h) <;> first | (exfalso; omega) | skip)
    | rw [thenN]
    | rw [blockN]
    | rw [scopeN]
    | refine AW.scope ?_
    | refine AW.label ?_
    | refine And.intro ?_ ?_
    | refine lcons rfl ?_
    | exact lGram _
    | exact lSeen _
    | exact lWord _
    | exact lSealed _
    | exact lRun _
    | exact lPerson _
    | exact lEvent _
    | exact lLeak _
    | exact lNum _
    | exact lOprn _
    | exact in64 (by omega) (by omega)
    | exact in32 (by omega) (by omega)
    | omega)
      refine ⟨ls.length - (k + 1), by omega, _, ⟨k + 1, rfl, by omega, rfl⟩, ?_⟩
      rw [hst]
      simp only [List.length_append, List.map_append]
      (refine ⟨rfl, ?_, ?_, ?_⟩ <;> repeat' (first | exact LeT.junk | exact LeM.none | exact LiveM.none | refine LeT.nil0 (by simp only [go_sem, ↓reduceIte, reduceCtorEq, Nat.reduceLT, Nat.reduceEqDiff, Nat.reduceBEq, Nat.reduceAdd, Nat.reduceSub, Nat.reduceMul, Nat.reduceLeDiff, Int.reduceLE, Int.reduceLT, Int.reduceNeg, Int.reduceEq, Int.reduceBEq, Int.reduceBNe, Int.reduceToNat]; done) ?_ | refine LeT.same ?_ ?_ ?_ | refine LeM.same ?_ ?_ | refine LiveM.upd ?_ ?_ | trivial | (simp only [go_sem, ↓reduceIte, reduceCtorEq, Nat.reduceLT, Nat.reduceEqDiff, Nat.reduceBEq, Nat.reduceAdd, Nat.reduceSub, Nat.reduceMul, Nat.reduceLeDiff, Int.reduceLE, Int.reduceLT, Int.reduceNeg, Int.reduceEq, Int.reduceBEq, Int.reduceBNe, Int.reduceToNat]; done) | rfl))
    · obtain rfl : k = ls.length := by omega
      rw [List.take_of_length_le (by simp)]
      repeat' (first
    | (refine hK _ _ ?_; clear hK hC; clear K C)
    | (refine hK _ _ rfl ?_; clear hK hC; clear K C)
    | (refine AW.seqR fun K C hK hC => ?_; simp only [go_sem, ↓reduceIte, reduceCtorEq, Nat.reduceLT, Nat.reduceEqDiff, Nat.reduceBEq, Nat.reduceAdd, Nat.reduceSub, Nat.reduceMul, Nat.reduceLeDiff, Int.reduceLE, Int.reduceLT, Int.reduceNeg, Int.reduceEq, Int.reduceBEq, Int.reduceBNe, Int.reduceToNat])
    | (refine AW.seqD rfl fun K C hK hC => ?_; simp only [go_sem, ↓reduceIte, reduceCtorEq, Nat.reduceLT, Nat.reduceEqDiff, Nat.reduceBEq, Nat.reduceAdd, Nat.reduceSub, Nat.reduceMul, Nat.reduceLeDiff, Int.reduceLE, Int.reduceLT, Int.reduceNeg, Int.reduceEq, Int.reduceBEq, Int.reduceBNe, Int.reduceToNat])
    | (refine AW.reg fun K C hK hC => ?_; simp only [go_sem, ↓reduceIte, reduceCtorEq, Nat.reduceLT, Nat.reduceEqDiff, Nat.reduceBEq, Nat.reduceAdd, Nat.reduceSub, Nat.reduceMul, Nat.reduceLeDiff, Int.reduceLE, Int.reduceLT, Int.reduceNeg, Int.reduceEq, Int.reduceBEq, Int.reduceBNe, Int.reduceToNat])
    | refine AW.seqS ?_
    | (refine AW.ret ?_; simp only [go_sem, ↓reduceIte, reduceCtorEq, Nat.reduceLT, Nat.reduceEqDiff, Nat.reduceBEq, Nat.reduceAdd, Nat.reduceSub, Nat.reduceMul, Nat.reduceLeDiff, Int.reduceLE, Int.reduceLT, Int.reduceNeg, Int.reduceEq, Int.reduceBEq, Int.reduceBNe, Int.reduceToNat])
    | (refine AW.cond rfl (fun h => ?_) (fun h => ?_) <;> (try simp only [decide_eq_true_eq, decide_eq_false_iff_not, bne_iff_ne, beq_iff_eq, bne_eq_false_iff_eq, beq_eq_false_iff_ne, ne_eq, ge_iff_le, gt_iff_lt, Bool.not_eq_true, Bool.not_eq_false, Bool.not_not, Bool.not_true, Bool.not_false, Int.not_le, Int.not_lt, not_true_eq_false, not_false_eq_true, reduceCtorEq, Bool.false_eq_true, Bool.not_eq_true', Bool.not_eq_false'] at h) <;> first | (exfalso; omega) | skip)
    | refine AW.skip ?_
    | refine AW.seq ?_
    | refine AW.block ?_
    | (refine AW.exit ?_; simp only [go_sem, ↓reduceIte, reduceCtorEq, Nat.reduceLT, Nat.reduceEqDiff, Nat.reduceBEq, Nat.reduceAdd, Nat.reduceSub, Nat.reduceMul, Nat.reduceLeDiff, Int.reduceLE, Int.reduceLT, Int.reduceNeg, Int.reduceEq, Int.reduceBEq, Int.reduceBNe, Int.reduceToNat])
    | (refine ite_on (fun h => ?_) (fun h => ?_) <;> (try simp only [decide_eq_true_eq, decide_eq_false_iff_not, bne_iff_ne, beq_iff_eq, bne_eq_false_iff_eq, beq_eq_false_iff_ne, ne_eq, ge_iff_le, gt_iff_lt, Bool.not_eq_true, Bool.not_eq_false, Bool.not_not, Bool.not_true, Bool.not_false, Int.not_le, Int.not_lt, not_true_eq_false, not_false_eq_true, reduceCtorEq, Bool.false_eq_true, Bool.not_eq_true', Bool.not_eq_false'] at h) <;> first | (exfalso; omega) | skip)
    | rw [thenN]
    | rw [blockN]
    | rw [scopeN]
    | refine AW.scope ?_
    | refine AW.label ?_
    | refine And.intro ?_ ?_
    | refine lcons rfl ?_
    | exact lGram _
    | exact lSeen _
    | exact lWord _
    | exact lSealed _
    | exact lRun _
    | exact lPerson _
    | exact lEvent _
    | exact lLeak _
    | exact lNum _
    | exact lOprn _
    | exact in64 (by omega) (by omega)
    | exact in32 (by omega) (by omega)
    | omega)

theorem lib_index_words (j : Nat) (l : List Int) (w : Int) :
    ACalls Try.prog 17 [.one (.rowc j (l.map eWord)), .one (u32 w)] (rI (idxOf l fun x => w == x)) := by
  refine ACalls.introF (fn := Try.f17) rfl rfl rfl (by simp [Try.f17]) fun hf => ?_
  have hl := Fine.rowC (hf _ (by simp) : FineCA (.one (.rowc j (l.map eWord))))
  clear hf
  unfold Try.f17
  simp only [rI]
  repeat' (first
    | (refine hK _ _ ?_; clear hK hC; clear K C)
    | (refine hK _ _ rfl ?_; clear hK hC; clear K C)
    | (refine AW.seqR fun K C hK hC => ?_; simp only [go_sem, ↓reduceIte, reduceCtorEq, Nat.reduceLT, Nat.reduceEqDiff, Nat.reduceBEq, Nat.reduceAdd, Nat.reduceSub, Nat.reduceMul, Nat.reduceLeDiff, Int.reduceLE, Int.reduceLT, Int.reduceNeg, Int.reduceEq, Int.reduceBEq, Int.reduceBNe, Int.reduceToNat])
    | (refine AW.seqD rfl fun K C hK hC => ?_; simp only [go_sem, ↓reduceIte, reduceCtorEq, Nat.reduceLT, Nat.reduceEqDiff, Nat.reduceBEq, Nat.reduceAdd, Nat.reduceSub, Nat.reduceMul, Nat.reduceLeDiff, Int.reduceLE, Int.reduceLT, Int.reduceNeg, Int.reduceEq, Int.reduceBEq, Int.reduceBNe, Int.reduceToNat])
    | (refine AW.reg fun K C hK hC => ?_; simp only [go_sem, ↓reduceIte, reduceCtorEq, Nat.reduceLT, Nat.reduceEqDiff, Nat.reduceBEq, Nat.reduceAdd, Nat.reduceSub, Nat.reduceMul, Nat.reduceLeDiff, Int.reduceLE, Int.reduceLT, Int.reduceNeg, Int.reduceEq, Int.reduceBEq, Int.reduceBNe, Int.reduceToNat])
    | refine AW.seqS ?_
    | (refine AW.ret ?_; simp only [go_sem, ↓reduceIte, reduceCtorEq, Nat.reduceLT, Nat.reduceEqDiff, Nat.reduceBEq, Nat.reduceAdd, Nat.reduceSub, Nat.reduceMul, Nat.reduceLeDiff, Int.reduceLE, Int.reduceLT, Int.reduceNeg, Int.reduceEq, Int.reduceBEq, Int.reduceBNe, Int.reduceToNat])
    | (refine AW.cond rfl (fun h => ?_) (fun h => ?_) <;> (try simp only [decide_eq_true_eq, decide_eq_false_iff_not, bne_iff_ne, beq_iff_eq, bne_eq_false_iff_eq, beq_eq_false_iff_ne, ne_eq, ge_iff_le, gt_iff_lt, Bool.not_eq_true, Bool.not_eq_false, Bool.not_not, Bool.not_true, Bool.not_false, Int.not_le, Int.not_lt, not_true_eq_false, not_false_eq_true, reduceCtorEq, Bool.false_eq_true, Bool.not_eq_true', Bool.not_eq_false'] at h) <;> first | (exfalso; omega) | skip)
    | refine AW.skip ?_
    | refine AW.seq ?_
    | refine AW.block ?_
    | (refine AW.exit ?_; simp only [go_sem, ↓reduceIte, reduceCtorEq, Nat.reduceLT, Nat.reduceEqDiff, Nat.reduceBEq, Nat.reduceAdd, Nat.reduceSub, Nat.reduceMul, Nat.reduceLeDiff, Int.reduceLE, Int.reduceLT, Int.reduceNeg, Int.reduceEq, Int.reduceBEq, Int.reduceBNe, Int.reduceToNat])
    | (refine ite_on (fun h => ?_) (fun h => ?_) <;> (try simp only [decide_eq_true_eq, decide_eq_false_iff_not, bne_iff_ne, beq_iff_eq, bne_eq_false_iff_eq, beq_eq_false_iff_ne, ne_eq, ge_iff_le, gt_iff_lt, Bool.not_eq_true, Bool.not_eq_false, Bool.not_not, Bool.not_true, Bool.not_false, Int.not_le, Int.not_lt, not_true_eq_false, not_false_eq_true, reduceCtorEq, Bool.false_eq_true, Bool.not_eq_true', Bool.not_eq_false'] at h) <;> first | (exfalso; omega) | skip)
    | rw [thenN]
    | rw [blockN]
    | rw [scopeN]
    | refine AW.scope ?_
    | refine AW.label ?_
    | refine And.intro ?_ ?_
    | refine lcons rfl ?_
    | exact lGram _
    | exact lSeen _
    | exact lWord _
    | exact lSealed _
    | exact lRun _
    | exact lPerson _
    | exact lEvent _
    | exact lLeak _
    | exact lNum _
    | exact lOprn _
    | exact in64 (by omega) (by omega)
    | exact in32 (by omega) (by omega)
    | omega)
  refine AW.loopW (fun n σ => ∃ k : Nat, n = l.length - k ∧ k ≤ l.length ∧ (∀ s ∈ l.take k, (fun x => w == x) s = false) ∧ σ = ⟨19, (upd (upd (upd (upd (fun _ => .junk) 0 (.one (.c (.rowc j (l.map eWord))))) 1 (.one (.c (u32 w)))) 7 (.one (.c (i64 l.length)))) 8 (.one (.c (i64 k)))), (fun _ => none)⟩) (n := l.length) _ ⟨0, rfl, Nat.zero_le _, by simp, rfl⟩ (by (refine ⟨rfl, ?_, ?_, ?_⟩ <;> repeat' (first | exact LeT.junk | exact LeM.none | exact LiveM.none | refine LeT.nil0 (by simp only [go_sem, ↓reduceIte, reduceCtorEq, Nat.reduceLT, Nat.reduceEqDiff, Nat.reduceBEq, Nat.reduceAdd, Nat.reduceSub, Nat.reduceMul, Nat.reduceLeDiff, Int.reduceLE, Int.reduceLT, Int.reduceNeg, Int.reduceEq, Int.reduceBEq, Int.reduceBNe, Int.reduceToNat]; done) ?_ | refine LeT.same ?_ ?_ ?_ | refine LeM.same ?_ ?_ | refine LiveM.upd ?_ ?_ | trivial | (simp only [go_sem, ↓reduceIte, reduceCtorEq, Nat.reduceLT, Nat.reduceEqDiff, Nat.reduceBEq, Nat.reduceAdd, Nat.reduceSub, Nat.reduceMul, Nat.reduceLeDiff, Int.reduceLE, Int.reduceLT, Int.reduceNeg, Int.reduceEq, Int.reduceBEq, Int.reduceBNe, Int.reduceToNat]; done) | rfl))) ?_
  rintro n σ ⟨k, rfl, hk, ht, rfl⟩
  by_cases hlt : k < l.length
  · obtain ⟨x, hx⟩ : ∃ x, l[k]? = some x := ⟨_, List.getElem?_eq_getElem hlt⟩
    have hs := wrapI (x := (k : Int) + 1) (by omega) (by omega)
    cases hp : (w == x)
    · repeat' (first
    | (refine hK _ _ ?_; clear hK hC; clear K C)
    | (refine hK _ _ rfl ?_; clear hK hC; clear K C)
    | (refine AW.seqR fun K C hK hC => ?_; simp only [go_sem, ↓reduceIte, reduceCtorEq, Nat.reduceLT, Nat.reduceEqDiff, Nat.reduceBEq, Nat.reduceAdd, Nat.reduceSub, Nat.reduceMul, Nat.reduceLeDiff, Int.reduceLE, Int.reduceLT, Int.reduceNeg, Int.reduceEq, Int.reduceBEq, Int.reduceBNe, Int.reduceToNat, hx, hlt, hs, hp, eWord])
    | (refine AW.seqD rfl fun K C hK hC => ?_; simp only [go_sem, ↓reduceIte, reduceCtorEq, Nat.reduceLT, Nat.reduceEqDiff, Nat.reduceBEq, Nat.reduceAdd, Nat.reduceSub, Nat.reduceMul, Nat.reduceLeDiff, Int.reduceLE, Int.reduceLT, Int.reduceNeg, Int.reduceEq, Int.reduceBEq, Int.reduceBNe, Int.reduceToNat, hx, hlt, hs, hp, eWord])
    | (refine AW.reg fun K C hK hC => ?_; simp only [go_sem, ↓reduceIte, reduceCtorEq, Nat.reduceLT, Nat.reduceEqDiff, Nat.reduceBEq, Nat.reduceAdd, Nat.reduceSub, Nat.reduceMul, Nat.reduceLeDiff, Int.reduceLE, Int.reduceLT, Int.reduceNeg, Int.reduceEq, Int.reduceBEq, Int.reduceBNe, Int.reduceToNat, hx, hlt, hs, hp, eWord])
    | refine AW.seqS ?_
    | (refine AW.ret ?_; simp only [go_sem, ↓reduceIte, reduceCtorEq, Nat.reduceLT, Nat.reduceEqDiff, Nat.reduceBEq, Nat.reduceAdd, Nat.reduceSub, Nat.reduceMul, Nat.reduceLeDiff, Int.reduceLE, Int.reduceLT, Int.reduceNeg, Int.reduceEq, Int.reduceBEq, Int.reduceBNe, Int.reduceToNat, hx, hlt, hs, hp, eWord])
    | (refine AW.cond rfl (fun h => ?_) (fun h => ?_) <;> (try simp only [decide_eq_true_eq, decide_eq_false_iff_not, bne_iff_ne, beq_iff_eq, bne_eq_false_iff_eq, beq_eq_false_iff_ne, ne_eq, ge_iff_le, gt_iff_lt, Bool.not_eq_true, Bool.not_eq_false, Bool.not_not, Bool.not_true, Bool.not_false, Int.not_le, Int.not_lt, not_true_eq_false, not_false_eq_true, reduceCtorEq, Bool.false_eq_true, Bool.not_eq_true', Bool.not_eq_false'] at h) <;> first | (exfalso; omega) | skip)
    | refine AW.skip ?_
    | refine AW.seq ?_
    | refine AW.block ?_
    | (refine AW.exit ?_; simp only [go_sem, ↓reduceIte, reduceCtorEq, Nat.reduceLT, Nat.reduceEqDiff, Nat.reduceBEq, Nat.reduceAdd, Nat.reduceSub, Nat.reduceMul, Nat.reduceLeDiff, Int.reduceLE, Int.reduceLT, Int.reduceNeg, Int.reduceEq, Int.reduceBEq, Int.reduceBNe, Int.reduceToNat, hx, hlt, hs, hp, eWord])
    | (refine ite_on (fun h => ?_) (fun h => ?_) <;> (try simp only [decide_eq_true_eq, decide_eq_false_iff_not, bne_iff_ne, beq_iff_eq, bne_eq_false_iff_eq, beq_eq_false_iff_ne, ne_eq, ge_iff_le, gt_iff_lt, Bool.not_eq_true, Bool.not_eq_false, Bool.not_not, Bool.not_true, Bool.not_false, Int.not_le, Int.not_lt, not_true_eq_false, not_false_eq_true, reduceCtorEq, Bool.false_eq_true, Bool.not_eq_true', Bool.not_eq_false'] at h) <;> first | (exfalso; omega) | skip)
    | rw [thenN]
    | rw [blockN]
    | rw [scopeN]
    | refine AW.scope ?_
    | refine AW.label ?_
    | refine And.intro ?_ ?_
    | refine lcons rfl ?_
    | exact lGram _
    | exact lSeen _
    | exact lWord _
    | exact lSealed _
    | exact lRun _
    | exact lPerson _
    | exact lEvent _
    | exact lLeak _
    | exact lNum _
    | exact lOprn _
    | exact in64 (by omega) (by omega)
    | exact in32 (by omega) (by omega)
    | omega)
      refine ⟨l.length - (k + 1), by omega, _, ⟨k + 1, rfl, by omega, idxOf_next ht hx hp, rfl⟩, ?_⟩
      (refine ⟨rfl, ?_, ?_, ?_⟩ <;> repeat' (first | exact LeT.junk | exact LeM.none | exact LiveM.none | refine LeT.nil0 (by simp only [go_sem, ↓reduceIte, reduceCtorEq, Nat.reduceLT, Nat.reduceEqDiff, Nat.reduceBEq, Nat.reduceAdd, Nat.reduceSub, Nat.reduceMul, Nat.reduceLeDiff, Int.reduceLE, Int.reduceLT, Int.reduceNeg, Int.reduceEq, Int.reduceBEq, Int.reduceBNe, Int.reduceToNat]; done) ?_ | refine LeT.same ?_ ?_ ?_ | refine LeM.same ?_ ?_ | refine LiveM.upd ?_ ?_ | trivial | (simp only [go_sem, ↓reduceIte, reduceCtorEq, Nat.reduceLT, Nat.reduceEqDiff, Nat.reduceBEq, Nat.reduceAdd, Nat.reduceSub, Nat.reduceMul, Nat.reduceLeDiff, Int.reduceLE, Int.reduceLT, Int.reduceNeg, Int.reduceEq, Int.reduceBEq, Int.reduceBNe, Int.reduceToNat]; done) | rfl))
    · repeat' (first
    | (refine hK _ _ ?_; clear hK hC; clear K C)
    | (refine hK _ _ rfl ?_; clear hK hC; clear K C)
    | (refine AW.seqR fun K C hK hC => ?_; simp only [go_sem, ↓reduceIte, reduceCtorEq, Nat.reduceLT, Nat.reduceEqDiff, Nat.reduceBEq, Nat.reduceAdd, Nat.reduceSub, Nat.reduceMul, Nat.reduceLeDiff, Int.reduceLE, Int.reduceLT, Int.reduceNeg, Int.reduceEq, Int.reduceBEq, Int.reduceBNe, Int.reduceToNat, hx, hlt, hs, hp, eWord])
    | (refine AW.seqD rfl fun K C hK hC => ?_; simp only [go_sem, ↓reduceIte, reduceCtorEq, Nat.reduceLT, Nat.reduceEqDiff, Nat.reduceBEq, Nat.reduceAdd, Nat.reduceSub, Nat.reduceMul, Nat.reduceLeDiff, Int.reduceLE, Int.reduceLT, Int.reduceNeg, Int.reduceEq, Int.reduceBEq, Int.reduceBNe, Int.reduceToNat, hx, hlt, hs, hp, eWord])
    | (refine AW.reg fun K C hK hC => ?_; simp only [go_sem, ↓reduceIte, reduceCtorEq, Nat.reduceLT, Nat.reduceEqDiff, Nat.reduceBEq, Nat.reduceAdd, Nat.reduceSub, Nat.reduceMul, Nat.reduceLeDiff, Int.reduceLE, Int.reduceLT, Int.reduceNeg, Int.reduceEq, Int.reduceBEq, Int.reduceBNe, Int.reduceToNat, hx, hlt, hs, hp, eWord])
    | refine AW.seqS ?_
    | (refine AW.ret ?_; simp only [go_sem, ↓reduceIte, reduceCtorEq, Nat.reduceLT, Nat.reduceEqDiff, Nat.reduceBEq, Nat.reduceAdd, Nat.reduceSub, Nat.reduceMul, Nat.reduceLeDiff, Int.reduceLE, Int.reduceLT, Int.reduceNeg, Int.reduceEq, Int.reduceBEq, Int.reduceBNe, Int.reduceToNat, hx, hlt, hs, hp, eWord])
    | (refine AW.cond rfl (fun h => ?_) (fun h => ?_) <;> (try simp only [decide_eq_true_eq, decide_eq_false_iff_not, bne_iff_ne, beq_iff_eq, bne_eq_false_iff_eq, beq_eq_false_iff_ne, ne_eq, ge_iff_le, gt_iff_lt, Bool.not_eq_true, Bool.not_eq_false, Bool.not_not, Bool.not_true, Bool.not_false, Int.not_le, Int.not_lt, not_true_eq_false, not_false_eq_true, reduceCtorEq, Bool.false_eq_true, Bool.not_eq_true', Bool.not_eq_false'] at h) <;> first | (exfalso; omega) | skip)
    | refine AW.skip ?_
    | refine AW.seq ?_
    | refine AW.block ?_
    | (refine AW.exit ?_; simp only [go_sem, ↓reduceIte, reduceCtorEq, Nat.reduceLT, Nat.reduceEqDiff, Nat.reduceBEq, Nat.reduceAdd, Nat.reduceSub, Nat.reduceMul, Nat.reduceLeDiff, Int.reduceLE, Int.reduceLT, Int.reduceNeg, Int.reduceEq, Int.reduceBEq, Int.reduceBNe, Int.reduceToNat, hx, hlt, hs, hp, eWord])
    | (refine ite_on (fun h => ?_) (fun h => ?_) <;> (try simp only [decide_eq_true_eq, decide_eq_false_iff_not, bne_iff_ne, beq_iff_eq, bne_eq_false_iff_eq, beq_eq_false_iff_ne, ne_eq, ge_iff_le, gt_iff_lt, Bool.not_eq_true, Bool.not_eq_false, Bool.not_not, Bool.not_true, Bool.not_false, Int.not_le, Int.not_lt, not_true_eq_false, not_false_eq_true, reduceCtorEq, Bool.false_eq_true, Bool.not_eq_true', Bool.not_eq_false'] at h) <;> first | (exfalso; omega) | skip)
    | rw [thenN]
    | rw [blockN]
    | rw [scopeN]
    | refine AW.scope ?_
    | refine AW.label ?_
    | refine And.intro ?_ ?_
    | refine lcons rfl ?_
    | exact lGram _
    | exact lSeen _
    | exact lWord _
    | exact lSealed _
    | exact lRun _
    | exact lPerson _
    | exact lEvent _
    | exact lLeak _
    | exact lNum _
    | exact lOprn _
    | exact in64 (by omega) (by omega)
    | exact in32 (by omega) (by omega)
    | omega)
      rw [idxOf_some ht hx hp]
  · obtain rfl : k = l.length := by omega
    repeat' (first
    | (refine hK _ _ ?_; clear hK hC; clear K C)
    | (refine hK _ _ rfl ?_; clear hK hC; clear K C)
    | (refine AW.seqR fun K C hK hC => ?_; simp only [go_sem, ↓reduceIte, reduceCtorEq, Nat.reduceLT, Nat.reduceEqDiff, Nat.reduceBEq, Nat.reduceAdd, Nat.reduceSub, Nat.reduceMul, Nat.reduceLeDiff, Int.reduceLE, Int.reduceLT, Int.reduceNeg, Int.reduceEq, Int.reduceBEq, Int.reduceBNe, Int.reduceToNat])
    | (refine AW.seqD rfl fun K C hK hC => ?_; simp only [go_sem, ↓reduceIte, reduceCtorEq, Nat.reduceLT, Nat.reduceEqDiff, Nat.reduceBEq, Nat.reduceAdd, Nat.reduceSub, Nat.reduceMul, Nat.reduceLeDiff, Int.reduceLE, Int.reduceLT, Int.reduceNeg, Int.reduceEq, Int.reduceBEq, Int.reduceBNe, Int.reduceToNat])
    | (refine AW.reg fun K C hK hC => ?_; simp only [go_sem, ↓reduceIte, reduceCtorEq, Nat.reduceLT, Nat.reduceEqDiff, Nat.reduceBEq, Nat.reduceAdd, Nat.reduceSub, Nat.reduceMul, Nat.reduceLeDiff, Int.reduceLE, Int.reduceLT, Int.reduceNeg, Int.reduceEq, Int.reduceBEq, Int.reduceBNe, Int.reduceToNat])
    | refine AW.seqS ?_
    | (refine AW.ret ?_; simp only [go_sem, ↓reduceIte, reduceCtorEq, Nat.reduceLT, Nat.reduceEqDiff, Nat.reduceBEq, Nat.reduceAdd, Nat.reduceSub, Nat.reduceMul, Nat.reduceLeDiff, Int.reduceLE, Int.reduceLT, Int.reduceNeg, Int.reduceEq, Int.reduceBEq, Int.reduceBNe, Int.reduceToNat])
    | (refine AW.cond rfl (fun h => ?_) (fun h => ?_) <;> (try simp only [decide_eq_true_eq, decide_eq_false_iff_not, bne_iff_ne, beq_iff_eq, bne_eq_false_iff_eq, beq_eq_false_iff_ne, ne_eq, ge_iff_le, gt_iff_lt, Bool.not_eq_true, Bool.not_eq_false, Bool.not_not, Bool.not_true, Bool.not_false, Int.not_le, Int.not_lt, not_true_eq_false, not_false_eq_true, reduceCtorEq, Bool.false_eq_true, Bool.not_eq_true', Bool.not_eq_false'] at h) <;> first | (exfalso; omega) | skip)
    | refine AW.skip ?_
    | refine AW.seq ?_
    | refine AW.block ?_
    | (refine AW.exit ?_; simp only [go_sem, ↓reduceIte, reduceCtorEq, Nat.reduceLT, Nat.reduceEqDiff, Nat.reduceBEq, Nat.reduceAdd, Nat.reduceSub, Nat.reduceMul, Nat.reduceLeDiff, Int.reduceLE, Int.reduceLT, Int.reduceNeg, Int.reduceEq, Int.reduceBEq, Int.reduceBNe, Int.reduceToNat])
    | (refine ite_on (fun h => ?_) (fun h => ?_) <;> (try simp only [decide_eq_true_eq, decide_eq_false_iff_not, bne_iff_ne, beq_iff_eq, bne_eq_false_iff_eq, beq_eq_false_iff_ne, ne_eq, ge_iff_le, gt_iff_lt, Bool.not_eq_true, Bool.not_eq_false, Bool.not_not, Bool.not_true, Bool.not_false, Int.not_le, Int.not_lt, not_true_eq_false, not_false_eq_true, reduceCtorEq, Bool.false_eq_true, Bool.not_eq_true', Bool.not_eq_false'] at h) <;> first | (exfalso; omega) | skip)
    | rw [thenN]
    | rw [blockN]
    | rw [scopeN]
    | refine AW.scope ?_
    | refine AW.label ?_
    | refine And.intro ?_ ?_
    | refine lcons rfl ?_
    | exact lGram _
    | exact lSeen _
    | exact lWord _
    | exact lSealed _
    | exact lRun _
    | exact lPerson _
    | exact lEvent _
    | exact lLeak _
    | exact lNum _
    | exact lOprn _
    | exact in64 (by omega) (by omega)
    | exact in32 (by omega) (by omega)
    | omega)
    rw [idxOf_none ht]
theorem lib_contains_words (j : Nat) (l : List Int) (w : Int) :
    ACalls Try.prog 15 [.one (.rowc j (l.map eWord)), .one (u32 w)] (rB (hasB l w)) := by
  refine ACalls.intro (fn := Try.f15) rfl rfl rfl (by simp [Try.f15]) ?_
  have hq := lib_index_words j l w
  have hb : hasB l w = l.any fun x => w == x := by unfold hasB; congr 1; funext x; exact Bool.beq_comm
  rw [hb, ← idxOf_ge]
  unfold Try.f15
  simp only [rI, rB] at *
  repeat' (first
    | (refine hC ?_ ?_ ?_ ?_ ?_
       rotate_left
       · rfl
       · simp only [go_sem, ↓reduceIte, reduceCtorEq, Nat.reduceLT, Nat.reduceEqDiff, Nat.reduceBEq, Nat.reduceAdd, Nat.reduceSub, Nat.reduceMul, Nat.reduceLeDiff, Int.reduceLE, Int.reduceLT, Int.reduceNeg, Int.reduceEq, Int.reduceBEq, Int.reduceBNe, Int.reduceToNat]
       · simp only [go_sem, ↓reduceIte, reduceCtorEq, Nat.reduceLT, Nat.reduceEqDiff, Nat.reduceBEq, Nat.reduceAdd, Nat.reduceSub, Nat.reduceMul, Nat.reduceLeDiff, Int.reduceLE, Int.reduceLT, Int.reduceNeg, Int.reduceEq, Int.reduceBEq, Int.reduceBNe, Int.reduceToNat]
         first | exact hq | (refine ACalls.args (k := ?_) ?_ ?_; rotate_left; exact hq; repeat' (first | exact trivial | exact Or.inl ⟨rfl, rfl⟩ | exact Or.inr rfl | apply And.intro))
       simp only [go_sem, ↓reduceIte, reduceCtorEq, Nat.reduceLT, Nat.reduceEqDiff, Nat.reduceBEq, Nat.reduceAdd, Nat.reduceSub, Nat.reduceMul, Nat.reduceLeDiff, Int.reduceLE, Int.reduceLT, Int.reduceNeg, Int.reduceEq, Int.reduceBEq, Int.reduceBNe, Int.reduceToNat])
    | (refine hK _ _ ?_; clear hK hC; clear K C)
    | (refine hK _ _ rfl ?_; clear hK hC; clear K C)
    | (refine AW.seqR fun K C hK hC => ?_; simp only [go_sem, ↓reduceIte, reduceCtorEq, Nat.reduceLT, Nat.reduceEqDiff, Nat.reduceBEq, Nat.reduceAdd, Nat.reduceSub, Nat.reduceMul, Nat.reduceLeDiff, Int.reduceLE, Int.reduceLT, Int.reduceNeg, Int.reduceEq, Int.reduceBEq, Int.reduceBNe, Int.reduceToNat])
    | (refine AW.seqD rfl fun K C hK hC => ?_; simp only [go_sem, ↓reduceIte, reduceCtorEq, Nat.reduceLT, Nat.reduceEqDiff, Nat.reduceBEq, Nat.reduceAdd, Nat.reduceSub, Nat.reduceMul, Nat.reduceLeDiff, Int.reduceLE, Int.reduceLT, Int.reduceNeg, Int.reduceEq, Int.reduceBEq, Int.reduceBNe, Int.reduceToNat])
    | (refine AW.reg fun K C hK hC => ?_; simp only [go_sem, ↓reduceIte, reduceCtorEq, Nat.reduceLT, Nat.reduceEqDiff, Nat.reduceBEq, Nat.reduceAdd, Nat.reduceSub, Nat.reduceMul, Nat.reduceLeDiff, Int.reduceLE, Int.reduceLT, Int.reduceNeg, Int.reduceEq, Int.reduceBEq, Int.reduceBNe, Int.reduceToNat])
    | refine AW.seqS ?_
    | (refine AW.ret ?_; simp only [go_sem, ↓reduceIte, reduceCtorEq, Nat.reduceLT, Nat.reduceEqDiff, Nat.reduceBEq, Nat.reduceAdd, Nat.reduceSub, Nat.reduceMul, Nat.reduceLeDiff, Int.reduceLE, Int.reduceLT, Int.reduceNeg, Int.reduceEq, Int.reduceBEq, Int.reduceBNe, Int.reduceToNat])
    | (refine AW.cond rfl (fun h => ?_) (fun h => ?_) <;> (try simp only [decide_eq_true_eq, decide_eq_false_iff_not, bne_iff_ne, beq_iff_eq, bne_eq_false_iff_eq, beq_eq_false_iff_ne, ne_eq, ge_iff_le, gt_iff_lt, Bool.not_eq_true, Bool.not_eq_false, Bool.not_not, Bool.not_true, Bool.not_false, Int.not_le, Int.not_lt, not_true_eq_false, not_false_eq_true, reduceCtorEq, Bool.false_eq_true, Bool.not_eq_true', Bool.not_eq_false'] at h) <;> first | (exfalso; omega) | skip)
    | refine AW.skip ?_
    | refine AW.seq ?_
    | refine AW.block ?_
    | (refine AW.exit ?_; simp only [go_sem, ↓reduceIte, reduceCtorEq, Nat.reduceLT, Nat.reduceEqDiff, Nat.reduceBEq, Nat.reduceAdd, Nat.reduceSub, Nat.reduceMul, Nat.reduceLeDiff, Int.reduceLE, Int.reduceLT, Int.reduceNeg, Int.reduceEq, Int.reduceBEq, Int.reduceBNe, Int.reduceToNat])
    | (refine ite_on (fun h => ?_) (fun h => ?_) <;> (try simp only [decide_eq_true_eq, decide_eq_false_iff_not, bne_iff_ne, beq_iff_eq, bne_eq_false_iff_eq, beq_eq_false_iff_ne, ne_eq, ge_iff_le, gt_iff_lt, Bool.not_eq_true, Bool.not_eq_false, Bool.not_not, Bool.not_true, Bool.not_false, Int.not_le, Int.not_lt, not_true_eq_false, not_false_eq_true, reduceCtorEq, Bool.false_eq_true, Bool.not_eq_true', Bool.not_eq_false'] at h) <;> first | (exfalso; omega) | skip)
    | rw [thenN]
    | rw [blockN]
    | rw [scopeN]
    | refine AW.scope ?_
    | refine AW.label ?_
    | refine And.intro ?_ ?_
    | refine lcons rfl ?_
    | exact lGram _
    | exact lSeen _
    | exact lWord _
    | exact lSealed _
    | exact lRun _
    | exact lPerson _
    | exact lEvent _
    | exact lLeak _
    | exact lNum _
    | exact lOprn _
    | exact in64 (by omega) (by omega)
    | exact in32 (by omega) (by omega)
    | omega)
set_option maxHeartbeats 1000000 in
theorem p08_right (l : List Int) (room : Int) : ACalls Try.prog 8 [.one (eWords l), .one (i64 room)] (rB (usedR l room)) := by
  refine ACalls.introF (fn := Try.f8) rfl rfl rfl (by simp [Try.f8]) fun hf => ?_
  have hl := (fineWords (hf _ (by simp) : FineCA (.one (eWords l)))).1
  clear hf
  unfold Try.f8
  simp only [rB, eWords]
  by_cases hroom : room < (l.length : Int)
  · have no : usedR l room = false := by
      unfold usedR; rw [decide_eq_false (by omega), Bool.and_false]
    rw [no]
    repeat' (first
    | (refine hK _ _ ?_; clear hK hC; clear K C)
    | (refine hK _ _ rfl ?_; clear hK hC; clear K C)
    | (refine AW.seqR fun K C hK hC => ?_; simp only [go_sem, ↓reduceIte, reduceCtorEq, Nat.reduceLT, Nat.reduceEqDiff, Nat.reduceBEq, Nat.reduceAdd, Nat.reduceSub, Nat.reduceMul, Nat.reduceLeDiff, Int.reduceLE, Int.reduceLT, Int.reduceNeg, Int.reduceEq, Int.reduceBEq, Int.reduceBNe, Int.reduceToNat, hroom])
    | (refine AW.seqD rfl fun K C hK hC => ?_; simp only [go_sem, ↓reduceIte, reduceCtorEq, Nat.reduceLT, Nat.reduceEqDiff, Nat.reduceBEq, Nat.reduceAdd, Nat.reduceSub, Nat.reduceMul, Nat.reduceLeDiff, Int.reduceLE, Int.reduceLT, Int.reduceNeg, Int.reduceEq, Int.reduceBEq, Int.reduceBNe, Int.reduceToNat, hroom])
    | (refine AW.reg fun K C hK hC => ?_; simp only [go_sem, ↓reduceIte, reduceCtorEq, Nat.reduceLT, Nat.reduceEqDiff, Nat.reduceBEq, Nat.reduceAdd, Nat.reduceSub, Nat.reduceMul, Nat.reduceLeDiff, Int.reduceLE, Int.reduceLT, Int.reduceNeg, Int.reduceEq, Int.reduceBEq, Int.reduceBNe, Int.reduceToNat, hroom])
    | refine AW.seqS ?_
    | (refine AW.ret ?_; simp only [go_sem, ↓reduceIte, reduceCtorEq, Nat.reduceLT, Nat.reduceEqDiff, Nat.reduceBEq, Nat.reduceAdd, Nat.reduceSub, Nat.reduceMul, Nat.reduceLeDiff, Int.reduceLE, Int.reduceLT, Int.reduceNeg, Int.reduceEq, Int.reduceBEq, Int.reduceBNe, Int.reduceToNat, hroom])
    | (refine AW.cond rfl (fun h => ?_) (fun h => ?_) <;> (try simp only [decide_eq_true_eq, decide_eq_false_iff_not, bne_iff_ne, beq_iff_eq, bne_eq_false_iff_eq, beq_eq_false_iff_ne, ne_eq, ge_iff_le, gt_iff_lt, Bool.not_eq_true, Bool.not_eq_false, Bool.not_not, Bool.not_true, Bool.not_false, Int.not_le, Int.not_lt, not_true_eq_false, not_false_eq_true, reduceCtorEq, Bool.false_eq_true, Bool.not_eq_true', Bool.not_eq_false'] at h) <;> first | (exfalso; omega) | skip)
    | refine AW.skip ?_
    | refine AW.seq ?_
    | refine AW.block ?_
    | (refine AW.exit ?_; simp only [go_sem, ↓reduceIte, reduceCtorEq, Nat.reduceLT, Nat.reduceEqDiff, Nat.reduceBEq, Nat.reduceAdd, Nat.reduceSub, Nat.reduceMul, Nat.reduceLeDiff, Int.reduceLE, Int.reduceLT, Int.reduceNeg, Int.reduceEq, Int.reduceBEq, Int.reduceBNe, Int.reduceToNat, hroom])
    | (refine ite_on (fun h => ?_) (fun h => ?_) <;> (try simp only [decide_eq_true_eq, decide_eq_false_iff_not, bne_iff_ne, beq_iff_eq, bne_eq_false_iff_eq, beq_eq_false_iff_ne, ne_eq, ge_iff_le, gt_iff_lt, Bool.not_eq_true, Bool.not_eq_false, Bool.not_not, Bool.not_true, Bool.not_false, Int.not_le, Int.not_lt, not_true_eq_false, not_false_eq_true, reduceCtorEq, Bool.false_eq_true, Bool.not_eq_true', Bool.not_eq_false'] at h) <;> first | (exfalso; omega) | skip)
    | rw [thenN]
    | rw [blockN]
    | rw [scopeN]
    | refine AW.scope ?_
    | refine AW.label ?_
    | refine And.intro ?_ ?_
    | refine lcons rfl ?_
    | exact lGram _
    | exact lSeen _
    | exact lWord _
    | exact lSealed _
    | exact lRun _
    | exact lPerson _
    | exact lEvent _
    | exact lLeak _
    | exact lNum _
    | exact lOprn _
    | exact in64 (by omega) (by omega)
    | exact in32 (by omega) (by omega)
    | omega)
  have hu : usedR l room = distB l := by unfold usedR; rw [decide_eq_true (by omega), Bool.and_true]
  rw [hu]
  clear hu
  repeat' (first
    | (refine hK _ _ ?_; clear hK hC; clear K C)
    | (refine hK _ _ rfl ?_; clear hK hC; clear K C)
    | (refine AW.seqR fun K C hK hC => ?_; simp only [go_sem, ↓reduceIte, reduceCtorEq, Nat.reduceLT, Nat.reduceEqDiff, Nat.reduceBEq, Nat.reduceAdd, Nat.reduceSub, Nat.reduceMul, Nat.reduceLeDiff, Int.reduceLE, Int.reduceLT, Int.reduceNeg, Int.reduceEq, Int.reduceBEq, Int.reduceBNe, Int.reduceToNat, hroom])
    | (refine AW.seqD rfl fun K C hK hC => ?_; simp only [go_sem, ↓reduceIte, reduceCtorEq, Nat.reduceLT, Nat.reduceEqDiff, Nat.reduceBEq, Nat.reduceAdd, Nat.reduceSub, Nat.reduceMul, Nat.reduceLeDiff, Int.reduceLE, Int.reduceLT, Int.reduceNeg, Int.reduceEq, Int.reduceBEq, Int.reduceBNe, Int.reduceToNat, hroom])
    | (refine AW.reg fun K C hK hC => ?_; simp only [go_sem, ↓reduceIte, reduceCtorEq, Nat.reduceLT, Nat.reduceEqDiff, Nat.reduceBEq, Nat.reduceAdd, Nat.reduceSub, Nat.reduceMul, Nat.reduceLeDiff, Int.reduceLE, Int.reduceLT, Int.reduceNeg, Int.reduceEq, Int.reduceBEq, Int.reduceBNe, Int.reduceToNat, hroom])
    | refine AW.seqS ?_
    | (refine AW.ret ?_; simp only [go_sem, ↓reduceIte, reduceCtorEq, Nat.reduceLT, Nat.reduceEqDiff, Nat.reduceBEq, Nat.reduceAdd, Nat.reduceSub, Nat.reduceMul, Nat.reduceLeDiff, Int.reduceLE, Int.reduceLT, Int.reduceNeg, Int.reduceEq, Int.reduceBEq, Int.reduceBNe, Int.reduceToNat, hroom])
    | (refine AW.cond rfl (fun h => ?_) (fun h => ?_) <;> (try simp only [decide_eq_true_eq, decide_eq_false_iff_not, bne_iff_ne, beq_iff_eq, bne_eq_false_iff_eq, beq_eq_false_iff_ne, ne_eq, ge_iff_le, gt_iff_lt, Bool.not_eq_true, Bool.not_eq_false, Bool.not_not, Bool.not_true, Bool.not_false, Int.not_le, Int.not_lt, not_true_eq_false, not_false_eq_true, reduceCtorEq, Bool.false_eq_true, Bool.not_eq_true', Bool.not_eq_false'] at h) <;> first | (exfalso; omega) | skip)
    | refine AW.skip ?_
    | refine AW.seq ?_
    | refine AW.block ?_
    | (refine AW.exit ?_; simp only [go_sem, ↓reduceIte, reduceCtorEq, Nat.reduceLT, Nat.reduceEqDiff, Nat.reduceBEq, Nat.reduceAdd, Nat.reduceSub, Nat.reduceMul, Nat.reduceLeDiff, Int.reduceLE, Int.reduceLT, Int.reduceNeg, Int.reduceEq, Int.reduceBEq, Int.reduceBNe, Int.reduceToNat, hroom])
    | (refine ite_on (fun h => ?_) (fun h => ?_) <;> (try simp only [decide_eq_true_eq, decide_eq_false_iff_not, bne_iff_ne, beq_iff_eq, bne_eq_false_iff_eq, beq_eq_false_iff_ne, ne_eq, ge_iff_le, gt_iff_lt, Bool.not_eq_true, Bool.not_eq_false, Bool.not_not, Bool.not_true, Bool.not_false, Int.not_le, Int.not_lt, not_true_eq_false, not_false_eq_true, reduceCtorEq, Bool.false_eq_true, Bool.not_eq_true', Bool.not_eq_false'] at h) <;> first | (exfalso; omega) | skip)
    | rw [thenN]
    | rw [blockN]
    | rw [scopeN]
    | refine AW.scope ?_
    | refine AW.label ?_
    | refine And.intro ?_ ?_
    | refine lcons rfl ?_
    | exact lGram _
    | exact lSeen _
    | exact lWord _
    | exact lSealed _
    | exact lRun _
    | exact lPerson _
    | exact lEvent _
    | exact lLeak _
    | exact lNum _
    | exact lOprn _
    | exact in64 (by omega) (by omega)
    | exact in32 (by omega) (by omega)
    | omega)
  refine AW.loopW (fun n σ => ∃ k : Nat, n = l.length - k ∧ k ≤ l.length ∧ (∀ (i : Nat) (x : Int), i < k → l[i]? = some x → hasB (l.take i) x = false) ∧ σ = ⟨37, (upd (upd (upd (upd (fun _ => .junk) 0 (.one (.c (.row (l.map eWord))))) 13 (.one (.c (.row (l.map eWord))))) 14 (.one (.c (i64 l.length)))) 15 (.one (.c (i64 k)))), (fun _ => none)⟩) (n := l.length) _ ⟨0, rfl, Nat.zero_le _, fun i x h => by omega, rfl⟩ (by (refine ⟨rfl, ?_, ?_, ?_⟩ <;> repeat' (first | exact LeT.junk | exact LeM.none | exact LiveM.none | refine LeT.nil0 (by simp only [go_sem, ↓reduceIte, reduceCtorEq, Nat.reduceLT, Nat.reduceEqDiff, Nat.reduceBEq, Nat.reduceAdd, Nat.reduceSub, Nat.reduceMul, Nat.reduceLeDiff, Int.reduceLE, Int.reduceLT, Int.reduceNeg, Int.reduceEq, Int.reduceBEq, Int.reduceBNe, Int.reduceToNat]; done) ?_ | refine LeT.same ?_ ?_ ?_ | refine LeM.same ?_ ?_ | refine LiveM.upd ?_ ?_ | trivial | (simp only [go_sem, ↓reduceIte, reduceCtorEq, Nat.reduceLT, Nat.reduceEqDiff, Nat.reduceBEq, Nat.reduceAdd, Nat.reduceSub, Nat.reduceMul, Nat.reduceLeDiff, Int.reduceLE, Int.reduceLT, Int.reduceNeg, Int.reduceEq, Int.reduceBEq, Int.reduceBNe, Int.reduceToNat]; done) | rfl))) ?_
  rintro n σ ⟨k, rfl, hk, ht, rfl⟩
  by_cases hlt : k < l.length
  · obtain ⟨x, hx⟩ : ∃ x, l[k]? = some x := ⟨_, List.getElem?_eq_getElem hlt⟩
    have hs := wrapI (x := (k : Int) + 1) (by omega) (by omega)
    repeat' (first
    | (refine hK _ _ ?_; clear hK hC; clear K C)
    | (refine hK _ _ rfl ?_; clear hK hC; clear K C)
    | (refine AW.seqR fun K C hK hC => ?_; simp only [go_sem, ↓reduceIte, reduceCtorEq, Nat.reduceLT, Nat.reduceEqDiff, Nat.reduceBEq, Nat.reduceAdd, Nat.reduceSub, Nat.reduceMul, Nat.reduceLeDiff, Int.reduceLE, Int.reduceLT, Int.reduceNeg, Int.reduceEq, Int.reduceBEq, Int.reduceBNe, Int.reduceToNat, hx, hlt, eWord])
    | (refine AW.seqD rfl fun K C hK hC => ?_; simp only [go_sem, ↓reduceIte, reduceCtorEq, Nat.reduceLT, Nat.reduceEqDiff, Nat.reduceBEq, Nat.reduceAdd, Nat.reduceSub, Nat.reduceMul, Nat.reduceLeDiff, Int.reduceLE, Int.reduceLT, Int.reduceNeg, Int.reduceEq, Int.reduceBEq, Int.reduceBNe, Int.reduceToNat, hx, hlt, eWord])
    | (refine AW.reg fun K C hK hC => ?_; simp only [go_sem, ↓reduceIte, reduceCtorEq, Nat.reduceLT, Nat.reduceEqDiff, Nat.reduceBEq, Nat.reduceAdd, Nat.reduceSub, Nat.reduceMul, Nat.reduceLeDiff, Int.reduceLE, Int.reduceLT, Int.reduceNeg, Int.reduceEq, Int.reduceBEq, Int.reduceBNe, Int.reduceToNat, hx, hlt, eWord])
    | refine AW.seqS ?_
    | (refine AW.ret ?_; simp only [go_sem, ↓reduceIte, reduceCtorEq, Nat.reduceLT, Nat.reduceEqDiff, Nat.reduceBEq, Nat.reduceAdd, Nat.reduceSub, Nat.reduceMul, Nat.reduceLeDiff, Int.reduceLE, Int.reduceLT, Int.reduceNeg, Int.reduceEq, Int.reduceBEq, Int.reduceBNe, Int.reduceToNat, hx, hlt, eWord])
    | (refine AW.cond rfl (fun h => ?_) (fun h => ?_) <;> (try simp only [decide_eq_true_eq, decide_eq_false_iff_not, bne_iff_ne, beq_iff_eq, bne_eq_false_iff_eq, beq_eq_false_iff_ne, ne_eq, ge_iff_le, gt_iff_lt, Bool.not_eq_true, Bool.not_eq_false, Bool.not_not, Bool.not_true, Bool.not_false, Int.not_le, Int.not_lt, not_true_eq_false, not_false_eq_true, reduceCtorEq, Bool.false_eq_true, Bool.not_eq_true', Bool.not_eq_false'] at h) <;> first | (exfalso; omega) | skip)
    | refine AW.skip ?_
    | refine AW.seq ?_
    | refine AW.block ?_
    | (refine AW.exit ?_; simp only [go_sem, ↓reduceIte, reduceCtorEq, Nat.reduceLT, Nat.reduceEqDiff, Nat.reduceBEq, Nat.reduceAdd, Nat.reduceSub, Nat.reduceMul, Nat.reduceLeDiff, Int.reduceLE, Int.reduceLT, Int.reduceNeg, Int.reduceEq, Int.reduceBEq, Int.reduceBNe, Int.reduceToNat, hx, hlt, eWord])
    | (refine ite_on (fun h => ?_) (fun h => ?_) <;> (try simp only [decide_eq_true_eq, decide_eq_false_iff_not, bne_iff_ne, beq_iff_eq, bne_eq_false_iff_eq, beq_eq_false_iff_ne, ne_eq, ge_iff_le, gt_iff_lt, Bool.not_eq_true, Bool.not_eq_false, Bool.not_not, Bool.not_true, Bool.not_false, Int.not_le, Int.not_lt, not_true_eq_false, not_false_eq_true, reduceCtorEq, Bool.false_eq_true, Bool.not_eq_true', Bool.not_eq_false'] at h) <;> first | (exfalso; omega) | skip)
    | rw [thenN]
    | rw [blockN]
    | rw [scopeN]
    | refine AW.scope ?_
    | refine AW.label ?_
    | refine And.intro ?_ ?_
    | refine lcons rfl ?_
    | exact lGram _
    | exact lSeen _
    | exact lWord _
    | exact lSealed _
    | exact lRun _
    | exact lPerson _
    | exact lEvent _
    | exact lLeak _
    | exact lNum _
    | exact lOprn _
    | exact in64 (by omega) (by omega)
    | exact in32 (by omega) (by omega)
    | omega)
    refine AW.loopW (fun n σ => ∃ q : Nat, n = k - q ∧ q ≤ k ∧ hasB (l.take q) x = false ∧ σ = ⟨37, (upd (upd (upd (upd (upd (upd (upd (upd (upd (fun _ => .junk) 0 (.one (.c (.row (l.map eWord))))) 13 (.one (.c (.row (l.map eWord))))) 14 (.one (.c (i64 l.length)))) 15 (.one (.c (i64 k)))) 5 (.one (.c (i64 k)))) 6 (.one (.c (u32 x)))) 20 (.one (.c (.row (l.map eWord))))) 21 (.one (.c (i64 l.length)))) 22 (.one (.c (i64 q)))), (fun _ => none)⟩) (n := k) _ ⟨0, rfl, Nat.zero_le _, rfl, rfl⟩ (by (refine ⟨rfl, ?_, ?_, ?_⟩ <;> repeat' (first | exact LeT.junk | exact LeM.none | exact LiveM.none | refine LeT.nil0 (by simp only [go_sem, ↓reduceIte, reduceCtorEq, Nat.reduceLT, Nat.reduceEqDiff, Nat.reduceBEq, Nat.reduceAdd, Nat.reduceSub, Nat.reduceMul, Nat.reduceLeDiff, Int.reduceLE, Int.reduceLT, Int.reduceNeg, Int.reduceEq, Int.reduceBEq, Int.reduceBNe, Int.reduceToNat]; done) ?_ | refine LeT.same ?_ ?_ ?_ | refine LeM.same ?_ ?_ | refine LiveM.upd ?_ ?_ | trivial | (simp only [go_sem, ↓reduceIte, reduceCtorEq, Nat.reduceLT, Nat.reduceEqDiff, Nat.reduceBEq, Nat.reduceAdd, Nat.reduceSub, Nat.reduceMul, Nat.reduceLeDiff, Int.reduceLE, Int.reduceLT, Int.reduceNeg, Int.reduceEq, Int.reduceBEq, Int.reduceBNe, Int.reduceToNat]; done) | rfl))) ?_
    rintro n σ ⟨q, rfl, hq, hno, rfl⟩
    by_cases hqk : q < k
    · obtain ⟨y, hy⟩ : ∃ y, l[q]? = some y := ⟨_, List.getElem?_eq_getElem (by omega)⟩
      have hql : q < l.length := by omega
      have hne : ((q : Int) == (k : Int)) = false := by rw [beq_eq_false_iff_ne]; omega
      have hs2 := wrapI (x := (q : Int) + 1) (by omega) (by omega)
      cases hp : (y == x)
      · repeat' (first
    | (refine hK _ _ ?_; clear hK hC; clear K C)
    | (refine hK _ _ rfl ?_; clear hK hC; clear K C)
    | (refine AW.seqR fun K C hK hC => ?_; simp only [go_sem, ↓reduceIte, reduceCtorEq, Nat.reduceLT, Nat.reduceEqDiff, Nat.reduceBEq, Nat.reduceAdd, Nat.reduceSub, Nat.reduceMul, Nat.reduceLeDiff, Int.reduceLE, Int.reduceLT, Int.reduceNeg, Int.reduceEq, Int.reduceBEq, Int.reduceBNe, Int.reduceToNat, hy, hql, hne, hs2, hp, eWord])
    | (refine AW.seqD rfl fun K C hK hC => ?_; simp only [go_sem, ↓reduceIte, reduceCtorEq, Nat.reduceLT, Nat.reduceEqDiff, Nat.reduceBEq, Nat.reduceAdd, Nat.reduceSub, Nat.reduceMul, Nat.reduceLeDiff, Int.reduceLE, Int.reduceLT, Int.reduceNeg, Int.reduceEq, Int.reduceBEq, Int.reduceBNe, Int.reduceToNat, hy, hql, hne, hs2, hp, eWord])
    | (refine AW.reg fun K C hK hC => ?_; simp only [go_sem, ↓reduceIte, reduceCtorEq, Nat.reduceLT, Nat.reduceEqDiff, Nat.reduceBEq, Nat.reduceAdd, Nat.reduceSub, Nat.reduceMul, Nat.reduceLeDiff, Int.reduceLE, Int.reduceLT, Int.reduceNeg, Int.reduceEq, Int.reduceBEq, Int.reduceBNe, Int.reduceToNat, hy, hql, hne, hs2, hp, eWord])
    | refine AW.seqS ?_
    | (refine AW.ret ?_; simp only [go_sem, ↓reduceIte, reduceCtorEq, Nat.reduceLT, Nat.reduceEqDiff, Nat.reduceBEq, Nat.reduceAdd, Nat.reduceSub, Nat.reduceMul, Nat.reduceLeDiff, Int.reduceLE, Int.reduceLT, Int.reduceNeg, Int.reduceEq, Int.reduceBEq, Int.reduceBNe, Int.reduceToNat, hy, hql, hne, hs2, hp, eWord])
    | (refine AW.cond rfl (fun h => ?_) (fun h => ?_) <;> (try simp only [decide_eq_true_eq, decide_eq_false_iff_not, bne_iff_ne, beq_iff_eq, bne_eq_false_iff_eq, beq_eq_false_iff_ne, ne_eq, ge_iff_le, gt_iff_lt, Bool.not_eq_true, Bool.not_eq_false, Bool.not_not, Bool.not_true, Bool.not_false, Int.not_le, Int.not_lt, not_true_eq_false, not_false_eq_true, reduceCtorEq, Bool.false_eq_true, Bool.not_eq_true', Bool.not_eq_false'] at h) <;> first | (exfalso; omega) | skip)
    | refine AW.skip ?_
    | refine AW.seq ?_
    | refine AW.block ?_
    | (refine AW.exit ?_; simp only [go_sem, ↓reduceIte, reduceCtorEq, Nat.reduceLT, Nat.reduceEqDiff, Nat.reduceBEq, Nat.reduceAdd, Nat.reduceSub, Nat.reduceMul, Nat.reduceLeDiff, Int.reduceLE, Int.reduceLT, Int.reduceNeg, Int.reduceEq, Int.reduceBEq, Int.reduceBNe, Int.reduceToNat, hy, hql, hne, hs2, hp, eWord])
    | (refine ite_on (fun h => ?_) (fun h => ?_) <;> (try simp only [decide_eq_true_eq, decide_eq_false_iff_not, bne_iff_ne, beq_iff_eq, bne_eq_false_iff_eq, beq_eq_false_iff_ne, ne_eq, ge_iff_le, gt_iff_lt, Bool.not_eq_true, Bool.not_eq_false, Bool.not_not, Bool.not_true, Bool.not_false, Int.not_le, Int.not_lt, not_true_eq_false, not_false_eq_true, reduceCtorEq, Bool.false_eq_true, Bool.not_eq_true', Bool.not_eq_false'] at h) <;> first | (exfalso; omega) | skip)
    | rw [thenN]
    | rw [blockN]
    | rw [scopeN]
    | refine AW.scope ?_
    | refine AW.label ?_
    | refine And.intro ?_ ?_
    | refine lcons rfl ?_
    | exact lGram _
    | exact lSeen _
    | exact lWord _
    | exact lSealed _
    | exact lRun _
    | exact lPerson _
    | exact lEvent _
    | exact lLeak _
    | exact lNum _
    | exact lOprn _
    | exact in64 (by omega) (by omega)
    | exact in32 (by omega) (by omega)
    | omega)
        refine ⟨k - (q + 1), by omega, _, ⟨q + 1, rfl, by omega, hasB_next hno hy hp, rfl⟩, ?_⟩
        (refine ⟨rfl, ?_, ?_, ?_⟩ <;> repeat' (first | exact LeT.junk | exact LeM.none | exact LiveM.none | refine LeT.nil0 (by simp only [go_sem, ↓reduceIte, reduceCtorEq, Nat.reduceLT, Nat.reduceEqDiff, Nat.reduceBEq, Nat.reduceAdd, Nat.reduceSub, Nat.reduceMul, Nat.reduceLeDiff, Int.reduceLE, Int.reduceLT, Int.reduceNeg, Int.reduceEq, Int.reduceBEq, Int.reduceBNe, Int.reduceToNat]; done) ?_ | refine LeT.same ?_ ?_ ?_ | refine LeM.same ?_ ?_ | refine LiveM.upd ?_ ?_ | trivial | (simp only [go_sem, ↓reduceIte, reduceCtorEq, Nat.reduceLT, Nat.reduceEqDiff, Nat.reduceBEq, Nat.reduceAdd, Nat.reduceSub, Nat.reduceMul, Nat.reduceLeDiff, Int.reduceLE, Int.reduceLT, Int.reduceNeg, Int.reduceEq, Int.reduceBEq, Int.reduceBNe, Int.reduceToNat]; done) | rfl))
      · have no : distB l = false := by
          refine distB_no fun h => ?_
          have := h k x hx
          rw [hasB_no] at this
          rw [beq_iff_eq] at hp
          exact this (List.mem_iff_getElem?.2 ⟨q, by rw [List.getElem?_take, if_pos hqk, hy, hp]⟩)
        rw [no]
        repeat' (first
    | (refine hK _ _ ?_; clear hK hC; clear K C)
    | (refine hK _ _ rfl ?_; clear hK hC; clear K C)
    | (refine AW.seqR fun K C hK hC => ?_; simp only [go_sem, ↓reduceIte, reduceCtorEq, Nat.reduceLT, Nat.reduceEqDiff, Nat.reduceBEq, Nat.reduceAdd, Nat.reduceSub, Nat.reduceMul, Nat.reduceLeDiff, Int.reduceLE, Int.reduceLT, Int.reduceNeg, Int.reduceEq, Int.reduceBEq, Int.reduceBNe, Int.reduceToNat, hy, hql, hne, hs2, hp, eWord])
    | (refine AW.seqD rfl fun K C hK hC => ?_; simp only [go_sem, ↓reduceIte, reduceCtorEq, Nat.reduceLT, Nat.reduceEqDiff, Nat.reduceBEq, Nat.reduceAdd, Nat.reduceSub, Nat.reduceMul, Nat.reduceLeDiff, Int.reduceLE, Int.reduceLT, Int.reduceNeg, Int.reduceEq, Int.reduceBEq, Int.reduceBNe, Int.reduceToNat, hy, hql, hne, hs2, hp, eWord])
    | (refine AW.reg fun K C hK hC => ?_; simp only [go_sem, ↓reduceIte, reduceCtorEq, Nat.reduceLT, Nat.reduceEqDiff, Nat.reduceBEq, Nat.reduceAdd, Nat.reduceSub, Nat.reduceMul, Nat.reduceLeDiff, Int.reduceLE, Int.reduceLT, Int.reduceNeg, Int.reduceEq, Int.reduceBEq, Int.reduceBNe, Int.reduceToNat, hy, hql, hne, hs2, hp, eWord])
    | refine AW.seqS ?_
    | (refine AW.ret ?_; simp only [go_sem, ↓reduceIte, reduceCtorEq, Nat.reduceLT, Nat.reduceEqDiff, Nat.reduceBEq, Nat.reduceAdd, Nat.reduceSub, Nat.reduceMul, Nat.reduceLeDiff, Int.reduceLE, Int.reduceLT, Int.reduceNeg, Int.reduceEq, Int.reduceBEq, Int.reduceBNe, Int.reduceToNat, hy, hql, hne, hs2, hp, eWord])
    | (refine AW.cond rfl (fun h => ?_) (fun h => ?_) <;> (try simp only [decide_eq_true_eq, decide_eq_false_iff_not, bne_iff_ne, beq_iff_eq, bne_eq_false_iff_eq, beq_eq_false_iff_ne, ne_eq, ge_iff_le, gt_iff_lt, Bool.not_eq_true, Bool.not_eq_false, Bool.not_not, Bool.not_true, Bool.not_false, Int.not_le, Int.not_lt, not_true_eq_false, not_false_eq_true, reduceCtorEq, Bool.false_eq_true, Bool.not_eq_true', Bool.not_eq_false'] at h) <;> first | (exfalso; omega) | skip)
    | refine AW.skip ?_
    | refine AW.seq ?_
    | refine AW.block ?_
    | (refine AW.exit ?_; simp only [go_sem, ↓reduceIte, reduceCtorEq, Nat.reduceLT, Nat.reduceEqDiff, Nat.reduceBEq, Nat.reduceAdd, Nat.reduceSub, Nat.reduceMul, Nat.reduceLeDiff, Int.reduceLE, Int.reduceLT, Int.reduceNeg, Int.reduceEq, Int.reduceBEq, Int.reduceBNe, Int.reduceToNat, hy, hql, hne, hs2, hp, eWord])
    | (refine ite_on (fun h => ?_) (fun h => ?_) <;> (try simp only [decide_eq_true_eq, decide_eq_false_iff_not, bne_iff_ne, beq_iff_eq, bne_eq_false_iff_eq, beq_eq_false_iff_ne, ne_eq, ge_iff_le, gt_iff_lt, Bool.not_eq_true, Bool.not_eq_false, Bool.not_not, Bool.not_true, Bool.not_false, Int.not_le, Int.not_lt, not_true_eq_false, not_false_eq_true, reduceCtorEq, Bool.false_eq_true, Bool.not_eq_true', Bool.not_eq_false'] at h) <;> first | (exfalso; omega) | skip)
    | rw [thenN]
    | rw [blockN]
    | rw [scopeN]
    | refine AW.scope ?_
    | refine AW.label ?_
    | refine And.intro ?_ ?_
    | refine lcons rfl ?_
    | exact lGram _
    | exact lSeen _
    | exact lWord _
    | exact lSealed _
    | exact lRun _
    | exact lPerson _
    | exact lEvent _
    | exact lLeak _
    | exact lNum _
    | exact lOprn _
    | exact in64 (by omega) (by omega)
    | exact in32 (by omega) (by omega)
    | omega)
    · obtain rfl : q = k := by omega
      repeat' (first
    | (refine hK _ _ ?_; clear hK hC; clear K C)
    | (refine hK _ _ rfl ?_; clear hK hC; clear K C)
    | (refine AW.seqR fun K C hK hC => ?_; simp only [go_sem, ↓reduceIte, reduceCtorEq, Nat.reduceLT, Nat.reduceEqDiff, Nat.reduceBEq, Nat.reduceAdd, Nat.reduceSub, Nat.reduceMul, Nat.reduceLeDiff, Int.reduceLE, Int.reduceLT, Int.reduceNeg, Int.reduceEq, Int.reduceBEq, Int.reduceBNe, Int.reduceToNat, hx, hlt, hs, eWord, beq_self_eq_true])
    | (refine AW.seqD rfl fun K C hK hC => ?_; simp only [go_sem, ↓reduceIte, reduceCtorEq, Nat.reduceLT, Nat.reduceEqDiff, Nat.reduceBEq, Nat.reduceAdd, Nat.reduceSub, Nat.reduceMul, Nat.reduceLeDiff, Int.reduceLE, Int.reduceLT, Int.reduceNeg, Int.reduceEq, Int.reduceBEq, Int.reduceBNe, Int.reduceToNat, hx, hlt, hs, eWord, beq_self_eq_true])
    | (refine AW.reg fun K C hK hC => ?_; simp only [go_sem, ↓reduceIte, reduceCtorEq, Nat.reduceLT, Nat.reduceEqDiff, Nat.reduceBEq, Nat.reduceAdd, Nat.reduceSub, Nat.reduceMul, Nat.reduceLeDiff, Int.reduceLE, Int.reduceLT, Int.reduceNeg, Int.reduceEq, Int.reduceBEq, Int.reduceBNe, Int.reduceToNat, hx, hlt, hs, eWord, beq_self_eq_true])
    | refine AW.seqS ?_
    | (refine AW.ret ?_; simp only [go_sem, ↓reduceIte, reduceCtorEq, Nat.reduceLT, Nat.reduceEqDiff, Nat.reduceBEq, Nat.reduceAdd, Nat.reduceSub, Nat.reduceMul, Nat.reduceLeDiff, Int.reduceLE, Int.reduceLT, Int.reduceNeg, Int.reduceEq, Int.reduceBEq, Int.reduceBNe, Int.reduceToNat, hx, hlt, hs, eWord, beq_self_eq_true])
    | (refine AW.cond rfl (fun h => ?_) (fun h => ?_) <;> (try simp only [decide_eq_true_eq, decide_eq_false_iff_not, bne_iff_ne, beq_iff_eq, bne_eq_false_iff_eq, beq_eq_false_iff_ne, ne_eq, ge_iff_le, gt_iff_lt, Bool.not_eq_true, Bool.not_eq_false, Bool.not_not, Bool.not_true, Bool.not_false, Int.not_le, Int.not_lt, not_true_eq_false, not_false_eq_true, reduceCtorEq, Bool.false_eq_true, Bool.not_eq_true', Bool.not_eq_false'] at h) <;> first | (exfalso; omega) | skip)
    | refine AW.skip ?_
    | refine AW.seq ?_
    | refine AW.block ?_
    | (refine AW.exit ?_; simp only [go_sem, ↓reduceIte, reduceCtorEq, Nat.reduceLT, Nat.reduceEqDiff, Nat.reduceBEq, Nat.reduceAdd, Nat.reduceSub, Nat.reduceMul, Nat.reduceLeDiff, Int.reduceLE, Int.reduceLT, Int.reduceNeg, Int.reduceEq, Int.reduceBEq, Int.reduceBNe, Int.reduceToNat, hx, hlt, hs, eWord, beq_self_eq_true])
    | (refine ite_on (fun h => ?_) (fun h => ?_) <;> (try simp only [decide_eq_true_eq, decide_eq_false_iff_not, bne_iff_ne, beq_iff_eq, bne_eq_false_iff_eq, beq_eq_false_iff_ne, ne_eq, ge_iff_le, gt_iff_lt, Bool.not_eq_true, Bool.not_eq_false, Bool.not_not, Bool.not_true, Bool.not_false, Int.not_le, Int.not_lt, not_true_eq_false, not_false_eq_true, reduceCtorEq, Bool.false_eq_true, Bool.not_eq_true', Bool.not_eq_false'] at h) <;> first | (exfalso; omega) | skip)
    | rw [thenN]
    | rw [blockN]
    | rw [scopeN]
    | refine AW.scope ?_
    | refine AW.label ?_
    | refine And.intro ?_ ?_
    | refine lcons rfl ?_
    | exact lGram _
    | exact lSeen _
    | exact lWord _
    | exact lSealed _
    | exact lRun _
    | exact lPerson _
    | exact lEvent _
    | exact lLeak _
    | exact lNum _
    | exact lOprn _
    | exact in64 (by omega) (by omega)
    | exact in32 (by omega) (by omega)
    | omega)
      refine ⟨l.length - (q + 1), by omega, _, ⟨q + 1, rfl, by omega, fun i y hi hy => ?_, rfl⟩, ?_⟩
      · rcases Nat.lt_succ_iff_lt_or_eq.1 hi with h | rfl
        · exact ht i y h hy
        · rw [hx] at hy; cases hy; exact hno
      · (refine ⟨rfl, ?_, ?_, ?_⟩ <;> repeat' (first | exact LeT.junk | exact LeM.none | exact LiveM.none | refine LeT.nil0 (by simp only [go_sem, ↓reduceIte, reduceCtorEq, Nat.reduceLT, Nat.reduceEqDiff, Nat.reduceBEq, Nat.reduceAdd, Nat.reduceSub, Nat.reduceMul, Nat.reduceLeDiff, Int.reduceLE, Int.reduceLT, Int.reduceNeg, Int.reduceEq, Int.reduceBEq, Int.reduceBNe, Int.reduceToNat]; done) ?_ | refine LeT.same ?_ ?_ ?_ | refine LeM.same ?_ ?_ | refine LiveM.upd ?_ ?_ | trivial | (simp only [go_sem, ↓reduceIte, reduceCtorEq, Nat.reduceLT, Nat.reduceEqDiff, Nat.reduceBEq, Nat.reduceAdd, Nat.reduceSub, Nat.reduceMul, Nat.reduceLeDiff, Int.reduceLE, Int.reduceLT, Int.reduceNeg, Int.reduceEq, Int.reduceBEq, Int.reduceBNe, Int.reduceToNat]; done) | rfl))
  · obtain rfl : k = l.length := by omega
    have yes : distB l = true := distB_iff.2 fun i x hx => ht i x (List.getElem?_eq_some_iff.1 hx).1 hx
    rw [yes]
    repeat' (first
    | (refine hK _ _ ?_; clear hK hC; clear K C)
    | (refine hK _ _ rfl ?_; clear hK hC; clear K C)
    | (refine AW.seqR fun K C hK hC => ?_; simp only [go_sem, ↓reduceIte, reduceCtorEq, Nat.reduceLT, Nat.reduceEqDiff, Nat.reduceBEq, Nat.reduceAdd, Nat.reduceSub, Nat.reduceMul, Nat.reduceLeDiff, Int.reduceLE, Int.reduceLT, Int.reduceNeg, Int.reduceEq, Int.reduceBEq, Int.reduceBNe, Int.reduceToNat])
    | (refine AW.seqD rfl fun K C hK hC => ?_; simp only [go_sem, ↓reduceIte, reduceCtorEq, Nat.reduceLT, Nat.reduceEqDiff, Nat.reduceBEq, Nat.reduceAdd, Nat.reduceSub, Nat.reduceMul, Nat.reduceLeDiff, Int.reduceLE, Int.reduceLT, Int.reduceNeg, Int.reduceEq, Int.reduceBEq, Int.reduceBNe, Int.reduceToNat])
    | (refine AW.reg fun K C hK hC => ?_; simp only [go_sem, ↓reduceIte, reduceCtorEq, Nat.reduceLT, Nat.reduceEqDiff, Nat.reduceBEq, Nat.reduceAdd, Nat.reduceSub, Nat.reduceMul, Nat.reduceLeDiff, Int.reduceLE, Int.reduceLT, Int.reduceNeg, Int.reduceEq, Int.reduceBEq, Int.reduceBNe, Int.reduceToNat])
    | refine AW.seqS ?_
    | (refine AW.ret ?_; simp only [go_sem, ↓reduceIte, reduceCtorEq, Nat.reduceLT, Nat.reduceEqDiff, Nat.reduceBEq, Nat.reduceAdd, Nat.reduceSub, Nat.reduceMul, Nat.reduceLeDiff, Int.reduceLE, Int.reduceLT, Int.reduceNeg, Int.reduceEq, Int.reduceBEq, Int.reduceBNe, Int.reduceToNat])
    | (refine AW.cond rfl (fun h => ?_) (fun h => ?_) <;> (try simp only [decide_eq_true_eq, decide_eq_false_iff_not, bne_iff_ne, beq_iff_eq, bne_eq_false_iff_eq, beq_eq_false_iff_ne, ne_eq, ge_iff_le, gt_iff_lt, Bool.not_eq_true, Bool.not_eq_false, Bool.not_not, Bool.not_true, Bool.not_false, Int.not_le, Int.not_lt, not_true_eq_false, not_false_eq_true, reduceCtorEq, Bool.false_eq_true, Bool.not_eq_true', Bool.not_eq_false'] at h) <;> first | (exfalso; omega) | skip)
    | refine AW.skip ?_
    | refine AW.seq ?_
    | refine AW.block ?_
    | (refine AW.exit ?_; simp only [go_sem, ↓reduceIte, reduceCtorEq, Nat.reduceLT, Nat.reduceEqDiff, Nat.reduceBEq, Nat.reduceAdd, Nat.reduceSub, Nat.reduceMul, Nat.reduceLeDiff, Int.reduceLE, Int.reduceLT, Int.reduceNeg, Int.reduceEq, Int.reduceBEq, Int.reduceBNe, Int.reduceToNat])
    | (refine ite_on (fun h => ?_) (fun h => ?_) <;> (try simp only [decide_eq_true_eq, decide_eq_false_iff_not, bne_iff_ne, beq_iff_eq, bne_eq_false_iff_eq, beq_eq_false_iff_ne, ne_eq, ge_iff_le, gt_iff_lt, Bool.not_eq_true, Bool.not_eq_false, Bool.not_not, Bool.not_true, Bool.not_false, Int.not_le, Int.not_lt, not_true_eq_false, not_false_eq_true, reduceCtorEq, Bool.false_eq_true, Bool.not_eq_true', Bool.not_eq_false'] at h) <;> first | (exfalso; omega) | skip)
    | rw [thenN]
    | rw [blockN]
    | rw [scopeN]
    | refine AW.scope ?_
    | refine AW.label ?_
    | refine And.intro ?_ ?_
    | refine lcons rfl ?_
    | exact lGram _
    | exact lSeen _
    | exact lWord _
    | exact lSealed _
    | exact lRun _
    | exact lPerson _
    | exact lEvent _
    | exact lLeak _
    | exact lNum _
    | exact lOprn _
    | exact in64 (by omega) (by omega)
    | exact in32 (by omega) (by omega)
    | omega)
theorem p08_may (j : Nat) (l : List Int) (room w : Int) : ACalls Try.prog 10 [.one (.rowc j (l.map eWord)), .one (i64 room), .one (u32 w)] (rI (mayU l room w)) := by
  refine ACalls.intro (fn := Try.f10) rfl rfl rfl (by simp [Try.f10]) ?_
  have hh := lib_contains_words j l w
  unfold Try.f10
  simp only [rI, rB] at *
  cases hb : hasB l w
  · rw [hb] at hh
    by_cases hr : room ≤ (l.length : Int)
    · repeat' (first
    | (refine hC ?_ ?_ ?_ ?_ ?_
       rotate_left
       · rfl
       · simp only [go_sem, ↓reduceIte, reduceCtorEq, Nat.reduceLT, Nat.reduceEqDiff, Nat.reduceBEq, Nat.reduceAdd, Nat.reduceSub, Nat.reduceMul, Nat.reduceLeDiff, Int.reduceLE, Int.reduceLT, Int.reduceNeg, Int.reduceEq, Int.reduceBEq, Int.reduceBNe, Int.reduceToNat, hr]
       · simp only [go_sem, ↓reduceIte, reduceCtorEq, Nat.reduceLT, Nat.reduceEqDiff, Nat.reduceBEq, Nat.reduceAdd, Nat.reduceSub, Nat.reduceMul, Nat.reduceLeDiff, Int.reduceLE, Int.reduceLT, Int.reduceNeg, Int.reduceEq, Int.reduceBEq, Int.reduceBNe, Int.reduceToNat, hr]
         first | exact hh | (refine ACalls.args (k := ?_) ?_ ?_; rotate_left; exact hh; repeat' (first | exact trivial | exact Or.inl ⟨rfl, rfl⟩ | exact Or.inr rfl | apply And.intro))
       simp only [go_sem, ↓reduceIte, reduceCtorEq, Nat.reduceLT, Nat.reduceEqDiff, Nat.reduceBEq, Nat.reduceAdd, Nat.reduceSub, Nat.reduceMul, Nat.reduceLeDiff, Int.reduceLE, Int.reduceLT, Int.reduceNeg, Int.reduceEq, Int.reduceBEq, Int.reduceBNe, Int.reduceToNat, hr])
    | (refine hK _ _ ?_; clear hK hC; clear K C)
    | (refine hK _ _ rfl ?_; clear hK hC; clear K C)
    | (refine AW.seqR fun K C hK hC => ?_; simp only [go_sem, ↓reduceIte, reduceCtorEq, Nat.reduceLT, Nat.reduceEqDiff, Nat.reduceBEq, Nat.reduceAdd, Nat.reduceSub, Nat.reduceMul, Nat.reduceLeDiff, Int.reduceLE, Int.reduceLT, Int.reduceNeg, Int.reduceEq, Int.reduceBEq, Int.reduceBNe, Int.reduceToNat, hr])
    | (refine AW.seqD rfl fun K C hK hC => ?_; simp only [go_sem, ↓reduceIte, reduceCtorEq, Nat.reduceLT, Nat.reduceEqDiff, Nat.reduceBEq, Nat.reduceAdd, Nat.reduceSub, Nat.reduceMul, Nat.reduceLeDiff, Int.reduceLE, Int.reduceLT, Int.reduceNeg, Int.reduceEq, Int.reduceBEq, Int.reduceBNe, Int.reduceToNat, hr])
    | (refine AW.reg fun K C hK hC => ?_; simp only [go_sem, ↓reduceIte, reduceCtorEq, Nat.reduceLT, Nat.reduceEqDiff, Nat.reduceBEq, Nat.reduceAdd, Nat.reduceSub, Nat.reduceMul, Nat.reduceLeDiff, Int.reduceLE, Int.reduceLT, Int.reduceNeg, Int.reduceEq, Int.reduceBEq, Int.reduceBNe, Int.reduceToNat, hr])
    | refine AW.seqS ?_
    | (refine AW.ret ?_; simp only [go_sem, ↓reduceIte, reduceCtorEq, Nat.reduceLT, Nat.reduceEqDiff, Nat.reduceBEq, Nat.reduceAdd, Nat.reduceSub, Nat.reduceMul, Nat.reduceLeDiff, Int.reduceLE, Int.reduceLT, Int.reduceNeg, Int.reduceEq, Int.reduceBEq, Int.reduceBNe, Int.reduceToNat, hr])
    | (refine AW.cond rfl (fun h => ?_) (fun h => ?_) <;> (try simp only [decide_eq_true_eq, decide_eq_false_iff_not, bne_iff_ne, beq_iff_eq, bne_eq_false_iff_eq, beq_eq_false_iff_ne, ne_eq, ge_iff_le, gt_iff_lt, Bool.not_eq_true, Bool.not_eq_false, Bool.not_not, Bool.not_true, Bool.not_false, Int.not_le, Int.not_lt, not_true_eq_false, not_false_eq_true, reduceCtorEq, Bool.false_eq_true, Bool.not_eq_true', Bool.not_eq_false'] at h) <;> first | (exfalso; omega) | skip)
    | refine AW.skip ?_
    | refine AW.seq ?_
    | refine AW.block ?_
    | (refine AW.exit ?_; simp only [go_sem, ↓reduceIte, reduceCtorEq, Nat.reduceLT, Nat.reduceEqDiff, Nat.reduceBEq, Nat.reduceAdd, Nat.reduceSub, Nat.reduceMul, Nat.reduceLeDiff, Int.reduceLE, Int.reduceLT, Int.reduceNeg, Int.reduceEq, Int.reduceBEq, Int.reduceBNe, Int.reduceToNat, hr])
    | (refine ite_on (fun h => ?_) (fun h => ?_) <;> (try simp only [decide_eq_true_eq, decide_eq_false_iff_not, bne_iff_ne, beq_iff_eq, bne_eq_false_iff_eq, beq_eq_false_iff_ne, ne_eq, ge_iff_le, gt_iff_lt, Bool.not_eq_true, Bool.not_eq_false, Bool.not_not, Bool.not_true, Bool.not_false, Int.not_le, Int.not_lt, not_true_eq_false, not_false_eq_true, reduceCtorEq, Bool.false_eq_true, Bool.not_eq_true', Bool.not_eq_false'] at h) <;> first | (exfalso; omega) | skip)
    | rw [thenN]
    | rw [blockN]
    | rw [scopeN]
    | refine AW.scope ?_
    | refine AW.label ?_
    | refine And.intro ?_ ?_
    | refine lcons rfl ?_
    | exact lGram _
    | exact lSeen _
    | exact lWord _
    | exact lSealed _
    | exact lRun _
    | exact lPerson _
    | exact lEvent _
    | exact lLeak _
    | exact lNum _
    | exact lOprn _
    | exact in64 (by omega) (by omega)
    | exact in32 (by omega) (by omega)
    | omega)
      simp [mayU, hb, hr]
    · repeat' (first
    | (refine hC ?_ ?_ ?_ ?_ ?_
       rotate_left
       · rfl
       · simp only [go_sem, ↓reduceIte, reduceCtorEq, Nat.reduceLT, Nat.reduceEqDiff, Nat.reduceBEq, Nat.reduceAdd, Nat.reduceSub, Nat.reduceMul, Nat.reduceLeDiff, Int.reduceLE, Int.reduceLT, Int.reduceNeg, Int.reduceEq, Int.reduceBEq, Int.reduceBNe, Int.reduceToNat, hr]
       · simp only [go_sem, ↓reduceIte, reduceCtorEq, Nat.reduceLT, Nat.reduceEqDiff, Nat.reduceBEq, Nat.reduceAdd, Nat.reduceSub, Nat.reduceMul, Nat.reduceLeDiff, Int.reduceLE, Int.reduceLT, Int.reduceNeg, Int.reduceEq, Int.reduceBEq, Int.reduceBNe, Int.reduceToNat, hr]
         first | exact hh | (refine ACalls.args (k := ?_) ?_ ?_; rotate_left; exact hh; repeat' (first | exact trivial | exact Or.inl ⟨rfl, rfl⟩ | exact Or.inr rfl | apply And.intro))
       simp only [go_sem, ↓reduceIte, reduceCtorEq, Nat.reduceLT, Nat.reduceEqDiff, Nat.reduceBEq, Nat.reduceAdd, Nat.reduceSub, Nat.reduceMul, Nat.reduceLeDiff, Int.reduceLE, Int.reduceLT, Int.reduceNeg, Int.reduceEq, Int.reduceBEq, Int.reduceBNe, Int.reduceToNat, hr])
    | (refine hK _ _ ?_; clear hK hC; clear K C)
    | (refine hK _ _ rfl ?_; clear hK hC; clear K C)
    | (refine AW.seqR fun K C hK hC => ?_; simp only [go_sem, ↓reduceIte, reduceCtorEq, Nat.reduceLT, Nat.reduceEqDiff, Nat.reduceBEq, Nat.reduceAdd, Nat.reduceSub, Nat.reduceMul, Nat.reduceLeDiff, Int.reduceLE, Int.reduceLT, Int.reduceNeg, Int.reduceEq, Int.reduceBEq, Int.reduceBNe, Int.reduceToNat, hr])
    | (refine AW.seqD rfl fun K C hK hC => ?_; simp only [go_sem, ↓reduceIte, reduceCtorEq, Nat.reduceLT, Nat.reduceEqDiff, Nat.reduceBEq, Nat.reduceAdd, Nat.reduceSub, Nat.reduceMul, Nat.reduceLeDiff, Int.reduceLE, Int.reduceLT, Int.reduceNeg, Int.reduceEq, Int.reduceBEq, Int.reduceBNe, Int.reduceToNat, hr])
    | (refine AW.reg fun K C hK hC => ?_; simp only [go_sem, ↓reduceIte, reduceCtorEq, Nat.reduceLT, Nat.reduceEqDiff, Nat.reduceBEq, Nat.reduceAdd, Nat.reduceSub, Nat.reduceMul, Nat.reduceLeDiff, Int.reduceLE, Int.reduceLT, Int.reduceNeg, Int.reduceEq, Int.reduceBEq, Int.reduceBNe, Int.reduceToNat, hr])
    | refine AW.seqS ?_
    | (refine AW.ret ?_; simp only [go_sem, ↓reduceIte, reduceCtorEq, Nat.reduceLT, Nat.reduceEqDiff, Nat.reduceBEq, Nat.reduceAdd, Nat.reduceSub, Nat.reduceMul, Nat.reduceLeDiff, Int.reduceLE, Int.reduceLT, Int.reduceNeg, Int.reduceEq, Int.reduceBEq, Int.reduceBNe, Int.reduceToNat, hr])
    | (refine AW.cond rfl (fun h => ?_) (fun h => ?_) <;> (try simp only [decide_eq_true_eq, decide_eq_false_iff_not, bne_iff_ne, beq_iff_eq, bne_eq_false_iff_eq, beq_eq_false_iff_ne, ne_eq, ge_iff_le, gt_iff_lt, Bool.not_eq_true, Bool.not_eq_false, Bool.not_not, Bool.not_true, Bool.not_false, Int.not_le, Int.not_lt, not_true_eq_false, not_false_eq_true, reduceCtorEq, Bool.false_eq_true, Bool.not_eq_true', Bool.not_eq_false'] at h) <;> first | (exfalso; omega) | skip)
    | refine AW.skip ?_
    | refine AW.seq ?_
    | refine AW.block ?_
    | (refine AW.exit ?_; simp only [go_sem, ↓reduceIte, reduceCtorEq, Nat.reduceLT, Nat.reduceEqDiff, Nat.reduceBEq, Nat.reduceAdd, Nat.reduceSub, Nat.reduceMul, Nat.reduceLeDiff, Int.reduceLE, Int.reduceLT, Int.reduceNeg, Int.reduceEq, Int.reduceBEq, Int.reduceBNe, Int.reduceToNat, hr])
    | (refine ite_on (fun h => ?_) (fun h => ?_) <;> (try simp only [decide_eq_true_eq, decide_eq_false_iff_not, bne_iff_ne, beq_iff_eq, bne_eq_false_iff_eq, beq_eq_false_iff_ne, ne_eq, ge_iff_le, gt_iff_lt, Bool.not_eq_true, Bool.not_eq_false, Bool.not_not, Bool.not_true, Bool.not_false, Int.not_le, Int.not_lt, not_true_eq_false, not_false_eq_true, reduceCtorEq, Bool.false_eq_true, Bool.not_eq_true', Bool.not_eq_false'] at h) <;> first | (exfalso; omega) | skip)
    | rw [thenN]
    | rw [blockN]
    | rw [scopeN]
    | refine AW.scope ?_
    | refine AW.label ?_
    | refine And.intro ?_ ?_
    | refine lcons rfl ?_
    | exact lGram _
    | exact lSeen _
    | exact lWord _
    | exact lSealed _
    | exact lRun _
    | exact lPerson _
    | exact lEvent _
    | exact lLeak _
    | exact lNum _
    | exact lOprn _
    | exact in64 (by omega) (by omega)
    | exact in32 (by omega) (by omega)
    | omega)
      simp [mayU, hb, hr]
  · rw [hb] at hh
    repeat' (first
    | (refine hC ?_ ?_ ?_ ?_ ?_
       rotate_left
       · rfl
       · simp only [go_sem, ↓reduceIte, reduceCtorEq, Nat.reduceLT, Nat.reduceEqDiff, Nat.reduceBEq, Nat.reduceAdd, Nat.reduceSub, Nat.reduceMul, Nat.reduceLeDiff, Int.reduceLE, Int.reduceLT, Int.reduceNeg, Int.reduceEq, Int.reduceBEq, Int.reduceBNe, Int.reduceToNat]
       · simp only [go_sem, ↓reduceIte, reduceCtorEq, Nat.reduceLT, Nat.reduceEqDiff, Nat.reduceBEq, Nat.reduceAdd, Nat.reduceSub, Nat.reduceMul, Nat.reduceLeDiff, Int.reduceLE, Int.reduceLT, Int.reduceNeg, Int.reduceEq, Int.reduceBEq, Int.reduceBNe, Int.reduceToNat]
         first | exact hh | (refine ACalls.args (k := ?_) ?_ ?_; rotate_left; exact hh; repeat' (first | exact trivial | exact Or.inl ⟨rfl, rfl⟩ | exact Or.inr rfl | apply And.intro))
       simp only [go_sem, ↓reduceIte, reduceCtorEq, Nat.reduceLT, Nat.reduceEqDiff, Nat.reduceBEq, Nat.reduceAdd, Nat.reduceSub, Nat.reduceMul, Nat.reduceLeDiff, Int.reduceLE, Int.reduceLT, Int.reduceNeg, Int.reduceEq, Int.reduceBEq, Int.reduceBNe, Int.reduceToNat])
    | (refine hK _ _ ?_; clear hK hC; clear K C)
    | (refine hK _ _ rfl ?_; clear hK hC; clear K C)
    | (refine AW.seqR fun K C hK hC => ?_; simp only [go_sem, ↓reduceIte, reduceCtorEq, Nat.reduceLT, Nat.reduceEqDiff, Nat.reduceBEq, Nat.reduceAdd, Nat.reduceSub, Nat.reduceMul, Nat.reduceLeDiff, Int.reduceLE, Int.reduceLT, Int.reduceNeg, Int.reduceEq, Int.reduceBEq, Int.reduceBNe, Int.reduceToNat])
    | (refine AW.seqD rfl fun K C hK hC => ?_; simp only [go_sem, ↓reduceIte, reduceCtorEq, Nat.reduceLT, Nat.reduceEqDiff, Nat.reduceBEq, Nat.reduceAdd, Nat.reduceSub, Nat.reduceMul, Nat.reduceLeDiff, Int.reduceLE, Int.reduceLT, Int.reduceNeg, Int.reduceEq, Int.reduceBEq, Int.reduceBNe, Int.reduceToNat])
    | (refine AW.reg fun K C hK hC => ?_; simp only [go_sem, ↓reduceIte, reduceCtorEq, Nat.reduceLT, Nat.reduceEqDiff, Nat.reduceBEq, Nat.reduceAdd, Nat.reduceSub, Nat.reduceMul, Nat.reduceLeDiff, Int.reduceLE, Int.reduceLT, Int.reduceNeg, Int.reduceEq, Int.reduceBEq, Int.reduceBNe, Int.reduceToNat])
    | refine AW.seqS ?_
    | (refine AW.ret ?_; simp only [go_sem, ↓reduceIte, reduceCtorEq, Nat.reduceLT, Nat.reduceEqDiff, Nat.reduceBEq, Nat.reduceAdd, Nat.reduceSub, Nat.reduceMul, Nat.reduceLeDiff, Int.reduceLE, Int.reduceLT, Int.reduceNeg, Int.reduceEq, Int.reduceBEq, Int.reduceBNe, Int.reduceToNat])
    | (refine AW.cond rfl (fun h => ?_) (fun h => ?_) <;> (try simp only [decide_eq_true_eq, decide_eq_false_iff_not, bne_iff_ne, beq_iff_eq, bne_eq_false_iff_eq, beq_eq_false_iff_ne, ne_eq, ge_iff_le, gt_iff_lt, Bool.not_eq_true, Bool.not_eq_false, Bool.not_not, Bool.not_true, Bool.not_false, Int.not_le, Int.not_lt, not_true_eq_false, not_false_eq_true, reduceCtorEq, Bool.false_eq_true, Bool.not_eq_true', Bool.not_eq_false'] at h) <;> first | (exfalso; omega) | skip)
    | refine AW.skip ?_
    | refine AW.seq ?_
    | refine AW.block ?_
    | (refine AW.exit ?_; simp only [go_sem, ↓reduceIte, reduceCtorEq, Nat.reduceLT, Nat.reduceEqDiff, Nat.reduceBEq, Nat.reduceAdd, Nat.reduceSub, Nat.reduceMul, Nat.reduceLeDiff, Int.reduceLE, Int.reduceLT, Int.reduceNeg, Int.reduceEq, Int.reduceBEq, Int.reduceBNe, Int.reduceToNat])
    | (refine ite_on (fun h => ?_) (fun h => ?_) <;> (try simp only [decide_eq_true_eq, decide_eq_false_iff_not, bne_iff_ne, beq_iff_eq, bne_eq_false_iff_eq, beq_eq_false_iff_ne, ne_eq, ge_iff_le, gt_iff_lt, Bool.not_eq_true, Bool.not_eq_false, Bool.not_not, Bool.not_true, Bool.not_false, Int.not_le, Int.not_lt, not_true_eq_false, not_false_eq_true, reduceCtorEq, Bool.false_eq_true, Bool.not_eq_true', Bool.not_eq_false'] at h) <;> first | (exfalso; omega) | skip)
    | rw [thenN]
    | rw [blockN]
    | rw [scopeN]
    | refine AW.scope ?_
    | refine AW.label ?_
    | refine And.intro ?_ ?_
    | refine lcons rfl ?_
    | exact lGram _
    | exact lSeen _
    | exact lWord _
    | exact lSealed _
    | exact lRun _
    | exact lPerson _
    | exact lEvent _
    | exact lLeak _
    | exact lNum _
    | exact lOprn _
    | exact in64 (by omega) (by omega)
    | exact in32 (by omega) (by omega)
    | omega)
    simp [mayU, hb]
def noteC (j : Nat) (l : List Int) (room w : Int) : CV := if mayU l room w = 0 then eWords (l ++ [w]) else .rowc j (l.map eWord)
theorem p08_note (j : Nat) (l : List Int) (room w : Int) (hl : l.length < 1000000) : ACalls Try.prog 11 [.one (.rowc j (l.map eWord)), .one (i64 room), .one (u32 w)] (.tup [.one (noteC j l room w), .one (i64 (mayU l room w))]) := by
  refine ACalls.intro (fn := Try.f11) rfl rfl rfl (by simp [Try.f11]) ?_
  have hq := p08_may j l room w
  have hc := lib_concatC_words [(j, l), (0, [w])] (by simp) (by simp; omega)
  simp only [List.map_cons, List.map_nil, List.flatten_cons, List.flatten_nil, List.append_nil, List.map_append, eWord.eq_1 w] at hc
  unfold Try.f11
  simp only [rI] at *
  by_cases h0 : mayU l room w = 0
  · have hb : (mayU l room w != 0) = false := by simp [h0]
    repeat' (first
    | (refine hC ?_ ?_ ?_ ?_ ?_
       rotate_left
       · rfl
       · simp only [go_sem, ↓reduceIte, reduceCtorEq, Nat.reduceLT, Nat.reduceEqDiff, Nat.reduceBEq, Nat.reduceAdd, Nat.reduceSub, Nat.reduceMul, Nat.reduceLeDiff, Int.reduceLE, Int.reduceLT, Int.reduceNeg, Int.reduceEq, Int.reduceBEq, Int.reduceBNe, Int.reduceToNat, hb, Nat.zero_add]
       · simp only [go_sem, ↓reduceIte, reduceCtorEq, Nat.reduceLT, Nat.reduceEqDiff, Nat.reduceBEq, Nat.reduceAdd, Nat.reduceSub, Nat.reduceMul, Nat.reduceLeDiff, Int.reduceLE, Int.reduceLT, Int.reduceNeg, Int.reduceEq, Int.reduceBEq, Int.reduceBNe, Int.reduceToNat, hb, Nat.zero_add]
         first | exact hq | (refine ACalls.args (k := ?_) ?_ ?_; rotate_left; exact hq; repeat' (first | exact trivial | exact Or.inl ⟨rfl, rfl⟩ | exact Or.inr rfl | apply And.intro))
       simp only [go_sem, ↓reduceIte, reduceCtorEq, Nat.reduceLT, Nat.reduceEqDiff, Nat.reduceBEq, Nat.reduceAdd, Nat.reduceSub, Nat.reduceMul, Nat.reduceLeDiff, Int.reduceLE, Int.reduceLT, Int.reduceNeg, Int.reduceEq, Int.reduceBEq, Int.reduceBNe, Int.reduceToNat, hb, Nat.zero_add])
    | (refine hC ?_ ?_ ?_ ?_ ?_
       rotate_left
       · rfl
       · simp only [go_sem, ↓reduceIte, reduceCtorEq, Nat.reduceLT, Nat.reduceEqDiff, Nat.reduceBEq, Nat.reduceAdd, Nat.reduceSub, Nat.reduceMul, Nat.reduceLeDiff, Int.reduceLE, Int.reduceLT, Int.reduceNeg, Int.reduceEq, Int.reduceBEq, Int.reduceBNe, Int.reduceToNat, hb, Nat.zero_add]
       · simp only [go_sem, ↓reduceIte, reduceCtorEq, Nat.reduceLT, Nat.reduceEqDiff, Nat.reduceBEq, Nat.reduceAdd, Nat.reduceSub, Nat.reduceMul, Nat.reduceLeDiff, Int.reduceLE, Int.reduceLT, Int.reduceNeg, Int.reduceEq, Int.reduceBEq, Int.reduceBNe, Int.reduceToNat, hb, Nat.zero_add]
         first | exact hc | (refine ACalls.args (k := ?_) ?_ ?_; rotate_left; exact hc; repeat' (first | exact trivial | exact Or.inl ⟨rfl, rfl⟩ | exact Or.inr rfl | apply And.intro))
       simp only [go_sem, ↓reduceIte, reduceCtorEq, Nat.reduceLT, Nat.reduceEqDiff, Nat.reduceBEq, Nat.reduceAdd, Nat.reduceSub, Nat.reduceMul, Nat.reduceLeDiff, Int.reduceLE, Int.reduceLT, Int.reduceNeg, Int.reduceEq, Int.reduceBEq, Int.reduceBNe, Int.reduceToNat, hb, Nat.zero_add])
    | (refine hK _ _ ?_; clear hK hC; clear K C)
    | (refine hK _ _ rfl ?_; clear hK hC; clear K C)
    | (refine AW.seqR fun K C hK hC => ?_; simp only [go_sem, ↓reduceIte, reduceCtorEq, Nat.reduceLT, Nat.reduceEqDiff, Nat.reduceBEq, Nat.reduceAdd, Nat.reduceSub, Nat.reduceMul, Nat.reduceLeDiff, Int.reduceLE, Int.reduceLT, Int.reduceNeg, Int.reduceEq, Int.reduceBEq, Int.reduceBNe, Int.reduceToNat, hb, Nat.zero_add])
    | (refine AW.seqD rfl fun K C hK hC => ?_; simp only [go_sem, ↓reduceIte, reduceCtorEq, Nat.reduceLT, Nat.reduceEqDiff, Nat.reduceBEq, Nat.reduceAdd, Nat.reduceSub, Nat.reduceMul, Nat.reduceLeDiff, Int.reduceLE, Int.reduceLT, Int.reduceNeg, Int.reduceEq, Int.reduceBEq, Int.reduceBNe, Int.reduceToNat, hb, Nat.zero_add])
    | (refine AW.reg fun K C hK hC => ?_; simp only [go_sem, ↓reduceIte, reduceCtorEq, Nat.reduceLT, Nat.reduceEqDiff, Nat.reduceBEq, Nat.reduceAdd, Nat.reduceSub, Nat.reduceMul, Nat.reduceLeDiff, Int.reduceLE, Int.reduceLT, Int.reduceNeg, Int.reduceEq, Int.reduceBEq, Int.reduceBNe, Int.reduceToNat, hb, Nat.zero_add])
    | refine AW.seqS ?_
    | (refine AW.ret ?_; simp only [go_sem, ↓reduceIte, reduceCtorEq, Nat.reduceLT, Nat.reduceEqDiff, Nat.reduceBEq, Nat.reduceAdd, Nat.reduceSub, Nat.reduceMul, Nat.reduceLeDiff, Int.reduceLE, Int.reduceLT, Int.reduceNeg, Int.reduceEq, Int.reduceBEq, Int.reduceBNe, Int.reduceToNat, hb, Nat.zero_add])
    | (refine AW.cond rfl (fun h => ?_) (fun h => ?_) <;> (try simp only [decide_eq_true_eq, decide_eq_false_iff_not, bne_iff_ne, beq_iff_eq, bne_eq_false_iff_eq, beq_eq_false_iff_ne, ne_eq, ge_iff_le, gt_iff_lt, Bool.not_eq_true, Bool.not_eq_false, Bool.not_not, Bool.not_true, Bool.not_false, Int.not_le, Int.not_lt, not_true_eq_false, not_false_eq_true, reduceCtorEq, Bool.false_eq_true, Bool.not_eq_true', Bool.not_eq_false'] at h) <;> first | (exfalso; omega) | skip)
    | refine AW.skip ?_
    | refine AW.seq ?_
    | refine AW.block ?_
    | (refine AW.exit ?_; simp only [go_sem, ↓reduceIte, reduceCtorEq, Nat.reduceLT, Nat.reduceEqDiff, Nat.reduceBEq, Nat.reduceAdd, Nat.reduceSub, Nat.reduceMul, Nat.reduceLeDiff, Int.reduceLE, Int.reduceLT, Int.reduceNeg, Int.reduceEq, Int.reduceBEq, Int.reduceBNe, Int.reduceToNat, hb, Nat.zero_add])
    | (refine ite_on (fun h => ?_) (fun h => ?_) <;> (try simp only [decide_eq_true_eq, decide_eq_false_iff_not, bne_iff_ne, beq_iff_eq, bne_eq_false_iff_eq, beq_eq_false_iff_ne, ne_eq, ge_iff_le, gt_iff_lt, Bool.not_eq_true, Bool.not_eq_false, Bool.not_not, Bool.not_true, Bool.not_false, Int.not_le, Int.not_lt, not_true_eq_false, not_false_eq_true, reduceCtorEq, Bool.false_eq_true, Bool.not_eq_true', Bool.not_eq_false'] at h) <;> first | (exfalso; omega) | skip)
    | rw [thenN]
    | rw [blockN]
    | rw [scopeN]
    | refine AW.scope ?_
    | refine AW.label ?_
    | refine And.intro ?_ ?_
    | refine lcons rfl ?_
    | exact lGram _
    | exact lSeen _
    | exact lWord _
    | exact lSealed _
    | exact lRun _
    | exact lPerson _
    | exact lEvent _
    | exact lLeak _
    | exact lNum _
    | exact lOprn _
    | exact in64 (by omega) (by omega)
    | exact in32 (by omega) (by omega)
    | omega)
    simp [noteC, h0, eWords, eWord]
  · have hb : (mayU l room w != 0) = true := by simp [h0]
    repeat' (first
    | (refine hC ?_ ?_ ?_ ?_ ?_
       rotate_left
       · rfl
       · simp only [go_sem, ↓reduceIte, reduceCtorEq, Nat.reduceLT, Nat.reduceEqDiff, Nat.reduceBEq, Nat.reduceAdd, Nat.reduceSub, Nat.reduceMul, Nat.reduceLeDiff, Int.reduceLE, Int.reduceLT, Int.reduceNeg, Int.reduceEq, Int.reduceBEq, Int.reduceBNe, Int.reduceToNat, hb]
       · simp only [go_sem, ↓reduceIte, reduceCtorEq, Nat.reduceLT, Nat.reduceEqDiff, Nat.reduceBEq, Nat.reduceAdd, Nat.reduceSub, Nat.reduceMul, Nat.reduceLeDiff, Int.reduceLE, Int.reduceLT, Int.reduceNeg, Int.reduceEq, Int.reduceBEq, Int.reduceBNe, Int.reduceToNat, hb]
         first | exact hq | (refine ACalls.args (k := ?_) ?_ ?_; rotate_left; exact hq; repeat' (first | exact trivial | exact Or.inl ⟨rfl, rfl⟩ | exact Or.inr rfl | apply And.intro))
       simp only [go_sem, ↓reduceIte, reduceCtorEq, Nat.reduceLT, Nat.reduceEqDiff, Nat.reduceBEq, Nat.reduceAdd, Nat.reduceSub, Nat.reduceMul, Nat.reduceLeDiff, Int.reduceLE, Int.reduceLT, Int.reduceNeg, Int.reduceEq, Int.reduceBEq, Int.reduceBNe, Int.reduceToNat, hb])
    | (refine hK _ _ ?_; clear hK hC; clear K C)
    | (refine hK _ _ rfl ?_; clear hK hC; clear K C)
    | (refine AW.seqR fun K C hK hC => ?_; simp only [go_sem, ↓reduceIte, reduceCtorEq, Nat.reduceLT, Nat.reduceEqDiff, Nat.reduceBEq, Nat.reduceAdd, Nat.reduceSub, Nat.reduceMul, Nat.reduceLeDiff, Int.reduceLE, Int.reduceLT, Int.reduceNeg, Int.reduceEq, Int.reduceBEq, Int.reduceBNe, Int.reduceToNat, hb])
    | (refine AW.seqD rfl fun K C hK hC => ?_; simp only [go_sem, ↓reduceIte, reduceCtorEq, Nat.reduceLT, Nat.reduceEqDiff, Nat.reduceBEq, Nat.reduceAdd, Nat.reduceSub, Nat.reduceMul, Nat.reduceLeDiff, Int.reduceLE, Int.reduceLT, Int.reduceNeg, Int.reduceEq, Int.reduceBEq, Int.reduceBNe, Int.reduceToNat, hb])
    | (refine AW.reg fun K C hK hC => ?_; simp only [go_sem, ↓reduceIte, reduceCtorEq, Nat.reduceLT, Nat.reduceEqDiff, Nat.reduceBEq, Nat.reduceAdd, Nat.reduceSub, Nat.reduceMul, Nat.reduceLeDiff, Int.reduceLE, Int.reduceLT, Int.reduceNeg, Int.reduceEq, Int.reduceBEq, Int.reduceBNe, Int.reduceToNat, hb])
    | refine AW.seqS ?_
    | (refine AW.ret ?_; simp only [go_sem, ↓reduceIte, reduceCtorEq, Nat.reduceLT, Nat.reduceEqDiff, Nat.reduceBEq, Nat.reduceAdd, Nat.reduceSub, Nat.reduceMul, Nat.reduceLeDiff, Int.reduceLE, Int.reduceLT, Int.reduceNeg, Int.reduceEq, Int.reduceBEq, Int.reduceBNe, Int.reduceToNat, hb])
    | (refine AW.cond rfl (fun h => ?_) (fun h => ?_) <;> (try simp only [decide_eq_true_eq, decide_eq_false_iff_not, bne_iff_ne, beq_iff_eq, bne_eq_false_iff_eq, beq_eq_false_iff_ne, ne_eq, ge_iff_le, gt_iff_lt, Bool.not_eq_true, Bool.not_eq_false, Bool.not_not, Bool.not_true, Bool.not_false, Int.not_le, Int.not_lt, not_true_eq_false, not_false_eq_true, reduceCtorEq, Bool.false_eq_true, Bool.not_eq_true', Bool.not_eq_false'] at h) <;> first | (exfalso; omega) | skip)
    | refine AW.skip ?_
    | refine AW.seq ?_
    | refine AW.block ?_
    | (refine AW.exit ?_; simp only [go_sem, ↓reduceIte, reduceCtorEq, Nat.reduceLT, Nat.reduceEqDiff, Nat.reduceBEq, Nat.reduceAdd, Nat.reduceSub, Nat.reduceMul, Nat.reduceLeDiff, Int.reduceLE, Int.reduceLT, Int.reduceNeg, Int.reduceEq, Int.reduceBEq, Int.reduceBNe, Int.reduceToNat, hb])
    | (refine ite_on (fun h => ?_) (fun h => ?_) <;> (try simp only [decide_eq_true_eq, decide_eq_false_iff_not, bne_iff_ne, beq_iff_eq, bne_eq_false_iff_eq, beq_eq_false_iff_ne, ne_eq, ge_iff_le, gt_iff_lt, Bool.not_eq_true, Bool.not_eq_false, Bool.not_not, Bool.not_true, Bool.not_false, Int.not_le, Int.not_lt, not_true_eq_false, not_false_eq_true, reduceCtorEq, Bool.false_eq_true, Bool.not_eq_true', Bool.not_eq_false'] at h) <;> first | (exfalso; omega) | skip)
    | rw [thenN]
    | rw [blockN]
    | rw [scopeN]
    | refine AW.scope ?_
    | refine AW.label ?_
    | refine And.intro ?_ ?_
    | refine lcons rfl ?_
    | exact lGram _
    | exact lSeen _
    | exact lWord _
    | exact lSealed _
    | exact lRun _
    | exact lPerson _
    | exact lEvent _
    | exact lLeak _
    | exact lNum _
    | exact lOprn _
    | exact in64 (by omega) (by omega)
    | exact in32 (by omega) (by omega)
    | omega)
    simp [noteC, h0]
end Go.Proofs.Ytgggdiincblglaa.Abs
