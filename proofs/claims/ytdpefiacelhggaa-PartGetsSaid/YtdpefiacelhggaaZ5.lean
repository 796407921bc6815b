/- Texts that were merged: P11, L11, Open, OpenNet, OpenBox, OpenWld. -/
import Derived.Test.YtdpefiacelhggaaZ4
import Derived.Test.YtdpefiacelhggaaRows
section
/- The landed part: Put and Get. -/
set_option linter.unusedSimpArgs false
set_option linter.unusedVariables false
set_option maxRecDepth 100000
namespace Go.Proofs.Ytdpefiacelhggaa.Abs
open Go.RowKit
theorem Unr.less {P : Program} {c : Code} {σ : St} (σ' : St) {Q : Exit → St → Prop} {n : Nat} (hl : Less σ σ') (h : Unr P c Q n σ') : Unr P c Q n σ := by
  cases n with
  | zero => exact AW.lessW σ' hl h
  | succ n => exact AW.lessW σ' hl h
section
attribute [local irreducible] Unr
set_option maxHeartbeats 4000000 in
theorem p11_put2 (p : Prt) (h : mayP 2 p = true) : ACalls Try.prog 9 [.one (u32 2), .agg (ePrt p)] (.mix [(false, [.own 22 1 ((wordsP 2 p).map eWord)]), (false, [.c (i64 0)])]) := by
  refine ACalls.intro (fn := Try.f9) Try.func9 rfl rfl (by simp [Try.f9]) ?_
  have hpl := p11_places
  have hm := p11_may 2 p
  rw [h] at hm
  rw [show (wordsP 2 p).map eWord = [[u32 p.n], [u32 p.b], [u32 p.k], [u32 p.t], [u32 p.h]] from rfl]
  unfold Try.f9
  simp only [rB, ePrt, plc, rawV, labsV, atsV] at *
  refine wk1 trivial (And.intro hpl hm) (@AW.halt 4) _ ?_
  all_goals (repeat intro h)
  all_goals refine ⟨?_⟩
  refine AWs.mk (AW.name 3 rfl ?_ ?_ fun b1 hb1 => ?_)
  · simp only [go_sem, ↓reduceIte, reduceCtorEq, Nat.reduceLT, Nat.reduceEqDiff, Nat.reduceBEq, Nat.reduceAdd, Nat.reduceSub, Nat.reduceMul, Nat.reduceLeDiff, Int.reduceLE, Int.reduceLT, Int.reduceNeg, Int.reduceEq, Int.reduceBEq, Int.reduceBNe, Int.reduceToNat]
  · intro b; simp only [go_sem, ↓reduceIte, reduceCtorEq, Nat.reduceLT, Nat.reduceEqDiff, Nat.reduceBEq, Nat.reduceAdd, Nat.reduceSub, Nat.reduceMul, Nat.reduceLeDiff, Int.reduceLE, Int.reduceLT, Int.reduceNeg, Int.reduceEq, Int.reduceBEq, Int.reduceBNe, Int.reduceToNat]
  clear hb1
  refine AW.lessW ⟨30, (upd (upd (upd (fun _ => .junk) 0 (.one (.c (u32 2)))) 3 (.one (.c (rawV b1 0)))) 6 (.one .nil)), (upd (fun _ => none) (1000000+b1) (some (.obox [u32 p.n, u32 p.m, u32 p.a, u32 p.b, u32 p.k, u32 p.t, u32 p.h])))⟩ (by exact lz trivial) ?_
  simp only [rawV, plc]
  have i1 : IntKind.i64.wrap (0 + 1) = 1 := by decide
  have i2 : IntKind.i64.wrap (1 + 1) = 2 := by decide
  have i3 : IntKind.i64.wrap (2 + 1) = 3 := by decide
  have i4 : IntKind.i64.wrap (3 + 1) = 4 := by decide
  have i5 : IntKind.i64.wrap (4 + 1) = 5 := by decide
  have hwb := p11_wb b1
  have hwh := p11_wh b1
  have hwk := p11_wk b1
  have hwn := p11_wn b1
  have hwt := p11_wt b1
  simp only [rawV] at *
  refine wk1 trivial hpl trivial _ ?_
  all_goals (repeat intro h)
  all_goals refine ⟨?_⟩
  refine AW.unroll 5 ?_
  refine Unr.step ?_
  refine wk1 (And.intro i1 (And.intro i2 (And.intro i3 (And.intro i4 i5)))) (And.intro hwb (And.intro hwh (And.intro hwk (And.intro hwn hwt)))) trivial _ ?_
  all_goals (repeat intro h)
  all_goals refine ⟨?_⟩
  refine Unr.less ⟨30, (upd (upd (upd (upd (upd (fun _ => .junk) 3 (.one (.c (rawV b1 0)))) 6 (.one (.own 27 1))) 15 (.one (.c (.row [[plc 19], [plc 22], [plc 23], [plc 24], [plc 25]])))) 16 (.one (.c (i64 ((5 : Nat) : Int))))) 17 (.one (.c (i64 1)))), (upd (upd (fun _ => none) 27 (some (.rows 22 1 ([[u32 p.n]])))) (1000000+b1) (some (.obox [u32 p.n, u32 p.m, u32 p.a, u32 p.b, u32 p.k, u32 p.t, u32 p.h])))⟩ (by exact lz trivial) ?_
  simp only [rawV, plc]
  refine Unr.step ?_
  refine wk1 (And.intro i1 (And.intro i2 (And.intro i3 (And.intro i4 i5)))) (And.intro hwb (And.intro hwh (And.intro hwk (And.intro hwn hwt)))) trivial _ ?_
  all_goals (repeat intro h)
  all_goals refine ⟨?_⟩
  refine Unr.less ⟨30, (upd (upd (upd (upd (upd (fun _ => .junk) 3 (.one (.c (rawV b1 0)))) 6 (.one (.own 27 2))) 15 (.one (.c (.row [[plc 19], [plc 22], [plc 23], [plc 24], [plc 25]])))) 16 (.one (.c (i64 ((5 : Nat) : Int))))) 17 (.one (.c (i64 2)))), (upd (upd (fun _ => none) 27 (some (.rows 22 1 ([[u32 p.n], [u32 p.b]])))) (1000000+b1) (some (.obox [u32 p.n, u32 p.m, u32 p.a, u32 p.b, u32 p.k, u32 p.t, u32 p.h])))⟩ (by exact lz trivial) ?_
  simp only [rawV, plc]
  refine Unr.step ?_
  refine wk1 (And.intro i1 (And.intro i2 (And.intro i3 (And.intro i4 i5)))) (And.intro hwb (And.intro hwh (And.intro hwk (And.intro hwn hwt)))) trivial _ ?_
  all_goals (repeat intro h)
  all_goals refine ⟨?_⟩
  refine Unr.less ⟨30, (upd (upd (upd (upd (upd (fun _ => .junk) 3 (.one (.c (rawV b1 0)))) 6 (.one (.own 27 3))) 15 (.one (.c (.row [[plc 19], [plc 22], [plc 23], [plc 24], [plc 25]])))) 16 (.one (.c (i64 ((5 : Nat) : Int))))) 17 (.one (.c (i64 3)))), (upd (upd (fun _ => none) 27 (some (.rows 22 1 ([[u32 p.n], [u32 p.b], [u32 p.k]])))) (1000000+b1) (some (.obox [u32 p.n, u32 p.m, u32 p.a, u32 p.b, u32 p.k, u32 p.t, u32 p.h])))⟩ (by exact lz trivial) ?_
  simp only [rawV, plc]
  refine Unr.step ?_
  refine wk1 (And.intro i1 (And.intro i2 (And.intro i3 (And.intro i4 i5)))) (And.intro hwb (And.intro hwh (And.intro hwk (And.intro hwn hwt)))) trivial _ ?_
  all_goals (repeat intro h)
  all_goals refine ⟨?_⟩
  refine Unr.less ⟨30, (upd (upd (upd (upd (upd (fun _ => .junk) 3 (.one (.c (rawV b1 0)))) 6 (.one (.own 27 4))) 15 (.one (.c (.row [[plc 19], [plc 22], [plc 23], [plc 24], [plc 25]])))) 16 (.one (.c (i64 ((5 : Nat) : Int))))) 17 (.one (.c (i64 4)))), (upd (upd (fun _ => none) 27 (some (.rows 22 1 ([[u32 p.n], [u32 p.b], [u32 p.k], [u32 p.t]])))) (1000000+b1) (some (.obox [u32 p.n, u32 p.m, u32 p.a, u32 p.b, u32 p.k, u32 p.t, u32 p.h])))⟩ (by exact lz trivial) ?_
  simp only [rawV, plc]
  refine Unr.step ?_
  refine wk1 (And.intro i1 (And.intro i2 (And.intro i3 (And.intro i4 i5)))) (And.intro hwb (And.intro hwh (And.intro hwk (And.intro hwn hwt)))) trivial _ ?_
  all_goals (repeat intro h)
  all_goals refine ⟨?_⟩
  refine Unr.less ⟨30, (upd (upd (upd (upd (upd (fun _ => .junk) 3 (.one (.c (rawV b1 0)))) 6 (.one (.own 27 5))) 15 (.one (.c (.row [[plc 19], [plc 22], [plc 23], [plc 24], [plc 25]])))) 16 (.one (.c (i64 ((5 : Nat) : Int))))) 17 (.one (.c (i64 5)))), (upd (upd (fun _ => none) 27 (some (.rows 22 1 ([[u32 p.n], [u32 p.b], [u32 p.k], [u32 p.t], [u32 p.h]])))) (1000000+b1) (some (.obox [u32 p.n, u32 p.m, u32 p.a, u32 p.b, u32 p.k, u32 p.t, u32 p.h])))⟩ (by exact lz trivial) ?_
  simp only [rawV, plc]
  refine Unr.last ?_
  refine wk0 (And.intro i1 (And.intro i2 (And.intro i3 (And.intro i4 i5)))) trivial trivial
set_option maxHeartbeats 4000000 in
theorem p11_put3 (p : Prt) (h : mayP 3 p = true) : ACalls Try.prog 9 [.one (u32 3), .agg (ePrt p)] (.mix [(false, [.own 22 1 ((wordsP 3 p).map eWord)]), (false, [.c (i64 0)])]) := by
  refine ACalls.intro (fn := Try.f9) Try.func9 rfl rfl (by simp [Try.f9]) ?_
  have hpl := p11_places
  have hm := p11_may 3 p
  rw [h] at hm
  rw [show (wordsP 3 p).map eWord = [[u32 p.k], [u32 p.a], [u32 p.t]] from rfl]
  unfold Try.f9
  simp only [rB, ePrt, plc, rawV, labsV, atsV] at *
  refine wk1 trivial (And.intro hpl hm) (@AW.halt 4) _ ?_
  all_goals (repeat intro h)
  all_goals refine ⟨?_⟩
  refine AWs.mk (AW.name 3 rfl ?_ ?_ fun b1 hb1 => ?_)
  · simp only [go_sem, ↓reduceIte, reduceCtorEq, Nat.reduceLT, Nat.reduceEqDiff, Nat.reduceBEq, Nat.reduceAdd, Nat.reduceSub, Nat.reduceMul, Nat.reduceLeDiff, Int.reduceLE, Int.reduceLT, Int.reduceNeg, Int.reduceEq, Int.reduceBEq, Int.reduceBNe, Int.reduceToNat]
  · intro b; simp only [go_sem, ↓reduceIte, reduceCtorEq, Nat.reduceLT, Nat.reduceEqDiff, Nat.reduceBEq, Nat.reduceAdd, Nat.reduceSub, Nat.reduceMul, Nat.reduceLeDiff, Int.reduceLE, Int.reduceLT, Int.reduceNeg, Int.reduceEq, Int.reduceBEq, Int.reduceBNe, Int.reduceToNat]
  clear hb1
  refine AW.lessW ⟨30, (upd (upd (upd (fun _ => .junk) 0 (.one (.c (u32 3)))) 3 (.one (.c (rawV b1 0)))) 6 (.one .nil)), (upd (fun _ => none) (1000000+b1) (some (.obox [u32 p.n, u32 p.m, u32 p.a, u32 p.b, u32 p.k, u32 p.t, u32 p.h])))⟩ (by exact lz trivial) ?_
  simp only [rawV, plc]
  have i1 : IntKind.i64.wrap (0 + 1) = 1 := by decide
  have i2 : IntKind.i64.wrap (1 + 1) = 2 := by decide
  have i3 : IntKind.i64.wrap (2 + 1) = 3 := by decide
  have i4 : IntKind.i64.wrap (3 + 1) = 4 := by decide
  have i5 : IntKind.i64.wrap (4 + 1) = 5 := by decide
  have hwa := p11_wa b1
  have hwk := p11_wk b1
  have hwt := p11_wt b1
  simp only [rawV] at *
  refine wk1 trivial hpl trivial _ ?_
  all_goals (repeat intro h)
  all_goals refine ⟨?_⟩
  refine AW.unroll 3 ?_
  refine Unr.step ?_
  refine wk1 (And.intro i1 (And.intro i2 i3)) (And.intro hwa (And.intro hwk hwt)) trivial _ ?_
  all_goals (repeat intro h)
  all_goals refine ⟨?_⟩
  refine Unr.less ⟨30, (upd (upd (upd (upd (upd (fun _ => .junk) 3 (.one (.c (rawV b1 0)))) 6 (.one (.own 27 1))) 15 (.one (.c (.row [[plc 23], [plc 21], [plc 24]])))) 16 (.one (.c (i64 ((3 : Nat) : Int))))) 17 (.one (.c (i64 1)))), (upd (upd (fun _ => none) 27 (some (.rows 22 1 ([[u32 p.k]])))) (1000000+b1) (some (.obox [u32 p.n, u32 p.m, u32 p.a, u32 p.b, u32 p.k, u32 p.t, u32 p.h])))⟩ (by exact lz trivial) ?_
  simp only [rawV, plc]
  refine Unr.step ?_
  refine wk1 (And.intro i1 (And.intro i2 i3)) (And.intro hwa (And.intro hwk hwt)) trivial _ ?_
  all_goals (repeat intro h)
  all_goals refine ⟨?_⟩
  refine Unr.less ⟨30, (upd (upd (upd (upd (upd (fun _ => .junk) 3 (.one (.c (rawV b1 0)))) 6 (.one (.own 27 2))) 15 (.one (.c (.row [[plc 23], [plc 21], [plc 24]])))) 16 (.one (.c (i64 ((3 : Nat) : Int))))) 17 (.one (.c (i64 2)))), (upd (upd (fun _ => none) 27 (some (.rows 22 1 ([[u32 p.k], [u32 p.a]])))) (1000000+b1) (some (.obox [u32 p.n, u32 p.m, u32 p.a, u32 p.b, u32 p.k, u32 p.t, u32 p.h])))⟩ (by exact lz trivial) ?_
  simp only [rawV, plc]
  refine Unr.step ?_
  refine wk1 (And.intro i1 (And.intro i2 i3)) (And.intro hwa (And.intro hwk hwt)) trivial _ ?_
  all_goals (repeat intro h)
  all_goals refine ⟨?_⟩
  refine Unr.less ⟨30, (upd (upd (upd (upd (upd (fun _ => .junk) 3 (.one (.c (rawV b1 0)))) 6 (.one (.own 27 3))) 15 (.one (.c (.row [[plc 23], [plc 21], [plc 24]])))) 16 (.one (.c (i64 ((3 : Nat) : Int))))) 17 (.one (.c (i64 3)))), (upd (upd (fun _ => none) 27 (some (.rows 22 1 ([[u32 p.k], [u32 p.a], [u32 p.t]])))) (1000000+b1) (some (.obox [u32 p.n, u32 p.m, u32 p.a, u32 p.b, u32 p.k, u32 p.t, u32 p.h])))⟩ (by exact lz trivial) ?_
  simp only [rawV, plc]
  refine Unr.last ?_
  refine wk0 (And.intro i1 (And.intro i2 i3)) trivial trivial
set_option maxHeartbeats 4000000 in
theorem p11_put4 (p : Prt) (h : mayP 4 p = true) : ACalls Try.prog 9 [.one (u32 4), .agg (ePrt p)] (.mix [(false, [.own 22 1 ((wordsP 4 p).map eWord)]), (false, [.c (i64 0)])]) := by
  refine ACalls.intro (fn := Try.f9) Try.func9 rfl rfl (by simp [Try.f9]) ?_
  have hpl := p11_places
  have hm := p11_may 4 p
  rw [h] at hm
  rw [show (wordsP 4 p).map eWord = [[u32 p.n]] from rfl]
  unfold Try.f9
  simp only [rB, ePrt, plc, rawV, labsV, atsV] at *
  refine wk1 trivial (And.intro hpl hm) (@AW.halt 4) _ ?_
  all_goals (repeat intro h)
  all_goals refine ⟨?_⟩
  refine AWs.mk (AW.name 3 rfl ?_ ?_ fun b1 hb1 => ?_)
  · simp only [go_sem, ↓reduceIte, reduceCtorEq, Nat.reduceLT, Nat.reduceEqDiff, Nat.reduceBEq, Nat.reduceAdd, Nat.reduceSub, Nat.reduceMul, Nat.reduceLeDiff, Int.reduceLE, Int.reduceLT, Int.reduceNeg, Int.reduceEq, Int.reduceBEq, Int.reduceBNe, Int.reduceToNat]
  · intro b; simp only [go_sem, ↓reduceIte, reduceCtorEq, Nat.reduceLT, Nat.reduceEqDiff, Nat.reduceBEq, Nat.reduceAdd, Nat.reduceSub, Nat.reduceMul, Nat.reduceLeDiff, Int.reduceLE, Int.reduceLT, Int.reduceNeg, Int.reduceEq, Int.reduceBEq, Int.reduceBNe, Int.reduceToNat]
  clear hb1
  refine AW.lessW ⟨30, (upd (upd (upd (fun _ => .junk) 0 (.one (.c (u32 4)))) 3 (.one (.c (rawV b1 0)))) 6 (.one .nil)), (upd (fun _ => none) (1000000+b1) (some (.obox [u32 p.n, u32 p.m, u32 p.a, u32 p.b, u32 p.k, u32 p.t, u32 p.h])))⟩ (by exact lz trivial) ?_
  simp only [rawV, plc]
  have i1 : IntKind.i64.wrap (0 + 1) = 1 := by decide
  have i2 : IntKind.i64.wrap (1 + 1) = 2 := by decide
  have i3 : IntKind.i64.wrap (2 + 1) = 3 := by decide
  have i4 : IntKind.i64.wrap (3 + 1) = 4 := by decide
  have i5 : IntKind.i64.wrap (4 + 1) = 5 := by decide
  have hwn := p11_wn b1
  simp only [rawV] at *
  refine wk1 trivial hpl trivial _ ?_
  all_goals (repeat intro h)
  all_goals refine ⟨?_⟩
  refine AW.unroll 1 ?_
  refine Unr.step ?_
  refine wk1 i1 hwn trivial _ ?_
  all_goals (repeat intro h)
  all_goals refine ⟨?_⟩
  refine Unr.less ⟨30, (upd (upd (upd (upd (upd (fun _ => .junk) 3 (.one (.c (rawV b1 0)))) 6 (.one (.own 27 1))) 15 (.one (.c (.row [[plc 19]])))) 16 (.one (.c (i64 ((1 : Nat) : Int))))) 17 (.one (.c (i64 1)))), (upd (upd (fun _ => none) 27 (some (.rows 22 1 ([[u32 p.n]])))) (1000000+b1) (some (.obox [u32 p.n, u32 p.m, u32 p.a, u32 p.b, u32 p.k, u32 p.t, u32 p.h])))⟩ (by exact lz trivial) ?_
  simp only [rawV, plc]
  refine Unr.last ?_
  refine wk0 i1 trivial trivial
set_option maxHeartbeats 4000000 in
theorem p11_put5 (p : Prt) (h : mayP 5 p = true) : ACalls Try.prog 9 [.one (u32 5), .agg (ePrt p)] (.mix [(false, [.own 22 1 ((wordsP 5 p).map eWord)]), (false, [.c (i64 0)])]) := by
  refine ACalls.intro (fn := Try.f9) Try.func9 rfl rfl (by simp [Try.f9]) ?_
  have hpl := p11_places
  have hm := p11_may 5 p
  rw [h] at hm
  rw [show (wordsP 5 p).map eWord = [[u32 p.n]] from rfl]
  unfold Try.f9
  simp only [rB, ePrt, plc, rawV, labsV, atsV] at *
  refine wk1 trivial (And.intro hpl hm) (@AW.halt 4) _ ?_
  all_goals (repeat intro h)
  all_goals refine ⟨?_⟩
  refine AWs.mk (AW.name 3 rfl ?_ ?_ fun b1 hb1 => ?_)
  · simp only [go_sem, ↓reduceIte, reduceCtorEq, Nat.reduceLT, Nat.reduceEqDiff, Nat.reduceBEq, Nat.reduceAdd, Nat.reduceSub, Nat.reduceMul, Nat.reduceLeDiff, Int.reduceLE, Int.reduceLT, Int.reduceNeg, Int.reduceEq, Int.reduceBEq, Int.reduceBNe, Int.reduceToNat]
  · intro b; simp only [go_sem, ↓reduceIte, reduceCtorEq, Nat.reduceLT, Nat.reduceEqDiff, Nat.reduceBEq, Nat.reduceAdd, Nat.reduceSub, Nat.reduceMul, Nat.reduceLeDiff, Int.reduceLE, Int.reduceLT, Int.reduceNeg, Int.reduceEq, Int.reduceBEq, Int.reduceBNe, Int.reduceToNat]
  clear hb1
  refine AW.lessW ⟨30, (upd (upd (upd (fun _ => .junk) 0 (.one (.c (u32 5)))) 3 (.one (.c (rawV b1 0)))) 6 (.one .nil)), (upd (fun _ => none) (1000000+b1) (some (.obox [u32 p.n, u32 p.m, u32 p.a, u32 p.b, u32 p.k, u32 p.t, u32 p.h])))⟩ (by exact lz trivial) ?_
  simp only [rawV, plc]
  have i1 : IntKind.i64.wrap (0 + 1) = 1 := by decide
  have i2 : IntKind.i64.wrap (1 + 1) = 2 := by decide
  have i3 : IntKind.i64.wrap (2 + 1) = 3 := by decide
  have i4 : IntKind.i64.wrap (3 + 1) = 4 := by decide
  have i5 : IntKind.i64.wrap (4 + 1) = 5 := by decide
  have hwn := p11_wn b1
  simp only [rawV] at *
  refine wk1 trivial hpl trivial _ ?_
  all_goals (repeat intro h)
  all_goals refine ⟨?_⟩
  refine AW.unroll 1 ?_
  refine Unr.step ?_
  refine wk1 i1 hwn trivial _ ?_
  all_goals (repeat intro h)
  all_goals refine ⟨?_⟩
  refine Unr.less ⟨30, (upd (upd (upd (upd (upd (fun _ => .junk) 3 (.one (.c (rawV b1 0)))) 6 (.one (.own 27 1))) 15 (.one (.c (.row [[plc 19]])))) 16 (.one (.c (i64 ((1 : Nat) : Int))))) 17 (.one (.c (i64 1)))), (upd (upd (fun _ => none) 27 (some (.rows 22 1 ([[u32 p.n]])))) (1000000+b1) (some (.obox [u32 p.n, u32 p.m, u32 p.a, u32 p.b, u32 p.k, u32 p.t, u32 p.h])))⟩ (by exact lz trivial) ?_
  simp only [rawV, plc]
  refine Unr.last ?_
  refine wk0 i1 trivial trivial
set_option maxHeartbeats 4000000 in
theorem p11_put6 (p : Prt) (h : mayP 6 p = true) : ACalls Try.prog 9 [.one (u32 6), .agg (ePrt p)] (.mix [(false, [.own 22 1 ((wordsP 6 p).map eWord)]), (false, [.c (i64 0)])]) := by
  refine ACalls.intro (fn := Try.f9) Try.func9 rfl rfl (by simp [Try.f9]) ?_
  have hpl := p11_places
  have hm := p11_may 6 p
  rw [h] at hm
  rw [show (wordsP 6 p).map eWord = [[u32 p.n], [u32 p.m], [u32 p.a], [u32 p.b]] from rfl]
  unfold Try.f9
  simp only [rB, ePrt, plc, rawV, labsV, atsV] at *
  refine wk1 trivial (And.intro hpl hm) (@AW.halt 4) _ ?_
  all_goals (repeat intro h)
  all_goals refine ⟨?_⟩
  refine AWs.mk (AW.name 3 rfl ?_ ?_ fun b1 hb1 => ?_)
  · simp only [go_sem, ↓reduceIte, reduceCtorEq, Nat.reduceLT, Nat.reduceEqDiff, Nat.reduceBEq, Nat.reduceAdd, Nat.reduceSub, Nat.reduceMul, Nat.reduceLeDiff, Int.reduceLE, Int.reduceLT, Int.reduceNeg, Int.reduceEq, Int.reduceBEq, Int.reduceBNe, Int.reduceToNat]
  · intro b; simp only [go_sem, ↓reduceIte, reduceCtorEq, Nat.reduceLT, Nat.reduceEqDiff, Nat.reduceBEq, Nat.reduceAdd, Nat.reduceSub, Nat.reduceMul, Nat.reduceLeDiff, Int.reduceLE, Int.reduceLT, Int.reduceNeg, Int.reduceEq, Int.reduceBEq, Int.reduceBNe, Int.reduceToNat]
  clear hb1
  refine AW.lessW ⟨30, (upd (upd (upd (fun _ => .junk) 0 (.one (.c (u32 6)))) 3 (.one (.c (rawV b1 0)))) 6 (.one .nil)), (upd (fun _ => none) (1000000+b1) (some (.obox [u32 p.n, u32 p.m, u32 p.a, u32 p.b, u32 p.k, u32 p.t, u32 p.h])))⟩ (by exact lz trivial) ?_
  simp only [rawV, plc]
  have i1 : IntKind.i64.wrap (0 + 1) = 1 := by decide
  have i2 : IntKind.i64.wrap (1 + 1) = 2 := by decide
  have i3 : IntKind.i64.wrap (2 + 1) = 3 := by decide
  have i4 : IntKind.i64.wrap (3 + 1) = 4 := by decide
  have i5 : IntKind.i64.wrap (4 + 1) = 5 := by decide
  have hwa := p11_wa b1
  have hwb := p11_wb b1
  have hwm := p11_wm b1
  have hwn := p11_wn b1
  simp only [rawV] at *
  refine wk1 trivial hpl trivial _ ?_
  all_goals (repeat intro h)
  all_goals refine ⟨?_⟩
  refine AW.unroll 4 ?_
  refine Unr.step ?_
  refine wk1 (And.intro i1 (And.intro i2 (And.intro i3 i4))) (And.intro hwa (And.intro hwb (And.intro hwm hwn))) trivial _ ?_
  all_goals (repeat intro h)
  all_goals refine ⟨?_⟩
  refine Unr.less ⟨30, (upd (upd (upd (upd (upd (fun _ => .junk) 3 (.one (.c (rawV b1 0)))) 6 (.one (.own 27 1))) 15 (.one (.c (.row [[plc 19], [plc 20], [plc 21], [plc 22]])))) 16 (.one (.c (i64 ((4 : Nat) : Int))))) 17 (.one (.c (i64 1)))), (upd (upd (fun _ => none) 27 (some (.rows 22 1 ([[u32 p.n]])))) (1000000+b1) (some (.obox [u32 p.n, u32 p.m, u32 p.a, u32 p.b, u32 p.k, u32 p.t, u32 p.h])))⟩ (by exact lz trivial) ?_
  simp only [rawV, plc]
  refine Unr.step ?_
  refine wk1 (And.intro i1 (And.intro i2 (And.intro i3 i4))) (And.intro hwa (And.intro hwb (And.intro hwm hwn))) trivial _ ?_
  all_goals (repeat intro h)
  all_goals refine ⟨?_⟩
  refine Unr.less ⟨30, (upd (upd (upd (upd (upd (fun _ => .junk) 3 (.one (.c (rawV b1 0)))) 6 (.one (.own 27 2))) 15 (.one (.c (.row [[plc 19], [plc 20], [plc 21], [plc 22]])))) 16 (.one (.c (i64 ((4 : Nat) : Int))))) 17 (.one (.c (i64 2)))), (upd (upd (fun _ => none) 27 (some (.rows 22 1 ([[u32 p.n], [u32 p.m]])))) (1000000+b1) (some (.obox [u32 p.n, u32 p.m, u32 p.a, u32 p.b, u32 p.k, u32 p.t, u32 p.h])))⟩ (by exact lz trivial) ?_
  simp only [rawV, plc]
  refine Unr.step ?_
  refine wk1 (And.intro i1 (And.intro i2 (And.intro i3 i4))) (And.intro hwa (And.intro hwb (And.intro hwm hwn))) trivial _ ?_
  all_goals (repeat intro h)
  all_goals refine ⟨?_⟩
  refine Unr.less ⟨30, (upd (upd (upd (upd (upd (fun _ => .junk) 3 (.one (.c (rawV b1 0)))) 6 (.one (.own 27 3))) 15 (.one (.c (.row [[plc 19], [plc 20], [plc 21], [plc 22]])))) 16 (.one (.c (i64 ((4 : Nat) : Int))))) 17 (.one (.c (i64 3)))), (upd (upd (fun _ => none) 27 (some (.rows 22 1 ([[u32 p.n], [u32 p.m], [u32 p.a]])))) (1000000+b1) (some (.obox [u32 p.n, u32 p.m, u32 p.a, u32 p.b, u32 p.k, u32 p.t, u32 p.h])))⟩ (by exact lz trivial) ?_
  simp only [rawV, plc]
  refine Unr.step ?_
  refine wk1 (And.intro i1 (And.intro i2 (And.intro i3 i4))) (And.intro hwa (And.intro hwb (And.intro hwm hwn))) trivial _ ?_
  all_goals (repeat intro h)
  all_goals refine ⟨?_⟩
  refine Unr.less ⟨30, (upd (upd (upd (upd (upd (fun _ => .junk) 3 (.one (.c (rawV b1 0)))) 6 (.one (.own 27 4))) 15 (.one (.c (.row [[plc 19], [plc 20], [plc 21], [plc 22]])))) 16 (.one (.c (i64 ((4 : Nat) : Int))))) 17 (.one (.c (i64 4)))), (upd (upd (fun _ => none) 27 (some (.rows 22 1 ([[u32 p.n], [u32 p.m], [u32 p.a], [u32 p.b]])))) (1000000+b1) (some (.obox [u32 p.n, u32 p.m, u32 p.a, u32 p.b, u32 p.k, u32 p.t, u32 p.h])))⟩ (by exact lz trivial) ?_
  simp only [rawV, plc]
  refine Unr.last ?_
  refine wk0 (And.intro i1 (And.intro i2 (And.intro i3 i4))) trivial trivial
set_option maxHeartbeats 4000000 in
theorem p11_put7 (p : Prt) (h : mayP 7 p = true) : ACalls Try.prog 9 [.one (u32 7), .agg (ePrt p)] (.mix [(false, [.own 22 1 ((wordsP 7 p).map eWord)]), (false, [.c (i64 0)])]) := by
  refine ACalls.intro (fn := Try.f9) Try.func9 rfl rfl (by simp [Try.f9]) ?_
  have hpl := p11_places
  have hm := p11_may 7 p
  rw [h] at hm
  rw [show (wordsP 7 p).map eWord = [[u32 p.n], [u32 p.m], [u32 p.a], [u32 p.b]] from rfl]
  unfold Try.f9
  simp only [rB, ePrt, plc, rawV, labsV, atsV] at *
  refine wk1 trivial (And.intro hpl hm) (@AW.halt 4) _ ?_
  all_goals (repeat intro h)
  all_goals refine ⟨?_⟩
  refine AWs.mk (AW.name 3 rfl ?_ ?_ fun b1 hb1 => ?_)
  · simp only [go_sem, ↓reduceIte, reduceCtorEq, Nat.reduceLT, Nat.reduceEqDiff, Nat.reduceBEq, Nat.reduceAdd, Nat.reduceSub, Nat.reduceMul, Nat.reduceLeDiff, Int.reduceLE, Int.reduceLT, Int.reduceNeg, Int.reduceEq, Int.reduceBEq, Int.reduceBNe, Int.reduceToNat]
  · intro b; simp only [go_sem, ↓reduceIte, reduceCtorEq, Nat.reduceLT, Nat.reduceEqDiff, Nat.reduceBEq, Nat.reduceAdd, Nat.reduceSub, Nat.reduceMul, Nat.reduceLeDiff, Int.reduceLE, Int.reduceLT, Int.reduceNeg, Int.reduceEq, Int.reduceBEq, Int.reduceBNe, Int.reduceToNat]
  clear hb1
  refine AW.lessW ⟨30, (upd (upd (upd (fun _ => .junk) 0 (.one (.c (u32 7)))) 3 (.one (.c (rawV b1 0)))) 6 (.one .nil)), (upd (fun _ => none) (1000000+b1) (some (.obox [u32 p.n, u32 p.m, u32 p.a, u32 p.b, u32 p.k, u32 p.t, u32 p.h])))⟩ (by exact lz trivial) ?_
  simp only [rawV, plc]
  have i1 : IntKind.i64.wrap (0 + 1) = 1 := by decide
  have i2 : IntKind.i64.wrap (1 + 1) = 2 := by decide
  have i3 : IntKind.i64.wrap (2 + 1) = 3 := by decide
  have i4 : IntKind.i64.wrap (3 + 1) = 4 := by decide
  have i5 : IntKind.i64.wrap (4 + 1) = 5 := by decide
  have hwa := p11_wa b1
  have hwb := p11_wb b1
  have hwm := p11_wm b1
  have hwn := p11_wn b1
  simp only [rawV] at *
  refine wk1 trivial hpl trivial _ ?_
  all_goals (repeat intro h)
  all_goals refine ⟨?_⟩
  refine AW.unroll 4 ?_
  refine Unr.step ?_
  refine wk1 (And.intro i1 (And.intro i2 (And.intro i3 i4))) (And.intro hwa (And.intro hwb (And.intro hwm hwn))) trivial _ ?_
  all_goals (repeat intro h)
  all_goals refine ⟨?_⟩
  refine Unr.less ⟨30, (upd (upd (upd (upd (upd (fun _ => .junk) 3 (.one (.c (rawV b1 0)))) 6 (.one (.own 27 1))) 15 (.one (.c (.row [[plc 19], [plc 20], [plc 21], [plc 22]])))) 16 (.one (.c (i64 ((4 : Nat) : Int))))) 17 (.one (.c (i64 1)))), (upd (upd (fun _ => none) 27 (some (.rows 22 1 ([[u32 p.n]])))) (1000000+b1) (some (.obox [u32 p.n, u32 p.m, u32 p.a, u32 p.b, u32 p.k, u32 p.t, u32 p.h])))⟩ (by exact lz trivial) ?_
  simp only [rawV, plc]
  refine Unr.step ?_
  refine wk1 (And.intro i1 (And.intro i2 (And.intro i3 i4))) (And.intro hwa (And.intro hwb (And.intro hwm hwn))) trivial _ ?_
  all_goals (repeat intro h)
  all_goals refine ⟨?_⟩
  refine Unr.less ⟨30, (upd (upd (upd (upd (upd (fun _ => .junk) 3 (.one (.c (rawV b1 0)))) 6 (.one (.own 27 2))) 15 (.one (.c (.row [[plc 19], [plc 20], [plc 21], [plc 22]])))) 16 (.one (.c (i64 ((4 : Nat) : Int))))) 17 (.one (.c (i64 2)))), (upd (upd (fun _ => none) 27 (some (.rows 22 1 ([[u32 p.n], [u32 p.m]])))) (1000000+b1) (some (.obox [u32 p.n, u32 p.m, u32 p.a, u32 p.b, u32 p.k, u32 p.t, u32 p.h])))⟩ (by exact lz trivial) ?_
  simp only [rawV, plc]
  refine Unr.step ?_
  refine wk1 (And.intro i1 (And.intro i2 (And.intro i3 i4))) (And.intro hwa (And.intro hwb (And.intro hwm hwn))) trivial _ ?_
  all_goals (repeat intro h)
  all_goals refine ⟨?_⟩
  refine Unr.less ⟨30, (upd (upd (upd (upd (upd (fun _ => .junk) 3 (.one (.c (rawV b1 0)))) 6 (.one (.own 27 3))) 15 (.one (.c (.row [[plc 19], [plc 20], [plc 21], [plc 22]])))) 16 (.one (.c (i64 ((4 : Nat) : Int))))) 17 (.one (.c (i64 3)))), (upd (upd (fun _ => none) 27 (some (.rows 22 1 ([[u32 p.n], [u32 p.m], [u32 p.a]])))) (1000000+b1) (some (.obox [u32 p.n, u32 p.m, u32 p.a, u32 p.b, u32 p.k, u32 p.t, u32 p.h])))⟩ (by exact lz trivial) ?_
  simp only [rawV, plc]
  refine Unr.step ?_
  refine wk1 (And.intro i1 (And.intro i2 (And.intro i3 i4))) (And.intro hwa (And.intro hwb (And.intro hwm hwn))) trivial _ ?_
  all_goals (repeat intro h)
  all_goals refine ⟨?_⟩
  refine Unr.less ⟨30, (upd (upd (upd (upd (upd (fun _ => .junk) 3 (.one (.c (rawV b1 0)))) 6 (.one (.own 27 4))) 15 (.one (.c (.row [[plc 19], [plc 20], [plc 21], [plc 22]])))) 16 (.one (.c (i64 ((4 : Nat) : Int))))) 17 (.one (.c (i64 4)))), (upd (upd (fun _ => none) 27 (some (.rows 22 1 ([[u32 p.n], [u32 p.m], [u32 p.a], [u32 p.b]])))) (1000000+b1) (some (.obox [u32 p.n, u32 p.m, u32 p.a, u32 p.b, u32 p.k, u32 p.t, u32 p.h])))⟩ (by exact lz trivial) ?_
  simp only [rawV, plc]
  refine Unr.last ?_
  refine wk0 (And.intro i1 (And.intro i2 (And.intro i3 i4))) trivial trivial
set_option maxHeartbeats 4000000 in
theorem p11_put8 (p : Prt) (h : mayP 8 p = true) : ACalls Try.prog 9 [.one (u32 8), .agg (ePrt p)] (.mix [(false, [.own 22 1 ((wordsP 8 p).map eWord)]), (false, [.c (i64 0)])]) := by
  refine ACalls.intro (fn := Try.f9) Try.func9 rfl rfl (by simp [Try.f9]) ?_
  have hpl := p11_places
  have hm := p11_may 8 p
  rw [h] at hm
  rw [show (wordsP 8 p).map eWord = [[u32 p.n], [u32 p.k]] from rfl]
  unfold Try.f9
  simp only [rB, ePrt, plc, rawV, labsV, atsV] at *
  refine wk1 trivial (And.intro hpl hm) (@AW.halt 4) _ ?_
  all_goals (repeat intro h)
  all_goals refine ⟨?_⟩
  refine AWs.mk (AW.name 3 rfl ?_ ?_ fun b1 hb1 => ?_)
  · simp only [go_sem, ↓reduceIte, reduceCtorEq, Nat.reduceLT, Nat.reduceEqDiff, Nat.reduceBEq, Nat.reduceAdd, Nat.reduceSub, Nat.reduceMul, Nat.reduceLeDiff, Int.reduceLE, Int.reduceLT, Int.reduceNeg, Int.reduceEq, Int.reduceBEq, Int.reduceBNe, Int.reduceToNat]
  · intro b; simp only [go_sem, ↓reduceIte, reduceCtorEq, Nat.reduceLT, Nat.reduceEqDiff, Nat.reduceBEq, Nat.reduceAdd, Nat.reduceSub, Nat.reduceMul, Nat.reduceLeDiff, Int.reduceLE, Int.reduceLT, Int.reduceNeg, Int.reduceEq, Int.reduceBEq, Int.reduceBNe, Int.reduceToNat]
  clear hb1
  refine AW.lessW ⟨30, (upd (upd (upd (fun _ => .junk) 0 (.one (.c (u32 8)))) 3 (.one (.c (rawV b1 0)))) 6 (.one .nil)), (upd (fun _ => none) (1000000+b1) (some (.obox [u32 p.n, u32 p.m, u32 p.a, u32 p.b, u32 p.k, u32 p.t, u32 p.h])))⟩ (by exact lz trivial) ?_
  simp only [rawV, plc]
  have i1 : IntKind.i64.wrap (0 + 1) = 1 := by decide
  have i2 : IntKind.i64.wrap (1 + 1) = 2 := by decide
  have i3 : IntKind.i64.wrap (2 + 1) = 3 := by decide
  have i4 : IntKind.i64.wrap (3 + 1) = 4 := by decide
  have i5 : IntKind.i64.wrap (4 + 1) = 5 := by decide
  have hwk := p11_wk b1
  have hwn := p11_wn b1
  simp only [rawV] at *
  refine wk1 trivial hpl trivial _ ?_
  all_goals (repeat intro h)
  all_goals refine ⟨?_⟩
  refine AW.unroll 2 ?_
  refine Unr.step ?_
  refine wk1 (And.intro i1 i2) (And.intro hwk hwn) trivial _ ?_
  all_goals (repeat intro h)
  all_goals refine ⟨?_⟩
  refine Unr.less ⟨30, (upd (upd (upd (upd (upd (fun _ => .junk) 3 (.one (.c (rawV b1 0)))) 6 (.one (.own 27 1))) 15 (.one (.c (.row [[plc 19], [plc 23]])))) 16 (.one (.c (i64 ((2 : Nat) : Int))))) 17 (.one (.c (i64 1)))), (upd (upd (fun _ => none) 27 (some (.rows 22 1 ([[u32 p.n]])))) (1000000+b1) (some (.obox [u32 p.n, u32 p.m, u32 p.a, u32 p.b, u32 p.k, u32 p.t, u32 p.h])))⟩ (by exact lz trivial) ?_
  simp only [rawV, plc]
  refine Unr.step ?_
  refine wk1 (And.intro i1 i2) (And.intro hwk hwn) trivial _ ?_
  all_goals (repeat intro h)
  all_goals refine ⟨?_⟩
  refine Unr.less ⟨30, (upd (upd (upd (upd (upd (fun _ => .junk) 3 (.one (.c (rawV b1 0)))) 6 (.one (.own 27 2))) 15 (.one (.c (.row [[plc 19], [plc 23]])))) 16 (.one (.c (i64 ((2 : Nat) : Int))))) 17 (.one (.c (i64 2)))), (upd (upd (fun _ => none) 27 (some (.rows 22 1 ([[u32 p.n], [u32 p.k]])))) (1000000+b1) (some (.obox [u32 p.n, u32 p.m, u32 p.a, u32 p.b, u32 p.k, u32 p.t, u32 p.h])))⟩ (by exact lz trivial) ?_
  simp only [rawV, plc]
  refine Unr.last ?_
  refine wk0 (And.intro i1 i2) trivial trivial
set_option maxHeartbeats 4000000 in
theorem p11_put9 (p : Prt) (h : mayP 9 p = true) : ACalls Try.prog 9 [.one (u32 9), .agg (ePrt p)] (.mix [(false, [.own 22 1 ((wordsP 9 p).map eWord)]), (false, [.c (i64 0)])]) := by
  refine ACalls.intro (fn := Try.f9) Try.func9 rfl rfl (by simp [Try.f9]) ?_
  have hpl := p11_places
  have hm := p11_may 9 p
  rw [h] at hm
  rw [show (wordsP 9 p).map eWord = [[u32 p.n], [u32 p.k]] from rfl]
  unfold Try.f9
  simp only [rB, ePrt, plc, rawV, labsV, atsV] at *
  refine wk1 trivial (And.intro hpl hm) (@AW.halt 4) _ ?_
  all_goals (repeat intro h)
  all_goals refine ⟨?_⟩
  refine AWs.mk (AW.name 3 rfl ?_ ?_ fun b1 hb1 => ?_)
  · simp only [go_sem, ↓reduceIte, reduceCtorEq, Nat.reduceLT, Nat.reduceEqDiff, Nat.reduceBEq, Nat.reduceAdd, Nat.reduceSub, Nat.reduceMul, Nat.reduceLeDiff, Int.reduceLE, Int.reduceLT, Int.reduceNeg, Int.reduceEq, Int.reduceBEq, Int.reduceBNe, Int.reduceToNat]
  · intro b; simp only [go_sem, ↓reduceIte, reduceCtorEq, Nat.reduceLT, Nat.reduceEqDiff, Nat.reduceBEq, Nat.reduceAdd, Nat.reduceSub, Nat.reduceMul, Nat.reduceLeDiff, Int.reduceLE, Int.reduceLT, Int.reduceNeg, Int.reduceEq, Int.reduceBEq, Int.reduceBNe, Int.reduceToNat]
  clear hb1
  refine AW.lessW ⟨30, (upd (upd (upd (fun _ => .junk) 0 (.one (.c (u32 9)))) 3 (.one (.c (rawV b1 0)))) 6 (.one .nil)), (upd (fun _ => none) (1000000+b1) (some (.obox [u32 p.n, u32 p.m, u32 p.a, u32 p.b, u32 p.k, u32 p.t, u32 p.h])))⟩ (by exact lz trivial) ?_
  simp only [rawV, plc]
  have i1 : IntKind.i64.wrap (0 + 1) = 1 := by decide
  have i2 : IntKind.i64.wrap (1 + 1) = 2 := by decide
  have i3 : IntKind.i64.wrap (2 + 1) = 3 := by decide
  have i4 : IntKind.i64.wrap (3 + 1) = 4 := by decide
  have i5 : IntKind.i64.wrap (4 + 1) = 5 := by decide
  have hwk := p11_wk b1
  have hwn := p11_wn b1
  simp only [rawV] at *
  refine wk1 trivial hpl trivial _ ?_
  all_goals (repeat intro h)
  all_goals refine ⟨?_⟩
  refine AW.unroll 2 ?_
  refine Unr.step ?_
  refine wk1 (And.intro i1 i2) (And.intro hwk hwn) trivial _ ?_
  all_goals (repeat intro h)
  all_goals refine ⟨?_⟩
  refine Unr.less ⟨30, (upd (upd (upd (upd (upd (fun _ => .junk) 3 (.one (.c (rawV b1 0)))) 6 (.one (.own 27 1))) 15 (.one (.c (.row [[plc 19], [plc 23]])))) 16 (.one (.c (i64 ((2 : Nat) : Int))))) 17 (.one (.c (i64 1)))), (upd (upd (fun _ => none) 27 (some (.rows 22 1 ([[u32 p.n]])))) (1000000+b1) (some (.obox [u32 p.n, u32 p.m, u32 p.a, u32 p.b, u32 p.k, u32 p.t, u32 p.h])))⟩ (by exact lz trivial) ?_
  simp only [rawV, plc]
  refine Unr.step ?_
  refine wk1 (And.intro i1 i2) (And.intro hwk hwn) trivial _ ?_
  all_goals (repeat intro h)
  all_goals refine ⟨?_⟩
  refine Unr.less ⟨30, (upd (upd (upd (upd (upd (fun _ => .junk) 3 (.one (.c (rawV b1 0)))) 6 (.one (.own 27 2))) 15 (.one (.c (.row [[plc 19], [plc 23]])))) 16 (.one (.c (i64 ((2 : Nat) : Int))))) 17 (.one (.c (i64 2)))), (upd (upd (fun _ => none) 27 (some (.rows 22 1 ([[u32 p.n], [u32 p.k]])))) (1000000+b1) (some (.obox [u32 p.n, u32 p.m, u32 p.a, u32 p.b, u32 p.k, u32 p.t, u32 p.h])))⟩ (by exact lz trivial) ?_
  simp only [rawV, plc]
  refine Unr.last ?_
  refine wk0 (And.intro i1 i2) trivial trivial
set_option maxHeartbeats 4000000 in
theorem p11_puts2 (p : Prt) (h : mayP 2 p = true) : ACalls Try.prog 9 [.one (u32 2), .agg (ePrt p)] (.tup [.one (.row ((wordsP 2 p).map eWord)), .one (i64 0)]) := by
  refine ACalls.intro (fn := Try.f9) Try.func9 rfl rfl (by simp [Try.f9]) ?_
  have hpl := p11_places
  have hm := p11_may 2 p
  rw [h] at hm
  rw [show (wordsP 2 p).map eWord = [[u32 p.n], [u32 p.b], [u32 p.k], [u32 p.t], [u32 p.h]] from rfl]
  unfold Try.f9
  simp only [rB, ePrt, plc, rawV, labsV, atsV] at *
  refine wk1 trivial (And.intro hpl hm) (@AW.halt 4) _ ?_
  all_goals (repeat intro h)
  all_goals refine ⟨?_⟩
  refine AWs.mk (AW.name 3 rfl ?_ ?_ fun b1 hb1 => ?_)
  · simp only [go_sem, ↓reduceIte, reduceCtorEq, Nat.reduceLT, Nat.reduceEqDiff, Nat.reduceBEq, Nat.reduceAdd, Nat.reduceSub, Nat.reduceMul, Nat.reduceLeDiff, Int.reduceLE, Int.reduceLT, Int.reduceNeg, Int.reduceEq, Int.reduceBEq, Int.reduceBNe, Int.reduceToNat]
  · intro b; simp only [go_sem, ↓reduceIte, reduceCtorEq, Nat.reduceLT, Nat.reduceEqDiff, Nat.reduceBEq, Nat.reduceAdd, Nat.reduceSub, Nat.reduceMul, Nat.reduceLeDiff, Int.reduceLE, Int.reduceLT, Int.reduceNeg, Int.reduceEq, Int.reduceBEq, Int.reduceBNe, Int.reduceToNat]
  clear hb1
  refine AW.lessW ⟨30, (upd (upd (upd (fun _ => .junk) 0 (.one (.c (u32 2)))) 3 (.one (.c (rawV b1 0)))) 6 (.one .nil)), (upd (fun _ => none) (1000000+b1) (some (.obox [u32 p.n, u32 p.m, u32 p.a, u32 p.b, u32 p.k, u32 p.t, u32 p.h])))⟩ (by exact lz trivial) ?_
  simp only [rawV, plc]
  have i1 : IntKind.i64.wrap (0 + 1) = 1 := by decide
  have i2 : IntKind.i64.wrap (1 + 1) = 2 := by decide
  have i3 : IntKind.i64.wrap (2 + 1) = 3 := by decide
  have i4 : IntKind.i64.wrap (3 + 1) = 4 := by decide
  have i5 : IntKind.i64.wrap (4 + 1) = 5 := by decide
  have hwb := p11_wb b1
  have hwh := p11_wh b1
  have hwk := p11_wk b1
  have hwn := p11_wn b1
  have hwt := p11_wt b1
  simp only [rawV] at *
  refine wk1 trivial hpl trivial _ ?_
  all_goals (repeat intro h)
  all_goals refine ⟨?_⟩
  refine AW.unroll 5 ?_
  refine Unr.step ?_
  refine wk1 (And.intro i1 (And.intro i2 (And.intro i3 (And.intro i4 i5)))) (And.intro hwb (And.intro hwh (And.intro hwk (And.intro hwn hwt)))) trivial _ ?_
  all_goals (repeat intro h)
  all_goals refine ⟨?_⟩
  refine Unr.less ⟨30, (upd (upd (upd (upd (upd (fun _ => .junk) 3 (.one (.c (rawV b1 0)))) 6 (.one (.own 27 1))) 15 (.one (.c (.row [[plc 19], [plc 22], [plc 23], [plc 24], [plc 25]])))) 16 (.one (.c (i64 ((5 : Nat) : Int))))) 17 (.one (.c (i64 1)))), (upd (upd (fun _ => none) 27 (some (.rows 22 1 ([[u32 p.n]])))) (1000000+b1) (some (.obox [u32 p.n, u32 p.m, u32 p.a, u32 p.b, u32 p.k, u32 p.t, u32 p.h])))⟩ (by exact lz trivial) ?_
  simp only [rawV, plc]
  refine Unr.step ?_
  refine wk1 (And.intro i1 (And.intro i2 (And.intro i3 (And.intro i4 i5)))) (And.intro hwb (And.intro hwh (And.intro hwk (And.intro hwn hwt)))) trivial _ ?_
  all_goals (repeat intro h)
  all_goals refine ⟨?_⟩
  refine Unr.less ⟨30, (upd (upd (upd (upd (upd (fun _ => .junk) 3 (.one (.c (rawV b1 0)))) 6 (.one (.own 27 2))) 15 (.one (.c (.row [[plc 19], [plc 22], [plc 23], [plc 24], [plc 25]])))) 16 (.one (.c (i64 ((5 : Nat) : Int))))) 17 (.one (.c (i64 2)))), (upd (upd (fun _ => none) 27 (some (.rows 22 1 ([[u32 p.n], [u32 p.b]])))) (1000000+b1) (some (.obox [u32 p.n, u32 p.m, u32 p.a, u32 p.b, u32 p.k, u32 p.t, u32 p.h])))⟩ (by exact lz trivial) ?_
  simp only [rawV, plc]
  refine Unr.step ?_
  refine wk1 (And.intro i1 (And.intro i2 (And.intro i3 (And.intro i4 i5)))) (And.intro hwb (And.intro hwh (And.intro hwk (And.intro hwn hwt)))) trivial _ ?_
  all_goals (repeat intro h)
  all_goals refine ⟨?_⟩
  refine Unr.less ⟨30, (upd (upd (upd (upd (upd (fun _ => .junk) 3 (.one (.c (rawV b1 0)))) 6 (.one (.own 27 3))) 15 (.one (.c (.row [[plc 19], [plc 22], [plc 23], [plc 24], [plc 25]])))) 16 (.one (.c (i64 ((5 : Nat) : Int))))) 17 (.one (.c (i64 3)))), (upd (upd (fun _ => none) 27 (some (.rows 22 1 ([[u32 p.n], [u32 p.b], [u32 p.k]])))) (1000000+b1) (some (.obox [u32 p.n, u32 p.m, u32 p.a, u32 p.b, u32 p.k, u32 p.t, u32 p.h])))⟩ (by exact lz trivial) ?_
  simp only [rawV, plc]
  refine Unr.step ?_
  refine wk1 (And.intro i1 (And.intro i2 (And.intro i3 (And.intro i4 i5)))) (And.intro hwb (And.intro hwh (And.intro hwk (And.intro hwn hwt)))) trivial _ ?_
  all_goals (repeat intro h)
  all_goals refine ⟨?_⟩
  refine Unr.less ⟨30, (upd (upd (upd (upd (upd (fun _ => .junk) 3 (.one (.c (rawV b1 0)))) 6 (.one (.own 27 4))) 15 (.one (.c (.row [[plc 19], [plc 22], [plc 23], [plc 24], [plc 25]])))) 16 (.one (.c (i64 ((5 : Nat) : Int))))) 17 (.one (.c (i64 4)))), (upd (upd (fun _ => none) 27 (some (.rows 22 1 ([[u32 p.n], [u32 p.b], [u32 p.k], [u32 p.t]])))) (1000000+b1) (some (.obox [u32 p.n, u32 p.m, u32 p.a, u32 p.b, u32 p.k, u32 p.t, u32 p.h])))⟩ (by exact lz trivial) ?_
  simp only [rawV, plc]
  refine Unr.step ?_
  refine wk1 (And.intro i1 (And.intro i2 (And.intro i3 (And.intro i4 i5)))) (And.intro hwb (And.intro hwh (And.intro hwk (And.intro hwn hwt)))) trivial _ ?_
  all_goals (repeat intro h)
  all_goals refine ⟨?_⟩
  refine Unr.less ⟨30, (upd (upd (upd (upd (upd (fun _ => .junk) 3 (.one (.c (rawV b1 0)))) 6 (.one (.own 27 5))) 15 (.one (.c (.row [[plc 19], [plc 22], [plc 23], [plc 24], [plc 25]])))) 16 (.one (.c (i64 ((5 : Nat) : Int))))) 17 (.one (.c (i64 5)))), (upd (upd (fun _ => none) 27 (some (.rows 22 1 ([[u32 p.n], [u32 p.b], [u32 p.k], [u32 p.t], [u32 p.h]])))) (1000000+b1) (some (.obox [u32 p.n, u32 p.m, u32 p.a, u32 p.b, u32 p.k, u32 p.t, u32 p.h])))⟩ (by exact lz trivial) ?_
  simp only [rawV, plc]
  refine Unr.last ?_
  refine wk0 (And.intro i1 (And.intro i2 (And.intro i3 (And.intro i4 i5)))) trivial trivial
set_option maxHeartbeats 4000000 in
theorem p11_puts3 (p : Prt) (h : mayP 3 p = true) : ACalls Try.prog 9 [.one (u32 3), .agg (ePrt p)] (.tup [.one (.row ((wordsP 3 p).map eWord)), .one (i64 0)]) := by
  refine ACalls.intro (fn := Try.f9) Try.func9 rfl rfl (by simp [Try.f9]) ?_
  have hpl := p11_places
  have hm := p11_may 3 p
  rw [h] at hm
  rw [show (wordsP 3 p).map eWord = [[u32 p.k], [u32 p.a], [u32 p.t]] from rfl]
  unfold Try.f9
  simp only [rB, ePrt, plc, rawV, labsV, atsV] at *
  refine wk1 trivial (And.intro hpl hm) (@AW.halt 4) _ ?_
  all_goals (repeat intro h)
  all_goals refine ⟨?_⟩
  refine AWs.mk (AW.name 3 rfl ?_ ?_ fun b1 hb1 => ?_)
  · simp only [go_sem, ↓reduceIte, reduceCtorEq, Nat.reduceLT, Nat.reduceEqDiff, Nat.reduceBEq, Nat.reduceAdd, Nat.reduceSub, Nat.reduceMul, Nat.reduceLeDiff, Int.reduceLE, Int.reduceLT, Int.reduceNeg, Int.reduceEq, Int.reduceBEq, Int.reduceBNe, Int.reduceToNat]
  · intro b; simp only [go_sem, ↓reduceIte, reduceCtorEq, Nat.reduceLT, Nat.reduceEqDiff, Nat.reduceBEq, Nat.reduceAdd, Nat.reduceSub, Nat.reduceMul, Nat.reduceLeDiff, Int.reduceLE, Int.reduceLT, Int.reduceNeg, Int.reduceEq, Int.reduceBEq, Int.reduceBNe, Int.reduceToNat]
  clear hb1
  refine AW.lessW ⟨30, (upd (upd (upd (fun _ => .junk) 0 (.one (.c (u32 3)))) 3 (.one (.c (rawV b1 0)))) 6 (.one .nil)), (upd (fun _ => none) (1000000+b1) (some (.obox [u32 p.n, u32 p.m, u32 p.a, u32 p.b, u32 p.k, u32 p.t, u32 p.h])))⟩ (by exact lz trivial) ?_
  simp only [rawV, plc]
  have i1 : IntKind.i64.wrap (0 + 1) = 1 := by decide
  have i2 : IntKind.i64.wrap (1 + 1) = 2 := by decide
  have i3 : IntKind.i64.wrap (2 + 1) = 3 := by decide
  have i4 : IntKind.i64.wrap (3 + 1) = 4 := by decide
  have i5 : IntKind.i64.wrap (4 + 1) = 5 := by decide
  have hwa := p11_wa b1
  have hwk := p11_wk b1
  have hwt := p11_wt b1
  simp only [rawV] at *
  refine wk1 trivial hpl trivial _ ?_
  all_goals (repeat intro h)
  all_goals refine ⟨?_⟩
  refine AW.unroll 3 ?_
  refine Unr.step ?_
  refine wk1 (And.intro i1 (And.intro i2 i3)) (And.intro hwa (And.intro hwk hwt)) trivial _ ?_
  all_goals (repeat intro h)
  all_goals refine ⟨?_⟩
  refine Unr.less ⟨30, (upd (upd (upd (upd (upd (fun _ => .junk) 3 (.one (.c (rawV b1 0)))) 6 (.one (.own 27 1))) 15 (.one (.c (.row [[plc 23], [plc 21], [plc 24]])))) 16 (.one (.c (i64 ((3 : Nat) : Int))))) 17 (.one (.c (i64 1)))), (upd (upd (fun _ => none) 27 (some (.rows 22 1 ([[u32 p.k]])))) (1000000+b1) (some (.obox [u32 p.n, u32 p.m, u32 p.a, u32 p.b, u32 p.k, u32 p.t, u32 p.h])))⟩ (by exact lz trivial) ?_
  simp only [rawV, plc]
  refine Unr.step ?_
  refine wk1 (And.intro i1 (And.intro i2 i3)) (And.intro hwa (And.intro hwk hwt)) trivial _ ?_
  all_goals (repeat intro h)
  all_goals refine ⟨?_⟩
  refine Unr.less ⟨30, (upd (upd (upd (upd (upd (fun _ => .junk) 3 (.one (.c (rawV b1 0)))) 6 (.one (.own 27 2))) 15 (.one (.c (.row [[plc 23], [plc 21], [plc 24]])))) 16 (.one (.c (i64 ((3 : Nat) : Int))))) 17 (.one (.c (i64 2)))), (upd (upd (fun _ => none) 27 (some (.rows 22 1 ([[u32 p.k], [u32 p.a]])))) (1000000+b1) (some (.obox [u32 p.n, u32 p.m, u32 p.a, u32 p.b, u32 p.k, u32 p.t, u32 p.h])))⟩ (by exact lz trivial) ?_
  simp only [rawV, plc]
  refine Unr.step ?_
  refine wk1 (And.intro i1 (And.intro i2 i3)) (And.intro hwa (And.intro hwk hwt)) trivial _ ?_
  all_goals (repeat intro h)
  all_goals refine ⟨?_⟩
  refine Unr.less ⟨30, (upd (upd (upd (upd (upd (fun _ => .junk) 3 (.one (.c (rawV b1 0)))) 6 (.one (.own 27 3))) 15 (.one (.c (.row [[plc 23], [plc 21], [plc 24]])))) 16 (.one (.c (i64 ((3 : Nat) : Int))))) 17 (.one (.c (i64 3)))), (upd (upd (fun _ => none) 27 (some (.rows 22 1 ([[u32 p.k], [u32 p.a], [u32 p.t]])))) (1000000+b1) (some (.obox [u32 p.n, u32 p.m, u32 p.a, u32 p.b, u32 p.k, u32 p.t, u32 p.h])))⟩ (by exact lz trivial) ?_
  simp only [rawV, plc]
  refine Unr.last ?_
  refine wk0 (And.intro i1 (And.intro i2 i3)) trivial trivial
set_option maxHeartbeats 4000000 in
theorem p11_puts4 (p : Prt) (h : mayP 4 p = true) : ACalls Try.prog 9 [.one (u32 4), .agg (ePrt p)] (.tup [.one (.row ((wordsP 4 p).map eWord)), .one (i64 0)]) := by
  refine ACalls.intro (fn := Try.f9) Try.func9 rfl rfl (by simp [Try.f9]) ?_
  have hpl := p11_places
  have hm := p11_may 4 p
  rw [h] at hm
  rw [show (wordsP 4 p).map eWord = [[u32 p.n]] from rfl]
  unfold Try.f9
  simp only [rB, ePrt, plc, rawV, labsV, atsV] at *
  refine wk1 trivial (And.intro hpl hm) (@AW.halt 4) _ ?_
  all_goals (repeat intro h)
  all_goals refine ⟨?_⟩
  refine AWs.mk (AW.name 3 rfl ?_ ?_ fun b1 hb1 => ?_)
  · simp only [go_sem, ↓reduceIte, reduceCtorEq, Nat.reduceLT, Nat.reduceEqDiff, Nat.reduceBEq, Nat.reduceAdd, Nat.reduceSub, Nat.reduceMul, Nat.reduceLeDiff, Int.reduceLE, Int.reduceLT, Int.reduceNeg, Int.reduceEq, Int.reduceBEq, Int.reduceBNe, Int.reduceToNat]
  · intro b; simp only [go_sem, ↓reduceIte, reduceCtorEq, Nat.reduceLT, Nat.reduceEqDiff, Nat.reduceBEq, Nat.reduceAdd, Nat.reduceSub, Nat.reduceMul, Nat.reduceLeDiff, Int.reduceLE, Int.reduceLT, Int.reduceNeg, Int.reduceEq, Int.reduceBEq, Int.reduceBNe, Int.reduceToNat]
  clear hb1
  refine AW.lessW ⟨30, (upd (upd (upd (fun _ => .junk) 0 (.one (.c (u32 4)))) 3 (.one (.c (rawV b1 0)))) 6 (.one .nil)), (upd (fun _ => none) (1000000+b1) (some (.obox [u32 p.n, u32 p.m, u32 p.a, u32 p.b, u32 p.k, u32 p.t, u32 p.h])))⟩ (by exact lz trivial) ?_
  simp only [rawV, plc]
  have i1 : IntKind.i64.wrap (0 + 1) = 1 := by decide
  have i2 : IntKind.i64.wrap (1 + 1) = 2 := by decide
  have i3 : IntKind.i64.wrap (2 + 1) = 3 := by decide
  have i4 : IntKind.i64.wrap (3 + 1) = 4 := by decide
  have i5 : IntKind.i64.wrap (4 + 1) = 5 := by decide
  have hwn := p11_wn b1
  simp only [rawV] at *
  refine wk1 trivial hpl trivial _ ?_
  all_goals (repeat intro h)
  all_goals refine ⟨?_⟩
  refine AW.unroll 1 ?_
  refine Unr.step ?_
  refine wk1 i1 hwn trivial _ ?_
  all_goals (repeat intro h)
  all_goals refine ⟨?_⟩
  refine Unr.less ⟨30, (upd (upd (upd (upd (upd (fun _ => .junk) 3 (.one (.c (rawV b1 0)))) 6 (.one (.own 27 1))) 15 (.one (.c (.row [[plc 19]])))) 16 (.one (.c (i64 ((1 : Nat) : Int))))) 17 (.one (.c (i64 1)))), (upd (upd (fun _ => none) 27 (some (.rows 22 1 ([[u32 p.n]])))) (1000000+b1) (some (.obox [u32 p.n, u32 p.m, u32 p.a, u32 p.b, u32 p.k, u32 p.t, u32 p.h])))⟩ (by exact lz trivial) ?_
  simp only [rawV, plc]
  refine Unr.last ?_
  refine wk0 i1 trivial trivial
set_option maxHeartbeats 4000000 in
theorem p11_puts5 (p : Prt) (h : mayP 5 p = true) : ACalls Try.prog 9 [.one (u32 5), .agg (ePrt p)] (.tup [.one (.row ((wordsP 5 p).map eWord)), .one (i64 0)]) := by
  refine ACalls.intro (fn := Try.f9) Try.func9 rfl rfl (by simp [Try.f9]) ?_
  have hpl := p11_places
  have hm := p11_may 5 p
  rw [h] at hm
  rw [show (wordsP 5 p).map eWord = [[u32 p.n]] from rfl]
  unfold Try.f9
  simp only [rB, ePrt, plc, rawV, labsV, atsV] at *
  refine wk1 trivial (And.intro hpl hm) (@AW.halt 4) _ ?_
  all_goals (repeat intro h)
  all_goals refine ⟨?_⟩
  refine AWs.mk (AW.name 3 rfl ?_ ?_ fun b1 hb1 => ?_)
  · simp only [go_sem, ↓reduceIte, reduceCtorEq, Nat.reduceLT, Nat.reduceEqDiff, Nat.reduceBEq, Nat.reduceAdd, Nat.reduceSub, Nat.reduceMul, Nat.reduceLeDiff, Int.reduceLE, Int.reduceLT, Int.reduceNeg, Int.reduceEq, Int.reduceBEq, Int.reduceBNe, Int.reduceToNat]
  · intro b; simp only [go_sem, ↓reduceIte, reduceCtorEq, Nat.reduceLT, Nat.reduceEqDiff, Nat.reduceBEq, Nat.reduceAdd, Nat.reduceSub, Nat.reduceMul, Nat.reduceLeDiff, Int.reduceLE, Int.reduceLT, Int.reduceNeg, Int.reduceEq, Int.reduceBEq, Int.reduceBNe, Int.reduceToNat]
  clear hb1
  refine AW.lessW ⟨30, (upd (upd (upd (fun _ => .junk) 0 (.one (.c (u32 5)))) 3 (.one (.c (rawV b1 0)))) 6 (.one .nil)), (upd (fun _ => none) (1000000+b1) (some (.obox [u32 p.n, u32 p.m, u32 p.a, u32 p.b, u32 p.k, u32 p.t, u32 p.h])))⟩ (by exact lz trivial) ?_
  simp only [rawV, plc]
  have i1 : IntKind.i64.wrap (0 + 1) = 1 := by decide
  have i2 : IntKind.i64.wrap (1 + 1) = 2 := by decide
  have i3 : IntKind.i64.wrap (2 + 1) = 3 := by decide
  have i4 : IntKind.i64.wrap (3 + 1) = 4 := by decide
  have i5 : IntKind.i64.wrap (4 + 1) = 5 := by decide
  have hwn := p11_wn b1
  simp only [rawV] at *
  refine wk1 trivial hpl trivial _ ?_
  all_goals (repeat intro h)
  all_goals refine ⟨?_⟩
  refine AW.unroll 1 ?_
  refine Unr.step ?_
  refine wk1 i1 hwn trivial _ ?_
  all_goals (repeat intro h)
  all_goals refine ⟨?_⟩
  refine Unr.less ⟨30, (upd (upd (upd (upd (upd (fun _ => .junk) 3 (.one (.c (rawV b1 0)))) 6 (.one (.own 27 1))) 15 (.one (.c (.row [[plc 19]])))) 16 (.one (.c (i64 ((1 : Nat) : Int))))) 17 (.one (.c (i64 1)))), (upd (upd (fun _ => none) 27 (some (.rows 22 1 ([[u32 p.n]])))) (1000000+b1) (some (.obox [u32 p.n, u32 p.m, u32 p.a, u32 p.b, u32 p.k, u32 p.t, u32 p.h])))⟩ (by exact lz trivial) ?_
  simp only [rawV, plc]
  refine Unr.last ?_
  refine wk0 i1 trivial trivial
set_option maxHeartbeats 4000000 in
theorem p11_puts6 (p : Prt) (h : mayP 6 p = true) : ACalls Try.prog 9 [.one (u32 6), .agg (ePrt p)] (.tup [.one (.row ((wordsP 6 p).map eWord)), .one (i64 0)]) := by
  refine ACalls.intro (fn := Try.f9) Try.func9 rfl rfl (by simp [Try.f9]) ?_
  have hpl := p11_places
  have hm := p11_may 6 p
  rw [h] at hm
  rw [show (wordsP 6 p).map eWord = [[u32 p.n], [u32 p.m], [u32 p.a], [u32 p.b]] from rfl]
  unfold Try.f9
  simp only [rB, ePrt, plc, rawV, labsV, atsV] at *
  refine wk1 trivial (And.intro hpl hm) (@AW.halt 4) _ ?_
  all_goals (repeat intro h)
  all_goals refine ⟨?_⟩
  refine AWs.mk (AW.name 3 rfl ?_ ?_ fun b1 hb1 => ?_)
  · simp only [go_sem, ↓reduceIte, reduceCtorEq, Nat.reduceLT, Nat.reduceEqDiff, Nat.reduceBEq, Nat.reduceAdd, Nat.reduceSub, Nat.reduceMul, Nat.reduceLeDiff, Int.reduceLE, Int.reduceLT, Int.reduceNeg, Int.reduceEq, Int.reduceBEq, Int.reduceBNe, Int.reduceToNat]
  · intro b; simp only [go_sem, ↓reduceIte, reduceCtorEq, Nat.reduceLT, Nat.reduceEqDiff, Nat.reduceBEq, Nat.reduceAdd, Nat.reduceSub, Nat.reduceMul, Nat.reduceLeDiff, Int.reduceLE, Int.reduceLT, Int.reduceNeg, Int.reduceEq, Int.reduceBEq, Int.reduceBNe, Int.reduceToNat]
  clear hb1
  refine AW.lessW ⟨30, (upd (upd (upd (fun _ => .junk) 0 (.one (.c (u32 6)))) 3 (.one (.c (rawV b1 0)))) 6 (.one .nil)), (upd (fun _ => none) (1000000+b1) (some (.obox [u32 p.n, u32 p.m, u32 p.a, u32 p.b, u32 p.k, u32 p.t, u32 p.h])))⟩ (by exact lz trivial) ?_
  simp only [rawV, plc]
  have i1 : IntKind.i64.wrap (0 + 1) = 1 := by decide
  have i2 : IntKind.i64.wrap (1 + 1) = 2 := by decide
  have i3 : IntKind.i64.wrap (2 + 1) = 3 := by decide
  have i4 : IntKind.i64.wrap (3 + 1) = 4 := by decide
  have i5 : IntKind.i64.wrap (4 + 1) = 5 := by decide
  have hwa := p11_wa b1
  have hwb := p11_wb b1
  have hwm := p11_wm b1
  have hwn := p11_wn b1
  simp only [rawV] at *
  refine wk1 trivial hpl trivial _ ?_
  all_goals (repeat intro h)
  all_goals refine ⟨?_⟩
  refine AW.unroll 4 ?_
  refine Unr.step ?_
  refine wk1 (And.intro i1 (And.intro i2 (And.intro i3 i4))) (And.intro hwa (And.intro hwb (And.intro hwm hwn))) trivial _ ?_
  all_goals (repeat intro h)
  all_goals refine ⟨?_⟩
  refine Unr.less ⟨30, (upd (upd (upd (upd (upd (fun _ => .junk) 3 (.one (.c (rawV b1 0)))) 6 (.one (.own 27 1))) 15 (.one (.c (.row [[plc 19], [plc 20], [plc 21], [plc 22]])))) 16 (.one (.c (i64 ((4 : Nat) : Int))))) 17 (.one (.c (i64 1)))), (upd (upd (fun _ => none) 27 (some (.rows 22 1 ([[u32 p.n]])))) (1000000+b1) (some (.obox [u32 p.n, u32 p.m, u32 p.a, u32 p.b, u32 p.k, u32 p.t, u32 p.h])))⟩ (by exact lz trivial) ?_
  simp only [rawV, plc]
  refine Unr.step ?_
  refine wk1 (And.intro i1 (And.intro i2 (And.intro i3 i4))) (And.intro hwa (And.intro hwb (And.intro hwm hwn))) trivial _ ?_
  all_goals (repeat intro h)
  all_goals refine ⟨?_⟩
  refine Unr.less ⟨30, (upd (upd (upd (upd (upd (fun _ => .junk) 3 (.one (.c (rawV b1 0)))) 6 (.one (.own 27 2))) 15 (.one (.c (.row [[plc 19], [plc 20], [plc 21], [plc 22]])))) 16 (.one (.c (i64 ((4 : Nat) : Int))))) 17 (.one (.c (i64 2)))), (upd (upd (fun _ => none) 27 (some (.rows 22 1 ([[u32 p.n], [u32 p.m]])))) (1000000+b1) (some (.obox [u32 p.n, u32 p.m, u32 p.a, u32 p.b, u32 p.k, u32 p.t, u32 p.h])))⟩ (by exact lz trivial) ?_
  simp only [rawV, plc]
  refine Unr.step ?_
  refine wk1 (And.intro i1 (And.intro i2 (And.intro i3 i4))) (And.intro hwa (And.intro hwb (And.intro hwm hwn))) trivial _ ?_
  all_goals (repeat intro h)
  all_goals refine ⟨?_⟩
  refine Unr.less ⟨30, (upd (upd (upd (upd (upd (fun _ => .junk) 3 (.one (.c (rawV b1 0)))) 6 (.one (.own 27 3))) 15 (.one (.c (.row [[plc 19], [plc 20], [plc 21], [plc 22]])))) 16 (.one (.c (i64 ((4 : Nat) : Int))))) 17 (.one (.c (i64 3)))), (upd (upd (fun _ => none) 27 (some (.rows 22 1 ([[u32 p.n], [u32 p.m], [u32 p.a]])))) (1000000+b1) (some (.obox [u32 p.n, u32 p.m, u32 p.a, u32 p.b, u32 p.k, u32 p.t, u32 p.h])))⟩ (by exact lz trivial) ?_
  simp only [rawV, plc]
  refine Unr.step ?_
  refine wk1 (And.intro i1 (And.intro i2 (And.intro i3 i4))) (And.intro hwa (And.intro hwb (And.intro hwm hwn))) trivial _ ?_
  all_goals (repeat intro h)
  all_goals refine ⟨?_⟩
  refine Unr.less ⟨30, (upd (upd (upd (upd (upd (fun _ => .junk) 3 (.one (.c (rawV b1 0)))) 6 (.one (.own 27 4))) 15 (.one (.c (.row [[plc 19], [plc 20], [plc 21], [plc 22]])))) 16 (.one (.c (i64 ((4 : Nat) : Int))))) 17 (.one (.c (i64 4)))), (upd (upd (fun _ => none) 27 (some (.rows 22 1 ([[u32 p.n], [u32 p.m], [u32 p.a], [u32 p.b]])))) (1000000+b1) (some (.obox [u32 p.n, u32 p.m, u32 p.a, u32 p.b, u32 p.k, u32 p.t, u32 p.h])))⟩ (by exact lz trivial) ?_
  simp only [rawV, plc]
  refine Unr.last ?_
  refine wk0 (And.intro i1 (And.intro i2 (And.intro i3 i4))) trivial trivial
set_option maxHeartbeats 4000000 in
theorem p11_puts7 (p : Prt) (h : mayP 7 p = true) : ACalls Try.prog 9 [.one (u32 7), .agg (ePrt p)] (.tup [.one (.row ((wordsP 7 p).map eWord)), .one (i64 0)]) := by
  refine ACalls.intro (fn := Try.f9) Try.func9 rfl rfl (by simp [Try.f9]) ?_
  have hpl := p11_places
  have hm := p11_may 7 p
  rw [h] at hm
  rw [show (wordsP 7 p).map eWord = [[u32 p.n], [u32 p.m], [u32 p.a], [u32 p.b]] from rfl]
  unfold Try.f9
  simp only [rB, ePrt, plc, rawV, labsV, atsV] at *
  refine wk1 trivial (And.intro hpl hm) (@AW.halt 4) _ ?_
  all_goals (repeat intro h)
  all_goals refine ⟨?_⟩
  refine AWs.mk (AW.name 3 rfl ?_ ?_ fun b1 hb1 => ?_)
  · simp only [go_sem, ↓reduceIte, reduceCtorEq, Nat.reduceLT, Nat.reduceEqDiff, Nat.reduceBEq, Nat.reduceAdd, Nat.reduceSub, Nat.reduceMul, Nat.reduceLeDiff, Int.reduceLE, Int.reduceLT, Int.reduceNeg, Int.reduceEq, Int.reduceBEq, Int.reduceBNe, Int.reduceToNat]
  · intro b; simp only [go_sem, ↓reduceIte, reduceCtorEq, Nat.reduceLT, Nat.reduceEqDiff, Nat.reduceBEq, Nat.reduceAdd, Nat.reduceSub, Nat.reduceMul, Nat.reduceLeDiff, Int.reduceLE, Int.reduceLT, Int.reduceNeg, Int.reduceEq, Int.reduceBEq, Int.reduceBNe, Int.reduceToNat]
  clear hb1
  refine AW.lessW ⟨30, (upd (upd (upd (fun _ => .junk) 0 (.one (.c (u32 7)))) 3 (.one (.c (rawV b1 0)))) 6 (.one .nil)), (upd (fun _ => none) (1000000+b1) (some (.obox [u32 p.n, u32 p.m, u32 p.a, u32 p.b, u32 p.k, u32 p.t, u32 p.h])))⟩ (by exact lz trivial) ?_
  simp only [rawV, plc]
  have i1 : IntKind.i64.wrap (0 + 1) = 1 := by decide
  have i2 : IntKind.i64.wrap (1 + 1) = 2 := by decide
  have i3 : IntKind.i64.wrap (2 + 1) = 3 := by decide
  have i4 : IntKind.i64.wrap (3 + 1) = 4 := by decide
  have i5 : IntKind.i64.wrap (4 + 1) = 5 := by decide
  have hwa := p11_wa b1
  have hwb := p11_wb b1
  have hwm := p11_wm b1
  have hwn := p11_wn b1
  simp only [rawV] at *
  refine wk1 trivial hpl trivial _ ?_
  all_goals (repeat intro h)
  all_goals refine ⟨?_⟩
  refine AW.unroll 4 ?_
  refine Unr.step ?_
  refine wk1 (And.intro i1 (And.intro i2 (And.intro i3 i4))) (And.intro hwa (And.intro hwb (And.intro hwm hwn))) trivial _ ?_
  all_goals (repeat intro h)
  all_goals refine ⟨?_⟩
  refine Unr.less ⟨30, (upd (upd (upd (upd (upd (fun _ => .junk) 3 (.one (.c (rawV b1 0)))) 6 (.one (.own 27 1))) 15 (.one (.c (.row [[plc 19], [plc 20], [plc 21], [plc 22]])))) 16 (.one (.c (i64 ((4 : Nat) : Int))))) 17 (.one (.c (i64 1)))), (upd (upd (fun _ => none) 27 (some (.rows 22 1 ([[u32 p.n]])))) (1000000+b1) (some (.obox [u32 p.n, u32 p.m, u32 p.a, u32 p.b, u32 p.k, u32 p.t, u32 p.h])))⟩ (by exact lz trivial) ?_
  simp only [rawV, plc]
  refine Unr.step ?_
  refine wk1 (And.intro i1 (And.intro i2 (And.intro i3 i4))) (And.intro hwa (And.intro hwb (And.intro hwm hwn))) trivial _ ?_
  all_goals (repeat intro h)
  all_goals refine ⟨?_⟩
  refine Unr.less ⟨30, (upd (upd (upd (upd (upd (fun _ => .junk) 3 (.one (.c (rawV b1 0)))) 6 (.one (.own 27 2))) 15 (.one (.c (.row [[plc 19], [plc 20], [plc 21], [plc 22]])))) 16 (.one (.c (i64 ((4 : Nat) : Int))))) 17 (.one (.c (i64 2)))), (upd (upd (fun _ => none) 27 (some (.rows 22 1 ([[u32 p.n], [u32 p.m]])))) (1000000+b1) (some (.obox [u32 p.n, u32 p.m, u32 p.a, u32 p.b, u32 p.k, u32 p.t, u32 p.h])))⟩ (by exact lz trivial) ?_
  simp only [rawV, plc]
  refine Unr.step ?_
  refine wk1 (And.intro i1 (And.intro i2 (And.intro i3 i4))) (And.intro hwa (And.intro hwb (And.intro hwm hwn))) trivial _ ?_
  all_goals (repeat intro h)
  all_goals refine ⟨?_⟩
  refine Unr.less ⟨30, (upd (upd (upd (upd (upd (fun _ => .junk) 3 (.one (.c (rawV b1 0)))) 6 (.one (.own 27 3))) 15 (.one (.c (.row [[plc 19], [plc 20], [plc 21], [plc 22]])))) 16 (.one (.c (i64 ((4 : Nat) : Int))))) 17 (.one (.c (i64 3)))), (upd (upd (fun _ => none) 27 (some (.rows 22 1 ([[u32 p.n], [u32 p.m], [u32 p.a]])))) (1000000+b1) (some (.obox [u32 p.n, u32 p.m, u32 p.a, u32 p.b, u32 p.k, u32 p.t, u32 p.h])))⟩ (by exact lz trivial) ?_
  simp only [rawV, plc]
  refine Unr.step ?_
  refine wk1 (And.intro i1 (And.intro i2 (And.intro i3 i4))) (And.intro hwa (And.intro hwb (And.intro hwm hwn))) trivial _ ?_
  all_goals (repeat intro h)
  all_goals refine ⟨?_⟩
  refine Unr.less ⟨30, (upd (upd (upd (upd (upd (fun _ => .junk) 3 (.one (.c (rawV b1 0)))) 6 (.one (.own 27 4))) 15 (.one (.c (.row [[plc 19], [plc 20], [plc 21], [plc 22]])))) 16 (.one (.c (i64 ((4 : Nat) : Int))))) 17 (.one (.c (i64 4)))), (upd (upd (fun _ => none) 27 (some (.rows 22 1 ([[u32 p.n], [u32 p.m], [u32 p.a], [u32 p.b]])))) (1000000+b1) (some (.obox [u32 p.n, u32 p.m, u32 p.a, u32 p.b, u32 p.k, u32 p.t, u32 p.h])))⟩ (by exact lz trivial) ?_
  simp only [rawV, plc]
  refine Unr.last ?_
  refine wk0 (And.intro i1 (And.intro i2 (And.intro i3 i4))) trivial trivial
set_option maxHeartbeats 4000000 in
theorem p11_puts8 (p : Prt) (h : mayP 8 p = true) : ACalls Try.prog 9 [.one (u32 8), .agg (ePrt p)] (.tup [.one (.row ((wordsP 8 p).map eWord)), .one (i64 0)]) := by
  refine ACalls.intro (fn := Try.f9) Try.func9 rfl rfl (by simp [Try.f9]) ?_
  have hpl := p11_places
  have hm := p11_may 8 p
  rw [h] at hm
  rw [show (wordsP 8 p).map eWord = [[u32 p.n], [u32 p.k]] from rfl]
  unfold Try.f9
  simp only [rB, ePrt, plc, rawV, labsV, atsV] at *
  refine wk1 trivial (And.intro hpl hm) (@AW.halt 4) _ ?_
  all_goals (repeat intro h)
  all_goals refine ⟨?_⟩
  refine AWs.mk (AW.name 3 rfl ?_ ?_ fun b1 hb1 => ?_)
  · simp only [go_sem, ↓reduceIte, reduceCtorEq, Nat.reduceLT, Nat.reduceEqDiff, Nat.reduceBEq, Nat.reduceAdd, Nat.reduceSub, Nat.reduceMul, Nat.reduceLeDiff, Int.reduceLE, Int.reduceLT, Int.reduceNeg, Int.reduceEq, Int.reduceBEq, Int.reduceBNe, Int.reduceToNat]
  · intro b; simp only [go_sem, ↓reduceIte, reduceCtorEq, Nat.reduceLT, Nat.reduceEqDiff, Nat.reduceBEq, Nat.reduceAdd, Nat.reduceSub, Nat.reduceMul, Nat.reduceLeDiff, Int.reduceLE, Int.reduceLT, Int.reduceNeg, Int.reduceEq, Int.reduceBEq, Int.reduceBNe, Int.reduceToNat]
  clear hb1
  refine AW.lessW ⟨30, (upd (upd (upd (fun _ => .junk) 0 (.one (.c (u32 8)))) 3 (.one (.c (rawV b1 0)))) 6 (.one .nil)), (upd (fun _ => none) (1000000+b1) (some (.obox [u32 p.n, u32 p.m, u32 p.a, u32 p.b, u32 p.k, u32 p.t, u32 p.h])))⟩ (by exact lz trivial) ?_
  simp only [rawV, plc]
  have i1 : IntKind.i64.wrap (0 + 1) = 1 := by decide
  have i2 : IntKind.i64.wrap (1 + 1) = 2 := by decide
  have i3 : IntKind.i64.wrap (2 + 1) = 3 := by decide
  have i4 : IntKind.i64.wrap (3 + 1) = 4 := by decide
  have i5 : IntKind.i64.wrap (4 + 1) = 5 := by decide
  have hwk := p11_wk b1
  have hwn := p11_wn b1
  simp only [rawV] at *
  refine wk1 trivial hpl trivial _ ?_
  all_goals (repeat intro h)
  all_goals refine ⟨?_⟩
  refine AW.unroll 2 ?_
  refine Unr.step ?_
  refine wk1 (And.intro i1 i2) (And.intro hwk hwn) trivial _ ?_
  all_goals (repeat intro h)
  all_goals refine ⟨?_⟩
  refine Unr.less ⟨30, (upd (upd (upd (upd (upd (fun _ => .junk) 3 (.one (.c (rawV b1 0)))) 6 (.one (.own 27 1))) 15 (.one (.c (.row [[plc 19], [plc 23]])))) 16 (.one (.c (i64 ((2 : Nat) : Int))))) 17 (.one (.c (i64 1)))), (upd (upd (fun _ => none) 27 (some (.rows 22 1 ([[u32 p.n]])))) (1000000+b1) (some (.obox [u32 p.n, u32 p.m, u32 p.a, u32 p.b, u32 p.k, u32 p.t, u32 p.h])))⟩ (by exact lz trivial) ?_
  simp only [rawV, plc]
  refine Unr.step ?_
  refine wk1 (And.intro i1 i2) (And.intro hwk hwn) trivial _ ?_
  all_goals (repeat intro h)
  all_goals refine ⟨?_⟩
  refine Unr.less ⟨30, (upd (upd (upd (upd (upd (fun _ => .junk) 3 (.one (.c (rawV b1 0)))) 6 (.one (.own 27 2))) 15 (.one (.c (.row [[plc 19], [plc 23]])))) 16 (.one (.c (i64 ((2 : Nat) : Int))))) 17 (.one (.c (i64 2)))), (upd (upd (fun _ => none) 27 (some (.rows 22 1 ([[u32 p.n], [u32 p.k]])))) (1000000+b1) (some (.obox [u32 p.n, u32 p.m, u32 p.a, u32 p.b, u32 p.k, u32 p.t, u32 p.h])))⟩ (by exact lz trivial) ?_
  simp only [rawV, plc]
  refine Unr.last ?_
  refine wk0 (And.intro i1 i2) trivial trivial
set_option maxHeartbeats 4000000 in
theorem p11_puts9 (p : Prt) (h : mayP 9 p = true) : ACalls Try.prog 9 [.one (u32 9), .agg (ePrt p)] (.tup [.one (.row ((wordsP 9 p).map eWord)), .one (i64 0)]) := by
  refine ACalls.intro (fn := Try.f9) Try.func9 rfl rfl (by simp [Try.f9]) ?_
  have hpl := p11_places
  have hm := p11_may 9 p
  rw [h] at hm
  rw [show (wordsP 9 p).map eWord = [[u32 p.n], [u32 p.k]] from rfl]
  unfold Try.f9
  simp only [rB, ePrt, plc, rawV, labsV, atsV] at *
  refine wk1 trivial (And.intro hpl hm) (@AW.halt 4) _ ?_
  all_goals (repeat intro h)
  all_goals refine ⟨?_⟩
  refine AWs.mk (AW.name 3 rfl ?_ ?_ fun b1 hb1 => ?_)
  · simp only [go_sem, ↓reduceIte, reduceCtorEq, Nat.reduceLT, Nat.reduceEqDiff, Nat.reduceBEq, Nat.reduceAdd, Nat.reduceSub, Nat.reduceMul, Nat.reduceLeDiff, Int.reduceLE, Int.reduceLT, Int.reduceNeg, Int.reduceEq, Int.reduceBEq, Int.reduceBNe, Int.reduceToNat]
  · intro b; simp only [go_sem, ↓reduceIte, reduceCtorEq, Nat.reduceLT, Nat.reduceEqDiff, Nat.reduceBEq, Nat.reduceAdd, Nat.reduceSub, Nat.reduceMul, Nat.reduceLeDiff, Int.reduceLE, Int.reduceLT, Int.reduceNeg, Int.reduceEq, Int.reduceBEq, Int.reduceBNe, Int.reduceToNat]
  clear hb1
  refine AW.lessW ⟨30, (upd (upd (upd (fun _ => .junk) 0 (.one (.c (u32 9)))) 3 (.one (.c (rawV b1 0)))) 6 (.one .nil)), (upd (fun _ => none) (1000000+b1) (some (.obox [u32 p.n, u32 p.m, u32 p.a, u32 p.b, u32 p.k, u32 p.t, u32 p.h])))⟩ (by exact lz trivial) ?_
  simp only [rawV, plc]
  have i1 : IntKind.i64.wrap (0 + 1) = 1 := by decide
  have i2 : IntKind.i64.wrap (1 + 1) = 2 := by decide
  have i3 : IntKind.i64.wrap (2 + 1) = 3 := by decide
  have i4 : IntKind.i64.wrap (3 + 1) = 4 := by decide
  have i5 : IntKind.i64.wrap (4 + 1) = 5 := by decide
  have hwk := p11_wk b1
  have hwn := p11_wn b1
  simp only [rawV] at *
  refine wk1 trivial hpl trivial _ ?_
  all_goals (repeat intro h)
  all_goals refine ⟨?_⟩
  refine AW.unroll 2 ?_
  refine Unr.step ?_
  refine wk1 (And.intro i1 i2) (And.intro hwk hwn) trivial _ ?_
  all_goals (repeat intro h)
  all_goals refine ⟨?_⟩
  refine Unr.less ⟨30, (upd (upd (upd (upd (upd (fun _ => .junk) 3 (.one (.c (rawV b1 0)))) 6 (.one (.own 27 1))) 15 (.one (.c (.row [[plc 19], [plc 23]])))) 16 (.one (.c (i64 ((2 : Nat) : Int))))) 17 (.one (.c (i64 1)))), (upd (upd (fun _ => none) 27 (some (.rows 22 1 ([[u32 p.n]])))) (1000000+b1) (some (.obox [u32 p.n, u32 p.m, u32 p.a, u32 p.b, u32 p.k, u32 p.t, u32 p.h])))⟩ (by exact lz trivial) ?_
  simp only [rawV, plc]
  refine Unr.step ?_
  refine wk1 (And.intro i1 i2) (And.intro hwk hwn) trivial _ ?_
  all_goals (repeat intro h)
  all_goals refine ⟨?_⟩
  refine Unr.less ⟨30, (upd (upd (upd (upd (upd (fun _ => .junk) 3 (.one (.c (rawV b1 0)))) 6 (.one (.own 27 2))) 15 (.one (.c (.row [[plc 19], [plc 23]])))) 16 (.one (.c (i64 ((2 : Nat) : Int))))) 17 (.one (.c (i64 2)))), (upd (upd (fun _ => none) 27 (some (.rows 22 1 ([[u32 p.n], [u32 p.k]])))) (1000000+b1) (some (.obox [u32 p.n, u32 p.m, u32 p.a, u32 p.b, u32 p.k, u32 p.t, u32 p.h])))⟩ (by exact lz trivial) ?_
  simp only [rawV, plc]
  refine Unr.last ?_
  refine wk0 (And.intro i1 i2) trivial trivial
/-- The words that are answered nobody else knows of. -/
theorem p11_putO (x : Int) (p : Prt) (h : mayP x p = true) : ACalls Try.prog 9 [.one (u32 x), .agg (ePrt p)] (.mix [(false, [.own 22 1 ((wordsP x p).map eWord)]), (false, [.c (i64 0)])]) := by
  rcases label_cases x with rfl | rfl | rfl | rfl | rfl | rfl | rfl | rfl | hn
  · exact p11_put2 p h
  · exact p11_put3 p h
  · exact p11_put4 p h
  · exact p11_put5 p h
  · exact p11_put6 p h
  · exact p11_put7 p h
  · exact p11_put8 p h
  · exact p11_put9 p h
  rw [mayP, getP, if_pos hn] at h
  simp at h
theorem p11_put (x : Int) (p : Prt) : ACalls Try.prog 9 [.one (u32 x), .agg (ePrt p)] (.tup [.one (eWords (putP x p).1), .one (i64 (putP x p).2)]) := by
  by_cases h : mayP x p = true
  · rw [putP, if_pos h]
    rcases label_cases x with rfl | rfl | rfl | rfl | rfl | rfl | rfl | rfl | hn
    · exact p11_puts2 p h
    · exact p11_puts3 p h
    · exact p11_puts4 p h
    · exact p11_puts5 p h
    · exact p11_puts6 p h
    · exact p11_puts7 p h
    · exact p11_puts8 p h
    · exact p11_puts9 p h
    rw [mayP, getP, if_pos hn] at h
    simp at h
  · rw [putP, if_neg h]
    have hm := p11_may x p
    rw [Bool.not_eq_true] at h
    rw [h] at hm
    refine ACalls.intro (fn := Try.f9) Try.func9 rfl rfl (by simp [Try.f9]) ?_
    unfold Try.f9
    simp only [rB, ePrt, eWords, List.map_nil] at *
    refine wk0 trivial hm trivial
end
set_option maxHeartbeats 4000000 in
theorem p11_get2 (x0 x1 x2 x3 x4 : Int) : ACalls Try.prog 15 [.one (u32 2), .one (eWords [x0, x1, x2, x3, x4])] (.tup [.agg (ePrt ⟨x0, 0, 0, x1, x2, x3, x4⟩), .one (i64 0)]) := by
  refine ACalls.intro (fn := Try.f15) Try.func15 rfl rfl (by simp [Try.f15]) ?_
  have hpl := p11_places
  unfold Try.f15
  simp only [rB, ePrt, plc, rawV, eWords, eWord, List.map_cons, List.map_nil, labsV, atsV] at *
  refine wk1 trivial hpl (@AW.halt 7) _ ?_
  all_goals (repeat intro h)
  all_goals refine ⟨?_⟩
  refine AWs.mk (AW.name 8 (cs := [.c (u32 0), .c (u32 0), .c (u32 0), .c (u32 0), .c (u32 0), .c (u32 0), .c (u32 0)]) ?_ ?_ ?_ fun b1 hb1 => ?_)
  · simp only [go_sem, ↓reduceIte, reduceCtorEq, Nat.reduceLT, Nat.reduceEqDiff, Nat.reduceBEq, Nat.reduceAdd, Nat.reduceSub, Nat.reduceMul, Nat.reduceLeDiff, Int.reduceLE, Int.reduceLT, Int.reduceNeg, Int.reduceEq, Int.reduceBEq, Int.reduceBNe, Int.reduceToNat]
  · simp only [go_sem, ↓reduceIte, reduceCtorEq, Nat.reduceLT, Nat.reduceEqDiff, Nat.reduceBEq, Nat.reduceAdd, Nat.reduceSub, Nat.reduceMul, Nat.reduceLeDiff, Int.reduceLE, Int.reduceLT, Int.reduceNeg, Int.reduceEq, Int.reduceBEq, Int.reduceBNe, Int.reduceToNat]
  · intro b; simp only [go_sem, ↓reduceIte, reduceCtorEq, Nat.reduceLT, Nat.reduceEqDiff, Nat.reduceBEq, Nat.reduceAdd, Nat.reduceSub, Nat.reduceMul, Nat.reduceLeDiff, Int.reduceLE, Int.reduceLT, Int.reduceNeg, Int.reduceEq, Int.reduceBEq, Int.reduceBNe, Int.reduceToNat]
  clear hb1
  refine AW.lessW ⟨44, (upd (upd (upd (upd (upd (fun _ => .junk) 1 (.one (.c (.row [[u32 x0], [u32 x1], [u32 x2], [u32 x3], [u32 x4]])))) 4 (.one (.ptr 4 0))) 5 (.one (.c (i64 0)))) 6 (.one (.c (.row [[plc 19], [plc 22], [plc 23], [plc 24], [plc 25]])))) 8 (.one (.c (rawV b1 0)))), (upd (upd (fun _ => none) 4 (some (.box [.c (u32 0), .c (u32 0), .c (u32 0), .c (u32 0), .c (u32 0), .c (u32 0), .c (u32 0)]))) (1000000+b1) (some (.obox [u32 0, u32 0, u32 0, u32 0, u32 0, u32 0, u32 0])))⟩ (by exact lz trivial) ?_
  simp only [rawV, plc]
  have i1 : IntKind.i64.wrap (0 + 1) = 1 := by decide
  have i2 : IntKind.i64.wrap (1 + 1) = 2 := by decide
  have i3 : IntKind.i64.wrap (2 + 1) = 3 := by decide
  have i4 : IntKind.i64.wrap (3 + 1) = 4 := by decide
  have i5 : IntKind.i64.wrap (4 + 1) = 5 := by decide
  have hwb := p11_wb b1
  have hwh := p11_wh b1
  have hwk := p11_wk b1
  have hwn := p11_wn b1
  have hwt := p11_wt b1
  simp only [rawV] at *
  refine wk1 trivial trivial trivial _ ?_
  all_goals (repeat intro h)
  all_goals refine ⟨?_⟩
  refine AW.unroll 5 ?_
  refine wk0 (And.intro i1 (And.intro i2 (And.intro i3 (And.intro i4 i5)))) (And.intro hwb (And.intro hwh (And.intro hwk (And.intro hwn hwt)))) trivial
set_option maxHeartbeats 4000000 in
theorem p11_get3 (x0 x1 x2 : Int) : ACalls Try.prog 15 [.one (u32 3), .one (eWords [x0, x1, x2])] (.tup [.agg (ePrt ⟨0, 0, x1, 0, x0, x2, 0⟩), .one (i64 0)]) := by
  refine ACalls.intro (fn := Try.f15) Try.func15 rfl rfl (by simp [Try.f15]) ?_
  have hpl := p11_places
  unfold Try.f15
  simp only [rB, ePrt, plc, rawV, eWords, eWord, List.map_cons, List.map_nil, labsV, atsV] at *
  refine wk1 trivial hpl (@AW.halt 7) _ ?_
  all_goals (repeat intro h)
  all_goals refine ⟨?_⟩
  refine AWs.mk (AW.name 8 (cs := [.c (u32 0), .c (u32 0), .c (u32 0), .c (u32 0), .c (u32 0), .c (u32 0), .c (u32 0)]) ?_ ?_ ?_ fun b1 hb1 => ?_)
  · simp only [go_sem, ↓reduceIte, reduceCtorEq, Nat.reduceLT, Nat.reduceEqDiff, Nat.reduceBEq, Nat.reduceAdd, Nat.reduceSub, Nat.reduceMul, Nat.reduceLeDiff, Int.reduceLE, Int.reduceLT, Int.reduceNeg, Int.reduceEq, Int.reduceBEq, Int.reduceBNe, Int.reduceToNat]
  · simp only [go_sem, ↓reduceIte, reduceCtorEq, Nat.reduceLT, Nat.reduceEqDiff, Nat.reduceBEq, Nat.reduceAdd, Nat.reduceSub, Nat.reduceMul, Nat.reduceLeDiff, Int.reduceLE, Int.reduceLT, Int.reduceNeg, Int.reduceEq, Int.reduceBEq, Int.reduceBNe, Int.reduceToNat]
  · intro b; simp only [go_sem, ↓reduceIte, reduceCtorEq, Nat.reduceLT, Nat.reduceEqDiff, Nat.reduceBEq, Nat.reduceAdd, Nat.reduceSub, Nat.reduceMul, Nat.reduceLeDiff, Int.reduceLE, Int.reduceLT, Int.reduceNeg, Int.reduceEq, Int.reduceBEq, Int.reduceBNe, Int.reduceToNat]
  clear hb1
  refine AW.lessW ⟨44, (upd (upd (upd (upd (upd (fun _ => .junk) 1 (.one (.c (.row [[u32 x0], [u32 x1], [u32 x2]])))) 4 (.one (.ptr 4 0))) 5 (.one (.c (i64 0)))) 6 (.one (.c (.row [[plc 23], [plc 21], [plc 24]])))) 8 (.one (.c (rawV b1 0)))), (upd (upd (fun _ => none) 4 (some (.box [.c (u32 0), .c (u32 0), .c (u32 0), .c (u32 0), .c (u32 0), .c (u32 0), .c (u32 0)]))) (1000000+b1) (some (.obox [u32 0, u32 0, u32 0, u32 0, u32 0, u32 0, u32 0])))⟩ (by exact lz trivial) ?_
  simp only [rawV, plc]
  have i1 : IntKind.i64.wrap (0 + 1) = 1 := by decide
  have i2 : IntKind.i64.wrap (1 + 1) = 2 := by decide
  have i3 : IntKind.i64.wrap (2 + 1) = 3 := by decide
  have i4 : IntKind.i64.wrap (3 + 1) = 4 := by decide
  have i5 : IntKind.i64.wrap (4 + 1) = 5 := by decide
  have hwa := p11_wa b1
  have hwk := p11_wk b1
  have hwt := p11_wt b1
  simp only [rawV] at *
  refine wk1 trivial trivial trivial _ ?_
  all_goals (repeat intro h)
  all_goals refine ⟨?_⟩
  refine AW.unroll 3 ?_
  refine wk0 (And.intro i1 (And.intro i2 i3)) (And.intro hwa (And.intro hwk hwt)) trivial
set_option maxHeartbeats 4000000 in
theorem p11_get4 (x0 : Int) : ACalls Try.prog 15 [.one (u32 4), .one (eWords [x0])] (.tup [.agg (ePrt ⟨x0, 0, 0, 0, 0, 0, 0⟩), .one (i64 0)]) := by
  refine ACalls.intro (fn := Try.f15) Try.func15 rfl rfl (by simp [Try.f15]) ?_
  have hpl := p11_places
  unfold Try.f15
  simp only [rB, ePrt, plc, rawV, eWords, eWord, List.map_cons, List.map_nil, labsV, atsV] at *
  refine wk1 trivial hpl (@AW.halt 7) _ ?_
  all_goals (repeat intro h)
  all_goals refine ⟨?_⟩
  refine AWs.mk (AW.name 8 (cs := [.c (u32 0), .c (u32 0), .c (u32 0), .c (u32 0), .c (u32 0), .c (u32 0), .c (u32 0)]) ?_ ?_ ?_ fun b1 hb1 => ?_)
  · simp only [go_sem, ↓reduceIte, reduceCtorEq, Nat.reduceLT, Nat.reduceEqDiff, Nat.reduceBEq, Nat.reduceAdd, Nat.reduceSub, Nat.reduceMul, Nat.reduceLeDiff, Int.reduceLE, Int.reduceLT, Int.reduceNeg, Int.reduceEq, Int.reduceBEq, Int.reduceBNe, Int.reduceToNat]
  · simp only [go_sem, ↓reduceIte, reduceCtorEq, Nat.reduceLT, Nat.reduceEqDiff, Nat.reduceBEq, Nat.reduceAdd, Nat.reduceSub, Nat.reduceMul, Nat.reduceLeDiff, Int.reduceLE, Int.reduceLT, Int.reduceNeg, Int.reduceEq, Int.reduceBEq, Int.reduceBNe, Int.reduceToNat]
  · intro b; simp only [go_sem, ↓reduceIte, reduceCtorEq, Nat.reduceLT, Nat.reduceEqDiff, Nat.reduceBEq, Nat.reduceAdd, Nat.reduceSub, Nat.reduceMul, Nat.reduceLeDiff, Int.reduceLE, Int.reduceLT, Int.reduceNeg, Int.reduceEq, Int.reduceBEq, Int.reduceBNe, Int.reduceToNat]
  clear hb1
  refine AW.lessW ⟨44, (upd (upd (upd (upd (upd (fun _ => .junk) 1 (.one (.c (.row [[u32 x0]])))) 4 (.one (.ptr 4 0))) 5 (.one (.c (i64 0)))) 6 (.one (.c (.row [[plc 19]])))) 8 (.one (.c (rawV b1 0)))), (upd (upd (fun _ => none) 4 (some (.box [.c (u32 0), .c (u32 0), .c (u32 0), .c (u32 0), .c (u32 0), .c (u32 0), .c (u32 0)]))) (1000000+b1) (some (.obox [u32 0, u32 0, u32 0, u32 0, u32 0, u32 0, u32 0])))⟩ (by exact lz trivial) ?_
  simp only [rawV, plc]
  have i1 : IntKind.i64.wrap (0 + 1) = 1 := by decide
  have i2 : IntKind.i64.wrap (1 + 1) = 2 := by decide
  have i3 : IntKind.i64.wrap (2 + 1) = 3 := by decide
  have i4 : IntKind.i64.wrap (3 + 1) = 4 := by decide
  have i5 : IntKind.i64.wrap (4 + 1) = 5 := by decide
  have hwn := p11_wn b1
  simp only [rawV] at *
  refine wk1 trivial trivial trivial _ ?_
  all_goals (repeat intro h)
  all_goals refine ⟨?_⟩
  refine AW.unroll 1 ?_
  refine wk0 i1 hwn trivial
set_option maxHeartbeats 4000000 in
theorem p11_get5 (x0 : Int) : ACalls Try.prog 15 [.one (u32 5), .one (eWords [x0])] (.tup [.agg (ePrt ⟨x0, 0, 0, 0, 0, 0, 0⟩), .one (i64 0)]) := by
  refine ACalls.intro (fn := Try.f15) Try.func15 rfl rfl (by simp [Try.f15]) ?_
  have hpl := p11_places
  unfold Try.f15
  simp only [rB, ePrt, plc, rawV, eWords, eWord, List.map_cons, List.map_nil, labsV, atsV] at *
  refine wk1 trivial hpl (@AW.halt 7) _ ?_
  all_goals (repeat intro h)
  all_goals refine ⟨?_⟩
  refine AWs.mk (AW.name 8 (cs := [.c (u32 0), .c (u32 0), .c (u32 0), .c (u32 0), .c (u32 0), .c (u32 0), .c (u32 0)]) ?_ ?_ ?_ fun b1 hb1 => ?_)
  · simp only [go_sem, ↓reduceIte, reduceCtorEq, Nat.reduceLT, Nat.reduceEqDiff, Nat.reduceBEq, Nat.reduceAdd, Nat.reduceSub, Nat.reduceMul, Nat.reduceLeDiff, Int.reduceLE, Int.reduceLT, Int.reduceNeg, Int.reduceEq, Int.reduceBEq, Int.reduceBNe, Int.reduceToNat]
  · simp only [go_sem, ↓reduceIte, reduceCtorEq, Nat.reduceLT, Nat.reduceEqDiff, Nat.reduceBEq, Nat.reduceAdd, Nat.reduceSub, Nat.reduceMul, Nat.reduceLeDiff, Int.reduceLE, Int.reduceLT, Int.reduceNeg, Int.reduceEq, Int.reduceBEq, Int.reduceBNe, Int.reduceToNat]
  · intro b; simp only [go_sem, ↓reduceIte, reduceCtorEq, Nat.reduceLT, Nat.reduceEqDiff, Nat.reduceBEq, Nat.reduceAdd, Nat.reduceSub, Nat.reduceMul, Nat.reduceLeDiff, Int.reduceLE, Int.reduceLT, Int.reduceNeg, Int.reduceEq, Int.reduceBEq, Int.reduceBNe, Int.reduceToNat]
  clear hb1
  refine AW.lessW ⟨44, (upd (upd (upd (upd (upd (fun _ => .junk) 1 (.one (.c (.row [[u32 x0]])))) 4 (.one (.ptr 4 0))) 5 (.one (.c (i64 0)))) 6 (.one (.c (.row [[plc 19]])))) 8 (.one (.c (rawV b1 0)))), (upd (upd (fun _ => none) 4 (some (.box [.c (u32 0), .c (u32 0), .c (u32 0), .c (u32 0), .c (u32 0), .c (u32 0), .c (u32 0)]))) (1000000+b1) (some (.obox [u32 0, u32 0, u32 0, u32 0, u32 0, u32 0, u32 0])))⟩ (by exact lz trivial) ?_
  simp only [rawV, plc]
  have i1 : IntKind.i64.wrap (0 + 1) = 1 := by decide
  have i2 : IntKind.i64.wrap (1 + 1) = 2 := by decide
  have i3 : IntKind.i64.wrap (2 + 1) = 3 := by decide
  have i4 : IntKind.i64.wrap (3 + 1) = 4 := by decide
  have i5 : IntKind.i64.wrap (4 + 1) = 5 := by decide
  have hwn := p11_wn b1
  simp only [rawV] at *
  refine wk1 trivial trivial trivial _ ?_
  all_goals (repeat intro h)
  all_goals refine ⟨?_⟩
  refine AW.unroll 1 ?_
  refine wk0 i1 hwn trivial
set_option maxHeartbeats 4000000 in
theorem p11_get6 (x0 x1 x2 x3 : Int) : ACalls Try.prog 15 [.one (u32 6), .one (eWords [x0, x1, x2, x3])] (.tup [.agg (ePrt ⟨x0, x1, x2, x3, 0, 0, 0⟩), .one (i64 0)]) := by
  refine ACalls.intro (fn := Try.f15) Try.func15 rfl rfl (by simp [Try.f15]) ?_
  have hpl := p11_places
  unfold Try.f15
  simp only [rB, ePrt, plc, rawV, eWords, eWord, List.map_cons, List.map_nil, labsV, atsV] at *
  refine wk1 trivial hpl (@AW.halt 7) _ ?_
  all_goals (repeat intro h)
  all_goals refine ⟨?_⟩
  refine AWs.mk (AW.name 8 (cs := [.c (u32 0), .c (u32 0), .c (u32 0), .c (u32 0), .c (u32 0), .c (u32 0), .c (u32 0)]) ?_ ?_ ?_ fun b1 hb1 => ?_)
  · simp only [go_sem, ↓reduceIte, reduceCtorEq, Nat.reduceLT, Nat.reduceEqDiff, Nat.reduceBEq, Nat.reduceAdd, Nat.reduceSub, Nat.reduceMul, Nat.reduceLeDiff, Int.reduceLE, Int.reduceLT, Int.reduceNeg, Int.reduceEq, Int.reduceBEq, Int.reduceBNe, Int.reduceToNat]
  · simp only [go_sem, ↓reduceIte, reduceCtorEq, Nat.reduceLT, Nat.reduceEqDiff, Nat.reduceBEq, Nat.reduceAdd, Nat.reduceSub, Nat.reduceMul, Nat.reduceLeDiff, Int.reduceLE, Int.reduceLT, Int.reduceNeg, Int.reduceEq, Int.reduceBEq, Int.reduceBNe, Int.reduceToNat]
  · intro b; simp only [go_sem, ↓reduceIte, reduceCtorEq, Nat.reduceLT, Nat.reduceEqDiff, Nat.reduceBEq, Nat.reduceAdd, Nat.reduceSub, Nat.reduceMul, Nat.reduceLeDiff, Int.reduceLE, Int.reduceLT, Int.reduceNeg, Int.reduceEq, Int.reduceBEq, Int.reduceBNe, Int.reduceToNat]
  clear hb1
  refine AW.lessW ⟨44, (upd (upd (upd (upd (upd (fun _ => .junk) 1 (.one (.c (.row [[u32 x0], [u32 x1], [u32 x2], [u32 x3]])))) 4 (.one (.ptr 4 0))) 5 (.one (.c (i64 0)))) 6 (.one (.c (.row [[plc 19], [plc 20], [plc 21], [plc 22]])))) 8 (.one (.c (rawV b1 0)))), (upd (upd (fun _ => none) 4 (some (.box [.c (u32 0), .c (u32 0), .c (u32 0), .c (u32 0), .c (u32 0), .c (u32 0), .c (u32 0)]))) (1000000+b1) (some (.obox [u32 0, u32 0, u32 0, u32 0, u32 0, u32 0, u32 0])))⟩ (by exact lz trivial) ?_
  simp only [rawV, plc]
  have i1 : IntKind.i64.wrap (0 + 1) = 1 := by decide
  have i2 : IntKind.i64.wrap (1 + 1) = 2 := by decide
  have i3 : IntKind.i64.wrap (2 + 1) = 3 := by decide
  have i4 : IntKind.i64.wrap (3 + 1) = 4 := by decide
  have i5 : IntKind.i64.wrap (4 + 1) = 5 := by decide
  have hwa := p11_wa b1
  have hwb := p11_wb b1
  have hwm := p11_wm b1
  have hwn := p11_wn b1
  simp only [rawV] at *
  refine wk1 trivial trivial trivial _ ?_
  all_goals (repeat intro h)
  all_goals refine ⟨?_⟩
  refine AW.unroll 4 ?_
  refine wk0 (And.intro i1 (And.intro i2 (And.intro i3 i4))) (And.intro hwa (And.intro hwb (And.intro hwm hwn))) trivial
set_option maxHeartbeats 4000000 in
theorem p11_get7 (x0 x1 x2 x3 : Int) : ACalls Try.prog 15 [.one (u32 7), .one (eWords [x0, x1, x2, x3])] (.tup [.agg (ePrt ⟨x0, x1, x2, x3, 0, 0, 0⟩), .one (i64 0)]) := by
  refine ACalls.intro (fn := Try.f15) Try.func15 rfl rfl (by simp [Try.f15]) ?_
  have hpl := p11_places
  unfold Try.f15
  simp only [rB, ePrt, plc, rawV, eWords, eWord, List.map_cons, List.map_nil, labsV, atsV] at *
  refine wk1 trivial hpl (@AW.halt 7) _ ?_
  all_goals (repeat intro h)
  all_goals refine ⟨?_⟩
  refine AWs.mk (AW.name 8 (cs := [.c (u32 0), .c (u32 0), .c (u32 0), .c (u32 0), .c (u32 0), .c (u32 0), .c (u32 0)]) ?_ ?_ ?_ fun b1 hb1 => ?_)
  · simp only [go_sem, ↓reduceIte, reduceCtorEq, Nat.reduceLT, Nat.reduceEqDiff, Nat.reduceBEq, Nat.reduceAdd, Nat.reduceSub, Nat.reduceMul, Nat.reduceLeDiff, Int.reduceLE, Int.reduceLT, Int.reduceNeg, Int.reduceEq, Int.reduceBEq, Int.reduceBNe, Int.reduceToNat]
  · simp only [go_sem, ↓reduceIte, reduceCtorEq, Nat.reduceLT, Nat.reduceEqDiff, Nat.reduceBEq, Nat.reduceAdd, Nat.reduceSub, Nat.reduceMul, Nat.reduceLeDiff, Int.reduceLE, Int.reduceLT, Int.reduceNeg, Int.reduceEq, Int.reduceBEq, Int.reduceBNe, Int.reduceToNat]
  · intro b; simp only [go_sem, ↓reduceIte, reduceCtorEq, Nat.reduceLT, Nat.reduceEqDiff, Nat.reduceBEq, Nat.reduceAdd, Nat.reduceSub, Nat.reduceMul, Nat.reduceLeDiff, Int.reduceLE, Int.reduceLT, Int.reduceNeg, Int.reduceEq, Int.reduceBEq, Int.reduceBNe, Int.reduceToNat]
  clear hb1
  refine AW.lessW ⟨44, (upd (upd (upd (upd (upd (fun _ => .junk) 1 (.one (.c (.row [[u32 x0], [u32 x1], [u32 x2], [u32 x3]])))) 4 (.one (.ptr 4 0))) 5 (.one (.c (i64 0)))) 6 (.one (.c (.row [[plc 19], [plc 20], [plc 21], [plc 22]])))) 8 (.one (.c (rawV b1 0)))), (upd (upd (fun _ => none) 4 (some (.box [.c (u32 0), .c (u32 0), .c (u32 0), .c (u32 0), .c (u32 0), .c (u32 0), .c (u32 0)]))) (1000000+b1) (some (.obox [u32 0, u32 0, u32 0, u32 0, u32 0, u32 0, u32 0])))⟩ (by exact lz trivial) ?_
  simp only [rawV, plc]
  have i1 : IntKind.i64.wrap (0 + 1) = 1 := by decide
  have i2 : IntKind.i64.wrap (1 + 1) = 2 := by decide
  have i3 : IntKind.i64.wrap (2 + 1) = 3 := by decide
  have i4 : IntKind.i64.wrap (3 + 1) = 4 := by decide
  have i5 : IntKind.i64.wrap (4 + 1) = 5 := by decide
  have hwa := p11_wa b1
  have hwb := p11_wb b1
  have hwm := p11_wm b1
  have hwn := p11_wn b1
  simp only [rawV] at *
  refine wk1 trivial trivial trivial _ ?_
  all_goals (repeat intro h)
  all_goals refine ⟨?_⟩
  refine AW.unroll 4 ?_
  refine wk0 (And.intro i1 (And.intro i2 (And.intro i3 i4))) (And.intro hwa (And.intro hwb (And.intro hwm hwn))) trivial
set_option maxHeartbeats 4000000 in
theorem p11_get8 (x0 x1 : Int) : ACalls Try.prog 15 [.one (u32 8), .one (eWords [x0, x1])] (.tup [.agg (ePrt ⟨x0, 0, 0, 0, x1, 0, 0⟩), .one (i64 0)]) := by
  refine ACalls.intro (fn := Try.f15) Try.func15 rfl rfl (by simp [Try.f15]) ?_
  have hpl := p11_places
  unfold Try.f15
  simp only [rB, ePrt, plc, rawV, eWords, eWord, List.map_cons, List.map_nil, labsV, atsV] at *
  refine wk1 trivial hpl (@AW.halt 7) _ ?_
  all_goals (repeat intro h)
  all_goals refine ⟨?_⟩
  refine AWs.mk (AW.name 8 (cs := [.c (u32 0), .c (u32 0), .c (u32 0), .c (u32 0), .c (u32 0), .c (u32 0), .c (u32 0)]) ?_ ?_ ?_ fun b1 hb1 => ?_)
  · simp only [go_sem, ↓reduceIte, reduceCtorEq, Nat.reduceLT, Nat.reduceEqDiff, Nat.reduceBEq, Nat.reduceAdd, Nat.reduceSub, Nat.reduceMul, Nat.reduceLeDiff, Int.reduceLE, Int.reduceLT, Int.reduceNeg, Int.reduceEq, Int.reduceBEq, Int.reduceBNe, Int.reduceToNat]
  · simp only [go_sem, ↓reduceIte, reduceCtorEq, Nat.reduceLT, Nat.reduceEqDiff, Nat.reduceBEq, Nat.reduceAdd, Nat.reduceSub, Nat.reduceMul, Nat.reduceLeDiff, Int.reduceLE, Int.reduceLT, Int.reduceNeg, Int.reduceEq, Int.reduceBEq, Int.reduceBNe, Int.reduceToNat]
  · intro b; simp only [go_sem, ↓reduceIte, reduceCtorEq, Nat.reduceLT, Nat.reduceEqDiff, Nat.reduceBEq, Nat.reduceAdd, Nat.reduceSub, Nat.reduceMul, Nat.reduceLeDiff, Int.reduceLE, Int.reduceLT, Int.reduceNeg, Int.reduceEq, Int.reduceBEq, Int.reduceBNe, Int.reduceToNat]
  clear hb1
  refine AW.lessW ⟨44, (upd (upd (upd (upd (upd (fun _ => .junk) 1 (.one (.c (.row [[u32 x0], [u32 x1]])))) 4 (.one (.ptr 4 0))) 5 (.one (.c (i64 0)))) 6 (.one (.c (.row [[plc 19], [plc 23]])))) 8 (.one (.c (rawV b1 0)))), (upd (upd (fun _ => none) 4 (some (.box [.c (u32 0), .c (u32 0), .c (u32 0), .c (u32 0), .c (u32 0), .c (u32 0), .c (u32 0)]))) (1000000+b1) (some (.obox [u32 0, u32 0, u32 0, u32 0, u32 0, u32 0, u32 0])))⟩ (by exact lz trivial) ?_
  simp only [rawV, plc]
  have i1 : IntKind.i64.wrap (0 + 1) = 1 := by decide
  have i2 : IntKind.i64.wrap (1 + 1) = 2 := by decide
  have i3 : IntKind.i64.wrap (2 + 1) = 3 := by decide
  have i4 : IntKind.i64.wrap (3 + 1) = 4 := by decide
  have i5 : IntKind.i64.wrap (4 + 1) = 5 := by decide
  have hwk := p11_wk b1
  have hwn := p11_wn b1
  simp only [rawV] at *
  refine wk1 trivial trivial trivial _ ?_
  all_goals (repeat intro h)
  all_goals refine ⟨?_⟩
  refine AW.unroll 2 ?_
  refine wk0 (And.intro i1 i2) (And.intro hwk hwn) trivial
set_option maxHeartbeats 4000000 in
theorem p11_get9 (x0 x1 : Int) : ACalls Try.prog 15 [.one (u32 9), .one (eWords [x0, x1])] (.tup [.agg (ePrt ⟨x0, 0, 0, 0, x1, 0, 0⟩), .one (i64 0)]) := by
  refine ACalls.intro (fn := Try.f15) Try.func15 rfl rfl (by simp [Try.f15]) ?_
  have hpl := p11_places
  unfold Try.f15
  simp only [rB, ePrt, plc, rawV, eWords, eWord, List.map_cons, List.map_nil, labsV, atsV] at *
  refine wk1 trivial hpl (@AW.halt 7) _ ?_
  all_goals (repeat intro h)
  all_goals refine ⟨?_⟩
  refine AWs.mk (AW.name 8 (cs := [.c (u32 0), .c (u32 0), .c (u32 0), .c (u32 0), .c (u32 0), .c (u32 0), .c (u32 0)]) ?_ ?_ ?_ fun b1 hb1 => ?_)
  · simp only [go_sem, ↓reduceIte, reduceCtorEq, Nat.reduceLT, Nat.reduceEqDiff, Nat.reduceBEq, Nat.reduceAdd, Nat.reduceSub, Nat.reduceMul, Nat.reduceLeDiff, Int.reduceLE, Int.reduceLT, Int.reduceNeg, Int.reduceEq, Int.reduceBEq, Int.reduceBNe, Int.reduceToNat]
  · simp only [go_sem, ↓reduceIte, reduceCtorEq, Nat.reduceLT, Nat.reduceEqDiff, Nat.reduceBEq, Nat.reduceAdd, Nat.reduceSub, Nat.reduceMul, Nat.reduceLeDiff, Int.reduceLE, Int.reduceLT, Int.reduceNeg, Int.reduceEq, Int.reduceBEq, Int.reduceBNe, Int.reduceToNat]
  · intro b; simp only [go_sem, ↓reduceIte, reduceCtorEq, Nat.reduceLT, Nat.reduceEqDiff, Nat.reduceBEq, Nat.reduceAdd, Nat.reduceSub, Nat.reduceMul, Nat.reduceLeDiff, Int.reduceLE, Int.reduceLT, Int.reduceNeg, Int.reduceEq, Int.reduceBEq, Int.reduceBNe, Int.reduceToNat]
  clear hb1
  refine AW.lessW ⟨44, (upd (upd (upd (upd (upd (fun _ => .junk) 1 (.one (.c (.row [[u32 x0], [u32 x1]])))) 4 (.one (.ptr 4 0))) 5 (.one (.c (i64 0)))) 6 (.one (.c (.row [[plc 19], [plc 23]])))) 8 (.one (.c (rawV b1 0)))), (upd (upd (fun _ => none) 4 (some (.box [.c (u32 0), .c (u32 0), .c (u32 0), .c (u32 0), .c (u32 0), .c (u32 0), .c (u32 0)]))) (1000000+b1) (some (.obox [u32 0, u32 0, u32 0, u32 0, u32 0, u32 0, u32 0])))⟩ (by exact lz trivial) ?_
  simp only [rawV, plc]
  have i1 : IntKind.i64.wrap (0 + 1) = 1 := by decide
  have i2 : IntKind.i64.wrap (1 + 1) = 2 := by decide
  have i3 : IntKind.i64.wrap (2 + 1) = 3 := by decide
  have i4 : IntKind.i64.wrap (3 + 1) = 4 := by decide
  have i5 : IntKind.i64.wrap (4 + 1) = 5 := by decide
  have hwk := p11_wk b1
  have hwn := p11_wn b1
  simp only [rawV] at *
  refine wk1 trivial trivial trivial _ ?_
  all_goals (repeat intro h)
  all_goals refine ⟨?_⟩
  refine AW.unroll 2 ?_
  refine wk0 (And.intro i1 i2) (And.intro hwk hwn) trivial
set_option maxHeartbeats 4000000 in
theorem p11_get (x : Int) (l : List Int) (hl : l.length < 1000000) : ACalls Try.prog 15 [.one (u32 x), .one (eWords l)] (.tup [.agg (ePrt (getP x l).1), .one (i64 (getP x l).2)]) := by
  by_cases hx : x < 2 ∨ 9 < x
  · have e : getP x l = (prt0, 1) := by rw [getP, if_pos hx]
    rw [e]
    refine ACalls.intro (fn := Try.f15) Try.func15 rfl rfl (by simp [Try.f15]) ?_
    have hpl := p11_places
    have h2 : (x == 2) = false := beq_eq_false_iff_ne.2 (by omega)
    have h3 : (x == 3) = false := beq_eq_false_iff_ne.2 (by omega)
    have h4 : (x == 4) = false := beq_eq_false_iff_ne.2 (by omega)
    have h5 : (x == 5) = false := beq_eq_false_iff_ne.2 (by omega)
    have h6 : (x == 6) = false := beq_eq_false_iff_ne.2 (by omega)
    have h7 : (x == 7) = false := beq_eq_false_iff_ne.2 (by omega)
    have h8 : (x == 8) = false := beq_eq_false_iff_ne.2 (by omega)
    have h9 : (x == 9) = false := beq_eq_false_iff_ne.2 (by omega)
    unfold Try.f15
    simp only [prt0, rB, ePrt, plc, rawV, eWords, labsV, atsV] at *
    refine wk0 (And.intro h2 (And.intro h3 (And.intro h4 (And.intro h5 (And.intro h6 (And.intro h7 (And.intro h8 h9))))))) hpl trivial
  by_cases hs : (l.length : Int) = sizeP x
  · have e : getP x l = (fillP x l, 0) := by rw [getP, if_neg hx, if_neg (fun h => h hs)]
    rw [e]
    rcases label_cases x with rfl | rfl | rfl | rfl | rfl | rfl | rfl | rfl | h
    · obtain ⟨x0, x1, x2, x3, x4, rfl⟩ := len5 hs
      exact p11_get2 x0 x1 x2 x3 x4
    · obtain ⟨x0, x1, x2, rfl⟩ := len3 hs
      exact p11_get3 x0 x1 x2
    · obtain ⟨x0, rfl⟩ := len1 hs
      exact p11_get4 x0
    · obtain ⟨x0, rfl⟩ := len1 hs
      exact p11_get5 x0
    · obtain ⟨x0, x1, x2, x3, rfl⟩ := len4 hs
      exact p11_get6 x0 x1 x2 x3
    · obtain ⟨x0, x1, x2, x3, rfl⟩ := len4 hs
      exact p11_get7 x0 x1 x2 x3
    · obtain ⟨x0, x1, rfl⟩ := len2 hs
      exact p11_get8 x0 x1
    · obtain ⟨x0, x1, rfl⟩ := len2 hs
      exact p11_get9 x0 x1
    · exact absurd h hx
  have e : getP x l = (prt0, 2) := by rw [getP, if_neg hx, if_pos hs]
  rw [e]
  refine ACalls.intro (fn := Try.f15) Try.func15 rfl rfl (by simp [Try.f15]) ?_
  have hpl := p11_places
  unfold Try.f15
  rcases label_cases x with rfl | rfl | rfl | rfl | rfl | rfl | rfl | rfl | h
  · have hne : ((l.length : Int) != ((5 : Nat) : Int)) = true := bne_iff_ne.2 hs
    simp only [prt0, rB, ePrt, plc, rawV, eWords, labsV, atsV] at *
    refine wk0 hne hpl trivial
  · have hne : ((l.length : Int) != ((3 : Nat) : Int)) = true := bne_iff_ne.2 hs
    simp only [prt0, rB, ePrt, plc, rawV, eWords, labsV, atsV] at *
    refine wk0 hne hpl trivial
  · have hne : ((l.length : Int) != ((1 : Nat) : Int)) = true := bne_iff_ne.2 hs
    simp only [prt0, rB, ePrt, plc, rawV, eWords, labsV, atsV] at *
    refine wk0 hne hpl trivial
  · have hne : ((l.length : Int) != ((1 : Nat) : Int)) = true := bne_iff_ne.2 hs
    simp only [prt0, rB, ePrt, plc, rawV, eWords, labsV, atsV] at *
    refine wk0 hne hpl trivial
  · have hne : ((l.length : Int) != ((4 : Nat) : Int)) = true := bne_iff_ne.2 hs
    simp only [prt0, rB, ePrt, plc, rawV, eWords, labsV, atsV] at *
    refine wk0 hne hpl trivial
  · have hne : ((l.length : Int) != ((4 : Nat) : Int)) = true := bne_iff_ne.2 hs
    simp only [prt0, rB, ePrt, plc, rawV, eWords, labsV, atsV] at *
    refine wk0 hne hpl trivial
  · have hne : ((l.length : Int) != ((2 : Nat) : Int)) = true := bne_iff_ne.2 hs
    simp only [prt0, rB, ePrt, plc, rawV, eWords, labsV, atsV] at *
    refine wk0 hne hpl trivial
  · have hne : ((l.length : Int) != ((2 : Nat) : Int)) = true := bne_iff_ne.2 hs
    simp only [prt0, rB, ePrt, plc, rawV, eWords, labsV, atsV] at *
    refine wk0 hne hpl trivial
  · exact absurd h hx
end Go.Proofs.Ytdpefiacelhggaa.Abs
end
section
/- The laws of layer part, over values without addresses: what the document fixes; PartPuts, PartGets, PartBack. -/
set_option linter.unusedSimpArgs false
set_option linter.unusedVariables false
set_option maxRecDepth 100000
namespace Go.Proofs.Ytdpefiacelhggaa.Abs
open Go.RowKit
set_option maxHeartbeats 4000000 in
set_option maxRecDepth 100000 in
theorem l11_awake : ACalls Try.prog 8 [] (rB true) := by
  refine ACalls.intro (fn := Try.f8) Try.func8 rfl rfl (by simp [Try.f8]) ?_
  have a1 := p11_put 3 ⟨0, 0, 1, 0, 5, 9, 0⟩
  have a2 := p11_put 3 ⟨1, 0, 0, 0, 0, 0, 0⟩
  have g1 := p11_get 3 [5, 1, 9] (by simp)
  have g2 := p11_get 3 [1, 2] (by simp)
  have g3 := p11_get 1 [] (by simp)
  have m1 := p11_may 3 ⟨0, 0, 1, 0, 5, 9, 0⟩
  have m2 := p11_may 10 ⟨0, 0, 0, 0, 0, 0, 0⟩
  have z1 := p11_size 2
  have z2 := p11_size 1
  have s1 := q01_same [5, 1, 9] [5, 1, 9]
  rw [decide_eq_true rfl] at s1
  rw [show putP 3 ⟨0, 0, 1, 0, 5, 9, 0⟩ = ([5, 1, 9], 0) from by decide] at a1
  rw [show putP 3 ⟨1, 0, 0, 0, 0, 0, 0⟩ = ([], 1) from by decide] at a2
  rw [show getP 3 [5, 1, 9] = (⟨0, 0, 1, 0, 5, 9, 0⟩, 0) from by decide] at g1
  rw [show getP 3 [1, 2] = (prt0, 2) from by decide] at g2
  rw [show getP 1 [] = (prt0, 1) from by decide] at g3
  rw [show mayP 3 ⟨0, 0, 1, 0, 5, 9, 0⟩ = true from by decide] at m1
  rw [show mayP 10 ⟨0, 0, 0, 0, 0, 0, 0⟩ = false from by decide] at m2
  rw [show sizeP 2 = 5 from by decide] at z1
  rw [show sizeP 1 = 0 from by decide] at z2
  have heq := eqok_prt
  unfold Try.f8
  simp only [rB, rI, ePrt, prt0, eWords, eWord, List.map_cons, List.map_nil] at *
  repeat' (first
    | (refine hC ?_ ?_ ?_ ?_ ?_
       rotate_left
       · rfl
       · simp only [go_sem, ↓reduceIte, reduceCtorEq, Nat.reduceLT, Nat.reduceEqDiff, Nat.reduceBEq, Nat.reduceAdd, Nat.reduceSub, Nat.reduceMul, Nat.reduceLeDiff, Int.reduceLE, Int.reduceLT, Int.reduceNeg, Int.reduceEq, Int.reduceBEq, Int.reduceBNe, Int.reduceToNat, List.append_eq, heq]
       · simp only [go_sem, ↓reduceIte, reduceCtorEq, Nat.reduceLT, Nat.reduceEqDiff, Nat.reduceBEq, Nat.reduceAdd, Nat.reduceSub, Nat.reduceMul, Nat.reduceLeDiff, Int.reduceLE, Int.reduceLT, Int.reduceNeg, Int.reduceEq, Int.reduceBEq, Int.reduceBNe, Int.reduceToNat, List.append_eq, heq]
         first | (refine And.intro ?_ ?_; exact a1; first | exact trivial | (simp only [go_sem, ↓reduceIte, reduceCtorEq, Nat.reduceLT, Nat.reduceEqDiff, Nat.reduceBEq, Nat.reduceAdd, Nat.reduceSub, Nat.reduceMul, Nat.reduceLeDiff, Int.reduceLE, Int.reduceLT, Int.reduceNeg, Int.reduceEq, Int.reduceBEq, Int.reduceBNe, Int.reduceToNat, List.append_eq, heq]; done)) | (refine And.intro (ACalls.args (k := ?_) ?_ ?_) ?_; rotate_left; exact a1; repeat' (first | exact trivial | exact Or.inl ⟨rfl, rfl⟩ | exact Or.inr rfl | apply And.intro))
       simp only [go_sem, ↓reduceIte, reduceCtorEq, Nat.reduceLT, Nat.reduceEqDiff, Nat.reduceBEq, Nat.reduceAdd, Nat.reduceSub, Nat.reduceMul, Nat.reduceLeDiff, Int.reduceLE, Int.reduceLT, Int.reduceNeg, Int.reduceEq, Int.reduceBEq, Int.reduceBNe, Int.reduceToNat, List.append_eq, heq])
    | (refine hC ?_ ?_ ?_ ?_ ?_
       rotate_left
       · rfl
       · simp only [go_sem, ↓reduceIte, reduceCtorEq, Nat.reduceLT, Nat.reduceEqDiff, Nat.reduceBEq, Nat.reduceAdd, Nat.reduceSub, Nat.reduceMul, Nat.reduceLeDiff, Int.reduceLE, Int.reduceLT, Int.reduceNeg, Int.reduceEq, Int.reduceBEq, Int.reduceBNe, Int.reduceToNat, List.append_eq, heq]
       · simp only [go_sem, ↓reduceIte, reduceCtorEq, Nat.reduceLT, Nat.reduceEqDiff, Nat.reduceBEq, Nat.reduceAdd, Nat.reduceSub, Nat.reduceMul, Nat.reduceLeDiff, Int.reduceLE, Int.reduceLT, Int.reduceNeg, Int.reduceEq, Int.reduceBEq, Int.reduceBNe, Int.reduceToNat, List.append_eq, heq]
         first | (refine And.intro ?_ ?_; exact a2; first | exact trivial | (simp only [go_sem, ↓reduceIte, reduceCtorEq, Nat.reduceLT, Nat.reduceEqDiff, Nat.reduceBEq, Nat.reduceAdd, Nat.reduceSub, Nat.reduceMul, Nat.reduceLeDiff, Int.reduceLE, Int.reduceLT, Int.reduceNeg, Int.reduceEq, Int.reduceBEq, Int.reduceBNe, Int.reduceToNat, List.append_eq, heq]; done)) | (refine And.intro (ACalls.args (k := ?_) ?_ ?_) ?_; rotate_left; exact a2; repeat' (first | exact trivial | exact Or.inl ⟨rfl, rfl⟩ | exact Or.inr rfl | apply And.intro))
       simp only [go_sem, ↓reduceIte, reduceCtorEq, Nat.reduceLT, Nat.reduceEqDiff, Nat.reduceBEq, Nat.reduceAdd, Nat.reduceSub, Nat.reduceMul, Nat.reduceLeDiff, Int.reduceLE, Int.reduceLT, Int.reduceNeg, Int.reduceEq, Int.reduceBEq, Int.reduceBNe, Int.reduceToNat, List.append_eq, heq])
    | (refine hC ?_ ?_ ?_ ?_ ?_
       rotate_left
       · rfl
       · simp only [go_sem, ↓reduceIte, reduceCtorEq, Nat.reduceLT, Nat.reduceEqDiff, Nat.reduceBEq, Nat.reduceAdd, Nat.reduceSub, Nat.reduceMul, Nat.reduceLeDiff, Int.reduceLE, Int.reduceLT, Int.reduceNeg, Int.reduceEq, Int.reduceBEq, Int.reduceBNe, Int.reduceToNat, List.append_eq, heq]
       · simp only [go_sem, ↓reduceIte, reduceCtorEq, Nat.reduceLT, Nat.reduceEqDiff, Nat.reduceBEq, Nat.reduceAdd, Nat.reduceSub, Nat.reduceMul, Nat.reduceLeDiff, Int.reduceLE, Int.reduceLT, Int.reduceNeg, Int.reduceEq, Int.reduceBEq, Int.reduceBNe, Int.reduceToNat, List.append_eq, heq]
         first | (refine And.intro ?_ ?_; exact g1; first | exact trivial | (simp only [go_sem, ↓reduceIte, reduceCtorEq, Nat.reduceLT, Nat.reduceEqDiff, Nat.reduceBEq, Nat.reduceAdd, Nat.reduceSub, Nat.reduceMul, Nat.reduceLeDiff, Int.reduceLE, Int.reduceLT, Int.reduceNeg, Int.reduceEq, Int.reduceBEq, Int.reduceBNe, Int.reduceToNat, List.append_eq, heq]; done)) | (refine And.intro (ACalls.args (k := ?_) ?_ ?_) ?_; rotate_left; exact g1; repeat' (first | exact trivial | exact Or.inl ⟨rfl, rfl⟩ | exact Or.inr rfl | apply And.intro))
       simp only [go_sem, ↓reduceIte, reduceCtorEq, Nat.reduceLT, Nat.reduceEqDiff, Nat.reduceBEq, Nat.reduceAdd, Nat.reduceSub, Nat.reduceMul, Nat.reduceLeDiff, Int.reduceLE, Int.reduceLT, Int.reduceNeg, Int.reduceEq, Int.reduceBEq, Int.reduceBNe, Int.reduceToNat, List.append_eq, heq])
    | (refine hC ?_ ?_ ?_ ?_ ?_
       rotate_left
       · rfl
       · simp only [go_sem, ↓reduceIte, reduceCtorEq, Nat.reduceLT, Nat.reduceEqDiff, Nat.reduceBEq, Nat.reduceAdd, Nat.reduceSub, Nat.reduceMul, Nat.reduceLeDiff, Int.reduceLE, Int.reduceLT, Int.reduceNeg, Int.reduceEq, Int.reduceBEq, Int.reduceBNe, Int.reduceToNat, List.append_eq, heq]
       · simp only [go_sem, ↓reduceIte, reduceCtorEq, Nat.reduceLT, Nat.reduceEqDiff, Nat.reduceBEq, Nat.reduceAdd, Nat.reduceSub, Nat.reduceMul, Nat.reduceLeDiff, Int.reduceLE, Int.reduceLT, Int.reduceNeg, Int.reduceEq, Int.reduceBEq, Int.reduceBNe, Int.reduceToNat, List.append_eq, heq]
         first | (refine And.intro ?_ ?_; exact g2; first | exact trivial | (simp only [go_sem, ↓reduceIte, reduceCtorEq, Nat.reduceLT, Nat.reduceEqDiff, Nat.reduceBEq, Nat.reduceAdd, Nat.reduceSub, Nat.reduceMul, Nat.reduceLeDiff, Int.reduceLE, Int.reduceLT, Int.reduceNeg, Int.reduceEq, Int.reduceBEq, Int.reduceBNe, Int.reduceToNat, List.append_eq, heq]; done)) | (refine And.intro (ACalls.args (k := ?_) ?_ ?_) ?_; rotate_left; exact g2; repeat' (first | exact trivial | exact Or.inl ⟨rfl, rfl⟩ | exact Or.inr rfl | apply And.intro))
       simp only [go_sem, ↓reduceIte, reduceCtorEq, Nat.reduceLT, Nat.reduceEqDiff, Nat.reduceBEq, Nat.reduceAdd, Nat.reduceSub, Nat.reduceMul, Nat.reduceLeDiff, Int.reduceLE, Int.reduceLT, Int.reduceNeg, Int.reduceEq, Int.reduceBEq, Int.reduceBNe, Int.reduceToNat, List.append_eq, heq])
    | (refine hC ?_ ?_ ?_ ?_ ?_
       rotate_left
       · rfl
       · simp only [go_sem, ↓reduceIte, reduceCtorEq, Nat.reduceLT, Nat.reduceEqDiff, Nat.reduceBEq, Nat.reduceAdd, Nat.reduceSub, Nat.reduceMul, Nat.reduceLeDiff, Int.reduceLE, Int.reduceLT, Int.reduceNeg, Int.reduceEq, Int.reduceBEq, Int.reduceBNe, Int.reduceToNat, List.append_eq, heq]
       · simp only [go_sem, ↓reduceIte, reduceCtorEq, Nat.reduceLT, Nat.reduceEqDiff, Nat.reduceBEq, Nat.reduceAdd, Nat.reduceSub, Nat.reduceMul, Nat.reduceLeDiff, Int.reduceLE, Int.reduceLT, Int.reduceNeg, Int.reduceEq, Int.reduceBEq, Int.reduceBNe, Int.reduceToNat, List.append_eq, heq]
         first | (refine And.intro ?_ ?_; exact g3; first | exact trivial | (simp only [go_sem, ↓reduceIte, reduceCtorEq, Nat.reduceLT, Nat.reduceEqDiff, Nat.reduceBEq, Nat.reduceAdd, Nat.reduceSub, Nat.reduceMul, Nat.reduceLeDiff, Int.reduceLE, Int.reduceLT, Int.reduceNeg, Int.reduceEq, Int.reduceBEq, Int.reduceBNe, Int.reduceToNat, List.append_eq, heq]; done)) | (refine And.intro (ACalls.args (k := ?_) ?_ ?_) ?_; rotate_left; exact g3; repeat' (first | exact trivial | exact Or.inl ⟨rfl, rfl⟩ | exact Or.inr rfl | apply And.intro))
       simp only [go_sem, ↓reduceIte, reduceCtorEq, Nat.reduceLT, Nat.reduceEqDiff, Nat.reduceBEq, Nat.reduceAdd, Nat.reduceSub, Nat.reduceMul, Nat.reduceLeDiff, Int.reduceLE, Int.reduceLT, Int.reduceNeg, Int.reduceEq, Int.reduceBEq, Int.reduceBNe, Int.reduceToNat, List.append_eq, heq])
    | (refine hC ?_ ?_ ?_ ?_ ?_
       rotate_left
       · rfl
       · simp only [go_sem, ↓reduceIte, reduceCtorEq, Nat.reduceLT, Nat.reduceEqDiff, Nat.reduceBEq, Nat.reduceAdd, Nat.reduceSub, Nat.reduceMul, Nat.reduceLeDiff, Int.reduceLE, Int.reduceLT, Int.reduceNeg, Int.reduceEq, Int.reduceBEq, Int.reduceBNe, Int.reduceToNat, List.append_eq, heq]
       · simp only [go_sem, ↓reduceIte, reduceCtorEq, Nat.reduceLT, Nat.reduceEqDiff, Nat.reduceBEq, Nat.reduceAdd, Nat.reduceSub, Nat.reduceMul, Nat.reduceLeDiff, Int.reduceLE, Int.reduceLT, Int.reduceNeg, Int.reduceEq, Int.reduceBEq, Int.reduceBNe, Int.reduceToNat, List.append_eq, heq]
         first | (refine And.intro ?_ ?_; exact m1; first | exact trivial | (simp only [go_sem, ↓reduceIte, reduceCtorEq, Nat.reduceLT, Nat.reduceEqDiff, Nat.reduceBEq, Nat.reduceAdd, Nat.reduceSub, Nat.reduceMul, Nat.reduceLeDiff, Int.reduceLE, Int.reduceLT, Int.reduceNeg, Int.reduceEq, Int.reduceBEq, Int.reduceBNe, Int.reduceToNat, List.append_eq, heq]; done)) | (refine And.intro (ACalls.args (k := ?_) ?_ ?_) ?_; rotate_left; exact m1; repeat' (first | exact trivial | exact Or.inl ⟨rfl, rfl⟩ | exact Or.inr rfl | apply And.intro))
       simp only [go_sem, ↓reduceIte, reduceCtorEq, Nat.reduceLT, Nat.reduceEqDiff, Nat.reduceBEq, Nat.reduceAdd, Nat.reduceSub, Nat.reduceMul, Nat.reduceLeDiff, Int.reduceLE, Int.reduceLT, Int.reduceNeg, Int.reduceEq, Int.reduceBEq, Int.reduceBNe, Int.reduceToNat, List.append_eq, heq])
    | (refine hC ?_ ?_ ?_ ?_ ?_
       rotate_left
       · rfl
       · simp only [go_sem, ↓reduceIte, reduceCtorEq, Nat.reduceLT, Nat.reduceEqDiff, Nat.reduceBEq, Nat.reduceAdd, Nat.reduceSub, Nat.reduceMul, Nat.reduceLeDiff, Int.reduceLE, Int.reduceLT, Int.reduceNeg, Int.reduceEq, Int.reduceBEq, Int.reduceBNe, Int.reduceToNat, List.append_eq, heq]
       · simp only [go_sem, ↓reduceIte, reduceCtorEq, Nat.reduceLT, Nat.reduceEqDiff, Nat.reduceBEq, Nat.reduceAdd, Nat.reduceSub, Nat.reduceMul, Nat.reduceLeDiff, Int.reduceLE, Int.reduceLT, Int.reduceNeg, Int.reduceEq, Int.reduceBEq, Int.reduceBNe, Int.reduceToNat, List.append_eq, heq]
         first | (refine And.intro ?_ ?_; exact m2; first | exact trivial | (simp only [go_sem, ↓reduceIte, reduceCtorEq, Nat.reduceLT, Nat.reduceEqDiff, Nat.reduceBEq, Nat.reduceAdd, Nat.reduceSub, Nat.reduceMul, Nat.reduceLeDiff, Int.reduceLE, Int.reduceLT, Int.reduceNeg, Int.reduceEq, Int.reduceBEq, Int.reduceBNe, Int.reduceToNat, List.append_eq, heq]; done)) | (refine And.intro (ACalls.args (k := ?_) ?_ ?_) ?_; rotate_left; exact m2; repeat' (first | exact trivial | exact Or.inl ⟨rfl, rfl⟩ | exact Or.inr rfl | apply And.intro))
       simp only [go_sem, ↓reduceIte, reduceCtorEq, Nat.reduceLT, Nat.reduceEqDiff, Nat.reduceBEq, Nat.reduceAdd, Nat.reduceSub, Nat.reduceMul, Nat.reduceLeDiff, Int.reduceLE, Int.reduceLT, Int.reduceNeg, Int.reduceEq, Int.reduceBEq, Int.reduceBNe, Int.reduceToNat, List.append_eq, heq])
    | (refine hC ?_ ?_ ?_ ?_ ?_
       rotate_left
       · rfl
       · simp only [go_sem, ↓reduceIte, reduceCtorEq, Nat.reduceLT, Nat.reduceEqDiff, Nat.reduceBEq, Nat.reduceAdd, Nat.reduceSub, Nat.reduceMul, Nat.reduceLeDiff, Int.reduceLE, Int.reduceLT, Int.reduceNeg, Int.reduceEq, Int.reduceBEq, Int.reduceBNe, Int.reduceToNat, List.append_eq, heq]
       · simp only [go_sem, ↓reduceIte, reduceCtorEq, Nat.reduceLT, Nat.reduceEqDiff, Nat.reduceBEq, Nat.reduceAdd, Nat.reduceSub, Nat.reduceMul, Nat.reduceLeDiff, Int.reduceLE, Int.reduceLT, Int.reduceNeg, Int.reduceEq, Int.reduceBEq, Int.reduceBNe, Int.reduceToNat, List.append_eq, heq]
         first | (refine And.intro ?_ ?_; exact z1; first | exact trivial | (simp only [go_sem, ↓reduceIte, reduceCtorEq, Nat.reduceLT, Nat.reduceEqDiff, Nat.reduceBEq, Nat.reduceAdd, Nat.reduceSub, Nat.reduceMul, Nat.reduceLeDiff, Int.reduceLE, Int.reduceLT, Int.reduceNeg, Int.reduceEq, Int.reduceBEq, Int.reduceBNe, Int.reduceToNat, List.append_eq, heq]; done)) | (refine And.intro (ACalls.args (k := ?_) ?_ ?_) ?_; rotate_left; exact z1; repeat' (first | exact trivial | exact Or.inl ⟨rfl, rfl⟩ | exact Or.inr rfl | apply And.intro))
       simp only [go_sem, ↓reduceIte, reduceCtorEq, Nat.reduceLT, Nat.reduceEqDiff, Nat.reduceBEq, Nat.reduceAdd, Nat.reduceSub, Nat.reduceMul, Nat.reduceLeDiff, Int.reduceLE, Int.reduceLT, Int.reduceNeg, Int.reduceEq, Int.reduceBEq, Int.reduceBNe, Int.reduceToNat, List.append_eq, heq])
    | (refine hC ?_ ?_ ?_ ?_ ?_
       rotate_left
       · rfl
       · simp only [go_sem, ↓reduceIte, reduceCtorEq, Nat.reduceLT, Nat.reduceEqDiff, Nat.reduceBEq, Nat.reduceAdd, Nat.reduceSub, Nat.reduceMul, Nat.reduceLeDiff, Int.reduceLE, Int.reduceLT, Int.reduceNeg, Int.reduceEq, Int.reduceBEq, Int.reduceBNe, Int.reduceToNat, List.append_eq, heq]
       · simp only [go_sem, ↓reduceIte, reduceCtorEq, Nat.reduceLT, Nat.reduceEqDiff, Nat.reduceBEq, Nat.reduceAdd, Nat.reduceSub, Nat.reduceMul, Nat.reduceLeDiff, Int.reduceLE, Int.reduceLT, Int.reduceNeg, Int.reduceEq, Int.reduceBEq, Int.reduceBNe, Int.reduceToNat, List.append_eq, heq]
         first | (refine And.intro ?_ ?_; exact z2; first | exact trivial | (simp only [go_sem, ↓reduceIte, reduceCtorEq, Nat.reduceLT, Nat.reduceEqDiff, Nat.reduceBEq, Nat.reduceAdd, Nat.reduceSub, Nat.reduceMul, Nat.reduceLeDiff, Int.reduceLE, Int.reduceLT, Int.reduceNeg, Int.reduceEq, Int.reduceBEq, Int.reduceBNe, Int.reduceToNat, List.append_eq, heq]; done)) | (refine And.intro (ACalls.args (k := ?_) ?_ ?_) ?_; rotate_left; exact z2; repeat' (first | exact trivial | exact Or.inl ⟨rfl, rfl⟩ | exact Or.inr rfl | apply And.intro))
       simp only [go_sem, ↓reduceIte, reduceCtorEq, Nat.reduceLT, Nat.reduceEqDiff, Nat.reduceBEq, Nat.reduceAdd, Nat.reduceSub, Nat.reduceMul, Nat.reduceLeDiff, Int.reduceLE, Int.reduceLT, Int.reduceNeg, Int.reduceEq, Int.reduceBEq, Int.reduceBNe, Int.reduceToNat, List.append_eq, heq])
    | (refine hC ?_ ?_ ?_ ?_ ?_
       rotate_left
       · rfl
       · simp only [go_sem, ↓reduceIte, reduceCtorEq, Nat.reduceLT, Nat.reduceEqDiff, Nat.reduceBEq, Nat.reduceAdd, Nat.reduceSub, Nat.reduceMul, Nat.reduceLeDiff, Int.reduceLE, Int.reduceLT, Int.reduceNeg, Int.reduceEq, Int.reduceBEq, Int.reduceBNe, Int.reduceToNat, List.append_eq, heq]
       · simp only [go_sem, ↓reduceIte, reduceCtorEq, Nat.reduceLT, Nat.reduceEqDiff, Nat.reduceBEq, Nat.reduceAdd, Nat.reduceSub, Nat.reduceMul, Nat.reduceLeDiff, Int.reduceLE, Int.reduceLT, Int.reduceNeg, Int.reduceEq, Int.reduceBEq, Int.reduceBNe, Int.reduceToNat, List.append_eq, heq]
         first | (refine And.intro ?_ ?_; exact s1; first | exact trivial | (simp only [go_sem, ↓reduceIte, reduceCtorEq, Nat.reduceLT, Nat.reduceEqDiff, Nat.reduceBEq, Nat.reduceAdd, Nat.reduceSub, Nat.reduceMul, Nat.reduceLeDiff, Int.reduceLE, Int.reduceLT, Int.reduceNeg, Int.reduceEq, Int.reduceBEq, Int.reduceBNe, Int.reduceToNat, List.append_eq, heq]; done)) | (refine And.intro (ACalls.args (k := ?_) ?_ ?_) ?_; rotate_left; exact s1; repeat' (first | exact trivial | exact Or.inl ⟨rfl, rfl⟩ | exact Or.inr rfl | apply And.intro))
       simp only [go_sem, ↓reduceIte, reduceCtorEq, Nat.reduceLT, Nat.reduceEqDiff, Nat.reduceBEq, Nat.reduceAdd, Nat.reduceSub, Nat.reduceMul, Nat.reduceLeDiff, Int.reduceLE, Int.reduceLT, Int.reduceNeg, Int.reduceEq, Int.reduceBEq, Int.reduceBNe, Int.reduceToNat, List.append_eq, heq])
    | (refine hK _ _ ?_; clear hK hC; clear K C)
    | (refine hK _ _ rfl ?_; clear hK hC; clear K C)
    | (refine hK _ _ (by simp only [crs, crsI, alfO, alfL, Nat.reduceLT]; rfl) ?_; clear hK hC; clear K C)
    | (refine AW.seqR fun K C hK hC => ?_; simp only [go_sem, ↓reduceIte, reduceCtorEq, Nat.reduceLT, Nat.reduceEqDiff, Nat.reduceBEq, Nat.reduceAdd, Nat.reduceSub, Nat.reduceMul, Nat.reduceLeDiff, Int.reduceLE, Int.reduceLT, Int.reduceNeg, Int.reduceEq, Int.reduceBEq, Int.reduceBNe, Int.reduceToNat, List.append_eq, heq])
    | (refine AW.seqD rfl fun K C hK hC => ?_; simp only [go_sem, ↓reduceIte, reduceCtorEq, Nat.reduceLT, Nat.reduceEqDiff, Nat.reduceBEq, Nat.reduceAdd, Nat.reduceSub, Nat.reduceMul, Nat.reduceLeDiff, Int.reduceLE, Int.reduceLT, Int.reduceNeg, Int.reduceEq, Int.reduceBEq, Int.reduceBNe, Int.reduceToNat, List.append_eq, heq])
    | (refine AW.reg fun K C hK hC => ?_; simp only [go_sem, ↓reduceIte, reduceCtorEq, Nat.reduceLT, Nat.reduceEqDiff, Nat.reduceBEq, Nat.reduceAdd, Nat.reduceSub, Nat.reduceMul, Nat.reduceLeDiff, Int.reduceLE, Int.reduceLT, Int.reduceNeg, Int.reduceEq, Int.reduceBEq, Int.reduceBNe, Int.reduceToNat, List.append_eq, heq])
    | (refine AW.regD rfl fun K C hK hC => ?_; simp only [go_sem, ↓reduceIte, reduceCtorEq, Nat.reduceLT, Nat.reduceEqDiff, Nat.reduceBEq, Nat.reduceAdd, Nat.reduceSub, Nat.reduceMul, Nat.reduceLeDiff, Int.reduceLE, Int.reduceLT, Int.reduceNeg, Int.reduceEq, Int.reduceBEq, Int.reduceBNe, Int.reduceToNat, List.append_eq, heq])
    | refine AW.seqS ?_
    | (refine AW.ret ?_; simp only [go_sem, ↓reduceIte, reduceCtorEq, Nat.reduceLT, Nat.reduceEqDiff, Nat.reduceBEq, Nat.reduceAdd, Nat.reduceSub, Nat.reduceMul, Nat.reduceLeDiff, Int.reduceLE, Int.reduceLT, Int.reduceNeg, Int.reduceEq, Int.reduceBEq, Int.reduceBNe, Int.reduceToNat, List.append_eq, heq])
    | (refine AW.cond rfl (fun h => ?_) (fun h => ?_) <;> (try simp only [decide_eq_true_eq, decide_eq_false_iff_not, bne_iff_ne, beq_iff_eq, bne_eq_false_iff_eq, beq_eq_false_iff_ne, ne_eq, ge_iff_le, gt_iff_lt, Bool.not_eq_true, Bool.not_eq_false, Bool.not_not, Bool.not_true, Bool.not_false, Int.not_le, Int.not_lt, not_true_eq_false, not_false_eq_true, reduceCtorEq, Bool.false_eq_true, Bool.not_eq_true', Bool.not_eq_false'] at h) <;> first | (exfalso; omega) | skip)
    | refine AW.skip ?_
    | refine AW.seq ?_
    | refine AW.block ?_
    | (refine AW.exit ?_; simp only [go_sem, ↓reduceIte, reduceCtorEq, Nat.reduceLT, Nat.reduceEqDiff, Nat.reduceBEq, Nat.reduceAdd, Nat.reduceSub, Nat.reduceMul, Nat.reduceLeDiff, Int.reduceLE, Int.reduceLT, Int.reduceNeg, Int.reduceEq, Int.reduceBEq, Int.reduceBNe, Int.reduceToNat, List.append_eq, heq])
    | (refine ite_on (fun h => ?_) (fun h => ?_) <;> (try simp only [decide_eq_true_eq, decide_eq_false_iff_not, bne_iff_ne, beq_iff_eq, bne_eq_false_iff_eq, beq_eq_false_iff_ne, ne_eq, ge_iff_le, gt_iff_lt, Bool.not_eq_true, Bool.not_eq_false, Bool.not_not, Bool.not_true, Bool.not_false, Int.not_le, Int.not_lt, not_true_eq_false, not_false_eq_true, reduceCtorEq, Bool.false_eq_true, Bool.not_eq_true', Bool.not_eq_false'] at h) <;> first | (exfalso; omega) | skip)
    | rw [thenN]
    | rw [blockN]
    | rw [scopeN]
    | refine AW.scope ?_
    | refine AW.label ?_
    | refine And.intro ?_ ?_
    | refine lcons rfl ?_
    | exact lGram _
    | exact lSeen _
    | exact lWord _
    | exact lSealed _
    | exact lRun _
    | exact lPerson _
    | exact lEvent _
    | exact lLeak _
    | exact lNum _
    | exact lOprn _
    | exact in64 (by omega) (by omega)
    | exact in32 (by omega) (by omega)
    | omega)
  all_goals trace "W#0"
theorem putP_wrap (x : Int) (p : Prt) : IntKind.i64.wrap (putP x p).2 = (putP x p).2 := by unfold putP; split <;> rfl
theorem getP_wrap (x : Int) (l : List Int) : IntKind.i64.wrap (getP x l).2 = (getP x l).2 := by unfold getP; split <;> (try split) <;> rfl
theorem mayP_put (x : Int) (p : Prt) : mayP x p = ((putP x p).2 == 0) := by
  unfold putP
  cases mayP x p <;> rfl
set_option maxHeartbeats 4000000 in
set_option maxRecDepth 100000 in
theorem l11_puts (x : Int) (p : Prt) : ACalls Try.prog 3 [.one (u32 x), .agg (ePrt p)] (rB true) := by
  refine ACalls.intro (fn := Try.f3) Try.func3 rfl rfl (by simp [Try.f3]) ?_
  have aw := l11_awake
  have a1 := p11_put x p
  have a2 := q11_put x p
  have m1 := p11_may x p
  have z1 := p11_size x
  have z2 := q11_size x
  have s1 := q01_same (putP x p).1 (putP x p).1
  rw [decide_eq_true rfl] at s1
  have w1 := putP_wrap x p
  rw [mayP_put] at m1
  generalize putP x p = g at *
  generalize sizeP x = z at *
  unfold Try.f3
  simp only [rB, rI, ePrt, eWords] at *
  repeat' (first
    | (refine hC ?_ ?_ ?_ ?_ ?_
       rotate_left
       · rfl
       · simp only [go_sem, ↓reduceIte, reduceCtorEq, Nat.reduceLT, Nat.reduceEqDiff, Nat.reduceBEq, Nat.reduceAdd, Nat.reduceSub, Nat.reduceMul, Nat.reduceLeDiff, Int.reduceLE, Int.reduceLT, Int.reduceNeg, Int.reduceEq, Int.reduceBEq, Int.reduceBNe, Int.reduceToNat, List.append_eq, w1, beq_self_eq_true]
       · simp only [go_sem, ↓reduceIte, reduceCtorEq, Nat.reduceLT, Nat.reduceEqDiff, Nat.reduceBEq, Nat.reduceAdd, Nat.reduceSub, Nat.reduceMul, Nat.reduceLeDiff, Int.reduceLE, Int.reduceLT, Int.reduceNeg, Int.reduceEq, Int.reduceBEq, Int.reduceBNe, Int.reduceToNat, List.append_eq, w1, beq_self_eq_true]
         first | (refine And.intro ?_ ?_; exact aw; first | exact trivial | (simp only [go_sem, ↓reduceIte, reduceCtorEq, Nat.reduceLT, Nat.reduceEqDiff, Nat.reduceBEq, Nat.reduceAdd, Nat.reduceSub, Nat.reduceMul, Nat.reduceLeDiff, Int.reduceLE, Int.reduceLT, Int.reduceNeg, Int.reduceEq, Int.reduceBEq, Int.reduceBNe, Int.reduceToNat, List.append_eq, w1, beq_self_eq_true]; done)) | (refine And.intro (ACalls.args (k := ?_) ?_ ?_) ?_; rotate_left; exact aw; repeat' (first | exact trivial | exact Or.inl ⟨rfl, rfl⟩ | exact Or.inr rfl | apply And.intro))
       simp only [go_sem, ↓reduceIte, reduceCtorEq, Nat.reduceLT, Nat.reduceEqDiff, Nat.reduceBEq, Nat.reduceAdd, Nat.reduceSub, Nat.reduceMul, Nat.reduceLeDiff, Int.reduceLE, Int.reduceLT, Int.reduceNeg, Int.reduceEq, Int.reduceBEq, Int.reduceBNe, Int.reduceToNat, List.append_eq, w1, beq_self_eq_true])
    | (refine hC ?_ ?_ ?_ ?_ ?_
       rotate_left
       · rfl
       · simp only [go_sem, ↓reduceIte, reduceCtorEq, Nat.reduceLT, Nat.reduceEqDiff, Nat.reduceBEq, Nat.reduceAdd, Nat.reduceSub, Nat.reduceMul, Nat.reduceLeDiff, Int.reduceLE, Int.reduceLT, Int.reduceNeg, Int.reduceEq, Int.reduceBEq, Int.reduceBNe, Int.reduceToNat, List.append_eq, w1, beq_self_eq_true]
       · simp only [go_sem, ↓reduceIte, reduceCtorEq, Nat.reduceLT, Nat.reduceEqDiff, Nat.reduceBEq, Nat.reduceAdd, Nat.reduceSub, Nat.reduceMul, Nat.reduceLeDiff, Int.reduceLE, Int.reduceLT, Int.reduceNeg, Int.reduceEq, Int.reduceBEq, Int.reduceBNe, Int.reduceToNat, List.append_eq, w1, beq_self_eq_true]
         first | (refine And.intro ?_ ?_; exact a1; first | exact trivial | (simp only [go_sem, ↓reduceIte, reduceCtorEq, Nat.reduceLT, Nat.reduceEqDiff, Nat.reduceBEq, Nat.reduceAdd, Nat.reduceSub, Nat.reduceMul, Nat.reduceLeDiff, Int.reduceLE, Int.reduceLT, Int.reduceNeg, Int.reduceEq, Int.reduceBEq, Int.reduceBNe, Int.reduceToNat, List.append_eq, w1, beq_self_eq_true]; done)) | (refine And.intro (ACalls.args (k := ?_) ?_ ?_) ?_; rotate_left; exact a1; repeat' (first | exact trivial | exact Or.inl ⟨rfl, rfl⟩ | exact Or.inr rfl | apply And.intro))
       simp only [go_sem, ↓reduceIte, reduceCtorEq, Nat.reduceLT, Nat.reduceEqDiff, Nat.reduceBEq, Nat.reduceAdd, Nat.reduceSub, Nat.reduceMul, Nat.reduceLeDiff, Int.reduceLE, Int.reduceLT, Int.reduceNeg, Int.reduceEq, Int.reduceBEq, Int.reduceBNe, Int.reduceToNat, List.append_eq, w1, beq_self_eq_true])
    | (refine hC ?_ ?_ ?_ ?_ ?_
       rotate_left
       · rfl
       · simp only [go_sem, ↓reduceIte, reduceCtorEq, Nat.reduceLT, Nat.reduceEqDiff, Nat.reduceBEq, Nat.reduceAdd, Nat.reduceSub, Nat.reduceMul, Nat.reduceLeDiff, Int.reduceLE, Int.reduceLT, Int.reduceNeg, Int.reduceEq, Int.reduceBEq, Int.reduceBNe, Int.reduceToNat, List.append_eq, w1, beq_self_eq_true]
       · simp only [go_sem, ↓reduceIte, reduceCtorEq, Nat.reduceLT, Nat.reduceEqDiff, Nat.reduceBEq, Nat.reduceAdd, Nat.reduceSub, Nat.reduceMul, Nat.reduceLeDiff, Int.reduceLE, Int.reduceLT, Int.reduceNeg, Int.reduceEq, Int.reduceBEq, Int.reduceBNe, Int.reduceToNat, List.append_eq, w1, beq_self_eq_true]
         first | (refine And.intro ?_ ?_; exact a2; first | exact trivial | (simp only [go_sem, ↓reduceIte, reduceCtorEq, Nat.reduceLT, Nat.reduceEqDiff, Nat.reduceBEq, Nat.reduceAdd, Nat.reduceSub, Nat.reduceMul, Nat.reduceLeDiff, Int.reduceLE, Int.reduceLT, Int.reduceNeg, Int.reduceEq, Int.reduceBEq, Int.reduceBNe, Int.reduceToNat, List.append_eq, w1, beq_self_eq_true]; done)) | (refine And.intro (ACalls.args (k := ?_) ?_ ?_) ?_; rotate_left; exact a2; repeat' (first | exact trivial | exact Or.inl ⟨rfl, rfl⟩ | exact Or.inr rfl | apply And.intro))
       simp only [go_sem, ↓reduceIte, reduceCtorEq, Nat.reduceLT, Nat.reduceEqDiff, Nat.reduceBEq, Nat.reduceAdd, Nat.reduceSub, Nat.reduceMul, Nat.reduceLeDiff, Int.reduceLE, Int.reduceLT, Int.reduceNeg, Int.reduceEq, Int.reduceBEq, Int.reduceBNe, Int.reduceToNat, List.append_eq, w1, beq_self_eq_true])
    | (refine hC ?_ ?_ ?_ ?_ ?_
       rotate_left
       · rfl
       · simp only [go_sem, ↓reduceIte, reduceCtorEq, Nat.reduceLT, Nat.reduceEqDiff, Nat.reduceBEq, Nat.reduceAdd, Nat.reduceSub, Nat.reduceMul, Nat.reduceLeDiff, Int.reduceLE, Int.reduceLT, Int.reduceNeg, Int.reduceEq, Int.reduceBEq, Int.reduceBNe, Int.reduceToNat, List.append_eq, w1, beq_self_eq_true]
       · simp only [go_sem, ↓reduceIte, reduceCtorEq, Nat.reduceLT, Nat.reduceEqDiff, Nat.reduceBEq, Nat.reduceAdd, Nat.reduceSub, Nat.reduceMul, Nat.reduceLeDiff, Int.reduceLE, Int.reduceLT, Int.reduceNeg, Int.reduceEq, Int.reduceBEq, Int.reduceBNe, Int.reduceToNat, List.append_eq, w1, beq_self_eq_true]
         first | (refine And.intro ?_ ?_; exact m1; first | exact trivial | (simp only [go_sem, ↓reduceIte, reduceCtorEq, Nat.reduceLT, Nat.reduceEqDiff, Nat.reduceBEq, Nat.reduceAdd, Nat.reduceSub, Nat.reduceMul, Nat.reduceLeDiff, Int.reduceLE, Int.reduceLT, Int.reduceNeg, Int.reduceEq, Int.reduceBEq, Int.reduceBNe, Int.reduceToNat, List.append_eq, w1, beq_self_eq_true]; done)) | (refine And.intro (ACalls.args (k := ?_) ?_ ?_) ?_; rotate_left; exact m1; repeat' (first | exact trivial | exact Or.inl ⟨rfl, rfl⟩ | exact Or.inr rfl | apply And.intro))
       simp only [go_sem, ↓reduceIte, reduceCtorEq, Nat.reduceLT, Nat.reduceEqDiff, Nat.reduceBEq, Nat.reduceAdd, Nat.reduceSub, Nat.reduceMul, Nat.reduceLeDiff, Int.reduceLE, Int.reduceLT, Int.reduceNeg, Int.reduceEq, Int.reduceBEq, Int.reduceBNe, Int.reduceToNat, List.append_eq, w1, beq_self_eq_true])
    | (refine hC ?_ ?_ ?_ ?_ ?_
       rotate_left
       · rfl
       · simp only [go_sem, ↓reduceIte, reduceCtorEq, Nat.reduceLT, Nat.reduceEqDiff, Nat.reduceBEq, Nat.reduceAdd, Nat.reduceSub, Nat.reduceMul, Nat.reduceLeDiff, Int.reduceLE, Int.reduceLT, Int.reduceNeg, Int.reduceEq, Int.reduceBEq, Int.reduceBNe, Int.reduceToNat, List.append_eq, w1, beq_self_eq_true]
       · simp only [go_sem, ↓reduceIte, reduceCtorEq, Nat.reduceLT, Nat.reduceEqDiff, Nat.reduceBEq, Nat.reduceAdd, Nat.reduceSub, Nat.reduceMul, Nat.reduceLeDiff, Int.reduceLE, Int.reduceLT, Int.reduceNeg, Int.reduceEq, Int.reduceBEq, Int.reduceBNe, Int.reduceToNat, List.append_eq, w1, beq_self_eq_true]
         first | (refine And.intro ?_ ?_; exact z1; first | exact trivial | (simp only [go_sem, ↓reduceIte, reduceCtorEq, Nat.reduceLT, Nat.reduceEqDiff, Nat.reduceBEq, Nat.reduceAdd, Nat.reduceSub, Nat.reduceMul, Nat.reduceLeDiff, Int.reduceLE, Int.reduceLT, Int.reduceNeg, Int.reduceEq, Int.reduceBEq, Int.reduceBNe, Int.reduceToNat, List.append_eq, w1, beq_self_eq_true]; done)) | (refine And.intro (ACalls.args (k := ?_) ?_ ?_) ?_; rotate_left; exact z1; repeat' (first | exact trivial | exact Or.inl ⟨rfl, rfl⟩ | exact Or.inr rfl | apply And.intro))
       simp only [go_sem, ↓reduceIte, reduceCtorEq, Nat.reduceLT, Nat.reduceEqDiff, Nat.reduceBEq, Nat.reduceAdd, Nat.reduceSub, Nat.reduceMul, Nat.reduceLeDiff, Int.reduceLE, Int.reduceLT, Int.reduceNeg, Int.reduceEq, Int.reduceBEq, Int.reduceBNe, Int.reduceToNat, List.append_eq, w1, beq_self_eq_true])
    | (refine hC ?_ ?_ ?_ ?_ ?_
       rotate_left
       · rfl
       · simp only [go_sem, ↓reduceIte, reduceCtorEq, Nat.reduceLT, Nat.reduceEqDiff, Nat.reduceBEq, Nat.reduceAdd, Nat.reduceSub, Nat.reduceMul, Nat.reduceLeDiff, Int.reduceLE, Int.reduceLT, Int.reduceNeg, Int.reduceEq, Int.reduceBEq, Int.reduceBNe, Int.reduceToNat, List.append_eq, w1, beq_self_eq_true]
       · simp only [go_sem, ↓reduceIte, reduceCtorEq, Nat.reduceLT, Nat.reduceEqDiff, Nat.reduceBEq, Nat.reduceAdd, Nat.reduceSub, Nat.reduceMul, Nat.reduceLeDiff, Int.reduceLE, Int.reduceLT, Int.reduceNeg, Int.reduceEq, Int.reduceBEq, Int.reduceBNe, Int.reduceToNat, List.append_eq, w1, beq_self_eq_true]
         first | (refine And.intro ?_ ?_; exact z2; first | exact trivial | (simp only [go_sem, ↓reduceIte, reduceCtorEq, Nat.reduceLT, Nat.reduceEqDiff, Nat.reduceBEq, Nat.reduceAdd, Nat.reduceSub, Nat.reduceMul, Nat.reduceLeDiff, Int.reduceLE, Int.reduceLT, Int.reduceNeg, Int.reduceEq, Int.reduceBEq, Int.reduceBNe, Int.reduceToNat, List.append_eq, w1, beq_self_eq_true]; done)) | (refine And.intro (ACalls.args (k := ?_) ?_ ?_) ?_; rotate_left; exact z2; repeat' (first | exact trivial | exact Or.inl ⟨rfl, rfl⟩ | exact Or.inr rfl | apply And.intro))
       simp only [go_sem, ↓reduceIte, reduceCtorEq, Nat.reduceLT, Nat.reduceEqDiff, Nat.reduceBEq, Nat.reduceAdd, Nat.reduceSub, Nat.reduceMul, Nat.reduceLeDiff, Int.reduceLE, Int.reduceLT, Int.reduceNeg, Int.reduceEq, Int.reduceBEq, Int.reduceBNe, Int.reduceToNat, List.append_eq, w1, beq_self_eq_true])
    | (refine hC ?_ ?_ ?_ ?_ ?_
       rotate_left
       · rfl
       · simp only [go_sem, ↓reduceIte, reduceCtorEq, Nat.reduceLT, Nat.reduceEqDiff, Nat.reduceBEq, Nat.reduceAdd, Nat.reduceSub, Nat.reduceMul, Nat.reduceLeDiff, Int.reduceLE, Int.reduceLT, Int.reduceNeg, Int.reduceEq, Int.reduceBEq, Int.reduceBNe, Int.reduceToNat, List.append_eq, w1, beq_self_eq_true]
       · simp only [go_sem, ↓reduceIte, reduceCtorEq, Nat.reduceLT, Nat.reduceEqDiff, Nat.reduceBEq, Nat.reduceAdd, Nat.reduceSub, Nat.reduceMul, Nat.reduceLeDiff, Int.reduceLE, Int.reduceLT, Int.reduceNeg, Int.reduceEq, Int.reduceBEq, Int.reduceBNe, Int.reduceToNat, List.append_eq, w1, beq_self_eq_true]
         first | (refine And.intro ?_ ?_; exact s1; first | exact trivial | (simp only [go_sem, ↓reduceIte, reduceCtorEq, Nat.reduceLT, Nat.reduceEqDiff, Nat.reduceBEq, Nat.reduceAdd, Nat.reduceSub, Nat.reduceMul, Nat.reduceLeDiff, Int.reduceLE, Int.reduceLT, Int.reduceNeg, Int.reduceEq, Int.reduceBEq, Int.reduceBNe, Int.reduceToNat, List.append_eq, w1, beq_self_eq_true]; done)) | (refine And.intro (ACalls.args (k := ?_) ?_ ?_) ?_; rotate_left; exact s1; repeat' (first | exact trivial | exact Or.inl ⟨rfl, rfl⟩ | exact Or.inr rfl | apply And.intro))
       simp only [go_sem, ↓reduceIte, reduceCtorEq, Nat.reduceLT, Nat.reduceEqDiff, Nat.reduceBEq, Nat.reduceAdd, Nat.reduceSub, Nat.reduceMul, Nat.reduceLeDiff, Int.reduceLE, Int.reduceLT, Int.reduceNeg, Int.reduceEq, Int.reduceBEq, Int.reduceBNe, Int.reduceToNat, List.append_eq, w1, beq_self_eq_true])
    | (refine hK _ _ ?_; clear hK hC; clear K C)
    | (refine hK _ _ rfl ?_; clear hK hC; clear K C)
    | (refine hK _ _ (by simp only [crs, crsI, alfO, alfL, Nat.reduceLT]; rfl) ?_; clear hK hC; clear K C)
    | (refine AW.seqR fun K C hK hC => ?_; simp only [go_sem, ↓reduceIte, reduceCtorEq, Nat.reduceLT, Nat.reduceEqDiff, Nat.reduceBEq, Nat.reduceAdd, Nat.reduceSub, Nat.reduceMul, Nat.reduceLeDiff, Int.reduceLE, Int.reduceLT, Int.reduceNeg, Int.reduceEq, Int.reduceBEq, Int.reduceBNe, Int.reduceToNat, List.append_eq, w1, beq_self_eq_true])
    | (refine AW.seqD rfl fun K C hK hC => ?_; simp only [go_sem, ↓reduceIte, reduceCtorEq, Nat.reduceLT, Nat.reduceEqDiff, Nat.reduceBEq, Nat.reduceAdd, Nat.reduceSub, Nat.reduceMul, Nat.reduceLeDiff, Int.reduceLE, Int.reduceLT, Int.reduceNeg, Int.reduceEq, Int.reduceBEq, Int.reduceBNe, Int.reduceToNat, List.append_eq, w1, beq_self_eq_true])
    | (refine AW.reg fun K C hK hC => ?_; simp only [go_sem, ↓reduceIte, reduceCtorEq, Nat.reduceLT, Nat.reduceEqDiff, Nat.reduceBEq, Nat.reduceAdd, Nat.reduceSub, Nat.reduceMul, Nat.reduceLeDiff, Int.reduceLE, Int.reduceLT, Int.reduceNeg, Int.reduceEq, Int.reduceBEq, Int.reduceBNe, Int.reduceToNat, List.append_eq, w1, beq_self_eq_true])
    | (refine AW.regD rfl fun K C hK hC => ?_; simp only [go_sem, ↓reduceIte, reduceCtorEq, Nat.reduceLT, Nat.reduceEqDiff, Nat.reduceBEq, Nat.reduceAdd, Nat.reduceSub, Nat.reduceMul, Nat.reduceLeDiff, Int.reduceLE, Int.reduceLT, Int.reduceNeg, Int.reduceEq, Int.reduceBEq, Int.reduceBNe, Int.reduceToNat, List.append_eq, w1, beq_self_eq_true])
    | refine AW.seqS ?_
    | (refine AW.ret ?_; simp only [go_sem, ↓reduceIte, reduceCtorEq, Nat.reduceLT, Nat.reduceEqDiff, Nat.reduceBEq, Nat.reduceAdd, Nat.reduceSub, Nat.reduceMul, Nat.reduceLeDiff, Int.reduceLE, Int.reduceLT, Int.reduceNeg, Int.reduceEq, Int.reduceBEq, Int.reduceBNe, Int.reduceToNat, List.append_eq, w1, beq_self_eq_true])
    | (refine AW.cond rfl (fun h => ?_) (fun h => ?_) <;> (try simp only [decide_eq_true_eq, decide_eq_false_iff_not, bne_iff_ne, beq_iff_eq, bne_eq_false_iff_eq, beq_eq_false_iff_ne, ne_eq, ge_iff_le, gt_iff_lt, Bool.not_eq_true, Bool.not_eq_false, Bool.not_not, Bool.not_true, Bool.not_false, Int.not_le, Int.not_lt, not_true_eq_false, not_false_eq_true, reduceCtorEq, Bool.false_eq_true, Bool.not_eq_true', Bool.not_eq_false'] at h) <;> first | (exfalso; omega) | skip)
    | refine AW.skip ?_
    | refine AW.seq ?_
    | refine AW.block ?_
    | (refine AW.exit ?_; simp only [go_sem, ↓reduceIte, reduceCtorEq, Nat.reduceLT, Nat.reduceEqDiff, Nat.reduceBEq, Nat.reduceAdd, Nat.reduceSub, Nat.reduceMul, Nat.reduceLeDiff, Int.reduceLE, Int.reduceLT, Int.reduceNeg, Int.reduceEq, Int.reduceBEq, Int.reduceBNe, Int.reduceToNat, List.append_eq, w1, beq_self_eq_true])
    | (refine ite_on (fun h => ?_) (fun h => ?_) <;> (try simp only [decide_eq_true_eq, decide_eq_false_iff_not, bne_iff_ne, beq_iff_eq, bne_eq_false_iff_eq, beq_eq_false_iff_ne, ne_eq, ge_iff_le, gt_iff_lt, Bool.not_eq_true, Bool.not_eq_false, Bool.not_not, Bool.not_true, Bool.not_false, Int.not_le, Int.not_lt, not_true_eq_false, not_false_eq_true, reduceCtorEq, Bool.false_eq_true, Bool.not_eq_true', Bool.not_eq_false'] at h) <;> first | (exfalso; omega) | skip)
    | rw [thenN]
    | rw [blockN]
    | rw [scopeN]
    | refine AW.scope ?_
    | refine AW.label ?_
    | refine And.intro ?_ ?_
    | refine lcons rfl ?_
    | exact lGram _
    | exact lSeen _
    | exact lWord _
    | exact lSealed _
    | exact lRun _
    | exact lPerson _
    | exact lEvent _
    | exact lLeak _
    | exact lNum _
    | exact lOprn _
    | exact in64 (by omega) (by omega)
    | exact in32 (by omega) (by omega)
    | omega)
  all_goals trace "W#1"
set_option maxHeartbeats 4000000 in
set_option maxRecDepth 100000 in
theorem l11_gets (x : Int) (l : List Int) : ACalls Try.prog 4 [.one (u32 x), .one (eWords l)] (rB true) := by
  refine ACalls.intro (fn := Try.f4) Try.func4 rfl rfl (by simp [Try.f4]) ?_
  have aw := l11_awake
  unfold Try.f4
  by_cases hl : (100 : Int) < (l.length : Int)
  · simp only [rB, rI, ePrt, eWords] at *
    repeat' (first
    | (refine hC ?_ ?_ ?_ ?_ ?_
       rotate_left
       · rfl
       · simp only [go_sem, ↓reduceIte, reduceCtorEq, Nat.reduceLT, Nat.reduceEqDiff, Nat.reduceBEq, Nat.reduceAdd, Nat.reduceSub, Nat.reduceMul, Nat.reduceLeDiff, Int.reduceLE, Int.reduceLT, Int.reduceNeg, Int.reduceEq, Int.reduceBEq, Int.reduceBNe, Int.reduceToNat, hl]
       · simp only [go_sem, ↓reduceIte, reduceCtorEq, Nat.reduceLT, Nat.reduceEqDiff, Nat.reduceBEq, Nat.reduceAdd, Nat.reduceSub, Nat.reduceMul, Nat.reduceLeDiff, Int.reduceLE, Int.reduceLT, Int.reduceNeg, Int.reduceEq, Int.reduceBEq, Int.reduceBNe, Int.reduceToNat, hl]
         first | (refine And.intro ?_ ?_; exact aw; first | exact trivial | (simp only [go_sem, ↓reduceIte, reduceCtorEq, Nat.reduceLT, Nat.reduceEqDiff, Nat.reduceBEq, Nat.reduceAdd, Nat.reduceSub, Nat.reduceMul, Nat.reduceLeDiff, Int.reduceLE, Int.reduceLT, Int.reduceNeg, Int.reduceEq, Int.reduceBEq, Int.reduceBNe, Int.reduceToNat, hl]; done)) | (refine And.intro (ACalls.args (k := ?_) ?_ ?_) ?_; rotate_left; exact aw; repeat' (first | exact trivial | exact Or.inl ⟨rfl, rfl⟩ | exact Or.inr rfl | apply And.intro))
       simp only [go_sem, ↓reduceIte, reduceCtorEq, Nat.reduceLT, Nat.reduceEqDiff, Nat.reduceBEq, Nat.reduceAdd, Nat.reduceSub, Nat.reduceMul, Nat.reduceLeDiff, Int.reduceLE, Int.reduceLT, Int.reduceNeg, Int.reduceEq, Int.reduceBEq, Int.reduceBNe, Int.reduceToNat, hl])
    | (refine hK _ _ ?_; clear hK hC; clear K C)
    | (refine hK _ _ rfl ?_; clear hK hC; clear K C)
    | (refine hK _ _ (by simp only [crs, crsI, alfO, alfL, Nat.reduceLT]; rfl) ?_; clear hK hC; clear K C)
    | (refine AW.seqR fun K C hK hC => ?_; simp only [go_sem, ↓reduceIte, reduceCtorEq, Nat.reduceLT, Nat.reduceEqDiff, Nat.reduceBEq, Nat.reduceAdd, Nat.reduceSub, Nat.reduceMul, Nat.reduceLeDiff, Int.reduceLE, Int.reduceLT, Int.reduceNeg, Int.reduceEq, Int.reduceBEq, Int.reduceBNe, Int.reduceToNat, hl])
    | (refine AW.seqD rfl fun K C hK hC => ?_; simp only [go_sem, ↓reduceIte, reduceCtorEq, Nat.reduceLT, Nat.reduceEqDiff, Nat.reduceBEq, Nat.reduceAdd, Nat.reduceSub, Nat.reduceMul, Nat.reduceLeDiff, Int.reduceLE, Int.reduceLT, Int.reduceNeg, Int.reduceEq, Int.reduceBEq, Int.reduceBNe, Int.reduceToNat, hl])
    | (refine AW.reg fun K C hK hC => ?_; simp only [go_sem, ↓reduceIte, reduceCtorEq, Nat.reduceLT, Nat.reduceEqDiff, Nat.reduceBEq, Nat.reduceAdd, Nat.reduceSub, Nat.reduceMul, Nat.reduceLeDiff, Int.reduceLE, Int.reduceLT, Int.reduceNeg, Int.reduceEq, Int.reduceBEq, Int.reduceBNe, Int.reduceToNat, hl])
    | (refine AW.regD rfl fun K C hK hC => ?_; simp only [go_sem, ↓reduceIte, reduceCtorEq, Nat.reduceLT, Nat.reduceEqDiff, Nat.reduceBEq, Nat.reduceAdd, Nat.reduceSub, Nat.reduceMul, Nat.reduceLeDiff, Int.reduceLE, Int.reduceLT, Int.reduceNeg, Int.reduceEq, Int.reduceBEq, Int.reduceBNe, Int.reduceToNat, hl])
    | refine AW.seqS ?_
    | (refine AW.ret ?_; simp only [go_sem, ↓reduceIte, reduceCtorEq, Nat.reduceLT, Nat.reduceEqDiff, Nat.reduceBEq, Nat.reduceAdd, Nat.reduceSub, Nat.reduceMul, Nat.reduceLeDiff, Int.reduceLE, Int.reduceLT, Int.reduceNeg, Int.reduceEq, Int.reduceBEq, Int.reduceBNe, Int.reduceToNat, hl])
    | (refine AW.cond rfl (fun h => ?_) (fun h => ?_) <;> (try simp only [decide_eq_true_eq, decide_eq_false_iff_not, bne_iff_ne, beq_iff_eq, bne_eq_false_iff_eq, beq_eq_false_iff_ne, ne_eq, ge_iff_le, gt_iff_lt, Bool.not_eq_true, Bool.not_eq_false, Bool.not_not, Bool.not_true, Bool.not_false, Int.not_le, Int.not_lt, not_true_eq_false, not_false_eq_true, reduceCtorEq, Bool.false_eq_true, Bool.not_eq_true', Bool.not_eq_false'] at h) <;> first | (exfalso; omega) | skip)
    | refine AW.skip ?_
    | refine AW.seq ?_
    | refine AW.block ?_
    | (refine AW.exit ?_; simp only [go_sem, ↓reduceIte, reduceCtorEq, Nat.reduceLT, Nat.reduceEqDiff, Nat.reduceBEq, Nat.reduceAdd, Nat.reduceSub, Nat.reduceMul, Nat.reduceLeDiff, Int.reduceLE, Int.reduceLT, Int.reduceNeg, Int.reduceEq, Int.reduceBEq, Int.reduceBNe, Int.reduceToNat, hl])
    | (refine ite_on (fun h => ?_) (fun h => ?_) <;> (try simp only [decide_eq_true_eq, decide_eq_false_iff_not, bne_iff_ne, beq_iff_eq, bne_eq_false_iff_eq, beq_eq_false_iff_ne, ne_eq, ge_iff_le, gt_iff_lt, Bool.not_eq_true, Bool.not_eq_false, Bool.not_not, Bool.not_true, Bool.not_false, Int.not_le, Int.not_lt, not_true_eq_false, not_false_eq_true, reduceCtorEq, Bool.false_eq_true, Bool.not_eq_true', Bool.not_eq_false'] at h) <;> first | (exfalso; omega) | skip)
    | rw [thenN]
    | rw [blockN]
    | rw [scopeN]
    | refine AW.scope ?_
    | refine AW.label ?_
    | refine And.intro ?_ ?_
    | refine lcons rfl ?_
    | exact lGram _
    | exact lSeen _
    | exact lWord _
    | exact lSealed _
    | exact lRun _
    | exact lPerson _
    | exact lEvent _
    | exact lLeak _
    | exact lNum _
    | exact lOprn _
    | exact in64 (by omega) (by omega)
    | exact in32 (by omega) (by omega)
    | omega)
    all_goals trace "W#2"
  · have a1 := p11_get x l (by omega)
    have a2 := q11_get x l
    have w1 := getP_wrap x l
    have heq := eqok_prt
    generalize getP x l = g at *
    simp only [rB, rI, ePrt, eWords] at *
    repeat' (first
    | (refine hC ?_ ?_ ?_ ?_ ?_
       rotate_left
       · rfl
       · simp only [go_sem, ↓reduceIte, reduceCtorEq, Nat.reduceLT, Nat.reduceEqDiff, Nat.reduceBEq, Nat.reduceAdd, Nat.reduceSub, Nat.reduceMul, Nat.reduceLeDiff, Int.reduceLE, Int.reduceLT, Int.reduceNeg, Int.reduceEq, Int.reduceBEq, Int.reduceBNe, Int.reduceToNat, hl, List.append_eq, w1, heq, beq_self_eq_true]
       · simp only [go_sem, ↓reduceIte, reduceCtorEq, Nat.reduceLT, Nat.reduceEqDiff, Nat.reduceBEq, Nat.reduceAdd, Nat.reduceSub, Nat.reduceMul, Nat.reduceLeDiff, Int.reduceLE, Int.reduceLT, Int.reduceNeg, Int.reduceEq, Int.reduceBEq, Int.reduceBNe, Int.reduceToNat, hl, List.append_eq, w1, heq, beq_self_eq_true]
         first | (refine And.intro ?_ ?_; exact aw; first | exact trivial | (simp only [go_sem, ↓reduceIte, reduceCtorEq, Nat.reduceLT, Nat.reduceEqDiff, Nat.reduceBEq, Nat.reduceAdd, Nat.reduceSub, Nat.reduceMul, Nat.reduceLeDiff, Int.reduceLE, Int.reduceLT, Int.reduceNeg, Int.reduceEq, Int.reduceBEq, Int.reduceBNe, Int.reduceToNat, hl, List.append_eq, w1, heq, beq_self_eq_true]; done)) | (refine And.intro (ACalls.args (k := ?_) ?_ ?_) ?_; rotate_left; exact aw; repeat' (first | exact trivial | exact Or.inl ⟨rfl, rfl⟩ | exact Or.inr rfl | apply And.intro))
       simp only [go_sem, ↓reduceIte, reduceCtorEq, Nat.reduceLT, Nat.reduceEqDiff, Nat.reduceBEq, Nat.reduceAdd, Nat.reduceSub, Nat.reduceMul, Nat.reduceLeDiff, Int.reduceLE, Int.reduceLT, Int.reduceNeg, Int.reduceEq, Int.reduceBEq, Int.reduceBNe, Int.reduceToNat, hl, List.append_eq, w1, heq, beq_self_eq_true])
    | (refine hC ?_ ?_ ?_ ?_ ?_
       rotate_left
       · rfl
       · simp only [go_sem, ↓reduceIte, reduceCtorEq, Nat.reduceLT, Nat.reduceEqDiff, Nat.reduceBEq, Nat.reduceAdd, Nat.reduceSub, Nat.reduceMul, Nat.reduceLeDiff, Int.reduceLE, Int.reduceLT, Int.reduceNeg, Int.reduceEq, Int.reduceBEq, Int.reduceBNe, Int.reduceToNat, hl, List.append_eq, w1, heq, beq_self_eq_true]
       · simp only [go_sem, ↓reduceIte, reduceCtorEq, Nat.reduceLT, Nat.reduceEqDiff, Nat.reduceBEq, Nat.reduceAdd, Nat.reduceSub, Nat.reduceMul, Nat.reduceLeDiff, Int.reduceLE, Int.reduceLT, Int.reduceNeg, Int.reduceEq, Int.reduceBEq, Int.reduceBNe, Int.reduceToNat, hl, List.append_eq, w1, heq, beq_self_eq_true]
         first | (refine And.intro ?_ ?_; exact a1; first | exact trivial | (simp only [go_sem, ↓reduceIte, reduceCtorEq, Nat.reduceLT, Nat.reduceEqDiff, Nat.reduceBEq, Nat.reduceAdd, Nat.reduceSub, Nat.reduceMul, Nat.reduceLeDiff, Int.reduceLE, Int.reduceLT, Int.reduceNeg, Int.reduceEq, Int.reduceBEq, Int.reduceBNe, Int.reduceToNat, hl, List.append_eq, w1, heq, beq_self_eq_true]; done)) | (refine And.intro (ACalls.args (k := ?_) ?_ ?_) ?_; rotate_left; exact a1; repeat' (first | exact trivial | exact Or.inl ⟨rfl, rfl⟩ | exact Or.inr rfl | apply And.intro))
       simp only [go_sem, ↓reduceIte, reduceCtorEq, Nat.reduceLT, Nat.reduceEqDiff, Nat.reduceBEq, Nat.reduceAdd, Nat.reduceSub, Nat.reduceMul, Nat.reduceLeDiff, Int.reduceLE, Int.reduceLT, Int.reduceNeg, Int.reduceEq, Int.reduceBEq, Int.reduceBNe, Int.reduceToNat, hl, List.append_eq, w1, heq, beq_self_eq_true])
    | (refine hC ?_ ?_ ?_ ?_ ?_
       rotate_left
       · rfl
       · simp only [go_sem, ↓reduceIte, reduceCtorEq, Nat.reduceLT, Nat.reduceEqDiff, Nat.reduceBEq, Nat.reduceAdd, Nat.reduceSub, Nat.reduceMul, Nat.reduceLeDiff, Int.reduceLE, Int.reduceLT, Int.reduceNeg, Int.reduceEq, Int.reduceBEq, Int.reduceBNe, Int.reduceToNat, hl, List.append_eq, w1, heq, beq_self_eq_true]
       · simp only [go_sem, ↓reduceIte, reduceCtorEq, Nat.reduceLT, Nat.reduceEqDiff, Nat.reduceBEq, Nat.reduceAdd, Nat.reduceSub, Nat.reduceMul, Nat.reduceLeDiff, Int.reduceLE, Int.reduceLT, Int.reduceNeg, Int.reduceEq, Int.reduceBEq, Int.reduceBNe, Int.reduceToNat, hl, List.append_eq, w1, heq, beq_self_eq_true]
         first | (refine And.intro ?_ ?_; exact a2; first | exact trivial | (simp only [go_sem, ↓reduceIte, reduceCtorEq, Nat.reduceLT, Nat.reduceEqDiff, Nat.reduceBEq, Nat.reduceAdd, Nat.reduceSub, Nat.reduceMul, Nat.reduceLeDiff, Int.reduceLE, Int.reduceLT, Int.reduceNeg, Int.reduceEq, Int.reduceBEq, Int.reduceBNe, Int.reduceToNat, hl, List.append_eq, w1, heq, beq_self_eq_true]; done)) | (refine And.intro (ACalls.args (k := ?_) ?_ ?_) ?_; rotate_left; exact a2; repeat' (first | exact trivial | exact Or.inl ⟨rfl, rfl⟩ | exact Or.inr rfl | apply And.intro))
       simp only [go_sem, ↓reduceIte, reduceCtorEq, Nat.reduceLT, Nat.reduceEqDiff, Nat.reduceBEq, Nat.reduceAdd, Nat.reduceSub, Nat.reduceMul, Nat.reduceLeDiff, Int.reduceLE, Int.reduceLT, Int.reduceNeg, Int.reduceEq, Int.reduceBEq, Int.reduceBNe, Int.reduceToNat, hl, List.append_eq, w1, heq, beq_self_eq_true])
    | (refine hK _ _ ?_; clear hK hC; clear K C)
    | (refine hK _ _ rfl ?_; clear hK hC; clear K C)
    | (refine hK _ _ (by simp only [crs, crsI, alfO, alfL, Nat.reduceLT]; rfl) ?_; clear hK hC; clear K C)
    | (refine AW.seqR fun K C hK hC => ?_; simp only [go_sem, ↓reduceIte, reduceCtorEq, Nat.reduceLT, Nat.reduceEqDiff, Nat.reduceBEq, Nat.reduceAdd, Nat.reduceSub, Nat.reduceMul, Nat.reduceLeDiff, Int.reduceLE, Int.reduceLT, Int.reduceNeg, Int.reduceEq, Int.reduceBEq, Int.reduceBNe, Int.reduceToNat, hl, List.append_eq, w1, heq, beq_self_eq_true])
    | (refine AW.seqD rfl fun K C hK hC => ?_; simp only [go_sem, ↓reduceIte, reduceCtorEq, Nat.reduceLT, Nat.reduceEqDiff, Nat.reduceBEq, Nat.reduceAdd, Nat.reduceSub, Nat.reduceMul, Nat.reduceLeDiff, Int.reduceLE, Int.reduceLT, Int.reduceNeg, Int.reduceEq, Int.reduceBEq, Int.reduceBNe, Int.reduceToNat, hl, List.append_eq, w1, heq, beq_self_eq_true])
    | (refine AW.reg fun K C hK hC => ?_; simp only [go_sem, ↓reduceIte, reduceCtorEq, Nat.reduceLT, Nat.reduceEqDiff, Nat.reduceBEq, Nat.reduceAdd, Nat.reduceSub, Nat.reduceMul, Nat.reduceLeDiff, Int.reduceLE, Int.reduceLT, Int.reduceNeg, Int.reduceEq, Int.reduceBEq, Int.reduceBNe, Int.reduceToNat, hl, List.append_eq, w1, heq, beq_self_eq_true])
    | (refine AW.regD rfl fun K C hK hC => ?_; simp only [go_sem, ↓reduceIte, reduceCtorEq, Nat.reduceLT, Nat.reduceEqDiff, Nat.reduceBEq, Nat.reduceAdd, Nat.reduceSub, Nat.reduceMul, Nat.reduceLeDiff, Int.reduceLE, Int.reduceLT, Int.reduceNeg, Int.reduceEq, Int.reduceBEq, Int.reduceBNe, Int.reduceToNat, hl, List.append_eq, w1, heq, beq_self_eq_true])
    | refine AW.seqS ?_
    | (refine AW.ret ?_; simp only [go_sem, ↓reduceIte, reduceCtorEq, Nat.reduceLT, Nat.reduceEqDiff, Nat.reduceBEq, Nat.reduceAdd, Nat.reduceSub, Nat.reduceMul, Nat.reduceLeDiff, Int.reduceLE, Int.reduceLT, Int.reduceNeg, Int.reduceEq, Int.reduceBEq, Int.reduceBNe, Int.reduceToNat, hl, List.append_eq, w1, heq, beq_self_eq_true])
    | (refine AW.cond rfl (fun h => ?_) (fun h => ?_) <;> (try simp only [decide_eq_true_eq, decide_eq_false_iff_not, bne_iff_ne, beq_iff_eq, bne_eq_false_iff_eq, beq_eq_false_iff_ne, ne_eq, ge_iff_le, gt_iff_lt, Bool.not_eq_true, Bool.not_eq_false, Bool.not_not, Bool.not_true, Bool.not_false, Int.not_le, Int.not_lt, not_true_eq_false, not_false_eq_true, reduceCtorEq, Bool.false_eq_true, Bool.not_eq_true', Bool.not_eq_false'] at h) <;> first | (exfalso; omega) | skip)
    | refine AW.skip ?_
    | refine AW.seq ?_
    | refine AW.block ?_
    | (refine AW.exit ?_; simp only [go_sem, ↓reduceIte, reduceCtorEq, Nat.reduceLT, Nat.reduceEqDiff, Nat.reduceBEq, Nat.reduceAdd, Nat.reduceSub, Nat.reduceMul, Nat.reduceLeDiff, Int.reduceLE, Int.reduceLT, Int.reduceNeg, Int.reduceEq, Int.reduceBEq, Int.reduceBNe, Int.reduceToNat, hl, List.append_eq, w1, heq, beq_self_eq_true])
    | (refine ite_on (fun h => ?_) (fun h => ?_) <;> (try simp only [decide_eq_true_eq, decide_eq_false_iff_not, bne_iff_ne, beq_iff_eq, bne_eq_false_iff_eq, beq_eq_false_iff_ne, ne_eq, ge_iff_le, gt_iff_lt, Bool.not_eq_true, Bool.not_eq_false, Bool.not_not, Bool.not_true, Bool.not_false, Int.not_le, Int.not_lt, not_true_eq_false, not_false_eq_true, reduceCtorEq, Bool.false_eq_true, Bool.not_eq_true', Bool.not_eq_false'] at h) <;> first | (exfalso; omega) | skip)
    | rw [thenN]
    | rw [blockN]
    | rw [scopeN]
    | refine AW.scope ?_
    | refine AW.label ?_
    | refine And.intro ?_ ?_
    | refine lcons rfl ?_
    | exact lGram _
    | exact lSeen _
    | exact lWord _
    | exact lSealed _
    | exact lRun _
    | exact lPerson _
    | exact lEvent _
    | exact lLeak _
    | exact lNum _
    | exact lOprn _
    | exact in64 (by omega) (by omega)
    | exact in32 (by omega) (by omega)
    | omega)
    all_goals trace "W#3"
/-- What is read is put as it was. -/
theorem getP_ok {x : Int} {l : List Int} (h : (getP x l).2 = 0) : ¬ (x < 2 ∨ 9 < x) ∧ (l.length : Int) = sizeP x ∧ (getP x l).1 = fillP x l := by
  unfold getP at h ⊢
  split at h
  · simp at h
  · rename_i h1
    split at h
    · simp at h
    · rename_i h2
      rw [if_neg h1, if_neg h2]
      exact ⟨h1, by simpa using h2, rfl⟩
theorem words_fill {x : Int} {l : List Int} (hx : ¬ (x < 2 ∨ 9 < x)) (hs : (l.length : Int) = sizeP x) : wordsP x (fillP x l) = l := by
  rcases label_cases x with rfl | rfl | rfl | rfl | rfl | rfl | rfl | rfl | h
  · obtain ⟨a, b, c, d, f, rfl⟩ := len5 hs; rfl
  · obtain ⟨a, b, c, rfl⟩ := len3 hs; rfl
  · obtain ⟨a, rfl⟩ := len1 hs; rfl
  · obtain ⟨a, rfl⟩ := len1 hs; rfl
  · obtain ⟨a, b, c, d, rfl⟩ := len4 hs; rfl
  · obtain ⟨a, b, c, d, rfl⟩ := len4 hs; rfl
  · obtain ⟨a, b, rfl⟩ := len2 hs; rfl
  · obtain ⟨a, b, rfl⟩ := len2 hs; rfl
  · exact absurd h hx
theorem get_back {x : Int} {l : List Int} (h : (getP x l).2 = 0) : wordsP x (getP x l).1 = l ∧ mayP x (getP x l).1 = true := by
  obtain ⟨h1, h2, h3⟩ := getP_ok h
  have hw := words_fill h1 h2
  rw [h3]
  refine ⟨hw, decide_eq_true ?_⟩
  rw [hw]
  exact Prod.ext h3 h
/-- What is put is read as it was. -/
theorem put_back {x : Int} {p : Prt} (h : mayP x p = true) : getP x (wordsP x p) = (p, 0) := of_decide_eq_true h
theorem words_inj {x : Int} {p q : Prt} (hp : mayP x p = true) (hq : mayP x q = true) : decide (wordsP x p = wordsP x q) = decide (p = q) := by
  rw [decide_eq_decide]
  constructor
  · intro h
    have := put_back hp
    rw [h, put_back hq] at this
    exact (Prod.ext_iff.1 this).1.symm
  · intro h; rw [h]
theorem get_size {x : Int} {l : List Int} (h : (getP x l).2 ≠ 0) : ((l.length : Int) == sizeP x) = false ∨ sizeP x = 0 := by
  unfold getP at h
  split at h
  · rename_i h1; right; rw [sizeP, wordsP_none h1]; rfl
  · split at h
    · rename_i h2; left; rw [beq_eq_false_iff_ne]; exact h2
    · simp at h
theorem getP_zero {x : Int} {l : List Int} (h : (getP x l).2 ≠ 0) : (getP x l).1 = prt0 := by
  unfold getP at h ⊢
  split at h
  · rename_i h1; rw [if_pos h1]
  · rename_i h1; rw [if_neg h1]
    split at h
    · rename_i h2; rw [if_pos h2]
    · simp at h
end Go.Proofs.Ytdpefiacelhggaa.Abs
end
section
/- What is handed in, opened: whatever its type. -/
set_option linter.unusedSimpArgs false
set_option linter.unusedVariables false
set_option maxRecDepth 100000
namespace Go.Proofs.Ytdpefiacelhggaa.Abs
open Go.RowKit
/-- A struct that is handed in, by value. -/
theorem open_agg {α : Type} {C : Cod α} {H : Type} {enc : TypeId × Value → H} {P : Program} {W : World} {r : Reach} {b0 : Nat} {t : TypeId} {fs : Array Field} {v : Value} {d : DataW H} {p : List MemPlace} (ho : Cod.Opens P t C) (hs : P.underlying t = some (.struct fs))
    (hv : Value.okWide P W r b0 t v) (h : DataW.Trod enc P W 0 (fun _ => true) true t v d p) : ∃ (vs : List Value) (y : α), v = .agg vs.toArray ∧ C.rep W W.heap.size vs y := by
  obtain ⟨cs, rfl, _⟩ := Go.WideShapes.okWide_struct hs hv
  obtain ⟨fuel, hf⟩ := h
  obtain ⟨y, hy⟩ := ho.2 H enc W fuel cs.toList _ hf
  exact ⟨cs.toList, y, rfl, hy⟩
/-- A row that is handed in. -/
theorem open_row {α : Type} {C : Cod α} {H : Type} {enc : TypeId × Value → H} {P : Program} {W : World} {r : Reach} {b0 : Nat} {t e : TypeId} {v : Value} {d : DataW H} {p : List MemPlace} (ho : Cod.Opens P t C.row) (hs : P.underlying t = some (.slice e))
    (hv : Value.okWide P W r b0 t v) (h : DataW.Trod enc P W 0 (fun _ => true) true t v d p) : ∃ y : List α, C.row.rep W W.heap.size [v] y := by
  obtain ⟨a, len, cap, rfl⟩ := Go.WideShapes.okWide_slice hs hv
  obtain ⟨fuel, hf⟩ := h
  exact ho.2 H enc W fuel _ _ hf
theorem RC.int {S : Sh} {w : World} {k : IntKind} {n : Int} (h : (Lit.int k n).wf = true) : RC S w (.one (.v (.int k n))) (.int k n) := R.v (inK_wf.trans h)
theorem RC.flag {S : Sh} {w : World} (b : Bool) : RC S w (.one (.v (.bool b))) (.bool b) := R.v rfl
theorem openWords : Cod.Opens Try.prog 26 Cod.words := Cod.Opens.row (e := 22) Try.underlying26 (by kernel_rfl) (Cod.Opens.num Try.underlying22 (by kernel_rfl)) (by decide)
end Go.Proofs.Ytdpefiacelhggaa.Abs
end
section
/- What is handed in, opened: nets and frames. -/
set_option linter.unusedSimpArgs false
set_option linter.unusedVariables false
set_option maxRecDepth 100000
namespace Go.Proofs.Ytdpefiacelhggaa.Abs
open Go.RowKit
end Go.Proofs.Ytdpefiacelhggaa.Abs
end
section
/- What is handed in, opened: boxes and their entries. -/
set_option linter.unusedSimpArgs false
set_option linter.unusedVariables false
set_option maxRecDepth 100000
namespace Go.Proofs.Ytdpefiacelhggaa.Abs
open Go.RowKit
end Go.Proofs.Ytdpefiacelhggaa.Abs
end
section
/- What is handed in, opened: runs, people, events, parts, messages, operations, worlds. -/
set_option linter.unusedSimpArgs false
set_option linter.unusedVariables false
set_option maxRecDepth 100000
namespace Go.Proofs.Ytdpefiacelhggaa.Abs
open Go.RowKit
theorem openPart : Cod.Opens Try.prog 24 prtC :=
  (Cod.Opens.struct Try.underlying24 (by kernel_rfl) (Cod.OpensAt.cons rfl (Cod.Opens.num Try.underlying22 (by kernel_rfl)) (Cod.OpensAt.cons rfl (Cod.Opens.num Try.underlying22 (by kernel_rfl)) (Cod.OpensAt.cons rfl (Cod.Opens.num Try.underlying22 (by kernel_rfl)) (Cod.OpensAt.cons rfl (Cod.Opens.num Try.underlying22 (by kernel_rfl)) (Cod.OpensAt.cons rfl (Cod.Opens.num Try.underlying22 (by kernel_rfl)) (Cod.OpensAt.cons rfl (Cod.Opens.num Try.underlying22 (by kernel_rfl)) (Cod.OpensAt.one rfl (Cod.Opens.num Try.underlying22 (by kernel_rfl)))))))))).via _ fun a => ⟨⟨a.1, a.2.1, a.2.2.1, a.2.2.2.1, a.2.2.2.2.1, a.2.2.2.2.2.1, a.2.2.2.2.2.2⟩, rfl⟩
end Go.Proofs.Ytdpefiacelhggaa.Abs
end
