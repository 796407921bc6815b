/- The landed layer draw, over values without addresses: row and Peek, from their contracts by addresses. -/
import Derived.Test.YtgkfbikffcmmdaaP04
import Derived.Test.YtgkfbikffcmmdaaDrawIter
set_option linter.unusedSimpArgs false
set_option linter.unusedVariables false
set_option maxRecDepth 100000
namespace Go.Proofs.Ytgkfbikffcmmdaa.Abs
open Go.RowKit
theorem row_ints {S : Sh} {w : World} {l : List Int} {v : Value} (h : R S w (.rowc 0 (l.map eWord)) v) : Ints .u32 w v l := by
  generalize hX : l.map eWord = X at h
  have hlen : l.length = X.length := by rw [← hX]; simp
  generalize hcv : CV.rowc 0 X = cv at h
  cases h with
  | nil => cases hcv; have : l = [] := List.eq_nil_of_length_eq_zero (by simpa using hlen); subst this; exact .inl ⟨rfl, rfl⟩
  | bare hc =>
    cases hcv
    have : l = [] := List.eq_nil_of_length_eq_zero (by simpa using hlen)
    subst this
    exact .inr ⟨_, _, rfl, Nat.zero_le _, hc, fun i hi => absurd hi (Nat.not_lt_zero _)⟩
  | row g h1 h2 h3 h4 h5 h6 h7 =>
    rename_i xs b o cap sz
    cases hcv
    rw [← hlen] at h2 ⊢
    refine .inr ⟨⟨b, o, none⟩, cap, rfl, h2, h3, fun i hi => ?_⟩
    have hx : X[i]? = some (eWord (l.getD i 0)) := by rw [← hX]; simp [hi]
    have hsz : sz = 1 := by rw [← h5 _ (List.mem_of_getElem? hx)]; rfl
    subst hsz
    have hc := h6 i _ hx 0 (by simp [eWord])
    have hr := h7 i _ hx 0 (u32 (l.getD i 0)) (by simp [eWord])
    rw [add_row]
    simp only [Nat.mul_one, Nat.add_zero] at hc
    rw [hc]
    generalize g i 0 = y at hr
    cases hr with
    | v _ => rfl
  | _ => cases hcv
theorem bitI_range {x : Int} (h : 0 ≤ x ∧ x < 4294967296) : 0 ≤ bitI x ∧ bitI x < 4294967296 := by
  unfold bitI
  split <;> omega
theorem bits_or' (x y : Int) : bits .or .u32 x y = IntKind.u32.wrap (((BitVec.ofInt 32 x ||| BitVec.ofInt 32 y).toNat : Nat) : Int) := rfl
theorem drawAt_dAt (l : List Int) (i : Nat) (hi : i ≤ 2097152) : drawAt l i = dAt l i := by
  have hd : ∀ n, drawN n = bitI n := fun n => rfl
  unfold drawAt dAt
  rw [hd]
  by_cases h : i < l.length
  · rw [if_pos h, List.getElem?_eq_getElem h]
    simp [List.getD, h]
  · rw [if_neg h, List.getElem?_eq_none (by omega)]
    have h1 : IntKind.u32.wrap (i : Int) = i := IntWalk.u32_in _ (by omega)
    have h2 := bits_or_top i (by omega) (by omega)
    rw [bits_or'] at h2
    simp only [farI, h1]
    rw [h2]
/-- Draws in a row, from a place on. -/
def dRow (l : List Int) (f n : Nat) : List Int := (List.range n).map fun i => dAt l (f + i)
theorem drawRow_dRow (l : List Int) (f n : Nat) (h : f + n ≤ 2097152) : drawRow l f n = dRow l f n := by
  refine List.map_congr_left fun i hi => drawAt_dAt l _ ?_
  have := List.mem_range.1 hi
  omega
theorem dRow_len (l : List Int) (f n : Nat) : (dRow l f n).length = n := by simp [dRow]
theorem p04_row (l : List Int) (f n : Nat) (h : f + n ≤ 2097152) : ACalls Try.prog 32 [.one (eWords l), .one (i64 f), .one (i64 ((f : Int) + (n : Int)))] (.own 36 1 ((dRow l f n).map eWord)) := by
  refine ⟨⟨Try.f32, rfl, rfl, by decide⟩, fun S w vs hS hg hvs hbx => ?_⟩
  obtain ⟨v1, t1, rfl, k1, hvs⟩ := hvs.uncons
  obtain ⟨v2, t2, rfl, k2, hvs⟩ := hvs.uncons
  obtain ⟨v3, t3, rfl, k3, hvs⟩ := hvs.uncons
  rw [hvs.unnil]
  have k1 : R S w (eWords l) v1 := k1
  have k2 : R S w (i64 f) v2 := k2
  have k3 : R S w (i64 ((f : Int) + (n : Int))) v3 := k3
  have e2 : v2 = .int .i64 f := by generalize hc : i64 (f : Int) = c at k2; cases k2 <;> cases hc; rfl
  have e3 : v3 = .int .i64 ((f + n : Nat) : Int) := by
    generalize hc : i64 ((f : Int) + (n : Int)) = c at k3
    cases k3 <;> cases hc
    rw [show ((f : Int) + (n : Int)) = ((f + n : Nat) : Int) from by omega]
  subst e2
  subst e3
  have hI := row_ints (S := S) k1
  have hr := (fineWords k1.fine).2
  obtain ⟨a, c, rfl⟩ := hI.form
  refine (row_row a c l f (f + n) w hI (by omega) h hr).mono ?_
  rintro e w' ⟨u, rfl, ho, hb⟩
  rw [Nat.add_sub_cancel_left, drawRow_dRow l f n h] at ho
  refine ⟨u, fun _ _ => False, rfl, fun _ _ h => h.elim, ?_, .of hb⟩
  refine ⟨by simp [eWord], by decide, by simp [dRow_len]; omega, fun g hgo k hk => ?_, ((dRow l f n).map fun x => [Value.int .u32 x]), ?_, ?_⟩
  · have h1 := (ho.lt g hgo).1
    rcases hk with hk | hk
    · have := hS k g hk; omega
    · exact hk
  · refine ⟨by simp, fun i x y hx hy => ?_⟩
    simp only [List.getElem?_map, Option.map_eq_some_iff] at hx hy
    obtain ⟨z, hz, rfl⟩ := hx
    obtain ⟨z', hz', rfl⟩ := hy
    rw [hz] at hz'
    cases hz'
    have hzr : 0 ≤ z ∧ z < 4294967296 := by
      obtain ⟨i, _, rfl⟩ := List.mem_map.1 (List.mem_of_getElem? hz)
      show 0 ≤ bitI _ ∧ bitI _ < 4294967296
      cases hl : l[f + i]? with
      | none => exact bitI_range (u32_range _)
      | some x => exact bitI_range (hr x (List.mem_of_getElem? hl))
    refine F2.cons (R.v ?_) F2.nil
    simp [okV, inK]
    omega
  · have e : ((dRow l f n).map fun x => [Value.int .u32 x]).flatten = (dRow l f n).map (Value.int .u32) := by
      induction dRow l f n with
      | nil => rfl
      | cons x t ih => simp [ih]
    rw [e]
    simpa using ho
theorem p04_peek (l : List Int) (nx n : Nat) (h : nx + n ≤ 2097152) : ACalls Try.prog 24 [.agg (eDraws ⟨l, nx⟩), .one (i64 n)] (.own 36 1 ((dRow l nx n).map eWord)) := by
  refine ACalls.intro (fn := Try.f24) Try.func24 rfl rfl (by simp [Try.f24]) ?_
  have hq := p04_row l nx n h
  have hw : IntKind.i64.wrap ((nx : Int) + (n : Int)) = (nx : Int) + (n : Int) := by rw [wrapI (by omega) (by omega)]
  unfold Try.f24
  simp only [eDraws, eWords] at *
  repeat' (first
    | (refine hC ?_ ?_ ?_ ?_ ?_
       rotate_left
       · rfl
       · simp only [go_sem, ↓reduceIte, reduceCtorEq, Nat.reduceLT, Nat.reduceEqDiff, Nat.reduceBEq, Nat.reduceAdd, Nat.reduceSub, Nat.reduceMul, Nat.reduceLeDiff, Int.reduceLE, Int.reduceLT, Int.reduceNeg, Int.reduceEq, Int.reduceBEq, Int.reduceBNe, Int.reduceToNat, hw]
       · simp only [go_sem, ↓reduceIte, reduceCtorEq, Nat.reduceLT, Nat.reduceEqDiff, Nat.reduceBEq, Nat.reduceAdd, Nat.reduceSub, Nat.reduceMul, Nat.reduceLeDiff, Int.reduceLE, Int.reduceLT, Int.reduceNeg, Int.reduceEq, Int.reduceBEq, Int.reduceBNe, Int.reduceToNat, hw]
         first | (refine And.intro ?_ ?_; exact hq; first | exact trivial | (simp only [go_sem, ↓reduceIte, reduceCtorEq, Nat.reduceLT, Nat.reduceEqDiff, Nat.reduceBEq, Nat.reduceAdd, Nat.reduceSub, Nat.reduceMul, Nat.reduceLeDiff, Int.reduceLE, Int.reduceLT, Int.reduceNeg, Int.reduceEq, Int.reduceBEq, Int.reduceBNe, Int.reduceToNat, hw]; done)) | (refine And.intro (ACalls.args (k := ?_) ?_ ?_) ?_; rotate_left; exact hq; repeat' (first | exact trivial | exact Or.inl ⟨rfl, rfl⟩ | exact Or.inr rfl | apply And.intro))
       simp only [go_sem, ↓reduceIte, reduceCtorEq, Nat.reduceLT, Nat.reduceEqDiff, Nat.reduceBEq, Nat.reduceAdd, Nat.reduceSub, Nat.reduceMul, Nat.reduceLeDiff, Int.reduceLE, Int.reduceLT, Int.reduceNeg, Int.reduceEq, Int.reduceBEq, Int.reduceBNe, Int.reduceToNat, hw])
    | (refine hK _ _ ?_; clear hK hC; clear K C)
    | (refine hK _ _ rfl ?_; clear hK hC; clear K C)
    | (refine hK _ _ (by simp only [crs, crsI, alfO, alfL, Nat.reduceLT]; rfl) ?_; clear hK hC; clear K C)
    | (refine AW.seqR fun K C hK hC => ?_; simp only [go_sem, ↓reduceIte, reduceCtorEq, Nat.reduceLT, Nat.reduceEqDiff, Nat.reduceBEq, Nat.reduceAdd, Nat.reduceSub, Nat.reduceMul, Nat.reduceLeDiff, Int.reduceLE, Int.reduceLT, Int.reduceNeg, Int.reduceEq, Int.reduceBEq, Int.reduceBNe, Int.reduceToNat, hw])
    | (refine AW.seqD rfl fun K C hK hC => ?_; simp only [go_sem, ↓reduceIte, reduceCtorEq, Nat.reduceLT, Nat.reduceEqDiff, Nat.reduceBEq, Nat.reduceAdd, Nat.reduceSub, Nat.reduceMul, Nat.reduceLeDiff, Int.reduceLE, Int.reduceLT, Int.reduceNeg, Int.reduceEq, Int.reduceBEq, Int.reduceBNe, Int.reduceToNat, hw])
    | (refine AW.reg fun K C hK hC => ?_; simp only [go_sem, ↓reduceIte, reduceCtorEq, Nat.reduceLT, Nat.reduceEqDiff, Nat.reduceBEq, Nat.reduceAdd, Nat.reduceSub, Nat.reduceMul, Nat.reduceLeDiff, Int.reduceLE, Int.reduceLT, Int.reduceNeg, Int.reduceEq, Int.reduceBEq, Int.reduceBNe, Int.reduceToNat, hw])
    | (refine AW.regD rfl fun K C hK hC => ?_; simp only [go_sem, ↓reduceIte, reduceCtorEq, Nat.reduceLT, Nat.reduceEqDiff, Nat.reduceBEq, Nat.reduceAdd, Nat.reduceSub, Nat.reduceMul, Nat.reduceLeDiff, Int.reduceLE, Int.reduceLT, Int.reduceNeg, Int.reduceEq, Int.reduceBEq, Int.reduceBNe, Int.reduceToNat, hw])
    | refine AW.seqS ?_
    | (refine AW.ret ?_; simp only [go_sem, ↓reduceIte, reduceCtorEq, Nat.reduceLT, Nat.reduceEqDiff, Nat.reduceBEq, Nat.reduceAdd, Nat.reduceSub, Nat.reduceMul, Nat.reduceLeDiff, Int.reduceLE, Int.reduceLT, Int.reduceNeg, Int.reduceEq, Int.reduceBEq, Int.reduceBNe, Int.reduceToNat, hw])
    | (refine AW.cond rfl (fun h => ?_) (fun h => ?_) <;> (try simp only [decide_eq_true_eq, decide_eq_false_iff_not, bne_iff_ne, beq_iff_eq, bne_eq_false_iff_eq, beq_eq_false_iff_ne, ne_eq, ge_iff_le, gt_iff_lt, Bool.not_eq_true, Bool.not_eq_false, Bool.not_not, Bool.not_true, Bool.not_false, Int.not_le, Int.not_lt, not_true_eq_false, not_false_eq_true, reduceCtorEq, Bool.false_eq_true, Bool.not_eq_true', Bool.not_eq_false'] at h) <;> first | (exfalso; omega) | skip)
    | refine AW.skip ?_
    | refine AW.seq ?_
    | refine AW.block ?_
    | (refine AW.exit ?_; simp only [go_sem, ↓reduceIte, reduceCtorEq, Nat.reduceLT, Nat.reduceEqDiff, Nat.reduceBEq, Nat.reduceAdd, Nat.reduceSub, Nat.reduceMul, Nat.reduceLeDiff, Int.reduceLE, Int.reduceLT, Int.reduceNeg, Int.reduceEq, Int.reduceBEq, Int.reduceBNe, Int.reduceToNat, hw])
    | (refine ite_on (fun h => ?_) (fun h => ?_) <;> (try simp only [decide_eq_true_eq, decide_eq_false_iff_not, bne_iff_ne, beq_iff_eq, bne_eq_false_iff_eq, beq_eq_false_iff_ne, ne_eq, ge_iff_le, gt_iff_lt, Bool.not_eq_true, Bool.not_eq_false, Bool.not_not, Bool.not_true, Bool.not_false, Int.not_le, Int.not_lt, not_true_eq_false, not_false_eq_true, reduceCtorEq, Bool.false_eq_true, Bool.not_eq_true', Bool.not_eq_false'] at h) <;> first | (exfalso; omega) | skip)
    | rw [thenN]
    | rw [blockN]
    | rw [scopeN]
    | refine AW.scope ?_
    | refine AW.label ?_
    | refine And.intro ?_ ?_
    | refine lcons rfl ?_
    | exact lGram _
    | exact lSeen _
    | exact lWord _
    | exact lSealed _
    | exact lRun _
    | exact lPerson _
    | exact lEvent _
    | exact lLeak _
    | exact lNum _
    | exact lOprn _
    | exact in64 (by omega) (by omega)
    | exact in32 (by omega) (by omega)
    | omega)
end Go.Proofs.Ytgkfbikffcmmdaa.Abs
