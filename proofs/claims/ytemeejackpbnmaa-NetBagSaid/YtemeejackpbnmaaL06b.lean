/- The laws of layer net, over values without addresses: NetBag. -/
import Derived.Test.YtemeejackpbnmaaL06
import Derived.Test.YtemeejackpbnmaaAbsN
set_option linter.unusedSimpArgs false
set_option linter.unusedVariables false
namespace Go.Proofs.Ytemeejackpbnmaa.Abs
open Go.RowKit
def eByte (x : Int) : List CV := [.v (.int .u8 x)]
def eBytes (l : List Int) : CV := .row (l.map eByte)
theorem lByte (l : List Int) : ∀ us ∈ l.map eByte, us.length = 1 := by simp [eByte]
theorem fineBytes {l : List Int} (h : Fine (eBytes l)) : l.length ≤ 9223372036854775807 ∧ ∀ x ∈ l, 0 ≤ x ∧ x < 256 := by
  obtain ⟨h1, h2⟩ := Fine.rowM h
  exact ⟨h1, fun x hx => by
    have := (h2 x hx (.v (.int .u8 x)) (by simp [eByte])).int
    simp [inK] at this
    omega⟩
def many (c : Int) (l : List Gram) : Int := (l.countP fun g => decide (g.words = [c]) : Nat)
def Bag (c : Int) (n : Net) (m : Int) (sent : List Int) : Prop := rightN n = true ∧ (∀ g ∈ n.grams, ∃ w, g.words = [w]) ∧ m = many c n.grams ∧ n.seen = sent.map fun w => [w]
theorem many_add (c : Int) (l : List Gram) (g : Gram) {v : Int} (hv : g.words = [v]) : many c (l ++ [g]) = if v = c then many c l + 1 else many c l := by
  unfold many
  rw [List.countP_append]
  by_cases h : v = c
  · simp [hv, h]
  · simp [hv, h]
theorem many_erase (c : Int) (l : List Gram) {a : Nat} {g : Gram} (hg : l[a]? = some g) {v : Int} (hv : g.words = [v]) : many c (l.eraseIdx a) = if v = c then many c l - 1 else many c l := by
  unfold many
  have ha : a < l.length := by
    rcases Nat.lt_or_ge a l.length with h | h
    · exact h
    · rw [List.getElem?_eq_none h] at hg; cases hg
  have hga : l[a] = g := by rw [List.getElem?_eq_getElem ha] at hg; exact Option.some.inj hg
  have e : l = l.take a ++ g :: l.drop (a + 1) := by rw [← hga]; simp
  have e2 : l.eraseIdx a = l.take a ++ l.drop (a + 1) := List.eraseIdx_eq_take_drop_succ ..
  rw [e2]
  conv => rhs; rw [e]
  rw [List.countP_append, List.countP_append, List.countP_cons]
  by_cases h : v = c
  · simp [hv, h]; omega
  · simp [hv, h]
theorem Bag.send {c : Int} {n : Net} {m : Int} {sent : List Int} (h : Bag c n m sent) (w : Int) (hr : ¬ n.room ≤ (n.grams.length : Int)) : Bag c ⟨n.room, n.grams ++ [⟨1, [w]⟩], n.seen ++ [[w]]⟩ (if w = c then m + 1 else m) (sent ++ [w]) := by
  obtain ⟨h1, h2, h3, h4⟩ := h
  have h1' := of_decide_eq_true h1
  refine ⟨decide_eq_true ?_, ?_, ?_, ?_⟩
  · refine ⟨h1'.1, h1'.2.1, ?_⟩
    simp only [List.length_append, List.length_singleton]
    omega
  · intro g hg
    simp only [List.mem_append, List.mem_singleton] at hg
    rcases hg with hg | rfl
    · exact h2 g hg
    · exact ⟨w, rfl⟩
  · rw [many_add c n.grams ⟨1, [w]⟩ rfl, h3]
  · simp [h4]
theorem Bag.double {c : Int} {n : Net} {m : Int} {sent : List Int} (h : Bag c n m sent) {a : Nat} {g : Gram} (hg : n.grams[a]? = some g) {v : Int} (hv : g.words = [v]) (hr : ¬ n.room ≤ (n.grams.length : Int)) : Bag c ⟨n.room, n.grams ++ [g], n.seen⟩ (if v = c then m + 1 else m) sent := by
  obtain ⟨h1, h2, h3, h4⟩ := h
  have h1' := of_decide_eq_true h1
  refine ⟨decide_eq_true ?_, ?_, ?_, h4⟩
  · refine ⟨h1'.1, h1'.2.1, ?_⟩
    simp only [List.length_append, List.length_singleton]
    omega
  · intro x hx
    simp only [List.mem_append, List.mem_singleton] at hx
    rcases hx with hx | rfl
    · exact h2 x hx
    · exact ⟨v, hv⟩
  · rw [many_add c n.grams g hv, h3]
theorem Bag.take {c : Int} {n : Net} {m : Int} {sent : List Int} (h : Bag c n m sent) {a : Nat} {g : Gram} (hg : n.grams[a]? = some g) {v : Int} (hv : g.words = [v]) : Bag c ⟨n.room, n.grams.eraseIdx a, n.seen⟩ (if v = c then m - 1 else m) sent := by
  obtain ⟨h1, h2, h3, h4⟩ := h
  have h1' := of_decide_eq_true h1
  refine ⟨decide_eq_true ?_, ?_, ?_, h4⟩
  · have := List.length_eraseIdx_le n.grams a
    refine ⟨h1'.1, h1'.2.1, ?_⟩
    simp only
    omega
  · intro x hx
    exact h2 x (List.mem_of_mem_eraseIdx hx)
  · rw [many_erase c n.grams hg hv, h3]
set_option maxHeartbeats 4000000 in
set_option maxRecDepth 100000 in
theorem l06_bag (room : Int) (deeds : List Int) (cof : Int) : ACalls Try.prog 4 [.one (.v (.int .u8 room)), .one (eBytes deeds), .one (.v (.int .u8 cof))] (rB true) := by
  refine ACalls.introF (fn := Try.f4) rfl rfl rfl (by simp [Try.f4]) fun hf => ?_
  obtain ⟨hl, hd⟩ := fineBytes (hf (.one (eBytes deeds)) (by simp))
  have hr := (show Fine (.v (.int .u8 room)) from hf (.one (.v (.int .u8 room))) (by simp)).int
  have ho := (show Fine (.v (.int .u8 cof)) from hf (.one (.v (.int .u8 cof))) (by simp)).int
  simp [inK] at hr ho
  clear hf
  have aw := l06_awake
  unfold Try.f4 eBytes
  simp only [rB] at *
  have hwr : IntKind.i64.wrap room = room := wrapI (by omega) (by omega)
  obtain ⟨q, hq, hq0, hq1⟩ : ∃ q, room.tmod 65 = q ∧ 0 ≤ q ∧ q ≤ 64 := ⟨_, rfl, by rw [Int.tmod_eq_emod_of_nonneg hr.1]; omega, by rw [Int.tmod_eq_emod_of_nonneg hr.1]; omega⟩
  obtain ⟨c, hc, hc0, hc1⟩ : ∃ c, cof.tmod 4 = c ∧ 0 ≤ c ∧ c ≤ 3 := ⟨_, rfl, by rw [Int.tmod_eq_emod_of_nonneg ho.1]; omega, by rw [Int.tmod_eq_emod_of_nonneg ho.1]; omega⟩
  have q1 : -9223372036854775808 ≤ q := by omega
  have q2 : q ≤ 9223372036854775807 := by omega
  repeat' (first
    | (refine hC ?_ ?_ ?_ ?_ ?_
       rotate_left
       · rfl
       · simp only [go_sem, ↓reduceIte, reduceCtorEq, Nat.reduceLT, Nat.reduceEqDiff, Nat.reduceBEq, Nat.reduceAdd, Nat.reduceSub, Nat.reduceMul, Nat.reduceLeDiff, Int.reduceLE, Int.reduceNeg, Int.reduceEq, hwr, hq, q1, q2]
       · simp only [go_sem, ↓reduceIte, reduceCtorEq, Nat.reduceLT, Nat.reduceEqDiff, Nat.reduceBEq, Nat.reduceAdd, Nat.reduceSub, Nat.reduceMul, Nat.reduceLeDiff, Int.reduceLE, Int.reduceNeg, Int.reduceEq, hwr, hq, q1, q2]
         first | exact aw | exact ACalls.args (aw) (by repeat' (first | exact trivial | apply And.intro | exact .inl ⟨rfl, rfl⟩ | exact .inr rfl))
       simp only [go_sem, ↓reduceIte, reduceCtorEq, Nat.reduceLT, Nat.reduceEqDiff, Nat.reduceBEq, Nat.reduceAdd, Nat.reduceSub, Nat.reduceMul, Nat.reduceLeDiff, Int.reduceLE, Int.reduceNeg, Int.reduceEq, hwr, hq, q1, q2])
    | (refine hK _ _ ?_; clear hK hC; clear K C)
    | (refine hK _ _ rfl ?_; clear hK hC; clear K C)
    | (refine AW.seqR fun K C hK hC => ?_; simp only [go_sem, ↓reduceIte, reduceCtorEq, Nat.reduceLT, Nat.reduceEqDiff, Nat.reduceBEq, Nat.reduceAdd, Nat.reduceSub, Nat.reduceMul, Nat.reduceLeDiff, Int.reduceLE, Int.reduceNeg, Int.reduceEq, hwr, hq, q1, q2])
    | (refine AW.seqD rfl fun K C hK hC => ?_; simp only [go_sem, ↓reduceIte, reduceCtorEq, Nat.reduceLT, Nat.reduceEqDiff, Nat.reduceBEq, Nat.reduceAdd, Nat.reduceSub, Nat.reduceMul, Nat.reduceLeDiff, Int.reduceLE, Int.reduceNeg, Int.reduceEq, hwr, hq, q1, q2])
    | (refine AW.reg fun K C hK hC => ?_; simp only [go_sem, ↓reduceIte, reduceCtorEq, Nat.reduceLT, Nat.reduceEqDiff, Nat.reduceBEq, Nat.reduceAdd, Nat.reduceSub, Nat.reduceMul, Nat.reduceLeDiff, Int.reduceLE, Int.reduceNeg, Int.reduceEq, hwr, hq, q1, q2])
    | refine AW.seqS ?_
    | (refine AW.ret ?_; simp only [go_sem, ↓reduceIte, reduceCtorEq, Nat.reduceLT, Nat.reduceEqDiff, Nat.reduceBEq, Nat.reduceAdd, Nat.reduceSub, Nat.reduceMul, Nat.reduceLeDiff, Int.reduceLE, Int.reduceNeg, Int.reduceEq, hwr, hq, q1, q2])
    | (refine AW.cond rfl (fun h => ?_) (fun h => ?_) <;> (try simp only [decide_eq_true_eq, decide_eq_false_iff_not, bne_iff_ne, beq_iff_eq, bne_eq_false_iff_eq, beq_eq_false_iff_ne, ne_eq, ge_iff_le, gt_iff_lt, Bool.not_eq_true, Bool.not_eq_false, Bool.not_not, Bool.not_true, Bool.not_false, Int.not_le, Int.not_lt, not_true_eq_false, not_false_eq_true, reduceCtorEq, Bool.false_eq_true, Bool.not_eq_true', Bool.not_eq_false'] at h) <;> first | (exfalso; omega) | skip)
    | refine AW.skip ?_
    | refine AW.seq ?_
    | refine AW.block ?_
    | (refine AW.exit ?_; simp only [go_sem, ↓reduceIte, reduceCtorEq, Nat.reduceLT, Nat.reduceEqDiff, Nat.reduceBEq, Nat.reduceAdd, Nat.reduceSub, Nat.reduceMul, Nat.reduceLeDiff, Int.reduceLE, Int.reduceNeg, Int.reduceEq, hwr, hq, q1, q2])
    | (refine ite_on (fun h => ?_) (fun h => ?_) <;> (try simp only [decide_eq_true_eq, decide_eq_false_iff_not, bne_iff_ne, beq_iff_eq, bne_eq_false_iff_eq, beq_eq_false_iff_ne, ne_eq, ge_iff_le, gt_iff_lt, Bool.not_eq_true, Bool.not_eq_false, Bool.not_not, Bool.not_true, Bool.not_false, Int.not_le, Int.not_lt, not_true_eq_false, not_false_eq_true, reduceCtorEq, Bool.false_eq_true, Bool.not_eq_true', Bool.not_eq_false'] at h) <;> first | (exfalso; omega) | skip)
    | rw [thenN]
    | rw [blockN]
    | refine And.intro ?_ ?_
    | refine lcons rfl ?_
    | exact lGram _
    | exact lSeen _
    | exact lWord _
    | exact lSealed _
    | exact lRun _
    | exact lPerson _
    | exact lEvent _
    | exact lLeak _
    | exact lNum _
    | exact lOprn _
    | omega)
  refine AW.fresh 9 9 26 1 (by decide) rfl rfl ?_
  refine AW.nils 7 rfl ?_
  refine AW.loopW (fun z σ => ∃ (k : Nat) (n : Net) (m : Int) (sent : List Int), z = deeds.length - k ∧ k ≤ deeds.length ∧ sent.length ≤ k ∧ Bag c n m sent ∧ σ = ⟨210,
      upd (upd (upd (upd (upd (upd (upd (upd (fun _ => .junk) 10 (.one (.c (i64 k)))) 9 (.one (.own 9 sent.length))) 8 (.one (.c (i64 m)))) 7 (.one (.ptr 7 0))) 6 (.one (.c (.v (.bool false))))) 2 (.one (.c (.v (.int .u8 cof))))) 1 (.one (.c (.row (deeds.map eByte))))) 0 (.one (.c (.v (.int .u8 room)))),
      upd (upd (fun _ => none) 9 (some (.rows 26 1 (sent.map eWord)))) 7 (some (.box [.c (i64 n.room), .c (.row (n.grams.map eGram)), .c (.row (n.seen.map eSeen))]))⟩)
      (n := deeds.length) _ ⟨0, ⟨q, [], []⟩, 0, [], rfl, Nat.zero_le _, Nat.le_refl _, ⟨decide_eq_true (by simp; omega), by simp, rfl, rfl⟩, rfl⟩ (by (refine ⟨rfl, ?_, ?_, ?_⟩ <;> repeat' (first | exact LeT.junk | exact LeM.none | exact LiveM.none | refine LeT.same ?_ ?_ ?_ | refine LeM.same ?_ ?_ | refine LiveM.upd ?_ ?_ | trivial | (simp only [go_sem, ↓reduceIte, reduceCtorEq, Nat.reduceLT, Nat.reduceEqDiff, Nat.reduceBEq, Nat.reduceAdd, Nat.reduceSub, Nat.reduceMul, Nat.reduceLeDiff, Int.reduceLE, Int.reduceNeg, Int.reduceEq, sealA]; done) | rfl))) ?_
  rintro z σ ⟨k, n, m, sent, rfl, hk, hsn, hb, rfl⟩
  by_cases hlt : k < deeds.length
  · obtain ⟨d, hx⟩ : ∃ d, deeds[k]? = some d := ⟨_, List.getElem?_eq_getElem hlt⟩
    obtain ⟨hd0, hd1⟩ := hd d (List.mem_of_getElem? hx)
    obtain ⟨w, hw, hw0, hw1⟩ : ∃ w, d.tmod 4 = w ∧ 0 ≤ w ∧ w ≤ 3 := ⟨_, rfl, by rw [Int.tmod_eq_emod_of_nonneg hd0]; omega, by rw [Int.tmod_eq_emod_of_nonneg hd0]; omega⟩
    obtain ⟨b, hbq, hb0, hb1⟩ : ∃ b, d.tdiv 16 = b ∧ 0 ≤ b ∧ b ≤ 15 := ⟨_, rfl, by rw [Int.tdiv_eq_ediv_of_nonneg hd0]; omega, by rw [Int.tdiv_eq_ediv_of_nonneg hd0]; omega⟩
    obtain ⟨a, ha, ha1⟩ : ∃ a : Nat, b.tmod 8 = a ∧ a ≤ 7 := ⟨(b % 8).toNat, by rw [Int.tmod_eq_emod_of_nonneg hb0]; omega, by omega⟩
    have hwb : IntKind.i64.wrap b = b := wrapI (by omega) (by omega)
    have hww : IntKind.u32.wrap w = w := by have : w = 0 ∨ w = 1 ∨ w = 2 ∨ w = 3 := by omega
                                            rcases this with rfl | rfl | rfl | rfl <;> decide
    have hwc : IntKind.u32.wrap c = c := by have : c = 0 ∨ c = 1 ∨ c = 2 ∨ c = 3 := by omega
                                            rcases this with rfl | rfl | rfl | rfl <;> decide
    have hb8 : IntKind.u8.wrap b = b := by
      have : b = 0 ∨ b = 1 ∨ b = 2 ∨ b = 3 ∨ b = 4 ∨ b = 5 ∨ b = 6 ∨ b = 7 ∨ b = 8 ∨ b = 9 ∨ b = 10 ∨ b = 11 ∨ b = 12 ∨ b = 13 ∨ b = 14 ∨ b = 15 := by omega
      rcases this with rfl | rfl | rfl | rfl | rfl | rfl | rfl | rfl | rfl | rfl | rfl | rfl | rfl | rfl | rfl | rfl <;> decide
    have hs := wrapI (x := (k : Int) + 1) (by omega) (by omega)
    have a0 : -9223372036854775808 ≤ (a : Int) := by omega
    have a1 : (a : Int) ≤ 9223372036854775807 := by omega
    have b2 : b ≤ 255 := by omega
    have w2 : w ≤ 255 := by omega
    have c2 : c ≤ 255 := by omega
    have ht : d.tmod 3 = 0 ∨ d.tmod 3 = 1 ∨ d.tmod 3 = 2 := by rw [Int.tmod_eq_emod_of_nonneg hd0]; omega
    have hbr := of_decide_eq_true hb.1
    have hl1 : n.grams.length ≤ 64 := by omega
    have hm : 0 ≤ m ∧ m ≤ 64 := by
      rw [hb.2.2.1]
      have := List.countP_le_length (p := fun g : Gram => decide (g.words = [c])) (l := n.grams)
      unfold many
      omega
    have hl2 : n.seen.length < 1000000 := by rw [hb.2.2.2, List.length_map]; omega
    rcases ht with ht | ht | ht
    · have sc := p06_send n ⟨1, [w]⟩ (by omega) hl2 (by omega)
      by_cases hfull : n.room ≤ (n.grams.length : Int)
      · rw [show sendN n ⟨1, [w]⟩ = (n, 10) by simp [sendN, hfull]] at sc
        have rc := p06_right n
        rw [hb.1] at rc
        simp only [eNet, eGram, eGrams, eRows, eWords, List.map_cons, List.map_nil, eWord, rB] at sc rc
        repeat' (first
    | (refine hC ?_ ?_ ?_ ?_ ?_
       rotate_left
       · rfl
       · simp only [go_sem, ↓reduceIte, reduceCtorEq, Nat.reduceLT, Nat.reduceEqDiff, Nat.reduceBEq, Nat.reduceAdd, Nat.reduceSub, Nat.reduceMul, Nat.reduceLeDiff, Int.reduceLE, Int.reduceNeg, Int.reduceEq, Int.toNat_zero, hx, hlt, eByte.eq_1 d, hw, hw0, w2, hww, hbq, hb0, b2, hwb, hb8, ha, a0, a1, ht, hs]
       · simp only [go_sem, ↓reduceIte, reduceCtorEq, Nat.reduceLT, Nat.reduceEqDiff, Nat.reduceBEq, Nat.reduceAdd, Nat.reduceSub, Nat.reduceMul, Nat.reduceLeDiff, Int.reduceLE, Int.reduceNeg, Int.reduceEq, Int.toNat_zero, hx, hlt, eByte.eq_1 d, hw, hw0, w2, hww, hbq, hb0, b2, hwb, hb8, ha, a0, a1, ht, hs]
         first | exact sc | exact ACalls.args (sc) (by repeat' (first | exact trivial | apply And.intro | exact .inl ⟨rfl, rfl⟩ | exact .inr rfl))
       simp only [go_sem, ↓reduceIte, reduceCtorEq, Nat.reduceLT, Nat.reduceEqDiff, Nat.reduceBEq, Nat.reduceAdd, Nat.reduceSub, Nat.reduceMul, Nat.reduceLeDiff, Int.reduceLE, Int.reduceNeg, Int.reduceEq, Int.toNat_zero, hx, hlt, eByte.eq_1 d, hw, hw0, w2, hww, hbq, hb0, b2, hwb, hb8, ha, a0, a1, ht, hs])
    | (refine hC ?_ ?_ ?_ ?_ ?_
       rotate_left
       · rfl
       · simp only [go_sem, ↓reduceIte, reduceCtorEq, Nat.reduceLT, Nat.reduceEqDiff, Nat.reduceBEq, Nat.reduceAdd, Nat.reduceSub, Nat.reduceMul, Nat.reduceLeDiff, Int.reduceLE, Int.reduceNeg, Int.reduceEq, Int.toNat_zero, hx, hlt, eByte.eq_1 d, hw, hw0, w2, hww, hbq, hb0, b2, hwb, hb8, ha, a0, a1, ht, hs]
       · simp only [go_sem, ↓reduceIte, reduceCtorEq, Nat.reduceLT, Nat.reduceEqDiff, Nat.reduceBEq, Nat.reduceAdd, Nat.reduceSub, Nat.reduceMul, Nat.reduceLeDiff, Int.reduceLE, Int.reduceNeg, Int.reduceEq, Int.toNat_zero, hx, hlt, eByte.eq_1 d, hw, hw0, w2, hww, hbq, hb0, b2, hwb, hb8, ha, a0, a1, ht, hs]
         first | exact rc | exact ACalls.args (rc) (by repeat' (first | exact trivial | apply And.intro | exact .inl ⟨rfl, rfl⟩ | exact .inr rfl))
       simp only [go_sem, ↓reduceIte, reduceCtorEq, Nat.reduceLT, Nat.reduceEqDiff, Nat.reduceBEq, Nat.reduceAdd, Nat.reduceSub, Nat.reduceMul, Nat.reduceLeDiff, Int.reduceLE, Int.reduceNeg, Int.reduceEq, Int.toNat_zero, hx, hlt, eByte.eq_1 d, hw, hw0, w2, hww, hbq, hb0, b2, hwb, hb8, ha, a0, a1, ht, hs])
    | (refine hK _ _ ?_; clear hK hC; clear K C)
    | (refine hK _ _ rfl ?_; clear hK hC; clear K C)
    | (refine AW.seqR fun K C hK hC => ?_; simp only [go_sem, ↓reduceIte, reduceCtorEq, Nat.reduceLT, Nat.reduceEqDiff, Nat.reduceBEq, Nat.reduceAdd, Nat.reduceSub, Nat.reduceMul, Nat.reduceLeDiff, Int.reduceLE, Int.reduceNeg, Int.reduceEq, Int.toNat_zero, hx, hlt, eByte.eq_1 d, hw, hw0, w2, hww, hbq, hb0, b2, hwb, hb8, ha, a0, a1, ht, hs])
    | (refine AW.seqD rfl fun K C hK hC => ?_; simp only [go_sem, ↓reduceIte, reduceCtorEq, Nat.reduceLT, Nat.reduceEqDiff, Nat.reduceBEq, Nat.reduceAdd, Nat.reduceSub, Nat.reduceMul, Nat.reduceLeDiff, Int.reduceLE, Int.reduceNeg, Int.reduceEq, Int.toNat_zero, hx, hlt, eByte.eq_1 d, hw, hw0, w2, hww, hbq, hb0, b2, hwb, hb8, ha, a0, a1, ht, hs])
    | (refine AW.reg fun K C hK hC => ?_; simp only [go_sem, ↓reduceIte, reduceCtorEq, Nat.reduceLT, Nat.reduceEqDiff, Nat.reduceBEq, Nat.reduceAdd, Nat.reduceSub, Nat.reduceMul, Nat.reduceLeDiff, Int.reduceLE, Int.reduceNeg, Int.reduceEq, Int.toNat_zero, hx, hlt, eByte.eq_1 d, hw, hw0, w2, hww, hbq, hb0, b2, hwb, hb8, ha, a0, a1, ht, hs])
    | refine AW.seqS ?_
    | (refine AW.ret ?_; simp only [go_sem, ↓reduceIte, reduceCtorEq, Nat.reduceLT, Nat.reduceEqDiff, Nat.reduceBEq, Nat.reduceAdd, Nat.reduceSub, Nat.reduceMul, Nat.reduceLeDiff, Int.reduceLE, Int.reduceNeg, Int.reduceEq, Int.toNat_zero, hx, hlt, eByte.eq_1 d, hw, hw0, w2, hww, hbq, hb0, b2, hwb, hb8, ha, a0, a1, ht, hs])
    | (refine AW.cond rfl (fun h => ?_) (fun h => ?_) <;> (try simp only [decide_eq_true_eq, decide_eq_false_iff_not, bne_iff_ne, beq_iff_eq, bne_eq_false_iff_eq, beq_eq_false_iff_ne, ne_eq, ge_iff_le, gt_iff_lt, Bool.not_eq_true, Bool.not_eq_false, Bool.not_not, Bool.not_true, Bool.not_false, Int.not_le, Int.not_lt, not_true_eq_false, not_false_eq_true, reduceCtorEq, Bool.false_eq_true, Bool.not_eq_true', Bool.not_eq_false'] at h) <;> first | (exfalso; omega) | skip)
    | refine AW.skip ?_
    | refine AW.seq ?_
    | refine AW.block ?_
    | (refine AW.exit ?_; simp only [go_sem, ↓reduceIte, reduceCtorEq, Nat.reduceLT, Nat.reduceEqDiff, Nat.reduceBEq, Nat.reduceAdd, Nat.reduceSub, Nat.reduceMul, Nat.reduceLeDiff, Int.reduceLE, Int.reduceNeg, Int.reduceEq, Int.toNat_zero, hx, hlt, eByte.eq_1 d, hw, hw0, w2, hww, hbq, hb0, b2, hwb, hb8, ha, a0, a1, ht, hs])
    | (refine ite_on (fun h => ?_) (fun h => ?_) <;> (try simp only [decide_eq_true_eq, decide_eq_false_iff_not, bne_iff_ne, beq_iff_eq, bne_eq_false_iff_eq, beq_eq_false_iff_ne, ne_eq, ge_iff_le, gt_iff_lt, Bool.not_eq_true, Bool.not_eq_false, Bool.not_not, Bool.not_true, Bool.not_false, Int.not_le, Int.not_lt, not_true_eq_false, not_false_eq_true, reduceCtorEq, Bool.false_eq_true, Bool.not_eq_true', Bool.not_eq_false'] at h) <;> first | (exfalso; omega) | skip)
    | rw [thenN]
    | rw [blockN]
    | refine And.intro ?_ ?_
    | refine lcons rfl ?_
    | exact lGram _
    | exact lSeen _
    | exact lWord _
    | exact lSealed _
    | exact lRun _
    | exact lPerson _
    | exact lEvent _
    | exact lLeak _
    | exact lNum _
    | exact lOprn _
    | omega)
        refine ⟨deeds.length - (k + 1), by omega, _, ⟨k + 1, n, m, sent, rfl, by omega, by omega, hb, rfl⟩, ?_⟩
        (refine ⟨rfl, ?_, ?_, ?_⟩ <;> repeat' (first | exact LeT.junk | exact LeM.none | exact LiveM.none | refine LeT.same ?_ ?_ ?_ | refine LeM.same ?_ ?_ | refine LiveM.upd ?_ ?_ | trivial | (simp only [go_sem, ↓reduceIte, reduceCtorEq, Nat.reduceLT, Nat.reduceEqDiff, Nat.reduceBEq, Nat.reduceAdd, Nat.reduceSub, Nat.reduceMul, Nat.reduceLeDiff, Int.reduceLE, Int.reduceNeg, Int.reduceEq]; done) | rfl))
      · have hb' := hb.send w hfull
        obtain ⟨n', hn', hS⟩ : ∃ n' : Net, n' = ⟨n.room, n.grams ++ [⟨1, [w]⟩], n.seen ++ [[w]]⟩ ∧ sendN n ⟨1, [w]⟩ = (n', 0) := ⟨_, rfl, by simp [sendN, hfull]⟩
        rw [← hn'] at hb'
        rw [hS] at sc
        have rc := p06_right n'
        rw [hb'.1] at rc
        simp only [eNet, eGram, eGrams, eRows, eWords, List.map_cons, List.map_nil, eWord, rB] at sc rc
        by_cases hwc2 : w = c
        · subst hwc2
          rw [if_pos rfl] at hb'
          have hsm := wrapI (x := m + 1) (by omega) (by omega)
          repeat' (first
    | (refine hC ?_ ?_ ?_ ?_ ?_
       rotate_left
       · rfl
       · simp only [go_sem, ↓reduceIte, reduceCtorEq, Nat.reduceLT, Nat.reduceEqDiff, Nat.reduceBEq, Nat.reduceAdd, Nat.reduceSub, Nat.reduceMul, Nat.reduceLeDiff, Int.reduceLE, Int.reduceNeg, Int.reduceEq, Int.toNat_zero, hx, hlt, eByte.eq_1 d, hw, hw0, w2, hww, hbq, hb0, b2, hwb, hb8, ha, a0, a1, ht, hs, hc, hsm]
       · simp only [go_sem, ↓reduceIte, reduceCtorEq, Nat.reduceLT, Nat.reduceEqDiff, Nat.reduceBEq, Nat.reduceAdd, Nat.reduceSub, Nat.reduceMul, Nat.reduceLeDiff, Int.reduceLE, Int.reduceNeg, Int.reduceEq, Int.toNat_zero, hx, hlt, eByte.eq_1 d, hw, hw0, w2, hww, hbq, hb0, b2, hwb, hb8, ha, a0, a1, ht, hs, hc, hsm]
         first | exact sc | exact ACalls.args (sc) (by repeat' (first | exact trivial | apply And.intro | exact .inl ⟨rfl, rfl⟩ | exact .inr rfl))
       simp only [go_sem, ↓reduceIte, reduceCtorEq, Nat.reduceLT, Nat.reduceEqDiff, Nat.reduceBEq, Nat.reduceAdd, Nat.reduceSub, Nat.reduceMul, Nat.reduceLeDiff, Int.reduceLE, Int.reduceNeg, Int.reduceEq, Int.toNat_zero, hx, hlt, eByte.eq_1 d, hw, hw0, w2, hww, hbq, hb0, b2, hwb, hb8, ha, a0, a1, ht, hs, hc, hsm])
    | (refine hC ?_ ?_ ?_ ?_ ?_
       rotate_left
       · rfl
       · simp only [go_sem, ↓reduceIte, reduceCtorEq, Nat.reduceLT, Nat.reduceEqDiff, Nat.reduceBEq, Nat.reduceAdd, Nat.reduceSub, Nat.reduceMul, Nat.reduceLeDiff, Int.reduceLE, Int.reduceNeg, Int.reduceEq, Int.toNat_zero, hx, hlt, eByte.eq_1 d, hw, hw0, w2, hww, hbq, hb0, b2, hwb, hb8, ha, a0, a1, ht, hs, hc, hsm]
       · simp only [go_sem, ↓reduceIte, reduceCtorEq, Nat.reduceLT, Nat.reduceEqDiff, Nat.reduceBEq, Nat.reduceAdd, Nat.reduceSub, Nat.reduceMul, Nat.reduceLeDiff, Int.reduceLE, Int.reduceNeg, Int.reduceEq, Int.toNat_zero, hx, hlt, eByte.eq_1 d, hw, hw0, w2, hww, hbq, hb0, b2, hwb, hb8, ha, a0, a1, ht, hs, hc, hsm]
         first | exact rc | exact ACalls.args (rc) (by repeat' (first | exact trivial | apply And.intro | exact .inl ⟨rfl, rfl⟩ | exact .inr rfl))
       simp only [go_sem, ↓reduceIte, reduceCtorEq, Nat.reduceLT, Nat.reduceEqDiff, Nat.reduceBEq, Nat.reduceAdd, Nat.reduceSub, Nat.reduceMul, Nat.reduceLeDiff, Int.reduceLE, Int.reduceNeg, Int.reduceEq, Int.toNat_zero, hx, hlt, eByte.eq_1 d, hw, hw0, w2, hww, hbq, hb0, b2, hwb, hb8, ha, a0, a1, ht, hs, hc, hsm])
    | (refine hK _ _ ?_; clear hK hC; clear K C)
    | (refine hK _ _ rfl ?_; clear hK hC; clear K C)
    | (refine AW.seqR fun K C hK hC => ?_; simp only [go_sem, ↓reduceIte, reduceCtorEq, Nat.reduceLT, Nat.reduceEqDiff, Nat.reduceBEq, Nat.reduceAdd, Nat.reduceSub, Nat.reduceMul, Nat.reduceLeDiff, Int.reduceLE, Int.reduceNeg, Int.reduceEq, Int.toNat_zero, hx, hlt, eByte.eq_1 d, hw, hw0, w2, hww, hbq, hb0, b2, hwb, hb8, ha, a0, a1, ht, hs, hc, hsm])
    | (refine AW.seqD rfl fun K C hK hC => ?_; simp only [go_sem, ↓reduceIte, reduceCtorEq, Nat.reduceLT, Nat.reduceEqDiff, Nat.reduceBEq, Nat.reduceAdd, Nat.reduceSub, Nat.reduceMul, Nat.reduceLeDiff, Int.reduceLE, Int.reduceNeg, Int.reduceEq, Int.toNat_zero, hx, hlt, eByte.eq_1 d, hw, hw0, w2, hww, hbq, hb0, b2, hwb, hb8, ha, a0, a1, ht, hs, hc, hsm])
    | (refine AW.reg fun K C hK hC => ?_; simp only [go_sem, ↓reduceIte, reduceCtorEq, Nat.reduceLT, Nat.reduceEqDiff, Nat.reduceBEq, Nat.reduceAdd, Nat.reduceSub, Nat.reduceMul, Nat.reduceLeDiff, Int.reduceLE, Int.reduceNeg, Int.reduceEq, Int.toNat_zero, hx, hlt, eByte.eq_1 d, hw, hw0, w2, hww, hbq, hb0, b2, hwb, hb8, ha, a0, a1, ht, hs, hc, hsm])
    | refine AW.seqS ?_
    | (refine AW.ret ?_; simp only [go_sem, ↓reduceIte, reduceCtorEq, Nat.reduceLT, Nat.reduceEqDiff, Nat.reduceBEq, Nat.reduceAdd, Nat.reduceSub, Nat.reduceMul, Nat.reduceLeDiff, Int.reduceLE, Int.reduceNeg, Int.reduceEq, Int.toNat_zero, hx, hlt, eByte.eq_1 d, hw, hw0, w2, hww, hbq, hb0, b2, hwb, hb8, ha, a0, a1, ht, hs, hc, hsm])
    | (refine AW.cond rfl (fun h => ?_) (fun h => ?_) <;> (try simp only [decide_eq_true_eq, decide_eq_false_iff_not, bne_iff_ne, beq_iff_eq, bne_eq_false_iff_eq, beq_eq_false_iff_ne, ne_eq, ge_iff_le, gt_iff_lt, Bool.not_eq_true, Bool.not_eq_false, Bool.not_not, Bool.not_true, Bool.not_false, Int.not_le, Int.not_lt, not_true_eq_false, not_false_eq_true, reduceCtorEq, Bool.false_eq_true, Bool.not_eq_true', Bool.not_eq_false'] at h) <;> first | (exfalso; omega) | skip)
    | refine AW.skip ?_
    | refine AW.seq ?_
    | refine AW.block ?_
    | (refine AW.exit ?_; simp only [go_sem, ↓reduceIte, reduceCtorEq, Nat.reduceLT, Nat.reduceEqDiff, Nat.reduceBEq, Nat.reduceAdd, Nat.reduceSub, Nat.reduceMul, Nat.reduceLeDiff, Int.reduceLE, Int.reduceNeg, Int.reduceEq, Int.toNat_zero, hx, hlt, eByte.eq_1 d, hw, hw0, w2, hww, hbq, hb0, b2, hwb, hb8, ha, a0, a1, ht, hs, hc, hsm])
    | (refine ite_on (fun h => ?_) (fun h => ?_) <;> (try simp only [decide_eq_true_eq, decide_eq_false_iff_not, bne_iff_ne, beq_iff_eq, bne_eq_false_iff_eq, beq_eq_false_iff_ne, ne_eq, ge_iff_le, gt_iff_lt, Bool.not_eq_true, Bool.not_eq_false, Bool.not_not, Bool.not_true, Bool.not_false, Int.not_le, Int.not_lt, not_true_eq_false, not_false_eq_true, reduceCtorEq, Bool.false_eq_true, Bool.not_eq_true', Bool.not_eq_false'] at h) <;> first | (exfalso; omega) | skip)
    | rw [thenN]
    | rw [blockN]
    | refine And.intro ?_ ?_
    | refine lcons rfl ?_
    | exact lGram _
    | exact lSeen _
    | exact lWord _
    | exact lSealed _
    | exact lRun _
    | exact lPerson _
    | exact lEvent _
    | exact lLeak _
    | exact lNum _
    | exact lOprn _
    | omega)
          refine ⟨deeds.length - (k + 1), by omega, _, ⟨k + 1, n', m + 1, sent ++ [w], rfl, by omega, by simp; omega, hb', rfl⟩, ?_⟩
          simp only [List.map_append, List.map_cons, List.map_nil, eWord, List.length_append, List.length_singleton]
          (refine ⟨rfl, ?_, ?_, ?_⟩ <;> repeat' (first | exact LeT.junk | exact LeM.none | exact LiveM.none | refine LeT.same ?_ ?_ ?_ | refine LeM.same ?_ ?_ | refine LiveM.upd ?_ ?_ | trivial | (simp only [go_sem, ↓reduceIte, reduceCtorEq, Nat.reduceLT, Nat.reduceEqDiff, Nat.reduceBEq, Nat.reduceAdd, Nat.reduceSub, Nat.reduceMul, Nat.reduceLeDiff, Int.reduceLE, Int.reduceNeg, Int.reduceEq]; done) | rfl))
        · repeat' (first
    | (refine hC ?_ ?_ ?_ ?_ ?_
       rotate_left
       · rfl
       · simp only [go_sem, ↓reduceIte, reduceCtorEq, Nat.reduceLT, Nat.reduceEqDiff, Nat.reduceBEq, Nat.reduceAdd, Nat.reduceSub, Nat.reduceMul, Nat.reduceLeDiff, Int.reduceLE, Int.reduceNeg, Int.reduceEq, Int.toNat_zero, hx, hlt, eByte.eq_1 d, hw, hw0, w2, hww, hbq, hb0, b2, hwb, hb8, ha, a0, a1, ht, hs, hc, hc0, c2, hwc, hwc2]
       · simp only [go_sem, ↓reduceIte, reduceCtorEq, Nat.reduceLT, Nat.reduceEqDiff, Nat.reduceBEq, Nat.reduceAdd, Nat.reduceSub, Nat.reduceMul, Nat.reduceLeDiff, Int.reduceLE, Int.reduceNeg, Int.reduceEq, Int.toNat_zero, hx, hlt, eByte.eq_1 d, hw, hw0, w2, hww, hbq, hb0, b2, hwb, hb8, ha, a0, a1, ht, hs, hc, hc0, c2, hwc, hwc2]
         first | exact sc | exact ACalls.args (sc) (by repeat' (first | exact trivial | apply And.intro | exact .inl ⟨rfl, rfl⟩ | exact .inr rfl))
       simp only [go_sem, ↓reduceIte, reduceCtorEq, Nat.reduceLT, Nat.reduceEqDiff, Nat.reduceBEq, Nat.reduceAdd, Nat.reduceSub, Nat.reduceMul, Nat.reduceLeDiff, Int.reduceLE, Int.reduceNeg, Int.reduceEq, Int.toNat_zero, hx, hlt, eByte.eq_1 d, hw, hw0, w2, hww, hbq, hb0, b2, hwb, hb8, ha, a0, a1, ht, hs, hc, hc0, c2, hwc, hwc2])
    | (refine hC ?_ ?_ ?_ ?_ ?_
       rotate_left
       · rfl
       · simp only [go_sem, ↓reduceIte, reduceCtorEq, Nat.reduceLT, Nat.reduceEqDiff, Nat.reduceBEq, Nat.reduceAdd, Nat.reduceSub, Nat.reduceMul, Nat.reduceLeDiff, Int.reduceLE, Int.reduceNeg, Int.reduceEq, Int.toNat_zero, hx, hlt, eByte.eq_1 d, hw, hw0, w2, hww, hbq, hb0, b2, hwb, hb8, ha, a0, a1, ht, hs, hc, hc0, c2, hwc, hwc2]
       · simp only [go_sem, ↓reduceIte, reduceCtorEq, Nat.reduceLT, Nat.reduceEqDiff, Nat.reduceBEq, Nat.reduceAdd, Nat.reduceSub, Nat.reduceMul, Nat.reduceLeDiff, Int.reduceLE, Int.reduceNeg, Int.reduceEq, Int.toNat_zero, hx, hlt, eByte.eq_1 d, hw, hw0, w2, hww, hbq, hb0, b2, hwb, hb8, ha, a0, a1, ht, hs, hc, hc0, c2, hwc, hwc2]
         first | exact rc | exact ACalls.args (rc) (by repeat' (first | exact trivial | apply And.intro | exact .inl ⟨rfl, rfl⟩ | exact .inr rfl))
       simp only [go_sem, ↓reduceIte, reduceCtorEq, Nat.reduceLT, Nat.reduceEqDiff, Nat.reduceBEq, Nat.reduceAdd, Nat.reduceSub, Nat.reduceMul, Nat.reduceLeDiff, Int.reduceLE, Int.reduceNeg, Int.reduceEq, Int.toNat_zero, hx, hlt, eByte.eq_1 d, hw, hw0, w2, hww, hbq, hb0, b2, hwb, hb8, ha, a0, a1, ht, hs, hc, hc0, c2, hwc, hwc2])
    | (refine hK _ _ ?_; clear hK hC; clear K C)
    | (refine hK _ _ rfl ?_; clear hK hC; clear K C)
    | (refine AW.seqR fun K C hK hC => ?_; simp only [go_sem, ↓reduceIte, reduceCtorEq, Nat.reduceLT, Nat.reduceEqDiff, Nat.reduceBEq, Nat.reduceAdd, Nat.reduceSub, Nat.reduceMul, Nat.reduceLeDiff, Int.reduceLE, Int.reduceNeg, Int.reduceEq, Int.toNat_zero, hx, hlt, eByte.eq_1 d, hw, hw0, w2, hww, hbq, hb0, b2, hwb, hb8, ha, a0, a1, ht, hs, hc, hc0, c2, hwc, hwc2])
    | (refine AW.seqD rfl fun K C hK hC => ?_; simp only [go_sem, ↓reduceIte, reduceCtorEq, Nat.reduceLT, Nat.reduceEqDiff, Nat.reduceBEq, Nat.reduceAdd, Nat.reduceSub, Nat.reduceMul, Nat.reduceLeDiff, Int.reduceLE, Int.reduceNeg, Int.reduceEq, Int.toNat_zero, hx, hlt, eByte.eq_1 d, hw, hw0, w2, hww, hbq, hb0, b2, hwb, hb8, ha, a0, a1, ht, hs, hc, hc0, c2, hwc, hwc2])
    | (refine AW.reg fun K C hK hC => ?_; simp only [go_sem, ↓reduceIte, reduceCtorEq, Nat.reduceLT, Nat.reduceEqDiff, Nat.reduceBEq, Nat.reduceAdd, Nat.reduceSub, Nat.reduceMul, Nat.reduceLeDiff, Int.reduceLE, Int.reduceNeg, Int.reduceEq, Int.toNat_zero, hx, hlt, eByte.eq_1 d, hw, hw0, w2, hww, hbq, hb0, b2, hwb, hb8, ha, a0, a1, ht, hs, hc, hc0, c2, hwc, hwc2])
    | refine AW.seqS ?_
    | (refine AW.ret ?_; simp only [go_sem, ↓reduceIte, reduceCtorEq, Nat.reduceLT, Nat.reduceEqDiff, Nat.reduceBEq, Nat.reduceAdd, Nat.reduceSub, Nat.reduceMul, Nat.reduceLeDiff, Int.reduceLE, Int.reduceNeg, Int.reduceEq, Int.toNat_zero, hx, hlt, eByte.eq_1 d, hw, hw0, w2, hww, hbq, hb0, b2, hwb, hb8, ha, a0, a1, ht, hs, hc, hc0, c2, hwc, hwc2])
    | (refine AW.cond rfl (fun h => ?_) (fun h => ?_) <;> (try simp only [decide_eq_true_eq, decide_eq_false_iff_not, bne_iff_ne, beq_iff_eq, bne_eq_false_iff_eq, beq_eq_false_iff_ne, ne_eq, ge_iff_le, gt_iff_lt, Bool.not_eq_true, Bool.not_eq_false, Bool.not_not, Bool.not_true, Bool.not_false, Int.not_le, Int.not_lt, not_true_eq_false, not_false_eq_true, reduceCtorEq, Bool.false_eq_true, Bool.not_eq_true', Bool.not_eq_false'] at h) <;> first | (exfalso; omega) | skip)
    | refine AW.skip ?_
    | refine AW.seq ?_
    | refine AW.block ?_
    | (refine AW.exit ?_; simp only [go_sem, ↓reduceIte, reduceCtorEq, Nat.reduceLT, Nat.reduceEqDiff, Nat.reduceBEq, Nat.reduceAdd, Nat.reduceSub, Nat.reduceMul, Nat.reduceLeDiff, Int.reduceLE, Int.reduceNeg, Int.reduceEq, Int.toNat_zero, hx, hlt, eByte.eq_1 d, hw, hw0, w2, hww, hbq, hb0, b2, hwb, hb8, ha, a0, a1, ht, hs, hc, hc0, c2, hwc, hwc2])
    | (refine ite_on (fun h => ?_) (fun h => ?_) <;> (try simp only [decide_eq_true_eq, decide_eq_false_iff_not, bne_iff_ne, beq_iff_eq, bne_eq_false_iff_eq, beq_eq_false_iff_ne, ne_eq, ge_iff_le, gt_iff_lt, Bool.not_eq_true, Bool.not_eq_false, Bool.not_not, Bool.not_true, Bool.not_false, Int.not_le, Int.not_lt, not_true_eq_false, not_false_eq_true, reduceCtorEq, Bool.false_eq_true, Bool.not_eq_true', Bool.not_eq_false'] at h) <;> first | (exfalso; omega) | skip)
    | rw [thenN]
    | rw [blockN]
    | refine And.intro ?_ ?_
    | refine lcons rfl ?_
    | exact lGram _
    | exact lSeen _
    | exact lWord _
    | exact lSealed _
    | exact lRun _
    | exact lPerson _
    | exact lEvent _
    | exact lLeak _
    | exact lNum _
    | exact lOprn _
    | omega)
          rw [if_neg hwc2] at hb'
          refine ⟨deeds.length - (k + 1), by omega, _, ⟨k + 1, n', m, sent ++ [w], rfl, by omega, by simp; omega, hb', rfl⟩, ?_⟩
          simp only [List.map_append, List.map_cons, List.map_nil, eWord, List.length_append, List.length_singleton]
          (refine ⟨rfl, ?_, ?_, ?_⟩ <;> repeat' (first | exact LeT.junk | exact LeM.none | exact LiveM.none | refine LeT.same ?_ ?_ ?_ | refine LeM.same ?_ ?_ | refine LiveM.upd ?_ ?_ | trivial | (simp only [go_sem, ↓reduceIte, reduceCtorEq, Nat.reduceLT, Nat.reduceEqDiff, Nat.reduceBEq, Nat.reduceAdd, Nat.reduceSub, Nat.reduceMul, Nat.reduceLeDiff, Int.reduceLE, Int.reduceNeg, Int.reduceEq]; done) | rfl))
    · have tc := p06_take n (a : Int) (by omega) hl2
      by_cases hat : a < n.grams.length
      · obtain ⟨x, hg⟩ : ∃ x, n.grams[a]? = some x := ⟨_, List.getElem?_eq_getElem hat⟩
        obtain ⟨v, hv⟩ := hb.2.1 x (List.mem_of_getElem? hg)
        have hb' := hb.take hg hv
        obtain ⟨n', hn', hS⟩ : ∃ n' : Net, n' = ⟨n.room, n.grams.eraseIdx a, n.seen⟩ ∧ takeN n (a : Int) = (n', x, 0) := ⟨_, rfl, by simp [takeN, hg] <;> omega⟩
        have hle : (n'.grams.length : Int) = (n.grams.length : Int) - 1 := by rw [hn']; simp only [List.length_eraseIdx, hat, if_true]; omega
        rw [← hn'] at hb'
        rw [hS] at tc
        have rc := p06_right n'
        rw [hb'.1] at rc
        obtain ⟨xt, xw⟩ := x
        obtain rfl : xw = [v] := hv
        simp only [eNet, eGram, eGrams, eRows, eWords, List.map_cons, List.map_nil, eWord, rB] at tc rc
        have hsl := wrapI (x := (n.grams.length : Int) - 1) (by omega) (by omega)
        by_cases hvc : v = c
        · subst hvc
          rw [if_pos rfl] at hb'
          have hsm := wrapI (x := m - 1) (by omega) (by omega)
          repeat' (first
    | (refine hC ?_ ?_ ?_ ?_ ?_
       rotate_left
       · rfl
       · simp only [go_sem, ↓reduceIte, reduceCtorEq, Nat.reduceLT, Nat.reduceEqDiff, Nat.reduceBEq, Nat.reduceAdd, Nat.reduceSub, Nat.reduceMul, Nat.reduceLeDiff, Int.reduceLE, Int.reduceNeg, Int.reduceEq, Int.toNat_zero, hx, hlt, eByte.eq_1 d, hw, hw0, w2, hww, hbq, hb0, b2, hwb, hb8, ha, a0, a1, ht, hs, hc, hc0, c2, hwc, hsm, hsl, hle]
       · simp only [go_sem, ↓reduceIte, reduceCtorEq, Nat.reduceLT, Nat.reduceEqDiff, Nat.reduceBEq, Nat.reduceAdd, Nat.reduceSub, Nat.reduceMul, Nat.reduceLeDiff, Int.reduceLE, Int.reduceNeg, Int.reduceEq, Int.toNat_zero, hx, hlt, eByte.eq_1 d, hw, hw0, w2, hww, hbq, hb0, b2, hwb, hb8, ha, a0, a1, ht, hs, hc, hc0, c2, hwc, hsm, hsl, hle]
         first | exact tc | exact ACalls.args (tc) (by repeat' (first | exact trivial | apply And.intro | exact .inl ⟨rfl, rfl⟩ | exact .inr rfl))
       simp only [go_sem, ↓reduceIte, reduceCtorEq, Nat.reduceLT, Nat.reduceEqDiff, Nat.reduceBEq, Nat.reduceAdd, Nat.reduceSub, Nat.reduceMul, Nat.reduceLeDiff, Int.reduceLE, Int.reduceNeg, Int.reduceEq, Int.toNat_zero, hx, hlt, eByte.eq_1 d, hw, hw0, w2, hww, hbq, hb0, b2, hwb, hb8, ha, a0, a1, ht, hs, hc, hc0, c2, hwc, hsm, hsl, hle])
    | (refine hC ?_ ?_ ?_ ?_ ?_
       rotate_left
       · rfl
       · simp only [go_sem, ↓reduceIte, reduceCtorEq, Nat.reduceLT, Nat.reduceEqDiff, Nat.reduceBEq, Nat.reduceAdd, Nat.reduceSub, Nat.reduceMul, Nat.reduceLeDiff, Int.reduceLE, Int.reduceNeg, Int.reduceEq, Int.toNat_zero, hx, hlt, eByte.eq_1 d, hw, hw0, w2, hww, hbq, hb0, b2, hwb, hb8, ha, a0, a1, ht, hs, hc, hc0, c2, hwc, hsm, hsl, hle]
       · simp only [go_sem, ↓reduceIte, reduceCtorEq, Nat.reduceLT, Nat.reduceEqDiff, Nat.reduceBEq, Nat.reduceAdd, Nat.reduceSub, Nat.reduceMul, Nat.reduceLeDiff, Int.reduceLE, Int.reduceNeg, Int.reduceEq, Int.toNat_zero, hx, hlt, eByte.eq_1 d, hw, hw0, w2, hww, hbq, hb0, b2, hwb, hb8, ha, a0, a1, ht, hs, hc, hc0, c2, hwc, hsm, hsl, hle]
         first | exact rc | exact ACalls.args (rc) (by repeat' (first | exact trivial | apply And.intro | exact .inl ⟨rfl, rfl⟩ | exact .inr rfl))
       simp only [go_sem, ↓reduceIte, reduceCtorEq, Nat.reduceLT, Nat.reduceEqDiff, Nat.reduceBEq, Nat.reduceAdd, Nat.reduceSub, Nat.reduceMul, Nat.reduceLeDiff, Int.reduceLE, Int.reduceNeg, Int.reduceEq, Int.toNat_zero, hx, hlt, eByte.eq_1 d, hw, hw0, w2, hww, hbq, hb0, b2, hwb, hb8, ha, a0, a1, ht, hs, hc, hc0, c2, hwc, hsm, hsl, hle])
    | (refine hK _ _ ?_; clear hK hC; clear K C)
    | (refine hK _ _ rfl ?_; clear hK hC; clear K C)
    | (refine AW.seqR fun K C hK hC => ?_; simp only [go_sem, ↓reduceIte, reduceCtorEq, Nat.reduceLT, Nat.reduceEqDiff, Nat.reduceBEq, Nat.reduceAdd, Nat.reduceSub, Nat.reduceMul, Nat.reduceLeDiff, Int.reduceLE, Int.reduceNeg, Int.reduceEq, Int.toNat_zero, hx, hlt, eByte.eq_1 d, hw, hw0, w2, hww, hbq, hb0, b2, hwb, hb8, ha, a0, a1, ht, hs, hc, hc0, c2, hwc, hsm, hsl, hle])
    | (refine AW.seqD rfl fun K C hK hC => ?_; simp only [go_sem, ↓reduceIte, reduceCtorEq, Nat.reduceLT, Nat.reduceEqDiff, Nat.reduceBEq, Nat.reduceAdd, Nat.reduceSub, Nat.reduceMul, Nat.reduceLeDiff, Int.reduceLE, Int.reduceNeg, Int.reduceEq, Int.toNat_zero, hx, hlt, eByte.eq_1 d, hw, hw0, w2, hww, hbq, hb0, b2, hwb, hb8, ha, a0, a1, ht, hs, hc, hc0, c2, hwc, hsm, hsl, hle])
    | (refine AW.reg fun K C hK hC => ?_; simp only [go_sem, ↓reduceIte, reduceCtorEq, Nat.reduceLT, Nat.reduceEqDiff, Nat.reduceBEq, Nat.reduceAdd, Nat.reduceSub, Nat.reduceMul, Nat.reduceLeDiff, Int.reduceLE, Int.reduceNeg, Int.reduceEq, Int.toNat_zero, hx, hlt, eByte.eq_1 d, hw, hw0, w2, hww, hbq, hb0, b2, hwb, hb8, ha, a0, a1, ht, hs, hc, hc0, c2, hwc, hsm, hsl, hle])
    | refine AW.seqS ?_
    | (refine AW.ret ?_; simp only [go_sem, ↓reduceIte, reduceCtorEq, Nat.reduceLT, Nat.reduceEqDiff, Nat.reduceBEq, Nat.reduceAdd, Nat.reduceSub, Nat.reduceMul, Nat.reduceLeDiff, Int.reduceLE, Int.reduceNeg, Int.reduceEq, Int.toNat_zero, hx, hlt, eByte.eq_1 d, hw, hw0, w2, hww, hbq, hb0, b2, hwb, hb8, ha, a0, a1, ht, hs, hc, hc0, c2, hwc, hsm, hsl, hle])
    | (refine AW.cond rfl (fun h => ?_) (fun h => ?_) <;> (try simp only [decide_eq_true_eq, decide_eq_false_iff_not, bne_iff_ne, beq_iff_eq, bne_eq_false_iff_eq, beq_eq_false_iff_ne, ne_eq, ge_iff_le, gt_iff_lt, Bool.not_eq_true, Bool.not_eq_false, Bool.not_not, Bool.not_true, Bool.not_false, Int.not_le, Int.not_lt, not_true_eq_false, not_false_eq_true, reduceCtorEq, Bool.false_eq_true, Bool.not_eq_true', Bool.not_eq_false'] at h) <;> first | (exfalso; omega) | skip)
    | refine AW.skip ?_
    | refine AW.seq ?_
    | refine AW.block ?_
    | (refine AW.exit ?_; simp only [go_sem, ↓reduceIte, reduceCtorEq, Nat.reduceLT, Nat.reduceEqDiff, Nat.reduceBEq, Nat.reduceAdd, Nat.reduceSub, Nat.reduceMul, Nat.reduceLeDiff, Int.reduceLE, Int.reduceNeg, Int.reduceEq, Int.toNat_zero, hx, hlt, eByte.eq_1 d, hw, hw0, w2, hww, hbq, hb0, b2, hwb, hb8, ha, a0, a1, ht, hs, hc, hc0, c2, hwc, hsm, hsl, hle])
    | (refine ite_on (fun h => ?_) (fun h => ?_) <;> (try simp only [decide_eq_true_eq, decide_eq_false_iff_not, bne_iff_ne, beq_iff_eq, bne_eq_false_iff_eq, beq_eq_false_iff_ne, ne_eq, ge_iff_le, gt_iff_lt, Bool.not_eq_true, Bool.not_eq_false, Bool.not_not, Bool.not_true, Bool.not_false, Int.not_le, Int.not_lt, not_true_eq_false, not_false_eq_true, reduceCtorEq, Bool.false_eq_true, Bool.not_eq_true', Bool.not_eq_false'] at h) <;> first | (exfalso; omega) | skip)
    | rw [thenN]
    | rw [blockN]
    | refine And.intro ?_ ?_
    | refine lcons rfl ?_
    | exact lGram _
    | exact lSeen _
    | exact lWord _
    | exact lSealed _
    | exact lRun _
    | exact lPerson _
    | exact lEvent _
    | exact lLeak _
    | exact lNum _
    | exact lOprn _
    | omega)
          refine ⟨deeds.length - (k + 1), by omega, _, ⟨k + 1, n', m - 1, sent, rfl, by omega, by omega, hb', rfl⟩, ?_⟩
          (refine ⟨rfl, ?_, ?_, ?_⟩ <;> repeat' (first | exact LeT.junk | exact LeM.none | exact LiveM.none | refine LeT.same ?_ ?_ ?_ | refine LeM.same ?_ ?_ | refine LiveM.upd ?_ ?_ | trivial | (simp only [go_sem, ↓reduceIte, reduceCtorEq, Nat.reduceLT, Nat.reduceEqDiff, Nat.reduceBEq, Nat.reduceAdd, Nat.reduceSub, Nat.reduceMul, Nat.reduceLeDiff, Int.reduceLE, Int.reduceNeg, Int.reduceEq]; done) | rfl))
        · rw [if_neg hvc] at hb'
          repeat' (first
    | (refine hC ?_ ?_ ?_ ?_ ?_
       rotate_left
       · rfl
       · simp only [go_sem, ↓reduceIte, reduceCtorEq, Nat.reduceLT, Nat.reduceEqDiff, Nat.reduceBEq, Nat.reduceAdd, Nat.reduceSub, Nat.reduceMul, Nat.reduceLeDiff, Int.reduceLE, Int.reduceNeg, Int.reduceEq, Int.toNat_zero, hx, hlt, eByte.eq_1 d, hw, hw0, w2, hww, hbq, hb0, b2, hwb, hb8, ha, a0, a1, ht, hs, hc, hc0, c2, hwc, hvc, hsl, hle]
       · simp only [go_sem, ↓reduceIte, reduceCtorEq, Nat.reduceLT, Nat.reduceEqDiff, Nat.reduceBEq, Nat.reduceAdd, Nat.reduceSub, Nat.reduceMul, Nat.reduceLeDiff, Int.reduceLE, Int.reduceNeg, Int.reduceEq, Int.toNat_zero, hx, hlt, eByte.eq_1 d, hw, hw0, w2, hww, hbq, hb0, b2, hwb, hb8, ha, a0, a1, ht, hs, hc, hc0, c2, hwc, hvc, hsl, hle]
         first | exact tc | exact ACalls.args (tc) (by repeat' (first | exact trivial | apply And.intro | exact .inl ⟨rfl, rfl⟩ | exact .inr rfl))
       simp only [go_sem, ↓reduceIte, reduceCtorEq, Nat.reduceLT, Nat.reduceEqDiff, Nat.reduceBEq, Nat.reduceAdd, Nat.reduceSub, Nat.reduceMul, Nat.reduceLeDiff, Int.reduceLE, Int.reduceNeg, Int.reduceEq, Int.toNat_zero, hx, hlt, eByte.eq_1 d, hw, hw0, w2, hww, hbq, hb0, b2, hwb, hb8, ha, a0, a1, ht, hs, hc, hc0, c2, hwc, hvc, hsl, hle])
    | (refine hC ?_ ?_ ?_ ?_ ?_
       rotate_left
       · rfl
       · simp only [go_sem, ↓reduceIte, reduceCtorEq, Nat.reduceLT, Nat.reduceEqDiff, Nat.reduceBEq, Nat.reduceAdd, Nat.reduceSub, Nat.reduceMul, Nat.reduceLeDiff, Int.reduceLE, Int.reduceNeg, Int.reduceEq, Int.toNat_zero, hx, hlt, eByte.eq_1 d, hw, hw0, w2, hww, hbq, hb0, b2, hwb, hb8, ha, a0, a1, ht, hs, hc, hc0, c2, hwc, hvc, hsl, hle]
       · simp only [go_sem, ↓reduceIte, reduceCtorEq, Nat.reduceLT, Nat.reduceEqDiff, Nat.reduceBEq, Nat.reduceAdd, Nat.reduceSub, Nat.reduceMul, Nat.reduceLeDiff, Int.reduceLE, Int.reduceNeg, Int.reduceEq, Int.toNat_zero, hx, hlt, eByte.eq_1 d, hw, hw0, w2, hww, hbq, hb0, b2, hwb, hb8, ha, a0, a1, ht, hs, hc, hc0, c2, hwc, hvc, hsl, hle]
         first | exact rc | exact ACalls.args (rc) (by repeat' (first | exact trivial | apply And.intro | exact .inl ⟨rfl, rfl⟩ | exact .inr rfl))
       simp only [go_sem, ↓reduceIte, reduceCtorEq, Nat.reduceLT, Nat.reduceEqDiff, Nat.reduceBEq, Nat.reduceAdd, Nat.reduceSub, Nat.reduceMul, Nat.reduceLeDiff, Int.reduceLE, Int.reduceNeg, Int.reduceEq, Int.toNat_zero, hx, hlt, eByte.eq_1 d, hw, hw0, w2, hww, hbq, hb0, b2, hwb, hb8, ha, a0, a1, ht, hs, hc, hc0, c2, hwc, hvc, hsl, hle])
    | (refine hK _ _ ?_; clear hK hC; clear K C)
    | (refine hK _ _ rfl ?_; clear hK hC; clear K C)
    | (refine AW.seqR fun K C hK hC => ?_; simp only [go_sem, ↓reduceIte, reduceCtorEq, Nat.reduceLT, Nat.reduceEqDiff, Nat.reduceBEq, Nat.reduceAdd, Nat.reduceSub, Nat.reduceMul, Nat.reduceLeDiff, Int.reduceLE, Int.reduceNeg, Int.reduceEq, Int.toNat_zero, hx, hlt, eByte.eq_1 d, hw, hw0, w2, hww, hbq, hb0, b2, hwb, hb8, ha, a0, a1, ht, hs, hc, hc0, c2, hwc, hvc, hsl, hle])
    | (refine AW.seqD rfl fun K C hK hC => ?_; simp only [go_sem, ↓reduceIte, reduceCtorEq, Nat.reduceLT, Nat.reduceEqDiff, Nat.reduceBEq, Nat.reduceAdd, Nat.reduceSub, Nat.reduceMul, Nat.reduceLeDiff, Int.reduceLE, Int.reduceNeg, Int.reduceEq, Int.toNat_zero, hx, hlt, eByte.eq_1 d, hw, hw0, w2, hww, hbq, hb0, b2, hwb, hb8, ha, a0, a1, ht, hs, hc, hc0, c2, hwc, hvc, hsl, hle])
    | (refine AW.reg fun K C hK hC => ?_; simp only [go_sem, ↓reduceIte, reduceCtorEq, Nat.reduceLT, Nat.reduceEqDiff, Nat.reduceBEq, Nat.reduceAdd, Nat.reduceSub, Nat.reduceMul, Nat.reduceLeDiff, Int.reduceLE, Int.reduceNeg, Int.reduceEq, Int.toNat_zero, hx, hlt, eByte.eq_1 d, hw, hw0, w2, hww, hbq, hb0, b2, hwb, hb8, ha, a0, a1, ht, hs, hc, hc0, c2, hwc, hvc, hsl, hle])
    | refine AW.seqS ?_
    | (refine AW.ret ?_; simp only [go_sem, ↓reduceIte, reduceCtorEq, Nat.reduceLT, Nat.reduceEqDiff, Nat.reduceBEq, Nat.reduceAdd, Nat.reduceSub, Nat.reduceMul, Nat.reduceLeDiff, Int.reduceLE, Int.reduceNeg, Int.reduceEq, Int.toNat_zero, hx, hlt, eByte.eq_1 d, hw, hw0, w2, hww, hbq, hb0, b2, hwb, hb8, ha, a0, a1, ht, hs, hc, hc0, c2, hwc, hvc, hsl, hle])
    | (refine AW.cond rfl (fun h => ?_) (fun h => ?_) <;> (try simp only [decide_eq_true_eq, decide_eq_false_iff_not, bne_iff_ne, beq_iff_eq, bne_eq_false_iff_eq, beq_eq_false_iff_ne, ne_eq, ge_iff_le, gt_iff_lt, Bool.not_eq_true, Bool.not_eq_false, Bool.not_not, Bool.not_true, Bool.not_false, Int.not_le, Int.not_lt, not_true_eq_false, not_false_eq_true, reduceCtorEq, Bool.false_eq_true, Bool.not_eq_true', Bool.not_eq_false'] at h) <;> first | (exfalso; omega) | skip)
    | refine AW.skip ?_
    | refine AW.seq ?_
    | refine AW.block ?_
    | (refine AW.exit ?_; simp only [go_sem, ↓reduceIte, reduceCtorEq, Nat.reduceLT, Nat.reduceEqDiff, Nat.reduceBEq, Nat.reduceAdd, Nat.reduceSub, Nat.reduceMul, Nat.reduceLeDiff, Int.reduceLE, Int.reduceNeg, Int.reduceEq, Int.toNat_zero, hx, hlt, eByte.eq_1 d, hw, hw0, w2, hww, hbq, hb0, b2, hwb, hb8, ha, a0, a1, ht, hs, hc, hc0, c2, hwc, hvc, hsl, hle])
    | (refine ite_on (fun h => ?_) (fun h => ?_) <;> (try simp only [decide_eq_true_eq, decide_eq_false_iff_not, bne_iff_ne, beq_iff_eq, bne_eq_false_iff_eq, beq_eq_false_iff_ne, ne_eq, ge_iff_le, gt_iff_lt, Bool.not_eq_true, Bool.not_eq_false, Bool.not_not, Bool.not_true, Bool.not_false, Int.not_le, Int.not_lt, not_true_eq_false, not_false_eq_true, reduceCtorEq, Bool.false_eq_true, Bool.not_eq_true', Bool.not_eq_false'] at h) <;> first | (exfalso; omega) | skip)
    | rw [thenN]
    | rw [blockN]
    | refine And.intro ?_ ?_
    | refine lcons rfl ?_
    | exact lGram _
    | exact lSeen _
    | exact lWord _
    | exact lSealed _
    | exact lRun _
    | exact lPerson _
    | exact lEvent _
    | exact lLeak _
    | exact lNum _
    | exact lOprn _
    | omega)
          refine ⟨deeds.length - (k + 1), by omega, _, ⟨k + 1, n', m, sent, rfl, by omega, by omega, hb', rfl⟩, ?_⟩
          (refine ⟨rfl, ?_, ?_, ?_⟩ <;> repeat' (first | exact LeT.junk | exact LeM.none | exact LiveM.none | refine LeT.same ?_ ?_ ?_ | refine LeM.same ?_ ?_ | refine LiveM.upd ?_ ?_ | trivial | (simp only [go_sem, ↓reduceIte, reduceCtorEq, Nat.reduceLT, Nat.reduceEqDiff, Nat.reduceBEq, Nat.reduceAdd, Nat.reduceSub, Nat.reduceMul, Nat.reduceLeDiff, Int.reduceLE, Int.reduceNeg, Int.reduceEq]; done) | rfl))
      · have hg : n.grams[a]? = none := List.getElem?_eq_none (by omega)
        rw [show takeN n (a : Int) = (n, ⟨0, []⟩, 1) by simp [takeN, hg]] at tc
        have rc := p06_right n
        rw [hb.1] at rc
        simp only [eNet, eGram, eGrams, eRows, eWords, List.map_cons, List.map_nil, eWord, rB] at tc rc
        repeat' (first
    | (refine hC ?_ ?_ ?_ ?_ ?_
       rotate_left
       · rfl
       · simp only [go_sem, ↓reduceIte, reduceCtorEq, Nat.reduceLT, Nat.reduceEqDiff, Nat.reduceBEq, Nat.reduceAdd, Nat.reduceSub, Nat.reduceMul, Nat.reduceLeDiff, Int.reduceLE, Int.reduceNeg, Int.reduceEq, Int.toNat_zero, hx, hlt, eByte.eq_1 d, hw, hw0, w2, hww, hbq, hb0, b2, hwb, hb8, ha, a0, a1, ht, hs]
       · simp only [go_sem, ↓reduceIte, reduceCtorEq, Nat.reduceLT, Nat.reduceEqDiff, Nat.reduceBEq, Nat.reduceAdd, Nat.reduceSub, Nat.reduceMul, Nat.reduceLeDiff, Int.reduceLE, Int.reduceNeg, Int.reduceEq, Int.toNat_zero, hx, hlt, eByte.eq_1 d, hw, hw0, w2, hww, hbq, hb0, b2, hwb, hb8, ha, a0, a1, ht, hs]
         first | exact tc | exact ACalls.args (tc) (by repeat' (first | exact trivial | apply And.intro | exact .inl ⟨rfl, rfl⟩ | exact .inr rfl))
       simp only [go_sem, ↓reduceIte, reduceCtorEq, Nat.reduceLT, Nat.reduceEqDiff, Nat.reduceBEq, Nat.reduceAdd, Nat.reduceSub, Nat.reduceMul, Nat.reduceLeDiff, Int.reduceLE, Int.reduceNeg, Int.reduceEq, Int.toNat_zero, hx, hlt, eByte.eq_1 d, hw, hw0, w2, hww, hbq, hb0, b2, hwb, hb8, ha, a0, a1, ht, hs])
    | (refine hC ?_ ?_ ?_ ?_ ?_
       rotate_left
       · rfl
       · simp only [go_sem, ↓reduceIte, reduceCtorEq, Nat.reduceLT, Nat.reduceEqDiff, Nat.reduceBEq, Nat.reduceAdd, Nat.reduceSub, Nat.reduceMul, Nat.reduceLeDiff, Int.reduceLE, Int.reduceNeg, Int.reduceEq, Int.toNat_zero, hx, hlt, eByte.eq_1 d, hw, hw0, w2, hww, hbq, hb0, b2, hwb, hb8, ha, a0, a1, ht, hs]
       · simp only [go_sem, ↓reduceIte, reduceCtorEq, Nat.reduceLT, Nat.reduceEqDiff, Nat.reduceBEq, Nat.reduceAdd, Nat.reduceSub, Nat.reduceMul, Nat.reduceLeDiff, Int.reduceLE, Int.reduceNeg, Int.reduceEq, Int.toNat_zero, hx, hlt, eByte.eq_1 d, hw, hw0, w2, hww, hbq, hb0, b2, hwb, hb8, ha, a0, a1, ht, hs]
         first | exact rc | exact ACalls.args (rc) (by repeat' (first | exact trivial | apply And.intro | exact .inl ⟨rfl, rfl⟩ | exact .inr rfl))
       simp only [go_sem, ↓reduceIte, reduceCtorEq, Nat.reduceLT, Nat.reduceEqDiff, Nat.reduceBEq, Nat.reduceAdd, Nat.reduceSub, Nat.reduceMul, Nat.reduceLeDiff, Int.reduceLE, Int.reduceNeg, Int.reduceEq, Int.toNat_zero, hx, hlt, eByte.eq_1 d, hw, hw0, w2, hww, hbq, hb0, b2, hwb, hb8, ha, a0, a1, ht, hs])
    | (refine hK _ _ ?_; clear hK hC; clear K C)
    | (refine hK _ _ rfl ?_; clear hK hC; clear K C)
    | (refine AW.seqR fun K C hK hC => ?_; simp only [go_sem, ↓reduceIte, reduceCtorEq, Nat.reduceLT, Nat.reduceEqDiff, Nat.reduceBEq, Nat.reduceAdd, Nat.reduceSub, Nat.reduceMul, Nat.reduceLeDiff, Int.reduceLE, Int.reduceNeg, Int.reduceEq, Int.toNat_zero, hx, hlt, eByte.eq_1 d, hw, hw0, w2, hww, hbq, hb0, b2, hwb, hb8, ha, a0, a1, ht, hs])
    | (refine AW.seqD rfl fun K C hK hC => ?_; simp only [go_sem, ↓reduceIte, reduceCtorEq, Nat.reduceLT, Nat.reduceEqDiff, Nat.reduceBEq, Nat.reduceAdd, Nat.reduceSub, Nat.reduceMul, Nat.reduceLeDiff, Int.reduceLE, Int.reduceNeg, Int.reduceEq, Int.toNat_zero, hx, hlt, eByte.eq_1 d, hw, hw0, w2, hww, hbq, hb0, b2, hwb, hb8, ha, a0, a1, ht, hs])
    | (refine AW.reg fun K C hK hC => ?_; simp only [go_sem, ↓reduceIte, reduceCtorEq, Nat.reduceLT, Nat.reduceEqDiff, Nat.reduceBEq, Nat.reduceAdd, Nat.reduceSub, Nat.reduceMul, Nat.reduceLeDiff, Int.reduceLE, Int.reduceNeg, Int.reduceEq, Int.toNat_zero, hx, hlt, eByte.eq_1 d, hw, hw0, w2, hww, hbq, hb0, b2, hwb, hb8, ha, a0, a1, ht, hs])
    | refine AW.seqS ?_
    | (refine AW.ret ?_; simp only [go_sem, ↓reduceIte, reduceCtorEq, Nat.reduceLT, Nat.reduceEqDiff, Nat.reduceBEq, Nat.reduceAdd, Nat.reduceSub, Nat.reduceMul, Nat.reduceLeDiff, Int.reduceLE, Int.reduceNeg, Int.reduceEq, Int.toNat_zero, hx, hlt, eByte.eq_1 d, hw, hw0, w2, hww, hbq, hb0, b2, hwb, hb8, ha, a0, a1, ht, hs])
    | (refine AW.cond rfl (fun h => ?_) (fun h => ?_) <;> (try simp only [decide_eq_true_eq, decide_eq_false_iff_not, bne_iff_ne, beq_iff_eq, bne_eq_false_iff_eq, beq_eq_false_iff_ne, ne_eq, ge_iff_le, gt_iff_lt, Bool.not_eq_true, Bool.not_eq_false, Bool.not_not, Bool.not_true, Bool.not_false, Int.not_le, Int.not_lt, not_true_eq_false, not_false_eq_true, reduceCtorEq, Bool.false_eq_true, Bool.not_eq_true', Bool.not_eq_false'] at h) <;> first | (exfalso; omega) | skip)
    | refine AW.skip ?_
    | refine AW.seq ?_
    | refine AW.block ?_
    | (refine AW.exit ?_; simp only [go_sem, ↓reduceIte, reduceCtorEq, Nat.reduceLT, Nat.reduceEqDiff, Nat.reduceBEq, Nat.reduceAdd, Nat.reduceSub, Nat.reduceMul, Nat.reduceLeDiff, Int.reduceLE, Int.reduceNeg, Int.reduceEq, Int.toNat_zero, hx, hlt, eByte.eq_1 d, hw, hw0, w2, hww, hbq, hb0, b2, hwb, hb8, ha, a0, a1, ht, hs])
    | (refine ite_on (fun h => ?_) (fun h => ?_) <;> (try simp only [decide_eq_true_eq, decide_eq_false_iff_not, bne_iff_ne, beq_iff_eq, bne_eq_false_iff_eq, beq_eq_false_iff_ne, ne_eq, ge_iff_le, gt_iff_lt, Bool.not_eq_true, Bool.not_eq_false, Bool.not_not, Bool.not_true, Bool.not_false, Int.not_le, Int.not_lt, not_true_eq_false, not_false_eq_true, reduceCtorEq, Bool.false_eq_true, Bool.not_eq_true', Bool.not_eq_false'] at h) <;> first | (exfalso; omega) | skip)
    | rw [thenN]
    | rw [blockN]
    | refine And.intro ?_ ?_
    | refine lcons rfl ?_
    | exact lGram _
    | exact lSeen _
    | exact lWord _
    | exact lSealed _
    | exact lRun _
    | exact lPerson _
    | exact lEvent _
    | exact lLeak _
    | exact lNum _
    | exact lOprn _
    | omega)
        refine ⟨deeds.length - (k + 1), by omega, _, ⟨k + 1, n, m, sent, rfl, by omega, by omega, hb, rfl⟩, ?_⟩
        (refine ⟨rfl, ?_, ?_, ?_⟩ <;> repeat' (first | exact LeT.junk | exact LeM.none | exact LiveM.none | refine LeT.same ?_ ?_ ?_ | refine LeM.same ?_ ?_ | refine LiveM.upd ?_ ?_ | trivial | (simp only [go_sem, ↓reduceIte, reduceCtorEq, Nat.reduceLT, Nat.reduceEqDiff, Nat.reduceBEq, Nat.reduceAdd, Nat.reduceSub, Nat.reduceMul, Nat.reduceLeDiff, Int.reduceLE, Int.reduceNeg, Int.reduceEq]; done) | rfl))
    · have tc := p06_double n (a : Int) (by omega) hl2 (by omega)
      by_cases hat : a < n.grams.length ∧ ¬ n.room ≤ (n.grams.length : Int)
      · obtain ⟨hat, hfull⟩ := hat
        obtain ⟨x, hg⟩ : ∃ x, n.grams[a]? = some x := ⟨_, List.getElem?_eq_getElem hat⟩
        obtain ⟨v, hv⟩ := hb.2.1 x (List.mem_of_getElem? hg)
        have hb' := hb.double hg hv hfull
        obtain ⟨n', hn', hS⟩ : ∃ n' : Net, n' = ⟨n.room, n.grams ++ [x], n.seen⟩ ∧ doubleN n (a : Int) = (n', 0) := ⟨_, rfl, by simp [doubleN, hg, hfull] <;> omega⟩
        have hle : (n'.grams.length : Int) = (n.grams.length : Int) + 1 := by rw [hn']; simp
        have hlx : n'.grams[n.grams.length]? = some x := by rw [hn']; simp
        have hll : n.grams.length < n'.grams.length := by omega
        rw [← hn'] at hb'
        rw [hS] at tc
        have rc := p06_right n'
        rw [hb'.1] at rc
        obtain ⟨xt, xw⟩ := x
        obtain rfl : xw = [v] := hv
        simp only [eNet, eGram, eGrams, eRows, eWords, List.map_cons, List.map_nil, eWord, rB] at tc rc
        have hsl : IntKind.i64.wrap ((n'.grams.length : Int) - 1) = (n.grams.length : Int) := by rw [hle]; exact (wrapI (by omega) (by omega)).trans (by omega)
        by_cases hvc : v = c
        · subst hvc
          rw [if_pos rfl] at hb'
          have hsm := wrapI (x := m + 1) (by omega) (by omega)
          repeat' (first
    | (refine hC ?_ ?_ ?_ ?_ ?_
       rotate_left
       · rfl
       · simp only [go_sem, ↓reduceIte, reduceCtorEq, Nat.reduceLT, Nat.reduceEqDiff, Nat.reduceBEq, Nat.reduceAdd, Nat.reduceSub, Nat.reduceMul, Nat.reduceLeDiff, Int.reduceLE, Int.reduceNeg, Int.reduceEq, Int.toNat_zero, hx, hlt, eByte.eq_1 d, hw, hw0, w2, hww, hbq, hb0, b2, hwb, hb8, ha, a0, a1, ht, hs, hc, hc0, c2, hwc, hsm, hsl, hlx, hll, eGram, eWords, eWord]
       · simp only [go_sem, ↓reduceIte, reduceCtorEq, Nat.reduceLT, Nat.reduceEqDiff, Nat.reduceBEq, Nat.reduceAdd, Nat.reduceSub, Nat.reduceMul, Nat.reduceLeDiff, Int.reduceLE, Int.reduceNeg, Int.reduceEq, Int.toNat_zero, hx, hlt, eByte.eq_1 d, hw, hw0, w2, hww, hbq, hb0, b2, hwb, hb8, ha, a0, a1, ht, hs, hc, hc0, c2, hwc, hsm, hsl, hlx, hll, eGram, eWords, eWord]
         first | exact tc | exact ACalls.args (tc) (by repeat' (first | exact trivial | apply And.intro | exact .inl ⟨rfl, rfl⟩ | exact .inr rfl))
       simp only [go_sem, ↓reduceIte, reduceCtorEq, Nat.reduceLT, Nat.reduceEqDiff, Nat.reduceBEq, Nat.reduceAdd, Nat.reduceSub, Nat.reduceMul, Nat.reduceLeDiff, Int.reduceLE, Int.reduceNeg, Int.reduceEq, Int.toNat_zero, hx, hlt, eByte.eq_1 d, hw, hw0, w2, hww, hbq, hb0, b2, hwb, hb8, ha, a0, a1, ht, hs, hc, hc0, c2, hwc, hsm, hsl, hlx, hll, eGram, eWords, eWord])
    | (refine hC ?_ ?_ ?_ ?_ ?_
       rotate_left
       · rfl
       · simp only [go_sem, ↓reduceIte, reduceCtorEq, Nat.reduceLT, Nat.reduceEqDiff, Nat.reduceBEq, Nat.reduceAdd, Nat.reduceSub, Nat.reduceMul, Nat.reduceLeDiff, Int.reduceLE, Int.reduceNeg, Int.reduceEq, Int.toNat_zero, hx, hlt, eByte.eq_1 d, hw, hw0, w2, hww, hbq, hb0, b2, hwb, hb8, ha, a0, a1, ht, hs, hc, hc0, c2, hwc, hsm, hsl, hlx, hll, eGram, eWords, eWord]
       · simp only [go_sem, ↓reduceIte, reduceCtorEq, Nat.reduceLT, Nat.reduceEqDiff, Nat.reduceBEq, Nat.reduceAdd, Nat.reduceSub, Nat.reduceMul, Nat.reduceLeDiff, Int.reduceLE, Int.reduceNeg, Int.reduceEq, Int.toNat_zero, hx, hlt, eByte.eq_1 d, hw, hw0, w2, hww, hbq, hb0, b2, hwb, hb8, ha, a0, a1, ht, hs, hc, hc0, c2, hwc, hsm, hsl, hlx, hll, eGram, eWords, eWord]
         first | exact rc | exact ACalls.args (rc) (by repeat' (first | exact trivial | apply And.intro | exact .inl ⟨rfl, rfl⟩ | exact .inr rfl))
       simp only [go_sem, ↓reduceIte, reduceCtorEq, Nat.reduceLT, Nat.reduceEqDiff, Nat.reduceBEq, Nat.reduceAdd, Nat.reduceSub, Nat.reduceMul, Nat.reduceLeDiff, Int.reduceLE, Int.reduceNeg, Int.reduceEq, Int.toNat_zero, hx, hlt, eByte.eq_1 d, hw, hw0, w2, hww, hbq, hb0, b2, hwb, hb8, ha, a0, a1, ht, hs, hc, hc0, c2, hwc, hsm, hsl, hlx, hll, eGram, eWords, eWord])
    | (refine hK _ _ ?_; clear hK hC; clear K C)
    | (refine hK _ _ rfl ?_; clear hK hC; clear K C)
    | (refine AW.seqR fun K C hK hC => ?_; simp only [go_sem, ↓reduceIte, reduceCtorEq, Nat.reduceLT, Nat.reduceEqDiff, Nat.reduceBEq, Nat.reduceAdd, Nat.reduceSub, Nat.reduceMul, Nat.reduceLeDiff, Int.reduceLE, Int.reduceNeg, Int.reduceEq, Int.toNat_zero, hx, hlt, eByte.eq_1 d, hw, hw0, w2, hww, hbq, hb0, b2, hwb, hb8, ha, a0, a1, ht, hs, hc, hc0, c2, hwc, hsm, hsl, hlx, hll, eGram, eWords, eWord])
    | (refine AW.seqD rfl fun K C hK hC => ?_; simp only [go_sem, ↓reduceIte, reduceCtorEq, Nat.reduceLT, Nat.reduceEqDiff, Nat.reduceBEq, Nat.reduceAdd, Nat.reduceSub, Nat.reduceMul, Nat.reduceLeDiff, Int.reduceLE, Int.reduceNeg, Int.reduceEq, Int.toNat_zero, hx, hlt, eByte.eq_1 d, hw, hw0, w2, hww, hbq, hb0, b2, hwb, hb8, ha, a0, a1, ht, hs, hc, hc0, c2, hwc, hsm, hsl, hlx, hll, eGram, eWords, eWord])
    | (refine AW.reg fun K C hK hC => ?_; simp only [go_sem, ↓reduceIte, reduceCtorEq, Nat.reduceLT, Nat.reduceEqDiff, Nat.reduceBEq, Nat.reduceAdd, Nat.reduceSub, Nat.reduceMul, Nat.reduceLeDiff, Int.reduceLE, Int.reduceNeg, Int.reduceEq, Int.toNat_zero, hx, hlt, eByte.eq_1 d, hw, hw0, w2, hww, hbq, hb0, b2, hwb, hb8, ha, a0, a1, ht, hs, hc, hc0, c2, hwc, hsm, hsl, hlx, hll, eGram, eWords, eWord])
    | refine AW.seqS ?_
    | (refine AW.ret ?_; simp only [go_sem, ↓reduceIte, reduceCtorEq, Nat.reduceLT, Nat.reduceEqDiff, Nat.reduceBEq, Nat.reduceAdd, Nat.reduceSub, Nat.reduceMul, Nat.reduceLeDiff, Int.reduceLE, Int.reduceNeg, Int.reduceEq, Int.toNat_zero, hx, hlt, eByte.eq_1 d, hw, hw0, w2, hww, hbq, hb0, b2, hwb, hb8, ha, a0, a1, ht, hs, hc, hc0, c2, hwc, hsm, hsl, hlx, hll, eGram, eWords, eWord])
    | (refine AW.cond rfl (fun h => ?_) (fun h => ?_) <;> (try simp only [decide_eq_true_eq, decide_eq_false_iff_not, bne_iff_ne, beq_iff_eq, bne_eq_false_iff_eq, beq_eq_false_iff_ne, ne_eq, ge_iff_le, gt_iff_lt, Bool.not_eq_true, Bool.not_eq_false, Bool.not_not, Bool.not_true, Bool.not_false, Int.not_le, Int.not_lt, not_true_eq_false, not_false_eq_true, reduceCtorEq, Bool.false_eq_true, Bool.not_eq_true', Bool.not_eq_false'] at h) <;> first | (exfalso; omega) | skip)
    | refine AW.skip ?_
    | refine AW.seq ?_
    | refine AW.block ?_
    | (refine AW.exit ?_; simp only [go_sem, ↓reduceIte, reduceCtorEq, Nat.reduceLT, Nat.reduceEqDiff, Nat.reduceBEq, Nat.reduceAdd, Nat.reduceSub, Nat.reduceMul, Nat.reduceLeDiff, Int.reduceLE, Int.reduceNeg, Int.reduceEq, Int.toNat_zero, hx, hlt, eByte.eq_1 d, hw, hw0, w2, hww, hbq, hb0, b2, hwb, hb8, ha, a0, a1, ht, hs, hc, hc0, c2, hwc, hsm, hsl, hlx, hll, eGram, eWords, eWord])
    | (refine ite_on (fun h => ?_) (fun h => ?_) <;> (try simp only [decide_eq_true_eq, decide_eq_false_iff_not, bne_iff_ne, beq_iff_eq, bne_eq_false_iff_eq, beq_eq_false_iff_ne, ne_eq, ge_iff_le, gt_iff_lt, Bool.not_eq_true, Bool.not_eq_false, Bool.not_not, Bool.not_true, Bool.not_false, Int.not_le, Int.not_lt, not_true_eq_false, not_false_eq_true, reduceCtorEq, Bool.false_eq_true, Bool.not_eq_true', Bool.not_eq_false'] at h) <;> first | (exfalso; omega) | skip)
    | rw [thenN]
    | rw [blockN]
    | refine And.intro ?_ ?_
    | refine lcons rfl ?_
    | exact lGram _
    | exact lSeen _
    | exact lWord _
    | exact lSealed _
    | exact lRun _
    | exact lPerson _
    | exact lEvent _
    | exact lLeak _
    | exact lNum _
    | exact lOprn _
    | omega)
          refine ⟨deeds.length - (k + 1), by omega, _, ⟨k + 1, n', m + 1, sent, rfl, by omega, by omega, hb', rfl⟩, ?_⟩
          (refine ⟨rfl, ?_, ?_, ?_⟩ <;> repeat' (first | exact LeT.junk | exact LeM.none | exact LiveM.none | refine LeT.same ?_ ?_ ?_ | refine LeM.same ?_ ?_ | refine LiveM.upd ?_ ?_ | trivial | (simp only [go_sem, ↓reduceIte, reduceCtorEq, Nat.reduceLT, Nat.reduceEqDiff, Nat.reduceBEq, Nat.reduceAdd, Nat.reduceSub, Nat.reduceMul, Nat.reduceLeDiff, Int.reduceLE, Int.reduceNeg, Int.reduceEq]; done) | rfl))
        · rw [if_neg hvc] at hb'
          repeat' (first
    | (refine hC ?_ ?_ ?_ ?_ ?_
       rotate_left
       · rfl
       · simp only [go_sem, ↓reduceIte, reduceCtorEq, Nat.reduceLT, Nat.reduceEqDiff, Nat.reduceBEq, Nat.reduceAdd, Nat.reduceSub, Nat.reduceMul, Nat.reduceLeDiff, Int.reduceLE, Int.reduceNeg, Int.reduceEq, Int.toNat_zero, hx, hlt, eByte.eq_1 d, hw, hw0, w2, hww, hbq, hb0, b2, hwb, hb8, ha, a0, a1, ht, hs, hc, hc0, c2, hwc, hvc, hsl, hlx, hll, eGram, eWords, eWord]
       · simp only [go_sem, ↓reduceIte, reduceCtorEq, Nat.reduceLT, Nat.reduceEqDiff, Nat.reduceBEq, Nat.reduceAdd, Nat.reduceSub, Nat.reduceMul, Nat.reduceLeDiff, Int.reduceLE, Int.reduceNeg, Int.reduceEq, Int.toNat_zero, hx, hlt, eByte.eq_1 d, hw, hw0, w2, hww, hbq, hb0, b2, hwb, hb8, ha, a0, a1, ht, hs, hc, hc0, c2, hwc, hvc, hsl, hlx, hll, eGram, eWords, eWord]
         first | exact tc | exact ACalls.args (tc) (by repeat' (first | exact trivial | apply And.intro | exact .inl ⟨rfl, rfl⟩ | exact .inr rfl))
       simp only [go_sem, ↓reduceIte, reduceCtorEq, Nat.reduceLT, Nat.reduceEqDiff, Nat.reduceBEq, Nat.reduceAdd, Nat.reduceSub, Nat.reduceMul, Nat.reduceLeDiff, Int.reduceLE, Int.reduceNeg, Int.reduceEq, Int.toNat_zero, hx, hlt, eByte.eq_1 d, hw, hw0, w2, hww, hbq, hb0, b2, hwb, hb8, ha, a0, a1, ht, hs, hc, hc0, c2, hwc, hvc, hsl, hlx, hll, eGram, eWords, eWord])
    | (refine hC ?_ ?_ ?_ ?_ ?_
       rotate_left
       · rfl
       · simp only [go_sem, ↓reduceIte, reduceCtorEq, Nat.reduceLT, Nat.reduceEqDiff, Nat.reduceBEq, Nat.reduceAdd, Nat.reduceSub, Nat.reduceMul, Nat.reduceLeDiff, Int.reduceLE, Int.reduceNeg, Int.reduceEq, Int.toNat_zero, hx, hlt, eByte.eq_1 d, hw, hw0, w2, hww, hbq, hb0, b2, hwb, hb8, ha, a0, a1, ht, hs, hc, hc0, c2, hwc, hvc, hsl, hlx, hll, eGram, eWords, eWord]
       · simp only [go_sem, ↓reduceIte, reduceCtorEq, Nat.reduceLT, Nat.reduceEqDiff, Nat.reduceBEq, Nat.reduceAdd, Nat.reduceSub, Nat.reduceMul, Nat.reduceLeDiff, Int.reduceLE, Int.reduceNeg, Int.reduceEq, Int.toNat_zero, hx, hlt, eByte.eq_1 d, hw, hw0, w2, hww, hbq, hb0, b2, hwb, hb8, ha, a0, a1, ht, hs, hc, hc0, c2, hwc, hvc, hsl, hlx, hll, eGram, eWords, eWord]
         first | exact rc | exact ACalls.args (rc) (by repeat' (first | exact trivial | apply And.intro | exact .inl ⟨rfl, rfl⟩ | exact .inr rfl))
       simp only [go_sem, ↓reduceIte, reduceCtorEq, Nat.reduceLT, Nat.reduceEqDiff, Nat.reduceBEq, Nat.reduceAdd, Nat.reduceSub, Nat.reduceMul, Nat.reduceLeDiff, Int.reduceLE, Int.reduceNeg, Int.reduceEq, Int.toNat_zero, hx, hlt, eByte.eq_1 d, hw, hw0, w2, hww, hbq, hb0, b2, hwb, hb8, ha, a0, a1, ht, hs, hc, hc0, c2, hwc, hvc, hsl, hlx, hll, eGram, eWords, eWord])
    | (refine hK _ _ ?_; clear hK hC; clear K C)
    | (refine hK _ _ rfl ?_; clear hK hC; clear K C)
    | (refine AW.seqR fun K C hK hC => ?_; simp only [go_sem, ↓reduceIte, reduceCtorEq, Nat.reduceLT, Nat.reduceEqDiff, Nat.reduceBEq, Nat.reduceAdd, Nat.reduceSub, Nat.reduceMul, Nat.reduceLeDiff, Int.reduceLE, Int.reduceNeg, Int.reduceEq, Int.toNat_zero, hx, hlt, eByte.eq_1 d, hw, hw0, w2, hww, hbq, hb0, b2, hwb, hb8, ha, a0, a1, ht, hs, hc, hc0, c2, hwc, hvc, hsl, hlx, hll, eGram, eWords, eWord])
    | (refine AW.seqD rfl fun K C hK hC => ?_; simp only [go_sem, ↓reduceIte, reduceCtorEq, Nat.reduceLT, Nat.reduceEqDiff, Nat.reduceBEq, Nat.reduceAdd, Nat.reduceSub, Nat.reduceMul, Nat.reduceLeDiff, Int.reduceLE, Int.reduceNeg, Int.reduceEq, Int.toNat_zero, hx, hlt, eByte.eq_1 d, hw, hw0, w2, hww, hbq, hb0, b2, hwb, hb8, ha, a0, a1, ht, hs, hc, hc0, c2, hwc, hvc, hsl, hlx, hll, eGram, eWords, eWord])
    | (refine AW.reg fun K C hK hC => ?_; simp only [go_sem, ↓reduceIte, reduceCtorEq, Nat.reduceLT, Nat.reduceEqDiff, Nat.reduceBEq, Nat.reduceAdd, Nat.reduceSub, Nat.reduceMul, Nat.reduceLeDiff, Int.reduceLE, Int.reduceNeg, Int.reduceEq, Int.toNat_zero, hx, hlt, eByte.eq_1 d, hw, hw0, w2, hww, hbq, hb0, b2, hwb, hb8, ha, a0, a1, ht, hs, hc, hc0, c2, hwc, hvc, hsl, hlx, hll, eGram, eWords, eWord])
    | refine AW.seqS ?_
    | (refine AW.ret ?_; simp only [go_sem, ↓reduceIte, reduceCtorEq, Nat.reduceLT, Nat.reduceEqDiff, Nat.reduceBEq, Nat.reduceAdd, Nat.reduceSub, Nat.reduceMul, Nat.reduceLeDiff, Int.reduceLE, Int.reduceNeg, Int.reduceEq, Int.toNat_zero, hx, hlt, eByte.eq_1 d, hw, hw0, w2, hww, hbq, hb0, b2, hwb, hb8, ha, a0, a1, ht, hs, hc, hc0, c2, hwc, hvc, hsl, hlx, hll, eGram, eWords, eWord])
    | (refine AW.cond rfl (fun h => ?_) (fun h => ?_) <;> (try simp only [decide_eq_true_eq, decide_eq_false_iff_not, bne_iff_ne, beq_iff_eq, bne_eq_false_iff_eq, beq_eq_false_iff_ne, ne_eq, ge_iff_le, gt_iff_lt, Bool.not_eq_true, Bool.not_eq_false, Bool.not_not, Bool.not_true, Bool.not_false, Int.not_le, Int.not_lt, not_true_eq_false, not_false_eq_true, reduceCtorEq, Bool.false_eq_true, Bool.not_eq_true', Bool.not_eq_false'] at h) <;> first | (exfalso; omega) | skip)
    | refine AW.skip ?_
    | refine AW.seq ?_
    | refine AW.block ?_
    | (refine AW.exit ?_; simp only [go_sem, ↓reduceIte, reduceCtorEq, Nat.reduceLT, Nat.reduceEqDiff, Nat.reduceBEq, Nat.reduceAdd, Nat.reduceSub, Nat.reduceMul, Nat.reduceLeDiff, Int.reduceLE, Int.reduceNeg, Int.reduceEq, Int.toNat_zero, hx, hlt, eByte.eq_1 d, hw, hw0, w2, hww, hbq, hb0, b2, hwb, hb8, ha, a0, a1, ht, hs, hc, hc0, c2, hwc, hvc, hsl, hlx, hll, eGram, eWords, eWord])
    | (refine ite_on (fun h => ?_) (fun h => ?_) <;> (try simp only [decide_eq_true_eq, decide_eq_false_iff_not, bne_iff_ne, beq_iff_eq, bne_eq_false_iff_eq, beq_eq_false_iff_ne, ne_eq, ge_iff_le, gt_iff_lt, Bool.not_eq_true, Bool.not_eq_false, Bool.not_not, Bool.not_true, Bool.not_false, Int.not_le, Int.not_lt, not_true_eq_false, not_false_eq_true, reduceCtorEq, Bool.false_eq_true, Bool.not_eq_true', Bool.not_eq_false'] at h) <;> first | (exfalso; omega) | skip)
    | rw [thenN]
    | rw [blockN]
    | refine And.intro ?_ ?_
    | refine lcons rfl ?_
    | exact lGram _
    | exact lSeen _
    | exact lWord _
    | exact lSealed _
    | exact lRun _
    | exact lPerson _
    | exact lEvent _
    | exact lLeak _
    | exact lNum _
    | exact lOprn _
    | omega)
          refine ⟨deeds.length - (k + 1), by omega, _, ⟨k + 1, n', m, sent, rfl, by omega, by omega, hb', rfl⟩, ?_⟩
          (refine ⟨rfl, ?_, ?_, ?_⟩ <;> repeat' (first | exact LeT.junk | exact LeM.none | exact LiveM.none | refine LeT.same ?_ ?_ ?_ | refine LeM.same ?_ ?_ | refine LiveM.upd ?_ ?_ | trivial | (simp only [go_sem, ↓reduceIte, reduceCtorEq, Nat.reduceLT, Nat.reduceEqDiff, Nat.reduceBEq, Nat.reduceAdd, Nat.reduceSub, Nat.reduceMul, Nat.reduceLeDiff, Int.reduceLE, Int.reduceNeg, Int.reduceEq]; done) | rfl))
      · obtain ⟨e, he, hS⟩ : ∃ e : Int, (e = 1 ∨ e = 10) ∧ doubleN n (a : Int) = (n, e) := by
          unfold doubleN
          cases hg : n.grams[(a : Int).toNat]? with
          | none => exact ⟨1, .inl rfl, rfl⟩
          | some x =>
            have : a < n.grams.length := by
              rcases Nat.lt_or_ge a n.grams.length with h | h
              · exact h
              · rw [List.getElem?_eq_none (by simpa using h)] at hg; cases hg
            have hf : n.room ≤ (n.grams.length : Int) := by
              by_cases hf : n.room ≤ (n.grams.length : Int)
              · exact hf
              · exact absurd ⟨this, hf⟩ hat
            exact ⟨10, .inr rfl, by simp [hf] <;> omega⟩
        rw [hS] at tc
        have rc := p06_right n
        rw [hb.1] at rc
        simp only [eNet, eGram, eGrams, eRows, eWords, List.map_cons, List.map_nil, eWord, rB] at tc rc
        rcases he with rfl | rfl
        · repeat' (first
    | (refine hC ?_ ?_ ?_ ?_ ?_
       rotate_left
       · rfl
       · simp only [go_sem, ↓reduceIte, reduceCtorEq, Nat.reduceLT, Nat.reduceEqDiff, Nat.reduceBEq, Nat.reduceAdd, Nat.reduceSub, Nat.reduceMul, Nat.reduceLeDiff, Int.reduceLE, Int.reduceNeg, Int.reduceEq, Int.toNat_zero, hx, hlt, eByte.eq_1 d, hw, hw0, w2, hww, hbq, hb0, b2, hwb, hb8, ha, a0, a1, ht, hs]
       · simp only [go_sem, ↓reduceIte, reduceCtorEq, Nat.reduceLT, Nat.reduceEqDiff, Nat.reduceBEq, Nat.reduceAdd, Nat.reduceSub, Nat.reduceMul, Nat.reduceLeDiff, Int.reduceLE, Int.reduceNeg, Int.reduceEq, Int.toNat_zero, hx, hlt, eByte.eq_1 d, hw, hw0, w2, hww, hbq, hb0, b2, hwb, hb8, ha, a0, a1, ht, hs]
         first | exact tc | exact ACalls.args (tc) (by repeat' (first | exact trivial | apply And.intro | exact .inl ⟨rfl, rfl⟩ | exact .inr rfl))
       simp only [go_sem, ↓reduceIte, reduceCtorEq, Nat.reduceLT, Nat.reduceEqDiff, Nat.reduceBEq, Nat.reduceAdd, Nat.reduceSub, Nat.reduceMul, Nat.reduceLeDiff, Int.reduceLE, Int.reduceNeg, Int.reduceEq, Int.toNat_zero, hx, hlt, eByte.eq_1 d, hw, hw0, w2, hww, hbq, hb0, b2, hwb, hb8, ha, a0, a1, ht, hs])
    | (refine hC ?_ ?_ ?_ ?_ ?_
       rotate_left
       · rfl
       · simp only [go_sem, ↓reduceIte, reduceCtorEq, Nat.reduceLT, Nat.reduceEqDiff, Nat.reduceBEq, Nat.reduceAdd, Nat.reduceSub, Nat.reduceMul, Nat.reduceLeDiff, Int.reduceLE, Int.reduceNeg, Int.reduceEq, Int.toNat_zero, hx, hlt, eByte.eq_1 d, hw, hw0, w2, hww, hbq, hb0, b2, hwb, hb8, ha, a0, a1, ht, hs]
       · simp only [go_sem, ↓reduceIte, reduceCtorEq, Nat.reduceLT, Nat.reduceEqDiff, Nat.reduceBEq, Nat.reduceAdd, Nat.reduceSub, Nat.reduceMul, Nat.reduceLeDiff, Int.reduceLE, Int.reduceNeg, Int.reduceEq, Int.toNat_zero, hx, hlt, eByte.eq_1 d, hw, hw0, w2, hww, hbq, hb0, b2, hwb, hb8, ha, a0, a1, ht, hs]
         first | exact rc | exact ACalls.args (rc) (by repeat' (first | exact trivial | apply And.intro | exact .inl ⟨rfl, rfl⟩ | exact .inr rfl))
       simp only [go_sem, ↓reduceIte, reduceCtorEq, Nat.reduceLT, Nat.reduceEqDiff, Nat.reduceBEq, Nat.reduceAdd, Nat.reduceSub, Nat.reduceMul, Nat.reduceLeDiff, Int.reduceLE, Int.reduceNeg, Int.reduceEq, Int.toNat_zero, hx, hlt, eByte.eq_1 d, hw, hw0, w2, hww, hbq, hb0, b2, hwb, hb8, ha, a0, a1, ht, hs])
    | (refine hK _ _ ?_; clear hK hC; clear K C)
    | (refine hK _ _ rfl ?_; clear hK hC; clear K C)
    | (refine AW.seqR fun K C hK hC => ?_; simp only [go_sem, ↓reduceIte, reduceCtorEq, Nat.reduceLT, Nat.reduceEqDiff, Nat.reduceBEq, Nat.reduceAdd, Nat.reduceSub, Nat.reduceMul, Nat.reduceLeDiff, Int.reduceLE, Int.reduceNeg, Int.reduceEq, Int.toNat_zero, hx, hlt, eByte.eq_1 d, hw, hw0, w2, hww, hbq, hb0, b2, hwb, hb8, ha, a0, a1, ht, hs])
    | (refine AW.seqD rfl fun K C hK hC => ?_; simp only [go_sem, ↓reduceIte, reduceCtorEq, Nat.reduceLT, Nat.reduceEqDiff, Nat.reduceBEq, Nat.reduceAdd, Nat.reduceSub, Nat.reduceMul, Nat.reduceLeDiff, Int.reduceLE, Int.reduceNeg, Int.reduceEq, Int.toNat_zero, hx, hlt, eByte.eq_1 d, hw, hw0, w2, hww, hbq, hb0, b2, hwb, hb8, ha, a0, a1, ht, hs])
    | (refine AW.reg fun K C hK hC => ?_; simp only [go_sem, ↓reduceIte, reduceCtorEq, Nat.reduceLT, Nat.reduceEqDiff, Nat.reduceBEq, Nat.reduceAdd, Nat.reduceSub, Nat.reduceMul, Nat.reduceLeDiff, Int.reduceLE, Int.reduceNeg, Int.reduceEq, Int.toNat_zero, hx, hlt, eByte.eq_1 d, hw, hw0, w2, hww, hbq, hb0, b2, hwb, hb8, ha, a0, a1, ht, hs])
    | refine AW.seqS ?_
    | (refine AW.ret ?_; simp only [go_sem, ↓reduceIte, reduceCtorEq, Nat.reduceLT, Nat.reduceEqDiff, Nat.reduceBEq, Nat.reduceAdd, Nat.reduceSub, Nat.reduceMul, Nat.reduceLeDiff, Int.reduceLE, Int.reduceNeg, Int.reduceEq, Int.toNat_zero, hx, hlt, eByte.eq_1 d, hw, hw0, w2, hww, hbq, hb0, b2, hwb, hb8, ha, a0, a1, ht, hs])
    | (refine AW.cond rfl (fun h => ?_) (fun h => ?_) <;> (try simp only [decide_eq_true_eq, decide_eq_false_iff_not, bne_iff_ne, beq_iff_eq, bne_eq_false_iff_eq, beq_eq_false_iff_ne, ne_eq, ge_iff_le, gt_iff_lt, Bool.not_eq_true, Bool.not_eq_false, Bool.not_not, Bool.not_true, Bool.not_false, Int.not_le, Int.not_lt, not_true_eq_false, not_false_eq_true, reduceCtorEq, Bool.false_eq_true, Bool.not_eq_true', Bool.not_eq_false'] at h) <;> first | (exfalso; omega) | skip)
    | refine AW.skip ?_
    | refine AW.seq ?_
    | refine AW.block ?_
    | (refine AW.exit ?_; simp only [go_sem, ↓reduceIte, reduceCtorEq, Nat.reduceLT, Nat.reduceEqDiff, Nat.reduceBEq, Nat.reduceAdd, Nat.reduceSub, Nat.reduceMul, Nat.reduceLeDiff, Int.reduceLE, Int.reduceNeg, Int.reduceEq, Int.toNat_zero, hx, hlt, eByte.eq_1 d, hw, hw0, w2, hww, hbq, hb0, b2, hwb, hb8, ha, a0, a1, ht, hs])
    | (refine ite_on (fun h => ?_) (fun h => ?_) <;> (try simp only [decide_eq_true_eq, decide_eq_false_iff_not, bne_iff_ne, beq_iff_eq, bne_eq_false_iff_eq, beq_eq_false_iff_ne, ne_eq, ge_iff_le, gt_iff_lt, Bool.not_eq_true, Bool.not_eq_false, Bool.not_not, Bool.not_true, Bool.not_false, Int.not_le, Int.not_lt, not_true_eq_false, not_false_eq_true, reduceCtorEq, Bool.false_eq_true, Bool.not_eq_true', Bool.not_eq_false'] at h) <;> first | (exfalso; omega) | skip)
    | rw [thenN]
    | rw [blockN]
    | refine And.intro ?_ ?_
    | refine lcons rfl ?_
    | exact lGram _
    | exact lSeen _
    | exact lWord _
    | exact lSealed _
    | exact lRun _
    | exact lPerson _
    | exact lEvent _
    | exact lLeak _
    | exact lNum _
    | exact lOprn _
    | omega)
          refine ⟨deeds.length - (k + 1), by omega, _, ⟨k + 1, n, m, sent, rfl, by omega, by omega, hb, rfl⟩, ?_⟩
          (refine ⟨rfl, ?_, ?_, ?_⟩ <;> repeat' (first | exact LeT.junk | exact LeM.none | exact LiveM.none | refine LeT.same ?_ ?_ ?_ | refine LeM.same ?_ ?_ | refine LiveM.upd ?_ ?_ | trivial | (simp only [go_sem, ↓reduceIte, reduceCtorEq, Nat.reduceLT, Nat.reduceEqDiff, Nat.reduceBEq, Nat.reduceAdd, Nat.reduceSub, Nat.reduceMul, Nat.reduceLeDiff, Int.reduceLE, Int.reduceNeg, Int.reduceEq]; done) | rfl))
        · repeat' (first
    | (refine hC ?_ ?_ ?_ ?_ ?_
       rotate_left
       · rfl
       · simp only [go_sem, ↓reduceIte, reduceCtorEq, Nat.reduceLT, Nat.reduceEqDiff, Nat.reduceBEq, Nat.reduceAdd, Nat.reduceSub, Nat.reduceMul, Nat.reduceLeDiff, Int.reduceLE, Int.reduceNeg, Int.reduceEq, Int.toNat_zero, hx, hlt, eByte.eq_1 d, hw, hw0, w2, hww, hbq, hb0, b2, hwb, hb8, ha, a0, a1, ht, hs]
       · simp only [go_sem, ↓reduceIte, reduceCtorEq, Nat.reduceLT, Nat.reduceEqDiff, Nat.reduceBEq, Nat.reduceAdd, Nat.reduceSub, Nat.reduceMul, Nat.reduceLeDiff, Int.reduceLE, Int.reduceNeg, Int.reduceEq, Int.toNat_zero, hx, hlt, eByte.eq_1 d, hw, hw0, w2, hww, hbq, hb0, b2, hwb, hb8, ha, a0, a1, ht, hs]
         first | exact tc | exact ACalls.args (tc) (by repeat' (first | exact trivial | apply And.intro | exact .inl ⟨rfl, rfl⟩ | exact .inr rfl))
       simp only [go_sem, ↓reduceIte, reduceCtorEq, Nat.reduceLT, Nat.reduceEqDiff, Nat.reduceBEq, Nat.reduceAdd, Nat.reduceSub, Nat.reduceMul, Nat.reduceLeDiff, Int.reduceLE, Int.reduceNeg, Int.reduceEq, Int.toNat_zero, hx, hlt, eByte.eq_1 d, hw, hw0, w2, hww, hbq, hb0, b2, hwb, hb8, ha, a0, a1, ht, hs])
    | (refine hC ?_ ?_ ?_ ?_ ?_
       rotate_left
       · rfl
       · simp only [go_sem, ↓reduceIte, reduceCtorEq, Nat.reduceLT, Nat.reduceEqDiff, Nat.reduceBEq, Nat.reduceAdd, Nat.reduceSub, Nat.reduceMul, Nat.reduceLeDiff, Int.reduceLE, Int.reduceNeg, Int.reduceEq, Int.toNat_zero, hx, hlt, eByte.eq_1 d, hw, hw0, w2, hww, hbq, hb0, b2, hwb, hb8, ha, a0, a1, ht, hs]
       · simp only [go_sem, ↓reduceIte, reduceCtorEq, Nat.reduceLT, Nat.reduceEqDiff, Nat.reduceBEq, Nat.reduceAdd, Nat.reduceSub, Nat.reduceMul, Nat.reduceLeDiff, Int.reduceLE, Int.reduceNeg, Int.reduceEq, Int.toNat_zero, hx, hlt, eByte.eq_1 d, hw, hw0, w2, hww, hbq, hb0, b2, hwb, hb8, ha, a0, a1, ht, hs]
         first | exact rc | exact ACalls.args (rc) (by repeat' (first | exact trivial | apply And.intro | exact .inl ⟨rfl, rfl⟩ | exact .inr rfl))
       simp only [go_sem, ↓reduceIte, reduceCtorEq, Nat.reduceLT, Nat.reduceEqDiff, Nat.reduceBEq, Nat.reduceAdd, Nat.reduceSub, Nat.reduceMul, Nat.reduceLeDiff, Int.reduceLE, Int.reduceNeg, Int.reduceEq, Int.toNat_zero, hx, hlt, eByte.eq_1 d, hw, hw0, w2, hww, hbq, hb0, b2, hwb, hb8, ha, a0, a1, ht, hs])
    | (refine hK _ _ ?_; clear hK hC; clear K C)
    | (refine hK _ _ rfl ?_; clear hK hC; clear K C)
    | (refine AW.seqR fun K C hK hC => ?_; simp only [go_sem, ↓reduceIte, reduceCtorEq, Nat.reduceLT, Nat.reduceEqDiff, Nat.reduceBEq, Nat.reduceAdd, Nat.reduceSub, Nat.reduceMul, Nat.reduceLeDiff, Int.reduceLE, Int.reduceNeg, Int.reduceEq, Int.toNat_zero, hx, hlt, eByte.eq_1 d, hw, hw0, w2, hww, hbq, hb0, b2, hwb, hb8, ha, a0, a1, ht, hs])
    | (refine AW.seqD rfl fun K C hK hC => ?_; simp only [go_sem, ↓reduceIte, reduceCtorEq, Nat.reduceLT, Nat.reduceEqDiff, Nat.reduceBEq, Nat.reduceAdd, Nat.reduceSub, Nat.reduceMul, Nat.reduceLeDiff, Int.reduceLE, Int.reduceNeg, Int.reduceEq, Int.toNat_zero, hx, hlt, eByte.eq_1 d, hw, hw0, w2, hww, hbq, hb0, b2, hwb, hb8, ha, a0, a1, ht, hs])
    | (refine AW.reg fun K C hK hC => ?_; simp only [go_sem, ↓reduceIte, reduceCtorEq, Nat.reduceLT, Nat.reduceEqDiff, Nat.reduceBEq, Nat.reduceAdd, Nat.reduceSub, Nat.reduceMul, Nat.reduceLeDiff, Int.reduceLE, Int.reduceNeg, Int.reduceEq, Int.toNat_zero, hx, hlt, eByte.eq_1 d, hw, hw0, w2, hww, hbq, hb0, b2, hwb, hb8, ha, a0, a1, ht, hs])
    | refine AW.seqS ?_
    | (refine AW.ret ?_; simp only [go_sem, ↓reduceIte, reduceCtorEq, Nat.reduceLT, Nat.reduceEqDiff, Nat.reduceBEq, Nat.reduceAdd, Nat.reduceSub, Nat.reduceMul, Nat.reduceLeDiff, Int.reduceLE, Int.reduceNeg, Int.reduceEq, Int.toNat_zero, hx, hlt, eByte.eq_1 d, hw, hw0, w2, hww, hbq, hb0, b2, hwb, hb8, ha, a0, a1, ht, hs])
    | (refine AW.cond rfl (fun h => ?_) (fun h => ?_) <;> (try simp only [decide_eq_true_eq, decide_eq_false_iff_not, bne_iff_ne, beq_iff_eq, bne_eq_false_iff_eq, beq_eq_false_iff_ne, ne_eq, ge_iff_le, gt_iff_lt, Bool.not_eq_true, Bool.not_eq_false, Bool.not_not, Bool.not_true, Bool.not_false, Int.not_le, Int.not_lt, not_true_eq_false, not_false_eq_true, reduceCtorEq, Bool.false_eq_true, Bool.not_eq_true', Bool.not_eq_false'] at h) <;> first | (exfalso; omega) | skip)
    | refine AW.skip ?_
    | refine AW.seq ?_
    | refine AW.block ?_
    | (refine AW.exit ?_; simp only [go_sem, ↓reduceIte, reduceCtorEq, Nat.reduceLT, Nat.reduceEqDiff, Nat.reduceBEq, Nat.reduceAdd, Nat.reduceSub, Nat.reduceMul, Nat.reduceLeDiff, Int.reduceLE, Int.reduceNeg, Int.reduceEq, Int.toNat_zero, hx, hlt, eByte.eq_1 d, hw, hw0, w2, hww, hbq, hb0, b2, hwb, hb8, ha, a0, a1, ht, hs])
    | (refine ite_on (fun h => ?_) (fun h => ?_) <;> (try simp only [decide_eq_true_eq, decide_eq_false_iff_not, bne_iff_ne, beq_iff_eq, bne_eq_false_iff_eq, beq_eq_false_iff_ne, ne_eq, ge_iff_le, gt_iff_lt, Bool.not_eq_true, Bool.not_eq_false, Bool.not_not, Bool.not_true, Bool.not_false, Int.not_le, Int.not_lt, not_true_eq_false, not_false_eq_true, reduceCtorEq, Bool.false_eq_true, Bool.not_eq_true', Bool.not_eq_false'] at h) <;> first | (exfalso; omega) | skip)
    | rw [thenN]
    | rw [blockN]
    | refine And.intro ?_ ?_
    | refine lcons rfl ?_
    | exact lGram _
    | exact lSeen _
    | exact lWord _
    | exact lSealed _
    | exact lRun _
    | exact lPerson _
    | exact lEvent _
    | exact lLeak _
    | exact lNum _
    | exact lOprn _
    | omega)
          refine ⟨deeds.length - (k + 1), by omega, _, ⟨k + 1, n, m, sent, rfl, by omega, by omega, hb, rfl⟩, ?_⟩
          (refine ⟨rfl, ?_, ?_, ?_⟩ <;> repeat' (first | exact LeT.junk | exact LeM.none | exact LiveM.none | refine LeT.same ?_ ?_ ?_ | refine LeM.same ?_ ?_ | refine LiveM.upd ?_ ?_ | trivial | (simp only [go_sem, ↓reduceIte, reduceCtorEq, Nat.reduceLT, Nat.reduceEqDiff, Nat.reduceBEq, Nat.reduceAdd, Nat.reduceSub, Nat.reduceMul, Nat.reduceLeDiff, Int.reduceLE, Int.reduceNeg, Int.reduceEq]; done) | rfl))
  · obtain rfl : k = deeds.length := by omega
    have hwc : IntKind.u32.wrap c = c := by have : c = 0 ∨ c = 1 ∨ c = 2 ∨ c = 3 := by omega
                                            rcases this with rfl | rfl | rfl | rfl <;> decide
    have c2 : c ≤ 255 := by omega
    have hbr := of_decide_eq_true hb.1
    repeat' (first
    | (refine hK _ _ ?_; clear hK hC; clear K C)
    | (refine hK _ _ rfl ?_; clear hK hC; clear K C)
    | (refine AW.seqR fun K C hK hC => ?_; simp only [go_sem, ↓reduceIte, reduceCtorEq, Nat.reduceLT, Nat.reduceEqDiff, Nat.reduceBEq, Nat.reduceAdd, Nat.reduceSub, Nat.reduceMul, Nat.reduceLeDiff, Int.reduceLE, Int.reduceNeg, Int.reduceEq])
    | (refine AW.seqD rfl fun K C hK hC => ?_; simp only [go_sem, ↓reduceIte, reduceCtorEq, Nat.reduceLT, Nat.reduceEqDiff, Nat.reduceBEq, Nat.reduceAdd, Nat.reduceSub, Nat.reduceMul, Nat.reduceLeDiff, Int.reduceLE, Int.reduceNeg, Int.reduceEq])
    | (refine AW.reg fun K C hK hC => ?_; simp only [go_sem, ↓reduceIte, reduceCtorEq, Nat.reduceLT, Nat.reduceEqDiff, Nat.reduceBEq, Nat.reduceAdd, Nat.reduceSub, Nat.reduceMul, Nat.reduceLeDiff, Int.reduceLE, Int.reduceNeg, Int.reduceEq])
    | refine AW.seqS ?_
    | (refine AW.ret ?_; simp only [go_sem, ↓reduceIte, reduceCtorEq, Nat.reduceLT, Nat.reduceEqDiff, Nat.reduceBEq, Nat.reduceAdd, Nat.reduceSub, Nat.reduceMul, Nat.reduceLeDiff, Int.reduceLE, Int.reduceNeg, Int.reduceEq])
    | (refine AW.cond rfl (fun h => ?_) (fun h => ?_) <;> (try simp only [decide_eq_true_eq, decide_eq_false_iff_not, bne_iff_ne, beq_iff_eq, bne_eq_false_iff_eq, beq_eq_false_iff_ne, ne_eq, ge_iff_le, gt_iff_lt, Bool.not_eq_true, Bool.not_eq_false, Bool.not_not, Bool.not_true, Bool.not_false, Int.not_le, Int.not_lt, not_true_eq_false, not_false_eq_true, reduceCtorEq, Bool.false_eq_true, Bool.not_eq_true', Bool.not_eq_false'] at h) <;> first | (exfalso; omega) | skip)
    | refine AW.skip ?_
    | refine AW.seq ?_
    | refine AW.block ?_
    | (refine AW.exit ?_; simp only [go_sem, ↓reduceIte, reduceCtorEq, Nat.reduceLT, Nat.reduceEqDiff, Nat.reduceBEq, Nat.reduceAdd, Nat.reduceSub, Nat.reduceMul, Nat.reduceLeDiff, Int.reduceLE, Int.reduceNeg, Int.reduceEq])
    | (refine ite_on (fun h => ?_) (fun h => ?_) <;> (try simp only [decide_eq_true_eq, decide_eq_false_iff_not, bne_iff_ne, beq_iff_eq, bne_eq_false_iff_eq, beq_eq_false_iff_ne, ne_eq, ge_iff_le, gt_iff_lt, Bool.not_eq_true, Bool.not_eq_false, Bool.not_not, Bool.not_true, Bool.not_false, Int.not_le, Int.not_lt, not_true_eq_false, not_false_eq_true, reduceCtorEq, Bool.false_eq_true, Bool.not_eq_true', Bool.not_eq_false'] at h) <;> first | (exfalso; omega) | skip)
    | rw [thenN]
    | rw [blockN]
    | refine And.intro ?_ ?_
    | refine lcons rfl ?_
    | exact lGram _
    | exact lSeen _
    | exact lWord _
    | exact lSealed _
    | exact lRun _
    | exact lPerson _
    | exact lEvent _
    | exact lLeak _
    | exact lNum _
    | exact lOprn _
    | omega)
    refine AW.loopW (fun z σ => ∃ j : Nat, z = n.grams.length - j ∧ j ≤ n.grams.length ∧ σ = ⟨210,
        upd (upd (upd (upd (upd (upd (upd (fun _ => .junk) 22 (.one (.c (i64 j)))) 21 (.one (.c (i64 (many c (n.grams.take j)))))) 9 (.one (.own 9 sent.length))) 8 (.one (.c (i64 m)))) 7 (.one (.ptr 7 0))) 6 (.one (.c (.v (.bool false))))) 2 (.one (.c (.v (.int .u8 cof)))),
        upd (upd (fun _ => none) 9 (some (.rows 26 1 (sent.map eWord)))) 7 (some (.box [.c (i64 n.room), .c (.row (n.grams.map eGram)), .c (.row (n.seen.map eSeen))]))⟩)
        (n := n.grams.length) _ ⟨0, rfl, Nat.zero_le _, rfl⟩ (by (refine ⟨rfl, ?_, ?_, ?_⟩ <;> repeat' (first | exact LeT.junk | exact LeM.none | exact LiveM.none | refine LeT.same ?_ ?_ ?_ | refine LeM.same ?_ ?_ | refine LiveM.upd ?_ ?_ | trivial | (simp only [go_sem, ↓reduceIte, reduceCtorEq, Nat.reduceLT, Nat.reduceEqDiff, Nat.reduceBEq, Nat.reduceAdd, Nat.reduceSub, Nat.reduceMul, Nat.reduceLeDiff, Int.reduceLE, Int.reduceNeg, Int.reduceEq]; done) | rfl))) ?_
    rintro z σ ⟨j, rfl, hj, rfl⟩
    by_cases hjt : j < n.grams.length
    · obtain ⟨x, hg⟩ : ∃ x, n.grams[j]? = some x := ⟨_, List.getElem?_eq_getElem hjt⟩
      obtain ⟨v, hv⟩ := hb.2.1 x (List.mem_of_getElem? hg)
      have hmm := many_add c (n.grams.take j) x hv
      rw [show n.grams.take j ++ [x] = n.grams.take (j + 1) by rw [List.take_add_one, hg]; rfl] at hmm
      have hs := wrapI (x := (j : Int) + 1) (by omega) (by omega)
      have hm2 : 0 ≤ many c (n.grams.take j) ∧ many c (n.grams.take j) ≤ 64 := by
        have := List.countP_le_length (p := fun g : Gram => decide (g.words = [c])) (l := n.grams.take j)
        have h2 : (n.grams.take j).length ≤ j := List.length_take_le _ _
        unfold many
        omega
      have hsm := wrapI (x := many c (n.grams.take j) + 1) (by omega) (by omega)
      obtain ⟨xt, xw⟩ := x
      obtain rfl : xw = [v] := hv
      by_cases hvc : v = c
      · subst hvc
        rw [if_pos rfl] at hmm
        repeat' (first
    | (refine hK _ _ ?_; clear hK hC; clear K C)
    | (refine hK _ _ rfl ?_; clear hK hC; clear K C)
    | (refine AW.seqR fun K C hK hC => ?_; simp only [go_sem, ↓reduceIte, reduceCtorEq, Nat.reduceLT, Nat.reduceEqDiff, Nat.reduceBEq, Nat.reduceAdd, Nat.reduceSub, Nat.reduceMul, Nat.reduceLeDiff, Int.reduceLE, Int.reduceNeg, Int.reduceEq, Int.toNat_zero, hg, hjt, eGram, eWords, eWord, List.map_cons, List.map_nil, hs, hc, hc0, c2, hwc, hsm])
    | (refine AW.seqD rfl fun K C hK hC => ?_; simp only [go_sem, ↓reduceIte, reduceCtorEq, Nat.reduceLT, Nat.reduceEqDiff, Nat.reduceBEq, Nat.reduceAdd, Nat.reduceSub, Nat.reduceMul, Nat.reduceLeDiff, Int.reduceLE, Int.reduceNeg, Int.reduceEq, Int.toNat_zero, hg, hjt, eGram, eWords, eWord, List.map_cons, List.map_nil, hs, hc, hc0, c2, hwc, hsm])
    | (refine AW.reg fun K C hK hC => ?_; simp only [go_sem, ↓reduceIte, reduceCtorEq, Nat.reduceLT, Nat.reduceEqDiff, Nat.reduceBEq, Nat.reduceAdd, Nat.reduceSub, Nat.reduceMul, Nat.reduceLeDiff, Int.reduceLE, Int.reduceNeg, Int.reduceEq, Int.toNat_zero, hg, hjt, eGram, eWords, eWord, List.map_cons, List.map_nil, hs, hc, hc0, c2, hwc, hsm])
    | refine AW.seqS ?_
    | (refine AW.ret ?_; simp only [go_sem, ↓reduceIte, reduceCtorEq, Nat.reduceLT, Nat.reduceEqDiff, Nat.reduceBEq, Nat.reduceAdd, Nat.reduceSub, Nat.reduceMul, Nat.reduceLeDiff, Int.reduceLE, Int.reduceNeg, Int.reduceEq, Int.toNat_zero, hg, hjt, eGram, eWords, eWord, List.map_cons, List.map_nil, hs, hc, hc0, c2, hwc, hsm])
    | (refine AW.cond rfl (fun h => ?_) (fun h => ?_) <;> (try simp only [decide_eq_true_eq, decide_eq_false_iff_not, bne_iff_ne, beq_iff_eq, bne_eq_false_iff_eq, beq_eq_false_iff_ne, ne_eq, ge_iff_le, gt_iff_lt, Bool.not_eq_true, Bool.not_eq_false, Bool.not_not, Bool.not_true, Bool.not_false, Int.not_le, Int.not_lt, not_true_eq_false, not_false_eq_true, reduceCtorEq, Bool.false_eq_true, Bool.not_eq_true', Bool.not_eq_false'] at h) <;> first | (exfalso; omega) | skip)
    | refine AW.skip ?_
    | refine AW.seq ?_
    | refine AW.block ?_
    | (refine AW.exit ?_; simp only [go_sem, ↓reduceIte, reduceCtorEq, Nat.reduceLT, Nat.reduceEqDiff, Nat.reduceBEq, Nat.reduceAdd, Nat.reduceSub, Nat.reduceMul, Nat.reduceLeDiff, Int.reduceLE, Int.reduceNeg, Int.reduceEq, Int.toNat_zero, hg, hjt, eGram, eWords, eWord, List.map_cons, List.map_nil, hs, hc, hc0, c2, hwc, hsm])
    | (refine ite_on (fun h => ?_) (fun h => ?_) <;> (try simp only [decide_eq_true_eq, decide_eq_false_iff_not, bne_iff_ne, beq_iff_eq, bne_eq_false_iff_eq, beq_eq_false_iff_ne, ne_eq, ge_iff_le, gt_iff_lt, Bool.not_eq_true, Bool.not_eq_false, Bool.not_not, Bool.not_true, Bool.not_false, Int.not_le, Int.not_lt, not_true_eq_false, not_false_eq_true, reduceCtorEq, Bool.false_eq_true, Bool.not_eq_true', Bool.not_eq_false'] at h) <;> first | (exfalso; omega) | skip)
    | rw [thenN]
    | rw [blockN]
    | refine And.intro ?_ ?_
    | refine lcons rfl ?_
    | exact lGram _
    | exact lSeen _
    | exact lWord _
    | exact lSealed _
    | exact lRun _
    | exact lPerson _
    | exact lEvent _
    | exact lLeak _
    | exact lNum _
    | exact lOprn _
    | omega)
        refine ⟨n.grams.length - (j + 1), by omega, _, ⟨j + 1, rfl, by omega, rfl⟩, ?_⟩
        rw [hmm]
        (refine ⟨rfl, ?_, ?_, ?_⟩ <;> repeat' (first | exact LeT.junk | exact LeM.none | exact LiveM.none | refine LeT.same ?_ ?_ ?_ | refine LeM.same ?_ ?_ | refine LiveM.upd ?_ ?_ | trivial | (simp only [go_sem, ↓reduceIte, reduceCtorEq, Nat.reduceLT, Nat.reduceEqDiff, Nat.reduceBEq, Nat.reduceAdd, Nat.reduceSub, Nat.reduceMul, Nat.reduceLeDiff, Int.reduceLE, Int.reduceNeg, Int.reduceEq]; done) | rfl))
      · rw [if_neg hvc] at hmm
        repeat' (first
    | (refine hK _ _ ?_; clear hK hC; clear K C)
    | (refine hK _ _ rfl ?_; clear hK hC; clear K C)
    | (refine AW.seqR fun K C hK hC => ?_; simp only [go_sem, ↓reduceIte, reduceCtorEq, Nat.reduceLT, Nat.reduceEqDiff, Nat.reduceBEq, Nat.reduceAdd, Nat.reduceSub, Nat.reduceMul, Nat.reduceLeDiff, Int.reduceLE, Int.reduceNeg, Int.reduceEq, Int.toNat_zero, hg, hjt, eGram, eWords, eWord, List.map_cons, List.map_nil, hs, hc, hc0, c2, hwc, hvc])
    | (refine AW.seqD rfl fun K C hK hC => ?_; simp only [go_sem, ↓reduceIte, reduceCtorEq, Nat.reduceLT, Nat.reduceEqDiff, Nat.reduceBEq, Nat.reduceAdd, Nat.reduceSub, Nat.reduceMul, Nat.reduceLeDiff, Int.reduceLE, Int.reduceNeg, Int.reduceEq, Int.toNat_zero, hg, hjt, eGram, eWords, eWord, List.map_cons, List.map_nil, hs, hc, hc0, c2, hwc, hvc])
    | (refine AW.reg fun K C hK hC => ?_; simp only [go_sem, ↓reduceIte, reduceCtorEq, Nat.reduceLT, Nat.reduceEqDiff, Nat.reduceBEq, Nat.reduceAdd, Nat.reduceSub, Nat.reduceMul, Nat.reduceLeDiff, Int.reduceLE, Int.reduceNeg, Int.reduceEq, Int.toNat_zero, hg, hjt, eGram, eWords, eWord, List.map_cons, List.map_nil, hs, hc, hc0, c2, hwc, hvc])
    | refine AW.seqS ?_
    | (refine AW.ret ?_; simp only [go_sem, ↓reduceIte, reduceCtorEq, Nat.reduceLT, Nat.reduceEqDiff, Nat.reduceBEq, Nat.reduceAdd, Nat.reduceSub, Nat.reduceMul, Nat.reduceLeDiff, Int.reduceLE, Int.reduceNeg, Int.reduceEq, Int.toNat_zero, hg, hjt, eGram, eWords, eWord, List.map_cons, List.map_nil, hs, hc, hc0, c2, hwc, hvc])
    | (refine AW.cond rfl (fun h => ?_) (fun h => ?_) <;> (try simp only [decide_eq_true_eq, decide_eq_false_iff_not, bne_iff_ne, beq_iff_eq, bne_eq_false_iff_eq, beq_eq_false_iff_ne, ne_eq, ge_iff_le, gt_iff_lt, Bool.not_eq_true, Bool.not_eq_false, Bool.not_not, Bool.not_true, Bool.not_false, Int.not_le, Int.not_lt, not_true_eq_false, not_false_eq_true, reduceCtorEq, Bool.false_eq_true, Bool.not_eq_true', Bool.not_eq_false'] at h) <;> first | (exfalso; omega) | skip)
    | refine AW.skip ?_
    | refine AW.seq ?_
    | refine AW.block ?_
    | (refine AW.exit ?_; simp only [go_sem, ↓reduceIte, reduceCtorEq, Nat.reduceLT, Nat.reduceEqDiff, Nat.reduceBEq, Nat.reduceAdd, Nat.reduceSub, Nat.reduceMul, Nat.reduceLeDiff, Int.reduceLE, Int.reduceNeg, Int.reduceEq, Int.toNat_zero, hg, hjt, eGram, eWords, eWord, List.map_cons, List.map_nil, hs, hc, hc0, c2, hwc, hvc])
    | (refine ite_on (fun h => ?_) (fun h => ?_) <;> (try simp only [decide_eq_true_eq, decide_eq_false_iff_not, bne_iff_ne, beq_iff_eq, bne_eq_false_iff_eq, beq_eq_false_iff_ne, ne_eq, ge_iff_le, gt_iff_lt, Bool.not_eq_true, Bool.not_eq_false, Bool.not_not, Bool.not_true, Bool.not_false, Int.not_le, Int.not_lt, not_true_eq_false, not_false_eq_true, reduceCtorEq, Bool.false_eq_true, Bool.not_eq_true', Bool.not_eq_false'] at h) <;> first | (exfalso; omega) | skip)
    | rw [thenN]
    | rw [blockN]
    | refine And.intro ?_ ?_
    | refine lcons rfl ?_
    | exact lGram _
    | exact lSeen _
    | exact lWord _
    | exact lSealed _
    | exact lRun _
    | exact lPerson _
    | exact lEvent _
    | exact lLeak _
    | exact lNum _
    | exact lOprn _
    | omega)
        refine ⟨n.grams.length - (j + 1), by omega, _, ⟨j + 1, rfl, by omega, rfl⟩, ?_⟩
        rw [hmm]
        (refine ⟨rfl, ?_, ?_, ?_⟩ <;> repeat' (first | exact LeT.junk | exact LeM.none | exact LiveM.none | refine LeT.same ?_ ?_ ?_ | refine LeM.same ?_ ?_ | refine LiveM.upd ?_ ?_ | trivial | (simp only [go_sem, ↓reduceIte, reduceCtorEq, Nat.reduceLT, Nat.reduceEqDiff, Nat.reduceBEq, Nat.reduceAdd, Nat.reduceSub, Nat.reduceMul, Nat.reduceLeDiff, Int.reduceLE, Int.reduceNeg, Int.reduceEq]; done) | rfl))
    · obtain rfl : j = n.grams.length := by omega
      rw [List.take_length, ← hb.2.2.1]
      have hse : n.seen.length = sent.length := by rw [hb.2.2.2, List.length_map]
      repeat' (first
    | (refine hK _ _ ?_; clear hK hC; clear K C)
    | (refine hK _ _ rfl ?_; clear hK hC; clear K C)
    | (refine AW.seqR fun K C hK hC => ?_; simp only [go_sem, ↓reduceIte, reduceCtorEq, Nat.reduceLT, Nat.reduceEqDiff, Nat.reduceBEq, Nat.reduceAdd, Nat.reduceSub, Nat.reduceMul, Nat.reduceLeDiff, Int.reduceLE, Int.reduceNeg, Int.reduceEq, hse])
    | (refine AW.seqD rfl fun K C hK hC => ?_; simp only [go_sem, ↓reduceIte, reduceCtorEq, Nat.reduceLT, Nat.reduceEqDiff, Nat.reduceBEq, Nat.reduceAdd, Nat.reduceSub, Nat.reduceMul, Nat.reduceLeDiff, Int.reduceLE, Int.reduceNeg, Int.reduceEq, hse])
    | (refine AW.reg fun K C hK hC => ?_; simp only [go_sem, ↓reduceIte, reduceCtorEq, Nat.reduceLT, Nat.reduceEqDiff, Nat.reduceBEq, Nat.reduceAdd, Nat.reduceSub, Nat.reduceMul, Nat.reduceLeDiff, Int.reduceLE, Int.reduceNeg, Int.reduceEq, hse])
    | refine AW.seqS ?_
    | (refine AW.ret ?_; simp only [go_sem, ↓reduceIte, reduceCtorEq, Nat.reduceLT, Nat.reduceEqDiff, Nat.reduceBEq, Nat.reduceAdd, Nat.reduceSub, Nat.reduceMul, Nat.reduceLeDiff, Int.reduceLE, Int.reduceNeg, Int.reduceEq, hse])
    | (refine AW.cond rfl (fun h => ?_) (fun h => ?_) <;> (try simp only [decide_eq_true_eq, decide_eq_false_iff_not, bne_iff_ne, beq_iff_eq, bne_eq_false_iff_eq, beq_eq_false_iff_ne, ne_eq, ge_iff_le, gt_iff_lt, Bool.not_eq_true, Bool.not_eq_false, Bool.not_not, Bool.not_true, Bool.not_false, Int.not_le, Int.not_lt, not_true_eq_false, not_false_eq_true, reduceCtorEq, Bool.false_eq_true, Bool.not_eq_true', Bool.not_eq_false'] at h) <;> first | (exfalso; omega) | skip)
    | refine AW.skip ?_
    | refine AW.seq ?_
    | refine AW.block ?_
    | (refine AW.exit ?_; simp only [go_sem, ↓reduceIte, reduceCtorEq, Nat.reduceLT, Nat.reduceEqDiff, Nat.reduceBEq, Nat.reduceAdd, Nat.reduceSub, Nat.reduceMul, Nat.reduceLeDiff, Int.reduceLE, Int.reduceNeg, Int.reduceEq, hse])
    | (refine ite_on (fun h => ?_) (fun h => ?_) <;> (try simp only [decide_eq_true_eq, decide_eq_false_iff_not, bne_iff_ne, beq_iff_eq, bne_eq_false_iff_eq, beq_eq_false_iff_ne, ne_eq, ge_iff_le, gt_iff_lt, Bool.not_eq_true, Bool.not_eq_false, Bool.not_not, Bool.not_true, Bool.not_false, Int.not_le, Int.not_lt, not_true_eq_false, not_false_eq_true, reduceCtorEq, Bool.false_eq_true, Bool.not_eq_true', Bool.not_eq_false'] at h) <;> first | (exfalso; omega) | skip)
    | rw [thenN]
    | rw [blockN]
    | refine And.intro ?_ ?_
    | refine lcons rfl ?_
    | exact lGram _
    | exact lSeen _
    | exact lWord _
    | exact lSealed _
    | exact lRun _
    | exact lPerson _
    | exact lEvent _
    | exact lLeak _
    | exact lNum _
    | exact lOprn _
    | omega)
      refine AW.freeze 9 9 rfl rfl (by simp) ?_
      refine AW.loopW (fun z σ => ∃ j : Nat, z = sent.length - j ∧ j ≤ sent.length ∧ σ = ⟨210,
          upd (upd (upd (upd (fun _ => .junk) 23 (.one (.c (i64 j)))) 9 (.one (.c (.row (sent.map eWord))))) 7 (.one (.ptr 7 0))) 6 (.one (.c (.v (.bool false)))),
          upd (fun _ => none) 7 (some (.box [.c (i64 n.room), .c (.row (n.grams.map eGram)), .c (.row (n.seen.map eSeen))]))⟩)
          (n := sent.length) _ ⟨0, rfl, Nat.zero_le _, rfl⟩ (by (refine ⟨rfl, ?_, ?_, ?_⟩ <;> repeat' (first | exact LeT.junk | exact LeM.none | exact LiveM.none | refine LeT.same ?_ ?_ ?_ | refine LeM.same ?_ ?_ | refine LiveM.upd ?_ ?_ | trivial | (simp only [go_sem, ↓reduceIte, reduceCtorEq, Nat.reduceLT, Nat.reduceEqDiff, Nat.reduceBEq, Nat.reduceAdd, Nat.reduceSub, Nat.reduceMul, Nat.reduceLeDiff, Int.reduceLE, Int.reduceNeg, Int.reduceEq]; done) | rfl))) ?_
      rintro z σ ⟨j, rfl, hj, rfl⟩
      by_cases hjt : j < sent.length
      · obtain ⟨x, hg⟩ : ∃ x, sent[j]? = some x := ⟨_, List.getElem?_eq_getElem hjt⟩
        have hgs : n.seen[j]? = some [x] := by rw [hb.2.2.2, List.getElem?_map, hg]; rfl
        have hjs : j < n.seen.length := by omega
        have hs := wrapI (x := (j : Int) + 1) (by omega) (by omega)
        have hn1 : ((j : Int) + 1).toNat = j + 1 := by omega
        have hn2 : (j : Int) + 1 ≤ (sent.length : Int) := by omega
        have hcut : partOf (List.map eWord sent) (j : Int) ((j : Int) + 1) = [[u32 x]] := by
          unfold partOf
          rw [hn1, Int.toNat_natCast, Nat.add_sub_cancel_left, ← List.map_drop, ← List.map_take]
          have : List.take 1 (List.drop j sent) = [x] := by
            have hjx : sent[j] = x := by rw [List.getElem?_eq_getElem hjt] at hg; exact Option.some.inj hg
            rw [List.drop_eq_getElem_cons hjt, hjx]
            rfl
          rw [this]
          rfl
        have sm := q01_same [x] [x]
        rw [decide_eq_true rfl] at sm
        simp only [eWords, eWord, List.map_cons, List.map_nil, rB] at sm
        repeat' (first
    | (refine hC ?_ ?_ ?_ ?_ ?_
       rotate_left
       · rfl
       · simp only [go_sem, ↓reduceIte, reduceCtorEq, Nat.reduceLT, Nat.reduceEqDiff, Nat.reduceBEq, Nat.reduceAdd, Nat.reduceSub, Nat.reduceMul, Nat.reduceLeDiff, Int.reduceLE, Int.reduceNeg, Int.reduceEq, hg, hgs, hjt, hjs, eSeen, eWords, eWord, List.map_cons, List.map_nil, hs, hn1, hn2, Nat.add_sub_cancel_left, hcut]
       · simp only [go_sem, ↓reduceIte, reduceCtorEq, Nat.reduceLT, Nat.reduceEqDiff, Nat.reduceBEq, Nat.reduceAdd, Nat.reduceSub, Nat.reduceMul, Nat.reduceLeDiff, Int.reduceLE, Int.reduceNeg, Int.reduceEq, hg, hgs, hjt, hjs, eSeen, eWords, eWord, List.map_cons, List.map_nil, hs, hn1, hn2, Nat.add_sub_cancel_left, hcut]
         first | exact sm | exact ACalls.args (sm) (by repeat' (first | exact trivial | apply And.intro | exact .inl ⟨rfl, rfl⟩ | exact .inr rfl))
       simp only [go_sem, ↓reduceIte, reduceCtorEq, Nat.reduceLT, Nat.reduceEqDiff, Nat.reduceBEq, Nat.reduceAdd, Nat.reduceSub, Nat.reduceMul, Nat.reduceLeDiff, Int.reduceLE, Int.reduceNeg, Int.reduceEq, hg, hgs, hjt, hjs, eSeen, eWords, eWord, List.map_cons, List.map_nil, hs, hn1, hn2, Nat.add_sub_cancel_left, hcut])
    | (refine hK _ _ ?_; clear hK hC; clear K C)
    | (refine hK _ _ rfl ?_; clear hK hC; clear K C)
    | (refine AW.seqR fun K C hK hC => ?_; simp only [go_sem, ↓reduceIte, reduceCtorEq, Nat.reduceLT, Nat.reduceEqDiff, Nat.reduceBEq, Nat.reduceAdd, Nat.reduceSub, Nat.reduceMul, Nat.reduceLeDiff, Int.reduceLE, Int.reduceNeg, Int.reduceEq, hg, hgs, hjt, hjs, eSeen, eWords, eWord, List.map_cons, List.map_nil, hs, hn1, hn2, Nat.add_sub_cancel_left, hcut])
    | (refine AW.seqD rfl fun K C hK hC => ?_; simp only [go_sem, ↓reduceIte, reduceCtorEq, Nat.reduceLT, Nat.reduceEqDiff, Nat.reduceBEq, Nat.reduceAdd, Nat.reduceSub, Nat.reduceMul, Nat.reduceLeDiff, Int.reduceLE, Int.reduceNeg, Int.reduceEq, hg, hgs, hjt, hjs, eSeen, eWords, eWord, List.map_cons, List.map_nil, hs, hn1, hn2, Nat.add_sub_cancel_left, hcut])
    | (refine AW.reg fun K C hK hC => ?_; simp only [go_sem, ↓reduceIte, reduceCtorEq, Nat.reduceLT, Nat.reduceEqDiff, Nat.reduceBEq, Nat.reduceAdd, Nat.reduceSub, Nat.reduceMul, Nat.reduceLeDiff, Int.reduceLE, Int.reduceNeg, Int.reduceEq, hg, hgs, hjt, hjs, eSeen, eWords, eWord, List.map_cons, List.map_nil, hs, hn1, hn2, Nat.add_sub_cancel_left, hcut])
    | refine AW.seqS ?_
    | (refine AW.ret ?_; simp only [go_sem, ↓reduceIte, reduceCtorEq, Nat.reduceLT, Nat.reduceEqDiff, Nat.reduceBEq, Nat.reduceAdd, Nat.reduceSub, Nat.reduceMul, Nat.reduceLeDiff, Int.reduceLE, Int.reduceNeg, Int.reduceEq, hg, hgs, hjt, hjs, eSeen, eWords, eWord, List.map_cons, List.map_nil, hs, hn1, hn2, Nat.add_sub_cancel_left, hcut])
    | (refine AW.cond rfl (fun h => ?_) (fun h => ?_) <;> (try simp only [decide_eq_true_eq, decide_eq_false_iff_not, bne_iff_ne, beq_iff_eq, bne_eq_false_iff_eq, beq_eq_false_iff_ne, ne_eq, ge_iff_le, gt_iff_lt, Bool.not_eq_true, Bool.not_eq_false, Bool.not_not, Bool.not_true, Bool.not_false, Int.not_le, Int.not_lt, not_true_eq_false, not_false_eq_true, reduceCtorEq, Bool.false_eq_true, Bool.not_eq_true', Bool.not_eq_false'] at h) <;> first | (exfalso; omega) | skip)
    | refine AW.skip ?_
    | refine AW.seq ?_
    | refine AW.block ?_
    | (refine AW.exit ?_; simp only [go_sem, ↓reduceIte, reduceCtorEq, Nat.reduceLT, Nat.reduceEqDiff, Nat.reduceBEq, Nat.reduceAdd, Nat.reduceSub, Nat.reduceMul, Nat.reduceLeDiff, Int.reduceLE, Int.reduceNeg, Int.reduceEq, hg, hgs, hjt, hjs, eSeen, eWords, eWord, List.map_cons, List.map_nil, hs, hn1, hn2, Nat.add_sub_cancel_left, hcut])
    | (refine ite_on (fun h => ?_) (fun h => ?_) <;> (try simp only [decide_eq_true_eq, decide_eq_false_iff_not, bne_iff_ne, beq_iff_eq, bne_eq_false_iff_eq, beq_eq_false_iff_ne, ne_eq, ge_iff_le, gt_iff_lt, Bool.not_eq_true, Bool.not_eq_false, Bool.not_not, Bool.not_true, Bool.not_false, Int.not_le, Int.not_lt, not_true_eq_false, not_false_eq_true, reduceCtorEq, Bool.false_eq_true, Bool.not_eq_true', Bool.not_eq_false'] at h) <;> first | (exfalso; omega) | skip)
    | rw [thenN]
    | rw [blockN]
    | refine And.intro ?_ ?_
    | refine lcons rfl ?_
    | exact lGram _
    | exact lSeen _
    | exact lWord _
    | exact lSealed _
    | exact lRun _
    | exact lPerson _
    | exact lEvent _
    | exact lLeak _
    | exact lNum _
    | exact lOprn _
    | omega)
        refine ⟨sent.length - (j + 1), by omega, _, ⟨j + 1, rfl, by omega, rfl⟩, ?_⟩
        (refine ⟨rfl, ?_, ?_, ?_⟩ <;> repeat' (first | exact LeT.junk | exact LeM.none | exact LiveM.none | refine LeT.same ?_ ?_ ?_ | refine LeM.same ?_ ?_ | refine LiveM.upd ?_ ?_ | trivial | (simp only [go_sem, ↓reduceIte, reduceCtorEq, Nat.reduceLT, Nat.reduceEqDiff, Nat.reduceBEq, Nat.reduceAdd, Nat.reduceSub, Nat.reduceMul, Nat.reduceLeDiff, Int.reduceLE, Int.reduceNeg, Int.reduceEq]; done) | rfl))
      · repeat' (first
    | (refine hK _ _ ?_; clear hK hC; clear K C)
    | (refine hK _ _ rfl ?_; clear hK hC; clear K C)
    | (refine AW.seqR fun K C hK hC => ?_; simp only [go_sem, ↓reduceIte, reduceCtorEq, Nat.reduceLT, Nat.reduceEqDiff, Nat.reduceBEq, Nat.reduceAdd, Nat.reduceSub, Nat.reduceMul, Nat.reduceLeDiff, Int.reduceLE, Int.reduceNeg, Int.reduceEq])
    | (refine AW.seqD rfl fun K C hK hC => ?_; simp only [go_sem, ↓reduceIte, reduceCtorEq, Nat.reduceLT, Nat.reduceEqDiff, Nat.reduceBEq, Nat.reduceAdd, Nat.reduceSub, Nat.reduceMul, Nat.reduceLeDiff, Int.reduceLE, Int.reduceNeg, Int.reduceEq])
    | (refine AW.reg fun K C hK hC => ?_; simp only [go_sem, ↓reduceIte, reduceCtorEq, Nat.reduceLT, Nat.reduceEqDiff, Nat.reduceBEq, Nat.reduceAdd, Nat.reduceSub, Nat.reduceMul, Nat.reduceLeDiff, Int.reduceLE, Int.reduceNeg, Int.reduceEq])
    | refine AW.seqS ?_
    | (refine AW.ret ?_; simp only [go_sem, ↓reduceIte, reduceCtorEq, Nat.reduceLT, Nat.reduceEqDiff, Nat.reduceBEq, Nat.reduceAdd, Nat.reduceSub, Nat.reduceMul, Nat.reduceLeDiff, Int.reduceLE, Int.reduceNeg, Int.reduceEq])
    | (refine AW.cond rfl (fun h => ?_) (fun h => ?_) <;> (try simp only [decide_eq_true_eq, decide_eq_false_iff_not, bne_iff_ne, beq_iff_eq, bne_eq_false_iff_eq, beq_eq_false_iff_ne, ne_eq, ge_iff_le, gt_iff_lt, Bool.not_eq_true, Bool.not_eq_false, Bool.not_not, Bool.not_true, Bool.not_false, Int.not_le, Int.not_lt, not_true_eq_false, not_false_eq_true, reduceCtorEq, Bool.false_eq_true, Bool.not_eq_true', Bool.not_eq_false'] at h) <;> first | (exfalso; omega) | skip)
    | refine AW.skip ?_
    | refine AW.seq ?_
    | refine AW.block ?_
    | (refine AW.exit ?_; simp only [go_sem, ↓reduceIte, reduceCtorEq, Nat.reduceLT, Nat.reduceEqDiff, Nat.reduceBEq, Nat.reduceAdd, Nat.reduceSub, Nat.reduceMul, Nat.reduceLeDiff, Int.reduceLE, Int.reduceNeg, Int.reduceEq])
    | (refine ite_on (fun h => ?_) (fun h => ?_) <;> (try simp only [decide_eq_true_eq, decide_eq_false_iff_not, bne_iff_ne, beq_iff_eq, bne_eq_false_iff_eq, beq_eq_false_iff_ne, ne_eq, ge_iff_le, gt_iff_lt, Bool.not_eq_true, Bool.not_eq_false, Bool.not_not, Bool.not_true, Bool.not_false, Int.not_le, Int.not_lt, not_true_eq_false, not_false_eq_true, reduceCtorEq, Bool.false_eq_true, Bool.not_eq_true', Bool.not_eq_false'] at h) <;> first | (exfalso; omega) | skip)
    | rw [thenN]
    | rw [blockN]
    | refine And.intro ?_ ?_
    | refine lcons rfl ?_
    | exact lGram _
    | exact lSeen _
    | exact lWord _
    | exact lSealed _
    | exact lRun _
    | exact lPerson _
    | exact lEvent _
    | exact lLeak _
    | exact lNum _
    | exact lOprn _
    | omega)
end Go.Proofs.Ytemeejackpbnmaa.Abs
