/- Texts that were merged: P03, P12d, P12, P05, Q12h. -/
import Derived.Test.YtokifenilhlgbaaGreatDoorZ8
import Derived.Test.YtokifenilhlgbaaGreatDoorZ5
import Derived.Test.YtokifenilhlgbaaGreatDoorZ4
import Derived.Test.YtokifenilhlgbaaGreatDoorZ6
import Derived.Test.YtokifenilhlgbaaGreatDoorZ7
section
/- The landed layer msg, over values without addresses: May, Put. -/
set_option linter.unusedSimpArgs false
set_option linter.unusedVariables false
set_option maxRecDepth 100000
namespace Go.Proofs.YtokifenilhlgbaaGreatDoor.Abs
open Go.RowKit
theorem p03_kind (k : Int) : ACalls Tryz.prog 144 [.one (u32 k)] (rB (isKindB k)) := by
  refine ACalls.intro (fn := Tryz.f144) Tryz.func144 rfl rfl (by simp [Tryz.f144]) ?_
  unfold Tryz.f144
  simp only [rB]
  refine wk2 trivial trivial trivial _ _ ?_ ?_
  all_goals (repeat intro h)
  all_goals refine ⟨?_⟩
  all_goals (refine rB_eq ?_; simp only [isKindB, decide_eq_true_eq, decide_eq_false_iff_not, Bool.false_eq_true, iff_false, false_iff, not_and, not_true_eq_false] at *; omega)
set_option maxHeartbeats 8000000 in
theorem p03_has (k t : Int) (hk : isKindB k = true) (ht : 2 ≤ t ∧ t ≤ 7) : ACalls Tryz.prog 146 [.one (u32 k), .one (u32 t)] (rB (hasT k t)) := by
  refine ACalls.intro (fn := Tryz.f146) Tryz.func146 rfl rfl (by simp [Tryz.f146]) ?_
  unfold Tryz.f146
  simp only [rB]
  rcases kinds hk with rfl | rfl | rfl | rfl | rfl | rfl | rfl | rfl | rfl <;> rcases tags ht with rfl | rfl | rfl | rfl | rfl | rfl <;> clear hk ht
  all_goals repeat' (first
    | (refine hK _ _ ?_; clear hK hC; clear K C)
    | (refine hK _ _ rfl ?_; clear hK hC; clear K C)
    | (refine hK _ _ (by simp only [crs, crsI, alfO, alfL, Nat.reduceLT]; rfl) ?_; clear hK hC; clear K C)
    | (refine AW.seqR fun K C hK hC => ?_; simp only [go_sem, ↓reduceIte, reduceCtorEq, Nat.reduceLT, Nat.reduceEqDiff, Nat.reduceBEq, Nat.reduceAdd, Nat.reduceSub, Nat.reduceMul, Nat.reduceLeDiff, Int.reduceLE, Int.reduceLT, Int.reduceNeg, Int.reduceEq, Int.reduceBEq, Int.reduceBNe, Int.reduceToNat])
    | (refine AW.seqD rfl fun K C hK hC => ?_; simp only [go_sem, ↓reduceIte, reduceCtorEq, Nat.reduceLT, Nat.reduceEqDiff, Nat.reduceBEq, Nat.reduceAdd, Nat.reduceSub, Nat.reduceMul, Nat.reduceLeDiff, Int.reduceLE, Int.reduceLT, Int.reduceNeg, Int.reduceEq, Int.reduceBEq, Int.reduceBNe, Int.reduceToNat])
    | (refine AW.reg fun K C hK hC => ?_; simp only [go_sem, ↓reduceIte, reduceCtorEq, Nat.reduceLT, Nat.reduceEqDiff, Nat.reduceBEq, Nat.reduceAdd, Nat.reduceSub, Nat.reduceMul, Nat.reduceLeDiff, Int.reduceLE, Int.reduceLT, Int.reduceNeg, Int.reduceEq, Int.reduceBEq, Int.reduceBNe, Int.reduceToNat])
    | (refine AW.regD rfl fun K C hK hC => ?_; simp only [go_sem, ↓reduceIte, reduceCtorEq, Nat.reduceLT, Nat.reduceEqDiff, Nat.reduceBEq, Nat.reduceAdd, Nat.reduceSub, Nat.reduceMul, Nat.reduceLeDiff, Int.reduceLE, Int.reduceLT, Int.reduceNeg, Int.reduceEq, Int.reduceBEq, Int.reduceBNe, Int.reduceToNat])
    | refine AW.seqS ?_
    | (refine AW.ret ?_; simp only [go_sem, ↓reduceIte, reduceCtorEq, Nat.reduceLT, Nat.reduceEqDiff, Nat.reduceBEq, Nat.reduceAdd, Nat.reduceSub, Nat.reduceMul, Nat.reduceLeDiff, Int.reduceLE, Int.reduceLT, Int.reduceNeg, Int.reduceEq, Int.reduceBEq, Int.reduceBNe, Int.reduceToNat])
    | (refine AW.cond rfl (fun h => ?_) (fun h => ?_) <;> (try simp only [decide_eq_true_eq, decide_eq_false_iff_not, bne_iff_ne, beq_iff_eq, bne_eq_false_iff_eq, beq_eq_false_iff_ne, ne_eq, ge_iff_le, gt_iff_lt, Bool.not_eq_true, Bool.not_eq_false, Bool.not_not, Bool.not_true, Bool.not_false, Int.not_le, Int.not_lt, not_true_eq_false, not_false_eq_true, reduceCtorEq, Bool.false_eq_true, Bool.not_eq_true', Bool.not_eq_false'] at h) <;> first | (exfalso; omega) | skip)
    | refine AW.skip ?_
    | refine AW.seq ?_
    | refine AW.block ?_
    | (refine AW.exit ?_; simp only [go_sem, ↓reduceIte, reduceCtorEq, Nat.reduceLT, Nat.reduceEqDiff, Nat.reduceBEq, Nat.reduceAdd, Nat.reduceSub, Nat.reduceMul, Nat.reduceLeDiff, Int.reduceLE, Int.reduceLT, Int.reduceNeg, Int.reduceEq, Int.reduceBEq, Int.reduceBNe, Int.reduceToNat])
    | (refine ite_on (fun h => ?_) (fun h => ?_) <;> (try simp only [decide_eq_true_eq, decide_eq_false_iff_not, bne_iff_ne, beq_iff_eq, bne_eq_false_iff_eq, beq_eq_false_iff_ne, ne_eq, ge_iff_le, gt_iff_lt, Bool.not_eq_true, Bool.not_eq_false, Bool.not_not, Bool.not_true, Bool.not_false, Int.not_le, Int.not_lt, not_true_eq_false, not_false_eq_true, reduceCtorEq, Bool.false_eq_true, Bool.not_eq_true', Bool.not_eq_false'] at h) <;> first | (exfalso; omega) | skip)
    | rw [thenN]
    | rw [blockN]
    | rw [scopeN]
    | refine AW.scope ?_
    | refine AW.label ?_
    | refine And.intro ?_ ?_
    | refine lcons rfl ?_
    | exact lGram _
    | exact lSeen _
    | exact lWord _
    | exact lSealed _
    | exact lRun _
    | exact lPerson _
    | exact lEvent _
    | exact lLeak _
    | exact lNum _
    | exact lOprn _
    | exact in64 (by omega) (by omega)
    | exact in32 (by omega) (by omega)
    | omega)
  all_goals rfl
def words8 (m : Mssg) : List CV := [u32 0, u32 0, u32 m.run, u32 m.a, u32 m.b, u32 m.nonce, u32 m.box, u32 m.more]
theorem p03_words (m : Mssg) : ACalls Tryz.prog 145 [.agg (eMssg m)] (.one (.agg (words8 m))) := by
  refine ACalls.intro (fn := Tryz.f145) Tryz.func145 rfl rfl (by simp [Tryz.f145]) ?_
  unfold Tryz.f145
  simp only [eMssg, words8]
  refine wk0 trivial trivial trivial
set_option maxHeartbeats 8000000 in
theorem p03_may (m : Mssg) : ACalls Tryz.prog 122 [.agg (eMssg m)] (rB (mayM m)) := by
  refine ACalls.intro (fn := Tryz.f122) Tryz.func122 rfl rfl (by simp [Tryz.f122]) ?_
  have hki := p03_kind m.kind
  have hwo := p03_words m
  unfold Tryz.f122
  simp only [rB, eMssg, words8] at *
  by_cases hk : isKindB m.kind = true
  · rw [hk] at hki
    refine wk1 trivial (And.intro hki hwo) trivial _ ?_
    all_goals (repeat intro h)
    all_goals refine ⟨?_⟩
    refine AW.loopW (fun n σ => ∃ k : Nat, n = 6 - k ∧ k ≤ 6 ∧ (∀ j : Int, 2 ≤ j → j < 2 + (k : Int) → fitsM m j = true) ∧ σ = ⟨26, (upd (upd (upd (fun _ => .junk) 1 (.one (.ptr 1 0))) 3 (.one (.ptr 3 0))) 4 (.one (.c (u32 (2 + (k : Int)))))), (upd (upd (fun _ => none) 1 (some (.box ((eMssg m).map .c)))) 3 (some (.box ((words8 m).map .c))))⟩) (n := 6) _ ⟨0, rfl, Nat.zero_le _, fun j h1 h2 => by omega, rfl⟩ (by simp only [eMssg, words8, List.map_cons, List.map_nil]; exact lz trivial) ?_
    rintro n σ ⟨k, rfl, hk6, ht, rfl⟩
    simp only [eMssg, words8, List.map_cons, List.map_nil]
    by_cases hlt : k < 6
    · have hq := p03_has m.kind (2 + (k : Int)) hk ⟨by omega, by omega⟩
      have hle : 2 + (k : Int) ≤ 7 := by omega
      have hs : IntKind.u32.wrap (2 + (k : Int) + 1) = 2 + ((k + 1 : Nat) : Int) := by rw [IntKind.wrap_u32]; omega
      have hfit : (hasT m.kind (2 + (k : Int)) = true ∨ m.word (2 + (k : Int)) = 0) → ∀ j : Int, 2 ≤ j → j < 2 + ((k + 1 : Nat) : Int) → fitsM m j = true := fun h j h1 h2 => by
        refine fits_step ht ?_ j h1 (by omega)
        rcases h with h | h
        · exact fits_has h
        · exact fits_zero h
      have hno : hasT m.kind (2 + (k : Int)) = false → m.word (2 + (k : Int)) ≠ 0 → mayM m = false := fun h h0 => mayM_no ⟨by omega, hle⟩ (fits_not h h0)
      simp only [rB] at hq
      have hk5 : k = 0 ∨ k = 1 ∨ k = 2 ∨ k = 3 ∨ k = 4 ∨ k = 5 := by omega
      have htn : (2 + (k : Int)).toNat = k + 2 := by omega
      have hcell : [A.c (u32 m.run), A.c (u32 m.a), A.c (u32 m.b), A.c (u32 m.nonce), A.c (u32 m.box), A.c (u32 m.more)][k]? = some (A.c (u32 (m.word (2 + (k : Int))))) := by
        rcases hk5 with rfl | rfl | rfl | rfl | rfl | rfl <;> rfl
      cases hh : hasT m.kind (2 + (k : Int))
      · rw [hh] at hq
        by_cases hz : m.word (2 + (k : Int)) = 0
        · have hz' : (m.word (2 + (k : Int)) != 0) = false := by simp [hz]
          refine wkx1 (And.intro hle (And.intro hs (And.intro hz' (And.intro htn hcell)))) hq trivial _ ?_
          all_goals (repeat intro h)
          all_goals refine ⟨?_⟩
          refine ⟨6 - (k + 1), by omega, _, ⟨k + 1, rfl, by omega, hfit (.inr hz), rfl⟩, ?_⟩
          try simp only [eMssg, words8, List.map_cons, List.map_nil]
          exact lz trivial
        · rw [hno hh hz]
          have hz' : (m.word (2 + (k : Int)) != 0) = true := by simp [hz]
          refine wkx0 (And.intro hle (And.intro hs (And.intro hz' (And.intro htn hcell)))) hq trivial
      · rw [hh] at hq
        refine wk1 (And.intro hle hs) hq trivial _ ?_
        all_goals (repeat intro h)
        all_goals refine ⟨?_⟩
        refine ⟨6 - (k + 1), by omega, _, ⟨k + 1, rfl, by omega, hfit (.inl hh), rfl⟩, ?_⟩
        try simp only [eMssg, words8, List.map_cons, List.map_nil]
        exact lz trivial
    · obtain rfl : k = 6 := by omega
      rw [mayM_yes hk fun t h1 h2 => ht t h1 (by omega)]
      have hle : ¬ (2 + ((6 : Nat) : Int) ≤ 7) := by omega
      refine wk0 hle trivial trivial
  · have hk' : isKindB m.kind = false := by simpa using hk
    rw [hk'] at hki
    rw [mayM_noKind hk']
    refine wk0 trivial hki trivial
set_option maxHeartbeats 8000000 in
theorem p03_fields (m : Mssg) (hk : isKindB m.kind = true) : ACalls Tryz.prog 124 [.agg (eMssg m)] (.one (.one (eFlds (fieldsM m)))) := by
  refine ACalls.intro (fn := Tryz.f124) Tryz.func124 rfl rfl (by simp [Tryz.f124]) ?_
  have hwo := p03_words m
  have h1 := p02_one 1 [m.kind] (by simp)
  rw [← uptoM_end]
  unfold Tryz.f124
  simp only [rB, eMssg, words8, eFlds, eFld, eWords, eWord, List.map_cons, List.map_nil] at *
  refine wk1 trivial (And.intro hwo h1) trivial _ ?_
  all_goals (repeat intro h)
  all_goals refine ⟨?_⟩
  refine AW.loopW (fun n σ => ∃ k : Nat, n = 6 - k ∧ k ≤ 6 ∧ σ = ⟨31, (upd (upd (upd (upd (fun _ => .junk) 1 (.one (.ptr 1 0))) 3 (.one (.own 10 ((uptoM m (2 + (k : Int))).length)))) 4 (.one (.ptr 4 0))) 5 (.one (.c (u32 (2 + (k : Int)))))), (upd (upd (upd (fun _ => none) 1 (some (.box ((eMssg m).map .c)))) 4 (some (.box ((words8 m).map .c)))) 10 (some (.rows 198 2 ((uptoM m (2 + (k : Int))).map eFld))))⟩) (n := 6) _ ⟨0, rfl, Nat.zero_le _, rfl⟩ (by rw [show (2 + ((0 : Nat) : Int)) = 2 from rfl, uptoM_two]; simp only [eMssg, words8, eFld, eWords, eWord, List.map_cons, List.map_nil]; exact lz trivial) ?_
  rintro n σ ⟨k, rfl, hk6, rfl⟩
  simp only [eMssg, words8, List.map_cons, List.map_nil]
  have hul : (uptoM m (2 + (k : Int))).length ≤ 6 := by
    unfold uptoM
    have h2 := List.length_filter_le (fun s => decide (s < 2 + (k : Int))) (kindTags m.kind)
    have h3 := kindTags_len m.kind
    simp only [List.length_cons, List.length_map]
    omega
  by_cases hlt : k < 6
  · have hq := p03_has m.kind (2 + (k : Int)) hk ⟨by omega, by omega⟩
    have hon := p02_one (2 + (k : Int)) [m.word (2 + (k : Int))] (by simp)
    have hs : IntKind.u32.wrap (2 + (k : Int) + 1) = 2 + ((k + 1 : Nat) : Int) := by rw [IntKind.wrap_u32]; omega
    have hst := uptoM_step m (t := 2 + (k : Int)) ⟨by omega, by omega⟩
    rw [show 2 + (k : Int) + 1 = 2 + ((k + 1 : Nat) : Int) by omega] at hst
    simp only [rB, eFld, eWords, eWord, List.map_cons, List.map_nil] at hq hon
    have hle : 2 + (k : Int) ≤ 7 := by omega
    have hk5 : k = 0 ∨ k = 1 ∨ k = 2 ∨ k = 3 ∨ k = 4 ∨ k = 5 := by omega
    have htn : (2 + (k : Int)).toNat = k + 2 := by omega
    have hcell : [A.c (u32 m.run), A.c (u32 m.a), A.c (u32 m.b), A.c (u32 m.nonce), A.c (u32 m.box), A.c (u32 m.more)][k]? = some (A.c (u32 (m.word (2 + (k : Int))))) := by
      rcases hk5 with rfl | rfl | rfl | rfl | rfl | rfl <;> rfl
    generalize hU : uptoM m (2 + (k : Int)) = U at *
    cases hh : hasT m.kind (2 + (k : Int))
    · rw [hh] at hq hst
      rw [if_neg (by decide)] at hst
      refine wk1 (And.intro hle hs) hq trivial _ ?_
      all_goals (repeat intro h)
      all_goals refine ⟨?_⟩
      refine ⟨6 - (k + 1), by omega, _, ⟨k + 1, rfl, by omega, rfl⟩, ?_⟩
      rw [hst]
      try simp only [eMssg, words8, List.map_cons, List.map_nil]
      exact lz trivial
    · rw [hh] at hq hst
      rw [if_pos rfl] at hst
      refine wkx1 (And.intro hle (And.intro hs (And.intro htn hcell))) (And.intro hq hon) trivial _ ?_
      all_goals (repeat intro h)
      all_goals refine ⟨?_⟩
      refine ⟨6 - (k + 1), by omega, _, ⟨k + 1, rfl, by omega, rfl⟩, ?_⟩
      rw [hst]
      simp only [eMssg, words8, eFld, eWords, eWord, List.map_append, List.length_append, List.map_cons, List.map_nil, List.length_cons, List.length_nil]
      exact lz trivial
  · obtain rfl : k = 6 := by omega
    have hle : ¬ (2 + ((6 : Nat) : Int) ≤ 7) := by omega
    refine wk1 hle trivial trivial _ ?_
    all_goals (repeat intro h)
    all_goals refine ⟨?_⟩
    all_goals rfl
theorem putWF_fields (m : M7) : putWF (fieldsM m) = (putM m, 0) := by
  have h1 : (fieldsM m).all fldB = true := by
    rw [List.all_eq_true]
    intro f hf
    obtain ⟨a, b, c⟩ := okF_fieldsM m f hf
    unfold fldB tagB
    rw [decide_eq_true ⟨a, b⟩, decide_eq_true (by omega)]
    rfl
  have h2 := fieldsM_len m
  have h3 := putM_length m
  have h4 := kindTags_len m.kind
  unfold putWF
  rw [h1, if_neg (by decide), if_neg]
  · rfl
  · show ¬ (8 < (fieldsM m).length ∨ 64 < (putM m).length)
    omega
theorem p03_put (m : Mssg) : ACalls Tryz.prog 96 [.agg (eMssg m)] (.tup [.one (eWords (putL m)), .one (i64 (putE m))]) := by
  refine ACalls.intro (fn := Tryz.f96) Tryz.func96 rfl rfl (by simp [Tryz.f96]) ?_
  have hm := p03_may m
  unfold Tryz.f96
  cases hk : mayM m
  · rw [hk] at hm
    rw [show putL m = [] by unfold putL; rw [if_neg (by rw [hk]; decide)], show putE m = 1 by unfold putE; rw [if_neg (by rw [hk]; decide)]]
    simp only [rB, eMssg, eWords] at *
    refine wk0 trivial hm trivial
  · rw [hk] at hm
    rw [show putL m = putM m by unfold putL; rw [if_pos hk], show putE m = 0 by unfold putE; rw [if_pos hk]]
    have hf := p03_fields m (mayM_kind hk)
    have hp := p02_put (fieldsM m) (by have := fieldsM_len m; omega)
    rw [putWF_fields] at hp
    generalize fieldsM m = F at *
    generalize putM m = l at *
    simp only [rB, eMssg, eWords, eFlds] at *
    refine wk0 trivial (And.intro hm (And.intro hf hp)) trivial
end Go.Proofs.YtokifenilhlgbaaGreatDoor.Abs
end
section
/- The landed desk, over values without addresses: Send, Log, Room, Person, With. -/
set_option linter.unusedSimpArgs false
set_option linter.unusedVariables false
set_option maxRecDepth 100000
namespace Go.Proofs.YtokifenilhlgbaaGreatDoor.Abs
open Go.RowKit
theorem lib_grow_events (n : Int) (h0 : 0 ≤ n) (hn : n ≤ 1000000) : ACalls Tryz.prog 142 [.nil, .one (i64 n)] (.own 61 10 []) := by
  refine ACalls.intro (fn := Tryz.f142) Tryz.func142 rfl rfl (by simp [Tryz.f142]) ?_
  have w0 : IntKind.i64.wrap 0 = 0 := by decide
  have w1 : IntKind.i64.wrap n = n := wrapI (by omega) (by omega)
  obtain ⟨N, rfl⟩ : ∃ N : Nat, n = N := ⟨n.toNat, by omega⟩
  unfold Tryz.f142
  simp only []
  refine wk0 (And.intro @Int.sub_self (And.intro @Int.sub_zero (And.intro w0 w1))) trivial trivial

theorem lib_concat_events (j : Nat) (ls : List (List Event)) (hk : ls.length ≤ 1000000) (hl : ls.flatten.length ≤ 1000000) : ACalls Tryz.prog 120 [.one (.row (ls.map fun l => [.rowc j (l.map eEvent)]))] (.own 61 10 (ls.flatten.map eEvent)) := by
  refine ACalls.intro (fn := Tryz.f120) Tryz.func120 rfl rfl (by simp [Tryz.f120]) ?_
  unfold Tryz.f120
  simp only []
  have hstep : ∀ {k : Nat} {x : List Event}, ls[k]? = some x → (ls.take (k + 1)).flatten = (ls.take k).flatten ++ x := fun {k x} hx => by
    rw [List.take_add_one, hx]; simp
  have hle : ∀ k, (ls.take k).flatten.length ≤ ls.flatten.length := fun k => by
    have := congrArg (fun l => l.flatten.length) (List.take_append_drop k ls)
    simp only [List.flatten_append, List.length_append] at this
    omega
  refine wk1 trivial trivial trivial _ ?_
  all_goals (repeat intro h)
  all_goals refine ⟨?_⟩
  refine AW.loopW (fun n σ => ∃ k : Nat, n = ls.length - k ∧ k ≤ ls.length ∧ σ = ⟨36, upd (upd (upd (upd (upd (fun _ => .junk) 11 (.one (.c (i64 k)))) 10 (.one (.c (i64 ls.length)))) 9 (.one (.c (.row (ls.map fun l => [.rowc j (l.map eEvent)]))))) 3 (.one (.c (i64 ((ls.take k).flatten.length : Nat))))) 0 (.one (.c (.row (ls.map fun l => [.rowc j (l.map eEvent)])))), fun _ => none⟩) (n := ls.length) _ ⟨0, rfl, Nat.zero_le _, rfl⟩ (by exact lz trivial) ?_
  rintro n σ ⟨k, rfl, hkl, rfl⟩
  by_cases hlt : k < ls.length
  · obtain ⟨x, hx⟩ : ∃ x, ls[k]? = some x := ⟨_, List.getElem?_eq_getElem hlt⟩
    have h1 := hle (k + 1)
    have hst := hstep hx
    rw [hst, List.length_append] at h1
    have hs := wrapI (x := (k : Int) + 1) (by omega) (by omega)
    have hs2 := wrapI (x := ((ls.take k).flatten.length : Int) + (x.length : Int)) (by omega) (by omega)
    generalize hq : (ls.take k).flatten.length = q at hs2 h1
    refine wk1 (And.intro hx (And.intro hlt (And.intro hs (And.intro hs2 eEvents.eq_1)))) trivial trivial _ ?_
    all_goals (repeat intro h)
    all_goals refine ⟨?_⟩
    refine ⟨ls.length - (k + 1), by omega, _, ⟨k + 1, rfl, by omega, rfl⟩, ?_⟩
    rw [hst, List.length_append, hq]
    have hc : ((q + x.length : Nat) : Int) = (q : Int) + (x.length : Int) := by omega
    exact lz hc
  · obtain rfl : k = ls.length := by omega
    rw [List.take_length]
    generalize hq : ls.flatten.length = q at hl hle
    have gw := lib_grow_events q (by omega) (by omega)
    refine wk1 trivial gw trivial _ ?_
    all_goals (repeat intro h)
    all_goals refine ⟨?_⟩
    refine AW.loopW (fun n σ => ∃ k : Nat, n = ls.length - k ∧ k ≤ ls.length ∧ σ = ⟨36, upd (upd (upd (upd (fun _ => .junk) 27 (.one (.c (i64 k)))) 26 (.one (.c (i64 ls.length)))) 25 (.one (.c (.row (ls.map fun l => [.rowc j (l.map eEvent)]))))) 6 (.one (.own 24 (ls.take k).flatten.length)), upd (fun _ => none) 24 (some (.rows 61 10 ((ls.take k).flatten.map eEvent)))⟩) (n := ls.length) _ ⟨0, rfl, Nat.zero_le _, rfl⟩ (by exact lz trivial) ?_
    rintro n σ ⟨k, rfl, hkl, rfl⟩
    by_cases hlt : k < ls.length
    · obtain ⟨x, hx⟩ : ∃ x, ls[k]? = some x := ⟨_, List.getElem?_eq_getElem hlt⟩
      have h1 := hle (k + 1)
      have hst := hstep hx
      rw [hst, List.length_append] at h1
      have hs := wrapI (x := (k : Int) + 1) (by omega) (by omega)
      refine wk1 (And.intro hx (And.intro hlt (And.intro hs eEvents.eq_1))) trivial trivial _ ?_
      all_goals (repeat intro h)
      all_goals refine ⟨?_⟩
      refine ⟨ls.length - (k + 1), by omega, _, ⟨k + 1, rfl, by omega, rfl⟩, ?_⟩
      rw [hst]
      simp only [List.length_append, List.map_append]
      exact lz trivial
    · obtain rfl : k = ls.length := by omega
      rw [List.take_length]
      refine wk0 trivial trivial trivial

set_option maxHeartbeats 4000000 in
theorem p12_send (w : Wld) (to : Int) (m : Mssg) (hn : rightN w.net = true) (h1 : w.net.grams.length < 1000000) (h2 : w.net.seen.length < 1000000) : ACalls Tryz.prog 64 [.agg (eWld w), .one (u32 to), .agg (eMssg m)] (.tup [.agg (eWld (sendW w to m).1), .one (i64 (sendW w to m).2)]) := by
  refine ACalls.intro (fn := Tryz.f64) Tryz.func64 rfl rfl (by simp [Tryz.f64]) ?_
  have hr : 0 ≤ w.net.room := by have : 0 ≤ w.net.room ∧ w.net.room ≤ 64 ∧ (w.net.grams.length : Int) ≤ w.net.room := of_decide_eq_true hn; exact this.1
  have hp := p03_put m
  have hs := p06_send w.net ⟨to, putL m⟩ h1 h2 hr
  clear hr hn
  unfold Tryz.f64
  unfold sendW
  generalize putL m = l at *
  by_cases g : putE m = 0
  · have g' : (putE m != 0) = false := by simp [g]
    rw [if_neg (by simp [g])]
    by_cases g2 : (sendN w.net ⟨to, l⟩).2 = 0
    · obtain ⟨n, e⟩ : ∃ n : Net, sendN w.net ⟨to, l⟩ = (n, 0) := ⟨_, Prod.ext rfl g2⟩
      rw [e] at hs
      rw [e]
      clear e g2
      generalize putE m = e at *
      simp only [eWld, eNet, eGram, eMssg, eSealeds, eGrams, ePeople, eEvents, eRows, eWords, eLeaks] at *
      refine wk0 g' (And.intro hp hs) trivial
    · obtain ⟨q, hq, e⟩ : ∃ q : Int, q ≠ 0 ∧ sendN w.net ⟨to, l⟩ = (w.net, q) := ⟨_, g2, Prod.ext (by revert g2; unfold sendN; split <;> simp) rfl⟩
      have g2' : (q != 0) = true := by simp [hq]
      rw [e] at hs
      rw [e]
      clear e g2
      generalize putE m = e at *
      simp only [eWld, eNet, eGram, eMssg, eSealeds, eGrams, ePeople, eEvents, eRows, eWords, eLeaks] at *
      refine wk0 (And.intro g' g2') (And.intro hp hs) trivial
  · have g' : (putE m != 0) = true := by simp [g]
    rw [if_pos g]
    generalize putE m = e at *
    simp only [eWld, eNet, eGram, eMssg, eSealeds, eGrams, ePeople, eEvents, eRows, eWords, eLeaks] at *
    refine wk0 g' hp trivial
theorem p12_log (w : Wld) (e : Event) (h : w.log.length < 1000000) : ACalls Tryz.prog 94 [.agg (eWld w), .agg (eEvent e)] (.one (.agg (eWld (logW w e)))) := by
  refine ACalls.intro (fn := Tryz.f94) Tryz.func94 rfl rfl (by simp [Tryz.f94]) ?_
  have hc := lib_concat_events 0 [w.log, [e]] (by simp) (by simp; omega)
  simp only [List.map_cons, List.map_nil, List.flatten_cons, List.flatten_nil, List.append_nil, List.map_append, eEvent.eq_1 e] at hc
  unfold Tryz.f94
  simp only [eWld, logW, eEvent.eq_1 e, eSealeds, eGrams, ePeople, eEvents, eRows, eWords, eLeaks] at *
  refine wk1 trivial hc trivial _ ?_
  all_goals (repeat intro h)
  all_goals refine ⟨?_⟩
  simp [eEvent]
theorem p12_room (w : Wld) (b f : Int) (h1 : rightB w.box = true) (h2 : rightN w.net = true) : ACalls Tryz.prog 87 [.agg (eWld w), .one (i64 b), .one (i64 f)] (rB (roomW w b f)) := by
  refine ACalls.intro (fn := Tryz.f87) Tryz.func87 rfl rfl (by simp [Tryz.f87]) ?_
  have g1 := right_room h1
  have g2 : 0 ≤ w.net.room ∧ w.net.room ≤ 64 ∧ (w.net.grams.length : Int) ≤ w.net.room := of_decide_eq_true h2
  have r1 := p07_free 0 w.box g1.1 g1.2.1 (by omega)
  have r2 := p06_free w.net
  rw [wrapI (x := w.net.room - (w.net.grams.length : Int)) (by omega) (by omega)] at r2
  unfold Tryz.f87
  simp only [eWld, eBox, eBoxC, eNet, rB, rI, eSealeds, eGrams, ePeople, eEvents, eRows, eWords, eLeaks] at *
  refine wk2 trivial (And.intro r1 r2) trivial _ _ ?_ ?_
  all_goals (repeat intro h)
  all_goals refine ⟨?_⟩
  all_goals (refine rB_eq ?_; simp only [roomW, decide_eq_true_eq, decide_eq_false_iff_not, Bool.false_eq_true, iff_false, false_iff, not_and, not_true_eq_false] at *; omega)
/-- A person whose lists are no longer than lists may be. -/
def PShort (p : Person) : Prop := p.used.length ≤ 1000000 ∧ p.runs.length ≤ 1000000
theorem p12_apart (p : Person) (h : PShort p) : ACalls Tryz.prog 57 [.agg (ePerson p)] (.one (.agg (ePerson p))) := by
  refine ACalls.intro (fn := Tryz.f57) Tryz.func57 rfl rfl (by simp [Tryz.f57]) ?_
  have c1 := lib_clone_words 0 p.used h.1
  have c2 := lib_clone_runs 0 p.runs h.2
  unfold Tryz.f57
  simp only [ePerson, eWords, eRuns] at *
  refine wk0 trivial (And.intro c1 c2) trivial
theorem p12_person (w : Wld) (n : Int) (h : PShort (personW w n)) (hp : rightPl w.people = true) : ACalls Tryz.prog 22 [.agg (eWld w), .one (u32 n)] (.one (.agg (ePerson (personW w n)))) := by
  refine ACalls.intro (fn := Tryz.f22) Tryz.func22 rfl rfl (by simp [Tryz.f22]) ?_
  have hg := p10_get w.people n hp
  have ha := p12_apart (personW w n) h
  unfold personW at *
  unfold Tryz.f22
  generalize getPl w.people n = g at *
  simp only [eWld, ePerson, eSealeds, eGrams, ePeople, eEvents, eRows, eWords, eLeaks, eRuns] at *
  refine wk0 trivial (And.intro hg ha) trivial
theorem p12_with (w : Wld) (p : Person) (h : PShort p) (hp : rightPl w.people = true) : ACalls Tryz.prog 95 [.agg (eWld w), .agg (ePerson p)] (.one (.agg (eWld (withW w p)))) := by
  refine ACalls.intro (fn := Tryz.f95) Tryz.func95 rfl rfl (by simp [Tryz.f95]) ?_
  have hg := p10_set 0 w.people p hp
  have ha := p12_apart p h
  unfold Tryz.f95
  unfold withW
  unfold setPC at hg
  generalize setPl w.people p = g at *
  by_cases hz : g.2 = 0
  · rw [if_pos hz] at hg
    rw [if_pos hz]
    simp only [eWld, ePerson.eq_1 p, eSealeds, eGrams, ePeople, eEvents, eRows, eWords, eLeaks, eRuns] at *
    refine wk0 trivial (And.intro ha hg) trivial
  · rw [if_neg hz] at hg
    rw [if_neg hz]
    simp only [eWld, ePerson.eq_1 p, eSealeds, eGrams, ePeople, eEvents, eRows, eWords, eLeaks, eRuns] at *
    refine wk0 trivial (And.intro ha hg) trivial
end Go.Proofs.YtokifenilhlgbaaGreatDoor.Abs
end
section
/- The landed desk, over values without addresses. -/
set_option linter.unusedVariables false
set_option maxRecDepth 100000
namespace Go.Proofs.YtokifenilhlgbaaGreatDoor.Abs
end Go.Proofs.YtokifenilhlgbaaGreatDoor.Abs
end
section
/- The landed clock, over values without addresses. -/
set_option linter.unusedSimpArgs false
set_option linter.unusedVariables false
set_option maxRecDepth 100000
namespace Go.Proofs.YtokifenilhlgbaaGreatDoor.Abs
open Go.RowKit
theorem p05_atEnd (n : Int) : ACalls Tryz.prog 129 [.one (u32 n)] (rB (decide (1073741824 ≤ n))) := by
  refine ACalls.intro (fn := Tryz.f129) Tryz.func129 rfl rfl (by simp [Tryz.f129]) ?_
  unfold Tryz.f129
  simp only [rB]
  refine wk0 trivial trivial trivial
theorem p05_sum (a b : Int) : ACalls Tryz.prog 151 [.one (u32 a), .one (u32 b)] (.one (.one (.v (.int .u64 (a + b))))) := by
  refine ACalls.introF (fn := Tryz.f151) Tryz.func151 rfl rfl (by simp [Tryz.f151]) fun hf => ?_
  have b1 := in_u32 (Fine.int (hf (.one (u32 a)) (by simp)))
  have b2 := in_u32 (Fine.int (hf (.one (u32 b)) (by simp)))
  clear hf
  have w1 : IntKind.u64.wrap a = a := IntWalk.u64_in _ (by omega)
  have w2 : IntKind.u64.wrap b = b := IntWalk.u64_in _ (by omega)
  have w3 : IntKind.u64.wrap (a + b) = a + b := IntWalk.u64_in _ (by omega)
  unfold Tryz.f151
  refine wk0 (And.intro w1 (And.intro w2 w3)) trivial trivial
theorem p05_above (n a b : Int) : ACalls Tryz.prog 130 [.one (u32 n), .one (u32 a), .one (u32 b)] (rB (decide (a + b < n))) := by
  refine ACalls.introF (fn := Tryz.f130) Tryz.func130 rfl rfl (by simp [Tryz.f130]) fun hf => ?_
  have b1 := in_u32 (Fine.int (hf (.one (u32 n)) (by simp)))
  clear hf
  have w1 : IntKind.u64.wrap n = n := IntWalk.u64_in _ (by omega)
  have c1 := p05_sum a b
  unfold Tryz.f130
  simp only [rB]
  refine wk0 w1 c1 trivial
theorem p05_fresh (now t w : Int) : ACalls Tryz.prog 101 [.one (u32 now), .one (u32 t), .one (u32 w)] (rB (freshI now t w)) := by
  refine ACalls.introF (fn := Tryz.f101) Tryz.func101 rfl rfl (by simp [Tryz.f101]) fun hf => ?_
  have b3 := in_u32 (Fine.int (hf (.one (u32 w)) (by simp)))
  clear hf
  have c1 := p05_atEnd now
  have c2 := p05_atEnd t
  have c3 := p05_above now t w
  have c4 := p05_above t now w
  unfold Tryz.f101
  have hq : freshI now t w = (!decide (1073741824 ≤ now) && (!decide (1073741824 ≤ t) && (!decide (t + w < now) && !decide (now + w < t)))) := by
    rw [Bool.eq_iff_iff]
    simp only [freshI, decide_eq_true_eq, Bool.and_eq_true, Bool.not_eq_true', decide_eq_false_iff_not]
    omega
  rw [hq]
  clear hq
  generalize decide (1073741824 ≤ now) = d1 at *
  generalize decide (1073741824 ≤ t) = d2 at *
  generalize decide (t + w < now) = d3 at *
  generalize decide (now + w < t) = d4 at *
  simp only [rB] at *
  cases d1
  · cases d2
    · cases d3
      · cases d4
        · refine wk0 trivial (And.intro c1 (And.intro c2 (And.intro c3 c4))) trivial
        · refine wk0 trivial (And.intro c1 (And.intro c2 (And.intro c3 c4))) trivial
      · refine wk0 trivial (And.intro c1 (And.intro c2 (And.intro c3 c4))) trivial
    · refine wk0 trivial (And.intro c1 (And.intro c2 (And.intro c3 c4))) trivial
  · refine wk0 trivial (And.intro c1 (And.intro c2 (And.intro c3 c4))) trivial
end Go.Proofs.YtokifenilhlgbaaGreatDoor.Abs
end
section
/- The reference of layer desk, over values without addresses: Few. -/
set_option linter.unusedSimpArgs false
set_option linter.unusedVariables false
set_option maxRecDepth 100000
namespace Go.Proofs.YtokifenilhlgbaaGreatDoor.Abs
open Go.RowKit
def fewT (w : Wld) : Bool := fewB w.box && (fewN w.net && (fewPl w.people && decide ((w.regs.length : Int) ≤ 10 ∧ (w.log.length : Int) ≤ 300 ∧ (w.leaks.length : Int) ≤ 300 ∧ (w.draws.list.length : Int) ≤ 1000)))
def fewW (w : Wld) : Bool := decide (∀ l ∈ w.regs.take 20, (l.length : Int) ≤ 100) && fewT w
set_option maxHeartbeats 8000000 in
theorem q12_few (w : Wld) : ACalls Tryz.prog 19 [.agg (eWld w)] (rB (fewW w)) := by
  refine ACalls.introF (fn := Tryz.f19) Tryz.func19 rfl rfl (by simp [Tryz.f19]) fun hf => ?_
  have hl : w.regs.length ≤ 9223372036854775807 := Fine.rowC (f := eSeen) (k := 0) ((hf (.agg (eWld w)) (by simp) : FineCA (.agg (eWld w))) (eRows w.regs) (by simp [eWld]))
  clear hf
  have r1 := q07_few w.box
  have r2 := q06_few w.net
  have r3 := q10_few w.people
  unfold Tryz.f19
  simp only [eWld, eBox, eNet, eSealeds, eGrams, ePeople, eEvents, eRows, eWords, eLeaks, rB] at *
  have no : (∃ l ∈ w.regs.take 20, 100 < (l.length : Int)) → fewW w = false := by
    rintro ⟨p, hp, hb⟩
    unfold fewW
    rw [decide_eq_false (fun h => by have := h p hp; omega), Bool.false_and]
  have ok : (∀ l ∈ w.regs.take 20, (l.length : Int) ≤ 100) → fewW w = fewT w := fun h => by unfold fewW; rw [decide_eq_true h, Bool.true_and]
  refine wk1 trivial trivial trivial _ ?_
  all_goals (repeat intro h)
  all_goals refine ⟨?_⟩
  refine AW.loopW (fun n σ => ∃ k : Nat, n = w.regs.length - k ∧ k ≤ w.regs.length ∧ k ≤ 20 ∧ (∀ p ∈ w.regs.take k, (p.length : Int) ≤ 100) ∧ σ = ⟨60, (upd (upd (fun _ => .junk) 1 (.one (.ptr 1 0))) 3 (.one (.c (i64 k)))), (upd (fun _ => none) 1 (some (.box ((eWld w).map .c))))⟩) (n := w.regs.length) _ ⟨0, rfl, Nat.zero_le _, by decide, by simp, rfl⟩ (by simp only [eWld, eSealeds, eGrams, ePeople, eEvents, eRows, eWords, eLeaks, List.map_cons, List.map_nil]; exact lz trivial) ?_
  rintro n σ ⟨k, rfl, hk, hk2, ha, rfl⟩
  simp only [eWld, eSealeds, eGrams, ePeople, eEvents, eRows, eWords, eLeaks, List.map_cons, List.map_nil]
  by_cases hlt : k < w.regs.length
  · obtain ⟨x, hx⟩ : ∃ x, w.regs[k]? = some x := ⟨_, List.getElem?_eq_getElem hlt⟩
    have hs := wrapI (x := (k : Int) + 1) (by omega) (by omega)
    have hli : (k : Int) < (w.regs.length : Int) := by omega
    by_cases h20 : k < 20
    · have h20' : (k : Int) < 20 := by omega
      have hmem : x ∈ w.regs.take 20 := List.mem_iff_getElem?.2 ⟨k, by rw [List.getElem?_take, if_pos h20, hx]⟩
      by_cases h1 : 100 < (x.length : Int)
      · rw [no ⟨x, hmem, h1⟩]
        refine wk0 (And.intro hx (And.intro hlt (And.intro hli (And.intro h20' (And.intro h1 (And.intro eSeen.eq_1 eWords.eq_1)))))) trivial trivial
      · refine wk1 (And.intro hx (And.intro hlt (And.intro hli (And.intro h20' (And.intro h1 (And.intro hs (And.intro eSeen.eq_1 eWords.eq_1))))))) trivial trivial _ ?_
        all_goals (repeat intro h)
        all_goals refine ⟨?_⟩
        refine ⟨w.regs.length - (k + 1), by omega, _, ⟨k + 1, rfl, by omega, by omega, fun p hp => ?_, rfl⟩, ?_⟩
        · rw [List.take_add_one, hx] at hp
          simp only [Option.toList_some, List.mem_append, List.mem_singleton] at hp
          rcases hp with hp | rfl
          · exact ha p hp
          · omega
        · try simp only [eWld, eSealeds, eGrams, ePeople, eEvents, eRows, eWords, eLeaks, List.map_cons, List.map_nil]
          exact lz trivial
    · obtain rfl : k = 20 := by omega
      rw [ok ha]
      unfold fewT
      clear ok no ha
      generalize fewB w.box = b1 at *
      generalize fewN w.net = b2 at *
      generalize fewPl w.people = b3 at *
      cases b1 <;> cases b2 <;> cases b3
      all_goals repeat' (first
    | (refine hC ?_ ?_ ?_ ?_ ?_
       rotate_left
       · rfl
       · simp only [go_sem, ↓reduceIte, reduceCtorEq, Nat.reduceLT, Nat.reduceEqDiff, Nat.reduceBEq, Nat.reduceAdd, Nat.reduceSub, Nat.reduceMul, Nat.reduceLeDiff, Int.reduceLE, Int.reduceLT, Int.reduceNeg, Int.reduceEq, Int.reduceBEq, Int.reduceBNe, Int.reduceToNat, hx, hlt, hli]
       · simp only [go_sem, ↓reduceIte, reduceCtorEq, Nat.reduceLT, Nat.reduceEqDiff, Nat.reduceBEq, Nat.reduceAdd, Nat.reduceSub, Nat.reduceMul, Nat.reduceLeDiff, Int.reduceLE, Int.reduceLT, Int.reduceNeg, Int.reduceEq, Int.reduceBEq, Int.reduceBNe, Int.reduceToNat, hx, hlt, hli]
         first | (refine And.intro ?_ ?_; exact r1; first | exact trivial | (simp only [go_sem, ↓reduceIte, reduceCtorEq, Nat.reduceLT, Nat.reduceEqDiff, Nat.reduceBEq, Nat.reduceAdd, Nat.reduceSub, Nat.reduceMul, Nat.reduceLeDiff, Int.reduceLE, Int.reduceLT, Int.reduceNeg, Int.reduceEq, Int.reduceBEq, Int.reduceBNe, Int.reduceToNat, hx, hlt, hli]; done)) | (refine And.intro (ACalls.args (k := ?_) ?_ ?_) ?_; rotate_left; exact r1; repeat' (first | exact trivial | exact Or.inl ⟨rfl, rfl⟩ | exact Or.inr rfl | apply And.intro))
       simp only [go_sem, ↓reduceIte, reduceCtorEq, Nat.reduceLT, Nat.reduceEqDiff, Nat.reduceBEq, Nat.reduceAdd, Nat.reduceSub, Nat.reduceMul, Nat.reduceLeDiff, Int.reduceLE, Int.reduceLT, Int.reduceNeg, Int.reduceEq, Int.reduceBEq, Int.reduceBNe, Int.reduceToNat, hx, hlt, hli])
    | (refine hC ?_ ?_ ?_ ?_ ?_
       rotate_left
       · rfl
       · simp only [go_sem, ↓reduceIte, reduceCtorEq, Nat.reduceLT, Nat.reduceEqDiff, Nat.reduceBEq, Nat.reduceAdd, Nat.reduceSub, Nat.reduceMul, Nat.reduceLeDiff, Int.reduceLE, Int.reduceLT, Int.reduceNeg, Int.reduceEq, Int.reduceBEq, Int.reduceBNe, Int.reduceToNat, hx, hlt, hli]
       · simp only [go_sem, ↓reduceIte, reduceCtorEq, Nat.reduceLT, Nat.reduceEqDiff, Nat.reduceBEq, Nat.reduceAdd, Nat.reduceSub, Nat.reduceMul, Nat.reduceLeDiff, Int.reduceLE, Int.reduceLT, Int.reduceNeg, Int.reduceEq, Int.reduceBEq, Int.reduceBNe, Int.reduceToNat, hx, hlt, hli]
         first | (refine And.intro ?_ ?_; exact r2; first | exact trivial | (simp only [go_sem, ↓reduceIte, reduceCtorEq, Nat.reduceLT, Nat.reduceEqDiff, Nat.reduceBEq, Nat.reduceAdd, Nat.reduceSub, Nat.reduceMul, Nat.reduceLeDiff, Int.reduceLE, Int.reduceLT, Int.reduceNeg, Int.reduceEq, Int.reduceBEq, Int.reduceBNe, Int.reduceToNat, hx, hlt, hli]; done)) | (refine And.intro (ACalls.args (k := ?_) ?_ ?_) ?_; rotate_left; exact r2; repeat' (first | exact trivial | exact Or.inl ⟨rfl, rfl⟩ | exact Or.inr rfl | apply And.intro))
       simp only [go_sem, ↓reduceIte, reduceCtorEq, Nat.reduceLT, Nat.reduceEqDiff, Nat.reduceBEq, Nat.reduceAdd, Nat.reduceSub, Nat.reduceMul, Nat.reduceLeDiff, Int.reduceLE, Int.reduceLT, Int.reduceNeg, Int.reduceEq, Int.reduceBEq, Int.reduceBNe, Int.reduceToNat, hx, hlt, hli])
    | (refine hC ?_ ?_ ?_ ?_ ?_
       rotate_left
       · rfl
       · simp only [go_sem, ↓reduceIte, reduceCtorEq, Nat.reduceLT, Nat.reduceEqDiff, Nat.reduceBEq, Nat.reduceAdd, Nat.reduceSub, Nat.reduceMul, Nat.reduceLeDiff, Int.reduceLE, Int.reduceLT, Int.reduceNeg, Int.reduceEq, Int.reduceBEq, Int.reduceBNe, Int.reduceToNat, hx, hlt, hli]
       · simp only [go_sem, ↓reduceIte, reduceCtorEq, Nat.reduceLT, Nat.reduceEqDiff, Nat.reduceBEq, Nat.reduceAdd, Nat.reduceSub, Nat.reduceMul, Nat.reduceLeDiff, Int.reduceLE, Int.reduceLT, Int.reduceNeg, Int.reduceEq, Int.reduceBEq, Int.reduceBNe, Int.reduceToNat, hx, hlt, hli]
         first | (refine And.intro ?_ ?_; exact r3; first | exact trivial | (simp only [go_sem, ↓reduceIte, reduceCtorEq, Nat.reduceLT, Nat.reduceEqDiff, Nat.reduceBEq, Nat.reduceAdd, Nat.reduceSub, Nat.reduceMul, Nat.reduceLeDiff, Int.reduceLE, Int.reduceLT, Int.reduceNeg, Int.reduceEq, Int.reduceBEq, Int.reduceBNe, Int.reduceToNat, hx, hlt, hli]; done)) | (refine And.intro (ACalls.args (k := ?_) ?_ ?_) ?_; rotate_left; exact r3; repeat' (first | exact trivial | exact Or.inl ⟨rfl, rfl⟩ | exact Or.inr rfl | apply And.intro))
       simp only [go_sem, ↓reduceIte, reduceCtorEq, Nat.reduceLT, Nat.reduceEqDiff, Nat.reduceBEq, Nat.reduceAdd, Nat.reduceSub, Nat.reduceMul, Nat.reduceLeDiff, Int.reduceLE, Int.reduceLT, Int.reduceNeg, Int.reduceEq, Int.reduceBEq, Int.reduceBNe, Int.reduceToNat, hx, hlt, hli])
    | (refine hK _ _ ?_; clear hK hC; clear K C)
    | (refine hK _ _ rfl ?_; clear hK hC; clear K C)
    | (refine hK _ _ (by simp only [crs, crsI, alfO, alfL, Nat.reduceLT]; rfl) ?_; clear hK hC; clear K C)
    | (refine AW.seqR fun K C hK hC => ?_; simp only [go_sem, ↓reduceIte, reduceCtorEq, Nat.reduceLT, Nat.reduceEqDiff, Nat.reduceBEq, Nat.reduceAdd, Nat.reduceSub, Nat.reduceMul, Nat.reduceLeDiff, Int.reduceLE, Int.reduceLT, Int.reduceNeg, Int.reduceEq, Int.reduceBEq, Int.reduceBNe, Int.reduceToNat, hx, hlt, hli])
    | (refine AW.seqD rfl fun K C hK hC => ?_; simp only [go_sem, ↓reduceIte, reduceCtorEq, Nat.reduceLT, Nat.reduceEqDiff, Nat.reduceBEq, Nat.reduceAdd, Nat.reduceSub, Nat.reduceMul, Nat.reduceLeDiff, Int.reduceLE, Int.reduceLT, Int.reduceNeg, Int.reduceEq, Int.reduceBEq, Int.reduceBNe, Int.reduceToNat, hx, hlt, hli])
    | (refine AW.reg fun K C hK hC => ?_; simp only [go_sem, ↓reduceIte, reduceCtorEq, Nat.reduceLT, Nat.reduceEqDiff, Nat.reduceBEq, Nat.reduceAdd, Nat.reduceSub, Nat.reduceMul, Nat.reduceLeDiff, Int.reduceLE, Int.reduceLT, Int.reduceNeg, Int.reduceEq, Int.reduceBEq, Int.reduceBNe, Int.reduceToNat, hx, hlt, hli])
    | (refine AW.regD rfl fun K C hK hC => ?_; simp only [go_sem, ↓reduceIte, reduceCtorEq, Nat.reduceLT, Nat.reduceEqDiff, Nat.reduceBEq, Nat.reduceAdd, Nat.reduceSub, Nat.reduceMul, Nat.reduceLeDiff, Int.reduceLE, Int.reduceLT, Int.reduceNeg, Int.reduceEq, Int.reduceBEq, Int.reduceBNe, Int.reduceToNat, hx, hlt, hli])
    | refine AW.seqS ?_
    | (refine AW.ret ?_; simp only [go_sem, ↓reduceIte, reduceCtorEq, Nat.reduceLT, Nat.reduceEqDiff, Nat.reduceBEq, Nat.reduceAdd, Nat.reduceSub, Nat.reduceMul, Nat.reduceLeDiff, Int.reduceLE, Int.reduceLT, Int.reduceNeg, Int.reduceEq, Int.reduceBEq, Int.reduceBNe, Int.reduceToNat, hx, hlt, hli])
    | (refine AW.cond rfl (fun h => ?_) (fun h => ?_) <;> (try simp only [decide_eq_true_eq, decide_eq_false_iff_not, bne_iff_ne, beq_iff_eq, bne_eq_false_iff_eq, beq_eq_false_iff_ne, ne_eq, ge_iff_le, gt_iff_lt, Bool.not_eq_true, Bool.not_eq_false, Bool.not_not, Bool.not_true, Bool.not_false, Int.not_le, Int.not_lt, not_true_eq_false, not_false_eq_true, reduceCtorEq, Bool.false_eq_true, Bool.not_eq_true', Bool.not_eq_false'] at h) <;> first | (exfalso; omega) | skip)
    | refine AW.skip ?_
    | refine AW.seq ?_
    | refine AW.block ?_
    | (refine AW.exit ?_; simp only [go_sem, ↓reduceIte, reduceCtorEq, Nat.reduceLT, Nat.reduceEqDiff, Nat.reduceBEq, Nat.reduceAdd, Nat.reduceSub, Nat.reduceMul, Nat.reduceLeDiff, Int.reduceLE, Int.reduceLT, Int.reduceNeg, Int.reduceEq, Int.reduceBEq, Int.reduceBNe, Int.reduceToNat, hx, hlt, hli])
    | (refine ite_on (fun h => ?_) (fun h => ?_) <;> (try simp only [decide_eq_true_eq, decide_eq_false_iff_not, bne_iff_ne, beq_iff_eq, bne_eq_false_iff_eq, beq_eq_false_iff_ne, ne_eq, ge_iff_le, gt_iff_lt, Bool.not_eq_true, Bool.not_eq_false, Bool.not_not, Bool.not_true, Bool.not_false, Int.not_le, Int.not_lt, not_true_eq_false, not_false_eq_true, reduceCtorEq, Bool.false_eq_true, Bool.not_eq_true', Bool.not_eq_false'] at h) <;> first | (exfalso; omega) | skip)
    | rw [thenN]
    | rw [blockN]
    | rw [scopeN]
    | refine AW.scope ?_
    | refine AW.label ?_
    | refine And.intro ?_ ?_
    | refine lcons rfl ?_
    | exact lGram _
    | exact lSeen _
    | exact lWord _
    | exact lSealed _
    | exact lRun _
    | exact lPerson _
    | exact lEvent _
    | exact lLeak _
    | exact lNum _
    | exact lOprn _
    | exact in64 (by omega) (by omega)
    | exact in32 (by omega) (by omega)
    | omega)
      all_goals (refine rB_eq ?_; simp only [Bool.true_and, decide_eq_true_eq, decide_eq_false_iff_not, Bool.false_eq_true, iff_false, false_iff, not_and, not_true_eq_false] at *; omega)
  · have hA : ∀ p ∈ w.regs.take 20, (p.length : Int) ≤ 100 := fun p hp => ha p (by rw [List.take_of_length_le (by omega)]; exact List.mem_of_mem_take hp)
    obtain rfl : k = w.regs.length := by omega
    rw [ok hA]
    unfold fewT
    clear ok no ha hA
    generalize fewB w.box = b1 at *
    generalize fewN w.net = b2 at *
    generalize fewPl w.people = b3 at *
    cases b1 <;> cases b2 <;> cases b3
    all_goals repeat' (first
    | (refine hC ?_ ?_ ?_ ?_ ?_
       rotate_left
       · rfl
       · simp only [go_sem, ↓reduceIte, reduceCtorEq, Nat.reduceLT, Nat.reduceEqDiff, Nat.reduceBEq, Nat.reduceAdd, Nat.reduceSub, Nat.reduceMul, Nat.reduceLeDiff, Int.reduceLE, Int.reduceLT, Int.reduceNeg, Int.reduceEq, Int.reduceBEq, Int.reduceBNe, Int.reduceToNat]
       · simp only [go_sem, ↓reduceIte, reduceCtorEq, Nat.reduceLT, Nat.reduceEqDiff, Nat.reduceBEq, Nat.reduceAdd, Nat.reduceSub, Nat.reduceMul, Nat.reduceLeDiff, Int.reduceLE, Int.reduceLT, Int.reduceNeg, Int.reduceEq, Int.reduceBEq, Int.reduceBNe, Int.reduceToNat]
         first | (refine And.intro ?_ ?_; exact r1; first | exact trivial | (simp only [go_sem, ↓reduceIte, reduceCtorEq, Nat.reduceLT, Nat.reduceEqDiff, Nat.reduceBEq, Nat.reduceAdd, Nat.reduceSub, Nat.reduceMul, Nat.reduceLeDiff, Int.reduceLE, Int.reduceLT, Int.reduceNeg, Int.reduceEq, Int.reduceBEq, Int.reduceBNe, Int.reduceToNat]; done)) | (refine And.intro (ACalls.args (k := ?_) ?_ ?_) ?_; rotate_left; exact r1; repeat' (first | exact trivial | exact Or.inl ⟨rfl, rfl⟩ | exact Or.inr rfl | apply And.intro))
       simp only [go_sem, ↓reduceIte, reduceCtorEq, Nat.reduceLT, Nat.reduceEqDiff, Nat.reduceBEq, Nat.reduceAdd, Nat.reduceSub, Nat.reduceMul, Nat.reduceLeDiff, Int.reduceLE, Int.reduceLT, Int.reduceNeg, Int.reduceEq, Int.reduceBEq, Int.reduceBNe, Int.reduceToNat])
    | (refine hC ?_ ?_ ?_ ?_ ?_
       rotate_left
       · rfl
       · simp only [go_sem, ↓reduceIte, reduceCtorEq, Nat.reduceLT, Nat.reduceEqDiff, Nat.reduceBEq, Nat.reduceAdd, Nat.reduceSub, Nat.reduceMul, Nat.reduceLeDiff, Int.reduceLE, Int.reduceLT, Int.reduceNeg, Int.reduceEq, Int.reduceBEq, Int.reduceBNe, Int.reduceToNat]
       · simp only [go_sem, ↓reduceIte, reduceCtorEq, Nat.reduceLT, Nat.reduceEqDiff, Nat.reduceBEq, Nat.reduceAdd, Nat.reduceSub, Nat.reduceMul, Nat.reduceLeDiff, Int.reduceLE, Int.reduceLT, Int.reduceNeg, Int.reduceEq, Int.reduceBEq, Int.reduceBNe, Int.reduceToNat]
         first | (refine And.intro ?_ ?_; exact r2; first | exact trivial | (simp only [go_sem, ↓reduceIte, reduceCtorEq, Nat.reduceLT, Nat.reduceEqDiff, Nat.reduceBEq, Nat.reduceAdd, Nat.reduceSub, Nat.reduceMul, Nat.reduceLeDiff, Int.reduceLE, Int.reduceLT, Int.reduceNeg, Int.reduceEq, Int.reduceBEq, Int.reduceBNe, Int.reduceToNat]; done)) | (refine And.intro (ACalls.args (k := ?_) ?_ ?_) ?_; rotate_left; exact r2; repeat' (first | exact trivial | exact Or.inl ⟨rfl, rfl⟩ | exact Or.inr rfl | apply And.intro))
       simp only [go_sem, ↓reduceIte, reduceCtorEq, Nat.reduceLT, Nat.reduceEqDiff, Nat.reduceBEq, Nat.reduceAdd, Nat.reduceSub, Nat.reduceMul, Nat.reduceLeDiff, Int.reduceLE, Int.reduceLT, Int.reduceNeg, Int.reduceEq, Int.reduceBEq, Int.reduceBNe, Int.reduceToNat])
    | (refine hC ?_ ?_ ?_ ?_ ?_
       rotate_left
       · rfl
       · simp only [go_sem, ↓reduceIte, reduceCtorEq, Nat.reduceLT, Nat.reduceEqDiff, Nat.reduceBEq, Nat.reduceAdd, Nat.reduceSub, Nat.reduceMul, Nat.reduceLeDiff, Int.reduceLE, Int.reduceLT, Int.reduceNeg, Int.reduceEq, Int.reduceBEq, Int.reduceBNe, Int.reduceToNat]
       · simp only [go_sem, ↓reduceIte, reduceCtorEq, Nat.reduceLT, Nat.reduceEqDiff, Nat.reduceBEq, Nat.reduceAdd, Nat.reduceSub, Nat.reduceMul, Nat.reduceLeDiff, Int.reduceLE, Int.reduceLT, Int.reduceNeg, Int.reduceEq, Int.reduceBEq, Int.reduceBNe, Int.reduceToNat]
         first | (refine And.intro ?_ ?_; exact r3; first | exact trivial | (simp only [go_sem, ↓reduceIte, reduceCtorEq, Nat.reduceLT, Nat.reduceEqDiff, Nat.reduceBEq, Nat.reduceAdd, Nat.reduceSub, Nat.reduceMul, Nat.reduceLeDiff, Int.reduceLE, Int.reduceLT, Int.reduceNeg, Int.reduceEq, Int.reduceBEq, Int.reduceBNe, Int.reduceToNat]; done)) | (refine And.intro (ACalls.args (k := ?_) ?_ ?_) ?_; rotate_left; exact r3; repeat' (first | exact trivial | exact Or.inl ⟨rfl, rfl⟩ | exact Or.inr rfl | apply And.intro))
       simp only [go_sem, ↓reduceIte, reduceCtorEq, Nat.reduceLT, Nat.reduceEqDiff, Nat.reduceBEq, Nat.reduceAdd, Nat.reduceSub, Nat.reduceMul, Nat.reduceLeDiff, Int.reduceLE, Int.reduceLT, Int.reduceNeg, Int.reduceEq, Int.reduceBEq, Int.reduceBNe, Int.reduceToNat])
    | (refine hK _ _ ?_; clear hK hC; clear K C)
    | (refine hK _ _ rfl ?_; clear hK hC; clear K C)
    | (refine hK _ _ (by simp only [crs, crsI, alfO, alfL, Nat.reduceLT]; rfl) ?_; clear hK hC; clear K C)
    | (refine AW.seqR fun K C hK hC => ?_; simp only [go_sem, ↓reduceIte, reduceCtorEq, Nat.reduceLT, Nat.reduceEqDiff, Nat.reduceBEq, Nat.reduceAdd, Nat.reduceSub, Nat.reduceMul, Nat.reduceLeDiff, Int.reduceLE, Int.reduceLT, Int.reduceNeg, Int.reduceEq, Int.reduceBEq, Int.reduceBNe, Int.reduceToNat])
    | (refine AW.seqD rfl fun K C hK hC => ?_; simp only [go_sem, ↓reduceIte, reduceCtorEq, Nat.reduceLT, Nat.reduceEqDiff, Nat.reduceBEq, Nat.reduceAdd, Nat.reduceSub, Nat.reduceMul, Nat.reduceLeDiff, Int.reduceLE, Int.reduceLT, Int.reduceNeg, Int.reduceEq, Int.reduceBEq, Int.reduceBNe, Int.reduceToNat])
    | (refine AW.reg fun K C hK hC => ?_; simp only [go_sem, ↓reduceIte, reduceCtorEq, Nat.reduceLT, Nat.reduceEqDiff, Nat.reduceBEq, Nat.reduceAdd, Nat.reduceSub, Nat.reduceMul, Nat.reduceLeDiff, Int.reduceLE, Int.reduceLT, Int.reduceNeg, Int.reduceEq, Int.reduceBEq, Int.reduceBNe, Int.reduceToNat])
    | (refine AW.regD rfl fun K C hK hC => ?_; simp only [go_sem, ↓reduceIte, reduceCtorEq, Nat.reduceLT, Nat.reduceEqDiff, Nat.reduceBEq, Nat.reduceAdd, Nat.reduceSub, Nat.reduceMul, Nat.reduceLeDiff, Int.reduceLE, Int.reduceLT, Int.reduceNeg, Int.reduceEq, Int.reduceBEq, Int.reduceBNe, Int.reduceToNat])
    | refine AW.seqS ?_
    | (refine AW.ret ?_; simp only [go_sem, ↓reduceIte, reduceCtorEq, Nat.reduceLT, Nat.reduceEqDiff, Nat.reduceBEq, Nat.reduceAdd, Nat.reduceSub, Nat.reduceMul, Nat.reduceLeDiff, Int.reduceLE, Int.reduceLT, Int.reduceNeg, Int.reduceEq, Int.reduceBEq, Int.reduceBNe, Int.reduceToNat])
    | (refine AW.cond rfl (fun h => ?_) (fun h => ?_) <;> (try simp only [decide_eq_true_eq, decide_eq_false_iff_not, bne_iff_ne, beq_iff_eq, bne_eq_false_iff_eq, beq_eq_false_iff_ne, ne_eq, ge_iff_le, gt_iff_lt, Bool.not_eq_true, Bool.not_eq_false, Bool.not_not, Bool.not_true, Bool.not_false, Int.not_le, Int.not_lt, not_true_eq_false, not_false_eq_true, reduceCtorEq, Bool.false_eq_true, Bool.not_eq_true', Bool.not_eq_false'] at h) <;> first | (exfalso; omega) | skip)
    | refine AW.skip ?_
    | refine AW.seq ?_
    | refine AW.block ?_
    | (refine AW.exit ?_; simp only [go_sem, ↓reduceIte, reduceCtorEq, Nat.reduceLT, Nat.reduceEqDiff, Nat.reduceBEq, Nat.reduceAdd, Nat.reduceSub, Nat.reduceMul, Nat.reduceLeDiff, Int.reduceLE, Int.reduceLT, Int.reduceNeg, Int.reduceEq, Int.reduceBEq, Int.reduceBNe, Int.reduceToNat])
    | (refine ite_on (fun h => ?_) (fun h => ?_) <;> (try simp only [decide_eq_true_eq, decide_eq_false_iff_not, bne_iff_ne, beq_iff_eq, bne_eq_false_iff_eq, beq_eq_false_iff_ne, ne_eq, ge_iff_le, gt_iff_lt, Bool.not_eq_true, Bool.not_eq_false, Bool.not_not, Bool.not_true, Bool.not_false, Int.not_le, Int.not_lt, not_true_eq_false, not_false_eq_true, reduceCtorEq, Bool.false_eq_true, Bool.not_eq_true', Bool.not_eq_false'] at h) <;> first | (exfalso; omega) | skip)
    | rw [thenN]
    | rw [blockN]
    | rw [scopeN]
    | refine AW.scope ?_
    | refine AW.label ?_
    | refine And.intro ?_ ?_
    | refine lcons rfl ?_
    | exact lGram _
    | exact lSeen _
    | exact lWord _
    | exact lSealed _
    | exact lRun _
    | exact lPerson _
    | exact lEvent _
    | exact lLeak _
    | exact lNum _
    | exact lOprn _
    | exact in64 (by omega) (by omega)
    | exact in32 (by omega) (by omega)
    | omega)
    all_goals (refine rB_eq ?_; simp only [Bool.true_and, decide_eq_true_eq, decide_eq_false_iff_not, Bool.false_eq_true, iff_false, false_iff, not_and, not_true_eq_false] at *; omega)
end Go.Proofs.YtokifenilhlgbaaGreatDoor.Abs
end

