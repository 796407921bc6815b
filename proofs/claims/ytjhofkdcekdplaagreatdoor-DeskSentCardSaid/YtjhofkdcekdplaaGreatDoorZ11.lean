/- Texts that were merged: L12s, Q03c. -/
import Derived.Test.YtjhofkdcekdplaaGreatDoorZ10
import Derived.Test.YtjhofkdcekdplaaGreatDoorZ5
import Derived.Test.YtjhofkdcekdplaaGreatDoorZ8
import Derived.Test.YtjhofkdcekdplaaGreatDoorZ4
section
/- What the desk's sending makes of a world. -/
set_option linter.unusedSimpArgs false
set_option linter.unusedVariables false
set_option maxRecDepth 100000
namespace Go.Proofs.YtjhofkdcekdplaaGreatDoor.Abs
open Go.RowKit
theorem formW_mk {w : Wld} (a1 : mayC w.conf = true) (a2 : rightB w.box = true) (a3 : w.box.room = w.conf.box) (a4 : rightN w.net = true) (a5 : w.net.room = w.conf.net) (b1 : rightPl w.people = true) (b2 : (w.people.length : Int) = w.conf.people + 1) (b3 : (w.regs.length : Int) = w.conf.regs) (b4 : 0 ≤ w.draws.next ∧ w.draws.next ≤ 1048576)
    (c1 : w.people.all (personB w.conf) = true) (c2 : w.regs.all shB = true) (c3 : w.net.seen.all shB = true) (c4 : w.net.grams.all gramB = true) : formW w = true := by
  unfold formW formA formB
  simp only [a1, a2, a3, a4, a5, b1, c1, c2, c3, c4, decide_eq_true b2, decide_eq_true b3, decide_eq_true b4, beq_self_eq_true, Bool.and_true]
theorem putL_len (m : Mssg) : (putL m).length ≤ 18 := by
  unfold putL
  split
  · rw [putM_length]; have := kindTags_len m.kind; omega
  · simp
theorem sendW_cases (w : Wld) (to : Int) (m : Mssg) : (mayM m = false ∧ sendW w to m = (w, 1)) ∨ (mayM m = true ∧ w.net.room ≤ (w.net.grams.length : Int) ∧ sendW w to m = (w, 10)) ∨
    (mayM m = true ∧ ¬ w.net.room ≤ (w.net.grams.length : Int) ∧ sendW w to m = ({ w with net := ⟨w.net.room, w.net.grams ++ [⟨to, putL m⟩], w.net.seen ++ [putL m]⟩ }, 0)) := by
  unfold sendW putE sendN
  cases hm : mayM m
  · exact .inl ⟨rfl, by simp⟩
  · by_cases hr : w.net.room ≤ (w.net.grams.length : Int)
    · exact .inr (.inl ⟨rfl, hr, by simp [hr]⟩)
    · exact .inr (.inr ⟨rfl, hr, by simp [hr]⟩)
theorem send_form {w : Wld} {to : Int} {l : List Int} (h : formW w = true) (hr : ¬ w.net.room ≤ (w.net.grams.length : Int)) (hl : l.length ≤ 64) : formW { w with net := ⟨w.net.room, w.net.grams ++ [⟨to, l⟩], w.net.seen ++ [l]⟩ } = true := by
  obtain ⟨a1, a2, a3, a4, a5, b1, b2, b3, b4, c1, c2, c3, c4⟩ := formW_iff h
  have a4' := of_decide_eq_true a4
  have hl' : ((l.length : Int) ≤ 64) := by omega
  refine formW_mk a1 a2 a3 (decide_eq_true ⟨a4'.1, a4'.2.1, ?_⟩) a5 b1 b2 b3 b4 c1 c2 ?_ ?_
  · simp only [List.length_append, List.length_singleton]; omega
  · simp only [List.all_append, c3, Bool.true_and, List.all_cons, List.all_nil, Bool.and_true]; exact decide_eq_true hl'
  · simp only [List.all_append, c4, Bool.true_and, List.all_cons, List.all_nil, Bool.and_true]; exact decide_eq_true hl'
end Go.Proofs.YtjhofkdcekdplaaGreatDoor.Abs
end
section
/- The reference of layer msg, over values without addresses: Get. -/
set_option linter.unusedSimpArgs false
set_option linter.unusedVariables false
set_option maxRecDepth 100000
namespace Go.Proofs.YtjhofkdcekdplaaGreatDoor.Abs
open Go.RowKit
def foldTo (K : Int) (R : List Fld) (j : Nat) : M7 := (R.take j).foldl setF (onlyK K)
theorem foldTo_next {K : Int} {R : List Fld} {j : Nat} {x : Fld} (hx : R[j]? = some x) : foldTo K R (j + 1) = setF (foldTo K R j) x := by
  unfold foldTo
  rw [List.take_add_one, hx]
  simp
theorem foldTo_kind (K : Int) (R : List Fld) (j : Nat) : (foldTo K R j).kind = K := foldl_kind _ _
theorem foldTo_all (K : Int) (R : List Fld) : foldTo K R R.length = foldM K R := by unfold foldTo foldM; rw [List.take_length]
set_option maxHeartbeats 8000000 in
set_option maxRecDepth 100000 in
theorem q03_get (l : List Int) : ACalls Tryz.prog 36 [.one (eWords l)] (.tup [.agg (eMssg (getM l).1), .one (i64 (getM l).2)]) := by
  refine ACalls.introF (fn := Tryz.f36) Tryz.func36 rfl rfl (by simp [Tryz.f36]) fun hf => ?_
  have hr := (fineWords (hf _ (by simp) : FineCA (.one (eWords l)))).2
  clear hf
  have h0 : ∀ x ∈ l, 0 ≤ x := fun x hx => (hr x hx).1
  have hread := getF_read l h0
  have hlen := getF_len h0
  have hq := q02_get l
  unfold Tryz.f36
  generalize hE : (getF l).2 = E at hq hread
  generalize hFF : (getF l).1 = F at hq hread hlen
  simp only [eWords, eFlds, eMssg] at *
  by_cases he : E = 0
  · have hG : getM l = finM F := by rw [getM_ok (by rw [hE, he]), hFF]
    have hflat : flatF F = l := by
      rcases hread with ⟨_, h2, _⟩ | ⟨_, h2⟩ | ⟨_, h2⟩
      · exact h2
      · omega
      · omega
    have he' : (E != 0) = false := by simp [he]
    subst he
    rw [hG]
    clear hG hread hE hFF
    cases hF0 : F with
    | nil =>
      subst hF0
      refine wk1 he' hq trivial _ ?_
      all_goals (repeat intro h)
      all_goals refine ⟨?_⟩
      rfl
    | cons f R =>
      obtain ⟨t, d⟩ := f
      have f0 : F[0]? = some (t, d) := by rw [hF0]; rfl
      have fl : 0 < F.length := by rw [hF0]; simp
      have fl0 : ((F.length : Int) == 0) = false := by rw [beq_eq_false_iff_ne]; omega
      by_cases t1 : t = 1
      · subst t1
        by_cases d1 : (d.length : Int) = 1
        · obtain ⟨K, rfl⟩ : ∃ K, d = [K] := ⟨_, getD_one (by omega)⟩
          by_cases hk : isKindB K = true
          · have hk1 := of_decide_eq_true hk
            have c1 : ¬ K < 1 := by omega
            have c2 : ¬ 9 < K := by omega
            have hFR : ∀ j, F[j + 1]? = R[j]? := fun j => by rw [hF0]; simp
            have hFl : F.length = R.length + 1 := by rw [hF0]; simp
            refine wk1 (And.intro he' (And.intro f0 (And.intro fl (And.intro fl0 (And.intro c1 (And.intro c2 (And.intro eFld.eq_1 (And.intro eWords.eq_1 eWord.eq_1)))))))) hq trivial _ ?_
            all_goals (repeat intro h)
            all_goals refine ⟨?_⟩
            refine AW.loopW (fun n σ => ∃ j : Nat, n = R.length - j ∧ j ≤ R.length ∧ (∀ g ∈ R.take j, hasT K g.1 = true) ∧ σ = ⟨136, (upd (upd (upd (upd (upd (fun _ => .junk) 0 (.one (.c (.row (l.map eWord))))) 2 (.one (.ptr 2 0))) 4 (.one (.c (.row (F.map eFld))))) 6 (.one (.ptr 6 0))) 7 (.one (.c (i64 ((j + 1 : Nat) : Int))))), (upd (upd (fun _ => none) 2 (some (.box [.c (u32 0), .c (u32 0), .c (u32 0), .c (u32 0), .c (u32 0), .c (u32 0), .c (u32 0)]))) 6 (some (.box ((eMssg (foldTo K R j)).map .c))))⟩) (n := R.length) _ ⟨0, rfl, Nat.zero_le _, by simp, rfl⟩ (by simp only [foldTo, List.take_zero, List.foldl_nil, onlyK, eMssg, List.map_cons, List.map_nil]; exact lz trivial) ?_
            rintro n σ ⟨j, rfl, hj, ht, rfl⟩
            have hkd := foldTo_kind K R j
            by_cases hlt : j < R.length
            · obtain ⟨x, hx⟩ : ∃ x, R[j]? = some x := ⟨_, List.getElem?_eq_getElem hlt⟩
              have hfx := (hFR j).trans hx
              have hnx := foldTo_next (K := K) hx
              have hli : ((j + 1 : Nat) : Int) < (F.length : Int) := by omega
              have hlj : j + 1 < F.length := by omega
              have hs := wrapI (x := ((j + 1 : Nat) : Int) + 1) (by omega) (by omega)
              obtain ⟨tt, dd⟩ := x
              have hh := q03_has K tt
              generalize foldTo K R j = M at *
              obtain ⟨mk, m1, m2, m3, m4, m5, m6⟩ := M
              simp only at hkd
              subst hkd
              simp only [eMssg, List.map_cons, List.map_nil]
              by_cases dd1 : (dd.length : Int) = 1
              · obtain ⟨v, rfl⟩ : ∃ v, dd = [v] := ⟨_, getD_one (by omega)⟩
                cases hT : hasT mk tt
                · rw [hT] at hh
                  have e : finM ((1, [mk]) :: R) = (zeroM, 2) := ref_fin_no hk (f := (tt, [v])) (List.mem_of_getElem? hx) (fun h => by rw [hT] at h; simp at h)
                  rw [e]
                  simp only [rB] at hh
                  refine wk1 (And.intro hli (And.intro hlj (And.intro hfx (And.intro eFld.eq_1 (And.intro eWords.eq_1 eWord.eq_1))))) hh trivial _ ?_
                  all_goals (repeat intro h)
                  all_goals refine ⟨?_⟩
                  all_goals rfl
                · rw [hT] at hh
                  have hnext : ∀ g ∈ R.take (j + 1), hasT mk g.1 = true := by
                    intro g hg
                    rw [List.take_add_one, hx] at hg
                    simp only [Option.toList_some, List.mem_append, List.mem_singleton] at hg
                    rcases hg with hg | rfl
                    · exact ht g hg
                    · exact hT
                  have hr7 := kindTags_ok mk tt (of_decide_eq_true hT)
                  simp only [rB] at hh
                  rcases tags hr7 with rfl | rfl | rfl | rfl | rfl | rfl <;> clear hr7
                  all_goals repeat' (first
    | (refine hC ?_ ?_ ?_ ?_ ?_
       rotate_left
       · rfl
       · simp only [go_sem, ↓reduceIte, reduceCtorEq, Nat.reduceLT, Nat.reduceEqDiff, Nat.reduceBEq, Nat.reduceAdd, Nat.reduceSub, Nat.reduceMul, Nat.reduceLeDiff, Int.reduceLE, Int.reduceLT, Int.reduceNeg, Int.reduceEq, Int.reduceBEq, Int.reduceBNe, Int.reduceToNat, hli, hlj, hfx, hs, eFld, eWords, eWord]
       · simp only [go_sem, ↓reduceIte, reduceCtorEq, Nat.reduceLT, Nat.reduceEqDiff, Nat.reduceBEq, Nat.reduceAdd, Nat.reduceSub, Nat.reduceMul, Nat.reduceLeDiff, Int.reduceLE, Int.reduceLT, Int.reduceNeg, Int.reduceEq, Int.reduceBEq, Int.reduceBNe, Int.reduceToNat, hli, hlj, hfx, hs, eFld, eWords, eWord]
         first | (refine And.intro ?_ ?_; exact hh; first | exact trivial | (simp only [go_sem, ↓reduceIte, reduceCtorEq, Nat.reduceLT, Nat.reduceEqDiff, Nat.reduceBEq, Nat.reduceAdd, Nat.reduceSub, Nat.reduceMul, Nat.reduceLeDiff, Int.reduceLE, Int.reduceLT, Int.reduceNeg, Int.reduceEq, Int.reduceBEq, Int.reduceBNe, Int.reduceToNat, hli, hlj, hfx, hs, eFld, eWords, eWord]; done)) | (refine And.intro (ACalls.args (k := ?_) ?_ ?_) ?_; rotate_left; exact hh; repeat' (first | exact trivial | exact Or.inl ⟨rfl, rfl⟩ | exact Or.inr rfl | apply And.intro))
       simp only [go_sem, ↓reduceIte, reduceCtorEq, Nat.reduceLT, Nat.reduceEqDiff, Nat.reduceBEq, Nat.reduceAdd, Nat.reduceSub, Nat.reduceMul, Nat.reduceLeDiff, Int.reduceLE, Int.reduceLT, Int.reduceNeg, Int.reduceEq, Int.reduceBEq, Int.reduceBNe, Int.reduceToNat, hli, hlj, hfx, hs, eFld, eWords, eWord])
    | (refine hK _ _ ?_; clear hK hC; clear K C)
    | (refine hK _ _ rfl ?_; clear hK hC; clear K C)
    | (refine hK _ _ (by simp only [crs, crsI, alfO, alfL, Nat.reduceLT]; rfl) ?_; clear hK hC; clear K C)
    | (refine AW.seqR fun K C hK hC => ?_; simp only [go_sem, ↓reduceIte, reduceCtorEq, Nat.reduceLT, Nat.reduceEqDiff, Nat.reduceBEq, Nat.reduceAdd, Nat.reduceSub, Nat.reduceMul, Nat.reduceLeDiff, Int.reduceLE, Int.reduceLT, Int.reduceNeg, Int.reduceEq, Int.reduceBEq, Int.reduceBNe, Int.reduceToNat, hli, hlj, hfx, hs, eFld, eWords, eWord])
    | (refine AW.seqD rfl fun K C hK hC => ?_; simp only [go_sem, ↓reduceIte, reduceCtorEq, Nat.reduceLT, Nat.reduceEqDiff, Nat.reduceBEq, Nat.reduceAdd, Nat.reduceSub, Nat.reduceMul, Nat.reduceLeDiff, Int.reduceLE, Int.reduceLT, Int.reduceNeg, Int.reduceEq, Int.reduceBEq, Int.reduceBNe, Int.reduceToNat, hli, hlj, hfx, hs, eFld, eWords, eWord])
    | (refine AW.reg fun K C hK hC => ?_; simp only [go_sem, ↓reduceIte, reduceCtorEq, Nat.reduceLT, Nat.reduceEqDiff, Nat.reduceBEq, Nat.reduceAdd, Nat.reduceSub, Nat.reduceMul, Nat.reduceLeDiff, Int.reduceLE, Int.reduceLT, Int.reduceNeg, Int.reduceEq, Int.reduceBEq, Int.reduceBNe, Int.reduceToNat, hli, hlj, hfx, hs, eFld, eWords, eWord])
    | (refine AW.regD rfl fun K C hK hC => ?_; simp only [go_sem, ↓reduceIte, reduceCtorEq, Nat.reduceLT, Nat.reduceEqDiff, Nat.reduceBEq, Nat.reduceAdd, Nat.reduceSub, Nat.reduceMul, Nat.reduceLeDiff, Int.reduceLE, Int.reduceLT, Int.reduceNeg, Int.reduceEq, Int.reduceBEq, Int.reduceBNe, Int.reduceToNat, hli, hlj, hfx, hs, eFld, eWords, eWord])
    | refine AW.seqS ?_
    | (refine AW.ret ?_; simp only [go_sem, ↓reduceIte, reduceCtorEq, Nat.reduceLT, Nat.reduceEqDiff, Nat.reduceBEq, Nat.reduceAdd, Nat.reduceSub, Nat.reduceMul, Nat.reduceLeDiff, Int.reduceLE, Int.reduceLT, Int.reduceNeg, Int.reduceEq, Int.reduceBEq, Int.reduceBNe, Int.reduceToNat, hli, hlj, hfx, hs, eFld, eWords, eWord])
    | (refine AW.cond rfl (fun h => ?_) (fun h => ?_) <;> (try simp only [decide_eq_true_eq, decide_eq_false_iff_not, bne_iff_ne, beq_iff_eq, bne_eq_false_iff_eq, beq_eq_false_iff_ne, ne_eq, ge_iff_le, gt_iff_lt, Bool.not_eq_true, Bool.not_eq_false, Bool.not_not, Bool.not_true, Bool.not_false, Int.not_le, Int.not_lt, not_true_eq_false, not_false_eq_true, reduceCtorEq, Bool.false_eq_true, Bool.not_eq_true', Bool.not_eq_false'] at h) <;> first | (exfalso; omega) | skip)
    | refine AW.skip ?_
    | refine AW.seq ?_
    | refine AW.block ?_
    | (refine AW.exit ?_; simp only [go_sem, ↓reduceIte, reduceCtorEq, Nat.reduceLT, Nat.reduceEqDiff, Nat.reduceBEq, Nat.reduceAdd, Nat.reduceSub, Nat.reduceMul, Nat.reduceLeDiff, Int.reduceLE, Int.reduceLT, Int.reduceNeg, Int.reduceEq, Int.reduceBEq, Int.reduceBNe, Int.reduceToNat, hli, hlj, hfx, hs, eFld, eWords, eWord])
    | (refine ite_on (fun h => ?_) (fun h => ?_) <;> (try simp only [decide_eq_true_eq, decide_eq_false_iff_not, bne_iff_ne, beq_iff_eq, bne_eq_false_iff_eq, beq_eq_false_iff_ne, ne_eq, ge_iff_le, gt_iff_lt, Bool.not_eq_true, Bool.not_eq_false, Bool.not_not, Bool.not_true, Bool.not_false, Int.not_le, Int.not_lt, not_true_eq_false, not_false_eq_true, reduceCtorEq, Bool.false_eq_true, Bool.not_eq_true', Bool.not_eq_false'] at h) <;> first | (exfalso; omega) | skip)
    | rw [thenN]
    | rw [blockN]
    | rw [scopeN]
    | refine AW.scope ?_
    | refine AW.label ?_
    | refine And.intro ?_ ?_
    | refine lcons rfl ?_
    | exact lGram _
    | exact lSeen _
    | exact lWord _
    | exact lSealed _
    | exact lRun _
    | exact lPerson _
    | exact lEvent _
    | exact lLeak _
    | exact lNum _
    | exact lOprn _
    | exact in64 (by omega) (by omega)
    | exact in32 (by omega) (by omega)
    | omega)
                  all_goals refine ⟨R.length - (j + 1), by omega, _, ⟨j + 1, rfl, by omega, hnext, rfl⟩, ?_⟩
                  all_goals rw [hnx]
                  all_goals simp only [setF, M7.set, List.getD_cons_zero, if_true, reduceIte, Int.reduceEq, eMssg, List.map_cons, List.map_nil]
                  all_goals exact lz trivial
              · have dd1' : ((dd.length : Int) != 1) = true := by simpa using dd1
                have e : finM ((1, [mk]) :: R) = (zeroM, 2) := ref_fin_no hk (f := (tt, dd)) (List.mem_of_getElem? hx) (fun h => dd1 (by have := h.1; simp only at this; omega))
                rw [e]
                refine wk1 (And.intro hli (And.intro hlj (And.intro hfx (And.intro dd1' (And.intro eFld.eq_1 (And.intro eWords.eq_1 eWord.eq_1)))))) trivial trivial _ ?_
                all_goals (repeat intro h)
                all_goals refine ⟨?_⟩
                all_goals rfl
            · obtain rfl : j = R.length := by omega
              rw [List.take_length] at ht
              rw [foldTo_all]
              have hli : ¬ ((R.length + 1 : Nat) : Int) < (F.length : Int) := by omega
              have hfin := ref_fin hk ht l (by rw [← hF0]; exact hflat)
              have hp := q03_put (foldM K R)
              have hsm := q01_same (putL (foldM K R)) l
              rw [hfin]
              unfold sameB
              generalize foldM K R = M at *
              generalize putE M = pe at *
              simp only [eWords, eMssg, rB] at *
              by_cases hs : putL M = l
              · rw [decide_eq_true hs] at hsm ⊢
                refine wk0 hli (And.intro hp hsm) trivial
              · rw [decide_eq_false hs] at hsm ⊢
                refine wk1 hli (And.intro hp hsm) trivial _ ?_
                all_goals (repeat intro h)
                all_goals refine ⟨?_⟩
                all_goals rfl
          · have hk' : isKindB K = false := by simpa using hk
            have hn := of_decide_eq_false hk'
            have e : finM ((1, [K]) :: R) = (zeroM, 4) := finM_bad (decide_eq_false fun h => hn (by simpa using h.2.2))
            rw [e]
            by_cases c1 : K < 1
            · refine wk1 (And.intro he' (And.intro f0 (And.intro fl (And.intro fl0 (And.intro c1 (And.intro eFld.eq_1 (And.intro eWords.eq_1 eWord.eq_1))))))) hq trivial _ ?_
              all_goals (repeat intro h)
              all_goals refine ⟨?_⟩
              all_goals rfl
            · have c2 : 9 < K := by omega
              refine wk1 (And.intro he' (And.intro f0 (And.intro fl (And.intro fl0 (And.intro c1 (And.intro c2 (And.intro eFld.eq_1 (And.intro eWords.eq_1 eWord.eq_1)))))))) hq trivial _ ?_
              all_goals (repeat intro h)
              all_goals refine ⟨?_⟩
              all_goals rfl
        · have d1' : ((d.length : Int) != 1) = true := by simpa using d1
          have e : finM ((1, d) :: R) = (zeroM, 4) := finM_bad (decide_eq_false fun h => d1 (by have := h.2.1; simp only at this; omega))
          rw [e]
          refine wk1 (And.intro he' (And.intro f0 (And.intro fl (And.intro fl0 (And.intro d1' (And.intro eFld.eq_1 (And.intro eWords.eq_1 eWord.eq_1))))))) hq trivial _ ?_
          all_goals (repeat intro h)
          all_goals refine ⟨?_⟩
          all_goals rfl
      · have t1' : (t != 1) = true := by simpa using t1
        have e : finM ((t, d) :: R) = (zeroM, 4) := finM_bad (decide_eq_false fun h => t1 h.1)
        rw [e]
        refine wk1 (And.intro he' (And.intro f0 (And.intro fl (And.intro fl0 (And.intro t1' (And.intro eFld.eq_1 (And.intro eWords.eq_1 eWord.eq_1))))))) hq trivial _ ?_
        all_goals (repeat intro h)
        all_goals refine ⟨?_⟩
        all_goals rfl
  · have e : getM l = (zeroM, E) := by rw [getM_err (by rw [hE]; exact he), hE]
    rw [e]
    have he' : (E != 0) = true := by simpa using he
    refine wk1 he' hq trivial _ ?_
    all_goals (repeat intro h)
    all_goals refine ⟨?_⟩
    all_goals rfl
end Go.Proofs.YtjhofkdcekdplaaGreatDoor.Abs
end
