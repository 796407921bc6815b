/- Texts that were merged: L12q, L12o, L17m, EqMsg, Q03c. -/
import Derived.Test.YtaoijgapnmmpoaaGreatDoorZ9
import Derived.Test.YtaoijgapnmmpoaaGreatDoorZ11
import Derived.Test.YtaoijgapnmmpoaaGreatDoorZ10
import Derived.Test.YtaoijgapnmmpoaaGreatDoorZ4
import Derived.Test.YtaoijgapnmmpoaaGreatDoorZ6
import Derived.Test.YtaoijgapnmmpoaaGreatDoorZ8
set_option linter.unusedSimpArgs false
set_option linter.unusedVariables false
set_option maxHeartbeats 8000000
set_option maxRecDepth 100000
namespace Go.Proofs.YtaoijgapnmmpoaaGreatDoor.Abs
open Go.RowKit
section
end
end Go.Proofs.YtaoijgapnmmpoaaGreatDoor.Abs
section
end
namespace Go.Proofs.YtaoijgapnmmpoaaGreatDoor.Abs
open Go.RowKit
section
theorem SmallN.step1 {N:Nat}{w:Wld}(h:SmallN (N+1) w)(g:Gram)(l:List Int)(PP:List Person)(hP:PP.length=w.people.length)(e:Event):SmallN N {w with net:=⟨w.net.room,w.net.grams++[g],w.net.seen++[l]⟩,people:=PP,log:=w.log++[e]}:=by
 refine⟨?_,h.plain,?_,?_,?_,?_,?_⟩
 ·show w.box.entries.length+N<_;have:=h.ent;omega
 ·show(w.net.grams++[g]).length+N<_;have:=h.grams;rw[List.length_append,List.length_singleton];omega
 ·show(w.net.seen++[l]).length+N<_;have:=h.seen;rw[List.length_append,List.length_singleton];omega
 ·show PP.length<_;have:=h.people;omega
 ·show(w.log++[e]).length+N<_;have:=h.log;rw[List.length_append,List.length_singleton];omega
 ·show 0≤w.draws.next∧w.draws.next+(N:Int)<_;have:=h.next;omega
theorem shareB_seen {w:Wld}{me:Int}{m:Mssg}(hf:formW w=true)(h1:1≤me)(h2:me<(w.people.length:Int))(h:(shareBW w me m).2=0):∃(i j:Nat) (p P:Person) (r s:Run) (b:Prt) (PP:List Person) (l:List Int),me=i∧w.people[i]?=some p∧p.runs[j]?=some r∧P.runs[j]?=some s∧(shareBW w me m).1={w with net:=⟨w.net.room,w.net.grams++[⟨r.peer,l⟩],w.net.seen++[l]⟩,people:=PP,log:=w.log++[⟨4,2,2,r.peer,me,b.k,0,r.m,r.mine,p.clock⟩]}∧PP=w.people.set i P∧P={p with runs:=p.runs.set j s}∧formW (shareBW w me m).1=true∧openW w p.key 8 m.more=(b,true)∧b.n=r.mine∧r.m=m.run∧r.state=1∧s.state=3∧s.k=b.k∧getM l=((⟨9,m.run,0,0,0,m.box,0⟩:Mssg),0):=by
 have hm:mayM (⟨9,m.run,0,0,0,m.box,0⟩:Mssg)=true:=by simp[mayM,fitsM,hasT,kindTags,isKindB,M7.word]
 obtain⟨i,j,p,r,b,e1,e2,e3,e4,e5,e6,e7,e8,e9,e10,er,e11⟩:=shareBW_ok hf h1 h2 hm h
 have hj:=(List.getElem?_eq_some_iff.1 e4).1
 obtain⟨_,a2,_,a4,_,b1,_,_,b4,_⟩:=formW_iff hf
 have a4':=of_decide_eq_true a4
 have r6:=roomW_iff er
 have hL:putL (⟨9,m.run,0,0,0,m.box,0⟩:Mssg)=putM ⟨9,m.run,0,0,0,m.box,0⟩:=by unfold putL;rw[if_pos hm]
 refine⟨i,j,p,{p with runs:=p.runs.set j {r with k:=b.k,state:=3} },r,{r with k:=b.k,state:=3},b,w.people.set i {p with runs:=p.runs.set j {r with k:=b.k,state:=3} },putL ⟨9,m.run,0,0,0,m.box,0⟩,e1,e2,e4,?_,?_,rfl,rfl,?_,e9,e10,e8,e7,rfl,rfl,by rw[hL];exact get_put hm⟩
 ·show(p.runs.set j _)[j]?=_;rw[List.getElem?_set];simp[hj]
 ·rw[e11];simp[actW]
 ·rw[e11]
  refine act_form hf (by show w.draws.next+((0:Nat):Int)≤_;have:=b4.2;omega) (by simpa using a2) (by show((w.net.grams.length+1:Nat):Int)≤_;omega) (by simp;exact putL_le _) e2 ((right_names b1).2 i p e2) (run_form (person_form hf e2) e4 rfl rfl (.inr (.inr rfl)))
theorem shareB_rest {w:Wld}{i j:Nat}{p:Person}{s:Run}{m:Mssg}(hf:formW w=true)(h1:1≤(i:Int))(hx:w.people[i]?=some p)(hs:p.runs[j]?=some s)(hn:s.state≠1):(shareBW w (i:Int) m).1.people.length=w.people.length∧∃Q:Person,(shareBW w (i:Int) m).1.people[i]?=some Q∧Q.runs.length=p.runs.length∧Q.runs[j]?=some s:=by
 by_cases h:(shareBW w (i:Int) m).2=0
 ·obtain⟨i',k,p',P,r,s',b,PP,l,e1,e2,e3,e4,e5,e6,e7,_,_,_,_,e8,_⟩:=shareB_seen hf h1 (by have:=(List.getElem?_eq_some_iff.1 hx).1;omega) h
  have:i=i':=by omega
  subst this
  rw[hx]at e2;cases e2
  have hi:=(List.getElem?_eq_some_iff.1 hx).1
  rw[e5,e6]
  refine⟨by simp,P,by simp[hi],by rw[e7];simp,?_⟩
  rw[e7]
  show(p.runs.set k s')[j]?=some s
  rw[List.getElem?_set,if_neg ?_]
  ·exact hs
  ·rintro rfl
   rw[hs]at e3;cases e3
   exact hn e8
 ·rw[shareBW_err h]
  exact⟨rfl,p,hx,rfl,hs⟩
end
section
theorem eqr_mssg (a0 a1 a2 a3 a4 a5 a6 b0 b1 b2 b3 b4 b5 b6:Int)(w:World):(Op.equal 41 (.agg #[.int .u32 a0,.int .u32 a1,.int .u32 a2,.int .u32 a3,.int .u32 a4,.int .u32 a5,.int .u32 a6]) (.agg #[.int .u32 b0,.int .u32 b1,.int .u32 b2,.int .u32 b3,.int .u32 b4,.int .u32 b5,.int .u32 b6])).run Tryz.prog w=.ok ((a0==b0)&&((a1==b1)&&((a2==b2)&&((a3==b3)&&((a4==b4)&&((a5==b5)&&((a6==b6)))))))) w:=by
 show(Op.equalIn 10000 41 (.agg #[.int .u32 a0,.int .u32 a1,.int .u32 a2,.int .u32 a3,.int .u32 a4,.int .u32 a5,.int .u32 a6]) (.agg #[.int .u32 b0,.int .u32 b1,.int .u32 b2,.int .u32 b3,.int .u32 b4,.int .u32 b5,.int .u32 b6])).run Tryz.prog w=_
 cases h0:(a0==b0)with
 |false=>go_simp<;>simp[h0]
 |true=>
  cases h1:(a1==b1)with
  |false=>go_simp<;>simp[h0,h1]
  |true=>
   cases h2:(a2==b2)with
   |false=>go_simp<;>simp[h0,h1,h2]
   |true=>
    cases h3:(a3==b3)with
    |false=>go_simp<;>simp[h0,h1,h2,h3]
    |true=>
     cases h4:(a4==b4)with
     |false=>go_simp<;>simp[h0,h1,h2,h3,h4]
     |true=>
      cases h5:(a5==b5)with
      |false=>go_simp<;>simp[h0,h1,h2,h3,h4,h5]
      |true=>
       cases h6:(a6==b6)with
       |false=>go_simp<;>simp[h0,h1,h2,h3,h4,h5,h6]
       |true=>
        go_simp<;>simp[h0,h1,h2,h3,h4,h5,h6]
theorem eqok_mssg:EqOK Tryz.prog 41 [some (some .u32),some (some .u32),some (some .u32),some (some .u32),some (some .u32),some (some .u32),some (some .u32)]:=by
 refine⟨by kernel_rfl,fun us0 vs0 w p0 q0=>?_⟩
 obtain⟨a0,us1,rfl,p1⟩:=sh_int p0
 obtain⟨b0,vs1,rfl,q1⟩:=sh_int q0
 obtain⟨a1,us2,rfl,p2⟩:=sh_int p1
 obtain⟨b1,vs2,rfl,q2⟩:=sh_int q1
 obtain⟨a2,us3,rfl,p3⟩:=sh_int p2
 obtain⟨b2,vs3,rfl,q3⟩:=sh_int q2
 obtain⟨a3,us4,rfl,p4⟩:=sh_int p3
 obtain⟨b3,vs4,rfl,q4⟩:=sh_int q3
 obtain⟨a4,us5,rfl,p5⟩:=sh_int p4
 obtain⟨b4,vs5,rfl,q5⟩:=sh_int q4
 obtain⟨a5,us6,rfl,p6⟩:=sh_int p5
 obtain⟨b5,vs6,rfl,q6⟩:=sh_int q5
 obtain⟨a6,us7,rfl,p7⟩:=sh_int p6
 obtain⟨b6,vs7,rfl,q7⟩:=sh_int q6
 obtain rfl:=sh_nil p7
 obtain rfl:=sh_nil q7
 rw[eqr_mssg]
 simp[eqVs,eqV]
end
section
def foldTo (K:Int)(R:List Fld)(j:Nat):M7:=(R.take j).foldl setF (onlyK K)
theorem foldTo_next {K:Int}{R:List Fld}{j:Nat}{x:Fld}(hx:R[j]?=some x):foldTo K R (j+1)=setF (foldTo K R j) x:=by
 unfold foldTo
 rw[List.take_add_one,hx]
 simp
theorem foldTo_kind (K:Int)(R:List Fld)(j:Nat):(foldTo K R j).kind=K:=foldl_kind _ _
theorem foldTo_all (K:Int)(R:List Fld):foldTo K R R.length=foldM K R:=by unfold foldTo foldM;rw[List.take_length]
theorem q03_get (l : List Int) : ACalls Tryz.prog 15 [.one (eWords l)] (.tup [.agg (eMssg (getM l).1), .one (i64 (getM l).2)]) := by
  refine ACalls.introF (fn := Tryz.f15) Tryz.func15 rfl rfl (by simp [Tryz.f15]) fun hf => ?_
  have hr := (fineWords (hf _ (by simp) : FineCA (.one (eWords l)))).2
  clear hf
  have h0 : ∀ x ∈ l, 0 ≤ x := fun x hx => (hr x hx).1
  have hread := getF_read l h0
  have hlen := getF_len h0
  have hq := q02_get l
  unfold Tryz.f15
  generalize hE : (getF l).2 = E at hq hread
  generalize hFF : (getF l).1 = F at hq hread hlen
  simp only [eWords, eFlds, eMssg] at *
  by_cases he : E = 0
  · have hG : getM l = finM F := by rw [getM_ok (by rw [hE, he]), hFF]
    have hflat : flatF F = l := by
      rcases hread with ⟨_, h2, _⟩ | ⟨_, h2⟩ | ⟨_, h2⟩
      · exact h2
      · omega
      · omega
    have he' : (E != 0) = false := by simp [he]
    subst he
    rw [hG]
    clear hG hread hE hFF
    cases hF0 : F with
    | nil =>
      subst hF0
      refine wk he' hq T0 (J2 ?_ T0)
      all_goals ((repeat intro h); refine ⟨?_⟩)
      rfl
    | cons f R =>
      obtain ⟨t, d⟩ := f
      have f0 : F[0]? = some (t, d) := by rw [hF0]; rfl
      have fl : 0 < F.length := by rw [hF0]; simp
      have fl0 : ((F.length : Int) == 0) = false := by rw [beq_eq_false_iff_ne]; omega
      by_cases t1 : t = 1
      · subst t1
        by_cases d1 : (d.length : Int) = 1
        · obtain ⟨K, rfl⟩ : ∃ K, d = [K] := ⟨_, getD_one (by omega)⟩
          by_cases hk : isKindB K = true
          · have hk1 := of_decide_eq_true hk
            have c1 : ¬ K < 1 := by omega
            have c2 : ¬ 9 < K := by omega
            have hFR : ∀ j, F[j + 1]? = R[j]? := fun j => by rw [hF0]; simp
            have hFl : F.length = R.length + 1 := by rw [hF0]; simp
            refine wk (J9 he' f0 fl fl0 c1 c2 eFld.eq_1 eWords.eq_1 eWord.eq_1) hq T0 (J2 ?_ T0)
            all_goals ((repeat intro h); refine ⟨?_⟩)
            refine AW.loopW (fun n σ => ∃ j : Nat, n = R.length - j ∧ j ≤ R.length ∧ (∀ g ∈ R.take j, hasT K g.1 = true) ∧ σ = ⟨136, (upd (upd (upd (upd (upd (fun _ => .junk) 0 (.one (.c (.row (l.map eWord))))) 2 (.one (.ptr 2 0))) 4 (.one (.c (.row (F.map eFld))))) 6 (.one (.ptr 6 0))) 7 (.one (.c (i64 ((j + 1 : Nat) : Int))))), (upd (upd (fun _ => none) 2 (some (.box [.c (u32 0), .c (u32 0), .c (u32 0), .c (u32 0), .c (u32 0), .c (u32 0), .c (u32 0)]))) 6 (some (.box ((eMssg (foldTo K R j)).map .c))))⟩) (n := R.length) _ ⟨0, rfl, Nat.zero_le _, by simp, rfl⟩ (by simp only [foldTo, List.take_zero, List.foldl_nil, onlyK, eMssg, List.map_cons, List.map_nil]; exact lz T0) ?_
            rintro n σ ⟨j, rfl, hj, ht, rfl⟩
            have hkd := foldTo_kind K R j
            by_cases hlt : j < R.length
            · obtain ⟨x, hx⟩ : ∃ x, R[j]? = some x := ⟨_, List.getElem?_eq_getElem hlt⟩
              have hfx := (hFR j).trans hx
              have hnx := foldTo_next (K := K) hx
              have hli : ((j + 1 : Nat) : Int) < (F.length : Int) := by omega
              have hlj : j + 1 < F.length := by omega
              have hs := wrapI (x := ((j + 1 : Nat) : Int) + 1) (by omega) (by omega)
              obtain ⟨tt, dd⟩ := x
              have hh := q03_has K tt
              generalize foldTo K R j = M at *
              obtain ⟨mk, m1, m2, m3, m4, m5, m6⟩ := M
              simp only at hkd
              subst hkd
              simp only [eMssg, List.map_cons, List.map_nil]
              by_cases dd1 : (dd.length : Int) = 1
              · obtain ⟨v, rfl⟩ : ∃ v, dd = [v] := ⟨_, getD_one (by omega)⟩
                cases hT : hasT mk tt
                · rw [hT] at hh
                  have e : finM ((1, [mk]) :: R) = (zeroM, 2) := ref_fin_no hk (f := (tt, [v])) (List.mem_of_getElem? hx) (fun h => by rw [hT] at h; simp at h)
                  rw [e]
                  simp only [rB] at hh
                  refine wk (J6 hli hlj hfx eFld.eq_1 eWords.eq_1 eWord.eq_1) hh T0 (J2 ?_ T0)
                  all_goals ((repeat intro h); refine ⟨?_⟩)
                  all_goals rfl
                · rw [hT] at hh
                  have hnext : ∀ g ∈ R.take (j + 1), hasT mk g.1 = true := by
                    intro g hg
                    rw [List.take_add_one, hx] at hg
                    simp only [Option.toList_some, List.mem_append, List.mem_singleton] at hg
                    rcases hg with hg | rfl
                    · exact ht g hg
                    · exact hT
                  have hr7 := kindTags_ok mk tt (of_decide_eq_true hT)
                  simp only [rB] at hh
                  rcases tags hr7 with rfl | rfl | rfl | rfl | rfl | rfl <;> clear hr7
                  all_goals repeat' (first
    | (refine hC ?_ ?_ ?_ ?_ ?_
       rotate_left
       · rfl
       · simp only [go_sem, ↓reduceIte, reduceCtorEq, Nat.reduceLT, Nat.reduceEqDiff, Nat.reduceBEq, Nat.reduceAdd, Nat.reduceSub, Nat.reduceMul, Nat.reduceLeDiff, Int.reduceLE, Int.reduceLT, Int.reduceNeg, Int.reduceEq, Int.reduceBEq, Int.reduceBNe, Int.reduceToNat, hli, hlj, hfx, hs, eFld, eWords, eWord]
       · simp only [go_sem, ↓reduceIte, reduceCtorEq, Nat.reduceLT, Nat.reduceEqDiff, Nat.reduceBEq, Nat.reduceAdd, Nat.reduceSub, Nat.reduceMul, Nat.reduceLeDiff, Int.reduceLE, Int.reduceLT, Int.reduceNeg, Int.reduceEq, Int.reduceBEq, Int.reduceBNe, Int.reduceToNat, hli, hlj, hfx, hs, eFld, eWords, eWord]
         first | (refine And.intro ?_ ?_; exact hh; first | exact trivial | (simp only [go_sem, ↓reduceIte, reduceCtorEq, Nat.reduceLT, Nat.reduceEqDiff, Nat.reduceBEq, Nat.reduceAdd, Nat.reduceSub, Nat.reduceMul, Nat.reduceLeDiff, Int.reduceLE, Int.reduceLT, Int.reduceNeg, Int.reduceEq, Int.reduceBEq, Int.reduceBNe, Int.reduceToNat, hli, hlj, hfx, hs, eFld, eWords, eWord]; done)) | (refine And.intro (ACalls.args (k := ?_) ?_ ?_) ?_; rotate_left; exact hh; repeat' (first | exact trivial | exact Or.inl ⟨rfl, rfl⟩ | exact Or.inr rfl | apply And.intro))
       simp only [go_sem, ↓reduceIte, reduceCtorEq, Nat.reduceLT, Nat.reduceEqDiff, Nat.reduceBEq, Nat.reduceAdd, Nat.reduceSub, Nat.reduceMul, Nat.reduceLeDiff, Int.reduceLE, Int.reduceLT, Int.reduceNeg, Int.reduceEq, Int.reduceBEq, Int.reduceBNe, Int.reduceToNat, hli, hlj, hfx, hs, eFld, eWords, eWord])
    | (refine hK _ _ ?_; clear hK hC; clear K C)
    | (refine hK _ _ rfl ?_; clear hK hC; clear K C)
    | (refine hK _ _ (by simp only [crs, crsI, alfO, alfL, Nat.reduceLT]; rfl) ?_; clear hK hC; clear K C)
    | (refine AW.seqR fun K C hK hC => ?_; simp only [go_sem, ↓reduceIte, reduceCtorEq, Nat.reduceLT, Nat.reduceEqDiff, Nat.reduceBEq, Nat.reduceAdd, Nat.reduceSub, Nat.reduceMul, Nat.reduceLeDiff, Int.reduceLE, Int.reduceLT, Int.reduceNeg, Int.reduceEq, Int.reduceBEq, Int.reduceBNe, Int.reduceToNat, hli, hlj, hfx, hs, eFld, eWords, eWord])
    | (refine AW.seqD rfl fun K C hK hC => ?_; simp only [go_sem, ↓reduceIte, reduceCtorEq, Nat.reduceLT, Nat.reduceEqDiff, Nat.reduceBEq, Nat.reduceAdd, Nat.reduceSub, Nat.reduceMul, Nat.reduceLeDiff, Int.reduceLE, Int.reduceLT, Int.reduceNeg, Int.reduceEq, Int.reduceBEq, Int.reduceBNe, Int.reduceToNat, hli, hlj, hfx, hs, eFld, eWords, eWord])
    | (refine AW.reg fun K C hK hC => ?_; simp only [go_sem, ↓reduceIte, reduceCtorEq, Nat.reduceLT, Nat.reduceEqDiff, Nat.reduceBEq, Nat.reduceAdd, Nat.reduceSub, Nat.reduceMul, Nat.reduceLeDiff, Int.reduceLE, Int.reduceLT, Int.reduceNeg, Int.reduceEq, Int.reduceBEq, Int.reduceBNe, Int.reduceToNat, hli, hlj, hfx, hs, eFld, eWords, eWord])
    | (refine AW.regD rfl fun K C hK hC => ?_; simp only [go_sem, ↓reduceIte, reduceCtorEq, Nat.reduceLT, Nat.reduceEqDiff, Nat.reduceBEq, Nat.reduceAdd, Nat.reduceSub, Nat.reduceMul, Nat.reduceLeDiff, Int.reduceLE, Int.reduceLT, Int.reduceNeg, Int.reduceEq, Int.reduceBEq, Int.reduceBNe, Int.reduceToNat, hli, hlj, hfx, hs, eFld, eWords, eWord])
    | refine AW.seqS ?_
    | (refine AW.ret ?_; simp only [go_sem, ↓reduceIte, reduceCtorEq, Nat.reduceLT, Nat.reduceEqDiff, Nat.reduceBEq, Nat.reduceAdd, Nat.reduceSub, Nat.reduceMul, Nat.reduceLeDiff, Int.reduceLE, Int.reduceLT, Int.reduceNeg, Int.reduceEq, Int.reduceBEq, Int.reduceBNe, Int.reduceToNat, hli, hlj, hfx, hs, eFld, eWords, eWord])
    | (refine AW.cond rfl (fun h => ?_) (fun h => ?_) <;> (try simp only [decide_eq_true_eq, decide_eq_false_iff_not, bne_iff_ne, beq_iff_eq, bne_eq_false_iff_eq, beq_eq_false_iff_ne, ne_eq, ge_iff_le, gt_iff_lt, Bool.not_eq_true, Bool.not_eq_false, Bool.not_not, Bool.not_true, Bool.not_false, Int.not_le, Int.not_lt, not_true_eq_false, not_false_eq_true, reduceCtorEq, Bool.false_eq_true, Bool.not_eq_true', Bool.not_eq_false'] at h) <;> first | (exfalso; omega) | skip)
    | refine AW.skip ?_
    | refine AW.seq ?_
    | refine AW.block ?_
    | (refine AW.exit ?_; simp only [go_sem, ↓reduceIte, reduceCtorEq, Nat.reduceLT, Nat.reduceEqDiff, Nat.reduceBEq, Nat.reduceAdd, Nat.reduceSub, Nat.reduceMul, Nat.reduceLeDiff, Int.reduceLE, Int.reduceLT, Int.reduceNeg, Int.reduceEq, Int.reduceBEq, Int.reduceBNe, Int.reduceToNat, hli, hlj, hfx, hs, eFld, eWords, eWord])
    | (refine ite_on (fun h => ?_) (fun h => ?_) <;> (try simp only [decide_eq_true_eq, decide_eq_false_iff_not, bne_iff_ne, beq_iff_eq, bne_eq_false_iff_eq, beq_eq_false_iff_ne, ne_eq, ge_iff_le, gt_iff_lt, Bool.not_eq_true, Bool.not_eq_false, Bool.not_not, Bool.not_true, Bool.not_false, Int.not_le, Int.not_lt, not_true_eq_false, not_false_eq_true, reduceCtorEq, Bool.false_eq_true, Bool.not_eq_true', Bool.not_eq_false'] at h) <;> first | (exfalso; omega) | skip)
    | rw [thenN]
    | rw [blockN]
    | rw [scopeN]
    | refine AW.scope ?_
    | refine AW.label ?_
    | refine And.intro ?_ ?_
    | refine lcons rfl ?_
    | exact lGram _
    | exact lSeen _
    | exact lWord _
    | exact lSealed _
    | exact lRun _
    | exact lPerson _
    | exact lEvent _
    | exact lLeak _
    | exact lNum _
    | exact lOprn _
    | exact in64 (by omega) (by omega)
    | exact in32 (by omega) (by omega)
    | omega)
                  all_goals refine ⟨R.length - (j + 1), by omega, _, ⟨j + 1, rfl, by omega, hnext, rfl⟩, ?_⟩
                  all_goals rw [hnx]
                  all_goals simp only [setF, M7.set, List.getD_cons_zero, if_true, reduceIte, Int.reduceEq, eMssg, List.map_cons, List.map_nil]
                  all_goals exact lz T0
              · have dd1' : ((dd.length : Int) != 1) = true := by simpa using dd1
                have e : finM ((1, [mk]) :: R) = (zeroM, 2) := ref_fin_no hk (f := (tt, dd)) (List.mem_of_getElem? hx) (fun h => dd1 (by have := h.1; simp only at this; omega))
                rw [e]
                refine wk (J7 hli hlj hfx dd1' eFld.eq_1 eWords.eq_1 eWord.eq_1) T0 T0 (J2 ?_ T0)
                all_goals ((repeat intro h); refine ⟨?_⟩)
                all_goals rfl
            · obtain rfl : j = R.length := by omega
              rw [List.take_length] at ht
              rw [foldTo_all]
              have hli : ¬ ((R.length + 1 : Nat) : Int) < (F.length : Int) := by omega
              have hfin := ref_fin hk ht l (by rw [← hF0]; exact hflat)
              have hp := q03_put (foldM K R)
              have hsm := q01_same (putL (foldM K R)) l
              rw [hfin]
              unfold sameB
              generalize foldM K R = M at *
              generalize putE M = pe at *
              simp only [eWords, eMssg, rB] at *
              by_cases hs : putL M = l
              · rw [decide_eq_true hs] at hsm ⊢
                refine wk hli (J2 hp hsm) T0 T0
              · rw [decide_eq_false hs] at hsm ⊢
                refine wk hli (J2 hp hsm) T0 (J2 ?_ T0)
                all_goals ((repeat intro h); refine ⟨?_⟩)
                all_goals rfl
          · have hk' : isKindB K = false := by simpa using hk
            have hn := of_decide_eq_false hk'
            have e : finM ((1, [K]) :: R) = (zeroM, 4) := finM_bad (decide_eq_false fun h => hn (by simpa using h.2.2))
            rw [e]
            by_cases c1 : K < 1
            · refine wk (J8 he' f0 fl fl0 c1 eFld.eq_1 eWords.eq_1 eWord.eq_1) hq T0 (J2 ?_ T0)
              all_goals ((repeat intro h); refine ⟨?_⟩)
              all_goals rfl
            · have c2 : 9 < K := by omega
              refine wk (J9 he' f0 fl fl0 c1 c2 eFld.eq_1 eWords.eq_1 eWord.eq_1) hq T0 (J2 ?_ T0)
              all_goals ((repeat intro h); refine ⟨?_⟩)
              all_goals rfl
        · have d1' : ((d.length : Int) != 1) = true := by simpa using d1
          have e : finM ((1, d) :: R) = (zeroM, 4) := finM_bad (decide_eq_false fun h => d1 (by have := h.2.1; simp only at this; omega))
          rw [e]
          refine wk (J8 he' f0 fl fl0 d1' eFld.eq_1 eWords.eq_1 eWord.eq_1) hq T0 (J2 ?_ T0)
          all_goals ((repeat intro h); refine ⟨?_⟩)
          all_goals rfl
      · have t1' : (t != 1) = true := by simpa using t1
        have e : finM ((t, d) :: R) = (zeroM, 4) := finM_bad (decide_eq_false fun h => t1 h.1)
        rw [e]
        refine wk (J8 he' f0 fl fl0 t1' eFld.eq_1 eWords.eq_1 eWord.eq_1) hq T0 (J2 ?_ T0)
        all_goals ((repeat intro h); refine ⟨?_⟩)
        all_goals rfl
  · have e : getM l = (zeroM, E) := by rw [getM_err (by rw [hE]; exact he), hE]
    rw [e]
    have he' : (E != 0) = true := by simpa using he
    refine wk he' hq T0 (J2 ?_ T0)
    all_goals ((repeat intro h); refine ⟨?_⟩)
    all_goals rfl
end
end Go.Proofs.YtaoijgapnmmpoaaGreatDoor.Abs
