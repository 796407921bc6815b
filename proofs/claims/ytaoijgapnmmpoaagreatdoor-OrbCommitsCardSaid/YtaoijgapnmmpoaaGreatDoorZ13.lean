/- Texts that were merged: L18c, Open, OpenNet, OpenBox, OpenWld, LaidN. -/
import Derived.Test.YtaoijgapnmmpoaaGreatDoorZ11
import Derived.Test.YtaoijgapnmmpoaaGreatDoorZ12
import Derived.Test.YtaoijgapnmmpoaaGreatDoorZ5
import Derived.Test.YtaoijgapnmmpoaaGreatDoorZ4
import Derived.Test.YtaoijgapnmmpoaaGreatDoorRows
import Derived.Test.YtaoijgapnmmpoaaGreatDoorZ3
import Derived.OpenShut
import Derived.ShutString
import Derived.ChangeOld
import Derived.ChangeVars
import Derived.JoinedOf
import Derived.RowKit
set_option linter.unusedSimpArgs false
set_option linter.unusedVariables false
set_option maxHeartbeats 64000000
set_option maxRecDepth 100000
namespace Go.Proofs.YtaoijgapnmmpoaaGreatDoor.Abs
open Go.RowKit
section
theorem l18_commits (w:Wld)(me:Int)(m:Mssg):ACalls Tryz.prog 5 [.agg (eWld w),.one (u32 me),.agg (eMssg m)] (rB true):=by
 refine ACalls.intro (fn:=Tryz.f5) Tryz.func5 rfl rfl (by simp[Tryz.f5]) ?_
 have aw:=l18_awake
 have ft:=l18_fits w me m 8
 unfold Tryz.f5
 cases hF:fits18 w me m 8
 ·rw[hF]at ft
  simp only[eWld,eMssg,eSealeds,eGrams,ePeople,eEvents,eRows,eWords,eLeaks,rB]at *
  refine wk T0 (J2 aw ft) T0 T0
 rw[hF]at ft
 obtain⟨h1,h2,h3,h4,h5,h6⟩:=fits18_iff hF
 have sm:SmallN 10 w:=smallN_of (by decide) h1 h2
 have sm':SmallN 11 w:=smallN_of (by decide) h1 h2
 have c1:=p18_share w me m h2 sm h3 h4 h5 h6
 have s1:=q12_same w w
 rw[decide_eq_true rfl]at s1
 by_cases hx:(shareBW w me m).2=0
 rotate_left
 ·have hx':((shareBW w me m).2 != 0)=true:=by simp[hx]
  rw[shareBW_err hx]at c1
  clear hF h1 h2 h3 h4 h5 h6 sm sm'
  generalize (shareBW w me m).2=e at *
  simp only[eWld,eMssg,eSealeds,eGrams,ePeople,eEvents,eRows,eWords,eLeaks,rB]at *
  refine wk hx' (J4 aw ft c1 s1) T0 T0
 obtain⟨i,j,p,P,r,s,b,PP,l,rfl,g2,g3,g4,g5,g6,g7,g8,g9,g10,g11,g13,g14,g15,g17⟩:=shareB_seen h2 h3 h4 hx
 have hi:=(List.getElem?_eq_some_iff.1 g2).1
 have hj:=(List.getElem?_eq_some_iff.1 g3).1
 have hPr:P.runs=p.runs.set j s:=by rw[g7]
 have hPl:P.runs.length=p.runs.length:=by rw[hPr];simp
 have hPk:∀(k:Nat) (y:Run),k≠j→p.runs[k]?=some y→P.runs[k]?=some y:=fun k y hk hy=>by rw[hPr,List.getElem?_set,if_neg (Ne.symm hk)];exact hy
 have hPP:PP[i]?=some P:=by rw[g6];simp[hi]
 have hPPl:PP.length=w.people.length:=by rw[g6];simp
 generalize hEv:(⟨4,2,2,r.peer,i,b.k,0,r.m,r.mine,p.clock⟩:Event)=ev at *
 have hA:=g8
 obtain⟨V,hV⟩:∃V:Wld,V={w with net:=⟨w.net.room,w.net.grams++[⟨r.peer,l⟩],w.net.seen++[l]⟩,people:=PP,log:=w.log++[ev]}:=⟨_,rfl⟩
 rw[g5,←hV]at hA
 have v1:V.people=PP:=by rw[hV]
 have v2:V.log[w.log.length]?=some ev:=by rw[hV];simp
 have v3:V.log.length=w.log.length+1:=by rw[hV];simp
 have v4:V.net.grams[w.net.grams.length]?=some ⟨r.peer,l⟩:=by rw[hV];simp
 have v5:V.net.grams.length=w.net.grams.length+1:=by rw[hV];simp
 have c2:=p18_share V (i:Int) m hA (by rw[hV];exact sm'.step1 _ _ _ hPPl _) h3 (by rw[v1];omega) h5 h6
 obtain⟨z1,Q,z2,z3,z4⟩:=shareB_rest (m:=m) hA h3 (show V.people[i]?=some P by rw[v1];exact hPP) g4 (by omega)
 have o1:=q12_open w p.key 8 m.more sm.plain
 rw[g9]at o1
 have q1:=q03_get l
 rw[g17]at q1
 rw[hx,g5,←hV]at c1
 have pr:=(person_used h2 (i:Int)).2
 obtain⟨_,_,_,_,_,hrl,_⟩:=formW_iff h2
 have hpw:personW w (i:Int)=p:=by unfold personW;rw[getPl_at hrl g2]
 rw[hpw]at pr
 have bl1:=sm.log
 have bl2:=sm.grams
 have b7:=(right_names hrl).1
 clear hF h1 h2 h4 h5 h6 sm sm' hA g5 g6 g7 g8 g9 g17 hx hPr hrl hpw hV
 generalize shareBW V (i:Int) m=Z at *
 obtain⟨Z,ze⟩:=Z
 simp only at z1 z2
 subst v1
 have hlog:w.log.length<V.log.length:=by omega
 have hgl:w.net.grams.length<V.net.grams.length:=by omega
 have d1:(V.log.length:Int)=(w.log.length:Int)+1:=by omega
 have d2:(V.people.length:Int)=(w.people.length:Int):=by omega
 have d3:(P.runs.length:Int)=(p.runs.length:Int):=by omega
 have d4:(Z.people.length:Int)=(w.people.length:Int):=by omega
 have d5:(Q.runs.length:Int)=(p.runs.length:Int):=by omega
 have d6:(V.net.grams.length:Int)=(w.net.grams.length:Int)+1:=by omega
 have w1:=wrapI (x:=(w.log.length:Int)+1) (by omega) (by omega)
 have w2:=wrapI (x:=(w.net.grams.length:Int)+1) (by omega) (by omega)
 have hi2:i<V.people.length:=by omega
 have hi3:i<Z.people.length:=by omega
 have hj2:j<P.runs.length:=by omega
 have hj3:j<Q.runs.length:=by omega
 have heq:=eqok_run
 have hem:=eqok_mssg
 subst hEv
 simp only[eWld,eMssg,ePrt,eSealeds,eGrams,ePeople,eEvents,eRows,eWords,eLeaks,rB]at *
 refine wkx (J9 g2 hPP hi hi2 d1 d2 d3 d6 (J5 w1 w2 ePerson.eq_1 eWords.eq_1 eRuns.eq_1)) (J3 aw ft c1) T0 (J2 ?_ T0)
 all_goals ((repeat intro h);refine⟨?_⟩)
 refine AW.loopW (fun n σ=>∃k:Nat,n=p.runs.length - k∧k≤p.runs.length∧((k≤j∧σ=⟨300,(upd (upd (upd (upd (upd (upd (upd (upd (fun _=>.junk) 1 (.one (.c (u32 (i:Int))))) 3 (.one (.ptr 3 0))) 5 (.one (.ptr 5 0))) 7 (.one (.ptr 7 0))) 9 (.one (.c (.row (p.runs.map eRun))))) 10 (.one (.c (.row (P.runs.map eRun))))) 11 (.one (.c (i64 (-1))))) 12 (.one (.c (i64 k)))),(upd (upd (upd (fun _=>none) 3 (some (.box (cWld w)))) 5 (some (.box (cMssg m)))) 7 (some (.box (cWld V))))⟩)∨(j<k∧σ=⟨300,(upd (upd (upd (upd (upd (upd (upd (upd (fun _=>.junk) 1 (.one (.c (u32 (i:Int))))) 3 (.one (.ptr 3 0))) 5 (.one (.ptr 5 0))) 7 (.one (.ptr 7 0))) 9 (.one (.c (.row (p.runs.map eRun))))) 10 (.one (.c (.row (P.runs.map eRun))))) 11 (.one (.c (i64 j)))) 12 (.one (.c (i64 k)))),(upd (upd (upd (fun _=>none) 3 (some (.box (cWld w)))) 5 (some (.box (cMssg m)))) 7 (some (.box (cWld V))))⟩))) (n:=p.runs.length) _ ⟨0,rfl,Nat.zero_le _,.inl ⟨Nat.zero_le _,rfl⟩⟩ (by exact lz T0) ?_
 rintro n σ ⟨k,rfl,hk,⟨hkj,rfl⟩|⟨hkj,rfl⟩⟩
 ·have hlt:k<p.runs.length:=by omega
  have hlt2:k<P.runs.length:=by omega
  have hs:=wrapI (x:=(k:Int)+1) (by omega) (by omega)
  by_cases hne:k=j
  ·subst hne
   have hst:(r.state==s.state)=false:=by rw[g13,g14];rfl
   refine wk (J9 g3 g4 hlt hlt2 hs heq hst eRun.eq_1 (J2 @Bool.and_false @Bool.false_and)) T0 T0 (J2 ?_ T0)
   all_goals ((repeat intro h);refine⟨?_⟩)
   refine⟨p.runs.length - (k+1),by omega,_,⟨k+1,rfl,by omega,.inr ⟨by omega,rfl⟩⟩,?_⟩
   exact lz T0
  ·obtain⟨y,hy⟩:∃y,p.runs[k]?=some y:=⟨_,List.getElem?_eq_getElem hlt⟩
   have hy2:=hPk k y hne hy
   refine wkx (J7 hy hy2 hlt hlt2 hs heq eRun.eq_1) T0 T0 (J2 ?_ T0)
   all_goals ((repeat intro h);refine⟨?_⟩)
   refine⟨p.runs.length - (k+1),by omega,_,⟨k+1,rfl,by omega,.inl ⟨by omega,rfl⟩⟩,?_⟩
   exact lz T0
 ·by_cases hlt:k<p.runs.length
  ·have hlt2:k<P.runs.length:=by omega
   have hs:=wrapI (x:=(k:Int)+1) (by omega) (by omega)
   obtain⟨y,hy⟩:∃y,p.runs[k]?=some y:=⟨_,List.getElem?_eq_getElem hlt⟩
   have hy2:=hPk k y (by omega) hy
   refine wkx (J7 hy hy2 hlt hlt2 hs heq eRun.eq_1) T0 T0 (J2 ?_ T0)
   all_goals ((repeat intro h);refine⟨?_⟩)
   refine⟨p.runs.length - (k+1),by omega,_,⟨k+1,rfl,by omega,.inr ⟨by omega,rfl⟩⟩,?_⟩
   exact lz T0
  ·obtain rfl:k=p.runs.length:=by omega
   have n0:¬((j:Int)<0):=by omega
   have t1:(r.mine != b.n)=false:=by simp[g10]
   have t2:(r.state != 1)=false:=by simp[g13]
   have t3:(r.m != m.run)=false:=by simp[g11]
   have t4:(s.k != b.k)=false:=by simp[g15]
   have t5:(s.state != 3)=false:=by simp[g14]
   clear aw ft c1 hPk g10 g11 g13 g14 g15
   refine wkx (J9 g2 g3 g4 hPP hi hi2 hi3 hj (J9 hj2 hj3 v2 v4 hlog hgl z2 z4 (J9 d2 d3 d4 d5 n0 t1 t2 t3 (J9 t4 t5 heq hem eEvent.eq_1 eGram.eq_1 eRun.eq_1 ePerson.eq_1 (J2 eWords.eq_1 eRuns.eq_1))))) (J3 o1 c2 q1) T0 T0
end
section
theorem open_agg {α:Type}{C:Cod α}{H:Type}{enc:TypeId×Value→H}{P:Program}{W:World}{r:Reach}{b0:Nat}{t:TypeId}{fs:Array Field}{v:Value}{d:DataW H}{p:List MemPlace}(ho:Cod.Opens P t C)(hs:P.underlying t=some (.struct fs))(hv:Value.okWide P W r b0 t v)(h:DataW.Trod enc P W 0 (fun _=>true) true t v d p):∃(vs:List Value) (y:α),v=.agg vs.toArray∧C.rep W W.heap.size vs y:=by
 obtain⟨cs,rfl,_⟩:=Go.WideShapes.okWide_struct hs hv
 obtain⟨fuel,hf⟩:=h
 obtain⟨y,hy⟩:=ho.2 H enc W fuel cs.toList _ hf
 exact⟨cs.toList,y,rfl,hy⟩
theorem RC.int {S:Sh}{w:World}{k:IntKind}{n:Int}(h:(Lit.int k n).wf=true):RC S w (.one (.v (.int k n))) (.int k n):=R.v (inK_wf.trans h)
theorem RC.flag {S:Sh}{w:World}(b:Bool):RC S w (.one (.v (.bool b))) (.bool b):=R.v rfl
theorem RC.str {S:Sh}{w:World}(s:ByteArray):RC S w (.one (.v (.string s))) (.string s):=R.v rfl
theorem openWords:Cod.Opens Tryz.prog 25 Cod.words:=Cod.Opens.row (e:=22) Tryz.underlying25 (by kernel_rfl) (Cod.Opens.num Tryz.underlying22 (by kernel_rfl)) (by decide)
end
section
theorem openRows:Cod.Opens Tryz.prog 32 Cod.words.row:=Cod.Opens.row (e:=25) Tryz.underlying32 (by kernel_rfl) openWords (by decide)
theorem openGram:Cod.Opens Tryz.prog 63 gramC:=
 (Cod.Opens.struct Tryz.underlying63 (by kernel_rfl) (Cod.OpensAt.cons rfl (Cod.Opens.num Tryz.underlying22 (by kernel_rfl)) (Cod.OpensAt.one rfl openWords))).via _ fun a=>⟨⟨a.1,a.2⟩,rfl⟩
theorem openNet:Cod.Opens Tryz.prog 34 netC:=
 (Cod.Opens.struct Tryz.underlying34 (by kernel_rfl) (Cod.OpensAt.cons rfl (Cod.Opens.num Tryz.underlying3 (by kernel_rfl))
  (Cod.OpensAt.cons rfl (Cod.Opens.row (e:=63) Tryz.underlying31 (by kernel_rfl) openGram (by decide)) (Cod.OpensAt.one rfl openRows)))).via _ fun a=>⟨⟨a.1,a.2.1,a.2.2⟩,rfl⟩
end
section
theorem openSealed:Cod.Opens Tryz.prog 108 sealedC:=
 (Cod.Opens.struct Tryz.underlying108 (by kernel_rfl) (Cod.OpensAt.cons rfl (Cod.Opens.num Tryz.underlying22 (by kernel_rfl))
  (Cod.OpensAt.cons rfl (Cod.Opens.num Tryz.underlying22 (by kernel_rfl)) (Cod.OpensAt.cons rfl (Cod.Opens.num Tryz.underlying22 (by kernel_rfl)) (Cod.OpensAt.one rfl openWords))))).via _ fun a=>⟨⟨a.1,a.2.1,a.2.2.1,a.2.2.2⟩,rfl⟩
theorem openBox:Cod.Opens Tryz.prog 30 boxC:=
 (Cod.Opens.struct Tryz.underlying30 (by kernel_rfl) (Cod.OpensAt.cons rfl (Cod.Opens.num Tryz.underlying3 (by kernel_rfl))
  (Cod.OpensAt.one rfl (Cod.Opens.row (e:=108) Tryz.underlying28 (by kernel_rfl) openSealed (by decide))))).via _ fun a=>⟨⟨a.1,a.2⟩,rfl⟩
end
section
theorem openRun:Cod.Opens Tryz.prog 55 runC:=
 (Cod.Opens.struct Tryz.underlying55 (by kernel_rfl) (Cod.OpensAt.cons rfl (Cod.Opens.num Tryz.underlying3 (by kernel_rfl)) (Cod.OpensAt.cons rfl (Cod.Opens.num Tryz.underlying3 (by kernel_rfl)) (Cod.OpensAt.cons rfl (Cod.Opens.num Tryz.underlying22 (by kernel_rfl)) (Cod.OpensAt.cons rfl (Cod.Opens.num Tryz.underlying22 (by kernel_rfl)) (Cod.OpensAt.cons rfl (Cod.Opens.num Tryz.underlying22 (by kernel_rfl)) (Cod.OpensAt.cons rfl (Cod.Opens.num Tryz.underlying22 (by kernel_rfl)) (Cod.OpensAt.cons rfl (Cod.Opens.num Tryz.underlying22 (by kernel_rfl)) (Cod.OpensAt.cons rfl (Cod.Opens.num Tryz.underlying22 (by kernel_rfl)) (Cod.OpensAt.one rfl (Cod.Opens.num Tryz.underlying3 (by kernel_rfl)))))))))))).via _ fun a=>⟨⟨a.1,a.2.1,a.2.2.1,a.2.2.2.1,a.2.2.2.2.1,a.2.2.2.2.2.1,a.2.2.2.2.2.2.1,a.2.2.2.2.2.2.2.1,a.2.2.2.2.2.2.2.2⟩,rfl⟩
theorem openEvent:Cod.Opens Tryz.prog 61 eventC:=
 (Cod.Opens.struct Tryz.underlying61 (by kernel_rfl) (Cod.OpensAt.cons rfl (Cod.Opens.num Tryz.underlying3 (by kernel_rfl)) (Cod.OpensAt.cons rfl (Cod.Opens.num Tryz.underlying3 (by kernel_rfl)) (Cod.OpensAt.cons rfl (Cod.Opens.num Tryz.underlying3 (by kernel_rfl)) (Cod.OpensAt.cons rfl (Cod.Opens.num Tryz.underlying22 (by kernel_rfl)) (Cod.OpensAt.cons rfl (Cod.Opens.num Tryz.underlying22 (by kernel_rfl)) (Cod.OpensAt.cons rfl (Cod.Opens.num Tryz.underlying22 (by kernel_rfl)) (Cod.OpensAt.cons rfl (Cod.Opens.num Tryz.underlying22 (by kernel_rfl)) (Cod.OpensAt.cons rfl (Cod.Opens.num Tryz.underlying22 (by kernel_rfl)) (Cod.OpensAt.cons rfl (Cod.Opens.num Tryz.underlying22 (by kernel_rfl)) (Cod.OpensAt.one rfl (Cod.Opens.num Tryz.underlying22 (by kernel_rfl))))))))))))).via _ fun a=>⟨⟨a.1,a.2.1,a.2.2.1,a.2.2.2.1,a.2.2.2.2.1,a.2.2.2.2.2.1,a.2.2.2.2.2.2.1,a.2.2.2.2.2.2.2.1,a.2.2.2.2.2.2.2.2.1,a.2.2.2.2.2.2.2.2.2⟩,rfl⟩
theorem openLeak:Cod.Opens Tryz.prog 92 leakC:=
 (Cod.Opens.struct Tryz.underlying92 (by kernel_rfl) (Cod.OpensAt.cons rfl (Cod.Opens.num Tryz.underlying22 (by kernel_rfl)) (Cod.OpensAt.one rfl (Cod.Opens.num Tryz.underlying22 (by kernel_rfl))))).via _ fun a=>⟨⟨a.1,a.2⟩,rfl⟩
theorem openConf:Cod.Opens Tryz.prog 24 confC:=
 (Cod.Opens.struct Tryz.underlying24 (by kernel_rfl) (Cod.OpensAt.cons rfl (Cod.Opens.num Tryz.underlying22 (by kernel_rfl)) (Cod.OpensAt.cons rfl (Cod.Opens.num Tryz.underlying3 (by kernel_rfl)) (Cod.OpensAt.cons rfl (Cod.Opens.num Tryz.underlying3 (by kernel_rfl)) (Cod.OpensAt.cons rfl (Cod.Opens.num Tryz.underlying3 (by kernel_rfl)) (Cod.OpensAt.cons rfl (Cod.Opens.num Tryz.underlying3 (by kernel_rfl)) (Cod.OpensAt.cons rfl (Cod.Opens.num Tryz.underlying3 (by kernel_rfl)) (Cod.OpensAt.one rfl (Cod.Opens.num Tryz.underlying3 (by kernel_rfl)))))))))).via _ fun a=>⟨⟨a.1,a.2.1,a.2.2.1,a.2.2.2.1,a.2.2.2.2.1,a.2.2.2.2.2.1,a.2.2.2.2.2.2⟩,rfl⟩
theorem openMsg:Cod.Opens Tryz.prog 41 mssgC:=
 (Cod.Opens.struct Tryz.underlying41 (by kernel_rfl) (Cod.OpensAt.cons rfl (Cod.Opens.num Tryz.underlying22 (by kernel_rfl)) (Cod.OpensAt.cons rfl (Cod.Opens.num Tryz.underlying22 (by kernel_rfl)) (Cod.OpensAt.cons rfl (Cod.Opens.num Tryz.underlying22 (by kernel_rfl)) (Cod.OpensAt.cons rfl (Cod.Opens.num Tryz.underlying22 (by kernel_rfl)) (Cod.OpensAt.cons rfl (Cod.Opens.num Tryz.underlying22 (by kernel_rfl)) (Cod.OpensAt.cons rfl (Cod.Opens.num Tryz.underlying22 (by kernel_rfl)) (Cod.OpensAt.one rfl (Cod.Opens.num Tryz.underlying22 (by kernel_rfl)))))))))).via _ fun a=>⟨⟨a.1,a.2.1,a.2.2.1,a.2.2.2.1,a.2.2.2.2.1,a.2.2.2.2.2.1,a.2.2.2.2.2.2⟩,rfl⟩
theorem openDraws:Cod.Opens Tryz.prog 27 drawsC:=
 (Cod.Opens.struct Tryz.underlying27 (by kernel_rfl) (Cod.OpensAt.cons rfl openWords (Cod.OpensAt.one rfl (Cod.Opens.num Tryz.underlying3 (by kernel_rfl))))).via _ fun a=>⟨⟨a.1,a.2⟩,rfl⟩
theorem openPerson:Cod.Opens Tryz.prog 53 personC:=
 (Cod.Opens.struct Tryz.underlying53 (by kernel_rfl) (Cod.OpensAt.cons rfl (Cod.Opens.num Tryz.underlying22 (by kernel_rfl)) (Cod.OpensAt.cons rfl (Cod.Opens.num Tryz.underlying22 (by kernel_rfl)) (Cod.OpensAt.cons rfl (Cod.Opens.num Tryz.underlying22 (by kernel_rfl)) (Cod.OpensAt.cons rfl openWords (Cod.OpensAt.cons rfl (Cod.Opens.row (e:=55) Tryz.underlying51 (by kernel_rfl) openRun (by decide)) (Cod.OpensAt.one rfl (Cod.Opens.flag Tryz.underlying4 (by kernel_rfl))))))))).via _ fun a=>⟨⟨a.1,a.2.1,a.2.2.1,a.2.2.2.1,a.2.2.2.2.1,a.2.2.2.2.2⟩,rfl⟩
theorem openWorld:Cod.Opens Tryz.prog 39 wldC:=
 (Cod.Opens.struct Tryz.underlying39 (by kernel_rfl) (Cod.OpensAt.cons rfl openConf (Cod.OpensAt.cons rfl openDraws (Cod.OpensAt.cons rfl openBox (Cod.OpensAt.cons rfl openNet (Cod.OpensAt.cons rfl (Cod.Opens.row (e:=53) Tryz.underlying35 (by kernel_rfl) openPerson (by decide)) (Cod.OpensAt.cons rfl (Cod.Opens.row (e:=61) Tryz.underlying36 (by kernel_rfl) openEvent (by decide)) (Cod.OpensAt.cons rfl openRows (Cod.OpensAt.one rfl (Cod.Opens.row (e:=92) Tryz.underlying37 (by kernel_rfl) openLeak (by decide))))))))))).via _ fun a=>⟨⟨a.1,a.2.1,a.2.2.1,a.2.2.2.1,a.2.2.2.2.1,a.2.2.2.2.2.1,a.2.2.2.2.2.2.1,a.2.2.2.2.2.2.2⟩,rfl⟩
end
end Go.Proofs.YtaoijgapnmmpoaaGreatDoor.Abs
section
namespace Go.Proofs.YtaoijgapnmmpoaaGreatDoor.Abs
open Go.ChangeShapes Go.WideShapes Go.RowKit
theorem own:ownKnob Tryz.prog.godebug=none:=by kernel_rfl
theorem laidOut:laidOutB Tryz.prog=true:=by kernel_rfl
theorem masksG:Tryz.prog.globalNamed "chamberlain/msg.masks" = some 0:=by kernel_rfl
theorem masksT:(Tryz.prog.globals[0]?).map (·.type)=some 213:=by kernel_rfl
theorem cellsT:Tryz.prog.cellsOf 213=10:=by kernel_rfl
theorem cellsU:Tryz.prog.cellsOf 22=1:=by kernel_rfl
theorem word_of_trod {H:Type}{enc:TypeId×Value→H}{w:World}{base:Nat}{sp:Nat→Bool}{held:Bool}{fuel:Nat}{c:Value}{y:DataW H×List MemPlace}(h:DataW.trod enc Tryz.prog w base sp held fuel 22 [c]=some y):∃n,c=.int .u32 n∧y=(.lit (.int .u32 n),[])∧(Lit.int .u32 n).wf=true:=by
 obtain⟨n,h1,h2,h3⟩:=DataW.trod_int Tryz.underlying22 h
 simp at h1
 exact⟨n,h1,h2,h3⟩
def masksC:Array Value:=#[.int .u32 0,.int .u32 56,.int .u32 64,.int .u32 64,.int .u32 64,.int .u32 64,.int .u32 92,.int .u32 220,.int .u32 196,.int .u32 68]
theorem gl_of_laid {W:World} (h:laidMet Tryz.prog [("chamberlain/msg.masks",Rows.laid_chamberlain_msg_masks)] W):Gl (fun k b=>k=0∧b<W.heap.size) W:=by
 obtain⟨ps,⟨g,t,cs,fuel,p,q,hg,ht,hvar,hd,_,_⟩,_⟩:=h
 obtain rfl:=Option.some.inj (masksG.symm.trans hg)
 obtain rfl:=Option.some.inj (masksT.symm.trans ht)
 have key:cs=masksC:=by
  obtain⟨l⟩:=cs
  cases fuel with
  |zero=>simp[DataW.trod]at hd
  |succ fuel=>
   simp only[DataW.trod,Tryz.underlying213,cellsT,cellsU]at hd
   split at hd
   ·rename_i hl
    obtain⟨c0,c1,c2,c3,c4,c5,c6,c7,c8,c9,rfl⟩:∃c0 c1 c2 c3 c4 c5 c6 c7 c8 c9,l=[c0,c1,c2,c3,c4,c5,c6,c7,c8,c9]:=by
     match l,hl with
     | [c0,c1,c2,c3,c4,c5,c6,c7,c8,c9],_=>exact⟨c0,c1,c2,c3,c4,c5,c6,c7,c8,c9,rfl⟩
    have e:List.range 10=[0,1,2,3,4,5,6,7,8,9]:=rfl
    rw[e]at hd
    simp only[Option.map_eq_some_iff,List.mapM_cons,List.mapM_nil,Option.bind_eq_bind,Option.bind_eq_some_iff,Option.pure_def,Option.some.injEq]at hd
    obtain⟨xs,⟨y0,h0,_,⟨y1,h1,_,⟨y2,h2,_,⟨y3,h3,_,⟨y4,h4,_,⟨y5,h5,_,⟨y6,h6,_,⟨y7,h7,_,⟨y8,h8,_,⟨y9,h9,_,rfl,rfl⟩,rfl⟩,rfl⟩,rfl⟩,rfl⟩,rfl⟩,rfl⟩,rfl⟩,rfl⟩,rfl⟩,hx⟩:=hd
    obtain⟨n0,rfl,rfl,_⟩:=word_of_trod h0
    obtain⟨n1,rfl,rfl,_⟩:=word_of_trod h1
    obtain⟨n2,rfl,rfl,_⟩:=word_of_trod h2
    obtain⟨n3,rfl,rfl,_⟩:=word_of_trod h3
    obtain⟨n4,rfl,rfl,_⟩:=word_of_trod h4
    obtain⟨n5,rfl,rfl,_⟩:=word_of_trod h5
    obtain⟨n6,rfl,rfl,_⟩:=word_of_trod h6
    obtain⟨n7,rfl,rfl,_⟩:=word_of_trod h7
    obtain⟨n8,rfl,rfl,_⟩:=word_of_trod h8
    obtain⟨n9,rfl,rfl,_⟩:=word_of_trod h9
    simp[Rows.laid_chamberlain_msg_masks]at hx
    obtain⟨⟨rfl,rfl,rfl,rfl,rfl,rfl,rfl,rfl,rfl,rfl⟩,_⟩:=hx
    rfl
   ·cases hd
 subst key
 have cell:∀(i:Nat) (u:Value),masksC[i]?=some u→W.cell? ⟨0,i,none⟩=some u:=fun i u hu=>(World.var?_cell hg hvar i).trans hu
 have hlt:0<W.heap.size:=lt_of_cell (cell 0 _ rfl)
 intro g vs hgv
 unfold tabsV at hgv
 split at hgv
 ·cases hgv
  exact⟨⟨rfl,hlt⟩,fun j u hj=>by rw[Nat.zero_add];exact cell j u (by unfold masksC;rw[List.getElem?_toArray];exact hj)⟩
 ·cases hgv
noncomputable def laidWorld (os : Os) : World :=
  { World.holding Tryz.prog os ⟨#[], #[], []⟩ with heap := (World.holding Tryz.prog os ⟨#[], #[], []⟩).heap.modify 0 fun
      | .cells _ t frozen => .cells masksC t frozen
      | o => o }
theorem laidWorld_row (os:Os)(args:Array Value):((laidWorld os).forCall (fun _ _=>0) ⟨#[],args,[]⟩).memory.heap[0]?=some (.cells masksC 213 (0,0)):=by kernel_rfl
theorem laidWorld_met (os:Os) (args:Array Value):laidMet Tryz.prog [("chamberlain/msg.masks",Rows.laid_chamberlain_msg_masks)] ((laidWorld os).forCall (fun _ _=>0) ⟨#[],args,[]⟩).memory:=by
 refine⟨_,⟨0,213,masksC,8,[],[],by kernel_rfl,by kernel_rfl,by kernel_rfl,by kernel_rfl,rfl,rfl⟩,by decide,fun b off h=>?_⟩
 have h':MemPlace.cell b off∈[MemPlace.cell 0 0,.cell 0 1,.cell 0 2,.cell 0 3,.cell 0 4,.cell 0 5,.cell 0 6,.cell 0 7,.cell 0 8,.cell 0 9]:=h
 have hb:b=0:=by simp at h';omega
 subst hb
 refine⟨⟨_,_,laidWorld_row os args⟩,fun u v hc=>?_⟩
 simp only[World.cell?,laidWorld_row os args]at hc
 simp at h'
 rcases h' with rfl|rfl|rfl|rfl|rfl|rfl|rfl|rfl|rfl|rfl<;>simp[masksC]at hc
end Go.Proofs.YtaoijgapnmmpoaaGreatDoor.Abs
end
