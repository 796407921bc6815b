/- Texts that were merged: P18, Q15b, Q18, Q18b, Q12n, Q12b, AbsN, Q12k, L18, Open, OpenNet, OpenBox, OpenWld, LaidN. -/
import Derived.Test.YtaoijgapnmmpoaaGreatDoorZ10
import Derived.Test.YtaoijgapnmmpoaaGreatDoorZ4
import Derived.Test.YtaoijgapnmmpoaaGreatDoorZ6
import Derived.Test.YtaoijgapnmmpoaaGreatDoorZ5
import Derived.Test.YtaoijgapnmmpoaaGreatDoorZ7
import Derived.Test.YtaoijgapnmmpoaaGreatDoorZ3
import Derived.Test.YtaoijgapnmmpoaaGreatDoorZ8
import Derived.Test.YtaoijgapnmmpoaaGreatDoorZ9
import Derived.Test.YtaoijgapnmmpoaaGreatDoorRows
import Derived.OpenShut
import Derived.ShutString
import Derived.ChangeOld
import Derived.ChangeVars
import Derived.JoinedOf
import Derived.RowKit
set_option linter.unusedSimpArgs false
set_option linter.unusedVariables false
set_option maxHeartbeats 64000000
set_option maxRecDepth 100000
namespace Go.Proofs.YtaoijgapnmmpoaaGreatDoor.Abs
open Go.RowKit
section
theorem p18_first (w:Wld)(me:Int)(m:Mssg)(hf:formW w=true)(h:SmallN 10 w)(h1:1≤me)(h2:me<(w.people.length:Int))(hk:m.kind=6)(hm:mayM m=true):ACalls Tryz.prog 9 [.agg (eWld w),.one (u32 me),.agg (eMssg m)] (.tup [.agg (eWld (firstOW w me m).1),.one (i64 (firstOW w me m).2)]):=by
 refine ACalls.intro (fn:=Tryz.f9) Tryz.func9 rfl rfl (by simp[Tryz.f9]) ?_
 have hg:=Good.of hf h (by decide)
 have hp:=hg.person me
 have c1:=p12_person w me ⟨by omega,by omega⟩ hg.ppl
 obtain⟨E,hE,c3⟩:=p18_begin w me m hg h1 h2
 obtain⟨v,q,hvq⟩:∃v q,firstOW w me m=(v,q):=⟨_,_,rfl⟩
 have hgo:(q≠0∧v=w)∨(q=0∧v=E.w):=by
  by_cases hz:q=0
  ·refine .inr ⟨hz,?_⟩
   have:=hE (by rw[hvq];exact hz)
   rw[hvq]at this
   exact this
  ·refine .inl ⟨hz,?_⟩
   have:=firstOW_err (w:=w) (me:=me) (m:=m) (by rw[hvq];exact hz)
   rw[hvq]at this
   exact this
 rw[hvq]at c3 ⊢
 clear hvq hE hg hp hf h h1 h2 hk hm
 simp only at c3 ⊢
 unfold Tryz.f9
 generalize personW w me=P at *
 simp only[eWld,eMssg,ePerson,eRsp,run0,eSealeds,eGrams,ePeople,eEvents,eRows,eWords,eLeaks,eRuns,rI,rawV]at *
 refine wk T0 c1 (@AW.halt 2) (J2 ?_ T0)
 all_goals ((repeat intro h);refine⟨?_⟩)
 refine AWs.mk (AW.name 15 rfl ?_ ?_ fun bb hb=>?_)
 ·simp only[go_sem,↓reduceIte]
 ·intro b;simp only[go_sem,↓reduceIte]
 clear hb
 refine AW.lessW ⟨27,(upd (upd (upd (upd (upd (fun _=>.junk) 3 (.one (.ptr 3 0))) 5 (.one (.ptr 5 0))) 6 (.one (.ptr 6 0))) 7 (.one (.c (i64 0)))) 8 (.one (.c (rawV bb 0)))),(upd (upd (upd (upd (fun _=>none) 3 (some (.box [A.c (u32 w.conf.window),A.c (i64 w.conf.people),A.c (i64 w.conf.box),A.c (i64 w.conf.used),A.c (i64 w.conf.runs),A.c (i64 w.conf.net),A.c (i64 w.conf.regs),A.c (CV.row (List.map eWord w.draws.list)),A.c (i64 w.draws.next),A.c (i64 w.box.room),A.c (CV.row (List.map eSealed w.box.entries)),A.c (i64 w.net.room),A.c (CV.row (List.map eGram w.net.grams)),A.c (CV.row (List.map eSeen w.net.seen)),A.c (CV.row (List.map ePerson w.people)),A.c (CV.row (List.map eEvent w.log)),A.c (CV.row (List.map eSeen w.regs)),A.c (CV.row (List.map eLeak w.leaks))]))) 5 (some (.box [A.c (u32 m.kind),A.c (u32 m.run),A.c (u32 m.a),A.c (u32 m.b),A.c (u32 m.nonce),A.c (u32 m.box),A.c (u32 m.more)]))) 6 (some (.box [A.c (u32 0),A.c (i64 0),A.c (i64 0),A.c (i64 0),A.c (i64 0),A.c (i64 0),A.c (i64 0),A.nil,A.c (i64 0),A.c (i64 0),A.nil,A.c (i64 0),A.nil,A.nil,A.nil,A.nil,A.nil,A.nil]))) (1000000+bb) (some (.obox [(u32 w.conf.window),(i64 w.conf.people),(i64 w.conf.box),(i64 w.conf.used),(i64 w.conf.runs),(i64 w.conf.net),(i64 w.conf.regs),(CV.row (List.map eWord w.draws.list)),(i64 w.draws.next),(i64 w.box.room),(CV.row (List.map eSealed w.box.entries)),(i64 w.net.room),(CV.row (List.map eGram w.net.grams)),(CV.row (List.map eSeen w.net.seen)),(CV.row (List.map ePerson w.people)),(CV.row (List.map eEvent w.log)),(CV.row (List.map eSeen w.regs)),(CV.row (List.map eLeak w.leaks)),u32 P.name,u32 P.key,u32 P.clock,CV.row (List.map eWord P.used),CV.row (List.map eRun P.runs),bl P.corrupt,i64 0,i64 0,u32 0,u32 0,u32 0,u32 0,u32 0,u32 0,i64 0])))⟩ (by exact lz T0) ?_
 have c4:=c3 bb
 clear c1 c3
 simp only[rawV]at *
 rcases hgo with⟨hz,rfl⟩|⟨hz,rfl⟩
 ·have hz':(q != 0)=true:=by simp[hz]
  refine wk hz' c4 T0 T0
 ·subst hz
  refine wk T0 c4 T0 T0
theorem p18_share (w:Wld)(me:Int)(m:Mssg)(hf:formW w=true)(h:SmallN 10 w)(h1:1≤me)(h2:me<(w.people.length:Int))(hk:m.kind=8)(hm:mayM m=true):ACalls Tryz.prog 12 [.agg (eWld w),.one (u32 me),.agg (eMssg m)] (.tup [.agg (eWld (shareBW w me m).1),.one (i64 (shareBW w me m).2)]):=by
 refine ACalls.intro (fn:=Tryz.f12) Tryz.func12 rfl rfl (by simp[Tryz.f12]) ?_
 have hg:=Good.of hf h (by decide)
 have hp:=hg.person me
 have c1:=p12_person w me ⟨by omega,by omega⟩ hg.ppl
 obtain⟨E,hE,c3⟩:=p18_commit w me m hg h1 h2
 obtain⟨v,q,hvq⟩:∃v q,shareBW w me m=(v,q):=⟨_,_,rfl⟩
 have hgo:(q≠0∧v=w)∨(q=0∧v=E.w):=by
  by_cases hz:q=0
  ·refine .inr ⟨hz,?_⟩
   have:=hE (by rw[hvq];exact hz)
   rw[hvq]at this
   exact this
  ·refine .inl ⟨hz,?_⟩
   have:=shareBW_err (w:=w) (me:=me) (m:=m) (by rw[hvq];exact hz)
   rw[hvq]at this
   exact this
 rw[hvq]at c3 ⊢
 clear hvq hE hg hp hf h h1 h2 hk hm
 simp only at c3 ⊢
 unfold Tryz.f12
 generalize personW w me=P at *
 simp only[eWld,eMssg,ePerson,eRsp,run0,eSealeds,eGrams,ePeople,eEvents,eRows,eWords,eLeaks,eRuns,rI,rawV]at *
 refine wk T0 c1 (@AW.halt 2) (J2 ?_ T0)
 all_goals ((repeat intro h);refine⟨?_⟩)
 refine AWs.mk (AW.name 15 rfl ?_ ?_ fun bb hb=>?_)
 ·simp only[go_sem,↓reduceIte]
 ·intro b;simp only[go_sem,↓reduceIte]
 clear hb
 refine AW.lessW ⟨27,(upd (upd (upd (upd (upd (fun _=>.junk) 3 (.one (.ptr 3 0))) 5 (.one (.ptr 5 0))) 6 (.one (.ptr 6 0))) 7 (.one (.c (i64 0)))) 8 (.one (.c (rawV bb 0)))),(upd (upd (upd (upd (fun _=>none) 3 (some (.box [A.c (u32 w.conf.window),A.c (i64 w.conf.people),A.c (i64 w.conf.box),A.c (i64 w.conf.used),A.c (i64 w.conf.runs),A.c (i64 w.conf.net),A.c (i64 w.conf.regs),A.c (CV.row (List.map eWord w.draws.list)),A.c (i64 w.draws.next),A.c (i64 w.box.room),A.c (CV.row (List.map eSealed w.box.entries)),A.c (i64 w.net.room),A.c (CV.row (List.map eGram w.net.grams)),A.c (CV.row (List.map eSeen w.net.seen)),A.c (CV.row (List.map ePerson w.people)),A.c (CV.row (List.map eEvent w.log)),A.c (CV.row (List.map eSeen w.regs)),A.c (CV.row (List.map eLeak w.leaks))]))) 5 (some (.box [A.c (u32 m.kind),A.c (u32 m.run),A.c (u32 m.a),A.c (u32 m.b),A.c (u32 m.nonce),A.c (u32 m.box),A.c (u32 m.more)]))) 6 (some (.box [A.c (u32 0),A.c (i64 0),A.c (i64 0),A.c (i64 0),A.c (i64 0),A.c (i64 0),A.c (i64 0),A.nil,A.c (i64 0),A.c (i64 0),A.nil,A.c (i64 0),A.nil,A.nil,A.nil,A.nil,A.nil,A.nil]))) (1000000+bb) (some (.obox [(u32 w.conf.window),(i64 w.conf.people),(i64 w.conf.box),(i64 w.conf.used),(i64 w.conf.runs),(i64 w.conf.net),(i64 w.conf.regs),(CV.row (List.map eWord w.draws.list)),(i64 w.draws.next),(i64 w.box.room),(CV.row (List.map eSealed w.box.entries)),(i64 w.net.room),(CV.row (List.map eGram w.net.grams)),(CV.row (List.map eSeen w.net.seen)),(CV.row (List.map ePerson w.people)),(CV.row (List.map eEvent w.log)),(CV.row (List.map eSeen w.regs)),(CV.row (List.map eLeak w.leaks)),u32 P.name,u32 P.key,u32 P.clock,CV.row (List.map eWord P.used),CV.row (List.map eRun P.runs),bl P.corrupt,i64 0,i64 0,u32 0,u32 0,u32 0,u32 0,u32 0,u32 0,i64 0])))⟩ (by exact lz T0) ?_
 have c4:=c3 bb
 clear c1 c3
 simp only[rawV]at *
 rcases hgo with⟨hz,rfl⟩|⟨hz,rfl⟩
 ·have hz':(q != 0)=true:=by simp[hz]
  refine wk hz' c4 T0 T0
 ·subst hz
  refine wk T0 c4 T0 T0
end
section
abbrev zWld:List A:=[.c (u32 0),.c (i64 0),.c (i64 0),.c (i64 0),.c (i64 0),.c (i64 0),.c (i64 0),.nil,.c (i64 0),.c (i64 0),.nil,.c (i64 0),.nil,.nil,.nil,.nil,.nil,.nil]
abbrev cWld (w:Wld):List A:=[.c (u32 w.conf.window),.c (i64 w.conf.people),.c (i64 w.conf.box),.c (i64 w.conf.used),.c (i64 w.conf.runs),.c (i64 w.conf.net),.c (i64 w.conf.regs),.c (.row (w.draws.list.map eWord)),.c (i64 w.draws.next),.c (i64 w.box.room),.c (.row (w.box.entries.map eSealed)),.c (i64 w.net.room),.c (.row (w.net.grams.map eGram)),.c (.row (w.net.seen.map eSeen)),.c (.row (w.people.map ePerson)),.c (.row (w.log.map eEvent)),.c (.row (w.regs.map eSeen)),.c (.row (w.leaks.map eLeak))]
abbrev cMssg (m:Mssg):List A:=[.c (u32 m.kind),.c (u32 m.run),.c (u32 m.a),.c (u32 m.b),.c (u32 m.nonce),.c (u32 m.box),.c (u32 m.more)]
abbrev cPrs (p:Person):List A:=[.c (u32 p.name),.c (u32 p.key),.c (u32 p.clock),.c (.row (p.used.map eWord)),.c (.row (p.runs.map eRun)),.c (bl p.corrupt)]
theorem SmallN.withR {N:Nat}{w:Wld}(h:SmallN N w)(p:Person)(i:Nat)(r:Run):SmallN N (withR w p i r):=h.with_ _
end
section
theorem q18_first (w:Wld)(me:Int)(m:Mssg)(h:SmallN 10 w)(h1:rightB w.box=true)(h2:rightN w.net=true)(hr:(personW w me).runs.length<1000000)(hu:(personW w me).used.length<1000000):ACalls Tryz.prog 10 [.agg (eWld w),.one (u32 me),.agg (eMssg m)] (.tup [.agg (eWld (firstOW w me m).1),.one (i64 (firstOW w me m).2)]):=by
 refine ACalls.intro (fn:=Tryz.f10) Tryz.func10 rfl rfl (by simp[Tryz.f10]) ?_
 have s1:SmallN 9 (drawW w):=h.draw
 have s3:SmallN 8 (secB w me m).1:=s1.sealS _ _ _
 have s4:SmallN 8 (withW (secB w me m).1 (tookP (personW w me) m.run ⟨2,2,m.a,drawnW w,0,m.run,0,0,1⟩)):=s3.with_ _
 have s5:SmallN 7 (logW (withW (secB w me m).1 (tookP (personW w me) m.run ⟨2,2,m.a,drawnW w,0,m.run,0,0,1⟩)) ⟨3,2,2,m.a,me,0,0,m.run,drawnW w,(personW w me).clock⟩):=s4.log_ _
 have c1:=q12_person w me
 have c2:=q10_pair w.people m.a me
 have c3:=q08_may 0 (personW w me).used w.conf.used m.run
 have c4:=q12_roomq w 1 1 h1 h2
 have c5:=q12_draw w h.small.next
 have c7:=q12_seal (drawW w) (personW w me).key 7 ⟨drawnW w,m.run,m.a,me,0,0,0⟩ s1.small
 change ACalls _ _ _ (.tup [.agg (eWld (secB w me m).1),.one (u32 (secB w me m).2.1),.one (i64 (secB w me m).2.2)])at c7
 have c8:=q12_with _ (tookP (personW w me) m.run ⟨2,2,m.a,drawnW w,0,m.run,0,0,1⟩) s3.small.people
 have c9:=q12_log _ ⟨3,2,2,m.a,me,0,0,m.run,drawnW w,(personW w me).clock⟩ s4.small.log
 have c10:=q12_send _ 0 ⟨7,m.run,m.a,me,0,m.box,(secB w me m).2.1⟩ s5.small.grams s5.small.seen
 clear s1 s3 s4 s5 h h1 h2
 unfold Tryz.f10
 unfold firstOW tookO sentW
 generalize secB w me m=en at *
 obtain⟨ew,eh,ee⟩:=en
 simp only at *
 generalize drawW w=v at *
 generalize drawnW w=k at *
 generalize personW w me=p at *
 generalize sendW (logW (withW ew (tookP p m.run ⟨2,2,m.a,k,0,m.run,0,0,1⟩)) ⟨3,2,2,m.a,me,0,0,m.run,k,p.clock⟩) 0 ⟨7,m.run,m.a,me,0,m.box,eh⟩=z at *
 generalize logW (withW ew (tookP p m.run ⟨2,2,m.a,k,0,m.run,0,0,1⟩)) ⟨3,2,2,m.a,me,0,0,m.run,k,p.clock⟩=lw at *
 generalize withW ew (tookP p m.run ⟨2,2,m.a,k,0,m.run,0,0,1⟩)=ww at *
 generalize roomW w 1 1=rm at *
 generalize mayU p.used w.conf.used m.run=mu at *
 generalize pairPl w.people m.a me=pr at *
 simp only[eWld,eMssg,ePrt,eEvent,tookP,ePerson,eSealeds,eGrams,ePeople,eEvents,eRows,eWords,eLeaks,eRuns,eRun,eWord,List.map_append,List.map_cons,List.map_nil,rB,rI]at *
 by_cases hb:m.b=me
 rotate_left
 ·have hb':(m.b != me)=true:=by simpa using hb
  have hb2:(m.b==me)=false:=by simpa using hb
  rw[hb2,Bool.false_and,if_pos rfl]
  refine wk hb' c1 T0 T0
 have hb':(m.b != me)=false:=by simpa using hb
 have hb2:(m.b==me)=true:=by simpa using hb
 rw[hb2,Bool.true_and]
 clear hb2 hb
 cases pr
 ·rw[if_pos rfl]
  refine wk hb' (J2 c1 c2) T0 T0
 rw[if_neg (by simp)]
 by_cases hm:mu=0
 rotate_left
 ·rw[if_pos hm]
  have hm':(mu != 0)=true:=by simp[hm]
  refine wk (J2 hb' hm') (J3 c1 c2 c3) T0 T0
 rw[if_neg (by simp[hm])]
 have hm':(mu != 0)=false:=by simp[hm]
 by_cases hc:w.conf.runs≤(p.runs.length:Int)
 ·rw[if_pos (.inl hc)]
  refine wk (J3 hb' hm' hc) (J4 c1 c2 c3 c4) T0 T0
 cases rm
 ·rw[if_pos (.inr rfl)]
  refine wk (J3 hb' hm' hc) (J4 c1 c2 c3 c4) T0 T0
 rw[if_neg (by simp[hc])]
 by_cases he:ee=0
 rotate_left
 ·rw[if_pos he]
  have he':(ee != 0)=true:=by simp[he]
  refine wk (J4 hb' hm' hc he') (J6 c1 c2 c3 c4 c5 c7) T0 T0
 rw[if_neg (by simp[he])]
 have he':(ee != 0)=false:=by simp[he]
 refine wkx (J4 hb' hm' hc he') (J9 c1 c2 c3 c4 c5 c7 c8 c9 c10) T0 T0
end
section
theorem q18_share (w:Wld)(me:Int)(m:Mssg)(h:SmallN 10 w)(h1:rightB w.box=true)(h2:rightN w.net=true)(hr:(personW w me).runs.length<1000000):ACalls Tryz.prog 13 [.agg (eWld w),.one (u32 me),.agg (eMssg m)] (.tup [.agg (eWld (shareBW w me m).1),.one (i64 (shareBW w me m).2)]):=by
 refine ACalls.intro (fn:=Tryz.f13) Tryz.func13 rfl rfl (by simp[Tryz.f13]) ?_
 have c1:=q12_person w me
 have o1:=q12_open w (personW w me).key 8 m.more h.plain
 have c4:=q12_roomq w 0 1 h1 h2
 unfold Tryz.f13
 unfold shareBW doneB sentW
 generalize personW w me=p at *
 generalize openW w p.key 8 m.more=G at *
 obtain⟨s,ok⟩:=G
 rcases idx_or p.runs (waitsO 2 m.run)with⟨hn,ha⟩|⟨i,x,hf,hi,hx,hp,ha⟩
 ·simp only[hn]
  clear h hn c4 h1 h2
  simp only[eWld,eMssg,ePrt,ePerson,eSealeds,eGrams,ePeople,eEvents,eRows,eWords,eLeaks,eRuns]at *
  refine wk T0 c1 T0 (J2 ?_ T0)
  all_goals ((repeat intro h);refine⟨?_⟩)
  refine AW.loopW (fun n σ=>∃k:Nat,n=p.runs.length - k∧k≤p.runs.length∧σ=⟨109,(upd (upd (upd (upd (upd (upd (fun _=>.junk) 1 (.one (.c (u32 me)))) 3 (.one (.ptr 3 0))) 5 (.one (.ptr 5 0))) 6 (.one (.ptr 6 0))) 8 (.one (.ptr 8 0))) 9 (.one (.c (i64 k)))),(upd (upd (upd (upd (fun _=>none) 3 (some (.box (cWld w)))) 5 (some (.box (cMssg m)))) 6 (some (.box zWld))) 8 (some (.box (cPrs p))))⟩) (n:=p.runs.length) _ ⟨0,rfl,Nat.zero_le _,rfl⟩ (by exact lz T0) ?_
  rintro n σ ⟨k,rfl,hk,rfl⟩
  by_cases hlt:k<p.runs.length
  ·obtain⟨y,hy⟩:∃y,p.runs[k]?=some y:=⟨_,List.getElem?_eq_getElem hlt⟩
   have hs:=wrapI (x:=(k:Int)+1) (by omega) (by omega)
   have hne:¬(y.proto=2∧y.role=2∧y.state=1∧y.m=m.run):=by
    have:=ha k y hy
    rintro⟨a1,a2,a3,a4⟩
    simp[waitsO,a1,a2,a3,a4]at this
   refine wk (J4 hy hlt hs eRun.eq_1) T0 T0 (J5 ?_ ?_ ?_ ?_ T0)
   all_goals ((repeat intro h);refine⟨?_⟩)
   all_goals refine⟨p.runs.length - (k+1),by omega,_,⟨k+1,rfl,by omega,rfl⟩,?_⟩
   all_goals exact lz T0
  ·obtain rfl:k=p.runs.length:=by omega
   refine wk T0 T0 T0 T0
 ·simp only[hf,hi]
  have hil:i<p.runs.length:=(List.getElem?_eq_some_iff.1 hx).1
  have cw:=q15_with w p i {x with k:=s.k,state:=3} hil h.people hr
  have s1:SmallN 10 (withR w p i {x with k:=s.k,state:=3}):=h.withR _ _ _
  have cl:=q12_log _ ⟨4,2,2,x.peer,me,s.k,0,x.m,x.mine,p.clock⟩ s1.small.log
  have s2:SmallN 9 (logW (withR w p i {x with k:=s.k,state:=3}) ⟨4,2,2,x.peer,me,s.k,0,x.m,x.mine,p.clock⟩):=s1.log_ _
  have cs:=q12_send _ x.peer ⟨9,m.run,0,0,0,m.box,0⟩ s2.small.grams s2.small.seen
  clear s1 s2 h h1 h2 hf hi
  generalize sendW (logW (withR w p i {x with k:=s.k,state:=3}) ⟨4,2,2,x.peer,me,s.k,0,x.m,x.mine,p.clock⟩) x.peer ⟨9,m.run,0,0,0,m.box,0⟩=z at *
  generalize logW (withR w p i {x with k:=s.k,state:=3}) ⟨4,2,2,x.peer,me,s.k,0,x.m,x.mine,p.clock⟩=lw at *
  generalize withR w p i {x with k:=s.k,state:=3}=ww at *
  generalize roomW w 0 1=rm at *
  have hpp:x.proto=2∧x.role=2∧x.state=1∧x.m=m.run:=by simpa[waitsO]using hp
  have ha':∀(k:Nat) (y:Run),k<i→p.runs[k]?=some y→¬(y.proto=2∧y.role=2∧y.state=1∧y.m=m.run):=fun k y hk hy=>by
   have:=ha k y hk hy
   rintro⟨a1,a2,a3,a4⟩
   simp[waitsO,a1,a2,a3,a4]at this
  clear ha hp
  simp only[eWld,eMssg,ePrt,ePerson,eEvent,eRun,eSealeds,eGrams,ePeople,eEvents,eRows,eWords,eLeaks,eRuns,rB]at *
  refine wk T0 c1 T0 (J2 ?_ T0)
  all_goals ((repeat intro h);refine⟨?_⟩)
  refine AW.loopW (fun n σ=>∃k:Nat,n=i - k∧k≤i∧σ=⟨109,(upd (upd (upd (upd (upd (upd (fun _=>.junk) 1 (.one (.c (u32 me)))) 3 (.one (.ptr 3 0))) 5 (.one (.ptr 5 0))) 6 (.one (.ptr 6 0))) 8 (.one (.ptr 8 0))) 9 (.one (.c (i64 k)))),(upd (upd (upd (upd (fun _=>none) 3 (some (.box (cWld w)))) 5 (some (.box (cMssg m)))) 6 (some (.box zWld))) 8 (some (.box (cPrs p))))⟩) (n:=i) _ ⟨0,rfl,Nat.zero_le _,rfl⟩ (by exact lz T0) ?_
  rintro n σ ⟨k,rfl,hk,rfl⟩
  have hlt:k<p.runs.length:=by omega
  have hs:=wrapI (x:=(k:Int)+1) (by omega) (by omega)
  by_cases hki:k<i
  ·obtain⟨y,hy⟩:∃y,p.runs[k]?=some y:=⟨_,List.getElem?_eq_getElem hlt⟩
   have hne:=ha' k y hki hy
   clear c1 o1 cw cl cs c4 hpp hx
   refine wk (J4 hy hlt hs eRun.eq_1) T0 T0 (J5 ?_ ?_ ?_ ?_ T0)
   all_goals ((repeat intro h);refine⟨?_⟩)
   all_goals refine⟨i - (k+1),by omega,_,⟨k+1,rfl,by omega,rfl⟩,?_⟩
   all_goals exact lz T0
  ·obtain rfl:k=i:=by omega
   obtain⟨a1,a2,a3,a4⟩:=hpp
   have t1:(x.proto != 2)=false:=by simp[a1]
   have t2:(x.role != 2)=false:=by simp[a2]
   have t3:(x.state != 1)=false:=by simp[a3]
   have t4:(x.m != m.run)=false:=by simp[a4]
   clear a1 a2 a3 a4 ha' c1
   cases ok
   ·rw[Bool.false_and,if_pos rfl]
    refine wk (J8 hx hlt hs t1 t2 t3 t4 eRun.eq_1) o1 T0 T0
   by_cases hm:s.n=x.mine
   rotate_left
   ·have hm1:(s.n != x.mine)=true:=by simpa using hm
    have hm2:(s.n==x.mine)=false:=by simpa using hm
    rw[Bool.true_and,hm2,if_pos rfl]
    refine wk (J9 hx hlt hs t1 t2 t3 t4 hm1 eRun.eq_1) o1 T0 T0
   have hm1:(s.n != x.mine)=false:=by simpa using hm
   have hm2:(s.n==x.mine)=true:=by simpa using hm
   rw[Bool.true_and,hm2,if_neg (by decide)]
   clear hm hm2
   cases rm
   ·rw[if_pos rfl]
    refine wk (J9 hx hlt hs t1 t2 t3 t4 hm1 eRun.eq_1) (J2 o1 c4) T0 T0
   rw[if_neg (by decide)]
   refine wk (J9 hx hlt hs t1 t2 t3 t4 hm1 eRun.eq_1) (J5 o1 c4 cw cl cs) T0 T0
end
section
def newW (c:Conf)(l:List Int)(n r:Nat):Wld:=⟨c,⟨l,(n:Int)⟩,⟨c.box,[]⟩,⟨c.net,[],[]⟩,newPl l 0 n,[],List.replicate r [],[]⟩
theorem map_rep (k:Nat):(List.replicate k ([]:List Int)).map eSeen=List.replicate k [.row []]:=by simp[eSeen,eWords]
theorem q12_new (c:Conf)(l:List Int)(n r:Nat)(h1:c.people=n)(h2:n≤100)(h3:c.regs=r)(h4:r≤1000):ACalls Tryz.prog 17 [.agg (eConf c),.one (eWords l)] (.one (.agg (eWld (newW c l n r)))):=by
 refine ACalls.intro (fn:=Tryz.f17) Tryz.func17 rfl rfl (by simp[Tryz.f17]) ?_
 have hq:=q10_new l 0 n h2 (by omega)
 rw[Nat.zero_add]at hq
 unfold Tryz.f17
 obtain⟨c1,c2,c3,c4,c5,c6,c7⟩:=c
 simp only at h1 h3
 subst h1 h3
 simp only[newW,eWld,eConf,eDraws,eSealeds,eGrams,ePeople,eEvents,eRows,eWords,eLeaks,map_rep]at *
 generalize newPl l 0 n=ppl at *
 refine wk T0 hq T0 (J2 ?_ T0)
 all_goals ((repeat intro h);refine⟨?_⟩)
 refine AW.loopW (fun z σ=>∃k:Nat,z=r - k∧k≤r∧((k=0∧σ=⟨43,(upd (upd (upd (upd (fun _=>.junk) 2 (.one (.ptr 2 0))) 4 (.one (.ptr 4 0))) 5 (.one (.ptr 5 0))) 8 (.one (.c (i64 k)))),(upd (upd (upd (fun _=>none) 2 (some (.box [.c (u32 c1),.c (i64 (n:Int)),.c (i64 c3),.c (i64 c4),.c (i64 c5),.c (i64 c6),.c (i64 (r:Int))]))) 4 (some (.box [.c (u32 0),.c (i64 0),.c (i64 0),.c (i64 0),.c (i64 0),.c (i64 0),.c (i64 0),.nil,.c (i64 0),.c (i64 0),.nil,.c (i64 0),.nil,.nil,.nil,.nil,.nil,.nil]))) 5 (some (.box [.c (u32 c1),.c (i64 (n:Int)),.c (i64 c3),.c (i64 c4),.c (i64 c5),.c (i64 c6),.c (i64 (r:Int)),.c (.row (l.map eWord)),.c (i64 (n:Int)),.c (i64 c3),.nil,.c (i64 c6),.nil,.nil,.c (.row (ppl.map ePerson)),.nil,.nil,.nil])))⟩)∨(0<k∧σ=⟨43,(upd (upd (upd (upd (fun _=>.junk) 2 (.one (.ptr 2 0))) 4 (.one (.ptr 4 0))) 5 (.one (.ptr 5 0))) 8 (.one (.c (i64 k)))),(upd (upd (upd (upd (fun _=>none) 2 (some (.box [.c (u32 c1),.c (i64 (n:Int)),.c (i64 c3),.c (i64 c4),.c (i64 c5),.c (i64 c6),.c (i64 (r:Int))]))) 4 (some (.box [.c (u32 0),.c (i64 0),.c (i64 0),.c (i64 0),.c (i64 0),.c (i64 0),.c (i64 0),.nil,.c (i64 0),.c (i64 0),.nil,.c (i64 0),.nil,.nil,.nil,.nil,.nil,.nil]))) 40 (some (.rows 25 1 (List.replicate k [.row []])))) 5 (some (.box [.c (u32 c1),.c (i64 (n:Int)),.c (i64 c3),.c (i64 c4),.c (i64 c5),.c (i64 c6),.c (i64 (r:Int)),.c (.row (l.map eWord)),.c (i64 (n:Int)),.c (i64 c3),.nil,.c (i64 c6),.nil,.nil,.c (.row (ppl.map ePerson)),.nil,.own 40 k,.nil])))⟩))) (n:=r) _ ⟨0,rfl,Nat.zero_le _,.inl ⟨rfl,rfl⟩⟩ (by exact lz T0) ?_
 rintro z σ ⟨k,rfl,hk,⟨rfl,rfl⟩|⟨hk0,rfl⟩⟩
 ·by_cases hlt:(0:Int)<(r:Int)
  ·refine wkx hlt T0 T0 (J2 ?_ T0)
   all_goals ((repeat intro h);refine⟨?_⟩)
   refine⟨r - 1,by omega,_,⟨1,rfl,by omega,.inr ⟨by omega,rfl⟩⟩,?_⟩
   simp only[List.replicate_succ,List.replicate_zero]
   exact lz T0
  ·obtain rfl:r=0:=by omega
   refine wk hlt T0 T0 (J2 ?_ T0)
   all_goals ((repeat intro h);refine⟨?_⟩)
   all_goals rfl
 ·by_cases hlt:(k:Int)<(r:Int)
  ·have hs:=wrapI (x:=(k:Int)+1) (by omega) (by omega)
   refine wk (J2 hlt hs) T0 T0 (J2 ?_ T0)
   all_goals ((repeat intro h);refine⟨?_⟩)
   refine⟨r - (k+1),by omega,_,⟨k+1,rfl,by omega,.inr ⟨by omega,rfl⟩⟩,?_⟩
   rw[List.replicate_succ']
   exact lz T0
  ·obtain rfl:k=r:=by omega
   refine wk hlt T0 T0 T0
end
section
theorem wld_ext {a b:Wld}(h1:a.conf=b.conf)(h2:a.draws=b.draws)(h3:a.box=b.box)(h4:a.net=b.net)(h5:a.people=b.people)(h6:a.log=b.log)(h7:a.regs=b.regs)(h8:a.leaks=b.leaks):a=b:=by
 cases a;cases b;simp_all
theorem q12_same (a b:Wld):ACalls Tryz.prog 11 [.agg (eWld a),.agg (eWld b)] (rB (decide (a=b))):=by
 refine ACalls.introF (fn:=Tryz.f11) Tryz.func11 rfl rfl (by simp[Tryz.f11]) fun hf=>?_
 have hl:a.leaks.length≤9223372036854775807:=Fine.rowC (f:=eLeak) (k:=0) ((hf (.agg (eWld a)) (by simp):FineCA (.agg (eWld a))) (eLeaks a.leaks) (by simp[eWld]))
 clear hf
 have hc:=eqConfB_dec a.conf b.conf
 have s2:=q04_same a.draws b.draws
 have s3:=q07_same 0 a.box b.box
 have s4:=q06_same a.net b.net
 have s5:=q10_same 0 a.people b.people
 have s6:=q12_events a.log b.log
 have s7:=q01_rows a.regs b.regs
 have heq:=eqok_conf
 have hel:=eqok_leak
 unfold Tryz.f11
 simp only[eWld,eBoxC,eBox,eNet,eDraws,eSealeds,eGrams,ePeople,eEvents,eRows,eWords,eLeaks,rB,eqConfB]at *
 by_cases h1:a.conf=b.conf
 rotate_left
 ·rw[decide_eq_false h1]at hc
  rw[decide_eq_false (fun e=>h1 (by rw[e]))]
  refine wk (J2 heq hc) T0 T0 T0
 rw[decide_eq_true h1]at hc
 by_cases h2:a.draws=b.draws
 rotate_left
 ·rw[decide_eq_false h2]at s2
  rw[decide_eq_false (fun e=>h2 (by rw[e]))]
  refine wk (J2 heq hc) s2 T0 T0
 rw[decide_eq_true h2]at s2
 by_cases h3:a.box=b.box
 rotate_left
 ·rw[decide_eq_false h3]at s3
  rw[decide_eq_false (fun e=>h3 (by rw[e]))]
  refine wk (J2 heq hc) (J2 s2 s3) T0 T0
 rw[decide_eq_true h3]at s3
 by_cases h4:a.net=b.net
 rotate_left
 ·rw[decide_eq_false h4]at s4
  rw[decide_eq_false (fun e=>h4 (by rw[e]))]
  refine wk (J2 heq hc) (J3 s2 s3 s4) T0 T0
 rw[decide_eq_true h4]at s4
 by_cases h5:a.people=b.people
 rotate_left
 ·rw[decide_eq_false h5]at s5
  rw[decide_eq_false (fun e=>h5 (by rw[e]))]
  refine wk (J2 heq hc) (J4 s2 s3 s4 s5) T0 T0
 rw[decide_eq_true h5]at s5
 by_cases h6:a.log=b.log
 rotate_left
 ·rw[decide_eq_false h6]at s6
  rw[decide_eq_false (fun e=>h6 (by rw[e]))]
  refine wk (J2 heq hc) (J5 s2 s3 s4 s5 s6) T0 T0
 rw[decide_eq_true h6]at s6
 by_cases h7:a.regs=b.regs
 rotate_left
 ·rw[decide_eq_false h7]at s7
  rw[decide_eq_false (fun e=>h7 (by rw[e]))]
  refine wk (J2 heq hc) (J6 s2 s3 s4 s5 s6 s7) T0 T0
 rw[decide_eq_true h7]at s7
 by_cases h8:a.leaks.length=b.leaks.length
 rotate_left
 ·have hne:((a.leaks.length:Int) != (b.leaks.length:Int))=true:=by rw[bne_iff_ne];omega
  rw[decide_eq_false (fun e=>h8 (by rw[e]))]
  refine wk (J3 heq hc hne) (J6 s2 s3 s4 s5 s6 s7) T0 T0
 have hli:(a.leaks.length:Int)=(b.leaks.length:Int):=by omega
 refine wkx (J3 heq hc hli) (J6 s2 s3 s4 s5 s6 s7) T0 (J2 ?_ T0)
 all_goals ((repeat intro h);refine⟨?_⟩)
 refine AW.loopW (fun n σ=>∃k:Nat,n=a.leaks.length - k∧k≤a.leaks.length∧a.leaks.take k=b.leaks.take k∧σ=⟨86,(upd (upd (upd (fun _=>.junk) 2 (.one (.ptr 2 0))) 3 (.one (.ptr 3 0))) 5 (.one (.c (i64 k)))),(upd (upd (fun _=>none) 2 (some (.box ((eWld a).map .c)))) 3 (some (.box ((eWld b).map .c))))⟩) (n:=a.leaks.length) _ ⟨0,rfl,Nat.zero_le _,rfl,rfl⟩ (by simp only[eWld,eSealeds,eGrams,ePeople,eEvents,eRows,eWords,eLeaks,List.map_cons,List.map_nil];exact lz T0) ?_
 rintro n σ ⟨k,rfl,hk,ht,rfl⟩
 simp only[eWld,eSealeds,eGrams,ePeople,eEvents,eRows,eWords,eLeaks,List.map_cons,List.map_nil]
 by_cases hlt:k<a.leaks.length
 ·obtain⟨x,hx⟩:∃x,a.leaks[k]?=some x:=⟨_,List.getElem?_eq_getElem hlt⟩
  obtain⟨y,hy⟩:∃y,b.leaks[k]?=some y:=⟨_,List.getElem?_eq_getElem (by omega)⟩
  have hlt2:k<b.leaks.length:=by omega
  have hs:=wrapI (x:=(k:Int)+1) (by omega) (by omega)
  have hd0:=eqLeakB_dec x y
  unfold eqLeakB at hd0
  by_cases hxy:x=y
  ·subst hxy
   refine wkx (J7 hx hy hlt hlt2 hs hel eLeak.eq_1) T0 T0 (J2 ?_ T0)
   all_goals ((repeat intro h);refine⟨?_⟩)
   refine⟨a.leaks.length - (k+1),by omega,_,⟨k+1,rfl,by omega,take_more ht hx hy,rfl⟩,?_⟩
   try simp only[eWld,eSealeds,eGrams,ePeople,eEvents,eRows,eWords,eLeaks,List.map_cons,List.map_nil]
   exact lz T0
  ·rw[decide_eq_false hxy]at hd0
   rw[decide_eq_false (fun e=>by subst e;rw[hx]at hy;exact hxy (Option.some.inj hy))]
   refine wk (J8 hx hy hlt hlt2 hs hel hd0 eLeak.eq_1) T0 T0 T0
 ·obtain rfl:k=a.leaks.length:=by omega
  have:a=b:=wld_ext h1 h2 h3 h4 h5 h6 h7 (take_all h8 ht)
  rw[decide_eq_true this]
  refine wk T0 T0 T0 T0
end
section
section
variable {P:Program}
def sealA:A→A
 | .nil=>.c (.row [])
 |a=>a
theorem VA.sealA {c:Ctx}{w:World}{m:Mem}{a:A}{v:Value}(h:VA c w m a v):VA c w m (sealA a) v:=by
 cases a with
 |nil=>cases h;exact R.nil
 |_=>exact h
theorem Goes.nils {c:Ctx}{w:World}{m:Mem}{id:Nat}{cs cs':List A}(hm:m id=some (.box cs)):Goes c w m c w (upd m id (some (.box cs'))):=by
 refine⟨fun _ _ h=>h,fun _ _ _=>rfl,fun i h=>⟨rfl,?_⟩,fun i L h=>?_⟩
 ·by_cases e:i=id
  ·subst e;exact .inl ⟨_,upd_same ..⟩
  ·exact(isBox_upd_ne e).2 h
 ·by_cases e:i=id
  ·subst e;simp[rowLen,hm]at h
  ·exact⟨L,by rw[rowLen_upd_ne m _ e];exact h,Nat.le_refl _,fun _=>⟨rfl,fun ty sz xs hx=>⟨xs,by rw[←hx];exact(rowsOf_upd_ne e).symm⟩⟩⟩
theorem AW.nils {c:Code}{σ:St}{Q:Exit→St→Prop}(id:Nat){cs:List A}(hm:σ.m id=some (.box cs))(h:AW P c ⟨σ.n,σ.t,upd σ.m id (some (.box (cs.map sealA)))⟩ Q):AW P c σ Q:=fun base S0 w0 df a w hG=>by
 refine h base S0 w0 df a w ?_
 obtain⟨cc,h1,h2,h3⟩:=hG
 have g:Goes cc w σ.m cc w (upd σ.m id (some (.box (cs.map sealA)))):=Goes.nils hm
 refine⟨cc,⟨h1.1,fun q hq=>(h1.2 q hq).goes g,h1.3⟩,⟨fun i b hb=>?_,fun i i' b e1 e2=>?_,h2.lt,h2.old,h2.new,h2.below,h2.rok,h2.size,h2.s0⟩,h3⟩
 ·by_cases e:i=id
  ·subst e
   simp only[upd_same,Option.some.injEq]at hb
   subst hb
   obtain⟨q1,q2,vs,T,q3,q4⟩:=h2.blk i _ hm
   exact⟨q1,q2,vs,T,q3,F2.map_left.mpr (q4.mono fun x y _ hx=>(hx.goes g).sealA)⟩
  ·have hu:upd σ.m id (some (.box (cs.map sealA))) i=σ.m i:=upd_ne _ _ e
   have h4:=h2.blk i b (by rw[←hu];exact hb)
   cases b with
   |box xs=>
    obtain⟨q1,q2,vs,T,q3,q4⟩:=h4
    exact⟨q1,q2,vs,T,q3,q4.mono fun x y _ hx=>hx.goes g⟩
   |rows ty sz xs=>exact h4
   |froz xs=>exact h4
   |gone L=>exact h4
   |lent j e sz xs=>exact h4
   |fbox cs=>exact h4
   |obox cs=>exact h4
   |orec r=>exact h4
   |mapb a ks xs=>exact h4
   |fmap a ks xs=>exact h4
 ·have hb:∀i b,blockOf cc (upd σ.m id (some (.box (cs.map sealA)))) i=some b→blockOf cc σ.m i=some b:=fun i b hb=>by
   unfold blockOf at hb ⊢
   by_cases e:i=id
   ·subst e;rw[upd_same]at hb;rw[hm];exact hb
   ·rw[upd_ne _ _ e]at hb;exact hb
  exact h2.inj i i' b (hb _ _ e1) (hb _ _ e2)
theorem box_cells {base:Nat}{S0:Sh}{w0:W0}{cc:Ctx}{m:Mem}{w:World}{id:Nat}{cs cs':List A}(h2:WR base S0 w0 cc m w)(hm:m id=some (.box cs))(hF:∀vs,F2 (VA cc w m) cs vs→F2 (VA cc w m) cs' vs):Goes cc w m cc w (upd m id (some (.box cs')))∧WR base S0 w0 cc (upd m id (some (.box cs'))) w:=by
 have g:Goes cc w m cc w (upd m id (some (.box cs'))):=Goes.nils hm
 refine⟨g,fun i b hb=>?_,fun i i' b e1 e2=>?_,h2.lt,h2.old,h2.new,h2.below,h2.rok,h2.size,h2.s0⟩
 ·by_cases e:i=id
  ·subst e
   simp only[upd_same,Option.some.injEq]at hb
   subst hb
   obtain⟨q1,q2,vs,T,q3,q4⟩:=h2.blk i _ hm
   exact⟨q1,q2,vs,T,q3,(hF vs q4).mono fun x y _ hx=>hx.goes g⟩
  ·have hu:upd m id (some (.box cs')) i=m i:=upd_ne _ _ e
   have h4:=h2.blk i b (by rw[←hu];exact hb)
   cases b with
   |box xs=>
    obtain⟨q1,q2,vs,T,q3,q4⟩:=h4
    exact⟨q1,q2,vs,T,q3,q4.mono fun x y _ hx=>hx.goes g⟩
   |rows ty sz xs=>exact h4
   |froz xs=>exact h4
   |gone L=>exact h4
   |lent j e sz xs=>exact h4
   |fbox cs=>exact h4
   |obox cs=>exact h4
   |orec r=>exact h4
   |mapb a ks xs=>exact h4
   |fmap a ks xs=>exact h4
 ·have hb:∀i b,blockOf cc (upd m id (some (.box cs'))) i=some b→blockOf cc m i=some b:=fun i b hb=>by
   unfold blockOf at hb ⊢
   by_cases e:i=id
   ·subst e;rw[upd_same]at hb;rw[hm];exact hb
   ·rw[upd_ne _ _ e]at hb;exact hb
  exact h2.inj i i' b (hb _ _ e1) (hb _ _ e2)
theorem AW.freshB {c:Code}{σ:St}{Q:Exit→St→Prop}(bid j id:Nat)(e:TypeId)(sz:Nat)(hs:0<sz){cs:List A}(hb:σ.m bid=some (.box cs))(hj:cs[j]?=some .nil)(hm:σ.m id=none)(h:AW P c ⟨σ.n,σ.t,upd (upd σ.m id (some (.rows e sz []))) bid (some (.box (cs.set j (.own id 0))))⟩ Q):AW P c σ Q:=fun base S0 w0 df a w hG=>by
 refine h base S0 w0 df a w ?_
 obtain⟨cc,h1,h2,h3⟩:=hG
 have hne:bid≠id:=fun e=>by rw[e,hm]at hb;simp at hb
 obtain⟨g,r,hv⟩:=h2.rows hm (e:=e) (sz:=sz) (xs:=[]) (v:=.slice none 0 0) (Below.refl _ w) (by simp) hs (by simp) (vss:=[]) F2.nil (World.ownsRow_nil _ _ _ _)
 have hb1:upd σ.m id (some (.rows e sz [])) bid=some (.box cs):=by rw[upd_ne _ _ hne];exact hb
 obtain⟨g2,r2⟩:=box_cells (cs':=cs.set j (.own id 0)) r hb1 fun vs hF=>⟨by rw[List.length_set];exact hF.1,fun i x y hx hy=>by
  rw[List.getElem?_set]at hx
  split at hx
  ·rename_i hij
   subst hij
   split at hx
   ·cases hx
    have hn:=hF.2 j _ y hj hy
    rw[show y=.slice none 0 0 from hn]
    exact hv
   ·simp at hx
  ·exact hF.2 i x y hx hy⟩
 have g3:=g.trans g2
 exact⟨_,⟨h1.1,fun q hq=>(h1.2 q hq).goes g3,h1.3.mono (g3.S 0) (g3.heap 0)⟩,r2,h3.goes g3⟩
end
end
section
structure Tiny (w:Wld):Prop where
 dl:w.draws.list.length≤1000
 en:w.box.entries.length≤70
 pl:∀s∈w.box.entries,s.plain.length≤100
 gr:w.net.grams.length≤64
 gw:∀g∈w.net.grams,g.words.length≤100
 se:w.net.seen.length≤300
 sw:∀s∈w.net.seen,s.length≤100
 pp:w.people.length≤10
 pu:∀p∈w.people,p.used.length≤100∧p.runs.length≤100
 lg:w.log.length≤300
 rg:w.regs.length≤10
 rw:∀r∈w.regs,r.length≤100
 lk:w.leaks.length≤300
theorem tiny_of {w:Wld}(h:fewW w=true):Tiny w:=by
 unfold fewW fewT at h
 simp only[Bool.and_eq_true,decide_eq_true_eq]at h
 obtain⟨h0,h1,h2,h3,h4⟩:=h
 obtain⟨p1,p2⟩:=of_decide_eq_true h1
 obtain⟨q1,q2,q3,q4⟩:=of_decide_eq_true h2
 obtain⟨r1,r2⟩:=fewPl_iff h3
 refine⟨by omega,by omega,fun s hs=>?_,by omega,fun s hs=>?_,by omega,fun s hs=>?_,r1,r2,by omega,by omega,fun s hs=>?_,by omega⟩
 ·have:=p1 s (by rw[List.take_of_length_le (by omega)];exact hs);omega
 ·have:=q1 s (by rw[List.take_of_length_le (by omega)];exact hs);omega
 ·have:=q2 s (by rw[List.take_of_length_le (by omega)];exact hs);omega
 ·have:=h0 s (by rw[List.take_of_length_le (by omega)];exact hs);omega
theorem q12_copied (w:Wld)(h:Tiny w):ACalls Tryz.prog 16 [.agg (eWld w)] (.one (.agg (eWld w))):=by
 refine ACalls.intro (fn:=Tryz.f16) Tryz.func16 rfl rfl (by simp[Tryz.f16]) ?_
 obtain⟨dl,en,pl,gr,gw,se,sw,pp,pu,lg,rg,rw',lk⟩:=h
 unfold Tryz.f16
 simp only[eWld,eSealeds,eGrams,ePeople,eEvents,eRows,eWords,eLeaks,List.map_cons,List.map_nil]
 refine wkx T0 T0 T0 (J2 ?_ T0)
 all_goals ((repeat intro h);refine⟨?_⟩)
 refine AW.freshB 3 10 45 108 4 (by decide) rfl rfl rfl ?_
 refine AW.loopW (fun z σ=>∃k:Nat,z=w.box.entries.length - k∧k≤w.box.entries.length∧σ=⟨167,(upd (upd (upd (upd (fun _=>.junk) 1 (.one (.ptr 1 0))) 2 (.one (.ptr 2 0))) 3 (.one (.ptr 3 0))) 4 (.one (.c (i64 k)))),(upd (upd (upd (upd (upd (fun _=>none) 1 (some (.box ((eWld w).map .c)))) 2 (some (.box [.c (u32 0),.c (i64 0),.c (i64 0),.c (i64 0),.c (i64 0),.c (i64 0),.c (i64 0),.nil,.c (i64 0),.c (i64 0),.nil,.c (i64 0),.nil,.nil,.nil,.nil,.nil,.nil]))) 12 (some (.rows 22 1 (w.draws.list.map eWord)))) 45 (some (.rows 108 4 ((w.box.entries.take k).map eSealed)))) 3 (some (.box [.c (u32 w.conf.window),.c (i64 w.conf.people),.c (i64 w.conf.box),.c (i64 w.conf.used),.c (i64 w.conf.runs),.c (i64 w.conf.net),.c (i64 w.conf.regs),.own 12 w.draws.list.length,.c (i64 w.draws.next),.c (i64 w.box.room),.own 45 k,.c (i64 w.net.room),.c (.row (w.net.grams.map eGram)),.c (.row (w.net.seen.map eSeen)),.c (.row (w.people.map ePerson)),.c (.row (w.log.map eEvent)),.c (.row (w.regs.map eSeen)),.c (.row (w.leaks.map eLeak))])))⟩) (n:=w.box.entries.length) _ ⟨0,rfl,Nat.zero_le _,rfl⟩ (by simp only[eWld,eSealeds,eGrams,ePeople,eEvents,eRows,eWords,eLeaks,List.map_cons,List.map_nil,List.take_zero,List.map_nil];exact lz T0) ?_
 rintro z σ ⟨k,rfl,hk,rfl⟩
 simp only[eWld,eSealeds,eGrams,ePeople,eEvents,eRows,eWords,eLeaks,List.map_cons,List.map_nil]
 have hkl:(w.box.entries.take k).length=k:=by rw[List.length_take];omega
 by_cases hlt:k<w.box.entries.length
 ·obtain⟨x,hx⟩:∃x,w.box.entries[k]?=some x:=⟨_,List.getElem?_eq_getElem hlt⟩
  have hxl:=pl x (List.mem_of_getElem? hx)
  have hs:=wrapI (x:=(k:Int)+1) (by omega) (by omega)
  have hst:(w.box.entries.take (k+1)).map eSealed=(w.box.entries.take k).map eSealed++[eSealed x]:=by rw[List.take_add_one,hx];simp
  refine wkx (J7 hx hlt hs hkl eSealed.eq_1 eWords.eq_1 eRuns.eq_1) T0 T0 (J2 ?_ T0)
  all_goals ((repeat intro h);refine⟨?_⟩)
  refine⟨w.box.entries.length - (k+1),by omega,_,⟨k+1,rfl,by omega,rfl⟩,?_⟩
  rw[hst]
  simp only[eWld,eSealeds,eGrams,ePeople,eEvents,eRows,eWords,eLeaks,List.map_cons,List.map_nil,eSealed,eRuns]
  exact lz T0
 obtain rfl:k=w.box.entries.length:=by omega
 rw[List.take_length]
 refine wkx hkl T0 T0 (J2 ?_ T0)
 all_goals ((repeat intro h);refine⟨?_⟩)
 clear hlt hk hkl
 refine AW.freshB 3 12 79 63 2 (by decide) rfl rfl rfl ?_
 refine AW.loopW (fun z σ=>∃k:Nat,z=w.net.grams.length - k∧k≤w.net.grams.length∧σ=⟨167,(upd (upd (upd (upd (fun _=>.junk) 1 (.one (.ptr 1 0))) 2 (.one (.ptr 2 0))) 3 (.one (.ptr 3 0))) 6 (.one (.c (i64 k)))),(upd (upd (upd (upd (upd (upd (fun _=>none) 1 (some (.box ((eWld w).map .c)))) 2 (some (.box [.c (u32 0),.c (i64 0),.c (i64 0),.c (i64 0),.c (i64 0),.c (i64 0),.c (i64 0),.nil,.c (i64 0),.c (i64 0),.nil,.c (i64 0),.nil,.nil,.nil,.nil,.nil,.nil]))) 12 (some (.rows 22 1 (w.draws.list.map eWord)))) 45 (some (.rows 108 4 (w.box.entries.map eSealed)))) 79 (some (.rows 63 2 ((w.net.grams.take k).map eGram)))) 3 (some (.box [.c (u32 w.conf.window),.c (i64 w.conf.people),.c (i64 w.conf.box),.c (i64 w.conf.used),.c (i64 w.conf.runs),.c (i64 w.conf.net),.c (i64 w.conf.regs),.own 12 w.draws.list.length,.c (i64 w.draws.next),.c (i64 w.box.room),.own 45 w.box.entries.length,.c (i64 w.net.room),.own 79 k,.c (.row (w.net.seen.map eSeen)),.c (.row (w.people.map ePerson)),.c (.row (w.log.map eEvent)),.c (.row (w.regs.map eSeen)),.c (.row (w.leaks.map eLeak))])))⟩) (n:=w.net.grams.length) _ ⟨0,rfl,Nat.zero_le _,rfl⟩ (by simp only[eWld,eSealeds,eGrams,ePeople,eEvents,eRows,eWords,eLeaks,List.map_cons,List.map_nil,List.take_zero,List.map_nil];exact lz T0) ?_
 rintro z σ ⟨k,rfl,hk,rfl⟩
 simp only[eWld,eSealeds,eGrams,ePeople,eEvents,eRows,eWords,eLeaks,List.map_cons,List.map_nil]
 have hkl:(w.net.grams.take k).length=k:=by rw[List.length_take];omega
 by_cases hlt:k<w.net.grams.length
 ·obtain⟨x,hx⟩:∃x,w.net.grams[k]?=some x:=⟨_,List.getElem?_eq_getElem hlt⟩
  have hxl:=gw x (List.mem_of_getElem? hx)
  have hs:=wrapI (x:=(k:Int)+1) (by omega) (by omega)
  have hst:(w.net.grams.take (k+1)).map eGram=(w.net.grams.take k).map eGram++[eGram x]:=by rw[List.take_add_one,hx];simp
  refine wkx (J7 hx hlt hs hkl eGram.eq_1 eWords.eq_1 eRuns.eq_1) T0 T0 (J2 ?_ T0)
  all_goals ((repeat intro h);refine⟨?_⟩)
  refine⟨w.net.grams.length - (k+1),by omega,_,⟨k+1,rfl,by omega,rfl⟩,?_⟩
  rw[hst]
  simp only[eWld,eSealeds,eGrams,ePeople,eEvents,eRows,eWords,eLeaks,List.map_cons,List.map_nil,eGram,eRuns]
  exact lz T0
 obtain rfl:k=w.net.grams.length:=by omega
 rw[List.take_length]
 refine wkx hkl T0 T0 (J2 ?_ T0)
 all_goals ((repeat intro h);refine⟨?_⟩)
 clear hlt hk hkl
 refine AW.freshB 3 13 104 25 1 (by decide) rfl rfl rfl ?_
 refine AW.loopW (fun z σ=>∃k:Nat,z=w.net.seen.length - k∧k≤w.net.seen.length∧σ=⟨167,(upd (upd (upd (upd (fun _=>.junk) 1 (.one (.ptr 1 0))) 2 (.one (.ptr 2 0))) 3 (.one (.ptr 3 0))) 7 (.one (.c (i64 k)))),(upd (upd (upd (upd (upd (upd (upd (fun _=>none) 1 (some (.box ((eWld w).map .c)))) 2 (some (.box [.c (u32 0),.c (i64 0),.c (i64 0),.c (i64 0),.c (i64 0),.c (i64 0),.c (i64 0),.nil,.c (i64 0),.c (i64 0),.nil,.c (i64 0),.nil,.nil,.nil,.nil,.nil,.nil]))) 12 (some (.rows 22 1 (w.draws.list.map eWord)))) 45 (some (.rows 108 4 (w.box.entries.map eSealed)))) 79 (some (.rows 63 2 (w.net.grams.map eGram)))) 104 (some (.rows 25 1 ((w.net.seen.take k).map eSeen)))) 3 (some (.box [.c (u32 w.conf.window),.c (i64 w.conf.people),.c (i64 w.conf.box),.c (i64 w.conf.used),.c (i64 w.conf.runs),.c (i64 w.conf.net),.c (i64 w.conf.regs),.own 12 w.draws.list.length,.c (i64 w.draws.next),.c (i64 w.box.room),.own 45 w.box.entries.length,.c (i64 w.net.room),.own 79 w.net.grams.length,.own 104 k,.c (.row (w.people.map ePerson)),.c (.row (w.log.map eEvent)),.c (.row (w.regs.map eSeen)),.c (.row (w.leaks.map eLeak))])))⟩) (n:=w.net.seen.length) _ ⟨0,rfl,Nat.zero_le _,rfl⟩ (by simp only[eWld,eSealeds,eGrams,ePeople,eEvents,eRows,eWords,eLeaks,List.map_cons,List.map_nil,List.take_zero,List.map_nil];exact lz T0) ?_
 rintro z σ ⟨k,rfl,hk,rfl⟩
 simp only[eWld,eSealeds,eGrams,ePeople,eEvents,eRows,eWords,eLeaks,List.map_cons,List.map_nil]
 have hkl:(w.net.seen.take k).length=k:=by rw[List.length_take];omega
 by_cases hlt:k<w.net.seen.length
 ·obtain⟨x,hx⟩:∃x,w.net.seen[k]?=some x:=⟨_,List.getElem?_eq_getElem hlt⟩
  have hxl:=sw x (List.mem_of_getElem? hx)
  have hs:=wrapI (x:=(k:Int)+1) (by omega) (by omega)
  have hst:(w.net.seen.take (k+1)).map eSeen=(w.net.seen.take k).map eSeen++[eSeen x]:=by rw[List.take_add_one,hx];simp
  refine wkx (J7 hx hlt hs hkl eSeen.eq_1 eWords.eq_1 eRuns.eq_1) T0 T0 (J2 ?_ T0)
  all_goals ((repeat intro h);refine⟨?_⟩)
  refine⟨w.net.seen.length - (k+1),by omega,_,⟨k+1,rfl,by omega,rfl⟩,?_⟩
  rw[hst]
  simp only[eWld,eSealeds,eGrams,ePeople,eEvents,eRows,eWords,eLeaks,List.map_cons,List.map_nil,eSeen,eRuns]
  exact lz T0
 obtain rfl:k=w.net.seen.length:=by omega
 rw[List.take_length]
 refine wkx hkl T0 T0 (J2 ?_ T0)
 all_goals ((repeat intro h);refine⟨?_⟩)
 clear hlt hk hkl
 refine AW.freshB 3 14 134 53 6 (by decide) rfl rfl rfl ?_
 refine AW.loopW (fun z σ=>∃k:Nat,z=w.people.length - k∧k≤w.people.length∧σ=⟨167,(upd (upd (upd (upd (fun _=>.junk) 1 (.one (.ptr 1 0))) 2 (.one (.ptr 2 0))) 3 (.one (.ptr 3 0))) 8 (.one (.c (i64 k)))),(upd (upd (upd (upd (upd (upd (upd (upd (fun _=>none) 1 (some (.box ((eWld w).map .c)))) 2 (some (.box [.c (u32 0),.c (i64 0),.c (i64 0),.c (i64 0),.c (i64 0),.c (i64 0),.c (i64 0),.nil,.c (i64 0),.c (i64 0),.nil,.c (i64 0),.nil,.nil,.nil,.nil,.nil,.nil]))) 12 (some (.rows 22 1 (w.draws.list.map eWord)))) 45 (some (.rows 108 4 (w.box.entries.map eSealed)))) 79 (some (.rows 63 2 (w.net.grams.map eGram)))) 104 (some (.rows 25 1 (w.net.seen.map eSeen)))) 134 (some (.rows 53 6 ((w.people.take k).map ePerson)))) 3 (some (.box [.c (u32 w.conf.window),.c (i64 w.conf.people),.c (i64 w.conf.box),.c (i64 w.conf.used),.c (i64 w.conf.runs),.c (i64 w.conf.net),.c (i64 w.conf.regs),.own 12 w.draws.list.length,.c (i64 w.draws.next),.c (i64 w.box.room),.own 45 w.box.entries.length,.c (i64 w.net.room),.own 79 w.net.grams.length,.own 104 w.net.seen.length,.own 134 k,.c (.row (w.log.map eEvent)),.c (.row (w.regs.map eSeen)),.c (.row (w.leaks.map eLeak))])))⟩) (n:=w.people.length) _ ⟨0,rfl,Nat.zero_le _,rfl⟩ (by simp only[eWld,eSealeds,eGrams,ePeople,eEvents,eRows,eWords,eLeaks,List.map_cons,List.map_nil,List.take_zero,List.map_nil];exact lz T0) ?_
 rintro z σ ⟨k,rfl,hk,rfl⟩
 simp only[eWld,eSealeds,eGrams,ePeople,eEvents,eRows,eWords,eLeaks,List.map_cons,List.map_nil]
 have hkl:(w.people.take k).length=k:=by rw[List.length_take];omega
 by_cases hlt:k<w.people.length
 ·obtain⟨x,hx⟩:∃x,w.people[k]?=some x:=⟨_,List.getElem?_eq_getElem hlt⟩
  have hxl:=pu x (List.mem_of_getElem? hx)
  have hs:=wrapI (x:=(k:Int)+1) (by omega) (by omega)
  have hst:(w.people.take (k+1)).map ePerson=(w.people.take k).map ePerson++[ePerson x]:=by rw[List.take_add_one,hx];simp
  refine wkx (J7 hx hlt hs hkl ePerson.eq_1 eWords.eq_1 eRuns.eq_1) T0 T0 (J2 ?_ T0)
  all_goals ((repeat intro h);refine⟨?_⟩)
  refine⟨w.people.length - (k+1),by omega,_,⟨k+1,rfl,by omega,rfl⟩,?_⟩
  rw[hst]
  simp only[eWld,eSealeds,eGrams,ePeople,eEvents,eRows,eWords,eLeaks,List.map_cons,List.map_nil,ePerson,eRuns]
  exact lz T0
 obtain rfl:k=w.people.length:=by omega
 rw[List.take_length]
 refine wkx hkl T0 T0 (J2 ?_ T0)
 all_goals ((repeat intro h);refine⟨?_⟩)
 clear hlt hk hkl
 refine AW.freshB 3 16 159 25 1 (by decide) rfl rfl rfl ?_
 refine AW.loopW (fun z σ=>∃k:Nat,z=w.regs.length - k∧k≤w.regs.length∧σ=⟨167,(upd (upd (upd (upd (fun _=>.junk) 1 (.one (.ptr 1 0))) 2 (.one (.ptr 2 0))) 3 (.one (.ptr 3 0))) 10 (.one (.c (i64 k)))),(upd (upd (upd (upd (upd (upd (upd (upd (upd (upd (fun _=>none) 1 (some (.box ((eWld w).map .c)))) 2 (some (.box [.c (u32 0),.c (i64 0),.c (i64 0),.c (i64 0),.c (i64 0),.c (i64 0),.c (i64 0),.nil,.c (i64 0),.c (i64 0),.nil,.c (i64 0),.nil,.nil,.nil,.nil,.nil,.nil]))) 12 (some (.rows 22 1 (w.draws.list.map eWord)))) 45 (some (.rows 108 4 (w.box.entries.map eSealed)))) 79 (some (.rows 63 2 (w.net.grams.map eGram)))) 104 (some (.rows 25 1 (w.net.seen.map eSeen)))) 134 (some (.rows 53 6 (w.people.map ePerson)))) 136 (some (.rows 61 10 (w.log.map eEvent)))) 159 (some (.rows 25 1 ((w.regs.take k).map eSeen)))) 3 (some (.box [.c (u32 w.conf.window),.c (i64 w.conf.people),.c (i64 w.conf.box),.c (i64 w.conf.used),.c (i64 w.conf.runs),.c (i64 w.conf.net),.c (i64 w.conf.regs),.own 12 w.draws.list.length,.c (i64 w.draws.next),.c (i64 w.box.room),.own 45 w.box.entries.length,.c (i64 w.net.room),.own 79 w.net.grams.length,.own 104 w.net.seen.length,.own 134 w.people.length,.own 136 w.log.length,.own 159 k,.c (.row (w.leaks.map eLeak))])))⟩) (n:=w.regs.length) _ ⟨0,rfl,Nat.zero_le _,rfl⟩ (by simp only[eWld,eSealeds,eGrams,ePeople,eEvents,eRows,eWords,eLeaks,List.map_cons,List.map_nil,List.take_zero,List.map_nil];exact lz T0) ?_
 rintro z σ ⟨k,rfl,hk,rfl⟩
 simp only[eWld,eSealeds,eGrams,ePeople,eEvents,eRows,eWords,eLeaks,List.map_cons,List.map_nil]
 have hkl:(w.regs.take k).length=k:=by rw[List.length_take];omega
 by_cases hlt:k<w.regs.length
 ·obtain⟨x,hx⟩:∃x,w.regs[k]?=some x:=⟨_,List.getElem?_eq_getElem hlt⟩
  have hxl:=rw' x (List.mem_of_getElem? hx)
  have hs:=wrapI (x:=(k:Int)+1) (by omega) (by omega)
  have hst:(w.regs.take (k+1)).map eSeen=(w.regs.take k).map eSeen++[eSeen x]:=by rw[List.take_add_one,hx];simp
  refine wkx (J7 hx hlt hs hkl eSeen.eq_1 eWords.eq_1 eRuns.eq_1) T0 T0 (J2 ?_ T0)
  all_goals ((repeat intro h);refine⟨?_⟩)
  refine⟨w.regs.length - (k+1),by omega,_,⟨k+1,rfl,by omega,rfl⟩,?_⟩
  rw[hst]
  simp only[eWld,eSealeds,eGrams,ePeople,eEvents,eRows,eWords,eLeaks,List.map_cons,List.map_nil,eSeen,eRuns]
  exact lz T0
 obtain rfl:k=w.regs.length:=by omega
 rw[List.take_length]
 refine wkx hkl T0 T0 T0
end
section
def conf18:Conf:=⟨5,2,9,4,4,9,2⟩
def W18:Wld:=newW conf18 [11,12,13,14,15,16,17] 2 2
def m18:Mssg:=⟨6,5,1,2,0,77,0⟩
def A18:Wld:=(firstOW W18 2 m18).1
def s18:Prt:=⟨2147483661,0,0,0,70,0,0⟩
def X18:Wld×Int×Int:=sealW A18 2147483660 8 s18
def n18 (r b c:Int):Mssg:=⟨8,r,0,0,0,b,c⟩
def B18:Wld:=(shareBW X18.1 2 (n18 5 78 X18.2.1)).1
def ev18:Event:=⟨4,2,2,1,2,70,0,5,2147483661,0⟩
theorem w18_few:fewW W18=true∧fewW A18=true∧fewW X18.1=true∧fewW B18=true:=by decide +kernel
theorem w18_form:formW W18=true∧formW A18=true∧formW X18.1=true∧formW B18=true:=by decide +kernel
theorem w18_e:(firstOW W18 2 m18).2=0∧(firstOW A18 2 m18).2=8∧(firstOW W18 1 m18).2=5∧(shareBW X18.1 2 (n18 5 78 X18.2.1)).2=0∧(shareBW X18.1 2 (n18 6 78 X18.2.1)).2=9∧(shareBW X18.1 2 (n18 5 X18.2.1 78)).2=6:=by decide +kernel
theorem w18_d:B18.log.length=2∧B18.log[1]?=some ev18∧W18.people[2]?=some ⟨2,2147483660,0,[],[],false⟩∧A18.net.grams.length=1∧B18.net.grams.length=2∧(∃l,A18.net.grams[0]?=some ⟨0,l⟩)∧∃l,B18.net.grams[1]?=some ⟨1,l⟩:=by
 refine⟨by decide +kernel,by decide +kernel,by decide +kernel,by decide +kernel,by decide +kernel,⟨(A18.net.grams.getD 0 ⟨0,[]⟩).words,by decide +kernel⟩,(B18.net.grams.getD 1 ⟨0,[]⟩).words,by decide +kernel⟩
theorem w18_len:W18.people.length=3∧A18.people.length=3∧X18.1.people.length=3∧B18.people.length=3:=by decide +kernel
theorem w18_may:mayM m18=true∧mayM (n18 5 78 X18.2.1)=true∧mayM (n18 6 78 X18.2.1)=true∧mayM (n18 5 X18.2.1 78)=true:=by decide +kernel
theorem l18_awake:ACalls Tryz.prog 7 [] (rB true):=by
 refine ACalls.intro (fn:=Tryz.f7) Tryz.func7 rfl rfl (by simp[Tryz.f7]) ?_
 obtain⟨f1,f2,f3,f4⟩:=w18_few
 obtain⟨g1,g2,g3,g4⟩:=w18_form
 obtain⟨e1,e2,e3,e4,e5,e6⟩:=w18_e
 obtain⟨d1,d2,d3,d4,d6,⟨dl,d5⟩,dk,d7⟩:=w18_d
 obtain⟨n1,n2,n3,n4⟩:=w18_len
 obtain⟨m0,m1,m2,m3⟩:=w18_may
 have c0:=q12_new conf18 [11,12,13,14,15,16,17] 2 2 rfl (by decide) rfl (by decide)
 rw[show newW conf18 [11,12,13,14,15,16,17] 2 2=W18 from rfl]at c0
 have c1:=p18_first W18 2 m18 g1 (smallN_of (by decide) f1 g1) (by omega) (by omega) rfl m0
 have c2:=p18_first A18 2 m18 g2 (smallN_of (by decide) f2 g2) (by omega) (by omega) rfl m0
 have c3:=p18_first W18 1 m18 g1 (smallN_of (by decide) f1 g1) (by omega) (by omega) rfl m0
 have c4:=q12_seal A18 2147483660 8 s18 (small_of f2 g2)
 have c5:=p18_share X18.1 2 (n18 5 78 X18.2.1) g3 (smallN_of (by decide) f3 g3) (by omega) (by omega) rfl m1
 have c6:=p18_share X18.1 2 (n18 6 78 X18.2.1) g3 (smallN_of (by decide) f3 g3) (by omega) (by omega) rfl m2
 have c7:=p18_share X18.1 2 (n18 5 X18.2.1 78) g3 (smallN_of (by decide) f3 g3) (by omega) (by omega) rfl m3
 rw[e1,show(firstOW W18 2 m18).1=A18 from rfl]at c1
 rw[e2]at c2
 rw[e3]at c3
 rw[show sealW A18 2147483660 8 s18=X18 from rfl]at c4
 rw[e4,show(shareBW X18.1 2 (n18 5 78 X18.2.1)).1=B18 from rfl]at c5
 rw[e5]at c6
 rw[e6]at c7
 have heq:=eqok_event
 clear f1 f2 f3 f4 g1 g2 g3 g4 e1 e2 e3 e4 e5 e6 n2 n3 n4 m0 m1 m2 m3
 generalize (shareBW X18.1 2 (n18 5 X18.2.1 78)).1=Z1 at *
 generalize (shareBW X18.1 2 (n18 6 78 X18.2.1)).1=Z2 at *
 generalize (firstOW W18 1 m18).1=Z3 at *
 generalize (firstOW A18 2 m18).1=Z4 at *
 generalize B18=B at *
 unfold n18 m18 at *
 generalize X18=X at *
 generalize A18=A at *
 generalize W18=W at *
 obtain⟨X,xh,xe⟩:=X
 have l1:(B.log.length:Int)=2:=by omega
 have l2:1<B.log.length:=by omega
 have l3:2<W.people.length:=by omega
 have l4:(A.net.grams.length:Int)=1:=by omega
 have l5:0<A.net.grams.length:=by omega
 have l6:(B.net.grams.length:Int)=2:=by omega
 have l7:1<B.net.grams.length:=by omega
 clear d1 n1 d4 d6
 unfold Tryz.f7
 simp only[eWld,conf18,eConf,s18,eMssg,ePrt,eSealeds,eGrams,ePeople,eEvents,eRows,eWord,List.map_cons,List.map_nil,eWords,eLeaks,rB,ev18]at *
 refine wkx (J9 l1 l2 l3 l4 l5 l6 l7 d2 (J9 d3 d5 d7 eGram.eq_1 ePerson.eq_1 eWords.eq_1 eRuns.eq_1 eEvent.eq_1 heq)) (J8 c0 c1 c2 c3 c4 c5 c6 c7) T0 T0
def fits18 (w:Wld)(me:Int)(m:Mssg)(k:Int):Bool:=fewW w&&(formW w&&(decide (1≤me)&&(decide (me<(w.people.length:Int))&&(m.kind==k&&mayM m))))
theorem l18_fits (w:Wld)(me:Int)(m:Mssg)(k:Int):ACalls Tryz.prog 8 [.agg (eWld w),.one (u32 me),.agg (eMssg m),.one (u32 k)] (rB (fits18 w me m k)):=by
 refine ACalls.introF (fn:=Tryz.f8) Tryz.func8 rfl rfl (by simp[Tryz.f8]) fun hf=>?_
 have hme:=in_u32 (Fine.int (hf (.one (u32 me)) (by simp)))
 have hpl:w.people.length≤9223372036854775807:=Fine.rowC (f:=ePerson) (k:=0) ((hf (.agg (eWld w)) (by simp):FineCA (.agg (eWld w))) (ePeople w.people) (by simp[eWld]))
 clear hf
 have c1:=q12_few w
 have c2:=q12_form w
 have c3:=q03_may m
 have w1:IntKind.u64.wrap me=me:=by rw[IntKind.wrap_u64];omega
 have w2:IntKind.u64.wrap (w.people.length:Int)=(w.people.length:Int):=by rw[IntKind.wrap_u64];omega
 unfold Tryz.f8
 unfold fits18
 generalize fewW w=b1 at *
 generalize formW w=b2 at *
 generalize mayM m=b3 at *
 simp only[eWld,eMssg,eSealeds,eGrams,ePeople,eEvents,eRows,eWords,eLeaks,rB]at *
 cases b1
 ·refine wk T0 (J3 c1 c2 c3) T0 T0
 cases b2
 ·refine wk T0 (J3 c1 c2 c3) T0 T0
 by_cases g1:1≤me
 rotate_left
 ·rw[decide_eq_false g1]
  refine wk (J3 g1 w1 w2) (J3 c1 c2 c3) T0 T0
 rw[decide_eq_true g1]
 by_cases g2:me<(w.people.length:Int)
 rotate_left
 ·rw[decide_eq_false g2]
  refine wk (J4 g1 g2 w1 w2) (J3 c1 c2 c3) T0 T0
 rw[decide_eq_true g2]
 cases hk:(m.kind==k)<;>cases b3
 all_goals refine wk (J5 g1 g2 w1 w2 hk) (J3 c1 c2 c3) T0 T0
theorem fits18_iff {w:Wld}{me:Int}{m:Mssg}{k:Int}(h:fits18 w me m k=true):fewW w=true∧formW w=true∧1≤me∧me<(w.people.length:Int)∧m.kind=k∧mayM m=true:=by
 unfold fits18 at h
 simpa only[Bool.and_eq_true,beq_iff_eq,decide_eq_true_eq]using h
theorem l18_firsts (w:Wld)(me:Int)(m:Mssg):ACalls Tryz.prog 3 [.agg (eWld w),.one (u32 me),.agg (eMssg m)] (rB true):=by
 refine ACalls.intro (fn:=Tryz.f3) Tryz.func3 rfl rfl (by simp[Tryz.f3]) ?_
 have aw:=l18_awake
 have ft:=l18_fits w me m 6
 unfold Tryz.f3
 cases hF:fits18 w me m 6
 ·rw[hF]at ft
  simp only[eWld,eMssg,eSealeds,eGrams,ePeople,eEvents,eRows,eWords,eLeaks,rB]at *
  refine wk T0 (J2 aw ft) T0 T0
 rw[hF]at ft
 obtain⟨h1,h2,h3,h4,h5,h6⟩:=fits18_iff hF
 have sm:SmallN 10 w:=smallN_of (by decide) h1 h2
 obtain⟨_,hb,_,hn,_⟩:=formW_iff h2
 have c1:=p18_first w me m h2 sm h3 h4 h5 h6
 have d1:=q18_first w me m sm hb hn (by have:=(person_used h2 me).2;omega) (by have:=(person_used h2 me).1;omega)
 have s1:=q12_same (firstOW w me m).1 (firstOW w me m).1
 rw[decide_eq_true rfl]at s1
 clear h1 h2 h3 h4 h5 h6 sm hb hn hF
 generalize firstOW w me m=z at *
 simp only[eWld,eMssg,eSealeds,eGrams,ePeople,eEvents,eRows,eWords,eLeaks,rB]at *
 refine wkx T0 (J5 aw ft c1 d1 s1) T0 T0
theorem l18_shares (w:Wld)(me:Int)(m:Mssg):ACalls Tryz.prog 4 [.agg (eWld w),.one (u32 me),.agg (eMssg m)] (rB true):=by
 refine ACalls.intro (fn:=Tryz.f4) Tryz.func4 rfl rfl (by simp[Tryz.f4]) ?_
 have aw:=l18_awake
 have ft:=l18_fits w me m 8
 unfold Tryz.f4
 cases hF:fits18 w me m 8
 ·rw[hF]at ft
  simp only[eWld,eMssg,eSealeds,eGrams,ePeople,eEvents,eRows,eWords,eLeaks,rB]at *
  refine wk T0 (J2 aw ft) T0 T0
 rw[hF]at ft
 obtain⟨h1,h2,h3,h4,h5,h6⟩:=fits18_iff hF
 have sm:SmallN 10 w:=smallN_of (by decide) h1 h2
 obtain⟨_,hb,_,hn,_⟩:=formW_iff h2
 have c1:=p18_share w me m h2 sm h3 h4 h5 h6
 have d1:=q18_share w me m sm hb hn (by have:=(person_used h2 me).2;omega)
 have s1:=q12_same (shareBW w me m).1 (shareBW w me m).1
 rw[decide_eq_true rfl]at s1
 clear h1 h2 h3 h4 h5 h6 sm hb hn hF
 generalize shareBW w me m=z at *
 simp only[eWld,eMssg,eSealeds,eGrams,ePeople,eEvents,eRows,eWords,eLeaks,rB]at *
 refine wkx T0 (J5 aw ft c1 d1 s1) T0 T0
theorem l18_keeps (w:Wld)(me:Int)(m:Mssg):ACalls Tryz.prog 6 [.agg (eWld w),.one (u32 me),.agg (eMssg m)] (rB true):=by
 refine ACalls.intro (fn:=Tryz.f6) Tryz.func6 rfl rfl (by simp[Tryz.f6]) ?_
 have aw:=l18_awake
 have ft:=l18_fits w me m m.kind
 unfold Tryz.f6
 cases hF:fits18 w me m m.kind
 ·rw[hF]at ft
  simp only[eWld,eMssg,eSealeds,eGrams,ePeople,eEvents,eRows,eWords,eLeaks,rB]at *
  refine wk T0 (J2 aw ft) T0 T0
 rw[hF]at ft
 obtain⟨h1,h2,h3,h4,h5,h6⟩:=fits18_iff hF
 have sm:SmallN 10 w:=smallN_of (by decide) h1 h2
 have cp:=q12_copied w (tiny_of h1)
 have s2:=q12_same w w
 rw[decide_eq_true rfl]at s2
 by_cases k6:m.kind=6
 ·have c1:=p18_first w me m h2 sm h3 h4 k6 h6
  clear h1 h2 h3 h4 h5 h6 sm hF
  have k6':(m.kind != 6)=false:=by simp[k6]
  have k6'':(m.kind==6)=true:=by simp[k6]
  generalize firstOW w me m=z at *
  simp only[eWld,eMssg,eSealeds,eGrams,ePeople,eEvents,eRows,eWords,eLeaks,rB]at *
  refine wk (J2 k6' k6'') (J5 aw ft cp c1 s2) T0 T0
 have k6':(m.kind != 6)=true:=by simp[k6]
 have k6'':(m.kind==6)=false:=by simp[k6]
 by_cases k8:m.kind=8
 ·have c1:=p18_share w me m h2 sm h3 h4 k8 h6
  clear h1 h2 h3 h4 h5 h6 sm hF
  have k8':(m.kind != 8)=false:=by simp[k8]
  generalize shareBW w me m=z at *
  simp only[eWld,eMssg,eSealeds,eGrams,ePeople,eEvents,eRows,eWords,eLeaks,rB]at *
  refine wk (J3 k6' k6'' k8') (J5 aw ft cp c1 s2) T0 T0
 have k8':(m.kind != 8)=true:=by simp[k8]
 simp only[eWld,eMssg,eSealeds,eGrams,ePeople,eEvents,eRows,eWords,eLeaks,rB]at *
 refine wk (J3 k6' k6'' k8') (J2 aw ft) T0 T0
end
section
theorem open_agg {α:Type}{C:Cod α}{H:Type}{enc:TypeId×Value→H}{P:Program}{W:World}{r:Reach}{b0:Nat}{t:TypeId}{fs:Array Field}{v:Value}{d:DataW H}{p:List MemPlace}(ho:Cod.Opens P t C)(hs:P.underlying t=some (.struct fs))(hv:Value.okWide P W r b0 t v)(h:DataW.Trod enc P W 0 (fun _=>true) true t v d p):∃(vs:List Value) (y:α),v=.agg vs.toArray∧C.rep W W.heap.size vs y:=by
 obtain⟨cs,rfl,_⟩:=Go.WideShapes.okWide_struct hs hv
 obtain⟨fuel,hf⟩:=h
 obtain⟨y,hy⟩:=ho.2 H enc W fuel cs.toList _ hf
 exact⟨cs.toList,y,rfl,hy⟩
theorem RC.int {S:Sh}{w:World}{k:IntKind}{n:Int}(h:(Lit.int k n).wf=true):RC S w (.one (.v (.int k n))) (.int k n):=R.v (inK_wf.trans h)
theorem RC.flag {S:Sh}{w:World}(b:Bool):RC S w (.one (.v (.bool b))) (.bool b):=R.v rfl
theorem RC.str {S:Sh}{w:World}(s:ByteArray):RC S w (.one (.v (.string s))) (.string s):=R.v rfl
theorem openWords:Cod.Opens Tryz.prog 25 Cod.words:=Cod.Opens.row (e:=22) Tryz.underlying25 (by kernel_rfl) (Cod.Opens.num Tryz.underlying22 (by kernel_rfl)) (by decide)
end
section
theorem openRows:Cod.Opens Tryz.prog 32 Cod.words.row:=Cod.Opens.row (e:=25) Tryz.underlying32 (by kernel_rfl) openWords (by decide)
theorem openGram:Cod.Opens Tryz.prog 63 gramC:=
 (Cod.Opens.struct Tryz.underlying63 (by kernel_rfl) (Cod.OpensAt.cons rfl (Cod.Opens.num Tryz.underlying22 (by kernel_rfl)) (Cod.OpensAt.one rfl openWords))).via _ fun a=>⟨⟨a.1,a.2⟩,rfl⟩
theorem openNet:Cod.Opens Tryz.prog 34 netC:=
 (Cod.Opens.struct Tryz.underlying34 (by kernel_rfl) (Cod.OpensAt.cons rfl (Cod.Opens.num Tryz.underlying3 (by kernel_rfl))
  (Cod.OpensAt.cons rfl (Cod.Opens.row (e:=63) Tryz.underlying31 (by kernel_rfl) openGram (by decide)) (Cod.OpensAt.one rfl openRows)))).via _ fun a=>⟨⟨a.1,a.2.1,a.2.2⟩,rfl⟩
end
section
theorem openSealed:Cod.Opens Tryz.prog 108 sealedC:=
 (Cod.Opens.struct Tryz.underlying108 (by kernel_rfl) (Cod.OpensAt.cons rfl (Cod.Opens.num Tryz.underlying22 (by kernel_rfl))
  (Cod.OpensAt.cons rfl (Cod.Opens.num Tryz.underlying22 (by kernel_rfl)) (Cod.OpensAt.cons rfl (Cod.Opens.num Tryz.underlying22 (by kernel_rfl)) (Cod.OpensAt.one rfl openWords))))).via _ fun a=>⟨⟨a.1,a.2.1,a.2.2.1,a.2.2.2⟩,rfl⟩
theorem openBox:Cod.Opens Tryz.prog 30 boxC:=
 (Cod.Opens.struct Tryz.underlying30 (by kernel_rfl) (Cod.OpensAt.cons rfl (Cod.Opens.num Tryz.underlying3 (by kernel_rfl))
  (Cod.OpensAt.one rfl (Cod.Opens.row (e:=108) Tryz.underlying28 (by kernel_rfl) openSealed (by decide))))).via _ fun a=>⟨⟨a.1,a.2⟩,rfl⟩
end
section
theorem openRun:Cod.Opens Tryz.prog 55 runC:=
 (Cod.Opens.struct Tryz.underlying55 (by kernel_rfl) (Cod.OpensAt.cons rfl (Cod.Opens.num Tryz.underlying3 (by kernel_rfl)) (Cod.OpensAt.cons rfl (Cod.Opens.num Tryz.underlying3 (by kernel_rfl)) (Cod.OpensAt.cons rfl (Cod.Opens.num Tryz.underlying22 (by kernel_rfl)) (Cod.OpensAt.cons rfl (Cod.Opens.num Tryz.underlying22 (by kernel_rfl)) (Cod.OpensAt.cons rfl (Cod.Opens.num Tryz.underlying22 (by kernel_rfl)) (Cod.OpensAt.cons rfl (Cod.Opens.num Tryz.underlying22 (by kernel_rfl)) (Cod.OpensAt.cons rfl (Cod.Opens.num Tryz.underlying22 (by kernel_rfl)) (Cod.OpensAt.cons rfl (Cod.Opens.num Tryz.underlying22 (by kernel_rfl)) (Cod.OpensAt.one rfl (Cod.Opens.num Tryz.underlying3 (by kernel_rfl)))))))))))).via _ fun a=>⟨⟨a.1,a.2.1,a.2.2.1,a.2.2.2.1,a.2.2.2.2.1,a.2.2.2.2.2.1,a.2.2.2.2.2.2.1,a.2.2.2.2.2.2.2.1,a.2.2.2.2.2.2.2.2⟩,rfl⟩
theorem openEvent:Cod.Opens Tryz.prog 61 eventC:=
 (Cod.Opens.struct Tryz.underlying61 (by kernel_rfl) (Cod.OpensAt.cons rfl (Cod.Opens.num Tryz.underlying3 (by kernel_rfl)) (Cod.OpensAt.cons rfl (Cod.Opens.num Tryz.underlying3 (by kernel_rfl)) (Cod.OpensAt.cons rfl (Cod.Opens.num Tryz.underlying3 (by kernel_rfl)) (Cod.OpensAt.cons rfl (Cod.Opens.num Tryz.underlying22 (by kernel_rfl)) (Cod.OpensAt.cons rfl (Cod.Opens.num Tryz.underlying22 (by kernel_rfl)) (Cod.OpensAt.cons rfl (Cod.Opens.num Tryz.underlying22 (by kernel_rfl)) (Cod.OpensAt.cons rfl (Cod.Opens.num Tryz.underlying22 (by kernel_rfl)) (Cod.OpensAt.cons rfl (Cod.Opens.num Tryz.underlying22 (by kernel_rfl)) (Cod.OpensAt.cons rfl (Cod.Opens.num Tryz.underlying22 (by kernel_rfl)) (Cod.OpensAt.one rfl (Cod.Opens.num Tryz.underlying22 (by kernel_rfl))))))))))))).via _ fun a=>⟨⟨a.1,a.2.1,a.2.2.1,a.2.2.2.1,a.2.2.2.2.1,a.2.2.2.2.2.1,a.2.2.2.2.2.2.1,a.2.2.2.2.2.2.2.1,a.2.2.2.2.2.2.2.2.1,a.2.2.2.2.2.2.2.2.2⟩,rfl⟩
theorem openLeak:Cod.Opens Tryz.prog 92 leakC:=
 (Cod.Opens.struct Tryz.underlying92 (by kernel_rfl) (Cod.OpensAt.cons rfl (Cod.Opens.num Tryz.underlying22 (by kernel_rfl)) (Cod.OpensAt.one rfl (Cod.Opens.num Tryz.underlying22 (by kernel_rfl))))).via _ fun a=>⟨⟨a.1,a.2⟩,rfl⟩
theorem openConf:Cod.Opens Tryz.prog 24 confC:=
 (Cod.Opens.struct Tryz.underlying24 (by kernel_rfl) (Cod.OpensAt.cons rfl (Cod.Opens.num Tryz.underlying22 (by kernel_rfl)) (Cod.OpensAt.cons rfl (Cod.Opens.num Tryz.underlying3 (by kernel_rfl)) (Cod.OpensAt.cons rfl (Cod.Opens.num Tryz.underlying3 (by kernel_rfl)) (Cod.OpensAt.cons rfl (Cod.Opens.num Tryz.underlying3 (by kernel_rfl)) (Cod.OpensAt.cons rfl (Cod.Opens.num Tryz.underlying3 (by kernel_rfl)) (Cod.OpensAt.cons rfl (Cod.Opens.num Tryz.underlying3 (by kernel_rfl)) (Cod.OpensAt.one rfl (Cod.Opens.num Tryz.underlying3 (by kernel_rfl)))))))))).via _ fun a=>⟨⟨a.1,a.2.1,a.2.2.1,a.2.2.2.1,a.2.2.2.2.1,a.2.2.2.2.2.1,a.2.2.2.2.2.2⟩,rfl⟩
theorem openMsg:Cod.Opens Tryz.prog 41 mssgC:=
 (Cod.Opens.struct Tryz.underlying41 (by kernel_rfl) (Cod.OpensAt.cons rfl (Cod.Opens.num Tryz.underlying22 (by kernel_rfl)) (Cod.OpensAt.cons rfl (Cod.Opens.num Tryz.underlying22 (by kernel_rfl)) (Cod.OpensAt.cons rfl (Cod.Opens.num Tryz.underlying22 (by kernel_rfl)) (Cod.OpensAt.cons rfl (Cod.Opens.num Tryz.underlying22 (by kernel_rfl)) (Cod.OpensAt.cons rfl (Cod.Opens.num Tryz.underlying22 (by kernel_rfl)) (Cod.OpensAt.cons rfl (Cod.Opens.num Tryz.underlying22 (by kernel_rfl)) (Cod.OpensAt.one rfl (Cod.Opens.num Tryz.underlying22 (by kernel_rfl)))))))))).via _ fun a=>⟨⟨a.1,a.2.1,a.2.2.1,a.2.2.2.1,a.2.2.2.2.1,a.2.2.2.2.2.1,a.2.2.2.2.2.2⟩,rfl⟩
theorem openDraws:Cod.Opens Tryz.prog 27 drawsC:=
 (Cod.Opens.struct Tryz.underlying27 (by kernel_rfl) (Cod.OpensAt.cons rfl openWords (Cod.OpensAt.one rfl (Cod.Opens.num Tryz.underlying3 (by kernel_rfl))))).via _ fun a=>⟨⟨a.1,a.2⟩,rfl⟩
theorem openPerson:Cod.Opens Tryz.prog 53 personC:=
 (Cod.Opens.struct Tryz.underlying53 (by kernel_rfl) (Cod.OpensAt.cons rfl (Cod.Opens.num Tryz.underlying22 (by kernel_rfl)) (Cod.OpensAt.cons rfl (Cod.Opens.num Tryz.underlying22 (by kernel_rfl)) (Cod.OpensAt.cons rfl (Cod.Opens.num Tryz.underlying22 (by kernel_rfl)) (Cod.OpensAt.cons rfl openWords (Cod.OpensAt.cons rfl (Cod.Opens.row (e:=55) Tryz.underlying51 (by kernel_rfl) openRun (by decide)) (Cod.OpensAt.one rfl (Cod.Opens.flag Tryz.underlying4 (by kernel_rfl))))))))).via _ fun a=>⟨⟨a.1,a.2.1,a.2.2.1,a.2.2.2.1,a.2.2.2.2.1,a.2.2.2.2.2⟩,rfl⟩
theorem openWorld:Cod.Opens Tryz.prog 39 wldC:=
 (Cod.Opens.struct Tryz.underlying39 (by kernel_rfl) (Cod.OpensAt.cons rfl openConf (Cod.OpensAt.cons rfl openDraws (Cod.OpensAt.cons rfl openBox (Cod.OpensAt.cons rfl openNet (Cod.OpensAt.cons rfl (Cod.Opens.row (e:=53) Tryz.underlying35 (by kernel_rfl) openPerson (by decide)) (Cod.OpensAt.cons rfl (Cod.Opens.row (e:=61) Tryz.underlying36 (by kernel_rfl) openEvent (by decide)) (Cod.OpensAt.cons rfl openRows (Cod.OpensAt.one rfl (Cod.Opens.row (e:=92) Tryz.underlying37 (by kernel_rfl) openLeak (by decide))))))))))).via _ fun a=>⟨⟨a.1,a.2.1,a.2.2.1,a.2.2.2.1,a.2.2.2.2.1,a.2.2.2.2.2.1,a.2.2.2.2.2.2.1,a.2.2.2.2.2.2.2⟩,rfl⟩
end
end Go.Proofs.YtaoijgapnmmpoaaGreatDoor.Abs
section
namespace Go.Proofs.YtaoijgapnmmpoaaGreatDoor.Abs
open Go.ChangeShapes Go.WideShapes Go.RowKit
theorem own:ownKnob Tryz.prog.godebug=none:=by kernel_rfl
theorem laidOut:laidOutB Tryz.prog=true:=by kernel_rfl
theorem masksG:Tryz.prog.globalNamed "chamberlain/msg.masks" = some 0:=by kernel_rfl
theorem masksT:(Tryz.prog.globals[0]?).map (·.type)=some 213:=by kernel_rfl
theorem cellsT:Tryz.prog.cellsOf 213=10:=by kernel_rfl
theorem cellsU:Tryz.prog.cellsOf 22=1:=by kernel_rfl
theorem word_of_trod {H:Type}{enc:TypeId×Value→H}{w:World}{base:Nat}{sp:Nat→Bool}{held:Bool}{fuel:Nat}{c:Value}{y:DataW H×List MemPlace}(h:DataW.trod enc Tryz.prog w base sp held fuel 22 [c]=some y):∃n,c=.int .u32 n∧y=(.lit (.int .u32 n),[])∧(Lit.int .u32 n).wf=true:=by
 obtain⟨n,h1,h2,h3⟩:=DataW.trod_int Tryz.underlying22 h
 simp at h1
 exact⟨n,h1,h2,h3⟩
def masksC:Array Value:=#[.int .u32 0,.int .u32 56,.int .u32 64,.int .u32 64,.int .u32 64,.int .u32 64,.int .u32 92,.int .u32 220,.int .u32 196,.int .u32 68]
theorem gl_of_laid {W:World} (h:laidMet Tryz.prog [("chamberlain/msg.masks",Rows.laid_chamberlain_msg_masks)] W):Gl (fun k b=>k=0∧b<W.heap.size) W:=by
 obtain⟨ps,⟨g,t,cs,fuel,p,q,hg,ht,hvar,hd,_,_⟩,_⟩:=h
 obtain rfl:=Option.some.inj (masksG.symm.trans hg)
 obtain rfl:=Option.some.inj (masksT.symm.trans ht)
 have key:cs=masksC:=by
  obtain⟨l⟩:=cs
  cases fuel with
  |zero=>simp[DataW.trod]at hd
  |succ fuel=>
   simp only[DataW.trod,Tryz.underlying213,cellsT,cellsU]at hd
   split at hd
   ·rename_i hl
    obtain⟨c0,c1,c2,c3,c4,c5,c6,c7,c8,c9,rfl⟩:∃c0 c1 c2 c3 c4 c5 c6 c7 c8 c9,l=[c0,c1,c2,c3,c4,c5,c6,c7,c8,c9]:=by
     match l,hl with
     | [c0,c1,c2,c3,c4,c5,c6,c7,c8,c9],_=>exact⟨c0,c1,c2,c3,c4,c5,c6,c7,c8,c9,rfl⟩
    have e:List.range 10=[0,1,2,3,4,5,6,7,8,9]:=rfl
    rw[e]at hd
    simp only[Option.map_eq_some_iff,List.mapM_cons,List.mapM_nil,Option.bind_eq_bind,Option.bind_eq_some_iff,Option.pure_def,Option.some.injEq]at hd
    obtain⟨xs,⟨y0,h0,_,⟨y1,h1,_,⟨y2,h2,_,⟨y3,h3,_,⟨y4,h4,_,⟨y5,h5,_,⟨y6,h6,_,⟨y7,h7,_,⟨y8,h8,_,⟨y9,h9,_,rfl,rfl⟩,rfl⟩,rfl⟩,rfl⟩,rfl⟩,rfl⟩,rfl⟩,rfl⟩,rfl⟩,rfl⟩,hx⟩:=hd
    obtain⟨n0,rfl,rfl,_⟩:=word_of_trod h0
    obtain⟨n1,rfl,rfl,_⟩:=word_of_trod h1
    obtain⟨n2,rfl,rfl,_⟩:=word_of_trod h2
    obtain⟨n3,rfl,rfl,_⟩:=word_of_trod h3
    obtain⟨n4,rfl,rfl,_⟩:=word_of_trod h4
    obtain⟨n5,rfl,rfl,_⟩:=word_of_trod h5
    obtain⟨n6,rfl,rfl,_⟩:=word_of_trod h6
    obtain⟨n7,rfl,rfl,_⟩:=word_of_trod h7
    obtain⟨n8,rfl,rfl,_⟩:=word_of_trod h8
    obtain⟨n9,rfl,rfl,_⟩:=word_of_trod h9
    simp[Rows.laid_chamberlain_msg_masks]at hx
    obtain⟨⟨rfl,rfl,rfl,rfl,rfl,rfl,rfl,rfl,rfl,rfl⟩,_⟩:=hx
    rfl
   ·cases hd
 subst key
 have cell:∀(i:Nat) (u:Value),masksC[i]?=some u→W.cell? ⟨0,i,none⟩=some u:=fun i u hu=>(World.var?_cell hg hvar i).trans hu
 have hlt:0<W.heap.size:=lt_of_cell (cell 0 _ rfl)
 intro g vs hgv
 unfold tabsV at hgv
 split at hgv
 ·cases hgv
  exact⟨⟨rfl,hlt⟩,fun j u hj=>by rw[Nat.zero_add];exact cell j u (by unfold masksC;rw[List.getElem?_toArray];exact hj)⟩
 ·cases hgv
noncomputable def laidWorld (os : Os) : World :=
  { World.holding Tryz.prog os ⟨#[], #[], []⟩ with heap := (World.holding Tryz.prog os ⟨#[], #[], []⟩).heap.modify 0 fun
      | .cells _ t frozen => .cells masksC t frozen
      | o => o }
theorem laidWorld_row (os:Os)(args:Array Value):((laidWorld os).forCall (fun _ _=>0) ⟨#[],args,[]⟩).memory.heap[0]?=some (.cells masksC 213 (0,0)):=by kernel_rfl
theorem laidWorld_met (os:Os) (args:Array Value):laidMet Tryz.prog [("chamberlain/msg.masks",Rows.laid_chamberlain_msg_masks)] ((laidWorld os).forCall (fun _ _=>0) ⟨#[],args,[]⟩).memory:=by
 refine⟨_,⟨0,213,masksC,8,[],[],by kernel_rfl,by kernel_rfl,by kernel_rfl,by kernel_rfl,rfl,rfl⟩,by decide,fun b off h=>?_⟩
 have h':MemPlace.cell b off∈[MemPlace.cell 0 0,.cell 0 1,.cell 0 2,.cell 0 3,.cell 0 4,.cell 0 5,.cell 0 6,.cell 0 7,.cell 0 8,.cell 0 9]:=h
 have hb:b=0:=by simp at h';omega
 subst hb
 refine⟨⟨_,_,laidWorld_row os args⟩,fun u v hc=>?_⟩
 simp only[World.cell?,laidWorld_row os args]at hc
 simp at h'
 rcases h' with rfl|rfl|rfl|rfl|rfl|rfl|rfl|rfl|rfl|rfl<;>simp[masksC]at hc
end Go.Proofs.YtaoijgapnmmpoaaGreatDoor.Abs
end
