/- Texts that were merged: L10n, M1, G2, P18a, P18b, AbsX, P18c, P18d, P18e, P18f, M2, M3, Q14, M4. -/
import Derived.Test.YtaoijgapnmmpoaaGreatDoorZ5
import Derived.Test.YtaoijgapnmmpoaaGreatDoorZ9
import Derived.Test.YtaoijgapnmmpoaaGreatDoorZ6
import Derived.Test.YtaoijgapnmmpoaaGreatDoorZ8
import Derived.Test.YtaoijgapnmmpoaaGreatDoorZ7
import Derived.Test.YtaoijgapnmmpoaaGreatDoorZ4
import Derived.Test.YtaoijgapnmmpoaaGreatDoorZ2
set_option linter.unusedSimpArgs false
set_option linter.unusedVariables false
set_option maxHeartbeats 16000000
set_option maxRecDepth 100000
namespace Go.Proofs.YtaoijgapnmmpoaaGreatDoor.Abs
open Go.RowKit
section
theorem right_names {l:List Person}(h:rightPl l=true):l.length≤7∧∀(i:Nat) (x:Person),l[i]?=some x→x.name=(i:Int):=by
 unfold rightPl at h
 rw[Bool.and_eq_true,decide_eq_true_eq]at h
 obtain⟨h1,h2,h3⟩:=h
 refine⟨by omega,fun i x hx=>?_⟩
 have hi:=(List.getElem?_eq_some_iff.1 hx).1
 rw[namesB_iff.1 h1 i x hx]
 exact IntWalk.u32_in _ (by omega)
theorem getPl_at {l:List Person}(h:rightPl l=true){i:Nat}{x:Person}(hx:l[i]?=some x):getPl l (i:Int)=(x,true):=by
 have hn:=(right_names h).2
 cases hf:l.find? (fun p=>p.name==(i:Int))with
 |none=>
  have:=List.find?_eq_none.1 hf x (List.mem_of_getElem? hx)
  rw[hn i x hx]at this
  simp at this
 |some y=>
  have h1:=List.find?_some hf
  obtain⟨j,hj⟩:=List.mem_iff_getElem?.1 (List.mem_of_find?_eq_some hf)
  have h2:=hn j y hj
  rw[beq_iff_eq]at h1
  have:j=i:=by omega
  subst this
  rw[hx]at hj
  cases hj
  unfold getPl;rw[hf]
end
section
structure Act where
 draws:Nat
 seals:List Sealed
 who:Nat
 new:Person
 evs:List Event
 frames:List Gram
def actW (w:Wld)(a:Act):Wld:={w with
 draws:=⟨w.draws.list,w.draws.next+(a.draws:Int)⟩
 box:=⟨w.box.room,w.box.entries++a.seals⟩
 net:=⟨w.net.room,w.net.grams++a.frames,w.net.seen++a.frames.map (·.words)⟩
 people:=w.people.set a.who a.new
 log:=w.log++a.evs}
theorem setPl_at {l:List Person}(hl:rightPl l=true){i:Nat}{x p:Person}(hx:l[i]?=some x)(hp:p.name=(i:Int)):setPl l p=(l.set i p,0):=by
 have hn:=(right_names hl).2
 have hi:=(List.getElem?_eq_some_iff.1 hx).1
 have hxn:=hn i x hx
 unfold setPl
 have hany:l.any (fun q=>q.name==p.name)=true:=List.any_eq_true.2 ⟨x,List.mem_of_getElem? hx,by simp[hxn,hp]⟩
 rw[hany]
 refine Prod.ext (List.ext_getElem? fun k=>?_) rfl
 rw[List.getElem?_map,List.getElem?_set]
 cases hk:l[k]? with
 |none=>
  have:l.length≤k:=List.getElem?_eq_none_iff.1 hk
  rw[if_neg (by omega)];rfl
 |some y=>
  have e2:=hn k y hk
  by_cases e:i=k
  ·subst e
   rw[hx]at hk;cases hk
   simp[hp,hxn,hi]
  ·rw[if_neg e]
   have:y.name≠p.name:=by omega
   simp[this]
theorem withW_at {w:Wld}(hl:rightPl w.people=true){i:Nat}{x p:Person}(hx:w.people[i]?=some x)(hp:p.name=(i:Int)):withW w p={w with people:=w.people.set i p}:=by
 unfold withW
 rw[setPl_at hl hx hp]
 rfl
theorem withW_to {w v:Wld}{i:Nat}{x p:Person}(hv:v.people=w.people)(hl:rightPl w.people=true)(hx:w.people[i]?=some x)(hp:p.name=(i:Int)):withW v p={v with people:=w.people.set i p}:=by
 rw[withW_at (hv▸hl) (by rw[hv];exact hx) hp,hv]
theorem withR_to {w v:Wld}{i j:Nat}{x p:Person}{r:Run}(hv:v.people=w.people)(hl:rightPl w.people=true)(hx:w.people[i]?=some x)(hp:p.name=(i:Int)):withR v p j r={v with people:=w.people.set i {p with runs:=p.runs.set j r} }:=withW_to hv hl hx hp
theorem sentW_ok {w:Wld}{to:Int}{m:Mssg}(hm:mayM m=true)(hr:¬w.net.room≤(w.net.grams.length:Int)):sentW w to m={w with net:=⟨w.net.room,w.net.grams++[⟨to,putL m⟩],w.net.seen++[putL m]⟩}:=by
 unfold sentW
 rcases sendW_cases w to m with⟨h,_⟩|⟨_,h,_⟩|⟨_,_,h⟩
 ·rw[hm]at h;cases h
 ·exact absurd h hr
 ·rw[h]
theorem roomW_iff {w:Wld}{b f:Int}(h:roomW w b f=true):b≤w.box.room - (w.box.entries.length:Int)∧f≤w.net.room - (w.net.grams.length:Int):=of_decide_eq_true h
theorem person_at {w:Wld}(hl:rightPl w.people=true){n:Int}(h0:0≤n)(h1:n<(w.people.length:Int)):∃(i:Nat) (p:Person),n=i∧w.people[i]?=some p∧personW w n=p∧p.name=(i:Int):=by
 obtain⟨i,rfl⟩:∃i:Nat,n=i:=⟨n.toNat,by omega⟩
 have hx:w.people[i]?=some w.people[i]:=List.getElem?_eq_getElem (by omega)
 exact⟨i,_,rfl,hx,by unfold personW;rw[getPl_at hl hx],(right_names hl).2 i _ hx⟩
end
section
def run0:Run:=⟨0,0,0,0,0,0,0,0,0⟩
theorem send_room {w:Wld}{t:Int}{m:Mssg}(hm:mayM m=true)(hr:¬w.net.room≤(w.net.grams.length:Int)):sendW w t m=(sentW w t m,0):=by
 rcases sendW_cases w t m with⟨h,_⟩|⟨_,h,_⟩|⟨_,_,h⟩
 ·rw[hm]at h;cases h
 ·exact absurd h hr
 ·unfold sentW;rw[h]
theorem withW_net (w:Wld)(p:Person):(withW w p).net=w.net∧(withW w p).log=w.log∧(withW w p).box=w.box∧(withW w p).conf=w.conf:=by
 unfold withW
 split
 ·exact⟨rfl,rfl,rfl,rfl⟩
 ·exact⟨rfl,rfl,rfl,rfl⟩
end
section
structure Rsp where
 w:Wld
 me:Person
 run:Run
def eRsp (s:Rsp):List CV:=[u32 s.w.conf.window,i64 s.w.conf.people,i64 s.w.conf.box,i64 s.w.conf.used,i64 s.w.conf.runs,i64 s.w.conf.net,i64 s.w.conf.regs,eWords s.w.draws.list,i64 s.w.draws.next,i64 s.w.box.room,eSealeds s.w.box.entries,i64 s.w.net.room,eGrams s.w.net.grams,eRows s.w.net.seen,ePeople s.w.people,eEvents s.w.log,eRows s.w.regs,eLeaks s.w.leaks,u32 s.me.name,u32 s.me.key,u32 s.me.clock,eWords s.me.used,eRuns s.me.runs,bl s.me.corrupt,i64 s.run.proto,i64 s.run.role,u32 s.run.peer,u32 s.run.mine,u32 s.run.their,u32 s.run.m,u32 s.run.k,u32 s.run.t,i64 s.run.state]
theorem p18_unless (x:Bool)(e:Int):ACalls Tryz.prog 86 [.one (bl x),.one (i64 e)] (rI (bif x then 0 else e)):=by
 refine ACalls.intro (fn:=Tryz.f86) Tryz.func86 rfl rfl (by simp[Tryz.f86]) ?_
 unfold Tryz.f86
 simp only[rI]
 cases x
 ·refine wk T0 T0 T0 T0
 ·refine wk T0 T0 T0 T0
theorem p18_note (b:Nat)(s:Rsp)(kind:Int)(v:Wld)(hv:logW (withW s.w s.me) ⟨kind,2,2,s.run.peer,s.me.name,s.run.k,0,s.run.m,s.run.mine,s.me.clock⟩=v)(hp:PShort s.me)(hr:rightPl s.w.people=true)(hl:(withW s.w s.me).log.length<1000000):ACalls Tryz.prog 66 [.one (rawV b 0),.one (i64 kind)] (.bx [(b,.cells (eRsp s))] [(b,.cells (eRsp {s with w:=v}))] []):=by
 refine ACalls.introX (fn:=Tryz.f66) Tryz.func66 rfl rfl (by simp[Tryz.f66]) ?_
 have c1:=p12_with s.w s.me hp hr
 have c2:=p12_log (withW s.w s.me) ⟨kind,2,2,s.run.peer,s.me.name,s.run.k,0,s.run.m,s.run.mine,s.me.clock⟩ hl
 rw[hv]at c2
 clear hp hr hl hv
 generalize withW s.w s.me=u at *
 obtain⟨w,me,run⟩:=s
 unfold Tryz.f66
 simp only[rawV,insOf,setBs,eRsp,eWld,ePerson,eEvent,eSealeds,eGrams,ePeople,eEvents,eRows,eWords,eLeaks,eRuns]at *
 refine wk T0 (J2 c1 c2) T0 (J5 ?_ ?_ ?_ ?_ T0)
 all_goals ((repeat intro h);refine⟨?_⟩)
 all_goals simp only[go_sem,↓reduceIte]
theorem p18_next (b:Nat)(s:Rsp)(fr:Int):ACalls Tryz.prog 135 [.one (rawV b 0),.one (i64 fr)] (.bx [(b,.cells (eRsp s))] [(b,.cells (eRsp s))] [.one (i64 (nextRun s.me.runs fr 2 2 1).1),.one (bl (nextRun s.me.runs fr 2 2 1).2)]):=by
 refine ACalls.introX (fn:=Tryz.f135) Tryz.func135 rfl rfl (by simp[Tryz.f135]) ?_
 have c1:=p09_next s.me.runs fr 2 2 1
 generalize nextRun s.me.runs fr 2 2 1=n at *
 obtain⟨w,me,run⟩:=s
 unfold Tryz.f135
 simp only[rawV,insOf,setBs,eRsp,eSealeds,eGrams,ePeople,eEvents,eRows,eWords,eLeaks,eRuns]at *
 refine wk T0 c1 T0 T0
 all_goals simp only[go_sem,↓reduceIte]
def lookC (p:FuncId×List CV):List CV:=[.fn p.1 false [] p.2]
theorem p18_ask1 (b:Nat)(cs:List CV)(fs:List (FuncId×List CV))(e:Nat→Int)(N:Nat)(q:Int)(hl:fs.length<1000)(h0:∀i,i<N→e i=0)(hN:(N=fs.length∧q=0)∨(N<fs.length∧e N≠0∧q=e N))(hc:∀i f c,i≤N→fs[i]?=some (f,c)→ACalls Tryz.prog f (c.map .one) (.bx [(b,.cells cs)] [(b,.cells cs)] [.one (i64 (e i))])):ACalls Tryz.prog 84 [.one (.row (fs.map lookC))] (.bx [(b,.cells cs)] [(b,.cells cs)] [.one (i64 q)]):=by
 refine ACalls.introX (fn:=Tryz.f84) Tryz.func84 rfl rfl (by simp[Tryz.f84]) ?_
 unfold Tryz.f84
 simp only[insOf,setBs]
 refine wk T0 T0 T0 (J2 ?_ T0)
 all_goals ((repeat intro h);refine⟨?_⟩)
 refine AW.loopW (fun n σ=>∃k:Nat,n=fs.length - k∧k≤N∧σ=⟨18,(upd (upd (upd (upd (fun _=>.junk) 2 (.one (.c (i64 0)))) 6 (.one (.c (.row (fs.map lookC))))) 7 (.one (.c (i64 fs.length)))) 8 (.one (.c (i64 k)))),(upd (fun _=>none) (1000000+b) (some (.obox cs)))⟩) (n:=fs.length) _ ⟨0,rfl,Nat.zero_le _,rfl⟩ (by exact lz T0) ?_
 rintro n σ ⟨k,rfl,hk,rfl⟩
 have hs:=wrapI (x:=(k:Int)+1) (by omega) (by omega)
 by_cases hlt:k<fs.length
 ·obtain⟨⟨f,c⟩,hf⟩:∃f,fs[k]?=some f:=⟨_,List.getElem?_eq_getElem hlt⟩
  have c1:=hc k f c hk hf
  have hcc:lookC (f,c)=[.fn f false [] c]:=rfl
  by_cases hz:e k=0
  ·have hkN:k<N:=by
    rcases hN with⟨h,_⟩|⟨_,h,_⟩
    ·omega
    ·rcases Nat.lt_or_ge k N with h2|h2
     ·exact h2
     ·exact absurd hz (by rw[show k=N by omega];exact h)
   rw[hz]at c1
   clear hc h0 hN hz
   refine wk (J4 hf hlt hs hcc) c1 T0 (J2 ?_ T0)
   all_goals ((repeat intro h);refine⟨?_⟩)
   refine⟨fs.length - (k+1),by omega,_,⟨k+1,rfl,hkN,rfl⟩,?_⟩
   exact lz T0
  ·have hkN:k=N:=by
    rcases Nat.lt_or_ge k N with h2|h2
    ·exact absurd (h0 k h2) hz
    ·omega
   subst hkN
   rcases hN with⟨h,_⟩|⟨_,_,rfl⟩
   ·omega
   have hz':(e k != 0)=true:=by simp[hz]
   clear hc h0 hz
   refine wk (J5 hf hlt hs hcc hz') c1 T0 T0
   all_goals (try simp only[go_sem,↓reduceIte])
 ·rcases hN with⟨h,rfl⟩|⟨h,_⟩
  rotate_left
  ·omega
  clear hc h0
  refine wk hlt T0 T0 T0
  all_goals (try simp only[go_sem,↓reduceIte])
theorem p18_ask2 (b a:Nat)(hba:b≠a)(cs ds:Nat→List CV)(fs:List (FuncId×List CV))(e:Nat→Int)(N E:Nat)(q:Int)(hl:fs.length<1000)(h0:∀i,i<N→e i=0)(hN:(N=fs.length∧q=0∧E=N)∨(N<fs.length∧e N≠0∧q=e N∧E=N+1))(hc:∀i f c,i≤N→fs[i]?=some (f,c)→ACalls Tryz.prog f (c.map .one) (.bx [(b,.cells (cs i)),(a,.cells (ds i))] [(b,.cells (cs (i+1))),(a,.cells (ds (i+1)))] [.one (i64 (e i))])):ACalls Tryz.prog 84 [.one (.row (fs.map lookC))] (.bx [(b,.cells (cs 0)),(a,.cells (ds 0))] [(b,.cells (cs E)),(a,.cells (ds E))] [.one (i64 q)]):=by
 refine ACalls.introX (fn:=Tryz.f84) Tryz.func84 rfl rfl (by simp[Tryz.f84]) ?_
 have t1:(b==a)=false:=by simp[hba]
 have t2:(a==b)=false:=by simp[Ne.symm hba]
 have t3:(b=a)=False:=eq_false hba
 have t4:(a=b)=False:=eq_false (Ne.symm hba)
 unfold Tryz.f84
 simp only[insOf,setBs]
 refine wk (J4 t1 t2 t3 t4) T0 T0 (J2 ?_ T0)
 all_goals ((repeat intro h);refine⟨?_⟩)
 refine AW.loopW (fun n σ=>∃k:Nat,n=fs.length - k∧k≤N∧σ=⟨18,(upd (upd (upd (upd (fun _=>.junk) 2 (.one (.c (i64 0)))) 6 (.one (.c (.row (fs.map lookC))))) 7 (.one (.c (i64 fs.length)))) 8 (.one (.c (i64 k)))),(upd (upd (fun _=>none) (1000000+a) (some (.obox (ds k)))) (1000000+b) (some (.obox (cs k))))⟩) (n:=fs.length) _ ⟨0,rfl,Nat.zero_le _,rfl⟩ (by exact lz (J4 t1 t2 t3 t4)) ?_
 rintro n σ ⟨k,rfl,hk,rfl⟩
 have hs:=wrapI (x:=(k:Int)+1) (by omega) (by omega)
 by_cases hlt:k<fs.length
 ·obtain⟨⟨f,c⟩,hf⟩:∃f,fs[k]?=some f:=⟨_,List.getElem?_eq_getElem hlt⟩
  have c1:=hc k f c hk hf
  have hcc:lookC (f,c)=[.fn f false [] c]:=rfl
  by_cases hz:e k=0
  ·have hkN:k<N:=by
    rcases hN with⟨h,_⟩|⟨_,h,_⟩
    ·omega
    ·rcases Nat.lt_or_ge k N with h2|h2
     ·exact h2
     ·exact absurd hz (by rw[show k=N by omega];exact h)
   rw[hz]at c1
   clear hc h0 hN hz
   generalize hA:cs (k+1)=A at *
   generalize hB:ds (k+1)=B at *
   generalize cs k=A0 at *
   generalize ds k=B0 at *
   refine wk (J8 hf hlt hs hcc t1 t2 t3 t4) c1 T0 (J2 ?_ T0)
   all_goals ((repeat intro h);refine⟨?_⟩)
   refine⟨fs.length - (k+1),by omega,_,⟨k+1,rfl,hkN,rfl⟩,?_⟩
   rw[hA,hB]
   exact lz (J4 t1 t2 t3 t4)
  ·have hkN:k=N:=by
    rcases Nat.lt_or_ge k N with h2|h2
    ·exact absurd (h0 k h2) hz
    ·omega
   subst hkN
   rcases hN with⟨h,_⟩|⟨_,_,rfl,rfl⟩
   ·omega
   have hz':(e k != 0)=true:=by simp[hz]
   clear hc h0 hz
   generalize cs (k+1)=A at *
   generalize ds (k+1)=B at *
   generalize cs k=A0 at *
   generalize ds k=B0 at *
   refine wk (J9 hf hlt hs hcc hz' t1 t2 t3 t4) c1 T0 T0
   all_goals (try simp only[go_sem,↓reduceIte,t1,t2,t3,t4])
 ·rcases hN with⟨h,hq,hE⟩|⟨h,_⟩
  rotate_left
  ·omega
  subst hq
  have hkE:k=E:=by omega
  clear hc h0 hE h
  subst hkE
  refine wk (J5 hlt t1 t2 t3 t4) T0 T0 T0
  all_goals (try simp only[go_sem,↓reduceIte,t1,t2,t3,t4])
end
section
theorem p18_waiting (b:Nat)(s:Rsp)(d:Int)(hm:s.me.runs.length<1000000)(a e:Int)(hE:((∀(i:Nat) (x:Run),s.me.runs[i]?=some x→(isKind 2 2 1 x&&x.m==d)=false)∧a=0∧e=9)∨∃k r,s.me.runs[k]?=some r∧(isKind 2 2 1 r&&r.m==d)=true∧(∀(i:Nat) (x:Run),i<k→s.me.runs[i]?=some x→(isKind 2 2 1 x&&x.m==d)=false)∧a=(k:Int)∧e=0):ACalls Tryz.prog 107 [.one (rawV b 0),.one (u32 d)] (.bx [(b,.cells (eRsp s))] [(b,.cells (eRsp s))] [.one (i64 a),.one (i64 e)]):=by
 refine ACalls.introX (fn:=Tryz.f107) Tryz.func107 rfl rfl (by simp[Tryz.f107]) ?_
 have c0:=fun fr=>p18_next b s fr
 obtain⟨w,me,run⟩:=s
 simp only at hm hE c0
 unfold Tryz.f107
 simp only[rawV,insOf,setBs,eRsp,eWld,eSealeds,eGrams,ePeople,eEvents,eRows,eWords,eLeaks,eRuns,ePrt]at *
 generalize me.runs=L at *
 have c1:=c0 0
 refine wk T0 c1 T0 (J2 ?_ T0)
 all_goals ((repeat intro h);refine⟨?_⟩)
 refine AW.loopW (fun n σ=>∃f:Nat,n=L.length - f∧f≤L.length∧(∀(i:Nat) (x:Run),i<f→L[i]?=some x→(isKind 2 2 1 x&&x.m==d)=false)∧σ=⟨33,(upd (upd (upd (upd (fun _=>.junk) 0 (.one (.c (rawV b 0)))) 1 (.one (.c (u32 d)))) 6 (.one (.c (i64 (nextRun L (f:Int) 2 2 1).1)))) 7 (.one (.c (bl (nextRun L (f:Int) 2 2 1).2)))),(upd (fun _=>none) (1000000+b) (some (.obox [u32 w.conf.window,i64 w.conf.people,i64 w.conf.box,i64 w.conf.used,i64 w.conf.runs,i64 w.conf.net,i64 w.conf.regs,CV.row (List.map eWord w.draws.list),i64 w.draws.next,i64 w.box.room,CV.row (List.map eSealed w.box.entries),i64 w.net.room,CV.row (List.map eGram w.net.grams),CV.row (List.map eSeen w.net.seen),CV.row (List.map ePerson w.people),CV.row (List.map eEvent w.log),CV.row (List.map eSeen w.regs),CV.row (List.map eLeak w.leaks),u32 me.name,u32 me.key,u32 me.clock,CV.row (List.map eWord me.used),CV.row (List.map eRun L),bl me.corrupt,i64 run.proto,i64 run.role,u32 run.peer,u32 run.mine,u32 run.their,u32 run.m,u32 run.k,u32 run.t,i64 run.state])))⟩) (n:=L.length) _ ⟨0,rfl,Nat.zero_le _,fun i x hi=>absurd hi (Nat.not_lt_zero i),rfl⟩ (by simp only[Int.natCast_zero];exact lz T0) ?_
 rintro n σ ⟨f,rfl,hf,hno,rfl⟩
 have hle:∀m:Nat,m≤L.length→(∀(i:Nat) (x:Run),i<f→L[i]?=some x→(isKind 2 2 1 x&&x.m==d)=false)→noneTo L (f:Int) (isKind 2 2 1) m→∀(i:Nat) (x:Run),i<m→L[i]?=some x→(isKind 2 2 1 x&&x.m==d)=false:=fun m _ h1 h2 i x hi hx=>by
  rcases Nat.lt_or_ge i f with h|h
  ·exact h1 i x h hx
  ·rw[h2 i x hi hx (by omega)];rfl
 rcases idxFrom_cases L (f:Int) (isKind 2 2 1)with⟨hn,hnone⟩|⟨k,x,hk,hnk,hx,hkl,hfk,hqx⟩
 ·have hnx:nextRun L (f:Int) 2 2 1=(0,false):=by unfold nextRun;rw[hn]
  have hall:∀(i:Nat) (x:Run),L[i]?=some x→(isKind 2 2 1 x&&x.m==d)=false:=fun i x hx=>hle L.length (Nat.le_refl _) hno hnone i x (List.getElem?_eq_some_iff.1 hx).1 hx
  rcases hE with⟨_,rfl,rfl⟩|⟨k,r,h1,h2,_⟩
  rotate_left
  ·rw[hall k r h1]at h2;cases h2
  rw[hnx]
  clear hall hle hno
  refine wk T0 T0 T0 T0
  all_goals (try simp only[go_sem,↓reduceIte])
 ·have hnx:nextRun L (f:Int) 2 2 1=((k:Int),true):=by unfold nextRun;rw[hk]
  have hbel:=hle k (by omega) hno hnk
  cases hq:x.m==d
  ·have c2:=c0 ((k+1:Nat):Int)
   have hw:=wrapI (x:=(k:Int)+1) (by omega) (by omega)
   have hcast:((k+1:Nat):Int)=(k:Int)+1:=by omega
   rw[hnx]
   generalize hnn:nextRun L ((k+1:Nat):Int) 2 2 1=nn at *
   rw[hcast]at c2
   have hstep:∃f',k+1=f'∧f'≤L.length∧(∀(i:Nat) (y:Run),i<f'→L[i]?=some y→(isKind 2 2 1 y&&y.m==d)=false):=by
    refine⟨k+1,rfl,by omega,fun i y hi hy=>?_⟩
    rcases Nat.lt_or_ge i k with h|h
    ·exact hbel i y h hy
    ·obtain rfl:i=k:=by omega
     rw[hx]at hy;cases hy
     rw[hq,Bool.and_false]
   obtain⟨f',rfl,hf',hno'⟩:=hstep
   clear hle hE hbel hno
   refine wk (J5 hx hkl hw eRun.eq_1 hq) c2 T0 (J2 ?_ T0)
   all_goals ((repeat intro h);refine⟨?_⟩)
   refine⟨L.length - (k+1),by omega,_,⟨k+1,rfl,hf',hno',rfl⟩,?_⟩
   rw[hnn]
   exact lz T0
  ·have hkq:(isKind 2 2 1 x&&x.m==d)=true:=by rw[hqx,hq];rfl
   rcases hE with⟨h0,_⟩|⟨k',r',h1,h2,h3,rfl,rfl⟩
   ·rw[h0 k x hx]at hkq;cases hkq
   obtain rfl:k'=k:=by
    rcases Nat.lt_trichotomy k' k with h|h|h
    ·rw[hbel k' r' h h1]at h2;cases h2
    ·exact h
    ·rw[h3 k x h hx]at hkq;cases hkq
   rw[hx]at h1
   cases h1
   rw[hnx]
   clear hle h3 hbel hno h2 hkq
   refine wk (J4 hx hkl eRun.eq_1 hq) T0 T0 T0
   all_goals (try simp only[go_sem,↓reduceIte])
end
section
section
variable {P:Program}
theorem AW.shut {c:Code}{σ:St}{Q:Exit→St→Prop}(d id:Nat){cs:List A}(hd:σ.t d=.one (.ptr id 0))(hm:σ.m id=some (.box cs))(hp:plainL cs)(h:AW P c ⟨σ.n,upd σ.t d (.one (.c (.ptrc 0 (cs.map clo0) 0))),upd σ.m id (some (.fbox (cs.map clo0)))⟩ Q):AW P c σ Q:=fun base S0 w0 df a w hG=>by
 obtain⟨cc,h1,h2,h3⟩:=hG
 obtain⟨c1,g,r⟩:=shut_one h2 (i:=id) (by rw[hm];exact hp)
 have e:shutB (σ.m id)=some (.fbox (cs.map clo0)):=by rw[hm];rfl
 rw[e]at g r
 refine h base S0 w0 df a w ⟨c1,⟨h1.1,fun q hq=>?_,h1.3.mono (g.S 0) (g.heap 0)⟩,r,h3.goes g⟩
 show VV c1 w _ (upd σ.t d _ q) _
 by_cases hqd:q=d
 ·subst hqd
  rw[upd_same]
  have hv:=(h1.2 q hq).goes g
  rw[hd]at hv
  obtain⟨_,hpv⟩:=hv
  obtain⟨p1,vs,p2,p3⟩:=r.blk id _ (upd_same _ _ _)
  show R c1.S w (.ptrc 0 (cs.map clo0) 0) _
  rw[hpv]
  exact R.ptr p1 p2.1 p3 p2.2
 ·rw[upd_ne _ _ hqd]
  exact(h1.2 q hq).goes g
def NoIds (t:Nat→AV):Prop:=∀d,(t d).ids=[]
theorem NoIds.junk:NoIds fun _=>.junk:=fun _=>rfl
theorem NoIds.upd {t:Nat→AV}{k:Nat}{x:AV}(hx:x.ids=[])(h:NoIds t):NoIds (upd t k x):=fun d=>by
 by_cases e:d=k
 ·subst e;rw[upd_same];exact hx
 ·rw[upd_ne _ _ e];exact h d
theorem NoIds.at {t:Nat→AV}(h:NoIds t)(d:Nat):t d=.junk∨(t d=t d∧(t d).ids=[]):=.inr ⟨rfl,h d⟩
end
end
section
abbrev capR (b:Nat):CV:=.ptrc 0 [rawV b 0] 0
abbrev capM (m:Mssg):CV:=.ptrc 0 (eMssg m) 0
theorem p18_m1 (b a:Nat)(hba:b≠a)(s:Rsp)(m:Mssg)(hm:s.me.runs.length<1000000)(x e:Int)(hE:((∀(i:Nat) (x:Run),s.me.runs[i]?=some x→(isKind 2 2 1 x&&x.m==m.run)=false)∧x=0∧e=9)∨∃k r,s.me.runs[k]?=some r∧(isKind 2 2 1 r&&r.m==m.run)=true∧(∀(i:Nat) (x:Run),i<k→s.me.runs[i]?=some x→(isKind 2 2 1 x&&x.m==m.run)=false)∧x=(k:Int)∧e=0):ACalls Tryz.prog 106 [.one (capR b),.one (capM m),.one (rawV a 0)] (.bx [(b,.cells (eRsp s)),(a,.cells [i64 0])] [(b,.cells (eRsp s)),(a,.cells [i64 x])] [.one (i64 e)]):=by
 refine ACalls.introX (fn:=Tryz.f106) Tryz.func106 rfl rfl (by simp[Tryz.f106]) ?_
 have t1:(b==a)=false:=by simp[hba]
 have t2:(a==b)=false:=by simp[Ne.symm hba]
 have t3:(b=a)=False:=eq_false hba
 have t4:(a=b)=False:=eq_false (Ne.symm hba)
 have c1:=p18_waiting b s m.run hm x e hE
 clear hE hm
 generalize eRsp s=C at *
 unfold Tryz.f106
 simp only[rawV,insOf,setBs,capR,capM,eMssg]at *
 refine wk (J4 t1 t2 t3 t4) c1 T0 T0
 all_goals (try simp only[go_sem,↓reduceIte,t1,t2,t3,t4])
def endR (k:Int)(r:Run):Run:={r with k:=k,state:=3}
theorem p18_m2 (b a:Nat)(hba:b≠a)(s:Rsp)(m:Mssg)(hb:rightB s.w.box=true)(i:Nat)(r:Run)(hx:s.me.runs[i]?=some r):ACalls Tryz.prog 108 [.one (capR b),.one (rawV a 0),.one (capM m)] (.bx [(b,.cells (eRsp s)),(a,.cells [i64 i])] [(b,.cells (eRsp {s with run:=endR (openW s.w s.me.key 8 m.more).1.k r})),(a,.cells [i64 i])] [.one (i64 (bif (openW s.w s.me.key 8 m.more).2&&(openW s.w s.me.key 8 m.more).1.n==r.mine then 0 else 6))]):=by
 refine ACalls.introX (fn:=Tryz.f108) Tryz.func108 rfl rfl (by simp[Tryz.f108]) ?_
 have t1:(b==a)=false:=by simp[hba]
 have t2:(a==b)=false:=by simp[Ne.symm hba]
 have t3:(b=a)=False:=eq_false hba
 have t4:(a=b)=False:=eq_false (Ne.symm hba)
 have c1:=p12_open s.w s.me.key 8 m.more hb
 have hlt:i<s.me.runs.length:=(List.getElem?_eq_some_iff.1 hx).1
 clear hb
 generalize openW s.w s.me.key 8 m.more=o at *
 obtain⟨g,ok⟩:=o
 obtain⟨w,me,run⟩:=s
 simp only at hx hlt
 have hr:=eRun.eq_1 r
 have c2:=p18_unless (ok&&g.n==r.mine) 6
 simp only[endR]
 cases ok
 ·rw[Bool.false_and]at c2 ⊢
  unfold Tryz.f108
  simp only[rawV,insOf,setBs,eRsp,eWld,ePrt,capR,capM,eMssg,eSealeds,eGrams,ePeople,eEvents,eRows,eWords,eLeaks,eRuns,rB,rI]at *
  refine wk (J7 hx hlt hr t1 t2 t3 t4) (J2 c1 c2) T0 T0
  all_goals (try simp only[go_sem,↓reduceIte,t1,t2,t3,t4])
 ·rw[Bool.true_and]at c2 ⊢
  unfold Tryz.f108
  simp only[rawV,insOf,setBs,eRsp,eWld,ePrt,capR,capM,eMssg,eSealeds,eGrams,ePeople,eEvents,eRows,eWords,eLeaks,eRuns,rB,rI]at *
  refine wk (J7 hx hlt hr t1 t2 t3 t4) (J2 c1 c2) T0 T0
  all_goals (try simp only[go_sem,↓reduceIte,t1,t2,t3,t4])
theorem p18_m3 (b a:Nat)(hba:b≠a)(s:Rsp)(v:CV)(h1:rightB s.w.box=true)(h2:rightN s.w.net=true):ACalls Tryz.prog 110 [.one (capR b)] (.bx [(b,.cells (eRsp s)),(a,.cells [v])] [(b,.cells (eRsp s)),(a,.cells [v])] [.one (i64 (bif roomW s.w 0 1 then 0 else 10))]):=by
 refine ACalls.introX (fn:=Tryz.f110) Tryz.func110 rfl rfl (by simp[Tryz.f110]) ?_
 have t1:(b==a)=false:=by simp[hba]
 have t2:(a==b)=false:=by simp[Ne.symm hba]
 have t3:(b=a)=False:=eq_false hba
 have t4:(a=b)=False:=eq_false (Ne.symm hba)
 have c1:=p12_room s.w 0 1 h1 h2
 have c2:=p18_unless (roomW s.w 0 1) 10
 clear h1 h2
 generalize roomW s.w 0 1=rm at *
 obtain⟨w,me,run⟩:=s
 unfold Tryz.f110
 simp only[rawV,insOf,setBs,eRsp,eWld,capR,eSealeds,eGrams,ePeople,eEvents,eRows,eWords,eLeaks,eRuns,rB,rI]at *
 refine wk (J4 t1 t2 t3 t4) (J2 c1 c2) T0 T0
 all_goals (try simp only[go_sem,↓reduceIte,t1,t2,t3,t4])
def looks2 (b a:Nat)(m:Mssg):List (FuncId×List CV):=[(106,[capR b,capM m,rawV a 0]),(108,[capR b,rawV a 0,capM m]),(110,[capR b])]
theorem p18_match (bb:Nat)(s s':Rsp)(m:Mssg)(x q:Int)(hk:∀a,bb≠a→ACalls Tryz.prog 84 [.one (.row ((looks2 bb a m).map lookC))] (.bx [(bb,.cells (eRsp s)),(a,.cells [i64 0])] [(bb,.cells (eRsp s')),(a,.cells [i64 x])] [.one (i64 q)])):ACalls Tryz.prog 75 [.one (rawV bb 0),.agg (eMssg m)] (.bx [(bb,.cells (eRsp s))] [(bb,.cells (eRsp s'))] [.one (i64 x),.one (i64 q)]):=by
 refine ACalls.introX (fn:=Tryz.f75) Tryz.func75 rfl rfl (by simp[Tryz.f75]) ?_
 generalize eRsp s=C at *
 generalize eRsp s'=C' at *
 unfold Tryz.f75
 simp only[rawV,insOf,setBs,capR,capM,eMssg,looks2,lookC,List.map_cons,List.map_nil]at *
 refine wk T0 T0 (@AW.halt 2) (J2 ?_ T0)
 all_goals ((repeat intro h);refine⟨?_⟩)
 refine AWs.mk (AW.name 6 rfl (by simp only[go_sem,↓reduceIte]) (fun b=>by simp only[go_sem,↓reduceIte];by_cases h:b=bb<;>simp[h]) fun a ha=>?_)
 have hba:bb≠a:=fun e=>by
  subst e
  simp[upd]at ha
  (repeat(rw[if_neg (by omega)]at ha));cases ha
 clear ha
 have c1:=hk a hba
 have t1:(bb==a)=false:=by simp[hba]
 have t2:(a==bb)=false:=by simp[Ne.symm hba]
 have t3:(bb=a)=False:=eq_false hba
 have t4:(a=bb)=False:=eq_false (Ne.symm hba)
 clear hk
 refine wk (J4 t1 t2 t3 t4) c1 T0 T0
 all_goals (try simp only[go_sem,↓reduceIte,t1,t2,t3,t4])
theorem waitsO2_kind (d:Int)(r:Run):(isKind 2 2 1 r&&r.m==d)=waitsO 2 d r:=by
 unfold isKind waitsO
 simp only[Bool.and_assoc]
theorem p18_match_no (bb:Nat)(s:Rsp)(m:Mssg)(hm:s.me.runs.length<1000000)(ha:∀(i:Nat) (x:Run),s.me.runs[i]?=some x→waitsO 2 m.run x=false):ACalls Tryz.prog 75 [.one (rawV bb 0),.agg (eMssg m)] (.bx [(bb,.cells (eRsp s))] [(bb,.cells (eRsp s))] [.one (i64 0),.one (i64 9)]):=by
 refine p18_match bb s s m 0 9 fun a hba=>?_
 refine p18_ask2 bb a hba (fun _=>eRsp s) (fun _=>[i64 0]) (looks2 bb a m) (fun _=>9) 0 1 9 (by show 3<1000;decide) (fun i hi=>absurd hi (Nat.not_lt_zero i)) (.inr ⟨by show 0<3;decide,by decide,rfl,rfl⟩) ?_
 intro i f c hi hf
 obtain rfl:i=0:=by omega
 cases hf
 exact p18_m1 bb a hba s m hm 0 9 (.inl ⟨fun i x hx=>(waitsO2_kind m.run x).trans (ha i x hx),rfl,rfl⟩)
theorem p18_match_yes (bb:Nat)(s:Rsp)(m:Mssg)(hm:s.me.runs.length<1000000)(h1:rightB s.w.box=true)(h2:rightN s.w.net=true)(i:Nat)(r:Run)(hx:s.me.runs[i]?=some r)(hw:waitsO 2 m.run r=true)(ha:∀(j:Nat) (x:Run),j<i→s.me.runs[j]?=some x→waitsO 2 m.run x=false)(q:Int)(hq:(((openW s.w s.me.key 8 m.more).2&&(openW s.w s.me.key 8 m.more).1.n==r.mine)=false∧q=6)∨(((openW s.w s.me.key 8 m.more).2&&(openW s.w s.me.key 8 m.more).1.n==r.mine)=true∧roomW s.w 0 1=false∧q=10)∨(((openW s.w s.me.key 8 m.more).2&&(openW s.w s.me.key 8 m.more).1.n==r.mine)=true∧roomW s.w 0 1=true∧q=0)):ACalls Tryz.prog 75 [.one (rawV bb 0),.agg (eMssg m)] (.bx [(bb,.cells (eRsp s))] [(bb,.cells (eRsp {s with run:=endR (openW s.w s.me.key 8 m.more).1.k r}))] [.one (i64 i),.one (i64 q)]):=by
 refine p18_match bb s _ m i q fun a hba=>?_
 have k1:=p18_m1 bb a hba s m hm i 0 (.inr ⟨i,r,hx,(waitsO2_kind m.run r).trans hw,fun j x hj hx=>(waitsO2_kind m.run x).trans (ha j x hj hx),rfl,rfl⟩)
 have k2:=p18_m2 bb a hba s m h1 i r hx
 have k3:=p18_m3 bb a hba {s with run:=endR (openW s.w s.me.key 8 m.more).1.k r} (i64 i) h1 h2
 have e3:roomW ({s with run:=endR (openW s.w s.me.key 8 m.more).1.k r}:Rsp).w 0 1=roomW s.w 0 1:=rfl
 rw[e3]at k3
 clear hw ha hm h1 h2 hx e3
 generalize ({s with run:=endR (openW s.w s.me.key 8 m.more).1.k r}:Rsp)=s' at *
 generalize ((openW s.w s.me.key 8 m.more).2&&(openW s.w s.me.key 8 m.more).1.n==r.mine)=y at *
 generalize roomW s.w 0 1=rm at *
 have key:=p18_ask2 bb a hba (fun n=>match n with|0=>eRsp s|1=>eRsp s|_=>eRsp s') (fun n=>match n with|0=>[i64 0]|_=>[i64 i]) (looks2 bb a m) (fun n=>match n with|0=>0|1=>bif y then 0 else 6|_=>bif rm then 0 else 10)
 have hc:∀(N:Nat),N≤3→∀(j:Nat) (f:FuncId) (c:List CV),j≤N→(looks2 bb a m)[j]?=some (f,c)→ACalls Tryz.prog f (c.map .one) (.bx [(bb,.cells ((fun n=>match n with|0=>eRsp s|1=>eRsp s|_=>eRsp s') j)),(a,.cells ((fun n=>match n with|0=>[i64 0]|_=>[i64 i]) j))] [(bb,.cells ((fun n=>match n with|0=>eRsp s|1=>eRsp s|_=>eRsp s') (j+1))),(a,.cells ((fun n=>match n with|0=>[i64 0]|_=>[i64 i]) (j+1)))] [.one (i64 ((fun n=>match n with|0=>0|1=>bif y then 0 else 6|_=>bif rm then 0 else 10) j))]):=by
  intro N hN j f c hj hf
  match j,hf with
  |0,hf=>cases hf;exact k1
  |1,hf=>cases hf;exact k2
  |2,hf=>cases hf;exact k3
  |n+3,hf=>cases hf
 rcases hq with⟨rfl,rfl⟩|⟨rfl,rfl,rfl⟩|⟨rfl,rfl,rfl⟩
 ·exact key 1 2 6 (by show 3<1000;decide) (fun j hj=>by obtain rfl:j=0:=(by omega);rfl) (.inr ⟨by show 1<3;decide,(show(6:Int)≠0 by decide),rfl,rfl⟩) (hc 1 (by decide))
 ·exact key 2 3 10 (by show 3<1000;decide) (fun j hj=>by rcases(show j=0∨j=1 by omega)with rfl|rfl<;>rfl) (.inr ⟨by show 2<3;decide,(show(10:Int)≠0 by decide),rfl,rfl⟩) (hc 2 (by decide))
 ·exact key 3 3 0 (by show 3<1000;decide) (fun j hj=>by rcases(show j=0∨j=1∨j=2 by omega)with rfl|rfl|rfl<;>rfl) (.inl ⟨rfl,rfl,rfl⟩) (hc 3 (by decide))
end
section
def endV (w:Wld)(me:Int)(i:Nat)(k:Int)(r:Run):Wld:=logW (withW w {personW w me with runs:=(personW w me).runs.set i (endR k r)}) ⟨4,2,2,r.peer,(personW w me).name,k,0,r.m,r.mine,(personW w me).clock⟩
theorem p18_commit (w:Wld)(me:Int)(m:Mssg)(h:Good 10 w)(h1:1≤me)(h2:me<(w.people.length:Int)):∃D:Rsp,((shareBW w me m).2=0→(shareBW w me m).1=D.w)∧∀bb,ACalls Tryz.prog 38 [.one (rawV bb 0),.agg (eMssg m)] (.bx [(bb,.cells (eRsp ⟨w,personW w me,run0⟩))] [(bb,.cells (eRsp D))] [.one (i64 (shareBW w me m).2)]):=by
 have hp:=h.person me
 have bad:∀(D:Rsp) (x q:Int),q≠0→(∀bb,ACalls Tryz.prog 75 [.one (rawV bb 0),.agg (eMssg m)] (.bx [(bb,.cells (eRsp ⟨w,personW w me,run0⟩))] [(bb,.cells (eRsp D))] [.one (i64 x),.one (i64 q)]))→∀bb,ACalls Tryz.prog 38 [.one (rawV bb 0),.agg (eMssg m)] (.bx [(bb,.cells (eRsp ⟨w,personW w me,run0⟩))] [(bb,.cells (eRsp D))] [.one (i64 q)]):=by
  intro D x q hq hc bb
  have c1:=hc bb
  have hq':(q != 0)=true:=by simp[hq]
  clear hc hq hp h1 h2 h
  refine ACalls.introX (fn:=Tryz.f38) Tryz.func38 rfl rfl (by simp[Tryz.f38]) ?_
  generalize eRsp D=C at *
  generalize eRsp ⟨w,personW w me,run0⟩=C0 at *
  unfold Tryz.f38
  simp only[rawV,insOf,setBs,eMssg]at *
  refine wk hq' c1 T0 T0
  all_goals (try simp only[go_sem,↓reduceIte])
 unfold shareBW
 rcases idx_or (personW w me).runs (waitsO 2 m.run)with⟨hn,ha⟩|⟨i,r,hf,hi,hx,hw,ha⟩
 ·simp only[hn]
  exact⟨⟨w,personW w me,run0⟩,fun _=>rfl,bad _ 0 9 (by decide) fun bb=>p18_match_no bb ⟨w,personW w me,run0⟩ m (by show(personW w me).runs.length<1000000;omega) ha⟩
 simp only[hf,hi]
 have hlt:i<(personW w me).runs.length:=(List.getElem?_eq_some_iff.1 hx).1
 have c2:=fun bb q=>p18_match_yes bb ⟨w,personW w me,run0⟩ m (by show(personW w me).runs.length<1000000;omega) h.box h.net i r hx hw ha q
 clear ha hf hi
 simp only at c2
 cases hy:((openW w (personW w me).key 8 m.more).2&&(openW w (personW w me).key 8 m.more).1.n==r.mine)
 ·rw[if_pos rfl]
  exact⟨_,fun e=>absurd e (show¬(6:Int)=0 by decide),bad _ i 6 (by decide) fun bb=>c2 bb 6 (.inl ⟨hy,rfl⟩)⟩
 rw[if_neg (by decide)]
 cases hrm:roomW w 0 1
 ·rw[if_pos rfl]
  exact⟨_,fun e=>absurd e (show¬(10:Int)=0 by decide),bad _ i 10 (by decide) fun bb=>c2 bb 10 (.inr (.inl ⟨hy,hrm,rfl⟩))⟩
 rw[if_neg (by decide)]
 clear bad
 have c2:=fun bb=>c2 bb 0 (.inr (.inr ⟨hy,hrm,rfl⟩))
 generalize hk:(openW w (personW w me).key 8 m.more).1=S at *
 clear hy hk
 generalize hkk:S.k=k at *
 obtain⟨j,p,e1,e2,e3,e4⟩:=person_at h.ppl (n:=me) (by omega) h2
 have hname:(personW w me).name=me:=by rw[e3,e4,e1]
 have hmay:runMay (endR k r)=true:=by
  simp only[waitsO,Bool.and_eq_true,beq_iff_eq]at hw
  unfold endR runMay
  simp[hw.1,hw.2.1]
 have c5:=p09_set 0 (personW w me).runs (i:Int) (endR k r) (by omega)
 have hset:setR (personW w me).runs (i:Int) (endR k r)=((personW w me).runs.set i (endR k r),0):=by
  unfold setR
  rw[if_neg (by rw[hmay];simp;omega)]
  rfl
 unfold setC at c5
 rw[hset,if_pos rfl]at c5
 have hpp:((personW w me).used.length+10≤1000)∧((personW w me).runs.set i (endR k r)).length+10≤1000:=⟨hp.1,by rw[List.length_set];exact hp.2⟩
 have h3:Good 10 (withW w {personW w me with runs:=(personW w me).runs.set i (endR k r)}):=h.with_ _ hpp
 have h4:Good 9 (endV w me i k r):=h3.log_ _
 have hnet:¬(endV w me i k r).net.room≤((endV w me i k r).net.grams.length:Int):=by
  rw[show(endV w me i k r).net=w.net from(withW_net w _).1]
  have:=(roomW_iff hrm).2;omega
 have hsend:=send_room (w:=endV w me i k r) (t:=r.peer) (m:=⟨9,m.run,0,0,0,m.box,0⟩) (by unfold mayM;rfl) hnet
 have hres:doneB w me m S i r=sentW (endV w me i k r) r.peer ⟨9,m.run,0,0,0,m.box,0⟩:=by
  unfold endV
  rw[show(⟨4,2,2,r.peer,(personW w me).name,k,0,r.m,r.mine,(personW w me).clock⟩:Event)=⟨4,2,2,r.peer,me,k,0,r.m,r.mine,(personW w me).clock⟩from by rw[hname],<- hkk]
  rfl
 have c7:=p12_send (endV w me i k r) r.peer ⟨9,m.run,0,0,0,m.box,0⟩ h4.net h4.small.small.grams h4.small.small.seen
 rw[hres]
 rw[hsend]at c7
 refine⟨⟨sentW (endV w me i k r) r.peer ⟨9,m.run,0,0,0,m.box,0⟩,{personW w me with runs:=(personW w me).runs.set i (endR k r)},endR k r⟩,fun _=>rfl,fun bb=>?_⟩
 have c2:=c2 bb
 have c6:=p18_note bb ⟨w,{personW w me with runs:=(personW w me).runs.set i (endR k r)},endR k r⟩ 4 (endV w me i k r) (by rfl) ⟨by show(personW w me).used.length≤1000000;omega,by show((personW w me).runs.set i (endR k r)).length≤1000000;omega⟩ h.ppl h3.small.small.log
 clear hsend hres hnet h4 h3 hpp hname e1 e2 e3 e4 hmay hset hw h hp hrm hx hkk
 simp only at c2 c6 c7
 generalize sentW (endV w me i k r) r.peer ⟨9,m.run,0,0,0,m.box,0⟩=z at *
 generalize endV w me i k r=u at *
 generalize hL:(personW w me).runs.set i (endR k r)=L at *
 clear hL hlt
 generalize personW w me=P at *
 refine ACalls.introX (fn:=Tryz.f38) Tryz.func38 rfl rfl (by simp[Tryz.f38]) ?_
 unfold Tryz.f38
 simp only[rawV,insOf,setBs,eRsp,endR,run0,eWld,ePerson,eMssg,ePrt,eSealeds,eGrams,ePeople,eEvents,eRows,eWords,eLeaks,eRuns,eRun.eq_1 (endR k r),rB,rI]at *
 refine wk T0 (J4 c2 c5 c6 c7) T0 T0
 all_goals (try simp only[go_sem,↓reduceIte])
end
section
theorem p18_a1 (b:Nat)(s:Rsp)(m:Mssg):ACalls Tryz.prog 85 [.one (capM m),.one (capR b)] (.bx [(b,.cells (eRsp s))] [(b,.cells (eRsp s))] [.one (i64 (bif m.b==s.me.name then 0 else 5))]):=by
 refine ACalls.introX (fn:=Tryz.f85) Tryz.func85 rfl rfl (by simp[Tryz.f85]) ?_
 have c1:=p18_unless (m.b==s.me.name) 5
 obtain⟨w,me,run⟩:=s
 unfold Tryz.f85
 simp only[rawV,insOf,setBs,eRsp,eWld,capR,capM,eMssg,eSealeds,eGrams,ePeople,eEvents,eRows,eWords,eLeaks,eRuns,rB,rI]at *
 refine wk T0 c1 T0 T0
 all_goals (try simp only[go_sem,↓reduceIte])
theorem p18_a2 (b:Nat)(s:Rsp)(m:Mssg)(h:rightPl s.w.people=true):ACalls Tryz.prog 87 [.one (capR b),.one (capM m)] (.bx [(b,.cells (eRsp s))] [(b,.cells (eRsp s))] [.one (i64 (bif pairPl s.w.people m.a m.b then 0 else 5))]):=by
 refine ACalls.introX (fn:=Tryz.f87) Tryz.func87 rfl rfl (by simp[Tryz.f87]) ?_
 have c1:=p10_pair s.w.people m.a m.b h
 have c2:=p18_unless (pairPl s.w.people m.a m.b) 5
 clear h
 generalize pairPl s.w.people m.a m.b=pr at *
 obtain⟨w,me,run⟩:=s
 unfold Tryz.f87
 simp only[rawV,insOf,setBs,eRsp,eWld,capR,capM,eMssg,eSealeds,eGrams,ePeople,eEvents,eRows,eWords,eLeaks,eRuns,rB,rI]at *
 refine wk T0 (J2 c1 c2) T0 T0
 all_goals (try simp only[go_sem,↓reduceIte])
theorem p18_a3 (b:Nat)(s:Rsp)(m:Mssg):ACalls Tryz.prog 89 [.one (capR b),.one (capM m)] (.bx [(b,.cells (eRsp s))] [(b,.cells (eRsp s))] [.one (i64 (mayU s.me.used s.w.conf.used m.run))]):=by
 refine ACalls.introX (fn:=Tryz.f89) Tryz.func89 rfl rfl (by simp[Tryz.f89]) ?_
 have c1:=p08_may 0 s.me.used s.w.conf.used m.run
 generalize mayU s.me.used s.w.conf.used m.run=mu at *
 obtain⟨w,me,run⟩:=s
 unfold Tryz.f89
 simp only[rawV,insOf,setBs,eRsp,eWld,capR,capM,eMssg,eSealeds,eGrams,ePeople,eEvents,eRows,eWords,eLeaks,eRuns,rB,rI]at *
 refine wk T0 c1 T0 T0
 all_goals (try simp only[go_sem,↓reduceIte])
theorem p18_a4 (b:Nat)(s:Rsp) :ACalls Tryz.prog 91 [.one (capR b)] (.bx [(b,.cells (eRsp s))] [(b,.cells (eRsp s))] [.one (i64 (bif decide ((s.me.runs.length:Int)<s.w.conf.runs)then 0 else 10))]):=by
 refine ACalls.introX (fn:=Tryz.f91) Tryz.func91 rfl rfl (by simp[Tryz.f91]) ?_
 have c1:=p18_unless (decide ((s.me.runs.length:Int)<s.w.conf.runs)) 10
 obtain⟨w,me,run⟩:=s
 unfold Tryz.f91
 simp only[rawV,insOf,setBs,eRsp,eWld,capR,capM,eMssg,eSealeds,eGrams,ePeople,eEvents,eRows,eWords,eLeaks,eRuns,rB,rI]at *
 refine wk T0 c1 T0 T0
 all_goals (try simp only[go_sem,↓reduceIte])
theorem p18_a5 (b:Nat)(s:Rsp)(h1:rightB s.w.box=true)(h2:rightN s.w.net=true):ACalls Tryz.prog 92 [.one (capR b)] (.bx [(b,.cells (eRsp s))] [(b,.cells (eRsp s))] [.one (i64 (bif roomW s.w 1 1 then 0 else 10))]):=by
 refine ACalls.introX (fn:=Tryz.f92) Tryz.func92 rfl rfl (by simp[Tryz.f92]) ?_
 have c1:=p12_room s.w 1 1 h1 h2
 have c2:=p18_unless (roomW s.w 1 1) 10
 clear h1 h2
 generalize roomW s.w 1 1=rm at *
 obtain⟨w,me,run⟩:=s
 unfold Tryz.f92
 simp only[rawV,insOf,setBs,eRsp,eWld,capR,capM,eMssg,eSealeds,eGrams,ePeople,eEvents,eRows,eWords,eLeaks,eRuns,rB,rI]at *
 refine wk T0 (J2 c1 c2) T0 T0
 all_goals (try simp only[go_sem,↓reduceIte])
def looks1 (b:Nat)(m:Mssg):List (FuncId×List CV):=[(85,[capM m,capR b]),(87,[capR b,capM m]),(89,[capR b,capM m]),(91,[capR b]),(92,[capR b])]
def accO (w:Wld)(me:Int)(m:Mssg):Int:=
 if(m.b==(personW w me).name)=false then 5 else if pairPl w.people m.a m.b=false then 5
 else if mayU (personW w me).used w.conf.used m.run≠0 then mayU (personW w me).used w.conf.used m.run
 else if w.conf.runs≤((personW w me).runs.length:Int)then 10 else if roomW w 1 1=false then 10 else 0
theorem p18_accept (w:Wld)(me:Int)(m:Mssg)(h:Good 10 w)(bb:Nat):ACalls Tryz.prog 61 [.one (rawV bb 0),.agg (eMssg m)] (.bx [(bb,.cells (eRsp ⟨w,personW w me,run0⟩))] [(bb,.cells (eRsp ⟨w,personW w me,run0⟩))] [.one (i64 (accO w me m))]):=by
 have k1:=p18_a1 bb ⟨w,personW w me,run0⟩ m
 have k2:=p18_a2 bb ⟨w,personW w me,run0⟩ m h.ppl
 have k3:=p18_a3 bb ⟨w,personW w me,run0⟩ m
 have k4:=p18_a4 bb ⟨w,personW w me,run0⟩
 have k5:=p18_a5 bb ⟨w,personW w me,run0⟩ h.box h.net
 have key:ACalls Tryz.prog 84 [.one (.row ((looks1 bb m).map lookC))] (.bx [(bb,.cells (eRsp ⟨w,personW w me,run0⟩))] [(bb,.cells (eRsp ⟨w,personW w me,run0⟩))] [.one (i64 (accO w me m))]):=by
  clear h
  unfold accO
  simp only at k1 k2 k3 k4 k5
  generalize eRsp ⟨w,personW w me,run0⟩=C at *
  generalize (m.b==(personW w me).name)=y1 at *
  generalize pairPl w.people m.a m.b=y2 at *
  generalize mayU (personW w me).used w.conf.used m.run=mu at *
  generalize ((personW w me).runs.length:Int)=rl at *
  generalize w.conf.runs=rc at *
  generalize roomW w 1 1=y5 at *
  have hc:∀(N:Nat),N≤5→∀(j:Nat) (f:FuncId) (c:List CV),j≤N→(looks1 bb m)[j]?=some (f,c)→ACalls Tryz.prog f (c.map .one) (.bx [(bb,.cells C)] [(bb,.cells C)] [.one (i64 ((fun n=>match n with|0=>bif y1 then 0 else 5|1=>bif y2 then 0 else 5|2=>mu|3=>bif decide (rl<rc)then 0 else 10|_=>bif y5 then 0 else 10) j))]):=by
   intro N hN j f c hj hf
   match j,hf with
   |0,hf=>cases hf;exact k1
   |1,hf=>cases hf;exact k2
   |2,hf=>cases hf;exact k3
   |3,hf=>cases hf;exact k4
   |4,hf=>cases hf;exact k5
   |n+5,hf=>cases hf
  have key:=p18_ask1 bb C (looks1 bb m) (fun n=>match n with|0=>bif y1 then 0 else 5|1=>bif y2 then 0 else 5|2=>mu|3=>bif decide (rl<rc)then 0 else 10|_=>bif y5 then 0 else 10)
  clear k1 k2 k3 k4 k5
  have hl:(looks1 bb m).length<1000:=by show 5<1000;decide
  cases y1
  ·rw[if_pos rfl]
   exact key 0 5 hl (fun j hj=>absurd hj (Nat.not_lt_zero j)) (.inr ⟨by show 0<5;decide,(show(5:Int)≠0 by decide),rfl⟩) (hc 0 (by decide))
  rw[if_neg (by decide)]
  cases y2
  ·rw[if_pos rfl]
   exact key 1 5 hl (fun j hj=>by obtain rfl:j=0:=(by omega);rfl) (.inr ⟨by show 1<5;decide,(show(5:Int)≠0 by decide),rfl⟩) (hc 1 (by decide))
  rw[if_neg (by decide)]
  by_cases hm:mu=0
  rotate_left
  ·rw[if_pos hm]
   exact key 2 mu hl (fun j hj=>by rcases(show j=0∨j=1 by omega)with rfl|rfl<;>rfl) (.inr ⟨by show 2<5;decide,hm,rfl⟩) (hc 2 (by decide))
  rw[if_neg (by simp[hm])]
  by_cases hr:rc≤rl
  ·rw[if_pos hr]
   have hd:decide (rl<rc)=false:=decide_eq_false (by omega)
   have e3:(bif decide (rl<rc)then 0 else 10:Int)=10:=by rw[hd];rfl
   exact key 3 10 hl (fun j hj=>by rcases(show j=0∨j=1∨j=2 by omega)with rfl|rfl|rfl<;>first|rfl|exact hm) (.inr ⟨by show 3<5;decide,by show(bif decide (rl<rc)then 0 else 10:Int)≠0;rw[e3];decide,e3.symm⟩) (hc 3 (by decide))
  rw[if_neg hr]
  have hd:(bif decide (rl<rc)then 0 else 10:Int)=0:=by rw[decide_eq_true (show rl<rc by omega)];rfl
  cases y5
  ·rw[if_pos rfl]
   exact key 4 10 hl (fun j hj=>by rcases(show j=0∨j=1∨j=2∨j=3 by omega)with rfl|rfl|rfl|rfl<;>first|rfl|exact hm|exact hd) (.inr ⟨by show 4<5;decide,(show(10:Int)≠0 by decide),rfl⟩) (hc 4 (by decide))
  rw[if_neg (by decide)]
  exact key 5 0 hl (fun j hj=>by rcases(show j=0∨j=1∨j=2∨j=3∨j=4 by omega)with rfl|rfl|rfl|rfl|rfl<;>first|rfl|exact hm|exact hd) (.inl ⟨rfl,rfl⟩) (hc 5 (by decide))
 clear k1 k2 k3 k4 k5 h
 refine ACalls.introX (fn:=Tryz.f61) Tryz.func61 rfl rfl (by simp[Tryz.f61]) ?_
 generalize eRsp ⟨w,personW w me,run0⟩=C at *
 generalize accO w me m=q at *
 unfold Tryz.f61
 simp only[rawV,insOf,setBs,capR,capM,eMssg,looks1,lookC,List.map_cons,List.map_nil]at *
 refine wk T0 key T0 T0
 all_goals (try simp only[go_sem,↓reduceIte])
end
section
def begB (w:Wld)(m:Mssg):Run:=⟨2,2,m.a,drawnW w,0,m.run,0,0,1⟩
def begV (w:Wld)(me:Int)(m:Mssg):Wld:=logW (withW (secB w me m).1 (tookP (personW w me) m.run (begB w m))) ⟨3,2,2,m.a,(personW w me).name,0,0,m.run,drawnW w,(personW w me).clock⟩
theorem firstOW_acc (w:Wld)(me:Int)(m:Mssg)(hn:(personW w me).name=me):firstOW w me m=if accO w me m≠0 then(w,accO w me m)else if(secB w me m).2.2≠0 then(w,(secB w me m).2.2)else(tookO w me m,0):=by
 unfold firstOW accO
 rw[hn]
 cases h1:m.b==me
 ·rw[Bool.false_and,if_pos rfl,if_pos rfl,if_pos (by decide)]
 have hb:m.b=me:=eq_of_beq h1
 rw[Bool.true_and,if_neg (show¬true=false by decide),hb]
 by_cases h2:pairPl w.people m.a me=false
 ·rw[if_pos h2,if_pos h2,if_pos (by decide)]
 rw[if_neg h2,if_neg h2]
 by_cases h4:mayU (personW w me).used w.conf.used m.run≠0
 ·rw[if_pos h4,if_pos h4,if_pos h4]
 rw[if_neg h4,if_neg h4]
 by_cases h5:w.conf.runs≤((personW w me).runs.length:Int)
 ·rw[if_pos (.inl h5),if_pos h5,if_pos (by decide)]
 rw[if_neg h5]
 by_cases h6:roomW w 1 1=false
 ·rw[if_pos (.inr h6),if_pos h6,if_pos (by decide)]
 rw[if_neg (by rintro(h|h);exact h5 h;exact h6 h),if_neg h6]
 exact(if_neg (show¬(0:Int)≠0 by decide)).symm
theorem accO_zero {w:Wld}{me:Int}{m:Mssg}(h:accO w me m=0):m.b=(personW w me).name∧mayU (personW w me).used w.conf.used m.run=0∧¬w.conf.runs≤((personW w me).runs.length:Int)∧roomW w 1 1=true:=by
 unfold accO at h
 split at h
 ·exact absurd h (by decide)
 rename_i h1
 split at h
 ·exact absurd h (by decide)
 split at h
 ·rename_i h4;exact absurd h h4
 rename_i h4
 split at h
 ·exact absurd h (by decide)
 rename_i h5
 split at h
 ·exact absurd h (by decide)
 rename_i h6
 exact⟨by simpa using h1,Decidable.not_not.1 h4,h5,by simpa using h6⟩
theorem p18_begin (w:Wld)(me:Int)(m:Mssg)(h:Good 10 w)(h1:1≤me)(h2:me<(w.people.length:Int)):∃D:Rsp,((firstOW w me m).2=0→(firstOW w me m).1=D.w)∧∀bb,ACalls Tryz.prog 23 [.one (rawV bb 0),.agg (eMssg m)] (.bx [(bb,.cells (eRsp ⟨w,personW w me,run0⟩))] [(bb,.cells (eRsp D))] [.one (i64 (firstOW w me m).2)]):=by
 obtain⟨j,p,e1,e2,e3,e4⟩:=person_at h.ppl (n:=me) (by omega) h2
 have hname:(personW w me).name=me:=by rw[e3,e4,e1]
 clear e1 e2 e3 e4
 have hp:=h.person me
 have c1:=fun bb=>p18_accept w me m h bb
 rw[firstOW_acc w me m hname]
 by_cases ha:accO w me m=0
 rotate_left
 ·rw[if_pos ha]
  refine⟨⟨w,personW w me,run0⟩,fun e=>absurd e ha,fun bb=>?_⟩
  have c1:=c1 bb
  have ha':(accO w me m != 0)=true:=by simp[ha]
  clear h hp hname ha
  refine ACalls.introX (fn:=Tryz.f23) Tryz.func23 rfl rfl (by simp[Tryz.f23]) ?_
  generalize accO w me m=e at *
  generalize eRsp ⟨w,personW w me,run0⟩=C at *
  unfold Tryz.f23
  simp only[rawV,insOf,setBs,eMssg]at *
  refine wk ha' c1 T0 T0
  all_goals (try simp only[go_sem,↓reduceIte])
 rw[if_neg (by simp[ha])]
 rw[ha]at c1
 obtain⟨hb,hu,hc,hrm⟩:=accO_zero ha
 rw[hname]at hb
 clear ha
 have c2:=p12_draw w h.small.small.next
 have g0:Good 9 (drawW w):=h.draw
 have c3:=p12_seal (drawW w) (personW w me).key 7 ⟨drawnW w,m.run,m.a,m.b,0,0,0⟩ g0.small.small g0.box
 rw[show sealW (drawW w) (personW w me).key 7 ⟨drawnW w,m.run,m.a,m.b,0,0,0⟩=secB w me m from by rw[hb];rfl]at c3
 by_cases hz:(secB w me m).2.2=0
 rotate_left
 ·refine⟨⟨drawW w,personW w me,begB w m⟩,fun e=>?_,fun bb=>?_⟩
  ·rw[if_pos hz]at e;exact absurd e hz
  rw[if_pos hz]
  have c1:=c1 bb
  have hz':((secB w me m).2.2 != 0)=true:=by simp[hz]
  clear h hp hname hu hc hrm g0 hz hb
  simp only[begB]at *
  refine ACalls.introX (fn:=Tryz.f23) Tryz.func23 rfl rfl (by simp[Tryz.f23]) ?_
  generalize secB w me m=v at *
  generalize personW w me=P at *
  generalize drawW w=d at *
  generalize drawnW w=n at *
  unfold Tryz.f23
  simp only[rawV,insOf,setBs,eRsp,run0,eWld,ePerson,ePrt,eMssg,eSealeds,eGrams,ePeople,eEvents,eRows,eWords,eLeaks,eRuns,rB,rI]at *
  refine wk hz' (J3 c1 c2 c3) T0 T0
  all_goals (try simp only[go_sem,↓reduceIte])
 rw[if_neg (by simp[hz])]
 have g1:Good 8 (secB w me m).1:=g0.sealS _ _ _
 have cf:(secB w me m).1.conf=w.conf:=(sealW_rest _ _ _ _).2.1
 have c4:=p08_note 0 (personW w me).used (secB w me m).1.conf.used m.run (by omega)
 have hu2:mayU (personW w me).used (secB w me m).1.conf.used m.run=0:=by rw[cf];exact hu
 unfold noteC at c4
 rw[if_pos hu2,hu2]at c4
 have c5:=p09_add 0 (personW w me).runs (secB w me m).1.conf.runs (begB w m) (by omega)
 have hadd:addR (personW w me).runs (secB w me m).1.conf.runs (begB w m)=((personW w me).runs++[begB w m],0):=by
  unfold addR
  rw[cf,if_neg (by unfold begB runMay;simp),if_neg hc]
 unfold addC at c5
 rw[hadd,if_pos rfl]at c5
 have hpp:(tookP (personW w me) m.run (begB w m)).used.length+8≤1000∧(tookP (personW w me) m.run (begB w m)).runs.length+8≤1000:=⟨by show((personW w me).used++[m.run]).length+8≤1000;rw[List.length_append];simp;omega,by show((personW w me).runs++[begB w m]).length+8≤1000;rw[List.length_append];simp;omega⟩
 have g2:Good 8 (withW (secB w me m).1 (tookP (personW w me) m.run (begB w m))):=g1.with_ _ hpp
 have g3:Good 7 (begV w me m):=g2.log_ _
 have hnet:¬(begV w me m).net.room≤((begV w me m).net.grams.length:Int):=by
  rw[show(begV w me m).net=w.net from(withW_net (secB w me m).1 _).1.trans (sealW_rest _ _ _ _).2.2.1]
  have:=(roomW_iff hrm).2;omega
 have hsend:=send_room (w:=begV w me m) (t:=0) (m:=⟨7,m.run,m.a,m.b,0,m.box,(secB w me m).2.1⟩) (by unfold mayM;rfl) hnet
 have hres:tookO w me m=sentW (begV w me m) 0 ⟨7,m.run,m.a,m.b,0,m.box,(secB w me m).2.1⟩:=by
  unfold begV
  rw[show(⟨3,2,2,m.a,(personW w me).name,0,0,m.run,drawnW w,(personW w me).clock⟩:Event)=⟨3,2,2,m.a,me,0,0,m.run,drawnW w,(personW w me).clock⟩from by rw[hname],hb]
  rfl
 have c7:=p12_send (begV w me m) 0 ⟨7,m.run,m.a,m.b,0,m.box,(secB w me m).2.1⟩ g3.net g3.small.small.grams g3.small.small.seen
 rw[hres]
 rw[hsend]at c7
 refine⟨⟨sentW (begV w me m) 0 ⟨7,m.run,m.a,m.b,0,m.box,(secB w me m).2.1⟩,tookP (personW w me) m.run (begB w m),begB w m⟩,fun _=>rfl,fun bb=>?_⟩
 have c1:=c1 bb
 have c6:=p18_note bb ⟨(secB w me m).1,tookP (personW w me) m.run (begB w m),begB w m⟩ 3 (begV w me m) (by rfl) ⟨by show(tookP (personW w me) m.run (begB w m)).used.length≤1000000;omega,by show(tookP (personW w me) m.run (begB w m)).runs.length≤1000000;omega⟩ g1.ppl g2.small.small.log
 rw[hz]at c3
 clear hsend hres hnet g0 g1 g2 g3 hpp hname hadd hu hu2 hc hrm cf h hp hz hb
 simp only at c6 c7
 generalize sentW (begV w me m) 0 ⟨7,m.run,m.a,m.b,0,m.box,(secB w me m).2.1⟩=z at *
 generalize begV w me m=u at *
 simp only[begB]at *
 generalize secB w me m=v at *
 generalize drawW w=d at *
 generalize drawnW w=n at *
 generalize personW w me=P at *
 refine ACalls.introX (fn:=Tryz.f23) Tryz.func23 rfl rfl (by simp[Tryz.f23]) ?_
 unfold Tryz.f23
 simp only[rawV,insOf,setBs,eRsp,tookP,run0,eWld,ePerson,eMssg,ePrt,eSealeds,eGrams,ePeople,eEvents,eRows,eWords,eLeaks,eRuns,eRun,eWord,List.map_append,List.map_cons,List.map_nil,rB,rI]at *
 refine wk T0 (J7 c1 c2 c3 c4 c5 c6 c7) T0 T0
 all_goals (try simp only[go_sem,↓reduceIte])
end
section
theorem run_at {l:List Run}{p:Run→Bool}{r:Run}(h:l.find? p=some r):l[l.findIdx p]?=some r∧p r=true:=by
 rcases idx_or l p with⟨h1,_⟩|⟨i,x,h1,h2,h3,h4,_⟩
 ·rw[h]at h1;cases h1
 ·rw[h]at h1;cases h1
  rw[h2]
  exact⟨h3,h4⟩
end
section
theorem right_set {l:List Person}(h:rightPl l=true){i:Nat}{x p:Person}(hx:l[i]?=some x)(hp:p.name=(i:Int)):rightPl (l.set i p)=true:=by
 have hn:=right_names h
 unfold rightPl at h ⊢
 rw[Bool.and_eq_true,decide_eq_true_eq]at h ⊢
 refine⟨namesB_iff.2 fun k y hk=>?_,by simpa using h.2⟩
 rw[List.getElem?_set]at hk
 by_cases e:i=k
 ·subst e
  rw[if_pos rfl]at hk
  split at hk
  ·cases hk
   rw[hp,IntWalk.u32_in _ (by have:=(List.getElem?_eq_some_iff.1 hx).1;omega)]
  ·cases hk
 ·rw[if_neg e]at hk
  exact namesB_iff.1 h.1 k y hk
theorem all_set {α:Type}{l:List α}{f:α→Bool}{i:Nat}{p:α}(h:l.all f=true)(hp:f p=true):(l.set i p).all f=true:=by
 rw[List.all_eq_true]at h ⊢
 intro x hx
 rcases List.mem_or_eq_of_mem_set hx with h1|rfl
 ·exact h x h1
 ·exact hp
theorem act_form {w:Wld}{a:Act}(hf:formW w=true)(hd:w.draws.next+(a.draws:Int)≤1048576)(hb:rightB ⟨w.box.room,w.box.entries++a.seals⟩=true)(hn:((w.net.grams.length+a.frames.length:Nat):Int)≤w.net.room)(hl:∀f∈a.frames,(f.words.length:Int)≤64){x:Person}(hx:w.people[a.who]?=some x)(hp:a.new.name=(a.who:Int))(hq:personB w.conf a.new=true):formW (actW w a)=true:=by
 obtain⟨a1,a2,a3,a4,a5,b1,b2,b3,b4,c1,c2,c3,c4⟩:=formW_iff hf
 have a4':=of_decide_eq_true a4
 refine formW_mk a1 hb a3 (decide_eq_true ⟨a4'.1,a4'.2.1,?_⟩) a5 (right_set b1 hx hp) (by show((w.people.set _ _).length:Int)=w.conf.people+1;simpa using b2) b3 ⟨by show 0≤w.draws.next+(a.draws:Int);omega,hd⟩ (all_set c1 hq) c2 ?_ ?_
 ·show((w.net.grams++a.frames).length:Int)≤w.net.room
  simpa using hn
 ·show(w.net.seen++a.frames.map (·.words)).all shB=true
  rw[List.all_append,c3,Bool.true_and,List.all_map,List.all_eq_true]
  exact fun f hf=>decide_eq_true (hl f hf)
 ·show(w.net.grams++a.frames).all gramB=true
  rw[List.all_append,c4,Bool.true_and,List.all_eq_true]
  exact fun f hf=>decide_eq_true (hl f hf)
theorem person_form {w:Wld}(hf:formW w=true){i:Nat}{p:Person}(hx:w.people[i]?=some p):personB w.conf p=true:=by
 obtain⟨_,_,_,_,_,_,_,_,_,c1,_⟩:=formW_iff hf
 exact List.all_eq_true.1 c1 p (List.mem_of_getElem? hx)
theorem run_form {c:Conf}{p:Person}(h:personB c p=true){j:Nat}{r r':Run}(hr:p.runs[j]?=some r)(h1:r'.proto=r.proto)(h2:r'.role=r.role)(h3:r'.state=1∨r'.state=2∨r'.state=3):personB c {p with runs:=p.runs.set j r' }=true:=by
 unfold personB runsR at h ⊢
 simp only[Bool.and_eq_true]at h ⊢
 refine⟨h.1,⟨all_set h.2.1.1 ?_,by simpa using h.2.1.2⟩,h.2.2⟩
 have:=List.all_eq_true.1 h.2.1.1 r (List.mem_of_getElem? hr)
 unfold runMay at this ⊢
 simp only[decide_eq_true_eq]at this ⊢
 exact⟨by rw[h1];exact this.1,by rw[h2];exact this.2.1,h3⟩
end
section
end
section
theorem firstOW_err {w:Wld}{me:Int}{m:Mssg}(h:(firstOW w me m).2≠0):(firstOW w me m).1=w:=by
 revert h
 unfold firstOW
 split
 ·exact fun _=>rfl
 split
 ·exact fun _=>rfl
 split
 ·exact fun _=>rfl
 split
 ·exact fun _=>rfl
 exact fun h=>absurd rfl h
theorem shareBW_err {w:Wld}{me:Int}{m:Mssg}(h:(shareBW w me m).2≠0):(shareBW w me m).1=w:=by
 revert h
 unfold shareBW
 cases (personW w me).runs.find? (waitsO 2 m.run)with
 |none=>exact fun _=>rfl
 |some r=>
  simp only
  split
  ·exact fun _=>rfl
  split
  ·exact fun _=>rfl
  exact fun h=>absurd rfl h
end
end Go.Proofs.YtaoijgapnmmpoaaGreatDoor.Abs
