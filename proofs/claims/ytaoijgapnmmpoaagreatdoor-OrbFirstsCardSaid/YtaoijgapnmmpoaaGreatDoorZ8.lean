/- Texts that were merged: L07p, P07c, P11a, P11, P12c, Q02, P02, P03, P12d, P12, Q12h. -/
import Derived.Test.YtaoijgapnmmpoaaGreatDoorZ5
import Derived.Test.YtaoijgapnmmpoaaGreatDoorZ7
import Derived.Test.YtaoijgapnmmpoaaGreatDoorZ4
import Derived.Test.YtaoijgapnmmpoaaGreatDoorZ6
set_option linter.unusedSimpArgs false
set_option linter.unusedVariables false
set_option maxHeartbeats 8000000
set_option maxRecDepth 100000
namespace Go.Proofs.YtaoijgapnmmpoaaGreatDoor.Abs
open Go.RowKit
section
def openP (b:Box)(k l h:Int):List Int×Bool:=match b.entries.find? (fun s=>s.handle==h)with
 |some s=>if s.key=k∧s.label=l then(s.plain,true)else([],false)
 |none=>([],false)
theorem right_room {b:Box}(h:rightB b=true):0≤b.room∧b.room≤64∧(b.entries.length:Int)≤b.room∧entriesOK b.entries:=by
 unfold rightB at h
 rw[Bool.and_eq_true]at h
 have:=of_decide_eq_true h.1
 exact⟨this.1,this.2.1,this.2.2,entriesB_iff.1 h.2⟩
theorem right_len {b:Box}(h:rightB b=true):b.entries.length≤64∧∀s∈b.entries,s.plain.length≤64:=by
 obtain⟨h1,h2,h3,h4⟩:=right_room h
 refine⟨by omega,fun s hs=>?_⟩
 obtain⟨i,hi,rfl⟩:=List.getElem_of_mem hs
 have:=(h4 i _ (List.getElem?_eq_getElem hi)).1
 omega
theorem thereB_iff {l:List Sealed}{h:Int}:thereB l h=true↔∃s∈l,s.handle=h:=by
 unfold thereB
 rw[List.any_eq_true]
 simp
theorem thereB_no {l:List Sealed}{h:Int}:thereB l h=false↔∀s∈l,s.handle≠h:=by
 unfold thereB
 rw[List.any_eq_false]
 simp
theorem entries_uniq {l:List Sealed}(h:entriesOK l){i j:Nat}{x y:Sealed}(hx:l[i]?=some x)(hy:l[j]?=some y)(e:x.handle=y.handle):i=j:=by
 have no:∀{i j:Nat} {x y:Sealed},l[i]?=some x→l[j]?=some y→x.handle=y.handle→¬i<j:=by
  intro i j x y hx hy e hij
  have:=thereB_no.1 (h j y hy).2 x (List.mem_iff_getElem?.2 ⟨i,by rw[List.getElem?_take,if_pos hij,hx]⟩)
  exact this e
 have h1:=no hx hy e
 have h2:=no hy hx e.symm
 omega
theorem entry_found {l:List Sealed}(h:entriesOK l){s:Sealed}(hs:s∈l):l.find? (fun t=>t.handle==s.handle)=some s:=by
 obtain⟨i,hi⟩:=List.mem_iff_getElem?.1 hs
 cases hf:l.find? (fun t=>t.handle==s.handle)with
 |none=>exact absurd (by simp) (List.find?_eq_none.1 hf s hs)
 |some t=>
  have h1:=List.find?_some hf
  obtain⟨j,hj⟩:=List.mem_iff_getElem?.1 (List.mem_of_find?_eq_some hf)
  have:=entries_uniq h hj hi (by simpa using h1)
  subst this
  rw[hi]at hj;exact hj.symm
theorem openP_none {b:Box}{k l h:Int}(hn:thereB b.entries h=false):openP b k l h=([],false):=by
 have:b.entries.find? (fun s=>s.handle==h)=none:=List.find?_eq_none.2 fun s hs=>by simpa using thereB_no.1 hn s hs
 unfold openP;rw[this]
theorem openP_some {b:Box}{k l h:Int}(ho:entriesOK b.entries){s:Sealed}(hs:s∈b.entries)(hh:s.handle=h):openP b k l h=if s.key=k∧s.label=l then(s.plain,true)else([],false):=by
 have:=entry_found ho hs
 unfold openP;rw[←hh,this]
theorem open_eq {b:Box}(hr:rightB b=true)(k l h:Int):openB b k l h=openP b k l h:=by
 obtain⟨-,-,-,ho⟩:=right_room hr
 cases ht:thereB b.entries h with
 |false=>
  rw[openP_none ht]
  have:b.entries.find? (fun s=>s.handle==h&&s.key==k&&s.label==l)=none:=List.find?_eq_none.2 fun s hs=>by simp[thereB_no.1 ht s hs]
  unfold openB;rw[this]
 |true=>
  obtain⟨s,hs,hh⟩:=thereB_iff.1 ht
  rw[openP_some ho hs hh]
  unfold openB
  cases hf:b.entries.find? (fun s=>s.handle==h&&s.key==k&&s.label==l)with
  |none=>
   have:=List.find?_eq_none.1 hf s hs
   rw[if_neg fun e=>this (by simp[hh,e.1,e.2])]
  |some t=>
   have h1:=List.find?_some hf
   simp only[Bool.and_eq_true,beq_iff_eq]at h1
   obtain⟨i,hi⟩:=List.mem_iff_getElem?.1 hs
   obtain⟨j,hj⟩:=List.mem_iff_getElem?.1 (List.mem_of_find?_eq_some hf)
   have:=entries_uniq ho hi hj (by rw[hh,h1.1.1])
   subst this
   rw[hi]at hj
   cases hj
   rw[if_pos ⟨h1.1.2,h1.2⟩]
end
section
theorem lib_clone_words (j:Nat)(l:List Int)(hl:l.length≤1000000):ACalls Tryz.prog 82 [.one (.rowc j (l.map eWord))] (.own 22 1 (l.map eWord)):=by
 refine ACalls.intro (fn:=Tryz.f82) Tryz.func82 rfl rfl (by simp[Tryz.f82]) ?_
 unfold Tryz.f82
 simp only[]
 cases l with
 |nil=>
  refine AW.empty 0 rfl ?_ ?_
  ·refine wk T0 T0 T0 T0
  ·refine wk T0 T0 T0 T0
 |cons x l=>
  simp only[List.length_cons]at hl
  refine wk T0 T0 T0 T0
theorem lib_clone_sealed (j:Nat)(l:List Sealed)(hl:l.length≤1000000):ACalls Tryz.prog 121 [.one (.rowc j (l.map eSealed))] (.own 108 4 (l.map eSealed)):=by
 refine ACalls.intro (fn:=Tryz.f121) Tryz.func121 rfl rfl (by simp[Tryz.f121]) ?_
 unfold Tryz.f121
 simp only[]
 cases l with
 |nil=>
  refine AW.empty 0 rfl ?_ ?_
  ·refine wk T0 T0 T0 T0
  ·refine wk T0 T0 T0 T0
 |cons x l=>
  simp only[List.length_cons]at hl
  refine wk T0 T0 T0 T0
def sealC (j:Nat)(b:Box)(h k l:Int)(p:List Int):List CV:=if(sealB b h k l p).2=0 then eBox (sealB b h k l p).1 else eBoxC j b
theorem p07_seal (j jp:Nat)(b:Box)(h k l:Int)(p:List Int)(h0:0≤b.room)(h1:b.room≤64)(hl:b.entries.length<1000000)(hp:p.length<1000000):ACalls Tryz.prog 96 [.agg (eBoxC j b),.one (u32 h),.one (u32 k),.one (u32 l),.one (.rowc jp (p.map eWord))] (.tup [.agg (sealC j b h k l p),.one (i64 (sealB b h k l p).2)]):=by
 refine ACalls.intro (fn:=Tryz.f96) Tryz.func96 rfl rfl (by simp[Tryz.f96]) ?_
 have hfi:=p07_fits jp p
 have hth:=p07_contains j b.entries h
 have hof:=p07_of h
 have hfr:=p07_free j b h0 h1 hl
 have hcw:=lib_clone_words jp p (by omega)
 have hcs:=lib_clone_sealed j b.entries (by omega)
 unfold Tryz.f96
 simp only[eBoxC,eBox,eSealeds,eWords,rB,rI]at *
 by_cases g1:(p.length:Int)≤64
 ·have n1:¬(64<(p.length:Int)):=by omega
  rw[decide_eq_true g1]at hfi
  cases g2:thereB b.entries h
  ·rw[g2]at hth
   by_cases g3:b.room≤(b.entries.length:Int)
   ·have e:sealB b h k l p=(b,10):=by simp[sealB,n1,g2,g3]
    have g4:b.room - (b.entries.length:Int)<1:=by omega
    refine wk g4 (J4 hfi hof hth hfr) T0 (J2 ?_ T0)
    all_goals ((repeat intro h);refine⟨?_⟩)
    simp[sealC,e,eBoxC]
   ·have e:sealB b h k l p=(⟨b.room,b.entries++[⟨h,k,l,p⟩]⟩,0):=by simp[sealB,n1,g2,g3]
    have g4:¬(b.room - (b.entries.length:Int)<1):=by omega
    refine wk g4 (J6 hfi hof hth hfr hcw hcs) T0 (J2 ?_ T0)
    all_goals ((repeat intro h);refine⟨?_⟩)
    simp[sealC,e,eBox,eSealeds,eSealed,eWords]
  ·rw[g2]at hth
   have e:sealB b h k l p=(b,8):=by simp[sealB,n1,g2]
   refine wk T0 (J3 hfi hof hth) T0 (J2 ?_ T0)
   all_goals ((repeat intro h);refine⟨?_⟩)
   simp[sealC,e,eBoxC]
 ·have n1:64<(p.length:Int):=by omega
  rw[decide_eq_false g1]at hfi
  have e:sealB b h k l p=(b,3):=by simp[sealB,n1]
  refine wk T0 hfi T0 (J2 ?_ T0)
  all_goals ((repeat intro h);refine⟨?_⟩)
  simp[sealC,e,eBoxC]
theorem p07_open (b:Box)(kk ll hh:Int)(hs:∀s∈b.entries,s.plain.length<1000000):ACalls Tryz.prog 136 [.agg (eBox b),.one (u32 kk),.one (u32 ll),.one (u32 hh)] (.tup [.one (eWords (openP b kk ll hh).1),.one (bl (openP b kk ll hh).2)]):=by
 refine ACalls.intro (fn:=Tryz.f136) Tryz.func136 rfl rfl (by simp[Tryz.f136]) ?_
 have hof:=p07_of hh
 have hix:=p07_index 0 b.entries hh
 unfold Tryz.f136
 simp only[eBox,eSealeds,eWords,rI]at *
 rcases idxOf_cases b.entries (fun s=>s.handle==hh)with⟨hi,hf⟩|⟨k,x,hi,hx,hlt,hp,hf⟩
 ·rw[hi]at hix
  refine wk T0 (J2 hof hix) T0 (J2 ?_ T0)
  all_goals ((repeat intro h);refine⟨?_⟩)
  simp[openP,hf]
 ·rw[hi]at hix
  have hpl:=hs x (List.mem_of_getElem? hx)
  have hcw:=lib_clone_words 0 x.plain (by omega)
  have hk0:¬((k:Int)<0):=by omega
  by_cases h1:x.key=kk
  ·have d1:(x.key != kk)=false:=by simp[h1]
   by_cases h2:x.label=ll
   ·have d2:(x.label != ll)=false:=by simp[h2]
    refine wk (J7 hx hlt hk0 d1 d2 eSealed.eq_1 eWords.eq_1) (J3 hof hix hcw) T0 (J2 ?_ T0)
    all_goals ((repeat intro h);refine⟨?_⟩)
    simp[openP,hf,h1,h2]
   ·have d2:(x.label != ll)=true:=by simp[h2]
    refine wk (J7 hx hlt hk0 d1 d2 eSealed.eq_1 eWords.eq_1) (J2 hof hix) T0 (J2 ?_ T0)
    all_goals ((repeat intro h);refine⟨?_⟩)
    simp[openP,hf,h1,h2]
  ·have d1:(x.key != kk)=true:=by simp[h1]
   refine wk (J6 hx hlt hk0 d1 eSealed.eq_1 eWords.eq_1) (J2 hof hix) T0 (J2 ?_ T0)
   all_goals ((repeat intro h);refine⟨?_⟩)
   simp[openP,hf,h1]
end
section
abbrev rawV (b off:Nat):CV:=.v (.pointer (some ⟨b,off,none⟩))
abbrev plc (f:FuncId):CV:=.fn f false [] []
abbrev atsV:List (List CV):=[[.row [[plc 140],[plc 143],[plc 144],[plc 145],[plc 146]]],[.row [[plc 144],[plc 142],[plc 145]]],[.row [[plc 140]]],[.row [[plc 140]]],[.row [[plc 140],[plc 141],[plc 142],[plc 143]]],[.row [[plc 140],[plc 141],[plc 142],[plc 143]]],[.row [[plc 140],[plc 144]]],[.row [[plc 140],[plc 144]]]]
abbrev labsV:List Value:=[.int .u32 2,.int .u32 3,.int .u32 4,.int .u32 5,.int .u32 6,.int .u32 7,.int .u32 8,.int .u32 9]
theorem wr7:IntKind.i64.wrap (0+1)=1∧IntKind.i64.wrap (1+1)=2∧IntKind.i64.wrap (2+1)=3∧IntKind.i64.wrap (3+1)=4∧IntKind.i64.wrap (4+1)=5∧IntKind.i64.wrap (5+1)=6∧IntKind.i64.wrap (6+1)=7∧True:=by decide
theorem p11_wn (b:Nat):ACalls Tryz.prog 140 [.one (rawV b 0)] (.one (.one (rawV b 0))):=by
 refine ACalls.intro (fn:=Tryz.f140) Tryz.func140 rfl rfl (by simp[Tryz.f140]) ?_
 unfold Tryz.f140
 simp only[rawV]
 refine wk T0 T0 T0 T0
theorem p11_wm (b:Nat):ACalls Tryz.prog 141 [.one (rawV b 0)] (.one (.one (rawV b 1))):=by
 refine ACalls.intro (fn:=Tryz.f141) Tryz.func141 rfl rfl (by simp[Tryz.f141]) ?_
 unfold Tryz.f141
 simp only[rawV]
 refine wk T0 T0 T0 T0
theorem p11_wa (b:Nat):ACalls Tryz.prog 142 [.one (rawV b 0)] (.one (.one (rawV b 2))):=by
 refine ACalls.intro (fn:=Tryz.f142) Tryz.func142 rfl rfl (by simp[Tryz.f142]) ?_
 unfold Tryz.f142
 simp only[rawV]
 refine wk T0 T0 T0 T0
theorem p11_wb (b:Nat):ACalls Tryz.prog 143 [.one (rawV b 0)] (.one (.one (rawV b 3))):=by
 refine ACalls.intro (fn:=Tryz.f143) Tryz.func143 rfl rfl (by simp[Tryz.f143]) ?_
 unfold Tryz.f143
 simp only[rawV]
 refine wk T0 T0 T0 T0
theorem p11_wk (b:Nat):ACalls Tryz.prog 144 [.one (rawV b 0)] (.one (.one (rawV b 4))):=by
 refine ACalls.intro (fn:=Tryz.f144) Tryz.func144 rfl rfl (by simp[Tryz.f144]) ?_
 unfold Tryz.f144
 simp only[rawV]
 refine wk T0 T0 T0 T0
theorem p11_wt (b:Nat):ACalls Tryz.prog 145 [.one (rawV b 0)] (.one (.one (rawV b 5))):=by
 refine ACalls.intro (fn:=Tryz.f145) Tryz.func145 rfl rfl (by simp[Tryz.f145]) ?_
 unfold Tryz.f145
 simp only[rawV]
 refine wk T0 T0 T0 T0
theorem p11_wh (b:Nat):ACalls Tryz.prog 146 [.one (rawV b 0)] (.one (.one (rawV b 6))):=by
 refine ACalls.intro (fn:=Tryz.f146) Tryz.func146 rfl rfl (by simp[Tryz.f146]) ?_
 unfold Tryz.f146
 simp only[rawV]
 refine wk T0 T0 T0 T0
theorem p11_places:ACalls Tryz.prog 117 [] (.one (.one (.mapc false labsV atsV))):=by
 refine ACalls.intro (fn:=Tryz.f117) Tryz.func117 rfl rfl (by simp[Tryz.f117]) ?_
 unfold Tryz.f117
 simp only[plc,labsV,atsV]
 refine wk T0 T0 T0 T0
theorem p11_may2 (p:Prt):ACalls Tryz.prog 116 [.one (u32 2),.agg (ePrt p)] (rB (mayP 2 p)):=by
 refine ACalls.intro (fn:=Tryz.f116) Tryz.func116 rfl rfl (by simp[Tryz.f116]) ?_
 have hpl:=p11_places
 have heq:=eqok_prt
 rw[show mayP 2 p=(p.m==0&&p.a==0)from by obtain⟨p1,p2,p3,p4,p5,p6,p7⟩:=p;rw[mayP,Bool.eq_iff_iff];simp[getP,wordsP,sizeP,fillP];try(constructor<;>intro h<;>simp_all [eq_comm])]
 unfold Tryz.f116
 simp only[rB,ePrt,plc,rawV,labsV,atsV]at *
 refine wk T0 hpl (@AW.halt 4) (J2 ?_ T0)
 all_goals ((repeat intro h);refine⟨?_⟩)
 refine AWs.mk (AW.name 3 rfl ?_ ?_ fun b1 hb1=>?_)
 ·simp only[go_sem,↓reduceIte]
 ·intro b;simp only[go_sem,↓reduceIte]
 clear hb1
 refine AW.lessW ⟨30,(upd (upd (fun _=>.junk) 3 (.one (.c (rawV b1 0)))) 5 (.one (.c (.row [[plc 140],[plc 143],[plc 144],[plc 145],[plc 146]])))),(upd (fun _=>none) (1000000+b1) (some (.obox [u32 p.n,u32 p.m,u32 p.a,u32 p.b,u32 p.k,u32 p.t,u32 p.h])))⟩ (by exact lz T0) ?_
 simp only[rawV,plc]
 obtain⟨i1,i2,i3,i4,i5,_⟩:=wr7
 have hwb:=p11_wb b1
 have hwh:=p11_wh b1
 have hwk:=p11_wk b1
 have hwn:=p11_wn b1
 have hwt:=p11_wt b1
 simp only[rawV]at *
 refine wk T0 T0 T0 (J2 ?_ T0)
 all_goals ((repeat intro h);refine⟨?_⟩)
 refine AW.unroll 5 ?_
 refine wk (J6 i1 i2 i3 i4 i5 heq) (J5 hwb hwh hwk hwn hwt) T0 T0
 all_goals simp only[Bool.and_assoc]
theorem p11_may3 (p:Prt):ACalls Tryz.prog 116 [.one (u32 3),.agg (ePrt p)] (rB (mayP 3 p)):=by
 refine ACalls.intro (fn:=Tryz.f116) Tryz.func116 rfl rfl (by simp[Tryz.f116]) ?_
 have hpl:=p11_places
 have heq:=eqok_prt
 rw[show mayP 3 p=(p.n==0&&p.m==0&&p.b==0&&p.h==0)from by obtain⟨p1,p2,p3,p4,p5,p6,p7⟩:=p;rw[mayP,Bool.eq_iff_iff];simp[getP,wordsP,sizeP,fillP];try(constructor<;>intro h<;>simp_all [eq_comm])]
 unfold Tryz.f116
 simp only[rB,ePrt,plc,rawV,labsV,atsV]at *
 refine wk T0 hpl (@AW.halt 4) (J2 ?_ T0)
 all_goals ((repeat intro h);refine⟨?_⟩)
 refine AWs.mk (AW.name 3 rfl ?_ ?_ fun b1 hb1=>?_)
 ·simp only[go_sem,↓reduceIte]
 ·intro b;simp only[go_sem,↓reduceIte]
 clear hb1
 refine AW.lessW ⟨30,(upd (upd (fun _=>.junk) 3 (.one (.c (rawV b1 0)))) 5 (.one (.c (.row [[plc 144],[plc 142],[plc 145]])))),(upd (fun _=>none) (1000000+b1) (some (.obox [u32 p.n,u32 p.m,u32 p.a,u32 p.b,u32 p.k,u32 p.t,u32 p.h])))⟩ (by exact lz T0) ?_
 simp only[rawV,plc]
 obtain⟨i1,i2,i3,i4,i5,_⟩:=wr7
 have hwa:=p11_wa b1
 have hwk:=p11_wk b1
 have hwt:=p11_wt b1
 simp only[rawV]at *
 refine wk T0 T0 T0 (J2 ?_ T0)
 all_goals ((repeat intro h);refine⟨?_⟩)
 refine AW.unroll 3 ?_
 refine wk (J4 i1 i2 i3 heq) (J3 hwa hwk hwt) T0 (J2 ?_ T0)
 all_goals ((repeat intro h);refine⟨?_⟩)
 all_goals simp only[Bool.and_assoc]
theorem p11_may4 (p:Prt):ACalls Tryz.prog 116 [.one (u32 4),.agg (ePrt p)] (rB (mayP 4 p)):=by
 refine ACalls.intro (fn:=Tryz.f116) Tryz.func116 rfl rfl (by simp[Tryz.f116]) ?_
 have hpl:=p11_places
 have heq:=eqok_prt
 rw[show mayP 4 p=(p.m==0&&p.a==0&&p.b==0&&p.k==0&&p.t==0&&p.h==0)from by obtain⟨p1,p2,p3,p4,p5,p6,p7⟩:=p;rw[mayP,Bool.eq_iff_iff];simp[getP,wordsP,sizeP,fillP];try(constructor<;>intro h<;>simp_all [eq_comm])]
 unfold Tryz.f116
 simp only[rB,ePrt,plc,rawV,labsV,atsV]at *
 refine wk T0 hpl (@AW.halt 4) (J2 ?_ T0)
 all_goals ((repeat intro h);refine⟨?_⟩)
 refine AWs.mk (AW.name 3 rfl ?_ ?_ fun b1 hb1=>?_)
 ·simp only[go_sem,↓reduceIte]
 ·intro b;simp only[go_sem,↓reduceIte]
 clear hb1
 refine AW.lessW ⟨30,(upd (upd (fun _=>.junk) 3 (.one (.c (rawV b1 0)))) 5 (.one (.c (.row [[plc 140]])))),(upd (fun _=>none) (1000000+b1) (some (.obox [u32 p.n,u32 p.m,u32 p.a,u32 p.b,u32 p.k,u32 p.t,u32 p.h])))⟩ (by exact lz T0) ?_
 simp only[rawV,plc]
 obtain⟨i1,i2,i3,i4,i5,_⟩:=wr7
 have hwn:=p11_wn b1
 simp only[rawV]at *
 refine wk T0 T0 T0 (J2 ?_ T0)
 all_goals ((repeat intro h);refine⟨?_⟩)
 refine AW.unroll 1 ?_
 refine wk (J2 i1 heq) hwn T0 (J2 ?_ T0)
 all_goals ((repeat intro h);refine⟨?_⟩)
 all_goals simp only[Bool.and_assoc]
theorem p11_may5 (p:Prt):ACalls Tryz.prog 116 [.one (u32 5),.agg (ePrt p)] (rB (mayP 5 p)):=by
 refine ACalls.intro (fn:=Tryz.f116) Tryz.func116 rfl rfl (by simp[Tryz.f116]) ?_
 have hpl:=p11_places
 have heq:=eqok_prt
 rw[show mayP 5 p=(p.m==0&&p.a==0&&p.b==0&&p.k==0&&p.t==0&&p.h==0)from by obtain⟨p1,p2,p3,p4,p5,p6,p7⟩:=p;rw[mayP,Bool.eq_iff_iff];simp[getP,wordsP,sizeP,fillP];try(constructor<;>intro h<;>simp_all [eq_comm])]
 unfold Tryz.f116
 simp only[rB,ePrt,plc,rawV,labsV,atsV]at *
 refine wk T0 hpl (@AW.halt 4) (J2 ?_ T0)
 all_goals ((repeat intro h);refine⟨?_⟩)
 refine AWs.mk (AW.name 3 rfl ?_ ?_ fun b1 hb1=>?_)
 ·simp only[go_sem,↓reduceIte]
 ·intro b;simp only[go_sem,↓reduceIte]
 clear hb1
 refine AW.lessW ⟨30,(upd (upd (fun _=>.junk) 3 (.one (.c (rawV b1 0)))) 5 (.one (.c (.row [[plc 140]])))),(upd (fun _=>none) (1000000+b1) (some (.obox [u32 p.n,u32 p.m,u32 p.a,u32 p.b,u32 p.k,u32 p.t,u32 p.h])))⟩ (by exact lz T0) ?_
 simp only[rawV,plc]
 obtain⟨i1,i2,i3,i4,i5,_⟩:=wr7
 have hwn:=p11_wn b1
 simp only[rawV]at *
 refine wk T0 T0 T0 (J2 ?_ T0)
 all_goals ((repeat intro h);refine⟨?_⟩)
 refine AW.unroll 1 ?_
 refine wk (J2 i1 heq) hwn T0 (J2 ?_ T0)
 all_goals ((repeat intro h);refine⟨?_⟩)
 all_goals simp only[Bool.and_assoc]
theorem p11_may6 (p:Prt):ACalls Tryz.prog 116 [.one (u32 6),.agg (ePrt p)] (rB (mayP 6 p)):=by
 refine ACalls.intro (fn:=Tryz.f116) Tryz.func116 rfl rfl (by simp[Tryz.f116]) ?_
 have hpl:=p11_places
 have heq:=eqok_prt
 rw[show mayP 6 p=(p.k==0&&p.t==0&&p.h==0)from by obtain⟨p1,p2,p3,p4,p5,p6,p7⟩:=p;rw[mayP,Bool.eq_iff_iff];simp[getP,wordsP,sizeP,fillP];try(constructor<;>intro h<;>simp_all [eq_comm])]
 unfold Tryz.f116
 simp only[rB,ePrt,plc,rawV,labsV,atsV]at *
 refine wk T0 hpl (@AW.halt 4) (J2 ?_ T0)
 all_goals ((repeat intro h);refine⟨?_⟩)
 refine AWs.mk (AW.name 3 rfl ?_ ?_ fun b1 hb1=>?_)
 ·simp only[go_sem,↓reduceIte]
 ·intro b;simp only[go_sem,↓reduceIte]
 clear hb1
 refine AW.lessW ⟨30,(upd (upd (fun _=>.junk) 3 (.one (.c (rawV b1 0)))) 5 (.one (.c (.row [[plc 140],[plc 141],[plc 142],[plc 143]])))),(upd (fun _=>none) (1000000+b1) (some (.obox [u32 p.n,u32 p.m,u32 p.a,u32 p.b,u32 p.k,u32 p.t,u32 p.h])))⟩ (by exact lz T0) ?_
 simp only[rawV,plc]
 obtain⟨i1,i2,i3,i4,i5,_⟩:=wr7
 have hwa:=p11_wa b1
 have hwb:=p11_wb b1
 have hwm:=p11_wm b1
 have hwn:=p11_wn b1
 simp only[rawV]at *
 refine wk T0 T0 T0 (J2 ?_ T0)
 all_goals ((repeat intro h);refine⟨?_⟩)
 refine AW.unroll 4 ?_
 refine wk (J5 i1 i2 i3 i4 heq) (J4 hwa hwb hwm hwn) T0 (J2 ?_ T0)
 all_goals ((repeat intro h);refine⟨?_⟩)
 all_goals simp only[Bool.and_assoc]
theorem p11_may7 (p:Prt):ACalls Tryz.prog 116 [.one (u32 7),.agg (ePrt p)] (rB (mayP 7 p)):=by
 refine ACalls.intro (fn:=Tryz.f116) Tryz.func116 rfl rfl (by simp[Tryz.f116]) ?_
 have hpl:=p11_places
 have heq:=eqok_prt
 rw[show mayP 7 p=(p.k==0&&p.t==0&&p.h==0)from by obtain⟨p1,p2,p3,p4,p5,p6,p7⟩:=p;rw[mayP,Bool.eq_iff_iff];simp[getP,wordsP,sizeP,fillP];try(constructor<;>intro h<;>simp_all [eq_comm])]
 unfold Tryz.f116
 simp only[rB,ePrt,plc,rawV,labsV,atsV]at *
 refine wk T0 hpl (@AW.halt 4) (J2 ?_ T0)
 all_goals ((repeat intro h);refine⟨?_⟩)
 refine AWs.mk (AW.name 3 rfl ?_ ?_ fun b1 hb1=>?_)
 ·simp only[go_sem,↓reduceIte]
 ·intro b;simp only[go_sem,↓reduceIte]
 clear hb1
 refine AW.lessW ⟨30,(upd (upd (fun _=>.junk) 3 (.one (.c (rawV b1 0)))) 5 (.one (.c (.row [[plc 140],[plc 141],[plc 142],[plc 143]])))),(upd (fun _=>none) (1000000+b1) (some (.obox [u32 p.n,u32 p.m,u32 p.a,u32 p.b,u32 p.k,u32 p.t,u32 p.h])))⟩ (by exact lz T0) ?_
 simp only[rawV,plc]
 obtain⟨i1,i2,i3,i4,i5,_⟩:=wr7
 have hwa:=p11_wa b1
 have hwb:=p11_wb b1
 have hwm:=p11_wm b1
 have hwn:=p11_wn b1
 simp only[rawV]at *
 refine wk T0 T0 T0 (J2 ?_ T0)
 all_goals ((repeat intro h);refine⟨?_⟩)
 refine AW.unroll 4 ?_
 refine wk (J5 i1 i2 i3 i4 heq) (J4 hwa hwb hwm hwn) T0 (J2 ?_ T0)
 all_goals ((repeat intro h);refine⟨?_⟩)
 all_goals simp only[Bool.and_assoc]
theorem p11_may8 (p:Prt):ACalls Tryz.prog 116 [.one (u32 8),.agg (ePrt p)] (rB (mayP 8 p)):=by
 refine ACalls.intro (fn:=Tryz.f116) Tryz.func116 rfl rfl (by simp[Tryz.f116]) ?_
 have hpl:=p11_places
 have heq:=eqok_prt
 rw[show mayP 8 p=(p.m==0&&p.a==0&&p.b==0&&p.t==0&&p.h==0)from by obtain⟨p1,p2,p3,p4,p5,p6,p7⟩:=p;rw[mayP,Bool.eq_iff_iff];simp[getP,wordsP,sizeP,fillP];try(constructor<;>intro h<;>simp_all [eq_comm])]
 unfold Tryz.f116
 simp only[rB,ePrt,plc,rawV,labsV,atsV]at *
 refine wk T0 hpl (@AW.halt 4) (J2 ?_ T0)
 all_goals ((repeat intro h);refine⟨?_⟩)
 refine AWs.mk (AW.name 3 rfl ?_ ?_ fun b1 hb1=>?_)
 ·simp only[go_sem,↓reduceIte]
 ·intro b;simp only[go_sem,↓reduceIte]
 clear hb1
 refine AW.lessW ⟨30,(upd (upd (fun _=>.junk) 3 (.one (.c (rawV b1 0)))) 5 (.one (.c (.row [[plc 140],[plc 144]])))),(upd (fun _=>none) (1000000+b1) (some (.obox [u32 p.n,u32 p.m,u32 p.a,u32 p.b,u32 p.k,u32 p.t,u32 p.h])))⟩ (by exact lz T0) ?_
 simp only[rawV,plc]
 obtain⟨i1,i2,i3,i4,i5,_⟩:=wr7
 have hwk:=p11_wk b1
 have hwn:=p11_wn b1
 simp only[rawV]at *
 refine wk T0 T0 T0 (J2 ?_ T0)
 all_goals ((repeat intro h);refine⟨?_⟩)
 refine AW.unroll 2 ?_
 refine wk (J3 i1 i2 heq) (J2 hwk hwn) T0 (J2 ?_ T0)
 all_goals ((repeat intro h);refine⟨?_⟩)
 all_goals simp only[Bool.and_assoc]
theorem p11_may9 (p:Prt):ACalls Tryz.prog 116 [.one (u32 9),.agg (ePrt p)] (rB (mayP 9 p)):=by
 refine ACalls.intro (fn:=Tryz.f116) Tryz.func116 rfl rfl (by simp[Tryz.f116]) ?_
 have hpl:=p11_places
 have heq:=eqok_prt
 rw[show mayP 9 p=(p.m==0&&p.a==0&&p.b==0&&p.t==0&&p.h==0)from by obtain⟨p1,p2,p3,p4,p5,p6,p7⟩:=p;rw[mayP,Bool.eq_iff_iff];simp[getP,wordsP,sizeP,fillP];try(constructor<;>intro h<;>simp_all [eq_comm])]
 unfold Tryz.f116
 simp only[rB,ePrt,plc,rawV,labsV,atsV]at *
 refine wk T0 hpl (@AW.halt 4) (J2 ?_ T0)
 all_goals ((repeat intro h);refine⟨?_⟩)
 refine AWs.mk (AW.name 3 rfl ?_ ?_ fun b1 hb1=>?_)
 ·simp only[go_sem,↓reduceIte]
 ·intro b;simp only[go_sem,↓reduceIte]
 clear hb1
 refine AW.lessW ⟨30,(upd (upd (fun _=>.junk) 3 (.one (.c (rawV b1 0)))) 5 (.one (.c (.row [[plc 140],[plc 144]])))),(upd (fun _=>none) (1000000+b1) (some (.obox [u32 p.n,u32 p.m,u32 p.a,u32 p.b,u32 p.k,u32 p.t,u32 p.h])))⟩ (by exact lz T0) ?_
 simp only[rawV,plc]
 obtain⟨i1,i2,i3,i4,i5,_⟩:=wr7
 have hwk:=p11_wk b1
 have hwn:=p11_wn b1
 simp only[rawV]at *
 refine wk T0 T0 T0 (J2 ?_ T0)
 all_goals ((repeat intro h);refine⟨?_⟩)
 refine AW.unroll 2 ?_
 refine wk (J3 i1 i2 heq) (J2 hwk hwn) T0 (J2 ?_ T0)
 all_goals ((repeat intro h);refine⟨?_⟩)
 all_goals simp only[Bool.and_assoc]
theorem p11_may (x:Int)(p:Prt):ACalls Tryz.prog 116 [.one (u32 x),.agg (ePrt p)] (rB (mayP x p)):=by
 rcases label_cases x with rfl|rfl|rfl|rfl|rfl|rfl|rfl|rfl|h
 ·exact p11_may2 p
 ·exact p11_may3 p
 ·exact p11_may4 p
 ·exact p11_may5 p
 ·exact p11_may6 p
 ·exact p11_may7 p
 ·exact p11_may8 p
 ·exact p11_may9 p
 rw[show mayP x p=false from by rw[mayP,getP,if_pos h];simp]
 refine ACalls.intro (fn:=Tryz.f116) Tryz.func116 rfl rfl (by simp[Tryz.f116]) ?_
 have hpl:=p11_places
 have h2:(x==2)=false:=beq_eq_false_iff_ne.2 (by omega)
 have h3:(x==3)=false:=beq_eq_false_iff_ne.2 (by omega)
 have h4:(x==4)=false:=beq_eq_false_iff_ne.2 (by omega)
 have h5:(x==5)=false:=beq_eq_false_iff_ne.2 (by omega)
 have h6:(x==6)=false:=beq_eq_false_iff_ne.2 (by omega)
 have h7:(x==7)=false:=beq_eq_false_iff_ne.2 (by omega)
 have h8:(x==8)=false:=beq_eq_false_iff_ne.2 (by omega)
 have h9:(x==9)=false:=beq_eq_false_iff_ne.2 (by omega)
 unfold Tryz.f116
 simp only[rB,ePrt,plc,rawV,labsV,atsV]at *
 refine wk (J8 h2 h3 h4 h5 h6 h7 h8 h9) hpl T0 T0
end
section
theorem Unr.less {P:Program}{c:Code}{σ:St}(σ':St){Q:Exit→St→Prop}{n:Nat}(hl:Less σ σ')(h:Unr P c Q n σ'):Unr P c Q n σ:=by
 cases n with
 |zero=>exact AW.lessW σ' hl h
 |succ n=>exact AW.lessW σ' hl h
section
attribute [local irreducible] Unr
theorem p11_puts2 (p:Prt)(h:mayP 2 p=true):ACalls Tryz.prog 95 [.one (u32 2),.agg (ePrt p)] (.tup [.one (.row ((wordsP 2 p).map eWord)),.one (i64 0)]):=by
 refine ACalls.intro (fn:=Tryz.f95) Tryz.func95 rfl rfl (by simp[Tryz.f95]) ?_
 have hpl:=p11_places
 have hm:=p11_may 2 p
 rw[h]at hm
 rw[show(wordsP 2 p).map eWord=[[u32 p.n],[u32 p.b],[u32 p.k],[u32 p.t],[u32 p.h]]from rfl]
 unfold Tryz.f95
 simp only[rB,ePrt,plc,rawV,labsV,atsV]at *
 refine wk T0 (J2 hpl hm) (@AW.halt 4) (J2 ?_ T0)
 all_goals ((repeat intro h);refine⟨?_⟩)
 refine AWs.mk (AW.name 3 rfl ?_ ?_ fun b1 hb1=>?_)
 ·simp only[go_sem,↓reduceIte]
 ·intro b;simp only[go_sem,↓reduceIte]
 clear hb1
 refine AW.lessW ⟨30,(upd (upd (upd (fun _=>.junk) 0 (.one (.c (u32 2)))) 3 (.one (.c (rawV b1 0)))) 6 (.one .nil)),(upd (fun _=>none) (1000000+b1) (some (.obox [u32 p.n,u32 p.m,u32 p.a,u32 p.b,u32 p.k,u32 p.t,u32 p.h])))⟩ (by exact lz T0) ?_
 simp only[rawV,plc]
 obtain⟨i1,i2,i3,i4,i5,_⟩:=wr7
 have hwb:=p11_wb b1
 have hwh:=p11_wh b1
 have hwk:=p11_wk b1
 have hwn:=p11_wn b1
 have hwt:=p11_wt b1
 simp only[rawV]at *
 refine wk T0 hpl T0 (J2 ?_ T0)
 all_goals ((repeat intro h);refine⟨?_⟩)
 refine AW.unroll 5 ?_
 refine Unr.step ?_
 refine wk (J5 i1 i2 i3 i4 i5) (J5 hwb hwh hwk hwn hwt) T0 (J2 ?_ T0)
 all_goals ((repeat intro h);refine⟨?_⟩)
 refine Unr.less ⟨30,(upd (upd (upd (upd (upd (fun _=>.junk) 3 (.one (.c (rawV b1 0)))) 6 (.one (.own 27 1))) 15 (.one (.c (.row [[plc 140],[plc 143],[plc 144],[plc 145],[plc 146]])))) 16 (.one (.c (i64 ((5:Nat):Int))))) 17 (.one (.c (i64 1)))),(upd (upd (fun _=>none) 27 (some (.rows 22 1 ([[u32 p.n]])))) (1000000+b1) (some (.obox [u32 p.n,u32 p.m,u32 p.a,u32 p.b,u32 p.k,u32 p.t,u32 p.h])))⟩ (by exact lz T0) ?_
 simp only[rawV,plc]
 refine Unr.step ?_
 refine wk (J5 i1 i2 i3 i4 i5) (J5 hwb hwh hwk hwn hwt) T0 (J2 ?_ T0)
 all_goals ((repeat intro h);refine⟨?_⟩)
 refine Unr.less ⟨30,(upd (upd (upd (upd (upd (fun _=>.junk) 3 (.one (.c (rawV b1 0)))) 6 (.one (.own 27 2))) 15 (.one (.c (.row [[plc 140],[plc 143],[plc 144],[plc 145],[plc 146]])))) 16 (.one (.c (i64 ((5:Nat):Int))))) 17 (.one (.c (i64 2)))),(upd (upd (fun _=>none) 27 (some (.rows 22 1 ([[u32 p.n],[u32 p.b]])))) (1000000+b1) (some (.obox [u32 p.n,u32 p.m,u32 p.a,u32 p.b,u32 p.k,u32 p.t,u32 p.h])))⟩ (by exact lz T0) ?_
 simp only[rawV,plc]
 refine Unr.step ?_
 refine wk (J5 i1 i2 i3 i4 i5) (J5 hwb hwh hwk hwn hwt) T0 (J2 ?_ T0)
 all_goals ((repeat intro h);refine⟨?_⟩)
 refine Unr.less ⟨30,(upd (upd (upd (upd (upd (fun _=>.junk) 3 (.one (.c (rawV b1 0)))) 6 (.one (.own 27 3))) 15 (.one (.c (.row [[plc 140],[plc 143],[plc 144],[plc 145],[plc 146]])))) 16 (.one (.c (i64 ((5:Nat):Int))))) 17 (.one (.c (i64 3)))),(upd (upd (fun _=>none) 27 (some (.rows 22 1 ([[u32 p.n],[u32 p.b],[u32 p.k]])))) (1000000+b1) (some (.obox [u32 p.n,u32 p.m,u32 p.a,u32 p.b,u32 p.k,u32 p.t,u32 p.h])))⟩ (by exact lz T0) ?_
 simp only[rawV,plc]
 refine Unr.step ?_
 refine wk (J5 i1 i2 i3 i4 i5) (J5 hwb hwh hwk hwn hwt) T0 (J2 ?_ T0)
 all_goals ((repeat intro h);refine⟨?_⟩)
 refine Unr.less ⟨30,(upd (upd (upd (upd (upd (fun _=>.junk) 3 (.one (.c (rawV b1 0)))) 6 (.one (.own 27 4))) 15 (.one (.c (.row [[plc 140],[plc 143],[plc 144],[plc 145],[plc 146]])))) 16 (.one (.c (i64 ((5:Nat):Int))))) 17 (.one (.c (i64 4)))),(upd (upd (fun _=>none) 27 (some (.rows 22 1 ([[u32 p.n],[u32 p.b],[u32 p.k],[u32 p.t]])))) (1000000+b1) (some (.obox [u32 p.n,u32 p.m,u32 p.a,u32 p.b,u32 p.k,u32 p.t,u32 p.h])))⟩ (by exact lz T0) ?_
 simp only[rawV,plc]
 refine Unr.step ?_
 refine wk (J5 i1 i2 i3 i4 i5) (J5 hwb hwh hwk hwn hwt) T0 (J2 ?_ T0)
 all_goals ((repeat intro h);refine⟨?_⟩)
 refine Unr.less ⟨30,(upd (upd (upd (upd (upd (fun _=>.junk) 3 (.one (.c (rawV b1 0)))) 6 (.one (.own 27 5))) 15 (.one (.c (.row [[plc 140],[plc 143],[plc 144],[plc 145],[plc 146]])))) 16 (.one (.c (i64 ((5:Nat):Int))))) 17 (.one (.c (i64 5)))),(upd (upd (fun _=>none) 27 (some (.rows 22 1 ([[u32 p.n],[u32 p.b],[u32 p.k],[u32 p.t],[u32 p.h]])))) (1000000+b1) (some (.obox [u32 p.n,u32 p.m,u32 p.a,u32 p.b,u32 p.k,u32 p.t,u32 p.h])))⟩ (by exact lz T0) ?_
 simp only[rawV,plc]
 refine Unr.last ?_
 refine wk (J5 i1 i2 i3 i4 i5) T0 T0 T0
theorem p11_puts3 (p:Prt)(h:mayP 3 p=true):ACalls Tryz.prog 95 [.one (u32 3),.agg (ePrt p)] (.tup [.one (.row ((wordsP 3 p).map eWord)),.one (i64 0)]):=by
 refine ACalls.intro (fn:=Tryz.f95) Tryz.func95 rfl rfl (by simp[Tryz.f95]) ?_
 have hpl:=p11_places
 have hm:=p11_may 3 p
 rw[h]at hm
 rw[show(wordsP 3 p).map eWord=[[u32 p.k],[u32 p.a],[u32 p.t]]from rfl]
 unfold Tryz.f95
 simp only[rB,ePrt,plc,rawV,labsV,atsV]at *
 refine wk T0 (J2 hpl hm) (@AW.halt 4) (J2 ?_ T0)
 all_goals ((repeat intro h);refine⟨?_⟩)
 refine AWs.mk (AW.name 3 rfl ?_ ?_ fun b1 hb1=>?_)
 ·simp only[go_sem,↓reduceIte]
 ·intro b;simp only[go_sem,↓reduceIte]
 clear hb1
 refine AW.lessW ⟨30,(upd (upd (upd (fun _=>.junk) 0 (.one (.c (u32 3)))) 3 (.one (.c (rawV b1 0)))) 6 (.one .nil)),(upd (fun _=>none) (1000000+b1) (some (.obox [u32 p.n,u32 p.m,u32 p.a,u32 p.b,u32 p.k,u32 p.t,u32 p.h])))⟩ (by exact lz T0) ?_
 simp only[rawV,plc]
 obtain⟨i1,i2,i3,i4,i5,_⟩:=wr7
 have hwa:=p11_wa b1
 have hwk:=p11_wk b1
 have hwt:=p11_wt b1
 simp only[rawV]at *
 refine wk T0 hpl T0 (J2 ?_ T0)
 all_goals ((repeat intro h);refine⟨?_⟩)
 refine AW.unroll 3 ?_
 refine Unr.step ?_
 refine wk (J3 i1 i2 i3) (J3 hwa hwk hwt) T0 (J2 ?_ T0)
 all_goals ((repeat intro h);refine⟨?_⟩)
 refine Unr.less ⟨30,(upd (upd (upd (upd (upd (fun _=>.junk) 3 (.one (.c (rawV b1 0)))) 6 (.one (.own 27 1))) 15 (.one (.c (.row [[plc 144],[plc 142],[plc 145]])))) 16 (.one (.c (i64 ((3:Nat):Int))))) 17 (.one (.c (i64 1)))),(upd (upd (fun _=>none) 27 (some (.rows 22 1 ([[u32 p.k]])))) (1000000+b1) (some (.obox [u32 p.n,u32 p.m,u32 p.a,u32 p.b,u32 p.k,u32 p.t,u32 p.h])))⟩ (by exact lz T0) ?_
 simp only[rawV,plc]
 refine Unr.step ?_
 refine wk (J3 i1 i2 i3) (J3 hwa hwk hwt) T0 (J2 ?_ T0)
 all_goals ((repeat intro h);refine⟨?_⟩)
 refine Unr.less ⟨30,(upd (upd (upd (upd (upd (fun _=>.junk) 3 (.one (.c (rawV b1 0)))) 6 (.one (.own 27 2))) 15 (.one (.c (.row [[plc 144],[plc 142],[plc 145]])))) 16 (.one (.c (i64 ((3:Nat):Int))))) 17 (.one (.c (i64 2)))),(upd (upd (fun _=>none) 27 (some (.rows 22 1 ([[u32 p.k],[u32 p.a]])))) (1000000+b1) (some (.obox [u32 p.n,u32 p.m,u32 p.a,u32 p.b,u32 p.k,u32 p.t,u32 p.h])))⟩ (by exact lz T0) ?_
 simp only[rawV,plc]
 refine Unr.step ?_
 refine wk (J3 i1 i2 i3) (J3 hwa hwk hwt) T0 (J2 ?_ T0)
 all_goals ((repeat intro h);refine⟨?_⟩)
 refine Unr.less ⟨30,(upd (upd (upd (upd (upd (fun _=>.junk) 3 (.one (.c (rawV b1 0)))) 6 (.one (.own 27 3))) 15 (.one (.c (.row [[plc 144],[plc 142],[plc 145]])))) 16 (.one (.c (i64 ((3:Nat):Int))))) 17 (.one (.c (i64 3)))),(upd (upd (fun _=>none) 27 (some (.rows 22 1 ([[u32 p.k],[u32 p.a],[u32 p.t]])))) (1000000+b1) (some (.obox [u32 p.n,u32 p.m,u32 p.a,u32 p.b,u32 p.k,u32 p.t,u32 p.h])))⟩ (by exact lz T0) ?_
 simp only[rawV,plc]
 refine Unr.last ?_
 refine wk (J3 i1 i2 i3) T0 T0 T0
theorem p11_puts4 (p:Prt)(h:mayP 4 p=true):ACalls Tryz.prog 95 [.one (u32 4),.agg (ePrt p)] (.tup [.one (.row ((wordsP 4 p).map eWord)),.one (i64 0)]):=by
 refine ACalls.intro (fn:=Tryz.f95) Tryz.func95 rfl rfl (by simp[Tryz.f95]) ?_
 have hpl:=p11_places
 have hm:=p11_may 4 p
 rw[h]at hm
 rw[show(wordsP 4 p).map eWord=[[u32 p.n]]from rfl]
 unfold Tryz.f95
 simp only[rB,ePrt,plc,rawV,labsV,atsV]at *
 refine wk T0 (J2 hpl hm) (@AW.halt 4) (J2 ?_ T0)
 all_goals ((repeat intro h);refine⟨?_⟩)
 refine AWs.mk (AW.name 3 rfl ?_ ?_ fun b1 hb1=>?_)
 ·simp only[go_sem,↓reduceIte]
 ·intro b;simp only[go_sem,↓reduceIte]
 clear hb1
 refine AW.lessW ⟨30,(upd (upd (upd (fun _=>.junk) 0 (.one (.c (u32 4)))) 3 (.one (.c (rawV b1 0)))) 6 (.one .nil)),(upd (fun _=>none) (1000000+b1) (some (.obox [u32 p.n,u32 p.m,u32 p.a,u32 p.b,u32 p.k,u32 p.t,u32 p.h])))⟩ (by exact lz T0) ?_
 simp only[rawV,plc]
 obtain⟨i1,i2,i3,i4,i5,_⟩:=wr7
 have hwn:=p11_wn b1
 simp only[rawV]at *
 refine wk T0 hpl T0 (J2 ?_ T0)
 all_goals ((repeat intro h);refine⟨?_⟩)
 refine AW.unroll 1 ?_
 refine Unr.step ?_
 refine wk i1 hwn T0 (J2 ?_ T0)
 all_goals ((repeat intro h);refine⟨?_⟩)
 refine Unr.less ⟨30,(upd (upd (upd (upd (upd (fun _=>.junk) 3 (.one (.c (rawV b1 0)))) 6 (.one (.own 27 1))) 15 (.one (.c (.row [[plc 140]])))) 16 (.one (.c (i64 ((1:Nat):Int))))) 17 (.one (.c (i64 1)))),(upd (upd (fun _=>none) 27 (some (.rows 22 1 ([[u32 p.n]])))) (1000000+b1) (some (.obox [u32 p.n,u32 p.m,u32 p.a,u32 p.b,u32 p.k,u32 p.t,u32 p.h])))⟩ (by exact lz T0) ?_
 simp only[rawV,plc]
 refine Unr.last ?_
 refine wk i1 T0 T0 T0
theorem p11_puts5 (p:Prt)(h:mayP 5 p=true):ACalls Tryz.prog 95 [.one (u32 5),.agg (ePrt p)] (.tup [.one (.row ((wordsP 5 p).map eWord)),.one (i64 0)]):=by
 refine ACalls.intro (fn:=Tryz.f95) Tryz.func95 rfl rfl (by simp[Tryz.f95]) ?_
 have hpl:=p11_places
 have hm:=p11_may 5 p
 rw[h]at hm
 rw[show(wordsP 5 p).map eWord=[[u32 p.n]]from rfl]
 unfold Tryz.f95
 simp only[rB,ePrt,plc,rawV,labsV,atsV]at *
 refine wk T0 (J2 hpl hm) (@AW.halt 4) (J2 ?_ T0)
 all_goals ((repeat intro h);refine⟨?_⟩)
 refine AWs.mk (AW.name 3 rfl ?_ ?_ fun b1 hb1=>?_)
 ·simp only[go_sem,↓reduceIte]
 ·intro b;simp only[go_sem,↓reduceIte]
 clear hb1
 refine AW.lessW ⟨30,(upd (upd (upd (fun _=>.junk) 0 (.one (.c (u32 5)))) 3 (.one (.c (rawV b1 0)))) 6 (.one .nil)),(upd (fun _=>none) (1000000+b1) (some (.obox [u32 p.n,u32 p.m,u32 p.a,u32 p.b,u32 p.k,u32 p.t,u32 p.h])))⟩ (by exact lz T0) ?_
 simp only[rawV,plc]
 obtain⟨i1,i2,i3,i4,i5,_⟩:=wr7
 have hwn:=p11_wn b1
 simp only[rawV]at *
 refine wk T0 hpl T0 (J2 ?_ T0)
 all_goals ((repeat intro h);refine⟨?_⟩)
 refine AW.unroll 1 ?_
 refine Unr.step ?_
 refine wk i1 hwn T0 (J2 ?_ T0)
 all_goals ((repeat intro h);refine⟨?_⟩)
 refine Unr.less ⟨30,(upd (upd (upd (upd (upd (fun _=>.junk) 3 (.one (.c (rawV b1 0)))) 6 (.one (.own 27 1))) 15 (.one (.c (.row [[plc 140]])))) 16 (.one (.c (i64 ((1:Nat):Int))))) 17 (.one (.c (i64 1)))),(upd (upd (fun _=>none) 27 (some (.rows 22 1 ([[u32 p.n]])))) (1000000+b1) (some (.obox [u32 p.n,u32 p.m,u32 p.a,u32 p.b,u32 p.k,u32 p.t,u32 p.h])))⟩ (by exact lz T0) ?_
 simp only[rawV,plc]
 refine Unr.last ?_
 refine wk i1 T0 T0 T0
theorem p11_puts6 (p:Prt)(h:mayP 6 p=true):ACalls Tryz.prog 95 [.one (u32 6),.agg (ePrt p)] (.tup [.one (.row ((wordsP 6 p).map eWord)),.one (i64 0)]):=by
 refine ACalls.intro (fn:=Tryz.f95) Tryz.func95 rfl rfl (by simp[Tryz.f95]) ?_
 have hpl:=p11_places
 have hm:=p11_may 6 p
 rw[h]at hm
 rw[show(wordsP 6 p).map eWord=[[u32 p.n],[u32 p.m],[u32 p.a],[u32 p.b]]from rfl]
 unfold Tryz.f95
 simp only[rB,ePrt,plc,rawV,labsV,atsV]at *
 refine wk T0 (J2 hpl hm) (@AW.halt 4) (J2 ?_ T0)
 all_goals ((repeat intro h);refine⟨?_⟩)
 refine AWs.mk (AW.name 3 rfl ?_ ?_ fun b1 hb1=>?_)
 ·simp only[go_sem,↓reduceIte]
 ·intro b;simp only[go_sem,↓reduceIte]
 clear hb1
 refine AW.lessW ⟨30,(upd (upd (upd (fun _=>.junk) 0 (.one (.c (u32 6)))) 3 (.one (.c (rawV b1 0)))) 6 (.one .nil)),(upd (fun _=>none) (1000000+b1) (some (.obox [u32 p.n,u32 p.m,u32 p.a,u32 p.b,u32 p.k,u32 p.t,u32 p.h])))⟩ (by exact lz T0) ?_
 simp only[rawV,plc]
 obtain⟨i1,i2,i3,i4,i5,_⟩:=wr7
 have hwa:=p11_wa b1
 have hwb:=p11_wb b1
 have hwm:=p11_wm b1
 have hwn:=p11_wn b1
 simp only[rawV]at *
 refine wk T0 hpl T0 (J2 ?_ T0)
 all_goals ((repeat intro h);refine⟨?_⟩)
 refine AW.unroll 4 ?_
 refine Unr.step ?_
 refine wk (J4 i1 i2 i3 i4) (J4 hwa hwb hwm hwn) T0 (J2 ?_ T0)
 all_goals ((repeat intro h);refine⟨?_⟩)
 refine Unr.less ⟨30,(upd (upd (upd (upd (upd (fun _=>.junk) 3 (.one (.c (rawV b1 0)))) 6 (.one (.own 27 1))) 15 (.one (.c (.row [[plc 140],[plc 141],[plc 142],[plc 143]])))) 16 (.one (.c (i64 ((4:Nat):Int))))) 17 (.one (.c (i64 1)))),(upd (upd (fun _=>none) 27 (some (.rows 22 1 ([[u32 p.n]])))) (1000000+b1) (some (.obox [u32 p.n,u32 p.m,u32 p.a,u32 p.b,u32 p.k,u32 p.t,u32 p.h])))⟩ (by exact lz T0) ?_
 simp only[rawV,plc]
 refine Unr.step ?_
 refine wk (J4 i1 i2 i3 i4) (J4 hwa hwb hwm hwn) T0 (J2 ?_ T0)
 all_goals ((repeat intro h);refine⟨?_⟩)
 refine Unr.less ⟨30,(upd (upd (upd (upd (upd (fun _=>.junk) 3 (.one (.c (rawV b1 0)))) 6 (.one (.own 27 2))) 15 (.one (.c (.row [[plc 140],[plc 141],[plc 142],[plc 143]])))) 16 (.one (.c (i64 ((4:Nat):Int))))) 17 (.one (.c (i64 2)))),(upd (upd (fun _=>none) 27 (some (.rows 22 1 ([[u32 p.n],[u32 p.m]])))) (1000000+b1) (some (.obox [u32 p.n,u32 p.m,u32 p.a,u32 p.b,u32 p.k,u32 p.t,u32 p.h])))⟩ (by exact lz T0) ?_
 simp only[rawV,plc]
 refine Unr.step ?_
 refine wk (J4 i1 i2 i3 i4) (J4 hwa hwb hwm hwn) T0 (J2 ?_ T0)
 all_goals ((repeat intro h);refine⟨?_⟩)
 refine Unr.less ⟨30,(upd (upd (upd (upd (upd (fun _=>.junk) 3 (.one (.c (rawV b1 0)))) 6 (.one (.own 27 3))) 15 (.one (.c (.row [[plc 140],[plc 141],[plc 142],[plc 143]])))) 16 (.one (.c (i64 ((4:Nat):Int))))) 17 (.one (.c (i64 3)))),(upd (upd (fun _=>none) 27 (some (.rows 22 1 ([[u32 p.n],[u32 p.m],[u32 p.a]])))) (1000000+b1) (some (.obox [u32 p.n,u32 p.m,u32 p.a,u32 p.b,u32 p.k,u32 p.t,u32 p.h])))⟩ (by exact lz T0) ?_
 simp only[rawV,plc]
 refine Unr.step ?_
 refine wk (J4 i1 i2 i3 i4) (J4 hwa hwb hwm hwn) T0 (J2 ?_ T0)
 all_goals ((repeat intro h);refine⟨?_⟩)
 refine Unr.less ⟨30,(upd (upd (upd (upd (upd (fun _=>.junk) 3 (.one (.c (rawV b1 0)))) 6 (.one (.own 27 4))) 15 (.one (.c (.row [[plc 140],[plc 141],[plc 142],[plc 143]])))) 16 (.one (.c (i64 ((4:Nat):Int))))) 17 (.one (.c (i64 4)))),(upd (upd (fun _=>none) 27 (some (.rows 22 1 ([[u32 p.n],[u32 p.m],[u32 p.a],[u32 p.b]])))) (1000000+b1) (some (.obox [u32 p.n,u32 p.m,u32 p.a,u32 p.b,u32 p.k,u32 p.t,u32 p.h])))⟩ (by exact lz T0) ?_
 simp only[rawV,plc]
 refine Unr.last ?_
 refine wk (J4 i1 i2 i3 i4) T0 T0 T0
theorem p11_puts7 (p:Prt)(h:mayP 7 p=true):ACalls Tryz.prog 95 [.one (u32 7),.agg (ePrt p)] (.tup [.one (.row ((wordsP 7 p).map eWord)),.one (i64 0)]):=by
 refine ACalls.intro (fn:=Tryz.f95) Tryz.func95 rfl rfl (by simp[Tryz.f95]) ?_
 have hpl:=p11_places
 have hm:=p11_may 7 p
 rw[h]at hm
 rw[show(wordsP 7 p).map eWord=[[u32 p.n],[u32 p.m],[u32 p.a],[u32 p.b]]from rfl]
 unfold Tryz.f95
 simp only[rB,ePrt,plc,rawV,labsV,atsV]at *
 refine wk T0 (J2 hpl hm) (@AW.halt 4) (J2 ?_ T0)
 all_goals ((repeat intro h);refine⟨?_⟩)
 refine AWs.mk (AW.name 3 rfl ?_ ?_ fun b1 hb1=>?_)
 ·simp only[go_sem,↓reduceIte]
 ·intro b;simp only[go_sem,↓reduceIte]
 clear hb1
 refine AW.lessW ⟨30,(upd (upd (upd (fun _=>.junk) 0 (.one (.c (u32 7)))) 3 (.one (.c (rawV b1 0)))) 6 (.one .nil)),(upd (fun _=>none) (1000000+b1) (some (.obox [u32 p.n,u32 p.m,u32 p.a,u32 p.b,u32 p.k,u32 p.t,u32 p.h])))⟩ (by exact lz T0) ?_
 simp only[rawV,plc]
 obtain⟨i1,i2,i3,i4,i5,_⟩:=wr7
 have hwa:=p11_wa b1
 have hwb:=p11_wb b1
 have hwm:=p11_wm b1
 have hwn:=p11_wn b1
 simp only[rawV]at *
 refine wk T0 hpl T0 (J2 ?_ T0)
 all_goals ((repeat intro h);refine⟨?_⟩)
 refine AW.unroll 4 ?_
 refine Unr.step ?_
 refine wk (J4 i1 i2 i3 i4) (J4 hwa hwb hwm hwn) T0 (J2 ?_ T0)
 all_goals ((repeat intro h);refine⟨?_⟩)
 refine Unr.less ⟨30,(upd (upd (upd (upd (upd (fun _=>.junk) 3 (.one (.c (rawV b1 0)))) 6 (.one (.own 27 1))) 15 (.one (.c (.row [[plc 140],[plc 141],[plc 142],[plc 143]])))) 16 (.one (.c (i64 ((4:Nat):Int))))) 17 (.one (.c (i64 1)))),(upd (upd (fun _=>none) 27 (some (.rows 22 1 ([[u32 p.n]])))) (1000000+b1) (some (.obox [u32 p.n,u32 p.m,u32 p.a,u32 p.b,u32 p.k,u32 p.t,u32 p.h])))⟩ (by exact lz T0) ?_
 simp only[rawV,plc]
 refine Unr.step ?_
 refine wk (J4 i1 i2 i3 i4) (J4 hwa hwb hwm hwn) T0 (J2 ?_ T0)
 all_goals ((repeat intro h);refine⟨?_⟩)
 refine Unr.less ⟨30,(upd (upd (upd (upd (upd (fun _=>.junk) 3 (.one (.c (rawV b1 0)))) 6 (.one (.own 27 2))) 15 (.one (.c (.row [[plc 140],[plc 141],[plc 142],[plc 143]])))) 16 (.one (.c (i64 ((4:Nat):Int))))) 17 (.one (.c (i64 2)))),(upd (upd (fun _=>none) 27 (some (.rows 22 1 ([[u32 p.n],[u32 p.m]])))) (1000000+b1) (some (.obox [u32 p.n,u32 p.m,u32 p.a,u32 p.b,u32 p.k,u32 p.t,u32 p.h])))⟩ (by exact lz T0) ?_
 simp only[rawV,plc]
 refine Unr.step ?_
 refine wk (J4 i1 i2 i3 i4) (J4 hwa hwb hwm hwn) T0 (J2 ?_ T0)
 all_goals ((repeat intro h);refine⟨?_⟩)
 refine Unr.less ⟨30,(upd (upd (upd (upd (upd (fun _=>.junk) 3 (.one (.c (rawV b1 0)))) 6 (.one (.own 27 3))) 15 (.one (.c (.row [[plc 140],[plc 141],[plc 142],[plc 143]])))) 16 (.one (.c (i64 ((4:Nat):Int))))) 17 (.one (.c (i64 3)))),(upd (upd (fun _=>none) 27 (some (.rows 22 1 ([[u32 p.n],[u32 p.m],[u32 p.a]])))) (1000000+b1) (some (.obox [u32 p.n,u32 p.m,u32 p.a,u32 p.b,u32 p.k,u32 p.t,u32 p.h])))⟩ (by exact lz T0) ?_
 simp only[rawV,plc]
 refine Unr.step ?_
 refine wk (J4 i1 i2 i3 i4) (J4 hwa hwb hwm hwn) T0 (J2 ?_ T0)
 all_goals ((repeat intro h);refine⟨?_⟩)
 refine Unr.less ⟨30,(upd (upd (upd (upd (upd (fun _=>.junk) 3 (.one (.c (rawV b1 0)))) 6 (.one (.own 27 4))) 15 (.one (.c (.row [[plc 140],[plc 141],[plc 142],[plc 143]])))) 16 (.one (.c (i64 ((4:Nat):Int))))) 17 (.one (.c (i64 4)))),(upd (upd (fun _=>none) 27 (some (.rows 22 1 ([[u32 p.n],[u32 p.m],[u32 p.a],[u32 p.b]])))) (1000000+b1) (some (.obox [u32 p.n,u32 p.m,u32 p.a,u32 p.b,u32 p.k,u32 p.t,u32 p.h])))⟩ (by exact lz T0) ?_
 simp only[rawV,plc]
 refine Unr.last ?_
 refine wk (J4 i1 i2 i3 i4) T0 T0 T0
theorem p11_puts8 (p:Prt)(h:mayP 8 p=true):ACalls Tryz.prog 95 [.one (u32 8),.agg (ePrt p)] (.tup [.one (.row ((wordsP 8 p).map eWord)),.one (i64 0)]):=by
 refine ACalls.intro (fn:=Tryz.f95) Tryz.func95 rfl rfl (by simp[Tryz.f95]) ?_
 have hpl:=p11_places
 have hm:=p11_may 8 p
 rw[h]at hm
 rw[show(wordsP 8 p).map eWord=[[u32 p.n],[u32 p.k]]from rfl]
 unfold Tryz.f95
 simp only[rB,ePrt,plc,rawV,labsV,atsV]at *
 refine wk T0 (J2 hpl hm) (@AW.halt 4) (J2 ?_ T0)
 all_goals ((repeat intro h);refine⟨?_⟩)
 refine AWs.mk (AW.name 3 rfl ?_ ?_ fun b1 hb1=>?_)
 ·simp only[go_sem,↓reduceIte]
 ·intro b;simp only[go_sem,↓reduceIte]
 clear hb1
 refine AW.lessW ⟨30,(upd (upd (upd (fun _=>.junk) 0 (.one (.c (u32 8)))) 3 (.one (.c (rawV b1 0)))) 6 (.one .nil)),(upd (fun _=>none) (1000000+b1) (some (.obox [u32 p.n,u32 p.m,u32 p.a,u32 p.b,u32 p.k,u32 p.t,u32 p.h])))⟩ (by exact lz T0) ?_
 simp only[rawV,plc]
 obtain⟨i1,i2,i3,i4,i5,_⟩:=wr7
 have hwk:=p11_wk b1
 have hwn:=p11_wn b1
 simp only[rawV]at *
 refine wk T0 hpl T0 (J2 ?_ T0)
 all_goals ((repeat intro h);refine⟨?_⟩)
 refine AW.unroll 2 ?_
 refine Unr.step ?_
 refine wk (J2 i1 i2) (J2 hwk hwn) T0 (J2 ?_ T0)
 all_goals ((repeat intro h);refine⟨?_⟩)
 refine Unr.less ⟨30,(upd (upd (upd (upd (upd (fun _=>.junk) 3 (.one (.c (rawV b1 0)))) 6 (.one (.own 27 1))) 15 (.one (.c (.row [[plc 140],[plc 144]])))) 16 (.one (.c (i64 ((2:Nat):Int))))) 17 (.one (.c (i64 1)))),(upd (upd (fun _=>none) 27 (some (.rows 22 1 ([[u32 p.n]])))) (1000000+b1) (some (.obox [u32 p.n,u32 p.m,u32 p.a,u32 p.b,u32 p.k,u32 p.t,u32 p.h])))⟩ (by exact lz T0) ?_
 simp only[rawV,plc]
 refine Unr.step ?_
 refine wk (J2 i1 i2) (J2 hwk hwn) T0 (J2 ?_ T0)
 all_goals ((repeat intro h);refine⟨?_⟩)
 refine Unr.less ⟨30,(upd (upd (upd (upd (upd (fun _=>.junk) 3 (.one (.c (rawV b1 0)))) 6 (.one (.own 27 2))) 15 (.one (.c (.row [[plc 140],[plc 144]])))) 16 (.one (.c (i64 ((2:Nat):Int))))) 17 (.one (.c (i64 2)))),(upd (upd (fun _=>none) 27 (some (.rows 22 1 ([[u32 p.n],[u32 p.k]])))) (1000000+b1) (some (.obox [u32 p.n,u32 p.m,u32 p.a,u32 p.b,u32 p.k,u32 p.t,u32 p.h])))⟩ (by exact lz T0) ?_
 simp only[rawV,plc]
 refine Unr.last ?_
 refine wk (J2 i1 i2) T0 T0 T0
theorem p11_puts9 (p:Prt)(h:mayP 9 p=true):ACalls Tryz.prog 95 [.one (u32 9),.agg (ePrt p)] (.tup [.one (.row ((wordsP 9 p).map eWord)),.one (i64 0)]):=by
 refine ACalls.intro (fn:=Tryz.f95) Tryz.func95 rfl rfl (by simp[Tryz.f95]) ?_
 have hpl:=p11_places
 have hm:=p11_may 9 p
 rw[h]at hm
 rw[show(wordsP 9 p).map eWord=[[u32 p.n],[u32 p.k]]from rfl]
 unfold Tryz.f95
 simp only[rB,ePrt,plc,rawV,labsV,atsV]at *
 refine wk T0 (J2 hpl hm) (@AW.halt 4) (J2 ?_ T0)
 all_goals ((repeat intro h);refine⟨?_⟩)
 refine AWs.mk (AW.name 3 rfl ?_ ?_ fun b1 hb1=>?_)
 ·simp only[go_sem,↓reduceIte]
 ·intro b;simp only[go_sem,↓reduceIte]
 clear hb1
 refine AW.lessW ⟨30,(upd (upd (upd (fun _=>.junk) 0 (.one (.c (u32 9)))) 3 (.one (.c (rawV b1 0)))) 6 (.one .nil)),(upd (fun _=>none) (1000000+b1) (some (.obox [u32 p.n,u32 p.m,u32 p.a,u32 p.b,u32 p.k,u32 p.t,u32 p.h])))⟩ (by exact lz T0) ?_
 simp only[rawV,plc]
 obtain⟨i1,i2,i3,i4,i5,_⟩:=wr7
 have hwk:=p11_wk b1
 have hwn:=p11_wn b1
 simp only[rawV]at *
 refine wk T0 hpl T0 (J2 ?_ T0)
 all_goals ((repeat intro h);refine⟨?_⟩)
 refine AW.unroll 2 ?_
 refine Unr.step ?_
 refine wk (J2 i1 i2) (J2 hwk hwn) T0 (J2 ?_ T0)
 all_goals ((repeat intro h);refine⟨?_⟩)
 refine Unr.less ⟨30,(upd (upd (upd (upd (upd (fun _=>.junk) 3 (.one (.c (rawV b1 0)))) 6 (.one (.own 27 1))) 15 (.one (.c (.row [[plc 140],[plc 144]])))) 16 (.one (.c (i64 ((2:Nat):Int))))) 17 (.one (.c (i64 1)))),(upd (upd (fun _=>none) 27 (some (.rows 22 1 ([[u32 p.n]])))) (1000000+b1) (some (.obox [u32 p.n,u32 p.m,u32 p.a,u32 p.b,u32 p.k,u32 p.t,u32 p.h])))⟩ (by exact lz T0) ?_
 simp only[rawV,plc]
 refine Unr.step ?_
 refine wk (J2 i1 i2) (J2 hwk hwn) T0 (J2 ?_ T0)
 all_goals ((repeat intro h);refine⟨?_⟩)
 refine Unr.less ⟨30,(upd (upd (upd (upd (upd (fun _=>.junk) 3 (.one (.c (rawV b1 0)))) 6 (.one (.own 27 2))) 15 (.one (.c (.row [[plc 140],[plc 144]])))) 16 (.one (.c (i64 ((2:Nat):Int))))) 17 (.one (.c (i64 2)))),(upd (upd (fun _=>none) 27 (some (.rows 22 1 ([[u32 p.n],[u32 p.k]])))) (1000000+b1) (some (.obox [u32 p.n,u32 p.m,u32 p.a,u32 p.b,u32 p.k,u32 p.t,u32 p.h])))⟩ (by exact lz T0) ?_
 simp only[rawV,plc]
 refine Unr.last ?_
 refine wk (J2 i1 i2) T0 T0 T0
theorem p11_put (x:Int)(p:Prt):ACalls Tryz.prog 95 [.one (u32 x),.agg (ePrt p)] (.tup [.one (eWords (putP x p).1),.one (i64 (putP x p).2)]):=by
 by_cases h:mayP x p=true
 ·rw[putP,if_pos h]
  rcases label_cases x with rfl|rfl|rfl|rfl|rfl|rfl|rfl|rfl|hn
  ·exact p11_puts2 p h
  ·exact p11_puts3 p h
  ·exact p11_puts4 p h
  ·exact p11_puts5 p h
  ·exact p11_puts6 p h
  ·exact p11_puts7 p h
  ·exact p11_puts8 p h
  ·exact p11_puts9 p h
  rw[mayP,getP,if_pos hn]at h
  simp at h
 ·rw[putP,if_neg h]
  have hm:=p11_may x p
  rw[Bool.not_eq_true]at h
  rw[h]at hm
  refine ACalls.intro (fn:=Tryz.f95) Tryz.func95 rfl rfl (by simp[Tryz.f95]) ?_
  unfold Tryz.f95
  simp only[rB,ePrt,eWords,List.map_nil]at *
  refine wk T0 hm T0 T0
end
theorem p11_get2 (x0 x1 x2 x3 x4:Int):ACalls Tryz.prog 137 [.one (u32 2),.one (eWords [x0,x1,x2,x3,x4])] (.tup [.agg (ePrt ⟨x0,0,0,x1,x2,x3,x4⟩),.one (i64 0)]):=by
 refine ACalls.intro (fn:=Tryz.f137) Tryz.func137 rfl rfl (by simp[Tryz.f137]) ?_
 have hpl:=p11_places
 unfold Tryz.f137
 simp only[rB,ePrt,plc,rawV,eWords,eWord,List.map_cons,List.map_nil,labsV,atsV]at *
 refine wk T0 hpl (@AW.halt 7) (J2 ?_ T0)
 all_goals ((repeat intro h);refine⟨?_⟩)
 refine AWs.mk (AW.name 8 (cs:=[.c (u32 0),.c (u32 0),.c (u32 0),.c (u32 0),.c (u32 0),.c (u32 0),.c (u32 0)]) ?_ ?_ ?_ fun b1 hb1=>?_)
 ·simp only[go_sem,↓reduceIte]
 ·simp only[go_sem,↓reduceIte]
 ·intro b;simp only[go_sem,↓reduceIte]
 clear hb1
 refine AW.lessW ⟨44,(upd (upd (upd (upd (upd (fun _=>.junk) 1 (.one (.c (.row [[u32 x0],[u32 x1],[u32 x2],[u32 x3],[u32 x4]])))) 4 (.one (.ptr 4 0))) 5 (.one (.c (i64 0)))) 6 (.one (.c (.row [[plc 140],[plc 143],[plc 144],[plc 145],[plc 146]])))) 8 (.one (.c (rawV b1 0)))),(upd (upd (fun _=>none) 4 (some (.box [.c (u32 0),.c (u32 0),.c (u32 0),.c (u32 0),.c (u32 0),.c (u32 0),.c (u32 0)]))) (1000000+b1) (some (.obox [u32 0,u32 0,u32 0,u32 0,u32 0,u32 0,u32 0])))⟩ (by exact lz T0) ?_
 simp only[rawV,plc]
 obtain⟨i1,i2,i3,i4,i5,_⟩:=wr7
 have hwb:=p11_wb b1
 have hwh:=p11_wh b1
 have hwk:=p11_wk b1
 have hwn:=p11_wn b1
 have hwt:=p11_wt b1
 simp only[rawV]at *
 refine wk T0 T0 T0 (J2 ?_ T0)
 all_goals ((repeat intro h);refine⟨?_⟩)
 refine AW.unroll 5 ?_
 refine wk (J5 i1 i2 i3 i4 i5) (J5 hwb hwh hwk hwn hwt) T0 T0
theorem p11_get3 (x0 x1 x2:Int):ACalls Tryz.prog 137 [.one (u32 3),.one (eWords [x0,x1,x2])] (.tup [.agg (ePrt ⟨0,0,x1,0,x0,x2,0⟩),.one (i64 0)]):=by
 refine ACalls.intro (fn:=Tryz.f137) Tryz.func137 rfl rfl (by simp[Tryz.f137]) ?_
 have hpl:=p11_places
 unfold Tryz.f137
 simp only[rB,ePrt,plc,rawV,eWords,eWord,List.map_cons,List.map_nil,labsV,atsV]at *
 refine wk T0 hpl (@AW.halt 7) (J2 ?_ T0)
 all_goals ((repeat intro h);refine⟨?_⟩)
 refine AWs.mk (AW.name 8 (cs:=[.c (u32 0),.c (u32 0),.c (u32 0),.c (u32 0),.c (u32 0),.c (u32 0),.c (u32 0)]) ?_ ?_ ?_ fun b1 hb1=>?_)
 ·simp only[go_sem,↓reduceIte]
 ·simp only[go_sem,↓reduceIte]
 ·intro b;simp only[go_sem,↓reduceIte]
 clear hb1
 refine AW.lessW ⟨44,(upd (upd (upd (upd (upd (fun _=>.junk) 1 (.one (.c (.row [[u32 x0],[u32 x1],[u32 x2]])))) 4 (.one (.ptr 4 0))) 5 (.one (.c (i64 0)))) 6 (.one (.c (.row [[plc 144],[plc 142],[plc 145]])))) 8 (.one (.c (rawV b1 0)))),(upd (upd (fun _=>none) 4 (some (.box [.c (u32 0),.c (u32 0),.c (u32 0),.c (u32 0),.c (u32 0),.c (u32 0),.c (u32 0)]))) (1000000+b1) (some (.obox [u32 0,u32 0,u32 0,u32 0,u32 0,u32 0,u32 0])))⟩ (by exact lz T0) ?_
 simp only[rawV,plc]
 obtain⟨i1,i2,i3,i4,i5,_⟩:=wr7
 have hwa:=p11_wa b1
 have hwk:=p11_wk b1
 have hwt:=p11_wt b1
 simp only[rawV]at *
 refine wk T0 T0 T0 (J2 ?_ T0)
 all_goals ((repeat intro h);refine⟨?_⟩)
 refine AW.unroll 3 ?_
 refine wk (J3 i1 i2 i3) (J3 hwa hwk hwt) T0 T0
theorem p11_get4 (x0:Int):ACalls Tryz.prog 137 [.one (u32 4),.one (eWords [x0])] (.tup [.agg (ePrt ⟨x0,0,0,0,0,0,0⟩),.one (i64 0)]):=by
 refine ACalls.intro (fn:=Tryz.f137) Tryz.func137 rfl rfl (by simp[Tryz.f137]) ?_
 have hpl:=p11_places
 unfold Tryz.f137
 simp only[rB,ePrt,plc,rawV,eWords,eWord,List.map_cons,List.map_nil,labsV,atsV]at *
 refine wk T0 hpl (@AW.halt 7) (J2 ?_ T0)
 all_goals ((repeat intro h);refine⟨?_⟩)
 refine AWs.mk (AW.name 8 (cs:=[.c (u32 0),.c (u32 0),.c (u32 0),.c (u32 0),.c (u32 0),.c (u32 0),.c (u32 0)]) ?_ ?_ ?_ fun b1 hb1=>?_)
 ·simp only[go_sem,↓reduceIte]
 ·simp only[go_sem,↓reduceIte]
 ·intro b;simp only[go_sem,↓reduceIte]
 clear hb1
 refine AW.lessW ⟨44,(upd (upd (upd (upd (upd (fun _=>.junk) 1 (.one (.c (.row [[u32 x0]])))) 4 (.one (.ptr 4 0))) 5 (.one (.c (i64 0)))) 6 (.one (.c (.row [[plc 140]])))) 8 (.one (.c (rawV b1 0)))),(upd (upd (fun _=>none) 4 (some (.box [.c (u32 0),.c (u32 0),.c (u32 0),.c (u32 0),.c (u32 0),.c (u32 0),.c (u32 0)]))) (1000000+b1) (some (.obox [u32 0,u32 0,u32 0,u32 0,u32 0,u32 0,u32 0])))⟩ (by exact lz T0) ?_
 simp only[rawV,plc]
 obtain⟨i1,i2,i3,i4,i5,_⟩:=wr7
 have hwn:=p11_wn b1
 simp only[rawV]at *
 refine wk T0 T0 T0 (J2 ?_ T0)
 all_goals ((repeat intro h);refine⟨?_⟩)
 refine AW.unroll 1 ?_
 refine wk i1 hwn T0 T0
theorem p11_get5 (x0:Int):ACalls Tryz.prog 137 [.one (u32 5),.one (eWords [x0])] (.tup [.agg (ePrt ⟨x0,0,0,0,0,0,0⟩),.one (i64 0)]):=by
 refine ACalls.intro (fn:=Tryz.f137) Tryz.func137 rfl rfl (by simp[Tryz.f137]) ?_
 have hpl:=p11_places
 unfold Tryz.f137
 simp only[rB,ePrt,plc,rawV,eWords,eWord,List.map_cons,List.map_nil,labsV,atsV]at *
 refine wk T0 hpl (@AW.halt 7) (J2 ?_ T0)
 all_goals ((repeat intro h);refine⟨?_⟩)
 refine AWs.mk (AW.name 8 (cs:=[.c (u32 0),.c (u32 0),.c (u32 0),.c (u32 0),.c (u32 0),.c (u32 0),.c (u32 0)]) ?_ ?_ ?_ fun b1 hb1=>?_)
 ·simp only[go_sem,↓reduceIte]
 ·simp only[go_sem,↓reduceIte]
 ·intro b;simp only[go_sem,↓reduceIte]
 clear hb1
 refine AW.lessW ⟨44,(upd (upd (upd (upd (upd (fun _=>.junk) 1 (.one (.c (.row [[u32 x0]])))) 4 (.one (.ptr 4 0))) 5 (.one (.c (i64 0)))) 6 (.one (.c (.row [[plc 140]])))) 8 (.one (.c (rawV b1 0)))),(upd (upd (fun _=>none) 4 (some (.box [.c (u32 0),.c (u32 0),.c (u32 0),.c (u32 0),.c (u32 0),.c (u32 0),.c (u32 0)]))) (1000000+b1) (some (.obox [u32 0,u32 0,u32 0,u32 0,u32 0,u32 0,u32 0])))⟩ (by exact lz T0) ?_
 simp only[rawV,plc]
 obtain⟨i1,i2,i3,i4,i5,_⟩:=wr7
 have hwn:=p11_wn b1
 simp only[rawV]at *
 refine wk T0 T0 T0 (J2 ?_ T0)
 all_goals ((repeat intro h);refine⟨?_⟩)
 refine AW.unroll 1 ?_
 refine wk i1 hwn T0 T0
theorem p11_get6 (x0 x1 x2 x3:Int):ACalls Tryz.prog 137 [.one (u32 6),.one (eWords [x0,x1,x2,x3])] (.tup [.agg (ePrt ⟨x0,x1,x2,x3,0,0,0⟩),.one (i64 0)]):=by
 refine ACalls.intro (fn:=Tryz.f137) Tryz.func137 rfl rfl (by simp[Tryz.f137]) ?_
 have hpl:=p11_places
 unfold Tryz.f137
 simp only[rB,ePrt,plc,rawV,eWords,eWord,List.map_cons,List.map_nil,labsV,atsV]at *
 refine wk T0 hpl (@AW.halt 7) (J2 ?_ T0)
 all_goals ((repeat intro h);refine⟨?_⟩)
 refine AWs.mk (AW.name 8 (cs:=[.c (u32 0),.c (u32 0),.c (u32 0),.c (u32 0),.c (u32 0),.c (u32 0),.c (u32 0)]) ?_ ?_ ?_ fun b1 hb1=>?_)
 ·simp only[go_sem,↓reduceIte]
 ·simp only[go_sem,↓reduceIte]
 ·intro b;simp only[go_sem,↓reduceIte]
 clear hb1
 refine AW.lessW ⟨44,(upd (upd (upd (upd (upd (fun _=>.junk) 1 (.one (.c (.row [[u32 x0],[u32 x1],[u32 x2],[u32 x3]])))) 4 (.one (.ptr 4 0))) 5 (.one (.c (i64 0)))) 6 (.one (.c (.row [[plc 140],[plc 141],[plc 142],[plc 143]])))) 8 (.one (.c (rawV b1 0)))),(upd (upd (fun _=>none) 4 (some (.box [.c (u32 0),.c (u32 0),.c (u32 0),.c (u32 0),.c (u32 0),.c (u32 0),.c (u32 0)]))) (1000000+b1) (some (.obox [u32 0,u32 0,u32 0,u32 0,u32 0,u32 0,u32 0])))⟩ (by exact lz T0) ?_
 simp only[rawV,plc]
 obtain⟨i1,i2,i3,i4,i5,_⟩:=wr7
 have hwa:=p11_wa b1
 have hwb:=p11_wb b1
 have hwm:=p11_wm b1
 have hwn:=p11_wn b1
 simp only[rawV]at *
 refine wk T0 T0 T0 (J2 ?_ T0)
 all_goals ((repeat intro h);refine⟨?_⟩)
 refine AW.unroll 4 ?_
 refine wk (J4 i1 i2 i3 i4) (J4 hwa hwb hwm hwn) T0 T0
theorem p11_get7 (x0 x1 x2 x3:Int):ACalls Tryz.prog 137 [.one (u32 7),.one (eWords [x0,x1,x2,x3])] (.tup [.agg (ePrt ⟨x0,x1,x2,x3,0,0,0⟩),.one (i64 0)]):=by
 refine ACalls.intro (fn:=Tryz.f137) Tryz.func137 rfl rfl (by simp[Tryz.f137]) ?_
 have hpl:=p11_places
 unfold Tryz.f137
 simp only[rB,ePrt,plc,rawV,eWords,eWord,List.map_cons,List.map_nil,labsV,atsV]at *
 refine wk T0 hpl (@AW.halt 7) (J2 ?_ T0)
 all_goals ((repeat intro h);refine⟨?_⟩)
 refine AWs.mk (AW.name 8 (cs:=[.c (u32 0),.c (u32 0),.c (u32 0),.c (u32 0),.c (u32 0),.c (u32 0),.c (u32 0)]) ?_ ?_ ?_ fun b1 hb1=>?_)
 ·simp only[go_sem,↓reduceIte]
 ·simp only[go_sem,↓reduceIte]
 ·intro b;simp only[go_sem,↓reduceIte]
 clear hb1
 refine AW.lessW ⟨44,(upd (upd (upd (upd (upd (fun _=>.junk) 1 (.one (.c (.row [[u32 x0],[u32 x1],[u32 x2],[u32 x3]])))) 4 (.one (.ptr 4 0))) 5 (.one (.c (i64 0)))) 6 (.one (.c (.row [[plc 140],[plc 141],[plc 142],[plc 143]])))) 8 (.one (.c (rawV b1 0)))),(upd (upd (fun _=>none) 4 (some (.box [.c (u32 0),.c (u32 0),.c (u32 0),.c (u32 0),.c (u32 0),.c (u32 0),.c (u32 0)]))) (1000000+b1) (some (.obox [u32 0,u32 0,u32 0,u32 0,u32 0,u32 0,u32 0])))⟩ (by exact lz T0) ?_
 simp only[rawV,plc]
 obtain⟨i1,i2,i3,i4,i5,_⟩:=wr7
 have hwa:=p11_wa b1
 have hwb:=p11_wb b1
 have hwm:=p11_wm b1
 have hwn:=p11_wn b1
 simp only[rawV]at *
 refine wk T0 T0 T0 (J2 ?_ T0)
 all_goals ((repeat intro h);refine⟨?_⟩)
 refine AW.unroll 4 ?_
 refine wk (J4 i1 i2 i3 i4) (J4 hwa hwb hwm hwn) T0 T0
theorem p11_get8 (x0 x1:Int):ACalls Tryz.prog 137 [.one (u32 8),.one (eWords [x0,x1])] (.tup [.agg (ePrt ⟨x0,0,0,0,x1,0,0⟩),.one (i64 0)]):=by
 refine ACalls.intro (fn:=Tryz.f137) Tryz.func137 rfl rfl (by simp[Tryz.f137]) ?_
 have hpl:=p11_places
 unfold Tryz.f137
 simp only[rB,ePrt,plc,rawV,eWords,eWord,List.map_cons,List.map_nil,labsV,atsV]at *
 refine wk T0 hpl (@AW.halt 7) (J2 ?_ T0)
 all_goals ((repeat intro h);refine⟨?_⟩)
 refine AWs.mk (AW.name 8 (cs:=[.c (u32 0),.c (u32 0),.c (u32 0),.c (u32 0),.c (u32 0),.c (u32 0),.c (u32 0)]) ?_ ?_ ?_ fun b1 hb1=>?_)
 ·simp only[go_sem,↓reduceIte]
 ·simp only[go_sem,↓reduceIte]
 ·intro b;simp only[go_sem,↓reduceIte]
 clear hb1
 refine AW.lessW ⟨44,(upd (upd (upd (upd (upd (fun _=>.junk) 1 (.one (.c (.row [[u32 x0],[u32 x1]])))) 4 (.one (.ptr 4 0))) 5 (.one (.c (i64 0)))) 6 (.one (.c (.row [[plc 140],[plc 144]])))) 8 (.one (.c (rawV b1 0)))),(upd (upd (fun _=>none) 4 (some (.box [.c (u32 0),.c (u32 0),.c (u32 0),.c (u32 0),.c (u32 0),.c (u32 0),.c (u32 0)]))) (1000000+b1) (some (.obox [u32 0,u32 0,u32 0,u32 0,u32 0,u32 0,u32 0])))⟩ (by exact lz T0) ?_
 simp only[rawV,plc]
 obtain⟨i1,i2,i3,i4,i5,_⟩:=wr7
 have hwk:=p11_wk b1
 have hwn:=p11_wn b1
 simp only[rawV]at *
 refine wk T0 T0 T0 (J2 ?_ T0)
 all_goals ((repeat intro h);refine⟨?_⟩)
 refine AW.unroll 2 ?_
 refine wk (J2 i1 i2) (J2 hwk hwn) T0 T0
theorem p11_get9 (x0 x1:Int):ACalls Tryz.prog 137 [.one (u32 9),.one (eWords [x0,x1])] (.tup [.agg (ePrt ⟨x0,0,0,0,x1,0,0⟩),.one (i64 0)]):=by
 refine ACalls.intro (fn:=Tryz.f137) Tryz.func137 rfl rfl (by simp[Tryz.f137]) ?_
 have hpl:=p11_places
 unfold Tryz.f137
 simp only[rB,ePrt,plc,rawV,eWords,eWord,List.map_cons,List.map_nil,labsV,atsV]at *
 refine wk T0 hpl (@AW.halt 7) (J2 ?_ T0)
 all_goals ((repeat intro h);refine⟨?_⟩)
 refine AWs.mk (AW.name 8 (cs:=[.c (u32 0),.c (u32 0),.c (u32 0),.c (u32 0),.c (u32 0),.c (u32 0),.c (u32 0)]) ?_ ?_ ?_ fun b1 hb1=>?_)
 ·simp only[go_sem,↓reduceIte]
 ·simp only[go_sem,↓reduceIte]
 ·intro b;simp only[go_sem,↓reduceIte]
 clear hb1
 refine AW.lessW ⟨44,(upd (upd (upd (upd (upd (fun _=>.junk) 1 (.one (.c (.row [[u32 x0],[u32 x1]])))) 4 (.one (.ptr 4 0))) 5 (.one (.c (i64 0)))) 6 (.one (.c (.row [[plc 140],[plc 144]])))) 8 (.one (.c (rawV b1 0)))),(upd (upd (fun _=>none) 4 (some (.box [.c (u32 0),.c (u32 0),.c (u32 0),.c (u32 0),.c (u32 0),.c (u32 0),.c (u32 0)]))) (1000000+b1) (some (.obox [u32 0,u32 0,u32 0,u32 0,u32 0,u32 0,u32 0])))⟩ (by exact lz T0) ?_
 simp only[rawV,plc]
 obtain⟨i1,i2,i3,i4,i5,_⟩:=wr7
 have hwk:=p11_wk b1
 have hwn:=p11_wn b1
 simp only[rawV]at *
 refine wk T0 T0 T0 (J2 ?_ T0)
 all_goals ((repeat intro h);refine⟨?_⟩)
 refine AW.unroll 2 ?_
 refine wk (J2 i1 i2) (J2 hwk hwn) T0 T0
theorem p11_get (x:Int)(l:List Int)(hl:l.length<1000000):ACalls Tryz.prog 137 [.one (u32 x),.one (eWords l)] (.tup [.agg (ePrt (getP x l).1),.one (i64 (getP x l).2)]):=by
 by_cases hx:x<2∨9<x
 ·have e:getP x l=(prt0,1):=by rw[getP,if_pos hx]
  rw[e]
  refine ACalls.intro (fn:=Tryz.f137) Tryz.func137 rfl rfl (by simp[Tryz.f137]) ?_
  have hpl:=p11_places
  have h2:(x==2)=false:=beq_eq_false_iff_ne.2 (by omega)
  have h3:(x==3)=false:=beq_eq_false_iff_ne.2 (by omega)
  have h4:(x==4)=false:=beq_eq_false_iff_ne.2 (by omega)
  have h5:(x==5)=false:=beq_eq_false_iff_ne.2 (by omega)
  have h6:(x==6)=false:=beq_eq_false_iff_ne.2 (by omega)
  have h7:(x==7)=false:=beq_eq_false_iff_ne.2 (by omega)
  have h8:(x==8)=false:=beq_eq_false_iff_ne.2 (by omega)
  have h9:(x==9)=false:=beq_eq_false_iff_ne.2 (by omega)
  unfold Tryz.f137
  simp only[prt0,rB,ePrt,plc,rawV,eWords,labsV,atsV]at *
  refine wk (J8 h2 h3 h4 h5 h6 h7 h8 h9) hpl T0 T0
 by_cases hs:(l.length:Int)=sizeP x
 ·have e:getP x l=(fillP x l,0):=by rw[getP,if_neg hx,if_neg (fun h=>h hs)]
  rw[e]
  rcases label_cases x with rfl|rfl|rfl|rfl|rfl|rfl|rfl|rfl|h
  ·obtain⟨x0,x1,x2,x3,x4,rfl⟩:=len5 hs
   exact p11_get2 x0 x1 x2 x3 x4
  ·obtain⟨x0,x1,x2,rfl⟩:=len3 hs
   exact p11_get3 x0 x1 x2
  ·obtain⟨x0,rfl⟩:=len1 hs
   exact p11_get4 x0
  ·obtain⟨x0,rfl⟩:=len1 hs
   exact p11_get5 x0
  ·obtain⟨x0,x1,x2,x3,rfl⟩:=len4 hs
   exact p11_get6 x0 x1 x2 x3
  ·obtain⟨x0,x1,x2,x3,rfl⟩:=len4 hs
   exact p11_get7 x0 x1 x2 x3
  ·obtain⟨x0,x1,rfl⟩:=len2 hs
   exact p11_get8 x0 x1
  ·obtain⟨x0,x1,rfl⟩:=len2 hs
   exact p11_get9 x0 x1
  ·exact absurd h hx
 have e:getP x l=(prt0,2):=by rw[getP,if_neg hx,if_pos hs]
 rw[e]
 refine ACalls.intro (fn:=Tryz.f137) Tryz.func137 rfl rfl (by simp[Tryz.f137]) ?_
 have hpl:=p11_places
 unfold Tryz.f137
 rcases label_cases x with rfl|rfl|rfl|rfl|rfl|rfl|rfl|rfl|h
 ·have hne:((l.length:Int) != ((5:Nat):Int))=true:=bne_iff_ne.2 hs
  simp only[prt0,rB,ePrt,plc,rawV,eWords,labsV,atsV]at *
  refine wk hne hpl T0 T0
 ·have hne:((l.length:Int) != ((3:Nat):Int))=true:=bne_iff_ne.2 hs
  simp only[prt0,rB,ePrt,plc,rawV,eWords,labsV,atsV]at *
  refine wk hne hpl T0 T0
 ·have hne:((l.length:Int) != ((1:Nat):Int))=true:=bne_iff_ne.2 hs
  simp only[prt0,rB,ePrt,plc,rawV,eWords,labsV,atsV]at *
  refine wk hne hpl T0 T0
 ·have hne:((l.length:Int) != ((1:Nat):Int))=true:=bne_iff_ne.2 hs
  simp only[prt0,rB,ePrt,plc,rawV,eWords,labsV,atsV]at *
  refine wk hne hpl T0 T0
 ·have hne:((l.length:Int) != ((4:Nat):Int))=true:=bne_iff_ne.2 hs
  simp only[prt0,rB,ePrt,plc,rawV,eWords,labsV,atsV]at *
  refine wk hne hpl T0 T0
 ·have hne:((l.length:Int) != ((4:Nat):Int))=true:=bne_iff_ne.2 hs
  simp only[prt0,rB,ePrt,plc,rawV,eWords,labsV,atsV]at *
  refine wk hne hpl T0 T0
 ·have hne:((l.length:Int) != ((2:Nat):Int))=true:=bne_iff_ne.2 hs
  simp only[prt0,rB,ePrt,plc,rawV,eWords,labsV,atsV]at *
  refine wk hne hpl T0 T0
 ·have hne:((l.length:Int) != ((2:Nat):Int))=true:=bne_iff_ne.2 hs
  simp only[prt0,rB,ePrt,plc,rawV,eWords,labsV,atsV]at *
  refine wk hne hpl T0 T0
 ·exact absurd h hx
end
section
theorem p12_draw (w:Wld)(h:0≤w.draws.next∧w.draws.next<1000000000):ACalls Tryz.prog 62 [.agg (eWld w)] (.tup [.agg (eWld (drawW w)),.one (u32 (drawnW w))]):=by
 refine ACalls.intro (fn:=Tryz.f62) Tryz.func62 rfl rfl (by simp[Tryz.f62]) ?_
 have hq:=p04_take w.draws w.draws.next.toNat (by omega) (by omega)
 rw[show((w.draws.next.toNat+1:Nat):Int)=w.draws.next+1 by omega]at hq
 unfold Tryz.f62
 simp only[eWld,drawW,drawnW,eDraws,eSealeds,eGrams,ePeople,eEvents,eRows,eWords,eLeaks]at *
 refine wk T0 hq T0 T0
theorem p12_seal (w:Wld)(key label:Int)(p:Prt)(h:Small w)(hb:rightB w.box=true):ACalls Tryz.prog 63 [.agg (eWld w),.one (u32 key),.one (u32 label),.agg (ePrt p)] (.tup [.agg (eWld (sealW w key label p).1),.one (u32 (sealW w key label p).2.1),.one (i64 (sealW w key label p).2.2)]):=by
 refine ACalls.intro (fn:=Tryz.f63) Tryz.func63 rfl rfl (by simp[Tryz.f63]) ?_
 have hp:=p11_put label p
 have hd:=p12_draw w h.next
 have hpl:(putP label p).1.length<1000000:=by
  unfold putP;split
  ·rcases label_cases label with rfl|rfl|rfl|rfl|rfl|rfl|rfl|rfl|hh<;>first|(rw[wordsP_none (by assumption)];simp;done)|simp[wordsP]
  ·simp
 have hr:=right_room hb
 have hs:=p07_seal 0 0 w.box (drawnW w) key label (putP label p).1 hr.1 hr.2.1 h.ent hpl
 have e2:sealB w.box (drawnW w) key label (putP label p).1=sealedW w key label p:=rfl
 unfold sealC at hs
 rw[e2]at hs
 unfold Tryz.f63
 by_cases g1:(putP label p).2=0
 ·have g1':((putP label p).2 != 0)=false:=by simp[g1]
  by_cases g2:(sealedW w key label p).2=0
  ·have g2':((sealedW w key label p).2 != 0)=false:=by simp[g2]
   have e:sealW w key label p=({drawW w with box:=(sealedW w key label p).1},drawnW w,0):=by unfold sealW;rw[if_neg (by simp[g1]),if_neg (by simp[g2])]
   rw[e]
   rw[if_pos g2]at hs
   clear e e2 hpl hr
   generalize sealedW w key label p=b at *
   generalize putP label p=pp at *
   generalize drawnW w=dr at *
   simp only[eWld,drawW,eBox,eBoxC,ePrt,eSealeds,eGrams,ePeople,eEvents,eRows,eWords,eLeaks]at *
   refine wk (J2 g1' g2') (J3 hp hd hs) T0 T0
  ·have g2':((sealedW w key label p).2 != 0)=true:=by simp[g2]
   have e:sealW w key label p=(w,0,(sealedW w key label p).2):=by unfold sealW;rw[if_neg (by simp[g1]),if_pos (by simp[g2])]
   rw[e]
   rw[if_neg g2]at hs
   clear e e2 hpl hr
   generalize sealedW w key label p=b at *
   generalize putP label p=pp at *
   generalize drawnW w=dr at *
   simp only[eWld,drawW,eBox,eBoxC,ePrt,eSealeds,eGrams,ePeople,eEvents,eRows,eWords,eLeaks]at *
   refine wk (J2 g1' g2') (J3 hp hd hs) T0 T0
 ·have g1':((putP label p).2 != 0)=true:=by simp[g1]
  have e:sealW w key label p=(w,0,(putP label p).2):=by unfold sealW;rw[if_pos (by simp[g1])]
  rw[e]
  clear e e2 hpl hr hs hd
  generalize putP label p=pp at *
  simp only[eWld,drawW,eBox,eBoxC,ePrt,eSealeds,eGrams,ePeople,eEvents,eRows,eWords,eLeaks]at *
  refine wk g1' hp T0 T0
theorem p12_open (w:Wld)(key label handle:Int)(hb:rightB w.box=true):ACalls Tryz.prog 109 [.agg (eWld w),.one (u32 key),.one (u32 label),.one (u32 handle)] (.tup [.agg (ePrt (openW w key label handle).1),.one (bl (openW w key label handle).2)]):=by
 refine ACalls.intro (fn:=Tryz.f109) Tryz.func109 rfl rfl (by simp[Tryz.f109]) ?_
 have hl:=right_len hb
 have ho:=p07_open w.box key label handle (fun s hs=>by have:=hl.2 s hs;omega)
 rw[←open_eq hb]at ho
 have hol:(openB w.box key label handle).1.length<1000000:=by
  unfold openB
  cases hf:w.box.entries.find? (fun s=>s.handle==handle&&s.key==key&&s.label==label)with
  |none=>simp
  |some s=>have:=hl.2 s (List.mem_of_find?_eq_some hf);simp only;omega
 have hg:=p11_get label (openB w.box key label handle).1 hol
 clear hol hl
 unfold Tryz.f109
 unfold openW
 generalize hB:openB w.box key label handle=b at *
 obtain⟨bl1,b2⟩:=b
 simp only at *
 have hz0:(getP label bl1).2≠0→(getP label bl1).1=prt0:=by unfold getP;split<;>(try split)<;>simp
 generalize getP label bl1=g at *
 obtain⟨g1,g2⟩:=g
 simp only at *
 clear hB hb
 cases b2
 ·rw[if_neg (by simp)]
  simp only[eWld,eBox,ePrt,prt0,eSealeds,eGrams,ePeople,eEvents,eRows,eWords,eLeaks]at *
  refine wk T0 ho T0 T0
 ·by_cases hz:g2=0
  ·have hz':(g2==0)=true:=by simp[hz]
   rw[if_pos ⟨rfl,hz⟩]
   simp only[eWld,eBox,ePrt,prt0,eSealeds,eGrams,ePeople,eEvents,eRows,eWords,eLeaks]at *
   refine wk hz' (J2 ho hg) T0 T0
  ·have hz':(g2==0)=false:=by simp[hz]
   obtain rfl:=hz0 hz
   rw[if_neg (by simp[hz])]
   simp only[eWld,eBox,ePrt,prt0,eSealeds,eGrams,ePeople,eEvents,eRows,eWords,eLeaks]at *
   refine wk hz' (J2 ho hg) T0 T0
end
section
def eFld (f:Fld):List CV:=[u32 f.1,eWords f.2]
def eFlds (l:List Fld):CV:=.row (l.map eFld)
theorem drop_two {l:List Int}{p:Nat}{x y:Int}(hx:l[p]?=some x)(hy:l[p+1]?=some y):l.drop p=x::y::l.drop (p+2):=by
 obtain⟨h1,rfl⟩:=List.getElem?_eq_some_iff.1 hx
 obtain⟨h2,rfl⟩:=List.getElem?_eq_some_iff.1 hy
 rw[List.drop_eq_getElem_cons h1,List.drop_eq_getElem_cons h2]
theorem q02_get (l:List Int):ACalls Tryz.prog 42 [.one (eWords l)] (.tup [.one (eFlds (getF l).1),.one (i64 (getF l).2)]):=by
 refine ACalls.introF (fn:=Tryz.f42) Tryz.func42 rfl rfl (by simp[Tryz.f42]) fun hf=>?_
 have hfw:=fineWords (hf _ (by simp):FineCA (.one (eWords l)))
 have hl:=hfw.1
 have hr:=hfw.2
 clear hf hfw
 unfold Tryz.f42
 simp only[eWords,eFlds]at *
 by_cases h64:(64:Int)<(l.length:Int)
 ·have e:getF l=([],3):=by unfold getF;rw[if_pos (by omega)]
  rw[e]
  refine wk h64 T0 T0 T0
 have hN:l.length≤64:=by omega
 have hg0:getF l=goF 9 [] l:=by unfold getF;rw[if_neg (by omega)]
 refine wk h64 T0 T0 (J2 ?_ T0)
 all_goals ((repeat intro h);refine⟨?_⟩)
 refine AW.fresh 4 4 102 2 (by decide) rfl rfl ?_
 refine AW.loopW (fun n σ=>∃(p:Nat) (acc:List Fld),n=l.length - p∧p≤l.length∧acc.length≤8∧getF l=goF (9 - acc.length) acc (l.drop p)∧σ=⟨87,(upd (upd (upd (fun _=>.junk) 0 (.one (.c (.row (l.map eWord))))) 4 (.one (.own 4 acc.length))) 5 (.one (.c (i64 p)))),(upd (fun _=>none) 4 (some (.rows 102 2 (acc.map eFld))))⟩) (n:=l.length) _ ⟨0,[],rfl,Nat.zero_le _,by simp,by simpa using hg0,rfl⟩ (by exact lz T0) ?_
 rintro n σ ⟨p,acc,rfl,hp,h8,hg,rfl⟩
 obtain⟨q,hq9⟩:∃q,9 - acc.length=q+1:=⟨8 - acc.length,by omega⟩
 rw[hq9]at hg
 by_cases hlt:p<l.length
 ·have hne:(l.drop p).length≠0:=by simp;omega
  obtain⟨x,hx⟩:∃x,l[p]?=some x:=⟨_,List.getElem?_eq_getElem hlt⟩
  have hxr:=hr x (List.mem_of_getElem? hx)
  by_cases ha:acc.length=8
  ·have e:getF l=([],3):=by rw[hg,goF_full hne ha]
   rw[e]
   have ha':((acc.length:Int)==8)=true:=by rw[beq_iff_eq];omega
   refine wk (J2 hlt ha') T0 T0 T0
  ·have ha':((acc.length:Int)==8)=false:=by rw[beq_eq_false_iff_ne];omega
   have hs1:=wrapI (x:=(p:Int)+1) (by omega) (by omega)
   by_cases h1:p+1<l.length
   ·obtain⟨y,hy⟩:∃y,l[p+1]?=some y:=⟨_,List.getElem?_eq_getElem h1⟩
    have hyr:=hr y (List.mem_of_getElem? hy)
    have hdr:=drop_two hx hy
    have h1':¬((l.length:Int)≤(p:Int)+1):=by omega
    have hs2:=wrapI (x:=(p:Int)+2) (by omega) (by omega)
    have hy64:IntKind.i64.wrap y=y:=wrapI (by omega) (by omega)
    have hi1:((p:Int)+1).toNat=p+1:=by omega
    have hst:starts (l.drop p)=decide (1≤x∧x≤255∧y≤16∧(p:Int)+2+y≤(l.length:Int)):=by
     rw[hdr]
     unfold starts
     rw[decide_eq_decide]
     simp
     omega
    by_cases x0:x=0
    ·have e:getF l=([],2):=by rw[hg,goF_bad hne ha (by rw[hst];exact decide_eq_false (by omega))]
     rw[e]
     have x0':(x==0)=true:=by simp[x0]
     refine wk (J7 hlt ha' hs1 h1' hx x0' eWord.eq_1) T0 T0 T0
    ·have x0':(x==0)=false:=by simp[x0]
     by_cases x1:255<x
     ·have e:getF l=([],2):=by rw[hg,goF_bad hne ha (by rw[hst];exact decide_eq_false (by omega))]
      rw[e]
      refine wk (J8 hlt ha' hs1 h1' hx x0' x1 eWord.eq_1) T0 T0 T0
     ·by_cases y1:16<y
      ·have e:getF l=([],2):=by rw[hg,goF_bad hne ha (by rw[hst];exact decide_eq_false (by omega))]
       rw[e]
       refine wk (J9 hlt h1 ha' hs1 h1' hi1 hx hy (J4 x0' x1 y1 eWord.eq_1)) T0 T0 T0
      ·have hs3:=wrapI (x:=(p:Int)+2+y) (by omega) (by omega)
       by_cases y2:(l.length:Int)<(p:Int)+2+y
       ·have e:getF l=([],2):=by rw[hg,goF_bad hne ha (by rw[hst];exact decide_eq_false (by omega))]
        rw[e]
        refine wk (J9 hlt h1 ha' hs1 h1' hi1 hs2 hs3 (J8 hy64 hx hy x0' x1 y1 y2 eWord.eq_1)) T0 T0 T0
       ·obtain⟨Y,rfl⟩:∃Y:Nat,y=Y:=⟨y.toNat,by omega⟩
        have hg2:getF l=goF q (acc++[(x,(l.drop (p+2)).take Y)]) (l.drop (p+2+Y)):=by
         rw[hg,goF_next hne ha (by rw[hst];exact decide_eq_true (by omega))]
         congr 1
         ·rw[hdr];simp[firstF]
         ·rw[hdr];simp[restF,Nat.add_comm 2 Y]
        have hi2:((p:Int)+2).toNat=p+2:=by omega
        have hi3:((p:Int)+2+(Y:Int)).toNat=p+2+Y:=by omega
        have hpt:partOf (l.map eWord) ((p:Int)+2) ((p:Int)+2+(Y:Int))=((l.drop (p+2)).take Y).map eWord:=by
         unfold partOf
         rw[hi2,hi3,show p+2+Y - (p+2)=Y by omega,List.map_take,List.map_drop]
        have hlp:((l.drop (p+2)).take Y).length=Y:=by simp;omega
        refine wkx (J9 hlt h1 ha' hs1 h1' hi1 hs2 hs3 (J9 hy64 hx hy x0' x1 y1 y2 hpt (J2 hlp eWord.eq_1))) T0 T0 (J2 ?_ T0)
        all_goals ((repeat intro h);refine⟨?_⟩)
        refine⟨l.length - (p+2+Y),by omega,_,⟨p+2+Y,acc++[(x,(l.drop (p+2)).take Y)],rfl,by omega,by simp;omega,?_,rfl⟩,?_⟩
        ·rw[hg2];congr 1;simp;omega
        ·simp only[List.map_append,List.map_cons,List.map_nil,eFld,eWords,List.length_append,List.length_cons,List.length_nil]
         have hc:((p+2+Y:Nat):Int)=(p:Int)+2+(Y:Int):=by omega
         exact lz hc
   ·have e:getF l=([],2):=by
     rw[hg,goF_bad hne ha ?_]
     unfold starts
     exact decide_eq_false (by simp;omega)
    rw[e]
    have h1':(l.length:Int)≤(p:Int)+1:=by omega
    refine wk (J4 hlt ha' hs1 h1') T0 T0 T0
 ·have hz:(l.drop p).length=0:=by simp;omega
  rw[goF_end hz]at hg
  rw[hg]
  refine wk hlt T0 T0 T0
end
section
def tagB (t:Int):Bool:=decide (1≤t∧t≤255)
def fldB (f:Fld):Bool:=tagB f.1&&decide ((f.2.length:Int)≤16)
theorem p02_tag (t:Int):ACalls Tryz.prog 159 [.one (u32 t)] (rB (tagB t)):=by
 refine ACalls.intro (fn:=Tryz.f159) Tryz.func159 rfl rfl (by simp[Tryz.f159]) ?_
 unfold Tryz.f159
 simp only[rB]
 refine wk T0 T0 T0 (J3 ?_ ?_ T0)
 all_goals ((repeat intro h);refine⟨?_⟩)
 all_goals (refine rB_eq ?_;simp only[tagB,decide_eq_true_eq,decide_eq_false_iff_not,Bool.false_eq_true,iff_false,false_iff,not_and,not_true_eq_false]at *;omega)
theorem p02_may (f:Fld):ACalls Tryz.prog 154 [.agg (eFld f)] (rB (fldB f)):=by
 refine ACalls.intro (fn:=Tryz.f154) Tryz.func154 rfl rfl (by simp[Tryz.f154]) ?_
 have hq:=p02_tag f.1
 unfold Tryz.f154
 unfold fldB
 generalize tagB f.1=b at *
 simp only[rB,eFld,eWords]at *
 cases b
 ·refine wk T0 hq T0 T0
 ·refine wk T0 hq T0 T0
theorem p02_copied (l:List Int)(h:l.length≤1000000):ACalls Tryz.prog 160 [.one (eWords l)] (.one (.one (eWords l))):=by
 refine ACalls.intro (fn:=Tryz.f160) Tryz.func160 rfl rfl (by simp[Tryz.f160]) ?_
 have h1:List.take l.length (l.map eWord)=l.map eWord:=List.take_of_length_le (by simp)
 have h2:List.drop l.length (List.replicate l.length [u32 0])=[]:=List.drop_of_length_le (by simp)
 unfold Tryz.f160
 simp only[eWords]
 refine wk (J2 h1 h2) T0 T0 T0
theorem p02_one (t:Int)(l:List Int)(h:l.length≤1000000):ACalls Tryz.prog 157 [.one (u32 t),.one (eWords l)] (.one (.agg (eFld (t,l)))):=by
 refine ACalls.intro (fn:=Tryz.f157) Tryz.func157 rfl rfl (by simp[Tryz.f157]) ?_
 have hq:=p02_copied l h
 unfold Tryz.f157
 simp only[eFld,eWords]at *
 refine wk T0 hq T0 T0
theorem flatF_next {F:List Fld}{k:Nat}{x:Fld}(hx:F[k]?=some x):flatF (F.take (k+1))=flatF (F.take k)++wordsF1 x:=by
 rw[List.take_add_one,hx];simp[flatF]
theorem flatF_le {F:List Fld}(h:∀f∈F,f.2.length≤16):(flatF F).length≤18*F.length:=by
 induction F with
 |nil=>simp[flatF_nil]
 |cons f F ih=>
  have h1:=h f (by simp)
  have h2:=ih fun g hg=>h g (by simp[hg])
  rw[flatF_cons]
  simp only[List.length_cons,List.length_append]
  omega
theorem p02_words (F:List Fld)(hl:F.length≤1000)(h:∀f∈F,f.2.length≤16):ACalls Tryz.prog 155 [.one (eFlds F)] (rI ((flatF F).length:Nat)):=by
 refine ACalls.intro (fn:=Tryz.f155) Tryz.func155 rfl rfl (by simp[Tryz.f155]) ?_
 unfold Tryz.f155
 simp only[eFlds,rI]
 refine wk T0 T0 T0 (J2 ?_ T0)
 all_goals ((repeat intro h);refine⟨?_⟩)
 refine AW.loopW (fun n σ=>∃k:Nat,n=F.length - k∧k≤F.length∧σ=⟨20,(upd (upd (upd (upd (fun _=>.junk) 3 (.one (.c (i64 ((flatF (F.take k)).length:Nat))))) 6 (.one (.c (.row (F.map eFld))))) 7 (.one (.c (i64 F.length)))) 8 (.one (.c (i64 k)))),(fun _=>none)⟩) (n:=F.length) _ ⟨0,rfl,Nat.zero_le _,rfl⟩ (by simp only[List.take_zero,flatF_nil,List.length_nil];exact lz T0) ?_
 rintro n σ ⟨k,rfl,hk,rfl⟩
 by_cases hlt:k<F.length
 ·obtain⟨x,hx⟩:∃x,F[k]?=some x:=⟨_,List.getElem?_eq_getElem hlt⟩
  have hs:=wrapI (x:=(k:Int)+1) (by omega) (by omega)
  have hxl:=h x (List.mem_of_getElem? hx)
  have h1:=flatF_le (F:=F.take k) fun f hf=>h f (List.mem_of_mem_take hf)
  rw[List.length_take]at h1
  have hn:=flatF_next hx
  generalize hq:(flatF (F.take k)).length=q at *
  have hs2:=wrapI (x:=2+(x.2.length:Int)) (by omega) (by omega)
  have hs3:=wrapI (x:=(q:Int)+(2+(x.2.length:Int))) (by omega) (by omega)
  refine wk (J7 hx hlt hs hs2 hs3 eFld.eq_1 eWords.eq_1) T0 T0 (J2 ?_ T0)
  all_goals ((repeat intro h);refine⟨?_⟩)
  refine⟨F.length - (k+1),by omega,_,⟨k+1,rfl,by omega,rfl⟩,?_⟩
  have hc:(((flatF (F.take (k+1))).length:Nat):Int)=(q:Int)+(2+(x.2.length:Int)):=by rw[hn];simp[wordsF1,hq];omega
  exact lz hc
 ·obtain rfl:k=F.length:=by omega
  rw[List.take_length]
  refine wk T0 T0 T0 T0
theorem p02_laid (F:List Fld)(hl:F.length≤1000)(h:∀f∈F,f.2.length≤16):ACalls Tryz.prog 156 [.one (eFlds F)] (.one (.one (eWords (flatF F)))):=by
 refine ACalls.intro (fn:=Tryz.f156) Tryz.func156 rfl rfl (by simp[Tryz.f156]) ?_
 have hw:=p02_words F hl h
 have hle:=flatF_le h
 unfold Tryz.f156
 generalize hN:(flatF F).length=N at hw
 simp only[eFlds,eWords,rI]at *
 have hN1:N≤1000000:=by omega
 refine wk T0 hw T0 (J2 ?_ T0)
 all_goals ((repeat intro h);refine⟨?_⟩)
 refine AW.loopW (fun n σ=>∃k:Nat,n=F.length - k∧k≤F.length∧σ=⟨30,(upd (upd (upd (upd (fun _=>.junk) 3 (.one (.own 8 ((flatF (F.take k)).length)))) 9 (.one (.c (.row (F.map eFld))))) 10 (.one (.c (i64 F.length)))) 11 (.one (.c (i64 k)))),(upd (fun _=>none) 8 (some (.rows 22 1 ((flatF (F.take k)).map eWord))))⟩) (n:=F.length) _ ⟨0,rfl,Nat.zero_le _,rfl⟩ (by simp only[List.take_zero,flatF_nil,List.length_nil,List.map_nil];exact lz T0) ?_
 rintro n σ ⟨k,rfl,hk,rfl⟩
 have h1:=flatF_le (F:=F.take k) fun f hf=>h f (List.mem_of_mem_take hf)
 rw[List.length_take]at h1
 by_cases hlt:k<F.length
 ·obtain⟨x,hx⟩:∃x,F[k]?=some x:=⟨_,List.getElem?_eq_getElem hlt⟩
  have hs:=wrapI (x:=(k:Int)+1) (by omega) (by omega)
  have hxl:=h x (List.mem_of_getElem? hx)
  have hn:=flatF_next hx
  have hw32:IntKind.u32.wrap (x.2.length:Int)=(x.2.length:Int):=by rw[IntKind.wrap_u32];omega
  refine wk (J6 hx hlt hs hw32 eFld.eq_1 eWords.eq_1) T0 T0 (J3 ?_ ?_ T0)
  all_goals ((repeat intro h);refine⟨?_⟩)
  all_goals first|(intro us hu;rcases hu with rfl|rfl<;>rfl)|skip
  refine⟨F.length - (k+1),by omega,_,⟨k+1,rfl,by omega,rfl⟩,?_⟩
  rw[hn]
  simp only[wordsF1,eWord,List.map_append,List.map_cons,List.map_nil,List.length_append,List.length_cons,List.length_nil,List.append_assoc,List.cons_append,List.nil_append]
  have hc:(flatF (F.take k)).length+(x.2.length+1+1)=(flatF (F.take k)).length+2+x.2.length:=by omega
  exact lz (J2 hc @List.append_assoc.{0})
 ·obtain rfl:k=F.length:=by omega
  rw[List.take_length]
  refine wk T0 T0 T0 T0
def putWF (F:List Fld):List Int×Int:=if F.all fldB=false then([],2)else if 8<F.length∨64<(flatF F).length then([],3)else(flatF F,0)
theorem allF_next {l:List Fld}{k:Nat}{x:Fld}(ht:(l.take k).all fldB=true)(hx:l[k]?=some x)(hp:fldB x=true):(l.take (k+1)).all fldB=true:=by
 rw[List.take_add_one,hx];simp only[Option.toList_some,List.all_append,ht,List.all_cons,hp,List.all_nil,Bool.and_true]
theorem p02_put (F:List Fld)(hl:F.length≤1000):ACalls Tryz.prog 130 [.one (eFlds F)] (.tup [.one (eWords (putWF F).1),.one (i64 (putWF F).2)]):=by
 refine ACalls.intro (fn:=Tryz.f130) Tryz.func130 rfl rfl (by simp[Tryz.f130]) ?_
 have hm:=p02_may
 unfold Tryz.f130
 simp only[eFlds,eWords,rB]at *
 refine wk T0 T0 T0 (J2 ?_ T0)
 all_goals ((repeat intro h);refine⟨?_⟩)
 refine AW.loopW (fun n σ=>∃k:Nat,n=F.length - k∧k≤F.length∧(F.take k).all fldB=true∧σ=⟨24,(upd (upd (upd (upd (fun _=>.junk) 0 (.one (.c (.row (F.map eFld))))) 6 (.one (.c (.row (F.map eFld))))) 7 (.one (.c (i64 F.length)))) 8 (.one (.c (i64 k)))),(fun _=>none)⟩) (n:=F.length) _ ⟨0,rfl,Nat.zero_le _,rfl,rfl⟩ (by exact lz T0) ?_
 rintro n σ ⟨k,rfl,hk,ht,rfl⟩
 by_cases hlt:k<F.length
 ·obtain⟨x,hx⟩:∃x,F[k]?=some x:=⟨_,List.getElem?_eq_getElem hlt⟩
  have hs:=wrapI (x:=(k:Int)+1) (by omega) (by omega)
  have hq:=hm x
  cases hb:fldB x
  ·rw[hb]at hq
   have e:putWF F=([],2):=by
    unfold putWF
    rw[if_pos]
    rw[List.all_eq_false]
    exact⟨x,List.mem_of_getElem? hx,by simp[hb]⟩
   rw[e]
   simp only[eFld,eWords]at hq
   refine wk (J4 hx hlt eFld.eq_1 eWords.eq_1) hq T0 T0
  ·rw[hb]at hq
   simp only[eFld,eWords]at hq
   refine wk (J5 hx hlt hs eFld.eq_1 eWords.eq_1) hq T0 (J2 ?_ T0)
   all_goals ((repeat intro h);refine⟨?_⟩)
   refine⟨F.length - (k+1),by omega,_,⟨k+1,rfl,by omega,allF_next ht hx hb,rfl⟩,?_⟩
   exact lz T0
 ·obtain rfl:k=F.length:=by omega
  rw[List.take_length]at ht
  have hd:∀f∈F,f.2.length≤16:=fun f hf=>by
   have:=List.all_eq_true.1 ht f hf
   unfold fldB at this
   rw[Bool.and_eq_true,decide_eq_true_eq]at this
   omega
  have hw:=p02_words F hl hd
  have hla:=p02_laid F hl hd
  simp only[eFlds,eWords,rI]at hw hla
  unfold putWF
  rw[ht,if_neg (by decide)]
  by_cases h8:(8:Int)<(F.length:Int)
  ·rw[if_pos (.inl (by omega))]
   refine wk h8 T0 T0 T0
  ·by_cases h64:(64:Int)<(((flatF F).length:Nat):Int)
   ·rw[if_pos (.inr (by omega))]
    refine wk (J2 h8 h64) hw T0 T0
   ·rw[if_neg (by omega)]
    refine wk (J2 h8 h64) (J2 hw hla) T0 T0
end
section
theorem p03_kind (k:Int):ACalls Tryz.prog 151 [.one (u32 k)] (rB (isKindB k)):=by
 refine ACalls.intro (fn:=Tryz.f151) Tryz.func151 rfl rfl (by simp[Tryz.f151]) ?_
 unfold Tryz.f151
 simp only[rB]
 refine wk T0 T0 T0 (J3 ?_ ?_ T0)
 all_goals ((repeat intro h);refine⟨?_⟩)
 all_goals (refine rB_eq ?_;simp only[isKindB,decide_eq_true_eq,decide_eq_false_iff_not,Bool.false_eq_true,iff_false,false_iff,not_and,not_true_eq_false]at *;omega)
theorem p03_has (k t:Int)(hk:isKindB k=true)(ht:2≤t∧t≤7):ACalls Tryz.prog 153 [.one (u32 k),.one (u32 t)] (rB (hasT k t)):=by
 refine ACalls.intro (fn:=Tryz.f153) Tryz.func153 rfl rfl (by simp[Tryz.f153]) ?_
 unfold Tryz.f153
 simp only[rB]
 rcases kinds hk with rfl|rfl|rfl|rfl|rfl|rfl|rfl|rfl|rfl<;>rcases tags ht with rfl|rfl|rfl|rfl|rfl|rfl<;>clear hk ht
 all_goals repeat' (first
  | (refine hK _ _ ?_;clear hK hC;clear K C)
  | (refine hK _ _ rfl ?_;clear hK hC;clear K C)
  | (refine hK _ _ (by simp only[crs,crsI,alfO,alfL,Nat.reduceLT];rfl) ?_;clear hK hC;clear K C)
  | (refine AW.seqR fun K C hK hC=>?_;simp only[go_sem,↓reduceIte,reduceCtorEq,Nat.reduceLT,Nat.reduceEqDiff,Nat.reduceBEq,Nat.reduceAdd,Nat.reduceSub,Nat.reduceMul,Nat.reduceLeDiff,Int.reduceLE,Int.reduceLT,Int.reduceNeg,Int.reduceEq,Int.reduceBEq,Int.reduceBNe,Int.reduceToNat])
  | (refine AW.seqD rfl fun K C hK hC=>?_;simp only[go_sem,↓reduceIte,reduceCtorEq,Nat.reduceLT,Nat.reduceEqDiff,Nat.reduceBEq,Nat.reduceAdd,Nat.reduceSub,Nat.reduceMul,Nat.reduceLeDiff,Int.reduceLE,Int.reduceLT,Int.reduceNeg,Int.reduceEq,Int.reduceBEq,Int.reduceBNe,Int.reduceToNat])
  | (refine AW.reg fun K C hK hC=>?_;simp only[go_sem,↓reduceIte,reduceCtorEq,Nat.reduceLT,Nat.reduceEqDiff,Nat.reduceBEq,Nat.reduceAdd,Nat.reduceSub,Nat.reduceMul,Nat.reduceLeDiff,Int.reduceLE,Int.reduceLT,Int.reduceNeg,Int.reduceEq,Int.reduceBEq,Int.reduceBNe,Int.reduceToNat])
  | (refine AW.regD rfl fun K C hK hC=>?_;simp only[go_sem,↓reduceIte,reduceCtorEq,Nat.reduceLT,Nat.reduceEqDiff,Nat.reduceBEq,Nat.reduceAdd,Nat.reduceSub,Nat.reduceMul,Nat.reduceLeDiff,Int.reduceLE,Int.reduceLT,Int.reduceNeg,Int.reduceEq,Int.reduceBEq,Int.reduceBNe,Int.reduceToNat])
  |refine AW.seqS ?_
  | (refine AW.ret ?_;simp only[go_sem,↓reduceIte,reduceCtorEq,Nat.reduceLT,Nat.reduceEqDiff,Nat.reduceBEq,Nat.reduceAdd,Nat.reduceSub,Nat.reduceMul,Nat.reduceLeDiff,Int.reduceLE,Int.reduceLT,Int.reduceNeg,Int.reduceEq,Int.reduceBEq,Int.reduceBNe,Int.reduceToNat])
  | (refine AW.cond rfl (fun h=>?_) (fun h=>?_)<;>(try simp only[decide_eq_true_eq,decide_eq_false_iff_not,bne_iff_ne,beq_iff_eq,bne_eq_false_iff_eq,beq_eq_false_iff_ne,ne_eq,ge_iff_le,gt_iff_lt,Bool.not_eq_true,Bool.not_eq_false,Bool.not_not,Bool.not_true,Bool.not_false,Int.not_le,Int.not_lt,not_true_eq_false,not_false_eq_true,reduceCtorEq,Bool.false_eq_true,Bool.not_eq_true',Bool.not_eq_false']at h)<;>first|(exfalso;omega)|skip)
  |refine AW.skip ?_
  |refine AW.seq ?_
  |refine AW.block ?_
  | (refine AW.exit ?_;simp only[go_sem,↓reduceIte,reduceCtorEq,Nat.reduceLT,Nat.reduceEqDiff,Nat.reduceBEq,Nat.reduceAdd,Nat.reduceSub,Nat.reduceMul,Nat.reduceLeDiff,Int.reduceLE,Int.reduceLT,Int.reduceNeg,Int.reduceEq,Int.reduceBEq,Int.reduceBNe,Int.reduceToNat])
  | (refine ite_on (fun h=>?_) (fun h=>?_)<;>(try simp only[decide_eq_true_eq,decide_eq_false_iff_not,bne_iff_ne,beq_iff_eq,bne_eq_false_iff_eq,beq_eq_false_iff_ne,ne_eq,ge_iff_le,gt_iff_lt,Bool.not_eq_true,Bool.not_eq_false,Bool.not_not,Bool.not_true,Bool.not_false,Int.not_le,Int.not_lt,not_true_eq_false,not_false_eq_true,reduceCtorEq,Bool.false_eq_true,Bool.not_eq_true',Bool.not_eq_false']at h)<;>first|(exfalso;omega)|skip)
  |rw[thenN]
  |rw[blockN]
  |rw[scopeN]
  |refine AW.scope ?_
  |refine AW.label ?_
  |refine And.intro ?_ ?_
  |refine lcons rfl ?_
  |exact lGram _
  |exact lSeen _
  |exact lWord _
  |exact lSealed _
  |exact lRun _
  |exact lPerson _
  |exact lEvent _
  |exact lLeak _
  |exact lNum _
  |exact lOprn _
  |exact in64 (by omega) (by omega)
  |exact in32 (by omega) (by omega)
  |omega)
 all_goals rfl
def words8 (m:Mssg):List CV:=[u32 0,u32 0,u32 m.run,u32 m.a,u32 m.b,u32 m.nonce,u32 m.box,u32 m.more]
theorem p03_words (m:Mssg):ACalls Tryz.prog 152 [.agg (eMssg m)] (.one (.agg (words8 m))):=by
 refine ACalls.intro (fn:=Tryz.f152) Tryz.func152 rfl rfl (by simp[Tryz.f152]) ?_
 unfold Tryz.f152
 simp only[eMssg,words8]
 refine wk T0 T0 T0 T0
theorem p03_may (m:Mssg):ACalls Tryz.prog 129 [.agg (eMssg m)] (rB (mayM m)):=by
 refine ACalls.intro (fn:=Tryz.f129) Tryz.func129 rfl rfl (by simp[Tryz.f129]) ?_
 have hki:=p03_kind m.kind
 have hwo:=p03_words m
 unfold Tryz.f129
 simp only[rB,eMssg,words8]at *
 by_cases hk:isKindB m.kind=true
 ·rw[hk]at hki
  refine wk T0 (J2 hki hwo) T0 (J2 ?_ T0)
  all_goals ((repeat intro h);refine⟨?_⟩)
  refine AW.loopW (fun n σ=>∃k:Nat,n=6 - k∧k≤6∧(∀j:Int,2≤j→j<2+(k:Int)→fitsM m j=true)∧σ=⟨26,(upd (upd (upd (fun _=>.junk) 1 (.one (.ptr 1 0))) 3 (.one (.ptr 3 0))) 4 (.one (.c (u32 (2+(k:Int)))))),(upd (upd (fun _=>none) 1 (some (.box ((eMssg m).map .c)))) 3 (some (.box ((words8 m).map .c))))⟩) (n:=6) _ ⟨0,rfl,Nat.zero_le _,fun j h1 h2=>by omega,rfl⟩ (by simp only[eMssg,words8,List.map_cons,List.map_nil];exact lz T0) ?_
  rintro n σ ⟨k,rfl,hk6,ht,rfl⟩
  simp only[eMssg,words8,List.map_cons,List.map_nil]
  by_cases hlt:k<6
  ·have hq:=p03_has m.kind (2+(k:Int)) hk ⟨by omega,by omega⟩
   have hle:2+(k:Int)≤7:=by omega
   have hs:IntKind.u32.wrap (2+(k:Int)+1)=2+((k+1:Nat):Int):=by rw[IntKind.wrap_u32];omega
   have hfit:(hasT m.kind (2+(k:Int))=true∨m.word (2+(k:Int))=0)→∀j:Int,2≤j→j<2+((k+1:Nat):Int)→fitsM m j=true:=fun h j h1 h2=>by
    refine fits_step ht ?_ j h1 (by omega)
    rcases h with h|h
    ·exact fits_has h
    ·exact fits_zero h
   have hno:hasT m.kind (2+(k:Int))=false→m.word (2+(k:Int))≠0→mayM m=false:=fun h h0=>mayM_no ⟨by omega,hle⟩ (fits_not h h0)
   simp only[rB]at hq
   have hk5:k=0∨k=1∨k=2∨k=3∨k=4∨k=5:=by omega
   have htn:(2+(k:Int)).toNat=k+2:=by omega
   have hcell:[A.c (u32 m.run),A.c (u32 m.a),A.c (u32 m.b),A.c (u32 m.nonce),A.c (u32 m.box),A.c (u32 m.more)][k]?=some (A.c (u32 (m.word (2+(k:Int))))):=by
    rcases hk5 with rfl|rfl|rfl|rfl|rfl|rfl<;>rfl
   cases hh:hasT m.kind (2+(k:Int))
   ·rw[hh]at hq
    by_cases hz:m.word (2+(k:Int))=0
    ·have hz':(m.word (2+(k:Int)) != 0)=false:=by simp[hz]
     refine wkx (J5 hle hs hz' htn hcell) hq T0 (J2 ?_ T0)
     all_goals ((repeat intro h);refine⟨?_⟩)
     refine⟨6 - (k+1),by omega,_,⟨k+1,rfl,by omega,hfit (.inr hz),rfl⟩,?_⟩
     try simp only[eMssg,words8,List.map_cons,List.map_nil]
     exact lz T0
    ·rw[hno hh hz]
     have hz':(m.word (2+(k:Int)) != 0)=true:=by simp[hz]
     refine wkx (J5 hle hs hz' htn hcell) hq T0 T0
   ·rw[hh]at hq
    refine wk (J2 hle hs) hq T0 (J2 ?_ T0)
    all_goals ((repeat intro h);refine⟨?_⟩)
    refine⟨6 - (k+1),by omega,_,⟨k+1,rfl,by omega,hfit (.inl hh),rfl⟩,?_⟩
    try simp only[eMssg,words8,List.map_cons,List.map_nil]
    exact lz T0
  ·obtain rfl:k=6:=by omega
   rw[mayM_yes hk fun t h1 h2=>ht t h1 (by omega)]
   have hle:¬(2+((6:Nat):Int)≤7):=by omega
   refine wk hle T0 T0 T0
 ·have hk':isKindB m.kind=false:=by simpa using hk
  rw[hk']at hki
  rw[mayM_noKind hk']
  refine wk T0 hki T0 T0
theorem p03_fields (m:Mssg)(hk:isKindB m.kind=true):ACalls Tryz.prog 131 [.agg (eMssg m)] (.one (.one (eFlds (fieldsM m)))):=by
 refine ACalls.intro (fn:=Tryz.f131) Tryz.func131 rfl rfl (by simp[Tryz.f131]) ?_
 have hwo:=p03_words m
 have h1:=p02_one 1 [m.kind] (by simp)
 rw[←uptoM_end]
 unfold Tryz.f131
 simp only[rB,eMssg,words8,eFlds,eFld,eWords,eWord,List.map_cons,List.map_nil]at *
 refine wk T0 (J2 hwo h1) T0 (J2 ?_ T0)
 all_goals ((repeat intro h);refine⟨?_⟩)
 refine AW.loopW (fun n σ=>∃k:Nat,n=6 - k∧k≤6∧σ=⟨31,(upd (upd (upd (upd (fun _=>.junk) 1 (.one (.ptr 1 0))) 3 (.one (.own 10 ((uptoM m (2+(k:Int))).length)))) 4 (.one (.ptr 4 0))) 5 (.one (.c (u32 (2+(k:Int)))))),(upd (upd (upd (fun _=>none) 1 (some (.box ((eMssg m).map .c)))) 4 (some (.box ((words8 m).map .c)))) 10 (some (.rows 102 2 ((uptoM m (2+(k:Int))).map eFld))))⟩) (n:=6) _ ⟨0,rfl,Nat.zero_le _,rfl⟩ (by rw[show(2+((0:Nat):Int))=2 from rfl,uptoM_two];simp only[eMssg,words8,eFld,eWords,eWord,List.map_cons,List.map_nil];exact lz T0) ?_
 rintro n σ ⟨k,rfl,hk6,rfl⟩
 simp only[eMssg,words8,List.map_cons,List.map_nil]
 have hul:(uptoM m (2+(k:Int))).length≤6:=by
  unfold uptoM
  have h2:=List.length_filter_le (fun s=>decide (s<2+(k:Int))) (kindTags m.kind)
  have h3:=kindTags_len m.kind
  simp only[List.length_cons,List.length_map]
  omega
 by_cases hlt:k<6
 ·have hq:=p03_has m.kind (2+(k:Int)) hk ⟨by omega,by omega⟩
  have hon:=p02_one (2+(k:Int)) [m.word (2+(k:Int))] (by simp)
  have hs:IntKind.u32.wrap (2+(k:Int)+1)=2+((k+1:Nat):Int):=by rw[IntKind.wrap_u32];omega
  have hst:=uptoM_step m (t:=2+(k:Int)) ⟨by omega,by omega⟩
  rw[show 2+(k:Int)+1=2+((k+1:Nat):Int) by omega]at hst
  simp only[rB,eFld,eWords,eWord,List.map_cons,List.map_nil]at hq hon
  have hle:2+(k:Int)≤7:=by omega
  have hk5:k=0∨k=1∨k=2∨k=3∨k=4∨k=5:=by omega
  have htn:(2+(k:Int)).toNat=k+2:=by omega
  have hcell:[A.c (u32 m.run),A.c (u32 m.a),A.c (u32 m.b),A.c (u32 m.nonce),A.c (u32 m.box),A.c (u32 m.more)][k]?=some (A.c (u32 (m.word (2+(k:Int))))):=by
   rcases hk5 with rfl|rfl|rfl|rfl|rfl|rfl<;>rfl
  generalize hU:uptoM m (2+(k:Int))=U at *
  cases hh:hasT m.kind (2+(k:Int))
  ·rw[hh]at hq hst
   rw[if_neg (by decide)]at hst
   refine wk (J2 hle hs) hq T0 (J2 ?_ T0)
   all_goals ((repeat intro h);refine⟨?_⟩)
   refine⟨6 - (k+1),by omega,_,⟨k+1,rfl,by omega,rfl⟩,?_⟩
   rw[hst]
   try simp only[eMssg,words8,List.map_cons,List.map_nil]
   exact lz T0
  ·rw[hh]at hq hst
   rw[if_pos rfl]at hst
   refine wkx (J4 hle hs htn hcell) (J2 hq hon) T0 (J2 ?_ T0)
   all_goals ((repeat intro h);refine⟨?_⟩)
   refine⟨6 - (k+1),by omega,_,⟨k+1,rfl,by omega,rfl⟩,?_⟩
   rw[hst]
   simp only[eMssg,words8,eFld,eWords,eWord,List.map_append,List.length_append,List.map_cons,List.map_nil,List.length_cons,List.length_nil]
   exact lz T0
 ·obtain rfl:k=6:=by omega
  have hle:¬(2+((6:Nat):Int)≤7):=by omega
  refine wk hle T0 T0 (J2 ?_ T0)
  all_goals ((repeat intro h);refine⟨?_⟩)
  all_goals rfl
theorem putWF_fields (m:M7):putWF (fieldsM m)=(putM m,0):=by
 have h1:(fieldsM m).all fldB=true:=by
  rw[List.all_eq_true]
  intro f hf
  obtain⟨a,b,c⟩:=okF_fieldsM m f hf
  unfold fldB tagB
  rw[decide_eq_true ⟨a,b⟩,decide_eq_true (by omega)]
  rfl
 have h2:=fieldsM_len m
 have h3:=putM_length m
 have h4:=kindTags_len m.kind
 unfold putWF
 rw[h1,if_neg (by decide),if_neg]
 ·rfl
 ·show¬(8<(fieldsM m).length∨64<(putM m).length)
  omega
theorem p03_put (m:Mssg):ACalls Tryz.prog 102 [.agg (eMssg m)] (.tup [.one (eWords (putL m)),.one (i64 (putE m))]):=by
 refine ACalls.intro (fn:=Tryz.f102) Tryz.func102 rfl rfl (by simp[Tryz.f102]) ?_
 have hm:=p03_may m
 unfold Tryz.f102
 cases hk:mayM m
 ·rw[hk]at hm
  rw[show putL m=[] by unfold putL;rw[if_neg (by rw[hk];decide)],show putE m=1 by unfold putE;rw[if_neg (by rw[hk];decide)]]
  simp only[rB,eMssg,eWords]at *
  refine wk T0 hm T0 T0
 ·rw[hk]at hm
  rw[show putL m=putM m by unfold putL;rw[if_pos hk],show putE m=0 by unfold putE;rw[if_pos hk]]
  have hf:=p03_fields m (mayM_kind hk)
  have hp:=p02_put (fieldsM m) (by have:=fieldsM_len m;omega)
  rw[putWF_fields]at hp
  generalize fieldsM m=F at *
  generalize putM m=l at *
  simp only[rB,eMssg,eWords,eFlds]at *
  refine wk T0 (J3 hm hf hp) T0 T0
end
section
theorem lib_grow_events (n:Int)(h0:0≤n)(hn:n≤1000000):ACalls Tryz.prog 149 [.nil,.one (i64 n)] (.own 61 10 []):=by
 refine ACalls.intro (fn:=Tryz.f149) Tryz.func149 rfl rfl (by simp[Tryz.f149]) ?_
 have w0:IntKind.i64.wrap 0=0:=by decide
 have w1:IntKind.i64.wrap n=n:=wrapI (by omega) (by omega)
 obtain⟨N,rfl⟩:∃N:Nat,n=N:=⟨n.toNat,by omega⟩
 unfold Tryz.f149
 simp only[]
 refine wk (J4 @Int.sub_self @Int.sub_zero w0 w1) T0 T0 T0
theorem lib_concat_events (j:Nat)(ls:List (List Event))(hk:ls.length≤1000000)(hl:ls.flatten.length≤1000000):ACalls Tryz.prog 127 [.one (.row (ls.map fun l=>[.rowc j (l.map eEvent)]))] (.own 61 10 (ls.flatten.map eEvent)):=by
 refine ACalls.intro (fn:=Tryz.f127) Tryz.func127 rfl rfl (by simp[Tryz.f127]) ?_
 unfold Tryz.f127
 simp only[]
 have hstep:∀{k:Nat} {x:List Event},ls[k]?=some x→(ls.take (k+1)).flatten=(ls.take k).flatten++x:=fun {k x} hx=>by
  rw[List.take_add_one,hx];simp
 have hle:∀k,(ls.take k).flatten.length≤ls.flatten.length:=fun k=>by
  have:=congrArg (fun l=>l.flatten.length) (List.take_append_drop k ls)
  simp only[List.flatten_append,List.length_append]at this
  omega
 refine wk T0 T0 T0 (J2 ?_ T0)
 all_goals ((repeat intro h);refine⟨?_⟩)
 refine AW.loopW (fun n σ=>∃k:Nat,n=ls.length - k∧k≤ls.length∧σ=⟨36,upd (upd (upd (upd (upd (fun _=>.junk) 11 (.one (.c (i64 k)))) 10 (.one (.c (i64 ls.length)))) 9 (.one (.c (.row (ls.map fun l=>[.rowc j (l.map eEvent)]))))) 3 (.one (.c (i64 ((ls.take k).flatten.length:Nat))))) 0 (.one (.c (.row (ls.map fun l=>[.rowc j (l.map eEvent)])))),fun _=>none⟩) (n:=ls.length) _ ⟨0,rfl,Nat.zero_le _,rfl⟩ (by exact lz T0) ?_
 rintro n σ ⟨k,rfl,hkl,rfl⟩
 by_cases hlt:k<ls.length
 ·obtain⟨x,hx⟩:∃x,ls[k]?=some x:=⟨_,List.getElem?_eq_getElem hlt⟩
  have h1:=hle (k+1)
  have hst:=hstep hx
  rw[hst,List.length_append]at h1
  have hs:=wrapI (x:=(k:Int)+1) (by omega) (by omega)
  have hs2:=wrapI (x:=((ls.take k).flatten.length:Int)+(x.length:Int)) (by omega) (by omega)
  generalize hq:(ls.take k).flatten.length=q at hs2 h1
  refine wk (J5 hx hlt hs hs2 eEvents.eq_1) T0 T0 (J2 ?_ T0)
  all_goals ((repeat intro h);refine⟨?_⟩)
  refine⟨ls.length - (k+1),by omega,_,⟨k+1,rfl,by omega,rfl⟩,?_⟩
  rw[hst,List.length_append,hq]
  have hc:((q+x.length:Nat):Int)=(q:Int)+(x.length:Int):=by omega
  exact lz hc
 ·obtain rfl:k=ls.length:=by omega
  rw[List.take_length]
  generalize hq:ls.flatten.length=q at hl hle
  have gw:=lib_grow_events q (by omega) (by omega)
  refine wk T0 gw T0 (J2 ?_ T0)
  all_goals ((repeat intro h);refine⟨?_⟩)
  refine AW.loopW (fun n σ=>∃k:Nat,n=ls.length - k∧k≤ls.length∧σ=⟨36,upd (upd (upd (upd (fun _=>.junk) 27 (.one (.c (i64 k)))) 26 (.one (.c (i64 ls.length)))) 25 (.one (.c (.row (ls.map fun l=>[.rowc j (l.map eEvent)]))))) 6 (.one (.own 24 (ls.take k).flatten.length)),upd (fun _=>none) 24 (some (.rows 61 10 ((ls.take k).flatten.map eEvent)))⟩) (n:=ls.length) _ ⟨0,rfl,Nat.zero_le _,rfl⟩ (by exact lz T0) ?_
  rintro n σ ⟨k,rfl,hkl,rfl⟩
  by_cases hlt:k<ls.length
  ·obtain⟨x,hx⟩:∃x,ls[k]?=some x:=⟨_,List.getElem?_eq_getElem hlt⟩
   have h1:=hle (k+1)
   have hst:=hstep hx
   rw[hst,List.length_append]at h1
   have hs:=wrapI (x:=(k:Int)+1) (by omega) (by omega)
   refine wk (J4 hx hlt hs eEvents.eq_1) T0 T0 (J2 ?_ T0)
   all_goals ((repeat intro h);refine⟨?_⟩)
   refine⟨ls.length - (k+1),by omega,_,⟨k+1,rfl,by omega,rfl⟩,?_⟩
   rw[hst]
   simp only[List.length_append,List.map_append]
   exact lz T0
  ·obtain rfl:k=ls.length:=by omega
   rw[List.take_length]
   refine wk T0 T0 T0 T0
theorem p12_send (w:Wld)(to:Int)(m:Mssg)(hn:rightN w.net=true)(h1:w.net.grams.length<1000000)(h2:w.net.seen.length<1000000):ACalls Tryz.prog 67 [.agg (eWld w),.one (u32 to),.agg (eMssg m)] (.tup [.agg (eWld (sendW w to m).1),.one (i64 (sendW w to m).2)]):=by
 refine ACalls.intro (fn:=Tryz.f67) Tryz.func67 rfl rfl (by simp[Tryz.f67]) ?_
 have hr:0≤w.net.room:=by have:0≤w.net.room∧w.net.room≤64∧(w.net.grams.length:Int)≤w.net.room:=of_decide_eq_true hn;exact this.1
 have hp:=p03_put m
 have hs:=p06_send w.net ⟨to,putL m⟩ h1 h2 hr
 clear hr hn
 unfold Tryz.f67
 unfold sendW
 generalize putL m=l at *
 by_cases g:putE m=0
 ·have g':(putE m != 0)=false:=by simp[g]
  rw[if_neg (by simp[g])]
  by_cases g2:(sendN w.net ⟨to,l⟩).2=0
  ·obtain⟨n,e⟩:∃n:Net,sendN w.net ⟨to,l⟩=(n,0):=⟨_,Prod.ext rfl g2⟩
   rw[e]at hs
   rw[e]
   clear e g2
   generalize putE m=e at *
   simp only[eWld,eNet,eGram,eMssg,eSealeds,eGrams,ePeople,eEvents,eRows,eWords,eLeaks]at *
   refine wk g' (J2 hp hs) T0 T0
  ·obtain⟨q,hq,e⟩:∃q:Int,q≠0∧sendN w.net ⟨to,l⟩=(w.net,q):=⟨_,g2,Prod.ext (by revert g2;unfold sendN;split<;>simp) rfl⟩
   have g2':(q != 0)=true:=by simp[hq]
   rw[e]at hs
   rw[e]
   clear e g2
   generalize putE m=e at *
   simp only[eWld,eNet,eGram,eMssg,eSealeds,eGrams,ePeople,eEvents,eRows,eWords,eLeaks]at *
   refine wk (J2 g' g2') (J2 hp hs) T0 T0
 ·have g':(putE m != 0)=true:=by simp[g]
  rw[if_pos g]
  generalize putE m=e at *
  simp only[eWld,eNet,eGram,eMssg,eSealeds,eGrams,ePeople,eEvents,eRows,eWords,eLeaks]at *
  refine wk g' hp T0 T0
theorem p12_log (w:Wld)(e:Event)(h:w.log.length<1000000):ACalls Tryz.prog 100 [.agg (eWld w),.agg (eEvent e)] (.one (.agg (eWld (logW w e)))):=by
 refine ACalls.intro (fn:=Tryz.f100) Tryz.func100 rfl rfl (by simp[Tryz.f100]) ?_
 have hc:=lib_concat_events 0 [w.log,[e]] (by simp) (by simp;omega)
 simp only[List.map_cons,List.map_nil,List.flatten_cons,List.flatten_nil,List.append_nil,List.map_append,eEvent.eq_1 e]at hc
 unfold Tryz.f100
 simp only[eWld,logW,eEvent.eq_1 e,eSealeds,eGrams,ePeople,eEvents,eRows,eWords,eLeaks]at *
 refine wk T0 hc T0 (J2 ?_ T0)
 all_goals ((repeat intro h);refine⟨?_⟩)
 simp[eEvent]
theorem p12_room (w:Wld)(b f:Int)(h1:rightB w.box=true)(h2:rightN w.net=true):ACalls Tryz.prog 93 [.agg (eWld w),.one (i64 b),.one (i64 f)] (rB (roomW w b f)):=by
 refine ACalls.intro (fn:=Tryz.f93) Tryz.func93 rfl rfl (by simp[Tryz.f93]) ?_
 have g1:=right_room h1
 have g2:0≤w.net.room∧w.net.room≤64∧(w.net.grams.length:Int)≤w.net.room:=of_decide_eq_true h2
 have r1:=p07_free 0 w.box g1.1 g1.2.1 (by omega)
 have r2:=p06_free w.net
 rw[wrapI (x:=w.net.room - (w.net.grams.length:Int)) (by omega) (by omega)]at r2
 unfold Tryz.f93
 simp only[eWld,eBox,eBoxC,eNet,rB,rI,eSealeds,eGrams,ePeople,eEvents,eRows,eWords,eLeaks]at *
 refine wk T0 (J2 r1 r2) T0 (J3 ?_ ?_ T0)
 all_goals ((repeat intro h);refine⟨?_⟩)
 all_goals (refine rB_eq ?_;simp only[roomW,decide_eq_true_eq,decide_eq_false_iff_not,Bool.false_eq_true,iff_false,false_iff,not_and,not_true_eq_false]at *;omega)
def PShort (p:Person):Prop:=p.used.length≤1000000∧p.runs.length≤1000000
theorem p12_apart (p:Person)(h:PShort p):ACalls Tryz.prog 60 [.agg (ePerson p)] (.one (.agg (ePerson p))):=by
 refine ACalls.intro (fn:=Tryz.f60) Tryz.func60 rfl rfl (by simp[Tryz.f60]) ?_
 have c1:=lib_clone_words 0 p.used h.1
 have c2:=lib_clone_runs 0 p.runs h.2
 unfold Tryz.f60
 simp only[ePerson,eWords,eRuns]at *
 refine wk T0 (J2 c1 c2) T0 T0
theorem p12_person (w:Wld)(n:Int)(h:PShort (personW w n))(hp:rightPl w.people=true):ACalls Tryz.prog 22 [.agg (eWld w),.one (u32 n)] (.one (.agg (ePerson (personW w n)))):=by
 refine ACalls.intro (fn:=Tryz.f22) Tryz.func22 rfl rfl (by simp[Tryz.f22]) ?_
 have hg:=p10_get w.people n hp
 have ha:=p12_apart (personW w n) h
 unfold personW at *
 unfold Tryz.f22
 generalize getPl w.people n=g at *
 simp only[eWld,ePerson,eSealeds,eGrams,ePeople,eEvents,eRows,eWords,eLeaks,eRuns]at *
 refine wk T0 (J2 hg ha) T0 T0
theorem p12_with (w:Wld)(p:Person)(h:PShort p)(hp:rightPl w.people=true):ACalls Tryz.prog 101 [.agg (eWld w),.agg (ePerson p)] (.one (.agg (eWld (withW w p)))):=by
 refine ACalls.intro (fn:=Tryz.f101) Tryz.func101 rfl rfl (by simp[Tryz.f101]) ?_
 have hg:=p10_set 0 w.people p hp
 have ha:=p12_apart p h
 unfold Tryz.f101
 unfold withW
 unfold setPC at hg
 generalize setPl w.people p=g at *
 by_cases hz:g.2=0
 ·rw[if_pos hz]at hg
  rw[if_pos hz]
  simp only[eWld,ePerson.eq_1 p,eSealeds,eGrams,ePeople,eEvents,eRows,eWords,eLeaks,eRuns]at *
  refine wk T0 (J2 ha hg) T0 T0
 ·rw[if_neg hz]at hg
  rw[if_neg hz]
  simp only[eWld,ePerson.eq_1 p,eSealeds,eGrams,ePeople,eEvents,eRows,eWords,eLeaks,eRuns]at *
  refine wk T0 (J2 ha hg) T0 T0
end
end Go.Proofs.YtaoijgapnmmpoaaGreatDoor.Abs
section
namespace Go.Proofs.YtaoijgapnmmpoaaGreatDoor.Abs
end Go.Proofs.YtaoijgapnmmpoaaGreatDoor.Abs
end
namespace Go.Proofs.YtaoijgapnmmpoaaGreatDoor.Abs
open Go.RowKit
section
def fewT (w:Wld):Bool:=fewB w.box&&(fewN w.net&&(fewPl w.people&&decide ((w.regs.length:Int)≤10∧(w.log.length:Int)≤300∧(w.leaks.length:Int)≤300∧(w.draws.list.length:Int)≤1000)))
def fewW (w:Wld):Bool:=decide (∀l∈w.regs.take 20,(l.length:Int)≤100)&&fewT w
theorem q12_few (w : Wld) : ACalls Tryz.prog 19 [.agg (eWld w)] (rB (fewW w)) := by
  refine ACalls.introF (fn := Tryz.f19) Tryz.func19 rfl rfl (by simp [Tryz.f19]) fun hf => ?_
  have hl : w.regs.length ≤ 9223372036854775807 := Fine.rowC (f := eSeen) (k := 0) ((hf (.agg (eWld w)) (by simp) : FineCA (.agg (eWld w))) (eRows w.regs) (by simp [eWld]))
  clear hf
  have r1 := q07_few w.box
  have r2 := q06_few w.net
  have r3 := q10_few w.people
  unfold Tryz.f19
  simp only [eWld, eBox, eNet, eSealeds, eGrams, ePeople, eEvents, eRows, eWords, eLeaks, rB] at *
  have no : (∃ l ∈ w.regs.take 20, 100 < (l.length : Int)) → fewW w = false := by
    rintro ⟨p, hp, hb⟩
    unfold fewW
    rw [decide_eq_false (fun h => by have := h p hp; omega), Bool.false_and]
  have ok : (∀ l ∈ w.regs.take 20, (l.length : Int) ≤ 100) → fewW w = fewT w := fun h => by unfold fewW; rw [decide_eq_true h, Bool.true_and]
  refine wk T0 T0 T0 (J2 ?_ T0)
  all_goals ((repeat intro h); refine ⟨?_⟩)
  refine AW.loopW (fun n σ => ∃ k : Nat, n = w.regs.length - k ∧ k ≤ w.regs.length ∧ k ≤ 20 ∧ (∀ p ∈ w.regs.take k, (p.length : Int) ≤ 100) ∧ σ = ⟨60, (upd (upd (fun _ => .junk) 1 (.one (.ptr 1 0))) 3 (.one (.c (i64 k)))), (upd (fun _ => none) 1 (some (.box ((eWld w).map .c))))⟩) (n := w.regs.length) _ ⟨0, rfl, Nat.zero_le _, by decide, by simp, rfl⟩ (by simp only [eWld, eSealeds, eGrams, ePeople, eEvents, eRows, eWords, eLeaks, List.map_cons, List.map_nil]; exact lz T0) ?_
  rintro n σ ⟨k, rfl, hk, hk2, ha, rfl⟩
  simp only [eWld, eSealeds, eGrams, ePeople, eEvents, eRows, eWords, eLeaks, List.map_cons, List.map_nil]
  by_cases hlt : k < w.regs.length
  · obtain ⟨x, hx⟩ : ∃ x, w.regs[k]? = some x := ⟨_, List.getElem?_eq_getElem hlt⟩
    have hs := wrapI (x := (k : Int) + 1) (by omega) (by omega)
    have hli : (k : Int) < (w.regs.length : Int) := by omega
    by_cases h20 : k < 20
    · have h20' : (k : Int) < 20 := by omega
      have hmem : x ∈ w.regs.take 20 := List.mem_iff_getElem?.2 ⟨k, by rw [List.getElem?_take, if_pos h20, hx]⟩
      by_cases h1 : 100 < (x.length : Int)
      · rw [no ⟨x, hmem, h1⟩]
        refine wk (J7 hx hlt hli h20' h1 eSeen.eq_1 eWords.eq_1) T0 T0 T0
      · refine wk (J8 hx hlt hli h20' h1 hs eSeen.eq_1 eWords.eq_1) T0 T0 (J2 ?_ T0)
        all_goals ((repeat intro h); refine ⟨?_⟩)
        refine ⟨w.regs.length - (k + 1), by omega, _, ⟨k + 1, rfl, by omega, by omega, fun p hp => ?_, rfl⟩, ?_⟩
        · rw [List.take_add_one, hx] at hp
          simp only [Option.toList_some, List.mem_append, List.mem_singleton] at hp
          rcases hp with hp | rfl
          · exact ha p hp
          · omega
        · try simp only [eWld, eSealeds, eGrams, ePeople, eEvents, eRows, eWords, eLeaks, List.map_cons, List.map_nil]
          exact lz T0
    · obtain rfl : k = 20 := by omega
      rw [ok ha]
      unfold fewT
      clear ok no ha
      generalize fewB w.box = b1 at *
      generalize fewN w.net = b2 at *
      generalize fewPl w.people = b3 at *
      cases b1 <;> cases b2 <;> cases b3
      all_goals repeat' (first
    | (refine hC ?_ ?_ ?_ ?_ ?_
       rotate_left
       · rfl
       · simp only [go_sem, ↓reduceIte, reduceCtorEq, Nat.reduceLT, Nat.reduceEqDiff, Nat.reduceBEq, Nat.reduceAdd, Nat.reduceSub, Nat.reduceMul, Nat.reduceLeDiff, Int.reduceLE, Int.reduceLT, Int.reduceNeg, Int.reduceEq, Int.reduceBEq, Int.reduceBNe, Int.reduceToNat, hx, hlt, hli]
       · simp only [go_sem, ↓reduceIte, reduceCtorEq, Nat.reduceLT, Nat.reduceEqDiff, Nat.reduceBEq, Nat.reduceAdd, Nat.reduceSub, Nat.reduceMul, Nat.reduceLeDiff, Int.reduceLE, Int.reduceLT, Int.reduceNeg, Int.reduceEq, Int.reduceBEq, Int.reduceBNe, Int.reduceToNat, hx, hlt, hli]
         first | (refine And.intro ?_ ?_; exact r1; first | exact trivial | (simp only [go_sem, ↓reduceIte, reduceCtorEq, Nat.reduceLT, Nat.reduceEqDiff, Nat.reduceBEq, Nat.reduceAdd, Nat.reduceSub, Nat.reduceMul, Nat.reduceLeDiff, Int.reduceLE, Int.reduceLT, Int.reduceNeg, Int.reduceEq, Int.reduceBEq, Int.reduceBNe, Int.reduceToNat, hx, hlt, hli]; done)) | (refine And.intro (ACalls.args (k := ?_) ?_ ?_) ?_; rotate_left; exact r1; repeat' (first | exact trivial | exact Or.inl ⟨rfl, rfl⟩ | exact Or.inr rfl | apply And.intro))
       simp only [go_sem, ↓reduceIte, reduceCtorEq, Nat.reduceLT, Nat.reduceEqDiff, Nat.reduceBEq, Nat.reduceAdd, Nat.reduceSub, Nat.reduceMul, Nat.reduceLeDiff, Int.reduceLE, Int.reduceLT, Int.reduceNeg, Int.reduceEq, Int.reduceBEq, Int.reduceBNe, Int.reduceToNat, hx, hlt, hli])
    | (refine hC ?_ ?_ ?_ ?_ ?_
       rotate_left
       · rfl
       · simp only [go_sem, ↓reduceIte, reduceCtorEq, Nat.reduceLT, Nat.reduceEqDiff, Nat.reduceBEq, Nat.reduceAdd, Nat.reduceSub, Nat.reduceMul, Nat.reduceLeDiff, Int.reduceLE, Int.reduceLT, Int.reduceNeg, Int.reduceEq, Int.reduceBEq, Int.reduceBNe, Int.reduceToNat, hx, hlt, hli]
       · simp only [go_sem, ↓reduceIte, reduceCtorEq, Nat.reduceLT, Nat.reduceEqDiff, Nat.reduceBEq, Nat.reduceAdd, Nat.reduceSub, Nat.reduceMul, Nat.reduceLeDiff, Int.reduceLE, Int.reduceLT, Int.reduceNeg, Int.reduceEq, Int.reduceBEq, Int.reduceBNe, Int.reduceToNat, hx, hlt, hli]
         first | (refine And.intro ?_ ?_; exact r2; first | exact trivial | (simp only [go_sem, ↓reduceIte, reduceCtorEq, Nat.reduceLT, Nat.reduceEqDiff, Nat.reduceBEq, Nat.reduceAdd, Nat.reduceSub, Nat.reduceMul, Nat.reduceLeDiff, Int.reduceLE, Int.reduceLT, Int.reduceNeg, Int.reduceEq, Int.reduceBEq, Int.reduceBNe, Int.reduceToNat, hx, hlt, hli]; done)) | (refine And.intro (ACalls.args (k := ?_) ?_ ?_) ?_; rotate_left; exact r2; repeat' (first | exact trivial | exact Or.inl ⟨rfl, rfl⟩ | exact Or.inr rfl | apply And.intro))
       simp only [go_sem, ↓reduceIte, reduceCtorEq, Nat.reduceLT, Nat.reduceEqDiff, Nat.reduceBEq, Nat.reduceAdd, Nat.reduceSub, Nat.reduceMul, Nat.reduceLeDiff, Int.reduceLE, Int.reduceLT, Int.reduceNeg, Int.reduceEq, Int.reduceBEq, Int.reduceBNe, Int.reduceToNat, hx, hlt, hli])
    | (refine hC ?_ ?_ ?_ ?_ ?_
       rotate_left
       · rfl
       · simp only [go_sem, ↓reduceIte, reduceCtorEq, Nat.reduceLT, Nat.reduceEqDiff, Nat.reduceBEq, Nat.reduceAdd, Nat.reduceSub, Nat.reduceMul, Nat.reduceLeDiff, Int.reduceLE, Int.reduceLT, Int.reduceNeg, Int.reduceEq, Int.reduceBEq, Int.reduceBNe, Int.reduceToNat, hx, hlt, hli]
       · simp only [go_sem, ↓reduceIte, reduceCtorEq, Nat.reduceLT, Nat.reduceEqDiff, Nat.reduceBEq, Nat.reduceAdd, Nat.reduceSub, Nat.reduceMul, Nat.reduceLeDiff, Int.reduceLE, Int.reduceLT, Int.reduceNeg, Int.reduceEq, Int.reduceBEq, Int.reduceBNe, Int.reduceToNat, hx, hlt, hli]
         first | (refine And.intro ?_ ?_; exact r3; first | exact trivial | (simp only [go_sem, ↓reduceIte, reduceCtorEq, Nat.reduceLT, Nat.reduceEqDiff, Nat.reduceBEq, Nat.reduceAdd, Nat.reduceSub, Nat.reduceMul, Nat.reduceLeDiff, Int.reduceLE, Int.reduceLT, Int.reduceNeg, Int.reduceEq, Int.reduceBEq, Int.reduceBNe, Int.reduceToNat, hx, hlt, hli]; done)) | (refine And.intro (ACalls.args (k := ?_) ?_ ?_) ?_; rotate_left; exact r3; repeat' (first | exact trivial | exact Or.inl ⟨rfl, rfl⟩ | exact Or.inr rfl | apply And.intro))
       simp only [go_sem, ↓reduceIte, reduceCtorEq, Nat.reduceLT, Nat.reduceEqDiff, Nat.reduceBEq, Nat.reduceAdd, Nat.reduceSub, Nat.reduceMul, Nat.reduceLeDiff, Int.reduceLE, Int.reduceLT, Int.reduceNeg, Int.reduceEq, Int.reduceBEq, Int.reduceBNe, Int.reduceToNat, hx, hlt, hli])
    | (refine hK _ _ ?_; clear hK hC; clear K C)
    | (refine hK _ _ rfl ?_; clear hK hC; clear K C)
    | (refine hK _ _ (by simp only [crs, crsI, alfO, alfL, Nat.reduceLT]; rfl) ?_; clear hK hC; clear K C)
    | (refine AW.seqR fun K C hK hC => ?_; simp only [go_sem, ↓reduceIte, reduceCtorEq, Nat.reduceLT, Nat.reduceEqDiff, Nat.reduceBEq, Nat.reduceAdd, Nat.reduceSub, Nat.reduceMul, Nat.reduceLeDiff, Int.reduceLE, Int.reduceLT, Int.reduceNeg, Int.reduceEq, Int.reduceBEq, Int.reduceBNe, Int.reduceToNat, hx, hlt, hli])
    | (refine AW.seqD rfl fun K C hK hC => ?_; simp only [go_sem, ↓reduceIte, reduceCtorEq, Nat.reduceLT, Nat.reduceEqDiff, Nat.reduceBEq, Nat.reduceAdd, Nat.reduceSub, Nat.reduceMul, Nat.reduceLeDiff, Int.reduceLE, Int.reduceLT, Int.reduceNeg, Int.reduceEq, Int.reduceBEq, Int.reduceBNe, Int.reduceToNat, hx, hlt, hli])
    | (refine AW.reg fun K C hK hC => ?_; simp only [go_sem, ↓reduceIte, reduceCtorEq, Nat.reduceLT, Nat.reduceEqDiff, Nat.reduceBEq, Nat.reduceAdd, Nat.reduceSub, Nat.reduceMul, Nat.reduceLeDiff, Int.reduceLE, Int.reduceLT, Int.reduceNeg, Int.reduceEq, Int.reduceBEq, Int.reduceBNe, Int.reduceToNat, hx, hlt, hli])
    | (refine AW.regD rfl fun K C hK hC => ?_; simp only [go_sem, ↓reduceIte, reduceCtorEq, Nat.reduceLT, Nat.reduceEqDiff, Nat.reduceBEq, Nat.reduceAdd, Nat.reduceSub, Nat.reduceMul, Nat.reduceLeDiff, Int.reduceLE, Int.reduceLT, Int.reduceNeg, Int.reduceEq, Int.reduceBEq, Int.reduceBNe, Int.reduceToNat, hx, hlt, hli])
    | refine AW.seqS ?_
    | (refine AW.ret ?_; simp only [go_sem, ↓reduceIte, reduceCtorEq, Nat.reduceLT, Nat.reduceEqDiff, Nat.reduceBEq, Nat.reduceAdd, Nat.reduceSub, Nat.reduceMul, Nat.reduceLeDiff, Int.reduceLE, Int.reduceLT, Int.reduceNeg, Int.reduceEq, Int.reduceBEq, Int.reduceBNe, Int.reduceToNat, hx, hlt, hli])
    | (refine AW.cond rfl (fun h => ?_) (fun h => ?_) <;> (try simp only [decide_eq_true_eq, decide_eq_false_iff_not, bne_iff_ne, beq_iff_eq, bne_eq_false_iff_eq, beq_eq_false_iff_ne, ne_eq, ge_iff_le, gt_iff_lt, Bool.not_eq_true, Bool.not_eq_false, Bool.not_not, Bool.not_true, Bool.not_false, Int.not_le, Int.not_lt, not_true_eq_false, not_false_eq_true, reduceCtorEq, Bool.false_eq_true, Bool.not_eq_true', Bool.not_eq_false'] at h) <;> first | (exfalso; omega) | skip)
    | refine AW.skip ?_
    | refine AW.seq ?_
    | refine AW.block ?_
    | (refine AW.exit ?_; simp only [go_sem, ↓reduceIte, reduceCtorEq, Nat.reduceLT, Nat.reduceEqDiff, Nat.reduceBEq, Nat.reduceAdd, Nat.reduceSub, Nat.reduceMul, Nat.reduceLeDiff, Int.reduceLE, Int.reduceLT, Int.reduceNeg, Int.reduceEq, Int.reduceBEq, Int.reduceBNe, Int.reduceToNat, hx, hlt, hli])
    | (refine ite_on (fun h => ?_) (fun h => ?_) <;> (try simp only [decide_eq_true_eq, decide_eq_false_iff_not, bne_iff_ne, beq_iff_eq, bne_eq_false_iff_eq, beq_eq_false_iff_ne, ne_eq, ge_iff_le, gt_iff_lt, Bool.not_eq_true, Bool.not_eq_false, Bool.not_not, Bool.not_true, Bool.not_false, Int.not_le, Int.not_lt, not_true_eq_false, not_false_eq_true, reduceCtorEq, Bool.false_eq_true, Bool.not_eq_true', Bool.not_eq_false'] at h) <;> first | (exfalso; omega) | skip)
    | rw [thenN]
    | rw [blockN]
    | rw [scopeN]
    | refine AW.scope ?_
    | refine AW.label ?_
    | refine And.intro ?_ ?_
    | refine lcons rfl ?_
    | exact lGram _
    | exact lSeen _
    | exact lWord _
    | exact lSealed _
    | exact lRun _
    | exact lPerson _
    | exact lEvent _
    | exact lLeak _
    | exact lNum _
    | exact lOprn _
    | exact in64 (by omega) (by omega)
    | exact in32 (by omega) (by omega)
    | omega)
      all_goals (refine rB_eq ?_; simp only [Bool.true_and, decide_eq_true_eq, decide_eq_false_iff_not, Bool.false_eq_true, iff_false, false_iff, not_and, not_true_eq_false] at *; omega)
  · have hA : ∀ p ∈ w.regs.take 20, (p.length : Int) ≤ 100 := fun p hp => ha p (by rw [List.take_of_length_le (by omega)]; exact List.mem_of_mem_take hp)
    obtain rfl : k = w.regs.length := by omega
    rw [ok hA]
    unfold fewT
    clear ok no ha hA
    generalize fewB w.box = b1 at *
    generalize fewN w.net = b2 at *
    generalize fewPl w.people = b3 at *
    cases b1 <;> cases b2 <;> cases b3
    all_goals repeat' (first
    | (refine hC ?_ ?_ ?_ ?_ ?_
       rotate_left
       · rfl
       · simp only [go_sem, ↓reduceIte, reduceCtorEq, Nat.reduceLT, Nat.reduceEqDiff, Nat.reduceBEq, Nat.reduceAdd, Nat.reduceSub, Nat.reduceMul, Nat.reduceLeDiff, Int.reduceLE, Int.reduceLT, Int.reduceNeg, Int.reduceEq, Int.reduceBEq, Int.reduceBNe, Int.reduceToNat]
       · simp only [go_sem, ↓reduceIte, reduceCtorEq, Nat.reduceLT, Nat.reduceEqDiff, Nat.reduceBEq, Nat.reduceAdd, Nat.reduceSub, Nat.reduceMul, Nat.reduceLeDiff, Int.reduceLE, Int.reduceLT, Int.reduceNeg, Int.reduceEq, Int.reduceBEq, Int.reduceBNe, Int.reduceToNat]
         first | (refine And.intro ?_ ?_; exact r1; first | exact trivial | (simp only [go_sem, ↓reduceIte, reduceCtorEq, Nat.reduceLT, Nat.reduceEqDiff, Nat.reduceBEq, Nat.reduceAdd, Nat.reduceSub, Nat.reduceMul, Nat.reduceLeDiff, Int.reduceLE, Int.reduceLT, Int.reduceNeg, Int.reduceEq, Int.reduceBEq, Int.reduceBNe, Int.reduceToNat]; done)) | (refine And.intro (ACalls.args (k := ?_) ?_ ?_) ?_; rotate_left; exact r1; repeat' (first | exact trivial | exact Or.inl ⟨rfl, rfl⟩ | exact Or.inr rfl | apply And.intro))
       simp only [go_sem, ↓reduceIte, reduceCtorEq, Nat.reduceLT, Nat.reduceEqDiff, Nat.reduceBEq, Nat.reduceAdd, Nat.reduceSub, Nat.reduceMul, Nat.reduceLeDiff, Int.reduceLE, Int.reduceLT, Int.reduceNeg, Int.reduceEq, Int.reduceBEq, Int.reduceBNe, Int.reduceToNat])
    | (refine hC ?_ ?_ ?_ ?_ ?_
       rotate_left
       · rfl
       · simp only [go_sem, ↓reduceIte, reduceCtorEq, Nat.reduceLT, Nat.reduceEqDiff, Nat.reduceBEq, Nat.reduceAdd, Nat.reduceSub, Nat.reduceMul, Nat.reduceLeDiff, Int.reduceLE, Int.reduceLT, Int.reduceNeg, Int.reduceEq, Int.reduceBEq, Int.reduceBNe, Int.reduceToNat]
       · simp only [go_sem, ↓reduceIte, reduceCtorEq, Nat.reduceLT, Nat.reduceEqDiff, Nat.reduceBEq, Nat.reduceAdd, Nat.reduceSub, Nat.reduceMul, Nat.reduceLeDiff, Int.reduceLE, Int.reduceLT, Int.reduceNeg, Int.reduceEq, Int.reduceBEq, Int.reduceBNe, Int.reduceToNat]
         first | (refine And.intro ?_ ?_; exact r2; first | exact trivial | (simp only [go_sem, ↓reduceIte, reduceCtorEq, Nat.reduceLT, Nat.reduceEqDiff, Nat.reduceBEq, Nat.reduceAdd, Nat.reduceSub, Nat.reduceMul, Nat.reduceLeDiff, Int.reduceLE, Int.reduceLT, Int.reduceNeg, Int.reduceEq, Int.reduceBEq, Int.reduceBNe, Int.reduceToNat]; done)) | (refine And.intro (ACalls.args (k := ?_) ?_ ?_) ?_; rotate_left; exact r2; repeat' (first | exact trivial | exact Or.inl ⟨rfl, rfl⟩ | exact Or.inr rfl | apply And.intro))
       simp only [go_sem, ↓reduceIte, reduceCtorEq, Nat.reduceLT, Nat.reduceEqDiff, Nat.reduceBEq, Nat.reduceAdd, Nat.reduceSub, Nat.reduceMul, Nat.reduceLeDiff, Int.reduceLE, Int.reduceLT, Int.reduceNeg, Int.reduceEq, Int.reduceBEq, Int.reduceBNe, Int.reduceToNat])
    | (refine hC ?_ ?_ ?_ ?_ ?_
       rotate_left
       · rfl
       · simp only [go_sem, ↓reduceIte, reduceCtorEq, Nat.reduceLT, Nat.reduceEqDiff, Nat.reduceBEq, Nat.reduceAdd, Nat.reduceSub, Nat.reduceMul, Nat.reduceLeDiff, Int.reduceLE, Int.reduceLT, Int.reduceNeg, Int.reduceEq, Int.reduceBEq, Int.reduceBNe, Int.reduceToNat]
       · simp only [go_sem, ↓reduceIte, reduceCtorEq, Nat.reduceLT, Nat.reduceEqDiff, Nat.reduceBEq, Nat.reduceAdd, Nat.reduceSub, Nat.reduceMul, Nat.reduceLeDiff, Int.reduceLE, Int.reduceLT, Int.reduceNeg, Int.reduceEq, Int.reduceBEq, Int.reduceBNe, Int.reduceToNat]
         first | (refine And.intro ?_ ?_; exact r3; first | exact trivial | (simp only [go_sem, ↓reduceIte, reduceCtorEq, Nat.reduceLT, Nat.reduceEqDiff, Nat.reduceBEq, Nat.reduceAdd, Nat.reduceSub, Nat.reduceMul, Nat.reduceLeDiff, Int.reduceLE, Int.reduceLT, Int.reduceNeg, Int.reduceEq, Int.reduceBEq, Int.reduceBNe, Int.reduceToNat]; done)) | (refine And.intro (ACalls.args (k := ?_) ?_ ?_) ?_; rotate_left; exact r3; repeat' (first | exact trivial | exact Or.inl ⟨rfl, rfl⟩ | exact Or.inr rfl | apply And.intro))
       simp only [go_sem, ↓reduceIte, reduceCtorEq, Nat.reduceLT, Nat.reduceEqDiff, Nat.reduceBEq, Nat.reduceAdd, Nat.reduceSub, Nat.reduceMul, Nat.reduceLeDiff, Int.reduceLE, Int.reduceLT, Int.reduceNeg, Int.reduceEq, Int.reduceBEq, Int.reduceBNe, Int.reduceToNat])
    | (refine hK _ _ ?_; clear hK hC; clear K C)
    | (refine hK _ _ rfl ?_; clear hK hC; clear K C)
    | (refine hK _ _ (by simp only [crs, crsI, alfO, alfL, Nat.reduceLT]; rfl) ?_; clear hK hC; clear K C)
    | (refine AW.seqR fun K C hK hC => ?_; simp only [go_sem, ↓reduceIte, reduceCtorEq, Nat.reduceLT, Nat.reduceEqDiff, Nat.reduceBEq, Nat.reduceAdd, Nat.reduceSub, Nat.reduceMul, Nat.reduceLeDiff, Int.reduceLE, Int.reduceLT, Int.reduceNeg, Int.reduceEq, Int.reduceBEq, Int.reduceBNe, Int.reduceToNat])
    | (refine AW.seqD rfl fun K C hK hC => ?_; simp only [go_sem, ↓reduceIte, reduceCtorEq, Nat.reduceLT, Nat.reduceEqDiff, Nat.reduceBEq, Nat.reduceAdd, Nat.reduceSub, Nat.reduceMul, Nat.reduceLeDiff, Int.reduceLE, Int.reduceLT, Int.reduceNeg, Int.reduceEq, Int.reduceBEq, Int.reduceBNe, Int.reduceToNat])
    | (refine AW.reg fun K C hK hC => ?_; simp only [go_sem, ↓reduceIte, reduceCtorEq, Nat.reduceLT, Nat.reduceEqDiff, Nat.reduceBEq, Nat.reduceAdd, Nat.reduceSub, Nat.reduceMul, Nat.reduceLeDiff, Int.reduceLE, Int.reduceLT, Int.reduceNeg, Int.reduceEq, Int.reduceBEq, Int.reduceBNe, Int.reduceToNat])
    | (refine AW.regD rfl fun K C hK hC => ?_; simp only [go_sem, ↓reduceIte, reduceCtorEq, Nat.reduceLT, Nat.reduceEqDiff, Nat.reduceBEq, Nat.reduceAdd, Nat.reduceSub, Nat.reduceMul, Nat.reduceLeDiff, Int.reduceLE, Int.reduceLT, Int.reduceNeg, Int.reduceEq, Int.reduceBEq, Int.reduceBNe, Int.reduceToNat])
    | refine AW.seqS ?_
    | (refine AW.ret ?_; simp only [go_sem, ↓reduceIte, reduceCtorEq, Nat.reduceLT, Nat.reduceEqDiff, Nat.reduceBEq, Nat.reduceAdd, Nat.reduceSub, Nat.reduceMul, Nat.reduceLeDiff, Int.reduceLE, Int.reduceLT, Int.reduceNeg, Int.reduceEq, Int.reduceBEq, Int.reduceBNe, Int.reduceToNat])
    | (refine AW.cond rfl (fun h => ?_) (fun h => ?_) <;> (try simp only [decide_eq_true_eq, decide_eq_false_iff_not, bne_iff_ne, beq_iff_eq, bne_eq_false_iff_eq, beq_eq_false_iff_ne, ne_eq, ge_iff_le, gt_iff_lt, Bool.not_eq_true, Bool.not_eq_false, Bool.not_not, Bool.not_true, Bool.not_false, Int.not_le, Int.not_lt, not_true_eq_false, not_false_eq_true, reduceCtorEq, Bool.false_eq_true, Bool.not_eq_true', Bool.not_eq_false'] at h) <;> first | (exfalso; omega) | skip)
    | refine AW.skip ?_
    | refine AW.seq ?_
    | refine AW.block ?_
    | (refine AW.exit ?_; simp only [go_sem, ↓reduceIte, reduceCtorEq, Nat.reduceLT, Nat.reduceEqDiff, Nat.reduceBEq, Nat.reduceAdd, Nat.reduceSub, Nat.reduceMul, Nat.reduceLeDiff, Int.reduceLE, Int.reduceLT, Int.reduceNeg, Int.reduceEq, Int.reduceBEq, Int.reduceBNe, Int.reduceToNat])
    | (refine ite_on (fun h => ?_) (fun h => ?_) <;> (try simp only [decide_eq_true_eq, decide_eq_false_iff_not, bne_iff_ne, beq_iff_eq, bne_eq_false_iff_eq, beq_eq_false_iff_ne, ne_eq, ge_iff_le, gt_iff_lt, Bool.not_eq_true, Bool.not_eq_false, Bool.not_not, Bool.not_true, Bool.not_false, Int.not_le, Int.not_lt, not_true_eq_false, not_false_eq_true, reduceCtorEq, Bool.false_eq_true, Bool.not_eq_true', Bool.not_eq_false'] at h) <;> first | (exfalso; omega) | skip)
    | rw [thenN]
    | rw [blockN]
    | rw [scopeN]
    | refine AW.scope ?_
    | refine AW.label ?_
    | refine And.intro ?_ ?_
    | refine lcons rfl ?_
    | exact lGram _
    | exact lSeen _
    | exact lWord _
    | exact lSealed _
    | exact lRun _
    | exact lPerson _
    | exact lEvent _
    | exact lLeak _
    | exact lNum _
    | exact lOprn _
    | exact in64 (by omega) (by omega)
    | exact in32 (by omega) (by omega)
    | omega)
    all_goals (refine rB_eq ?_; simp only [Bool.true_and, decide_eq_true_eq, decide_eq_false_iff_not, Bool.false_eq_true, iff_false, false_iff, not_and, not_true_eq_false] at *; omega)
end
end Go.Proofs.YtaoijgapnmmpoaaGreatDoor.Abs
