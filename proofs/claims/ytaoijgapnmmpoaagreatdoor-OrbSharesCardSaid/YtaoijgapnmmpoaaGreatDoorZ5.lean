/- Texts that were merged: Q12, Q06, Q07, Q07b, Q07c, Q08, EqRun, Q09, Q10, Q12c, Q12f, Q04, MsgM, Q03. -/
import Derived.Test.YtaoijgapnmmpoaaGreatDoorZ4
set_option linter.unusedSimpArgs false
set_option linter.unusedVariables false
set_option maxHeartbeats 32000000
set_option maxRecDepth 100000
namespace Go.Proofs.YtaoijgapnmmpoaaGreatDoor.Abs
open Go.RowKit
section
theorem eqr_conf (a0 a1 a2 a3 a4 a5 a6 b0 b1 b2 b3 b4 b5 b6:Int)(w:World):(Op.equal 24 (.agg #[.int .u32 a0,.int .i64 a1,.int .i64 a2,.int .i64 a3,.int .i64 a4,.int .i64 a5,.int .i64 a6]) (.agg #[.int .u32 b0,.int .i64 b1,.int .i64 b2,.int .i64 b3,.int .i64 b4,.int .i64 b5,.int .i64 b6])).run Tryz.prog w=.ok ((a0==b0)&&((a1==b1)&&((a2==b2)&&((a3==b3)&&((a4==b4)&&((a5==b5)&&((a6==b6)))))))) w:=by
 show(Op.equalIn 10000 24 (.agg #[.int .u32 a0,.int .i64 a1,.int .i64 a2,.int .i64 a3,.int .i64 a4,.int .i64 a5,.int .i64 a6]) (.agg #[.int .u32 b0,.int .i64 b1,.int .i64 b2,.int .i64 b3,.int .i64 b4,.int .i64 b5,.int .i64 b6])).run Tryz.prog w=_
 cases h0:(a0==b0)with
 |false=>go_simp<;>simp[h0]
 |true=>
  cases h1:(a1==b1)with
  |false=>go_simp<;>simp[h0,h1]
  |true=>
   cases h2:(a2==b2)with
   |false=>go_simp<;>simp[h0,h1,h2]
   |true=>
    cases h3:(a3==b3)with
    |false=>go_simp<;>simp[h0,h1,h2,h3]
    |true=>
     cases h4:(a4==b4)with
     |false=>go_simp<;>simp[h0,h1,h2,h3,h4]
     |true=>
      cases h5:(a5==b5)with
      |false=>go_simp<;>simp[h0,h1,h2,h3,h4,h5]
      |true=>
       cases h6:(a6==b6)with
       |false=>go_simp<;>simp[h0,h1,h2,h3,h4,h5,h6]
       |true=>
        go_simp<;>simp[h0,h1,h2,h3,h4,h5,h6]
theorem eqok_conf:EqOK Tryz.prog 24 [some (some .u32),some (some .i64),some (some .i64),some (some .i64),some (some .i64),some (some .i64),some (some .i64)]:=by
 refine⟨by kernel_rfl,fun us0 vs0 w p0 q0=>?_⟩
 obtain⟨a0,us1,rfl,p1⟩:=sh_int p0
 obtain⟨b0,vs1,rfl,q1⟩:=sh_int q0
 obtain⟨a1,us2,rfl,p2⟩:=sh_int p1
 obtain⟨b1,vs2,rfl,q2⟩:=sh_int q1
 obtain⟨a2,us3,rfl,p3⟩:=sh_int p2
 obtain⟨b2,vs3,rfl,q3⟩:=sh_int q2
 obtain⟨a3,us4,rfl,p4⟩:=sh_int p3
 obtain⟨b3,vs4,rfl,q4⟩:=sh_int q3
 obtain⟨a4,us5,rfl,p5⟩:=sh_int p4
 obtain⟨b4,vs5,rfl,q5⟩:=sh_int q4
 obtain⟨a5,us6,rfl,p6⟩:=sh_int p5
 obtain⟨b5,vs6,rfl,q6⟩:=sh_int q5
 obtain⟨a6,us7,rfl,p7⟩:=sh_int p6
 obtain⟨b6,vs7,rfl,q7⟩:=sh_int q6
 obtain rfl:=sh_nil p7
 obtain rfl:=sh_nil q7
 rw[eqr_conf]
 simp[eqVs,eqV]
theorem eqr_event (a0 a1 a2 a3 a4 a5 a6 a7 a8 a9 b0 b1 b2 b3 b4 b5 b6 b7 b8 b9:Int)(w:World):(Op.equal 61 (.agg #[.int .i64 a0,.int .i64 a1,.int .i64 a2,.int .u32 a3,.int .u32 a4,.int .u32 a5,.int .u32 a6,.int .u32 a7,.int .u32 a8,.int .u32 a9]) (.agg #[.int .i64 b0,.int .i64 b1,.int .i64 b2,.int .u32 b3,.int .u32 b4,.int .u32 b5,.int .u32 b6,.int .u32 b7,.int .u32 b8,.int .u32 b9])).run Tryz.prog w=.ok ((a0==b0)&&((a1==b1)&&((a2==b2)&&((a3==b3)&&((a4==b4)&&((a5==b5)&&((a6==b6)&&((a7==b7)&&((a8==b8)&&((a9==b9))))))))))) w:=by
 show(Op.equalIn 10000 61 (.agg #[.int .i64 a0,.int .i64 a1,.int .i64 a2,.int .u32 a3,.int .u32 a4,.int .u32 a5,.int .u32 a6,.int .u32 a7,.int .u32 a8,.int .u32 a9]) (.agg #[.int .i64 b0,.int .i64 b1,.int .i64 b2,.int .u32 b3,.int .u32 b4,.int .u32 b5,.int .u32 b6,.int .u32 b7,.int .u32 b8,.int .u32 b9])).run Tryz.prog w=_
 cases h0:(a0==b0)with
 |false=>go_simp<;>simp[h0]
 |true=>
  cases h1:(a1==b1)with
  |false=>go_simp<;>simp[h0,h1]
  |true=>
   cases h2:(a2==b2)with
   |false=>go_simp<;>simp[h0,h1,h2]
   |true=>
    cases h3:(a3==b3)with
    |false=>go_simp<;>simp[h0,h1,h2,h3]
    |true=>
     cases h4:(a4==b4)with
     |false=>go_simp<;>simp[h0,h1,h2,h3,h4]
     |true=>
      cases h5:(a5==b5)with
      |false=>go_simp<;>simp[h0,h1,h2,h3,h4,h5]
      |true=>
       cases h6:(a6==b6)with
       |false=>go_simp<;>simp[h0,h1,h2,h3,h4,h5,h6]
       |true=>
        cases h7:(a7==b7)with
        |false=>go_simp<;>simp[h0,h1,h2,h3,h4,h5,h6,h7]
        |true=>
         cases h8:(a8==b8)with
         |false=>go_simp<;>simp[h0,h1,h2,h3,h4,h5,h6,h7,h8]
         |true=>
          cases h9:(a9==b9)with
          |false=>go_simp<;>simp[h0,h1,h2,h3,h4,h5,h6,h7,h8,h9]
          |true=>
           go_simp<;>simp[h0,h1,h2,h3,h4,h5,h6,h7,h8,h9]
theorem eqok_event:EqOK Tryz.prog 61 [some (some .i64),some (some .i64),some (some .i64),some (some .u32),some (some .u32),some (some .u32),some (some .u32),some (some .u32),some (some .u32),some (some .u32)]:=by
 refine⟨by kernel_rfl,fun us0 vs0 w p0 q0=>?_⟩
 obtain⟨a0,us1,rfl,p1⟩:=sh_int p0
 obtain⟨b0,vs1,rfl,q1⟩:=sh_int q0
 obtain⟨a1,us2,rfl,p2⟩:=sh_int p1
 obtain⟨b1,vs2,rfl,q2⟩:=sh_int q1
 obtain⟨a2,us3,rfl,p3⟩:=sh_int p2
 obtain⟨b2,vs3,rfl,q3⟩:=sh_int q2
 obtain⟨a3,us4,rfl,p4⟩:=sh_int p3
 obtain⟨b3,vs4,rfl,q4⟩:=sh_int q3
 obtain⟨a4,us5,rfl,p5⟩:=sh_int p4
 obtain⟨b4,vs5,rfl,q5⟩:=sh_int q4
 obtain⟨a5,us6,rfl,p6⟩:=sh_int p5
 obtain⟨b5,vs6,rfl,q6⟩:=sh_int q5
 obtain⟨a6,us7,rfl,p7⟩:=sh_int p6
 obtain⟨b6,vs7,rfl,q7⟩:=sh_int q6
 obtain⟨a7,us8,rfl,p8⟩:=sh_int p7
 obtain⟨b7,vs8,rfl,q8⟩:=sh_int q7
 obtain⟨a8,us9,rfl,p9⟩:=sh_int p8
 obtain⟨b8,vs9,rfl,q9⟩:=sh_int q8
 obtain⟨a9,us10,rfl,p10⟩:=sh_int p9
 obtain⟨b9,vs10,rfl,q10⟩:=sh_int q9
 obtain rfl:=sh_nil p10
 obtain rfl:=sh_nil q10
 rw[eqr_event]
 simp[eqVs,eqV]
theorem eqr_leak (a0 a1 b0 b1:Int)(w:World):(Op.equal 92 (.agg #[.int .u32 a0,.int .u32 a1]) (.agg #[.int .u32 b0,.int .u32 b1])).run Tryz.prog w=.ok ((a0==b0)&&((a1==b1))) w:=by
 show(Op.equalIn 10000 92 (.agg #[.int .u32 a0,.int .u32 a1]) (.agg #[.int .u32 b0,.int .u32 b1])).run Tryz.prog w=_
 cases h0:(a0==b0)with
 |false=>go_simp<;>simp[h0]
 |true=>
  cases h1:(a1==b1)with
  |false=>go_simp<;>simp[h0,h1]
  |true=>
   go_simp<;>simp[h0,h1]
theorem eqok_leak:EqOK Tryz.prog 92 [some (some .u32),some (some .u32)]:=by
 refine⟨by kernel_rfl,fun us0 vs0 w p0 q0=>?_⟩
 obtain⟨a0,us1,rfl,p1⟩:=sh_int p0
 obtain⟨b0,vs1,rfl,q1⟩:=sh_int q0
 obtain⟨a1,us2,rfl,p2⟩:=sh_int p1
 obtain⟨b1,vs2,rfl,q2⟩:=sh_int q1
 obtain rfl:=sh_nil p2
 obtain rfl:=sh_nil q2
 rw[eqr_leak]
 simp[eqVs,eqV]
def eqConfB (x y:Conf):Bool:=x.window==y.window&&(x.people==y.people&&(x.box==y.box&&(x.used==y.used&&(x.runs==y.runs&&(x.net==y.net&&x.regs==y.regs)))))
theorem eqConfB_dec (x y:Conf):eqConfB x y=decide (x=y):=by
 obtain⟨x1,x2,x3,x4,x5,x6,x7⟩:=x
 obtain⟨y1,y2,y3,y4,y5,y6,y7⟩:=y
 rw[Bool.eq_iff_iff]
 simp[eqConfB]
def eqEventB (x y:Event):Bool:=x.kind==y.kind&&(x.proto==y.proto&&(x.role==y.role&&(x.a==y.a&&(x.b==y.b&&(x.k==y.k&&(x.t==y.t&&(x.m==y.m&&(x.n==y.n&&x.clock==y.clock))))))))
theorem eqEventB_dec (x y:Event):eqEventB x y=decide (x=y):=by
 obtain⟨x1,x2,x3,x4,x5,x6,x7,x8,x9,x10⟩:=x
 obtain⟨y1,y2,y3,y4,y5,y6,y7,y8,y9,y10⟩:=y
 rw[Bool.eq_iff_iff]
 simp[eqEventB]
def eqLeakB (x y:Leak):Bool:=x.k==y.k&&x.at_==y.at_
theorem eqLeakB_dec (x y:Leak):eqLeakB x y=decide (x=y):=by
 obtain⟨x1,x2⟩:=x
 obtain⟨y1,y2⟩:=y
 rw[Bool.eq_iff_iff]
 simp[eqLeakB]
theorem q12_events (l m:List Event):ACalls Tryz.prog 36 [.one (eEvents l),.one (eEvents m)] (rB (decide (l=m))):=by
 refine ACalls.introF (fn:=Tryz.f36) Tryz.func36 rfl rfl (by simp[Tryz.f36]) fun hf=>?_
 have hl:=Fine.rowC (hf _ (by simp):FineCA (.one (eEvents l)))
 clear hf
 unfold Tryz.f36
 simp only[eEvents]
 by_cases hlen:l.length=m.length
 ·have hli:(l.length:Int)=(m.length:Int):=by omega
  refine wkx hli T0 T0 (J2 ?_ T0)
  all_goals ((repeat intro h);refine⟨?_⟩)
  refine AW.loopW (fun n σ=>∃k:Nat,n=l.length - k∧k≤l.length∧l.take k=m.take k∧σ=⟨26,(upd (upd (upd (fun _=>.junk) 0 (.one (.c (.row (l.map eEvent))))) 1 (.one (.c (.row (m.map eEvent))))) 5 (.one (.c (i64 k)))),(fun _=>none)⟩) (n:=l.length) _ ⟨0,rfl,Nat.zero_le _,rfl,rfl⟩ (by exact lz T0) ?_
  rintro n σ ⟨k,rfl,hk,ht,rfl⟩
  by_cases hlt:k<l.length
  ·obtain⟨x,hx⟩:∃x,l[k]?=some x:=⟨_,List.getElem?_eq_getElem hlt⟩
   obtain⟨y,hy⟩:∃y,m[k]?=some y:=⟨_,List.getElem?_eq_getElem (by omega)⟩
   have hlt2:k<m.length:=by omega
   have hs:=wrapI (x:=(k:Int)+1) (by omega) (by omega)
   have heq:=eqok_event
   have hd0:=eqEventB_dec x y
   by_cases hxy:x=y
   ·subst hxy
    refine wkx (J7 hx hy hlt hlt2 hs heq eEvent.eq_1) T0 T0 (J2 ?_ T0)
    all_goals ((repeat intro h);refine⟨?_⟩)
    refine⟨l.length - (k+1),by omega,_,⟨k+1,rfl,by omega,take_more ht hx hy,rfl⟩,?_⟩
    exact lz T0
   ·rw[decide_eq_false hxy]at hd0
    unfold eqEventB at hd0
    have hd:decide (l=m)=false:=decide_eq_false fun e=>by subst e;rw[hx]at hy;exact hxy (Option.some.inj hy)
    rw[hd]
    refine wk (J8 hx hy hlt hlt2 hs heq hd0 eEvent.eq_1) T0 T0 T0
  ·obtain rfl:k=l.length:=by omega
   have:l=m:=take_all hlen ht
   subst this
   refine wk T0 T0 T0 T0
 ·have hd:decide (l=m)=false:=decide_eq_false fun e=>hlen (by rw[e])
  have hne:((l.length:Int) != (m.length:Int))=true:=by rw[bne_iff_ne];omega
  rw[hd]
  refine wk hne T0 T0 T0
end
section
def rightN (n:Net):Bool:=decide (0≤n.room∧n.room≤64∧(n.grams.length:Int)≤n.room)
def sendN (n:Net)(g:Gram):Net×Int:=if n.room≤(n.grams.length:Int)then(n,10)else(⟨n.room,n.grams++[g],n.seen++[g.words]⟩,0)
theorem q06_right (n:Net):ACalls Tryz.prog 54 [.agg (eNet n)] (rB (rightN n)):=by
 refine ACalls.intro (fn:=Tryz.f54) Tryz.func54 rfl rfl (by simp[Tryz.f54]) ?_
 unfold Tryz.f54 eNet eGrams
 simp only[]
 refine wk T0 T0 T0 (J4 ?_ ?_ ?_ T0)
 all_goals ((repeat intro h);refine⟨?_⟩)
 all_goals (congr 4;rw[Bool.eq_iff_iff];simp[rightN]at *;omega)
theorem q06_one (a b:Gram):ACalls Tryz.prog 73 [.agg (eGram a),.agg (eGram b)] (rB (decide (a=b))):=by
 refine ACalls.intro (fn:=Tryz.f73) Tryz.func73 rfl rfl (by simp[Tryz.f73]) ?_
 obtain⟨ta,la⟩:=a
 obtain⟨tb,lb⟩:=b
 unfold Tryz.f73 eGram
 simp only[]
 refine wk T0 (q01_same _ _) T0 (J3 ?_ ?_ T0)
 all_goals ((repeat intro h);refine⟨?_⟩)
 all_goals simp at *
 all_goals simp[rB, *]
theorem q06_send (n:Net)(g:Gram)(hl:n.grams.length<1000000)(hs:n.seen.length<1000000):ACalls Tryz.prog 72 [.agg (eNet n),.agg (eGram g)] (.tup [.agg (eNet (sendN n g).1),.one (i64 (sendN n g).2)]):=by
 refine ACalls.intro (fn:=Tryz.f72) Tryz.func72 rfl rfl (by simp[Tryz.f72]) ?_
 unfold Tryz.f72 eNet
 simp only[eGram.eq_1 g,eGrams,eRows]
 refine wk T0 T0 T0 (J3 ?_ ?_ T0)
 all_goals ((repeat intro h);refine⟨?_⟩)
 ·have h':n.room≤(n.grams.length:Int):=by omega
  simp[sendN,h']
 ·have h':¬n.room≤(n.grams.length:Int):=by omega
  simp[sendN,h',eGram,eSeen]
end
section
def eBoxC (j:Nat)(b:Box):List CV:=[i64 b.room,.rowc j (b.entries.map eSealed)]
def thereB (l:List Sealed)(h:Int):Bool:=l.any fun s=>s.handle==h
theorem there_next {l:List Sealed}{h:Int}{k:Nat}{x:Sealed}(ht:thereB (l.take k) h=false)(hx:l[k]?=some x)(hp:(x.handle==h)=false):thereB (l.take (k+1)) h=false:=by
 unfold thereB at *
 rw[List.take_add_one,hx]
 simp[List.any_append,ht,hp]
theorem there_at {l:List Sealed}{h:Int}{k:Nat}{x:Sealed}(hx:l[k]?=some x)(hp:(x.handle==h)=true):thereB l h=true:=by
 unfold thereB
 rw[List.any_eq_true]
 exact⟨x,List.mem_of_getElem? hx,hp⟩
theorem q07_there (j:Nat)(b:Box)(h:Int):ACalls Tryz.prog 78 [.agg (eBoxC j b),.one (u32 h)] (rB (thereB b.entries h)):=by
 refine ACalls.introF (fn:=Tryz.f78) Tryz.func78 rfl rfl (by simp[Tryz.f78]) fun hf=>?_
 have hl:b.entries.length≤9223372036854775807:=Fine.rowC ((hf _ (by simp):FineCA (.agg (eBoxC j b))) (.rowc j (b.entries.map eSealed)) (by simp[eBoxC]))
 clear hf
 obtain⟨r,l⟩:=b
 simp only at hl
 unfold Tryz.f78 eBoxC
 simp only[rB]
 refine wk T0 T0 T0 (J2 ?_ T0)
 all_goals ((repeat intro h);refine⟨?_⟩)
 refine AW.loopW (fun n σ=>∃k:Nat,n=l.length - k∧k≤l.length∧thereB (l.take k) h=false∧σ=⟨21,upd (upd (upd (upd (fun _=>.junk) 5 (.one (.c (i64 k)))) 4 (.one (.c (.v (.bool false))))) 2 (.one (.ptr 2 0))) 1 (.one (.c (u32 h))),upd (fun _=>none) 2 (some (.box [.c (i64 r),.c (.rowc j (l.map eSealed))]))⟩) (n:=l.length) _ ⟨0,rfl,Nat.zero_le _,rfl,rfl⟩ (by exact lz T0) ?_
 rintro n σ ⟨k,rfl,hk,ht,rfl⟩
 by_cases hlt:k<l.length
 ·obtain⟨x,hx⟩:∃x,l[k]?=some x:=⟨_,List.getElem?_eq_getElem hlt⟩
  have hs:=wrapI (x:=(k:Int)+1) (by omega) (by omega)
  cases hp:(x.handle==h)
  ·refine wk (J5 hx hlt hs hp eSealed.eq_1) T0 T0 (J2 ?_ T0)
   all_goals ((repeat intro h);refine⟨?_⟩)
   refine⟨l.length - (k+1),by omega,_,⟨k+1,rfl,by omega,there_next ht hx hp,rfl⟩,?_⟩
   exact lz T0
  ·refine wk (J5 hx hlt hs hp eSealed.eq_1) T0 T0 (J2 ?_ T0)
   all_goals ((repeat intro h);refine⟨?_⟩)
   rw[there_at hx hp]
 ·obtain rfl:k=l.length:=by omega
  rw[List.take_length]at ht
  refine wk T0 T0 T0 (J2 ?_ T0)
  all_goals ((repeat intro h);refine⟨?_⟩)
  rw[ht]
def sealB (b:Box)(h k l:Int)(p:List Int):Box×Int:=if 64<(p.length:Int)then(b,3)else if thereB b.entries h=true then(b,8)else if b.room≤(b.entries.length:Int)then(b,10)else(⟨b.room,b.entries++[⟨h,k,l,p⟩]⟩,0)
theorem q07_seal (b:Box)(h k l:Int)(p:List Int)(hl:b.entries.length<1000000)(hp:p.length<1000000):ACalls Tryz.prog 48 [.agg (eBox b),.one (u32 h),.one (u32 k),.one (u32 l),.one (eWords p)] (.tup [.agg (eBox (sealB b h k l p).1),.one (i64 (sealB b h k l p).2)]):=by
 refine ACalls.intro (fn:=Tryz.f48) Tryz.func48 rfl rfl (by simp[Tryz.f48]) ?_
 have ht:=q07_there 0 b h
 unfold Tryz.f48
 simp only[eBox,eBoxC,eSealeds,eWords,rB]at *
 refine wkx T0 ht T0 (J5 ?_ ?_ ?_ ?_ T0)
 all_goals ((repeat intro h);refine⟨?_⟩)
 ·have h1:64<(p.length:Int):=by omega
  simp[sealB,h1]
 ·have h1:¬(64<(p.length:Int)):=by omega
  simp[sealB,h1,h]
 ·rename_i h2
  have h1:¬(64<(p.length:Int)):=by omega
  simp[sealB,h1,h2,h]
 ·rename_i h2
  have h1:¬(64<(p.length:Int)):=by omega
  have h3:¬b.room≤(b.entries.length:Int):=by omega
  simp[sealB,h1,h2,h3,eSealed,eWords]
def openB (b:Box)(k l h:Int):List Int×Bool:=match b.entries.find? (fun s=>s.handle==h&&s.key==k&&s.label==l)with
 |some s=>(s.plain,true)
 |none=>([],false)
theorem find_next {α:Type}{l:List α}{p:α→Bool}{k:Nat}{x:α}(ht:(l.take k).find? p=none)(hx:l[k]?=some x)(hp:p x=false):(l.take (k+1)).find? p=none:=by
 rw[List.take_add_one,hx,List.find?_append,ht]
 simp[hp]
theorem find_at {α:Type}{l:List α}{p:α→Bool}{k:Nat}{x:α}(ht:(l.take k).find? p=none)(hx:l[k]?=some x)(hp:p x=true):l.find? p=some x:=by
 have hk:k<l.length:=(List.getElem?_eq_some_iff.1 hx).1
 conv=>lhs;rw[←List.take_append_drop k l]
 rw[List.find?_append,ht,List.drop_eq_getElem_cons hk]
 rw[List.getElem?_eq_getElem hk]at hx
 simp[Option.some.inj hx,hp]
theorem q07_open (b:Box)(kk ll hh:Int)(hs:∀s∈b.entries,s.plain.length<1000000):ACalls Tryz.prog 40 [.agg (eBox b),.one (u32 kk),.one (u32 ll),.one (u32 hh)] (.tup [.one (eWords (openB b kk ll hh).1),.one (bl (openB b kk ll hh).2)]):=by
 refine ACalls.introF (fn:=Tryz.f40) Tryz.func40 rfl rfl (by simp[Tryz.f40]) fun hf=>?_
 have hl:b.entries.length≤9223372036854775807:=Fine.rowC ((hf _ (by simp):FineCA (.agg (eBox b))) (.rowc 0 (b.entries.map eSealed)) (by simp[eBox,eSealeds]))
 clear hf
 obtain⟨r,l⟩:=b
 simp only at hl hs
 unfold Tryz.f40
 simp only[eBox,eSealeds,eWords]
 refine wk T0 T0 T0 (J2 ?_ T0)
 all_goals ((repeat intro h);refine⟨?_⟩)
 refine AW.loopW (fun n σ=>∃k:Nat,n=l.length - k∧k≤l.length∧(l.take k).find? (fun s=>s.handle==hh&&s.key==kk&&s.label==ll)=none∧σ=⟨44,upd (upd (upd (upd (upd (upd (upd (fun _=>.junk) 10 (.one (.c (i64 k)))) 9 (.one (.c (.v (.bool false))))) 8 (.one .nil)) 4 (.one (.ptr 4 0))) 3 (.one (.c (u32 hh)))) 2 (.one (.c (u32 ll)))) 1 (.one (.c (u32 kk))),upd (fun _=>none) 4 (some (.box [.c (i64 r),.c (.row (l.map eSealed))]))⟩) (n:=l.length) _ ⟨0,rfl,Nat.zero_le _,by simp,rfl⟩ (by exact lz T0) ?_
 rintro n σ ⟨k,rfl,hk,ht,rfl⟩
 by_cases hlt:k<l.length
 ·obtain⟨x,hx⟩:∃x,l[k]?=some x:=⟨_,List.getElem?_eq_getElem hlt⟩
  have hs9:=wrapI (x:=(k:Int)+1) (by omega) (by omega)
  have hpl:=hs x (List.mem_of_getElem? hx)
  cases h1:(x.handle==hh)
  ·refine wkx (J6 hx hlt hs9 h1 eSealed.eq_1 eWords.eq_1) T0 T0 (J2 ?_ T0)
   all_goals ((repeat intro h);refine⟨?_⟩)
   refine⟨l.length - (k+1),by omega,_,⟨k+1,rfl,by omega,find_next ht hx (by simp[h1]),rfl⟩,?_⟩
   exact lz T0
  ·cases h2:(x.key==kk)
   ·refine wkx (J7 hx hlt hs9 h1 h2 eSealed.eq_1 eWords.eq_1) T0 T0 (J2 ?_ T0)
    all_goals ((repeat intro h);refine⟨?_⟩)
    refine⟨l.length - (k+1),by omega,_,⟨k+1,rfl,by omega,find_next ht hx (by simp[h2]),rfl⟩,?_⟩
    exact lz T0
   ·cases h3:(x.label==ll)
    ·refine wkx (J8 hx hlt hs9 h1 h2 h3 eSealed.eq_1 eWords.eq_1) T0 T0 (J2 ?_ T0)
     all_goals ((repeat intro h);refine⟨?_⟩)
     refine⟨l.length - (k+1),by omega,_,⟨k+1,rfl,by omega,find_next ht hx (by simp[h3]),rfl⟩,?_⟩
     exact lz T0
    ·refine wkx (J8 hx hlt hs9 h1 h2 h3 eSealed.eq_1 eWords.eq_1) T0 T0 (J2 ?_ T0)
     all_goals ((repeat intro h);refine⟨?_⟩)
     simp[openB,find_at ht hx (by simp[h1,h2,h3])]
 ·obtain rfl:k=l.length:=by omega
  rw[List.take_length]at ht
  refine wk T0 T0 T0 (J2 ?_ T0)
  all_goals ((repeat intro h);refine⟨?_⟩)
  simp[openB,ht]
def fewB (b:Box):Bool:=decide ((∀s∈b.entries.take 100,(s.plain.length:Int)≤100)∧(b.entries.length:Int)≤70)
end
section
theorem q07_same (j:Nat)(a b:Box):ACalls Tryz.prog 33 [.agg (eBoxC j a),.agg (eBox b)] (rB (decide (a=b))):=by
 refine ACalls.introF (fn:=Tryz.f33) Tryz.func33 rfl rfl (by simp[Tryz.f33]) fun hf=>?_
 have hl:a.entries.length≤9223372036854775807:=Fine.rowC ((hf _ (by simp):FineCA (.agg (eBoxC j a))) (.rowc j (a.entries.map eSealed)) (by simp[eBoxC]))
 clear hf
 obtain⟨ra,la⟩:=a
 obtain⟨rb,lb⟩:=b
 simp only at hl
 unfold Tryz.f33
 simp only[eBoxC,eBox,eSealeds,rB]
 by_cases hr:ra=rb
 ·subst hr
  by_cases hlen:la.length=lb.length
  ·have hli:(la.length:Int)=(lb.length:Int):=by omega
   refine wk hli T0 T0 (J2 ?_ T0)
   all_goals ((repeat intro h);refine⟨?_⟩)
   refine AW.loopW (fun q σ=>∃k:Nat,q=la.length - k∧k≤la.length∧la.take k=lb.take k∧σ=⟨66,upd (upd (upd (upd (fun _=>.junk) 5 (.one (.c (i64 k)))) 4 (.one (.c (.v (.bool false))))) 3 (.one (.ptr 3 0))) 2 (.one (.ptr 2 0)),
    upd (upd (fun _=>none) 3 (some (.box [.c (i64 ra),.c (.row (lb.map eSealed))]))) 2 (some (.box [.c (i64 ra),.c (.rowc j (la.map eSealed))]))⟩) (n:=la.length) _ ⟨0,rfl,Nat.zero_le _,rfl,rfl⟩ (by exact lz T0) ?_
   rintro q σ ⟨k,rfl,hk,ht,rfl⟩
   by_cases hlt:k<la.length
   ·obtain⟨x,hx⟩:∃x,la[k]?=some x:=⟨_,List.getElem?_eq_getElem hlt⟩
    obtain⟨y,hy⟩:∃y,lb[k]?=some y:=⟨_,List.getElem?_eq_getElem (by omega)⟩
    have hlt2:k<lb.length:=by omega
    have hs:=wrapI (x:=(k:Int)+1) (by omega) (by omega)
    by_cases hxy:x=y
    ·subst hxy
     have hq:=q01_same x.plain x.plain
     rw[decide_eq_true rfl]at hq
     simp only[eWords,rB]at hq
     refine wkx (J7 hx hy hlt hlt2 eSealed.eq_1 eWords.eq_1 hs) hq T0 (J2 ?_ T0)
     all_goals ((repeat intro h);refine⟨?_⟩)
     refine⟨la.length - (k+1),by omega,_,⟨k+1,rfl,by omega,take_more ht hx hy,rfl⟩,?_⟩
     exact lz T0
    ·have hne:la≠lb:=fun e=>by subst e;rw[hx]at hy;exact hxy (Option.some.inj hy)
     have hd:(decide ((⟨ra,la⟩:Box)=⟨ra,lb⟩))=false:=by simp[hne]
     rw[hd]
     have hq:=q01_same x.plain y.plain
     simp only[eWords,rB]at hq
     cases h1:(x.handle != y.handle)
     ·cases h2:(x.key != y.key)
      ·cases h3:(x.label != y.label)
       ·have hp:x.plain≠y.plain:=fun e=>hxy (by
         obtain⟨x1,x2,x3,x4⟩:=x
         obtain⟨y1,y2,y3,y4⟩:=y
         simp at h1 h2 h3 e
         simp[h1,h2,h3,e])
        rw[decide_eq_false hp]at hq
        refine wk (J9 hx hy hlt hlt2 eSealed.eq_1 eWords.eq_1 hs h1 (J2 h2 h3)) hq T0 T0
       ·refine wk (J9 hx hy hlt hlt2 eSealed.eq_1 eWords.eq_1 hs h1 (J2 h2 h3)) T0 T0 T0
      ·refine wk (J9 hx hy hlt hlt2 eSealed.eq_1 eWords.eq_1 hs h1 h2) T0 T0 T0
     ·refine wk (J8 hx hy hlt hlt2 eSealed.eq_1 eWords.eq_1 hs h1) T0 T0 T0
   ·obtain rfl:k=la.length:=by omega
    have:la=lb:=take_all hlen ht
    subst this
    refine wk T0 T0 T0 T0
  ·have hd:(decide ((⟨ra,la⟩:Box)=⟨ra,lb⟩))=false:=by
    have:la≠lb:=fun e=>hlen (by rw[e])
    simp[this]
   rw[hd]
   have hli:¬(la.length:Int)=(lb.length:Int):=by omega
   refine wk hli T0 T0 T0
 ·have hd:(decide ((⟨ra,la⟩:Box)=⟨rb,lb⟩))=false:=by simp[hr]
  rw[hd]
  refine wk hr T0 T0 T0
theorem all_more {α:Type}{p:α→Prop}{l:List α}{k:Nat}{x:α}(h:∀y∈l.take k,p y)(hx:l[k]?=some x)(hp:p x):∀y∈l.take (k+1),p y:=by
 intro y hy
 rw[List.take_add_one,hx]at hy
 simp only[Option.toList_some,List.mem_append,List.mem_singleton]at hy
 rcases hy with hy|rfl
 ·exact h y hy
 ·exact hp
theorem mem_first {α:Type}{l:List α}{k m:Nat}{x:α}(hx:l[k]?=some x)(h:k<m):x∈l.take m:=by
 refine List.mem_iff_getElem?.mpr ⟨k,?_⟩
 rw[List.getElem?_take,if_pos h,hx]
theorem q07_few (b:Box):ACalls Tryz.prog 49 [.agg (eBox b)] (rB (fewB b)):=by
 refine ACalls.introF (fn:=Tryz.f49) Tryz.func49 rfl rfl (by simp[Tryz.f49]) fun hf=>?_
 have hl:b.entries.length≤9223372036854775807:=Fine.rowC ((hf _ (by simp):FineCA (.agg (eBox b))) (.rowc 0 (b.entries.map eSealed)) (by simp[eBox,eSealeds]))
 clear hf
 obtain⟨r,l⟩:=b
 simp only at hl
 unfold Tryz.f49
 simp only[eBox,eSealeds,rB]
 have no:(∃x∈l.take 100,100<(x.plain.length:Int))→fewB ⟨r,l⟩=false:=by
  rintro⟨x,hx,hb⟩
  unfold fewB
  rw[decide_eq_false_iff_not]
  rintro⟨h1,-⟩
  have:=h1 x hx;omega
 have ok:(∀s∈l.take 100,(s.plain.length:Int)≤100)→fewB ⟨r,l⟩=decide ((l.length:Int)≤70):=fun h=>by
  unfold fewB
  rw[decide_eq_decide]
  exact⟨fun h=>h.2,fun h2=>⟨h,h2⟩⟩
 refine wk T0 T0 T0 (J2 ?_ T0)
 all_goals ((repeat intro h);refine⟨?_⟩)
 refine AW.loopW (fun q σ=>∃k:Nat,q=l.length - k∧k≤l.length∧k≤100∧(∀x∈l.take k,(x.plain.length:Int)≤100)∧σ=⟨27,upd (upd (upd (fun _=>.junk) 1 (.one (.ptr 1 0))) 2 (.one (.c (.v (.bool false))))) 3 (.one (.c (i64 k))),
  upd (fun _=>none) 1 (some (.box [.c (i64 r),.c (.row (l.map eSealed))]))⟩) (n:=l.length) _ ⟨0,rfl,Nat.zero_le _,by omega,by simp,rfl⟩ (by exact lz T0) ?_
 rintro q σ ⟨k,rfl,hk,hc,ha,rfl⟩
 by_cases hlt:k<l.length
 ·obtain⟨x,hx⟩:∃x,l[k]?=some x:=⟨_,List.getElem?_eq_getElem hlt⟩
  have hs:=wrapI (x:=(k:Int)+1) (by omega) (by omega)
  by_cases h100:(k:Int)<100
  ·refine wk (J6 hx hlt h100 eSealed.eq_1 eWords.eq_1 hs) T0 T0 (J3 ?_ ?_ T0)
   all_goals ((repeat intro h);refine⟨?_⟩)
   ·rw[no ⟨x,mem_first hx (by omega),by omega⟩]
   ·refine⟨l.length - (k+1),by omega,_,⟨k+1,rfl,by omega,by omega,all_more ha hx (by omega),rfl⟩,?_⟩
    exact lz T0
  ·obtain rfl:k=100:=by omega
   refine wk (J6 hx hlt h100 eSealed.eq_1 eWords.eq_1 hs) T0 T0 (J2 ?_ T0)
   all_goals ((repeat intro h);refine⟨?_⟩)
   all_goals (rw[ok ha];first|(simp[h];done)|(congr 4;rw[decide_eq_decide];omega)|(simp;omega)|trace_state)
 ·have hA:∀x∈l.take 100,(x.plain.length:Int)≤100:=fun x hx=>ha x (by rw[List.take_of_length_le (by omega)];exact List.mem_of_mem_take hx)
  refine wk T0 T0 T0 (J2 ?_ T0)
  all_goals ((repeat intro h);refine⟨?_⟩)
  all_goals (rw[ok hA];first|(simp[h];done)|(congr 4;rw[decide_eq_decide];omega)|(simp;omega)|trace_state)
end
section
def entriesOK (l:List Sealed):Prop:=∀(i:Nat) (x:Sealed),l[i]?=some x→(x.plain.length:Int)≤64∧thereB (l.take i) x.handle=false
def entriesB (l:List Sealed):Bool:=(List.range l.length).all fun i=>match l[i]? with
 |some x=>decide ((x.plain.length:Int)≤64)&&!thereB (l.take i) x.handle
 |none=>true
theorem entriesB_iff {l:List Sealed}:entriesB l=true↔entriesOK l:=by
 unfold entriesB entriesOK
 rw[List.all_eq_true]
 constructor
 ·intro h i x hx
  have:=h i (List.mem_range.2 (List.getElem?_eq_some_iff.1 hx).1)
  rw[hx]at this
  simpa using this
 ·intro h i hi
  cases hx:l[i]? with
  |none=>rfl
  |some x=>have:=h i x hx;simpa using this
theorem entriesB_no {l:List Sealed}(h:¬entriesOK l):entriesB l=false:=by
 cases hb:entriesB l with
 |false=>rfl
 |true=>exact absurd (entriesB_iff.1 hb) h
def rightB (b:Box):Bool:=decide (0≤b.room∧b.room≤64∧(b.entries.length:Int)≤b.room)&&entriesB b.entries
theorem q07_right (b:Box):ACalls Tryz.prog 53 [.agg (eBox b)] (rB (rightB b)):=by
 refine ACalls.intro (fn:=Tryz.f53) Tryz.func53 rfl rfl (by simp[Tryz.f53]) ?_
 obtain⟨r,l⟩:=b
 unfold Tryz.f53
 simp only[eBox,eSealeds,rB]
 by_cases hr:0≤r∧r≤64∧(l.length:Int)≤r
 ·obtain⟨h1,h2,h3⟩:=hr
  have g1:¬(r<0):=by omega
  have g2:¬(64<r):=by omega
  have g3:¬(r<(l.length:Int)):=by omega
  have hrb:rightB ⟨r,l⟩=entriesB l:=by
   unfold rightB
   rw[decide_eq_true (show 0≤r∧r≤64∧(l.length:Int)≤r from⟨h1,h2,h3⟩),Bool.true_and]
  rw[hrb]
  refine wk (J3 g1 g2 g3) T0 T0 (J2 ?_ T0)
  all_goals ((repeat intro h);refine⟨?_⟩)
  refine AW.loopW (fun n σ=>∃k:Nat,n=l.length - k∧k≤l.length∧(∀(i:Nat) (x:Sealed),i<k→l[i]?=some x→(x.plain.length:Int)≤64∧thereB (l.take i) x.handle=false)∧σ=⟨49,upd (upd (upd (fun _=>.junk) 3 (.one (.c (i64 k)))) 2 (.one (.c (.v (.bool false))))) 1 (.one (.ptr 1 0)),upd (fun _=>none) 1 (some (.box [.c (i64 r),.c (.row (l.map eSealed))]))⟩) (n:=l.length) _ ⟨0,rfl,Nat.zero_le _,fun i x h=>by omega,rfl⟩ (by exact lz T0) ?_
  rintro n σ ⟨k,rfl,hk,ht,rfl⟩
  by_cases hlt:k<l.length
  ·obtain⟨x,hx⟩:∃x,l[k]?=some x:=⟨_,List.getElem?_eq_getElem hlt⟩
   have hs:=wrapI (x:=(k:Int)+1) (by omega) (by omega)
   have hth:=q07_there 0 ⟨0,l.take k⟩ x.handle
   simp only[eBoxC,rB]at hth
   by_cases h64:64<(x.plain.length:Int)
   ·have no:entriesB l=false:=entriesB_no fun h=>by have:=(h k x hx).1;omega
    rw[no]
    refine wk (J6 hx hlt hs h64 eSealed.eq_1 eWords.eq_1) hth T0 T0
   ·cases htb:thereB (l.take k) x.handle
    ·rw[htb]at hth
     refine wk (J6 hx hlt hs h64 eSealed.eq_1 eWords.eq_1) hth T0 (J2 ?_ T0)
     all_goals ((repeat intro h);refine⟨?_⟩)
     refine⟨l.length - (k+1),by omega,_,⟨k+1,rfl,by omega,fun i y hi hy=>?_,rfl⟩,?_⟩
     ·rcases Nat.lt_succ_iff_lt_or_eq.1 hi with h|rfl
      ·exact ht i y h hy
      ·rw[hx]at hy;cases hy;exact⟨by omega,htb⟩
     ·exact lz T0
    ·rw[htb]at hth
     have no:entriesB l=false:=entriesB_no fun h=>by have:=(h k x hx).2;rw[htb]at this;cases this
     rw[no]
     refine wk (J6 hx hlt hs h64 eSealed.eq_1 eWords.eq_1) hth T0 T0
  ·obtain rfl:k=l.length:=by omega
   have yes:entriesB l=true:=entriesB_iff.2 fun i x hx=>ht i x (List.getElem?_eq_some_iff.1 hx).1 hx
   rw[yes]
   refine wk T0 T0 T0 T0
 ·have no:rightB ⟨r,l⟩=false:=by
   unfold rightB
   rw[decide_eq_false hr,Bool.false_and]
  rw[no]
  by_cases g1:r<0
  ·refine wk g1 T0 T0 T0
  ·by_cases g2:64<r
   ·refine wk (J2 g1 g2) T0 T0 T0
   ·have g3:r<(l.length:Int):=by omega
    refine wk (J3 g1 g2 g3) T0 T0 T0
end
section
def hasB (l:List Int)(w:Int):Bool:=l.any fun x=>x==w
theorem hasB_iff {l:List Int}{w:Int}:hasB l w=true↔w∈l:=by
 unfold hasB
 rw[List.any_eq_true]
 constructor
 ·rintro⟨x,hx,h⟩;rw[beq_iff_eq]at h;exact h▸hx
 ·intro h;exact⟨w,h,by simp⟩
theorem hasB_no {l:List Int}{w:Int}:hasB l w=false↔w∉l:=by
 rw[←hasB_iff];cases hasB l w<;>simp
theorem hasB_snoc (l:List Int)(w x:Int):hasB (l++[w]) x=(hasB l x||w==x):=by simp[hasB]
theorem hasB_next {l:List Int}{w x:Int}{k:Nat}(ht:hasB (l.take k) w=false)(hx:l[k]?=some x)(hp:(x==w)=false):hasB (l.take (k+1)) w=false:=by
 rw[List.take_add_one,hx]
 simp[hasB_snoc,ht,hp]
theorem hasB_at {l:List Int}{w x:Int}{k:Nat}(hx:l[k]?=some x)(hp:(x==w)=true):hasB l w=true:=hasB_iff.2 (by rw[beq_iff_eq]at hp;exact hp▸List.mem_of_getElem? hx)
theorem q01_has (j:Nat)(l:List Int)(w:Int):ACalls Tryz.prog 69 [.one (.rowc j (l.map eWord)),.one (u32 w)] (rB (hasB l w)):=by
 refine ACalls.introF (fn:=Tryz.f69) Tryz.func69 rfl rfl (by simp[Tryz.f69]) fun hf=>?_
 have hl:=Fine.rowC (hf _ (by simp):FineCA (.one (.rowc j (l.map eWord))))
 clear hf
 unfold Tryz.f69
 simp only[rB]
 refine wk T0 T0 T0 (J2 ?_ T0)
 all_goals ((repeat intro h);refine⟨?_⟩)
 refine AW.loopW (fun n σ=>∃k:Nat,n=l.length - k∧k≤l.length∧hasB (l.take k) w=false∧σ=⟨18,(upd (upd (upd (fun _=>.junk) 0 (.one (.c (.rowc j (l.map eWord))))) 1 (.one (.c (u32 w)))) 5 (.one (.c (i64 k)))),(fun _=>none)⟩) (n:=l.length) _ ⟨0,rfl,Nat.zero_le _,rfl,rfl⟩ (by exact lz T0) ?_
 rintro n σ ⟨k,rfl,hk,ht,rfl⟩
 by_cases hlt:k<l.length
 ·obtain⟨x,hx⟩:∃x,l[k]?=some x:=⟨_,List.getElem?_eq_getElem hlt⟩
  have hs:=wrapI (x:=(k:Int)+1) (by omega) (by omega)
  cases hp:(x==w)
  ·refine wk (J5 hx hlt hs hp eWord.eq_1) T0 T0 (J2 ?_ T0)
   all_goals ((repeat intro h);refine⟨?_⟩)
   refine⟨l.length - (k+1),by omega,_,⟨k+1,rfl,by omega,hasB_next ht hx hp,rfl⟩,?_⟩
   exact lz T0
  ·refine wk (J5 hx hlt hs hp eWord.eq_1) T0 T0 (J2 ?_ T0)
   all_goals ((repeat intro h);refine⟨?_⟩)
   rw[hasB_at hx hp]
 ·obtain rfl:k=l.length:=by omega
  rw[List.take_length]at ht
  refine wk T0 T0 T0 (J2 ?_ T0)
  all_goals ((repeat intro h);refine⟨?_⟩)
  rw[ht]
def distOK (l:List Int):Prop:=∀(i:Nat) (x:Int),l[i]?=some x→hasB (l.take i) x=false
def distB (l:List Int):Bool:=(List.range l.length).all fun i=>match l[i]? with
 |some x=>!hasB (l.take i) x
 |none=>true
theorem distB_iff {l:List Int}:distB l=true↔distOK l:=by
 unfold distB distOK
 rw[List.all_eq_true]
 constructor
 ·intro h i x hx
  have:=h i (List.mem_range.2 (List.getElem?_eq_some_iff.1 hx).1)
  rw[hx]at this
  simpa using this
 ·intro h i hi
  cases hx:l[i]? with
  |none=>rfl
  |some x=>simpa using h i x hx
theorem distB_no {l:List Int}(h:¬distOK l):distB l=false:=by
 cases hb:distB l with
 |false=>rfl
 |true=>exact absurd (distB_iff.1 hb) h
def usedR (l:List Int)(room:Int):Bool:=distB l&&decide ((l.length:Int)≤room)
def mayU (l:List Int)(room w:Int):Int:=if hasB l w=true then 8 else if room≤(l.length:Int)then 10 else 0
theorem q08_may (j:Nat)(l:List Int)(room w:Int):ACalls Tryz.prog 26 [.one (.rowc j (l.map eWord)),.one (i64 room),.one (u32 w)] (rI (mayU l room w)):=by
 refine ACalls.intro (fn:=Tryz.f26) Tryz.func26 rfl rfl (by simp[Tryz.f26]) ?_
 have hh:=q01_has j l w
 unfold Tryz.f26
 simp only[rI,rB]at *
 cases hb:hasB l w
 ·rw[hb]at hh
  by_cases hr:room≤(l.length:Int)
  ·refine wk hr hh T0 (J2 ?_ T0)
   all_goals ((repeat intro h);refine⟨?_⟩)
   simp[mayU,hb,hr]
  ·refine wk hr hh T0 (J2 ?_ T0)
   all_goals ((repeat intro h);refine⟨?_⟩)
   simp[mayU,hb,hr]
 ·rw[hb]at hh
  refine wk T0 hh T0 (J2 ?_ T0)
  all_goals ((repeat intro h);refine⟨?_⟩)
  simp[mayU,hb]
theorem q08_right (l:List Int)(room:Int):ACalls Tryz.prog 56 [.one (eWords l),.one (i64 room)] (rB (usedR l room)):=by
 refine ACalls.introF (fn:=Tryz.f56) Tryz.func56 rfl rfl (by simp[Tryz.f56]) fun hf=>?_
 have hl:=(fineWords (hf _ (by simp):FineCA (.one (eWords l)))).1
 clear hf
 unfold Tryz.f56
 simp only[rB,eWords]
 refine wk T0 T0 T0 (J2 ?_ T0)
 all_goals ((repeat intro h);refine⟨?_⟩)
 refine AW.loopW (fun n σ=>∃k:Nat,n=l.length - k∧k≤l.length∧(∀(i:Nat) (x:Int),i<k→l[i]?=some x→hasB (l.take i) x=false)∧σ=⟨31,(upd (upd (upd (fun _=>.junk) 0 (.one (.c (.row (l.map eWord))))) 1 (.one (.c (i64 room)))) 5 (.one (.c (i64 k)))),(fun _=>none)⟩) (n:=l.length) _ ⟨0,rfl,Nat.zero_le _,fun i x h=>by omega,rfl⟩ (by exact lz T0) ?_
 rintro n σ ⟨k,rfl,hk,ht,rfl⟩
 by_cases hlt:k<l.length
 ·obtain⟨x,hx⟩:∃x,l[k]?=some x:=⟨_,List.getElem?_eq_getElem hlt⟩
  have hs:=wrapI (x:=(k:Int)+1) (by omega) (by omega)
  refine wk (J3 hx hlt eWord.eq_1) T0 T0 (J2 ?_ T0)
  all_goals ((repeat intro h);refine⟨?_⟩)
  refine AW.loopW (fun n σ=>∃q:Nat,n=k - q∧q≤k∧hasB (l.take q) x=false∧σ=⟨31,(upd (upd (upd (upd (fun _=>.junk) 0 (.one (.c (.row (l.map eWord))))) 1 (.one (.c (i64 room)))) 5 (.one (.c (i64 k)))) 6 (.one (.c (i64 q)))),(fun _=>none)⟩) (n:=k) _ ⟨0,rfl,Nat.zero_le _,rfl,rfl⟩ (by exact lz T0) ?_
  rintro n σ ⟨q,rfl,hq,hno,rfl⟩
  by_cases hqk:q<k
  ·obtain⟨y,hy⟩:∃y,l[q]?=some y:=⟨_,List.getElem?_eq_getElem (by omega)⟩
   have hql:q<l.length:=by omega
   have hqi:(q:Int)<(k:Int):=by omega
   have hs2:=wrapI (x:=(q:Int)+1) (by omega) (by omega)
   cases hp:(x==y)
   ·refine wk (J8 hx hy hlt hql hqi hs2 hp eWord.eq_1) T0 T0 (J2 ?_ T0)
    all_goals ((repeat intro h);refine⟨?_⟩)
    refine⟨k - (q+1),by omega,_,⟨q+1,rfl,by omega,hasB_next hno hy (by rw[Bool.beq_comm];exact hp),rfl⟩,?_⟩
    exact lz T0
   ·have no:usedR l room=false:=by
     unfold usedR
     rw[distB_no fun h=>?_,Bool.false_and]
     have:=h k x hx
     rw[hasB_no]at this
     rw[beq_iff_eq]at hp
     exact this (List.mem_iff_getElem?.2 ⟨q,by rw[List.getElem?_take,if_pos hqk,hy,hp]⟩)
    rw[no]
    refine wk (J8 hx hy hlt hql hqi hs2 hp eWord.eq_1) T0 T0 T0
  ·obtain rfl:q=k:=by omega
   refine wk hs T0 T0 (J2 ?_ T0)
   all_goals ((repeat intro h);refine⟨?_⟩)
   refine⟨l.length - (q+1),by omega,_,⟨q+1,rfl,by omega,fun i y hi hy=>?_,rfl⟩,?_⟩
   ·rcases Nat.lt_succ_iff_lt_or_eq.1 hi with h|rfl
    ·exact ht i y h hy
    ·rw[hx]at hy;cases hy;exact hno
   ·exact lz T0
 ·obtain rfl:k=l.length:=by omega
  have yes:distB l=true:=distB_iff.2 fun i x hx=>ht i x (List.getElem?_eq_some_iff.1 hx).1 hx
  have:usedR l room=decide ((l.length:Int)≤room):=by rw[usedR,yes,Bool.true_and]
  rw[this]
  refine wk T0 T0 T0 T0
end
section
theorem eqr_run (a0 a1 a2 a3 a4 a5 a6 a7 a8 b0 b1 b2 b3 b4 b5 b6 b7 b8:Int)(w:World):(Op.equal 55 (.agg #[.int .i64 a0,.int .i64 a1,.int .u32 a2,.int .u32 a3,.int .u32 a4,.int .u32 a5,.int .u32 a6,.int .u32 a7,.int .i64 a8]) (.agg #[.int .i64 b0,.int .i64 b1,.int .u32 b2,.int .u32 b3,.int .u32 b4,.int .u32 b5,.int .u32 b6,.int .u32 b7,.int .i64 b8])).run Tryz.prog w=.ok ((a0==b0)&&((a1==b1)&&((a2==b2)&&((a3==b3)&&((a4==b4)&&((a5==b5)&&((a6==b6)&&((a7==b7)&&((a8==b8)))))))))) w:=by
 show(Op.equalIn 10000 55 (.agg #[.int .i64 a0,.int .i64 a1,.int .u32 a2,.int .u32 a3,.int .u32 a4,.int .u32 a5,.int .u32 a6,.int .u32 a7,.int .i64 a8]) (.agg #[.int .i64 b0,.int .i64 b1,.int .u32 b2,.int .u32 b3,.int .u32 b4,.int .u32 b5,.int .u32 b6,.int .u32 b7,.int .i64 b8])).run Tryz.prog w=_
 cases h0:(a0==b0)with
 |false=>go_simp<;>simp[h0]
 |true=>
  cases h1:(a1==b1)with
  |false=>go_simp<;>simp[h0,h1]
  |true=>
   cases h2:(a2==b2)with
   |false=>go_simp<;>simp[h0,h1,h2]
   |true=>
    cases h3:(a3==b3)with
    |false=>go_simp<;>simp[h0,h1,h2,h3]
    |true=>
     cases h4:(a4==b4)with
     |false=>go_simp<;>simp[h0,h1,h2,h3,h4]
     |true=>
      cases h5:(a5==b5)with
      |false=>go_simp<;>simp[h0,h1,h2,h3,h4,h5]
      |true=>
       cases h6:(a6==b6)with
       |false=>go_simp<;>simp[h0,h1,h2,h3,h4,h5,h6]
       |true=>
        cases h7:(a7==b7)with
        |false=>go_simp<;>simp[h0,h1,h2,h3,h4,h5,h6,h7]
        |true=>
         cases h8:(a8==b8)with
         |false=>go_simp<;>simp[h0,h1,h2,h3,h4,h5,h6,h7,h8]
         |true=>
          go_simp<;>simp[h0,h1,h2,h3,h4,h5,h6,h7,h8]
theorem eqok_run:EqOK Tryz.prog 55 [some (some .i64),some (some .i64),some (some .u32),some (some .u32),some (some .u32),some (some .u32),some (some .u32),some (some .u32),some (some .i64)]:=by
 refine⟨by kernel_rfl,fun us0 vs0 w p0 q0=>?_⟩
 obtain⟨a0,us1,rfl,p1⟩:=sh_int p0
 obtain⟨b0,vs1,rfl,q1⟩:=sh_int q0
 obtain⟨a1,us2,rfl,p2⟩:=sh_int p1
 obtain⟨b1,vs2,rfl,q2⟩:=sh_int q1
 obtain⟨a2,us3,rfl,p3⟩:=sh_int p2
 obtain⟨b2,vs3,rfl,q3⟩:=sh_int q2
 obtain⟨a3,us4,rfl,p4⟩:=sh_int p3
 obtain⟨b3,vs4,rfl,q4⟩:=sh_int q3
 obtain⟨a4,us5,rfl,p5⟩:=sh_int p4
 obtain⟨b4,vs5,rfl,q5⟩:=sh_int q4
 obtain⟨a5,us6,rfl,p6⟩:=sh_int p5
 obtain⟨b5,vs6,rfl,q6⟩:=sh_int q5
 obtain⟨a6,us7,rfl,p7⟩:=sh_int p6
 obtain⟨b6,vs7,rfl,q7⟩:=sh_int q6
 obtain⟨a7,us8,rfl,p8⟩:=sh_int p7
 obtain⟨b7,vs8,rfl,q8⟩:=sh_int q7
 obtain⟨a8,us9,rfl,p9⟩:=sh_int p8
 obtain⟨b8,vs9,rfl,q9⟩:=sh_int q8
 obtain rfl:=sh_nil p9
 obtain rfl:=sh_nil q9
 rw[eqr_run]
 simp[eqVs,eqV]
end
section
def runMay (r:Run):Bool:=decide ((r.proto=1∨r.proto=2)∧(r.role=1∨r.role=2)∧(r.state=1∨r.state=2∨r.state=3))
theorem q09_may (r:Run):ACalls Tryz.prog 80 [.agg (eRun r)] (rB (runMay r)):=by
 refine ACalls.intro (fn:=Tryz.f80) Tryz.func80 rfl rfl (by simp[Tryz.f80]) ?_
 unfold Tryz.f80
 simp only[eRun]
 refine wk T0 T0 T0 (J9 ?_ ?_ ?_ ?_ ?_ ?_ ?_ ?_ (J8 ?_ ?_ ?_ ?_ ?_ ?_ ?_ T0))
 all_goals ((repeat intro h);refine⟨?_⟩)
 all_goals (refine rB_eq ?_;simp only[runMay,decide_eq_true_eq,beq_iff_eq,Bool.false_eq_true,true_iff,false_iff];omega)
def runsR (l:List Run)(room:Int):Bool:=l.all runMay&&decide ((l.length:Int)≤room)
theorem allB_next {α:Type}{l:List α}{p:α→Bool}{k:Nat}{x:α}(ht:(l.take k).all p=true)(hx:l[k]?=some x)(hp:p x=true):(l.take (k+1)).all p=true:=by
 rw[List.take_add_one,hx]
 simp[List.all_append,ht,hp]
theorem allB_at {α:Type}{l:List α}{p:α→Bool}{k:Nat}{x:α}(hx:l[k]?=some x)(hp:p x=false):l.all p=false:=by
 rw[List.all_eq_false]
 exact⟨x,List.mem_of_getElem? hx,by simp[hp]⟩
theorem q09_right (l:List Run)(room:Int):ACalls Tryz.prog 57 [.one (eRuns l),.one (i64 room)] (rB (runsR l room)):=by
 refine ACalls.introF (fn:=Tryz.f57) Tryz.func57 rfl rfl (by simp[Tryz.f57]) fun hf=>?_
 have hl:=(Fine.rowM (hf _ (by simp):FineCA (.one (eRuns l)))).1
 clear hf
 unfold Tryz.f57
 simp only[rB,eRuns]
 refine wk T0 T0 T0 (J2 ?_ T0)
 all_goals ((repeat intro h);refine⟨?_⟩)
 refine AW.loopW (fun n σ=>∃k:Nat,n=l.length - k∧k≤l.length∧(l.take k).all runMay=true∧σ=⟨22,(upd (upd (upd (fun _=>.junk) 0 (.one (.c (.row (l.map eRun))))) 1 (.one (.c (i64 room)))) 5 (.one (.c (i64 k)))),(fun _=>none)⟩) (n:=l.length) _ ⟨0,rfl,Nat.zero_le _,by simp,rfl⟩ (by exact lz T0) ?_
 rintro n σ ⟨k,rfl,hk,ht,rfl⟩
 by_cases hlt:k<l.length
 ·obtain⟨x,hx⟩:∃x,l[k]?=some x:=⟨_,List.getElem?_eq_getElem hlt⟩
  have hs:=wrapI (x:=(k:Int)+1) (by omega) (by omega)
  have hm:=q09_may x
  cases hp:runMay x
  ·rw[hp]at hm
   have no:runsR l room=false:=by rw[runsR,allB_at hx hp,Bool.false_and]
   rw[no]
   simp only[rB,eRun]at hm
   refine wk (J4 hx hlt hs eRun.eq_1) hm T0 T0
  ·rw[hp]at hm
   simp only[rB,eRun]at hm
   refine wk (J4 hx hlt hs eRun.eq_1) hm T0 (J2 ?_ T0)
   all_goals ((repeat intro h);refine⟨?_⟩)
   refine⟨l.length - (k+1),by omega,_,⟨k+1,rfl,by omega,allB_next ht hx hp,rfl⟩,?_⟩
   exact lz T0
 ·obtain rfl:k=l.length:=by omega
  rw[List.take_length]at ht
  have:runsR l room=decide ((l.length:Int)≤room):=by rw[runsR,ht,Bool.true_and]
  rw[this]
  refine wk T0 T0 T0 T0
def addR (l:List Run)(room:Int)(r:Run):List Run×Int:=if runMay r=false then(l,1)else if room≤(l.length:Int)then(l,10)else(l++[r],0)
def addC (j:Nat)(l:List Run)(room:Int)(r:Run):CV:=if(addR l room r).2=0 then eRuns (addR l room r).1 else .rowc j (l.map eRun)
def setR (l:List Run)(i:Int)(r:Run):List Run×Int:=if i<0∨(l.length:Int)≤i∨runMay r=false then(l,1)else(l.set i.toNat r,0)
def setC (j:Nat)(l:List Run)(i:Int)(r:Run):CV:=if(setR l i r).2=0 then eRuns (setR l i r).1 else .rowc j (l.map eRun)
end
section
def person0:Person:=⟨0,0,0,[],[],false⟩
def namesOK (l:List Person):Prop:=∀(i:Nat) (x:Person),l[i]?=some x→x.name=IntKind.u32.wrap (i:Int)
def namesB (l:List Person):Bool:=(List.range l.length).all fun i=>match l[i]? with
 |some x=>x.name==IntKind.u32.wrap (i:Int)
 |none=>true
theorem namesB_iff {l:List Person}:namesB l=true↔namesOK l:=by
 unfold namesB namesOK
 rw[List.all_eq_true]
 constructor
 ·intro h i x hx
  have:=h i (List.mem_range.2 (List.getElem?_eq_some_iff.1 hx).1)
  rw[hx]at this
  simpa using this
 ·intro h i hi
  cases hx:l[i]? with
  |none=>rfl
  |some x=>simpa using h i x hx
def rightPl (l:List Person):Bool:=namesB l&&decide (1<(l.length:Int)∧(l.length:Int)<8)
theorem q10_right (l:List Person):ACalls Tryz.prog 55 [.one (ePeople l)] (rB (rightPl l)):=by
 refine ACalls.introF (fn:=Tryz.f55) Tryz.func55 rfl rfl (by simp[Tryz.f55]) fun hf=>?_
 have hl:=(Fine.rowM (hf _ (by simp):FineCA (.one (ePeople l)))).1
 clear hf
 unfold Tryz.f55
 simp only[rB,ePeople]
 refine wk T0 T0 T0 (J2 ?_ T0)
 all_goals ((repeat intro h);refine⟨?_⟩)
 refine AW.loopW (fun n σ=>∃k:Nat,n=l.length - k∧k≤l.length∧(∀(i:Nat) (x:Person),i<k→l[i]?=some x→x.name=IntKind.u32.wrap (i:Int))∧σ=⟨26,(upd (upd (fun _=>.junk) 0 (.one (.c (.row (l.map ePerson))))) 3 (.one (.c (i64 k)))),(fun _=>none)⟩) (n:=l.length) _ ⟨0,rfl,Nat.zero_le _,fun i x h=>by omega,rfl⟩ (by exact lz T0) ?_
 rintro n σ ⟨k,rfl,hk,ht,rfl⟩
 by_cases hlt:k<l.length
 ·obtain⟨x,hx⟩:∃x,l[k]?=some x:=⟨_,List.getElem?_eq_getElem hlt⟩
  have hs:=wrapI (x:=(k:Int)+1) (by omega) (by omega)
  by_cases hp:x.name=IntKind.u32.wrap (k:Int)
  ·have hb:(x.name != IntKind.u32.wrap (k:Int))=false:=by simp[hp]
   refine wk (J5 hx hlt hs hb ePerson.eq_1) T0 T0 (J2 ?_ T0)
   all_goals ((repeat intro h);refine⟨?_⟩)
   refine⟨l.length - (k+1),by omega,_,⟨k+1,rfl,by omega,fun i y hi hy=>?_,rfl⟩,?_⟩
   ·rcases Nat.lt_succ_iff_lt_or_eq.1 hi with h|rfl
    ·exact ht i y h hy
    ·rw[hx]at hy;cases hy;exact hp
   ·exact lz T0
  ·have hb:(x.name != IntKind.u32.wrap (k:Int))=true:=by simp[hp]
   have no:rightPl l=false:=by
    have:namesB l=false:=by
     cases hn:namesB l with
     |false=>rfl
     |true=>exact absurd (namesB_iff.1 hn k x hx) hp
    rw[rightPl,this,Bool.false_and]
   rw[no]
   refine wk (J5 hx hlt hs hb ePerson.eq_1) T0 T0 T0
 ·obtain rfl:k=l.length:=by omega
  have yes:namesB l=true:=namesB_iff.2 fun i x hx=>ht i x (List.getElem?_eq_some_iff.1 hx).1 hx
  have:rightPl l=decide (1<(l.length:Int)∧(l.length:Int)<8):=by rw[rightPl,yes,Bool.true_and]
  rw[this]
  by_cases h1:1<(l.length:Int)
  ·have:decide (1<(l.length:Int)∧(l.length:Int)<8)=decide ((l.length:Int)<8):=by simp[h1]
   rw[this]
   refine wk h1 T0 T0 T0
  ·have:decide (1<(l.length:Int)∧(l.length:Int)<8)=false:=by simp[h1]
   rw[this]
   refine wk h1 T0 T0 T0
def getPl (l:List Person)(n:Int):Person×Bool:=match l.find? (fun p=>p.name==n)with
 |some p=>(p,true)
 |none=>(person0,false)
theorem find_next' {α:Type}{l:List α}{p:α→Bool}{k:Nat}{x:α}(ht:(l.take k).find? p=none)(hx:l[k]?=some x)(hp:p x=false):(l.take (k+1)).find? p=none:=by
 rw[List.take_add_one,hx,List.find?_append,ht]
 simp[hp]
theorem find_at' {α:Type}{l:List α}{p:α→Bool}{k:Nat}{x:α}(ht:(l.take k).find? p=none)(hx:l[k]?=some x)(hp:p x=true):l.find? p=some x:=by
 have hk:k<l.length:=(List.getElem?_eq_some_iff.1 hx).1
 conv=>lhs;rw[←List.take_append_drop k l]
 rw[List.find?_append,ht,List.drop_eq_getElem_cons hk]
 rw[List.getElem?_eq_getElem hk]at hx
 simp[Option.some.inj hx,hp]
theorem q10_get (l:List Person)(n:Int):ACalls Tryz.prog 68 [.one (ePeople l),.one (u32 n)] (.tup [.agg (ePerson (getPl l n).1),.one (bl (getPl l n).2)]):=by
 refine ACalls.introF (fn:=Tryz.f68) Tryz.func68 rfl rfl (by simp[Tryz.f68]) fun hf=>?_
 have hl:=(Fine.rowM (hf _ (by simp):FineCA (.one (ePeople l)))).1
 clear hf
 unfold Tryz.f68
 simp only[ePeople]
 refine wk T0 T0 T0 (J2 ?_ T0)
 all_goals ((repeat intro h);refine⟨?_⟩)
 refine AW.loopW (fun z σ=>∃k:Nat,z=l.length - k∧k≤l.length∧(l.take k).find? (fun p=>p.name==n)=none∧σ=⟨25,(upd (upd (upd (upd (fun _=>.junk) 0 (.one (.c (.row (l.map ePerson))))) 1 (.one (.c (u32 n)))) 4 (.one (.ptr 4 0))) 6 (.one (.c (i64 k)))),(upd (fun _=>none) 4 (some (.box [.c (u32 0),.c (u32 0),.c (u32 0),.nil,.nil,.c (bl false)])))⟩) (n:=l.length) _ ⟨0,rfl,Nat.zero_le _,by simp,rfl⟩ (by exact lz T0) ?_
 rintro z σ ⟨k,rfl,hk,ht,rfl⟩
 by_cases hlt:k<l.length
 ·obtain⟨x,hx⟩:∃x,l[k]?=some x:=⟨_,List.getElem?_eq_getElem hlt⟩
  have hs:=wrapI (x:=(k:Int)+1) (by omega) (by omega)
  cases hp:(x.name==n)
  ·refine wk (J5 hx hlt hs hp ePerson.eq_1) T0 T0 (J2 ?_ T0)
   all_goals ((repeat intro h);refine⟨?_⟩)
   refine⟨l.length - (k+1),by omega,_,⟨k+1,rfl,by omega,find_next' ht hx hp,rfl⟩,?_⟩
   exact lz T0
  ·have he:getPl l n=(x,true):=by rw[getPl,find_at' ht hx hp]
   rw[he]
   refine wk (J5 hx hlt hs hp ePerson.eq_1) T0 T0 T0
 ·obtain rfl:k=l.length:=by omega
  rw[List.take_length]at ht
  have he:getPl l n=(person0,false):=by rw[getPl,ht]
  rw[he]
  refine wk T0 T0 T0 (J2 ?_ T0)
  all_goals ((repeat intro h);refine⟨?_⟩)
  simp[ePerson,person0,eWords,eRuns]
def setPl (l:List Person)(p:Person):List Person×Int:=(l.map fun q=>if q.name=p.name then p else q,if l.any (fun q=>q.name==p.name)then 0 else 1)
theorem q10_set (j:Nat)(l:List Person)(p:Person)(hl:l.length<1000000):ACalls Tryz.prog 71 [.one (.rowc j (l.map ePerson)),.agg (ePerson p)] (.tup [.one (ePeople (setPl l p).1),.one (i64 (setPl l p).2)]):=by
 refine ACalls.intro (fn:=Tryz.f71) Tryz.func71 rfl rfl (by simp[Tryz.f71]) ?_
 unfold Tryz.f71
 simp only[ePeople,ePerson]
 refine wk T0 T0 T0 (J2 ?_ T0)
 all_goals ((repeat intro h);refine⟨?_⟩)
 refine AW.fresh 6 6 53 6 (by decide) rfl rfl ?_
 refine AW.loopW (fun z σ=>∃k:Nat,z=l.length - k∧k≤l.length∧σ=⟨36,(upd (upd (upd (upd (upd (fun _=>.junk) 0 (.one (.c (.rowc j (l.map ePerson))))) 3 (.one (.ptr 3 0))) 6 (.one (.own 6 k))) 7 (.one (.c (i64 (if(l.take k).any (fun q=>q.name==p.name)then 0 else 1))))) 8 (.one (.c (i64 k)))),(upd (upd (fun _=>none) 3 (some (.box [.c (u32 p.name),.c (u32 p.key),.c (u32 p.clock),.c (eWords p.used),.c (eRuns p.runs),.c (bl p.corrupt)]))) 6 (some (.rows 53 6 ((((l.take k).map fun q=>if q.name=p.name then p else q)).map ePerson))))⟩) (n:=l.length) _ ⟨0,rfl,Nat.zero_le _,rfl⟩ (by exact lz T0) ?_
 rintro z σ ⟨k,rfl,hk,rfl⟩
 by_cases hlt:k<l.length
 ·obtain⟨x,hx⟩:∃x,l[k]?=some x:=⟨_,List.getElem?_eq_getElem hlt⟩
  have hs:=wrapI (x:=(k:Int)+1) (by omega) (by omega)
  have hta:∀f:Person→Person,(l.take (k+1)).map f=(l.take k).map f++[f x]:=fun f=>by rw[List.take_add_one,hx];simp
  have htn:∀f:Person→Bool,(l.take (k+1)).any f=((l.take k).any f||f x):=fun f=>by rw[List.take_add_one,hx];simp[List.any_append]
  generalize hL:(l.take k).map (fun q=>if q.name=p.name then p else q)=L at *
  have hLl:L.length=k:=by rw[←hL];simp;omega
  by_cases hp:x.name=p.name
  ·have hb:(x.name==p.name)=true:=by simp[hp]
   generalize (if(l.take k).any (fun q=>q.name==p.name)then(0:Int)else 1)=e at *
   refine wk (J6 hx hlt hs hb hLl ePerson.eq_1) T0 T0 (J2 ?_ T0)
   all_goals ((repeat intro h);refine⟨?_⟩)
   refine⟨l.length - (k+1),by omega,_,⟨k+1,rfl,by omega,rfl⟩,?_⟩
   rw[hta,htn,hL]
   simp only[hp,if_true,beq_self_eq_true,Bool.or_true,List.map_append,List.map_cons,List.map_nil,ePerson.eq_1 p]
   exact lz hLl
  ·have hb:(x.name==p.name)=false:=by simp[hp]
   have hany:(if(l.take (k+1)).any (fun q=>q.name==p.name)then(0:Int)else 1)=(if(l.take k).any (fun q=>q.name==p.name)then 0 else 1):=by rw[htn,hb,Bool.or_false]
   generalize (if(l.take k).any (fun q=>q.name==p.name)then(0:Int)else 1)=e at *
   refine wk (J6 hx hlt hs hb hLl ePerson.eq_1) T0 T0 (J2 ?_ T0)
   all_goals ((repeat intro h);refine⟨?_⟩)
   refine⟨l.length - (k+1),by omega,_,⟨k+1,rfl,by omega,rfl⟩,?_⟩
   rw[hta,hany,hL]
   simp only[hp,if_false,List.map_append,List.map_cons,List.map_nil,ePerson.eq_1 x]
   exact lz hLl
 ·obtain rfl:k=l.length:=by omega
  rw[List.take_length]
  unfold setPl
  generalize hL:l.map (fun q=>if q.name=p.name then p else q)=L at *
  have hLl:L.length=l.length:=by rw[←hL];simp
  refine wk hLl T0 T0 T0
def pairPl (l:List Person)(a b:Int):Bool:=(getPl l a).2&&((getPl l b).2&&(a != b&&(decide (0<a)&&decide (0<b))))
theorem q10_pair (l:List Person)(a b:Int):ACalls Tryz.prog 25 [.one (ePeople l),.one (u32 a),.one (u32 b)] (rB (pairPl l a b)):=by
 refine ACalls.intro (fn:=Tryz.f25) Tryz.func25 rfl rfl (by simp[Tryz.f25]) ?_
 have ga:=q10_get l a
 have gb:=q10_get l b
 unfold Tryz.f25 pairPl
 generalize getPl l a=A at *
 generalize getPl l b=B at *
 obtain⟨x,okx⟩:=A
 obtain⟨y,oky⟩:=B
 simp only[ePeople,ePerson,rB]at *
 cases okx
 ·refine wk T0 (J2 ga gb) T0 T0
 ·cases oky
  ·refine wk T0 (J2 ga gb) T0 T0
  ·cases hab:(a != b)
   ·refine wk hab (J2 ga gb) T0 T0
   ·by_cases h0:0<a
    ·refine wk (J2 hab h0) (J2 ga gb) T0 T0
    ·refine wk (J2 hab h0) (J2 ga gb) T0 T0
end
section
def roomB (n:Int):Bool:=decide (0≤n∧n≤64)
theorem q12_room (n:Int):ACalls Tryz.prog 79 [.one (i64 n)] (rB (roomB n)):=by
 refine ACalls.intro (fn:=Tryz.f79) Tryz.func79 rfl rfl (by simp[Tryz.f79]) ?_
 unfold Tryz.f79
 simp only[rB]
 refine wk T0 T0 T0 (J3 ?_ ?_ T0)
 all_goals ((repeat intro h);refine⟨?_⟩)
 all_goals (refine rB_eq ?_;simp only[roomB,decide_eq_true_eq,decide_eq_false_iff_not,Bool.false_eq_true,iff_false,false_iff,not_and,not_true_eq_false]at *;omega)
def mayC (c:Conf):Bool:=decide (c.window≤1048576∧1≤c.people∧c.people≤6)&&(roomB c.box&&(roomB c.used&&(roomB c.runs&&(roomB c.net&&decide (1≤c.regs∧c.regs≤8)))))
theorem q12_may (c:Conf):ACalls Tryz.prog 52 [.agg (eConf c)] (rB (mayC c)):=by
 refine ACalls.intro (fn:=Tryz.f52) Tryz.func52 rfl rfl (by simp[Tryz.f52]) ?_
 have r1:=q12_room c.box
 have r2:=q12_room c.used
 have r3:=q12_room c.runs
 have r4:=q12_room c.net
 unfold Tryz.f52
 unfold mayC
 simp only[rB,eConf]at *
 by_cases h0:c.window≤1048576∧1≤c.people∧c.people≤6
 ·obtain⟨g1,g2,g3⟩:=h0
  rw[decide_eq_true ⟨g1,g2,g3⟩,Bool.true_and]
  cases b1:roomB c.box
  ·rw[b1]at r1
   refine wk (J3 g1 g2 g3) r1 T0 T0
  rw[b1]at r1
  cases b2:roomB c.used
  ·rw[b2]at r2
   refine wk (J3 g1 g2 g3) (J2 r1 r2) T0 T0
  rw[b2]at r2
  cases b3:roomB c.runs
  ·rw[b3]at r3
   refine wk (J3 g1 g2 g3) (J3 r1 r2 r3) T0 T0
  rw[b3]at r3
  cases b4:roomB c.net
  ·rw[b4]at r4
   refine wk (J3 g1 g2 g3) (J4 r1 r2 r3 r4) T0 T0
  rw[b4]at r4
  by_cases g4:1≤c.regs
  ·by_cases g5:c.regs≤8
   ·rw[decide_eq_true ⟨g4,g5⟩]
    refine wk (J5 g1 g2 g3 g4 g5) (J4 r1 r2 r3 r4) T0 T0
   ·rw[decide_eq_false (fun h=>g5 h.2)]
    refine wk (J5 g1 g2 g3 g4 g5) (J4 r1 r2 r3 r4) T0 T0
  ·rw[decide_eq_false (fun h=>g4 h.1)]
   refine wk (J4 g1 g2 g3 g4) (J4 r1 r2 r3 r4) T0 T0
 ·rw[decide_eq_false h0,Bool.false_and]
  by_cases g1:c.window≤1048576
  ·by_cases g2:1≤c.people
   ·have g3:¬c.people≤6:=fun h=>h0 ⟨g1,g2,h⟩
    refine wk (J3 g1 g2 g3) T0 T0 T0
   ·refine wk (J2 g1 g2) T0 T0 T0
  ·refine wk g1 T0 T0 T0
def shB (l:List Int):Bool:=decide ((l.length:Int)≤64)
def gramB (g:Gram):Bool:=decide ((g.words.length:Int)≤64)
def personB (c:Conf)(p:Person):Bool:=usedR p.used c.used&&(runsR p.runs c.runs&&decide (p.clock≤1073741824))
def formA (w:Wld):Bool:=mayC w.conf&&(rightB w.box&&(w.box.room==w.conf.box&&(rightN w.net&&w.net.room==w.conf.net)))
def formB (w:Wld):Bool:=rightPl w.people&&(decide ((w.people.length:Int)=w.conf.people+1)&&(decide ((w.regs.length:Int)=w.conf.regs)&&decide (0≤w.draws.next∧w.draws.next≤1048576)))
def formW (w:Wld):Bool:=formA w&&(formB w&&(w.people.all (personB w.conf)&&(w.regs.all shB&&(w.net.seen.all shB&&w.net.grams.all gramB))))
end
section
theorem q12_form (w:Wld):ACalls Tryz.prog 20 [.agg (eWld w)] (rB (formW w)):=by
 refine ACalls.introF (fn:=Tryz.f20) Tryz.func20 rfl rfl (by simp[Tryz.f20]) fun hf=>?_
 have hq0:=(hf (.agg (eWld w)) (by simp):FineCA (.agg (eWld w)))
 have lp:w.people.length≤9223372036854775807:=Fine.rowC (f:=ePerson) (k:=0) (hq0 (ePeople w.people) (by simp[eWld]))
 have lr:w.regs.length≤9223372036854775807:=Fine.rowC (f:=eSeen) (k:=0) (hq0 (eRows w.regs) (by simp[eWld]))
 have ls:w.net.seen.length≤9223372036854775807:=Fine.rowC (f:=eSeen) (k:=0) (hq0 (eRows w.net.seen) (by simp[eWld]))
 have lg:w.net.grams.length≤9223372036854775807:=Fine.rowC (f:=eGram) (k:=0) (hq0 (eGrams w.net.grams) (by simp[eWld]))
 clear hq0 hf
 have rm:=q12_may w.conf
 have rb:=q07_right w.box
 have rn:=q06_right w.net
 have rp:=q10_right w.people
 unfold Tryz.f20
 simp only[eWld,eConf,eBox,eNet,eSealeds,eGrams,ePeople,eEvents,eRows,eWords,eLeaks,rB]at *
 cases m1:mayC w.conf
 ·rw[m1]at rm
  rw[show formW w=false by simp[formW,formA,m1]]
  refine wk T0 rm T0 T0
 rw[m1]at rm
 cases m2:rightB w.box
 ·rw[m2]at rb
  rw[show formW w=false by simp[formW,formA,m2]]
  refine wk T0 (J2 rm rb) T0 T0
 rw[m2]at rb
 cases m3:(w.box.room==w.conf.box)
 ·have m3':(w.box.room != w.conf.box)=true:=by simpa using m3
  rw[show formW w=false by simp[formW,formA,m3]]
  refine wk m3' (J2 rm rb) T0 T0
 have m3':(w.box.room != w.conf.box)=false:=by simpa using m3
 cases m4:rightN w.net
 ·rw[m4]at rn
  rw[show formW w=false by simp[formW,formA,m4]]
  refine wk m3' (J3 rm rb rn) T0 T0
 rw[m4]at rn
 cases m5:(w.net.room==w.conf.net)
 ·have m5':(w.net.room != w.conf.net)=true:=by simpa using m5
  rw[show formW w=false by simp[formW,formA,m5]]
  refine wk (J2 m3' m5') (J3 rm rb rn) T0 T0
 have m5':(w.net.room != w.conf.net)=false:=by simpa using m5
 have hA:formA w=true:=by simp[formA,m1,m2,m3,m4,m5]
 have hcp:1≤w.conf.people∧w.conf.people≤6:=by
  unfold mayC at m1
  rw[Bool.and_eq_true,decide_eq_true_eq]at m1
  exact⟨m1.1.2.1,m1.1.2.2⟩
 have hw1:=wrapI (x:=w.conf.people+1) (by omega) (by omega)
 cases m6:rightPl w.people
 ·rw[m6]at rp
  rw[show formW w=false by simp[formW,formB,m6]]
  refine wk (J2 m3' m5') (J4 rm rb rn rp) T0 T0
 rw[m6]at rp
 by_cases m7:(w.people.length:Int)=w.conf.people+1
 rotate_left
 ·have m7':((w.people.length:Int) != w.conf.people+1)=true:=by simpa using m7
  rw[show formW w=false by simp[formW,formB,m7]]
  refine wk (J4 m3' m5' hw1 m7') (J4 rm rb rn rp) T0 T0
 have m7':((w.people.length:Int) != w.conf.people+1)=false:=by simpa using m7
 by_cases m8:(w.regs.length:Int)=w.conf.regs
 rotate_left
 ·have m8':((w.regs.length:Int) != w.conf.regs)=true:=by simpa using m8
  rw[show formW w=false by simp[formW,formB,m8]]
  refine wk (J5 m3' m5' hw1 m7' m8') (J4 rm rb rn rp) T0 T0
 have m8':((w.regs.length:Int) != w.conf.regs)=false:=by simpa using m8
 by_cases m9:w.draws.next<0
 ·rw[show formW w=false by
   have:decide (0≤w.draws.next∧w.draws.next≤1048576)=false:=decide_eq_false (by omega)
   simp[formW,formB,this]]
  refine wk (J6 m3' m5' hw1 m7' m8' m9) (J4 rm rb rn rp) T0 T0
 by_cases m10:1048576<w.draws.next
 ·rw[show formW w=false by
   have:decide (0≤w.draws.next∧w.draws.next≤1048576)=false:=decide_eq_false (by omega)
   simp[formW,formB,this]]
  refine wk (J7 m3' m5' hw1 m7' m8' m9 m10) (J4 rm rb rn rp) T0 T0
 have hB:formB w=true:=by
  have:decide (0≤w.draws.next∧w.draws.next≤1048576)=true:=decide_eq_true (by omega)
  unfold formB
  rw[m6,decide_eq_true m7,decide_eq_true m8,this];rfl
 have hW:formW w=(w.people.all (personB w.conf)&&(w.regs.all shB&&(w.net.seen.all shB&&w.net.grams.all gramB))):=by
  unfold formW;rw[hA,hB,Bool.true_and,Bool.true_and]
 rw[hW]
 clear hW hA hB m1 m2 m3 m4 m5 m6
 refine wk (J7 m3' m5' hw1 m7' m8' m9 m10) (J4 rm rb rn rp) T0 (J2 ?_ T0)
 all_goals ((repeat intro h);refine⟨?_⟩)
 clear rm rb rn rp m3' m5' hw1 m7' m8' m9 m10
 refine AW.loopW (fun n σ=>∃k:Nat,n=w.people.length - k∧k≤w.people.length∧(w.people.take k).all (personB w.conf)=true∧σ=⟨157,(upd (upd (fun _=>.junk) 1 (.one (.ptr 1 0))) 3 (.one (.c (i64 k)))),(upd (fun _=>none) 1 (some (.box ((eWld w).map .c))))⟩) (n:=w.people.length) _ ⟨0,rfl,Nat.zero_le _,rfl,rfl⟩ (by simp only[eWld,eSealeds,eGrams,ePeople,eEvents,eRows,eWords,eLeaks,List.map_cons,List.map_nil];exact lz T0) ?_
 rintro n σ ⟨k,rfl,hk,ht,rfl⟩
 simp only[eWld,eSealeds,eGrams,ePeople,eEvents,eRows,eWords,eLeaks,List.map_cons,List.map_nil]
 by_cases hlt:k<w.people.length
 ·obtain⟨x,hx⟩:∃x,w.people[k]?=some x:=⟨_,List.getElem?_eq_getElem hlt⟩
  have hs:=wrapI (x:=(k:Int)+1) (by omega) (by omega)
  have ru:=q08_right x.used w.conf.used
  have rr:=q09_right x.runs w.conf.runs
  simp only[eWords,eRuns,rB]at ru rr
  cases p1:usedR x.used w.conf.used
  ·rw[p1]at ru
   rw[allB_at hx (show personB w.conf x=false by simp[personB,p1]),Bool.false_and]
   refine wk (J5 hx hlt ePerson.eq_1 eWords.eq_1 eRuns.eq_1) ru T0 T0
  rw[p1]at ru
  cases p2:runsR x.runs w.conf.runs
  ·rw[p2]at rr
   rw[allB_at hx (show personB w.conf x=false by simp[personB,p2]),Bool.false_and]
   refine wk (J5 hx hlt ePerson.eq_1 eWords.eq_1 eRuns.eq_1) (J2 ru rr) T0 T0
  rw[p2]at rr
  by_cases p3:1073741824<x.clock
  ·have p3':decide (x.clock≤1073741824)=false:=decide_eq_false (by omega)
   rw[allB_at hx (show personB w.conf x=false by simp only[personB,p3',Bool.and_false]),Bool.false_and]
   refine wk (J6 hx hlt p3 ePerson.eq_1 eWords.eq_1 eRuns.eq_1) (J2 ru rr) T0 T0
  ·have p3':decide (x.clock≤1073741824)=true:=decide_eq_true (by omega)
   refine wk (J7 hx hlt p3 hs ePerson.eq_1 eWords.eq_1 eRuns.eq_1) (J2 ru rr) T0 (J2 ?_ T0)
   all_goals ((repeat intro h);refine⟨?_⟩)
   refine⟨w.people.length - (k+1),by omega,_,⟨k+1,rfl,by omega,allB_next ht hx (by simp only[personB,p1,p2,p3',Bool.and_true]),rfl⟩,?_⟩
   try simp only[eWld,eSealeds,eGrams,ePeople,eEvents,eRows,eWords,eLeaks,List.map_cons,List.map_nil]
   exact lz T0
 obtain rfl:k=w.people.length:=by omega
 rw[List.take_length]at ht
 rw[ht,Bool.true_and]
 refine wk T0 T0 T0 (J2 ?_ T0)
 all_goals ((repeat intro h);refine⟨?_⟩)
 clear ht hk hlt
 refine AW.loopW (fun n σ=>∃k:Nat,n=w.regs.length - k∧k≤w.regs.length∧(w.regs.take k).all shB=true∧σ=⟨157,(upd (upd (fun _=>.junk) 1 (.one (.ptr 1 0))) 5 (.one (.c (i64 k)))),(upd (fun _=>none) 1 (some (.box ((eWld w).map .c))))⟩) (n:=w.regs.length) _ ⟨0,rfl,Nat.zero_le _,rfl,rfl⟩ (by simp only[eWld,eSealeds,eGrams,ePeople,eEvents,eRows,eWords,eLeaks,List.map_cons,List.map_nil];exact lz T0) ?_
 rintro n σ ⟨k,rfl,hk,ht,rfl⟩
 simp only[eWld,eSealeds,eGrams,ePeople,eEvents,eRows,eWords,eLeaks,List.map_cons,List.map_nil]
 by_cases hlt:k<w.regs.length
 ·obtain⟨x,hx⟩:∃x,w.regs[k]?=some x:=⟨_,List.getElem?_eq_getElem hlt⟩
  have hs:=wrapI (x:=(k:Int)+1) (by omega) (by omega)
  by_cases p3:(64:Int)<(x.length:Int)
  ·rw[allB_at hx (show shB x=false from decide_eq_false (by omega)),Bool.false_and]
   refine wk (J5 hx hlt p3 eSeen.eq_1 eWords.eq_1) T0 T0 T0
  ·refine wk (J6 hx hlt p3 hs eSeen.eq_1 eWords.eq_1) T0 T0 (J2 ?_ T0)
   all_goals ((repeat intro h);refine⟨?_⟩)
   refine⟨w.regs.length - (k+1),by omega,_,⟨k+1,rfl,by omega,allB_next ht hx (show shB x=true from decide_eq_true (by omega)),rfl⟩,?_⟩
   try simp only[eWld,eSealeds,eGrams,ePeople,eEvents,eRows,eWords,eLeaks,List.map_cons,List.map_nil]
   exact lz T0
 obtain rfl:k=w.regs.length:=by omega
 rw[List.take_length]at ht
 rw[ht,Bool.true_and]
 refine wk T0 T0 T0 (J2 ?_ T0)
 all_goals ((repeat intro h);refine⟨?_⟩)
 clear ht hk hlt
 refine AW.loopW (fun n σ=>∃k:Nat,n=w.net.seen.length - k∧k≤w.net.seen.length∧(w.net.seen.take k).all shB=true∧σ=⟨157,(upd (upd (fun _=>.junk) 1 (.one (.ptr 1 0))) 6 (.one (.c (i64 k)))),(upd (fun _=>none) 1 (some (.box ((eWld w).map .c))))⟩) (n:=w.net.seen.length) _ ⟨0,rfl,Nat.zero_le _,rfl,rfl⟩ (by simp only[eWld,eSealeds,eGrams,ePeople,eEvents,eRows,eWords,eLeaks,List.map_cons,List.map_nil];exact lz T0) ?_
 rintro n σ ⟨k,rfl,hk,ht,rfl⟩
 simp only[eWld,eSealeds,eGrams,ePeople,eEvents,eRows,eWords,eLeaks,List.map_cons,List.map_nil]
 by_cases hlt:k<w.net.seen.length
 ·obtain⟨x,hx⟩:∃x,w.net.seen[k]?=some x:=⟨_,List.getElem?_eq_getElem hlt⟩
  have hs:=wrapI (x:=(k:Int)+1) (by omega) (by omega)
  by_cases p3:(64:Int)<(x.length:Int)
  ·rw[allB_at hx (show shB x=false from decide_eq_false (by omega)),Bool.false_and]
   refine wk (J5 hx hlt p3 eSeen.eq_1 eWords.eq_1) T0 T0 T0
  ·refine wk (J6 hx hlt p3 hs eSeen.eq_1 eWords.eq_1) T0 T0 (J2 ?_ T0)
   all_goals ((repeat intro h);refine⟨?_⟩)
   refine⟨w.net.seen.length - (k+1),by omega,_,⟨k+1,rfl,by omega,allB_next ht hx (show shB x=true from decide_eq_true (by omega)),rfl⟩,?_⟩
   try simp only[eWld,eSealeds,eGrams,ePeople,eEvents,eRows,eWords,eLeaks,List.map_cons,List.map_nil]
   exact lz T0
 obtain rfl:k=w.net.seen.length:=by omega
 rw[List.take_length]at ht
 rw[ht,Bool.true_and]
 refine wk T0 T0 T0 (J2 ?_ T0)
 all_goals ((repeat intro h);refine⟨?_⟩)
 clear ht hk hlt
 refine AW.loopW (fun n σ=>∃k:Nat,n=w.net.grams.length - k∧k≤w.net.grams.length∧(w.net.grams.take k).all gramB=true∧σ=⟨157,(upd (upd (fun _=>.junk) 1 (.one (.ptr 1 0))) 7 (.one (.c (i64 k)))),(upd (fun _=>none) 1 (some (.box ((eWld w).map .c))))⟩) (n:=w.net.grams.length) _ ⟨0,rfl,Nat.zero_le _,rfl,rfl⟩ (by simp only[eWld,eSealeds,eGrams,ePeople,eEvents,eRows,eWords,eLeaks,List.map_cons,List.map_nil];exact lz T0) ?_
 rintro n σ ⟨k,rfl,hk,ht,rfl⟩
 simp only[eWld,eSealeds,eGrams,ePeople,eEvents,eRows,eWords,eLeaks,List.map_cons,List.map_nil]
 by_cases hlt:k<w.net.grams.length
 ·obtain⟨x,hx⟩:∃x,w.net.grams[k]?=some x:=⟨_,List.getElem?_eq_getElem hlt⟩
  have hs:=wrapI (x:=(k:Int)+1) (by omega) (by omega)
  by_cases p3:(64:Int)<(x.words.length:Int)
  ·rw[allB_at hx (show gramB x=false from decide_eq_false (by omega))]
   refine wk (J5 hx hlt p3 eGram.eq_1 eWords.eq_1) T0 T0 T0
  ·refine wk (J6 hx hlt p3 hs eGram.eq_1 eWords.eq_1) T0 T0 (J2 ?_ T0)
   all_goals ((repeat intro h);refine⟨?_⟩)
   refine⟨w.net.grams.length - (k+1),by omega,_,⟨k+1,rfl,by omega,allB_next ht hx (show gramB x=true from decide_eq_true (by omega)),rfl⟩,?_⟩
   try simp only[eWld,eSealeds,eGrams,ePeople,eEvents,eRows,eWords,eLeaks,List.map_cons,List.map_nil]
   exact lz T0
 obtain rfl:k=w.net.grams.length:=by omega
 rw[List.take_length]at ht
 rw[ht]
 refine wk T0 T0 T0 T0
end
section
def bitI (w:Int):Int:=if w<2147483648 then w+2147483648 else w
def farI (i:Int):Int:=IntKind.u32.wrap (BitVec.ofInt 32 1073741824 ||| BitVec.ofInt 32 (IntKind.u32.wrap i)).toNat
def dAt (l:List Int)(i:Nat):Int:=bitI (match l[i]? with|some w=>w|none=>farI i)
theorem u32_range (x:Int):0≤IntKind.u32.wrap x∧IntKind.u32.wrap x<4294967296:=by rw[IntKind.wrap_u32];omega
theorem q04_at (d:Draws)(i:Nat)(hi:(i:Int)≤9223372036854775807):ACalls Tryz.prog 104 [.agg (eDraws d),.one (i64 i)] (.one (.one (u32 (dAt d.list i)))):=by
 refine ACalls.introF (fn:=Tryz.f104) Tryz.func104 rfl rfl (by simp[Tryz.f104]) fun hf=>?_
 have hl:=fineWords ((hf _ (by simp):FineCA (.agg (eDraws d))) (eWords d.list) (by simp[eDraws]))
 clear hf
 obtain⟨l,nx⟩:=d
 simp only at hl
 unfold Tryz.f104
 simp only[eDraws,eWords]
 by_cases hlt:i<l.length
 ·obtain⟨x,hx⟩:∃x,l[i]?=some x:=⟨_,List.getElem?_eq_getElem hlt⟩
  have hli:(i:Int)<(l.length:Int):=by omega
  obtain⟨h0,h1⟩:=hl.2 x (List.mem_of_getElem? hx)
  by_cases hb:x<2147483648
  ·have hw:IntKind.u32.wrap (x+2147483648)=x+2147483648:=IntWalk.u32_in _ (by omega)
   refine wk (J6 hx hlt hli hb hw eWord.eq_1) T0 T0 (J2 ?_ T0)
   all_goals ((repeat intro h);refine⟨?_⟩)
   simp[dAt,hx,bitI,hb]
  ·refine wk (J5 hx hlt hli hb eWord.eq_1) T0 T0 (J2 ?_ T0)
   all_goals ((repeat intro h);refine⟨?_⟩)
   simp[dAt,hx,bitI,hb]
 ·have hli:¬(i:Int)<(l.length:Int):=by omega
  have hn:l[i]?=none:=List.getElem?_eq_none (by omega)
  have hr:0≤farI i∧farI i<4294967296:=u32_range _
  by_cases hb:farI i<2147483648
  ·have hw:IntKind.u32.wrap (farI i+2147483648)=farI i+2147483648:=IntWalk.u32_in _ (by omega)
   have he:dAt l i=farI i+2147483648:=by simp[dAt,hn,bitI,hb]
   rw[he]
   refine wk hli T0 T0 (J3 ?_ ?_ T0)
   all_goals ((repeat intro h);refine⟨?_⟩)
   ·exact congrArg (fun z=>RV.one (CA.one (u32 z))) hw
   ·exact absurd hb (Int.not_lt.2 h)
  ·have he:dAt l i=farI i:=by simp[dAt,hn,bitI,hb]
   rw[he]
   refine wk hli T0 T0 (J3 ?_ ?_ T0)
   all_goals ((repeat intro h);refine⟨?_⟩)
   ·exact absurd h hb
   ·rfl
theorem q04_take (d:Draws)(i:Nat)(hd:d.next=i)(hi:(i:Int)<1000000000):ACalls Tryz.prog 70 [.agg (eDraws d)] (.tup [.agg (eDraws ⟨d.list,((i+1:Nat):Int)⟩),.one (u32 (dAt d.list i))]):=by
 refine ACalls.intro (fn:=Tryz.f70) Tryz.func70 rfl rfl (by simp[Tryz.f70]) ?_
 have ha:=q04_at d i (by omega)
 obtain⟨l,nx⟩:=d
 simp only at hd
 subst hd
 have hw:IntKind.i64.wrap ((i:Int)+1)=((i+1:Nat):Int):=by rw[wrapI (by omega) (by omega)];omega
 unfold Tryz.f70
 simp only[eDraws,eWords]at *
 refine wk hw ha T0 T0
theorem q04_same (a b:Draws):ACalls Tryz.prog 32 [.agg (eDraws a),.agg (eDraws b)] (rB (decide (a=b))):=by
 refine ACalls.intro (fn:=Tryz.f32) Tryz.func32 rfl rfl (by simp[Tryz.f32]) ?_
 obtain⟨l,n⟩:=a
 obtain⟨l',n'⟩:=b
 have hs:=q01_same l l'
 unfold Tryz.f32
 by_cases hn:n=n'
 ·subst hn
  have:decide ((⟨l,n⟩:Draws)=⟨l',n⟩)=decide (l=l'):=by simp
  rw[this]
  generalize decide (l=l')=e at *
  simp only[eDraws,eWords,rB]at *
  refine wkx T0 hs T0 T0
 ·have hb:(n==n')=false:=by simpa using hn
  have:decide ((⟨l,n⟩:Draws)=⟨l',n'⟩)=false:=by simp[hn]
  rw[this]
  simp only[eDraws,eWords,rB]at *
  refine wk hb T0 T0 T0
end
end Go.Proofs.YtaoijgapnmmpoaaGreatDoor.Abs
section
namespace Go.Proofs.YtaoijgapnmmpoaaGreatDoor
open Go.RowKit
def sameB (A B:List Int):Bool:=decide (A=B)
theorem tags {t:Int}(h:2≤t∧t≤7):t=2∨t=3∨t=4∨t=5∨t=6∨t=7:=by omega
theorem mayM_noKind {m:M7}(h:isKindB m.kind=false):mayM m=false:=by unfold mayM;rw[h];rfl
theorem mayM_no {m:M7}{t:Int}(ht:2≤t∧t≤7)(h:fitsM m t=false):mayM m=false:=by
 rcases tags ht with rfl|rfl|rfl|rfl|rfl|rfl<;>simp[mayM,h]
theorem mayM_yes {m:M7}(hk:isKindB m.kind=true)(h:∀t:Int,2≤t→t<8→fitsM m t=true):mayM m=true:=by
 simp[mayM,hk,h 2 (by omega) (by omega),h 3 (by omega) (by omega),h 4 (by omega) (by omega),h 5 (by omega) (by omega),h 6 (by omega) (by omega),h 7 (by omega) (by omega)]
theorem fits_has {m:M7}{t:Int}(h:hasT m.kind t=true):fitsM m t=true:=by simp[fitsM,h]
theorem fits_zero {m:M7}{t:Int}(h:m.word t=0):fitsM m t=true:=by simp[fitsM,h]
theorem fits_not {m:M7}{t:Int}(h:hasT m.kind t=false)(h0:m.word t≠0):fitsM m t=false:=by simp[fitsM,h,h0]
theorem fits_next {m:M7}{t:Int}(H:∀j:Int,2≤j→j<t→fitsM m j=true)(h:fitsM m t=true):∀j:Int,2≤j→j<t+1→fitsM m j=true:=by
 intro j h1 h2
 by_cases e:j=t
 ·subst e;exact h
 ·exact H j h1 (by omega)
def putL (m:M7):List Int:=if mayM m then putM m else[]
def putE (m:M7):Int:=if mayM m then 0 else 1
theorem hasT_noKind {k t:Int}(h:isKindB k=false):hasT k t=false:=by
 have h':=of_decide_eq_false h
 unfold hasT kindTags
 rw[if_neg (by omega),if_neg (by omega),if_neg (by omega),if_neg (by omega),if_neg (by omega),if_neg (by omega),if_neg (by omega),if_neg (by omega),if_neg (by omega)]
 simp
theorem getM_err {A:List Int}(h:(getF A).2≠0):getM A=(zeroM,(getF A).2):=by unfold getM;rw[if_neg h]
theorem getM_ok {A:List Int}(h:(getF A).2=0):getM A=finM (getF A).1:=by unfold getM;rw[if_pos h]
theorem finM_bad {f:Fld}{R:List Fld}(h:headOk f=false):finM (f::R)=(zeroM,4):=by simp only[finM];rw[if_neg (by simp[h])]
theorem finM_no {f:Fld}{R:List Fld}(h:headOk f=true)(hw:okW (f.2.getD 0 0) R=false):finM (f::R)=(zeroM,2):=by simp only[finM];rw[if_pos h,if_neg (by rw[hw];decide)]
theorem finM_yes {f:Fld}{R:List Fld}(h:headOk f=true)(hw:okW (f.2.getD 0 0) R=true):finM (f::R)=(msgOf (f.2.getD 0 0) R,0):=by simp only[finM];rw[if_pos h,if_pos hw]
theorem getF_len {A:List Int}(h0:∀x∈A,0≤x):(getF A).1.length≤1000:=by
 rcases getF_read A h0 with⟨_,h2,_⟩|⟨h,_⟩|⟨h,_⟩
 ·by_cases hA:64<A.length
  ·unfold getF;rw[if_pos hA];simp
  ·have hl:∀F:List Fld,F.length≤(flatF F).length:=by
    intro F
    induction F with
    |nil=>simp
    |cons f F ih=>rw[flatF_cons];simp;omega
   have:=hl (getF A).1
   rw[h2]at this
   omega
 ·rw[h];simp
 ·rw[h];simp
def setF (m:M7)(f:Fld):M7:=m.set f.1 (f.2.getD 0 0)
def onlyK (k:Int):M7:=⟨k,0,0,0,0,0,0⟩
def foldM (k:Int)(R:List Fld):M7:=R.foldl setF (onlyK k)
theorem set_kind (m:M7)(t v:Int):(m.set t v).kind=m.kind:=by
 unfold M7.set;repeat' split
 all_goals rfl
theorem foldl_kind (R:List Fld):∀m:M7,(R.foldl setF m).kind=m.kind:=by
 induction R with
 |nil=>intro m;rfl
 |cons f R ih=>intro m;rw[List.foldl_cons,ih];exact set_kind m _ _
theorem foldM_kind (k:Int)(R:List Fld):(foldM k R).kind=k:=foldl_kind R _
theorem set_word {m:M7}{s t v:Int}(hs:2≤s∧s≤7)(ht:2≤t∧t≤7):(m.set s v).word t=if s=t then v else m.word t:=by
 rcases tags hs with rfl|rfl|rfl|rfl|rfl|rfl<;>rcases tags ht with rfl|rfl|rfl|rfl|rfl|rfl<;>simp[M7.set,M7.word]
theorem foldl_fits {k t:Int}(ht:2≤t∧t≤7)(hn:hasT k t=false)(R:List Fld):∀m:M7,(∀f∈R,hasT k f.1=true)→m.word t=0→(R.foldl setF m).word t=0:=by
 induction R with
 |nil=>intro m _ h;exact h
 |cons f R ih=>
  intro m h h0
  rw[List.foldl_cons]
  refine ih _ (fun g hg=>h g (by simp[hg])) ?_
  have hf:=h f (by simp)
  have hr:2≤f.1∧f.1≤7:=kindTags_ok k f.1 (of_decide_eq_true hf)
  unfold setF
  rw[set_word hr ht,if_neg (fun e=>by rw[e,hn]at hf;cases hf)]
  exact h0
theorem foldM_may {k:Int}{R:List Fld}(hk:isKindB k=true)(h:∀f∈R,hasT k f.1=true):mayM (foldM k R)=true:=by
 refine mayM_yes (by rw[foldM_kind];exact hk) fun t h2 h8=>?_
 by_cases hh:hasT k t=true
 ·exact fits_has (by rw[foldM_kind];exact hh)
 ·refine fits_zero (foldl_fits ⟨h2,by omega⟩ (by simpa using hh) R _ h ?_)
  rcases tags (show 2≤t∧t≤7 by omega)with rfl|rfl|rfl|rfl|rfl|rfl<;>rfl
theorem fold_tagFields {m:M7}(h:mayM m=true):foldM m.kind (tagFields m)=m:=by
 obtain⟨f2,f3,f4,f5,f6,f7⟩:=mayM_fits h
 have hk:=kinds (mayM_kind h)
 obtain⟨k,r,a,b,n,x,o⟩:=m
 simp only at hk
 rcases hk with rfl|rfl|rfl|rfl|rfl|rfl|rfl|rfl|rfl <;>
  simp[fitsM,hasT,kindTags,M7.word]at f2 f3 f4 f5 f6 f7<;>simp[foldM,onlyK,setF,M7.set,tagFields,kindTags,M7.word, *]
theorem okW_has {k:Int}{R:List Fld}(h:okW k R=true):∀f∈R,f.2.length=1∧hasT k f.1=true:=by
 obtain⟨h1,h2⟩:=of_decide_eq_true h
 intro f hf
 refine⟨h2 f hf,decide_eq_true ?_⟩
 rw[←h1]
 exact List.mem_map_of_mem hf
theorem ref_fin {k:Int}{R:List Fld}(hk:isKindB k=true)(h:∀f∈R,hasT k f.1=true)(l:List Int)(hl:flatF ((1,[k])::R)=l):finM ((1,[k])::R)=if sameB (putL (foldM k R)) l then(foldM k R,0)else(zeroM,2):=by
 have hmay:=foldM_may hk h
 have hput:putL (foldM k R)=flatF ((1,[k])::tagFields (foldM k R)):=by
  unfold putL;rw[if_pos hmay];unfold putM fieldsM;rw[foldM_kind]
 by_cases ho:okW k R=true
 ·obtain⟨h1,h2⟩:=okW_fields hk ho
  have hf:foldM k R=msgOf k R:=by
   have:=fold_tagFields h2
   rw[h1]at this
   exact this
  have hs:sameB (putL (foldM k R)) l=true:=decide_eq_true (by rw[hput,hf,h1,hl])
  rw[if_pos hs,finM_yes (headOk_kind hk) ho,hf];rfl
 ·have hs:sameB (putL (foldM k R)) l=false:=by
   refine decide_eq_false fun e=>ho ?_
   rw[hput,←hl]at e
   have e2:=(List.cons.inj (flatF_inj _ _ e)).2
   have:=okW_tagFields (foldM k R)
   rw[foldM_kind,e2]at this
   exact this
  rw[finM_no (headOk_kind hk) (by simpa using ho),hs];rfl
theorem ref_fin_no {k:Int}{R:List Fld}(hk:isKindB k=true){f:Fld}(hf:f∈R)(h:¬(f.2.length=1∧hasT k f.1=true)):finM ((1,[k])::R)=(zeroM,2):=by
 refine finM_no (headOk_kind hk) ?_
 cases ho:okW k R with
 |false=>exact ho
 |true=>exact absurd (okW_has ho f hf) h
end Go.Proofs.YtaoijgapnmmpoaaGreatDoor
end
namespace Go.Proofs.YtaoijgapnmmpoaaGreatDoor.Abs
open Go.RowKit
section
theorem bne_lit {t c:Int}(h:t≠c):(t==c)=false:=by rw[beq_eq_false_iff_ne];exact h
theorem q03_has (k t:Int):ACalls Tryz.prog 43 [.one (u32 k),.one (u32 t)] (rB (hasT k t)):=by
 refine ACalls.intro (fn:=Tryz.f43) Tryz.func43 rfl rfl (by simp[Tryz.f43]) ?_
 unfold Tryz.f43
 simp only[rB]
 by_cases hk:isKindB k=true
 ·rcases kinds hk with rfl|rfl|rfl|rfl|rfl|rfl|rfl|rfl|rfl<;>clear hk
  all_goals repeat' (first
  | (refine hK _ _ ?_;clear hK hC;clear K C)
  | (refine hK _ _ rfl ?_;clear hK hC;clear K C)
  | (refine hK _ _ (by simp only[crs,crsI,alfO,alfL,Nat.reduceLT];rfl) ?_;clear hK hC;clear K C)
  | (refine AW.seqR fun K C hK hC=>?_;simp only[go_sem,↓reduceIte,reduceCtorEq,Nat.reduceLT,Nat.reduceEqDiff,Nat.reduceBEq,Nat.reduceAdd,Nat.reduceSub,Nat.reduceMul,Nat.reduceLeDiff,Int.reduceLE,Int.reduceLT,Int.reduceNeg,Int.reduceEq,Int.reduceBEq,Int.reduceBNe,Int.reduceToNat])
  | (refine AW.seqD rfl fun K C hK hC=>?_;simp only[go_sem,↓reduceIte,reduceCtorEq,Nat.reduceLT,Nat.reduceEqDiff,Nat.reduceBEq,Nat.reduceAdd,Nat.reduceSub,Nat.reduceMul,Nat.reduceLeDiff,Int.reduceLE,Int.reduceLT,Int.reduceNeg,Int.reduceEq,Int.reduceBEq,Int.reduceBNe,Int.reduceToNat])
  | (refine AW.reg fun K C hK hC=>?_;simp only[go_sem,↓reduceIte,reduceCtorEq,Nat.reduceLT,Nat.reduceEqDiff,Nat.reduceBEq,Nat.reduceAdd,Nat.reduceSub,Nat.reduceMul,Nat.reduceLeDiff,Int.reduceLE,Int.reduceLT,Int.reduceNeg,Int.reduceEq,Int.reduceBEq,Int.reduceBNe,Int.reduceToNat])
  | (refine AW.regD rfl fun K C hK hC=>?_;simp only[go_sem,↓reduceIte,reduceCtorEq,Nat.reduceLT,Nat.reduceEqDiff,Nat.reduceBEq,Nat.reduceAdd,Nat.reduceSub,Nat.reduceMul,Nat.reduceLeDiff,Int.reduceLE,Int.reduceLT,Int.reduceNeg,Int.reduceEq,Int.reduceBEq,Int.reduceBNe,Int.reduceToNat])
  |refine AW.seqS ?_
  | (refine AW.ret ?_;simp only[go_sem,↓reduceIte,reduceCtorEq,Nat.reduceLT,Nat.reduceEqDiff,Nat.reduceBEq,Nat.reduceAdd,Nat.reduceSub,Nat.reduceMul,Nat.reduceLeDiff,Int.reduceLE,Int.reduceLT,Int.reduceNeg,Int.reduceEq,Int.reduceBEq,Int.reduceBNe,Int.reduceToNat])
  | (refine AW.cond rfl (fun h=>?_) (fun h=>?_)<;>(try simp only[decide_eq_true_eq,decide_eq_false_iff_not,bne_iff_ne,beq_iff_eq,bne_eq_false_iff_eq,beq_eq_false_iff_ne,ne_eq,ge_iff_le,gt_iff_lt,Bool.not_eq_true,Bool.not_eq_false,Bool.not_not,Bool.not_true,Bool.not_false,Int.not_le,Int.not_lt,not_true_eq_false,not_false_eq_true,reduceCtorEq,Bool.false_eq_true,Bool.not_eq_true',Bool.not_eq_false']at h)<;>first|(exfalso;omega)|skip)
  |refine AW.skip ?_
  |refine AW.seq ?_
  |refine AW.block ?_
  | (refine AW.exit ?_;simp only[go_sem,↓reduceIte,reduceCtorEq,Nat.reduceLT,Nat.reduceEqDiff,Nat.reduceBEq,Nat.reduceAdd,Nat.reduceSub,Nat.reduceMul,Nat.reduceLeDiff,Int.reduceLE,Int.reduceLT,Int.reduceNeg,Int.reduceEq,Int.reduceBEq,Int.reduceBNe,Int.reduceToNat])
  | (refine ite_on (fun h=>?_) (fun h=>?_)<;>(try simp only[decide_eq_true_eq,decide_eq_false_iff_not,bne_iff_ne,beq_iff_eq,bne_eq_false_iff_eq,beq_eq_false_iff_ne,ne_eq,ge_iff_le,gt_iff_lt,Bool.not_eq_true,Bool.not_eq_false,Bool.not_not,Bool.not_true,Bool.not_false,Int.not_le,Int.not_lt,not_true_eq_false,not_false_eq_true,reduceCtorEq,Bool.false_eq_true,Bool.not_eq_true',Bool.not_eq_false']at h)<;>first|(exfalso;omega)|skip)
  |rw[thenN]
  |rw[blockN]
  |rw[scopeN]
  |refine AW.scope ?_
  |refine AW.label ?_
  |refine And.intro ?_ ?_
  |refine lcons rfl ?_
  |exact lGram _
  |exact lSeen _
  |exact lWord _
  |exact lSealed _
  |exact lRun _
  |exact lPerson _
  |exact lEvent _
  |exact lLeak _
  |exact lNum _
  |exact lOprn _
  |exact in64 (by omega) (by omega)
  |exact in32 (by omega) (by omega)
  |omega)
  all_goals (refine rB_eq ?_;simp[hasT,kindTags];try omega)
 ·have hk':isKindB k=false:=by simpa using hk
  have hn:=of_decide_eq_false hk'
  rw[hasT_noKind hk']
  have n1:=bne_lit (t:=k) (c:=1) (by omega)
  have n2:=bne_lit (t:=k) (c:=2) (by omega)
  have n3:=bne_lit (t:=k) (c:=3) (by omega)
  have n4:=bne_lit (t:=k) (c:=4) (by omega)
  have n5:=bne_lit (t:=k) (c:=5) (by omega)
  have n6:=bne_lit (t:=k) (c:=6) (by omega)
  have n7:=bne_lit (t:=k) (c:=7) (by omega)
  have n8:=bne_lit (t:=k) (c:=8) (by omega)
  have n9:=bne_lit (t:=k) (c:=9) (by omega)
  refine wk (J9 n1 n2 n3 n4 n5 n6 n7 n8 n9) T0 T0 T0
theorem q03_word (m:Mssg)(t:Int)(ht:2≤t∧t≤7):ACalls Tryz.prog 58 [.agg (eMssg m),.one (u32 t)] (.one (.one (u32 (m.word t)))):=by
 refine ACalls.intro (fn:=Tryz.f58) Tryz.func58 rfl rfl (by simp[Tryz.f58]) ?_
 unfold Tryz.f58 eMssg
 rcases tags ht with rfl|rfl|rfl|rfl|rfl|rfl<;>clear ht
 all_goals repeat' (first
  | (refine hK _ _ ?_;clear hK hC;clear K C)
  | (refine hK _ _ rfl ?_;clear hK hC;clear K C)
  | (refine hK _ _ (by simp only[crs,crsI,alfO,alfL,Nat.reduceLT];rfl) ?_;clear hK hC;clear K C)
  | (refine AW.seqR fun K C hK hC=>?_;simp only[go_sem,↓reduceIte,reduceCtorEq,Nat.reduceLT,Nat.reduceEqDiff,Nat.reduceBEq,Nat.reduceAdd,Nat.reduceSub,Nat.reduceMul,Nat.reduceLeDiff,Int.reduceLE,Int.reduceLT,Int.reduceNeg,Int.reduceEq,Int.reduceBEq,Int.reduceBNe,Int.reduceToNat])
  | (refine AW.seqD rfl fun K C hK hC=>?_;simp only[go_sem,↓reduceIte,reduceCtorEq,Nat.reduceLT,Nat.reduceEqDiff,Nat.reduceBEq,Nat.reduceAdd,Nat.reduceSub,Nat.reduceMul,Nat.reduceLeDiff,Int.reduceLE,Int.reduceLT,Int.reduceNeg,Int.reduceEq,Int.reduceBEq,Int.reduceBNe,Int.reduceToNat])
  | (refine AW.reg fun K C hK hC=>?_;simp only[go_sem,↓reduceIte,reduceCtorEq,Nat.reduceLT,Nat.reduceEqDiff,Nat.reduceBEq,Nat.reduceAdd,Nat.reduceSub,Nat.reduceMul,Nat.reduceLeDiff,Int.reduceLE,Int.reduceLT,Int.reduceNeg,Int.reduceEq,Int.reduceBEq,Int.reduceBNe,Int.reduceToNat])
  | (refine AW.regD rfl fun K C hK hC=>?_;simp only[go_sem,↓reduceIte,reduceCtorEq,Nat.reduceLT,Nat.reduceEqDiff,Nat.reduceBEq,Nat.reduceAdd,Nat.reduceSub,Nat.reduceMul,Nat.reduceLeDiff,Int.reduceLE,Int.reduceLT,Int.reduceNeg,Int.reduceEq,Int.reduceBEq,Int.reduceBNe,Int.reduceToNat])
  |refine AW.seqS ?_
  | (refine AW.ret ?_;simp only[go_sem,↓reduceIte,reduceCtorEq,Nat.reduceLT,Nat.reduceEqDiff,Nat.reduceBEq,Nat.reduceAdd,Nat.reduceSub,Nat.reduceMul,Nat.reduceLeDiff,Int.reduceLE,Int.reduceLT,Int.reduceNeg,Int.reduceEq,Int.reduceBEq,Int.reduceBNe,Int.reduceToNat])
  | (refine AW.cond rfl (fun h=>?_) (fun h=>?_)<;>(try simp only[decide_eq_true_eq,decide_eq_false_iff_not,bne_iff_ne,beq_iff_eq,bne_eq_false_iff_eq,beq_eq_false_iff_ne,ne_eq,ge_iff_le,gt_iff_lt,Bool.not_eq_true,Bool.not_eq_false,Bool.not_not,Bool.not_true,Bool.not_false,Int.not_le,Int.not_lt,not_true_eq_false,not_false_eq_true,reduceCtorEq,Bool.false_eq_true,Bool.not_eq_true',Bool.not_eq_false']at h)<;>first|(exfalso;omega)|skip)
  |refine AW.skip ?_
  |refine AW.seq ?_
  |refine AW.block ?_
  | (refine AW.exit ?_;simp only[go_sem,↓reduceIte,reduceCtorEq,Nat.reduceLT,Nat.reduceEqDiff,Nat.reduceBEq,Nat.reduceAdd,Nat.reduceSub,Nat.reduceMul,Nat.reduceLeDiff,Int.reduceLE,Int.reduceLT,Int.reduceNeg,Int.reduceEq,Int.reduceBEq,Int.reduceBNe,Int.reduceToNat])
  | (refine ite_on (fun h=>?_) (fun h=>?_)<;>(try simp only[decide_eq_true_eq,decide_eq_false_iff_not,bne_iff_ne,beq_iff_eq,bne_eq_false_iff_eq,beq_eq_false_iff_ne,ne_eq,ge_iff_le,gt_iff_lt,Bool.not_eq_true,Bool.not_eq_false,Bool.not_not,Bool.not_true,Bool.not_false,Int.not_le,Int.not_lt,not_true_eq_false,not_false_eq_true,reduceCtorEq,Bool.false_eq_true,Bool.not_eq_true',Bool.not_eq_false']at h)<;>first|(exfalso;omega)|skip)
  |rw[thenN]
  |rw[blockN]
  |rw[scopeN]
  |refine AW.scope ?_
  |refine AW.label ?_
  |refine And.intro ?_ ?_
  |refine lcons rfl ?_
  |exact lGram _
  |exact lSeen _
  |exact lWord _
  |exact lSealed _
  |exact lRun _
  |exact lPerson _
  |exact lEvent _
  |exact lLeak _
  |exact lNum _
  |exact lOprn _
  |exact in64 (by omega) (by omega)
  |exact in32 (by omega) (by omega)
  |omega)
 all_goals rfl
theorem fits_step {m:M7}{t:Int}(h:∀j:Int,2≤j→j<t→fitsM m j=true)(ht:fitsM m t=true):∀j:Int,2≤j→j<t+1→fitsM m j=true:=fits_next h ht
theorem q03_may (m:Mssg):ACalls Tryz.prog 21 [.agg (eMssg m)] (rB (mayM m)):=by
 refine ACalls.intro (fn:=Tryz.f21) Tryz.func21 rfl rfl (by simp[Tryz.f21]) ?_
 unfold Tryz.f21
 have hw:=q03_word m
 simp only[rB,eMssg]at *
 by_cases hk:isKindB m.kind=true
 ·have hk1:=of_decide_eq_true hk
  have c1:¬m.kind<1:=by omega
  have c2:¬9<m.kind:=by omega
  refine wk (J2 c1 c2) T0 T0 (J2 ?_ T0)
  all_goals ((repeat intro h);refine⟨?_⟩)
  refine AW.loopW (fun n σ=>∃k:Nat,n=6 - k∧k≤6∧(∀j:Int,2≤j→j<2+(k:Int)→fitsM m j=true)∧σ=⟨27,(upd (upd (fun _=>.junk) 1 (.one (.ptr 1 0))) 3 (.one (.c (u32 (2+(k:Int)))))),(upd (fun _=>none) 1 (some (.box ((eMssg m).map .c))))⟩) (n:=6) _ ⟨0,rfl,Nat.zero_le _,fun j h1 h2=>by omega,rfl⟩ (by simp only[eMssg,List.map_cons,List.map_nil];exact lz T0) ?_
  rintro n σ ⟨k,rfl,hk6,ht,rfl⟩
  simp only[eMssg,List.map_cons,List.map_nil]
  by_cases hlt:k<6
  ·have hle:2+(k:Int)≤7:=by omega
   have hq:=q03_has m.kind (2+(k:Int))
   have hv:=hw (2+(k:Int)) ⟨by omega,hle⟩
   have hs:IntKind.u32.wrap (2+(k:Int)+1)=2+((k+1:Nat):Int):=by rw[IntKind.wrap_u32];omega
   cases hh:hasT m.kind (2+(k:Int))
   ·rw[hh]at hq
    by_cases hz:m.word (2+(k:Int))=0
    ·have hz':(m.word (2+(k:Int)) != 0)=false:=by simp[hz]
     refine wk (J3 hle hs hz') (J2 hq hv) T0 (J2 ?_ T0)
     all_goals ((repeat intro h);refine⟨?_⟩)
     refine⟨6 - (k+1),by omega,_,⟨k+1,rfl,by omega,fun j h1 h2=>fits_step ht (fits_zero hz) j h1 (by omega),rfl⟩,?_⟩
     try simp only[eMssg,List.map_cons,List.map_nil]
     exact lz T0
    ·have hz':(m.word (2+(k:Int)) != 0)=true:=by simp[hz]
     rw[mayM_no ⟨by omega,hle⟩ (fits_not hh hz)]
     refine wk (J3 hle hs hz') (J2 hq hv) T0 T0
   ·rw[hh]at hq
    refine wk (J2 hle hs) hq T0 (J2 ?_ T0)
    all_goals ((repeat intro h);refine⟨?_⟩)
    refine⟨6 - (k+1),by omega,_,⟨k+1,rfl,by omega,fun j h1 h2=>fits_step ht (fits_has hh) j h1 (by omega),rfl⟩,?_⟩
    try simp only[eMssg,List.map_cons,List.map_nil]
    exact lz T0
  ·obtain rfl:k=6:=by omega
   rw[mayM_yes hk fun t h1 h2=>ht t h1 (by omega)]
   have hle:¬(2+((6:Nat):Int)≤7):=by omega
   refine wk hle T0 T0 T0
 ·have hk':isKindB m.kind=false:=by simpa using hk
  rw[mayM_noKind hk']
  have hn:=of_decide_eq_false hk'
  by_cases c1:m.kind<1
  ·refine wk c1 T0 T0 T0
  ·have c2:9<m.kind:=by omega
   refine wk (J2 c1 c2) T0 T0 T0
end
end Go.Proofs.YtaoijgapnmmpoaaGreatDoor.Abs
