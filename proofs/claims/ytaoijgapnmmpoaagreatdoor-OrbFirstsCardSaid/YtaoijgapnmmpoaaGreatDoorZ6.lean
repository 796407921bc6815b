/- Texts that were merged: Q03b, Q06b, Q06c, Q09s, Q10b, EqPrt, Q11, Q12g, Q13s, Q13, Q15m, Q05, Q15, P06. -/
import Derived.Test.YtaoijgapnmmpoaaGreatDoorZ5
import Derived.Test.YtaoijgapnmmpoaaGreatDoorZ4
set_option linter.unusedSimpArgs false
set_option linter.unusedVariables false
set_option maxHeartbeats 4000000
set_option maxRecDepth 100000
namespace Go.Proofs.YtaoijgapnmmpoaaGreatDoor.Abs
open Go.RowKit
section
def uptoM (m:M7)(t:Int):List Fld:=(1,[m.kind])::((kindTags m.kind).filter fun s=>decide (s<t)).map fun s=>(s,[m.word s])
theorem uptoM_two (m:M7):uptoM m 2=[(1,[m.kind])]:=by
 have:(kindTags m.kind).filter (fun s=>decide (s<2))=[]:=by
  rw[List.filter_eq_nil_iff]
  intro t ht h
  have:=kindTags_ok _ t ht
  have:=of_decide_eq_true h
  omega
 rw[uptoM,this];rfl
theorem uptoM_end (m:M7):uptoM m 8=fieldsM m:=by
 have:(kindTags m.kind).filter (fun s=>decide (s<8))=kindTags m.kind:=by
  rw[List.filter_eq_self]
  intro t ht
  have:=kindTags_ok _ t ht
  exact decide_eq_true (by omega)
 rw[uptoM,this];rfl
theorem uptoM_step (m:M7){t:Int}(ht:2≤t∧t≤7):uptoM m (t+1)=if hasT m.kind t=true then uptoM m t++[(t,[m.word t])]else uptoM m t:=by
 by_cases hk:isKindB m.kind=true
 ·obtain⟨k,r,a,b,n,x,o⟩:=m
  simp only at hk
  rcases kinds hk with rfl|rfl|rfl|rfl|rfl|rfl|rfl|rfl|rfl<;>clear hk
  all_goals (rcases tags ht with rfl|rfl|rfl|rfl|rfl|rfl<;>clear ht<;>simp[uptoM,hasT,kindTags,M7.word])
 ·have hk':isKindB m.kind=false:=by simpa using hk
  rw[hasT_noKind hk',if_neg (by decide)]
  have:kindTags m.kind=[]:=by
   have hn:=of_decide_eq_false hk'
   unfold kindTags
   rw[if_neg (by omega),if_neg (by omega),if_neg (by omega),if_neg (by omega),if_neg (by omega),if_neg (by omega),if_neg (by omega),if_neg (by omega),if_neg (by omega)]
  simp[uptoM,this]
theorem uptoM_len (m:M7)(t:Int):(flatF (uptoM m t)).length≤18:=by
 have h:=flatF_ones ((kindTags m.kind).filter fun s=>decide (s<t)) m.word
 have h2:=List.length_filter_le (fun s=>decide (s<t)) (kindTags m.kind)
 have h3:=kindTags_len m.kind
 unfold uptoM
 rw[flatF_cons]
 simp only[List.length_cons,List.length_append,h]
 simp
 omega
theorem q03_put (m:Mssg):ACalls Tryz.prog 44 [.agg (eMssg m)] (.tup [.one (eWords (putL m)),.one (i64 (putE m))]):=by
 refine ACalls.intro (fn:=Tryz.f44) Tryz.func44 rfl rfl (by simp[Tryz.f44]) ?_
 unfold Tryz.f44
 have hw:=q03_word m
 have hm:=q03_may m
 simp only[rB,eMssg,eWords]at *
 cases hk:mayM m
 ·rw[hk]at hm
  have e1:putL m=[]:=by unfold putL;rw[if_neg (by rw[hk];decide)]
  have e2:putE m=1:=by unfold putE;rw[if_neg (by rw[hk];decide)]
  rw[e1,e2]
  refine wk T0 hm T0 T0
 ·rw[hk]at hm
  have e1:putL m=flatF (uptoM m 8):=by unfold putL;rw[if_pos hk,uptoM_end];rfl
  have e2:putE m=0:=by unfold putE;rw[if_pos hk]
  rw[e1,e2]
  refine wk T0 hm T0 (J2 ?_ T0)
  all_goals ((repeat intro h);refine⟨?_⟩)
  refine AW.loopW (fun n σ=>∃k:Nat,n=6 - k∧k≤6∧σ=⟨28,(upd (upd (upd (fun _=>.junk) 1 (.one (.ptr 1 0))) 4 (.one (.own 11 ((flatF (uptoM m (2+(k:Int)))).length)))) 5 (.one (.c (u32 (2+(k:Int)))))),(upd (upd (fun _=>none) 1 (some (.box ((eMssg m).map .c)))) 11 (some (.rows 22 1 ((flatF (uptoM m (2+(k:Int)))).map eWord))))⟩) (n:=6) _ ⟨0,rfl,Nat.zero_le _,rfl⟩ (by rw[show(2+((0:Nat):Int))=2 from rfl,uptoM_two,show flatF [((1:Int),[m.kind])]=[1,1,m.kind]from rfl];simp only[eMssg,eWord,List.map_cons,List.map_nil];exact lz T0) ?_
  rintro n σ ⟨k,rfl,hk6,rfl⟩
  simp only[eMssg,List.map_cons,List.map_nil]
  have hlen:=uptoM_len m (2+(k:Int))
  by_cases hlt:k<6
  ·have hle:2+(k:Int)≤7:=by omega
   have hq:=q03_has m.kind (2+(k:Int))
   have hv:=hw (2+(k:Int)) ⟨by omega,hle⟩
   have hs:IntKind.u32.wrap (2+(k:Int)+1)=2+((k+1:Nat):Int):=by rw[IntKind.wrap_u32];omega
   have hst:=uptoM_step m (t:=2+(k:Int)) ⟨by omega,hle⟩
   rw[show 2+(k:Int)+1=2+((k+1:Nat):Int) by omega]at hst
   cases hh:hasT m.kind (2+(k:Int))
   ·rw[hh]at hq hst
    rw[if_neg (by decide)]at hst
    refine wk (J2 hle hs) hq T0 (J2 ?_ T0)
    all_goals ((repeat intro h);refine⟨?_⟩)
    refine⟨6 - (k+1),by omega,_,⟨k+1,rfl,by omega,rfl⟩,?_⟩
    rw[hst]
    try simp only[eMssg,List.map_cons,List.map_nil]
    exact lz T0
   ·rw[hh]at hq hst
    rw[if_pos rfl]at hst
    have hfl:flatF (uptoM m (2+((k+1:Nat):Int)))=flatF (uptoM m (2+(k:Int)))++[2+(k:Int),1,m.word (2+(k:Int))]:=by rw[hst,flatF_snoc];rfl
    refine wk (J2 hle hs) (J2 hq hv) T0 (J3 ?_ ?_ T0)
    all_goals ((repeat intro h);refine⟨?_⟩)
    ·intro us hu;rcases hu with rfl|rfl|rfl<;>rfl
    refine⟨6 - (k+1),by omega,_,⟨k+1,rfl,by omega,rfl⟩,?_⟩
    rw[hfl]
    simp only[eMssg,eWord,List.map_append,List.length_append,List.map_cons,List.map_nil,List.length_cons,List.length_nil]
    exact lz T0
  ·obtain rfl:k=6:=by omega
   have hle:¬(2+((6:Nat):Int)≤7):=by omega
   refine wk hle T0 T0 (J2 ?_ T0)
   all_goals ((repeat intro h);refine⟨?_⟩)
   all_goals rfl
end
section
theorem q06_same (a b:Net):ACalls Tryz.prog 34 [.agg (eNet a),.agg (eNet b)] (rB (decide (a=b))):=by
 refine ACalls.introF (fn:=Tryz.f34) Tryz.func34 rfl rfl (by simp[Tryz.f34]) fun hf=>?_
 have hl:a.grams.length≤9223372036854775807:=(Fine.rowM ((hf _ (by simp):FineCA (.agg (eNet a))) (eGrams a.grams) (by simp[eNet]))).1
 clear hf
 obtain⟨ra,ga,sa⟩:=a
 obtain⟨rb,gb,sb⟩:=b
 simp only at hl
 unfold Tryz.f34 eNet
 simp only[eGrams]
 refine wk T0 (q01_rows _ _) T0 (J5 ?_ ?_ ?_ ?_ T0)
 all_goals ((repeat intro h);refine⟨?_⟩)
 ·rename_i h1 h2
  simp[rB,h]
 ·rename_i h1 h2
  have hlen:ga.length=gb.length:=by omega
  obtain rfl:ra=rb:=h1
  obtain rfl:sa=sb:=h
  clear h2
  refine AW.loopW (fun q σ=>∃k:Nat,q=ga.length - k∧k≤ga.length∧ga.take k=gb.take k∧σ=⟨47,upd (upd (upd (fun _=>.junk) 5 (.one (.c (i64 k)))) 3 (.one (.ptr 3 0))) 2 (.one (.ptr 2 0)),
   upd (upd (fun _=>none) 3 (some (.box [.c (i64 ra),.c (.row (gb.map eGram)),.c (eRows sa)]))) 2 (some (.box [.c (i64 ra),.c (.row (ga.map eGram)),.c (eRows sa)]))⟩) (n:=ga.length) _ ⟨0,rfl,Nat.zero_le _,rfl,rfl⟩ (by exact lz T0) ?_
  rintro q σ ⟨k,rfl,hk,ht,rfl⟩
  by_cases hlt:k<ga.length
  ·obtain⟨x,hx⟩:∃x,ga[k]?=some x:=⟨_,List.getElem?_eq_getElem hlt⟩
   obtain⟨y,hy⟩:∃y,gb[k]?=some y:=⟨_,List.getElem?_eq_getElem (by omega)⟩
   have hlt2:k<gb.length:=by omega
   have hs:=wrapI (x:=(k:Int)+1) (by omega) (by omega)
   have hq:=q06_one x y
   simp only[eGram]at hq
   refine wk (J6 hx hy hlt hlt2 eGram.eq_1 hs) hq T0 (J3 ?_ ?_ T0)
   all_goals ((repeat intro h);refine⟨?_⟩)
   ·have hne:ga≠gb:=fun e=>by subst e;rw[hx]at hy;cases hy;simp at h
    simp[rB,hne]
   ·have hxy:x=y:=by simpa using h
    subst hxy
    refine⟨ga.length - (k+1),by omega,_,⟨k+1,rfl,by omega,take_more ht hx hy,rfl⟩,?_⟩
    exact lz T0
  ·have:k=ga.length:=by omega
   subst this
   refine wk T0 T0 T0 (J2 ?_ T0)
   all_goals ((repeat intro h);refine⟨?_⟩)
   simp[rB,take_all hlen ht]
 ·rename_i h1 h2
  have:¬ga=gb:=fun e=>h2 (by rw[e])
  simp[rB,this]
 ·rename_i h1
  simp[rB,h1]
end
section
def fewN (n:Net):Bool:=decide ((∀g∈n.grams.take 100,(g.words.length:Int)≤100)∧(∀s∈n.seen.take 400,(s.length:Int)≤100)∧(n.grams.length:Int)≤64∧(n.seen.length:Int)≤300)
theorem all_next {α:Type}{p:α→Prop}{l:List α}{k:Nat}{x:α}(h:∀y∈l.take k,p y)(hx:l[k]?=some x)(hp:p x):∀y∈l.take (k+1),p y:=by
 intro y hy
 rw[List.take_add_one,hx]at hy
 simp only[Option.toList_some,List.mem_append,List.mem_singleton]at hy
 rcases hy with hy|rfl
 ·exact h y hy
 ·exact hp
theorem mem_take {α:Type}{l:List α}{k m:Nat}{x:α}(hx:l[k]?=some x)(h:k<m):x∈l.take m:=by
 refine List.mem_iff_getElem?.mpr ⟨k,?_⟩
 rw[List.getElem?_take,if_pos h,hx]
theorem few_no {n:Net}(h:(∃x∈n.grams.take 100,100<(x.words.length:Int))∨(∃x∈n.seen.take 400,100<(x.length:Int))):fewN n=false:=by
 unfold fewN
 rw[decide_eq_false_iff_not]
 rintro⟨h1,h2,-,-⟩
 rcases h with⟨x,hx,hb⟩|⟨x,hx,hb⟩
 ·have:=h1 x hx;omega
 ·have:=h2 x hx;omega
theorem few_end {n:Net}(h1:∀x∈n.grams.take 100,(x.words.length:Int)≤100)(h2:∀x∈n.seen.take 400,(x.length:Int)≤100):fewN n=decide ((n.grams.length:Int)≤64∧(n.seen.length:Int)≤300):=by
 unfold fewN
 rw[decide_eq_decide]
 exact⟨fun h=>h.2.2,fun h=>⟨h1,h2,h⟩⟩
theorem q06_few (n:Net):ACalls Tryz.prog 50 [.agg (eNet n)] (rB (fewN n)):=by
 refine ACalls.introF (fn:=Tryz.f50) Tryz.func50 rfl rfl (by simp[Tryz.f50]) fun hf=>?_
 have hl:n.grams.length≤9223372036854775807:=(Fine.rowM ((hf _ (by simp):FineCA (.agg (eNet n))) (eGrams n.grams) (by simp[eNet]))).1
 have hm:n.seen.length≤9223372036854775807:=(Fine.rowM ((hf _ (by simp):FineCA (.agg (eNet n))) (eRows n.seen) (by simp[eNet]))).1
 clear hf
 obtain⟨r,g,s⟩:=n
 simp only at hl hm
 unfold Tryz.f50 eNet
 simp only[eGrams,eRows]
 refine wk T0 T0 T0 (J2 ?_ T0)
 all_goals ((repeat intro h);refine⟨?_⟩)
 refine AW.loopW (fun q σ=>∃k:Nat,q=g.length - k∧k≤g.length∧k≤100∧(∀x∈g.take k,(x.words.length:Int)≤100)∧σ=⟨52,upd (upd (upd (fun _=>.junk) 1 (.one (.ptr 1 0))) 2 (.one (.c (.v (.bool false))))) 3 (.one (.c (i64 k))),
  upd (fun _=>none) 1 (some (.box [.c (i64 r),.c (.row (g.map eGram)),.c (.row (s.map eSeen))]))⟩) (n:=g.length) _ ⟨0,rfl,Nat.zero_le _,by omega,by simp,rfl⟩ (by exact lz T0) ?_
 rintro q σ ⟨k,rfl,hk,hc,ha,rfl⟩
 by_cases hlt:k<g.length
 ·obtain⟨x,hx⟩:∃x,g[k]?=some x:=⟨_,List.getElem?_eq_getElem hlt⟩
  have hs:=wrapI (x:=(k:Int)+1) (by omega) (by omega)
  by_cases h100:(k:Int)<100
  ·refine wk (J6 hx hlt h100 eGram.eq_1 eWords.eq_1 hs) T0 T0 (J3 ?_ ?_ T0)
   all_goals ((repeat intro h);refine⟨?_⟩)
   ·rw[few_no (.inl ⟨x,mem_take hx (by omega),by omega⟩)]
   ·refine⟨g.length - (k+1),by omega,_,⟨k+1,rfl,by omega,by omega,all_next ha hx (by omega),rfl⟩,?_⟩
    exact lz T0
  ·refine wk (J6 hx hlt h100 eGram.eq_1 eWords.eq_1 hs) T0 T0 (J2 ?_ T0)
   all_goals ((repeat intro h);refine⟨?_⟩)
   have hA:∀x∈g.take 100,(x.words.length:Int)≤100:=(show k=100 by omega)▸ha
   refine AW.loopW (fun q σ=>∃j:Nat,q=s.length - j∧j≤s.length∧j≤400∧(∀x∈s.take j,(x.length:Int)≤100)∧σ=⟨52,upd (upd (upd (fun _=>.junk) 1 (.one (.ptr 1 0))) 2 (.one (.c (.v (.bool false))))) 4 (.one (.c (i64 j))),
    upd (fun _=>none) 1 (some (.box [.c (i64 r),.c (.row (g.map eGram)),.c (.row (s.map eSeen))]))⟩) (n:=s.length) _ ⟨0,rfl,Nat.zero_le _,by omega,by simp,rfl⟩ (by exact lz T0) ?_
   rintro q σ ⟨j,rfl,hj,hd,hb,rfl⟩
   by_cases hjt:j<s.length
   ·obtain⟨y,hy⟩:∃y,s[j]?=some y:=⟨_,List.getElem?_eq_getElem hjt⟩
    have hs2:=wrapI (x:=(j:Int)+1) (by omega) (by omega)
    by_cases h400:(j:Int)<400
    ·refine wk (J6 hy hjt h400 eSeen.eq_1 eWords.eq_1 hs2) T0 T0 (J3 ?_ ?_ T0)
     all_goals ((repeat intro h);refine⟨?_⟩)
     ·rw[few_no (.inr ⟨y,mem_take hy (by omega),by omega⟩)]
     ·refine⟨s.length - (j+1),by omega,_,⟨j+1,rfl,by omega,by omega,all_next hb hy (by omega),rfl⟩,?_⟩
      exact lz T0
    ·have hB:∀x∈s.take 400,(x.length:Int)≤100:=(show j=400 by omega)▸hb
     refine wk (J6 hy hjt h400 eSeen.eq_1 eWords.eq_1 hs2) T0 T0 (J2 ?_ T0)
     all_goals ((repeat intro h);refine⟨?_⟩)
     all_goals (rw[few_end hA hB];first|(simp[rB,h];done)|(simp[rB];omega))
   ·have hB:∀x∈s.take 400,(x.length:Int)≤100:=fun x hx=>hb x (by rw[List.take_of_length_le (by omega)];exact List.mem_of_mem_take hx)
    refine wk T0 T0 T0 (J2 ?_ T0)
    all_goals ((repeat intro h);refine⟨?_⟩)
    all_goals (rw[few_end hA hB];first|(simp[rB,h];done)|(simp[rB];omega))
 ·refine wk T0 T0 T0 (J2 ?_ T0)
  all_goals ((repeat intro h);refine⟨?_⟩)
  have hA:∀x∈g.take 100,(x.words.length:Int)≤100:=fun x hx=>ha x (by rw[List.take_of_length_le (by omega)];exact List.mem_of_mem_take hx)
  refine AW.loopW (fun q σ=>∃j:Nat,q=s.length - j∧j≤s.length∧j≤400∧(∀x∈s.take j,(x.length:Int)≤100)∧σ=⟨52,upd (upd (upd (fun _=>.junk) 1 (.one (.ptr 1 0))) 2 (.one (.c (.v (.bool false))))) 4 (.one (.c (i64 j))),
   upd (fun _=>none) 1 (some (.box [.c (i64 r),.c (.row (g.map eGram)),.c (.row (s.map eSeen))]))⟩) (n:=s.length) _ ⟨0,rfl,Nat.zero_le _,by omega,by simp,rfl⟩ (by exact lz T0) ?_
  rintro q σ ⟨j,rfl,hj,hd,hb,rfl⟩
  by_cases hjt:j<s.length
  ·obtain⟨y,hy⟩:∃y,s[j]?=some y:=⟨_,List.getElem?_eq_getElem hjt⟩
   have hs2:=wrapI (x:=(j:Int)+1) (by omega) (by omega)
   by_cases h400:(j:Int)<400
   ·refine wk (J6 hy hjt h400 eSeen.eq_1 eWords.eq_1 hs2) T0 T0 (J3 ?_ ?_ T0)
    all_goals ((repeat intro h);refine⟨?_⟩)
    ·rw[few_no (.inr ⟨y,mem_take hy (by omega),by omega⟩)]
    ·refine⟨s.length - (j+1),by omega,_,⟨j+1,rfl,by omega,by omega,all_next hb hy (by omega),rfl⟩,?_⟩
     exact lz T0
   ·have hB:∀x∈s.take 400,(x.length:Int)≤100:=(show j=400 by omega)▸hb
    refine wk (J6 hy hjt h400 eSeen.eq_1 eWords.eq_1 hs2) T0 T0 (J3 ?_ ?_ T0)
    all_goals ((repeat intro h);refine⟨?_⟩)
    all_goals (rw[few_end hA hB];first|(simp[rB,h];done)|(simp[rB];omega))
  ·have hB:∀x∈s.take 400,(x.length:Int)≤100:=fun x hx=>hb x (by rw[List.take_of_length_le (by omega)];exact List.mem_of_mem_take hx)
   refine wk T0 T0 T0 (J3 ?_ ?_ T0)
   all_goals ((repeat intro h);refine⟨?_⟩)
   all_goals (rw[few_end hA hB];first|(simp[rB,h];done)|(simp[rB];omega))
end
section
def eqRunB (x y:Run):Bool:=x.proto==y.proto&&(x.role==y.role&&(x.peer==y.peer&&(x.mine==y.mine&&(x.their==y.their&&(x.m==y.m&&(x.k==y.k&&(x.t==y.t&&x.state==y.state)))))))
theorem eqRunB_ne {x y:Run}(h:x≠y):eqRunB x y=false:=by
 cases hb:eqRunB x y with
 |false=>rfl
 |true=>
  refine absurd ?_ h
  obtain⟨x1,x2,x3,x4,x5,x6,x7,x8,x9⟩:=x
  obtain⟨y1,y2,y3,y4,y5,y6,y7,y8,y9⟩:=y
  simp[eqRunB]at hb
  simp[hb]
theorem q09_same (j:Nat)(l m:List Run):ACalls Tryz.prog 105 [.one (.rowc j (l.map eRun)),.one (eRuns m)] (rB (decide (l=m))):=by
 refine ACalls.introF (fn:=Tryz.f105) Tryz.func105 rfl rfl (by simp[Tryz.f105]) fun hf=>?_
 have hl:=Fine.rowC (hf _ (by simp):FineCA (.one (.rowc j (l.map eRun))))
 clear hf
 unfold Tryz.f105
 simp only[eRuns]
 by_cases hlen:l.length=m.length
 ·have hli:(l.length:Int)=(m.length:Int):=by omega
  refine wkx hli T0 T0 (J2 ?_ T0)
  all_goals ((repeat intro h);refine⟨?_⟩)
  refine AW.loopW (fun n σ=>∃k:Nat,n=l.length - k∧k≤l.length∧l.take k=m.take k∧σ=⟨26,(upd (upd (upd (fun _=>.junk) 0 (.one (.c (.rowc j (l.map eRun))))) 1 (.one (.c (.row (m.map eRun))))) 5 (.one (.c (i64 k)))),(fun _=>none)⟩) (n:=l.length) _ ⟨0,rfl,Nat.zero_le _,rfl,rfl⟩ (by exact lz T0) ?_
  rintro n σ ⟨k,rfl,hk,ht,rfl⟩
  by_cases hlt:k<l.length
  ·obtain⟨x,hx⟩:∃x,l[k]?=some x:=⟨_,List.getElem?_eq_getElem hlt⟩
   obtain⟨y,hy⟩:∃y,m[k]?=some y:=⟨_,List.getElem?_eq_getElem (by omega)⟩
   have hlt2:k<m.length:=by omega
   have hs:=wrapI (x:=(k:Int)+1) (by omega) (by omega)
   have heq:=eqok_run
   by_cases hxy:x=y
   ·subst hxy
    refine wkx (J7 hx hy hlt hlt2 hs heq eRun.eq_1) T0 T0 (J2 ?_ T0)
    all_goals ((repeat intro h);refine⟨?_⟩)
    refine⟨l.length - (k+1),by omega,_,⟨k+1,rfl,by omega,take_more ht hx hy,rfl⟩,?_⟩
    exact lz T0
   ·have hne:=eqRunB_ne hxy
    unfold eqRunB at hne
    have hd:decide (l=m)=false:=decide_eq_false fun e=>by subst e;rw[hx]at hy;exact hxy (Option.some.inj hy)
    rw[hd]
    refine wk (J8 hx hy hlt hlt2 hs heq hne eRun.eq_1) T0 T0 T0
  ·obtain rfl:k=l.length:=by omega
   have:l=m:=take_all hlen ht
   subst this
   refine wk T0 T0 T0 T0
 ·have hd:decide (l=m)=false:=decide_eq_false fun e=>hlen (by rw[e])
  have hne:((l.length:Int) != (m.length:Int))=true:=by rw[bne_iff_ne];omega
  rw[hd]
  refine wk hne T0 T0 T0
end
section
theorem q10_one (a b:Person):ACalls Tryz.prog 74 [.agg (ePerson a),.agg (ePerson b)] (rB (decide (a=b))):=by
 refine ACalls.intro (fn:=Tryz.f74) Tryz.func74 rfl rfl (by simp[Tryz.f74]) ?_
 have su:=q01_same a.used b.used
 have sr:=q09_same 0 a.runs b.runs
 unfold Tryz.f74
 by_cases hab:a=b
 ·subst hab
  rw[decide_eq_true rfl]at su sr ⊢
  simp only[ePerson,eWords,eRuns,rB]at *
  refine wkx T0 (J2 su sr) T0 T0
 ·rw[decide_eq_false hab]
  cases h1:(a.name==b.name)
  ·simp only[ePerson,eWords,eRuns,rB]at *
   refine wk h1 T0 T0 T0
  ·cases h2:(a.key==b.key)
   ·simp only[ePerson,eWords,eRuns,rB]at *
    refine wk (J2 h1 h2) T0 T0 T0
   ·cases h3:(a.clock==b.clock)
    ·simp only[ePerson,eWords,eRuns,rB]at *
     refine wk (J3 h1 h2 h3) T0 T0 T0
    ·cases h4:(a.corrupt==b.corrupt)
     ·simp only[ePerson,eWords,eRuns,rB]at *
      refine wk (J4 h1 h2 h3 h4) T0 T0 T0
     ·by_cases h5:a.used=b.used
      ·have h6:¬a.runs=b.runs:=fun h6=>hab (by
        obtain⟨a1,a2,a3,a4,a5,a6⟩:=a
        obtain⟨b1,b2,b3,b4,b5,b6⟩:=b
        simp at h1 h2 h3 h4 h5 h6
        simp[h1,h2,h3,h4,h5,h6])
       rw[decide_eq_true h5]at su
       rw[decide_eq_false h6]at sr
       simp only[ePerson,eWords,eRuns,rB]at *
       refine wk (J4 h1 h2 h3 h4) (J2 su sr) T0 T0
      ·rw[decide_eq_false h5]at su
       simp only[ePerson,eWords,eRuns,rB]at *
       refine wk (J4 h1 h2 h3 h4) su T0 T0
theorem q10_same (j:Nat)(l m:List Person):ACalls Tryz.prog 35 [.one (.rowc j (l.map ePerson)),.one (ePeople m)] (rB (decide (l=m))):=by
 refine ACalls.introF (fn:=Tryz.f35) Tryz.func35 rfl rfl (by simp[Tryz.f35]) fun hf=>?_
 have hl:=Fine.rowC (hf _ (by simp):FineCA (.one (.rowc j (l.map ePerson))))
 clear hf
 unfold Tryz.f35
 simp only[ePeople,rB]
 by_cases hlen:l.length=m.length
 ·have hli:(l.length:Int)=(m.length:Int):=by omega
  refine wkx hli T0 T0 (J2 ?_ T0)
  all_goals ((repeat intro h);refine⟨?_⟩)
  refine AW.loopW (fun n σ=>∃k:Nat,n=l.length - k∧k≤l.length∧l.take k=m.take k∧σ=⟨27,(upd (upd (upd (fun _=>.junk) 0 (.one (.c (.rowc j (l.map ePerson))))) 1 (.one (.c (.row (m.map ePerson))))) 5 (.one (.c (i64 k)))),(fun _=>none)⟩) (n:=l.length) _ ⟨0,rfl,Nat.zero_le _,rfl,rfl⟩ (by exact lz T0) ?_
  rintro n σ ⟨k,rfl,hk,ht,rfl⟩
  by_cases hlt:k<l.length
  ·obtain⟨x,hx⟩:∃x,l[k]?=some x:=⟨_,List.getElem?_eq_getElem hlt⟩
   obtain⟨y,hy⟩:∃y,m[k]?=some y:=⟨_,List.getElem?_eq_getElem (by omega)⟩
   have hlt2:k<m.length:=by omega
   have hs:=wrapI (x:=(k:Int)+1) (by omega) (by omega)
   have h1:=q10_one x y
   by_cases hxy:x=y
   ·rw[decide_eq_true hxy]at h1
    simp only[ePerson,rB]at h1
    refine wk (J6 hx hy hlt hlt2 hs ePerson.eq_1) h1 T0 (J2 ?_ T0)
    all_goals ((repeat intro h);refine⟨?_⟩)
    refine⟨l.length - (k+1),by omega,_,⟨k+1,rfl,by omega,take_more ht hx (hxy▸hy),rfl⟩,?_⟩
    exact lz T0
   ·rw[decide_eq_false hxy]at h1
    have hd:decide (l=m)=false:=decide_eq_false fun e=>by subst e;rw[hx]at hy;exact hxy (Option.some.inj hy)
    rw[hd]
    simp only[ePerson,rB]at h1
    refine wk (J6 hx hy hlt hlt2 hs ePerson.eq_1) h1 T0 T0
  ·obtain rfl:k=l.length:=by omega
   have:l=m:=take_all hlen ht
   subst this
   rw[decide_eq_true rfl]
   refine wk T0 T0 T0 T0
 ·have hd:decide (l=m)=false:=decide_eq_false fun e=>hlen (by rw[e])
  have hne:((l.length:Int) != (m.length:Int))=true:=by rw[bne_iff_ne];omega
  rw[hd]
  refine wk hne T0 T0 T0
def fewPl (l:List Person):Bool:=decide ((∀p∈l.take 20,(p.used.length:Int)≤100∧(p.runs.length:Int)≤100)∧(l.length:Int)≤10)
theorem fewPl_iff {l:List Person}(h:fewPl l=true):l.length≤10∧∀p∈l,p.used.length≤100∧p.runs.length≤100:=by
 obtain⟨h1,h2⟩:=of_decide_eq_true h
 refine⟨by omega,fun p hp=>?_⟩
 have:=h1 p (by rw[List.take_of_length_le (by omega)];exact hp)
 omega
theorem q10_few (l:List Person):ACalls Tryz.prog 51 [.one (ePeople l)] (rB (fewPl l)):=by
 refine ACalls.introF (fn:=Tryz.f51) Tryz.func51 rfl rfl (by simp[Tryz.f51]) fun hf=>?_
 have hl:=(Fine.rowM (hf _ (by simp):FineCA (.one (ePeople l)))).1
 clear hf
 unfold Tryz.f51
 simp only[ePeople,rB]
 have no:(∃p∈l.take 20,100<(p.used.length:Int)∨100<(p.runs.length:Int))→fewPl l=false:=by
  rintro⟨p,hp,hb⟩
  unfold fewPl
  rw[decide_eq_false_iff_not]
  rintro⟨h1,-⟩
  have:=h1 p hp;omega
 have ok:(∀p∈l.take 20,(p.used.length:Int)≤100∧(p.runs.length:Int)≤100)→fewPl l=decide ((l.length:Int)≤10):=fun h=>by
  unfold fewPl;rw[decide_eq_decide];exact⟨fun h=>h.2,fun h2=>⟨h,h2⟩⟩
 refine wk T0 T0 T0 (J2 ?_ T0)
 all_goals ((repeat intro h);refine⟨?_⟩)
 refine AW.loopW (fun n σ=>∃k:Nat,n=l.length - k∧k≤l.length∧k≤20∧(∀p∈l.take k,(p.used.length:Int)≤100∧(p.runs.length:Int)≤100)∧σ=⟨33,(upd (upd (fun _=>.junk) 0 (.one (.c (.row (l.map ePerson))))) 3 (.one (.c (i64 k)))),(fun _=>none)⟩) (n:=l.length) _ ⟨0,rfl,Nat.zero_le _,by omega,by simp,rfl⟩ (by exact lz T0) ?_
 rintro n σ ⟨k,rfl,hk,hk2,ha,rfl⟩
 by_cases hlt:k<l.length
 ·obtain⟨x,hx⟩:∃x,l[k]?=some x:=⟨_,List.getElem?_eq_getElem hlt⟩
  have hs:=wrapI (x:=(k:Int)+1) (by omega) (by omega)
  have hli:(k:Int)<(l.length:Int):=by omega
  by_cases h20:k<20
  ·have h20':(k:Int)<20:=by omega
   have hmem:x∈l.take 20:=List.mem_iff_getElem?.2 ⟨k,by rw[List.getElem?_take,if_pos h20,hx]⟩
   by_cases h1:100<(x.used.length:Int)
   ·rw[no ⟨x,hmem,.inl h1⟩]
    refine wk (J9 hx hlt hli h20' h1 hs ePerson.eq_1 eWords.eq_1 eRuns.eq_1) T0 T0 T0
   ·by_cases h2:100<(x.runs.length:Int)
    ·rw[no ⟨x,hmem,.inr h2⟩]
     refine wk (J9 hx hlt hli h20' h1 h2 hs ePerson.eq_1 (J2 eWords.eq_1 eRuns.eq_1)) T0 T0 T0
    ·refine wk (J9 hx hlt hli h20' h1 h2 hs ePerson.eq_1 (J2 eWords.eq_1 eRuns.eq_1)) T0 T0 (J2 ?_ T0)
     all_goals ((repeat intro h);refine⟨?_⟩)
     refine⟨l.length - (k+1),by omega,_,⟨k+1,rfl,by omega,by omega,fun p hp=>?_,rfl⟩,?_⟩
     ·rw[List.take_add_one,hx]at hp
      simp only[Option.toList_some,List.mem_append,List.mem_singleton]at hp
      rcases hp with hp|rfl
      ·exact ha p hp
      ·omega
     ·exact lz T0
  ·obtain rfl:k=20:=by omega
   rw[ok ha]
   refine wk (J4 hx hlt hli hs) T0 T0 T0
 ·have hA:∀p∈l.take 20,(p.used.length:Int)≤100∧(p.runs.length:Int)≤100:=fun p hp=>ha p (by rw[List.take_of_length_le (by omega)];exact List.mem_of_mem_take hp)
  obtain rfl:k=l.length:=by omega
  rw[ok hA]
  refine wk T0 T0 T0 T0
end
section
theorem eqr_prt (a0 a1 a2 a3 a4 a5 a6 b0 b1 b2 b3 b4 b5 b6:Int)(w:World):(Op.equal 57 (.agg #[.int .u32 a0,.int .u32 a1,.int .u32 a2,.int .u32 a3,.int .u32 a4,.int .u32 a5,.int .u32 a6]) (.agg #[.int .u32 b0,.int .u32 b1,.int .u32 b2,.int .u32 b3,.int .u32 b4,.int .u32 b5,.int .u32 b6])).run Tryz.prog w=.ok ((a0==b0)&&((a1==b1)&&((a2==b2)&&((a3==b3)&&((a4==b4)&&((a5==b5)&&((a6==b6)))))))) w:=by
 show(Op.equalIn 10000 57 (.agg #[.int .u32 a0,.int .u32 a1,.int .u32 a2,.int .u32 a3,.int .u32 a4,.int .u32 a5,.int .u32 a6]) (.agg #[.int .u32 b0,.int .u32 b1,.int .u32 b2,.int .u32 b3,.int .u32 b4,.int .u32 b5,.int .u32 b6])).run Tryz.prog w=_
 cases h0:(a0==b0)with
 |false=>go_simp<;>simp[h0]
 |true=>
  cases h1:(a1==b1)with
  |false=>go_simp<;>simp[h0,h1]
  |true=>
   cases h2:(a2==b2)with
   |false=>go_simp<;>simp[h0,h1,h2]
   |true=>
    cases h3:(a3==b3)with
    |false=>go_simp<;>simp[h0,h1,h2,h3]
    |true=>
     cases h4:(a4==b4)with
     |false=>go_simp<;>simp[h0,h1,h2,h3,h4]
     |true=>
      cases h5:(a5==b5)with
      |false=>go_simp<;>simp[h0,h1,h2,h3,h4,h5]
      |true=>
       cases h6:(a6==b6)with
       |false=>go_simp<;>simp[h0,h1,h2,h3,h4,h5,h6]
       |true=>
        go_simp<;>simp[h0,h1,h2,h3,h4,h5,h6]
theorem eqok_prt:EqOK Tryz.prog 57 [some (some .u32),some (some .u32),some (some .u32),some (some .u32),some (some .u32),some (some .u32),some (some .u32)]:=by
 refine⟨by kernel_rfl,fun us0 vs0 w p0 q0=>?_⟩
 obtain⟨a0,us1,rfl,p1⟩:=sh_int p0
 obtain⟨b0,vs1,rfl,q1⟩:=sh_int q0
 obtain⟨a1,us2,rfl,p2⟩:=sh_int p1
 obtain⟨b1,vs2,rfl,q2⟩:=sh_int q1
 obtain⟨a2,us3,rfl,p3⟩:=sh_int p2
 obtain⟨b2,vs3,rfl,q3⟩:=sh_int q2
 obtain⟨a3,us4,rfl,p4⟩:=sh_int p3
 obtain⟨b3,vs4,rfl,q4⟩:=sh_int q3
 obtain⟨a4,us5,rfl,p5⟩:=sh_int p4
 obtain⟨b4,vs5,rfl,q5⟩:=sh_int q4
 obtain⟨a5,us6,rfl,p6⟩:=sh_int p5
 obtain⟨b5,vs6,rfl,q6⟩:=sh_int q5
 obtain⟨a6,us7,rfl,p7⟩:=sh_int p6
 obtain⟨b6,vs7,rfl,q7⟩:=sh_int q6
 obtain rfl:=sh_nil p7
 obtain rfl:=sh_nil q7
 rw[eqr_prt]
 simp[eqVs,eqV]
def eqPrtB (x y:Prt):Bool:=x.n==y.n&&(x.m==y.m&&(x.a==y.a&&(x.b==y.b&&(x.k==y.k&&(x.t==y.t&&x.h==y.h)))))
theorem eqPrtB_dec (x y:Prt):eqPrtB x y=decide (x=y):=by
 obtain⟨x1,x2,x3,x4,x5,x6,x7⟩:=x
 obtain⟨y1,y2,y3,y4,y5,y6,y7⟩:=y
 rw[Bool.eq_iff_iff]
 simp[eqPrtB]
end
section
def prt0:Prt:=⟨0,0,0,0,0,0,0⟩
def wordsP (label:Int)(p:Prt):List Int:=if label=2 then[p.n,p.b,p.k,p.t,p.h]else if label=3 then[p.k,p.a,p.t]else if label=4∨label=5 then[p.n]else if label=6∨label=7 then[p.n,p.m,p.a,p.b]else if label=8∨label=9 then[p.n,p.k]else[]
def sizeP (label:Int):Int:=(wordsP label prt0).length
def fillP (label:Int)(l:List Int):Prt:=if label=2 then⟨l.getD 0 0,0,0,l.getD 1 0,l.getD 2 0,l.getD 3 0,l.getD 4 0⟩else if label=3 then⟨0,0,l.getD 1 0,0,l.getD 0 0,l.getD 2 0,0⟩else if label=4∨label=5 then⟨l.getD 0 0,0,0,0,0,0,0⟩else if label=6∨label=7 then⟨l.getD 0 0,l.getD 1 0,l.getD 2 0,l.getD 3 0,0,0,0⟩else⟨l.getD 0 0,0,0,0,l.getD 1 0,0,0⟩
def getP (label:Int)(l:List Int):Prt×Int:=if label<2∨9<label then(prt0,1)else if(l.length:Int)≠sizeP label then(prt0,2)else(fillP label l,0)
def mayP (label:Int)(p:Prt):Bool:=decide (getP label (wordsP label p)=(p,0))
def putP (label:Int)(p:Prt):List Int×Int:=if mayP label p=true then(wordsP label p,0)else([],1)
theorem label_cases (x:Int):x=2∨x=3∨x=4∨x=5∨x=6∨x=7∨x=8∨x=9∨(x<2∨9<x):=by omega
theorem wordsP_none {x:Int}(h:x<2∨9<x)(p:Prt):wordsP x p=[]:=by
 unfold wordsP
 rw[if_neg (by omega),if_neg (by omega),if_neg (by omega),if_neg (by omega),if_neg (by omega)]
theorem q11_words (x:Int)(p:Prt):ACalls Tryz.prog 77 [.one (u32 x),.agg (ePrt p)] (.one (.one (eWords (wordsP x p)))):=by
 refine ACalls.intro (fn:=Tryz.f77) Tryz.func77 rfl rfl (by simp[Tryz.f77]) ?_
 unfold Tryz.f77
 simp only[ePrt]
 rcases label_cases x with rfl|rfl|rfl|rfl|rfl|rfl|rfl|rfl|h
 ·refine wk T0 T0 T0 (J2 ?_ T0)
  all_goals ((repeat intro h);refine⟨?_⟩)
  simp[wordsP,eWords,eWord]
 ·refine wk T0 T0 T0 (J2 ?_ T0)
  all_goals ((repeat intro h);refine⟨?_⟩)
  simp[wordsP,eWords,eWord]
 ·refine wk T0 T0 T0 (J2 ?_ T0)
  all_goals ((repeat intro h);refine⟨?_⟩)
  simp[wordsP,eWords,eWord]
 ·refine wk T0 T0 T0 (J2 ?_ T0)
  all_goals ((repeat intro h);refine⟨?_⟩)
  simp[wordsP,eWords,eWord]
 ·refine wk T0 T0 T0 (J2 ?_ T0)
  all_goals ((repeat intro h);refine⟨?_⟩)
  simp[wordsP,eWords,eWord]
 ·refine wk T0 T0 T0 (J2 ?_ T0)
  all_goals ((repeat intro h);refine⟨?_⟩)
  simp[wordsP,eWords,eWord]
 ·refine wk T0 T0 T0 (J2 ?_ T0)
  all_goals ((repeat intro h);refine⟨?_⟩)
  simp[wordsP,eWords,eWord]
 ·refine wk T0 T0 T0 (J2 ?_ T0)
  all_goals ((repeat intro h);refine⟨?_⟩)
  simp[wordsP,eWords,eWord]
 rw[wordsP_none h]
 have h2:(x==2)=false:=by rw[beq_eq_false_iff_ne];omega
 have h3:(x==3)=false:=by rw[beq_eq_false_iff_ne];omega
 have h4:(x==4)=false:=by rw[beq_eq_false_iff_ne];omega
 have h5:(x==5)=false:=by rw[beq_eq_false_iff_ne];omega
 have h6:(x==6)=false:=by rw[beq_eq_false_iff_ne];omega
 have h7:(x==7)=false:=by rw[beq_eq_false_iff_ne];omega
 have h8:(x==8)=false:=by rw[beq_eq_false_iff_ne];omega
 have h9:(x==9)=false:=by rw[beq_eq_false_iff_ne];omega
 refine wk (J8 h2 h3 h4 h5 h6 h7 h8 h9) T0 T0 (J2 ?_ T0)
 all_goals ((repeat intro h);refine⟨?_⟩)
 simp[eWords]
theorem len1 {l:List Int}(h:(l.length:Int)=1):∃a,l=[a]:=by
 match l,h with
 | [a],_=>exact⟨a,rfl⟩
 | [],h=>simp at h
 |a::b::t,h=>simp at h;omega
theorem len2 {l:List Int}(h:(l.length:Int)=2):∃a b,l=[a,b]:=by
 match l,h with
 | [a,b],_=>exact⟨a,b,rfl⟩
 | [],h=>simp at h
 | [a],h=>simp at h
 |a::b::c::t,h=>simp at h;omega
theorem len3 {l:List Int}(h:(l.length:Int)=3):∃a b c,l=[a,b,c]:=by
 match l,h with
 |a::t,h=>
  obtain⟨b,c,rfl⟩:=len2 (l:=t) (by simp at h;omega)
  exact⟨a,b,c,rfl⟩
theorem len4 {l:List Int}(h:(l.length:Int)=4):∃a b c d,l=[a,b,c,d]:=by
 match l,h with
 |a::t,h=>
  obtain⟨b,c,d,rfl⟩:=len3 (l:=t) (by simp at h;omega)
  exact⟨a,b,c,d,rfl⟩
theorem len5 {l:List Int}(h:(l.length:Int)=5):∃a b c d e,l=[a,b,c,d,e]:=by
 match l,h with
 |a::t,h=>
  obtain⟨b,c,d,e,rfl⟩:=len4 (l:=t) (by simp at h;omega)
  exact⟨a,b,c,d,e,rfl⟩
theorem q11_get (x:Int)(l:List Int):ACalls Tryz.prog 41 [.one (u32 x),.one (eWords l)] (.tup [.agg (ePrt (getP x l).1),.one (i64 (getP x l).2)]):=by
 refine ACalls.intro (fn:=Tryz.f41) Tryz.func41 rfl rfl (by simp[Tryz.f41]) ?_
 have hq:=q11_words x prt0
 unfold Tryz.f41
 by_cases hx:x<2∨9<x
 ·have e:getP x l=(prt0,1):=by rw[getP,if_pos hx]
  rw[e]
  simp only[ePrt,prt0,eWords]at *
  by_cases h2:x<2
  ·refine wk h2 T0 T0 T0
  ·have h9:9<x:=by omega
   refine wk (J2 h2 h9) T0 T0 T0
 ·by_cases hs:(l.length:Int)=sizeP x
  ·have e:getP x l=(fillP x l,0):=by rw[getP,if_neg hx,if_neg (fun h=>h hs)]
   rw[e]
   rcases label_cases x with rfl|rfl|rfl|rfl|rfl|rfl|rfl|rfl|h
   ·obtain⟨a,b,c,d,f,rfl⟩:=len5 hs
    rw[show wordsP 2 prt0=[0,0,0,0,0]from rfl]at hq
    rw[show fillP 2 [a,b,c,d,f]=⟨a,0,0,b,c,d,f⟩from rfl]
    simp only[ePrt,prt0,eWords,eWord,List.map_cons,List.map_nil]at *
    refine wk T0 hq T0 T0
   ·obtain⟨a,b,c,rfl⟩:=len3 hs
    rw[show wordsP 3 prt0=[0,0,0]from rfl]at hq
    rw[show fillP 3 [a,b,c]=⟨0,0,b,0,a,c,0⟩from rfl]
    simp only[ePrt,prt0,eWords,eWord,List.map_cons,List.map_nil]at *
    refine wk T0 hq T0 T0
   ·obtain⟨a,rfl⟩:=len1 hs
    rw[show wordsP 4 prt0=[0]from rfl]at hq
    rw[show fillP 4 [a]=⟨a,0,0,0,0,0,0⟩from rfl]
    simp only[ePrt,prt0,eWords,eWord,List.map_cons,List.map_nil]at *
    refine wk T0 hq T0 T0
   ·obtain⟨a,rfl⟩:=len1 hs
    rw[show wordsP 5 prt0=[0]from rfl]at hq
    rw[show fillP 5 [a]=⟨a,0,0,0,0,0,0⟩from rfl]
    simp only[ePrt,prt0,eWords,eWord,List.map_cons,List.map_nil]at *
    refine wk T0 hq T0 T0
   ·obtain⟨a,b,c,d,rfl⟩:=len4 hs
    rw[show wordsP 6 prt0=[0,0,0,0]from rfl]at hq
    rw[show fillP 6 [a,b,c,d]=⟨a,b,c,d,0,0,0⟩from rfl]
    simp only[ePrt,prt0,eWords,eWord,List.map_cons,List.map_nil]at *
    refine wk T0 hq T0 T0
   ·obtain⟨a,b,c,d,rfl⟩:=len4 hs
    rw[show wordsP 7 prt0=[0,0,0,0]from rfl]at hq
    rw[show fillP 7 [a,b,c,d]=⟨a,b,c,d,0,0,0⟩from rfl]
    simp only[ePrt,prt0,eWords,eWord,List.map_cons,List.map_nil]at *
    refine wk T0 hq T0 T0
   ·obtain⟨a,b,rfl⟩:=len2 hs
    rw[show wordsP 8 prt0=[0,0]from rfl]at hq
    rw[show fillP 8 [a,b]=⟨a,0,0,0,b,0,0⟩from rfl]
    simp only[ePrt,prt0,eWords,eWord,List.map_cons,List.map_nil]at *
    refine wk T0 hq T0 T0
   ·obtain⟨a,b,rfl⟩:=len2 hs
    rw[show wordsP 9 prt0=[0,0]from rfl]at hq
    rw[show fillP 9 [a,b]=⟨a,0,0,0,b,0,0⟩from rfl]
    simp only[ePrt,prt0,eWords,eWord,List.map_cons,List.map_nil]at *
    refine wk T0 hq T0 T0
   ·exact absurd h hx
  ·have e:getP x l=(prt0,2):=by rw[getP,if_neg hx,if_pos hs]
   rw[e]
   have h2:¬x<2:=by omega
   have h9:¬9<x:=by omega
   have hne:((l.length:Int) != ((wordsP x prt0).length:Int))=true:=by rw[bne_iff_ne];exact hs
   generalize wordsP x prt0=m at *
   simp only[ePrt,prt0,eWords]at *
   refine wk (J3 h2 h9 hne) hq T0 T0
theorem q11_put (x:Int)(p:Prt):ACalls Tryz.prog 47 [.one (u32 x),.agg (ePrt p)] (.tup [.one (eWords (putP x p).1),.one (i64 (putP x p).2)]):=by
 refine ACalls.intro (fn:=Tryz.f47) Tryz.func47 rfl rfl (by simp[Tryz.f47]) ?_
 have hw:=q11_words x p
 have hg:=q11_get x (wordsP x p)
 have heq:=eqok_prt
 have hd:=eqPrtB_dec (getP x (wordsP x p)).1 p
 unfold eqPrtB at hd
 unfold putP mayP
 generalize wordsP x p=l at *
 generalize getP x l=g at *
 unfold Tryz.f47
 obtain⟨q,e⟩:=g
 by_cases he:e=0
 ·subst he
  by_cases hqp:q=p
  ·subst hqp
   simp only[decide_true]at hd
   simp only[ePrt,eWords,if_true,decide_true]at *
   refine wkx (J2 heq hd) (J2 hw hg) T0 T0
  ·have hn:¬((q,(0:Int))=(p,0)):=fun h=>hqp (by simpa using h)
   simp only[hqp,decide_false]at hd
   simp only[ePrt,eWords,hn,decide_false,Bool.false_eq_true,if_false,List.map_nil]at *
   refine wkx (J2 heq hd) (J2 hw hg) T0 T0
 ·have hn:¬((q,e)=(p,0)):=fun h=>he (by simp at h;exact h.2)
  have hb:(e != 0)=true:=by simpa using he
  clear hd
  simp only[ePrt,eWords,hn,decide_false,Bool.false_eq_true,if_false,List.map_nil]at *
  refine wk hb (J2 hw hg) T0 T0
end
section
structure Small (w:Wld):Prop where
 ent:w.box.entries.length<1000000
 plain:∀s∈w.box.entries,s.plain.length<1000000
 grams:w.net.grams.length<1000000
 seen:w.net.seen.length<1000000
 people:w.people.length<1000000
 log:w.log.length<1000000
 next:0≤w.draws.next∧w.draws.next<1000000000
def drawW (w:Wld):Wld:={w with draws:=⟨w.draws.list,w.draws.next+1⟩}
def drawnW (w:Wld):Int:=dAt w.draws.list w.draws.next.toNat
def sealedW (w:Wld)(key label:Int)(p:Prt):Box×Int:=sealB w.box (drawnW w) key label (putP label p).1
def sealW (w:Wld)(key label:Int)(p:Prt):Wld×Int×Int:=
 if(putP label p).2≠0 then(w,0,(putP label p).2)else if(sealedW w key label p).2≠0 then(w,0,(sealedW w key label p).2)else({drawW w with box:=(sealedW w key label p).1},drawnW w,0)
def openW (w:Wld)(key label handle:Int):Prt×Bool:=
 if(openB w.box key label handle).2=true∧(getP label (openB w.box key label handle).1).2=0 then((getP label (openB w.box key label handle).1).1,true)else(prt0,false)
def sendW (w:Wld)(to:Int)(m:Mssg):Wld×Int:=
 if putE m≠0 then(w,putE m)else({w with net:=(sendN w.net ⟨to,putL m⟩).1},(sendN w.net ⟨to,putL m⟩).2)
def logW (w:Wld)(e:Event):Wld:={w with log:=w.log++[e]}
def roomW (w:Wld)(b f:Int):Bool:=decide (b≤w.box.room - (w.box.entries.length:Int)∧f≤w.net.room - (w.net.grams.length:Int))
def personW (w:Wld)(n:Int):Person:=(getPl w.people n).1
def withW (w:Wld)(p:Person):Wld:=if(setPl w.people p).2=0 then {w with people:=(setPl w.people p).1} else w
theorem q12_draw (w:Wld)(h:0≤w.draws.next∧w.draws.next<1000000000):ACalls Tryz.prog 28 [.agg (eWld w)] (.tup [.agg (eWld (drawW w)),.one (u32 (drawnW w))]):=by
 refine ACalls.intro (fn:=Tryz.f28) Tryz.func28 rfl rfl (by simp[Tryz.f28]) ?_
 have hq:=q04_take w.draws w.draws.next.toNat (by omega) (by omega)
 rw[show((w.draws.next.toNat+1:Nat):Int)=w.draws.next+1 by omega]at hq
 unfold Tryz.f28
 simp only[eWld,drawW,drawnW,eDraws,eSealeds,eGrams,ePeople,eEvents,eRows,eWords,eLeaks]at *
 refine wk T0 hq T0 T0
theorem q12_seal (w:Wld)(key label:Int)(p:Prt)(h:Small w):ACalls Tryz.prog 18 [.agg (eWld w),.one (u32 key),.one (u32 label),.agg (ePrt p)] (.tup [.agg (eWld (sealW w key label p).1),.one (u32 (sealW w key label p).2.1),.one (i64 (sealW w key label p).2.2)]):=by
 refine ACalls.intro (fn:=Tryz.f18) Tryz.func18 rfl rfl (by simp[Tryz.f18]) ?_
 have hp:=q11_put label p
 have hd:=q12_draw w h.next
 have hpl:(putP label p).1.length<1000000:=by
  unfold putP;split
  ·rcases label_cases label with rfl|rfl|rfl|rfl|rfl|rfl|rfl|rfl|hh<;>first|(rw[wordsP_none (by assumption)];simp;done)|simp[wordsP]
  ·simp
 have hs:=q07_seal w.box (drawnW w) key label (putP label p).1 h.ent hpl
 have e2:sealB w.box (drawnW w) key label (putP label p).1=sealedW w key label p:=rfl
 rw[e2]at hs
 unfold Tryz.f18
 by_cases g1:(putP label p).2=0
 ·have g1':((putP label p).2 != 0)=false:=by simp[g1]
  by_cases g2:(sealedW w key label p).2=0
  ·have g2':((sealedW w key label p).2 != 0)=false:=by simp[g2]
   have e:sealW w key label p=({drawW w with box:=(sealedW w key label p).1},drawnW w,0):=by unfold sealW;rw[if_neg (by simp[g1]),if_neg (by simp[g2])]
   rw[e]
   clear e e2 hpl
   generalize sealedW w key label p=b at *
   generalize putP label p=pp at *
   generalize drawnW w=dr at *
   simp only[eWld,drawW,eBox,ePrt,eSealeds,eGrams,ePeople,eEvents,eRows,eWords,eLeaks]at *
   refine wk (J2 g1' g2') (J3 hp hd hs) T0 T0
  ·have g2':((sealedW w key label p).2 != 0)=true:=by simp[g2]
   have e:sealW w key label p=(w,0,(sealedW w key label p).2):=by unfold sealW;rw[if_neg (by simp[g1]),if_pos (by simp[g2])]
   rw[e]
   clear e e2 hpl
   generalize sealedW w key label p=b at *
   generalize putP label p=pp at *
   generalize drawnW w=dr at *
   simp only[eWld,drawW,eBox,ePrt,eSealeds,eGrams,ePeople,eEvents,eRows,eWords,eLeaks]at *
   refine wk (J2 g1' g2') (J3 hp hd hs) T0 T0
 ·have g1':((putP label p).2 != 0)=true:=by simp[g1]
  have e:sealW w key label p=(w,0,(putP label p).2):=by unfold sealW;rw[if_pos (by simp[g1])]
  rw[e]
  clear e e2 hpl
  generalize putP label p=pp at *
  simp only[eWld,eBox,ePrt,eSealeds,eGrams,ePeople,eEvents,eRows,eWords,eLeaks]at *
  refine wk g1' hp T0 T0
theorem q12_open (w:Wld)(key label handle:Int)(h:∀s∈w.box.entries,s.plain.length<1000000):ACalls Tryz.prog 14 [.agg (eWld w),.one (u32 key),.one (u32 label),.one (u32 handle)] (.tup [.agg (ePrt (openW w key label handle).1),.one (bl (openW w key label handle).2)]):=by
 refine ACalls.intro (fn:=Tryz.f14) Tryz.func14 rfl rfl (by simp[Tryz.f14]) ?_
 have ho:=q07_open w.box key label handle h
 have hg:=q11_get label (openB w.box key label handle).1
 unfold Tryz.f14
 unfold openW
 generalize hB:openB w.box key label handle=b at *
 obtain⟨bl1,b2⟩:=b
 simp only at *
 generalize getP label bl1=g at *
 obtain⟨g1,g2⟩:=g
 simp only at *
 cases b2
 ·rw[if_neg (by simp)]
  simp only[eWld,eBox,ePrt,prt0,eSealeds,eGrams,ePeople,eEvents,eRows,eWords,eLeaks]at *
  refine wk T0 (J2 ho hg) T0 T0
 ·by_cases hz:g2=0
  ·have hz':(g2 != 0)=false:=by simp[hz]
   rw[if_pos ⟨rfl,hz⟩]
   simp only[eWld,eBox,ePrt,prt0,eSealeds,eGrams,ePeople,eEvents,eRows,eWords,eLeaks]at *
   refine wk hz' (J2 ho hg) T0 T0
  ·have hz':(g2 != 0)=true:=by simp[hz]
   rw[if_neg (by simp[hz])]
   simp only[eWld,eBox,ePrt,prt0,eSealeds,eGrams,ePeople,eEvents,eRows,eWords,eLeaks]at *
   refine wk hz' (J2 ho hg) T0 T0
theorem q12_send (w:Wld)(to:Int)(m:Mssg)(h1:w.net.grams.length<1000000)(h2:w.net.seen.length<1000000):ACalls Tryz.prog 31 [.agg (eWld w),.one (u32 to),.agg (eMssg m)] (.tup [.agg (eWld (sendW w to m).1),.one (i64 (sendW w to m).2)]):=by
 refine ACalls.intro (fn:=Tryz.f31) Tryz.func31 rfl rfl (by simp[Tryz.f31]) ?_
 have hp:=q03_put m
 have hs:=q06_send w.net ⟨to,putL m⟩ h1 h2
 unfold Tryz.f31
 unfold sendW
 generalize putL m=l at *
 by_cases g:putE m=0
 ·have g':(putE m != 0)=false:=by simp[g]
  rw[if_neg (by simp[g])]
  generalize sendN w.net ⟨to,l⟩=n at *
  generalize putE m=e at *
  simp only[eWld,eNet,eGram,eMssg,eSealeds,eGrams,ePeople,eEvents,eRows,eWords,eLeaks]at *
  refine wk g' (J2 hp hs) T0 T0
 ·have g':(putE m != 0)=true:=by simp[g]
  rw[if_pos g]
  generalize putE m=e at *
  simp only[eWld,eNet,eGram,eMssg,eSealeds,eGrams,ePeople,eEvents,eRows,eWords,eLeaks]at *
  refine wk g' hp T0 T0
theorem q12_log (w:Wld)(e:Event)(h:w.log.length<1000000):ACalls Tryz.prog 30 [.agg (eWld w),.agg (eEvent e)] (.one (.agg (eWld (logW w e)))):=by
 refine ACalls.intro (fn:=Tryz.f30) Tryz.func30 rfl rfl (by simp[Tryz.f30]) ?_
 unfold Tryz.f30
 simp only[eWld,logW,eEvent.eq_1 e,eSealeds,eGrams,ePeople,eEvents,eRows,eWords,eLeaks]at *
 refine wk T0 T0 T0 (J2 ?_ T0)
 all_goals ((repeat intro h);refine⟨?_⟩)
 simp[eEvent]
theorem q12_roomq (w:Wld)(b f:Int)(h1:rightB w.box=true)(h2:rightN w.net=true):ACalls Tryz.prog 27 [.agg (eWld w),.one (i64 b),.one (i64 f)] (rB (roomW w b f)):=by
 refine ACalls.intro (fn:=Tryz.f27) Tryz.func27 rfl rfl (by simp[Tryz.f27]) ?_
 have g1:0≤w.box.room∧w.box.room≤64∧(w.box.entries.length:Int)≤w.box.room:=by
  unfold rightB at h1;rw[Bool.and_eq_true,decide_eq_true_eq]at h1;exact h1.1
 have g2:0≤w.net.room∧w.net.room≤64∧(w.net.grams.length:Int)≤w.net.room:=of_decide_eq_true h2
 have hw1:=wrapI (x:=w.box.room - (w.box.entries.length:Int)) (by omega) (by omega)
 have hw2:=wrapI (x:=w.net.room - (w.net.grams.length:Int)) (by omega) (by omega)
 unfold Tryz.f27
 simp only[eWld,rB,eSealeds,eGrams,ePeople,eEvents,eRows,eWords,eLeaks]at *
 refine wk (J2 hw1 hw2) T0 T0 (J3 ?_ ?_ T0)
 all_goals ((repeat intro h);refine⟨?_⟩)
 all_goals (refine rB_eq ?_;simp only[roomW,decide_eq_true_eq,decide_eq_false_iff_not,Bool.false_eq_true,iff_false,false_iff,not_and,not_true_eq_false]at *;omega)
theorem q12_person (w:Wld)(n:Int):ACalls Tryz.prog 24 [.agg (eWld w),.one (u32 n)] (.one (.agg (ePerson (personW w n)))):=by
 refine ACalls.intro (fn:=Tryz.f24) Tryz.func24 rfl rfl (by simp[Tryz.f24]) ?_
 have hg:=q10_get w.people n
 unfold Tryz.f24
 unfold personW
 generalize getPl w.people n=g at *
 simp only[eWld,ePerson,eSealeds,eGrams,ePeople,eEvents,eRows,eWords,eLeaks,eRuns]at *
 refine wk T0 hg T0 T0
theorem q12_with (w:Wld)(p:Person)(h:w.people.length<1000000):ACalls Tryz.prog 29 [.agg (eWld w),.agg (ePerson p)] (.one (.agg (eWld (withW w p)))):=by
 refine ACalls.intro (fn:=Tryz.f29) Tryz.func29 rfl rfl (by simp[Tryz.f29]) ?_
 have hg:=q10_set 0 w.people p h
 unfold Tryz.f29
 unfold withW
 generalize setPl w.people p=g at *
 by_cases hz:g.2=0
 ·have hz':(g.2==0)=true:=by simp[hz]
  rw[if_pos hz]
  simp only[eWld,ePerson,eSealeds,eGrams,ePeople,eEvents,eRows,eWords,eLeaks,eRuns]at *
  refine wk hz' hg T0 T0
 ·have hz':(g.2==0)=false:=by simp[hz]
  rw[if_neg hz]
  simp only[eWld,ePerson,eSealeds,eGrams,ePeople,eEvents,eRows,eWords,eLeaks,eRuns]at *
  refine wk hz' hg T0 T0
end
section
structure SmallN (N:Nat)(w:Wld):Prop where
 ent:w.box.entries.length+N<1000000
 plain:∀s∈w.box.entries,s.plain.length<1000000
 grams:w.net.grams.length+N<1000000
 seen:w.net.seen.length+N<1000000
 people:w.people.length<1000000
 log:w.log.length+N<1000000
 next:0≤w.draws.next∧w.draws.next+(N:Int)<1000000000
theorem SmallN.small {N:Nat}{w:Wld}(h:SmallN N w):Small w:=⟨by have:=h.ent;omega,h.plain,by have:=h.grams;omega,by have:=h.seen;omega,h.people,by have:=h.log;omega,by have:=h.next;omega⟩
theorem SmallN.less {N M:Nat}{w:Wld}(h:SmallN N w)(hm:M≤N):SmallN M w:=⟨by have:=h.ent;omega,h.plain,by have:=h.grams;omega,by have:=h.seen;omega,h.people,by have:=h.log;omega,by have:=h.next;omega⟩
theorem SmallN.draw {N:Nat}{w:Wld}(h:SmallN (N+1) w):SmallN N (drawW w):=⟨by have:=h.ent;show w.box.entries.length+N<_;omega,h.plain,by have:=h.grams;show w.net.grams.length+N<_;omega,by have:=h.seen;show w.net.seen.length+N<_;omega,h.people,by have:=h.log;show w.log.length+N<_;omega,by have:=h.next;show 0≤w.draws.next+1∧w.draws.next+1+(N:Int)<_;omega⟩
theorem putP_len (label:Int)(p:Prt):(putP label p).1.length≤5:=by
 unfold putP;split
 ·rcases label_cases label with rfl|rfl|rfl|rfl|rfl|rfl|rfl|rfl|hh<;>first|(rw[wordsP_none (by assumption)];simp;done)|simp[wordsP]
 ·simp
theorem sealB_box (b:Box)(h k l:Int)(p:List Int):(sealB b h k l p).1=b∨(sealB b h k l p).1=⟨b.room,b.entries++[⟨h,k,l,p⟩]⟩:=by
 unfold sealB
 split
 ·exact .inl rfl
 ·split
  ·exact .inl rfl
  ·split
   ·exact .inl rfl
   ·exact .inr rfl
theorem SmallN.sealS {N:Nat}{w:Wld}(h:SmallN (N+1) w)(key label:Int)(p:Prt):SmallN N (sealW w key label p).1:=by
 unfold sealW
 split
 ·exact h.less (by omega)
 ·split
  ·exact h.less (by omega)
  ·have hd:=h.draw
   have hl:=putP_len label p
   rcases sealB_box w.box (drawnW w) key label (putP label p).1 with e|e
   ·refine⟨?_,?_,hd.grams,hd.seen,hd.people,hd.log,hd.next⟩
    ·show(sealedW w key label p).1.entries.length+N<1000000
     unfold sealedW;rw[e];exact hd.ent
    ·show∀s∈(sealedW w key label p).1.entries,_
     unfold sealedW;rw[e];exact hd.plain
   ·refine⟨?_,?_,hd.grams,hd.seen,hd.people,hd.log,hd.next⟩
    ·show(sealedW w key label p).1.entries.length+N<1000000
     unfold sealedW;rw[e];have:=h.ent;simp only[List.length_append,List.length_singleton];omega
    ·show∀s∈(sealedW w key label p).1.entries,_
     unfold sealedW;rw[e]
     intro s hs
     rcases List.mem_append.1 hs with hs|hs
     ·exact h.plain s hs
     ·rw[List.mem_singleton.1 hs];show(putP label p).1.length<1000000;omega
theorem SmallN.with_ {N:Nat}{w:Wld}(h:SmallN N w)(p:Person):SmallN N (withW w p):=by
 unfold withW
 split
 ·exact⟨h.ent,h.plain,h.grams,h.seen,by show(setPl w.people p).1.length<_;unfold setPl;simp only[List.length_map];exact h.people,h.log,h.next⟩
 ·exact h
theorem SmallN.log_ {N:Nat}{w:Wld}(h:SmallN (N+1) w)(e:Event):SmallN N (logW w e):=⟨by have:=h.ent;show w.box.entries.length+N<_;omega,h.plain,by have:=h.grams;show w.net.grams.length+N<_;omega,by have:=h.seen;show w.net.seen.length+N<_;omega,h.people,by have:=h.log;show(w.log++[e]).length+N<_;simp only[List.length_append,List.length_singleton];omega,by have:=h.next;show 0≤w.draws.next∧w.draws.next+(N:Int)<_;omega⟩
end
section
end
section
theorem idx_or {α:Type}(l:List α)(p:α→Bool):(l.find? p=none∧∀(j:Nat) (y:α),l[j]?=some y→p y=false)∨∃(i:Nat) (x:α),l.find? p=some x∧l.findIdx p=i∧l[i]?=some x∧p x=true∧∀(j:Nat) (y:α),j<i→l[j]?=some y→p y=false:=by
 induction l with
 |nil=>exact .inl ⟨rfl,fun j y h=>by simp at h⟩
 |cons a l ih=>
  cases hp:p a with
  |true=>exact .inr ⟨0,a,by simp[hp],by simp[List.findIdx_cons,hp],rfl,hp,fun j y h=>by omega⟩
  |false=>
   rcases ih with⟨h1,h2⟩|⟨i,x,h1,h2,h3,h4,h5⟩
   ·refine .inl ⟨by simp[hp,h1],fun j y hj=>?_⟩
    cases j with
    |zero=>simp at hj;subst hj;exact hp
    |succ j=>exact h2 j y (by simpa using hj)
   ·refine .inr ⟨i+1,x,by simp[hp,h1],by simp[List.findIdx_cons,hp,h2],by simpa using h3,h4,fun j y hj hy=>?_⟩
    cases j with
    |zero=>simp at hy;subst hy;exact hp
    |succ j=>exact h5 j y (by omega) (by simpa using hy)
def withR (w:Wld)(p:Person)(i:Nat)(r:Run):Wld:=withW w {p with runs:=p.runs.set i r}
def sentW (w:Wld)(to:Int)(m:Mssg):Wld:=(sendW w to m).1
def tookP (p:Person)(k:Int)(r:Run):Person:={p with used:=p.used++[k],runs:=p.runs++[r]}
def waitsO (role m:Int)(r:Run):Bool:=r.proto==2&&(r.role==role&&(r.state==1&&r.m==m))
def secB (w:Wld)(me:Int)(m:Mssg):Wld×Int×Int:=sealW (drawW w) (personW w me).key 7 ⟨drawnW w,m.run,m.a,me,0,0,0⟩
def tookO (w:Wld)(me:Int)(m:Mssg):Wld:=
 sentW (logW (withW (secB w me m).1 (tookP (personW w me) m.run ⟨2,2,m.a,drawnW w,0,m.run,0,0,1⟩)) ⟨3,2,2,m.a,me,0,0,m.run,drawnW w,(personW w me).clock⟩) 0 ⟨7,m.run,m.a,me,0,m.box,(secB w me m).2.1⟩
def firstOW (w:Wld)(me:Int)(m:Mssg):Wld×Int:=
 if(m.b==me&&pairPl w.people m.a me)=false then(w,5)
 else if mayU (personW w me).used w.conf.used m.run≠0 then(w,mayU (personW w me).used w.conf.used m.run)
 else if w.conf.runs≤((personW w me).runs.length:Int)∨roomW w 1 1=false then(w,10)
 else if(secB w me m).2.2≠0 then(w,(secB w me m).2.2)else(tookO w me m,0)
def doneB (w:Wld)(me:Int)(m:Mssg)(s:Prt)(i:Nat)(r:Run):Wld:=
 sentW (logW (withR w (personW w me) i {r with k:=s.k,state:=3}) ⟨4,2,2,r.peer,me,s.k,0,r.m,r.mine,(personW w me).clock⟩) r.peer ⟨9,m.run,0,0,0,m.box,0⟩
def shareBW (w:Wld)(me:Int)(m:Mssg):Wld×Int:=match(personW w me).runs.find? (waitsO 2 m.run)with
 |none=>(w,9)
 |some r=>if((openW w (personW w me).key 8 m.more).2&&(openW w (personW w me).key 8 m.more).1.n==r.mine)=false then(w,6)
  else if roomW w 0 1=false then(w,10)
  else(doneB w me m (openW w (personW w me).key 8 m.more).1 ((personW w me).runs.findIdx (waitsO 2 m.run)) r,0)
end
section
end
section
theorem q15_with (w:Wld)(p:Person)(i:Nat)(r:Run)(hi:i<p.runs.length)(h:w.people.length<1000000)(hr:p.runs.length<1000000):ACalls Tryz.prog 39 [.agg (eWld w),.agg (ePerson p),.one (i64 i),.agg (eRun r)] (.one (.agg (eWld (withR w p i r)))):=by
 refine ACalls.intro (fn:=Tryz.f39) Tryz.func39 rfl rfl (by simp[Tryz.f39]) ?_
 have c1:=q12_with w {p with runs:=p.runs.set i r} h
 unfold Tryz.f39
 unfold withR
 generalize withW w {p with runs:=p.runs.set i r}=ww at *
 simp only[eWld,ePerson.eq_1,eSealeds,eGrams,ePeople,eEvents,eRows,eWords,eLeaks,eRuns,eRun.eq_1 r,List.map_set]at *
 refine wkx hi c1 T0 T0
end
section
theorem p06_free (n:Net):ACalls Tryz.prog 114 [.agg (eNet n)] (rI (IntKind.i64.wrap (n.room - n.grams.length))):=by
 refine ACalls.intro (fn:=Tryz.f114) Tryz.func114 rfl rfl (by simp[Tryz.f114]) ?_
 unfold Tryz.f114 eNet eGrams
 simp only[rI]
 refine wk T0 T0 T0 T0
theorem p06_full (n:Net)(hl:n.grams.length<1000000)(hr:0≤n.room):ACalls Tryz.prog 132 [.agg (eNet n)] (rB (decide (n.room≤(n.grams.length:Int)))):=by
 refine ACalls.introF (fn:=Tryz.f132) Tryz.func132 rfl rfl (by simp[Tryz.f132]) fun hf=>?_
 have hr2:=in_i64 (Fine.int ((hf _ (by simp):FineCA (.agg (eNet n))) (i64 n.room) (by simp[eNet])))
 have hq:=p06_free n
 have hw:IntKind.i64.wrap (n.room - (n.grams.length:Int))=n.room - (n.grams.length:Int):=wrapI (by omega) (by omega)
 rw[hw]at hq
 unfold Tryz.f132 eNet at *
 simp only[rI,rB]at *
 refine wk T0 hq T0 (J2 ?_ T0)
 all_goals ((repeat intro h);refine⟨?_⟩)
 congr 4
 rw[decide_eq_decide]
 omega
theorem p06_behind_gram (l:List Gram)(g:Gram)(hl:l.length<1000000):ACalls Tryz.prog 133 [.one (eGrams l),.agg (eGram g)] (.one (.one (eGrams (l++[g])))):=by
 refine ACalls.intro (fn:=Tryz.f133) Tryz.func133 rfl rfl (by simp[Tryz.f133]) ?_
 unfold Tryz.f133 eGrams
 simp only[eGram.eq_1 g]
 refine wk T0 T0 T0 (J2 ?_ T0)
 all_goals ((repeat intro h);refine⟨?_⟩)
 simp[eGram,eSeen]
theorem p06_behind_seen (l:List (List Int))(g:List Int)(hl:l.length<1000000):ACalls Tryz.prog 134 [.one (eRows l),.one (eWords g)] (.one (.one (eRows (l++[g])))):=by
 refine ACalls.intro (fn:=Tryz.f134) Tryz.func134 rfl rfl (by simp[Tryz.f134]) ?_
 unfold Tryz.f134 eRows
 simp only[]
 refine wk T0 T0 T0 (J2 ?_ T0)
 all_goals ((repeat intro h);refine⟨?_⟩)
 simp[eGram,eSeen]
theorem p06_send (n:Net)(g:Gram)(hl:n.grams.length<1000000)(hs:n.seen.length<1000000)(hr:0≤n.room):ACalls Tryz.prog 103 [.agg (eNet n),.agg (eGram g)] (.tup [.agg (eNet (sendN n g).1),.one (i64 (sendN n g).2)]):=by
 refine ACalls.intro (fn:=Tryz.f103) Tryz.func103 rfl rfl (by simp[Tryz.f103]) ?_
 have hf:=p06_full n hl hr
 have h1:=p06_behind_gram n.grams g hl
 have h2:=p06_behind_seen n.seen g.words hs
 unfold Tryz.f103 eNet eGram at *
 simp only[rB]at *
 refine wk T0 (J3 hf h1 h2) T0 (J3 ?_ ?_ T0)
 all_goals ((repeat intro h);refine⟨?_⟩)
 ·simp[sendN,h]
 ·have h':¬n.room≤(n.grams.length:Int):=by omega
  simp[sendN,h']
end
end Go.Proofs.YtaoijgapnmmpoaaGreatDoor.Abs
