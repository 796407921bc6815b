/- Texts that were merged: Cod, AbsL, Frames, Enc, Types, EqB, Cut, Idx, AbsP, AbsY, AbsZ, Wk, Q01, Q01b. -/
import Derived.Test.YtaoijgapnmmpoaaGreatDoorZ1
import Derived.OpenShut
import Derived.Test.YtaoijgapnmmpoaaGreatDoorZ3
import Derived.Test.YtaoijgapnmmpoaaGreatDoorProg
import Derived.RangeFuncIn
set_option linter.unusedSimpArgs false
set_option linter.unusedVariables false
set_option maxRecDepth 100000
section
namespace Go.Proofs.YtaoijgapnmmpoaaGreatDoor
open Go.RowKit
def Kept (B:Nat)(w w':World):Prop:=∀k,k<B→w'.heap[k]?=w.heap[k]?
theorem Kept.refl (B:Nat)(w:World):Kept B w w:=fun _ _=>rfl
theorem Kept.trans {B:Nat}{w w' w'':World}(h:Kept B w w')(k:Kept B w' w''):Kept B w w'':=fun i hi=>(k i hi).trans (h i hi)
theorem Kept.mono {B B':Nat}{w w':World}(h:Kept B w w')(hb:B'≤B):Kept B' w w':=fun i hi=>h i (by omega)
theorem Kept.cell {B:Nat}{w w':World}(h:Kept B w w'){p:Addr}(hp:p.block<B):w'.cell? p=w.cell? p:=World.cell?_of_block (w:=w) (h p.block hp)
structure Cod (α:Type) where
 size:Nat
 rep:World→Nat→List Value→α→Prop
 len:∀{w B vs x},rep w B vs x→vs.length=size
 mono:∀{w B B' vs x},rep w B vs x→B≤B'→rep w B' vs x
 keep:∀{w w' B vs x},rep w B vs x→Kept B w w'→rep w' B vs x
 one:∀{w B vs x},rep w B vs x→∀u∈vs,u.oneCell'=true
namespace Cod
variable {α β:Type}
def num (k:IntKind):Cod Int where
 size:=1
 rep:=fun _ _ vs x=>vs=[.int k x]∧(Lit.int k x).wf=true
 len:=fun h=>by rw[h.1];rfl
 mono:=fun h _=>h
 keep:=fun h _=>h
 one:=fun h u hu=>by rw[h.1]at hu;simp at hu;subst hu;rfl
def flag:Cod Bool where
 size:=1
 rep:=fun _ _ vs x=>vs=[.bool x]
 len:=fun h=>by rw[h];rfl
 mono:=fun h _=>h
 keep:=fun h _=>h
 one:=fun h u hu=>by rw[h]at hu;simp at hu;subst hu;rfl
def Elems (C:Cod α)(w:World)(B b o:Nat)(xs:List α):Prop:=∀i x,xs[i]?=some x→∃us,C.rep w B us x∧∀j u,us[j]?=some u→w.cell? ⟨b,o+i*C.size+j,none⟩=some u
theorem Elems.keep {C:Cod α}{w w':World}{B b o:Nat}{xs:List α}(h:C.Elems w B b o xs)(hb:b<B)(k:Kept B w w'):C.Elems w' B b o xs:=fun i x hx=>by
 obtain⟨us,h1,h2⟩:=h i x hx
 exact⟨us,C.keep h1 k,fun j u hj=>(k.cell (p:=⟨b,_,none⟩) hb).trans (h2 j u hj)⟩
def row (C:Cod α):Cod (List α) where
 size:=1
 rep:=fun w B vs xs=>(vs=[.slice none 0 0]∧xs=[])∨∃a c,vs=[.slice (some a) xs.length c]∧xs.length≤c∧c≤maxLen∧(xs=[]∨∃b o,a=⟨b,o,none⟩∧b<B∧C.Elems w B b o xs)
 len:=fun h=>by rcases h with⟨h,_⟩|⟨_,_,h,_⟩<;>rw[h]<;>rfl
 mono:=fun h hB=>h.imp id fun⟨a,c,h1,h2,h3,h4⟩=>⟨a,c,h1,h2,h3,h4.imp id fun⟨b,o,h5,h6,h7⟩=>⟨b,o,h5,by omega,fun i x hx=>by
  obtain⟨us,k1,k2⟩:=h7 i x hx
  exact⟨us,C.mono k1 hB,k2⟩⟩⟩
 keep:=fun h k=>h.imp id fun⟨a,c,h1,h2,h3,h4⟩=>⟨a,c,h1,h2,h3,h4.imp id fun⟨b,o,h5,h6,h7⟩=>⟨b,o,h5,h6,h7.keep h6 k⟩⟩
 one:=fun h u hu=>by rcases h with⟨h,_⟩|⟨_,_,h,_⟩<;>(rw[h]at hu;simp at hu;subst hu;rfl)
def prod (C:Cod α)(D:Cod β):Cod (α×β) where
 size:=C.size+D.size
 rep:=fun w B vs x=>∃us ts,vs=us++ts∧C.rep w B us x.1∧D.rep w B ts x.2
 len:=fun⟨us,ts,h,h1,h2⟩=>by rw[h,List.length_append,C.len h1,D.len h2]
 mono:=fun⟨us,ts,h,h1,h2⟩ hB=>⟨us,ts,h,C.mono h1 hB,D.mono h2 hB⟩
 keep:=fun⟨us,ts,h,h1,h2⟩ k=>⟨us,ts,h,C.keep h1 k,D.keep h2 k⟩
 one:=fun⟨us,ts,h,h1,h2⟩ u hu=>by
  rw[h]at hu
  rcases List.mem_append.1 hu with hu|hu
  ·exact C.one h1 u hu
  ·exact D.one h2 u hu
def via (C:Cod α)(f:β→α):Cod β where
 size:=C.size
 rep:=fun w B vs x=>C.rep w B vs (f x)
 len:=fun h=>C.len h
 mono:=fun h hB=>C.mono h hB
 keep:=fun h k=>C.keep h k
 one:=fun h=>C.one h
def words:Cod (List Int):=(num .u32).row
def Opens (P:Program)(t:TypeId)(C:Cod α):Prop:=P.cellsOf t=C.size∧
 ∀(H:Type) (enc:TypeId×Value→H) (W:World) (fuel:Nat) (cs:List Value) (x:DataW H×List MemPlace),DataW.trod enc P W 0 (fun _=>true) true fuel t cs=some x→∃y,C.rep W W.heap.size cs y
theorem Opens.num {P:Program}{t:TypeId}{k:IntKind}(h:P.underlying t=some (.int k))(hc:P.cellsOf t=1):Opens P t (Cod.num k):=⟨hc,fun H enc W fuel cs x hx=>by
 obtain⟨n,h1,_,h3⟩:=DataW.trod_int h hx
 exact⟨n,h1,h3⟩⟩
theorem Opens.flag {P:Program}{t:TypeId}(h:P.underlying t=some .bool)(hc:P.cellsOf t=1):Opens P t Cod.flag:=⟨hc,fun H enc W fuel cs x hx=>by
 obtain⟨b,h1,_⟩:=DataW.trod_bool h hx
 exact⟨b,h1⟩⟩
theorem Opens.via {P:Program}{t:TypeId}{C:Cod α}(h:Opens P t C)(f:β→α)(hf:∀a,∃b,f b=a):Opens P t (C.via f):=⟨h.1,fun H enc W fuel cs x hx=>by
 obtain⟨y,hy⟩:=h.2 H enc W fuel cs x hx
 obtain⟨b,rfl⟩:=hf y
 exact⟨b,hy⟩⟩
theorem Opens.row {P:Program}{t e:TypeId}{C:Cod α}(h:P.underlying t=some (.slice e))(hc:P.cellsOf t=1)(he:Opens P e C)(hs:0<C.size):Opens P t C.row:=⟨hc,fun H enc W fuel cs x hx=>by
 rcases DataW.trod_slice h hx with⟨h1,_⟩|⟨a,len,cap,elems,rest,n,_,rfl,_,_,hl,hm,hlen,hel,_⟩
 ·exact⟨[],.inl ⟨h1,rfl⟩⟩
 ·have each:∀i,i<len→∃us y,C.rep W W.heap.size us y∧us.length=C.size∧∀j,j<C.size→W.cell? ((a.add (i*C.size)).add j)=us[j]?:=fun i hi=>by
   have h1:=hel i hi
   rw[he.1,List.getElem?_eq_getElem (by omega)]at h1
   obtain⟨us,h2,h3⟩:=Option.bind_eq_some_iff.1 h1
   obtain⟨_,h4,h5⟩:=World.cells?_some h2
   obtain⟨y,hy⟩:=he.2 H enc W n us _ h3
   exact⟨us,y,hy,h4,h5⟩
  have all:∀m,m≤len→∃ys:List α,ys.length=m∧∀i y,ys[i]?=some y→∃us,C.rep W W.heap.size us y∧us.length=C.size∧∀j,j<C.size→W.cell? ((a.add (i*C.size)).add j)=us[j]?:=by
   intro m
   induction m with
   |zero=>intro _;exact⟨[],rfl,fun i y hy=>by simp at hy⟩
   |succ m ih=>
    intro hm1
    obtain⟨ys,hys,hall⟩:=ih (by omega)
    obtain⟨us,y,h1,h2,h3⟩:=each m (by omega)
    refine⟨ys++[y],by simp[hys],fun i z hz=>?_⟩
    by_cases hi:i<ys.length
    ·rw[List.getElem?_append_left hi]at hz
     exact hall i z hz
    ·rw[List.getElem?_append_right (by omega)]at hz
     have:i=m:=by
      rcases Nat.lt_or_ge (i - ys.length) 1 with h|h
      ·omega
      ·rw[List.getElem?_eq_none (by simpa using h)]at hz;simp at hz
     subst this
     rw[hys]at hz
     simp at hz
     subst hz
     exact⟨us,h1,h2,h3⟩
  obtain⟨ys,hys,hall⟩:=all len (Nat.le_refl _)
  refine⟨ys,.inr ⟨a,cap,by rw[hys],by omega,hm,?_⟩⟩
  by_cases hz:ys=[]
  ·exact .inl hz
  ·have hp:0<ys.length:=List.length_pos_iff.2 hz
   obtain⟨us,_,hu2,hu3⟩:=hall 0 ys[0] (List.getElem?_eq_getElem hp)
   have h0:=hu3 0 hs
   rw[List.getElem?_eq_getElem (by omega)]at h0
   obtain⟨b,o,spot⟩:=a
   have hsp:spot=none:=by simpa[Addr.add]using World.cell?_spot h0
   subst hsp
   have hb:=lt_of_cell h0
   refine .inr ⟨b,o,rfl,by simpa[Addr.add]using hb,fun i y hy=>?_⟩
   obtain⟨us,h1,h2,h3⟩:=hall i y hy
   refine⟨us,h1,fun j u hj=>?_⟩
   have hjl:j<C.size:=by
    rcases Nat.lt_or_ge j us.length with h|h
    ·omega
    ·rw[List.getElem?_eq_none h]at hj;simp at hj
   have:=h3 j hjl
   rw[hj]at this
   rw[add_row,add_row]at this
   exact this⟩
def OpensAt (P:Program)(fs:List Field)(off:Nat)(C:Cod α):Prop:=
 ∀(H:Type) (enc:TypeId×Value→H) (W:World) (n:Nat) (cs:List Value) (xs:List (DataW H×List MemPlace)),xs.length=fs.length→cs.length=off+C.size→
  (∀(i:Nat) (f:Field),fs[i]?=some f→DataW.trod enc P W 0 (fun _=>true) true n f.type ((cs.drop f.offset).take (P.cellsOf f.type))=xs[i]?)→∃y,C.rep W W.heap.size (cs.drop off) y
theorem OpensAt.one {P:Program}{f:Field}{off:Nat}{C:Cod α}(ho:f.offset=off)(h:Opens P f.type C):OpensAt P [f] off C:=fun H enc W n cs xs hx hc hf=>by
 have h1:=hf 0 f rfl
 match xs,hx with
 | [x],_=>
  obtain⟨y,hy⟩:=h.2 H enc W n _ x h1
  refine⟨y,?_⟩
  rw[h.1,ho,List.take_of_length_le (by simp;omega)]at hy
  exact hy
theorem OpensAt.cons {P:Program}{f:Field}{fs:List Field}{off:Nat}{C:Cod α}{D:Cod β}(ho:f.offset=off)(h:Opens P f.type C)(k:OpensAt P fs (off+C.size) D):OpensAt P (f::fs) off (C.prod D):=fun H enc W n cs xs hx hc hf=>by
 have h1:=hf 0 f rfl
 match xs,hx with
 |x::xs,hx=>
  obtain⟨y,hy⟩:=h.2 H enc W n _ x h1
  obtain⟨z,hz⟩:=k H enc W n cs xs (by simpa using hx) (by rw[hc];show off+(C.size+D.size)=_;omega) (fun i g hg=>by have:=hf (i+1) g (by simpa using hg);simpa using this)
  refine⟨(y,z),_,_,?_,hy,hz⟩
  rw[h.1,ho,←List.drop_drop,List.take_append_drop]
theorem Opens.struct {P:Program}{t:TypeId}{fs:Array Field}{C:Cod α}(h:P.underlying t=some (.struct fs))(hc:P.cellsOf t=C.size)(k:OpensAt P fs.toList 0 C):Opens P t C:=⟨hc,fun H enc W fuel cs x hx=>by
 obtain⟨xs,n,_,_,hl,hlen,hf⟩:=DataW.trod_struct h hx
 obtain⟨y,hy⟩:=k H enc W n cs xs (by simpa using hlen) (by rw[hl,hc];omega) (fun i f hi=>hf i f (by simpa using hi))
 exact⟨y,by simpa using hy⟩⟩
end Cod
end Go.Proofs.YtaoijgapnmmpoaaGreatDoor
end
namespace Go.Proofs.YtaoijgapnmmpoaaGreatDoor.Abs
open Go.RowKit
section
def Enc {α:Type}(C:Cod α)(e:α→List CV):Prop:=∀(w:World) (B:Nat) (vs:List Value) (x:α),C.rep w B vs x→F2 (R (fun k b=>k=0∧b<B) w) (e x) vs
theorem Enc.num (k:IntKind):Enc (Cod.num k) (fun x=>[.v (.int k x)]):=fun w B vs x h=>by
 obtain⟨rfl,h2⟩:=h
 exact F2.cons (R.v (inK_wf.trans h2)) F2.nil
theorem Enc.flag:Enc Cod.flag (fun x=>[.v (.bool x)]):=fun w B vs x h=>by
 have h:vs=[.bool x]:=h
 subst h
 exact F2.cons (R.v rfl) F2.nil
theorem Enc.prod {α β:Type}{C:Cod α}{D:Cod β}{e:α→List CV}{g:β→List CV}(h:Enc C e)(k:Enc D g):Enc (C.prod D) (fun x=>e x.1++g x.2):=fun w B vs x ⟨us,ts,hv,h1,h2⟩=>by
 rw[hv]
 exact(h w B us x.1 h1).append (k w B ts x.2 h2)
theorem Enc.via {α β:Type}{C:Cod α}{e:α→List CV}(h:Enc C e)(f:β→α):Enc (C.via f) (fun x=>e (f x)):=fun w B vs x hx=>h w B vs (f x) hx
theorem Enc.row {α:Type}{C:Cod α}{e:α→List CV}(h:Enc C e)(hs:0<C.size):Enc C.row (fun xs=>[.row (xs.map e)]):=fun w B vs xs hx=>by
 rcases hx with⟨rfl,rfl⟩|⟨a,c,rfl,h1,h2,h3⟩
 ·exact F2.cons R.nil F2.nil
 ·refine F2.cons ?_ F2.nil
  by_cases hz:xs=[]
  ·subst hz;exact R.bare h2
  ·rcases h3 with h3|⟨b,o,rfl,hb,hel⟩
   ·exact absurd h3 hz
   ·have hsz:∀us∈xs.map e,us.length=C.size:=fun us hu=>by
     obtain⟨x,hx,rfl⟩:=List.mem_map.1 hu
     obtain⟨i,hi,rfl⟩:=List.getElem_of_mem hx
     obtain⟨ts,k1,_⟩:=hel i _ (List.getElem?_eq_getElem hi)
     rw[(h w B ts _ k1).1,C.len k1]
    have each:∀n,n≤xs.length→∃vss:List (List Value),vss.length=n∧∀i x vs,xs[i]?=some x→vss[i]?=some vs→F2 (R (fun k b=>k=0∧b<B) w) (e x) vs∧Holds w b (o+i*C.size) vs:=by
     intro n
     induction n with
     |zero=>intro _;exact⟨[],rfl,fun i x vs _ h=>by simp at h⟩
     |succ n ih=>
      intro hn
      obtain⟨vss,q1,q2⟩:=ih (by omega)
      obtain⟨ts,k1,k2⟩:=hel n xs[n] (List.getElem?_eq_getElem (by omega))
      refine⟨vss++[ts],by simp[q1],fun i x vs hi hj=>?_⟩
      by_cases hin:i<vss.length
      ·rw[List.getElem?_append_left hin]at hj
       exact q2 i x vs hi hj
      ·rw[List.getElem?_append_right (by omega)]at hj
       have:i=n:=by
        rcases Nat.lt_or_ge (i - vss.length) 1 with h|h
        ·omega
        ·rw[List.getElem?_eq_none (by simpa using h)]at hj;simp at hj
       subst this
       rw[q1]at hj
       simp at hj
       subst hj
       rw[List.getElem?_eq_getElem (by omega)]at hi
       cases hi
       exact⟨h w B ts _ k1,k2⟩
    obtain⟨vss,q1,q2⟩:=each _ (Nat.le_refl _)
    have:=R.mk (S:=fun k b=>k=0∧b<B) (w:=w) (xs:=xs.map e) (vss:=vss) (b:=b) (o:=o) (cap:=c) (sz:=C.size) (k:=0) ⟨rfl,hb⟩ (by simpa using h1) h2 hsz ⟨by simp[q1],fun i us vs hi hj=>by
     simp only[List.getElem?_map,Option.map_eq_some_iff]at hi
     obtain⟨x,hx,rfl⟩:=hi
     exact(q2 i x vs hx hj).1⟩ (fun i vs hj=>by
     have hil:i<xs.length:=by rw[←q1];exact(List.getElem?_eq_some_iff.1 hj).1
     exact(q2 i xs[i] vs (List.getElem?_eq_getElem hil) hj).2)
    rw[List.length_map]at this
    exact this
theorem Enc.one {α:Type}{C:Cod α}{e:α→CV}(h:Enc C fun x=>[e x]){w:World}{B:Nat}{v:Value}{x:α}(hx:C.rep w B [v] x):RC (fun k b=>k=0∧b<B) w (.one (e x)) v:=by
 obtain⟨v',t,hv,h1,_⟩:=(h w B [v] x hx).uncons
 cases hv
 exact h1
theorem Enc.agg {α:Type}{C:Cod α}{e:α→List CV}(h:Enc C e){w:World}{B:Nat}{vs:List Value}{x:α}(hx:C.rep w B vs x):RC (fun k b=>k=0∧b<B) w (.agg (e x)) (.agg vs.toArray):=⟨vs,rfl,h w B vs x hx⟩
end
end Go.Proofs.YtaoijgapnmmpoaaGreatDoor.Abs
section
namespace Go.Proofs.YtaoijgapnmmpoaaGreatDoor
open Go.RowKit
abbrev Fld:=Int×List Int
def okF (f:Fld):Prop:=1≤f.1∧f.1≤255∧f.2.length≤16
def wordsF1 (f:Fld):List Int:=f.1::(f.2.length:Int)::f.2
def flatF (F:List Fld):List Int:=F.flatMap wordsF1
theorem flatF_nil:flatF []=[]:=rfl
theorem flatF_cons (f:Fld)(F:List Fld):flatF (f::F)=f.1::(f.2.length:Int)::(f.2++flatF F):=by simp[flatF,wordsF1]
theorem flatF_snoc (F:List Fld)(f:Fld):flatF (F++[f])=flatF F++wordsF1 f:=by simp[flatF]
def starts (l:List Int):Bool:=decide (2≤l.length∧1≤l.getD 0 0∧l.getD 0 0≤255∧l.getD 1 0≤16∧l.getD 1 0≤(l.length:Int) - 2)
def firstF (l:List Int):Fld:=(l.getD 0 0,(l.drop 2).take (l.getD 1 0).toNat)
def restF (l:List Int):List Int:=l.drop (2+(l.getD 1 0).toNat)
def goF:Nat→List Fld→List Int→List Fld×Int
 |0,_,_=>([],3)
 |n+1,acc,l=>if l.length=0 then(acc,0)else if acc.length=8 then([],3)else if starts l then goF n (acc++[firstF l]) (restF l)else([],2)
def getF (l:List Int):List Fld×Int:=if 64<l.length then([],3)else goF 9 [] l
theorem goF_end {n:Nat}{acc:List Fld}{l:List Int}(h:l.length=0):goF (n+1) acc l=(acc,0):=by simp only[goF];rw[if_pos h]
theorem goF_full {n:Nat}{acc:List Fld}{l:List Int}(h:l.length≠0)(h8:acc.length=8):goF (n+1) acc l=([],3):=by simp only[goF];rw[if_neg h,if_pos h8]
theorem goF_bad {n:Nat}{acc:List Fld}{l:List Int}(h:l.length≠0)(h8:acc.length≠8)(hs:starts l=false):goF (n+1) acc l=([],2):=by simp only[goF];rw[if_neg h,if_neg h8,hs];rfl
theorem goF_next {n:Nat}{acc:List Fld}{l:List Int}(h:l.length≠0)(h8:acc.length≠8)(hs:starts l=true):goF (n+1) acc l=goF n (acc++[firstF l]) (restF l):=by simp only[goF];rw[if_neg h,if_neg h8,hs];rfl
theorem firstF_rest {l:List Int}(hs:starts l=true)(h0:∀n∈l,0≤n):okF (firstF l)∧wordsF1 (firstF l)++restF l=l∧(restF l).length<l.length:=by
 have h:=of_decide_eq_true hs
 obtain⟨h1,h2,h3,h4,h5⟩:=h
 match l,h1 with
 |a::b::r,_=>
  have hb:0≤b:=h0 b (by simp)
  simp at h2 h3 h4 h5
  have hl:(r.take b.toNat).length=b.toNat:=by simp;omega
  refine⟨⟨by simpa[firstF]using h2,by simpa[firstF]using h3,by simp[firstF];omega⟩,?_,by simp[restF];omega⟩
  have e:2+b.toNat=b.toNat+2:=by omega
  simp only[wordsF1,firstF,restF,List.getD_cons_zero,List.getD_cons_succ,List.drop_succ_cons,List.drop_zero,hl,e]
  have:((b.toNat:Nat):Int)=b:=by omega
  simp[this]
theorem goF_read:∀(n:Nat) (acc:List Fld) (l:List Int),(∀x∈l,0≤x)→(((goF n acc l).2=0∧∃G,(goF n acc l).1=acc++G∧flatF G=l∧∀g∈G,okF g)∨((goF n acc l).1=[]∧(goF n acc l).2=2)∨((goF n acc l).1=[]∧(goF n acc l).2=3)):=by
 intro n
 induction n with
 |zero=>intro acc l _;exact .inr (.inr ⟨rfl,rfl⟩)
 |succ n ih=>
  intro acc l h0
  by_cases h:l.length=0
  ·rw[goF_end h];exact .inl ⟨rfl,[],by simp,by rw[List.eq_nil_of_length_eq_zero h];rfl,by simp⟩
  ·by_cases h8:acc.length=8
   ·rw[goF_full h h8];exact .inr (.inr ⟨rfl,rfl⟩)
   ·by_cases hs:starts l=true
    ·rw[goF_next h h8 hs]
     obtain⟨hk,he,_⟩:=firstF_rest hs h0
     have hr:∀x∈restF l,0≤x:=fun x hx=>h0 x (List.mem_of_mem_drop hx)
     rcases ih (acc++[firstF l]) (restF l) hr with⟨h1,G,hG,hf,hok⟩|h1
     ·refine .inl ⟨h1,firstF l::G,by rw[hG];simp,?_,?_⟩
      ·rw[flatF_cons,hf];exact he
      ·intro g hg
       rcases List.mem_cons.1 hg with rfl|hg
       ·exact hk
       ·exact hok g hg
     ·exact .inr h1
    ·rw[goF_bad h h8 (by simpa using hs)];exact .inr (.inl ⟨rfl,rfl⟩)
theorem starts_flat {f:Fld}(hf:okF f)(r:List Int):starts (wordsF1 f++r)=true∧firstF (wordsF1 f++r)=f∧restF (wordsF1 f++r)=r:=by
 obtain⟨t,d⟩:=f
 obtain⟨h1,h2,h3⟩:=hf
 refine⟨decide_eq_true ?_,?_,?_⟩
 ·simp[wordsF1]at h1 h2 h3 ⊢;omega
 ·simp[wordsF1,firstF]
 ·simp[wordsF1,restF,Nat.add_comm 2]
theorem goF_flat:∀(G:List Fld) (n:Nat) (acc:List Fld),(∀g∈G,okF g)→acc.length+G.length≤8→G.length<n→goF n acc (flatF G)=(acc++G,0):=by
 intro G
 induction G with
 |nil=>
  intro n acc _ _ hn
  obtain⟨n,rfl⟩:∃m,n=m+1:=⟨n - 1,by simp at hn;omega⟩
  rw[goF_end (by simp[flatF_nil])];simp
 |cons g G ih=>
  intro n acc hok h8 hn
  obtain⟨n,rfl⟩:∃m,n=m+1:=⟨n - 1,by simp at hn;omega⟩
  have e:flatF (g::G)=wordsF1 g++flatF G:=by simp[flatF]
  obtain⟨h1,h2,h3⟩:=starts_flat (hok g (by simp)) (flatF G)
  rw[e,goF_next (by simp[wordsF1]) (by simp at h8;omega) h1,h2,h3,ih n (acc++[g]) (fun x hx=>hok x (by simp[hx])) (by simp at h8 ⊢;omega) (by simp at hn;omega)]
  simp
theorem flatF_inj:∀(F G:List Fld),flatF F=flatF G→F=G:=by
 intro F
 induction F with
 |nil=>
  intro G h
  cases G with
  |nil=>rfl
  |cons g G=>rw[flatF_cons]at h;simp[flatF_nil]at h
 |cons f F ih=>
  intro G h
  cases G with
  |nil=>rw[flatF_cons]at h;simp[flatF_nil]at h
  |cons g G=>
   rw[flatF_cons,flatF_cons]at h
   simp only[List.cons.injEq]at h
   obtain⟨h1,h2,h3⟩:=h
   have hl:f.2.length=g.2.length:=by omega
   obtain⟨h4,h5⟩:=List.append_inj h3 hl
   rw[ih G h5,Prod.ext h1 h4]
theorem getF_read (l:List Int)(h0:∀x∈l,0≤x):((getF l).2=0∧flatF (getF l).1=l∧∀g∈(getF l).1,okF g)∨((getF l).1=[]∧(getF l).2=2)∨((getF l).1=[]∧(getF l).2=3):=by
 unfold getF
 split
 ·exact .inr (.inr ⟨rfl,rfl⟩)
 ·rcases goF_read 9 [] l h0 with⟨h1,G,hG,hf,hok⟩|h
  ·rw[List.nil_append]at hG
   rw[hG];exact .inl ⟨h1,hf,hok⟩
  ·exact .inr h
theorem getF_flat (G:List Fld)(hok:∀g∈G,okF g)(h8:G.length≤8)(h64:(flatF G).length≤64):getF (flatF G)=(G,0):=by
 unfold getF
 rw[if_neg (by omega),goF_flat G 9 [] hok (by simpa using h8) (by omega)]
 simp
structure M7 where
 kind:Int
 run:Int
 a:Int
 b:Int
 nonce:Int
 box:Int
 more:Int
 deriving DecidableEq
theorem M7.ext' {m n:M7}(h1:m.kind=n.kind)(h2:m.run=n.run)(h3:m.a=n.a)(h4:m.b=n.b)(h5:m.nonce=n.nonce)(h6:m.box=n.box)(h7:m.more=n.more):m=n:=by
 cases m;cases n;simp_all
def zeroM:M7:=⟨0,0,0,0,0,0,0⟩
def kindTags (k:Int):List Int:=
 if k=1 then[3,4,5]else if k=2 then[6]else if k=3 then[6]else if k=4 then[6]else if k=5 then[6]else if k=6 then[2,3,4,6]else if k=7 then[2,3,4,6,7]else if k=8 then[2,6,7]else if k=9 then[2,6]else[]
def hasT (k t:Int):Bool:=decide (t∈kindTags k)
def isKindB (k:Int):Bool:=decide (1≤k∧k≤9)
def M7.word (m:M7)(t:Int):Int:=if t=2 then m.run else if t=3 then m.a else if t=4 then m.b else if t=5 then m.nonce else if t=6 then m.box else m.more
def M7.set (m:M7)(t v:Int):M7:=
 if t=2 then {m with run:=v} else if t=3 then {m with a:=v} else if t=4 then {m with b:=v} else if t=5 then {m with nonce:=v} else if t=6 then {m with box:=v} else {m with more:=v}
def fitsM (m:M7)(t:Int):Bool:=hasT m.kind t||m.word t==0
def mayM (m:M7):Bool:=isKindB m.kind&&(fitsM m 2&&fitsM m 3&&fitsM m 4&&fitsM m 5&&fitsM m 6&&fitsM m 7)
def tagFields (m:M7):List Fld:=(kindTags m.kind).map fun t=>(t,[m.word t])
def fieldsM (m:M7):List Fld:=(1,[m.kind])::tagFields m
def putM (m:M7):List Int:=flatF (fieldsM m)
def wordOf (R:List Fld)(t:Int):Int:=((R.find? fun f=>f.1==t).map fun f=>f.2.getD 0 0).getD 0
def okW (k:Int)(R:List Fld):Bool:=decide (R.map (·.1)=kindTags k∧∀f∈R,f.2.length=1)
def msgOf (k:Int)(R:List Fld):M7:=⟨k,wordOf R 2,wordOf R 3,wordOf R 4,wordOf R 5,wordOf R 6,wordOf R 7⟩
def headOk (f:Fld):Bool:=decide (f.1=1∧f.2.length=1∧1≤f.2.getD 0 0∧f.2.getD 0 0≤9)
def finM:List Fld→M7×Int
 | []=>(zeroM,4)
 |f::R=>if headOk f then(if okW (f.2.getD 0 0) R then(msgOf (f.2.getD 0 0) R,0)else(zeroM,2))else(zeroM,4)
def getM (l:List Int):M7×Int:=if(getF l).2=0 then finM (getF l).1 else(zeroM,(getF l).2)
theorem kinds {k:Int}(h:isKindB k=true):k=1∨k=2∨k=3∨k=4∨k=5∨k=6∨k=7∨k=8∨k=9:=by
 have:=of_decide_eq_true h;omega
theorem kindTags_ok (k:Int):∀t∈kindTags k,2≤t∧t≤7:=by
 intro t ht
 unfold kindTags at ht
 repeat' split at ht
 all_goals simp at ht
 all_goals omega
theorem kindTags_len (k:Int):(kindTags k).length≤5:=by
 unfold kindTags
 repeat' split
 all_goals simp
theorem mayM_kind {m:M7}(h:mayM m=true):isKindB m.kind=true:=by unfold mayM at h;simp at h;exact h.1
theorem mayM_fits {m:M7}(h:mayM m=true):fitsM m 2=true∧fitsM m 3=true∧fitsM m 4=true∧fitsM m 5=true∧fitsM m 6=true∧fitsM m 7=true:=by
 unfold mayM at h;simp only[Bool.and_eq_true]at h
 exact⟨h.2.1.1.1.1.1,h.2.1.1.1.1.2,h.2.1.1.1.2,h.2.1.1.2,h.2.1.2,h.2.2⟩
theorem okF_tagFields (m:M7):∀f∈tagFields m,okF f:=by
 intro f hf
 unfold tagFields at hf
 rw[List.mem_map]at hf
 obtain⟨t,ht,rfl⟩:=hf
 have:=kindTags_ok _ t ht
 exact⟨by simp;omega,by simp;omega,by simp⟩
theorem okF_fieldsM (m:M7):∀f∈fieldsM m,okF f:=by
 intro f hf
 rcases List.mem_cons.1 hf with rfl|hf
 ·exact⟨by simp,by simp,by simp⟩
 ·exact okF_tagFields m f hf
theorem flatF_ones (T:List Int)(g:Int→Int):(flatF (T.map fun t=>(t,[g t]))).length=3*T.length:=by
 induction T with
 |nil=>rfl
 |cons t T ih=>rw[List.map_cons,flatF_cons];simp[ih];omega
theorem putM_length (m:M7):(putM m).length=3+3*(kindTags m.kind).length:=by
 unfold putM fieldsM
 rw[flatF_cons]
 have:=flatF_ones (kindTags m.kind) m.word
 unfold tagFields
 simp only[List.length_cons,List.length_append,this]
 simp
 omega
theorem fieldsM_len (m:M7):(fieldsM m).length≤6:=by
 have:=kindTags_len m.kind
 simp[fieldsM,tagFields];omega
theorem okW_tagFields (m:M7):okW m.kind (tagFields m)=true:=by
 unfold okW tagFields
 apply decide_eq_true
 refine⟨by rw[List.map_map];exact(List.map_id' _),?_⟩
 intro f hf
 rw[List.mem_map]at hf
 obtain⟨t,_,rfl⟩:=hf
 rfl
theorem msgOf_tagFields {m:M7}(h:mayM m=true):msgOf m.kind (tagFields m)=m:=by
 obtain⟨f2,f3,f4,f5,f6,f7⟩:=mayM_fits h
 have hk:=kinds (mayM_kind h)
 obtain⟨k,r,a,b,n,x,o⟩:=m
 simp only at hk
 rcases hk with rfl|rfl|rfl|rfl|rfl|rfl|rfl|rfl|rfl <;>
  simp[fitsM,hasT,kindTags,M7.word]at f2 f3 f4 f5 f6 f7<;>simp[msgOf,tagFields,kindTags,wordOf,M7.word, *]
theorem headOk_kind {k:Int}(h:isKindB k=true):headOk (1,[k])=true:=by
 have:=of_decide_eq_true h
 exact decide_eq_true ⟨rfl,rfl,by simpa using this.1,by simpa using this.2⟩
theorem get_put {m:M7}(h:mayM m=true):getM (putM m)=(m,0):=by
 have hl:=putM_length m
 have hk:=kindTags_len m.kind
 have h1:=getF_flat (fieldsM m) (okF_fieldsM m) (by have:=fieldsM_len m;omega) (by show(putM m).length≤64;omega)
 have h2:finM (fieldsM m)=(m,0):=by
  show(if headOk (1,[m.kind])then(if okW m.kind (tagFields m)then(msgOf m.kind (tagFields m),0)else(zeroM,2))else(zeroM,4))=(m,(0:Int))
  rw[if_pos (headOk_kind (mayM_kind h)),if_pos (okW_tagFields m),msgOf_tagFields h]
 unfold getM putM
 rw[h1,if_pos rfl,h2]
theorem getD_one {d:List Int}(h:d.length=1):d=[d.getD 0 0]:=by
 match d,h with
 | [x],_=>rfl
theorem okW_fields {k : Int} {R : List Fld} (hk : isKindB k = true) (h : okW k R = true) : tagFields (msgOf k R) = R ∧ mayM (msgOf k R) = true := by
  obtain ⟨h1, h2⟩ := of_decide_eq_true h
  have key : ∀ f ∈ R, ∃ x, f.2 = [x] := fun f hf => ⟨_, getD_one (h2 f hf)⟩
  clear h2 h
  rcases kinds hk with rfl | rfl | rfl | rfl | rfl | rfl | rfl | rfl | rfl <;>
    simp only [kindTags, if_true, reduceIte, Int.reduceEq, List.map_eq_cons_iff, List.map_eq_nil_iff] at h1
  all_goals
    first
      | (obtain ⟨⟨t1, d1⟩, r1, rfl, rfl, ⟨t2, d2⟩, r2, rfl, rfl, ⟨t3, d3⟩, r3, rfl, rfl, ⟨t4, d4⟩, r4, rfl, rfl, ⟨t5, d5⟩, r5, rfl, rfl, rfl⟩ := h1
         obtain ⟨x1, rfl⟩ := key (_, d1) (List.Mem.head _)
         obtain ⟨x2, rfl⟩ := key (_, d2) (List.Mem.tail _ (List.Mem.head _))
         obtain ⟨x3, rfl⟩ := key (_, d3) (List.Mem.tail _ (List.Mem.tail _ (List.Mem.head _)))
         obtain ⟨x4, rfl⟩ := key (_, d4) (List.Mem.tail _ (List.Mem.tail _ (List.Mem.tail _ (List.Mem.head _))))
         obtain ⟨x5, rfl⟩ := key (_, d5) (List.Mem.tail _ (List.Mem.tail _ (List.Mem.tail _ (List.Mem.tail _ (List.Mem.head _))))))
      | (obtain ⟨⟨t1, d1⟩, r1, rfl, rfl, ⟨t2, d2⟩, r2, rfl, rfl, ⟨t3, d3⟩, r3, rfl, rfl, ⟨t4, d4⟩, r4, rfl, rfl, rfl⟩ := h1
         obtain ⟨x1, rfl⟩ := key (_, d1) (List.Mem.head _)
         obtain ⟨x2, rfl⟩ := key (_, d2) (List.Mem.tail _ (List.Mem.head _))
         obtain ⟨x3, rfl⟩ := key (_, d3) (List.Mem.tail _ (List.Mem.tail _ (List.Mem.head _)))
         obtain ⟨x4, rfl⟩ := key (_, d4) (List.Mem.tail _ (List.Mem.tail _ (List.Mem.tail _ (List.Mem.head _)))))
      | (obtain ⟨⟨t1, d1⟩, r1, rfl, rfl, ⟨t2, d2⟩, r2, rfl, rfl, ⟨t3, d3⟩, r3, rfl, rfl, rfl⟩ := h1
         obtain ⟨x1, rfl⟩ := key (_, d1) (List.Mem.head _)
         obtain ⟨x2, rfl⟩ := key (_, d2) (List.Mem.tail _ (List.Mem.head _))
         obtain ⟨x3, rfl⟩ := key (_, d3) (List.Mem.tail _ (List.Mem.tail _ (List.Mem.head _))))
      | (obtain ⟨⟨t1, d1⟩, r1, rfl, rfl, ⟨t2, d2⟩, r2, rfl, rfl, rfl⟩ := h1
         obtain ⟨x1, rfl⟩ := key (_, d1) (List.Mem.head _)
         obtain ⟨x2, rfl⟩ := key (_, d2) (List.Mem.tail _ (List.Mem.head _)))
      | (obtain ⟨⟨t1, d1⟩, r1, rfl, rfl, rfl⟩ := h1
         obtain ⟨x1, rfl⟩ := key (_, d1) (List.Mem.head _))
    exact ⟨by simp [tagFields, msgOf, kindTags, M7.word, wordOf], by simp [mayM, fitsM, hasT, msgOf, kindTags, M7.word, wordOf, isKindB]⟩
end Go.Proofs.YtaoijgapnmmpoaaGreatDoor
end
namespace Go.Proofs.YtaoijgapnmmpoaaGreatDoor.Abs
open Go.RowKit
section
abbrev u8 (n:Int):CV:=.v (.int .u8 n)
abbrev u32 (n:Int):CV:=.v (.int .u32 n)
abbrev i64 (n:Int):CV:=.v (.int .i64 n)
abbrev bl (b:Bool):CV:=.v (.bool b)
abbrev rB (b:Bool):RV:=.one (.one (bl b))
abbrev rI (n:Int):RV:=.one (.one (i64 n))
structure Draws where
 list:List Int
 next:Int
 deriving DecidableEq
structure Gram where
 to:Int
 words:List Int
 deriving DecidableEq
structure Net where
 room:Int
 grams:List Gram
 seen:List (List Int)
 deriving DecidableEq
structure Sealed where
 handle:Int
 key:Int
 label:Int
 plain:List Int
 deriving DecidableEq
structure Box where
 room:Int
 entries:List Sealed
 deriving DecidableEq
structure Run where
 proto:Int
 role:Int
 peer:Int
 mine:Int
 their:Int
 m:Int
 k:Int
 t:Int
 state:Int
 deriving DecidableEq
structure Person where
 name:Int
 key:Int
 clock:Int
 used:List Int
 runs:List Run
 corrupt:Bool
 deriving DecidableEq
structure Event where
 kind:Int
 proto:Int
 role:Int
 a:Int
 b:Int
 k:Int
 t:Int
 m:Int
 n:Int
 clock:Int
 deriving DecidableEq
structure Leak where
 k:Int
 at_:Int
 deriving DecidableEq
structure Conf where
 window:Int
 people:Int
 box:Int
 used:Int
 runs:Int
 net:Int
 regs:Int
 deriving DecidableEq
structure Wld where
 conf:Conf
 draws:Draws
 box:Box
 net:Net
 people:List Person
 log:List Event
 regs:List (List Int)
 leaks:List Leak
 deriving DecidableEq
structure Oprn where
 kind:Int
 a:Int
 b:Int
 c:Int
 d:Int
 words:List Int
 deriving DecidableEq
structure Prt where
 n:Int
 m:Int
 a:Int
 b:Int
 k:Int
 t:Int
 h:Int
 deriving DecidableEq
abbrev Mssg:=M7
def eWord (x:Int):List CV:=[u32 x]
def eWords (l:List Int):CV:=.row (l.map eWord)
def eSeen (l:List Int):List CV:=[eWords l]
def eRows (l:List (List Int)):CV:=.row (l.map eSeen)
def eNum (x:Int):List CV:=[i64 x]
def eDraws (d:Draws):List CV:=[eWords d.list,i64 d.next]
def eGram (g:Gram):List CV:=[u32 g.to,eWords g.words]
def eGrams (l:List Gram):CV:=.row (l.map eGram)
def eNet (n:Net):List CV:=[i64 n.room,eGrams n.grams,eRows n.seen]
def eSealed (s:Sealed):List CV:=[u32 s.handle,u32 s.key,u32 s.label,eWords s.plain]
def eSealeds (l:List Sealed):CV:=.row (l.map eSealed)
def eBox (b:Box):List CV:=[i64 b.room,eSealeds b.entries]
def eRun (r:Run):List CV:=[i64 r.proto,i64 r.role,u32 r.peer,u32 r.mine,u32 r.their,u32 r.m,u32 r.k,u32 r.t,i64 r.state]
def eRuns (l:List Run):CV:=.row (l.map eRun)
def ePerson (p:Person):List CV:=[u32 p.name,u32 p.key,u32 p.clock,eWords p.used,eRuns p.runs,bl p.corrupt]
def ePeople (l:List Person):CV:=.row (l.map ePerson)
def eEvent (e:Event):List CV:=[i64 e.kind,i64 e.proto,i64 e.role,u32 e.a,u32 e.b,u32 e.k,u32 e.t,u32 e.m,u32 e.n,u32 e.clock]
def eEvents (l:List Event):CV:=.row (l.map eEvent)
def eLeak (l:Leak):List CV:=[u32 l.k,u32 l.at_]
def eLeaks (l:List Leak):CV:=.row (l.map eLeak)
def eConf (c:Conf):List CV:=[u32 c.window,i64 c.people,i64 c.box,i64 c.used,i64 c.runs,i64 c.net,i64 c.regs]
def eWld (w:Wld):List CV:=[u32 w.conf.window,i64 w.conf.people,i64 w.conf.box,i64 w.conf.used,i64 w.conf.runs,i64 w.conf.net,i64 w.conf.regs,eWords w.draws.list,i64 w.draws.next,i64 w.box.room,eSealeds w.box.entries,i64 w.net.room,eGrams w.net.grams,eRows w.net.seen,ePeople w.people,eEvents w.log,eRows w.regs,eLeaks w.leaks]
def eOprn (o:Oprn):List CV:=[i64 o.kind,i64 o.a,i64 o.b,i64 o.c,i64 o.d,eWords o.words]
def ePrt (p:Prt):List CV:=[u32 p.n,u32 p.m,u32 p.a,u32 p.b,u32 p.k,u32 p.t,u32 p.h]
def eMssg (m:Mssg):List CV:=[u32 m.kind,u32 m.run,u32 m.a,u32 m.b,u32 m.nonce,u32 m.box,u32 m.more]
def n32:Cod Int:=Cod.num .u32
def n64:Cod Int:=Cod.num .i64
def gramC:Cod Gram:=(n32.prod Cod.words).via fun g=>(g.to,g.words)
def netC:Cod Net:=(n64.prod (gramC.row.prod Cod.words.row)).via fun n=>(n.room,n.grams,n.seen)
def drawsC:Cod Draws:=(Cod.words.prod n64).via fun d=>(d.list,d.next)
def sealedC:Cod Sealed:=(n32.prod (n32.prod (n32.prod Cod.words))).via fun s=>(s.handle,s.key,s.label,s.plain)
def boxC:Cod Box:=(n64.prod sealedC.row).via fun b=>(b.room,b.entries)
def runC:Cod Run:=(n64.prod (n64.prod (n32.prod (n32.prod (n32.prod (n32.prod (n32.prod (n32.prod n64)))))))).via fun r=>(r.proto,r.role,r.peer,r.mine,r.their,r.m,r.k,r.t,r.state)
def personC:Cod Person:=(n32.prod (n32.prod (n32.prod (Cod.words.prod (runC.row.prod Cod.flag))))).via fun p=>(p.name,p.key,p.clock,p.used,p.runs,p.corrupt)
def eventC:Cod Event:=(n64.prod (n64.prod (n64.prod (n32.prod (n32.prod (n32.prod (n32.prod (n32.prod (n32.prod n32))))))))).via fun e=>(e.kind,e.proto,e.role,e.a,e.b,e.k,e.t,e.m,e.n,e.clock)
def leakC:Cod Leak:=(n32.prod n32).via fun l=>(l.k,l.at_)
def confC:Cod Conf:=(n32.prod (n64.prod (n64.prod (n64.prod (n64.prod (n64.prod n64)))))).via fun c=>(c.window,c.people,c.box,c.used,c.runs,c.net,c.regs)
def wldC:Cod Wld:=(confC.prod (drawsC.prod (boxC.prod (netC.prod (personC.row.prod (eventC.row.prod (Cod.words.row.prod leakC.row))))))).via fun w=>(w.conf,w.draws,w.box,w.net,w.people,w.log,w.regs,w.leaks)
def mssgC:Cod Mssg:=(n32.prod (n32.prod (n32.prod (n32.prod (n32.prod (n32.prod n32)))))).via fun m=>(m.kind,m.run,m.a,m.b,m.nonce,m.box,m.more)
theorem enc32:Enc n32 eWord:=Enc.num .u32
theorem enc64:Enc n64 eNum:=Enc.num .i64
theorem encWords:Enc Cod.words (fun l=>[eWords l]):=Enc.row (Enc.num .u32) (by decide)
theorem encRows:Enc Cod.words.row (fun l=>[eRows l]):=Enc.row encWords (by decide)
theorem encGram:Enc gramC eGram:=(enc32.prod encWords).via _
theorem encGrams:Enc gramC.row (fun l=>[eGrams l]):=Enc.row encGram (by decide)
theorem encNet:Enc netC eNet:=(enc64.prod (encGrams.prod encRows)).via _
theorem encDraws:Enc drawsC eDraws:=(encWords.prod enc64).via _
theorem encSealed:Enc sealedC eSealed:=(enc32.prod (enc32.prod (enc32.prod encWords))).via _
theorem encSealeds:Enc sealedC.row (fun l=>[eSealeds l]):=Enc.row encSealed (by decide)
theorem encBox:Enc boxC eBox:=(enc64.prod encSealeds).via _
theorem encRun:Enc runC eRun:=(enc64.prod (enc64.prod (enc32.prod (enc32.prod (enc32.prod (enc32.prod (enc32.prod (enc32.prod enc64)))))))).via _
theorem encRuns:Enc runC.row (fun l=>[eRuns l]):=Enc.row encRun (by decide)
theorem encPerson:Enc personC ePerson:=(enc32.prod (enc32.prod (enc32.prod (encWords.prod (encRuns.prod Enc.flag))))).via _
theorem encPeople:Enc personC.row (fun l=>[ePeople l]):=Enc.row encPerson (by decide)
theorem encEvent:Enc eventC eEvent:=(enc64.prod (enc64.prod (enc64.prod (enc32.prod (enc32.prod (enc32.prod (enc32.prod (enc32.prod (enc32.prod enc32))))))))).via _
theorem encEvents:Enc eventC.row (fun l=>[eEvents l]):=Enc.row encEvent (by decide)
theorem encLeak:Enc leakC eLeak:=(enc32.prod enc32).via _
theorem encLeaks:Enc leakC.row (fun l=>[eLeaks l]):=Enc.row encLeak (by decide)
theorem encConf:Enc confC eConf:=(enc32.prod (enc64.prod (enc64.prod (enc64.prod (enc64.prod (enc64.prod enc64)))))).via _
theorem encWld:Enc wldC eWld:=(encConf.prod (encDraws.prod (encBox.prod (encNet.prod (encPeople.prod (encEvents.prod (encRows.prod encLeaks))))))).via _
theorem encMssg:Enc mssgC eMssg:=(enc32.prod (enc32.prod (enc32.prod (enc32.prod (enc32.prod (enc32.prod enc32)))))).via _
theorem lWord (l:List Int):∀us∈l.map eWord,us.length=1:=by simp[eWord]
theorem lNum (l:List Int):∀us∈l.map eNum,us.length=1:=by simp[eNum]
theorem lSeen (l:List (List Int)):∀us∈l.map eSeen,us.length=1:=by simp[eSeen]
theorem lGram (l:List Gram):∀us∈l.map eGram,us.length=2:=by simp[eGram]
theorem lSealed (l:List Sealed):∀us∈l.map eSealed,us.length=4:=by simp[eSealed]
theorem lRun (l:List Run):∀us∈l.map eRun,us.length=9:=by simp[eRun]
theorem lPerson (l:List Person):∀us∈l.map ePerson,us.length=6:=by simp[ePerson]
theorem lEvent (l:List Event):∀us∈l.map eEvent,us.length=10:=by simp[eEvent]
theorem lLeak (l:List Leak):∀us∈l.map eLeak,us.length=2:=by simp[eLeak]
theorem lOprn (l:List Oprn):∀us∈l.map eOprn,us.length=6:=by simp[eOprn]
theorem fineWords {l:List Int}(h:Fine (eWords l)):l.length≤9223372036854775807∧∀x∈l,0≤x∧x<4294967296:=by
 obtain⟨h1,h2⟩:=Fine.rowM h
 exact⟨h1,fun x hx=>in_u32 (h2 x hx (u32 x) (by simp[eWord])).int⟩
theorem fineRows {l:List (List Int)}(h:Fine (eRows l)):l.length≤9223372036854775807∧∀x∈l,Fine (eWords x):=by
 obtain⟨h1,h2⟩:=Fine.rowM h
 exact⟨h1,fun x hx=>h2 x hx (eWords x) (by simp[eSeen])⟩
attribute [go_sem] List.length_append List.length_singleton List.mem_singleton forall_eq List.mem_cons List.not_mem_nil or_false
end
section
@[go_sem] theorem ti1:tinfo Tryz.prog 1=some ⟨1,8,false,[.c (.v (.nilFunc))],.other⟩:=by kernel_rfl
@[go_sem] theorem ti2:tinfo Tryz.prog 2=some ⟨1,8,false,[.c (.v (.int .i64 0))],.int .i64⟩:=by kernel_rfl
@[go_sem] theorem ti3:tinfo Tryz.prog 3=some ⟨1,8,false,[.c (.v (.int .i64 0))],.int .i64⟩:=by kernel_rfl
@[go_sem] theorem ti4:tinfo Tryz.prog 4=some ⟨1,1,false,[.c (.v (.bool false))],.bool⟩:=by kernel_rfl
@[go_sem] theorem ti5:tinfo Tryz.prog 5=some ⟨1,1,false,[.c (.v (.int .u8 0))],.int .u8⟩:=by kernel_rfl
@[go_sem] theorem ti9:tinfo Tryz.prog 9=some ⟨1,16,false,[.c (.v (.string ⟨#[]⟩))],.str⟩:=by kernel_rfl
@[go_sem] theorem ti12:tinfo Tryz.prog 12=some ⟨1,8,false,[.c (.v (.int .u64 0))],.int .u64⟩:=by kernel_rfl
@[go_sem] theorem ti15:tinfo Tryz.prog 15=some ⟨1,8,false,[.c (.v (.pointer none))],.other⟩:=by kernel_rfl
@[go_sem] theorem ti16:tinfo Tryz.prog 16=some ⟨1,8,false,[.c (.v (.pointer none))],.other⟩:=by kernel_rfl
@[go_sem] theorem ti19:tinfo Tryz.prog 19=some ⟨1,8,true,[.c (.v (.pointer none))],.struct [(0,1,false)]⟩:=by kernel_rfl
@[go_sem] theorem ti20:tinfo Tryz.prog 20=some ⟨1,16,false,[.c (.v (.nilIface))],.other⟩:=by kernel_rfl
@[go_sem] theorem ti21:tinfo Tryz.prog 21=some ⟨1,4,false,[.c (.v (.int .i32 0))],.int .i32⟩:=by kernel_rfl
@[go_sem] theorem ti22:tinfo Tryz.prog 22=some ⟨1,4,false,[.c (.v (.int .u32 0))],.int .u32⟩:=by kernel_rfl
@[go_sem] theorem ti23:tinfo Tryz.prog 23=some ⟨7,56,true,[.c (.v (.int .u32 0)),.c (.v (.int .i64 0)),.c (.v (.int .i64 0)),.c (.v (.int .i64 0)),.c (.v (.int .i64 0)),.c (.v (.int .i64 0)),.c (.v (.int .i64 0))],.struct [(0,1,false),(1,1,false),(2,1,false),(3,1,false),(4,1,false),(5,1,false),(6,1,false)]⟩:=by kernel_rfl
@[go_sem] theorem ti24:tinfo Tryz.prog 24=some ⟨7,56,true,[.c (.v (.int .u32 0)),.c (.v (.int .i64 0)),.c (.v (.int .i64 0)),.c (.v (.int .i64 0)),.c (.v (.int .i64 0)),.c (.v (.int .i64 0)),.c (.v (.int .i64 0))],.struct [(0,1,false),(1,1,false),(2,1,false),(3,1,false),(4,1,false),(5,1,false),(6,1,false)]⟩:=by kernel_rfl
@[go_sem] theorem ti25:tinfo Tryz.prog 25=some ⟨1,24,false,[.nil],.slice 22 1⟩:=by kernel_rfl
@[go_sem] theorem ti26:tinfo Tryz.prog 26=some ⟨2,32,true,[.nil,.c (.v (.int .i64 0))],.struct [(0,1,false),(1,1,false)]⟩:=by kernel_rfl
@[go_sem] theorem ti27:tinfo Tryz.prog 27=some ⟨2,32,true,[.nil,.c (.v (.int .i64 0))],.struct [(0,1,false),(1,1,false)]⟩:=by kernel_rfl
@[go_sem] theorem ti28:tinfo Tryz.prog 28=some ⟨1,24,false,[.nil],.slice 108 4⟩:=by kernel_rfl
@[go_sem] theorem ti29:tinfo Tryz.prog 29=some ⟨2,32,true,[.c (.v (.int .i64 0)),.nil],.struct [(0,1,false),(1,1,false)]⟩:=by kernel_rfl
@[go_sem] theorem ti30:tinfo Tryz.prog 30=some ⟨2,32,true,[.c (.v (.int .i64 0)),.nil],.struct [(0,1,false),(1,1,false)]⟩:=by kernel_rfl
@[go_sem] theorem ti31:tinfo Tryz.prog 31=some ⟨1,24,false,[.nil],.slice 63 2⟩:=by kernel_rfl
@[go_sem] theorem ti32:tinfo Tryz.prog 32=some ⟨1,24,false,[.nil],.slice 25 1⟩:=by kernel_rfl
@[go_sem] theorem ti33:tinfo Tryz.prog 33=some ⟨3,56,true,[.c (.v (.int .i64 0)),.nil,.nil],.struct [(0,1,false),(1,1,false),(2,1,false)]⟩:=by kernel_rfl
@[go_sem] theorem ti34:tinfo Tryz.prog 34=some ⟨3,56,true,[.c (.v (.int .i64 0)),.nil,.nil],.struct [(0,1,false),(1,1,false),(2,1,false)]⟩:=by kernel_rfl
@[go_sem] theorem ti35:tinfo Tryz.prog 35=some ⟨1,24,false,[.nil],.slice 53 6⟩:=by kernel_rfl
@[go_sem] theorem ti36:tinfo Tryz.prog 36=some ⟨1,24,false,[.nil],.slice 61 10⟩:=by kernel_rfl
@[go_sem] theorem ti37:tinfo Tryz.prog 37=some ⟨1,24,false,[.nil],.slice 92 2⟩:=by kernel_rfl
@[go_sem] theorem ti38:tinfo Tryz.prog 38=some ⟨18,272,true,[.c (.v (.int .u32 0)),.c (.v (.int .i64 0)),.c (.v (.int .i64 0)),.c (.v (.int .i64 0)),.c (.v (.int .i64 0)),.c (.v (.int .i64 0)),.c (.v (.int .i64 0)),.nil,.c (.v (.int .i64 0)),.c (.v (.int .i64 0)),.nil,.c (.v (.int .i64 0)),.nil,.nil,.nil,.nil,.nil,.nil],.struct [(0,7,true),(7,2,true),(9,2,true),(11,3,true),(14,1,false),(15,1,false),(16,1,false),(17,1,false)]⟩:=by kernel_rfl
@[go_sem] theorem ti39:tinfo Tryz.prog 39=some ⟨18,272,true,[.c (.v (.int .u32 0)),.c (.v (.int .i64 0)),.c (.v (.int .i64 0)),.c (.v (.int .i64 0)),.c (.v (.int .i64 0)),.c (.v (.int .i64 0)),.c (.v (.int .i64 0)),.nil,.c (.v (.int .i64 0)),.c (.v (.int .i64 0)),.nil,.c (.v (.int .i64 0)),.nil,.nil,.nil,.nil,.nil,.nil],.struct [(0,7,true),(7,2,true),(9,2,true),(11,3,true),(14,1,false),(15,1,false),(16,1,false),(17,1,false)]⟩:=by kernel_rfl
@[go_sem] theorem ti40:tinfo Tryz.prog 40=some ⟨7,28,true,[.c (.v (.int .u32 0)),.c (.v (.int .u32 0)),.c (.v (.int .u32 0)),.c (.v (.int .u32 0)),.c (.v (.int .u32 0)),.c (.v (.int .u32 0)),.c (.v (.int .u32 0))],.struct [(0,1,false),(1,1,false),(2,1,false),(3,1,false),(4,1,false),(5,1,false),(6,1,false)]⟩:=by kernel_rfl
@[go_sem] theorem ti41:tinfo Tryz.prog 41=some ⟨7,28,true,[.c (.v (.int .u32 0)),.c (.v (.int .u32 0)),.c (.v (.int .u32 0)),.c (.v (.int .u32 0)),.c (.v (.int .u32 0)),.c (.v (.int .u32 0)),.c (.v (.int .u32 0))],.struct [(0,1,false),(1,1,false),(2,1,false),(3,1,false),(4,1,false),(5,1,false),(6,1,false)]⟩:=by kernel_rfl
@[go_sem] theorem ti44:tinfo Tryz.prog 44=some ⟨1,8,false,[.c (.v (.int .i64 0))],.int .i64⟩:=by kernel_rfl
@[go_sem] theorem ti48:tinfo Tryz.prog 48=some ⟨1,8,false,[.c (.v (.nilFunc))],.other⟩:=by kernel_rfl
@[go_sem] theorem ti51:tinfo Tryz.prog 51=some ⟨1,24,false,[.nil],.slice 55 9⟩:=by kernel_rfl
@[go_sem] theorem ti52:tinfo Tryz.prog 52=some ⟨6,72,true,[.c (.v (.int .u32 0)),.c (.v (.int .u32 0)),.c (.v (.int .u32 0)),.nil,.nil,.c (.v (.bool false))],.struct [(0,1,false),(1,1,false),(2,1,false),(3,1,false),(4,1,false),(5,1,false)]⟩:=by kernel_rfl
@[go_sem] theorem ti53:tinfo Tryz.prog 53=some ⟨6,72,true,[.c (.v (.int .u32 0)),.c (.v (.int .u32 0)),.c (.v (.int .u32 0)),.nil,.nil,.c (.v (.bool false))],.struct [(0,1,false),(1,1,false),(2,1,false),(3,1,false),(4,1,false),(5,1,false)]⟩:=by kernel_rfl
@[go_sem] theorem ti54:tinfo Tryz.prog 54=some ⟨9,48,true,[.c (.v (.int .i64 0)),.c (.v (.int .i64 0)),.c (.v (.int .u32 0)),.c (.v (.int .u32 0)),.c (.v (.int .u32 0)),.c (.v (.int .u32 0)),.c (.v (.int .u32 0)),.c (.v (.int .u32 0)),.c (.v (.int .i64 0))],.struct [(0,1,false),(1,1,false),(2,1,false),(3,1,false),(4,1,false),(5,1,false),(6,1,false),(7,1,false),(8,1,false)]⟩:=by kernel_rfl
@[go_sem] theorem ti55:tinfo Tryz.prog 55=some ⟨9,48,true,[.c (.v (.int .i64 0)),.c (.v (.int .i64 0)),.c (.v (.int .u32 0)),.c (.v (.int .u32 0)),.c (.v (.int .u32 0)),.c (.v (.int .u32 0)),.c (.v (.int .u32 0)),.c (.v (.int .u32 0)),.c (.v (.int .i64 0))],.struct [(0,1,false),(1,1,false),(2,1,false),(3,1,false),(4,1,false),(5,1,false),(6,1,false),(7,1,false),(8,1,false)]⟩:=by kernel_rfl
@[go_sem] theorem ti56:tinfo Tryz.prog 56=some ⟨7,28,true,[.c (.v (.int .u32 0)),.c (.v (.int .u32 0)),.c (.v (.int .u32 0)),.c (.v (.int .u32 0)),.c (.v (.int .u32 0)),.c (.v (.int .u32 0)),.c (.v (.int .u32 0))],.struct [(0,1,false),(1,1,false),(2,1,false),(3,1,false),(4,1,false),(5,1,false),(6,1,false)]⟩:=by kernel_rfl
@[go_sem] theorem ti57:tinfo Tryz.prog 57=some ⟨7,28,true,[.c (.v (.int .u32 0)),.c (.v (.int .u32 0)),.c (.v (.int .u32 0)),.c (.v (.int .u32 0)),.c (.v (.int .u32 0)),.c (.v (.int .u32 0)),.c (.v (.int .u32 0))],.struct [(0,1,false),(1,1,false),(2,1,false),(3,1,false),(4,1,false),(5,1,false),(6,1,false)]⟩:=by kernel_rfl
@[go_sem] theorem ti60:tinfo Tryz.prog 60=some ⟨10,56,true,[.c (.v (.int .i64 0)),.c (.v (.int .i64 0)),.c (.v (.int .i64 0)),.c (.v (.int .u32 0)),.c (.v (.int .u32 0)),.c (.v (.int .u32 0)),.c (.v (.int .u32 0)),.c (.v (.int .u32 0)),.c (.v (.int .u32 0)),.c (.v (.int .u32 0))],.struct [(0,1,false),(1,1,false),(2,1,false),(3,1,false),(4,1,false),(5,1,false),(6,1,false),(7,1,false),(8,1,false),(9,1,false)]⟩:=by kernel_rfl
@[go_sem] theorem ti61:tinfo Tryz.prog 61=some ⟨10,56,true,[.c (.v (.int .i64 0)),.c (.v (.int .i64 0)),.c (.v (.int .i64 0)),.c (.v (.int .u32 0)),.c (.v (.int .u32 0)),.c (.v (.int .u32 0)),.c (.v (.int .u32 0)),.c (.v (.int .u32 0)),.c (.v (.int .u32 0)),.c (.v (.int .u32 0))],.struct [(0,1,false),(1,1,false),(2,1,false),(3,1,false),(4,1,false),(5,1,false),(6,1,false),(7,1,false),(8,1,false),(9,1,false)]⟩:=by kernel_rfl
@[go_sem] theorem ti62:tinfo Tryz.prog 62=some ⟨2,32,true,[.c (.v (.int .u32 0)),.nil],.struct [(0,1,false),(1,1,false)]⟩:=by kernel_rfl
@[go_sem] theorem ti63:tinfo Tryz.prog 63=some ⟨2,32,true,[.c (.v (.int .u32 0)),.nil],.struct [(0,1,false),(1,1,false)]⟩:=by kernel_rfl
@[go_sem] theorem ti71:tinfo Tryz.prog 71=some ⟨1,8,false,[.c (.v (.int .u64 0))],.int .u64⟩:=by kernel_rfl
@[go_sem] theorem ti72:tinfo Tryz.prog 72=some ⟨1,8,false,[.c (.v (.nilFunc))],.other⟩:=by kernel_rfl
@[go_sem] theorem ti73:tinfo Tryz.prog 73=some ⟨1,8,false,[.c (.v (.pointer none))],.other⟩:=by kernel_rfl
@[go_sem] theorem ti75:tinfo Tryz.prog 75=some ⟨33,392,true,[.c (.v (.int .u32 0)),.c (.v (.int .i64 0)),.c (.v (.int .i64 0)),.c (.v (.int .i64 0)),.c (.v (.int .i64 0)),.c (.v (.int .i64 0)),.c (.v (.int .i64 0)),.nil,.c (.v (.int .i64 0)),.c (.v (.int .i64 0)),.nil,.c (.v (.int .i64 0)),.nil,.nil,.nil,.nil,.nil,.nil,.c (.v (.int .u32 0)),.c (.v (.int .u32 0)),.c (.v (.int .u32 0)),.nil,.nil,.c (.v (.bool false)),.c (.v (.int .i64 0)),.c (.v (.int .i64 0)),.c (.v (.int .u32 0)),.c (.v (.int .u32 0)),.c (.v (.int .u32 0)),.c (.v (.int .u32 0)),.c (.v (.int .u32 0)),.c (.v (.int .u32 0)),.c (.v (.int .i64 0))],.struct [(0,18,true),(18,6,true),(24,9,true)]⟩:=by kernel_rfl
@[go_sem] theorem ti76:tinfo Tryz.prog 76=some ⟨33,392,true,[.c (.v (.int .u32 0)),.c (.v (.int .i64 0)),.c (.v (.int .i64 0)),.c (.v (.int .i64 0)),.c (.v (.int .i64 0)),.c (.v (.int .i64 0)),.c (.v (.int .i64 0)),.nil,.c (.v (.int .i64 0)),.c (.v (.int .i64 0)),.nil,.c (.v (.int .i64 0)),.nil,.nil,.nil,.nil,.nil,.nil,.c (.v (.int .u32 0)),.c (.v (.int .u32 0)),.c (.v (.int .u32 0)),.nil,.nil,.c (.v (.bool false)),.c (.v (.int .i64 0)),.c (.v (.int .i64 0)),.c (.v (.int .u32 0)),.c (.v (.int .u32 0)),.c (.v (.int .u32 0)),.c (.v (.int .u32 0)),.c (.v (.int .u32 0)),.c (.v (.int .u32 0)),.c (.v (.int .i64 0))],.struct [(0,18,true),(18,6,true),(24,9,true)]⟩:=by kernel_rfl
@[go_sem] theorem ti77:tinfo Tryz.prog 77=some ⟨1,8,false,[.c (.v (.nilFunc))],.other⟩:=by kernel_rfl
@[go_sem] theorem ti88:tinfo Tryz.prog 88=some ⟨1,8,false,[.c (.v (.nilFunc))],.other⟩:=by kernel_rfl
@[go_sem] theorem ti91:tinfo Tryz.prog 91=some ⟨2,8,true,[.c (.v (.int .u32 0)),.c (.v (.int .u32 0))],.struct [(0,1,false),(1,1,false)]⟩:=by kernel_rfl
@[go_sem] theorem ti92:tinfo Tryz.prog 92=some ⟨2,8,true,[.c (.v (.int .u32 0)),.c (.v (.int .u32 0))],.struct [(0,1,false),(1,1,false)]⟩:=by kernel_rfl
@[go_sem] theorem ti98:tinfo Tryz.prog 98=some ⟨1,24,false,[.nil],.slice 102 2⟩:=by kernel_rfl
@[go_sem] theorem ti101:tinfo Tryz.prog 101=some ⟨2,32,true,[.c (.v (.int .u32 0)),.nil],.struct [(0,1,false),(1,1,false)]⟩:=by kernel_rfl
@[go_sem] theorem ti102:tinfo Tryz.prog 102=some ⟨2,32,true,[.c (.v (.int .u32 0)),.nil],.struct [(0,1,false),(1,1,false)]⟩:=by kernel_rfl
@[go_sem] theorem ti107:tinfo Tryz.prog 107=some ⟨4,40,true,[.c (.v (.int .u32 0)),.c (.v (.int .u32 0)),.c (.v (.int .u32 0)),.nil],.struct [(0,1,false),(1,1,false),(2,1,false),(3,1,false)]⟩:=by kernel_rfl
@[go_sem] theorem ti108:tinfo Tryz.prog 108=some ⟨4,40,true,[.c (.v (.int .u32 0)),.c (.v (.int .u32 0)),.c (.v (.int .u32 0)),.nil],.struct [(0,1,false),(1,1,false),(2,1,false),(3,1,false)]⟩:=by kernel_rfl
@[go_sem] theorem ti120:tinfo Tryz.prog 120=some ⟨1,8,false,[.c (.v (.nilFunc))],.other⟩:=by kernel_rfl
@[go_sem] theorem ti130:tinfo Tryz.prog 130=some ⟨1,8,false,[.c (.v (.nilFunc))],.other⟩:=by kernel_rfl
@[go_sem] theorem ti141:tinfo Tryz.prog 141=some ⟨1,8,false,[.c (.v (.nilFunc))],.other⟩:=by kernel_rfl
@[go_sem] theorem ti152:tinfo Tryz.prog 152=some ⟨1,8,false,[.c (.v (.nilFunc))],.other⟩:=by kernel_rfl
@[go_sem] theorem ti164:tinfo Tryz.prog 164=some ⟨1,8,false,[.c (.v (.nilFunc))],.other⟩:=by kernel_rfl
@[go_sem] theorem ti165:tinfo Tryz.prog 165=some ⟨1,24,false,[.nil],.slice 166 1⟩:=by kernel_rfl
@[go_sem] theorem ti166:tinfo Tryz.prog 166=some ⟨1,8,false,[.c (.v (.nilFunc))],.other⟩:=by kernel_rfl
@[go_sem] theorem ti172:tinfo Tryz.prog 172=some ⟨1,24,false,[.nil],.slice 176 1⟩:=by kernel_rfl
@[go_sem] theorem ti173:tinfo Tryz.prog 173=some ⟨1,8,false,[.c (.v (.map none))],.other⟩:=by kernel_rfl
@[go_sem] theorem ti175:tinfo Tryz.prog 175=some ⟨1,8,false,[.c (.v (.nilFunc))],.other⟩:=by kernel_rfl
@[go_sem] theorem ti176:tinfo Tryz.prog 176=some ⟨1,8,false,[.c (.v (.nilFunc))],.other⟩:=by kernel_rfl
@[go_sem] theorem ti177:tinfo Tryz.prog 177=some ⟨1,8,false,[.c (.v (.pointer none))],.other⟩:=by kernel_rfl
@[go_sem] theorem ti178:tinfo Tryz.prog 178=some ⟨1,8,false,[.c (.v (.pointer none))],.other⟩:=by kernel_rfl
@[go_sem] theorem ti181:tinfo Tryz.prog 181=some ⟨1,8,false,[.c (.v (.nilFunc))],.other⟩:=by kernel_rfl
@[go_sem] theorem ti185:tinfo Tryz.prog 185=some ⟨1,24,false,[.nil],.slice 51 1⟩:=by kernel_rfl
@[go_sem] theorem ti194:tinfo Tryz.prog 194=some ⟨1,8,false,[.c (.v (.nilFunc))],.other⟩:=by kernel_rfl
@[go_sem] theorem ti200:tinfo Tryz.prog 200=some ⟨1,8,false,[.c (.v (.nilFunc))],.other⟩:=by kernel_rfl
@[go_sem] theorem ti201:tinfo Tryz.prog 201=some ⟨1,24,false,[.nil],.slice 36 1⟩:=by kernel_rfl
@[go_sem] theorem ti205:tinfo Tryz.prog 205=some ⟨8,32,true,[.c (.v (.int .u32 0)),.c (.v (.int .u32 0)),.c (.v (.int .u32 0)),.c (.v (.int .u32 0)),.c (.v (.int .u32 0)),.c (.v (.int .u32 0)),.c (.v (.int .u32 0)),.c (.v (.int .u32 0))],.arr 8 22 1⟩:=by kernel_rfl
@[go_sem] theorem ti206:tinfo Tryz.prog 206=some ⟨8,32,true,[.c (.v (.int .u32 0)),.c (.v (.int .u32 0)),.c (.v (.int .u32 0)),.c (.v (.int .u32 0)),.c (.v (.int .u32 0)),.c (.v (.int .u32 0)),.c (.v (.int .u32 0)),.c (.v (.int .u32 0))],.arr 8 22 1⟩:=by kernel_rfl
@[go_sem] theorem ti213:tinfo Tryz.prog 213=some ⟨10,40,true,[.c (.v (.int .u32 0)),.c (.v (.int .u32 0)),.c (.v (.int .u32 0)),.c (.v (.int .u32 0)),.c (.v (.int .u32 0)),.c (.v (.int .u32 0)),.c (.v (.int .u32 0)),.c (.v (.int .u32 0)),.c (.v (.int .u32 0)),.c (.v (.int .u32 0))],.arr 10 22 1⟩:=by kernel_rfl
@[go_sem] theorem ti217:tinfo Tryz.prog 217=some ⟨0,0,true,[],.arr 0 16 1⟩:=by kernel_rfl
@[go_sem] theorem ti223:tinfo Tryz.prog 223=some ⟨1,8,false,[.c (.v (.nilFunc))],.other⟩:=by kernel_rfl
@[go_sem] theorem ti224:tinfo Tryz.prog 224=some ⟨1,8,false,[.c (.v (.pointer none))],.other⟩:=by kernel_rfl
@[go_sem] theorem fn1:isFn Tryz.prog 1=true:=by kernel_rfl
@[go_sem] theorem fn48:isFn Tryz.prog 48=true:=by kernel_rfl
@[go_sem] theorem fn72:isFn Tryz.prog 72=true:=by kernel_rfl
@[go_sem] theorem fn77:isFn Tryz.prog 77=true:=by kernel_rfl
@[go_sem] theorem fn88:isFn Tryz.prog 88=true:=by kernel_rfl
@[go_sem] theorem fn120:isFn Tryz.prog 120=true:=by kernel_rfl
@[go_sem] theorem fn130:isFn Tryz.prog 130=true:=by kernel_rfl
@[go_sem] theorem fn141:isFn Tryz.prog 141=true:=by kernel_rfl
@[go_sem] theorem fn152:isFn Tryz.prog 152=true:=by kernel_rfl
@[go_sem] theorem fn164:isFn Tryz.prog 164=true:=by kernel_rfl
@[go_sem] theorem fn166:isFn Tryz.prog 166=true:=by kernel_rfl
@[go_sem] theorem fn175:isFn Tryz.prog 175=true:=by kernel_rfl
@[go_sem] theorem fn176:isFn Tryz.prog 176=true:=by kernel_rfl
@[go_sem] theorem fn181:isFn Tryz.prog 181=true:=by kernel_rfl
@[go_sem] theorem fn194:isFn Tryz.prog 194=true:=by kernel_rfl
@[go_sem] theorem fn200:isFn Tryz.prog 200=true:=by kernel_rfl
@[go_sem] theorem fn223:isFn Tryz.prog 223=true:=by kernel_rfl
@[go_sem] theorem mt173:mapTI Tryz.prog 173=some (.num .u32,172):=by kernel_rfl
end
section
theorem rB_eq {a b:Bool}(h:a=true↔b=true):RV.one (CA.one (CV.v (Value.bool a)))=rB b:=by
 have:a=b:=by cases a<;>cases b<;>simp at h<;>rfl
 rw[this]
theorem sh_int {us:List Value}{k:IntKind}{l:List (Option (Option IntKind))}(h:us.map shV=some (some k)::l):∃a t,us=.int k a::t∧t.map shV=l:=by
 cases us with
 |nil=>simp at h
 |cons x t=>
  simp only[List.map_cons,List.cons.injEq]at h
  obtain⟨h1,h2⟩:=h
  cases x<;>simp[shV]at h1
  subst h1
  exact⟨_,t,rfl,h2⟩
theorem sh_nil {us:List Value}(h:us.map shV=[]):us=[]:=by simpa using h
end
section
end
section
def idxOf {α:Type}(l:List α)(p:α→Bool):Int:=match l.findIdx? p with
 |some k=>(k:Int)
 |none=>-1
theorem idxOf_next {α:Type}{l:List α}{p:α→Bool}{k:Nat}{x:α}(ht:∀s∈l.take k,p s=false)(hx:l[k]?=some x)(hp:p x=false):∀s∈l.take (k+1),p s=false:=by
 intro s hs
 rw[List.take_add_one,hx]at hs
 simp only[Option.toList_some,List.mem_append,List.mem_singleton]at hs
 rcases hs with hs|rfl
 ·exact ht s hs
 ·exact hp
theorem idxOf_some {α:Type}{l:List α}{p:α→Bool}{k:Nat}{x:α}(ht:∀s∈l.take k,p s=false)(hx:l[k]?=some x)(hp:p x=true):idxOf l p=(k:Int):=by
 have hk:k<l.length:=(List.getElem?_eq_some_iff.1 hx).1
 have:l.findIdx? p=some k:=by
  rw[List.findIdx?_eq_some_iff_getElem]
  refine⟨hk,?_,fun j hj=>?_⟩
  ·rw[List.getElem?_eq_getElem hk]at hx;rw[Option.some.inj hx];exact hp
  ·have:p l[j]=false:=ht _ (List.mem_iff_getElem?.2 ⟨j,by rw[List.getElem?_take,if_pos hj,List.getElem?_eq_getElem (by omega)]⟩)
   simp[this]
 simp[idxOf,this]
theorem idxOf_none {α:Type}{l:List α}{p:α→Bool}(ht:∀s∈l.take l.length,p s=false):idxOf l p=-1:=by
 have:l.findIdx? p=none:=by
  rw[List.findIdx?_eq_none_iff]
  intro x hx
  exact ht x (by rw[List.take_length];exact hx)
 simp[idxOf,this]
theorem idxOf_ge {α:Type}(l:List α)(p:α→Bool):decide (0≤idxOf l p)=l.any p:=by
 unfold idxOf
 cases h:l.findIdx? p with
 |none=>
  have h:=List.findIdx?_eq_none_iff.1 h
  have:l.any p=false:=by rw[List.any_eq_false];intro x hx;rw[h x hx];simp
  rw[this];rfl
 |some k=>
  obtain⟨hk,hp,_⟩:=List.findIdx?_eq_some_iff_getElem.1 h
  have:l.any p=true:=List.any_eq_true.2 ⟨l[k],List.getElem_mem hk,hp⟩
  rw[this];simp
theorem idxOf_cases {α:Type}(l:List α)(p:α→Bool):(idxOf l p=-1∧l.find? p=none)∨∃(k:Nat) (x:α),idxOf l p=(k:Int)∧l[k]?=some x∧k<l.length∧p x=true∧l.find? p=some x:=by
 unfold idxOf
 cases h:l.findIdx? p with
 |none=>
  have h:=List.findIdx?_eq_none_iff.1 h
  exact .inl ⟨rfl,List.find?_eq_none.2 fun x hx=>by rw[h x hx];simp⟩
 |some k=>
  obtain⟨hk,hp,hn⟩:=List.findIdx?_eq_some_iff_getElem.1 h
  refine .inr ⟨k,l[k],rfl,List.getElem?_eq_getElem hk,hk,hp,?_⟩
  rw[List.find?_eq_some_iff_getElem]
  exact⟨hp,k,hk,rfl,fun j hj=>by rw[Bool.not_eq_true'];simpa using hn j hj⟩
end
section
section
variable {P:Program}
theorem opnE1 {n b:Nat}(h:n<1000000):(n=1000000+b)=False:=eq_false (by omega)
theorem opnE2 {n b:Nat}(h:n<1000000):(1000000+b=n)=False:=eq_false (by omega)
theorem opnB1 {n b:Nat}(h:n<1000000):(n==1000000+b)=false:=beq_eq_false_iff_ne.2 (by omega)
theorem opnB2 {n b:Nat}(h:n<1000000):(1000000+b==n)=false:=beq_eq_false_iff_ne.2 (by omega)
theorem opnI {b b':Nat}:(1000000+b=1000000+b')=(b=b'):=propext (Nat.add_left_cancel_iff)
theorem opnJ {b b':Nat}:(1000000+b==1000000+b')=(b==b'):=by
 by_cases h:b=b'
 ·subst h;simp
 ·rw[beq_eq_false_iff_ne.2 h,beq_eq_false_iff_ne.2 (by omega)]
def nameA (id b:Nat):A→A
 | .ptr i off=>bif i==id then .c (.v (.pointer (some ⟨b,off,none⟩)))else .ptr i off
 | .mp i=>bif i==id then .any else .mp i
 |a=>a
def nameR (id b:Nat):List (Bool×List A)→List (Bool×List A)
 | []=>[]
 | (t,cs)::l=>(t,cs.map (nameA id b))::nameR id b l
def nameV (id b:Nat):AV→AV
 | .one a=>.one (nameA id b a)
 | .agg cs=>.agg (cs.map (nameA id b))
 | .tupo rs=>.tupo (nameR id b rs)
 |v=>v
def nameB (id b:Nat):Option Blk→Option Blk
 |some (.box cs)=>some (.box (cs.map (nameA id b)))
 |k=>k
def nameM (id b:Nat)(ds:List CV)(m:Mem):Mem:=fun i=>if i=id then none else if i=1000000+b then some (.obox ds)else nameB id b (m i)
def nmOK:Option Blk→Prop
 |none=>True
 |some (.obox _)=>True
 |some (.orec _)=>True
 |_=>False
theorem AW.name {c:Code}{σ:St}{Q:Exit→St→Prop}(id:Nat){cs:List A}(hm:σ.m id=some (.box cs))(hp:plainL cs)(hfree:∀b,nmOK (σ.m (1000000+b)))(h:∀b,σ.m (1000000+b)=none→AW P c ⟨σ.n,fun s=>nameV id b (σ.t s),nameM id b (cs.map clo0) σ.m⟩ Q):AW P c σ Q:=fun base S0 w0 df a w hG=>by
 obtain⟨cc,h1,h2,h3⟩:=hG
 obtain⟨q1,q2,vs,T,q3,q4⟩:=h2.blk id _ hm
 have hb:σ.m (1000000+cc.φ id)=none:=by
  have hf:=hfree (cc.φ id)
  cases hk:σ.m (1000000+cc.φ id)with
  |none=>rfl
  |some bk=>
   rw[hk]at hf
   cases bk with
   |orec rr=>
    obtain⟨_,_,e,_⟩:=h2.blk _ _ hk
    have e':cc.φ (1000000+cc.φ id)=cc.φ id:=Nat.add_left_cancel e
    have:=h2.inj id (1000000+cc.φ id) (cc.φ id) (by simp[blockOf,hm]) (by simp only[blockOf,hk];rw[e'])
    rw[←this,hm]at hk
    cases hk
   |obox ds=>
    obtain⟨_,_,e,_⟩:=h2.blk _ _ hk
    have e':cc.φ (1000000+cc.φ id)=cc.φ id:=Nat.add_left_cancel e
    have:=h2.inj id (1000000+cc.φ id) (cc.φ id) (by simp[blockOf,hm]) (by simp only[blockOf,hk];rw[e'])
    rw[←this,hm]at hk
    cases hk
   |_=>exact hf.elim
 refine h (cc.φ id) hb base S0 w0 df a w ?_
 generalize hbb:cc.φ id=b at hb
 let c':Ctx:={cc with φ:=upd cc.φ (1000000+b) b}
 have hne:id≠1000000+b:=fun e=>by rw[←e,hm]at hb;simp at hb
 have hat:∀i,i≠id→i≠1000000+b→nameM id b (cs.map clo0) σ.m i=nameB id b (σ.m i):=fun i e1 e2=>by simp[nameM,e1,e2]
 have hself:nameM id b (cs.map clo0) σ.m (1000000+b)=some (.obox (cs.map clo0)):=by
  simp only[nameM]
  rw[if_neg (Ne.symm hne),if_pos trivial]
 have hφ:∀i,i≠1000000+b→c'.φ i=cc.φ i:=fun i e=>upd_ne _ _ e
 have hlen:∀i L,rowLen σ.m i=some L→i≠id∧i≠1000000+b:=fun i L hL=>⟨fun e=>by rw[e]at hL;simp[rowLen,hm]at hL,fun e=>by rw[e]at hL;simp[rowLen,hb]at hL⟩
 have hbox:∀i,i≠id→isBox σ.m i→isBox (nameM id b (cs.map clo0) σ.m) i∧i≠1000000+b:=fun i e hi=>by
  have e2:i≠1000000+b:=fun e2=>by rw[e2]at hi;simp[isBox,hb]at hi
  refine⟨?_,e2⟩
  unfold isBox at hi ⊢
  rw[hat i e e2]
  rcases hi with⟨xs,hi⟩|⟨xs,hi⟩|⟨_,_,_,hi⟩|⟨_,_,_,hi⟩|⟨xs,hi⟩|⟨r,hi⟩<;>rw[hi]<;>simp[nameB]
 have tr:∀(x:A) (v:Value),VA cc w σ.m x v→VA c' w (nameM id b (cs.map clo0) σ.m) (nameA id b x) v:=fun x v hv=>by
  cases x with
  |ptr i off=>
   obtain⟨hi,rfl⟩:=hv
   by_cases e:i=id
   ·subst e
    have:nameA i b (.ptr i off)=.c (.v (.pointer (some ⟨b,off,none⟩))):=by simp[nameA]
    rw[this,hbb]
    exact R.v rfl
   ·have:nameA id b (.ptr i off)=.ptr i off:=by simp[nameA,beq_eq_false_iff_ne.2 e]
    rw[this]
    obtain⟨k1,k2⟩:=hbox i e hi
    exact⟨k1,by rw[hφ i k2]⟩
  |mp i=>
   obtain⟨hi,rfl⟩:=hv
   by_cases e:i=id
   ·subst e
    have:nameA i b (.mp i)=.any:=by simp[nameA]
    rw[this]
    rfl
   ·have:nameA id b (.mp i)=.mp i:=by simp[nameA,beq_eq_false_iff_ne.2 e]
    rw[this]
    obtain⟨k1,k2⟩:=hbox i e hi
    exact⟨k1,by rw[hφ i k2]⟩
  |own i n=>
   obtain⟨h0,L,hL,hn,hq⟩:=hv
   obtain⟨e1,e2⟩:=hlen i L hL
   refine⟨h0,L,?_,hn,hq⟩
   rw[←hL]
   unfold rowLen
   rw[hat i e1 e2]
   cases σ.m i with
   |none=>rfl
   |some bk=>cases bk<;>rfl
  |pel i n j off=>
   obtain⟨h0,L,hL,hn,hq⟩:=hv
   obtain⟨e1,e2⟩:=hlen i L hL
   have hr:rowsOf (nameM id b (cs.map clo0) σ.m) i=rowsOf σ.m i:=by
    unfold rowsOf
    rw[hat i e1 e2]
    cases σ.m i with
    |none=>rfl
    |some bk=>cases bk<;>rfl
   refine⟨h0,L,?_,hn,fun e ty sz xs hx=>hq e ty sz xs (by rw[←hr];exact hx)⟩
   rw[←hL]
   unfold rowLen
   rw[hat i e1 e2]
   cases σ.m i with
   |none=>rfl
   |some bk=>cases bk<;>rfl
  |c y=>exact hv
  |el k ds off=>exact hv
  |full k xs=>exact hv
  |nil=>exact hv
  |bare=>exact hv
  |any=>exact hv
 have trL:∀(xs:List A) (us:List Value),F2 (VA cc w σ.m) xs us→F2 (VA c' w (nameM id b (cs.map clo0) σ.m)) (xs.map (nameA id b)) us:=fun xs us hF=>F2.map_left.2 (hF.mono fun x v _ hx=>tr x v hx)
 have hbo:∀i k,blockOf c' (nameM id b (cs.map clo0) σ.m) i=some k→∃j,blockOf cc σ.m j=some k∧((i=1000000+b∧j=id)∨(i≠1000000+b∧j=i∧i≠id)):=fun i k hk=>by
  by_cases e2:i=1000000+b
  ·refine⟨id,?_,.inl ⟨e2,rfl⟩⟩
   subst e2
   simp only[blockOf,hself,c',upd_same]at hk
   simp only[blockOf,hm,hbb]
   exact hk
  ·by_cases e1:i=id
   ·subst e1
    simp[blockOf,nameM]at hk
   ·refine⟨i,?_,.inr ⟨e2,rfl,e1⟩⟩
    unfold blockOf at hk ⊢
    rw[hat i e1 e2,hφ i e2]at hk
    cases hmi:σ.m i with
    |none=>rw[hmi]at hk;simp[nameB]at hk
    |some bk=>rw[hmi]at hk;cases bk<;>exact hk
 refine⟨c',⟨h1.1,fun q hq=>?_,h1.3⟩,⟨fun i bk hi=>?_,fun i i' k e1 e2=>?_,h2.lt,h2.old,h2.new,h2.below,h2.rok,h2.size,h2.s0⟩,h3⟩
 ·have hv:=h1.2 q hq
  show VV c' w _ (nameV id b (σ.t q)) _
  generalize σ.t q=x at hv
  cases x with
  |one y=>exact tr y _ hv
  |agg xs=>obtain⟨us,e1,e2⟩:=hv;exact⟨us,e1,trL xs us e2⟩
  |tup rs=>exact hv
  |tupo rs=>
   obtain⟨us,e1,e2⟩:=hv
   refine⟨us,e1,?_⟩
   clear e1
   induction rs generalizing us with
   |nil=>rw[e2.unnil];exact F2.nil
   |cons r rs ih=>
    obtain⟨u,us,rfl,k1,k2⟩:=e2.uncons
    obtain⟨t,xs⟩:=r
    refine F2.cons ?_ (ih us k2)
    cases t with
    |true=>obtain⟨ts,f1,f2⟩:=k1;exact⟨ts,f1,trL xs ts f2⟩
    |false=>
     obtain⟨y,f1,f2⟩:=k1
     have f1:xs=[y]:=f1
     subst f1
     exact⟨nameA id b y,rfl,tr y _ f2⟩
  |junk=>trivial
 ·have hi:nameM id b (cs.map clo0) σ.m i=some bk:=hi
  show BlkOK c' w (nameM id b (cs.map clo0) σ.m) base w0.L i bk
  by_cases e2:i=1000000+b
  ·subst e2
   rw[hself]at hi
   cases hi
   have hφb:c'.φ (1000000+b)=b:=upd_same _ _ _
   rw[hbb]at q1 q2 q3
   exact⟨by rw[hφb];exact .inl q1,by rw[hφb];exact q2,by rw[hφb],vs,T,by rw[hφb];exact q3,clo0L_ok (c:=cc) q4 hp⟩
  ·by_cases e1:i=id
   ·subst e1;simp[nameM]at hi
   ·rw[hat i e1 e2]at hi
    have hφi:=hφ i e2
    cases hmi:σ.m i with
    |none=>rw[hmi]at hi;simp[nameB]at hi
    |some bk0=>
     rw[hmi]at hi
     have hB:=h2.blk i _ hmi
     cases bk0 with
     |box xs=>
      cases hi
      obtain⟨p1,p2,us,T',p3,p4⟩:=hB
      exact⟨by rw[hφi];exact p1,by rw[hφi];exact p2,us,T',by rw[hφi];exact p3,trL xs us p4⟩
     |rows e sz xs=>cases hi;exact hB
     |froz xs=>cases hi;exact hB
     |gone L=>cases hi;exact hB
     |lent j e sz xs=>cases hi;exact hB
     |fbox xs=>cases hi;obtain⟨p1,us,p2,p3⟩:=hB;exact⟨by rw[hφi];exact p1,us,p2,by rw[hφi];exact p3⟩
     |obox xs=>cases hi;obtain⟨p1,p2,p5,us,T',p3,p4⟩:=hB;exact⟨by rw[hφi];exact p1,by rw[hφi];exact p2,by rw[hφi];exact p5,us,T',by rw[hφi];exact p3,p4⟩
     |orec r=>cases hi;obtain⟨p1,p2,p5,p3⟩:=hB;exact⟨by rw[hφi];exact p1,by rw[hφi];exact p2,by rw[hφi];exact p5,by rw[hφi];exact p3⟩
     |mapb ag ks xs=>cases hi;obtain⟨p1,p2,us,p3,p4⟩:=hB;exact⟨by rw[hφi];exact p1,by rw[hφi];exact p2,us,by rw[hφi];exact p3,p4⟩
     |fmap ag ks xs=>cases hi;obtain⟨p1,us,p3,p4⟩:=hB;exact⟨by rw[hφi];exact p1,us,by rw[hφi];exact p3,p4⟩
 ·obtain⟨j,k1,k2⟩:=hbo i k e1
  obtain⟨j',k1',k2'⟩:=hbo i' k e2
  have:=h2.inj j j' k k1 k1'
  subst this
  rcases k2 with⟨rfl,rfl⟩|⟨e3,rfl,e4⟩
  ·rcases k2' with⟨rfl,_⟩|⟨_,rfl,e⟩
   ·rfl
   ·exact absurd rfl e
  ·rcases k2' with⟨rfl,e⟩|⟨_,e,_⟩
   ·exact absurd e e4
   ·exact e
def Unr (P:Program)(c:Code)(Q:Exit→St→Prop):Nat→St→Prop
 |0,σ=>AW P c σ (thenQ Q fun _=>False)
 |n+1,σ=>AW P c σ (thenQ Q fun σ'=>Unr P c Q n σ')
theorem Unr.last {c:Code}{σ:St}{Q:Exit→St→Prop}(h:AW P c σ (thenQ Q fun _=>False)):Unr P c Q 0 σ:=h
theorem Unr.step {c:Code}{σ:St}{Q:Exit→St→Prop}{n:Nat}(h:AW P c σ (thenQ Q fun σ'=>Unr P c Q n σ')):Unr P c Q (n+1) σ:=h
theorem AW.unroll {c:Code}{σ:St}{Q:Exit→St→Prop}(n:Nat)(h:Unr P c Q n σ):AW P (.loop c) σ Q:=by
 refine AW.loop (fun n σ=>Unr P c Q n σ) h fun n σ hu=>?_
 cases n with
 |zero=>
  refine AW.mono hu fun e σ' h=>?_
  cases e with
  |normal=>exact h.elim
  |_=>exact h
 |succ n=>
  refine AW.mono hu fun e σ' h=>?_
  cases e with
  |normal=>exact⟨n,Nat.lt_succ_self n,h⟩
  |_=>exact h
end
attribute [go_sem] opnE1 opnE2 opnB1 opnB2 opnI opnJ nameA nameR nameV nameB nameM nmOK
end
section
section
variable {P:Program}
def yieldV (l:Nat):Value:=.func (.yield l) #[] #[]
@[go_sem] theorem yieldOf_yieldV (l:Nat):yieldOf (yieldV l)=some l:=rfl
def setP (t:Nat→AV):List (Tmp×CA)→Nat→AV
 | []=>t
 | (p,x)::l=>setP (upd t p x.av) l
def roundQ (jump:Option Code)(outs:List (Nat×OC)):Exit→St→Prop
 | .normal,σ=>jump=none∧insAt σ.m outs
 | .exit id,σ=>jump=some (.exit id)∧insAt σ.m outs
 | .ret,σ=>jump=some .ret∧insAt σ.m outs
 |_,_=>False
theorem setP_ok {S:Sh}{w:World}{c:Ctx}{m:Mem}(hc:c.S=S):∀(ps:List Tmp) (args:List CA) (vs:List Value) (t:Nat→AV) (tm:Array Value) (n:Nat),F2 (RC S w) args vs→tm.size=n→(∀d,d<n→VV c w m (t d) (tm.getD d undef))→((ps.zip vs).foldl (fun tm (x:Tmp×Value)=>tm.setIfInBounds x.1 x.2) tm).size=n∧∀d,d<n→VV c w m (setP t (ps.zip args) d) (((ps.zip vs).foldl (fun tm (x:Tmp×Value)=>tm.setIfInBounds x.1 x.2) tm).getD d undef):=by
 intro ps
 induction ps with
 |nil=>intro args vs t tm n _ hs h;exact⟨hs,h⟩
 |cons p ps ih=>
  intro args vs t tm n hF hs h
  cases args with
  |nil=>rw[hF.unnil];exact⟨hs,h⟩
  |cons x args=>
   obtain⟨v,vs,rfl,k1,k2⟩:=hF.uncons
   refine ih args vs (upd t p x.av) (tm.setIfInBounds p v) n k2 (by simp[hs]) fun d hd=>?_
   by_cases e:d=p
   ·subst e
    rw[upd_same]
    have hd':d<tm.size:=by omega
    have:(tm.setIfInBounds d v).getD d undef=v:=by simp[hd']
    rw[this]
    subst hc
    cases x with
    |one y=>exact k1
    |agg cs=>obtain⟨us,rfl,hus⟩:=k1;exact⟨us,rfl,F2.map_left.2 hus⟩
    |nil=>exact k1
   ·rw[upd_ne _ _ e]
    have:(tm.setIfInBounds p v).getD d undef=tm.getD d undef:=by simp[Ne.symm e]
    rw[this]
    exact h d hd
theorem run_getLoop {w:World}{l:Nat}{R:Loop}(h:w.heap[l]?=some (.loop R)):(Instr.getLoop l).run P w=.ok R w:=by simp[Instr.getLoop,getObj,Sem.run,h]
theorem run_setLoop {w:World}{l:Nat}{R:Loop}(h:w.heap[l]?=some (.loop R))(o:Obj):(setObj l o).run P w=.ok () {w with heap:=w.heap.setIfInBounds l o}:=by simp[setObj,Sem.run,h]
theorem WR.turnLoop {base:Nat}{S0:Sh}{w0:W0}{c:Ctx}{m:Mem}{w wb:World}{l:Nat}{R:Loop}(h:WR base S0 w0 c m w)(hl:l<base)(hL:¬w0.L l)(hSl:∀k,¬c.S k l)(hwb:wb={w0.w with heap:=w0.w.heap.setIfInBounds l (.loop R)}):Goes c w m c {w with heap:=w.heap.setIfInBounds l (.loop R)} m∧WR base S0 ⟨wb,w0.L,w0.ro⟩ c m {w with heap:=w.heap.setIfInBounds l (.loop R)}:=by
 have hlt:l<w.heap.size:=Nat.lt_of_lt_of_le hl h.size
 have hne:∀id k,blockOf c m id=some k→k≠l:=fun id k hk e=>by
  subst e
  exact(h.apart hk).1.elim (by omega) hL
 have g:Goes c w m c {w with heap:=w.heap.setIfInBounds l (.loop R)} m:=⟨fun _ _ h=>h,fun k b hb=>setIf_other w l b _ fun e=>hSl k (e▸hb),fun _ h=>⟨rfl,h⟩,fun _ L h=>⟨L,h,Nat.le_refl _,fun _=>⟨rfl,fun _ _ xs hx=>⟨xs,hx⟩⟩⟩⟩
 refine⟨g,fun id b hm=>(h.blk id b hm).goes hm g rfl rfl fun k hk=>⟨setIf_other w l k _ (hne id k hk),fun _=>Iff.rfl⟩,h.inj,fun k b hb=>?_,h.old,h.new,?_,?_,?_,h.s0⟩
 ·rw[setIf_size];exact h.lt k b hb
 ·subst hwb
  refine⟨h.below.os,h.below.tape,h.below.output,by rw[setIf_size,setIf_size];exact h.below.size,fun k hk hnL=>?_⟩
  by_cases e:k=l
  ·subst e
   by_cases hs:k<w0.w.heap.size
   ·rw[setIf_same w k _ hlt,setIf_same w0.w k _ hs]
   ·have h1:=h.below.block k hk hL
    rw[Array.getElem?_eq_getElem hlt,Array.getElem?_eq_none (by omega)]at h1
    simp at h1
  ·rw[setIf_other w l k _ e,setIf_other w0.w l k _ e]
   exact h.below.block k hk hnL
 ·intro l' hl'
  obtain⟨k1,k2,R',k3⟩:=h.rok l' hl'
  refine⟨k1,k2,?_⟩
  subst hwb
  by_cases e:l'=l
  ·subst e
   exact⟨R,setIf_same w0.w l' _ (Array.getElem?_eq_some_iff.1 k3).1⟩
  ·exact⟨R',(setIf_other w0.w l l' _ e).trans k3⟩
 ·rw[setIf_size];exact h.size
theorem AYields.intro {l : Nat} {rc : Rec} {ins outs : List (Nat × OC)} {args : List CA} {jump : Option Code} (hp : rc.pend = none) (hlen : args.length = rc.ps.size) (hl : ∀ oc, (l, oc) ∉ ins)
    (h : AW P rc.assign ⟨rc.n, setP rc.t (rc.ps.toList.zip args), setBs (fun _ => none) ins⟩ (thenQ (fun _ _ => False) fun σ1 => AW P rc.body σ1 (roundQ jump outs))) :
    AYields P l args (.bx ((l, .loop rc) :: ins) ((l, .loop { rc with pend := jump }) :: outs) [.one (.v (.bool jump.isNone))]) := by
  refine ⟨⟨rc, hp, List.mem_cons_self ..⟩, fun ro S w vs hS hg hvs hbx R hR => ?_⟩
  have hrec := hbx (l, .loop rc) (List.mem_cons_self ..)
  obtain ⟨hSl, R', hR', q1, q2, q3, q4, q5, q6, q7, q8⟩ := hrec
  rw [hR] at hR'
  cases hR'
  have hins : ∀ p ∈ ins, BoxAt S w p := fun p hp => hbx p (List.mem_cons_of_mem _ hp)
  have hll : l < w.heap.size := (Array.getElem?_eq_some_iff.1 hR).1
  have hnL : ¬ ∃ cs, (l, cs) ∈ ins := fun ⟨cs, hc⟩ => hl cs hc
  rw [hp] at q5 q6
  simp only [Option.isNone_none, if_true] at q6
  refine ⟨by rw [← hvs.1, hlen, q2], ?_⟩
  have hw0 := entry_wr (ro := some l) ins hS hins fun l' e => by cases e; exact ⟨hll, hnL, R, hR⟩
  have gn : Goes ⟨S, fun _ => 0, fun _ => undef⟩ w (fun _ => none) ⟨S, unOpn, fun _ => undef⟩ w (setBs (fun _ => none) ins) :=
    ⟨fun _ _ h => h, fun _ _ _ => rfl, fun id h => by unfold isBox at h; simp at h, fun id L h => by unfold rowLen at h; simp at h⟩
  have htm := setP_ok (S := S) (w := w) (c := ⟨S, unOpn, fun _ => undef⟩) (m := setBs (fun _ => none) ins) rfl rc.ps.toList args vs rc.t R.tmps rc.n hvs q7 fun d hd => VV.goes gn (q8 d hd)
  have hT0 : roundTmps R vs = (rc.ps.toList.zip vs).foldl (fun tm (x : Tmp × Value) => tm.setIfInBounds x.1 x.2) R.tmps := by
    unfold roundTmps
    rw [q2, ← Array.foldl_toList, Array.toList_zip]
  rw [← hT0] at htm
  -- the end
  have fin : ∀ (σ' : St) (a' : Act) (w3 : World) (cc : Ctx), WR w.heap.size S ⟨{ w with heap := w.heap.setIfInBounds l (.loop { R with state := .busy }) }, fun b => ∃ cs, (b, cs) ∈ ins, some l⟩ cc σ'.m w3 → insAt σ'.m outs →
      ∃ v w4, (Instr.endRound l jump).run P w3 = .ok v w4 ∧ ∃ (v' : Value) (T : Sh), Ending.returned v = .returned v' ∧ (∀ k b, T k b → S k b ∨ (w.heap.size ≤ b ∧ b < w4.heap.size)) ∧
        RR w.heap.size (fun k b => S k b ∨ T k b) w4 (.bx ((l, .loop rc) :: ins) ((l, .loop { rc with pend := jump }) :: outs) [.one (.v (.bool jump.isNone))]) v' ∧ BelowX w.heap.size (lentR (.bx ((l, .loop rc) :: ins) ((l, .loop { rc with pend := jump }) :: outs) [.one (.v (.bool jump.isNone))])) w w4 := fun σ' a' w3 cc t2 hout => by
    have hSc : ∀ k, ¬ cc.S k l := fun k hk => (t2.new k l hk).elim (hSl k) (by omega)
    have hw3 : w3.heap[l]? = some (.loop { R with state := .busy }) := (t2.below.block l hll hnL).trans (setIf_same w l _ hll)
    obtain ⟨g4, t4⟩ := t2.turnLoop (R := { R with state := if jump.isNone then .ready else .done, pending := jump }) hll hnL hSc rfl
    refine ⟨.bool jump.isNone, { w3 with heap := w3.heap.setIfInBounds l (.loop { R with state := if jump.isNone then .ready else .done, pending := jump }) }, ?_, ?_⟩
    · unfold Instr.endRound
      simp only [Sem.run_bind, run_getLoop hw3, Result.andThen_ok, run_setLoop hw3, Sem.run_pure]
    have hl3 : l < w3.heap.size := Nat.lt_of_lt_of_le hll t2.size
    have up : ∀ k b, cc.S k b → S k b ∨ cc.S k b := fun k b hb => .inr hb
    refine ⟨_, cc.S, rfl, fun k b hb => ?_, ⟨Abs.R.v rfl, fun p hp => ?_⟩, ?_⟩
    · rcases t4.new k b hb with h | h
      · exact .inl h
      · exact .inr ⟨h, t4.lt k b hb⟩
    · rcases List.mem_cons.1 hp with rfl | hp
      · refine ⟨fun k hk => hk.elim (hSl k) (hSc k), { R with state := if jump.isNone then .ready else .done, pending := jump }, setIf_same w3 l _ hl3, q1, q2, q3, q4, rfl, ?_, q7, fun d hd => ?_⟩
        · cases jump <;> rfl
        · refine VV.goes (c := ⟨S, fun _ => 0, fun _ => undef⟩) (c' := ⟨fun k b => S k b ∨ cc.S k b, fun _ => 0, fun _ => undef⟩) (w := w) (m := fun _ => none) (m' := fun _ => none) ⟨fun _ _ h => .inl h, fun k b hb => ?_, fun id h => by unfold isBox at h; simp at h, fun id L h => by unfold rowLen at h; simp at h⟩ (q8 d hd)
          have hbl : b ≠ l := fun e => hSl k (e ▸ hb)
          have hnb : ¬ ∃ cs, (b, cs) ∈ ins := fun ⟨cs, hc⟩ => (hins (b, cs) hc).1 k hb
          rw [setIf_other w3 l b _ hbl]
          exact (t2.below.block b (hS k b hb) hnb).trans (setIf_other w l b _ hbl)
      · have hm := insAt_mem hout p hp
        obtain ⟨b, oc⟩ := p
        have hB := t4.blk _ _ hm
        cases oc with
        | cells cs =>
          obtain ⟨k1, k2, k3, us', TT, k4, k5⟩ := hB
          have k3 : cc.φ (1000000 + b) = b := Nat.add_left_cancel k3
          rw [k3] at k2 k4
          exact ⟨fun k hk => hk.elim (fun h => k2 k (t4.old k _ h)) (k2 k), us', TT, k4, k5.mono fun x y _ h => h.mono up fun _ _ _ => rfl⟩
        | loop rr =>
          obtain ⟨k1, k2, k3, k4⟩ := hB
          have k3 : cc.φ (1000000 + b) = b := Nat.add_left_cancel k3
          rw [k3] at k2 k4
          exact ⟨fun k hk => hk.elim (fun h => k2 k (t4.old k _ h)) (k2 k), k4.mono rfl up fun _ _ _ => rfl⟩
    · refine ⟨t2.below.os, t2.below.tape, t2.below.output, ?_, fun k hk hnl => ?_⟩
      · rw [setIf_size]
        have := t2.below.size
        rw [setIf_size] at this
        exact this
      · have hkl : k ≠ l := fun e => hnl ⟨_, by rw [e]; exact List.mem_cons_self ..⟩
        have hkn : ¬ ∃ cs, (k, cs) ∈ ins := fun ⟨cs, hc⟩ => hnl ⟨cs, List.mem_cons_of_mem _ hc⟩
        rw [setIf_other w3 l k _ hkl]
        exact (t2.below.block k hk hkn).trans (setIf_other w l k _ hkl)
  rw [q3, q4]
  refine roundIn_of_wpIn (F := Fw ro) trivial ?_
  refine wpIn_mono (h w.heap.size S ⟨w, fun b => ∃ cs, (b, cs) ∈ ins, some l⟩ [] { tmps := roundTmps R vs, defers := [] } w ⟨_, ⟨htm.1, htm.2, hg⟩, hw0, DfOK.none⟩) fun e a1 w1 ⟨σ1, hσ1, cc, t1, t2, t3⟩ => ?_
  cases e with
  | normal =>
    have hw1 : w1.heap[l]? = some (.loop R) := (t2.below.block l hll hnL).trans hR
    have hSc : ∀ k, ¬ cc.S k l := fun k hk => (t2.new k l hk).elim (hSl k) (by omega)
    obtain ⟨g4, t4⟩ := t2.turnLoop (R := { R with state := .busy }) hll hnL hSc rfl
    refine ⟨{ w1 with heap := w1.heap.setIfInBounds l (.loop { R with state := .busy }) }, ?_, ?_⟩
    · unfold Instr.beginRound
      simp only [Sem.run_bind, run_getLoop hw1, Result.andThen_ok, run_setLoop hw1, q6, Sem.run_pure]
    · have hAW : AW P rc.body σ1 (roundQ jump outs) := hσ1
      refine wpIn_mono (hAW _ S _ [] a1 _ ⟨cc, ⟨t1.1, fun d hd => (t1.2 d hd).goes g4, t1.3.mono (g4.S 0) (g4.heap 0)⟩, t4, t3.goes g4⟩) fun e a2 w2 ⟨σ2, hσ2, c2, s1, s2, s3⟩ => ?_
      cases e with
      | normal =>
        obtain ⟨rfl, hout⟩ := hσ2
        exact fin σ2 a2 w2 c2 s2 hout
      | exit id =>
        obtain ⟨rfl, hout⟩ := hσ2
        exact fin σ2 a2 w2 c2 s2 hout
      | ret =>
        obtain ⟨rfl, hout⟩ := hσ2
        exact fin σ2 a2 w2 c2 s2 hout
      | goto t => exact hσ2.elim
      | panic ch => exact hσ2.elim
      | outgrown => exact hσ2.elim
  | exit id => exact hσ1.elim
  | goto t => exact hσ1.elim
  | ret => exact hσ1.elim
  | panic ch => exact hσ1.elim
  | outgrown => exact hσ1.elim
end
attribute [go_sem] setP roundQ
end
section
section
variable {P:Program}
theorem VA.free {c c':Ctx}{w:World}{m m':Mem}{x:A}{v:Value}(h:VA c w m x v)(hi:x.ids=[])(hS:c'.S=c.S):VA c' w m' x v:=by
 cases x with
 |ptr id off=>simp[A.ids]at hi
 |own id n=>simp[A.ids]at hi
 |pel id n i off=>simp[A.ids]at hi
 |mp id=>simp[A.ids]at hi
 |c y=>show R c'.S w y v;rw[hS];exact h
 |el k cs off=>obtain⟨b,o,vs,h1,h2,h3⟩:=h;exact⟨b,o,vs,h1,by rw[hS];exact h2,by rw[hS];exact h3⟩
 |full k xs=>obtain⟨a,h1,h2⟩:=h;exact⟨a,h1,by rw[hS];exact h2⟩
 |nil=>exact h
 |bare=>exact h
 |any=>exact h
theorem VL.free {c c':Ctx}{w:World}{m m':Mem}(hS:c'.S=c.S):∀{cs:List A} {vs:List Value},F2 (VA c w m) cs vs→idsL cs=[]→F2 (VA c' w m') cs vs:=by
 intro cs
 induction cs with
 |nil=>intro vs h _;rw[h.unnil];exact F2.nil
 |cons x cs ih=>
  intro vs h hi
  obtain⟨v,vs,rfl,h1,h2⟩:=h.uncons
  obtain⟨i1,i2⟩:=List.append_eq_nil_iff.1 (show x.ids++idsL cs=[]from hi)
  exact F2.cons (h1.free i1 hS) (ih h2 i2)
theorem VV.free {c c':Ctx}{w:World}{m m':Mem}{x:AV}{v:Value}(h:VV c w m x v)(hi:x.ids=[])(hS:c'.S=c.S):VV c' w m' x v:=by
 cases x with
 |one a=>exact VA.free h hi hS
 |agg cs=>obtain⟨vs,h1,h2⟩:=h;exact⟨vs,h1,VL.free hS h2 hi⟩
 |tup rs=>obtain⟨vs,h1,h2⟩:=h;exact⟨vs,h1,by rw[hS];exact h2⟩
 |tupo rs=>
  obtain⟨vs,h1,h2⟩:=h
  refine⟨vs,h1,?_⟩
  clear h1
  induction rs generalizing vs with
  |nil=>rw[h2.unnil];exact F2.nil
  |cons r rs ih=>
   obtain⟨u,vs,rfl,k1,k2⟩:=h2.uncons
   obtain⟨b,cs⟩:=r
   obtain⟨i1,i2⟩:=List.append_eq_nil_iff.1 (show idsL cs++idsM rs=[]from hi)
   refine F2.cons ?_ (ih i2 vs k2)
   cases b with
   |true=>obtain⟨us,f1,f2⟩:=k1;exact⟨us,f1,VL.free hS f2 i1⟩
   |false=>
    obtain⟨a,f1,f2⟩:=k1
    have f1:cs=[a]:=f1
    subst f1
    exact⟨a,rfl,f2.free (by simpa[idsL]using i1) hS⟩
 |junk=>trivial
theorem WR.boxes {base:Nat}{S0:Sh}{w0:W0}{c:Ctx}{m:Mem}{w:World}(h:WR base S0 w0 c m w){ins:List (Nat×OC)}(hin:insAt m ins):∀p∈ins,BoxAt c.S w p∧p.1<w.heap.size:=fun p hp=>by
 have hm:=insAt_mem hin p hp
 obtain⟨b,oc⟩:=p
 have hB:=h.blk _ _ hm
 cases oc with
 |cells cs=>
  obtain⟨k1,k2,k3,us,TT,k4,k5⟩:=hB
  have k3:c.φ (1000000+b)=b:=Nat.add_left_cancel k3
  rw[k3]at k2 k4
  exact⟨⟨k2,us,TT,k4,k5⟩,(Array.getElem?_eq_some_iff.1 k4).1⟩
 |loop r=>
  obtain⟨k1,k2,k3,k4⟩:=hB
  have k3:c.φ (1000000+b)=b:=Nat.add_left_cancel k3
  rw[k3]at k2 k4
  obtain⟨R,k5,_⟩:=id k4
  exact⟨⟨k2,k4⟩,(Array.getElem?_eq_some_iff.1 k5).1⟩
theorem sameBs_mem:∀{l k:List (Nat×OC)},sameBs l k→∀p∈k,∃oc,(p.1,oc)∈l:=by
 intro l
 induction l with
 |nil=>intro k h p hp;cases k with
  |nil=>simp at hp
  |cons q k=>exact h.elim
 |cons q l ih=>
  intro k h p hp
  cases k with
  |nil=>exact h.elim
  |cons q' k=>
   obtain⟨b,oc⟩:=q
   obtain⟨b',oc'⟩:=q'
   obtain⟨rfl,h⟩:=h
   rcases List.mem_cons.1 hp with rfl|hp
   ·exact⟨oc,List.mem_cons_self ..⟩
   ·obtain⟨oc2,h2⟩:=ih h p hp
    exact⟨oc2,List.mem_cons_of_mem _ h2⟩
theorem enter_ok {base : Nat} {S0 : Sh} {w0 : W0} {c : Ctx} {m : Mem} {w : World} (h : WR base S0 w0 c m w) (fn : FuncId) (tmps : Array Value) (ps : Array Tmp) (assign body : Code) :
    ∃ (l : Nat) (ms : List Nat) (w1 : World) (R0 : Loop), (Instr.enterLoop fn tmps ps assign body w0.ro).run P w = .ok (l, ms.map mkDf) w1 ∧ w1.heap[l]? = some (.loop R0) ∧ R0.fn = fn ∧ R0.params = ps ∧ R0.assign = assign ∧ R0.body = body ∧ R0.pending = none ∧ R0.state = .ready ∧ R0.tmps = tmps ∧
      Below w.heap.size w w1 ∧ w.heap.size ≤ l ∧ l ∉ ms ∧ ms.Nodup ∧ ∀ r ∈ ms, w.heap.size ≤ r ∧ w1.heap[r]? = some (.deferred (some [])) := by
  cases hro : w0.ro with
  | none =>
    refine ⟨w.heap.size + 1, [w.heap.size], _, { state := .ready, pending := none, fn, tmps, params := ps, assign, body, defers := w.heap.size }, run_enterLoop_outer fn tmps ps assign body, ?_, rfl, rfl, rfl, rfl, rfl, rfl, rfl, ((Below.refl _ _).alloc (Nat.le_refl _) _).alloc (by simp) _, by omega, by simp, by simp, fun r hr => ?_⟩
    · have := World.alloc_heap_new (w.alloc (.deferred (some []))) (.loop { state := .ready, pending := none, fn, tmps, params := ps, assign, body, defers := w.heap.size })
      rwa [World.size_alloc] at this
    · have : r = w.heap.size := by simpa using hr
      subst this
      exact ⟨Nat.le_refl _, (Below.heap_alloc _ _ _ (by simp)).trans (World.alloc_heap_new w _)⟩
  | some l' =>
    obtain ⟨k1, k2, R', k3⟩ := h.rok l' hro
    have hR' : w.heap[l']? = some (.loop R') := (h.below.block l' k1 k2).trans k3
    refine ⟨w.heap.size, [], w.alloc (.loop { state := .ready, pending := none, fn, tmps, params := ps, assign, body, defers := R'.defers }), { state := .ready, pending := none, fn, tmps, params := ps, assign, body, defers := R'.defers }, ?_, World.alloc_heap_new w _, rfl, rfl, rfl, rfl, rfl, rfl, rfl, (Below.refl _ _).alloc (Nat.le_refl _) _, Nat.le_refl _, by simp, by simp, fun r hr => by simp at hr⟩
    unfold Instr.enterLoop
    simp only [Sem.run_bind, run_getLoop hR', Result.andThen_ok, Sem.run_pure]
    rfl
theorem AW.range {f : Operand} {ps : Array Tmp} {assign body : Code} {σ : St} {Q : Exit → St → Prop} (g : FuncId) (caps : List CV) (t0 : Nat → AV) (ins outs : List (Nat × OC)) (pend : Option Code)
    (hf : ev σ f = .one (.c (.fn g false [] caps))) (ht0 : ∀ d, t0 d = .junk ∨ (t0 d = σ.t d ∧ (σ.t d).ids = [])) (hin : insAt σ.m ins) (hsame : sameBs ins outs)
    (hcall : ∀ (fn : FuncId) (l : Nat), (∀ oc, (l, oc) ∉ ins) → ACalls P g (.one (.v (yieldV l)) :: caps.map .one) (.bx ((l, .loop ⟨fn, σ.n, t0, ps, assign, body, none⟩) :: ins) ((l, .loop ⟨fn, σ.n, t0, ps, assign, body, pend⟩) :: outs) []))
    (hnext : match pend with
      | none => Q .normal ⟨σ.n, σ.t, setBs σ.m outs⟩
      | some c => AW P c ⟨σ.n, σ.t, setBs σ.m outs⟩ Q) : AW P (.rangeFunc f ps assign body) σ Q := fun base S0 w0 df a w hG => by
  obtain ⟨cc, h1, h2, h3⟩ := hG
  refine wpIn_rangeFunc fun fn _ => ?_
  obtain ⟨l, ms, w1, R0, e1, e2, e3, e4, e5, e6, e7, e8, e9, e10, e11, e12, e13, e14⟩ := enter_ok (P := P) h2 fn a.tmps ps assign body
  have hl1 : l < w1.heap.size := (Array.getElem?_eq_some_iff.1 e2).1
  have hbx0 := h2.boxes hin
  have hlin : ∀ oc, (l, oc) ∉ ins := fun oc hc => by have := (hbx0 _ hc).2; omega
  obtain ⟨⟨fnn, hf1, hf2, hf3⟩, hc⟩ := hcall fn l hlin
  -- the function that is gone over
  have hv := ev_ok h1 f
  rw [hf] at hv
  have hv : R cc.S w (.fn g false [] caps) (a.eval f) := hv
  obtain ⟨qs, hq1, hq2⟩ : ∃ qs : List Value, a.eval f = .func (.func g) #[] qs.toArray ∧ F2 (R cc.S w) caps qs := by
    generalize a.eval f = fv at hv
    cases hv with
    | fn k1 k2 k3 k4 =>
      rename_i us ts
      have : us = [] := List.eq_nil_of_length_eq_zero k1.symm
      subst this
      exact ⟨ts, rfl, k3, k4⟩
  obtain ⟨g1, r1⟩ := h2.calls e10 (fun k b => k = 0 ∧ b ∈ ms) (fun k b hb => .inr ⟨(e14 b hb.2).1, (Array.getElem?_eq_some_iff.1 (e14 b hb.2).2).1⟩)
  let c1 : Ctx := { cc with S := fun k b => cc.S k b ∨ (k = 0 ∧ b ∈ ms) }
  have hcl : ∀ k, ¬ c1.S k l := fun k hk => hk.elim (fun h => by have := h2.lt k l h; omega) fun h => e12 h.2
  have hbx : ∀ p ∈ ((l, OC.loop ⟨fn, σ.n, t0, ps, assign, body, none⟩) :: ins), BoxAt c1.S w1 p := fun p hp => by
    rcases List.mem_cons.1 hp with rfl | hp
    · refine ⟨hcl, R0, e2, e3, e4, e5, e6, e7, by rw [e8]; rfl, by rw [e9]; exact h1.1, fun d hd => ?_⟩
      rw [e9]
      rcases ht0 d with h | ⟨h, hi⟩
      · show VV _ _ _ (t0 d) _
        rw [h]; trivial
      · show VV _ _ _ (t0 d) _
        rw [h]
        exact ((h1.2 d hd).goes g1).free hi rfl
    · exact (r1.boxes hin p hp).1
  refine ⟨l, ms.map mkDf, w1, { target := .fn (.func g) qs.toArray, args := #[yieldV l] }, w1, g, (yieldV l :: qs).toArray, w1, e1, ?_, fun _ _ => trivial, ?_, fun h => by simp [Fence.wide] at h, callsW ?_⟩
  · have hy : a.eval (.const (yieldV l)) = yieldV l := rfl
    simp [resolve, rangeCall, hq1, Deferred.ofValue]
    rfl
  · have e3' : ¬ fnn.name = "runtime.NumGoroutine" := by simpa using hf3
    have e4' : ¬ fnn.body = none := fun e => by rw [e] at hf2; simp at hf2
    simp [invoke, callFunc, program, Sem.run, hf1, e3', e4']
  have hargs : F2 (RC c1.S w1) (.one (.v (yieldV l)) :: caps.map .one) (yieldV l :: qs) := F2.cons (R.v rfl) (F2.map_left.2 (hq2.mono fun x y _ h => h.mono g1.S g1.heap))
  refine (hc c1.S w1 _ r1.lt (h1.gl.mono (g1.S 0) (g1.heap 0)) hargs hbx).mono ?_
  rintro e w' ⟨v, T, rfl, hT, hv', hb⟩
  obtain ⟨hOl, R1, k1, k2, k3, k4, k5, k6, k7, _⟩ := hv'.2 _ (List.mem_cons_self ..)
  have hTl : ∀ k, ¬ T k l := fun k hk => (hT k l hk).elim (hcl k) (by omega)
  have hendl : (Instr.endLoop l).run P w' = .ok R1.pending (w'.putObj l (.loop { R1 with state := .exhausted })) := run_endLoop k1 (by rw [k7]; cases pend <;> simp)
  obtain ⟨w4, hw4⟩ : ∃ w4, w'.putObj l (.loop { R1 with state := .exhausted }) = w4 := ⟨_, rfl⟩
  rw [hw4] at hendl
  refine ⟨R1.pending, w4, hendl, ?_⟩
  have k6 : R1.pending = pend := k6
  rw [k6]
  -- behind it
  have h4o : ∀ k, k ≠ l → w4.heap[k]? = w'.heap[k]? := fun k hk => by rw [← hw4]; exact put_other w' _ hk
  have h4s : w4.heap.size = w'.heap.size := by rw [← hw4]; exact put_size w' l _
  have hnl : ∀ b, (∃ cs, (b, cs) ∈ ins) → b ≠ l := fun b ⟨cs, hc⟩ e => hlin cs (e ▸ hc)
  have hbX : BelowX w.heap.size (fun b => ∃ cs, (b, cs) ∈ ins) w w4 := by
    refine ⟨?_, ?_, ?_, ?_, fun k hk hkn => ?_⟩
    · rw [← hw4]; exact hb.os.trans e10.os
    · rw [← hw4]; exact hb.tape.trans e10.tape
    · rw [← hw4]; exact hb.output.trans e10.output
    · rw [h4s]; exact Nat.le_trans e10.size hb.size
    · rw [h4o k (by omega)]
      refine (hb.block k (Nat.lt_of_lt_of_le hk e10.size) fun ⟨cs, hc⟩ => ?_).trans (e10.block k hk)
      rcases List.mem_cons.1 hc with h | h
      · cases h; omega
      · exact hkn ⟨cs, h⟩
  have hT2 : ∀ k b, (T k b ∨ (k = 0 ∧ b ∈ ms)) → cc.S k b ∨ (w.heap.size ≤ b ∧ b < w4.heap.size) := fun k b hb' => by
    have hms : b ∈ ms → w.heap.size ≤ b ∧ b < w4.heap.size := fun hm => ⟨(e14 b hm).1, by rw [h4s]; exact Nat.lt_of_lt_of_le (Array.getElem?_eq_some_iff.1 (e14 b hm).2).1 hb.size⟩
    rcases hb' with h | h
    · rcases hT k b h with (h | h) | h
      · exact .inl h
      · exact .inr (hms h.2)
      · exact .inr ⟨Nat.le_trans e10.size h.1, by rw [h4s]; exact h.2⟩
    · exact .inr (hms h.2)
  have hsub : ∀ k b, (c1.S k b ∨ T k b) → (cc.S k b ∨ (T k b ∨ (k = 0 ∧ b ∈ ms))) := fun k b h => by
    rcases h with (h | h) | h
    · exact .inl h
    · exact .inr (.inr h)
    · exact .inr (.inl h)
  have hsub' : ∀ k b, (cc.S k b ∨ (T k b ∨ (k = 0 ∧ b ∈ ms))) → (c1.S k b ∨ T k b) := fun k b h => by
    rcases h with h | h | h
    · exact .inl (.inl h)
    · exact .inr h
    · exact .inl (.inr h)
  have hkeep : ∀ k b, (c1.S k b ∨ T k b) → w4.heap[b]? = w'.heap[b]? := fun k b h => h4o b fun e => by subst e; exact h.elim (hcl k) (hTl k)
  have hout : ∀ p ∈ outs, BoxAt (fun k b => cc.S k b ∨ (T k b ∨ (k = 0 ∧ b ∈ ms))) w4 p := fun p hp => by
    have hB := hv'.2 p (List.mem_cons_of_mem _ hp)
    have hpl : p.1 ≠ l := hnl p.1 (sameBs_mem hsame p hp)
    obtain ⟨b, oc⟩ := p
    obtain ⟨q1, q2⟩ := hB
    refine ⟨fun k hk => q1 k (hsub' k b hk), ?_⟩
    cases oc with
    | cells cs =>
      obtain ⟨us, TT, q3, q4⟩ := q2
      exact ⟨us, TT, (h4o b hpl).trans q3, q4.mono fun x y _ h => h.mono hsub hkeep⟩
    | loop r => exact q2.mono (h4o b hpl) hsub hkeep
  obtain ⟨g2, r2, _⟩ := h2.callsX hin hsame hbX (fun k b => T k b ∨ (k = 0 ∧ b ∈ ms)) hT2 hout
  have hGm : Gm base S0 w0 df ⟨σ.n, σ.t, setBs σ.m outs⟩ { a with defers := ms.map mkDf ++ a.defers } w4 := by
    refine ⟨_, ⟨h1.1, fun d hd => (h1.2 d hd).goes g2, h1.gl.mono (g2.S 0) (g2.heap 0)⟩, r2, ?_⟩
    obtain ⟨ms0, d1, d2, d3⟩ := h3.goes g2
    obtain ⟨ms1, d1', d2', d3'⟩ := h3
    have hms0 : ∀ r ∈ ms1, r < w.heap.size := fun r hr => (Array.getElem?_eq_some_iff.1 (d3' r hr).2.2).1
    refine ⟨ms ++ ms1, by simp [d1'], List.nodup_append.2 ⟨e13, d2', fun p hp q hq e => ?_⟩, fun r hr => ?_⟩
    · have := (e14 p hp).1
      have := hms0 q hq
      omega
    · rcases List.mem_append.1 hr with hr | hr
      · refine ⟨Nat.le_trans h2.size (e14 r hr).1, .inr (.inr ⟨rfl, hr⟩), ?_⟩
        have hrl : r ≠ l := fun e => e12 (e ▸ hr)
        rw [h4o r hrl]
        refine (hb.block r (Array.getElem?_eq_some_iff.1 (e14 r hr).2).1 fun ⟨cs, hc⟩ => ?_).trans (e14 r hr).2
        rcases List.mem_cons.1 hc with h | h
        · cases h; exact hrl rfl
        · have := (hbx0 _ h).2
          have := (e14 r hr).1
          omega
      · exact ⟨(d3' r hr).1, g2.S 0 r (d3' r hr).2.1, (g2.heap 0 r (d3' r hr).2.1).trans (d3' r hr).2.2⟩
  cases pend with
  | none => exact ⟨_, hnext, hGm⟩
  | some c => exact hnext base S0 w0 df _ _ hGm
end
end
section
attribute [go_sem] reduceCtorEq Nat.reduceLT Nat.reduceEqDiff Nat.reduceBEq Nat.reduceAdd Nat.reduceSub Nat.reduceMul Nat.reduceLeDiff Int.reduceLE Int.reduceLT Int.reduceNeg Int.reduceEq Int.reduceBEq Int.reduceBNe Int.reduceToNat
structure Kp (G:Prop):Prop where
 g:G
section
variable {a b c d e f g h i:Prop}
theorem T0:True:=trivial
theorem J2 (a':a)(b':b):a∧b:=⟨a',b'⟩
theorem J3 (a':a)(b':b)(c':c):a∧b∧c:=⟨a',b',c'⟩
theorem J4 (a':a)(b':b)(c':c)(d':d):a∧b∧c∧d:=⟨a',b',c',d'⟩
theorem J5 (a':a)(b':b)(c':c)(d':d)(e':e):a∧b∧c∧d∧e:=⟨a',b',c',d',e'⟩
theorem J6 (a':a)(b':b)(c':c)(d':d)(e':e)(f':f):a∧b∧c∧d∧e∧f:=⟨a',b',c',d',e',f'⟩
theorem J7 (a':a)(b':b)(c':c)(d':d)(e':e)(f':f)(g':g):a∧b∧c∧d∧e∧f∧g:=⟨a',b',c',d',e',f',g'⟩
theorem J8 (a':a)(b':b)(c':c)(d':d)(e':e)(f':f)(g':g)(h':h):a∧b∧c∧d∧e∧f∧g∧h:=⟨a',b',c',d',e',f',g',h'⟩
theorem J9 (a':a)(b':b)(c':c)(d':d)(e':e)(f':f)(g':g)(h':h)(i':i):a∧b∧c∧d∧e∧f∧g∧h∧i:=⟨a',b',c',d',e',f',g',h',i'⟩
end
theorem wk {F C S R : Prop} (fs : F) (cs : C) (ss : S) (r : R) {G : Prop} (h : F → C → S → Kp R → G := by
  intro fs cs ss r
  repeat' (first
    | with_reducible refine ss ?_
    | (refine hC ?_ ?_ ?_ ?_ ?_
       rotate_left
       · rfl
       · simp only [go_sem, ↓reduceIte, fs]
       · simp only [go_sem, ↓reduceIte, fs]
         first | (refine And.intro ?_ ?_; (first | exact cs | exact cs.1 | exact cs.2 | exact cs.2.1 | exact cs.2.2 | exact cs.2.2.1 | exact cs.2.2.2 | exact cs.2.2.2.1 | exact cs.2.2.2.2 | exact cs.2.2.2.2.1 | exact cs.2.2.2.2.2 | exact cs.2.2.2.2.2.1 | exact cs.2.2.2.2.2.2 | exact cs.2.2.2.2.2.2.1 | exact cs.2.2.2.2.2.2.2 | exact cs.2.2.2.2.2.2.2.1 | exact cs.2.2.2.2.2.2.2.2 | exact cs.2.2.2.2.2.2.2.2.1 | exact cs.2.2.2.2.2.2.2.2.2 | exact cs.2.2.2.2.2.2.2.2.2.1 | exact cs.2.2.2.2.2.2.2.2.2.2 | exact cs.2.2.2.2.2.2.2.2.2.2.1 | exact cs.2.2.2.2.2.2.2.2.2.2.2 | exact cs.2.2.2.2.2.2.2.2.2.2.2.1 | exact cs.2.2.2.2.2.2.2.2.2.2.2.2 | exact cs.2.2.2.2.2.2.2.2.2.2.2.2.1 | exact cs.2.2.2.2.2.2.2.2.2.2.2.2.2 | exact cs.2.2.2.2.2.2.2.2.2.2.2.2.2.1 | exact cs.2.2.2.2.2.2.2.2.2.2.2.2.2.2); first | exact trivial | (simp only [go_sem, ↓reduceIte, fs]; done)) | (refine And.intro (ACalls.args (k := ?_) ?_ ?_) ?_; rotate_left; (first | exact cs | exact cs.1 | exact cs.2 | exact cs.2.1 | exact cs.2.2 | exact cs.2.2.1 | exact cs.2.2.2 | exact cs.2.2.2.1 | exact cs.2.2.2.2 | exact cs.2.2.2.2.1 | exact cs.2.2.2.2.2 | exact cs.2.2.2.2.2.1 | exact cs.2.2.2.2.2.2 | exact cs.2.2.2.2.2.2.1 | exact cs.2.2.2.2.2.2.2 | exact cs.2.2.2.2.2.2.2.1 | exact cs.2.2.2.2.2.2.2.2 | exact cs.2.2.2.2.2.2.2.2.1 | exact cs.2.2.2.2.2.2.2.2.2 | exact cs.2.2.2.2.2.2.2.2.2.1 | exact cs.2.2.2.2.2.2.2.2.2.2 | exact cs.2.2.2.2.2.2.2.2.2.2.1 | exact cs.2.2.2.2.2.2.2.2.2.2.2 | exact cs.2.2.2.2.2.2.2.2.2.2.2.1 | exact cs.2.2.2.2.2.2.2.2.2.2.2.2 | exact cs.2.2.2.2.2.2.2.2.2.2.2.2.1 | exact cs.2.2.2.2.2.2.2.2.2.2.2.2.2 | exact cs.2.2.2.2.2.2.2.2.2.2.2.2.2.1 | exact cs.2.2.2.2.2.2.2.2.2.2.2.2.2.2); repeat' (first | exact trivial | exact Or.inl ⟨rfl, rfl⟩ | exact Or.inr rfl | apply And.intro))
       simp only [go_sem, ↓reduceIte, fs])
    | ((first | refine hK _ _ ?_ | refine hK _ _ rfl ?_ | refine hK _ _ (by simp only [crs, crsI, alfO, alfL, Nat.reduceLT]; rfl) ?_); clear hK hC; clear K C)
    | ((first | refine AW.seqR fun K C hK hC => ?_ | refine AW.seqD rfl fun K C hK hC => ?_ | refine AW.reg fun K C hK hC => ?_ | refine AW.regD rfl fun K C hK hC => ?_); simp only [go_sem, ↓reduceIte, fs])
    | refine AW.seqS ?_
    | (refine AW.ret ?_; simp only [go_sem, ↓reduceIte, fs])
    | (refine AW.cond rfl (fun hBr => ?_) (fun hBr => ?_) <;> (try simp only [decide_eq_true_eq, decide_eq_false_iff_not, bne_iff_ne, beq_iff_eq, bne_eq_false_iff_eq, beq_eq_false_iff_ne, ne_eq, ge_iff_le, gt_iff_lt, Bool.not_eq_true, Bool.not_eq_false, Bool.not_not, Bool.not_true, Bool.not_false, Int.not_le, Int.not_lt, not_true_eq_false, not_false_eq_true, reduceCtorEq, Bool.false_eq_true, Bool.not_eq_true', Bool.not_eq_false'] at hBr) <;> first | (exfalso; omega) | skip)
    | refine AW.skip ?_
    | refine AW.seq ?_
    | refine AW.block ?_
    | (refine AW.exit ?_; simp only [go_sem, ↓reduceIte, fs])
    | (refine ite_on (fun hBr => ?_) (fun hBr => ?_) <;> (try simp only [decide_eq_true_eq, decide_eq_false_iff_not, bne_iff_ne, beq_iff_eq, bne_eq_false_iff_eq, beq_eq_false_iff_ne, ne_eq, ge_iff_le, gt_iff_lt, Bool.not_eq_true, Bool.not_eq_false, Bool.not_not, Bool.not_true, Bool.not_false, Int.not_le, Int.not_lt, not_true_eq_false, not_false_eq_true, reduceCtorEq, Bool.false_eq_true, Bool.not_eq_true', Bool.not_eq_false'] at hBr) <;> first | (exfalso; omega) | skip)
    | rw [thenN]
    | rw [blockN]
    | rw [scopeN]
    | refine AW.scope ?_
    | refine AW.label ?_
    | refine And.intro ?_ ?_
    | refine lcons rfl ?_
    | (first | exact lGram _ | exact lSeen _ | exact lWord _ | exact lSealed _ | exact lRun _ | exact lPerson _ | exact lEvent _ | exact lLeak _ | exact lNum _ | exact lOprn _)
    | exact in64 (by omega) (by omega)
    | exact in32 (by omega) (by omega)
    | omega)
  all_goals (refine Kp.g ?_; repeat revert hBr)
  all_goals with_reducible first | exact r.g.1 | exact r.g.2.1 | exact r.g.2.2.1 | exact r.g.2.2.2.1 | exact r.g.2.2.2.2.1 | exact r.g.2.2.2.2.2.1 | exact r.g.2.2.2.2.2.2.1 | exact r.g.2.2.2.2.2.2.2.1 | exact r.g.2.2.2.2.2.2.2.2.1 | exact r.g.2.2.2.2.2.2.2.2.2.1 | exact r.g.2.2.2.2.2.2.2.2.2.2.1 | exact r.g.2.2.2.2.2.2.2.2.2.2.2.1 | exact r.g.2.2.2.2.2.2.2.2.2.2.2.2.1 | exact r.g.2.2.2.2.2.2.2.2.2.2.2.2.2.1 | exact r.g.2.2.2.2.2.2.2.2.2.2.2.2.2.2.1 | exact r.g.2.2.2.2.2.2.2.2.2.2.2.2.2.2.2.1 | exact r.g.2.2.2.2.2.2.2.2.2.2.2.2.2.2.2.2.1 | exact r.g.2.2.2.2.2.2.2.2.2.2.2.2.2.2.2.2.2.1 | exact r.g.2.2.2.2.2.2.2.2.2.2.2.2.2.2.2.2.2.2.1 | exact r.g.2.2.2.2.2.2.2.2.2.2.2.2.2.2.2.2.2.2.2.1 | exact r.g.2.2.2.2.2.2.2.2.2.2.2.2.2.2.2.2.2.2.2.2.1 | exact r.g.2.2.2.2.2.2.2.2.2.2.2.2.2.2.2.2.2.2.2.2.2.1 | exact r.g.2.2.2.2.2.2.2.2.2.2.2.2.2.2.2.2.2.2.2.2.2.2.1 | exact r.g.2.2.2.2.2.2.2.2.2.2.2.2.2.2.2.2.2.2.2.2.2.2.2.1) : G := h fs cs ss ⟨r⟩
theorem lz {F:Prop} (fs:F) {G:Prop} (h:F→G:=by
 intro fs
 (refine⟨rfl,?_,?_,?_⟩<;>repeat' (first|exact LeT.junk|exact LeM.none|exact LiveM.none|refine LeT.nil0 (by simp only[go_sem,↓reduceIte,fs];done) ?_|refine LeT.same ?_ ?_ ?_|refine LeM.same ?_ ?_|refine LiveM.upd ?_ ?_|trivial|(simp only[go_sem,↓reduceIte,fs];done)|rfl))):G:=h fs
theorem wkx {F C S R : Prop} (fs : F) (cs : C) (ss : S) (r : R) {G : Prop} (h : F → C → S → Kp R → G := by
  intro fs cs ss r
  repeat' (first
    | with_reducible refine ss ?_
    | (refine hC ?_ ?_ ?_ ?_ ?_
       rotate_left
       · rfl
       · simp only [go_sem, ↓reduceIte, List.append_eq, bne_self_eq_false, Nat.zero_add, beq_self_eq_true, Int.toNat_zero, List.map_nil, List.map_cons, Nat.mul_one, BEq.rfl, Nat.sub_self, List.length_set, List.length_map, fs]
       · simp only [go_sem, ↓reduceIte, List.append_eq, bne_self_eq_false, Nat.zero_add, beq_self_eq_true, Int.toNat_zero, List.map_nil, List.map_cons, Nat.mul_one, BEq.rfl, Nat.sub_self, List.length_set, List.length_map, fs]
         first | (refine And.intro ?_ ?_; (first | exact cs | exact cs.1 | exact cs.2 | exact cs.2.1 | exact cs.2.2 | exact cs.2.2.1 | exact cs.2.2.2 | exact cs.2.2.2.1 | exact cs.2.2.2.2 | exact cs.2.2.2.2.1 | exact cs.2.2.2.2.2 | exact cs.2.2.2.2.2.1 | exact cs.2.2.2.2.2.2 | exact cs.2.2.2.2.2.2.1 | exact cs.2.2.2.2.2.2.2 | exact cs.2.2.2.2.2.2.2.1 | exact cs.2.2.2.2.2.2.2.2 | exact cs.2.2.2.2.2.2.2.2.1 | exact cs.2.2.2.2.2.2.2.2.2 | exact cs.2.2.2.2.2.2.2.2.2.1 | exact cs.2.2.2.2.2.2.2.2.2.2 | exact cs.2.2.2.2.2.2.2.2.2.2.1 | exact cs.2.2.2.2.2.2.2.2.2.2.2 | exact cs.2.2.2.2.2.2.2.2.2.2.2.1 | exact cs.2.2.2.2.2.2.2.2.2.2.2.2 | exact cs.2.2.2.2.2.2.2.2.2.2.2.2.1 | exact cs.2.2.2.2.2.2.2.2.2.2.2.2.2 | exact cs.2.2.2.2.2.2.2.2.2.2.2.2.2.1 | exact cs.2.2.2.2.2.2.2.2.2.2.2.2.2.2); first | exact trivial | (simp only [go_sem, ↓reduceIte, List.append_eq, bne_self_eq_false, Nat.zero_add, beq_self_eq_true, Int.toNat_zero, List.map_nil, List.map_cons, Nat.mul_one, BEq.rfl, Nat.sub_self, List.length_set, List.length_map, fs]; done)) | (refine And.intro (ACalls.args (k := ?_) ?_ ?_) ?_; rotate_left; (first | exact cs | exact cs.1 | exact cs.2 | exact cs.2.1 | exact cs.2.2 | exact cs.2.2.1 | exact cs.2.2.2 | exact cs.2.2.2.1 | exact cs.2.2.2.2 | exact cs.2.2.2.2.1 | exact cs.2.2.2.2.2 | exact cs.2.2.2.2.2.1 | exact cs.2.2.2.2.2.2 | exact cs.2.2.2.2.2.2.1 | exact cs.2.2.2.2.2.2.2 | exact cs.2.2.2.2.2.2.2.1 | exact cs.2.2.2.2.2.2.2.2 | exact cs.2.2.2.2.2.2.2.2.1 | exact cs.2.2.2.2.2.2.2.2.2 | exact cs.2.2.2.2.2.2.2.2.2.1 | exact cs.2.2.2.2.2.2.2.2.2.2 | exact cs.2.2.2.2.2.2.2.2.2.2.1 | exact cs.2.2.2.2.2.2.2.2.2.2.2 | exact cs.2.2.2.2.2.2.2.2.2.2.2.1 | exact cs.2.2.2.2.2.2.2.2.2.2.2.2 | exact cs.2.2.2.2.2.2.2.2.2.2.2.2.1 | exact cs.2.2.2.2.2.2.2.2.2.2.2.2.2 | exact cs.2.2.2.2.2.2.2.2.2.2.2.2.2.1 | exact cs.2.2.2.2.2.2.2.2.2.2.2.2.2.2); repeat' (first | exact trivial | exact Or.inl ⟨rfl, rfl⟩ | exact Or.inr rfl | apply And.intro))
       simp only [go_sem, ↓reduceIte, List.append_eq, bne_self_eq_false, Nat.zero_add, beq_self_eq_true, Int.toNat_zero, List.map_nil, List.map_cons, Nat.mul_one, BEq.rfl, Nat.sub_self, List.length_set, List.length_map, fs])
    | ((first | refine hK _ _ ?_ | refine hK _ _ rfl ?_ | refine hK _ _ (by simp only [crs, crsI, alfO, alfL, Nat.reduceLT]; rfl) ?_); clear hK hC; clear K C)
    | ((first | refine AW.seqR fun K C hK hC => ?_ | refine AW.seqD rfl fun K C hK hC => ?_ | refine AW.reg fun K C hK hC => ?_ | refine AW.regD rfl fun K C hK hC => ?_); simp only [go_sem, ↓reduceIte, List.append_eq, bne_self_eq_false, Nat.zero_add, beq_self_eq_true, Int.toNat_zero, List.map_nil, List.map_cons, Nat.mul_one, BEq.rfl, Nat.sub_self, List.length_set, List.length_map, fs])
    | refine AW.seqS ?_
    | (refine AW.ret ?_; simp only [go_sem, ↓reduceIte, List.append_eq, bne_self_eq_false, Nat.zero_add, beq_self_eq_true, Int.toNat_zero, List.map_nil, List.map_cons, Nat.mul_one, BEq.rfl, Nat.sub_self, List.length_set, List.length_map, fs])
    | (refine AW.cond rfl (fun hBr => ?_) (fun hBr => ?_) <;> (try simp only [decide_eq_true_eq, decide_eq_false_iff_not, bne_iff_ne, beq_iff_eq, bne_eq_false_iff_eq, beq_eq_false_iff_ne, ne_eq, ge_iff_le, gt_iff_lt, Bool.not_eq_true, Bool.not_eq_false, Bool.not_not, Bool.not_true, Bool.not_false, Int.not_le, Int.not_lt, not_true_eq_false, not_false_eq_true, reduceCtorEq, Bool.false_eq_true, Bool.not_eq_true', Bool.not_eq_false'] at hBr) <;> first | (exfalso; omega) | skip)
    | refine AW.skip ?_
    | refine AW.seq ?_
    | refine AW.block ?_
    | (refine AW.exit ?_; simp only [go_sem, ↓reduceIte, List.append_eq, bne_self_eq_false, Nat.zero_add, beq_self_eq_true, Int.toNat_zero, List.map_nil, List.map_cons, Nat.mul_one, BEq.rfl, Nat.sub_self, List.length_set, List.length_map, fs])
    | (refine ite_on (fun hBr => ?_) (fun hBr => ?_) <;> (try simp only [decide_eq_true_eq, decide_eq_false_iff_not, bne_iff_ne, beq_iff_eq, bne_eq_false_iff_eq, beq_eq_false_iff_ne, ne_eq, ge_iff_le, gt_iff_lt, Bool.not_eq_true, Bool.not_eq_false, Bool.not_not, Bool.not_true, Bool.not_false, Int.not_le, Int.not_lt, not_true_eq_false, not_false_eq_true, reduceCtorEq, Bool.false_eq_true, Bool.not_eq_true', Bool.not_eq_false'] at hBr) <;> first | (exfalso; omega) | skip)
    | rw [thenN]
    | rw [blockN]
    | rw [scopeN]
    | refine AW.scope ?_
    | refine AW.label ?_
    | refine And.intro ?_ ?_
    | refine lcons rfl ?_
    | (first | exact lGram _ | exact lSeen _ | exact lWord _ | exact lSealed _ | exact lRun _ | exact lPerson _ | exact lEvent _ | exact lLeak _ | exact lNum _ | exact lOprn _)
    | exact in64 (by omega) (by omega)
    | exact in32 (by omega) (by omega)
    | omega)
  all_goals (refine Kp.g ?_; repeat revert hBr)
  all_goals with_reducible first | exact r.g.1 | exact r.g.2.1 | exact r.g.2.2.1 | exact r.g.2.2.2.1 | exact r.g.2.2.2.2.1 | exact r.g.2.2.2.2.2.1 | exact r.g.2.2.2.2.2.2.1 | exact r.g.2.2.2.2.2.2.2.1 | exact r.g.2.2.2.2.2.2.2.2.1 | exact r.g.2.2.2.2.2.2.2.2.2.1 | exact r.g.2.2.2.2.2.2.2.2.2.2.1 | exact r.g.2.2.2.2.2.2.2.2.2.2.2.1 | exact r.g.2.2.2.2.2.2.2.2.2.2.2.2.1 | exact r.g.2.2.2.2.2.2.2.2.2.2.2.2.2.1 | exact r.g.2.2.2.2.2.2.2.2.2.2.2.2.2.2.1 | exact r.g.2.2.2.2.2.2.2.2.2.2.2.2.2.2.2.1 | exact r.g.2.2.2.2.2.2.2.2.2.2.2.2.2.2.2.2.1 | exact r.g.2.2.2.2.2.2.2.2.2.2.2.2.2.2.2.2.2.1 | exact r.g.2.2.2.2.2.2.2.2.2.2.2.2.2.2.2.2.2.2.1 | exact r.g.2.2.2.2.2.2.2.2.2.2.2.2.2.2.2.2.2.2.2.1 | exact r.g.2.2.2.2.2.2.2.2.2.2.2.2.2.2.2.2.2.2.2.2.1 | exact r.g.2.2.2.2.2.2.2.2.2.2.2.2.2.2.2.2.2.2.2.2.2.1 | exact r.g.2.2.2.2.2.2.2.2.2.2.2.2.2.2.2.2.2.2.2.2.2.2.1 | exact r.g.2.2.2.2.2.2.2.2.2.2.2.2.2.2.2.2.2.2.2.2.2.2.2.1) : G := h fs cs ss ⟨r⟩
end
section
theorem take_more {α:Type}{l m:List α}{k:Nat}{x:α}(ht:l.take k=m.take k)(hx:l[k]?=some x)(hy:m[k]?=some x):l.take (k+1)=m.take (k+1):=by
 rw[List.take_add_one,List.take_add_one,ht,hx,hy]
theorem take_all {α:Type}{l m:List α}(h:l.length=m.length)(ht:l.take l.length=m.take l.length):l=m:=by
 rw[List.take_length,h,List.take_length]at ht
 exact ht
theorem q01_sameC (j:Nat)(l m:List Int):ACalls Tryz.prog 45 [.one (.rowc j (l.map eWord)),.one (eWords m)] (rB (decide (l=m))):=by
 refine ACalls.introF (fn:=Tryz.f45) Tryz.func45 rfl rfl (by simp[Tryz.f45]) fun hf=>?_
 have hl:=Fine.rowC (hf _ (by simp):FineCA (.one (.rowc j (l.map eWord))))
 clear hf
 unfold Tryz.f45 eWords
 simp only[]
 refine wk T0 T0 T0 (J3 ?_ ?_ T0)
 all_goals ((repeat intro h);refine⟨?_⟩)
 ·have hne:l≠m:=fun e=>by subst e;simp at h
  simp[hne]
 ·have hlen:l.length=m.length:=by omega
  clear h
  refine AW.loopW (fun n σ=>∃k:Nat,n=l.length - k∧k≤l.length∧l.take k=m.take k∧σ=⟨26,upd (upd (upd (fun _=>.junk) 5 (.one (.c (i64 k)))) 1 (.one (.c (.row (m.map eWord))))) 0 (.one (.c (.rowc j (l.map eWord)))),fun _=>none⟩) (n:=l.length) _ ⟨0,rfl,Nat.zero_le _,rfl,rfl⟩ (by exact lz T0) ?_
  rintro n σ ⟨k,rfl,hk,ht,rfl⟩
  by_cases hlt:k<l.length
  ·obtain⟨x,hx⟩:∃x,l[k]?=some x:=⟨_,List.getElem?_eq_getElem hlt⟩
   obtain⟨y,hy⟩:∃y,m[k]?=some y:=⟨_,List.getElem?_eq_getElem (by omega)⟩
   have hlt2:k<m.length:=by omega
   have hs:=wrapI (x:=(k:Int)+1) (by omega) (by omega)
   refine wk (J6 hx hy hlt hlt2 eWord.eq_1 hs) T0 T0 (J3 ?_ ?_ T0)
   all_goals ((repeat intro h);refine⟨?_⟩)
   ·have hne:l≠m:=fun e=>by subst e;rw[hx]at hy;cases hy;simp at h
    simp[hne]
   ·have hxy:x=y:=by simpa using h
    subst hxy
    exact⟨l.length - (k+1),by omega,_,⟨k+1,rfl,by omega,take_more ht hx hy,rfl⟩,by exact lz T0⟩
  ·have:k=l.length:=by omega
   subst this
   refine wk T0 T0 T0 (J2 ?_ T0)
   all_goals ((repeat intro h);refine⟨?_⟩)
   rw[take_all hlen ht]
   simp
theorem q01_same (l m:List Int):ACalls Tryz.prog 45 [.one (eWords l),.one (eWords m)] (rB (decide (l=m))):=q01_sameC 0 l m
end
section
theorem q01_rows (l m:List (List Int)):ACalls Tryz.prog 37 [.one (eRows l),.one (eRows m)] (rB (decide (l=m))):=by
 refine ACalls.introF (fn:=Tryz.f37) Tryz.func37 rfl rfl (by simp[Tryz.f37]) fun hf=>?_
 have hl:=(fineRows (hf _ (by simp):FineCA (.one (eRows l)))).1
 clear hf
 unfold Tryz.f37 eRows
 simp only[]
 refine wk T0 T0 T0 (J3 ?_ ?_ T0)
 all_goals ((repeat intro h);refine⟨?_⟩)
 ·have hne:l≠m:=fun e=>by subst e;simp at h
  simp[hne]
 ·have hlen:l.length=m.length:=by omega
  clear h
  refine AW.loopW (fun n σ=>∃k:Nat,n=l.length - k∧k≤l.length∧l.take k=m.take k∧σ=⟨27,upd (upd (upd (fun _=>.junk) 5 (.one (.c (i64 k)))) 1 (.one (.c (.row (m.map eSeen))))) 0 (.one (.c (.row (l.map eSeen)))),fun _=>none⟩) (n:=l.length) _ ⟨0,rfl,Nat.zero_le _,rfl,rfl⟩ (by exact lz T0) ?_
  rintro n σ ⟨k,rfl,hk,ht,rfl⟩
  by_cases hlt:k<l.length
  ·obtain⟨x,hx⟩:∃x,l[k]?=some x:=⟨_,List.getElem?_eq_getElem hlt⟩
   obtain⟨y,hy⟩:∃y,m[k]?=some y:=⟨_,List.getElem?_eq_getElem (by omega)⟩
   have hlt2:k<m.length:=by omega
   have hs:=wrapI (x:=(k:Int)+1) (by omega) (by omega)
   refine wk (J6 hx hy hlt hlt2 eSeen.eq_1 hs) (q01_same _ _) T0 (J3 ?_ ?_ T0)
   all_goals ((repeat intro h);refine⟨?_⟩)
   ·have hne:l≠m:=fun e=>by subst e;rw[hx]at hy;cases hy;simp at h
    simp[hne]
   ·have hxy:x=y:=by simpa using h
    subst hxy
    exact⟨l.length - (k+1),by omega,_,⟨k+1,rfl,by omega,take_more ht hx hy,rfl⟩,by exact lz T0⟩
  ·have:k=l.length:=by omega
   subst this
   refine wk T0 T0 T0 (J2 ?_ T0)
   all_goals ((repeat intro h);refine⟨?_⟩)
   rw[take_all hlen ht]
   simp
end
end Go.Proofs.YtaoijgapnmmpoaaGreatDoor.Abs
