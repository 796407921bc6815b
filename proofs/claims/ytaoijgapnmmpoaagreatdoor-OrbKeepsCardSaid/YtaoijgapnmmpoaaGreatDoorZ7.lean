/- Texts that were merged: P07, P07b, P08, Q09b, P09, Q10c, P10a, P12a, P04. -/
import Derived.Test.YtaoijgapnmmpoaaGreatDoorZ4
import Derived.Test.YtaoijgapnmmpoaaGreatDoorZ5
import Derived.Test.YtaoijgapnmmpoaaGreatDoorZ6
set_option linter.unusedSimpArgs false
set_option linter.unusedVariables false
set_option maxHeartbeats 1000000
set_option maxRecDepth 100000
namespace Go.Proofs.YtaoijgapnmmpoaaGreatDoor.Abs
open Go.RowKit
section
theorem lib_index_sealed (j:Nat)(l:List Sealed)(p:Sealed→Bool)(f:FuncId)(caps:List CV)(hp:∀s,ACalls Tryz.prog f (.agg (eSealed s)::caps.map .one) (rB (p s))):ACalls Tryz.prog 147 [.one (.rowc j (l.map eSealed)),.one (.fn f false [] caps)] (rI (idxOf l p)):=by
 refine ACalls.introF (fn:=Tryz.f147) Tryz.func147 rfl rfl (by simp[Tryz.f147]) fun hf=>?_
 have hl:=Fine.rowC (hf _ (by simp):FineCA (.one (.rowc j (l.map eSealed))))
 clear hf
 unfold Tryz.f147
 simp only[rI]
 refine wk T0 T0 T0 (J2 ?_ T0)
 all_goals ((repeat intro h);refine⟨?_⟩)
 refine AW.loopW (fun n σ=>∃k:Nat,n=l.length - k∧k≤l.length∧(∀s∈l.take k,p s=false)∧σ=⟨19,upd (upd (upd (upd (fun _=>.junk) 8 (.one (.c (i64 k)))) 7 (.one (.c (i64 l.length)))) 1 (.one (.c (.fn f false [] caps)))) 0 (.one (.c (.rowc j (l.map eSealed)))),fun _=>none⟩) (n:=l.length) _ ⟨0,rfl,Nat.zero_le _,by simp,rfl⟩ (by exact lz T0) ?_
 rintro n σ ⟨k,rfl,hk,ht,rfl⟩
 by_cases hlt:k<l.length
 ·obtain⟨x,hx⟩:∃x,l[k]?=some x:=⟨_,List.getElem?_eq_getElem hlt⟩
  have hs:=wrapI (x:=(k:Int)+1) (by omega) (by omega)
  have hq:=hp x
  cases hpx:p x
  ·rw[hpx]at hq
   simp only[eSealed,rB]at hq
   refine wk (J4 hx hlt hs eSealed.eq_1) hq T0 (J2 ?_ T0)
   all_goals ((repeat intro h);refine⟨?_⟩)
   refine⟨l.length - (k+1),by omega,_,⟨k+1,rfl,by omega,idxOf_next ht hx hpx,rfl⟩,?_⟩
   exact lz T0
  ·rw[hpx]at hq
   simp only[eSealed,rB]at hq
   refine wk (J4 hx hlt hs eSealed.eq_1) hq T0 (J2 ?_ T0)
   all_goals ((repeat intro h);refine⟨?_⟩)
   rw[idxOf_some ht hx hpx]
 ·obtain rfl:k=l.length:=by omega
  refine wk T0 T0 T0 (J2 ?_ T0)
  all_goals ((repeat intro h);refine⟨?_⟩)
  rw[idxOf_none ht]
theorem lib_contains_sealed (j:Nat)(l:List Sealed)(p:Sealed→Bool)(f:FuncId)(caps:List CV)(hp:∀s,ACalls Tryz.prog f (.agg (eSealed s)::caps.map .one) (rB (p s))):ACalls Tryz.prog 119 [.one (.rowc j (l.map eSealed)),.one (.fn f false [] caps)] (rB (l.any p)):=by
 refine ACalls.intro (fn:=Tryz.f119) Tryz.func119 rfl rfl (by simp[Tryz.f119]) ?_
 have hq:=lib_index_sealed j l p f caps hp
 rw[←idxOf_ge]
 unfold Tryz.f119
 simp only[rI,rB]at *
 refine wk T0 hq T0 T0
theorem p07_pred (s:Sealed)(h:Int):ACalls Tryz.prog 148 [.agg (eSealed s),.one (.ptrc 0 [u32 h] 0)] (rB (s.handle==h)):=by
 refine ACalls.intro (fn:=Tryz.f148) Tryz.func148 rfl rfl (by simp[Tryz.f148]) ?_
 unfold Tryz.f148 eSealed
 simp only[rB]
 refine wk T0 T0 T0 T0
abbrev fnHandle (h:Int):CV:=.fn 148 false [] [.ptrc 0 [u32 h] 0]
theorem p07_of (h:Int):ACalls Tryz.prog 120 [.one (u32 h)] (.one (.one (fnHandle h))):=by
 refine ACalls.intro (fn:=Tryz.f120) Tryz.func120 rfl rfl (by simp[Tryz.f120]) ?_
 unfold Tryz.f120
 simp only[fnHandle]
 refine wk T0 T0 T0 T0
theorem p07_contains (j:Nat)(l:List Sealed)(h:Int):ACalls Tryz.prog 119 [.one (.rowc j (l.map eSealed)),.one (fnHandle h)] (rB (thereB l h)):=
 lib_contains_sealed j l (fun s=>s.handle==h) _ _ (fun s=>p07_pred s h)
theorem p07_index (j:Nat)(l:List Sealed)(h:Int):ACalls Tryz.prog 147 [.one (.rowc j (l.map eSealed)),.one (fnHandle h)] (rI (idxOf l fun s=>s.handle==h)):=
 lib_index_sealed j l (fun s=>s.handle==h) _ _ (fun s=>p07_pred s h)
theorem p07_fits (j:Nat)(p:List Int):ACalls Tryz.prog 118 [.one (.rowc j (p.map eWord))] (rB (decide ((p.length:Int)≤64))):=by
 refine ACalls.intro (fn:=Tryz.f118) Tryz.func118 rfl rfl (by simp[Tryz.f118]) ?_
 unfold Tryz.f118
 simp only[rB]
 refine wk T0 T0 T0 T0
theorem p07_free (j:Nat)(b:Box)(h0:0≤b.room)(h1:b.room≤64)(hl:b.entries.length<1000000):ACalls Tryz.prog 113 [.agg (eBoxC j b)] (rI (b.room - b.entries.length)):=by
 refine ACalls.intro (fn:=Tryz.f113) Tryz.func113 rfl rfl (by simp[Tryz.f113]) ?_
 have hw:=wrapI (x:=b.room - (b.entries.length:Int)) (by omega) (by omega)
 unfold Tryz.f113 eBoxC
 simp only[rI]
 refine wk hw T0 T0 T0
end
section
end
section
theorem lib_grow_words (n:Int)(h0:0≤n)(hn:n≤1000000):ACalls Tryz.prog 122 [.nil,.one (i64 n)] (.own 22 1 []):=by
 refine ACalls.intro (fn:=Tryz.f122) Tryz.func122 rfl rfl (by simp[Tryz.f122]) ?_
 have w0:IntKind.i64.wrap 0=0:=by decide
 have w1:IntKind.i64.wrap n=n:=wrapI (by omega) (by omega)
 obtain⟨N,rfl⟩:∃N:Nat,n=N:=⟨n.toNat,by omega⟩
 unfold Tryz.f122
 simp only[]
 refine wk (J4 @Int.sub_self @Int.sub_zero w0 w1) T0 T0 T0
theorem lib_concatC_words (ls:List (Nat×List Int))(hk:ls.length≤1000000)(hl:(ls.map (·.2)).flatten.length≤1000000):ACalls Tryz.prog 97 [.one (.row (ls.map fun l=>[.rowc l.1 (l.2.map eWord)]))] (.own 22 1 ((ls.map (·.2)).flatten.map eWord)):=by
 refine ACalls.intro (fn:=Tryz.f97) Tryz.func97 rfl rfl (by simp[Tryz.f97]) ?_
 unfold Tryz.f97
 simp only[]
 have hstep:∀{k:Nat} {x:Nat×List Int},ls[k]?=some x→((ls.map (·.2)).take (k+1)).flatten=((ls.map (·.2)).take k).flatten++x.2:=fun {k x} hx=>by
  rw[List.take_add_one,List.getElem?_map,hx];simp
 have hle:∀k,((ls.map (·.2)).take k).flatten.length≤(ls.map (·.2)).flatten.length:=fun k=>by
  have:=congrArg (fun l=>l.flatten.length) (List.take_append_drop k (ls.map (·.2)))
  simp only[List.flatten_append,List.length_append]at this
  omega
 refine wk T0 T0 T0 (J2 ?_ T0)
 all_goals ((repeat intro h);refine⟨?_⟩)
 refine AW.loopW (fun n σ=>∃k:Nat,n=ls.length - k∧k≤ls.length∧σ=⟨36,upd (upd (upd (upd (upd (fun _=>.junk) 11 (.one (.c (i64 k)))) 10 (.one (.c (i64 ls.length)))) 9 (.one (.c (.row (ls.map fun l=>[.rowc l.1 (l.2.map eWord)]))))) 3 (.one (.c (i64 (((ls.map (·.2)).take k).flatten.length:Nat))))) 0 (.one (.c (.row (ls.map fun l=>[.rowc l.1 (l.2.map eWord)])))),fun _=>none⟩) (n:=ls.length) _ ⟨0,rfl,Nat.zero_le _,rfl⟩ (by exact lz T0) ?_
 rintro n σ ⟨k,rfl,hkl,rfl⟩
 by_cases hlt:k<ls.length
 ·obtain⟨x,hx⟩:∃x:Nat×List Int,ls[k]?=some x:=⟨_,List.getElem?_eq_getElem hlt⟩
  have h1:=hle (k+1)
  have hst:=hstep hx
  rw[hst,List.length_append]at h1
  have hs:=wrapI (x:=(k:Int)+1) (by omega) (by omega)
  have hs2:=wrapI (x:=(((ls.map (·.2)).take k).flatten.length:Int)+(x.2.length:Int)) (by omega) (by omega)
  generalize hq:((ls.map (·.2)).take k).flatten.length=q at hs2 h1
  refine wk (J5 hx hlt hs hs2 eWords.eq_1) T0 T0 (J2 ?_ T0)
  all_goals ((repeat intro h);refine⟨?_⟩)
  refine⟨ls.length - (k+1),by omega,_,⟨k+1,rfl,by omega,rfl⟩,?_⟩
  rw[hst,List.length_append,hq]
  have hc:((q+x.2.length:Nat):Int)=(q:Int)+(x.2.length:Int):=by omega
  exact lz hc
 ·obtain rfl:k=ls.length:=by omega
  rw[List.take_of_length_le (by simp)]
  generalize hq:(ls.map (·.2)).flatten.length=q at hl hle
  have gw:=lib_grow_words q (by omega) (by omega)
  refine wk T0 gw T0 (J2 ?_ T0)
  all_goals ((repeat intro h);refine⟨?_⟩)
  refine AW.loopW (fun n σ=>∃k:Nat,n=ls.length - k∧k≤ls.length∧σ=⟨36,upd (upd (upd (upd (fun _=>.junk) 27 (.one (.c (i64 k)))) 26 (.one (.c (i64 ls.length)))) 25 (.one (.c (.row (ls.map fun l=>[.rowc l.1 (l.2.map eWord)]))))) 6 (.one (.own 24 ((ls.map (·.2)).take k).flatten.length)),upd (fun _=>none) 24 (some (.rows 22 1 (((ls.map (·.2)).take k).flatten.map eWord)))⟩) (n:=ls.length) _ ⟨0,rfl,Nat.zero_le _,rfl⟩ (by exact lz T0) ?_
  rintro n σ ⟨k,rfl,hkl,rfl⟩
  by_cases hlt:k<ls.length
  ·obtain⟨x,hx⟩:∃x:Nat×List Int,ls[k]?=some x:=⟨_,List.getElem?_eq_getElem hlt⟩
   have h1:=hle (k+1)
   have hst:=hstep hx
   rw[hst,List.length_append]at h1
   have hs:=wrapI (x:=(k:Int)+1) (by omega) (by omega)
   refine wk (J4 hx hlt hs eWords.eq_1) T0 T0 (J2 ?_ T0)
   all_goals ((repeat intro h);refine⟨?_⟩)
   refine⟨ls.length - (k+1),by omega,_,⟨k+1,rfl,by omega,rfl⟩,?_⟩
   rw[hst]
   simp only[List.length_append,List.map_append]
   exact lz T0
  ·obtain rfl:k=ls.length:=by omega
   rw[List.take_of_length_le (by simp)]
   refine wk T0 T0 T0 T0
theorem lib_index_words (j:Nat)(l:List Int)(w:Int):ACalls Tryz.prog 138 [.one (.rowc j (l.map eWord)),.one (u32 w)] (rI (idxOf l fun x=>w==x)):=by
 refine ACalls.introF (fn:=Tryz.f138) Tryz.func138 rfl rfl (by simp[Tryz.f138]) fun hf=>?_
 have hl:=Fine.rowC (hf _ (by simp):FineCA (.one (.rowc j (l.map eWord))))
 clear hf
 unfold Tryz.f138
 simp only[rI]
 refine wk T0 T0 T0 (J2 ?_ T0)
 all_goals ((repeat intro h);refine⟨?_⟩)
 refine AW.loopW (fun n σ=>∃k:Nat,n=l.length - k∧k≤l.length∧(∀s∈l.take k,(fun x=>w==x) s=false)∧σ=⟨19,(upd (upd (upd (upd (fun _=>.junk) 0 (.one (.c (.rowc j (l.map eWord))))) 1 (.one (.c (u32 w)))) 7 (.one (.c (i64 l.length)))) 8 (.one (.c (i64 k)))),(fun _=>none)⟩) (n:=l.length) _ ⟨0,rfl,Nat.zero_le _,by simp,rfl⟩ (by exact lz T0) ?_
 rintro n σ ⟨k,rfl,hk,ht,rfl⟩
 by_cases hlt:k<l.length
 ·obtain⟨x,hx⟩:∃x,l[k]?=some x:=⟨_,List.getElem?_eq_getElem hlt⟩
  have hs:=wrapI (x:=(k:Int)+1) (by omega) (by omega)
  cases hp:(w==x)
  ·refine wk (J5 hx hlt hs hp eWord.eq_1) T0 T0 (J2 ?_ T0)
   all_goals ((repeat intro h);refine⟨?_⟩)
   refine⟨l.length - (k+1),by omega,_,⟨k+1,rfl,by omega,idxOf_next ht hx hp,rfl⟩,?_⟩
   exact lz T0
  ·refine wk (J5 hx hlt hs hp eWord.eq_1) T0 T0 (J2 ?_ T0)
   all_goals ((repeat intro h);refine⟨?_⟩)
   rw[idxOf_some ht hx hp]
 ·obtain rfl:k=l.length:=by omega
  refine wk T0 T0 T0 (J2 ?_ T0)
  all_goals ((repeat intro h);refine⟨?_⟩)
  rw[idxOf_none ht]
theorem lib_contains_words (j:Nat)(l:List Int)(w:Int):ACalls Tryz.prog 112 [.one (.rowc j (l.map eWord)),.one (u32 w)] (rB (hasB l w)):=by
 refine ACalls.intro (fn:=Tryz.f112) Tryz.func112 rfl rfl (by simp[Tryz.f112]) ?_
 have hq:=lib_index_words j l w
 have hb:hasB l w=l.any fun x=>w==x:=by unfold hasB;congr 1;funext x;exact Bool.beq_comm
 rw[hb,←idxOf_ge]
 unfold Tryz.f112
 simp only[rI,rB]at *
 refine wk T0 hq T0 T0
theorem p08_may (j:Nat)(l:List Int)(room w:Int):ACalls Tryz.prog 90 [.one (.rowc j (l.map eWord)),.one (i64 room),.one (u32 w)] (rI (mayU l room w)):=by
 refine ACalls.intro (fn:=Tryz.f90) Tryz.func90 rfl rfl (by simp[Tryz.f90]) ?_
 have hh:=lib_contains_words j l w
 unfold Tryz.f90
 simp only[rI,rB]at *
 cases hb:hasB l w
 ·rw[hb]at hh
  by_cases hr:room≤(l.length:Int)
  ·refine wk hr hh T0 (J2 ?_ T0)
   all_goals ((repeat intro h);refine⟨?_⟩)
   simp[mayU,hb,hr]
  ·refine wk hr hh T0 (J2 ?_ T0)
   all_goals ((repeat intro h);refine⟨?_⟩)
   simp[mayU,hb,hr]
 ·rw[hb]at hh
  refine wk T0 hh T0 (J2 ?_ T0)
  all_goals ((repeat intro h);refine⟨?_⟩)
  simp[mayU,hb]
def noteC (j:Nat)(l:List Int)(room w:Int):CV:=if mayU l room w=0 then eWords (l++[w])else .rowc j (l.map eWord)
theorem p08_note (j:Nat)(l:List Int)(room w:Int)(hl:l.length<1000000):ACalls Tryz.prog 64 [.one (.rowc j (l.map eWord)),.one (i64 room),.one (u32 w)] (.tup [.one (noteC j l room w),.one (i64 (mayU l room w))]):=by
 refine ACalls.intro (fn:=Tryz.f64) Tryz.func64 rfl rfl (by simp[Tryz.f64]) ?_
 have hq:=p08_may j l room w
 have hc:=lib_concatC_words [(j,l),(0,[w])] (by simp) (by simp;omega)
 simp only[List.map_cons,List.map_nil,List.flatten_cons,List.flatten_nil,List.append_nil,List.map_append,eWord.eq_1 w]at hc
 unfold Tryz.f64
 simp only[rI]at *
 by_cases h0:mayU l room w=0
 ·have hb:(mayU l room w != 0)=false:=by simp[h0]
  refine wkx hb (J2 hq hc) T0 (J2 ?_ T0)
  all_goals ((repeat intro h);refine⟨?_⟩)
  simp[noteC,h0,eWords,eWord]
 ·have hb:(mayU l room w != 0)=true:=by simp[h0]
  refine wk hb hq T0 (J2 ?_ T0)
  all_goals ((repeat intro h);refine⟨?_⟩)
  simp[noteC,h0]
end
section
def noneTo {α:Type}(l:List α)(fr:Int)(q:α→Bool)(k:Nat):Prop:=∀(i:Nat) (x:α),i<k→l[i]?=some x→fr≤(i:Int)→q x=false
def idxFrom {α:Type}(l:List α)(fr:Int)(q:α→Bool):Option Nat:=(List.range l.length).find? fun i=>decide (fr≤(i:Int))&&(match l[i]? with|some x=>q x|none=>false)
theorem idxFrom_none {α:Type}{l:List α}{fr:Int}{q:α→Bool}(h:noneTo l fr q l.length):idxFrom l fr q=none:=by
 unfold idxFrom
 rw[List.find?_eq_none]
 intro i hi
 have hi:=List.mem_range.1 hi
 rw[List.getElem?_eq_getElem hi]
 by_cases hf:fr≤(i:Int)
 ·simp[hf,h i _ hi (List.getElem?_eq_getElem hi) hf]
 ·simp[hf]
theorem idxFrom_some {α:Type}{l:List α}{fr:Int}{q:α→Bool}{k:Nat}{x:α}(h:noneTo l fr q k)(hx:l[k]?=some x)(hf:fr≤(k:Int))(hq:q x=true):idxFrom l fr q=some k:=by
 have hk:k<l.length:=(List.getElem?_eq_some_iff.1 hx).1
 unfold idxFrom
 rw[List.find?_range_eq_some]
 refine⟨by simp[hf,hx,hq],List.mem_range.2 hk,fun j hj=>?_⟩
 rw[List.getElem?_eq_getElem (by omega)]
 by_cases hf':fr≤(j:Int)
 ·simp[hf',h j _ hj (List.getElem?_eq_getElem (by omega)) hf']
 ·simp[hf']
theorem idxFrom_cases {α:Type}(l:List α)(fr:Int)(q:α→Bool):(idxFrom l fr q=none∧noneTo l fr q l.length)∨∃(k:Nat) (x:α),idxFrom l fr q=some k∧noneTo l fr q k∧l[k]?=some x∧k<l.length∧fr≤(k:Int)∧q x=true:=by
 have key:∀n,n≤l.length→noneTo l fr q n∨∃(k:Nat) (x:α),noneTo l fr q k∧l[k]?=some x∧fr≤(k:Int)∧q x=true:=by
  intro n
  induction n with
  |zero=>intro _;exact .inl fun i x h=>by omega
  |succ n ih=>
   intro hn
   rcases ih (by omega)with h|h
   ·have hx:l[n]?=some l[n]:=List.getElem?_eq_getElem (by omega)
    by_cases hf:fr≤(n:Int)∧q l[n]=true
    ·exact .inr ⟨n,l[n],h,hx,hf.1,hf.2⟩
    ·refine .inl fun i x hi hix hfi=>?_
     rcases Nat.lt_succ_iff_lt_or_eq.1 hi with hi|rfl
     ·exact h i x hi hix hfi
     ·rw[hx]at hix;cases hix
      cases hq:q l[i]with
      |false=>rfl
      |true=>exact absurd ⟨hfi,hq⟩ hf
   ·exact .inr h
 rcases key l.length (Nat.le_refl _)with h|⟨k,x,h1,h2,h3,h4⟩
 ·exact .inl ⟨idxFrom_none h,h⟩
 ·exact .inr ⟨k,x,idxFrom_some h1 h2 h3 h4,h1,h2,(List.getElem?_eq_some_iff.1 h2).1,h3,h4⟩
theorem noneTo_succ {α:Type}{l:List α}{fr:Int}{q:α→Bool}{k:Nat}{x:α}(h:noneTo l fr q k)(hx:l[k]?=some x)(hn:¬(fr≤(k:Int)∧q x=true)):noneTo l fr q (k+1):=by
 intro i y hi hy hf
 rcases Nat.lt_succ_iff_lt_or_eq.1 hi with hi|rfl
 ·exact h i y hi hy hf
 ·rw[hx]at hy;cases hy
  cases hq:q x with
  |false=>rfl
  |true=>exact absurd ⟨hf,hq⟩ hn
def isKind (p ro st:Int)(r:Run):Bool:=r.proto==p&&(r.role==ro&&r.state==st)
def nextRun (l:List Run)(fr p ro st:Int):Int×Bool:=match idxFrom l fr (isKind p ro st)with
 |some i=>((i:Int),true)
 |none=>(0,false)
end
section
theorem lib_grow_runs (n:Int)(h0:0≤n)(hn:n≤1000000):ACalls Tryz.prog 126 [.nil,.one (i64 n)] (.own 55 9 []):=by
 refine ACalls.intro (fn:=Tryz.f126) Tryz.func126 rfl rfl (by simp[Tryz.f126]) ?_
 have w0:IntKind.i64.wrap 0=0:=by decide
 have w1:IntKind.i64.wrap n=n:=wrapI (by omega) (by omega)
 obtain⟨N,rfl⟩:∃N:Nat,n=N:=⟨n.toNat,by omega⟩
 unfold Tryz.f126
 simp only[]
 refine wk (J4 @Int.sub_self @Int.sub_zero w0 w1) T0 T0 T0
theorem lib_concatC_runs (ls:List (Nat×List Run))(hk:ls.length≤1000000)(hl:(ls.map (·.2)).flatten.length≤1000000):ACalls Tryz.prog 99 [.one (.row (ls.map fun l=>[.rowc l.1 (l.2.map eRun)]))] (.own 55 9 ((ls.map (·.2)).flatten.map eRun)):=by
 refine ACalls.intro (fn:=Tryz.f99) Tryz.func99 rfl rfl (by simp[Tryz.f99]) ?_
 unfold Tryz.f99
 simp only[]
 have hstep:∀{k:Nat} {x:Nat×List Run},ls[k]?=some x→((ls.map (·.2)).take (k+1)).flatten=((ls.map (·.2)).take k).flatten++x.2:=fun {k x} hx=>by
  rw[List.take_add_one,List.getElem?_map,hx];simp
 have hle:∀k,((ls.map (·.2)).take k).flatten.length≤(ls.map (·.2)).flatten.length:=fun k=>by
  have:=congrArg (fun l=>l.flatten.length) (List.take_append_drop k (ls.map (·.2)))
  simp only[List.flatten_append,List.length_append]at this
  omega
 refine wk T0 T0 T0 (J2 ?_ T0)
 all_goals ((repeat intro h);refine⟨?_⟩)
 refine AW.loopW (fun n σ=>∃k:Nat,n=ls.length - k∧k≤ls.length∧σ=⟨36,upd (upd (upd (upd (upd (fun _=>.junk) 11 (.one (.c (i64 k)))) 10 (.one (.c (i64 ls.length)))) 9 (.one (.c (.row (ls.map fun l=>[.rowc l.1 (l.2.map eRun)]))))) 3 (.one (.c (i64 (((ls.map (·.2)).take k).flatten.length:Nat))))) 0 (.one (.c (.row (ls.map fun l=>[.rowc l.1 (l.2.map eRun)])))),fun _=>none⟩) (n:=ls.length) _ ⟨0,rfl,Nat.zero_le _,rfl⟩ (by exact lz T0) ?_
 rintro n σ ⟨k,rfl,hkl,rfl⟩
 by_cases hlt:k<ls.length
 ·obtain⟨x,hx⟩:∃x:Nat×List Run,ls[k]?=some x:=⟨_,List.getElem?_eq_getElem hlt⟩
  have h1:=hle (k+1)
  have hst:=hstep hx
  rw[hst,List.length_append]at h1
  have hs:=wrapI (x:=(k:Int)+1) (by omega) (by omega)
  have hs2:=wrapI (x:=(((ls.map (·.2)).take k).flatten.length:Int)+(x.2.length:Int)) (by omega) (by omega)
  generalize hq:((ls.map (·.2)).take k).flatten.length=q at hs2 h1
  refine wk (J5 hx hlt hs hs2 eRuns.eq_1) T0 T0 (J2 ?_ T0)
  all_goals ((repeat intro h);refine⟨?_⟩)
  refine⟨ls.length - (k+1),by omega,_,⟨k+1,rfl,by omega,rfl⟩,?_⟩
  rw[hst,List.length_append,hq]
  have hc:((q+x.2.length:Nat):Int)=(q:Int)+(x.2.length:Int):=by omega
  exact lz hc
 ·obtain rfl:k=ls.length:=by omega
  rw[List.take_of_length_le (by simp)]
  generalize hq:(ls.map (·.2)).flatten.length=q at hl hle
  have gw:=lib_grow_runs q (by omega) (by omega)
  refine wk T0 gw T0 (J2 ?_ T0)
  all_goals ((repeat intro h);refine⟨?_⟩)
  refine AW.loopW (fun n σ=>∃k:Nat,n=ls.length - k∧k≤ls.length∧σ=⟨36,upd (upd (upd (upd (fun _=>.junk) 27 (.one (.c (i64 k)))) 26 (.one (.c (i64 ls.length)))) 25 (.one (.c (.row (ls.map fun l=>[.rowc l.1 (l.2.map eRun)]))))) 6 (.one (.own 24 ((ls.map (·.2)).take k).flatten.length)),upd (fun _=>none) 24 (some (.rows 55 9 (((ls.map (·.2)).take k).flatten.map eRun)))⟩) (n:=ls.length) _ ⟨0,rfl,Nat.zero_le _,rfl⟩ (by exact lz T0) ?_
  rintro n σ ⟨k,rfl,hkl,rfl⟩
  by_cases hlt:k<ls.length
  ·obtain⟨x,hx⟩:∃x:Nat×List Run,ls[k]?=some x:=⟨_,List.getElem?_eq_getElem hlt⟩
   have h1:=hle (k+1)
   have hst:=hstep hx
   rw[hst,List.length_append]at h1
   have hs:=wrapI (x:=(k:Int)+1) (by omega) (by omega)
   refine wk (J4 hx hlt hs eRuns.eq_1) T0 T0 (J2 ?_ T0)
   all_goals ((repeat intro h);refine⟨?_⟩)
   refine⟨ls.length - (k+1),by omega,_,⟨k+1,rfl,by omega,rfl⟩,?_⟩
   rw[hst]
   simp only[List.length_append,List.map_append]
   exact lz T0
  ·obtain rfl:k=ls.length:=by omega
   rw[List.take_of_length_le (by simp)]
   refine wk T0 T0 T0 T0
theorem lib_clone_runs (j:Nat)(l:List Run)(hl:l.length≤1000000):ACalls Tryz.prog 83 [.one (.rowc j (l.map eRun))] (.own 55 9 (l.map eRun)):=by
 refine ACalls.intro (fn:=Tryz.f83) Tryz.func83 rfl rfl (by simp[Tryz.f83]) ?_
 unfold Tryz.f83
 simp only[]
 cases l with
 |nil=>
  refine AW.empty 0 rfl ?_ ?_
  ·refine wk T0 T0 T0 T0
  ·refine wk T0 T0 T0 T0
 |cons x l=>
  simp only[List.length_cons]at hl
  refine wk T0 T0 T0 T0
theorem p09_isProto (n:Int):ACalls Tryz.prog 123 [.one (i64 n)] (rB (n==1||n==2)):=by
 refine ACalls.intro (fn:=Tryz.f123) Tryz.func123 rfl rfl (by simp[Tryz.f123]) ?_
 unfold Tryz.f123
 simp only[rB]
 refine wk T0 T0 T0 (J3 ?_ ?_ T0)
 all_goals ((repeat intro h);refine⟨?_⟩)
 all_goals (refine rB_eq ?_;simp only[Bool.or_eq_true,beq_iff_eq,true_iff];omega)
theorem p09_isRole (n:Int):ACalls Tryz.prog 124 [.one (i64 n)] (rB (n==1||n==2)):=by
 refine ACalls.intro (fn:=Tryz.f124) Tryz.func124 rfl rfl (by simp[Tryz.f124]) ?_
 unfold Tryz.f124
 simp only[rB]
 refine wk T0 T0 T0 (J3 ?_ ?_ T0)
 all_goals ((repeat intro h);refine⟨?_⟩)
 all_goals (refine rB_eq ?_;simp only[Bool.or_eq_true,beq_iff_eq,true_iff];omega)
theorem p09_isState (n:Int):ACalls Tryz.prog 125 [.one (i64 n)] (rB ((n==1||n==2)||n==3)):=by
 refine ACalls.intro (fn:=Tryz.f125) Tryz.func125 rfl rfl (by simp[Tryz.f125]) ?_
 unfold Tryz.f125
 simp only[rB]
 refine wk T0 T0 T0 (J4 ?_ ?_ ?_ T0)
 all_goals ((repeat intro h);refine⟨?_⟩)
 all_goals (refine rB_eq ?_;simp only[Bool.or_eq_true,beq_iff_eq,true_iff];omega)
theorem p09_may (r:Run):ACalls Tryz.prog 98 [.agg (eRun r)] (rB (runMay r)):=by
 refine ACalls.intro (fn:=Tryz.f98) Tryz.func98 rfl rfl (by simp[Tryz.f98]) ?_
 have hp:=p09_isProto r.proto
 have hr:=p09_isRole r.role
 have hs:=p09_isState r.state
 unfold Tryz.f98
 simp only[rB,eRun]at *
 refine wk T0 (J3 hp hr hs) T0 (J4 ?_ ?_ ?_ T0)
 all_goals ((repeat intro h);refine⟨?_⟩)
 all_goals (refine rB_eq ?_;clear hp hr hs;simp only[runMay,decide_eq_true_eq,beq_iff_eq,Bool.or_eq_true,Bool.or_eq_false_iff,beq_eq_false_iff_ne,Bool.false_eq_true,true_iff,false_iff]at *;omega)
theorem p09_add (j:Nat)(l:List Run)(room:Int)(r:Run)(hl:l.length<1000000):ACalls Tryz.prog 65 [.one (.rowc j (l.map eRun)),.one (i64 room),.agg (eRun r)] (.tup [.one (addC j l room r),.one (i64 (addR l room r).2)]):=by
 refine ACalls.intro (fn:=Tryz.f65) Tryz.func65 rfl rfl (by simp[Tryz.f65]) ?_
 have hm:=p09_may r
 unfold Tryz.f65
 cases hp:runMay r
 ·rw[hp]at hm
  have e:addR l room r=(l,1):=by simp[addR,hp]
  have ec:addC j l room r=.rowc j (l.map eRun):=by simp[addC,e]
  rw[e,ec]
  simp only[rB,eRun,eRuns]at *
  refine wk T0 hm T0 T0
 ·rw[hp]at hm
  by_cases hr:room≤(l.length:Int)
  ·have e:addR l room r=(l,10):=by simp[addR,hp,hr]
   have ec:addC j l room r=.rowc j (l.map eRun):=by simp[addC,e]
   rw[e,ec]
   simp only[rB,eRun,eRuns]at *
   refine wk hr hm T0 T0
  ·have e:addR l room r=(l++[r],0):=by simp[addR,hp,hr]
   have ec:addC j l room r=eRuns (l++[r]):=by simp[addC,e]
   rw[e,ec]
   have hc:=lib_concatC_runs [(j,l),(0,[r])] (by simp) (by simp;omega)
   simp only[List.map_cons,List.map_nil,List.flatten_cons,List.flatten_nil,List.append_nil,List.map_append,eRun.eq_1 r]at hc
   simp only[rB,eRun,eRuns,List.map_append,List.map_cons,List.map_nil]at *
   refine wkx hr (J2 hm hc) T0 T0
theorem p09_set (j:Nat)(l:List Run)(i:Int)(r:Run)(hl:l.length<1000000):ACalls Tryz.prog 76 [.one (.rowc j (l.map eRun)),.one (i64 i),.agg (eRun r)] (.tup [.one (setC j l i r),.one (i64 (setR l i r).2)]):=by
 refine ACalls.intro (fn:=Tryz.f76) Tryz.func76 rfl rfl (by simp[Tryz.f76]) ?_
 have hm:=p09_may r
 have hcl:=lib_clone_runs j l (by omega)
 unfold Tryz.f76
 by_cases h0:i<0
 ·have e:setR l i r=(l,1):=by simp[setR,h0]
  have ec:setC j l i r=.rowc j (l.map eRun):=by simp[setC,e]
  rw[e,ec]
  simp only[eRun,eRuns]at *
  refine wk h0 T0 T0 T0
 ·by_cases h1:(l.length:Int)≤i
  ·have e:setR l i r=(l,1):=by simp[setR,h1]
   have ec:setC j l i r=.rowc j (l.map eRun):=by simp[setC,e]
   rw[e,ec]
   simp only[eRun,eRuns]at *
   refine wk (J2 h0 h1) T0 T0 T0
  ·cases hp:runMay r
   ·rw[hp]at hm
    have e:setR l i r=(l,1):=by simp[setR,hp]
    have ec:setC j l i r=.rowc j (l.map eRun):=by simp[setC,e]
    rw[e,ec]
    simp only[rB,eRun,eRuns]at *
    refine wk (J2 h0 h1) hm T0 T0
   ·rw[hp]at hm
    obtain⟨p,rfl⟩:∃p:Nat,i=p:=⟨i.toNat,by omega⟩
    have hpl:p<l.length:=by omega
    have e:setR l p r=(l.set p r,0):=by simp[setR,hp,h0,h1]
    have ec:setC j l p r=eRuns (l.set p r):=by simp[setC,e]
    rw[e,ec]
    simp only[rB,eRuns,List.map_set,eRun.eq_1 r]at *
    refine wk (J3 h0 h1 hpl) (J2 hm hcl) T0 (J2 ?_ T0)
    all_goals ((repeat intro h);refine⟨?_⟩)
    simp only[List.length_set,List.length_map]
theorem p09_next (l:List Run)(fr p ro st:Int):ACalls Tryz.prog 158 [.one (eRuns l),.one (i64 fr),.one (i64 p),.one (i64 ro),.one (i64 st)] (.tup [.one (i64 (nextRun l fr p ro st).1),.one (bl (nextRun l fr p ro st).2)]):=by
 refine ACalls.introF (fn:=Tryz.f158) Tryz.func158 rfl rfl (by simp[Tryz.f158]) fun hf=>?_
 have hl:=(Fine.rowM (hf _ (by simp):FineCA (.one (eRuns l)))).1
 have hfr:inK .i64 fr=true:=Fine.int (hf (.one (i64 fr)) (by simp))
 clear hf
 unfold Tryz.f158
 simp only[eRuns]
 have hfr:=in_i64 hfr
 obtain⟨F,hF⟩:∃F:Nat,(if 0 > fr then 0 else fr)=(F:Int):=⟨(if 0 > fr then 0 else fr).toNat,by split<;>omega⟩
 have hFr:∀i:Nat,i<F→¬fr≤(i:Int):=fun i hi=>by split at hF<;>omega
 have hFl:fr≤(F:Int):=by split at hF<;>omega
 have hFb:F≤9223372036854775807:=by split at hF<;>omega
 have hw:=wrapI (x:=(l.length:Int) - (F:Int)) (by omega) (by omega)
 have hz:(0:Int)=((0:Nat):Int):=rfl
 refine wk (J2 hF hw) T0 T0 (J2 ?_ T0)
 all_goals ((repeat intro h);refine⟨?_⟩)
 refine AW.loopW (fun n σ=>∃k:Nat,n=(l.length - F) - k∧k≤l.length - F∧noneTo l fr (isKind p ro st) (F+k)∧σ=⟨49,(upd (upd (upd (upd (upd (upd (upd (fun _=>.junk) 0 (.one (.c (.row (l.map eRun))))) 1 (.one (.c (i64 F)))) 2 (.one (.c (i64 p)))) 3 (.one (.c (i64 ro)))) 4 (.one (.c (i64 st)))) 19 (.one (.c (i64 ((l.length:Int) - (F:Int)))))) 20 (.one (.c (i64 k)))),(fun _=>none)⟩) (n:=l.length - F) _ ⟨0,rfl,Nat.zero_le _,fun i x h _ hf=>absurd hf (hFr i h),rfl⟩ (by exact lz T0) ?_
 clear hF
 rintro n σ ⟨k,rfl,hk,ht,rfl⟩
 by_cases hlt:F+k<l.length
 ·obtain⟨x,hx⟩:∃x,l[F+k]?=some x:=⟨_,List.getElem?_eq_getElem hlt⟩
  have hs:=wrapI (x:=(k:Int)+1) (by omega) (by omega)
  have ha:=wrapI (x:=(F:Int)+(k:Int)) (by omega) (by omega)
  have hc:(F:Int)+(k:Int)=((F+k:Nat):Int):=by omega
  have hlt2:(k:Int)<(l.length:Int) - (F:Int):=by omega
  have hf:fr≤((F+k:Nat):Int):=by omega
  rw[hc]at ha
  have hn:∀h:isKind p ro st x=false,noneTo l fr (isKind p ro st) (F+(k+1)):=fun h=>noneTo_succ ht hx (by simp[h])
  cases hp:(x.proto==p)
  ·refine wk (J8 hx hlt hlt2 hs hc ha hp eRun.eq_1) T0 T0 (J2 ?_ T0)
   all_goals ((repeat intro h);refine⟨?_⟩)
   refine⟨l.length - F - (k+1),by omega,_,⟨k+1,rfl,by omega,hn (by simp[isKind,hp]),rfl⟩,?_⟩
   exact lz T0
  ·cases hr:(x.role==ro)
   ·refine wk (J9 hx hlt hlt2 hs hc ha hp hr eRun.eq_1) T0 T0 (J2 ?_ T0)
    all_goals ((repeat intro h);refine⟨?_⟩)
    refine⟨l.length - F - (k+1),by omega,_,⟨k+1,rfl,by omega,hn (by simp[isKind,hr]),rfl⟩,?_⟩
    exact lz T0
   ·cases hst:(x.state==st)
    ·refine wk (J9 hx hlt hlt2 hs hc ha hp hr (J2 hst eRun.eq_1)) T0 T0 (J2 ?_ T0)
     all_goals ((repeat intro h);refine⟨?_⟩)
     refine⟨l.length - F - (k+1),by omega,_,⟨k+1,rfl,by omega,hn (by simp[isKind,hst]),rfl⟩,?_⟩
     exact lz T0
    ·have he:nextRun l fr p ro st=(((F+k:Nat):Int),true):=by rw[nextRun,idxFrom_some ht hx hf (by simp[isKind,hp,hr,hst])]
     rw[he]
     refine wk (J9 hx hlt hlt2 hs hc ha hp hr (J2 hst eRun.eq_1)) T0 T0 T0
 ·have he:nextRun l fr p ro st=(0,false):=by
   rw[nextRun,idxFrom_none]
   intro i x hi hx hf
   exact ht i x (by omega) hx hf
  rw[he]
  have hlt2:¬(k:Int)<(l.length:Int) - (F:Int):=by omega
  refine wk hlt2 T0 T0 T0
end
section
def newOne (l:List Int)(nx i:Nat):Person:=⟨((i+1:Nat):Int),dAt l (nx+i),0,[],[],false⟩
def newPl (l:List Int)(nx n:Nat):List Person:=person0::(List.range n).map (newOne l nx)
theorem newPl_len (l:List Int)(nx n:Nat):(newPl l nx n).length=n+1:=by simp[newPl]
theorem newPl_succ (l:List Int)(nx n:Nat):newPl l nx (n+1)=newPl l nx n++[newOne l nx n]:=by simp[newPl,List.range_succ]
theorem q10_new (l:List Int)(nx n:Nat)(hn:n≤100)(hx:nx≤100000000):ACalls Tryz.prog 46 [.one (i64 n),.agg (eDraws ⟨l,nx⟩)] (.tup [.one (ePeople (newPl l nx n)),.agg (eDraws ⟨l,((nx+n:Nat):Int)⟩)]):=by
 refine ACalls.intro (fn:=Tryz.f46) Tryz.func46 rfl rfl (by simp[Tryz.f46]) ?_
 unfold Tryz.f46
 simp only[ePeople,eDraws,eWords]
 refine wk T0 T0 T0 (J2 ?_ T0)
 all_goals ((repeat intro h);refine⟨?_⟩)
 refine AW.loopW (fun z σ=>∃k:Nat,z=n - k∧k≤n∧σ=⟨32,(upd (upd (upd (upd (upd (fun _=>.junk) 0 (.one (.c (i64 n)))) 3 (.one (.ptr 3 0))) 5 (.one (.ptr 5 0))) 6 (.one (.own 11 (k+1)))) 7 (.one (.c (i64 ((k+1:Nat):Int))))),(upd (upd (upd (fun _=>none) 3 (some (.box [.c (.row (l.map eWord)),.c (i64 ((nx+k:Nat):Int))]))) 5 (some (.box [.nil,.c (i64 0)]))) 11 (some (.rows 53 6 ((newPl l nx k).map ePerson))))⟩) (n:=n) _ ⟨0,rfl,Nat.zero_le _,rfl⟩ ?_ ?_
 ·simp only[newPl,List.range_zero,List.map_nil,List.map_cons,ePerson,person0,eWords,eRuns,Nat.add_zero,Nat.zero_add,Int.natCast_one]
  exact lz T0
 ·rintro z σ ⟨k,rfl,hk,rfl⟩
  by_cases hlt:k<n
  ·have h1:((k+1:Nat):Int)≤(n:Int):=by omega
   have hw:IntKind.i64.wrap (((k+1:Nat):Int)+1)=((k+1+1:Nat):Int):=by rw[wrapI (by omega) (by omega)];omega
   have hw2:IntKind.u32.wrap ((k+1:Nat):Int)=((k+1:Nat):Int):=IntWalk.u32_in _ (by omega)
   have tk:=q04_take ⟨l,((nx+k:Nat):Int)⟩ (nx+k) rfl (by omega)
   have hL:(newPl l nx k).length=k+1:=newPl_len l nx k
   simp only[eDraws,eWords]at tk
   generalize hG:newPl l nx k=G at *
   refine wk (J4 h1 hw hw2 hL) tk T0 (J2 ?_ T0)
   all_goals ((repeat intro h);refine⟨?_⟩)
   refine⟨n - (k+1),by omega,_,⟨k+1,rfl,by omega,rfl⟩,?_⟩
   rw[newPl_succ,hG]
   simp only[List.map_append,List.map_cons,List.map_nil,ePerson.eq_1 (newOne l nx k),newOne,eWords,eRuns,Nat.add_assoc]
   exact lz hL
  ·obtain rfl:k=n:=by omega
   have h1:¬((k+1:Nat):Int)≤(k:Int):=by omega
   have hL:(newPl l nx k).length=k+1:=newPl_len l nx k
   refine wk (J2 h1 hL) T0 T0 T0
end
section
theorem lib_clone_people (j:Nat)(l:List Person)(hl:l.length≤1000000):ACalls Tryz.prog 150 [.one (.rowc j (l.map ePerson))] (.own 53 6 (l.map ePerson)):=by
 refine ACalls.intro (fn:=Tryz.f150) Tryz.func150 rfl rfl (by simp[Tryz.f150]) ?_
 unfold Tryz.f150
 simp only[]
 cases l with
 |nil=>
  refine AW.empty 0 rfl ?_ ?_
  ·refine wk T0 T0 T0 T0
  ·refine wk T0 T0 T0 T0
 |cons x l=>
  simp only[List.length_cons]at hl
  refine wk T0 T0 T0 T0
theorem find_or {α:Type}(l:List α)(p:α→Bool):l.find? p=none∨∃i x,(l.take i).find? p=none∧l[i]?=some x∧p x=true∧l.find? p=some x:=by
 induction l with
 |nil=>exact .inl rfl
 |cons a l ih=>
  cases hp:p a with
  |true=>exact .inr ⟨0,a,rfl,rfl,hp,by simp[hp]⟩
  |false=>
   rcases ih with h|⟨i,x,h1,h2,h3,h4⟩
   ·exact .inl (by simp[hp,h])
   ·exact .inr ⟨i+1,x,by simp[hp,h1],by simpa using h2,h3,by simp[hp,h4]⟩
theorem p10_placeAt (j:Nat)(l:List Person)(n:Int)(i:Nat)(x:Person)(ht:(l.take i).find? (fun p=>p.name==n)=none)(hx:l[i]?=some x)(hp:(x.name==n)=true):ACalls Tryz.prog 81 [.one (.rowc j (l.map ePerson)),.one (u32 n)] (.tup [.one (i64 i),.one (bl true)]):=by
 refine ACalls.introF (fn:=Tryz.f81) Tryz.func81 rfl rfl (by simp[Tryz.f81]) fun hf=>?_
 have hl:=Fine.rowC (hf _ (by simp):FineCA (.one (.rowc j (l.map ePerson))))
 clear hf
 unfold Tryz.f81
 simp only[]
 have hil:i<l.length:=(List.getElem?_eq_some_iff.1 hx).1
 refine wk T0 T0 T0 (J2 ?_ T0)
 all_goals ((repeat intro h);refine⟨?_⟩)
 refine AW.loopW (fun z σ=>∃k:Nat,z=i - k∧k≤i∧σ=⟨21,(upd (upd (upd (upd (fun _=>.junk) 1 (.one (.c (u32 n)))) 8 (.one (.c (.rowc j (l.map ePerson))))) 9 (.one (.c (i64 l.length)))) 10 (.one (.c (i64 k)))),(fun _=>none)⟩) (n:=i) _ ⟨0,rfl,Nat.zero_le _,rfl⟩ (by exact lz T0) ?_
 rintro z σ ⟨k,rfl,hk,rfl⟩
 have hlt:k<l.length:=by omega
 have hs:=wrapI (x:=(k:Int)+1) (by omega) (by omega)
 by_cases hki:k<i
 ·obtain⟨y,hy⟩:∃y,l[k]?=some y:=⟨_,List.getElem?_eq_getElem hlt⟩
  have hq:(y.name==n)=false:=by
   have:=List.find?_eq_none.1 ht y (List.mem_of_getElem? (i:=k) (by rw[List.getElem?_take,if_pos hki];exact hy))
   simpa using this
  refine wk (J5 hy hlt hs hq ePerson.eq_1) T0 T0 (J2 ?_ T0)
  all_goals ((repeat intro h);refine⟨?_⟩)
  refine⟨i - (k+1),by omega,_,⟨k+1,rfl,by omega,rfl⟩,?_⟩
  exact lz T0
 ·obtain rfl:k=i:=by omega
  refine wk (J5 hx hlt hs hp ePerson.eq_1) T0 T0 T0
theorem p10_placeNo (j:Nat)(l:List Person)(n:Int)(ht:l.find? (fun p=>p.name==n)=none):ACalls Tryz.prog 81 [.one (.rowc j (l.map ePerson)),.one (u32 n)] (.tup [.one (i64 0),.one (bl false)]):=by
 refine ACalls.introF (fn:=Tryz.f81) Tryz.func81 rfl rfl (by simp[Tryz.f81]) fun hf=>?_
 have hl:=Fine.rowC (hf _ (by simp):FineCA (.one (.rowc j (l.map ePerson))))
 clear hf
 unfold Tryz.f81
 simp only[]
 refine wk T0 T0 T0 (J2 ?_ T0)
 all_goals ((repeat intro h);refine⟨?_⟩)
 refine AW.loopW (fun z σ=>∃k:Nat,z=l.length - k∧k≤l.length∧σ=⟨21,(upd (upd (upd (upd (fun _=>.junk) 1 (.one (.c (u32 n)))) 8 (.one (.c (.rowc j (l.map ePerson))))) 9 (.one (.c (i64 l.length)))) 10 (.one (.c (i64 k)))),(fun _=>none)⟩) (n:=l.length) _ ⟨0,rfl,Nat.zero_le _,rfl⟩ (by exact lz T0) ?_
 rintro z σ ⟨k,rfl,hk,rfl⟩
 by_cases hlt:k<l.length
 ·have hs:=wrapI (x:=(k:Int)+1) (by omega) (by omega)
  obtain⟨y,hy⟩:∃y,l[k]?=some y:=⟨_,List.getElem?_eq_getElem hlt⟩
  have hq:(y.name==n)=false:=by simpa using List.find?_eq_none.1 ht y (List.mem_of_getElem? hy)
  refine wk (J5 hy hlt hs hq ePerson.eq_1) T0 T0 (J2 ?_ T0)
  all_goals ((repeat intro h);refine⟨?_⟩)
  refine⟨l.length - (k+1),by omega,_,⟨k+1,rfl,by omega,rfl⟩,?_⟩
  exact lz T0
 ·obtain rfl:k=l.length:=by omega
  refine wk T0 T0 T0 T0
theorem p10_get (l:List Person)(n:Int)(hl:rightPl l=true):ACalls Tryz.prog 59 [.one (ePeople l),.one (u32 n)] (.tup [.agg (ePerson (getPl l n).1),.one (bl (getPl l n).2)]):=by
 refine ACalls.intro (fn:=Tryz.f59) Tryz.func59 rfl rfl (by simp[Tryz.f59]) ?_
 unfold Tryz.f59
 rcases find_or l (fun p=>p.name==n)with h|⟨i,x,h1,h2,h3,h4⟩
 ·have hq:=p10_placeNo 0 l n h
  have he:getPl l n=(person0,false):=by rw[getPl,h]
  rw[he]
  simp only[ePeople,ePerson,person0,eWords,eRuns,List.map_nil]
  refine wk T0 hq T0 T0
 ·have hq:=p10_placeAt 0 l n i x h1 h2 h3
  have he:getPl l n=(x,true):=by rw[getPl,h4]
  have hlt:i<l.length:=(List.getElem?_eq_some_iff.1 h2).1
  rw[he]
  simp only[ePeople]
  refine wk (J3 h2 hlt ePerson.eq_1) hq T0 T0
def setPC (j:Nat)(l:List Person)(p:Person):CV:=if(setPl l p).2=0 then ePeople (setPl l p).1 else .rowc j (l.map ePerson)
theorem names_at {l:List Person}(hl:rightPl l=true){i:Nat}{x:Person}(hx:l[i]?=some x):x.name=(i:Int)∧i<8:=by
 unfold rightPl at hl
 simp only[Bool.and_eq_true,decide_eq_true_eq]at hl
 have h1:=namesB_iff.1 hl.1 i x hx
 have h2:=(List.getElem?_eq_some_iff.1 hx).1
 rw[IntWalk.u32_in _ (by omega)]at h1
 exact⟨h1,by omega⟩
theorem set_map {l:List Person}(hl:rightPl l=true){i:Nat}{x p:Person}(hx:l[i]?=some x)(hp:x.name=p.name):l.map (fun q=>if q.name=p.name then p else q)=l.set i p:=by
 refine List.ext_getElem? fun k=>?_
 rw[List.getElem?_map,List.getElem?_set]
 have hi:=(List.getElem?_eq_some_iff.1 hx).1
 cases hk:l[k]? with
 |none=>
  have:l.length≤k:=List.getElem?_eq_none_iff.1 hk
  rw[if_neg (by omega)];rfl
 |some y=>
  have e1:=(names_at hl hx).1
  have e2:=(names_at hl hk).1
  by_cases e:i=k
  ·subst e
   rw[hx]at hk;cases hk
   simp[hp,hi]
  ·rw[if_neg e]
   have:y.name≠p.name:=by omega
   simp[this]
theorem p10_set (j:Nat)(l:List Person)(p:Person)(hl:rightPl l=true):ACalls Tryz.prog 128 [.one (.rowc j (l.map ePerson)),.agg (ePerson p)] (.tup [.one (setPC j l p),.one (i64 (setPl l p).2)]):=by
 refine ACalls.intro (fn:=Tryz.f128) Tryz.func128 rfl rfl (by simp[Tryz.f128]) ?_
 unfold Tryz.f128
 have hlen:l.length≤1000000:=by
  unfold rightPl at hl
  simp only[Bool.and_eq_true,decide_eq_true_eq]at hl
  omega
 rcases find_or l (fun q=>q.name==p.name)with h|⟨i,x,h1,h2,h3,h4⟩
 ·have hq:=p10_placeNo j l p.name h
  have he:(setPl l p).2=1:=by
   unfold setPl
   have:l.any (fun q=>q.name==p.name)=false:=by
    cases ha:l.any (fun q=>q.name==p.name)with
    |false=>rfl
    |true=>
     obtain⟨q,hq1,hq2⟩:=List.any_eq_true.1 ha
     exact absurd hq2 (List.find?_eq_none.1 h q hq1)
   simp[this]
  have ec:setPC j l p=.rowc j (l.map ePerson):=by unfold setPC;rw[he];rfl
  rw[he,ec]
  simp only[ePerson.eq_1 p]
  refine wk T0 hq T0 T0
 ·have hq:=p10_placeAt j l p.name i x h1 h2 h3
  have hcl:=lib_clone_people j l hlen
  have hpi:x.name=p.name:=by simpa using h3
  have hlt:i<l.length:=(List.getElem?_eq_some_iff.1 h2).1
  have he:setPl l p=(l.set i p,0):=by
   unfold setPl
   have:l.any (fun q=>q.name==p.name)=true:=List.any_eq_true.2 ⟨x,List.mem_of_getElem? h2,h3⟩
   rw[this,set_map hl h2 hpi];rfl
  have ec:setPC j l p=ePeople (l.set i p):=by unfold setPC;rw[he];rfl
  rw[he,ec]
  simp only[ePeople,List.map_set,ePerson.eq_1 p]
  refine wk hlt (J2 hq hcl) T0 (J2 ?_ T0)
  all_goals ((repeat intro h);refine⟨?_⟩)
  all_goals simp only[List.length_set,List.length_map]
theorem p10_isP (l:List Person)(a:Int):ACalls Tryz.prog 111 [.one (ePeople l),.one (u32 a)] (rB ((getPl l a).2&&decide (0<a))):=by
 refine ACalls.introF (fn:=Tryz.f111) Tryz.func111 rfl rfl (by simp[Tryz.f111]) fun hf=>?_
 have ha:=in_u32 (Fine.int (hf (.one (u32 a)) (by simp)))
 clear hf
 unfold Tryz.f111
 simp only[rB,ePeople]
 rcases find_or l (fun p=>p.name==a)with h|⟨i,x,h1,h2,h3,h4⟩
 ·have hq:=p10_placeNo 0 l a h
  have he:getPl l a=(person0,false):=by rw[getPl,h]
  rw[he]
  refine wk T0 hq T0 T0
 ·have hq:=p10_placeAt 0 l a i x h1 h2 h3
  have he:getPl l a=(x,true):=by rw[getPl,h4]
  rw[he]
  by_cases h0:a=0
  ·subst h0
   refine wk T0 hq T0 T0
  ·have hb:(a != 0)=true:=by simp[h0]
   have hp:decide (0<a)=true:=by simp;omega
   rw[hp]
   refine wk hb hq T0 T0
theorem p10_pair (l:List Person)(a b:Int)(hl:rightPl l=true):ACalls Tryz.prog 88 [.one (ePeople l),.one (u32 a),.one (u32 b)] (rB (pairPl l a b)):=by
 refine ACalls.intro (fn:=Tryz.f88) Tryz.func88 rfl rfl (by simp[Tryz.f88]) ?_
 have ga:=p10_isP l a
 have gb:=p10_isP l b
 have e:pairPl l a b=(a != b&&(((getPl l a).2&&decide (0<a))&&((getPl l b).2&&decide (0<b)))):=by
  unfold pairPl
  cases (getPl l a).2<;>cases (getPl l b).2<;>cases (a != b)<;>cases decide (0<a)<;>cases decide (0<b)<;>rfl
 rw[e]
 unfold Tryz.f88
 generalize ((getPl l a).2&&decide (0<a))=A at *
 generalize ((getPl l b).2&&decide (0<b))=B at *
 simp only[ePeople,rB]at *
 cases hab:(a != b)
 ·refine wk hab T0 T0 T0
 ·cases A
  ·refine wk hab (J2 ga gb) T0 T0
  ·refine wk hab (J2 ga gb) T0 T0
end
section
end
section
theorem or_bit {x:Int}(h0:0≤x)(h1:x<4294967296):IntKind.u32.wrap (((BitVec.ofInt 32 x ||| BitVec.ofInt 32 2147483648).toNat:Nat):Int)=bitI x:=by
 obtain⟨n,rfl⟩:∃n:Nat,x=n:=⟨x.toNat,by omega⟩
 have e1:BitVec.ofInt 32 (n:Int)=BitVec.ofNat 32 n:=by
  apply BitVec.eq_of_toNat_eq
  simp only[BitVec.toNat_ofInt,BitVec.toNat_ofNat]
  omega
 have e2:BitVec.ofInt 32 2147483648=BitVec.ofNat 32 2147483648:=by decide
 rw[e1,e2,BitVec.toNat_or,BitVec.toNat_ofNat,BitVec.toNat_ofNat,IntKind.wrap_u32]
 have hn:n % 2 ^ 32=n:=Nat.mod_eq_of_lt (by omega)
 have h31:(2147483648:Nat) % 2 ^ 32=2147483648:=by decide
 rw[hn,h31]
 unfold bitI
 by_cases hb:n<2147483648
 ·have:=Nat.two_pow_add_eq_or_of_lt (i:=31) (b:=n) (by simpa using hb) 1
  have e:n ||| 2147483648=n+2147483648:=by
   rw[Nat.or_comm]
   have h2:(2147483648:Nat)=2 ^ 31*1:=by decide
   rw[h2,←this];omega
  rw[e,if_pos (by omega)]
  omega
 ·obtain⟨y,rfl⟩:∃y,n=2147483648+y:=⟨n - 2147483648,by omega⟩
  have:=Nat.two_pow_add_eq_or_of_lt (i:=31) (b:=y) (by simp;omega) 1
  have h2:(2147483648:Nat)=2 ^ 31*1:=by decide
  have e:2147483648+y=2147483648 ||| y:=by rw[h2];exact this
  rw[if_neg (by omega)]
  have e3:2147483648+y ||| 2147483648=2147483648+y:=by
   rw[e,Nat.or_comm (2147483648 ||| y),←Nat.or_assoc,Nat.or_self]
  rw[e3]
  omega
theorem p01_draw (x:Int)(h:0≤x∧x<4294967296):ACalls Tryz.prog 139 [.one (u32 x)] (.one (.one (u32 (bitI x)))):=by
 refine ACalls.intro (fn:=Tryz.f139) Tryz.func139 rfl rfl (by simp[Tryz.f139]) ?_
 unfold Tryz.f139
 rw[←or_bit h.1 h.2]
 refine wk T0 T0 T0 (J2 ?_ T0)
 all_goals ((repeat intro h);refine⟨?_⟩)
 all_goals rfl
theorem p04_nth (l:List Int)(i:Nat)(hr:∀x∈l,0≤x∧x<4294967296):ACalls Tryz.prog 115 [.one (eWords l),.one (i64 i)] (.one (.one (u32 (dAt l i)))):=by
 refine ACalls.intro (fn:=Tryz.f115) Tryz.func115 rfl rfl (by simp[Tryz.f115]) ?_
 unfold Tryz.f115
 simp only[eWords]at *
 by_cases hlt:i<l.length
 ·obtain⟨x,hx⟩:∃x,l[i]?=some x:=⟨_,List.getElem?_eq_getElem hlt⟩
  have hli:(i:Int)<(l.length:Int):=by omega
  have hq:=p01_draw x (hr x (List.mem_of_getElem? hx))
  rw[show dAt l i=bitI x by simp[dAt,hx]]
  refine wk (J4 hx hlt hli eWord.eq_1) hq T0 T0
 ·have hli:¬(i:Int)<(l.length:Int):=by omega
  have hn:l[i]?=none:=List.getElem?_eq_none (by omega)
  have hq:=p01_draw (farI i) (u32_range _)
  have hq2:ACalls Tryz.prog 139 [.one (u32 (IntKind.u32.wrap (((BitVec.ofInt IntKind.u32.bits 1073741824 ||| BitVec.ofInt IntKind.u32.bits (IntKind.u32.wrap (i:Int))).toNat:Nat):Int)))] (.one (.one (u32 (bitI (farI i))))):=hq
  rw[show dAt l i=bitI (farI i) by simp[dAt,hn]]
  refine wk hli hq2 T0 T0
theorem p04_take (d:Draws)(i:Nat)(hd:d.next=i)(hi:(i:Int)<1000000000):ACalls Tryz.prog 94 [.agg (eDraws d)] (.tup [.agg (eDraws ⟨d.list,((i+1:Nat):Int)⟩),.one (u32 (dAt d.list i))]):=by
 refine ACalls.introF (fn:=Tryz.f94) Tryz.func94 rfl rfl (by simp[Tryz.f94]) fun hf=>?_
 have hr:=(fineWords ((hf _ (by simp):FineCA (.agg (eDraws d))) (eWords d.list) (by simp[eDraws]))).2
 clear hf
 have hq:=p04_nth d.list i hr
 obtain⟨l,nx⟩:=d
 simp only at hd
 subst hd
 have hw:IntKind.i64.wrap ((i:Int)+1)=((i+1:Nat):Int):=by rw[wrapI (by omega) (by omega)];omega
 unfold Tryz.f94
 simp only[eDraws,eWords]at *
 refine wk hw hq T0 T0
end
end Go.Proofs.YtaoijgapnmmpoaaGreatDoor.Abs
