/- Texts that were merged: AbsM, AbsR, AbsR2, AbsR3, AbsC, AbsE. -/
import Derived.Test.YtaoijgapnmmpoaaGreatDoorZ2
import Derived.Orders
import Derived.RangeFuncLeaves
import Derived.RangeFuncRecord
import Derived.IntWalk
import Derived.Scope
set_option linter.unusedSimpArgs false
set_option linter.unusedVariables false
set_option maxRecDepth 100000
namespace Go.Proofs.YtaoijgapnmmpoaaGreatDoor.Abs
open Go.RowKit
section
section
variable {P:Program} {c:Ctx} {w:World} {σ:St} {a:Act} {base:Nat} {S0:Sh} {w0:W0}
theorem keyIx_at {key:Value}:∀{ks:List Value} {i p:Nat},keyIx key ks i=some p→i≤p∧∃k,ks[p - i]?=some k∧eqK key k=true:=by
 intro ks
 induction ks with
 |nil=>intro i p h;simp[keyIx]at h
 |cons k l ih=>
  intro i p h
  simp only[keyIx]at h
  cases hb:eqK key k with
  |false=>
   rw[hb]at h
   obtain⟨h1,k',h2,h3⟩:=ih h
   refine⟨by omega,k',?_,h3⟩
   rw[show p - i=(p - (i+1))+1 by omega,List.getElem?_cons_succ]
   exact h2
  |true=>
   rw[hb]at h
   simp only[cond_true,Option.some.injEq]at h
   subst h
   exact⟨Nat.le_refl _,k,by simp,hb⟩
theorem key_num {P:Program}{k:TypeId}{q:IntKind}(h:keyTI P k=some (.num q)):P.underlying k=some (.int q):=by
 unfold keyTI at h
 split at h
 ·rename_i q' hq;cases h;exact hq
 ·split at h
  ·split at h<;>cases h
  ·cases h
 ·cases h
theorem key_str {P:Program}{k t:TypeId}{sh:List (Option (Option IntKind))}(h:keyTI P k=some (.str t sh)):k=t∧∃fs,P.underlying k=some (.struct fs):=by
 unfold keyTI at h
 split at h
 ·cases h
 ·rename_i fs hf
  split at h
  ·split at h
   ·cases h;exact⟨rfl,fs,hf⟩
   ·cases h
  ·cases h
 ·cases h
theorem eqVs_eq:∀{us vs:List Value},us.map shV=vs.map shV→eqVs us vs=true→us=vs
 | [],[],_,_=>rfl
 | [],v::vs,h,_=>by simp at h
 |u::us,[],h,_=>by simp at h
 |u::us,v::vs,h,he=>by
  simp only[List.map_cons,List.cons.injEq]at h
  simp only[eqVs,Bool.and_eq_true]at he
  have hu:u=v:=by
   have h1:=h.1
   have h2:=he.1
   cases u<;>cases v<;>simp_all [eqV,shV]
  rw[hu,eqVs_eq h.2 he.2]
theorem key_same {kd:KD}{k k':Value}(h1:kOK kd k=true)(h2:kOK kd k'=true)(h:eqK k k'=true):k'=k:=by
 cases kd with
 |num q=>
  cases k<;>cases k'<;>simp_all [kOK,eqK]
 |str t sh=>
  cases k with
  |agg us=>
   cases k' with
   |agg vs=>
    simp only[kOK,decide_eq_true_eq,eqK]at h1 h2 h
    have:=eqVs_eq (h1.trans h2.symm) h
    rw[show vs=us from by cases us;cases vs;simpa using this.symm]
   |_=>simp[kOK]at h2
  |_=>simp[kOK]at h1
theorem keysK_at {kd:KD}:∀{ks:List Value} {i:Nat} {k:Value},keysK kd ks=true→ks[i]?=some k→kOK kd k=true
 | [],i,k,_,h=>by simp at h
 |x::ks,i,k,h,hi=>by
  simp only[keysK,Bool.and_eq_true]at h
  cases i with
  |zero=>simp at hi;subst hi;exact h.1
  |succ i=>exact keysK_at h.2 (by simpa using hi)
theorem findNow_ok {q:IntKind}{n:Int}:∀(es:List MapEntry) (i:Nat),keysK (.num q) (es.map (·.key))=true→Instr.findNow (.int q) (.int q n) es i=some ((keyIx (.int q n) (es.map (·.key)) i).map fun p=>(p,((es.map (·.val)).getD (p - i) undef))):=by
 intro es
 induction es with
 |nil=>intro i _;rfl
 |cons e l ih=>
  intro i h
  obtain⟨key,val,born⟩:=e
  cases key with
  |int j b=>
   simp only[List.map_cons,keysK,kOK,Bool.and_eq_true,decide_eq_true_eq]at h
   obtain⟨rfl,h⟩:=h
   simp only[List.map_cons,Instr.findNow,Instr.sameNow,if_pos,keyIx,eqK]
   cases hb:(n==b)with
   |true=>simp
   |false=>
    simp only[cond_false]
    rw[ih (i+1) h]
    cases hk:keyIx (.int j n) (l.map (·.key)) (i+1)with
    |none=>rfl
    |some p=>
     have:=(keyIx_at hk).1
     simp only[Option.map_some,Option.some.injEq,Prod.mk.injEq,true_and]
     rw[show p - i=(p - (i+1))+1 by omega]
     simp
  |_=>simp[keysK,kOK]at h
theorem findAsk_ok {t:TypeId}{sh:List (Option (Option IntKind))}(hq:EqOK P t sh){us:Array Value}(hu:us.toList.map shV=sh):∀(es:List MapEntry) (i:Nat),keysK (.str t sh) (es.map (·.key))=true→(Instr.findAsking t (.agg us) es i).run P w=.ok ((keyIx (.agg us) (es.map (·.key)) i).map fun p=>(p,((es.map (·.val)).getD (p - i) undef))) w:=by
 intro es
 induction es with
 |nil=>intro i _;rfl
 |cons e l ih=>
  intro i h
  obtain⟨key,val,born⟩:=e
  cases key with
  |agg vs=>
   simp only[List.map_cons,keysK,kOK,Bool.and_eq_true,decide_eq_true_eq]at h
   obtain⟨hv,h⟩:=h
   have he:=hq.2 us.toList vs.toList w hu hv
   simp only[Array.toArray_toList]at he
   simp only[List.map_cons,Instr.findAsking,Sem.run_bind,he,Result.andThen_ok,keyIx,eqK]
   cases hb:eqVs us.toList vs.toList with
   |true=>simp
   |false=>
    simp only[cond_false]
    rw[if_neg (by decide),ih (i+1) h]
    cases hk:keyIx (.agg us) (l.map (·.key)) (i+1)with
    |none=>rfl
    |some p=>
     have:=(keyIx_at hk).1
     simp only[Option.map_some]
     rw[show p - i=(p - (i+1))+1 by omega]
     simp
  |_=>simp[keysK,kOK]at h
theorem run_checkKey {k:TypeId}{kd:KD}(hk:keyTI P k=some kd)(ha:keyAsk P kd){v:Value}(hv:kOK kd v=true)(b:Bool):(Instr.checkKey b 10000 k v).run P w=.ok () w:=by
 cases kd with
 |num q=>
  rw[show(10000:Nat)=9999+1 from rfl,Instr.checkKey]
  simp only[Sem.run_bind,run_underlying (key_num hk),Result.andThen_ok]
  rfl
 |str t sh=>
  obtain⟨rfl,_⟩:=key_str hk
  cases v with
  |agg us=>
   simp only[kOK,decide_eq_true_eq]at hv
   have:=ha.2 us.toList b w hv
   rwa [Array.toArray_toList]at this
  |_=>simp[kOK]at hv
theorem run_findKey {k:TypeId}{kd:KD}(hk:keyTI P k=some kd)(ha:keyAsk P kd){key:Value}(hv:kOK kd key=true){es:List MapEntry}(h:keysK kd (es.map (·.key))=true):(Instr.findKey k key es).run P w=.ok ((keyIx key (es.map (·.key)) 0).map fun p=>(p,((es.map (·.val)).getD p undef))) w:=by
 unfold Instr.findKey
 cases kd with
 |num q=>
  cases key with
  |int j n=>
   simp only[kOK,decide_eq_true_eq]at hv
   subst hv
   simp only[Sem.run_bind,run_underlying (key_num hk),Result.andThen_ok,findNow_ok es 0 h,Sem.run_pure,Nat.sub_zero]
  |_=>simp[kOK]at hv
 |str t sh=>
  obtain⟨rfl,fs,hf⟩:=key_str hk
  cases key with
  |agg us=>
   simp only[kOK,decide_eq_true_eq]at hv
   have h2:=findAsk_ok (w:=w) ha.1 hv es 0 h
   simp only[Nat.sub_zero]at h2
   cases es with
   |nil=>
    simp only[Sem.run_bind,run_underlying hf,Result.andThen_ok,Instr.findNow,Sem.run_pure]
    rfl
   |cons e l=>
    have hn:Instr.findNow (.struct fs) (.agg us) (e::l) 0=none:=by
     simp only[Instr.findNow,Instr.sameNow]
    simp only[Sem.run_bind,run_underlying hf,Result.andThen_ok,hn]
    exact h2
  |_=>simp[kOK]at hv
theorem run_zero {e:TypeId}{i:TypeInfo}{z:Value}(hi:P.info? e=some i)(hz:i.zero=some z):(zeroValue e).run P w=.ok z w:=by simp[zeroValue,typeInfo,hi,hz]
theorem run_lookup {T k e : TypeId} {kd : KD} {i : TypeInfo} {z : Value} (hT : P.underlying T = some (.map k e)) (hk : keyTI P k = some kd) (ha : keyAsk P kd) (hi : P.info? e = some i) (hz : i.zero = some z) {b : Nat} {es : Array MapEntry} {cl : Nat} (hb : w.heap[b]? = some (.map es cl)) {key : Value} (hv : kOK kd key = true) (ok : Bool)
    (h : keysK kd (es.toList.map (·.key)) = true) : (Instr.lookup T (.map (some b)) key ok).run P w = .ok (match keyIx key (es.toList.map (·.key)) 0 with
      | some p => (if ok then .tuple #[(es.toList.map (·.val)).getD p undef, .bool true] else (es.toList.map (·.val)).getD p undef)
      | none => (if ok then .tuple #[z, .bool false] else z)) w := by
  unfold Instr.lookup
  simp only [Sem.run_bind, run_underlying hT, Result.andThen_ok, run_getObj hb, Sem.run_pure, run_checkKey hk ha hv, run_findKey hk ha hv h]
  cases keyIx key (es.toList.map (·.key)) 0 with
  | none => simp only [Option.map_none, Sem.run_bind, run_zero hi hz, Result.andThen_ok, Sem.run_pure]
  | some p => simp only [Option.map_some, Sem.run_bind, Result.andThen_ok, Sem.run_pure]
theorem mkV_rc {S:Sh}{agg:Bool}{us:List CV}{vs:List Value}(h:F2 (R S w) us vs)(h1:agg=false→vs.length=1):RC S w (lookCA agg us) (mkV agg vs):=by
 cases agg with
 |true=>exact⟨vs,rfl,h⟩
 |false=>
  obtain⟨v,rfl⟩:∃v,vs=[v]:=List.length_eq_one_iff.1 (h1 rfl)
  match us,h with
  | [],h=>exact absurd h.1 (by simp)
  |u::us,h=>
   obtain⟨v',t,e,k1,k2⟩:=h.uncons
   cases e
   exact k1
theorem zero_rc {S:Sh}{e:TypeId}{ti:TI}(ht:TIs P e ti){i:TypeInfo}{d:TypeDesc}{z:Value}(hi:P.info? e=some i)(hd:P.underlying e=some d)(hz:i.zero=some z)(hag:isAggV z=isAggD d):RC S w (zeroCA ti.agg ti.zero) z:=by
 obtain⟨i',d',z',hi',hd',hz',hok,rfl⟩:=ht
 rw[hi]at hi';cases hi'
 rw[hd]at hd';cases hd'
 rw[hz]at hz';cases hz'
 have cl:∀v:Value,okV v=true→R S w (clo (fun _=>none) (ofCell v)) v:=fun v hv=>by
  unfold ofCell
  split
  ·exact R.nil
  ·exact R.v hv
 simp only
 rw[←hag]
 cases hz2:isAggV z with
 |true=>
  match z,hz2 with
  | .agg cs,_=>
   refine⟨cs.toList,by simp,?_⟩
   show F2 (R S w) ((cs.toList.map ofCell).map (clo fun _=>none)) cs.toList
   refine⟨by simp,fun i x y hx hy=>?_⟩
   simp only[List.getElem?_map,Option.map_eq_some_iff]at hx
   obtain⟨_,⟨v,hv,rfl⟩,rfl⟩:=hx
   rw[hv]at hy
   obtain rfl:v=y:=Option.some.inj hy
   exact cl v (List.all_eq_true.1 hok _ (List.mem_of_getElem? hv))
 |false=>
  have hcells:z.cells.toList=[z]:=by cases z<;>first|rfl|(simp[isAggV]at hz2)
  rw[hcells]
  rw[hcells]at hok
  have hokz:okV z=true:=by simpa using hok
  show RC S w (match[ofCell z]with|[.nil]=>.nil|[a]=>.one (clo (fun _=>none) a)|_=>.agg []) z
  cases hz3:ofCell z with
  |nil=>
   unfold ofCell at hz3
   split at hz3
   ·rfl
   ·simp at hz3
  |c x=>have:=cl z hokz;rw[hz3]at this;exact this
  |_=>unfold ofCell at hz3;split at hz3<;>simp at hz3
theorem lookOut_ok {c:Ctx}{m:Mem}{x:CA}{v:Value}{ok there:Bool}(h:RC c.S w x v):VV c w m (lookOut ok there x) (if ok then .tuple #[v,.bool there]else v):=by
 cases ok with
 |true=>exact⟨[v,.bool there],rfl,F2.cons h (F2.cons (R.v rfl) F2.nil)⟩
 |false=>
  cases x with
  |one y=>exact h
  |agg cs=>obtain⟨us,rfl,hus⟩:=h;exact⟨us,rfl,F2.map_left.2 hus⟩
  |nil=>exact h
theorem lookAt_ok {T:TypeId}{kd:KD}{e:TypeId}{ti:TI}(hT:mapTI P T=some (kd,e))(ht:tinfo P e=some ti){key:Value}{ok agg:Bool}{ks:List Value}{xs:List (List CV)}{b:Nat}{vss:List (List Value)}{m:Mem}(hm:MapIs w b agg ks vss)(hF:F2 (F2 (R c.S w)) xs vss)(hok:(lookAt P kd key ok ti agg ks xs).1):∃v,(Instr.lookup T (.map (some b)) key ok).run P w=.ok v w∧VV c w m (lookAt P kd key ok ti agg ks xs).2 v:=by
 obtain⟨k,hTu,hk,i,d,z,hi,hd,hz,hag⟩:=map_shape hT
 obtain⟨⟨es,cl,h1,h2,h3,_⟩,h4⟩:=hm
 obtain⟨e1,e2,rfl,e3⟩:=hok
 subst h2
 refine⟨_,run_lookup hTu hk e2 hi hz h1 e1 ok e3,?_⟩
 unfold lookAt
 simp only
 cases hx:keyIx key (es.toList.map (·.key)) 0 with
 |none=>exact lookOut_ok (zero_rc (tinfo_is ht) hi hd hz hag)
 |some p=>
  refine lookOut_ok ?_
  obtain⟨_,_,hp,_⟩:=keyIx_at hx
  have hpl:p<es.toList.length:=by have:=(List.getElem?_eq_some_iff.1 hp).1;simpa using this
  have hvl:vss.length=es.toList.length:=by have:=congrArg List.length h3;simpa using this.symm
  have hvp:vss[p]?=some vss[p]:=List.getElem?_eq_getElem (by omega)
  obtain⟨us,hu1,hu2⟩:=hF.get' hvp
  rw[h3]
  simp only[List.getD_eq_getElem?_getD,List.getElem?_map,hvp,hu1,Option.map_some,Option.getD_some]
  exact mkV_rc hu2 fun ha=>h4 ha _ (List.mem_of_getElem? hvp)
theorem cellsV_ok {c:Ctx}{m:Mem}:∀{cs:List A} {us vs:List Value},cellsV cs=some us→F2 (VA c w m) cs vs→vs=us
 | [],us,vs,h,hF=>by
  cases h
  exact List.eq_nil_of_length_eq_zero hF.1.symm
 |x::cs,us,vs,h,hF=>by
  cases x with
  |c y=>
   cases y with
   |v y=>
    simp only[cellsV,Option.map_eq_some_iff]at h
    obtain⟨us',h1,rfl⟩:=h
    cases vs with
    |nil=>exact absurd hF.1 (by simp)
    |cons v vs=>
     obtain⟨v',t,e,k1,k2⟩:=hF.uncons
     cases e
     have k1:R c.S w (.v y) v:=k1
     rw[cellsV_ok h1 k2,R.val k1]
   |_=>simp[cellsV]at h
  |_=>simp[cellsV]at h
theorem keyV_ok {k:Operand}{key:Value}(hk:keyV (ev σ k)=some key){c:Ctx}(h1:Tm c w σ a):a.eval k=key:=by
 have hv:=ev_ok h1 k
 generalize ev σ k=x at hk hv
 unfold keyV at hk
 split at hk
 ·cases hk;exact R.val hv
 ·rename_i cs
  simp only[Option.map_eq_some_iff]at hk
  obtain⟨us,h2,rfl⟩:=hk
  obtain⟨vs,h3,h4⟩:=hv
  rw[h3,cellsV_ok h2 h4]
 ·cases hk
theorem lookup_ok {o:Oper}{T:TypeId}{x k:Operand}{ok:Bool}(ho:o.op=.lookup T x k ok):OpOK P o σ (rLookup P T (ev σ x) (ev σ k) ok):=by
 unfold rLookup
 split
 ·rename_i kd e hT
  split
  ·rename_i ti ht
   split
   ·rename_i key hk
    have hint:∀{c:Ctx} {a:Act} {w:World},Tm c w σ a→a.eval k=key:=fun h1=>keyV_ok hk h1
    split
    ·rename_i id hx
     refine OpOK.same rfl fun base S0 w0 c a w h1 h2 h3=>?_
     have hv:=ev_ok h1 x
     rw[hx]at hv
     obtain⟨_,hv⟩:=hv
     simp only[Req.eff,Req.read,only_same]at h3 ⊢
     cases hm:σ.m id with
     |none=>simp only[hm]at h3
     |some blk=>
      cases blk with
      |mapb agg ks xs=>
       simp only[hm]at h3 ⊢
       obtain⟨_,_,vss,q1,q2⟩:=h2.blk id _ hm
       obtain⟨v,r1,r2⟩:=lookAt_ok (m:=σ.m) hT ht q1 q2 h3
       exact⟨v,by simp[execOp,ho,hv,hint h1,r1],r2⟩
      |fmap agg ks xs=>
       simp only[hm]at h3 ⊢
       obtain⟨_,vss,q1,q2⟩:=h2.blk id _ hm
       obtain⟨v,r1,r2⟩:=lookAt_ok (m:=σ.m) hT ht q1 q2 h3
       exact⟨v,by simp[execOp,ho,hv,hint h1,r1],r2⟩
      |_=>simp only[hm]at h3
    ·rename_i agg ks xs hx
     refine OpOK.val fun base S0 w0 c a w h1 h2 h3=>?_
     have hv:=ev_ok h1 x
     rw[hx]at hv
     have hv:R c.S w (.mapc agg ks xs) (a.eval x):=hv
     generalize hq:a.eval x=p at hv
     cases hv with
     |map k1 k2 k3 k4 k5=>
      obtain⟨v,r1,r2⟩:=lookAt_ok (c:=c) (m:=σ.m) hT ht k2 ⟨k3,fun i us vs hu hv=>⟨k4 i us vs hu hv,k5 i us vs hu hv⟩⟩ h3
      exact⟨v,by simp[execOp,ho,hq,hint h1,r1],r2⟩
    ·exact OpOK.bad
   ·exact OpOK.bad
  ·exact OpOK.bad
 ·exact OpOK.bad
theorem makeMap_ok {o:Oper}{T:TypeId}(ho:o.op=.makeMap T none):OpOK P o σ (rMakeMap P o.dst T):=by
 unfold rMakeMap
 split
 ·rename_i q e d hT hd
  split
  ·rename_i ti ht
   intro ro base S0 w0 c a w K Q h1 h2 h3 h4
   cases hm:σ.m d with
   |some b=>simp only[Req.eff,only_same,hm]at h3
   |none=>
    simp only[Req.eff,Req.mem,only_same,hm,cond_true]at h3 h4
    obtain⟨g,r1,r2⟩:=h2.mkMap hm ti.agg
    have hr:(execOp a.eval o).run P w=.ok (.value (.map (some w.heap.size))) (w.alloc (.map #[] 0)):=by
     simp only[execOp,ho,Option.map_none,Instr.makeMap]
     rfl
    refine wpo_run (hr) rfl ?_
    rw[mrg_one (b:=some (.mapb ti.agg [] [])) rfl]at h4
    exact h4 _ _ _ g r1 r2
  ·exact OpOK.bad
 ·exact OpOK.bad
theorem same_all {n:Nat}:∀us:List Value,eqVs us us=true→(us.zip us).all (fun p=>Instr.sameBits (n+1) p.1 p.2)=true
 | [],_=>rfl
 |u::us,h=>by
  simp only[eqVs,Bool.and_eq_true]at h
  have h1:Instr.sameBits (n+1) u u=true:=by
   have:=h.1
   cases u<;>simp[eqV]at this<;>simp[Instr.sameBits]
  simp only[List.zip_cons_cons,List.all_cons,h1,Bool.true_and]
  exact same_all us h.2
theorem same_key {v:Value}(h:eqK v v=true):Instr.sameBits 10000 v v=true:=by
 cases v with
 |int q n=>rw[show(10000:Nat)=9999+1 from rfl];simp[Instr.sameBits]
 |agg us=>
  rw[show(10000:Nat)=9999+1 from rfl]
  simp only[eqK]at h
  have:=same_all (n:=9998) us.toList h
  simp only[Instr.sameBits,BEq.rfl,Bool.true_and]
  exact this
 |_=>simp[eqK]at h
theorem keyThatStays_run {key:Value}(h:eqK key key=true):(Instr.keyThatStays key key).run P w=.ok key w:=by
 unfold Instr.keyThatStays
 rw[same_key h]
 rfl
theorem run_setObj {r:Nat}{es:Array MapEntry}{cl:Nat}(h:w.heap[r]?=some (.map es cl))(o:Obj):(setObj r o).run P w=.ok () {w with heap:=w.heap.setIfInBounds r o}:=by simp[setObj,Sem.run,h]
theorem nil_ok {o:Oper}{x:Operand}(ho:o.op=.nilCheck x):OpOK P o σ (rNil (ev σ x)):=by
 have hp:∀{c:Ctx} {a:Act} {w:World} (p:Addr),a.eval x=.pointer (some p)→(execOp a.eval o).run P w=.ok (.value (a.eval x)) w:=fun p h=>by simp[execOp,ho,h]
 unfold rNil
 split
 ·rename_i id off hx
  refine OpOK.val fun base S0 w0 c a w h1 h2 h3=>?_
  have hv:=ev_ok h1 x
  rw[hx]at hv
  exact⟨_,hp (c:=c) _ hv.2,hv⟩
 ·rename_i k cs off hx
  refine OpOK.val fun base S0 w0 c a w h1 h2 h3=>?_
  have hv:=ev_ok h1 x
  rw[hx]at hv
  have hv2:=hv
  obtain⟨b,o',vs,he,_⟩:=hv2
  exact⟨_,hp (c:=c) _ he,hv⟩
 ·rename_i id n i off hx
  refine OpOK.same rfl fun base S0 w0 c a w h1 h2 h3=>?_
  have hv:=ev_ok h1 x
  rw[hx]at hv
  simp only[Req.eff,Req.read,rowsOf_only]at h3 ⊢
  cases hm:rowsOf σ.m id with
  |none=>rw[hm]at h3;exact h3.elim
  |some t=>
   obtain⟨e,sz,xs⟩:=t
   simp only[hm]at h3 ⊢
   obtain⟨p0,_⟩:=rows_blk h2 hm
   have hv2:=hv
   obtain⟨_,L,hL,hn,hq⟩:=hv2
   have hL':xs.length=L:=by rw[p0]at hL;exact Option.some.inj hL
   obtain⟨g,cap,q1,q2⟩:=hq (by omega) e sz xs hm
   exact⟨_,hp (c:=c) _ q2,hv⟩
 ·rename_i k cs off hx
  refine OpOK.val fun base S0 w0 c a w h1 h2 h3=>?_
  have hv:=ev_ok h1 x
  rw[hx]at hv
  have he:∃p,a.eval x=.pointer (some p):=by
   have hv:R c.S w (.ptrc k cs off) (a.eval x):=hv
   generalize a.eval x=q at hv
   cases hv with
   |ptr k1 k2 k3 k4=>exact⟨_,rfl⟩
  obtain⟨p,he⟩:=he
  exact⟨_,hp (c:=c) p he,hv⟩
 ·rename_i f ag first caps hx
  refine OpOK.val fun base S0 w0 c a w h1 h2 h3=>?_
  have hv:=ev_ok h1 x
  rw[hx]at hv
  have he:∃ps qs,a.eval x=.func (.func f) ps qs:=by
   have hv:R c.S w (.fn f ag first caps) (a.eval x):=hv
   generalize a.eval x=q at hv
   cases hv with
   |fn k1 k2 k3 k4=>exact⟨_,_,rfl⟩
   |meth k1 k2 k3 k4=>exact⟨_,_,rfl⟩
  obtain⟨ps,qs,he⟩:=he
  exact⟨a.eval x,by simp[execOp,ho,he],hv⟩
 ·rename_i x0 hx
  split
  ·rename_i p hraw
   obtain⟨b,off⟩:=p
   refine OpOK.val fun base S0 w0 c a w h1 h2 h3=>?_
   have hv:=ev_ok h1 x
   rw[hx]at hv
   have he:a.eval x=.pointer (some ⟨b,off,none⟩):=by rw[R.val hv];exact rawP_eq hraw
   exact⟨_,hp (c:=c) _ he,hv⟩
  ·exact OpOK.bad
 ·exact OpOK.bad
def muK (es:Array MapEntry)(cl b:Nat)(key val:Value):Option (Nat×Value)→Sem Unit
 |some (i,_)=>do
  let key ←Instr.keyThatStays (((es[i]?).map (·.key)).getD key) key
  setObj b (.map (es.modify i fun e=>{e with key,val:=val}) cl)
 |none=>setObj b (.map (es.push {key,val:=val,born:=cl}) (cl+1))
theorem map_set_key {es:Array MapEntry}{p:Nat}{k v:Value}(hk:(es.toList.map (·.key))[p]?=some k):((es.modify p fun e=>{e with key:=k,val:=v}).toList.map (·.key))=es.toList.map (·.key):=by
 apply List.ext_getElem?
 intro i
 simp only[List.getElem?_map,Array.getElem?_toList,Array.getElem?_modify]at hk ⊢
 by_cases h:p=i
 ·subst h
  rw[if_pos rfl]
  cases he:es[p]? with
  |none=>rfl
  |some e=>rw[he]at hk;simpa using hk.symm
 ·rw[if_neg h]
theorem map_set_val {es:Array MapEntry}{p:Nat}{k v:Value}:((es.modify p fun e=>{e with key:=k,val:=v}).toList.map (·.val))=(es.toList.map (·.val)).set p v:=by
 apply List.ext_getElem?
 intro i
 simp only[List.getElem?_map,Array.getElem?_toList,Array.getElem?_modify,List.getElem?_set,List.length_map,Array.length_toList]
 by_cases h:p=i
 ·subst h
  rw[if_pos rfl,if_pos rfl]
  by_cases hp:p<es.size
  ·rw[if_pos hp,Array.getElem?_eq_getElem hp];rfl
  ·rw[if_neg hp,Array.getElem?_eq_none (by omega)];rfl
 ·rw[if_neg h,if_neg h]
theorem born_push {es:Array MapEntry}{cl:Nat}{k v:Value}(h1:cl=es.size)(h2:∀(i:Nat) (e:MapEntry),es[i]?=some e→e.born=i):cl+1=(es.push {key:=k,val:=v,born:=cl}).size∧∀(i:Nat) (e:MapEntry),(es.push {key:=k,val:=v,born:=cl})[i]?=some e→e.born=i:=by
 refine⟨by simp[h1],fun i e h=>?_⟩
 rw[Array.getElem?_push]at h
 split at h
 ·rename_i e1;cases h;rw[e1];exact h1
 ·exact h2 i e h
theorem born_mod {es:Array MapEntry}{p:Nat}{f:MapEntry→MapEntry}(hf:∀e,(f e).born=e.born)(h2:∀(i:Nat) (e:MapEntry),es[i]?=some e→e.born=i):∀(i:Nat) (e:MapEntry),(es.modify p f)[i]?=some e→e.born=i:=fun i e h=>by
 rw[Array.getElem?_modify]at h
 split at h
 ·cases he:es[i]? with
  |none=>rw[he]at h;cases h
  |some x=>rw[he]at h;cases h;rw[hf];exact h2 i x he
 ·exact h2 i e h
theorem find_born {es:Array MapEntry}(h:∀(i:Nat) (e:MapEntry),es[i]?=some e→e.born=i){p:Nat}(hp:p<es.size):es.findIdx? (fun e=>(e.born:Int)==(p:Int))=some p:=by
 rw[Array.findIdx?_eq_some_iff_getElem]
 refine⟨hp,?_,fun j hj=>?_⟩
 ·have:=h p es[p] (Array.getElem?_eq_getElem hp)
  simp[this]
 ·have:=h j es[j] (Array.getElem?_eq_getElem (by omega))
  simp[this];omega
theorem insert_ok {o:Oper}{T:TypeId}{x k v:Operand}(ho:o.op=.insert T x k v∨o.op=.mapUpdate T x k v):OpOK P o σ (rInsert P T (ev σ x) (ev σ k) (ev σ v)):=by
 unfold rInsert
 split
 ·rename_i kd e hT
  obtain⟨kt,hT',hk',_⟩:=map_shape hT
  split
  ·rename_i id key hx hk
   intro ro base S0 w0 c a w K Q h1 h2 h3 h4
   simp only[Req.eff,Req.mem,cond_true]at h3 h4
   generalize hids:ownIds (ev σ v).cells=ids at h3 h4
   have hin:only (id::ids) σ.m id=σ.m id:=only_in (List.mem_cons_self ..)
   have hcl:=cloL_only (ids:=id::ids) (m:=σ.m) (l:=(ev σ v).cells) (fun j hj=>by rw[hids]at hj;exact List.mem_cons_of_mem _ hj)
   have hcl2:=cloL_only (ids:=ids) (m:=σ.m) (l:=(ev σ v).cells) (fun j hj=>by rw[hids]at hj;exact hj)
   rw[hin]at h3 h4
   split at h3
   ·rename_i agg ks xs hm
    simp only[hm]at h4
    obtain⟨e0,ea,e2,e3,e4,e6,e7⟩:=h3
    rw[hcl.1,←hcl2.1]at h4
    rw[hcl.2,←hcl2.2]at e6
    have hp:a.eval x=.map (some (c.φ id)):=by
     have hv:=ev_ok h1 x
     rw[hx]at hv
     exact hv.2
    have hkv:a.eval k=key:=keyV_ok hk h1
    obtain⟨c1,g1,r1⟩:=freezes ids h2
    have hm1:mrg ids (frz σ.m) σ.m id=some (.mapb agg ks xs):=by unfold mrg;rw[e7];exact hm
    have hφ:c1.φ id=c.φ id:=(g1.box id (.inr (.inr (.inl ⟨_,_,_,hm⟩)))).1
    obtain⟨ts,t1,t2⟩:=cellsOf_ok ((ev_ok h1 v).goes g1) e3
    have t3:=cloCells_ok r1 t2 e6 (fun j hj=>by rw[hids]at hj;exact hj)
    have hval:a.eval v=mkV agg ts∧(agg=false→ts.length=1):=by
     have hv:=ev_ok h1 v
     cases hvx:ev σ v with
     |one y=>
      rw[hvx]at hv e4
      cases e4
      have ho1:=VA.one hv
      have hc:(a.eval v).cells=#[a.eval v]:=by
       generalize a.eval v=z at ho1
       cases z<;>first|rfl|(simp[Value.oneCell']at ho1)
      rw[hc]at t1
      have:ts=[a.eval v]:=by simpa using(congrArg Array.toList t1).symm
      subst this
      exact⟨rfl,fun _=>rfl⟩
     |agg cs=>
      rw[hvx]at hv e4
      cases e4
      obtain⟨us,hu,_⟩:=hv
      rw[hu]at t1 ⊢
      have:us=ts:=by simpa[Value.cells]using congrArg Array.toList t1
      subst this
      exact⟨rfl,fun h=>by simp at h⟩
     |tup rs=>rw[hvx]at e4;simp[avAgg]at e4
     |tupo rs=>rw[hvx]at e4;simp[avAgg]at e4
     |junk=>rw[hvx]at e4;simp[avAgg]at e4
    obtain⟨p1,p2,vss,⟨⟨es,cl,p3,p4,p5,pb1,pb2⟩,p6⟩,p7⟩:=r1.blk id _ hm1
    subst p4
    rw[hφ]at p3
    have hrun:∃(es':Array MapEntry) (cl':Nat) (vss':List (List Value)),(Instr.mapUpdate T (.map (some (c.φ id))) key (a.eval v)).run P w=.ok () {w with heap:=w.heap.setIfInBounds (c.φ id) (.map es' cl')}∧es'.toList.map (·.key)=putKs key (es.toList.map (·.key))∧es'.toList.map (·.val)=vss'.map (mkV agg)∧(cl'=es'.size∧∀(i:Nat) (e:MapEntry),es'[i]?=some e→e.born=i)∧(agg=false→∀vs∈vss',vs.length=1)∧F2 (F2 (R c1.S w)) (putXs key (es.toList.map (·.key)) xs ((ev σ v).cells.map (clo (only ids σ.m)))) vss':=by
     have hmu:∀r:Option (Nat×Value),(keyIx key (es.toList.map (·.key)) 0).map (fun p=>(p,((es.toList.map (·.val)).getD p undef)))=r→(Instr.mapUpdate T (.map (some (c.φ id))) key (a.eval v)).run P w=(muK es cl (c.φ id) key (a.eval v) r).run P w:=fun r hr=>by
      unfold Instr.mapUpdate
      simp only[Sem.run_bind,run_underlying hT',Result.andThen_ok,run_getObj p3,run_checkKey hk' ea e0,run_findKey hk' ea e0 e2,hr]
      cases r with
      |none=>rfl
      |some p=>rfl
     unfold putKs putXs
     cases hix:keyIx key (es.toList.map (·.key)) 0 with
     |none=>
      refine⟨es.push {key:=key,val:=a.eval v,born:=cl},cl+1,vss++[ts],?_,by simp,by simp[p5,hval.1],born_push pb1 pb2,fun ha vs hvs=>?_,p7.append (F2.cons t3 F2.nil)⟩
      ·rw[hmu none (by rw[hix];rfl)]
       exact run_setObj p3 _
      ·rcases List.mem_append.1 hvs with h|h
       ·exact p6 ha vs h
       ·have:vs=ts:=by simpa using h
        rw[this];exact hval.2 ha
     |some p=>
      obtain⟨_,k',hj,hke⟩:=keyIx_at hix
      rw[Nat.sub_zero]at hj
      obtain rfl:k'=key:=key_same e0 (keysK_at e2 hj) hke
      have hep:(es[p]?).map (·.key)=some k':=by simpa using hj
      refine⟨es.modify p fun e=>{e with key:=k',val:=a.eval v},cl,vss.set p ts,?_,map_set_key hj,?_,⟨by simpa using pb1,born_mod (fun _=>rfl) pb2⟩,fun ha vs hvs=>?_,p7.set t3 p⟩
      ·rw[hmu (some (p,((es.toList.map (·.val)).getD p undef))) (by rw[hix];rfl)]
       simp only[muK,hep,Option.getD_some,Sem.run_bind,keyThatStays_run hke,Result.andThen_ok]
       exact run_setObj p3 _
      ·rw[map_set_val,p5,hval.1,List.map_set]
      ·rcases List.mem_or_eq_of_mem_set hvs with h|h
       ·exact p6 ha vs h
       ·rw[h];exact hval.2 ha
    obtain⟨es',cl',vss',hr1,hr2,hr3,hrb,hr4,hr5⟩:=hrun
    obtain⟨g,r2⟩:=r1.setMap (es:=es') (cl:=cl') hm1 hr2 hr3 hrb hr4 hr5
    rw[hφ]at g r2
    have hr:(execOp a.eval o).run P w=.ok .skip {w with heap:=w.heap.setIfInBounds (c.φ id) (.map es' cl')}:=by
     rcases ho with ho|ho<;>simp[execOp,ho,hp,hkv,hr1]
    refine wpo_run (hr) rfl ?_
    rw[mrg_cons]at h4
    exact h4 _ _ undef (g1.trans g) r2 trivial
   ·exact h3.elim
  ·exact OpOK.bad
 ·exact OpOK.bad
theorem zero_cells {S:Sh}{e:TypeId}{ti:TI}(ht:TIs P e ti){i:TypeInfo}{d:TypeDesc}{z:Value}(hi:P.info? e=some i)(hd:P.underlying e=some d)(hz:i.zero=some z)(hag:isAggV z=isAggD d):∃ts:List Value,z=mkV ti.agg ts∧(ti.agg=false→ts.length=1)∧F2 (R S w) (ti.zero.map (clo fun _=>none)) ts:=by
 obtain⟨i',d',z',hi',hd',hz',hok,rfl⟩:=ht
 rw[hi]at hi';cases hi'
 rw[hd]at hd';cases hd'
 rw[hz]at hz';cases hz'
 have cl:∀v:Value,okV v=true→R S w (clo (fun _=>none) (ofCell v)) v:=fun v hv=>by
  unfold ofCell
  split
  ·exact R.nil
  ·exact R.v hv
 refine⟨z.cells.toList,?_,fun h=>?_,?_⟩
 ·show z=mkV (isAggD d) z.cells.toList
  rw[←hag]
  cases z<;>simp[isAggV,mkV,Value.cells]
 ·have h:isAggV z=false:=hag.trans h
  cases z<;>first|rfl|(simp[isAggV]at h)
 ·show F2 (R S w) ((z.cells.toList.map ofCell).map (clo fun _=>none)) z.cells.toList
  refine⟨by simp,fun i x y hx hy=>?_⟩
  simp only[List.getElem?_map,Option.map_eq_some_iff]at hx
  obtain⟨_,⟨v,hv,rfl⟩,rfl⟩:=hx
  rw[hv]at hy
  obtain rfl:v=y:=Option.some.inj hy
  exact cl v (List.all_eq_true.1 hok _ (List.mem_of_getElem? hv))
theorem mod_keys {es:Array MapEntry}{p:Nat}{k:Value}(hk:(es.toList.map (·.key))[p]?=some k):((es.modify p fun e=>{e with key:=k}).toList.map (·.key))=es.toList.map (·.key):=by
 apply List.ext_getElem?
 intro i
 simp only[List.getElem?_map,Array.getElem?_toList,Array.getElem?_modify]at hk ⊢
 by_cases h:p=i
 ·subst h
  rw[if_pos rfl]
  cases he:es[p]? with
  |none=>rfl
  |some e=>rw[he]at hk;simpa using hk.symm
 ·rw[if_neg h]
theorem mod_vals {es:Array MapEntry}{p:Nat}{k:Value}:((es.modify p fun e=>{e with key:=k}).toList.map (·.val))=es.toList.map (·.val):=by
 apply List.ext_getElem?
 intro i
 simp only[List.getElem?_map,Array.getElem?_toList,Array.getElem?_modify]
 by_cases h:p=i
 ·subst h
  rw[if_pos rfl]
  cases es[p]?<;>rfl
 ·rw[if_neg h]
theorem set_keys {es:Array MapEntry}{p:Nat}{v:Value}:((es.modify p fun e=>{e with val:=v}).toList.map (·.key))=es.toList.map (·.key):=by
 apply List.ext_getElem?
 intro i
 simp only[List.getElem?_map,Array.getElem?_toList,Array.getElem?_modify]
 by_cases h:p=i
 ·subst h
  rw[if_pos rfl]
  cases es[p]?<;>rfl
 ·rw[if_neg h]
theorem set_vals {es:Array MapEntry}{p:Nat}{v:Value}:((es.modify p fun e=>{e with val:=v}).toList.map (·.val))=(es.toList.map (·.val)).set p v:=by
 apply List.ext_getElem?
 intro i
 simp only[List.getElem?_map,Array.getElem?_toList,Array.getElem?_modify,List.getElem?_set,List.length_map,Array.length_toList]
 by_cases h:p=i
 ·subst h
  rw[if_pos rfl,if_pos rfl]
  by_cases hp:p<es.size
  ·rw[if_pos hp,Array.getElem?_eq_getElem hp];rfl
  ·rw[if_neg hp,Array.getElem?_eq_none (by omega)];rfl
 ·rw[if_neg h,if_neg h]
def meK (es:Array MapEntry)(cl b:Nat)(key:Value)(elem:TypeId):Option (Nat×Value)→Sem Value
 |some (i,v)=>do
  let key ←Instr.keyThatStays (((es[i]?).map (·.key)).getD key) key
  setObj b (.map (es.modify i fun e=>{e with key}) cl)
  pure (.tuple #[v,goInt (((es[i]?).map (·.born)).getD 0)])
 |none=>do
  let zero ←zeroValue elem
  setObj b (.map (es.push {key,val:=zero,born:=cl}) (cl+1))
  pure (.tuple #[zero,goInt cl])
theorem mapEntry_ok {o:Oper}{T:TypeId}{x k:Operand}(ho:o.op=.mapEntry T x k):OpOK P o σ (rEntry P T (ev σ x) (ev σ k)):=by
 unfold rEntry
 split
 ·rename_i kd e hT
  obtain⟨kt,hT',hk',i,d,z,hi,hd,hz,hag⟩:=map_shape hT
  split
  ·rename_i ti ht
   unfold rEntryAt
   split
   ·rename_i id key hx hk
    intro ro base S0 w0 c a w K Q h1 h2 h3 h4
    simp only[Req.eff,Req.mem,cond_true,only_same]at h3 h4
    split at h3
    ·rename_i agg ks xs hm
     simp only[hm]at h4
     obtain⟨e0,ea,rfl,e2,e5,_,_⟩:=h3
     have hp:a.eval x=.map (some (c.φ id)):=by
      have hv:=ev_ok h1 x
      rw[hx]at hv
      exact hv.2
     have hkv:a.eval k=key:=keyV_ok hk h1
     obtain⟨p1,p2,vss,⟨⟨es,cl,p3,p4,p5,pb1,pb2⟩,p6⟩,p7⟩:=h2.blk id _ hm
     subst p4
     have hme:∀r:Option (Nat×Value),(keyIx key (es.toList.map (·.key)) 0).map (fun p=>(p,((es.toList.map (·.val)).getD p undef)))=r→(Instr.mapEntry T (.map (some (c.φ id))) key).run P w=(meK es cl (c.φ id) key e r).run P w:=fun r hr=>by
      unfold Instr.mapEntry
      simp only[Sem.run_bind,run_underlying hT',Result.andThen_ok,run_getObj p3,run_checkKey hk' ea e0,run_findKey hk' ea e0 e2,hr]
      cases r with
      |none=>rfl
      |some p=>rfl
     have hel:(es.toList.map (·.key)).length=es.size:=by simp
     unfold putKs at h4
     cases hix:keyIx key (es.toList.map (·.key)) 0 with
     |none=>
      simp only[hix]at h4
      obtain⟨ts,z1,z2,z3⟩:=zero_cells (w:=w) (S:=c.S) (tinfo_is ht) hi hd hz hag
      have hrun:(Instr.mapEntry T (.map (some (c.φ id))) key).run P w=.ok (.tuple #[z,goInt cl]) {w with heap:=w.heap.setIfInBounds (c.φ id) (.map (es.push {key:=key,val:=z,born:=cl}) (cl+1))}:=by
       rw[hme none (by rw[hix];rfl)]
       simp only[meK,Sem.run_bind,run_zero hi hz,Result.andThen_ok,run_setObj p3,Sem.run_pure]
      obtain⟨g,r2⟩:=h2.setMap (es:=es.push {key:=key,val:=z,born:=cl}) (cl:=cl+1) hm (ks':=es.toList.map (·.key)++[key]) (xs':=xs++[ti.zero.map (clo fun _=>none)]) (vss:=vss++[ts]) (by simp) (by simp[p5,z1]) (born_push pb1 pb2)
       (fun ha vs hvs=>by
        rcases List.mem_append.1 hvs with h|h
        ·exact p6 ha vs h
        ·rw[List.mem_singleton.1 h];exact z2 ha) (p7.append (F2.cons z3 F2.nil))
      have hr:(execOp a.eval o).run P w=.ok (.value (.tuple #[z,goInt cl])) {w with heap:=w.heap.setIfInBounds (c.φ id) (.map (es.push {key:=key,val:=z,born:=cl}) (cl+1))}:=by
       simp[execOp,ho,hp,hkv,hrun]
      refine wpo_run (hr) rfl ?_
      rw[mrg_one (b:=some (.mapb ti.agg (es.toList.map (·.key)++[key]) (xs++[ti.zero.map (clo fun _=>none)]))) (by simp)]at h4
      refine h4 _ _ _ g r2 ?_
      refine⟨[z,goInt cl],rfl,F2.cons (zero_rc (tinfo_is ht) hi hd hz hag) (F2.cons ?_ F2.nil)⟩
      rw[pb1,←hel]
      exact R.v e5
     |some p=>
      simp only[hix]at h4
      obtain⟨_,k',hj,hke⟩:=keyIx_at hix
      rw[Nat.sub_zero]at hj
      obtain rfl:k'=key:=key_same e0 (keysK_at e2 hj) hke
      have hpl:p<es.size:=by have:=(List.getElem?_eq_some_iff.1 hj).1;simpa using this
      have hep:(es[p]?).map (·.key)=some k':=by simpa using hj
      have heb:(es[p]?).map (fun x=>(x.born:Int))=some (p:Int):=by
       rw[Array.getElem?_eq_getElem hpl]
       exact congrArg some (congrArg Int.ofNat (pb2 p es[p] (Array.getElem?_eq_getElem hpl)))
      have hvl:vss.length=es.size:=by have:=congrArg List.length p5;simpa using this.symm
      have hvp:vss[p]?=some vss[p]:=List.getElem?_eq_getElem (by omega)
      obtain⟨us,hu1,hu2⟩:=p7.get' hvp
      have hval:(es.toList.map (·.val)).getD p undef=mkV ti.agg vss[p]:=by
       rw[p5]
       simp only[List.getD_eq_getElem?_getD,List.getElem?_map,hvp,Option.map_some,Option.getD_some]
      have hrun:(Instr.mapEntry T (.map (some (c.φ id))) k').run P w=.ok (.tuple #[mkV ti.agg vss[p],goInt p]) {w with heap:=w.heap.setIfInBounds (c.φ id) (.map (es.modify p fun e=>{e with key:=k' }) cl)}:=by
       rw[hme (some (p,mkV ti.agg vss[p])) (by rw[hix,←hval];rfl)]
       simp only[meK,hep,heb,Option.getD_some,Sem.run_bind,keyThatStays_run hke,Result.andThen_ok,run_setObj p3,Sem.run_pure]
      obtain⟨g,r2⟩:=h2.setMap (es:=es.modify p fun e=>{e with key:=k' }) (cl:=cl) hm (ks':=es.toList.map (·.key)) (xs':=xs) (vss:=vss) (mod_keys hj) (by rw[mod_vals,p5]) ⟨by simpa using pb1,born_mod (fun _=>rfl) pb2⟩ p6 p7
      have hr:(execOp a.eval o).run P w=.ok (.value (.tuple #[mkV ti.agg vss[p],goInt p])) {w with heap:=w.heap.setIfInBounds (c.φ id) (.map (es.modify p fun e=>{e with key:=k' }) cl)}:=by
       simp[execOp,ho,hp,hkv,hrun]
      refine wpo_run (hr) rfl ?_
      rw[mrg_one (b:=some (.mapb ti.agg (es.toList.map (·.key)) xs)) (by simp)]at h4
      refine h4 _ _ _ g r2 ?_
      refine⟨[mkV ti.agg vss[p],goInt p],rfl,F2.cons ?_ (F2.cons ?_ F2.nil)⟩
      ·simp only[List.getD_eq_getElem?_getD,hu1,Option.getD_some]
       exact(mkV_rc hu2 fun ha=>p6 ha _ (List.mem_of_getElem? hvp)).mono g.S g.heap
      ·refine R.v ?_
       show inK .i64 (p:Int)=true
       rw[hel]at e5
       simp only[inK,Bool.and_eq_true,decide_eq_true_eq]at e5 ⊢
       omega
    ·exact h3.elim
   ·exact OpOK.bad
  ·exact OpOK.bad
 ·exact OpOK.bad
theorem mapEntryS_ok {o:Oper}{T:TypeId}{x st v:Operand}(ho:o.op=.entryStore T x st v):OpOK P o σ (rEntryS (ev σ x) (ev σ st) (ev σ v)):=by
 unfold rEntryS
 split
 ·rename_i id j n hx hst
  intro ro base S0 w0 c a w K Q h1 h2 h3 h4
  simp only[Req.eff,Req.mem,cond_true]at h3 h4
  generalize hids:ownIds (ev σ v).cells=ids at h3 h4
  have hin:only (id::ids) σ.m id=σ.m id:=only_in (List.mem_cons_self ..)
  have hcl:=cloL_only (ids:=id::ids) (m:=σ.m) (l:=(ev σ v).cells) (fun j hj=>by rw[hids]at hj;exact List.mem_cons_of_mem _ hj)
  have hcl2:=cloL_only (ids:=ids) (m:=σ.m) (l:=(ev σ v).cells) (fun j hj=>by rw[hids]at hj;exact hj)
  rw[hin]at h3 h4
  split at h3
  ·rename_i agg ks xs hm
   simp only[hm]at h4
   obtain⟨f1,f2,e3,e4,e6,e7⟩:=h3
   rw[hcl.1,←hcl2.1]at h4
   rw[hcl.2,←hcl2.2]at e6
   have hp:a.eval x=.map (some (c.φ id)):=by
    have hv:=ev_ok h1 x
    rw[hx]at hv
    exact hv.2
   have hsv:a.eval st=.int j n:=by
    have hv:=ev_ok h1 st
    rw[hst]at hv
    exact R.val hv
   obtain⟨c1,g1,r1⟩:=freezes ids h2
   have hm1:mrg ids (frz σ.m) σ.m id=some (.mapb agg ks xs):=by unfold mrg;rw[e7];exact hm
   have hφ:c1.φ id=c.φ id:=(g1.box id (.inr (.inr (.inl ⟨_,_,_,hm⟩)))).1
   obtain⟨ts,t1,t2⟩:=cellsOf_ok ((ev_ok h1 v).goes g1) e3
   have t3:=cloCells_ok r1 t2 e6 (fun j hj=>by rw[hids]at hj;exact hj)
   have hval:a.eval v=mkV agg ts∧(agg=false→ts.length=1):=by
    have hv:=ev_ok h1 v
    cases hvx:ev σ v with
    |one y=>
     rw[hvx]at hv e4
     cases e4
     have ho1:=VA.one hv
     have hc:(a.eval v).cells=#[a.eval v]:=by
      generalize a.eval v=z at ho1
      cases z<;>first|rfl|(simp[Value.oneCell']at ho1)
     rw[hc]at t1
     have:ts=[a.eval v]:=by simpa using(congrArg Array.toList t1).symm
     subst this
     exact⟨rfl,fun _=>rfl⟩
    |agg cs=>
     rw[hvx]at hv e4
     cases e4
     obtain⟨us,hu,_⟩:=hv
     rw[hu]at t1 ⊢
     have:us=ts:=by simpa[Value.cells]using congrArg Array.toList t1
     subst this
     exact⟨rfl,fun h=>by simp at h⟩
    |tup rs=>rw[hvx]at e4;simp[avAgg]at e4
    |tupo rs=>rw[hvx]at e4;simp[avAgg]at e4
    |junk=>rw[hvx]at e4;simp[avAgg]at e4
   obtain⟨p1,p2,vss,⟨⟨es,cl,p3,p4,p5,pb1,pb2⟩,p6⟩,p7⟩:=r1.blk id _ hm1
   subst p4
   rw[hφ]at p3
   have hn:(n.toNat:Int)=n:=Int.toNat_of_nonneg f1
   have hpl:n.toNat<es.size:=by simpa using f2
   have hfb:=find_born pb2 hpl
   rw[hn]at hfb
   have hrun:(Instr.entryStore T (.map (some (c.φ id))) (.int j n) (a.eval v)).run P w=.ok () {w with heap:=w.heap.setIfInBounds (c.φ id) (.map (es.modify n.toNat fun e=>{e with val:=a.eval v}) cl)}:=by
    unfold Instr.entryStore
    simp only[Sem.run_bind,run_getObj p3,Result.andThen_ok,asInt,asIntOf,Sem.run_pure,hfb]
    exact run_setObj p3 _
   obtain⟨g,r2⟩:=r1.setMap (es:=es.modify n.toNat fun e=>{e with val:=a.eval v}) (cl:=cl) hm1 (ks':=es.toList.map (·.key)) (xs':=xs.set n.toNat ((ev σ v).cells.map (clo (only ids σ.m)))) (vss:=vss.set n.toNat ts) set_keys (by rw[set_vals,p5,hval.1,List.map_set]) ⟨by simpa using pb1,born_mod (fun _=>rfl) pb2⟩
    (fun ha vs hvs=>by
     rcases List.mem_or_eq_of_mem_set hvs with h|h
     ·exact p6 ha vs h
     ·rw[h];exact hval.2 ha) (p7.set t3 n.toNat)
   rw[hφ]at g r2
   have hr:(execOp a.eval o).run P w=.ok .skip {w with heap:=w.heap.setIfInBounds (c.φ id) (.map (es.modify n.toNat fun e=>{e with val:=a.eval v}) cl)}:=by
    simp[execOp,ho,hp,hsv,hrun]
   refine wpo_run (hr) rfl ?_
   rw[mrg_cons]at h4
   exact h4 _ _ undef (g1.trans g) r2 trivial
  ·exact h3.elim
 ·exact OpOK.bad
end
end
section
section
variable {P:Program} {σ:St} {base:Nat} {S0:Sh} {w0:W0}
theorem areq_ok (o:Oper)(r:RV):OpOK P o σ (areq P o.dst r (ev σ) o.op):=by
 cases ho:o.op with
 |move x=>exact move_ok (.inl ho)
 |assign x=>exact move_ok (.inr ho)
 |pick c x y=>
  simp only[areq]
  split
  ·rename_i b hb;exact pick_ok ho hb
  ·exact OpOK.bad
 |alloc T=>
  simp only[areq]
  split
  ·rename_i ti d ht hd;exact alloc_ok ho (tinfo_is ht)
  ·exact OpOK.bad
 |box T x=>
  simp only[areq]
  split
  ·rename_i d hd;exact box_ok ho
  ·exact OpOK.bad
 |load T x=>exact load_ok ho
 |store T x u=>exact store_ok ho
 |fieldAddr T x f=>exact fieldAddr_ok ho
 |extract x i=>
  simp only[areq]
  split
  ·rename_i rs hx
   split
   ·rename_i u hu;exact extract_ok ho hx hu
   ·exact OpOK.bad
  ·rename_i rs hx
   split
   ·rename_i u hu;exact extract_mix ho hx hu
   ·exact OpOK.bad
  ·exact OpOK.bad
 |indexAddr T x i=>exact index_ok ho
 |index T x i=>exact indexV_ok ho
 |binOp op T x y T'=>exact bin_ok ho
 |unOp u T x=>
  cases u with
  |not=>
   simp only[areq]
   split
   ·rename_i b hx;exact not_ok ho hx
   ·exact OpOK.bad
  |neg=>
   simp only[areq]
   split
   ·rename_i k n hx;exact neg_ok ho hx
   ·exact OpOK.bad
  |_=>exact OpOK.bad
 |convert S T x=>
  simp only[areq]
  split
  ·rename_i ts a1 a2 a3 a4 k hs ht
   split
   ·rename_i k' n hx
    obtain⟨_,ds,_,_,hds,_⟩:=tinfo_is hs
    exact convert_ok ho ht hds hx
   ·exact OpOK.bad
  ·rename_i b1 b2 b3 b4 e esz a1 a2 a3 a4 hs ht
   exact toStr_ok ho hs ht
  ·exact OpOK.bad
 |makeSlice T l k=>exact make_ok ho
 |makeFunc fn first caps=>
  cases fn with
  |func f=>exact makeFunc_ok ho
  |_=>exact OpOK.bad
 |nilCheck x=>exact nil_ok ho
 |makeMap T r0=>
  cases r0 with
  |none=>exact makeMap_ok ho
  |some y=>exact OpOK.bad
 |insert T x k v=>exact insert_ok (.inl ho)
 |mapUpdate T x k v=>exact insert_ok (.inr ho)
 |lookup T x k ok=>exact lookup_ok ho
 |mapEntry T x k=>exact mapEntry_ok ho
 |entryStore T x st v=>exact mapEntryS_ok ho
 |build T ps=>exact build_ok ho
 |buildSlice T len ps=>exact buildSlice_ok ho
 |slice T x lo hi mx=>
  cases mx with
  |none=>exact slice_ok ho
  |some y=>exact slice3_ok ho
 |call c=>
  obtain⟨callee,args,argTypes⟩:=c
  simp only[areq]
  split
  ·rename_i x T h2 h3
   have e2:args=#[x]:=by rw[←h2,Array.toArray_toList]
   have e3:argTypes=#[T]:=by rw[←h3,Array.toArray_toList]
   subst e2 e3
   exact len_ok ho
  ·rename_i s x T T' h2 h3
   have e2:args=#[s,x]:=by rw[←h2,Array.toArray_toList]
   have e3:argTypes=#[T,T']:=by rw[←h3,Array.toArray_toList]
   subst e2 e3
   exact appendX_ok ho
  ·rename_i x T h2 h3
   have e2:args=#[x]:=by rw[←h2,Array.toArray_toList]
   have e3:argTypes=#[T]:=by rw[←h3,Array.toArray_toList]
   subst e2 e3
   exact cap_ok ho
  ·rename_i s x T T' h2 h3
   have e2:args=#[s,x]:=by rw[←h2,Array.toArray_toList]
   have e3:argTypes=#[T,T']:=by rw[←h3,Array.toArray_toList]
   subst e2 e3
   exact copy_ok ho
  ·rename_i x y h2
   have e2:args=#[x,y]:=by rw[←h2,Array.toArray_toList]
   subst e2
   exact mm_ok (lo:=true) (by rw[ho];rfl)
  ·rename_i x y h2
   have e2:args=#[x,y]:=by rw[←h2,Array.toArray_toList]
   subst e2
   exact mm_ok (lo:=false) (by rw[ho];rfl)
  ·exact call_ok ho fun h1=>⟨[],[],rfl,F2.nil,F2.nil⟩
  ·rename_i x _
   split
   ·rename_i f ag first caps hx
    exact call_ok ho (fnval_ok hx)
   ·rename_i v hx
    split
    ·rename_i l hy
     exact yield_okR ho hx hy
    ·exact OpOK.bad
   ·exact OpOK.bad
  ·exact OpOK.bad
 |field T x f=>exact fieldV_ok ho
 |_=>exact OpOK.bad
def stepSt (σ:St)(dst:Option Nat)(v:AV)(m:Mem):St:=⟨σ.n,match dst with|some d=>upd σ.t d v|none=>σ.t,m⟩
def dstOK (n:Nat):Option Nat→Prop
 |some d=>d<n
 |none=>True
def mkDf (r:Nat):Deferred:={target:=.collected r,args:=#[]}
def DfOK (base:Nat)(c:Ctx)(w:World)(df ds:List Deferred):Prop:=∃ms:List Nat,ds=ms.map mkDf++df∧ms.Nodup∧∀r∈ms,base≤r∧c.S 0 r∧w.heap[r]?=some (.deferred (some []))
theorem DfOK.none {base:Nat}{c:Ctx}{w:World}{df:List Deferred}:DfOK base c w df df:=⟨[],rfl,.nil,fun r h=>by simp at h⟩
theorem DfOK.goes {base:Nat}{c c':Ctx}{w w':World}{m m':Mem}{df ds:List Deferred}(h:DfOK base c w df ds)(g:Goes c w m c' w' m'):DfOK base c' w' df ds:=by
 obtain⟨ms,h1,h2,h3⟩:=h
 exact⟨ms,h1,h2,fun r hr=>⟨(h3 r hr).1,g.S 0 r (h3 r hr).2.1,(g.heap 0 r (h3 r hr).2.1).trans (h3 r hr).2.2⟩⟩
def Gm (base:Nat)(S0:Sh)(w0:W0)(df:List Deferred)(σ:St)(a:Act)(w:World):Prop:=∃c,Tm c w σ a∧WR base S0 w0 c σ.m w∧DfOK base c w df a.defers
theorem put_defers (a:Act)(d:Option Nat)(v:Value):(a.put d v).defers=a.defers:=by cases d<;>rfl
theorem put_ok {c c':Ctx}{w w':World}{m':Mem}{a:Act}{dst:Option Nat}{v:Value}{x:AV}(h:Tm c w σ a)(g:Goes c w σ.m c' w' m')(hd:dstOK σ.n dst)(hv:VV c' w' m' x v):Tm c' w' (stepSt σ dst x m') (a.put dst v):=by
 cases dst with
 |none=>exact⟨h.1,fun d hd=>(h.2 d hd).goes g,h.3.mono (g.S 0) (g.heap 0)⟩
 |some d=>
  refine⟨by simp[Act.put,h.1,stepSt],fun e he=>?_,h.3.mono (g.S 0) (g.heap 0)⟩
  show VV c' w' m' (upd σ.t d x e) ((a.tmps.setIfInBounds d v).getD e undef)
  by_cases hed:e=d
  ·subst hed
   rw[upd_same]
   have:e<a.tmps.size:=by rw[h.1];exact he
   simpa[this]using hv
  ·rw[upd_ne _ _ hed]
   have:(a.tmps.setIfInBounds d v).getD e undef=a.tmps.getD e undef:=by
    simp[Ne.symm hed]
   rw[this]
   exact(h.2 e he).goes g
def wantd (ops:Array Oper)(σ:St)(o:Oper):Option Bool:=match o.guard with
 |none=>some true
 |some (j,want)=>match(ops[j]?).bind (·.dst)with
  |none=>some false
  |some s=>match ev σ (.tmp s)with
   | .one (.c (.v (.bool b)))=>some (b==want)
   | .tup _=>some false
   |_=>none
def reqI (P:Program)(cs:Nat→RV)(σ:St)(i:Nat)(o:Oper):Req:=areq P o.dst (cs i) (ev σ) o.op
def okI (P:Program)(ops:Array Oper)(cs:Nat→RV)(i:Nat)(σ:St):Prop:=match ops[i]? with
 |none=>False
 |some o=>dstOK σ.n o.dst∧match wantd ops σ o with
  |some true=>((reqI P cs σ i o).eff σ.m).ok
  |some false=>True
  |none=>False
def stepI (P:Program)(ops:Array Oper)(cs:Nat→RV)(i:Nat)(σ:St):St:=match ops[i]? with
 |none=>σ
 |some o=>match wantd ops σ o with
  |some true=>stepSt σ o.dst ((reqI P cs σ i o).eff σ.m).val ((reqI P cs σ i o).mem σ.m)
  |_=>stepSt σ o.dst (.tup []) σ.m
def fpI (P:Program)(ops:Array Oper)(cs:Nat→RV)(i:Nat)(σ:St):List Nat×Bool:=match ops[i]? with
 |none=>([],false)
 |some o=>match wantd ops σ o with
  |some true=>((reqI P cs σ i o).ids,(reqI P cs σ i o).wr)
  |_=>([],false)
theorem wantd_ok {ops:Array Oper}{o:Oper}{b:Bool}{c:Ctx}{w:World}{a:Act}(h:Tm c w σ a)(hw:wantd ops σ o=some b):Region.wanted o (yielded ops a.tmps)=b:=by
 unfold wantd at hw
 unfold Region.wanted
 split at hw
 ·rename_i hg;rw[hg];simpa using hw
 ·rename_i j want hg
  rw[hg]
  simp only
  split at hw
  ·rename_i hj
   cases hw
   simp[yielded,hj]
  ·rename_i s hj
   split at hw
   ·rename_i t ht
    cases hw
    have hs:s<σ.n:=by
     by_cases hs:s<σ.n
     ·exact hs
     ·simp[ev,hs]at ht
    have hv:=ev_ok h (.tmp s)
    rw[ht]at hv
    have hv:a.tmps.getD s undef=.bool t:=R.val hv
    have hs':s<a.tmps.size:=by rw[h.1];exact hs
    have:a.tmps[s]?=some (.bool t):=by
     rw[Array.getElem?_eq_getElem hs']
     simpa[Array.getD,hs']using hv
    simp only[yielded,hj,Option.bind_some,this]
    cases t<;>cases want<;>rfl
   ·rename_i rs ht
    cases hw
    have hs:s<σ.n:=by
     by_cases hs:s<σ.n
     ·exact hs
     ·simp[ev,hs]at ht
    have hv:=ev_ok h (.tmp s)
    rw[ht]at hv
    obtain⟨vs,hv,_⟩:=hv
    have hv:a.tmps.getD s undef=.tuple vs.toArray:=hv
    have hs':s<a.tmps.size:=by rw[h.1];exact hs
    have:a.tmps[s]?=some (.tuple vs.toArray):=by
     rw[Array.getElem?_eq_getElem hs']
     simpa[Array.getD,hs']using hv
    simp only[yielded,hj,Option.bind_some,this]
    cases want<;>rfl
   ·simp at hw
theorem opI_ok {ro:Option Nat}{ops:Array Oper}{cs:Nat→RV}{i:Nat}{df:List Deferred}{a:Act}{w:World}{K:Act→World→Prop}{Q:Exit→Act→World→Prop}(hok:okI P ops cs i σ)(hG:Gm base S0 w0 df σ a w)(hK:∀a' w',Gm base S0 w0 df (stepI P ops cs i σ) a' w'→K a' w'):wpOpIn (Fw ro) 0 P ops Q i K a w:=by
 obtain⟨c,h1,h2,h3⟩:=hG
 unfold okI at hok
 unfold stepI at hK
 unfold wpOpIn
 cases ho:ops[i]? with
 |none=>simp only[ho]at hok
 |some o=>
  simp only[ho]at hok hK ⊢
  obtain⟨hd,hok⟩:=hok
  cases hw:wantd ops σ o with
  |none=>simp only[hw]at hok
  |some b=>
   rw[wantd_ok h1 hw]
   cases b with
   |false=>
    simp only[hw]at hK
    rw[if_neg (by simp)]
    exact⟨fun _ _=>trivial,hK _ _ ⟨c,put_ok h1 (Goes.refl _ _ _) hd ⟨[],rfl,F2.nil⟩,h2,by rw[put_defers];exact h3⟩⟩
   |true=>
    simp only[hw]at hok hK
    rw[if_pos rfl]
    exact areq_ok o (cs i) ro base S0 w0 c a w K Q h1 h2 hok fun c' w' v g r hv=>hK _ _ ⟨c',put_ok h1 g hd hv,r,by rw[put_defers];exact h3.goes g⟩
end
section
variable {X:Type} (ok:Nat→X→Prop) (step:Nat→X→X) (ind:Nat→Nat→Prop)
def runOK:List Nat→X→Prop
 | [],_=>True
 |i::l,s=>ok i s∧runOK l (step i s)
def runEnd:List Nat→X→X
 | [],s=>s
 |i::l,s=>runEnd l (step i s)
theorem runOK_append (l k:List Nat)(s:X):runOK ok step (l++k) s↔runOK ok step l s∧runOK ok step k (runEnd step l s):=by
 induction l generalizing s with
 |nil=>simp[runOK,runEnd]
 |cons i l ih=>simp[runOK,runEnd,ih,and_assoc]
theorem runEnd_append (l k:List Nat)(s:X):runEnd step (l++k) s=runEnd step k (runEnd step l s):=by
 induction l generalizing s with
 |nil=>rfl
 |cons i l ih=>simp[runEnd,ih]
variable (swap:∀i j s,ind i j→ok i s→ok j (step i s)→ok j s∧ok i (step j s)∧step i (step j s)=step j (step i s))
include swap in
theorem move_back (i:Nat):∀(A B:List Nat) (s:X),(∀a∈A,ind i a)→runOK ok step (i::(A++B)) s→runOK ok step (A++i::B) s∧runEnd step (A++i::B) s=runEnd step (i::(A++B)) s:=by
 intro A
 induction A with
 |nil=>intro B s _ h;exact⟨h,rfl⟩
 |cons a A ih=>
  intro B s hA h
  obtain⟨h1,h2,h3⟩:=h
  obtain⟨k1,k2,k3⟩:=swap i a s (hA a (by simp)) h1 h2
  have h4:runOK ok step (i::(A++B)) (step a s):=⟨k2,by rw[k3];exact h3⟩
  obtain⟨q1,q2⟩:=ih B (step a s) (fun b hb=>hA b (by simp[hb])) h4
  refine⟨⟨k1,q1⟩,?_⟩
  show runEnd step (A++i::B) (step a s)=runEnd step (A++B) (step a (step i s))
  rw[q2,←k3]
  rfl
include swap in
theorem any_order:∀(m k:Nat) (L:List Nat) (s:X),L.Perm (List.range' k m)→L.Pairwise (fun a b=>b<a→ind b a)→runOK ok step (List.range' k m) s→runOK ok step L s∧runEnd step L s=runEnd step (List.range' k m) s:=by
 intro m
 induction m with
 |zero=>
  intro k L s hp _ _
  have:L=[]:=hp.eq_nil
  subst this
  exact⟨trivial,rfl⟩
 |succ m ih=>
  intro k L s hp hw hr
  rw[List.range'_succ]at hp hr ⊢
  obtain⟨A,B,rfl⟩:=List.append_of_mem (hp.mem_iff.2 (List.mem_cons_self ..))
  have hp2:(A++B).Perm (List.range' (k+1) m):=List.Perm.cons_inv ((List.perm_middle).symm.trans hp)
  have hw2:(A++B).Pairwise (fun a b=>b<a→ind b a):=hw.sublist (List.Sublist.append_left (List.sublist_cons_self k B) A)
  obtain⟨q1,q2⟩:=ih (k+1) (A++B) (step k s) hp2 hw2 hr.2
  have hA:∀a∈A,ind k a:=fun a ha=>by
   have h1:k<a:=by
    have:a∈List.range' (k+1) m:=hp2.mem_iff.1 (List.mem_append.2 (.inl ha))
    have:=List.mem_range'_1.1 this
    omega
   exact(List.pairwise_append.1 hw).2.2 a ha k (by simp) h1
  obtain⟨r1,r2⟩:=move_back ok step ind swap k A B s hA ⟨hr.1,q1⟩
  exact⟨r1,by rw[r2];exact q2⟩
end
end
section
section
variable {P:Program}
theorem areq_congr {dst:Option Nat}{r:RV}{op:Op}{g g':Operand→AV}(h:∀x∈op.operands,g x=g' x):areq P dst r g op=areq P dst r g' op:=by
 cases op with
 |move x=>simp only[areq];rw[h x (by simp[Op.operands])]
 |assign x=>simp only[areq];rw[h x (by simp[Op.operands])]
 |pick c x y=>simp only[areq];rw[h c (by simp[Op.operands]),h x (by simp[Op.operands]),h y (by simp[Op.operands])]
 |alloc T=>rfl
 |box T x=>simp only[areq];rw[h x (by simp[Op.operands])]
 |load T x=>simp only[areq];rw[h x (by simp[Op.operands])]
 |store T x u=>simp only[areq];rw[h x (by simp[Op.operands]),h u (by simp[Op.operands])]
 |fieldAddr T x f=>simp only[areq];rw[h x (by simp[Op.operands])]
 |field T x f=>simp only[areq];rw[h x (by simp[Op.operands])]
 |extract x i=>simp only[areq];rw[h x (by simp[Op.operands])]
 |indexAddr T x i=>simp only[areq];rw[h x (by simp[Op.operands]),h i (by simp[Op.operands])]
 |index T x i=>simp only[areq];rw[h x (by simp[Op.operands]),h i (by simp[Op.operands])]
 |binOp op T x y T'=>simp only[areq];rw[h x (by simp[Op.operands]),h y (by simp[Op.operands])]
 |unOp u T x=>
  cases u with
  |not=>simp only[areq];rw[h x (by simp[Op.operands])]
  |neg=>simp only[areq];rw[h x (by simp[Op.operands])]
  |_=>rfl
 |convert S T x=>simp only[areq];rw[h x (by simp[Op.operands])]
 |makeFunc fn first caps=>
  cases fn with
  |func f=>
   simp only[areq]
   rw[List.map_congr_left fun x hx=>h x (by simp[Op.operands];exact .inl (by simpa using hx)),List.map_congr_left fun x hx=>h x (by simp[Op.operands];exact .inr (by simpa using hx))]
  |_=>rfl
 |makeSlice T l k=>simp only[areq];rw[h l (by simp[Op.operands]),h k (by simp[Op.operands])]
 |nilCheck x=>simp only[areq];rw[h x (by simp[Op.operands])]
 |makeMap T r0=>cases r0<;>rfl
 |insert T x k v=>simp only[areq];rw[h x (by simp[Op.operands]),h k (by simp[Op.operands]),h v (by simp[Op.operands])]
 |mapUpdate T x k v=>simp only[areq];rw[h x (by simp[Op.operands]),h k (by simp[Op.operands]),h v (by simp[Op.operands])]
 |lookup T x k ok=>simp only[areq];rw[h x (by simp[Op.operands]),h k (by simp[Op.operands])]
 |mapEntry T x k=>simp only[areq];rw[h x (by simp[Op.operands]),h k (by simp[Op.operands])]
 |entryStore T x st v=>simp only[areq];rw[h x (by simp[Op.operands]),h st (by simp[Op.operands]),h v (by simp[Op.operands])]
 |build T ps=>
  simp only[areq]
  have:partsA g ps.toList=partsA g' ps.toList:=List.map_congr_left fun p hp=>by rw[h p.2 (by simp[Op.operands];exact⟨p.1,by simpa using hp⟩)]
  rw[this]
 |buildSlice T len ps=>
  simp only[areq]
  have:partsA g ps.toList=partsA g' ps.toList:=List.map_congr_left fun p hp=>by rw[h p.2 (by simp[Op.operands];exact⟨p.1,by simpa using hp⟩)]
  rw[this]
 |slice T x lo hi mx=>
  have e1:lo.map g=lo.map g':=by
   cases lo with
   |none=>rfl
   |some y=>simp only[Option.map_some];rw[h y (by simp[Op.operands])]
  have e2:hi.map g=hi.map g':=by
   cases hi with
   |none=>rfl
   |some y=>simp only[Option.map_some];rw[h y (by simp[Op.operands])]
  cases mx with
  |none=>simp only[areq];rw[h x (by simp[Op.operands]),e1,e2]
  |some y=>simp only[areq];rw[h x (by simp[Op.operands]),h y (by simp[Op.operands]),e1,e2]
 |call c=>
  obtain⟨callee,args,ts⟩:=c
  have ha:∀x∈args.toList,g x=g' x:=fun x hx=>h x (by simp only[Op.operands,Call.operands,Array.mem_append];exact .inr (by simpa using hx))
  simp only[areq]
  split
  ·rename_i x T h2 h3
   rw[ha x (by rw[h2];simp)]
  ·rename_i s x T T' h2 h3
   rw[ha x (by rw[h2];simp),ha s (by rw[h2];simp)]
  ·rename_i x T h2 h3
   rw[ha x (by rw[h2];simp)]
  ·rename_i s x T T' h2 h3
   rw[ha x (by rw[h2];simp),ha s (by rw[h2];simp)]
  ·rename_i x y h2
   rw[ha x (by rw[h2];simp),ha y (by rw[h2];simp)]
  ·rename_i x y h2
   rw[ha x (by rw[h2];simp),ha y (by rw[h2];simp)]
  ·rw[List.map_congr_left ha]
  ·rename_i x _
   have hx:g x=g' x:=h x (by simp only[Op.operands,Call.operands,Array.mem_append];exact .inl (by simp))
   rw[hx,List.map_congr_left ha]
  ·rfl
 |_=>rfl
theorem ev_put {σ:St}{dst:Option Nat}{v:AV}{m:Mem}{x:Operand}(h:∀d,dst=some d→x≠.tmp d):ev (stepSt σ dst v m) x=ev σ x:=by
 cases x with
 |tmp t=>
  cases dst with
  |none=>rfl
  |some d=>
   have:t≠d:=fun e=>h d rfl (by rw[e])
   show(bif decide (t<σ.n)then upd σ.t d v t else .junk)=(bif decide (t<σ.n)then σ.t t else .junk)
   rw[upd_ne _ _ this]
 |_=>rfl
def outI (P:Program)(ops:Array Oper)(cs:Nat→RV)(i:Nat)(o:Oper)(σ:St):AV×Mem:=match wantd ops σ o with
 |some true=>(((reqI P cs σ i o).eff σ.m).val,(reqI P cs σ i o).mem σ.m)
 |_=>(.tup [],σ.m)
theorem stepI_out {ops:Array Oper}{cs:Nat→RV}{i:Nat}{o:Oper}{σ:St}(ho:ops[i]?=some o):stepI P ops cs i σ=stepSt σ o.dst (outI P ops cs i o σ).1 (outI P ops cs i o σ).2:=by
 unfold stepI outI
 rw[ho]
 simp only
 cases wantd ops σ o with
 |none=>rfl
 |some b=>cases b<;>rfl
theorem mem_looks {ops:Array Oper}{o:Oper}{t:Nat}(h:Operand.tmp t∈o.op.operands):t∈o.looksAt ops:=by
 unfold Oper.looksAt
 refine List.mem_append.2 (.inl (List.mem_filterMap.2 ⟨.tmp t,by simpa using h,rfl⟩))
theorem guard_looks {ops:Array Oper}{o:Oper}{g:Nat}{b:Bool}{s:Nat}(h:o.guard=some (g,b))(hs:(ops[g]?).bind (·.dst)=some s):s∈o.looksAt ops:=by
 unfold Oper.looksAt
 rw[h]
 simp[hs]
theorem local_I {ops : Array Oper} {cs : Nat → RV} {j : Nat} {y : Oper} {σ σ' : St} (hy : ops[j]? = some y) (hn : σ'.n = σ.n) (hl : ∀ d, d ∈ y.looksAt ops → ev σ' (.tmp d) = ev σ (.tmp d)) (hm : ∀ i ∈ (fpI P ops cs j σ).1, σ'.m i = σ.m i) :
    (okI P ops cs j σ' ↔ okI P ops cs j σ) ∧ fpI P ops cs j σ' = fpI P ops cs j σ ∧ (outI P ops cs j y σ').1 = (outI P ops cs j y σ).1 ∧
      (∀ i, i ∉ (fpI P ops cs j σ).1 → (outI P ops cs j y σ').2 i = σ'.m i ∧ (outI P ops cs j y σ).2 i = σ.m i) ∧ (∀ i ∈ (fpI P ops cs j σ).1, (outI P ops cs j y σ').2 i = (outI P ops cs j y σ).2 i) ∧ ((fpI P ops cs j σ).2 = false → (outI P ops cs j y σ').2 = σ'.m ∧ (outI P ops cs j y σ).2 = σ.m) := by
  have hop : ∀ x ∈ y.op.operands, ev σ' x = ev σ x := fun x hx => by
    cases x with
    | tmp t => exact hl t (mem_looks hx)
    | _ => rfl
  have hreq : reqI P cs σ' j y = reqI P cs σ j y := areq_congr hop
  have hw : wantd ops σ' y = wantd ops σ y := by
    unfold wantd
    cases hg : y.guard with
    | none => rfl
    | some gb =>
      obtain ⟨g, b⟩ := gb
      cases hs : (ops[g]?).bind (·.dst) with
      | none => simp only [hs]
      | some s => simp only [hs]; rw [hl s (guard_looks hg hs)]
  unfold okI fpI outI at *
  simp only [hy, hw, hreq, hn] at hm ⊢
  cases hwd : wantd ops σ y with
  | none => simp only [hwd] at hm ⊢; simp
  | some b =>
    cases b with
    | false => simp only [hwd] at hm ⊢; simp
    | true =>
      simp only [hwd] at hm ⊢
      generalize hq : reqI P cs σ j y = q at hm
      have hon : only q.ids σ'.m = only q.ids σ.m := by
        funext i
        unfold only
        cases hi : hasN q.ids i with
        | false => rfl
        | true => simp only [cond_true]; exact hm i (hasN_iff.1 hi)
      have heff : q.eff σ'.m = q.eff σ.m := by unfold Req.eff; rw [hon]
      refine ⟨by rw [heff], trivial, by rw [heff], fun i hi => ?_, fun i hi => ?_, fun hwr => ?_⟩
      · have hh : hasN q.ids i = false := by
          cases hh : hasN q.ids i with
          | false => rfl
          | true => exact absurd (hasN_iff.1 hh) hi
        unfold Req.mem
        cases q.wr <;> simp [mrg, hh]
      · have hh := hasN_iff.2 hi
        unfold Req.mem
        rw [heff]
        cases q.wr with
        | false => simp only [cond_false]; exact hm i hi
        | true => simp [mrg, hh]
      · unfold Req.mem
        rw [hwr]
        exact ⟨rfl, rfl⟩
theorem ix_push {key k : Value} : ∀ {ks : List Value} {i : Nat}, keyIx key (ks ++ [k]) i = match keyIx key ks i with
    | some p => some p
    | none => bif eqK key k then some (i + ks.length) else none
  | [], i => by simp [keyIx]
  | x :: ks, i => by
    simp only [List.cons_append, keyIx]
    cases eqK key x with
    | true => rfl
    | false =>
      simp only [cond_false]
      rw [ix_push (ks := ks)]
      cases keyIx key ks (i + 1) with
      | some p => rfl
      | none => simp only [List.length_cons]; rw [show i + 1 + ks.length = i + (ks.length + 1) by omega]
theorem keysK_push {kd:KD}{k:Value}(hk:kOK kd k=true):∀{ks:List Value},keysK kd ks=true→keysK kd (ks++[k])=true
 | [],_=>by simp[keysK,hk]
 |x::ks,h=>by
  simp only[List.cons_append,keysK,Bool.and_eq_true]at h ⊢
  exact⟨h.1,keysK_push hk h.2⟩
theorem look_put {kd:KD}{key1 key2:Value}{ti:TI}{agg:Bool}{ks:List Value}{xs:List (List CV)}{Z:List CV}(h1:(lookAt P kd key1 false ti agg ks xs).1)(hk:kOK kd key2=true)(hl:xs.length=ks.length)(hz:lookCA ti.agg Z=zeroCA ti.agg ti.zero):(lookAt P kd key1 false ti agg (putKs key2 ks) (match keyIx key2 ks 0 with|some _=>xs|none=>xs++[Z])).1∧(lookAt P kd key1 false ti agg (putKs key2 ks) (match keyIx key2 ks 0 with|some _=>xs|none=>xs++[Z])).2=(lookAt P kd key1 false ti agg ks xs).2:=by
 unfold putKs
 cases keyIx key2 ks 0 with
 |some p=>exact⟨h1,rfl⟩
 |none=>
  simp only
  unfold lookAt at h1 ⊢
  obtain⟨a,b,rfl,d⟩:=h1
  refine⟨⟨a,b,rfl,keysK_push hk d⟩,?_⟩
  simp only[ix_push]
  cases hx:keyIx key1 ks 0 with
  |some p=>
   obtain⟨_,_,hp,_⟩:=keyIx_at hx
   have:p<xs.length:=by have:=(List.getElem?_eq_some_iff.1 hp).1;omega
   simp only[List.getD_eq_getElem?_getD,List.getElem?_append_left this]
  |none=>
   cases eqK key1 key2 with
   |false=>rfl
   |true=>
    simp only[cond_true,Nat.zero_add,List.getD_eq_getElem?_getD]
    rw[←hl,List.getElem?_append_right (Nat.le_refl _),Nat.sub_self]
    simp only[List.getElem?_cons_zero,Option.getD_some,hz]
    rfl
theorem entry_mem {kd : KD} {ti : TI} {x k : AV} {m : Mem} (h : ((rEntryAt P kd ti x k).eff m).ok) : ∃ id key agg ks xs, (rEntryAt P kd ti x k).mem m = upd m id (some (.mapb agg (putKs key ks) (match keyIx key ks 0 with
    | some _ => xs
    | none => xs ++ [ti.zero.map (clo fun _ => none)]))) ∧ m id = some (.mapb agg ks xs) ∧ kOK kd key = true ∧ xs.length = ks.length ∧ lookCA ti.agg (ti.zero.map (clo fun _ => none)) = zeroCA ti.agg ti.zero := by
  unfold rEntryAt at h ⊢
  split at h
  · rename_i id key hk2
    try simp only [hk2]
    simp only [Req.eff, Req.mem, cond_true, only_same] at h ⊢
    split at h
    · rename_i agg ks xs hm
      refine ⟨id, key, agg, ks, xs, ?_, hm, h.1, h.2.2.2.2.2.1, h.2.2.2.2.2.2⟩
      simp only [hm]
      exact mrg_one (by cases keyIx key ks 0 <;> simp)
    · exact h.elim
  · exact h.elim
theorem look_entry {T:TypeId}{a1 k1 a2 k2:AV}{m:Mem}(h1:((rLookup P T a1 k1 false).eff m).ok)(h2:((rEntry P T a2 k2).eff m).ok):((rLookup P T a1 k1 false).eff ((rEntry P T a2 k2).mem m)).ok∧((rLookup P T a1 k1 false).eff ((rEntry P T a2 k2).mem m)).val=((rLookup P T a1 k1 false).eff m).val:=by
 unfold rLookup rEntry at *
 cases hT:mapTI P T with
 |none=>simp only[hT]at h1;exact h1.elim
 |some p=>
  obtain⟨kd,e⟩:=p
  cases ht:tinfo P e with
  |none=>simp only[hT,ht]at h1;exact h1.elim
  |some ti=>
   cases hk1:keyV k1 with
   |none=>simp only[hT,ht,hk1]at h1;exact h1.elim
   |some key1=>
    simp only[hT,ht,hk1]at h1 h2 ⊢
    obtain⟨id2,key2,agg2,ks2,xs2,hmem,hm2,g1,g2,g3⟩:=entry_mem h2
    rw[hmem]
    clear hmem h2
    split at h1
    ·rename_i id
     simp only[Req.eff,Req.read,only_same]at h1 ⊢
     by_cases hid:id=id2
     ·subst hid
      simp only[upd_same,hm2]at h1 ⊢
      exact look_put h1 g1 g2 g3
     ·simp only[upd_ne _ _ hid]
      first|exact⟨h1,rfl⟩|exact⟨h1,trivial⟩
    ·exact⟨h1,rfl⟩
    ·exact h1.elim
def exOp (x y:Oper):Bool:=match x.op,y.op with
 | .lookup T _ _ false,.mapEntry T' _ _=>T==T'
 |_,_=>false
theorem exOp_iff {x y:Oper}(h:exOp x y=true):∃T a1 k1 a2 k2,x.op=.lookup T a1 k1 false∧y.op=.mapEntry T a2 k2:=by
 unfold exOp at h
 split at h
 ·rename_i T a1 k1 T' a2 k2 e1 e2
  have:T=T':=by simpa using h
  subst this
  exact⟨T,a1,k1,a2,k2,e1,e2⟩
 ·cases h
def indI (ops:Array Oper)(F:Nat→List Nat×Bool)(i j:Nat):Prop:=∃x y,ops[i]?=some x∧ops[j]?=some y∧x.apart ops y=true∧((((F i).2=false∧(F j).2=false)∨∀k∈(F i).1,k∉(F j).1)∨exOp x y=true)
theorem look_wr {T:TypeId}{a k:AV}{ok:Bool}:(rLookup P T a k ok).wr=false:=by
 unfold rLookup
 repeat' (first|rfl|split)
theorem swapE {ops:Array Oper}{cs:Nat→RV}{F:Nat→List Nat×Bool}(i j:Nat)(s:St){x y:Oper}(hx:ops[i]?=some x)(hy:ops[j]?=some y)(hap:x.apart ops y=true)(hex:exOp x y=true)(h1:okI P ops cs i s∧fpI P ops cs i s=F i)(h2:okI P ops cs j (stepI P ops cs i s)∧fpI P ops cs j (stepI P ops cs i s)=F j):(okI P ops cs j s∧fpI P ops cs j s=F j)∧(okI P ops cs i (stepI P ops cs j s)∧fpI P ops cs i (stepI P ops cs j s)=F i)∧stepI P ops cs i (stepI P ops cs j s)=stepI P ops cs j (stepI P ops cs i s):=by
 obtain⟨T,x1,x2,y1',y2',ex,ey⟩:=exOp_iff hex
 have e0:=stepI_out (P:=P) (cs:=cs) (σ:=s) hx
 unfold Oper.apart at hap
 have a1:∀d,x.dst=some d→d∉y.looksAt ops∧y.dst≠some d:=fun d hd=>by
  simp only[hd,Bool.and_eq_true,Bool.not_eq_true',bne_iff_ne]at hap
  exact⟨fun hm=>by have:=hap.1.1;simp[hm]at this,hap.1.2⟩
 have a2:∀d,y.dst=some d→d∉x.looksAt ops:=fun d hd hm=>by
  simp only[hd,Bool.and_eq_true,Bool.not_eq_true']at hap
  have:=hap.2
  simp[hm]at this
 have evx:∀(v:AV) (m:Mem) d,d∈y.looksAt ops→ev (stepSt s x.dst v m) (.tmp d)=ev s (.tmp d):=fun v m d hd=>ev_put fun d' hd' e=>by cases e;exact(a1 d hd').1 hd
 have evy:∀(v:AV) (m:Mem) d,d∈x.looksAt ops→ev (stepSt s y.dst v m) (.tmp d)=ev s (.tmp d):=fun v m d hd=>ev_put fun d' hd' e=>by cases e;exact a2 d hd' hd
 -- the look leaves the memory as it is
 have qx:∀σ:St,reqI P cs σ i x=rLookup P T (ev σ x1) (ev σ x2) false:=fun σ=>by unfold reqI;rw[ex];simp only[areq]
 have qy:∀σ:St,reqI P cs σ j y=rEntry P T (ev σ y1') (ev σ y2'):=fun σ=>by unfold reqI;rw[ey];simp only[areq]
 have ox:∀σ:St,(outI P ops cs i x σ).2=σ.m:=fun σ=>by
  unfold outI
  split
  ·show(reqI P cs σ i x).mem σ.m=σ.m
   unfold Req.mem;rw[qx,look_wr];rfl
  ·rfl
 have hm0:(stepI P ops cs i s).m=s.m:=by rw[e0];exact ox s
 have ly:=local_I (P:=P) (cs:=cs) (σ:=stepI P ops cs i s) (σ':=s) hy (by rw[e0];rfl) (fun d hd=>by rw[e0];exact(evx _ _ d hd).symm) (fun k hk=>by rw[hm0])
 rw[h2.2]at ly
 obtain⟨y1,y2,y3,y4,y5,y6⟩:=ly
 have q1:okI P ops cs j s∧fpI P ops cs j s=F j:=⟨y1.2 h2.1,y2⟩
 have e1:=stepI_out (P:=P) (cs:=cs) (σ:=s) hy
 -- what the entry makes is the same
 have hmy:(outI P ops cs j y s).2=(outI P ops cs j y (stepI P ops cs i s)).2:=by
  funext k
  by_cases hk:k∈(F j).1
  ·exact y5 k hk
  ·rw[(y4 k hk).1,(y4 k hk).2,hm0]
 have m1:(stepI P ops cs j s).m=(outI P ops cs j y s).2:=by rw[e1];rfl
 -- the look behind the entry
 have hop:∀z∈x.op.operands,ev (stepI P ops cs j s) z=ev s z:=fun z hz=>by
  cases z with
  |tmp t=>rw[e1];exact evy _ _ t (mem_looks hz)
  |_=>rfl
 have hw:wantd ops (stepI P ops cs j s) x=wantd ops s x:=by
  unfold wantd
  cases hg:x.guard with
  |none=>rfl
  |some gb=>
   obtain⟨g,b⟩:=gb
   cases hs:(ops[g]?).bind (·.dst)with
   |none=>simp only[hs]
   |some t=>simp only[hs];rw[show ev (stepI P ops cs j s) (.tmp t)=ev s (.tmp t)from by rw[e1];exact evy _ _ t (guard_looks hg hs)]
 have hn:(stepI P ops cs j s).n=s.n:=by rw[e1];rfl
 have hq:reqI P cs (stepI P ops cs j s) i x=reqI P cs s i x:=areq_congr hop
 have hval:okI P ops cs i (stepI P ops cs j s)∧fpI P ops cs i (stepI P ops cs j s)=F i∧(outI P ops cs i x (stepI P ops cs j s)).1=(outI P ops cs i x s).1:=by
  obtain⟨o1,f1⟩:=h1
  unfold okI fpI outI at *
  simp only[hx,hw,hq,hn]at o1 f1 ⊢
  cases hwx:wantd ops s x with
  |none=>simp only[hwx]at o1;exact o1.2.elim
  |some b=>
   cases b with
   |false=>simp only[hwx]at o1 f1 ⊢;exact⟨o1,f1,trivial⟩
   |true=>
    simp only[hwx]at o1 f1 ⊢
    have hmm:(stepI P ops cs j s).m=s.m∨∃(_:((reqI P cs s j y).eff s.m).ok),(stepI P ops cs j s).m=(reqI P cs s j y).mem s.m:=by
     rw[m1]
     have q0:=q1.1
     unfold okI at q0
     simp only[hy]at q0
     cases hwy:wantd ops s y with
     |none=>exact .inl rfl
     |some b=>
      cases b with
      |false=>exact .inl rfl
      |true=>
       simp only[hwy]at q0
       exact .inr ⟨q0.2,rfl⟩
    rcases hmm with hmm|⟨hok,hmm⟩
    ·rw[hmm];exact⟨o1,f1,rfl⟩
    ·rw[hmm,qx,qy]
     rw[qx]at o1
     rw[qy]at hok
     obtain⟨r1,r2⟩:=look_entry o1.2 hok
     rw[qx]at f1
     exact⟨⟨o1.1,r1⟩,f1,r2⟩
 refine⟨q1,⟨hval.1,hval.2.1⟩,?_⟩
 rw[stepI_out (P:=P) (cs:=cs) (σ:=stepI P ops cs j s) hx,stepI_out (P:=P) (cs:=cs) (σ:=stepI P ops cs i s) hy,hval.2.2,←y3,ox,m1,hmy]
 generalize (outI P ops cs j y (stepI P ops cs i s)).2=M
 rw[e0,e1]
 show stepSt (stepSt s y.dst _ _) x.dst _ M=stepSt (stepSt s x.dst _ _) y.dst _ M
 unfold stepSt
 simp only[St.mk.injEq,true_and,and_true]
 cases hdx:x.dst with
 |none=>rfl
 |some dx=>
  cases hdy:y.dst with
  |none=>rfl
  |some dy=>
   have hne:dx≠dy:=fun e=>(a1 dx hdx).2 (by rw[hdy,e])
   funext t
   simp only[upd]
   by_cases t1:t=dx
   ·subst t1;simp[hne]
   ·simp[t1]
theorem swapI {ops:Array Oper}{cs:Nat→RV}{F:Nat→List Nat×Bool}(i j:Nat)(s:St)(hind:indI ops F i j)(h1:okI P ops cs i s∧fpI P ops cs i s=F i)(h2:okI P ops cs j (stepI P ops cs i s)∧fpI P ops cs j (stepI P ops cs i s)=F j):(okI P ops cs j s∧fpI P ops cs j s=F j)∧(okI P ops cs i (stepI P ops cs j s)∧fpI P ops cs i (stepI P ops cs j s)=F i)∧stepI P ops cs i (stepI P ops cs j s)=stepI P ops cs j (stepI P ops cs i s):=by
 obtain⟨x,y,hx,hy,hap,hF⟩:=hind
 rcases hF with hF|hF
 rotate_left
 ·exact swapE i j s hx hy hap hF h1 h2
 have e0:=stepI_out (P:=P) (cs:=cs) (σ:=s) hx
 obtain⟨p1,p2⟩:=Oper.apart_spec hap
 unfold Oper.apart at hap
 have a1:∀d,x.dst=some d→d∉y.looksAt ops∧y.dst≠some d:=fun d hd=>by
  simp only[hd,Bool.and_eq_true,Bool.not_eq_true',bne_iff_ne]at hap
  exact⟨fun hm=>by have:=hap.1.1;simp[hm]at this,hap.1.2⟩
 have a2:∀d,y.dst=some d→d∉x.looksAt ops:=fun d hd hm=>by
  simp only[hd,Bool.and_eq_true,Bool.not_eq_true']at hap
  have:=hap.2
  simp[hm]at this
 have evx:∀(v:AV) (m:Mem) d,d∈y.looksAt ops→ev (stepSt s x.dst v m) (.tmp d)=ev s (.tmp d):=fun v m d hd=>ev_put fun d' hd' e=>by cases e;exact(a1 d hd').1 hd
 have evy:∀(v:AV) (m:Mem) d,d∈x.looksAt ops→ev (stepSt s y.dst v m) (.tmp d)=ev s (.tmp d):=fun v m d hd=>ev_put fun d' hd' e=>by cases e;exact a2 d hd' hd
 -- y at s,from y behind x
 have hmy:∀k∈(F j).1,(stepI P ops cs i s).m k=s.m k:=fun k hk=>by
  rw[e0]
  show(outI P ops cs i x s).2 k=s.m k
  obtain⟨_,_,_,l1,_,l2⟩:=local_I (P:=P) (cs:=cs) (σ:=s) (σ':=s) hx rfl (fun _ _=>rfl) (fun _ _=>rfl)
  rw[h1.2]at l1 l2
  rcases hF with hF|hF
  ·rw[(l2 hF.1).2]
  ·exact(l1 k fun hk'=>hF k hk' hk).2
 have ly:=local_I (P:=P) (cs:=cs) (σ:=stepI P ops cs i s) (σ':=s) hy (by rw[e0];rfl) (fun d hd=>by rw[e0];exact(evx _ _ d hd).symm) (fun k hk=>by rw[h2.2]at hk;exact(hmy k hk).symm)
 rw[h2.2]at ly
 obtain⟨y1,y2,y3,y4,y5,y6⟩:=ly
 have q1:okI P ops cs j s∧fpI P ops cs j s=F j:=⟨y1.2 h2.1,y2⟩
 have e1:=stepI_out (P:=P) (cs:=cs) (σ:=s) hy
 have hmx:∀k∈(F i).1,(stepI P ops cs j s).m k=s.m k:=fun k hk=>by
  rw[e1]
  show(outI P ops cs j y s).2 k=s.m k
  rcases hF with hF|hF
  ·rw[(y6 hF.2).1]
  ·exact(y4 k (hF k hk)).1
 have lx:=local_I (P:=P) (cs:=cs) (σ:=s) (σ':=stepI P ops cs j s) hx (by rw[e1];rfl) (fun d hd=>by rw[e1];exact evy _ _ d hd) (fun k hk=>by rw[h1.2]at hk;exact hmx k hk)
 rw[h1.2]at lx
 obtain⟨x1,x2,x3,x4,x5,x6⟩:=lx
 refine⟨q1,⟨x1.2 h1.1,x2⟩,?_⟩
 rw[stepI_out (P:=P) (cs:=cs) (σ:=stepI P ops cs j s) hx,stepI_out (P:=P) (cs:=cs) (σ:=stepI P ops cs i s) hy,x3,←y3]
 have hm:(outI P ops cs i x (stepI P ops cs j s)).2=(outI P ops cs j y (stepI P ops cs i s)).2:=by
  have m1:(stepI P ops cs j s).m=(outI P ops cs j y s).2:=by rw[e1];rfl
  have m2:(stepI P ops cs i s).m=(outI P ops cs i x s).2:=by rw[e0];rfl
  funext k
  rcases hF with⟨f1,f2⟩|hF
  ·rw[(x6 f1).1,(y6 f2).2,m1,m2,(x6 f1).2,(y6 f2).1]
  ·by_cases hki:k∈(F i).1
   ·rw[x5 k hki,(y4 k (hF k hki)).2,m2]
   ·by_cases hkj:k∈(F j).1
    ·rw[(x4 k hki).1,m1,←y5 k hkj]
    ·rw[(x4 k hki).1,(y4 k hkj).2,m1,m2,(y4 k hkj).1,(x4 k hki).2]
 rw[hm]
 generalize (outI P ops cs j y (stepI P ops cs i s)).2=M
 rw[e0,e1]
 show stepSt (stepSt s y.dst _ _) x.dst _ M=stepSt (stepSt s x.dst _ _) y.dst _ M
 unfold stepSt
 simp only[St.mk.injEq,true_and,and_true]
 cases hdx:x.dst with
 |none=>rfl
 |some dx=>
  cases hdy:y.dst with
  |none=>rfl
  |some dy=>
   have hne:dx≠dy:=fun e=>(a1 dx hdx).2 (by rw[hdy,e])
   funext t
   simp only[upd]
   by_cases t1:t=dx
   ·subst t1;simp[hne]
   ·simp[t1]
end
end
section
section
variable {P:Program} {base:Nat} {S0:Sh} {w0:W0}
abbrev Trace:=List (List Nat×Bool)
def reqR (P:Program)(r:RV)(σ:St)(o:Oper):Req:=areq P o.dst r (ev σ) o.op
def RunP (P:Program)(ops:Array Oper):List Oper→St→Trace→(St→Trace→Prop)→Prop
 | [],σ,tr,K=>K σ tr
 |o::rest,σ,tr,K=>∃r,dstOK σ.n o.dst∧match wantd ops σ o with
  |some true=>((reqR P r σ o).eff σ.m).ok∧RunP P ops rest (stepSt σ o.dst ((reqR P r σ o).eff σ.m).val ((reqR P r σ o).mem σ.m)) (tr++[((reqR P r σ o).ids,(reqR P r σ o).wr)]) K
  |some false=>RunP P ops rest (stepSt σ o.dst (.tup []) σ.m) (tr++[([],false)]) K
  |none=>False
def okF (P:Program)(ops:Array Oper)(cs:Nat→RV)(F:Nat→List Nat×Bool)(i:Nat)(σ:St):Prop:=okI P ops cs i σ∧fpI P ops cs i σ=F i
theorem run_of {ops : Array Oper} {K : St → Trace → Prop} : ∀ (l : List Oper) (k : Nat) (σ : St) (tr : Trace), (∀ j, l[j]? = ops[k + j]?) → tr.length = k → RunP P ops l σ tr K →
    ∃ (rs : List RV) (fl : Trace), fl.length = k + l.length ∧ (∀ j, j < k → fl[j]? = tr[j]?) ∧ ∀ (cs : Nat → RV) (F : Nat → List Nat × Bool), (∀ j, j < l.length → cs (k + j) = rs.getD j (.tup [])) → (∀ j, j < fl.length → F j = fl.getD j ([], false)) →
      runOK (okF P ops cs F) (stepI P ops cs) (List.range' k l.length) σ ∧ K (runEnd (stepI P ops cs) (List.range' k l.length) σ) fl := by
  intro l
  induction l with
  | nil =>
    intro k σ tr _ hk h
    exact ⟨[], tr, by simp [hk], fun _ _ => rfl, fun cs F _ _ => ⟨trivial, h⟩⟩
  | cons o rest ih =>
    intro k σ tr hl hk h
    have ho : ops[k]? = some o := by simpa using (hl 0).symm
    have hl' : ∀ j, rest[j]? = ops[k + 1 + j]? := fun j => by have := hl (j + 1); simpa [Nat.add_assoc, Nat.add_comm 1 j] using this
    obtain ⟨r, hd, h⟩ := h
    have finish : ∀ (σ' : St) (e : List Nat × Bool), (∀ cs : Nat → RV, cs k = r → okI P ops cs k σ ∧ fpI P ops cs k σ = e ∧ stepI P ops cs k σ = σ') → RunP P ops rest σ' (tr ++ [e]) K →
        ∃ (rs : List RV) (fl : Trace), fl.length = k + (o :: rest).length ∧ (∀ j, j < k → fl[j]? = tr[j]?) ∧ ∀ (cs : Nat → RV) (F : Nat → List Nat × Bool), (∀ j, j < (o :: rest).length → cs (k + j) = rs.getD j (.tup [])) → (∀ j, j < fl.length → F j = fl.getD j ([], false)) →
          runOK (okF P ops cs F) (stepI P ops cs) (List.range' k (o :: rest).length) σ ∧ K (runEnd (stepI P ops cs) (List.range' k (o :: rest).length) σ) fl := fun σ' e hs hr => by
      obtain ⟨rs, fl, f1, f2, f3⟩ := ih (k + 1) σ' (tr ++ [e]) hl' (by simp [hk]) hr
      refine ⟨r :: rs, fl, by rw [f1, List.length_cons]; omega, fun j hj => by rw [f2 j (by omega), List.getElem?_append_left (by omega)], fun cs F h1 h2 => ?_⟩
      obtain ⟨s1, s2, s3⟩ := hs cs (by simpa using h1 0 (by simp))
      have hF : F k = e := by
        have hk' : k < fl.length := by rw [f1]; omega
        rw [h2 k hk']
        have := f2 k (by omega)
        rw [List.getElem?_append_right (by omega), hk] at this
        simp [List.getD, this]
      obtain ⟨g1, g2⟩ := f3 cs F (fun j hj => by
        have := h1 (j + 1) (by simp only [List.length_cons]; omega)
        rw [show k + 1 + j = k + (j + 1) by omega, this]
        rfl) h2
      rw [List.length_cons, List.range'_succ]
      refine ⟨⟨⟨s1, by rw [s2, hF]⟩, by rw [s3]; exact g1⟩, ?_⟩
      show K (runEnd _ (List.range' (k + 1) rest.length) (stepI P ops cs k σ)) fl
      rw [s3]
      exact g2
    cases hw : wantd ops σ o with
    | none => simp only [hw] at h
    | some b =>
      simp only [hw] at h
      cases b with
      | false => exact finish _ _ (fun cs hc => ⟨by simp only [okI, ho, hw]; exact ⟨hd, trivial⟩, by simp only [fpI, ho, hw], by simp only [stepI, ho, hw]⟩) h
      | true => exact finish _ _ (fun cs hc => ⟨by simp only [okI, ho, hw, reqI, hc]; exact ⟨hd, h.1⟩, by simp only [fpI, ho, hw, reqI, hc]; rfl, by simp only [stepI, ho, hw, reqI, hc]; rfl⟩) h.2
theorem run_all {ops:Array Oper}{K:St→Trace→Prop}{σ:St}(h:RunP P ops ops.toList σ [] K):∃(cs:Nat→RV) (fl:Trace),fl.length=ops.size∧runOK (okF P ops cs (fun j=>fl.getD j ([],false))) (stepI P ops cs) (List.range' 0 ops.size) σ∧K (runEnd (stepI P ops cs) (List.range' 0 ops.size) σ) fl:=by
 obtain⟨rs,fl,f1,_,f3⟩:=run_of ops.toList 0 σ [] (fun j=>by simp) rfl h
 obtain⟨g1,g2⟩:=f3 (fun j=>rs.getD j (.tup [])) (fun j=>fl.getD j ([],false)) (fun j _=>by simp) (fun j _=>rfl)
 rw[Array.length_toList]at g1 g2
 exact⟨_,fl,by simpa using f1,g1,g2⟩
theorem region_ok {ro:Option Nat}{ops:Array Oper}{id:Nat}{σ:St}{K:St→Trace→Prop}{df:List Deferred}{a:Act}{w:World}{Q:Exit→Act→World→Prop}(h:RunP P ops ops.toList σ [] K)(hG:Gm base S0 w0 df σ a w)(hK:∀σ' tr a' w',K σ' tr→Gm base S0 w0 df σ' a' w'→Q .normal a' w'):(Code.region id ops false).wpIn (Fw ro) 0 P Q a w:=by
 obtain⟨cs,fl,f1,f2,f3⟩:=run_all h
 refine wpIn_region ?_
 rw[List.range_eq_range']
 have key:∀(l:List Nat) (σ:St) (a:Act) (w:World),runOK (okF P ops cs (fun j=>fl.getD j ([],false))) (stepI P ops cs) l σ→Gm base S0 w0 df σ a w→(∀a' w',Gm base S0 w0 df (runEnd (stepI P ops cs) l σ) a' w'→Q .normal a' w')→wpOpsIn (Fw ro) 0 P ops Q l a w:=by
  intro l
  induction l with
  |nil=>intro σ a w _ hG hQ;exact hQ a w hG
  |cons i l ih=>
   intro σ a w hr hG hQ
   rw[wpOpsIn_cons]
   exact opI_ok hr.1.1 hG fun a' w' hG'=>ih _ a' w' hr.2 hG' hQ
 exact key _ σ a w f2 hG fun a' w' hG'=>hK _ fl a' w' f3 hG'
def maskOf (acc:List Nat):List Edge→Nat→Nat
 | [],m=>m
 |e::l,m=>maskOf acc l (bif Region.binds .any e then m ||| 2 ^ e.on ||| acc.getD e.on 0 else m)
def masks:List Oper→List Nat→List Nat
 | [],acc=>acc
 |o::l,acc=>masks l (acc++[maskOf acc o.after.toList 0])
theorem maskOf_bit {acc:List Nat}{k:Nat}:∀{l:List Edge} {m:Nat},(maskOf acc l m).testBit k=true→m.testBit k=true∨∃e∈l,Region.binds .any e=true∧(k=e.on∨(acc.getD e.on 0).testBit k=true):=by
 intro l
 induction l with
 |nil=>intro m h;exact .inl h
 |cons e l ih=>
  intro m h
  rcases ih h with h|⟨e',h1,h2⟩
  ·cases hb:Region.binds .any e with
   |false=>rw[hb]at h;exact .inl h
   |true=>
    rw[hb]at h
    simp only[cond_true,Nat.testBit_or,Nat.testBit_two_pow,Bool.or_eq_true,decide_eq_true_eq]at h
    rcases h with(h|h)|h
    ·exact .inl h
    ·exact .inr ⟨e,by simp,hb,.inl h.symm⟩
    ·exact .inr ⟨e,by simp,hb,.inr h⟩
  ·exact .inr ⟨e',by simp[h1],h2⟩
theorem masks_closed {ops:Array Oper}(L:List Nat)(hL:∀i∈L,∀o,ops[i]?=some o→∀e∈o.after.toList,Region.binds .any e=true→e.on∈L):∀(l:List Oper) (acc:List Nat),(∀j,l[j]?=ops[acc.length+j]?)→(∀i∈L,∀k,(acc.getD i 0).testBit k=true→k∈L)→∀i∈L,∀k,((masks l acc).getD i 0).testBit k=true→k∈L:=by
 intro l
 induction l with
 |nil=>intro acc _ h;exact h
 |cons o l ih=>
  intro acc hl h
  refine ih _ (fun j=>?_) (fun i hi k hk=>?_)
  ·have:=hl (j+1)
   simp only[List.getElem?_cons_succ]at this
   rw[this,List.length_append,List.length_singleton,Nat.add_assoc,Nat.add_comm 1 j]
  ·by_cases h1:i<acc.length
   ·rw[List.getD_eq_getElem?_getD,List.getElem?_append_left h1,←List.getD_eq_getElem?_getD]at hk
    exact h i hi k hk
   ·by_cases h2:i=acc.length
    ·subst h2
     rw[List.getD_eq_getElem?_getD,List.getElem?_append_right (Nat.le_refl _),Nat.sub_self]at hk
     simp only[List.getElem?_cons_zero,Option.getD_some]at hk
     rcases maskOf_bit hk with hk|⟨e,he,hb,hk⟩
     ·simp at hk
     ·have hon:=hL acc.length hi o (by have:=hl 0;simpa using this.symm) e he hb
      rcases hk with rfl|hk
      ·exact hon
      ·exact h e.on hon k hk
    ·rw[List.getD_eq_getElem?_getD,List.getElem?_eq_none (by simp;omega)]at hk
     simp at hk
def disj:List Nat→List Nat→Bool
 | [],_=>true
 |k::l,r=>!hasN r k&&disj l r
theorem disj_ok {l r:List Nat}(h:disj l r=true):∀k∈l,k∉r:=by
 induction l with
 |nil=>intro k hk;simp at hk
 |cons x l ih=>
  simp only[disj,Bool.and_eq_true,Bool.not_eq_true']at h
  intro k hk
  rcases List.mem_cons.1 hk with rfl|hk
  ·intro hr;rw[hasN_iff.2 hr]at h;simp at h
  ·exact ih h.2 k hk
def pairB (ops:Array Oper)(fl:Trace)(ms:List Nat)(j:Nat)(y:Oper)(i:Nat):Bool:=
 (ms.getD j 0).testBit i||match ops[i]? with
  |none=>false
  |some x=>x.apart ops y&&(((!(fl.getD i ([],false)).2&&!(fl.getD j ([],false)).2)||disj (fl.getD i ([],false)).1 (fl.getD j ([],false)).1)||exOp x y)
def checkB (ops:Array Oper)(fl:Trace):Bool:=
 (List.range ops.size).all fun j=>match ops[j]? with
  |none=>false
  |some y=>(y.after.toList.all fun e=>!Region.binds .any e||decide (e.on<j))&&(List.range j).all (pairB ops fl (masks ops.toList []) j y)
def alf (n:Nat):Nat:=if n<1000000 then n else 1000000
theorem alfO {b:Nat}:alf (1000000+b)=1000000:=by unfold alf;rw[if_neg (by omega)]
theorem alfL {n:Nat}(h:n<1000000):alf n=n:=by unfold alf;rw[if_pos h]
def crsI:List Nat→List Nat
 | []=>[]
 |n::l=>alf n::crsI l
def crs:Trace→Trace
 | []=>[]
 | (l,w)::tr=>(crsI l,w)::crs tr
theorem crsI_eq (l:List Nat):crsI l=l.map alf:=by
 induction l with
 |nil=>rfl
 |cons n l ih=>simp[crsI,ih]
theorem crs_get (tr:Trace)(i:Nat):(crs tr).getD i ([],false)=(crsI (tr.getD i ([],false)).1,(tr.getD i ([],false)).2):=by
 induction tr generalizing i with
 |nil=>rfl
 |cons e tr ih=>
  obtain⟨l,w⟩:=e
  cases i with
  |zero=>rfl
  |succ i=>simpa[crs]using ih i
theorem disj_crs {l r:List Nat}(h:disj (crsI l) (crsI r)=true):disj l r=true:=by
 have key:∀(l r:List Nat),(∀k∈l,k∉r)→disj l r=true:=by
  intro l r
  induction l with
  |nil=>intro _;rfl
  |cons x l ih=>
   intro hh
   simp only[disj,Bool.and_eq_true,Bool.not_eq_true']
   refine⟨?_,ih fun k hk=>hh k (by simp[hk])⟩
   cases hx:hasN r x with
   |false=>rfl
   |true=>exact absurd (hasN_iff.1 hx) (hh x (by simp))
 refine key l r fun k hk hr=>?_
 have:=disj_ok h
 rw[crsI_eq,crsI_eq]at this
 exact this (alf k) (List.mem_map_of_mem hk) (List.mem_map_of_mem hr)
theorem checkB_crs {ops:Array Oper}{tr:Trace}(h:checkB ops (crs tr)=true):checkB ops tr=true:=by
 unfold checkB at h ⊢
 refine List.all_eq_true.2 fun j hj=>?_
 have h1:=List.all_eq_true.1 h j hj
 cases hy:ops[j]? with
 |none=>rw[hy]at h1;exact h1
 |some y=>
  rw[hy]at h1
  simp only[Bool.and_eq_true]at h1 ⊢
  refine⟨h1.1,List.all_eq_true.2 fun i hi=>?_⟩
  have h2:=List.all_eq_true.1 h1.2 i hi
  unfold pairB at h2 ⊢
  cases hx:ops[i]? with
  |none=>rw[hx]at h2;exact h2
  |some x=>
   rw[hx]at h2
   simp only[crs_get,Bool.or_eq_true,Bool.and_eq_true]at h2 ⊢
   rcases h2 with h2|⟨h2,h3⟩
   ·exact .inl h2
   ·exact .inr ⟨h2,h3.imp (fun h=>h.imp (fun h=>h) disj_crs) id⟩
theorem draw_ok {ro : Option Nat} {ops : Array Oper} {id : Nat} {σ : St} {K : St → Trace → Prop} {df : List Deferred} {a : Act} {w : World} {Q : Exit → Act → World → Prop} (hm : P.follows .mixedOrders = true) (h : RunP P ops ops.toList σ [] K) (hG : Gm base S0 w0 df σ a w)
    (hK : ∀ σ' tr a' w', K σ' tr → checkB ops tr = true ∧ (Gm base S0 w0 df σ' a' w' → Q .normal a' w')) : (Code.region id ops true).wpIn (Fw ro) 0 P Q a w := by
  obtain ⟨cs, fl, f1, f2, f3⟩ := run_all h
  have hcheck : checkB ops fl = true := (hK _ fl a w f3).1
  have hpair : ∀ i j, i < j → j < ops.size → ((masks ops.toList []).getD j 0).testBit i = true ∨ indI ops (fun j => fl.getD j ([], false)) i j := fun i j hij hj => by
    have h1 := List.all_eq_true.1 hcheck j (List.mem_range.2 hj)
    rw [Array.getElem?_eq_getElem hj] at h1
    simp only [Bool.and_eq_true] at h1
    have h2 := List.all_eq_true.1 h1.2 i (List.mem_range.2 hij)
    unfold pairB at h2
    rw [Array.getElem?_eq_getElem (show i < ops.size by omega)] at h2
    simp only [Bool.or_eq_true, Bool.and_eq_true, Bool.not_eq_true'] at h2
    rcases h2 with h2 | ⟨h2, h3⟩
    · exact .inl h2
    · refine .inr ⟨ops[i], ops[j], Array.getElem?_eq_getElem _, Array.getElem?_eq_getElem hj, h2, ?_⟩
      rcases h3 with (h3 | h3) | h3
      · exact .inl (.inl h3)
      · exact .inl (.inr (disj_ok h3))
      · exact .inr h3
  have hback : ∀ j o, ops[j]? = some o → ∀ e ∈ o.after.toList, Region.binds .any e = true → e.on < j := fun j o ho e he hb => by
    have hj : j < ops.size := (Array.getElem?_eq_some_iff.1 ho).1
    have h1 := List.all_eq_true.1 hcheck j (List.mem_range.2 hj)
    rw [ho] at h1
    simp only [Bool.and_eq_true] at h1
    have h2 := List.all_eq_true.1 h1.1 e he
    simpa [hb] using h2
  refine wpIn_region_any hm ?_
  -- whatever has been done
  have key : ∀ (fuel : Nat) (listed : Array Bool) (L : List Nat) (a : Act) (w : World), fuel + L.length = ops.size → listed.size = ops.size → L.Nodup → (∀ i ∈ L, i < ops.size) → (∀ i, i < ops.size → (listed.getD i true = true ↔ i ∈ L)) →
      (∀ i ∈ L, ∀ o, ops[i]? = some o → ∀ e ∈ o.after.toList, Region.binds .any e = true → e.on ∈ L) → L.Pairwise (fun a b => b < a → indI ops (fun j => fl.getD j ([], false)) b a) → Gm base S0 w0 df (runEnd (stepI P ops cs) L σ) a w → wpAnyIn (Fw ro) 0 P .any ops Q fuel listed a w := by
    have whole : ∀ (L : List Nat), L.Perm (List.range' 0 ops.size) → L.Pairwise (fun a b => b < a → indI ops (fun j => fl.getD j ([], false)) b a) → runOK (okF P ops cs (fun j => fl.getD j ([], false))) (stepI P ops cs) L σ ∧ runEnd (stepI P ops cs) L σ = runEnd (stepI P ops cs) (List.range' 0 ops.size) σ :=
      fun L hp hw => any_order _ _ (indI ops (fun j => fl.getD j ([], false))) (fun i j s hi h1 h2 => swapI i j s hi h1 h2) ops.size 0 L σ hp hw f2
    have hready : ∀ (listed : Array Bool) (L : List Nat), (∀ i, i < ops.size → (listed.getD i true = true ↔ i ∈ L)) → Region.ready .any ops listed = [] → ∀ n, ∀ i, i < n → i < ops.size → i ∈ L := fun listed L h2 hr n => by
      induction n with
      | zero => intro i h; omega
      | succ n ih =>
        intro i hi hin
        by_cases hL : i ∈ L
        · exact hL
        · exfalso
          have : i ∈ Region.ready .any ops listed := by
            unfold Region.ready
            refine List.mem_filter.2 ⟨List.mem_range.2 hin, ?_⟩
            have hl : listed.getD i true = false := by
              cases hh : listed.getD i true with
              | false => rfl
              | true => exact absurd ((h2 i hin).1 hh) hL
            rw [hl, Array.getElem?_eq_getElem hin]
            simp only [Bool.not_false, Bool.true_and, Option.map_some, Option.getD_some]
            rw [← Array.all_toList]
            refine List.all_eq_true.2 fun e he => ?_
            cases hb : Region.binds .any e with
            | false => rfl
            | true =>
              have hon := hback i ops[i] (Array.getElem?_eq_getElem hin) e he hb
              have hm' := (h2 e.on (by omega)).2 (ih e.on (by omega) (by omega))
              have : e.on < listed.size := by
                rcases Nat.lt_or_ge e.on listed.size with h | h
                · exact h
                · exfalso
                  have := (h2 i hin)
                  have hsz : listed.size ≤ i := by omega
                  have : listed.getD i true = true := by simp [Array.getD, Nat.not_lt.2 hsz]
                  rw [hl] at this
                  simp at this
              simp only [Bool.not_true, Bool.false_or]
              simpa [Array.getD, this] using hm'
          rw [hr] at this
          simp at this
    have hperm : ∀ (L : List Nat), L.Nodup → (∀ i ∈ L, i < ops.size) → (∀ i, i < ops.size → i ∈ L) → L.Perm (List.range' 0 ops.size) := fun L h1 h2 h3 => by
      rw [← List.range_eq_range']
      exact (List.perm_ext_iff_of_nodup h1 List.nodup_range).2 fun i => ⟨fun hi => List.mem_range.2 (h2 i hi), fun hi => h3 i (List.mem_range.1 hi)⟩
    intro fuel
    induction fuel with
    | zero =>
      intro listed L a w hf hsz hn hlt hlist hcl hpw hG
      have hall : ∀ i, i < ops.size → i ∈ L := fun i hi => by
        let rest := (List.range ops.size).filter fun k => decide (k ∉ L)
        have hp : (L ++ rest).Perm (List.range' 0 ops.size) := hperm _ (List.nodup_append.2 ⟨hn, List.nodup_range.filter _, fun p hp q hq e => by
            have := (List.mem_filter.1 hq).2
            simp only [decide_eq_true_eq] at this
            exact this (e ▸ hp)⟩) (fun k hk => by
            rcases List.mem_append.1 hk with hk | hk
            · exact hlt k hk
            · exact List.mem_range.1 (List.mem_filter.1 hk).1) (fun k hk => by
            by_cases hkL : k ∈ L
            · exact List.mem_append.2 (.inl hkL)
            · exact List.mem_append.2 (.inr (List.mem_filter.2 ⟨List.mem_range.2 hk, by simpa using hkL⟩)))
        have hlen := hp.length_eq
        rw [List.length_append, List.length_range'] at hlen
        have h0 : rest.length = 0 := by omega
        have hnil : rest = [] := List.eq_nil_of_length_eq_zero h0
        have : i ∈ L ++ rest := hp.mem_iff.2 (List.mem_range'_1.2 (by omega))
        rw [hnil, List.append_nil] at this
        exact this
      have hr : Region.ready .any ops listed = [] := by
        unfold Region.ready
        refine List.filter_eq_nil_iff.2 fun i hi => ?_
        have := (hlist i (List.mem_range.1 hi)).2 (hall i (List.mem_range.1 hi))
        simp [this]
      obtain ⟨_, e2⟩ := whole L (hperm L hn hlt hall) hpw
      rw [e2] at hG
      exact ⟨hr, (hK _ fl a w f3).2 hG⟩
    | succ fuel ih =>
      intro listed L a w hf hsz hn hlt hlist hcl hpw hG
      refine ⟨fun hr => ?_, fun i hi => ?_⟩
      · have hall := fun i hi => hready listed L hlist hr (i + 1) i (by omega) hi
        obtain ⟨_, e2⟩ := whole L (hperm L hn hlt hall) hpw
        rw [e2] at hG
        exact (hK _ fl a w f3).2 hG
      · unfold Region.ready at hi
        obtain ⟨h1, h2⟩ := List.mem_filter.1 hi
        have hin := List.mem_range.1 h1
        simp only [Bool.and_eq_true, Bool.not_eq_true'] at h2
        have hiL : i ∉ L := fun hL => by
          have := (hlist i hin).2 hL
          rw [this] at h2
          simp at h2
        rw [Array.getElem?_eq_getElem hin] at h2
        simp only [Option.map_some, Option.getD_some] at h2
        have hpre : ∀ e ∈ (ops[i]).after.toList, Region.binds .any e = true → e.on ∈ L := fun e he hb => by
          have h3 := h2.2
          rw [← Array.all_toList] at h3
          have := List.all_eq_true.1 h3 e he
          rw [hb] at this
          simp only [Bool.not_true, Bool.false_or] at this
          have hon := hback i ops[i] (Array.getElem?_eq_getElem hin) e he hb
          have hlt2 : e.on < listed.size := by omega
          exact (hlist e.on (by omega)).1 (by simpa [Array.getD, hlt2] using this)
        have hcl2 : ∀ k ∈ L ++ [i], ∀ o, ops[k]? = some o → ∀ e ∈ o.after.toList, Region.binds .any e = true → e.on ∈ L ++ [i] := fun k hk o ho e he hb => by
          rcases List.mem_append.1 hk with hk | hk
          · exact List.mem_append.2 (.inl (hcl k hk o ho e he hb))
          · have : k = i := by simpa using hk
            subst this
            rw [Array.getElem?_eq_getElem hin] at ho
            cases ho
            exact List.mem_append.2 (.inl (hpre e he hb))
        have hanc : ∀ (M : List Nat), (∀ k ∈ M, ∀ o, ops[k]? = some o → ∀ e ∈ o.after.toList, Region.binds .any e = true → e.on ∈ M) → ∀ k ∈ M, ∀ q, ((masks ops.toList []).getD k 0).testBit q = true → q ∈ M :=
          fun M hM => masks_closed M hM ops.toList [] (fun j => by simp) (fun i _ k hk => by simp at hk)
        have hpw2 : (L ++ [i]).Pairwise (fun a b => b < a → indI ops (fun j => fl.getD j ([], false)) b a) := by
          refine List.pairwise_append.2 ⟨hpw, List.pairwise_singleton _ _, fun p hp b hb hlt' => ?_⟩
          have : b = i := by simpa using hb
          subst this
          rcases hpair b p hlt' (hlt p hp) with h | h
          · exact absurd (hanc L hcl p hp b h) hiL
          · exact h
        have hn2 : (L ++ [i]).Nodup := List.nodup_append.2 ⟨hn, by simp, fun p hp q hq => by
          have : q = i := by simpa using hq
          subst this
          exact fun e => hiL (e ▸ hp)⟩
        have hlt3 : ∀ k ∈ L ++ [i], k < ops.size := fun k hk => by
          rcases List.mem_append.1 hk with hk | hk
          · exact hlt k hk
          · have : k = i := by simpa using hk
            omega
        -- what is left, in the order of the text
        have hok : okF P ops cs (fun j => fl.getD j ([], false)) i (runEnd (stepI P ops cs) L σ) := by
          let rest := (List.range ops.size).filter fun k => decide (k ∉ L ++ [i])
          have hfull : ((L ++ [i]) ++ rest).Perm (List.range' 0 ops.size) := hperm _ (List.nodup_append.2 ⟨hn2, List.nodup_range.filter _, fun p hp q hq e => by
              have := (List.mem_filter.1 hq).2
              simp only [decide_eq_true_eq] at this
              exact this (e ▸ hp)⟩) (fun k hk => by
              rcases List.mem_append.1 hk with hk | hk
              · exact hlt3 k hk
              · exact List.mem_range.1 (List.mem_filter.1 hk).1) (fun k hk => by
              by_cases hkL : k ∈ L ++ [i]
              · exact List.mem_append.2 (.inl hkL)
              · exact List.mem_append.2 (.inr (List.mem_filter.2 ⟨List.mem_range.2 hk, by simpa using hkL⟩)))
          have hpf : ((L ++ [i]) ++ rest).Pairwise (fun a b => b < a → indI ops (fun j => fl.getD j ([], false)) b a) := by
            refine List.pairwise_append.2 ⟨hpw2, ?_, fun p hp q hq hlt' => ?_⟩
            · refine (List.Pairwise.filter _ (List.pairwise_lt_range)).imp ?_
              intro a b hab hba
              omega
            · have hq2 := (List.mem_filter.1 hq).2
              simp only [decide_eq_true_eq] at hq2
              rcases hpair q p hlt' (hlt3 p hp) with h | h
              · exact absurd (hanc (L ++ [i]) hcl2 p hp q h) hq2
              · exact h
          have := (whole _ hfull hpf).1
          rw [List.append_assoc] at this
          exact ((runOK_append _ _ _ _ _).1 this).2.1
        refine opI_ok hok.1 hG fun a' w' hG' => ?_
        refine ih (listed.setIfInBounds i true) (L ++ [i]) a' w' (by simp; omega) (by simp [hsz]) hn2 hlt3 (fun k hk => ?_) hcl2 hpw2 (by rw [runEnd_append]; exact hG')
        by_cases hki : k = i
        · subst hki
          have : k < listed.size := by omega
          simp [Array.getD, this]
        · have : (listed.setIfInBounds i true).getD k true = listed.getD k true := by
            simp [Ne.symm hki]
          rw [this, hlist k hk]
          simp [hki]
  obtain ⟨c, h1, h2, h3⟩ := hG
  have hbelow : Below w.heap.size w { w with drawn := w.drawn + 1 } := ⟨rfl, rfl, rfl, Nat.le_refl _, fun _ _ => rfl⟩
  obtain ⟨g, r⟩ := h2.calls hbelow (fun _ _ => False) (fun _ b hb => hb.elim)
  exact key ops.size (Array.replicate ops.size false) [] a _ (by simp) (by simp) List.nodup_nil (fun i hi => by simp at hi) (fun i hi => by simp [Array.getD, hi]) (fun i hi => by simp at hi) List.Pairwise.nil
    ⟨_, ⟨h1.1, fun d hd => (h1.2 d hd).goes g, h1.3.mono (g.S 0) (g.heap 0)⟩, r, h3.goes g⟩
end
end
section
section
variable {P:Program}
def AW (P:Program)(c:Code)(σ:St)(Q:Exit→St→Prop):Prop:=∀(base:Nat) (S0:Sh) (w0:W0) (df:List Deferred) (a:Act) (w:World),Gm base S0 w0 df σ a w→
 c.wpIn (Fw w0.ro) 0 P (fun e a' w'=>∃σ',Q e σ'∧Gm base S0 w0 df σ' a' w') a w
def thenQ (Q:Exit→St→Prop)(K:St→Prop):Exit→St→Prop
 | .normal,σ=>K σ
 |e,σ=>Q e σ
def blockQ (id:Nat)(Q:Exit→St→Prop):Exit→St→Prop
 | .exit id',σ=>if id'=id then Q .normal σ else Q (.exit id') σ
 |e,σ=>Q e σ
theorem AW.mono {c:Code}{σ:St}{Q Q':Exit→St→Prop}(h:AW P c σ Q)(hq:∀e σ,Q e σ→Q' e σ):AW P c σ Q':=fun base S0 w0 df a w hG=>
 wpIn_mono (h base S0 w0 df a w hG) fun e a' w' ⟨σ',h1,h2⟩=>⟨σ',hq e σ' h1,h2⟩
theorem AW.skip {σ:St}{Q:Exit→St→Prop}(h:Q .normal σ):AW P .skip σ Q:=fun _ _ _ _ _ _ hG=>wpIn_skip ⟨σ,h,hG⟩
theorem AW.ret {σ:St}{Q:Exit→St→Prop}(h:Q .ret σ):AW P .ret σ Q:=fun _ _ _ _ _ _ hG=>wpIn_ret ⟨σ,h,hG⟩
theorem AW.exit {id:Nat}{σ:St}{Q:Exit→St→Prop}(h:Q (.exit id) σ):AW P (.exit id) σ Q:=fun _ _ _ _ _ _ hG=>wpIn_exit ⟨σ,h,hG⟩
theorem AW.block {id:Nat}{c:Code}{σ:St}{Q:Exit→St→Prop}(h:AW P c σ (blockQ id Q)):AW P (.block id c) σ Q:=fun base S0 w0 df a w hG=>
 wpIn_block (wpIn_mono (h base S0 w0 df a w hG) fun e a' w' ⟨σ',h1,h2⟩=>by
  cases e with
  |exit id'=>
   by_cases hid:id'=id
   ·simp only[blockQ,hid,if_true]at h1
    simp only[Exit.inBlock,hid,if_true]
    exact⟨σ',h1,h2⟩
   ·simp only[blockQ,hid,if_false]at h1
    simp only[Exit.inBlock,hid,if_false]
    exact⟨σ',h1,h2⟩
  |_=>exact⟨σ',h1,h2⟩)
theorem AW.seq {x y:Code}{σ:St}{Q:Exit→St→Prop}(h:AW P x σ (thenQ Q fun σ'=>AW P y σ' Q)):AW P (.seq x y) σ Q:=fun base S0 w0 df a w hG=>
 wpIn_seq (wpIn_mono (h base S0 w0 df a w hG) fun e a' w' ⟨σ',h1,h2⟩=>by
  cases e with
  |normal=>exact h1 base S0 w0 df a' w' h2
  |_=>exact⟨σ',h1,h2⟩)
theorem AW.cond {c:Operand}{x y:Code}{σ:St}{Q:Exit→St→Prop}{b:Bool}(hc:ev σ c=.one (.c (.v (.bool b))))(ht:b=true→AW P x σ Q)(hf:b=false→AW P y σ Q):AW P (.cond c x y) σ Q:=fun base S0 w0 df a w hG=>by
 obtain⟨cc,h1,h2,h3⟩:=hG
 have hv:=ev_ok h1 c
 rw[hc]at hv
 have hv:a.eval c=.bool b:=R.val hv
 refine wpIn_cond hv ?_
 cases b with
 |true=>exact ht rfl base S0 w0 df a w ⟨cc,h1,h2,h3⟩
 |false=>exact hf rfl base S0 w0 df a w ⟨cc,h1,h2,h3⟩
theorem AW.region {id:Nat}{ops:Array Oper}{σ:St}{Q:Exit→St→Prop}(h:RunP P ops ops.toList σ [] fun σ' _=>Q .normal σ'):AW P (.region id ops false) σ Q:=fun base S0 w0 df a w hG=>
 region_ok h hG fun σ' tr a' w' h1 h2=>⟨σ',h1,h2⟩
theorem AW.draw {id:Nat}{ops:Array Oper}{σ:St}{Q:Exit→St→Prop}(hm:P.follows .mixedOrders=true)(h:RunP P ops ops.toList σ [] fun σ' tr=>checkB ops (crs tr)=true∧Q .normal σ'):AW P (.region id ops true) σ Q:=fun base S0 w0 df a w hG=>
 draw_ok hm h hG fun σ' tr a' w' h1=>⟨checkB_crs h1.1,fun h2=>⟨σ',h1.2,h2⟩⟩
theorem wpIn_loop_n {F:Fence}{nn:Nat}{c:Code}{Q:Exit→Act→World→Prop}{a:Act}{w:World}(J:Nat→Act→World→Prop){n:Nat}(h0:J n a w)(round:∀n a w,J n a w→c.wpIn F nn P (Exit.then (fun a' w'=>∃m,m<n∧J m a' w') Q) a w):(Code.loop c).wpIn F nn P Q a w:=by
 intro b k cs hro hb hr
 have key:∀n a w,J n a w→∃e a' w',Q e a' w'∧ArrivesIn (Machine.fenced P F) P (lone (b.atR a (.code c::.inLoop c::k)) cs w) b k cs e a' w':=by
  intro n
  induction n using Nat.strongRecOn with
  |_ n ih=>
   intro a w hI
   obtain⟨e,a₁,w₁,hq,harr⟩:=round n a w hI b (.inLoop c::k) cs hro hb hr
   cases e with
   |normal=>
    obtain⟨m,hlt,hI₁⟩:=hq
    obtain⟨e₂,a₂,w₂,hq₂,harr₂⟩:=ih m hlt a₁ w₁ hI₁
    exact⟨e₂,a₂,w₂,hq₂,.of_steps (StepsIn.trans harr (.one (fenced_calm hb hr rfl) stepR_inLoop)) harr₂⟩
   |exit id=>exact⟨_,a₁,w₁,hq,.pass (x:=.inLoop c) rfl (fun _ _=>.inl (by simp)) harr⟩
   |goto l=>exact⟨_,a₁,w₁,hq,.pass (x:=.inLoop c) rfl (fun _ _=>.inl (by simp)) harr⟩
   |ret=>exact⟨_,a₁,w₁,hq,.pass (x:=.inLoop c) rfl (fun _ _=>.inl (by simp)) harr⟩
   |panic ch=>exact⟨_,a₁,w₁,hq,.pass (x:=.inLoop c) rfl (fun _ _=>.inl (by simp)) harr⟩
   |outgrown=>exact⟨_,a₁,w₁,hq,.pass (x:=.inLoop c) rfl (fun _ _=>.inl (by simp)) harr⟩
 obtain⟨e,a',w',hq,harr⟩:=key n a w h0
 exact⟨e,a',w',hq,.of_steps (.one (fenced_calm hb hr rfl) stepR_loop) harr⟩
theorem AW.loop {c:Code}{σ:St}{Q:Exit→St→Prop}(I:Nat→St→Prop){n:Nat}(h0:I n σ)(round:∀n σ,I n σ→AW P c σ (thenQ Q fun σ'=>∃m,m<n∧I m σ')):AW P (.loop c) σ Q:=fun base S0 w0 df a w hG=>
 wpIn_loop_n (fun n a w=>∃σ,I n σ∧Gm base S0 w0 df σ a w) ⟨σ,h0,hG⟩ fun n a w ⟨σ1,h1,h2⟩=>
  wpIn_mono (round n σ1 h1 base S0 w0 df a w h2) fun e a' w' ⟨σ',h3,h4⟩=>by
   cases e with
   |normal=>obtain⟨m,h5,h6⟩:=h3;exact⟨m,h5,σ',h6,h4⟩
   |_=>exact⟨σ',h3,h4⟩
def A.ids:A→List Nat
 | .ptr id _=>[id]
 | .own id _=>[id]
 | .pel id _ _ _=>[id]
 | .mp id=>[id]
 |_=>[]
def idsL:List A→List Nat
 | []=>[]
 |a::l=>a.ids++idsL l
def idsM:List (Bool×List A)→List Nat
 | []=>[]
 | (_,cs)::l=>idsL cs++idsM l
def AV.ids:AV→List Nat
 | .one a=>a.ids
 | .agg cs=>idsL cs
 | .tupo rs=>idsM rs
 |_=>[]
def Blk.ids:Blk→List Nat
 | .box cs=>idsL cs
 |_=>[]
def live (m:Mem):List Nat→Prop
 | []=>True
 |i::l=>(match m i with|some _=>True|none=>False)∧live m l
theorem live_mem {m:Mem}:∀{l:List Nat},live m l→∀i∈l,∃b,m i=some b:=by
 intro l
 induction l with
 |nil=>intro _ i hi;simp at hi
 |cons x l ih=>
  intro h i hi
  rcases List.mem_cons.1 hi with rfl|hi
  ·have h1:=h.1
   cases hm:m i with
   |none=>rw[hm]at h1;exact h1.elim
   |some b=>exact⟨b,rfl⟩
  ·exact ih h.2 i hi
def LeM (m m':Mem):Prop:=∀id b,m' id=some b→m id=some b
theorem isBox.less {m m':Mem}{id:Nat}{b:Blk}(hm:LeM m m')(hb:m' id=some b)(h:isBox m id):isBox m' id:=by
 have:=hm id b hb
 unfold isBox at *
 rw[this]at h
 rw[hb]
 exact h
theorem VA.less {c:Ctx}{w:World}{m m':Mem}{a:A}{v:Value}(h:VA c w m a v)(hm:LeM m m')(hl:live m' a.ids):VA c w m' a v:=by
 have hl:=live_mem hl
 have hr:∀id L b,m' id=some b→rowLen m id=some L→rowLen m' id=some L:=fun id L b hb hL=>by
  simp only[rowLen,hm id b hb]at hL
  simp only[rowLen,hb]
  exact hL
 cases a with
 |ptr id off=>
  obtain⟨hc,he⟩:=h
  obtain⟨b,hb⟩:=hl id (by simp[A.ids])
  exact⟨hc.less hm hb,he⟩
 |mp id=>
  obtain⟨hc,he⟩:=h
  obtain⟨b,hb⟩:=hl id (by simp[A.ids])
  exact⟨hc.less hm hb,he⟩
 |own id n=>
  obtain⟨h0,L,h1,h2⟩:=h
  obtain⟨b,hb⟩:=hl id (by simp[A.ids])
  exact⟨h0,L,hr id L b hb h1,h2⟩
 |pel id n i off=>
  obtain⟨h0,L,h1,h2,h3⟩:=h
  obtain⟨b,hb⟩:=hl id (by simp[A.ids])
  exact⟨h0,L,hr id L b hb h1,h2,fun e ty sz xs hx=>h3 e ty sz xs (by simp only[rowsOf,hm id b hb];simp only[rowsOf,hb]at hx;exact hx)⟩
 |c x=>exact h
 |el k cs off=>exact h
 |full k xs=>exact h
 |nil=>exact h
 |bare=>exact h
 |any=>exact h
theorem live_split {m':Mem}{l k:List Nat}(h:live m' (l++k)):live m' l∧live m' k:=by
 induction l with
 |nil=>exact⟨trivial,h⟩
 |cons x l ih=>exact⟨⟨h.1,(ih h.2).1⟩,(ih h.2).2⟩
theorem F2.less {c:Ctx}{w:World}{m m':Mem}(hm:LeM m m'):∀{cs:List A} {vs:List Value},F2 (VA c w m) cs vs→live m' (idsL cs)→F2 (VA c w m') cs vs:=by
 intro cs
 induction cs with
 |nil=>intro vs h _;rw[h.unnil];exact F2.nil
 |cons a cs ih=>
  intro vs h hl
  obtain⟨v,vs,rfl,h1,h2⟩:=h.uncons
  obtain⟨l1,l2⟩:=live_split hl
  exact F2.cons (h1.less hm l1) (ih h2 l2)
theorem VM.less {c:Ctx}{w:World}{m m':Mem}(hm:LeM m m'):∀{rs:List (Bool×List A)} {vs:List Value},F2 (VM c w m) rs vs→live m' (idsM rs)→F2 (VM c w m') rs vs:=by
 intro rs
 induction rs with
 |nil=>intro vs h _;rw[h.unnil];exact F2.nil
 |cons x rs ih=>
  intro vs h hl
  obtain⟨v,vs,rfl,h1,h2⟩:=h.uncons
  obtain⟨b,cs⟩:=x
  obtain⟨l1,l2⟩:=live_split hl
  refine F2.cons ?_ (ih h2 l2)
  cases b with
  |true=>obtain⟨us,e1,e2⟩:=h1;exact⟨us,e1,e2.less hm l1⟩
  |false=>
   obtain⟨a,e1,e2⟩:=h1
   have e1:cs=[a]:=e1
   subst e1
   exact⟨a,rfl,e2.less hm (by simpa[idsL]using l1)⟩
theorem VV.less {c:Ctx}{w:World}{m m':Mem}{x:AV}{v:Value}(h:VV c w m x v)(hm:LeM m m')(hl:live m' x.ids):VV c w m' x v:=by
 cases x with
 |one a=>exact VA.less h hm hl
 |agg cs=>obtain⟨vs,h1,h2⟩:=h;exact⟨vs,h1,h2.less hm hl⟩
 |tup rs=>exact h
 |tupo rs=>obtain⟨vs,h1,h2⟩:=h;exact⟨vs,h1,VM.less hm h2 hl⟩
 |junk=>exact h
def LeV (x y:AV):Prop:=∀(c:Ctx) (w:World) (m:Mem) (v:Value),VV c w m x v→VV c w m y v
theorem LeV.refl (x:AV):LeV x x:=fun _ _ _ _ h=>h
theorem LeV.junk (x:AV):LeV x .junk:=fun _ _ _ _ _=>trivial
theorem LeV.nil:LeV (.one .nil) (.one (.c (.row []))):=fun c w m v h=>by rw[show v=.slice none 0 0 from h];exact R.nil
theorem LeV.full {k:Nat}{xs:List (List CV)}:LeV (.one (.full k xs)) (.one (.c (.rowc k xs))):=fun c w m v h=>h.choose_spec.2
def LeT (m':Mem)(f g:Nat→AV):Prop:=∀d,LeV (f d) (g d)∧live m' (g d).ids
theorem LeT.junk {m':Mem}{f:Nat→AV}:LeT m' f (fun _=>.junk):=fun _=>⟨LeV.junk _,trivial⟩
theorem LeT.upd {m':Mem}{f g:Nat→AV}{d:Nat}{x:AV}(h1:LeV (f d) x)(h2:live m' x.ids)(h:LeT m' f g):LeT m' f (upd g d x):=fun e=>by
 by_cases he:e=d
 ·subst he;rw[upd_same];exact⟨h1,h2⟩
 ·rw[upd_ne _ _ he];exact h e
theorem LeT.same {m':Mem}{f g:Nat→AV}{d:Nat}{x:AV}(h1:f d=x)(h2:live m' x.ids)(h:LeT m' f g):LeT m' f (Abs.upd g d x):=LeT.upd (h1▸LeV.refl _) h2 h
theorem LeM.none {m:Mem}:LeM m (fun _=>none):=fun id b h=>by simp at h
theorem LeM.same {m m':Mem}{d:Nat}{b:Option Blk}(h1:m d=b)(h:LeM m m'):LeM m (Abs.upd m' d b):=fun e b' hb=>by
 by_cases he:e=d
 ·subst he;rw[upd_same]at hb;rw[h1,hb]
 ·rw[upd_ne _ _ he]at hb;exact h e b' hb
def LiveM (k:Mem)(m:Mem):Prop:=∀id b,m id=some b→live k b.ids
theorem LiveM.none {k:Mem}:LiveM k (fun _=>none):=fun id b h=>by simp at h
theorem LiveM.upd {k m:Mem}{d:Nat}{b:Option Blk}(h1:match b with|some b=>live k b.ids|Option.none=>True)(h:LiveM k m):LiveM k (Abs.upd m d b):=fun e b' hb=>by
 by_cases he:e=d
 ·subst he;rw[upd_same]at hb;subst hb;exact h1
 ·rw[upd_ne _ _ he]at hb;exact h e b' hb
theorem Gm.less {base:Nat}{S0:Sh}{w0:W0}{df:List Deferred}{σ σ':St}{a:Act}{w:World}(h:Gm base S0 w0 df σ a w)(hn:σ'.n=σ.n)(hT:LeT σ'.m σ.t σ'.t)(hM:LeM σ.m σ'.m)(hL:LiveM σ'.m σ'.m):Gm base S0 w0 df σ' a w:=by
 obtain⟨c,h1,h2,h3⟩:=h
 refine⟨c,⟨by rw[hn];exact h1.1,fun d hd=>?_,h1.3⟩,?_,h3⟩
 ·obtain⟨k1,k2⟩:=hT d
  have hx:=k1 c w σ.m _ (h1.2 d (by rw[←hn];exact hd))
  exact hx.less hM k2
 ·refine⟨fun id b hb=>?_,fun id id' b e1 e2=>?_,h2.lt,h2.old,h2.new,h2.below,h2.rok,h2.size,h2.s0⟩
  ·have h4:=h2.blk id b (hM id b hb)
   cases b with
   |box cs=>
    obtain⟨q1,q2,vs,T,q3,q4⟩:=h4
    exact⟨q1,q2,vs,T,q3,q4.less hM (hL id _ hb)⟩
   |rows e sz xs=>exact h4
   |froz xs=>exact h4
   |gone L=>exact h4
   |lent j e sz xs=>exact h4
   |fbox cs=>exact h4
   |obox cs=>exact h4
   |orec r=>exact h4
   |mapb a ks xs=>exact h4
   |fmap a ks xs=>exact h4
  ·have hb:∀id b,blockOf c σ'.m id=some b→blockOf c σ.m id=some b:=fun id b hb=>by
    unfold blockOf at hb ⊢
    cases hm:σ'.m id with
    |none=>rw[hm]at hb;simp at hb
    |some blk=>rw[hM id blk hm];rw[hm]at hb;exact hb
   exact h2.inj id id' b (hb _ _ e1) (hb _ _ e2)
theorem AW.less {c:Code}{σ:St}(σ':St){Q:Exit→St→Prop}(hn:σ'.n=σ.n)(hT:LeT σ'.m σ.t σ'.t)(hM:LeM σ.m σ'.m)(hL:LiveM σ'.m σ'.m)(h:AW P c σ' Q):AW P c σ Q:=fun base S0 w0 df a w hG=>h base S0 w0 df a w (hG.less hn hT hM hL)
theorem AW.weak {c:Code}{σ:St}{Q:Exit→St→Prop}{K:Exit→St→Prop}(h:AW P c σ K)(hK:∀e σ1,K e σ1→Q e σ1∨∃σ2,σ2.n=σ1.n∧LeT σ2.m σ1.t σ2.t∧LeM σ1.m σ2.m∧LiveM σ2.m σ2.m∧Q e σ2):AW P c σ Q:=fun base S0 w0 df a w hG=>
 wpIn_mono (h base S0 w0 df a w hG) fun e a' w' ⟨σ',h1,h2⟩=>by
  rcases hK e σ' h1 with h3|⟨σ2,e1,e2,e3,e4,e5⟩
  ·exact⟨σ',h3,h2⟩
  ·exact⟨σ2,e5,h2.less e1 e2 e3 e4⟩
def Less (σ σ':St):Prop:=σ'.n=σ.n∧LeT σ'.m σ.t σ'.t∧LeM σ.m σ'.m∧LiveM σ'.m σ'.m
theorem AW.loopW {c:Code}{σ:St}{Q:Exit→St→Prop}(I:Nat→St→Prop){n:Nat}(σ0:St)(h0:I n σ0)(hl:Less σ σ0)(round:∀n σ,I n σ→AW P c σ (thenQ Q fun σ'=>∃m,m<n∧∃σ2,I m σ2∧Less σ' σ2)):AW P (.loop c) σ Q:=by
 refine AW.less σ0 hl.1 hl.2.1 hl.2.2.1 hl.2.2.2 (AW.loop I h0 fun n σ hI=>AW.weak (round n σ hI) fun e σ1 h=>?_)
 cases e with
 |normal=>
  obtain⟨m,h1,σ2,h2,h3⟩:=h
  exact .inr ⟨σ2,h3.1,h3.2.1,h3.2.2.1,h3.2.2.2,m,h1,h2⟩
 |_=>exact .inl h
theorem AW.fresh {c:Code}{σ:St}{Q:Exit→St→Prop}(d id:Nat)(e:TypeId)(sz:Nat)(hs:0<sz)(hd:σ.t d=.one .nil)(hm:σ.m id=none)(h:AW P c ⟨σ.n,upd σ.t d (.one (.own id 0)),upd σ.m id (some (.rows e sz []))⟩ Q):AW P c σ Q:=fun base S0 w0 df a w hG=>by
 refine h base S0 w0 df a w ?_
 obtain⟨cc,h1,h2,h3⟩:=hG
 obtain⟨g,r,hv⟩:=h2.rows hm (e:=e) (sz:=sz) (xs:=[]) (v:=.slice none 0 0) (Below.refl _ w) (by simp) hs (by simp) (vss:=[]) F2.nil (World.ownsRow_nil _ _ _ _)
 refine⟨_,⟨h1.1,fun q hq=>?_,h1.3.mono (g.S 0) (g.heap 0)⟩,r,h3.goes g⟩
 show VV _ w _ (upd σ.t d (.one (.own id 0)) q) _
 by_cases hqd:q=d
 ·subst hqd
  rw[upd_same]
  have:=h1.2 q hq
  rw[hd]at this
  rw[show a.tmps.getD q undef=.slice none 0 0 from this]
  exact hv
 ·rw[upd_ne _ _ hqd]
  exact(h1.2 q hq).goes g
theorem AW.empty {c:Code}{σ:St}{Q:Exit→St→Prop}{j:Nat}(d:Nat)(hd:σ.t d=.one (.c (.rowc j [])))(h1:AW P c ⟨σ.n,upd σ.t d (.one .nil),σ.m⟩ Q)(h2:AW P c ⟨σ.n,upd σ.t d (.one .bare),σ.m⟩ Q):AW P c σ Q:=fun base S0 w0 df a w hG=>by
 obtain⟨cc,t1,t2,t3⟩:=hG
 by_cases hdn:d<σ.n
 ·have hv:=t1.2 d hdn
  rw[hd]at hv
  have hv:R cc.S w (.rowc j []) (a.tmps.getD d undef):=hv
  have go:∀x:A,VA cc w σ.m x (a.tmps.getD d undef)→Gm base S0 w0 df ⟨σ.n,upd σ.t d (.one x),σ.m⟩ a w:=fun x hx=>by
   refine⟨cc,⟨t1.1,fun q hq=>?_,t1.3⟩,t2,t3⟩
   show VV cc w _ (upd σ.t d (.one x) q) _
   by_cases hqd:q=d
   ·subst hqd;rw[upd_same];exact hx
   ·rw[upd_ne _ _ hqd];exact t1.2 q hq
  generalize a.tmps.getD d undef=v at hv go
  cases hv with
  |nil=>exact h1 base S0 w0 df a w (go .nil rfl)
  |bare h=>exact h2 base S0 w0 df a w (go .bare ⟨_,_,rfl,h⟩)
  |row g h=>exact absurd rfl h
 ·refine h1 base S0 w0 df a w ⟨cc,⟨t1.1,fun q hq=>?_,t1.3⟩,t2,t3⟩
  have hq:q<σ.n:=hq
  show VV cc w _ (upd σ.t d (.one .nil) q) _
  rw[upd_ne _ _ (by omega)]
  exact t1.2 q hq
theorem AW.freeze {c:Code}{σ:St}{Q:Exit→St→Prop}(d id:Nat){n:Nat}{e:TypeId}{sz:Nat}{xs:List (List CV)}(hd:σ.t d=.one (.own id n))(hm:σ.m id=some (.rows e sz xs))(hn:xs.length=n)(h:AW P c ⟨σ.n,upd σ.t d (.one (.c (.row xs))),upd σ.m id (some (.froz xs))⟩ Q):AW P c σ Q:=fun base S0 w0 df a w hG=>by
 refine h base S0 w0 df a w ?_
 obtain⟨cc,h1,h2,h3⟩:=hG
 obtain⟨g,r,hv⟩:=h2.freeze hm
 refine⟨_,⟨h1.1,fun q hq=>?_,h1.3.mono (g.S 0) (g.heap 0)⟩,r,h3.goes g⟩
 show VV _ w _ (upd σ.t d (.one (.c (.row xs))) q) _
 by_cases hqd:q=d
 ·subst hqd
  rw[upd_same]
  have:=h1.2 q hq
  rw[hd]at this
  obtain⟨_,L,hL,hle,he⟩:=this
  have hL':xs.length=L:=by simpa[rowLen,hm]using hL
  rw[he (by omega)]
  exact hv
 ·rw[upd_ne _ _ hqd]
  exact(h1.2 q hq).goes g
inductive C0:CV→Prop
 |v {x:Value}:C0 (.v x)
 |row {xs:List (List CV)}:(∀us∈xs,∀u∈us,C0 u)→C0 (.rowc 0 xs)
 |ptr {cs:List CV} {off:Nat}:(∀u∈cs,C0 u)→C0 (.ptrc 0 cs off)
 |fn {f:FuncId} {a:Bool} {first caps:List CV}:(∀u∈first,C0 u)→(∀u∈caps,C0 u)→C0 (.fn f a first caps)
 |map {a:Bool} {ks:List Value} {xs:List (List CV)}:(∀us∈xs,∀u∈us,C0 u)→C0 (.mapc a ks xs)
theorem R.drop {S:Sh}{w:World}{x:CV}{v:Value}(h:R S w x v):C0 x→R (fun k b=>k=0∧S k b) w x v:=by
 induction h with
 |v h=>intro _;exact .v h
 |nil=>intro h;cases h;exact .nil
 |bare h=>intro h';cases h';exact .bare h
 |row g h1 h2 h3 h4 h5 h6 h7 ih=>
  intro h'
  cases h' with
  |row hc=>exact .row g h1 h2 h3 ⟨rfl,h4⟩ h5 h6 fun i us hi j u hu=>ih i us hi j u hu (hc us (List.mem_of_getElem? hi) u (List.mem_of_getElem? hu))
 |ptr h1 h2 h3 h4 ih=>
  intro h'
  cases h' with
  |ptr hc=>exact .ptr ⟨rfl,h1⟩ h2 h3 fun i x v hx hv=>ih i x v hx hv (hc x (List.mem_of_getElem? hx))
 |fn h1 h2 h3 h4 ih1 ih2=>
  intro h'
  cases h' with
  |fn ha hb=>exact .fn h1 (fun i x v hx hv=>ih1 i x v hx hv (ha x (List.mem_of_getElem? hx))) h3 fun i x v hx hv=>ih2 i x v hx hv (hb x (List.mem_of_getElem? hx))
 |meth h1 h2 h3 h4 ih1 ih2=>
  intro h'
  cases h' with
  |fn ha hb=>exact .meth h1 (fun i x v hx hv=>ih1 i x v hx hv (ha x (List.mem_of_getElem? hx))) h3 fun i x v hx hv=>ih2 i x v hx hv (hb x (List.mem_of_getElem? hx))
 |map h1 h2 h3 h4 h5 ih=>
  intro h'
  cases h' with
  |map hc=>exact .map ⟨rfl,h1⟩ h2 h3 h4 fun i us vs hu hv j x v hx hw=>ih i us vs hu hv j x v hx hw (hc us (List.mem_of_getElem? hu) x (List.mem_of_getElem? hx))
def C0A:A→Prop
 | .c x=>C0 x
 | .full k xs=>C0 (.rowc k xs)
 | .el k cs off=>C0 (.ptrc k cs off)
 |_=>True
def C0L:List A→Prop
 | []=>True
 |a::l=>C0A a∧C0L l
def C0CA:CA→Prop
 | .one x=>C0 x
 | .agg cs=>∀u∈cs,C0 u
 | .nil=>True
def C0Cs:List CA→Prop
 | []=>True
 |a::l=>C0CA a∧C0Cs l
def C0M':List (Bool×List A)→Prop
 | []=>True
 | (_,cs)::l=>C0L cs∧C0M' l
def C0V:AV→Prop
 | .one a=>C0A a
 | .agg cs=>C0L cs
 | .tup rs=>C0Cs rs
 | .tupo rs=>C0M' rs
 | .junk=>True
def C0B:Blk→Prop
 | .box cs=>C0L cs
 | .rows _ _ xs=>C0 (.rowc 0 xs)
 | .froz xs=>C0 (.rowc 0 xs)
 | .gone _=>True
 | .lent _ _ _ xs=>C0 (.rowc 0 xs)
 | .fbox cs=>∀u∈cs,C0 u
 | .obox cs=>∀u∈cs,C0 u
 | .orec r=>∀d,C0V (r.t d)
 | .mapb _ _ xs=>∀us∈xs,∀u∈us,C0 u
 | .fmap _ _ xs=>∀us∈xs,∀u∈us,C0 u
def C0T (t:Nat→AV):Prop:=∀d,C0V (t d)
def C0M (m:Mem):Prop:=∀id b,m id=some b→C0B b
theorem C0T.junk:C0T (fun _=>.junk):=fun _=>trivial
theorem C0T.upd {t:Nat→AV}{d:Nat}{x:AV}(h:C0V x)(k:C0T t):C0T (Abs.upd t d x):=fun e=>by
 by_cases he:e=d
 ·subst he;rw[upd_same];exact h
 ·rw[upd_ne _ _ he];exact k e
theorem C0M.none:C0M (fun _=>Option.none):=fun id b h=>by simp at h
theorem C0M.upd {m:Mem}{d:Nat}{b:Blk}(h:C0B b)(k:C0M m):C0M (Abs.upd m d (some b)):=fun e b' hb=>by
 by_cases he:e=d
 ·subst he;rw[upd_same]at hb;cases hb;exact h
 ·rw[upd_ne _ _ he]at hb;exact k e b' hb
def unlB:Option Blk→Option Blk
 |some (.lent _ e sz xs)=>some (.rows e sz xs)
 |b=>b
def unl (m:Mem):Mem:=fun i=>unlB (m i)
section
variable {cc cc':Ctx} {w:World} {m:Mem}
theorem unl_rowLen (id:Nat):rowLen (unl m) id=rowLen m id:=by
 unfold rowLen unl
 cases m id with
 |none=>rfl
 |some b=>cases b<;>rfl
theorem unl_rowsOf (id:Nat):rowsOf (unl m) id=rowsOf m id:=by
 unfold rowsOf unl
 cases m id with
 |none=>rfl
 |some b=>cases b<;>rfl
theorem unl_isBox (id:Nat):isBox (unl m) id↔isBox m id:=by
 unfold isBox unl
 cases m id with
 |none=>exact Iff.rfl
 |some b=>cases b<;>simp[unlB]
theorem VA.unl (hψ:cc'.ψ=cc.ψ)(hφ:cc'.φ=cc.φ)(hS:∀b,cc.S 0 b→cc'.S 0 b){x:A}{v:Value}(h:VA cc w m x v)(hx:C0A x):VA cc' w (unl m) x v:=by
 have up:∀{y:CV} {v:Value},R cc.S w y v→C0 y→R cc'.S w y v:=fun h hc=>(R.drop h hc).mono (fun k b hb=>hb.1▸hS b (hb.1▸hb.2)) fun _ _ _=>rfl
 cases x with
 |c y=>exact up h hx
 |ptr id off=>exact⟨(unl_isBox id).2 h.1,by rw[hφ];exact h.2⟩
 |mp id=>exact⟨(unl_isBox id).2 h.1,by rw[hφ];exact h.2⟩
 |own id n=>
  obtain⟨h0,L,h1,h2,h3⟩:=h
  exact⟨h0,L,by rw[unl_rowLen];exact h1,h2,fun e=>by rw[hψ];exact h3 e⟩
 |el k cs off=>
  obtain⟨b,o,vs,h1,h2,h3,h4⟩:=h
  cases hx with
  |ptr hc=>exact⟨b,o,vs,h1,hS b h2,h3.mono fun x y hx h=>up h (hc x hx),h4⟩
 |pel id n i off=>
  obtain⟨h0,L,h1,h2,h3⟩:=h
  exact⟨h0,L,by rw[unl_rowLen];exact h1,h2,fun e ty sz xs hr=>by rw[unl_rowsOf]at hr;rw[hψ];exact h3 e ty sz xs hr⟩
 |full k xs=>obtain⟨a,h1,h2⟩:=h;exact⟨a,h1,up h2 hx⟩
 |nil=>exact h
 |bare=>exact h
 |any=>exact h
theorem VL.unl (hψ:cc'.ψ=cc.ψ)(hφ:cc'.φ=cc.φ)(hS:∀b,cc.S 0 b→cc'.S 0 b):∀{cs:List A} {vs:List Value},F2 (VA cc w m) cs vs→C0L cs→F2 (VA cc' w (unl m)) cs vs:=by
 intro cs
 induction cs with
 |nil=>intro vs h _;rw[h.unnil];exact F2.nil
 |cons x cs ih=>
  intro vs h hc
  obtain⟨v,vs,rfl,h1,h2⟩:=h.uncons
  exact F2.cons (h1.unl hψ hφ hS hc.1) (ih h2 hc.2)
theorem VV.unl (hψ:cc'.ψ=cc.ψ)(hφ:cc'.φ=cc.φ)(hS:∀b,cc.S 0 b→cc'.S 0 b){x:AV}{v:Value}(hv:VV cc w m x v)(hc:C0V x):VV cc' w (unl m) x v:=by
 have up:∀{y:CV} {v:Value},R cc.S w y v→C0 y→R cc'.S w y v:=fun h hc=>(R.drop h hc).mono (fun k b hb=>hb.1▸hS b (hb.1▸hb.2)) fun _ _ _=>rfl
 cases x with
 |one y=>exact VA.unl hψ hφ hS hv hc
 |agg cs=>obtain⟨vs,e1,e2⟩:=hv;exact⟨vs,e1,VL.unl hψ hφ hS e2 hc⟩
 |tup rs=>
  obtain⟨vs,e1,e2⟩:=hv
  refine⟨vs,e1,?_⟩
  clear e1
  induction rs generalizing vs with
  |nil=>rw[e2.unnil];exact F2.nil
  |cons r rs ih=>
   obtain⟨v,vs,rfl,k1,k2⟩:=e2.uncons
   refine F2.cons ?_ (ih hc.2 vs k2)
   cases r with
   |one y=>exact up k1 hc.1
   |agg cs=>obtain⟨us,f1,f2⟩:=k1;exact⟨us,f1,f2.mono fun x y hx h=>up h (hc.1 x hx)⟩
   |nil=>exact k1
 |tupo rs=>
  obtain⟨vs,e1,e2⟩:=hv
  refine⟨vs,e1,?_⟩
  clear e1
  induction rs generalizing vs with
  |nil=>rw[e2.unnil];exact F2.nil
  |cons r rs ih=>
   obtain⟨v,vs,rfl,k1,k2⟩:=e2.uncons
   refine F2.cons ?_ (ih hc.2 vs k2)
   obtain⟨b,cs⟩:=r
   cases b with
   |true=>obtain⟨us,f1,f2⟩:=k1;exact⟨us,f1,VL.unl hψ hφ hS f2 hc.1⟩
   |false=>
    obtain⟨a,f1,f2⟩:=k1
    have f1:cs=[a]:=f1
    subst f1
    exact⟨a,rfl,VA.unl hψ hφ hS f2 hc.1.1⟩
 |junk=>trivial
end
def entryT:List CA→Nat→Nat→AV
 | [],_=>fun _=>.junk
 |x::l,k=>upd (entryT l (k+1)) k x.av
theorem entryT_at:∀(l:List CA) (k d:Nat),entryT l k d=if k≤d then(match l[d - k]? with|some x=>x.av|none=>.junk)else .junk:=by
 intro l
 induction l with
 |nil=>intro k d;simp[entryT]
 |cons x l ih=>
  intro k d
  by_cases h:d=k
  ·subst h;simp[entryT,upd_same]
  ·show upd (entryT l (k+1)) k x.av d=_
   rw[upd_ne _ _ h,ih (k+1) d]
   by_cases hk:k≤d
   ·have h1:k+1≤d:=by omega
    rw[if_pos hk,if_pos h1,show d - k=(d - (k+1))+1 by omega,List.getElem?_cons_succ]
   ·rw[if_neg hk,if_neg (by omega)]
def resAV (P:Program)(σ:St):ResultVar→AV
 | .tmp t=>ev σ (.tmp t)
 | .cell a T=>match tinfo P T with
  |some ti=>match ev σ (.tmp a)with
   | .one (.ptr id off)=>match σ.m id with
    |some (.box cs)=>(rd ti cs off).2
    |_=>.junk
   | .one (.c (.v x0))=>match rawP x0 with
    |some (b,off)=>match σ.m (1000000+b)with
     |some (.obox cs)=>(rd ti (cs.map .c) off).2
     |_=>.junk
    |none=>.junk
   |_=>.junk
  |none=>.junk
def resOK (P:Program)(σ:St):ResultVar→Prop
 | .tmp _=>True
 | .cell a T=>match tinfo P T with
  |some ti=>match ev σ (.tmp a)with
   | .one (.ptr id off)=>match σ.m id with
    |some (.box cs)=>(rd ti cs off).1
    |_=>False
   | .one (.c (.v x0))=>match rawP x0 with
    |some (b,off)=>match σ.m (1000000+b)with
     |some (.obox cs)=>(rd ti (cs.map .c) off).1
     |_=>False
    |none=>False
   |_=>False
  |none=>False
def resAll (P:Program)(σ:St):List ResultVar→Prop
 | []=>True
 |x::l=>(resOK P σ x∧(resAV P σ x).flat=true∧cloAll σ.m (resAV P σ x).cells)∧resAll P σ l
def RVof:List CA→RV
 | [x]=>.one x
 |l=>.tup l
def resOKs (P:Program)(σ:St):List ResultVar→Prop
 | []=>True
 |x::l=>resOK P σ x∧resOKs P σ l
def resO (m:Mem)(e:TypeId)(sz:Nat)(xs:List (List CV)):List AV→Prop
 | [.one (.own id n)]=>match m id with
  |some (.rows e' sz' xs')=>e'=e∧sz'=sz∧xs'=xs∧xs'.length=n
  |_=>False
 | [.one .nil]=>xs=[]∧0<sz
 |_=>False
def resE (m:Mem):A→RE→Prop
 | .own id n,.own e sz xs=>match m id with
  |some (.rows e' sz' xs')=>e'=e∧sz'=sz∧xs'=xs∧xs'.length=n
  |_=>False
 | .own id n,.c x=>match m id with
  |some (.froz xs)=>xs.length=n∧CV.row xs=x
  |_=>False
 | .nil,.own _ sz xs=>xs=[]∧0<sz
 | .nil,.c x=>x=.row []
 | .bare,.c x=>x=.row []
 | .full k xs,.c x=>.rowc k xs=x
 | .el k cs off,.c x=>.ptrc k cs off=x
 | .c y,.c x=>y=x
 |_,_=>False
def resEs (m:Mem):List A→List RE→Prop
 | [],[]=>True
 | [a],[r]=>resE m a r
 |a::l,r::k=>resE m a r∧resEs m l k
 |_,_=>False
def resMs (m:Mem):List AV→List (Bool×List RE)→Prop
 | [],[]=>True
 | .agg cs::l,(true,rs)::k=>resEs m cs rs∧resMs m l k
 | .one a::l,(false,[r])::k=>resE m a r∧resMs m l k
 |_,_=>False
def distN:List Nat→Prop
 | []=>True
 |i::l=>hasN l i=false∧distN l
def PostAt (P:Program)(rs:List ResultVar)(σ:St):RV→Prop
 | .bx _ outs l=>resAll P σ rs∧(rs.map fun x=>cloAV σ.m (resAV P σ x))=l∧insAt σ.m outs
 | .one x=>resAll P σ rs∧RVof (rs.map fun x=>cloAV σ.m (resAV P σ x))=.one x
 | .tup l=>resAll P σ rs∧RVof (rs.map fun x=>cloAV σ.m (resAV P σ x))=.tup l
 | .own e sz xs=>resOKs P σ rs∧resO σ.m e sz xs (rs.map (resAV P σ))
 | .mix l=>resOKs P σ rs∧resMs σ.m (rs.map (resAV P σ)) l∧distN (ownIds ((rs.map (resAV P σ)).map AV.cells).flatten)
def Post (P:Program)(rs:List ResultVar)(r:RV):Exit→St→Prop
 | .ret,σ=>PostAt P rs σ r
 | .normal,σ=>PostAt P rs σ r
 |_,_=>False
theorem resOKs_of {σ:St}:∀{rs:List ResultVar},resAll P σ rs→resOKs P σ rs:=by
 intro rs
 induction rs with
 |nil=>intro _;trivial
 |cons x l ih=>intro h;exact⟨h.1.1,ih h.2⟩
def unOpn (i:Nat):Nat:=i - 1000000
theorem unOpn_eq (b:Nat):unOpn (1000000+b)=b:=Nat.add_sub_cancel_left ..
theorem entry_wr {S:Sh}{w:World}{ro:Option Nat}(ins:List (Nat×OC))(hS:∀k b,S k b→b<w.heap.size)(hbx:∀p∈ins,BoxAt S w p)(hro:RoOK w.heap.size ⟨w,fun b=>∃cs,(b,cs)∈ins,ro⟩):WR w.heap.size S ⟨w,fun b=>∃cs,(b,cs)∈ins,ro⟩ ⟨S,unOpn,fun _=>undef⟩ (setBs (fun _=>none) ins) w:=by
 have hno:∀i,i∉opnIds ins→setBs (fun _=>none) ins i=none:=fun i h=>setBs_not h
 have hin:∀i bk,setBs (fun _=>none) ins i=some bk→∃b cs,i=1000000+b∧(b,cs)∈ins∧bk=cs.blk:=fun i bk h=>by
  by_cases e:i∈opnIds ins
  ·obtain⟨b,cs,e1,e2,e3⟩:=setBs_in (m:=fun _=>none) e
   rw[e3]at h
   exact⟨b,cs,e1,e2,(Option.some.inj h).symm⟩
  ·rw[hno i e]at h;simp at h
 refine⟨fun id b hb=>?_,fun id id' b hb hb'=>?_,hS,fun _ _ h=>h,fun _ _ h=>.inl h,.of (Below.refl _ _),hro,Nat.le_refl _,hS⟩
 ·obtain⟨b1,cs,rfl,h2,rfl⟩:=hin id b hb
  have hφ:({S:=S,φ:=unOpn,ψ:=fun _=>undef}:Ctx).φ (1000000+b1)=b1:=unOpn_eq b1
  have hO:=hbx _ h2
  cases cs with
  |cells ds=>
   obtain⟨q1,us,T,q2,q3⟩:=hO
   exact⟨.inr ⟨_,by rw[hφ];exact h2⟩,by rw[hφ];exact q1,by rw[hφ],us,T,by rw[hφ];exact q2,q3⟩
  |loop r=>
   obtain⟨q1,q2⟩:=hO
   exact⟨.inr ⟨_,by rw[hφ];exact h2⟩,by rw[hφ];exact q1,by rw[hφ],by rw[hφ];exact q2⟩
 ·have key:∀i,blockOf ⟨S,unOpn,fun _=>undef⟩ (setBs (fun _=>none) ins) i=some b→i=1000000+b:=fun i hi=>by
   cases hm:setBs (fun _=>none) ins i with
   |none=>simp only[blockOf,hm]at hi;cases hi
   |some bk=>
    obtain⟨b1,cs,rfl,_,rfl⟩:=hin i bk hm
    cases cs<;>(simp only[blockOf,hm,OC.blk]at hi;rw[unOpn_eq]at hi;cases hi;rfl)
  rw[key id hb,key id' hb']
theorem entry_ok {S:Sh}{w:World}{args:List CA}{vs:List Value}{n:Nat}{df:List Deferred}(ins:List (Nat×OC))(hS:∀k b,S k b→b<w.heap.size)(hg:Gl S w)(h:F2 (RC S w) args vs)(hn:args.length≤n)(hbx:∀p∈ins,BoxAt S w p):Gm w.heap.size S ⟨w,fun b=>∃cs,(b,cs)∈ins,none⟩ df ⟨n,entryT args 0,setBs (fun _=>none) ins⟩ {tmps:=vs.toArray++Array.replicate (n - vs.length) undef,defers:=df} w:=by
 refine⟨⟨S,unOpn,fun _=>undef⟩,⟨?_,fun d hd=>?_,hg⟩,entry_wr ins hS hbx (fun l h=>by simp at h),DfOK.none⟩
 ·have:=h.1;simp;omega
 ·show VV _ w _ (entryT args 0 d) _
  rw[entryT_at,if_pos (Nat.zero_le _),Nat.sub_zero]
  cases hx:args[d]? with
  |none=>trivial
  |some x=>
   obtain⟨v,hv1,hv2⟩:=h.get hx
   have hget:(vs.toArray++Array.replicate (n - vs.length) undef).getD d undef=v:=by
    have hdl:d<vs.length:=(List.getElem?_eq_some_iff.1 hv1).1
    have:(vs.toArray++Array.replicate (n - vs.length) undef)[d]?=some v:=by
     rw[Array.getElem?_append_left (by simpa using hdl)]
     simpa using hv1
    simp[Array.getD_eq_getD_getElem?,this]
   simp only[hget]
   cases x with
   |one y=>exact hv2
   |agg cs=>obtain⟨us,rfl,hus⟩:=hv2;exact⟨us,rfl,F2.map_left.2 hus⟩
   |nil=>exact hv2
def resSem (tmps:Array Value):ResultVar→Sem Value
 | .tmp t=>pure (tmps.getD t undef)
 | .cell b t=>do loadVar t (←asAddr (tmps.getD b undef))
theorem res_run {base:Nat}{S0:Sh}{w0:W0}{c:Ctx}{σ:St}{a:Act}{w:World}(h1:Tm c w σ a)(h2:WR base S0 w0 c σ.m w)(x:ResultVar)(hok:resOK P σ x):∃v,(resSem a.tmps x).run P w=.ok v w∧VV c w σ.m (resAV P σ x) v:=by
 cases x with
 |tmp t=>exact⟨a.tmps.getD t undef,rfl,ev_ok h1 (.tmp t)⟩
 |cell b T=>
  simp only[resOK,resAV]at hok ⊢
  cases ht:tinfo P T with
  |none=>rw[ht]at hok;exact hok.elim
  |some ti=>
   simp only[ht]at hok ⊢
   have hv:=ev_ok h1 (.tmp b)
   split at hok
   ·rename_i id off he
    rw[he]at hv
    obtain⟨hbx,hp⟩:=hv
    obtain⟨cs,hm⟩:∃cs,σ.m id=some (.box cs):=by
     rcases hbx with h|⟨cs,hm⟩|⟨_,_,_,hm⟩|⟨_,_,_,hm⟩|⟨cs,hm⟩|⟨_,hm⟩
     ·exact h
     all_goals simp only[hm]at hok
    simp only[hm]at hok ⊢
    obtain⟨vs,q1,q2⟩:=box_holds h2 hm
    obtain⟨v,r1,r2⟩:=rd_ok (tinfo_is ht) q1 q2 hok
    have hp:a.tmps.getD b undef=.pointer (some ⟨c.φ id,off,none⟩):=hp
    exact⟨v,by simpa[resSem,hp,asAddr]using r1,r2⟩
   ·rename_i x0 he
    rw[he]at hv
    cases hraw:rawP x0 with
    |none=>simp only[hraw]at hok
    |some pq=>
     obtain⟨bb,off⟩:=pq
     simp only[hraw]at hok ⊢
     have hp:a.tmps.getD b undef=.pointer (some ⟨bb,off,none⟩):=by rw[show a.tmps.getD b undef=x0 from R.val hv];exact rawP_eq hraw
     cases hm:σ.m (1000000+bb)with
     |none=>simp only[hm]at hok
     |some blk=>
      cases blk with
      |obox cs=>
       simp only[hm]at hok ⊢
       obtain⟨vs,q1,q2,q3⟩:=obox_holds h2 hm
       have q3:c.φ (1000000+bb)=bb:=Nat.add_left_cancel q3
       rw[q3]at q2
       obtain⟨v,r1,r2⟩:=rd_ok (tinfo_is ht) (cells_c (m:=σ.m) q1) q2 hok
       rw[Nat.zero_add]at r1
       exact⟨v,by simpa[resSem,hp,asAddr]using r1,r2⟩
      |_=>simp only[hm]at hok
   ·exact hok.elim
theorem results_run {base:Nat}{S0:Sh}{w0:W0}{c:Ctx}{σ:St}{a:Act}{w:World}(h1:Tm c w σ a)(h2:WR base S0 w0 c σ.m w):∀(rs:List ResultVar),resOKs P σ rs→∃vs:List Value,(rs.mapM (resSem a.tmps)).run P w=.ok vs w∧F2 (VV c w σ.m) (rs.map (resAV P σ)) vs:=by
 intro rs
 induction rs with
 |nil=>intro _;exact⟨[],rfl,F2.nil⟩
 |cons x rs ih=>
  intro h
  obtain⟨v,q1,q2⟩:=res_run h1 h2 x h.1
  obtain⟨vs,r1,r2⟩:=ih h.2
  refine⟨v::vs,?_,F2.cons q2 r2⟩
  simp only[List.mapM_cons,Sem.run_bind,q1,Result.andThen_ok,r1,Sem.run_pure]
theorem cloAV_only {ids:List Nat}{m:Mem}{x:AV}(h:∀i∈ownIds x.cells,i∈ids):cloAV (only ids m) x=cloAV m x:=by
 cases x with
 |one y=>simp only[cloAV];rw[(clo_only h).1]
 |agg cs=>simp only[cloAV];rw[(cloL_only (l:=cs) h).1]
 |tup rs=>rfl
 |tupo rs=>rfl
 |junk=>rfl
theorem resEs_cons {m:Mem}{a:A}{l:List A}{r:RE}{k:List RE}:resEs m (a::l) (r::k)↔resE m a r∧resEs m l k:=by
 cases l with
 |nil=>cases k<;>simp[resEs]
 |cons b l=>simp[resEs]
theorem resE_ok {base:Nat}{S0:Sh}{w0:W0}{c:Ctx}{m:Mem}{w:World}(h:WR base S0 w0 c m w){a:A}{r:RE}{v:Value}(hv:VA c w m a v)(hr:resE m a r):RRE base c.S w r v∧((∃e sz xs,r=.own e sz xs)→∀b,v.ownBlock=some b→∃id∈ownIds [a],blockOf c m id=some b):=by
 have nope:∀{x:CV},(∃e sz xs,(RE.c x)=.own e sz xs)→∀b,v.ownBlock=some b→∃id∈ownIds [a],blockOf c m id=some b:=fun⟨_,_,_,h⟩=>by simp at h
 cases a with
 |own id n=>
  cases r with
  |own e sz xs=>
   simp only[resE]at hr
   split at hr
   ·rename_i e' sz' xs' hm
    obtain⟨rfl,rfl,rfl,hn⟩:=hr
    obtain⟨_,L,hL,hn',hq⟩:=hv
    have hL':xs'.length=L:=by simpa[rowLen,hm]using hL
    obtain⟨p1,p2,p3,p4,vss,p5,p6⟩:=h.blk id _ hm
    have hv:v=c.ψ id:=hq (by omega)
    subst hv
    exact⟨⟨p1,p2,p3,p4,vss,p5,p6⟩,fun _ b hb=>⟨id,by simp[ownIds],by simp[blockOf,hm,hb]⟩⟩
   ·exact hr.elim
  |c x=>
   simp only[resE]at hr
   split at hr
   ·rename_i xs' hm
    obtain⟨hn,rfl⟩:=hr
    obtain⟨_,L,hL,hn',hq⟩:=hv
    have hL':xs'.length=L:=by simpa[rowLen,hm]using hL
    have hv:v=c.ψ id:=hq (by omega)
    subst hv
    exact⟨h.blk id _ hm,nope⟩
   ·exact hr.elim
 |nil=>
  have hv:v=.slice none 0 0:=hv
  subst hv
  cases r with
  |own e sz xs=>
   obtain⟨rfl,hs⟩:=hr
   exact⟨⟨by simp,hs,by simp,fun g hg=>by simp[Value.ownBlock]at hg,[],F2.nil,World.ownsRow_nil _ _ _ _⟩,fun _ b hb=>by simp[Value.ownBlock]at hb⟩
  |c x=>have hr:x=.row []:=hr;subst hr;exact⟨R.nil,nope⟩
 |bare=>
  obtain⟨ad,k,rfl,hk⟩:=hv
  cases r with
  |own e sz xs=>exact hr.elim
  |c x=>have hr:x=.row []:=hr;subst hr;exact⟨R.bare hk,nope⟩
 |full k xs=>
  obtain⟨ad,rfl,hv⟩:=hv
  cases r with
  |own e sz xs=>exact hr.elim
  |c x=>have hr:CV.rowc k xs=x:=hr;subst hr;exact⟨hv,nope⟩
 |el k cs off=>
  obtain⟨b,o,vs,rfl,h1,h2,h3⟩:=hv
  cases r with
  |own e sz xs=>exact hr.elim
  |c x=>have hr:CV.ptrc k cs off=x:=hr;subst hr;exact⟨R.ptr h1 h2.1 h3 h2.2,nope⟩
 |c y=>
  cases r with
  |own e sz xs=>exact hr.elim
  |c x=>have hr:y=x:=hr;subst hr;exact⟨hv,nope⟩
 |ptr id off=>cases r<;>exact hr.elim
 |mp id=>cases r<;>exact hr.elim
 |pel id n i off=>cases r<;>exact hr.elim
 |any=>cases r<;>exact hr.elim
theorem distN_append {l k:List Nat}(h:distN (l++k)):distN l∧distN k∧∀i∈l,i∉k:=by
 induction l with
 |nil=>exact⟨trivial,h,fun i hi=>by simp at hi⟩
 |cons x l ih=>
  obtain⟨h1,h2⟩:=h
  obtain⟨q1,q2,q3⟩:=ih h2
  have h1:hasN (l++k) x=false:=h1
  have hx:x∉l++k:=fun hm=>by rw[hasN_iff.2 hm]at h1;simp at h1
  refine⟨⟨?_,q1⟩,q2,fun i hi=>?_⟩
  ·cases hh:hasN l x with
   |false=>rfl
   |true=>exact absurd (List.mem_append.2 (.inl (hasN_iff.1 hh))) hx
  ·rcases List.mem_cons.1 hi with rfl|hi
   ·exact fun hk=>hx (List.mem_append.2 (.inr hk))
   ·exact q3 i hi
theorem resEs_ok {base:Nat}{S0:Sh}{w0:W0}{c:Ctx}{m:Mem}{w:World}(h:WR base S0 w0 c m w):∀{cs:List A} {rs:List RE} {us:List Value},F2 (VA c w m) cs us→resEs m cs rs→distN (ownIds cs)→F2 (RRE base c.S w) rs us∧(rs.zip us).Pairwise apartP∧∀p∈rs.zip us,(∃e sz xs,p.1=.own e sz xs)→∀b,p.2.ownBlock=some b→∃id∈ownIds cs,blockOf c m id=some b:=by
 intro cs
 induction cs with
 |nil=>
  intro rs us hF hr _
  rw[hF.unnil]
  cases rs with
  |nil=>exact⟨F2.nil,by simp,fun p hp=>by simp at hp⟩
  |cons r rs=>cases hr
 |cons a cs ih=>
  intro rs us hF hr hd
  obtain⟨u,us,rfl,k1,k2⟩:=hF.uncons
  cases rs with
  |nil=>cases cs<;>cases hr
  |cons r rs=>
   obtain⟨r1,r2⟩:=resEs_cons.1 hr
   rw[ownIds_cons]at hd
   obtain⟨d1,d2,d3⟩:=distN_append hd
   obtain⟨q1,q2,q3⟩:=ih k2 r2 d2
   obtain⟨e1,e2⟩:=resE_ok h k1 r1
   refine⟨F2.cons e1 q1,?_,fun p hp ho b hb=>?_⟩
   ·rw[List.zip_cons_cons,List.pairwise_cons]
    refine⟨fun p hp=>?_,q2⟩
    unfold apartP
    split
    ·rename_i x1 x2 x3 x4 x5 x6 f1 f2
     intro b hb hb'
     obtain⟨id,hi1,hi2⟩:=e2 ⟨_,_,_,f1⟩ b hb
     obtain⟨id',hi3,hi4⟩:=q3 p hp ⟨_,_,_,f2⟩ b hb'
     have:=h.inj id id' b hi2 hi4
     subst this
     exact d3 id hi1 hi3
    ·trivial
   ·rw[List.zip_cons_cons]at hp
    rw[ownIds_cons]
    rcases List.mem_cons.1 hp with rfl|hp
    ·obtain⟨id,h1,h2⟩:=e2 ho b hb
     exact⟨id,List.mem_append.2 (.inl h1),h2⟩
    ·obtain⟨id,h1,h2⟩:=q3 p hp ho b hb
     exact⟨id,List.mem_append.2 (.inr h1),h2⟩
theorem resMs_ok {base:Nat}{S0:Sh}{w0:W0}{c:Ctx}{m:Mem}{w:World}(h:WR base S0 w0 c m w):∀{xs:List AV} {rs:List (Bool×List RE)} {vs:List Value},F2 (VV c w m) xs vs→resMs m xs rs→distN (ownIds (xs.map AV.cells).flatten)→∃ps,MixR base c.S w rs vs ps∧ps.Pairwise apartP∧∀p∈ps,(∃e sz xs,p.1=.own e sz xs)→∀b,p.2.ownBlock=some b→∃id∈ownIds (xs.map AV.cells).flatten,blockOf c m id=some b:=by
 intro xs
 induction xs with
 |nil=>
  intro rs vs hF hr _
  rw[hF.unnil]
  cases rs with
  |nil=>exact⟨[],.nil,by simp,fun p hp=>by simp at hp⟩
  |cons r rs=>cases hr
 |cons x xs ih=>
  intro rs vs hF hr hd
  obtain⟨v,vs,rfl,k1,k2⟩:=hF.uncons
  simp only[List.map_cons,List.flatten_cons,ownIds_append]at hd
  obtain⟨d1,d2,d3⟩:=distN_append hd
  have both:∀{ps qs:List (RE×Value)},ps.Pairwise apartP→qs.Pairwise apartP→(∀p∈ps,(∃e sz xs,p.1=.own e sz xs)→∀b,p.2.ownBlock=some b→∃id∈ownIds x.cells,blockOf c m id=some b)→(∀p∈qs,(∃e sz xs,p.1=.own e sz xs)→∀b,p.2.ownBlock=some b→∃id∈ownIds (xs.map AV.cells).flatten,blockOf c m id=some b)→(ps++qs).Pairwise apartP∧∀p∈ps++qs,(∃e sz xs,p.1=.own e sz xs)→∀b,p.2.ownBlock=some b→∃id∈ownIds ((x::xs).map AV.cells).flatten,blockOf c m id=some b:=by
   intro ps qs a1 a2 a3 a4
   refine⟨List.pairwise_append.2 ⟨a1,a2,fun p hp q hq=>?_⟩,fun p hp ho b hb=>?_⟩
   ·unfold apartP
    split
    ·rename_i x1 x2 x3 x4 x5 x6 f1 f2
     intro b hb hb'
     obtain⟨id,hi1,hi2⟩:=a3 p hp ⟨_,_,_,f1⟩ b hb
     obtain⟨id',hi3,hi4⟩:=a4 q hq ⟨_,_,_,f2⟩ b hb'
     have:=h.inj id id' b hi2 hi4
     subst this
     exact d3 id hi1 hi3
    ·trivial
   ·simp only[List.map_cons,List.flatten_cons,ownIds_append,List.mem_append]
    rcases List.mem_append.1 hp with hp|hp
    ·obtain⟨id,h1,h2⟩:=a3 p hp ho b hb;exact⟨id,.inl h1,h2⟩
    ·obtain⟨id,h1,h2⟩:=a4 p hp ho b hb;exact⟨id,.inr h1,h2⟩
  cases x with
  |agg cs=>
   match rs,hr with
   | (true,es)::rs,hr=>
    obtain⟨us,rfl,k1⟩:=k1
    obtain⟨q1,q2,q3⟩:=resEs_ok h k1 hr.1 d1
    obtain⟨ps,p1,p2,p3⟩:=ih k2 hr.2 d2
    exact⟨_,.agg q1 p1,both q2 p2 q3 p3⟩
  |one a=>
   match rs,hr with
   | (false,[r])::rs,hr=>
    obtain⟨e1,e2⟩:=resE_ok h (show VA c w m a v from k1) hr.1
    obtain⟨ps,p1,p2,p3⟩:=ih k2 hr.2 d2
    exact⟨_,.one e1 p1,both (ps:=[(r,v)]) (by simp) p2 (fun p hp ho b hb=>by simp at hp;subst hp;exact e2 ho b hb) p3⟩
  |tup l=>match rs,hr with|[],hr=>exact hr.elim
  |tupo l=>match rs,hr with|[],hr=>exact hr.elim
  |junk=>match rs,hr with|[],hr=>exact hr.elim
theorem RRE.mono {base:Nat}{S S':Sh}{w:World}{r:RE}{v:Value}(h:RRE base S w r v)(hS:∀k b,S k b→S' k b)(hS':∀k b,S' k b→S k b):RRE base S' w r v:=by
 cases r with
 |c x=>exact R.mono h hS fun _ _ _=>rfl
 |own e sz xs=>
  obtain⟨p1,p2,p3,p4,vss,p5,p6⟩:=h
  exact⟨p1,p2,p3,fun g hg k hs=>p4 g hg k (hS' k g hs),vss,p5.mono fun x y _ h=>h.mono fun x y _ h=>h.mono hS fun _ _ _=>rfl,p6⟩
theorem MixR.mono {base:Nat}{S S':Sh}{w:World}{rs:List (Bool×List RE)}{vs:List Value}{ps:List (RE×Value)}(h:MixR base S w rs vs ps)(hS:∀k b,S k b→S' k b)(hS':∀k b,S' k b→S k b):MixR base S' w rs vs ps:=by
 induction h with
 |nil=>exact .nil
 |agg hF hM ih=>exact .agg (hF.mono fun x y _ h=>h.mono hS hS') ih
 |one hR hM ih=>exact .one (hR.mono hS hS') ih
def takes:List Nat→World→World
 | [],w=>w
 |r::l,w=>takes l (w.putObj r (.deferred none))
structure Took (w w2:World):Prop where
 os:w2.os=w.os
 tape:w2.tape=w.tape
 output:w2.output=w.output
 size:w2.heap.size=w.heap.size
 block:∀k:Nat,w2.heap[k]?=w.heap[k]?∨∃x,w.heap[k]?=some (.deferred x)
section
variable {w w2:World}
theorem put_size (w:World)(r:Nat)(o:Obj):(w.putObj r o).heap.size=w.heap.size:=by simp[World.putObj]
theorem put_other (w:World){r k:Nat}(o:Obj)(h:k≠r):(w.putObj r o).heap[k]?=w.heap[k]?:=by
 simp only[World.putObj]
 rw[Array.getElem?_setIfInBounds_ne (Ne.symm h)]
theorem takes_ok:∀(ms:List Nat) (w:World),ms.Nodup→(∀r∈ms,w.heap[r]?=some (.deferred (some [])))→Took w (takes ms w)∧∀k,k∉ms→(takes ms w).heap[k]?=w.heap[k]?:=by
 intro ms
 induction ms with
 |nil=>intro w _ _;exact⟨⟨rfl,rfl,rfl,rfl,fun _=>.inl rfl⟩,fun _ _=>rfl⟩
 |cons r ms ih=>
  intro w hnd h
  obtain⟨n1,n2⟩:=List.nodup_cons.1 hnd
  obtain⟨t,u⟩:=ih (w.putObj r (.deferred none)) n2 fun q hq=>by
   have hqr:q≠r:=fun e=>n1 (e▸hq)
   rw[put_other w _ hqr]
   exact h q (by simp[hq])
  have hu:∀k,k∉r::ms→(takes (r::ms) w).heap[k]?=w.heap[k]?:=fun k hk=>by
   simp only[List.mem_cons,not_or]at hk
   exact(u k hk.2).trans (put_other w _ hk.1)
  refine⟨⟨t.os,t.tape,t.output,t.size.trans (put_size w r _),fun k=>?_⟩,hu⟩
  by_cases hk:k∈r::ms
  ·exact .inr ⟨_,h k hk⟩
  ·exact .inl (hu k hk)
theorem leaves_end {F:Fence}{n:Nat}{fn:Func}{tmps:Array Value}{R:Ending→World→Prop}:∀(ms:List Nat) (w:World),ms.Nodup→(∀r∈ms,w.heap[r]?=some (.deferred (some [])))→(∃v,(results fn tmps).run P (takes ms w)=.ok v (takes ms w)∧R (.returned v) (takes ms w))→LeavesInM F n P fn tmps R (ms.map mkDf++[]) .returning w:=by
 intro ms
 induction ms with
 |nil=>intro w _ _ h;exact h
 |cons r ms ih=>
  intro w hnd h hv
  obtain⟨n1,n2⟩:=List.nodup_cons.1 hnd
  refine⟨by simp,.inl ⟨r,w.putObj r (.deferred none),rfl,run_takeDeferred (h r (by simp)),?_⟩⟩
  refine ih _ n2 (fun q hq=>?_) hv
  have hqr:q≠r:=fun e=>n1 (e▸hq)
  rw[put_other w _ hqr]
  exact h q (by simp[hq])
theorem Took.cell (t:Took w w2){a:Addr}{v:Value}(h:w.cell? a=some v):w2.cell? a=some v:=by
 rcases t.block a.block with h1|⟨x,h1⟩
 ·rw[←h];exact World.cell?_of_block h1
 ·simp[World.cell?,h1]at h
theorem Took.holds (t:Took w w2){b o:Nat}{us:List Value}(h:Holds w b o us):Holds w2 b o us:=fun j u hj=>t.cell (h j u hj)
theorem Took.at_ (t:Took w w2){b:Nat}{o:Obj}(h:w.heap[b]?=some o)(ho:∀x,o≠.deferred x):w2.heap[b]?=some o:=by
 rcases t.block b with h1|⟨x,h1⟩
 ·rw[h1];exact h
 ·rw[h1]at h;cases h;exact absurd rfl (ho x)
theorem Took.mapIs (t:Took w w2){b:Nat}{agg:Bool}{ks:List Value}{vss:List (List Value)}(h:MapIs w b agg ks vss):MapIs w2 b agg ks vss:=by
 obtain⟨⟨es,cl,h1,h2⟩,h3⟩:=h
 exact⟨⟨es,cl,t.at_ h1 (fun x=>by simp),h2⟩,h3⟩
theorem R.took (t:Took w w2){S:Sh}{x:CV}{v:Value}(h:R S w x v):R S w2 x v:=by
 induction h with
 |v h=>exact .v h
 |nil=>exact .nil
 |bare h=>exact .bare h
 |row g h1 h2 h3 h4 h5 h6 h7 ih=>exact .row g h1 h2 h3 h4 h5 (fun i us hi j hj=>t.cell (h6 i us hi j hj)) ih
 |ptr h1 h2 h3 h4 ih=>exact .ptr h1 h2 (t.holds h3) ih
 |fn h1 h2 h3 h4 ih1 ih2=>exact .fn h1 ih1 h3 ih2
 |meth h1 h2 h3 h4 ih1 ih2=>exact .meth h1 ih1 h3 ih2
 |map h1 h2 h3 h4 h5 ih=>exact .map h1 (t.mapIs h2) h3 h4 ih
theorem RC.took (t:Took w w2){S:Sh}{x:CA}{v:Value}(h:RC S w x v):RC S w2 x v:=by
 cases x with
 |one y=>exact R.took t h
 |agg cs=>obtain⟨vs,h1,h2⟩:=h;exact⟨vs,h1,h2.mono fun x y _ h=>R.took t h⟩
 |nil=>exact h
theorem VA.took (t:Took w w2){c:Ctx}{m:Mem}{x:A}{v:Value}(h:VA c w m x v):VA c w2 m x v:=by
 cases x with
 |c y=>exact R.took t h
 |el k cs off=>obtain⟨b,o,vs,h1,h2,h3,h4⟩:=h;exact⟨b,o,vs,h1,h2,h3.mono fun x y _ h=>R.took t h,t.holds h4⟩
 |full k xs=>obtain⟨a,h1,h2⟩:=h;exact⟨a,h1,R.took t h2⟩
 |ptr id off=>exact h
 |own id n=>exact h
 |pel id n i off=>exact h
 |mp id=>exact h
 |nil=>exact h
 |bare=>exact h
 |any=>exact h
theorem VV.took (t:Took w w2){c:Ctx}{m:Mem}{x:AV}{v:Value}(h:VV c w m x v):VV c w2 m x v:=by
 cases x with
 |one a=>exact VA.took t h
 |agg cs=>obtain⟨vs,h1,h2⟩:=h;exact⟨vs,h1,h2.mono fun x y _ h=>VA.took t h⟩
 |tup rs=>obtain⟨vs,h1,h2⟩:=h;exact⟨vs,h1,h2.mono fun x y _ h=>RC.took t h⟩
 |tupo rs=>
  obtain⟨vs,h1,h2⟩:=h
  refine⟨vs,h1,h2.mono fun x y _ h=>?_⟩
  obtain⟨b,cs⟩:=x
  cases b with
  |true=>obtain⟨us,e1,e2⟩:=h;exact⟨us,e1,e2.mono fun x y _ h=>VA.took t h⟩
  |false=>obtain⟨a,e1,e2⟩:=h;exact⟨a,e1,VA.took t e2⟩
 |junk=>exact h
theorem Tm.took (t:Took w w2){c:Ctx}{σ:St}{a:Act}(h:Tm c w σ a):Tm c w2 σ a:=⟨h.1,fun d hd=>VV.took t (h.2 d hd),fun g vs hg=>⟨(h.3 g vs hg).1,t.holds (h.3 g vs hg).2⟩⟩
theorem ownsRow_took (t:Took w w2){base:Nat}{e:TypeId}{sz n:Nat}{v:Value}{xs:List Value}(h:w.ownsRow base e sz v n xs):w2.ownsRow base e sz v n xs:=by
 refine⟨h.1,h.2.imp (fun h=>h) fun⟨g,cap,cur,e1,e2,e3,r⟩=>⟨g,cap,cur,e1,e2,t.at_ e3 (fun x=>by simp),r⟩⟩
theorem WR.took (t:Took w w2){base:Nat}{S0:Sh}{w0:W0}{c:Ctx}{m:Mem}(h:WR base S0 w0 c m w)(hb:∀k,k<base→w2.heap[k]?=w.heap[k]?):WR base S0 w0 c m w2:=by
 have up:∀{xs:List CV} {vs:List Value},F2 (R c.S w) xs vs→F2 (R c.S w2) xs vs:=fun h=>h.mono fun x y _ h=>R.took t h
 have ups:∀{xs:List (List CV)} {vss:List (List Value)},F2 (F2 (R c.S w)) xs vss→F2 (F2 (R c.S w2)) xs vss:=fun h=>h.mono fun x y _ h=>up h
 refine⟨fun id b hm=>?_,h.inj,fun k b hb=>by rw[t.size];exact h.lt k b hb,h.old,h.new,⟨t.os.trans h.below.os,t.tape.trans h.below.tape,t.output.trans h.below.output,by rw[t.size];exact h.below.size,fun k hk hn=>(hb k hk).trans (h.below.block k hk hn)⟩,h.rok,by rw[t.size];exact h.size,h.s0⟩
 have hB:=h.blk id b hm
 cases b with
 |box cs=>obtain⟨h1,h2,vs,T,h3,h4⟩:=hB;exact⟨h1,h2,vs,T,t.at_ h3 (fun x=>by simp),h4.mono fun x y _ h=>VA.took t h⟩
 |rows e sz xs=>obtain⟨h1,h2,h3,h4,vss,h5,h6⟩:=hB;exact⟨h1,h2,h3,h4,vss,ups h5,ownsRow_took t h6⟩
 |froz xs=>exact R.took t hB
 |gone L=>exact hB
 |lent j e sz xs=>obtain⟨h0,h1,h2,h3,h4,vss,h5,h6⟩:=hB;exact⟨h0,h1,h2,h3,h4,vss,ups h5,ownsRow_took t h6⟩
 |fbox cs=>obtain⟨h1,vs,h2,h3⟩:=hB;exact⟨h1,vs,up h2,t.holds h3⟩
 |obox cs=>obtain⟨h1,h2,h3,vs,T,h4,h5⟩:=hB;exact⟨h1,h2,h3,vs,T,t.at_ h4 (fun x=>by simp),up h5⟩
 |orec r=>
  obtain⟨h1,h2,h3,RR,k1,k2,k3,k4,k5,k6,k7,k8,k9⟩:=hB
  exact⟨h1,h2,h3,RR,t.at_ k1 (fun x=>by simp),k2,k3,k4,k5,k6,k7,k8,fun d hd=>VV.took t (k9 d hd)⟩
 |mapb a ks xs=>obtain⟨h1,h2,vss,h3,h4⟩:=hB;exact⟨h1,h2,vss,t.mapIs h3,ups h4⟩
 |fmap a ks xs=>obtain⟨h1,vss,h3,h4⟩:=hB;exact⟨h1,vss,t.mapIs h3,ups h4⟩
end
theorem ACalls.introX {f:FuncId} {fn:Func} {c:Code} {args:List CA} {r:RV} (hf:P.funcs[f]?=some fn) (hb:fn.body=some c) (hname:(fn.name == "runtime.NumGoroutine")=false) (hn:args.length≤fn.ntmps) (h:AW P c ⟨fn.ntmps,entryT args 0,setBs (fun _=>none) (insOf r)⟩ (Post P fn.results.toList r)):ACalls P f args r:=by
 refine⟨⟨fn,hf,by rw[hb];rfl,hname⟩,fun S w vs hS hgl hvs hbx=>?_⟩
 refine(callsIn_wide (n:=0)).1 (callsIn_of_wp_marks hf hb trivial ?_)
 have hG:=entry_ok (df:=[]) (insOf r) hS hgl hvs hn hbx
 rw[List.size_toArray]
 refine wpIn_mono (h _ S _ [] _ w hG) fun e a' w' ⟨σ',h1,cc,t1,t2,t3⟩=>?_
 obtain⟨ms,t3,t4,t5⟩:=t3
 have hms:∀r∈ms,w'.heap[r]?=some (.deferred (some [])):=fun r hr=>(t5 r hr).2.2
 obtain⟨tk,tk2⟩:=takes_ok ms w' t4 hms
 have t1:=Tm.took tk t1
 have t2:=WR.took tk t2 fun k hk=>tk2 k fun hkm=>by have:=(t5 k hkm).1;omega
 have wrap:(∃v,(results fn a'.tmps).run P (takes ms w')=.ok v (takes ms w')∧∃(v':Value) (T:Sh),Ending.returned v=.returned v'∧(∀k b,T k b→S k b∨(w.heap.size≤b∧b<(takes ms w').heap.size))∧RR w.heap.size (fun k b=>S k b∨T k b) (takes ms w') r v'∧BelowX w.heap.size (lentR r) w (takes ms w'))→LeavesInM Fence.wide 0 P fn a'.tmps (fun e w'=>∃(v:Value) (T:Sh),e=.returned v∧(∀k b,T k b→S k b∨(w.heap.size≤b∧b<w'.heap.size))∧RR w.heap.size (fun k b=>S k b∨T k b) w' r v∧BelowX w.heap.size (lentR r) w w') a'.defers .returning w':=fun h=>by
  rw[t3]
  exact leaves_end ms w' t4 hms h
 generalize takes ms w'=w2 at t1 t2 wrap
 have hrun:∀us:List Value,(fn.results.toList.mapM (resSem a'.tmps)).run P w2=.ok us w2→(results fn a'.tmps).run P w2=.ok (if h:us.toArray.size=1 then us.toArray[0]else .tuple us.toArray) w2:=fun us q1=>by
  have hres:results fn a'.tmps=(do let vs ←fn.results.mapM (resSem a'.tmps);pure (if h:vs.size=1 then vs[0]else .tuple vs)):=by
   unfold results
   congr 1
  rw[hres,Array.mapM_eq_mapM_toList]
  simp only[Sem.run_bind,Sem.run_map,q1,Result.andThen_ok,Sem.run_pure]
 have gen:resAll P σ' fn.results.toList→(∀(us:List Value) (c1:Ctx) (ids:List Nat),WR w.heap.size S ⟨w,lentR r,none⟩ c1 (mrg ids (frz σ'.m) σ'.m) w2→F2 (RC (fun k b=>S k b∨c1.S k b) w2) (fn.results.toList.map fun x=>cloAV σ'.m (resAV P σ' x)) us→RR w.heap.size (fun k b=>S k b∨c1.S k b) w2 r (if h:us.toArray.size=1 then us.toArray[0]else .tuple us.toArray))→∃v,(results fn a'.tmps).run P w2=.ok v w2∧∃(v':Value) (T:Sh),Ending.returned v=.returned v'∧(∀k b,T k b→S k b∨(w.heap.size≤b∧b<w2.heap.size))∧RR w.heap.size (fun k b=>S k b∨T k b) w2 r v'∧BelowX w.heap.size (lentR r) w w2:=fun hra hfin=>by
  obtain⟨us,q1,q2⟩:=results_run t1 t2 _ (resOKs_of hra)
  refine⟨_,hrun us q1,(if h:us.toArray.size=1 then us.toArray[0]else .tuple us.toArray),?_⟩
  obtain⟨c1,g1,r1⟩:=freezes (ownIds ((fn.results.toList.map (resAV P σ')).map AV.cells).flatten) t2
  refine⟨c1.S,rfl,fun k b hb=>?_,?_,r1.below⟩
  ·rcases r1.new k b hb with h|h
   ·exact .inl h
   ·exact .inr ⟨h,r1.lt k b hb⟩
  ·generalize hids:ownIds ((fn.results.toList.map (resAV P σ')).map AV.cells).flatten=ids at g1 r1
   have hcl:∀(rs:List ResultVar) (us:List Value),resAll P σ' rs→(∀i∈ownIds ((rs.map (resAV P σ')).map AV.cells).flatten,i∈ids)→F2 (VV cc w2 σ'.m) (rs.map (resAV P σ')) us→F2 (RC (fun k b=>S k b∨c1.S k b) w2) (rs.map fun x=>cloAV σ'.m (resAV P σ' x)) us:=by
    intro rs
    induction rs with
    |nil=>intro us _ _ h;rw[h.unnil];exact F2.nil
    |cons x rs ih=>
     intro us ha hi h
     simp only[List.map_cons]at h hi ⊢
     obtain⟨v,us,rfl,k1,k2⟩:=h.uncons
     simp only[List.flatten_cons,ownIds_append,List.mem_append]at hi
     have hi1:∀i∈ownIds (resAV P σ' x).cells,i∈ids:=fun i h=>hi i (.inl h)
     refine F2.cons ?_ (ih us ha.2 (fun i h=>hi i (.inr h)) k2)
     have:=cloAV_ok r1 (k1.goes g1) ha.1.2.1 ((cloL_only hi1).2.2 ha.1.2.2) hi1
     rw[cloAV_only hi1]at this
     exact RC.mono this (fun k b hb=>.inr hb) fun _ _ _=>rfl
   have hall:=hcl _ us hra (fun i hi=>by rw[←hids];exact hi) q2
   exact hfin us c1 ids r1 hall
 have one_of:∀{S':Sh} (rs:List CA) (us:List Value),F2 (RC S' w2) rs us→RRs S' w2 rs (if h:us.toArray.size=1 then us.toArray[0]else .tuple us.toArray):=fun {S'} rs us hall=>by
  match rs,us,hall with
  | [],us,hall=>
   have:us=[]:=hall.unnil
   subst this
   exact⟨[],by simp,F2.nil⟩
  | [x],us,hall=>
   obtain⟨v,us,rfl,k1,k2⟩:=hall.uncons
   have:us=[]:=k2.unnil
   subst this
   exact k1
  |x::y::rs,us,hall=>
   have hl:=hall.1
   have hne:¬us.toArray.size=1:=by simp at hl ⊢;omega
   refine⟨us,by rw[dif_neg hne],hall⟩
 have main:resAll P σ' fn.results.toList→RVof (fn.results.toList.map fun x=>cloAV σ'.m (resAV P σ' x))=r→∃v,(results fn a'.tmps).run P w2=.ok v w2∧∃(v':Value) (T:Sh),Ending.returned v=.returned v'∧(∀k b,T k b→S k b∨(w.heap.size≤b∧b<w2.heap.size))∧RR w.heap.size (fun k b=>S k b∨T k b) w2 r v'∧BelowX w.heap.size (lentR r) w w2:=fun hra hr=>gen hra fun us c1 ids r1 hall=>by
  rw[←hr]
  have:=one_of _ us hall
  generalize fn.results.toList.map (fun x=>cloAV σ'.m (resAV P σ' x))=rs at this
  match rs,this with
  | [],this=>exact this
  | [x],this=>exact this
  |x::y::l,this=>exact this
 have mainX:∀ins outs l,r=.bx ins outs l→resAll P σ' fn.results.toList→(fn.results.toList.map fun x=>cloAV σ'.m (resAV P σ' x))=l→insAt σ'.m outs→∃v,(results fn a'.tmps).run P w2=.ok v w2∧∃(v':Value) (T:Sh),Ending.returned v=.returned v'∧(∀k b,T k b→S k b∨(w.heap.size≤b∧b<w2.heap.size))∧RR w.heap.size (fun k b=>S k b∨T k b) w2 r v'∧BelowX w.heap.size (lentR r) w w2:=fun ins outs l hr hra hl hout=>gen hra fun us c1 ids r1 hall=>by
  have h1:=one_of _ us hall
  rw[hl]at h1
  rw[hr]
  refine⟨h1,fun p hp=>?_⟩
  have hm:=insAt_mem hout p hp
  have hm1:mrg ids (frz σ'.m) σ'.m (1000000+p.1)=some p.2.blk:=by
   show(bif hasN ids (1000000+p.1)then frzB (σ'.m (1000000+p.1))else σ'.m (1000000+p.1))=_
   rw[hm]
   cases hasN ids (1000000+p.1)<;>cases p.2<;>rfl
  obtain⟨b,oc⟩:=p
  have hB:=r1.blk _ _ hm1
  have up:∀k b,c1.S k b→S k b∨c1.S k b:=fun k b hb=>.inr hb
  cases oc with
  |cells cs=>
   obtain⟨q1,q2,q3,us',TT,q4,q5⟩:=hB
   have q3:c1.φ (1000000+b)=b:=Nat.add_left_cancel q3
   rw[q3]at q2 q4
   exact⟨fun k hk=>hk.elim (fun h=>q2 k (r1.old k _ h)) (q2 k),us',TT,q4,q5.mono fun x y _ h=>h.mono up fun _ _ _=>rfl⟩
  |loop rr=>
   obtain⟨q1,q2,q3,q4⟩:=hB
   have q3:c1.φ (1000000+b)=b:=Nat.add_left_cancel q3
   rw[q3]at q2 q4
   exact⟨fun k hk=>hk.elim (fun h=>q2 k (r1.old k _ h)) (q2 k),q4.mono rfl up fun _ _ _=>rfl⟩
 have mainO:∀e sz xs,r=.own e sz xs→resOKs P σ' fn.results.toList→resO σ'.m e sz xs (fn.results.toList.map (resAV P σ'))→∃v,(results fn a'.tmps).run P w2=.ok v w2∧∃(v':Value) (T:Sh),Ending.returned v=.returned v'∧(∀k b,T k b→S k b∨(w.heap.size≤b∧b<w2.heap.size))∧RR w.heap.size (fun k b=>S k b∨T k b) w2 r v'∧BelowX w.heap.size (lentR r) w w2:=fun e sz xs hr hok ho=>by
  subst hr
  obtain⟨us,q1,q2⟩:=results_run t1 t2 _ hok
  refine⟨_,hrun us q1,(if h:us.toArray.size=1 then us.toArray[0]else .tuple us.toArray),cc.S,rfl,fun k b hb=>?_,?_,t2.below⟩
  ·rcases t2.new k b hb with h|h
   ·exact .inl h
   ·exact .inr ⟨h,t2.lt k b hb⟩
  ·generalize fn.results.toList.map (resAV P σ')=rs at q2 ho
   unfold resO at ho
   split at ho
   ·rename_i id n
    obtain⟨v,us,rfl,k1,k2⟩:=q2.uncons
    have:us=[]:=k2.unnil
    subst this
    split at ho
    ·rename_i e' sz' xs' hm
     obtain⟨rfl,rfl,rfl,hn⟩:=ho
     obtain⟨_,L,hL,hn',hq⟩:=k1
     have hL':xs'.length=L:=by simpa[rowLen,hm]using hL
     obtain⟨p1,p2,p3,p4,vss,p5,p6⟩:=t2.blk id _ hm
     have hv:v=cc.ψ id:=hq (by omega)
     subst hv
     show RO w.heap.size (fun k b=>S k b∨cc.S k b) w2 e' sz' xs' (cc.ψ id)
     exact⟨p1,p2,p3,fun g hg k hs=>p4 g hg k (hs.elim (t2.old k g) fun h=>h),vss,p5.mono fun x y _ h=>h.mono fun x y _ h=>h.mono (fun k b hb=>.inr hb) fun _ _ _=>rfl,p6⟩
    ·exact ho.elim
   ·obtain⟨v,us,rfl,k1,k2⟩:=q2.uncons
    have:us=[]:=k2.unnil
    subst this
    obtain⟨rfl,hs⟩:=ho
    have k1:v=.slice none 0 0:=k1
    subst k1
    exact⟨by simp,hs,by simp,fun g hg=>by simp[Value.ownBlock]at hg,[],F2.nil,World.ownsRow_nil _ _ _ _⟩
   ·exact ho.elim
 have mainM:∀l,r=.mix l→resOKs P σ' fn.results.toList→resMs σ'.m (fn.results.toList.map (resAV P σ')) l→distN (ownIds ((fn.results.toList.map (resAV P σ')).map AV.cells).flatten)→∃v,(results fn a'.tmps).run P w2=.ok v w2∧∃(v':Value) (T:Sh),Ending.returned v=.returned v'∧(∀k b,T k b→S k b∨(w.heap.size≤b∧b<w2.heap.size))∧RR w.heap.size (fun k b=>S k b∨T k b) w2 r v'∧BelowX w.heap.size (lentR r) w w2:=fun l hr hok ho hd=>by
  subst hr
  obtain⟨us,q1,q2⟩:=results_run t1 t2 _ hok
  refine⟨_,hrun us q1,(if h:us.toArray.size=1 then us.toArray[0]else .tuple us.toArray),cc.S,rfl,fun k b hb=>?_,?_,t2.below⟩
  ·rcases t2.new k b hb with h|h
   ·exact .inl h
   ·exact .inr ⟨h,t2.lt k b hb⟩
  ·obtain⟨ps,p1,p2,_⟩:=resMs_ok t2 q2 ho hd
   refine⟨us,ps,p1.mono (fun k b hb=>.inr hb) (fun k b hb=>hb.elim (t2.old k b) fun h=>h),p2,?_⟩
   match us with
   | []=>simp[valOf]
   | [x]=>simp[valOf]
   |x::y::t=>simp[valOf]
 have both:PostAt P fn.results.toList σ' r→∃v,(results fn a'.tmps).run P w2=.ok v w2∧∃(v':Value) (T:Sh),Ending.returned v=.returned v'∧(∀k b,T k b→S k b∨(w.heap.size≤b∧b<w2.heap.size))∧RR w.heap.size (fun k b=>S k b∨T k b) w2 r v'∧BelowX w.heap.size (lentR r) w w2:=fun h=>by
  cases r with
  |bx ins outs l=>exact mainX ins outs l rfl h.1 h.2.1 h.2.2
  |one x=>exact main h.1 h.2
  |tup l=>exact main h.1 h.2
  |own e sz xs=>exact mainO e sz xs rfl h.1 h.2
  |mix l=>exact mainM l rfl h.1 h.2.1 h.2.2
 cases e with
 |ret=>exact wrap (both h1)
 |normal=>exact wrap (both h1)
 |exit id=>exact h1.elim
 |goto l=>exact h1.elim
 |panic ch=>exact h1.elim
 |outgrown=>exact h1.elim
theorem ACalls.intro {f:FuncId} {fn:Func} {c:Code} {args:List CA} {r:RV} (hf:P.funcs[f]?=some fn) (hb:fn.body=some c) (hname:(fn.name == "runtime.NumGoroutine")=false) (hn:args.length≤fn.ntmps) (h:AW P c ⟨fn.ntmps,entryT args 0,fun _=>none⟩ (Post P fn.results.toList r)) (h0:insOf r=[]:=by rfl):ACalls P f args r:=ACalls.introX hf hb hname hn (by rw[h0];exact h)
def FineCA:CA→Prop
 | .one x=>Fine x
 | .agg cs=>∀u∈cs,Fine u
 | .nil=>True
theorem RC.fine {S:Sh}{w:World}{x:CA}{v:Value}(h:RC S w x v):FineCA x:=by
 cases x with
 |one y=>exact R.fine h
 |agg cs=>
  obtain⟨vs,_,h2⟩:=h
  intro u hu
  obtain⟨i,hi,rfl⟩:=List.getElem_of_mem hu
  obtain⟨v,_,hv⟩:=h2.get (List.getElem?_eq_getElem hi)
  exact R.fine hv
 |nil=>trivial
theorem ACalls.introF {f:FuncId} {fn:Func} {c:Code} {args:List CA} {r:RV} (hf:P.funcs[f]?=some fn) (hb:fn.body=some c) (hname:(fn.name == "runtime.NumGoroutine")=false) (hn:args.length≤fn.ntmps) (h:(∀x∈args,FineCA x)→AW P c ⟨fn.ntmps,entryT args 0,fun _=>none⟩ (Post P fn.results.toList r)) (h0:insOf r=[]:=by rfl):ACalls P f args r:=by
 refine⟨⟨fn,hf,by rw[hb];rfl,hname⟩,fun S w vs hS hgl hvs hbx=>?_⟩
 have hfine:∀x∈args,FineCA x:=fun x hx=>by
  obtain⟨i,hi,rfl⟩:=List.getElem_of_mem hx
  obtain⟨v,_,hv⟩:=hvs.get (List.getElem?_eq_getElem hi)
  exact RC.fine hv
 exact(ACalls.intro hf hb hname hn (h hfine) h0).2 S w vs hS hgl hvs hbx
theorem Fine.int {k:IntKind}{n:Int}(h:Fine (.v (.int k n))):inK k n=true:=by cases h;assumption
theorem Fine.rowI {xs:List (List CV)}(h:Fine (.row xs)):xs.length≤maxLen∧∀us∈xs,∀u∈us,Fine u:=by cases h;exact⟨‹_›,‹_›⟩
theorem Fine.rowM {α:Type}{f:α→List CV}{xs:List α}(h:Fine (.row (xs.map f))):xs.length≤9223372036854775807∧∀x∈xs,∀u∈f x,Fine u:=by
 obtain⟨h1,h2⟩:=h.rowI
 rw[List.length_map]at h1
 exact⟨by unfold maxLen at h1;exact h1,fun x hx=>h2 _ (List.mem_map_of_mem hx)⟩
theorem Fine.rowC {α:Type}{f:α→List CV}{k:Nat}{xs:List α}(h:Fine (.rowc k (xs.map f))):xs.length≤9223372036854775807:=by
 cases h with
 |row h1 h2=>rw[List.length_map]at h1;unfold maxLen at h1;exact h1
theorem in_u32 {n:Int}(h:inK .u32 n=true):0≤n∧n<4294967296:=by
 simp only[inK,Bool.and_eq_true,decide_eq_true_eq]at h;omega
theorem in_i64 {n:Int}(h:inK .i64 n=true):-9223372036854775808≤n∧n≤9223372036854775807:=by
 simp only[inK,Bool.and_eq_true,decide_eq_true_eq]at h;omega
def LeArgs:List CA→List CA→Prop
 | [],[]=>True
 |a::l,b::k=>((a=.nil∧b=.one (.row []))∨a=b)∧LeArgs l k
 |_,_=>False
theorem LeArgs.ok {S:Sh}{w:World}:∀{l k:List CA} {vs:List Value},LeArgs l k→F2 (RC S w) l vs→F2 (RC S w) k vs:=by
 intro l
 induction l with
 |nil=>intro k vs h h2;cases k with
  |nil=>exact h2
  |cons b k=>exact h.elim
 |cons a l ih=>
  intro k vs h h2
  cases k with
  |nil=>exact h.elim
  |cons b k=>
   obtain⟨v,vs,rfl,h3,h4⟩:=h2.uncons
   refine F2.cons ?_ (ih h.2 h4)
   rcases h.1 with⟨rfl,rfl⟩|rfl
   ·rw[show v=.slice none 0 0 from h3];exact R.nil
   ·exact h3
theorem ACalls.args {f:FuncId}{l k:List CA}{r:RV}(h:ACalls P f k r)(hl:LeArgs l k):ACalls P f l r:=⟨h.1,fun S w vs h1 hg h2 hb=>h.2 S w vs h1 hg (hl.ok h2) hb⟩
theorem ACalls.law {f:FuncId}{args:List CA}(h:ACalls P f args (.one (.one (.v (.bool true))))){w:World}{vs:List Value}(hvs:F2 (RC (fun k b=>k=0∧b<w.heap.size) w) args vs)(hg:Gl (fun k b=>k=0∧b<w.heap.size) w:=by intro g vs h;simp[tabsV]at h):Calls P f vs.toArray w fun e w'=>e=.returned (.bool true)∧Below w.heap.size w w':=by
 refine(h.2 (fun k b=>k=0∧b<w.heap.size) w vs (fun _ _ h=>h.2) hg hvs (fun p hp=>by simp[insOf]at hp)).mono ?_
 rintro e w' ⟨v,T,rfl,_,hv,hb⟩
 have hv:R _ w' (.v (.bool true)) v:=hv
 exact⟨by rw[R.val hv],hb.to fun b ⟨cs,hc⟩=>by simp[insOf]at hc⟩
end
end
section
section
variable {P:Program}
theorem ite_on {c a b:Prop}[Decidable c](h1:c→a)(h2:¬c→b):if c then a else b:=by
 split
 ·exact h1 ‹_›
 ·exact h2 ‹_›
structure AWs (P:Program)(c:Code)(σ:St)(Q:Exit→St→Prop):Prop where
 h:AW P c σ Q
theorem AW.halt {id:Nat}{P:Program}{ops:Array Oper}{b:Bool}{y:Code}{σ:St}{Q:Exit→St→Prop}(h:AWs P (.seq (.region id ops b) y) σ Q):AW P (.seq (.region id ops b) y) σ Q:=h.h
theorem AW.lessW {P:Program}{c:Code}{σ:St}(σ':St){Q:Exit→St→Prop}(hl:Less σ σ')(h:AW P c σ' Q):AW P c σ Q:=AW.less σ' hl.1 hl.2.1 hl.2.2.1 hl.2.2.2 h
theorem partOf_lo {α:Type}(f:α→List CV)(l:List α)(k:Nat):partOf (l.map f) 0 (k:Int)=(l.take k).map f:=by simp[partOf]
theorem partOf_hi {α:Type}(f:α→List CV)(l:List α)(k:Nat):partOf (l.map f) (k:Int) (l.length:Int)=(l.drop k).map f:=by
 simp only[partOf,Int.toNat_natCast,←List.map_drop,←List.map_take]
 rw[List.take_of_length_le (by simp)]
theorem lcons {α:Type}{sz:Nat}{x:List α}{l:List (List α)}(h:x.length=sz)(k:∀us∈l,us.length=sz):∀us,us=x∨us∈l→us.length=sz:=fun us hu=>hu.elim (fun e=>e▸h) (k us)
theorem wrapI {x:Int}(h0:-9223372036854775808≤x)(h1:x≤9223372036854775807):IntKind.i64.wrap x=x:=IntWalk.i64_in _ (by omega)
theorem in64 {x:Int}(h0:-9223372036854775808≤x)(h1:x≤9223372036854775807):(decide (-9223372036854775808≤x)&&decide (x≤9223372036854775807))=true:=by
 rw[decide_eq_true h0,decide_eq_true h1];rfl
theorem in32 {x:Int}(h0:0≤x)(h1:x≤4294967295):(decide (0≤x)&&decide (x≤4294967295))=true:=by
 rw[decide_eq_true h0,decide_eq_true h1];rfl
theorem LeT.nil0 {m':Mem}{f g:Nat→AV}{d:Nat}(h1:f d=.one .nil)(h:LeT m' f g):LeT m' f (Abs.upd g d (.one (.c (.row [])))):=LeT.upd (h1▸LeV.nil) trivial h
theorem thenN {Q:Exit→St→Prop}{K:St→Prop}{σ:St}:thenQ Q K .normal σ=K σ:=rfl
def scopeQ (Q:Exit→St→Prop):Exit→St→Prop
 | .goto _,_=>False
 |e,σ=>Q e σ
theorem scopeN {Q:Exit→St→Prop}{σ:St}:scopeQ Q .normal σ=Q .normal σ:=rfl
theorem stepR_scope {b:Frame}{a:Act}{k:List Item}{cs:List Frame}{w:World}{c:Code}:step P (lone (b.atR a (.code (.scope c)::k)) cs w)=.next (lone (b.atR a (.code c::.inScope c::k)) cs w):=
 step_lone_go (by simp[stepG,stepG.exec,Frame.atR])
theorem stepR_inScope {b:Frame}{a:Act}{k:List Item}{cs:List Frame}{w:World}{c:Code}:step P (lone (b.atR a (.inScope c::k)) cs w)=.next (lone (b.atR a k) cs w):=
 step_lone_go (by simp[stepG,stepG.exec,Frame.atR])
theorem wpIn_scope_straight {F : Fence} {n : Nat} {c : Code} {Q : Exit → Act → World → Prop} {a : Act} {w : World} (h : c.wpIn F n P (Exit.noGoto Q) a w) : (Code.scope c).wpIn F n P Q a w := by
  intro b k cs hro hb hr
  obtain ⟨e, a₁, w₁, hq, harr⟩ := h b (.inScope c :: k) cs hro hb hr
  have s0 := StepsIn.one (I := Machine.fenced P F) (fenced_calm (fr := b.atR a (.code (.scope c) :: k)) hb hr rfl) (stepR_scope (P := P) (b := b) (a := a) (k := k) (cs := cs) (w := w) (c := c))
  cases e with
  | normal => exact ⟨.normal, a₁, w₁, hq, s0.trans (StepsIn.trans harr (.one (fenced_calm hb hr rfl) stepR_inScope))⟩
  | exit id => exact ⟨.exit id, a₁, w₁, hq, fun k' hk => s0.trans (harr.1 k' (by simp [exitTo, hk])), fun hr' hk => by
      obtain ⟨k₁, h1, h2⟩ := harr.2 hr' (by simp [exitTo, hk])
      exact ⟨k₁, h1, s0.trans h2⟩⟩
  | goto l => exact hq.elim
  | ret => exact ⟨_, a₁, w₁, hq, .of_steps s0 harr⟩
  | panic ch => exact ⟨_, a₁, w₁, hq, .of_steps s0 harr⟩
  | outgrown => exact ⟨_, a₁, w₁, hq, .of_steps s0 harr⟩
theorem AW.scope {c:Code}{σ:St}{Q:Exit→St→Prop}(h:AW P c σ (scopeQ Q)):AW P (.scope c) σ Q:=fun base S0 w0 df a w hG=>
 wpIn_scope_straight (wpIn_mono (h base S0 w0 df a w hG) fun e a' w' ⟨σ',h1,h2⟩=>by
  cases e with
  |goto l=>exact h1.elim
  |_=>exact⟨σ',h1,h2⟩)
theorem AW.label {l:Nat}{σ:St}{Q:Exit→St→Prop}(h:Q .normal σ):AW P (.label l) σ Q:=fun _ _ _ _ _ _ hG=>wpIn_label ⟨σ,h,hG⟩
theorem blockN {id:Nat}{Q:Exit→St→Prop}{σ:St}:blockQ id Q .normal σ=Q .normal σ:=rfl
def isCall:Op→Bool
 | .call ⟨.value _,_,_⟩=>true
 |_=>false
def okE (P:Program)(σ:St)(o:Oper):Prop:=((reqR P (.tup []) σ o).eff σ.m).ok
def nextR (P:Program)(r:RV)(σ:St)(o:Oper):St:=stepSt σ o.dst ((reqR P r σ o).eff σ.m).val ((reqR P r σ o).mem σ.m)
def fpR (P:Program)(r:RV)(σ:St)(o:Oper):List Nat×Bool:=((reqR P r σ o).ids,(reqR P r σ o).wr)
def setB (σ:St)(s:Nat)(b:Bool):St:=⟨σ.n,upd σ.t s (.one (.c (.v (.bool b)))),σ.m⟩
def runE (P:Program)(ops:Array Oper)(C:Oper→List Oper→St→Trace→Prop):List Oper→St→Trace→(St→Trace→Prop)→Prop
 | [],σ,tr,K=>K σ tr
 |o::rest,σ,tr,K=>match o.guard with
  |none=>bif isCall o.op then C o rest σ tr else(dstOK σ.n o.dst∧okE P σ o)∧runE P ops C rest (nextR P (.tup []) σ o) (tr++[fpR P (.tup []) σ o]) K
  |some (j,want)=>match(ops[j]?).bind (·.dst)with
   |none=>dstOK σ.n o.dst∧runE P ops C rest (stepSt σ o.dst (.tup []) σ.m) (tr++[([],false)]) K
   |some s=>match ev σ (.tmp s)with
    | .one (.c (.v (.bool b)))=>
     if b=want then(bif isCall o.op then C o rest (setB σ s want) tr else(dstOK σ.n o.dst∧okE P (setB σ s want) o)∧runE P ops C rest (nextR P (.tup []) (setB σ s want) o) (tr++[fpR P (.tup []) (setB σ s want) o]) K)
     else dstOK σ.n o.dst∧runE P ops C rest (stepSt (setB σ s (!want)) o.dst (.tup []) σ.m) (tr++[([],false)]) K
    | .tup _=>dstOK σ.n o.dst∧runE P ops C rest (stepSt σ o.dst (.tup []) σ.m) (tr++[([],false)]) K
    |_=>False
theorem setB_same {σ:St}{s:Nat}{b:Bool}(h:ev σ (.tmp s)=.one (.c (.v (.bool b)))):setB σ s b=σ:=by
 have ht:σ.t s=.one (.c (.v (.bool b))):=by
  unfold ev at h
  by_cases hs:s<σ.n
  ·simpa[hs]using h
  ·simp[hs]at h
 unfold setB
 cases σ with
 |mk n t m=>
  simp only[St.mk.injEq,true_and,and_true]
  funext e
  by_cases he:e=s
  ·subst he;rw[upd_same];exact ht.symm
  ·rw[upd_ne _ _ he]
def CallsOn (P:Program)(ops:Array Oper)(C:Oper→List Oper→St→Trace→Prop)(K:St→Trace→Prop):Prop:=∀(o:Oper) (rest:List Oper) (σ:St) (tr:Trace),C o rest σ tr→RunP P ops (o::rest) σ tr K
theorem runE_ok {ops:Array Oper}{C:Oper→List Oper→St→Trace→Prop}{K:St→Trace→Prop}(hC:CallsOn P ops C K):∀(l:List Oper) (σ:St) (tr:Trace),runE P ops C l σ tr K→RunP P ops l σ tr K:=by
 intro l
 induction l with
 |nil=>intro σ tr h;exact h
 |cons o rest ih=>
  intro σ tr h
  have go:∀σ:St,wantd ops σ o=some true→(bif isCall o.op then C o rest σ tr else(dstOK σ.n o.dst∧okE P σ o)∧runE P ops C rest (nextR P (.tup []) σ o) (tr++[fpR P (.tup []) σ o]) K)→RunP P ops (o::rest) σ tr K:=fun σ hw h=>by
   cases hc:isCall o.op with
   |true=>rw[hc]at h;exact hC o rest σ tr h
   |false=>
    rw[hc]at h
    obtain⟨⟨h1,h2⟩,h3⟩:=h
    refine⟨.tup [],h1,?_⟩
    rw[hw]
    exact⟨h2,ih _ _ h3⟩
  unfold runE at h
  split at h
  ·rename_i hg
   exact go σ (by unfold wantd;rw[hg]) h
  ·rename_i j want hg
   split at h
   ·rename_i hj
    refine⟨.tup [],h.1,?_⟩
    rw[show wantd ops σ o=some false by unfold wantd;rw[hg];simp only[hj]]
    exact ih _ _ h.2
   ·rename_i s hj
    split at h
    ·rename_i b hb
     by_cases hbw:b=want
     ·subst hbw
      rw[if_pos rfl,setB_same hb]at h
      exact go σ (by unfold wantd;rw[hg];simp only[hj,hb];simp) h
     ·rw[if_neg hbw]at h
      have hb':(!want)=b:=by clear hb h;cases b<;>cases want<;>first|rfl|exact absurd rfl hbw
      rw[hb',setB_same hb]at h
      refine⟨.tup [],h.1,?_⟩
      have hbf:(b==want)=false:=beq_eq_false_iff_ne.2 hbw
      rw[show wantd ops σ o=some false by unfold wantd;rw[hg];simp only[hj,hb,hbf]]
      exact ih _ _ h.2
    ·rename_i rs hb
     refine⟨.tup [],h.1,?_⟩
     rw[show wantd ops σ o=some false by unfold wantd;rw[hg];simp only[hj,hb]]
     exact ih _ _ h.2
    ·exact h.elim
def CallIn (P:Program)(ops:Array Oper)(C:Oper→List Oper→St→Trace→Prop)(K:St→Trace→Prop):Prop:=
 ∀(r:RV) {o:Oper} {rest:List Oper} {σ:St} {tr:Trace},wantd ops σ o=some true→dstOK σ.n o.dst→((reqR P r σ o).eff σ.m).ok→runE P ops C rest (nextR P r σ o) (tr++[fpR P r σ o]) K→C o rest σ tr
theorem AW.reg {id:Nat}{ops:Array Oper}{σ:St}{Q:Exit→St→Prop}(h:∀(K:St→Trace→Prop) (C:Oper→List Oper→St→Trace→Prop),(∀σ' tr,Q .normal σ'→K σ' tr)→CallIn P ops C K→runE P ops C ops.toList σ [] K):AW P (.region id ops false) σ Q:=by
 refine AW.region (runE_ok (C:=fun o rest σ tr=>RunP P ops (o::rest) σ tr fun σ' _=>Q .normal σ') (fun _ _ _ _ h=>h) _ _ _ (h _ _ (fun _ _ h=>h) fun r o rest σ tr h1 h2 h3 h4=>⟨r,h2,?_⟩))
 rw[h1]
 exact⟨h3,runE_ok (fun _ _ _ _ h=>h) _ _ _ h4⟩
theorem AW.regD {id:Nat}{ops:Array Oper}{σ:St}{Q:Exit→St→Prop}(hm:P.follows .mixedOrders=true)(h:∀(K:St→Trace→Prop) (C:Oper→List Oper→St→Trace→Prop),(∀σ' tr,checkB ops (crs tr)=true→Q .normal σ'→K σ' tr)→CallIn P ops C K→runE P ops C ops.toList σ [] K):AW P (.region id ops true) σ Q:=by
 refine AW.draw hm (runE_ok (C:=fun o rest σ tr=>RunP P ops (o::rest) σ tr fun σ' tr=>checkB ops (crs tr)=true∧Q .normal σ') (fun _ _ _ _ h=>h) _ _ _ (h _ _ (fun _ _ h1 h2=>⟨h1,h2⟩) fun r o rest σ tr h1 h2 h3 h4=>⟨r,h2,?_⟩))
 rw[h1]
 exact⟨h3,runE_ok (fun _ _ _ _ h=>h) _ _ _ h4⟩
theorem AW.seqR {id:Nat}{ops:Array Oper}{y:Code}{σ:St}{Q:Exit→St→Prop}(h:∀(K:St→Trace→Prop) (C:Oper→List Oper→St→Trace→Prop),(∀σ' tr,AW P y σ' Q→K σ' tr)→CallIn P ops C K→runE P ops C ops.toList σ [] K):AW P (.seq (.region id ops false) y) σ Q:=AW.seq (AW.reg h)
theorem AW.seqD {id:Nat}{ops:Array Oper}{y:Code}{σ:St}{Q:Exit→St→Prop}(hm:P.follows .mixedOrders=true)(h:∀(K:St→Trace→Prop) (C:Oper→List Oper→St→Trace→Prop),(∀σ' tr,checkB ops (crs tr)=true→AW P y σ' Q→K σ' tr)→CallIn P ops C K→runE P ops C ops.toList σ [] K):AW P (.seq (.region id ops true) y) σ Q:=AW.seq (AW.regD hm h)
theorem AW.seqS {y:Code}{σ:St}{Q:Exit→St→Prop}(h:AW P y σ Q):AW P (.seq .skip y) σ Q:=AW.seq (AW.skip h)
end
theorem mrg_frz {d:Nat}{m:Mem}(h:frzB (m d)=m d):mrg [d] (frz (only [d] m)) m=m:=by
 funext i
 by_cases e:i=d
 ·subst e;simp[mrg,hasN,frz,only,h]
 ·have:(d==i)=false:=by rw[beq_eq_false_iff_ne];exact fun h=>e h.symm
  simp[mrg,hasN,this]
theorem mrg_each {i:Nat}{l:List Nat}{nw m:Mem}:mrg (i::l) nw m=upd (mrg l nw m) i (nw i):=by
 funext j
 unfold mrg upd
 by_cases h:j=i
 ·subst h;simp[hasN]
 ·have:(i==j)=false:=beq_eq_false_iff_ne.2 fun e=>h e.symm
  simp[hasN,this,h]
theorem mrg_none {nw m:Mem}:mrg [] nw m=m:=rfl
attribute [go_sem high] mrg_frz
attribute [go_sem] mrg_each mrg_none insOf setBs opnIds insAt sameBs callIn OC.blk yieldOf_func rYield rawP rNil keysK kOK eqK cellsV keyV keyAsk keyIx avAgg putKs putXs rMakeMap rEntry rEntryAt rEntryS rInsert lookCA zeroCA lookOut lookAt rLookup List.headD_cons inK okV runE isCall okE nextR fpR setB reqR areq ev Req.eff Req.mem Req.val Req.read Req.bad only hasN rLoad rStore rField rFieldV rIndex rMM rIndexV tabsV rd rLen rBin rBuild rBuildSlice rAppend rSlice rSlice3 bndOf rCap rMake rCopy rAppendX resOKs resO PostAt Option.isSome_some rCall rd stepSt dstOK upd ofVal ofCell AV.flat AV.cells CA.av callVal callMem dstL resIds freeAll mixI mixV mixC mixM mixL mixAV avM nOwn resE resEs resMs distN idsM fnFirst rMakeFunc plainA plainL clo0 capOK capsOK capCV capIds shutB firstOK firstAgg firstCV rowsOf unl unlB splice vbin nilA icmp iari eqL eqA eqCV partsA fillA allFlat idxOK rowsOK cloAll cloOK clo cloAV cloArg frz frzB ownIds srcOf srcOK argsOK shA shV entryT cond_true cond_false decide_true decide_false if_true if_false BEq.rfl beq_self_eq_true Bool.or_false Bool.or_true Bool.false_or Bool.true_or Bool.and_true Bool.true_and Bool.and_false Bool.false_and Bool.not_true Bool.not_false true_and and_true ne_eq not_false_eq_true List.getElem?_cons_succ List.getElem?_cons_zero List.getElem?_nil List.drop_succ_cons List.drop_zero List.drop_nil List.take_succ_cons List.take_zero List.take_nil List.length_cons List.length_nil List.cons_append List.nil_append List.append_nil List.map_cons List.map_nil List.flatten_cons List.flatten_nil List.all_cons List.all_nil Option.bind_some Option.bind_none Option.map_some Option.map_none List.getElem?_toArray Value.oneCell' Post resAll resAV resOK RVof thenQ blockQ scopeQ Int.natCast_nonneg Int.toNat_natCast Int.toNat_zero false_implies implies_true partOf_lo partOf_hi Int.natCast_zero List.take_length List.length_replicate List.length_map List.getD_eq_getElem?_getD List.getElem?_map Option.getD_some Option.getD_none live A.ids AV.ids idsL Blk.ids
end
end Go.Proofs.YtaoijgapnmmpoaaGreatDoor.Abs
