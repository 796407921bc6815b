/- Texts that were merged: AbsS3, AbsS4, AbsS5, AbsS6, AbsS7, AbsS8, AbsS9. -/
import Derived.Test.YtaoijgapnmmpoaaGreatDoorZ1
import Derived.Great.BuildSlice
import Derived.ArgAppend
import Derived.OpenShut
import Derived.Maps.AppendAt
import Derived.Lib.AppendZeros
import Derived.Laws.BytesString
set_option linter.unusedSimpArgs false
set_option linter.unusedVariables false
set_option maxRecDepth 100000
namespace Go.Proofs.YtaoijgapnmmpoaaGreatDoor.Abs
open Go.RowKit
section
section
variable {P:Program} {c:Ctx} {w:World} {σ:St} {a:Act} {base:Nat} {S0:Sh} {w0:W0}
theorem okLen {n:Nat}(h:n≤maxLen):okV (.int .i64 (n:Int))=true:=by
 unfold maxLen at h
 simp only[okV,inK,Bool.and_eq_true,decide_eq_true_eq]
 omega
theorem rowLen_le {c:Ctx}{m:Mem}(h:WR base S0 w0 c m w){id L:Nat}(hL:rowLen m id=some L):L≤maxLen:=by
 unfold rowLen at hL
 split at hL
 ·rename_i e sz xs hm
  cases hL
  obtain⟨_,_,h3,_⟩:=h.blk id _ hm
  exact small _ h3
 ·rename_i xs hm
  cases hL
  obtain⟨_,_,_,h1,h2⟩:=R.slice (h.blk id _ hm)
  omega
 ·rename_i K hm
  cases hL
  have:=h.blk id _ hm
  have h1:L≤1073741825:=this
  unfold maxLen
  omega
 ·rename_i j e sz xs hm
  cases hL
  obtain⟨_,_,_,h3,_⟩:=h.blk id _ hm
  exact small _ h3
 ·simp at hL
theorem map_shape {T:TypeId}{q:KD}{e:TypeId}(h:mapTI P T=some (q,e)):∃k,P.underlying T=some (.map k e)∧keyTI P k=some q∧∃i d z,P.info? e=some i∧P.underlying e=some d∧i.zero=some z∧isAggV z=isAggD d:=by
 unfold mapTI at h
 split at h
 ·rename_i k e' hT
  split at h
  ·rename_i q' hk
   split at h
   ·rename_i i hi
    split at h
    ·rename_i d hd
     split at h
     ·rename_i z hz
      cases hb:(isAggV z==isAggD d)with
      |false=>rw[hb]at h;simp at h
      |true=>
       rw[hb]at h
       simp only[cond_true,Option.some.injEq,Prod.mk.injEq]at h
       obtain⟨rfl,rfl⟩:=h
       exact⟨k,hT,hk,i,d,z,hi,hd,hz,by simpa using hb⟩
     ·simp at h
    ·simp at h
   ·simp at h
  ·simp at h
 ·simp at h
theorem run_getObj {r:Nat}{es:Array MapEntry}{cl:Nat}(h:w.heap[r]?=some (.map es cl)):(getObj r).run P w=.ok (.map es cl) w:=by simp[getObj,Sem.run,h]
theorem len_ok {o:Oper}{T:TypeId}{x:Operand}(ho:o.op=.call {callee:=.builtin .len,args:=#[x],argTypes:=#[T]}):OpOK P o σ (rLen P T (ev σ x)):=by
 unfold rLen
 split
 ·rename_i s1 s2 s3 s4 e esz ht
  obtain⟨hd,_⟩:=slice_shape ht
  have hr:∀(a:Act) (w:World) (ad:Option Addr) (n k:Nat),a.eval x=.slice ad n k→(execOp a.eval o).run P w=.ok (.value (.int .i64 n)) w:=fun a w ad n k h=>by
   simp[execOp,ho,resolve,invoke,builtin,Builtin.len_,run_underlying hd,h,goInt]
  split
  ·rename_i k xs hx
   refine OpOK.val fun base S0 w0 c a w h1 h2 h3=>?_
   have hv:=ev_ok h1 x
   rw[hx]at hv
   obtain⟨ad,cap,he,hl1,hl2⟩:=R.slice hv
   exact⟨_,hr a w ad _ cap he,R.v (okLen (by omega))⟩
  ·rename_i k xs hx
   refine OpOK.val fun base S0 w0 c a w h1 h2 h3=>?_
   have hv:=ev_ok h1 x
   rw[hx]at hv
   obtain⟨ad,he,hv⟩:=hv
   obtain⟨_,_,_,hl1,hl2⟩:=R.slice hv
   exact⟨_,hr a w ad _ _ he,R.v (okLen (by omega))⟩
  ·rename_i hx
   refine OpOK.val fun base S0 w0 c a w h1 h2 h3=>?_
   have hv:=ev_ok h1 x
   rw[hx]at hv
   exact⟨_,hr a w none 0 0 hv,R.v rfl⟩
  ·rename_i hx
   refine OpOK.val fun base S0 w0 c a w h1 h2 h3=>?_
   have hv:=ev_ok h1 x
   rw[hx]at hv
   obtain⟨ad,k,hv,_⟩:=hv
   exact⟨_,hr a w (some ad) 0 k hv,R.v rfl⟩
  ·rename_i id n hx
   refine OpOK.val fun base S0 w0 c a w h1 h2 h3=>?_
   have hv:=ev_ok h1 x
   rw[hx]at hv
   obtain⟨⟨ad,k,he⟩,L,hL,hn,_⟩:=hv
   exact⟨_,hr a w ad n k he,R.v (okLen (Nat.le_trans hn (rowLen_le h2 hL)))⟩
  ·exact OpOK.bad
 ·rename_i s1 s2 s3 s4 ht
  have hd:=str_shape ht
  split
  ·rename_i s hx
   refine OpOK.val fun base S0 w0 c a w h1 h2 h3=>?_
   have hv:=ev_ok h1 x
   rw[hx]at hv
   exact⟨_,by simp[execOp,ho,resolve,invoke,builtin,Builtin.len_,run_underlying hd,R.val hv,goInt],R.v h3⟩
  ·exact OpOK.bad
 ·split
  ·rename_i p hT
   obtain⟨q,e⟩:=p
   obtain⟨k,hd,_⟩:=map_shape hT
   have hr:∀(a:Act) (w:World) (b:Nat) (agg:Bool) (ks:List Value) (vss:List (List Value)),a.eval x=.map (some b)→MapIs w b agg ks vss→(execOp a.eval o).run P w=.ok (.value (.int .i64 ks.length)) w:=fun a w b agg ks vss he hm=>by
    obtain⟨⟨es,cl,p1,p2,_⟩,_⟩:=hm
    have hl:(es.size:Int)=(ks.length:Int):=by rw[←p2];simp
    simp[execOp,ho,resolve,invoke,builtin,Builtin.len_,run_underlying hd,he,run_getObj p1,goInt,hl]
   split
   ·rename_i id hx
    refine OpOK.same rfl fun base S0 w0 c a w h1 h2 h3=>?_
    have hv:=ev_ok h1 x
    rw[hx]at hv
    obtain⟨_,hv⟩:=hv
    simp only[Req.eff,Req.read,only_same]at h3 ⊢
    cases hm:σ.m id with
    |none=>simp only[hm]at h3
    |some blk=>
     cases blk with
     |mapb agg ks xs=>
      simp only[hm]at h3 ⊢
      obtain⟨_,_,vss,q1,q2⟩:=h2.blk id _ hm
      exact⟨_,hr a w _ agg ks vss hv q1,R.v h3⟩
     |fmap agg ks xs=>
      simp only[hm]at h3 ⊢
      obtain⟨_,vss,q1,q2⟩:=h2.blk id _ hm
      exact⟨_,hr a w _ agg ks vss hv q1,R.v h3⟩
     |_=>simp only[hm]at h3
   ·rename_i agg ks xs hx
    refine OpOK.val fun base S0 w0 c a w h1 h2 h3=>?_
    have hv:=ev_ok h1 x
    rw[hx]at hv
    have hv:R c.S w (.mapc agg ks xs) (a.eval x):=hv
    generalize hq:a.eval x=p at hv
    cases hv with
    |map k1 k2 k3 k4 k5=>exact⟨_,hr a w _ agg ks _ hq k2,R.v h3⟩
   ·exact OpOK.bad
  ·exact OpOK.bad
 ·exact OpOK.bad
theorem vbin_ok {op:BinOp}{T:TypeId}{x y v:Value}(h:vbin op x y=some v):(binOp op T x y).run P w=.ok v w∧okV v=true∧∃k k' a b,x=.int k a∧y=.int k' b:=by
 unfold vbin at h
 split at h
 ·rename_i k a k' b
  cases hk:decide (k=k')with
  |false=>rw[hk]at h;simp at h
  |true=>
   rw[hk]at h
   have hk':=of_decide_eq_true hk
   subst hk'
   simp only[cond_true]at h
   cases op<;>simp[icmp,iari]at h
   case quo=>
    cases hb:decide (b=0)with
    |true=>rw[hb]at h;simp at h
    |false=>
     rw[hb]at h
     have hb0:=of_decide_eq_false hb
     simp only[cond_false,Option.some.injEq]at h
     subst h
     exact⟨by simp[binOp,Op.intDiv,hb0],(inK_wf).trans (wf_wrap _ _),_,_,_,_,rfl,rfl⟩
   all_goals subst h
   all_goals exact⟨by simp[binOp,Op.intArith,Op.intCmp,Op.intBits],by first|rfl|exact(inK_wf).trans (wf_wrap _ _),_,_,_,_,rfl,rfl⟩
 ·simp at h
theorem eqL_ok {m:Mem}:∀{cs ds:List A} {b:Bool} {us vs:List Value},eqL cs ds=some b→F2 (VA c w m) cs us→F2 (VA c w m) ds vs→us.map shV=cs.map shA∧vs.map shV=cs.map shA∧eqVs us vs=b:=by
 have one:∀{x y:A} {b:Bool} {u v:Value},eqA x y=some b→VA c w m x u→VA c w m y v→shV u=shA x∧shV v=shA x∧eqV u v=b:=fun {x y b u v} h hx hy=>by
  unfold eqA at h
  split at h
  ·rename_i p q
   unfold eqCV at h
   split at h
   ·rename_i k a k' a'
    cases hk:decide (k=k')with
    |false=>rw[hk]at h;simp at h
    |true=>
     rw[hk]at h
     have hk':=of_decide_eq_true hk
     subst hk'
     simp at h
     rw[R.val hx,R.val hy]
     exact⟨rfl,rfl,h⟩
   ·rename_i a a'
    simp at h
    rw[R.val hx,R.val hy]
    exact⟨rfl,rfl,h⟩
   ·simp at h
  ·simp at h
 intro cs
 induction cs with
 |nil=>
  intro ds b us vs h hu hv
  cases ds with
  |nil=>simp[eqL]at h;rw[hu.unnil,hv.unnil];subst h;exact⟨rfl,rfl,rfl⟩
  |cons y ys=>simp[eqL]at h
 |cons x xs ih=>
  intro ds b us vs h hu hv
  cases ds with
  |nil=>simp[eqL]at h
  |cons y ys=>
   obtain⟨u,us,rfl,hu1,hu2⟩:=hu.uncons
   obtain⟨v,vs,rfl,hv1,hv2⟩:=hv.uncons
   have gen:∀b1 b2,eqA x y=some b1→eqL xs ys=some b2→b=(b1&&b2)→(u::us).map shV=(x::xs).map shA∧(v::vs).map shV=(x::xs).map shA∧eqVs (u::us) (v::vs)=b:=fun b1 b2 e1 e2 e=>by
    obtain⟨p1,p2,p3⟩:=one e1 hu1 hv1
    obtain⟨q1,q2,q3⟩:=ih e2 hu2 hv2
    exact⟨by simp[p1,q1],by simp[p2,q2],by rw[e];simp[eqVs,p3,q3]⟩
   cases xs with
   |nil=>
    cases ys with
    |nil=>
     simp only[eqL]at h
     exact gen b true h rfl (by simp)
    |cons y2 ys=>
     simp only[eqL]at h
     split at h
     ·simp at h
     ·simp at h
   |cons x2 xs=>
    simp only[eqL]at h
    cases e1:eqA x y with
    |none=>simp[e1]at h
    |some b1=>
     cases e2:eqL (x2::xs) ys with
     |none=>simp[e1,e2]at h
     |some b2=>
      simp only[e1,e2]at h
      exact gen b1 b2 e1 e2 (Option.some.inj h).symm
theorem eq_bool {T:TypeId}(hd:P.underlying T=some .bool)(p q:Bool):(Op.equal T (.bool p) (.bool q)).run P w=.ok (p==q) w:=by
 show(Op.equalIn (9999+1) T (.bool p) (.bool q)).run P w=_
 generalize 9999=n
 rw[Op.equalIn]
 simp only[Sem.run_bind,run_underlying hd,Result.andThen_ok]
 rfl
theorem nilA_ok {m:Mem}{x:A}{v:Value}{b:Bool}(h:VA c w m x v)(hb:nilA x=some b):∃ad n k,v=.slice ad n k∧b=ad.isNone:=by
 unfold nilA at hb
 split at hb
 ·cases hb;exact⟨none,0,0,h,rfl⟩
 ·cases hb;obtain⟨a,k,h1,_⟩:=h;exact⟨some a,0,k,h1,rfl⟩
 ·cases hb
  obtain⟨bb,o,cap,h1,_⟩:=R.elem (i:=0) h rfl
  exact⟨_,_,cap,h1,rfl⟩
 ·cases hb
  obtain⟨_,_,h⟩:=h
  obtain⟨bb,o,cap,h1,_⟩:=R.elem (i:=0) h rfl
  exact⟨_,_,cap,h1,rfl⟩
 ·simp at hb
theorem eq_nil {T e:TypeId}(hd:P.underlying T=some (.slice e))(ad:Option Addr)(n k:Nat):(Op.equal T (.slice ad n k) (.slice none 0 0)).run P w=.ok ad.isNone w:=by
 show(Op.equalIn (9999+1) T (.slice ad n k) (.slice none 0 0)).run P w=_
 generalize 9999=q
 rw[Op.equalIn]
 simp only[Sem.run_bind,run_underlying hd,Result.andThen_ok]
 cases ad<;>rfl
theorem eq_fn {T:TypeId}(h:isFn P T=true):(Op.equal T .nilFunc .nilFunc).run P w=.ok true w∧∀f p q,(Op.equal T (.func f p q) .nilFunc).run P w=.ok false w:=by
 unfold isFn at h
 split at h
 ·rename_i a b c hd
  refine⟨?_,fun f p q=>?_⟩
  ·show(Op.equalIn (9999+1) T .nilFunc .nilFunc).run P w=_
   generalize 9999=n
   rw[Op.equalIn]
   simp only[Sem.run_bind,run_underlying hd,Result.andThen_ok]
   rfl
  ·show(Op.equalIn (9999+1) T (.func f p q) .nilFunc).run P w=_
   generalize 9999=n
   rw[Op.equalIn]
   simp only[Sem.run_bind,run_underlying hd,Result.andThen_ok]
   rfl
 ·cases h
theorem R.isFunc {S:Sh}{w:World}{f:FuncId}{g:Bool}{fi ca:List CV}{v:Value}(h:R S w (.fn f g fi ca) v):∃f p q,v=.func f p q:=by
 cases h<;>exact⟨_,_,_,rfl⟩
theorem bin_ok {o:Oper}{op:BinOp}{T T':TypeId}{x y:Operand}(ho:o.op=.binOp op T x y T'):OpOK P o σ (rBin P op T (ev σ x) (ev σ y)):=by
 unfold rBin
 split
 ·rename_i a b hx hy
  have hvals:∀{c:Ctx} {a':Act} {w:World},Tm c w σ a'→a'.eval x=a∧a'.eval y=b:=fun h1=>by
   have v1:=ev_ok h1 x
   have v2:=ev_ok h1 y
   rw[hx]at v1
   rw[hy]at v2
   exact⟨R.val v1,R.val v2⟩
  split
  ·rename_i v hv
   refine OpOK.val fun base S0 w0 c a' w h1 h2 h3=>?_
   obtain⟨e1,e2⟩:=hvals h1
   obtain⟨q1,q2,k,k',i,j,rfl,rfl⟩:=vbin_ok (P:=P) (w:=w) (T:=T) hv
   have hg:(eqGuard op T x y (.int k i) (.int k' j)).run P w=.ok () w:=by cases op<;>simp[eqGuard]
   exact⟨v,by simp[execOp,ho,e1,e2,hg,q1],R.v q2⟩
  ·split
   ·rename_i p q s1 s2 s3 s4 ht _
    have hd:=bool_shape ht
    split
    ·refine OpOK.val fun base S0 w0 c a' w h1 h2 h3=>?_
     obtain⟨e1,e2⟩:=hvals h1
     exact⟨_,by simp[execOp,ho,e1,e2,eqGuard,binOp,eq_bool hd],R.v rfl⟩
    ·refine OpOK.val fun base S0 w0 c a' w h1 h2 h3=>?_
     obtain⟨e1,e2⟩:=hvals h1
     exact⟨_,by simp[execOp,ho,e1,e2,eqGuard,binOp,eq_bool hd],R.v rfl⟩
    ·exact OpOK.bad
   ·rename_i p q ht
    split
    ·refine OpOK.val fun base S0 w0 c a' w h1 h2 h3=>?_
     obtain⟨e1,e2⟩:=hvals h1
     exact⟨_,by simp[execOp,ho,e1,e2,eqGuard,binOp,Op.stringOp],R.v rfl⟩
    ·refine OpOK.val fun base S0 w0 c a' w h1 h2 h3=>?_
     obtain⟨e1,e2⟩:=hvals h1
     exact⟨_,by simp[execOp,ho,e1,e2,eqGuard,binOp,Op.stringOp],R.v rfl⟩
    ·refine OpOK.val fun base S0 w0 c a' w h1 h2 h3=>?_
     obtain⟨e1,e2⟩:=hvals h1
     have h4:(p.size:Int)+(q.size:Int)≤9223372036854775807:=by omega
     exact⟨_,by simp[execOp,ho,e1,e2,eqGuard,binOp,Op.stringOp,h4],R.v rfl⟩
    ·exact OpOK.bad
   ·rename_i k p k' q bb _
    split
    ·refine OpOK.val fun base S0 w0 c a' w h1 h2 h3=>?_
     obtain⟨e1,e2⟩:=hvals h1
     obtain⟨rfl,e3,e4⟩:=h3
     exact⟨_,by simp[execOp,ho,e1,e2,eqGuard,binOp,Op.intDiv,e3],R.v e4⟩
    ·refine OpOK.val fun base S0 w0 c a' w h1 h2 h3=>?_
     obtain⟨e1,e2⟩:=hvals h1
     have h4:¬bb<0:=by omega
     exact⟨_,by simp[execOp,ho,e1,e2,eqGuard,binOp,Op.shift,h4],R.v ((inK_wf).trans (wf_wrap _ _))⟩
    ·refine OpOK.val fun base S0 w0 c a' w h1 h2 h3=>?_
     obtain⟨e1,e2⟩:=hvals h1
     have h4:¬bb<0:=by omega
     exact⟨_,by simp[execOp,ho,e1,e2,eqGuard,binOp,Op.shift,h4],R.v h3.2⟩
    ·exact OpOK.bad
   ·split
    ·refine OpOK.val fun base S0 w0 c a' w h1 h2 h3=>?_
     obtain⟨e1,e2⟩:=hvals h1
     exact⟨_,by simp[execOp,ho,e1,e2,eqGuard,binOp,(eq_fn h3).1],R.v rfl⟩
    ·refine OpOK.val fun base S0 w0 c a' w h1 h2 h3=>?_
     obtain⟨e1,e2⟩:=hvals h1
     exact⟨_,by simp[execOp,ho,e1,e2,eqGuard,binOp,(eq_fn h3).1],R.v rfl⟩
    ·exact OpOK.bad
   ·exact OpOK.bad
 ·rename_i f g fi ca hx hy
  have hvals:∀{c:Ctx} {a':Act} {w:World},Tm c w σ a'→(∃f p q,a'.eval x=.func f p q)∧a'.eval y=.nilFunc:=fun h1=>by
   have v1:=ev_ok h1 x
   have v2:=ev_ok h1 y
   rw[hx]at v1
   rw[hy]at v2
   exact⟨R.isFunc v1,R.val v2⟩
  split
  ·refine OpOK.val fun base S0 w0 c a' w h1 h2 h3=>?_
   obtain⟨⟨f,p,q,e1⟩,e2⟩:=hvals h1
   exact⟨_,by simp[execOp,ho,e1,e2,eqGuard,binOp,(eq_fn h3).2],R.v rfl⟩
  ·refine OpOK.val fun base S0 w0 c a' w h1 h2 h3=>?_
   obtain⟨⟨f,p,q,e1⟩,e2⟩:=hvals h1
   exact⟨_,by simp[execOp,ho,e1,e2,eqGuard,binOp,(eq_fn h3).2],R.v rfl⟩
  ·exact OpOK.bad
 ·rename_i x1 hx hy
  split
  ·rename_i s1 s2 s3 s4 e esz b ht hb
   obtain⟨hd,_⟩:=slice_shape ht
   have hvals:∀{c:Ctx} {a':Act} {w:World},Tm c w σ a'→(∃ad n k,a'.eval x=.slice ad n k∧b=ad.isNone)∧a'.eval y=.slice none 0 0:=fun h1=>by
    have v1:=ev_ok h1 x
    have v2:=ev_ok h1 y
    rw[hx]at v1
    rw[hy]at v2
    exact⟨nilA_ok v1 hb,v2⟩
   split
   ·refine OpOK.val fun base S0 w0 c a' w h1 h2 h3=>?_
    obtain⟨⟨ad,n,k,e1,rfl⟩,e2⟩:=hvals h1
    exact⟨_,by simp[execOp,ho,e1,e2,eqGuard,binOp,eq_nil hd],R.v rfl⟩
   ·refine OpOK.val fun base S0 w0 c a' w h1 h2 h3=>?_
    obtain⟨⟨ad,n,k,e1,rfl⟩,e2⟩:=hvals h1
    exact⟨_,by simp[execOp,ho,e1,e2,eqGuard,binOp,eq_nil hd],R.v rfl⟩
   ·exact OpOK.bad
  ·exact OpOK.bad
 ·rename_i cs ds hx hy
  split
  ·rename_i b hb
   have main:∀{c:Ctx} {a':Act} {w:World},Tm c w σ a'→EqOK P T (cs.map shA)→∃us vs:List Value,a'.eval x=.agg us.toArray∧a'.eval y=.agg vs.toArray∧(Op.equal T (.agg us.toArray) (.agg vs.toArray)).run P w=.ok b w∧P.eqGuardType P.depth T=false:=fun {c a' w} h1 hq=>by
    have v1:=ev_ok h1 x
    have v2:=ev_ok h1 y
    rw[hx]at v1
    rw[hy]at v2
    obtain⟨us,e1,f1⟩:=v1
    obtain⟨vs,e2,f2⟩:=v2
    obtain⟨q1,q2,q3⟩:=eqL_ok hb f1 f2
    refine⟨us,vs,e1,e2,?_,hq.1⟩
    rw[←q3]
    exact hq.2 us vs w q1 q2
   split
   ·refine OpOK.val fun base S0 w0 c a' w h1 h2 h3=>?_
    obtain⟨us,vs,e1,e2,e3,e4⟩:=main h1 h3
    exact⟨_,by simp[execOp,ho,e1,e2,eqGuard,binOp,e3,e4,program,Sem.run],R.v rfl⟩
   ·refine OpOK.val fun base S0 w0 c a' w h1 h2 h3=>?_
    obtain⟨us,vs,e1,e2,e3,e4⟩:=main h1 h3
    exact⟨_,by simp[execOp,ho,e1,e2,eqGuard,binOp,e3,e4,program,Sem.run],R.v rfl⟩
   ·exact OpOK.bad
  ·exact OpOK.bad
 ·exact OpOK.bad
theorem not_ok {o:Oper}{T:TypeId}{x:Operand}{b:Bool}(ho:o.op=.unOp .not T x)(hx:ev σ x=.one (.c (.v (.bool b)))):OpOK P o σ (.val True (.one (.c (.v (.bool (!b)))))):=
 OpOK.val fun base S0 w0 c a w h1 h2 h3=>by
  have hv:=ev_ok h1 x
  rw[hx]at hv
  exact⟨_,by simp[execOp,ho,R.val hv,Op.unary],R.v rfl⟩
theorem neg_ok {o:Oper}{T:TypeId}{x:Operand}{k:IntKind}{n:Int}(ho:o.op=.unOp .neg T x)(hx:ev σ x=.one (.c (.v (.int k n)))):OpOK P o σ (.val True (.one (.c (.v (.int k (k.wrap (-n))))))):=
 OpOK.val fun base S0 w0 c a w h1 h2 h3=>by
  have hv:=ev_ok h1 x
  rw[hx]at hv
  exact⟨_,by simp[execOp,ho,R.val hv,Op.unary,Op.intArith,Int.zero_sub,program,Sem.run],R.v (inK_wf.trans (wf_wrap _ _))⟩
theorem convert_ok {o:Oper}{S T:TypeId}{x:Operand}{a1 a2:Nat}{a3:Bool}{a4:List A}{k k':IntKind}{n:Int}{ds:TypeDesc}(ho:o.op=.convert S T x)(ht:tinfo P T=some ⟨a1,a2,a3,a4,.int k⟩)(hs:P.underlying S=some ds)(hx:ev σ x=.one (.c (.v (.int k' n)))):OpOK P o σ (.val True (.one (.c (.v (.int k (k.wrap n)))))):=
 OpOK.val fun base S0 w0 c a w h1 h2 h3=>by
  have hv:=ev_ok h1 x
  rw[hx]at hv
  have hd:=int_shape ht
  exact⟨_,by simp[execOp,ho,R.val hv,convert,run_underlying hd,run_underlying hs,Conv.intToInt],R.v (inK_wf.trans (wf_wrap _ _))⟩
theorem mm_ok {o:Oper}{x y:Operand}{ts:Array TypeId}{lo:Bool}(ho:o.op=.call {callee:=.builtin (bif lo then .min else .max),args:=#[x,y],argTypes:=ts}):OpOK P o σ (rMM lo (ev σ x) (ev σ y)):=by
 unfold rMM
 split
 ·rename_i k a k' b hx hy
  refine OpOK.val fun base S0 w0 c a' w h1 h2 h3=>?_
  have v1:=ev_ok h1 x
  have v2:=ev_ok h1 y
  rw[hx]at v1
  rw[hy]at v2
  subst h3
  have v1:R c.S w (.v (.int k a)) (a'.eval x):=v1
  have v2:R c.S w (.v (.int k b)) (a'.eval y):=v2
  have okR:∀{z v:Value},R c.S w (.v z) v→okV z=true:=fun h=>by cases h;assumption
  have o1:=okR v1
  have o2:=okR v2
  cases lo with
  |true=>
   refine⟨_,by simp[execOp,ho,resolve,invoke,builtin,Builtin.min_,Builtin.min2,R.val v1,R.val v2],R.v ?_⟩
   simp only[cond_true]
   split<;>assumption
  |false=>
   refine⟨_,by simp[execOp,ho,resolve,invoke,builtin,Builtin.max_,Builtin.max2,R.val v1,R.val v2],R.v ?_⟩
   simp only[cond_false]
   split<;>assumption
 ·exact OpOK.bad
end
end
section
section
variable {P:Program} {c:Ctx} {w:World} {σ:St} {a:Act} {base:Nat} {S0:Sh} {w0:W0}
theorem fold_splice (off:Nat)(us cs:List Value)(h:off+us.length≤cs.length):(us.toArray.zipIdx.foldl (fun cs (c,j)=>cs.setIfInBounds (off+j) c) cs.toArray)=(cs.take off++us++cs.drop (off+us.length)).toArray:=by
 rw[←Array.foldl_toList,Array.toList_zipIdx]
 obtain⟨h1,h2⟩:=Great.foldl_set off us 0 cs.toArray
 apply Array.ext_getElem?
 intro k
 refine(h2 k).trans ?_
 simp only[Nat.add_zero,List.getElem?_toArray,List.size_toArray]
 by_cases hk:off≤k∧k<off+us.length∧k<cs.length
 ·rw[if_pos hk,List.append_assoc,List.getElem?_append_right (by simp;omega),List.getElem?_append_left (by simp;omega)]
  congr 1
  simp
  omega
 ·rw[if_neg hk]
  by_cases h1:k<off
  ·rw[List.append_assoc,List.getElem?_append_left (by simp;omega),List.getElem?_take_of_lt h1]
  ·rw[List.getElem?_append_right (by simp;omega),List.getElem?_drop]
   congr 1
   simp
   omega
theorem fill_ok {α:Type}{Q:α→Value→Prop}{place:Nat→Option (Nat×Nat)}:∀{ps:List (Nat×List α)} {vps:List (Nat×Value)} {cs cs':List α} {vals:List Value},F2 Q cs vals→F2 (fun(p:Nat×List α) (q:Nat×Value)=>p.1=q.1∧∃vs:List Value,q.2.cells=vs.toArray∧F2 Q p.2 vs) ps vps→fillA place cs ps=some cs'→∃vals',Instr.fill place vals.toArray vps=some vals'.toArray∧F2 Q cs' vals':=by
 intro ps
 induction ps with
 |nil=>
  intro vps cs cs' vals h k e
  rw[k.unnil]
  simp only[fillA,Option.some.injEq]at e
  subst e
  exact⟨vals,rfl,h⟩
 |cons p ps ih=>
  intro vps cs cs' vals h k e
  obtain⟨q,vps,rfl,k1,k2⟩:=k.uncons
  obtain⟨i,us⟩:=p
  obtain⟨i',v⟩:=q
  obtain⟨rfl,vs,hvs,huv⟩:=k1
  simp only[fillA]at e
  simp only at hvs
  cases hp:place i with
  |none=>rw[hp]at e;simp at e
  |some os=>
   obtain⟨off,sz⟩:=os
   simp only[hp]at e
   cases hb:(decide (us.length=sz)&&decide (off+us.length≤cs.length))with
   |false=>rw[hb]at e;simp at e
   |true=>
    rw[hb]at e
    simp only[Bool.and_eq_true,decide_eq_true_eq]at hb
    simp only[cond_true]at e
    obtain⟨vals',q1,q2⟩:=ih (splice_ok h huv off) k2 e
    refine⟨vals',?_,q2⟩
    have hl:us.length=vs.length:=huv.1
    have hl2:cs.length=vals.length:=h.1
    simp only[Instr.fill,hp,hvs]
    have hl3:vs.length=sz:=by omega
    have hl4:off+vs.length≤vals.length:=by omega
    rw[if_neg (by simp[hl3];omega),fold_splice off vs vals hl4]
    simpa[splice]using q1
theorem parts_ok (h1:Tm c w σ a):∀{ps:List (Nat×Operand)},allFlat (partsA (ev σ) ps)=true→F2 (fun(p:Nat×List A) (q:Nat×Value)=>p.1=q.1∧∃vs:List Value,q.2.cells=vs.toArray∧F2 (VA c w σ.m) p.2 vs) ((partsA (ev σ) ps).map fun p=>(p.1,p.2.cells)) (ps.map fun p=>(p.1,a.eval p.2)):=by
 intro ps
 induction ps with
 |nil=>intro _;exact F2.nil
 |cons p ps ih=>
  intro h
  simp only[partsA,List.map_cons,allFlat,Bool.and_eq_true]at h
  obtain⟨vs,q1,q2⟩:=cellsOf_ok (ev_ok h1 p.2) h.1
  exact F2.cons ⟨rfl,vs,q1,q2⟩ (ih h.2)
theorem zeroA_ok {T:TypeId}{ti:TI}(ht:TIs P T ti){m:Mem}:∃i z,P.info? T=some i∧i.zero=some z∧F2 (VA c w m) ti.zero z.cells.toList:=by
 obtain⟨i,d,z,hi,hd,hz,h1,rfl⟩:=ht
 exact⟨i,z,hi,hz,ofCells_ok (List.all_eq_true.1 h1)⟩
theorem places_ok:∀(fs:List Field),(∀f∈fs,(P.info? f.type).isSome=true)→fs.mapM (fun f=>(P.info? f.type).map fun i=>(f.offset,i.size))=some (fs.map fun f=>(f.offset,P.cellsOf f.type)):=by
 intro fs
 induction fs with
 |nil=>intro _;rfl
 |cons f fs ih=>
  intro h
  obtain⟨i,hi⟩:=Option.isSome_iff_exists.1 (h f (by simp))
  rw[List.mapM_cons,ih (fun g hg=>h g (by simp[hg]))]
  simp[hi,Program.cellsOf]
theorem build_ok {o:Oper}{T:TypeId}{ps:Array (Nat×Operand)}(ho:o.op=.build T ps):OpOK P o σ (rBuild P T (partsA (ev σ) ps.toList)):=by
 have hpv:∀a:Act,(ps.map fun(i,x)=>(i,a.eval x)).toList=ps.toList.map fun p=>(p.1,a.eval p.2):=fun a=>by simp
 unfold rBuild
 split
 ·rename_i s1 s2 s3 zero fs ht
  obtain⟨fields,hd,rfl,hall⟩:=field_shape ht
  split
  ·rename_i cs hcs
   refine OpOK.val fun base S0 w0 c a w h1 h2 h3=>?_
   obtain⟨i,z,hi,hz,hzero⟩:=zeroA_ok (c:=c) (w:=w) (m:=σ.m) (tinfo_is ht)
   obtain⟨vals,q1,q2⟩:=fill_ok hzero (parts_ok h1 h3) hcs
   have hb:P.built T (ps.map fun(i,x)=>(i,a.eval x)).toList=some vals.toArray:=by
    unfold Program.built
    simp only[hi,hd,hz,places_ok _ fun f hf=>(hall f hf).1]
    rw[hpv,←q1]
    congr 1
    funext j
    simp only[List.getElem?_toArray,List.getElem?_map]
    cases fields.toList[j]?<;>rfl
   exact⟨_,by simp[execOp,ho,run_build w T _ _ hb],vals,rfl,q2⟩
  ·exact OpOK.bad
 ·rename_i s1 s2 s3 zero n e esz ht
  obtain⟨hd,hc⟩:=arr_shape ht
  split
  ·rename_i cs hcs
   refine OpOK.val fun base S0 w0 c a w h1 h2 h3=>?_
   obtain⟨h3,hz0⟩:=h3
   obtain⟨i,z,hi,hz,hzero⟩:=zeroA_ok (c:=c) (w:=w) (m:=σ.m) (tinfo_is ht)
   obtain⟨vals,q1,q2⟩:=fill_ok hzero (parts_ok h1 h3) hcs
   obtain⟨ie,hie,hse⟩:=info_of_cells (P:=P) (t:=e) (by rw[hc];exact hz0)
   have hb:P.built T (ps.map fun(i,x)=>(i,a.eval x)).toList=some vals.toArray:=by
    unfold Program.built
    simp only[hi,hd,hz,hie]
    rw[hpv,←q1,hse,hc]
   exact⟨_,by simp[execOp,ho,run_build w T _ _ hb],vals,rfl,q2⟩
  ·exact OpOK.bad
 ·exact OpOK.bad
theorem Goes.trans {c1 c2:Ctx}{w1 w2:World}{m m1 m2:Mem}(h:Goes c w m c1 w1 m1)(k:Goes c1 w1 m1 c2 w2 m2):Goes c w m c2 w2 m2 where
 S:=fun j b hb=>k.S j b (h.S j b hb)
 heap:=fun j b hb=>(k.heap j b (h.S j b hb)).trans (h.heap j b hb)
 box:=fun id hm=>by
  obtain⟨h1,h2⟩:=h.box id hm
  obtain⟨k1,k2⟩:=k.box id h2
  exact⟨k1.trans h1,k2⟩
 rows:=fun id L hL=>by
  obtain⟨L1,h1,h2,h3⟩:=h.rows id L hL
  obtain⟨L2,k1,k2,k3⟩:=k.rows id L1 h1
  refine⟨L2,k1,Nat.le_trans h2 k2,fun e=>?_⟩
  have e1:L=L1:=by omega
  have e2:L1=L2:=by omega
  obtain⟨p1,p2⟩:=h3 e1
  obtain⟨q1,q2⟩:=k3 e2
  refine⟨q1.trans p1,fun e sz xs hx=>?_⟩
  obtain⟨ys,hy⟩:=q2 e sz xs hx
  exact p2 e sz ys hy
theorem freezes (ids:List Nat):∀{c:Ctx} {m:Mem},WR base S0 w0 c m w→∃c',Goes c w m c' w (mrg ids (frz m) m)∧WR base S0 w0 c' (mrg ids (frz m) m) w:=by
 induction ids with
 |nil=>intro c m h;exact⟨c,by exact Goes.refl _ _ _,h⟩
 |cons i ids ih=>
  intro c m h
  have key:∀m1:Mem,m1=upd m i (frz m i)→mrg ids (frz m1) m1=mrg (i::ids) (frz m) m:=fun m1 e=>by
   subst e
   funext j
   by_cases hj:j=i
   ·subst hj
    have h1:upd m j (frz m j) j=frz m j:=upd_same _ _ _
    have h2:frz (upd m j (frz m j)) j=frz m j:=by
     show frzB (upd m j (frz m j) j)=frzB (m j)
     rw[h1]
     show frzB (frzB (m j))=frzB (m j)
     cases m j with
     |none=>rfl
     |some b=>cases b<;>rfl
    simp only[mrg,hasN,h1,h2]
    cases hasN ids j<;>simp
   ·have h1:upd m i (frz m i) j=m j:=upd_ne _ _ hj
    have h2:frz (upd m i (frz m i)) j=frz m j:=congrArg frzB h1
    have h3:(i==j)=false:=by simpa using fun e=>hj e.symm
    simp only[mrg,hasN,h1,h2,h3,Bool.false_or]
  cases hm:m i with
  |none=>
   have e:m=upd m i (frz m i):=by
    funext j
    by_cases hj:j=i
    ·subst hj;rw[upd_same];simp[frz,frzB,hm]
    ·rw[upd_ne _ _ hj]
   have:=ih h
   rw[key m e]at this
   exact this
  |some b=>
   have same:frzB (some b)=some b→∃c',Goes c w m c' w (mrg (i::ids) (frz m) m)∧WR base S0 w0 c' (mrg (i::ids) (frz m) m) w:=fun hb=>by
    have e:m=upd m i (frz m i):=by
     funext j
     by_cases hj:j=i
     ·subst hj;rw[upd_same];show m j=frzB (m j);rw[hm,hb]
     ·rw[upd_ne _ _ hj]
    have:=ih h
    rw[key m e]at this
    exact this
   cases b with
   |rows e sz xs=>
    obtain⟨g1,h1,_⟩:=h.freeze hm
    have e1:upd m i (some (.froz xs))=upd m i (frz m i):=by simp[frz,frzB,hm]
    obtain⟨c',g2,h2⟩:=ih h1
    rw[key _ e1]at g2 h2
    exact⟨c',g1.trans g2,h2⟩
   |mapb a ks xs=>
    obtain⟨g1,h1⟩:=h.showMap hm
    have e1:upd m i (some (.fmap a ks xs))=upd m i (frz m i):=by simp[frz,frzB,hm]
    obtain⟨c',g2,h2⟩:=ih h1
    rw[key _ e1]at g2 h2
    exact⟨c',g1.trans g2,h2⟩
   |_=>exact same rfl
theorem only_in {ids:List Nat}{m:Mem}{i:Nat}(h:i∈ids):only ids m i=m i:=by simp[only,hasN_iff.2 h]
theorem mrg_only {ids:List Nat}{m:Mem}:mrg ids (frz (only ids m)) m=mrg ids (frz m) m:=by
 funext i
 unfold mrg
 cases h:hasN ids i with
 |false=>rfl
 |true=>simp only[cond_true,frz,only_in (hasN_iff.1 h)]
theorem clo_ok {ids:List Nat}{m:Mem}{c:Ctx}{x:A}{v:Value}(h:WR base S0 w0 c (mrg ids (frz m) m) w)(hv:VA c w (mrg ids (frz m) m) x v)(hok:cloOK (only ids m) x)(hi:∀i∈ownIds [x],i∈ids):R c.S w (clo (only ids m) x) v:=by
 cases x with
 |c y=>exact hv
 |own id n=>
  have hin:id∈ids:=hi id (by simp[ownIds])
  obtain⟨_,L,hL,hn,hq⟩:=hv
  simp only[cloOK,only_in hin]at hok
  simp only[clo,only_in hin]
  have hmrg:mrg ids (frz m) m id=frz m id:=by simp[mrg,hasN_iff.2 hin]
  cases hm:m id with
  |none=>rw[hm]at hok;exact hok.elim
  |some b=>
   rw[hm]at hok
   cases b with
   |box cs=>exact hok.elim
   |fbox cs=>exact hok.elim
   |obox cs=>exact hok.elim
   |orec r=>exact hok.elim
   |mapb a ks xs=>exact hok.elim
   |fmap a ks xs=>exact hok.elim
   |gone L=>exact hok.elim
   |lent j e sz xs=>
    have hf:mrg ids (frz m) m id=some (.lent j e sz xs):=by rw[hmrg];simp[frz,frzB,hm]
    have hL':xs.length=L:=by simpa[rowLen,hf]using hL
    simp only at hok ⊢
    rw[hq (by omega)]
    obtain⟨_,p1,p2,p3,p4,vss,p5,p6⟩:=h.blk id _ hf
    exact row_shown j p1 p5 p6 fun g hg=>(p4 g hg j).2 rfl
   |rows e sz xs=>
    have hf:mrg ids (frz m) m id=some (.froz xs):=by rw[hmrg];simp[frz,frzB,hm]
    have hL':xs.length=L:=by simpa[rowLen,hf]using hL
    simp only at hok ⊢
    rw[hq (by omega)]
    exact h.blk id _ hf
   |froz xs=>
    have hf:mrg ids (frz m) m id=some (.froz xs):=by rw[hmrg];simp[frz,frzB,hm]
    have hL':xs.length=L:=by simpa[rowLen,hf]using hL
    simp only at hok ⊢
    rw[hq (by omega)]
    exact h.blk id _ hf
 |mp id=>
  have hin:id∈ids:=hi id (by simp[ownIds])
  obtain⟨_,rfl⟩:=hv
  simp only[cloOK,only_in hin]at hok
  simp only[clo,only_in hin]
  have hmrg:mrg ids (frz m) m id=frz m id:=by simp[mrg,hasN_iff.2 hin]
  cases hm:m id with
  |none=>rw[hm]at hok;exact hok.elim
  |some b=>
   rw[hm]at hok
   cases b with
   |mapb a ks xs=>
    have hf:mrg ids (frz m) m id=some (.fmap a ks xs):=by rw[hmrg];simp[frz,frzB,hm]
    obtain⟨p1,vss,p2,p3⟩:=h.blk id _ hf
    exact map_shown p1 p2 p3
   |fmap a ks xs=>
    have hf:mrg ids (frz m) m id=some (.fmap a ks xs):=by rw[hmrg];simp[frz,frzB,hm]
    obtain⟨p1,vss,p2,p3⟩:=h.blk id _ hf
    exact map_shown p1 p2 p3
   |_=>exact hok.elim
 |full k xs=>obtain⟨_,_,h2⟩:=hv;exact h2
 |nil=>rw[show v=.slice none 0 0 from hv];exact R.nil
 |ptr id off=>exact hok.elim
 |el k cs off=>
  obtain⟨b,o,vs,rfl,h1,h2,h3⟩:=hv
  exact R.ptr h1 h2.1 h3 h2.2
 |pel id n i off=>exact hok.elim
 |bare=>obtain⟨_,_,h1,h2⟩:=hv;rw[h1];exact R.bare h2
 |any=>exact hok.elim
theorem cloAll_cons {m:Mem}{x:A}{l:List A}:cloAll m (x::l)↔cloOK m x∧cloAll m l:=by
 cases l with
 |nil=>simp[cloAll]
 |cons y l=>simp[cloAll]
theorem ownIds_cons {x:A}{l:List A}:ownIds (x::l)=ownIds [x]++ownIds l:=by cases x<;>simp[ownIds]
theorem ownIds_append (l k:List A):ownIds (l++k)=ownIds l++ownIds k:=by
 induction l with
 |nil=>rfl
 |cons x l ih=>rw[List.cons_append,ownIds_cons,ih,←List.append_assoc,←ownIds_cons]
theorem cloCells_ok {ids:List Nat}{m:Mem}{c:Ctx}(h:WR base S0 w0 c (mrg ids (frz m) m) w):∀{xs:List A} {vs:List Value},F2 (VA c w (mrg ids (frz m) m)) xs vs→cloAll (only ids m) xs→(∀i∈ownIds xs,i∈ids)→F2 (R c.S w) (xs.map (clo (only ids m))) vs:=by
 intro xs
 induction xs with
 |nil=>intro vs h1 _ _;rw[h1.unnil];exact F2.nil
 |cons x xs ih=>
  intro vs h1 h2 h3
  obtain⟨v,vs,rfl,k1,k2⟩:=h1.uncons
  obtain⟨p1,p2⟩:=cloAll_cons.1 h2
  rw[ownIds_cons]at h3
  exact F2.cons (clo_ok h k1 p1 fun i hi=>h3 i (by simp[hi])) (ih k2 p2 fun i hi=>h3 i (by simp[hi]))
theorem argsOK_cons {m:Mem}{x:AV}{l:List AV}:argsOK m (x::l)↔(x.flat=true∧cloAll m x.cells)∧argsOK m l:=by
 cases l with
 |nil=>simp[argsOK]
 |cons y l=>simp[argsOK]
theorem cloAV_ok {ids:List Nat}{m:Mem}{c:Ctx}{x:AV}{v:Value}(h:WR base S0 w0 c (mrg ids (frz m) m) w)(hv:VV c w (mrg ids (frz m) m) x v)(hf:x.flat=true)(hok:cloAll (only ids m) x.cells)(hi:∀i∈ownIds x.cells,i∈ids):RC c.S w (cloAV (only ids m) x) v:=by
 cases x with
 |one y=>exact clo_ok h hv hok hi
 |agg cs=>
  obtain⟨vs,rfl,h2⟩:=hv
  exact⟨vs,rfl,cloCells_ok h h2 hok hi⟩
 |tup rs=>simp[AV.flat]at hf
 |tupo rs=>simp[AV.flat]at hf
 |junk=>simp[AV.flat]at hf
theorem cloArg_ok {ids:List Nat}{m:Mem}{c:Ctx}{x:AV}{v:Value}(h:WR base S0 w0 c (mrg ids (frz m) m) w)(hv:VV c w (mrg ids (frz m) m) x v)(hf:x.flat=true)(hok:cloAll (only ids m) x.cells)(hi:∀i∈ownIds x.cells,i∈ids):RC c.S w (cloArg (only ids m) x) v:=by
 have hs:=cloAV_ok h hv hf hok hi
 cases x with
 |one y=>
  cases y with
  |nil=>exact hv
  |_=>exact hs
 |_=>exact hs
theorem mrg_cons {d:Nat}{ids:List Nat}{b:Option Blk}{m:Mem}:mrg (d::ids) (fun i=>bif i==d then b else frz (only (d::ids) m) i) m=upd (mrg ids (frz m) m) d b:=by
 funext i
 have hN:hasN (d::ids) i=(d==i||hasN ids i):=rfl
 show(bif hasN (d::ids) i then(bif i==d then b else frz (only (d::ids) m) i)else m i)=if i=d then b else(bif hasN ids i then frz m i else m i)
 rw[hN]
 by_cases h:i=d
 ·subst h;simp
 ·have h1:(d==i)=false:=by simpa using fun e=>h e.symm
  have h2:(i==d)=false:=by simpa using h
  simp only[h1,h2,Bool.false_or,cond_false,if_neg h]
  cases hi:hasN ids i with
  |false=>rfl
  |true=>
   show frzB (only (d::ids) m i)=frzB (m i)
   rw[only_in (List.mem_cons_of_mem _ (hasN_iff.1 hi))]
theorem only_cons {d:Nat}{ids:List Nat}{m:Mem}(hd:m d=none):only (d::ids) m=only ids m:=by
 funext i
 have hN:hasN (d::ids) i=(d==i||hasN ids i):=rfl
 show(bif hasN (d::ids) i then m i else none)=(bif hasN ids i then m i else none)
 rw[hN]
 by_cases h:d=i
 ·subst h
  simp only[beq_self_eq_true,Bool.true_or,cond_true]
  cases hasN ids d<;>simp[hd]
 ·have h1:(d==i)=false:=by simpa using h
  simp[h1]
theorem WR.addRow {c:Ctx}{m:Mem}(h:WR base S0 w0 c m w){d:Nat}(hd:m d=none){b:Nat}(hbb:base≤b){e:TypeId}{sz:Nat}{xs:List (List CV)}{v:Value}(hf:∀i k,blockOf c m i=some k→v.ownBlock≠some k)(ho:RO b c.S w e sz xs v):let c':Ctx:={c with ψ:=upd c.ψ d v};let m':=upd m d (some (.rows e sz xs));Goes c w m c' w m'∧WR base S0 w0 c' m' w∧VA c' w m' (.own d xs.length) v:=by
 intro c' m'
 obtain⟨h1,h2,h3,h4,vss,h5,h6⟩:=ho
 have hne:∀id b,m id=some b→id≠d:=fun id b hm e=>by rw[e,hd]at hm;simp at hm
 have hneL:∀id L,rowLen m id=some L→id≠d:=fun id L hm e=>by rw[e]at hm;simp[rowLen,hd]at hm
 have hneB:∀id,isBox m id→id≠d:=fun id hm e=>by rw[e]at hm;simp[isBox,hd]at hm
 have g:Goes c w m c' w m':=by
  refine⟨fun _ _ h=>h,fun _ b hb=>rfl,fun id hm=>⟨rfl,(isBox_upd_ne (hneB id hm)).2 hm⟩,fun id L hL=>⟨L,?_,Nat.le_refl _,fun _=>⟨upd_ne _ _ (hneL id L hL),fun e sz xs hx=>⟨xs,?_⟩⟩⟩⟩
  ·rw[←hL];exact rowLen_upd_ne m _ (hneL id L hL)
  ·rw[←hx];exact(rowsOf_upd_ne (hneL id L hL)).symm
 have hbo:∀id k,id≠d→blockOf c' m' id=some k→blockOf c m id=some k:=fun id k hne hk=>by
  simpa[blockOf,m',c',upd_ne _ _ hne]using hk
 have hbd:∀k,blockOf c' m' d=some k→v.ownBlock=some k:=fun k hk=>by simpa[blockOf,m',c',upd_same]using hk
 refine⟨g,?_,?_⟩
 ·refine h.step g (fun _ b hb=>.inl hb) h.lt (.of (Below.refl _ _)) (fun id bk hm=>?_) (fun id id' bk p1 p2=>?_)
  ·by_cases e':id=d
   ·right
    subst e'
    have:bk=.rows e sz xs:=by simpa[m',upd_same]using hm.symm
    subst this
    have hc':c'.ψ id=v:=upd_same _ _ _
    refine⟨h1,h2,h3,fun k hk=>?_,vss,h5.mono fun x y _ h=>h.mono fun x y _ h=>h.mono g.S g.heap,?_⟩
    ·rw[hc']at hk
     exact h4 k hk
    ·rw[hc']
     exact⟨h6.1,h6.2.imp (fun h=>h) fun⟨gg,cap,cur,e1,e2,r⟩=>⟨gg,cap,cur,e1,Nat.le_trans hbb e2,r⟩⟩
   ·left
    refine⟨by rw[←hm];exact(upd_ne m _ e').symm,rfl,upd_ne _ _ e',fun k hk=>⟨rfl,fun _=>Iff.rfl⟩⟩
  ·by_cases e1:id=d
   ·by_cases e2:id'=d
    ·rw[e1,e2]
    ·subst e1
     exact absurd (hbd bk p1) (hf id' bk (hbo id' bk e2 p2))
   ·by_cases e2:id'=d
    ·subst e2
     exact absurd (hbd bk p2) (hf id bk (hbo id bk e1 p1))
    ·exact h.inj id id' bk (hbo id bk e1 p1) (hbo id' bk e2 p2)
 ·refine⟨?_,xs.length,by simp[rowLen,m',upd_same],Nat.le_refl _,fun _=>(upd_same _ _ _).symm⟩
  rcases h6.2 with⟨rfl,e0⟩|⟨gg,cap,cur,rfl,_⟩
  ·exact⟨none,0,by rw[e0]⟩
  ·exact⟨_,_,rfl⟩
theorem F2.toRC {S:Sh}{cs:List CV}{vs:List Value}(h:cs.length=vs.length)(k:∀(i:Nat) (x:CV) (v:Value),cs[i]?=some x→vs[i]?=some v→R S w x v):F2 (RC S w) (cs.map .one) vs:=F2.map_left.2 ⟨h,k⟩
theorem call_gen {ro:Option Nat}{o:Oper}{f:FuncId}{fx:Operand}{args:Array Operand}{ts:Array TypeId}{r:RV}(ho:o.op=.call {callee:=.value fx,args,argTypes:=ts}){c:Ctx}{a:Act}{ids:List Nat}{pre post:List CA}(h1:Tm c w σ a)(h2:WR base S0 w0 c σ.m w)(hfx:∃ps qs:List Value,a.eval fx=.func (.func f) ps.toArray qs.toArray∧F2 (RC c.S w) pre ps∧F2 (RC c.S w) post qs)(hids:∀i∈ownIds ((args.toList.map (ev σ)).map AV.cells).flatten,i∈ids)(hopn:∀i∈opnIds (insOf r),i∈ids)(hargs:argsOK (only ids σ.m) (args.toList.map (ev σ)))(hacall:ACalls P f (pre++(args.toList.map (ev σ)).map (cloArg (only ids σ.m))++post) r)(hcin:callIn (only ids σ.m) r){K:Act→World→Prop}{Q:Exit→Act→World→Prop}(hk:∀(c':Ctx) (w':World) (v:Value),Goes c w σ.m c' w' (setBs (mrg ids (frz σ.m) σ.m) (outsOf r))→WR base S0 w0 c' (setBs (mrg ids (frz σ.m) σ.m) (outsOf r)) w'→RR w.heap.size c'.S w' r v→(∀i k,blockOf c' (setBs (mrg ids (frz σ.m) σ.m) (outsOf r)) i=some k→k<w.heap.size)→K (a.put o.dst v) w'):o.wpIn (Fw ro) 0 P a w K Q:=by
 obtain⟨⟨fn,hf1,hf2,hf3⟩,hcall⟩:=hacall
 obtain⟨c1,g1,r1⟩:=freezes ids h2
 obtain⟨ps,qs,e1,hps,hqs⟩:=hfx
 have hvs0:F2 (RC c1.S w) ((args.toList.map (ev σ)).map (cloArg (only ids σ.m))) (args.toList.map a.eval):=by
  have hsub:∀x∈args.toList,∀i∈ownIds (ev σ x).cells,i∈ids:=fun x hx i hi=>by
   refine hids i ?_
   have:∀(l:List Operand),x∈l→i∈ownIds ((l.map (ev σ)).map AV.cells).flatten:=by
    intro l
    induction l with
    |nil=>intro h;simp at h
    |cons y l ih=>
     intro h
     simp only[List.map_cons,List.flatten_cons,ownIds_append,List.mem_append]
     rcases List.mem_cons.1 h with rfl|h
     ·exact .inl hi
     ·exact .inr (ih h)
   exact this _ hx
  have hok:∀(l:List Operand),argsOK (only ids σ.m) (l.map (ev σ))→(∀x∈l,∀i∈ownIds (ev σ x).cells,i∈ids)→F2 (RC c1.S w) ((l.map (ev σ)).map (cloArg (only ids σ.m))) (l.map a.eval):=by
   intro l
   induction l with
   |nil=>intro _ _;exact F2.nil
   |cons x l ih=>
    intro h h'
    simp only[List.map_cons]at h ⊢
    obtain⟨⟨p1,p2⟩,p3⟩:=argsOK_cons.1 h
    exact F2.cons (cloArg_ok r1 ((ev_ok h1 x).goes g1) p1 p2 (h' x (by simp))) (ih p3 fun y hy=>h' y (by simp[hy]))
  exact hok _ hargs hsub
 have up:∀{l:List CA} {vs:List Value},F2 (RC c.S w) l vs→F2 (RC c1.S w) l vs:=fun h=>h.mono fun x y _ h=>h.mono g1.S fun k b hb=>g1.heap k b hb
 have hvs:=((up hps).append hvs0).append (up hqs)
 have hr:(execOp a.eval o).run P w=.ok (.enter f (ps++args.toList.map a.eval++qs).toArray) w:=by
  have e2:(ps++args.toList.map a.eval++qs).toArray=ps.toArray++args.map a.eval++qs.toArray:=by
   apply Array.ext'
   simp
  have e3:¬fn.name= "runtime.NumGoroutine":=by simpa using hf3
  have e4:¬fn.body=none:=fun e=>by rw[e]at hf2;simp at hf2
  rw[e2]
  simp[execOp,ho,resolve,Deferred.ofValue,e1,invoke,callFunc,program,Sem.run,hf1,e3,e4]
 refine wpo_run hr rfl ⟨fun h=>by simp[Fence.wide]at h,callsW ?_⟩
 obtain⟨hin,hsame⟩:insAt (only ids σ.m) (insOf r)∧sameBs (insOf r) (outsOf r):=by
  cases r with
  |bx ins outs rs=>exact hcin
  |_=>exact⟨trivial,trivial⟩
 have hM:∀p∈insOf r,mrg ids (frz σ.m) σ.m (1000000+p.1)=some p.2.blk:=fun p hp=>by
  have h1:=insAt_mem hin p hp
  have hi:1000000+p.1∈ids:=hopn _ (opnIds_mem (cs:=p.2) hp)
  rw[only_in hi]at h1
  show(bif hasN ids (1000000+p.1)then frzB (σ.m (1000000+p.1))else σ.m (1000000+p.1))=_
  rw[hasN_iff.2 hi,h1]
  cases p.2<;>rfl
 have hinM:insAt (mrg ids (frz σ.m) σ.m) (insOf r):=insAt_of hM
 have hbx:∀p∈insOf r,BoxAt c1.S w p:=fun p hp=>by
  obtain⟨b,oc⟩:=p
  have hB:=r1.blk _ _ (hM (b,oc) hp)
  cases oc with
  |cells cs=>
   obtain⟨q1,q2,q3,vs',TT,q4,q5⟩:=hB
   have q3:c1.φ (1000000+b)=b:=Nat.add_left_cancel q3
   rw[q3]at q2 q4
   exact⟨q2,vs',TT,q4,q5⟩
  |loop rr=>
   obtain⟨q1,q2,q3,q4⟩:=hB
   have q3:c1.φ (1000000+b)=b:=Nat.add_left_cancel q3
   rw[q3]at q2 q4
   exact⟨q2,q4⟩
 refine(hcall c1.S w _ r1.lt (h1.gl.mono (g1.S 0) (g1.heap 0)) hvs hbx).mono ?_
 rintro e w' ⟨v,T,rfl,hT,hv,hb⟩
 obtain⟨g2,r2,hbo⟩:=r1.callsX hinM hsame hb T hT (by
  cases r with
  |bx ins outs rs=>exact hv.2
  |_=>intro p hp;simp[outsOf]at hp)
 exact hk _ w' v (g1.trans g2) r2 hv fun i k hik=>(r1.apart (id:=i) (k:=k) (by rw[←hbo];exact hik)).2
theorem yield_gen {ro:Option Nat}{o:Oper}{l:Nat}{fx:Operand}{args:Array Operand}{ts:Array TypeId}{r:RV}(ho:o.op=.call {callee:=.value fx,args,argTypes:=ts}){c:Ctx}{a:Act}{ids:List Nat}(h1:Tm c w σ a)(h2:WR base S0 w0 c σ.m w)(hfx:a.eval fx=.func (.yield l) #[] #[])(hids:∀i∈ownIds ((args.toList.map (ev σ)).map AV.cells).flatten,i∈ids)(hopn:∀i∈opnIds (insOf r),i∈ids)(hargs:argsOK (only ids σ.m) (args.toList.map (ev σ)))(hacall:AYields P l ((args.toList.map (ev σ)).map (cloArg (only ids σ.m))) r)(hcin:callIn (only ids σ.m) r){K:Act→World→Prop}{Q:Exit→Act→World→Prop}(hk:∀(c':Ctx) (w':World) (v:Value),Goes c w σ.m c' w' (setBs (mrg ids (frz σ.m) σ.m) (outsOf r))→WR base S0 w0 c' (setBs (mrg ids (frz σ.m) σ.m) (outsOf r)) w'→RR w.heap.size c'.S w' r v→(∀i k,blockOf c' (setBs (mrg ids (frz σ.m) σ.m) (outsOf r)) i=some k→k<w.heap.size)→K (a.put o.dst v) w'):o.wpIn (Fw ro) 0 P a w K Q:=by
 obtain⟨⟨rc,hrc0,hrc⟩,hcall⟩:=hacall
 obtain⟨c1,g1,r1⟩:=freezes ids h2
 have hvs:F2 (RC c1.S w) ((args.toList.map (ev σ)).map (cloArg (only ids σ.m))) (args.toList.map a.eval):=by
  have hsub:∀x∈args.toList,∀i∈ownIds (ev σ x).cells,i∈ids:=fun x hx i hi=>by
   refine hids i ?_
   have:∀(l:List Operand),x∈l→i∈ownIds ((l.map (ev σ)).map AV.cells).flatten:=by
    intro l
    induction l with
    |nil=>intro h;simp at h
    |cons y l ih=>
     intro h
     simp only[List.map_cons,List.flatten_cons,ownIds_append,List.mem_append]
     rcases List.mem_cons.1 h with rfl|h
     ·exact .inl hi
     ·exact .inr (ih h)
   exact this _ hx
  have hok:∀(l:List Operand),argsOK (only ids σ.m) (l.map (ev σ))→(∀x∈l,∀i∈ownIds (ev σ x).cells,i∈ids)→F2 (RC c1.S w) ((l.map (ev σ)).map (cloArg (only ids σ.m))) (l.map a.eval):=by
   intro l
   induction l with
   |nil=>intro _ _;exact F2.nil
   |cons x l ih=>
    intro h h'
    simp only[List.map_cons]at h ⊢
    obtain⟨⟨p1,p2⟩,p3⟩:=argsOK_cons.1 h
    exact F2.cons (cloArg_ok r1 ((ev_ok h1 x).goes g1) p1 p2 (h' x (by simp))) (ih p3 fun y hy=>h' y (by simp[hy]))
  exact hok _ hargs hsub
 obtain⟨hin,hsame⟩:insAt (only ids σ.m) (insOf r)∧sameBs (insOf r) (outsOf r):=by
  cases r with
  |bx ins outs rs=>exact hcin
  |_=>exact⟨trivial,trivial⟩
 have hM:∀p∈insOf r,mrg ids (frz σ.m) σ.m (1000000+p.1)=some p.2.blk:=fun p hp=>by
  have h1:=insAt_mem hin p hp
  have hi:1000000+p.1∈ids:=hopn _ (opnIds_mem (cs:=p.2) hp)
  rw[only_in hi]at h1
  show(bif hasN ids (1000000+p.1)then frzB (σ.m (1000000+p.1))else σ.m (1000000+p.1))=_
  rw[hasN_iff.2 hi,h1]
  cases p.2<;>rfl
 have hinM:insAt (mrg ids (frz σ.m) σ.m) (insOf r):=insAt_of hM
 have hbx:∀p∈insOf r,BoxAt c1.S w p:=fun p hp=>by
  obtain⟨b,oc⟩:=p
  have hB:=r1.blk _ _ (hM (b,oc) hp)
  cases oc with
  |cells cs=>
   obtain⟨q1,q2,q3,vs',TT,q4,q5⟩:=hB
   have q3:c1.φ (1000000+b)=b:=Nat.add_left_cancel q3
   rw[q3]at q2 q4
   exact⟨q2,vs',TT,q4,q5⟩
  |loop rr=>
   obtain⟨q1,q2,q3,q4⟩:=hB
   have q3:c1.φ (1000000+b)=b:=Nat.add_left_cancel q3
   rw[q3]at q2 q4
   exact⟨q2,q4⟩
 have hR:∃R:Loop,w.heap[l]?=some (.loop R):=by
  obtain⟨_,R,hR,_⟩:=hbx _ hrc
  exact⟨R,hR⟩
 obtain⟨R,hR⟩:=hR
 obtain⟨hsz,hround⟩:=hcall ro c1.S w _ r1.lt (h1.gl.mono (g1.S 0) (g1.heap 0)) hvs hbx R hR
 have hr:(execOp a.eval o).run P w=.ok (.round l R.fn (roundTmps R (args.toList.map a.eval)) R.assign R.body) w:=by
  have e2:args.map a.eval=(args.toList.map a.eval).toArray:=by apply Array.ext';simp
  have e3:(args.toList.map a.eval).toArray.size=R.params.size:=by simpa using hsz
  simp only[execOp,ho,resolve,Sem.run_bind,Deferred.ofValue,hfx,e2,Sem.run_pure,Result.andThen_ok,invoke]
  simp[Instr.yield,Instr.getLoop,getObj,Sem.run,hR,e3,roundTmps,Result.andThen]
 refine wpo_run hr rfl ⟨fun h=>by simp[Fence.wide]at h,?_⟩
 refine RoundIn.mono hround ?_
 rintro e w' ⟨v,T,rfl,hT,hv,hb⟩
 obtain⟨g2,r2,hbo⟩:=r1.callsX hinM hsame hb T hT (by
  cases r with
  |bx ins outs rs=>exact hv.2
  |_=>intro p hp;simp[outsOf]at hp)
 exact hk _ w' v (g1.trans g2) r2 hv fun i k hik=>(r1.apart (id:=i) (k:=k) (by rw[←hbo];exact hik)).2
theorem mixM_append (d:Nat):∀(l r:List RE) (k:Nat) (m:Mem),mixM d k (l++r) m=mixM d (k+nOwn l) r (mixM d k l m):=by
 intro l
 induction l with
 |nil=>intro r k m;rfl
 |cons x l ih=>
  intro r k m
  cases x with
  |c y=>simp only[List.cons_append,mixM,nOwn,ih]
  |own e sz xs=>simp only[List.cons_append,mixM,nOwn,ih];rw[show k+1+nOwn l=k+(nOwn l+1) by omega]
theorem mixI_ge (d:Nat):∀(l:List RE) (k:Nat),∀i∈mixI d k l,d+1000*k≤i:=by
 intro l
 induction l with
 |nil=>intro k i hi;simp[mixI]at hi
 |cons x l ih=>
  intro k i hi
  cases x with
  |c y=>exact ih k i hi
  |own e sz xs=>
   rcases List.mem_cons.1 hi with rfl|hi
   ·exact Nat.le_refl _
   ·have:=ih (k+1) i hi;omega
theorem freeAll_mem {m:Mem}:∀{l:List Nat},freeAll m l=true→∀i∈l,m i=none:=by
 intro l
 induction l with
 |nil=>intro _ i hi;simp at hi
 |cons x l ih=>
  intro h i hi
  simp only[freeAll,Bool.and_eq_true]at h
  rcases List.mem_cons.1 hi with rfl|hi
  ·have h1:=h.1
   cases hm:m i with
   |none=>rfl
   |some b=>rw[hm]at h1;simp at h1
  ·exact ih h.2 i hi
theorem mixC_ok {b d : Nat} (hbb : base ≤ b) : ∀ (l : List RE) (us : List Value) (k : Nat) (c : Ctx) (m : Mem), WR base S0 w0 c m w → F2 (RRE b c.S w) l us → (l.zip us).Pairwise apartP → (∀ i ∈ mixI d k l, m i = none) →
    (∀ i q, blockOf c m i = some q → ∀ p ∈ l.zip us, (∃ e sz xs, p.1 = .own e sz xs) → p.2.ownBlock ≠ some q) →
    ∃ c', c'.S = c.S ∧ Goes c w m c' w (mixM d k l m) ∧ WR base S0 w0 c' (mixM d k l m) w ∧ F2 (VA c' w (mixM d k l m)) (mixC d k l) us ∧
      (∀ i q, blockOf c' (mixM d k l m) i = some q → blockOf c m i = some q ∨ ∃ p ∈ l.zip us, (∃ e sz xs, p.1 = .own e sz xs) ∧ p.2.ownBlock = some q) ∧ (∀ i, i ∉ mixI d k l → mixM d k l m i = m i) := by
  intro l
  induction l with
  | nil => intro us k c m h hF _ _ _; rw [hF.unnil]; exact ⟨c, rfl, Goes.refl _ _ _, h, F2.nil, fun i q hq => .inl hq, fun _ _ => rfl⟩
  | cons x l ih =>
    intro us k c m h hF hP hfree hap
    obtain ⟨u, us, rfl, k1, k2⟩ := hF.uncons
    rw [List.zip_cons_cons, List.pairwise_cons] at hP
    cases x with
    | c y =>
      obtain ⟨c', e0, g, r, v, bl, ou⟩ := ih us k c m h k2 hP.2 hfree (fun i q hq p hp => hap i q hq p (by rw [List.zip_cons_cons]; exact List.mem_cons_of_mem _ hp))
      refine ⟨c', e0, g, r, F2.cons (VA.goes g (a := .c y) k1) v, fun i q hq => ?_, ou⟩
      rcases bl i q hq with h | ⟨p, hp, h⟩
      · exact .inl h
      · exact .inr ⟨p, by rw [List.zip_cons_cons]; exact List.mem_cons_of_mem _ hp, h⟩
    | own e sz xs =>
      have hm0 : m (d + 1000 * k) = none := hfree _ (by simp [mixI])
      obtain ⟨g1, r1, v1⟩ := h.addRow hm0 hbb (fun i q hq => hap i q hq (.own e sz xs, u) (by rw [List.zip_cons_cons]; exact List.mem_cons_self ..) ⟨_, _, _, rfl⟩) k1
      have hbo : ∀ i q, blockOf { c with ψ := upd c.ψ (d + 1000 * k) u } (upd m (d + 1000 * k) (some (.rows e sz xs))) i = some q → blockOf c m i = some q ∨ u.ownBlock = some q := fun i q hq => by
        by_cases e1 : i = d + 1000 * k
        · subst e1; right; simpa [blockOf, upd_same] using hq
        · left; simpa [blockOf, upd_ne _ _ e1] using hq
      obtain ⟨c', e0, g, r, v, bl, ou⟩ := ih us (k + 1) _ _ r1 k2 hP.2 (fun i hi => by
          have := mixI_ge d l (k + 1) i hi
          rw [upd_ne _ _ (by omega)]
          exact hfree i (by simp [mixI, hi])) (fun i q hq p hp ho => by
          rcases hbo i q hq with hq | hq
          · exact hap i q hq p (by rw [List.zip_cons_cons]; exact List.mem_cons_of_mem _ hp) ho
          · obtain ⟨e2, s2, x2, h2⟩ := ho
            have := hP.1 p hp
            unfold apartP at this
            rw [h2] at this
            exact this q hq)
      refine ⟨c', e0, g1.trans g, r, F2.cons (VA.goes g v1) v, fun i q hq => ?_, fun i hi => ?_⟩
      · rcases bl i q hq with hq | ⟨p, hp, h⟩
        · rcases hbo i q hq with hq | hq
          · exact .inl hq
          · exact .inr ⟨_, by rw [List.zip_cons_cons]; exact List.mem_cons_self .., ⟨_, _, _, rfl⟩, hq⟩
        · exact .inr ⟨p, by rw [List.zip_cons_cons]; exact List.mem_cons_of_mem _ hp, h⟩
      · simp only [mixI, List.mem_cons, not_or] at hi
        show mixM d (k + 1) l (upd m (d + 1000 * k) (some (.rows e sz xs))) i = m i
        rw [ou i hi.2, upd_ne _ _ hi.1]
theorem mixI_append (d:Nat):∀(l r:List RE) (k:Nat),mixI d k (l++r)=mixI d k l++mixI d (k+nOwn l) r:=by
 intro l
 induction l with
 |nil=>intro r k;rfl
 |cons x l ih=>
  intro r k
  cases x with
  |c y=>simp only[List.cons_append,mixI,nOwn,ih]
  |own e sz xs=>simp only[List.cons_append,mixI,nOwn,ih];rw[show k+1+nOwn l=k+(nOwn l+1) by omega]
theorem mixI_lt (d:Nat):∀(l:List RE) (k:Nat),∀i∈mixI d k l,i<d+1000*(k+nOwn l):=by
 intro l
 induction l with
 |nil=>intro k i hi;simp[mixI]at hi
 |cons x l ih=>
  intro k i hi
  cases x with
  |c y=>exact ih k i hi
  |own e sz xs=>
   rcases List.mem_cons.1 hi with rfl|hi
   ·simp only[nOwn];omega
   ·have:=ih (k+1) i hi;simp only[nOwn];omega
theorem mix_ok {b d : Nat} (hbb : base ≤ b) : ∀ {rs : List (Bool × List RE)} {vs : List Value} {ps : List (RE × Value)} {S : Sh}, MixR b S w rs vs ps → ∀ (k : Nat) (c : Ctx) (m : Mem), c.S = S → WR base S0 w0 c m w → ps.Pairwise apartP → (∀ i ∈ mixI d k (mixL rs), m i = none) →
    (∀ i q, blockOf c m i = some q → ∀ p ∈ ps, (∃ e sz xs, p.1 = .own e sz xs) → p.2.ownBlock ≠ some q) →
    ∃ c', Goes c w m c' w (mixM d k (mixL rs) m) ∧ WR base S0 w0 c' (mixM d k (mixL rs) m) w ∧ F2 (VM c' w (mixM d k (mixL rs) m)) (mixV d k rs) vs := by
  intro rs vs ps S hM
  induction hM with
  | nil => intro k c m _ h _ _ _; exact ⟨c, Goes.refl _ _ _, h, F2.nil⟩
  | agg hF hM ih =>
    rename_i cs us rs vs ps
    intro k c m hS h hP hfree hap
    subst hS
    obtain ⟨p1, p2, p3⟩ := List.pairwise_append.1 hP
    simp only [mixL, mixI_append, List.mem_append] at hfree
    obtain ⟨c1, e0, g1, r1, v1, bl, ou⟩ := mixC_ok hbb cs us k c m h hF p1 (fun i hi => hfree i (.inl hi)) (fun i q hq p hp => hap i q hq p (List.mem_append.2 (.inl hp)))
    obtain ⟨c2, g2, r2, v2⟩ := ih (k + nOwn cs) c1 _ e0 r1 p2 (fun i hi => by
        rw [ou i fun hi' => by have := mixI_lt d cs k i hi'; have := mixI_ge d _ _ i hi; omega]
        exact hfree i (.inr hi)) (fun i q hq p hp ho => by
        rcases bl i q hq with hq | ⟨p', hp', ho', hq⟩
        · exact hap i q hq p (List.mem_append.2 (.inr hp)) ho
        · have := p3 p' hp' p hp
          obtain ⟨e1, s1, x1, f1⟩ := ho'
          obtain ⟨e2, s2, x2, f2⟩ := ho
          unfold apartP at this
          rw [f1, f2] at this
          exact this q hq)
    refine ⟨c2, ?_, ?_, ?_⟩
    · simp only [mixL, mixM_append]; exact g1.trans g2
    · simp only [mixL, mixM_append]; exact r2
    · simp only [mixL, mixM_append, mixV]
      exact F2.cons ⟨us, rfl, v1.mono fun x y _ h => h.goes g2⟩ v2
  | one hR hM ih =>
    rename_i r u rs vs ps
    intro k c m hS h hP hfree hap
    subst hS
    obtain ⟨p1, p2⟩ := List.pairwise_cons.1 hP
    simp only [mixL, mixI_append, List.mem_append] at hfree
    obtain ⟨c1, e0, g1, r1, v1, bl, ou⟩ := mixC_ok hbb [r] [u] k c m h (F2.cons hR F2.nil) (by simp) (fun i hi => hfree i (.inl hi)) (fun i q hq p hp => by
      simp at hp; subst hp
      exact hap i q hq _ (List.mem_cons_self ..))
    obtain ⟨c2, g2, r2, v2⟩ := ih (k + nOwn [r]) c1 _ e0 r1 p2 (fun i hi => by
        rw [ou i fun hi' => by have := mixI_lt d [r] k i hi'; have := mixI_ge d _ _ i hi; omega]
        exact hfree i (.inr hi)) (fun i q hq p hp ho => by
        rcases bl i q hq with hq | ⟨p', hp', ho', hq⟩
        · exact hap i q hq p (List.mem_cons_of_mem _ hp) ho
        · simp at hp'; subst hp'
          have := p1 p hp
          obtain ⟨e1, s1, x1, f1⟩ := ho'
          obtain ⟨e2, s2, x2, f2⟩ := ho
          unfold apartP at this
          simp only at f1
          rw [f1, f2] at this
          exact this q hq)
    refine ⟨c2, ?_, ?_, ?_⟩
    · simp only [mixL, mixM_append]; exact g1.trans g2
    · simp only [mixL, mixM_append]; exact r2
    · simp only [mixL, mixM_append, mixV]
      refine F2.cons ?_ v2
      obtain ⟨v', t, e, q1, q2⟩ : ∃ v' t, mixC d k [r] = v' :: t ∧ VA c1 w (mixM d k [r] m) v' u ∧ t = [] := by
        cases r with
        | c y => exact ⟨_, _, rfl, v1.2 0 _ _ rfl rfl, rfl⟩
        | own e sz xs => exact ⟨_, _, rfl, v1.2 0 _ _ rfl rfl, rfl⟩
      subst q2
      exact ⟨v', e, q1.goes g2⟩
theorem mixM_mrg {d:Nat}{ids:List Nat}:∀(l:List RE) (k:Nat) (X m:Mem),(∀i∈mixI d k l,i∈ids)→mrg ids (mixM d k l X) m=mixM d k l (mrg ids X m):=by
 intro l
 induction l with
 |nil=>intro k X m _;rfl
 |cons x l ih=>
  intro k X m hi
  cases x with
  |c y=>exact ih k X m hi
  |own e sz xs=>
   have h1:d+1000*k∈ids:=hi _ (by simp[mixI])
   show mrg ids (mixM d (k+1) l (upd X (d+1000*k) (some (.rows e sz xs)))) m=mixM d (k+1) l (upd (mrg ids X m) (d+1000*k) (some (.rows e sz xs)))
   rw[ih (k+1) _ m fun i h=>hi i (by simp[mixI,h])]
   congr 1
   funext i
   unfold mrg
   by_cases e:i=d+1000*k
   ·subst e;simp[hasN_iff.2 h1,upd_same]
   ·simp only[upd_ne _ _ e]
theorem mrg_in {d:Nat}{ids:List Nat}{b:Option Blk}{m:Mem}(hd:d∈ids):mrg ids (fun i=>bif i==d then b else frz (only ids m) i) m=upd (mrg ids (frz m) m) d b:=by
 funext i
 show(bif hasN ids i then(bif i==d then b else frz (only ids m) i)else m i)=if i=d then b else(bif hasN ids i then frz m i else m i)
 by_cases h:i=d
 ·subst h;simp[hasN_iff.2 hd]
 ·have h2:(i==d)=false:=by simpa using h
  simp only[h2,cond_false,if_neg h]
  cases hi:hasN ids i with
  |false=>rfl
  |true=>
   show frzB (only ids m i)=frzB (m i)
   rw[only_in (hasN_iff.1 hi)]
theorem mrg_setBs {ids:List Nat}:∀{l:List (Nat×OC)} {X m:Mem},(∀i∈opnIds l,i∈ids)→mrg ids (setBs X l) m=setBs (mrg ids X m) l:=by
 intro l
 induction l with
 |nil=>intro X m _;rfl
 |cons p l ih=>
  intro X m h
  obtain⟨b,cs⟩:=p
  have h1:1000000+b∈ids:=h _ (by simp[opnIds])
  show mrg ids (upd (setBs X l) (1000000+b) (some cs.blk)) m=upd (setBs (mrg ids X m) l) (1000000+b) (some cs.blk)
  rw[←ih fun i hi=>h i (by simp[opnIds,hi])]
  funext i
  by_cases e:i=1000000+b
  ·subst e
   show(bif hasN ids (1000000+b)then _ else _)=_
   rw[hasN_iff.2 h1,upd_same,upd_same]
   rfl
  ·show(bif hasN ids i then upd (setBs X l) (1000000+b) (some cs.blk) i else m i)=upd (mrg ids (setBs X l) m) (1000000+b) (some cs.blk) i
   rw[upd_ne _ _ e,upd_ne _ _ e]
   rfl
theorem call_ok {o:Oper}{f:FuncId}{fx:Operand}{pre post:List CA}{args:Array Operand}{ts:Array TypeId}{r:RV}(ho:o.op=.call {callee:=.value fx,args,argTypes:=ts})(hfx:∀{c:Ctx} {w:World} {a:Act},Tm c w σ a→∃ps qs:List Value,a.eval fx=.func (.func f) ps.toArray qs.toArray∧F2 (RC c.S w) pre ps∧F2 (RC c.S w) post qs):OpOK P o σ (rCall P o.dst f pre post (args.toList.map (ev σ)) r):=by
 intro ro base S0 w0 c a w K Q h1 h2 h3 h4
 unfold rCall at h3 h4
 simp only[Req.eff,Req.mem,cond_true]at h3 h4
 generalize hids:dstL o.dst++(ownIds ((args.toList.map (ev σ)).map AV.cells).flatten++resIds o.dst r)=ids at h3 h4
 have hsub:∀i∈ownIds ((args.toList.map (ev σ)).map AV.cells).flatten,i∈ids:=fun i hi=>by rw[←hids];exact List.mem_append.2 (.inr (List.mem_append.2 (.inl hi)))
 have hopn:∀i∈opnIds (insOf r),i∈ids:=fun i hi=>by
  rw[←hids]
  refine List.mem_append.2 (.inr (List.mem_append.2 (.inr ?_)))
  cases r with
  |bx ins outs rs=>exact hi
  |_=>simp[insOf,opnIds]at hi
 refine call_gen ho h1 h2 (hfx h1) hsub hopn h3.1 h3.2.1 h3.2.2 fun c' w' v g r1 hv hlt=>?_
 cases r with
 |bx ins outs rs=>
  simp only[callVal,callMem]at h4
  have hsub2:∀i∈opnIds outs,i∈ids:=fun i hi=>by
   have:=sameBs_ids h3.2.2.2
   rw[←this]at hi
   exact hopn i hi
  rw[mrg_setBs hsub2,mrg_only]at h4
  refine h4 c' w' v g r1 ?_
  have hv:=hv.1
  match rs,hv with
  | [],hv=>exact hv
  | [x],hv=>
   cases x with
   |one y=>exact hv
   |agg cs=>obtain⟨vs,rfl,h⟩:=hv;exact⟨vs,rfl,F2.map_left.2 h⟩
   |nil=>exact hv
  |x::y::l,hv=>exact hv
 |one x=>
  have g:Goes c w σ.m c' w' (mrg ids (frz σ.m) σ.m):=g
  have r1:WR base S0 w0 c' (mrg ids (frz σ.m) σ.m) w':=r1
  simp only[callVal,callMem]at h4
  rw[mrg_only]at h4
  refine h4 c' w' v g r1 ?_
  cases x with
  |one y=>exact hv
  |agg cs=>obtain⟨vs,rfl,h⟩:=hv;exact⟨vs,rfl,F2.map_left.2 h⟩
  |nil=>exact hv
 |tup rs=>
  have g:Goes c w σ.m c' w' (mrg ids (frz σ.m) σ.m):=g
  have r1:WR base S0 w0 c' (mrg ids (frz σ.m) σ.m) w':=r1
  have hlt:∀i k,blockOf c' (mrg ids (frz σ.m) σ.m) i=some k→k<w.heap.size:=hlt
  simp only[callVal,callMem]at h4
  rw[mrg_only]at h4
  exact h4 c' w' v g r1 hv
 |own e sz xs=>
  have g:Goes c w σ.m c' w' (mrg ids (frz σ.m) σ.m):=g
  have r1:WR base S0 w0 c' (mrg ids (frz σ.m) σ.m) w':=r1
  have hlt:∀i k,blockOf c' (mrg ids (frz σ.m) σ.m) i=some k→k<w.heap.size:=hlt
  cases hdst:o.dst with
  |none=>
   simp only[callVal,callMem,hdst]at h4
   rw[mrg_only]at h4
   exact h4 c' w' v g r1 trivial
  |some d=>
   have hd:d∈ids:=by rw[←hids,hdst];simp[dstL]
   simp only[callVal,callMem,hdst,only_in hd]at h4
   cases hm:σ.m d with
   |some b=>
    simp only[hm]at h4
    rw[mrg_only]at h4
    exact h4 c' w' v g r1 trivial
   |none=>
    simp only[hm]at h4
    rw[mrg_in hd]at h4
    have hd1:mrg ids (frz σ.m) σ.m d=none:=by
     unfold mrg
     rw[hasN_iff.2 hd]
     show frzB (σ.m d)=none
     rw[hm];rfl
    obtain⟨g2,r2,v2⟩:=r1.addRow hd1 h2.size (fun i k hik hvk=>by have:=hlt i k hik;have:=(hv.2.2.2.2.choose_spec.2.lt k hvk).1;omega) hv
    exact h4 _ _ _ (g.trans g2) r2 v2
 |mix rs=>
  have g:Goes c w σ.m c' w' (mrg ids (frz σ.m) σ.m):=g
  have r1:WR base S0 w0 c' (mrg ids (frz σ.m) σ.m) w':=r1
  have hlt:∀i k,blockOf c' (mrg ids (frz σ.m) σ.m) i=some k→k<w.heap.size:=hlt
  cases hdst:o.dst with
  |none=>
   simp only[callVal,callMem,hdst]at h4
   rw[mrg_only]at h4
   exact h4 c' w' v g r1 trivial
  |some d=>
   obtain⟨vs,ps,hM,hP,rfl⟩:=hv
   have hin:∀i∈mixI d 0 (mixL rs),i∈ids:=fun i hi=>by rw[←hids,hdst];simp[resIds,hi]
   simp only[callVal,callMem,hdst]at h4
   cases hfb:freeAll (only ids σ.m) (mixI d 0 (mixL rs))with
   |false=>
    rw[hfb]at h4
    simp only[cond_false]at h4
    rw[mrg_only]at h4
    exact h4 c' w' _ g r1 trivial
   |true=>
   rw[hfb]at h4
   simp only[cond_true]at h4
   have hfr:∀i∈mixI d 0 (mixL rs),mrg ids (frz σ.m) σ.m i=none:=fun i hi=>by
    have h5:=freeAll_mem (m:=only ids σ.m) hfb i hi
    rw[only_in (hin i hi)]at h5
    unfold mrg
    rw[hasN_iff.2 (hin i hi)]
    show frzB (σ.m i)=none
    rw[h5];rfl
   rw[mixM_mrg _ _ _ _ hin,mrg_only]at h4
   have hge:∀{rs:List (Bool×List RE)} {vs:List Value} {ps:List (RE×Value)},MixR w.heap.size c'.S w' rs vs ps→∀p∈ps,(∃e sz xs,p.1=.own e sz xs)→∀k,p.2.ownBlock=some k→w.heap.size≤k:=by
    intro rs vs ps hM
    have one:∀{r:RE} {u:Value},RRE w.heap.size c'.S w' r u→(∃e sz xs,r=.own e sz xs)→∀k,u.ownBlock=some k→w.heap.size≤k:=by
     rintro r u h ⟨e,sz,xs,rfl⟩ k hk
     exact(h.2.2.2.2.choose_spec.2.lt k hk).1
    induction hM with
    |nil=>intro p hp;simp at hp
    |agg hF hM ih=>
     intro p hp ho k hk
     rcases List.mem_append.1 hp with hp|hp
     ·obtain⟨i,hi,he⟩:=List.getElem_of_mem hp
      simp at he
      subst he
      simp at hi
      exact one (hF.2 i _ _ (List.getElem?_eq_getElem (by omega)) (List.getElem?_eq_getElem (by omega))) ho k hk
     ·exact ih p hp ho k hk
    |one hR hM ih=>
     intro p hp ho k hk
     rcases List.mem_cons.1 hp with rfl|hp
     ·exact one hR ho k hk
     ·exact ih p hp ho k hk
   obtain⟨c2,g2,r2,v2⟩:=mix_ok h2.size hM 0 c' _ rfl r1 hP hfr (fun i q hq p hp ho hk=>by
    have:=hge hM p hp ho q hk
    have:=hlt i q hq
    omega)
   refine h4 _ _ _ (g.trans g2) r2 ?_
   clear hge hM hP hfr hin h4
   generalize mixV d 0 rs=ms at v2
   match ms,vs,v2 with
   | [],vs,v2=>rw[v2.unnil];exact⟨[],rfl,F2.nil⟩
   | [(true,cs)],vs,v2=>
    obtain⟨u,t,rfl,k1,k2⟩:=v2.uncons
    rw[k2.unnil]
    exact k1
   | [(false,cs)],vs,v2=>
    obtain⟨u,t,rfl,k1,k2⟩:=v2.uncons
    rw[k2.unnil]
    obtain⟨a,rfl,k1⟩:=k1
    exact k1
   |x::y::l,vs,v2=>
    have hl:=v2.1
    have:valOf vs=.tuple vs.toArray:=by
     match vs,hl with
     |_::_::_,_=>rfl
    exact⟨vs,this,v2⟩
theorem yield_ok {o:Oper}{l:Nat}{fx:Operand}{args:Array Operand}{ts:Array TypeId}{ins outs:List (Nat×OC)}{rs:List CA}(ho:o.op=.call {callee:=.value fx,args,argTypes:=ts}){x0:Value}(hfx:ev σ fx=.one (.c (.v x0)))(hy:yieldOf x0=some l):OpOK P o σ (rYield P o.dst l (args.toList.map (ev σ)) (.bx ins outs rs)):=by
 intro ro base S0 w0 c a w K Q h1 h2 h3 h4
 unfold rYield at h3 h4
 simp only[Req.eff,Req.mem,cond_true]at h3 h4
 generalize hids:dstL o.dst++(ownIds ((args.toList.map (ev σ)).map AV.cells).flatten++resIds o.dst (.bx ins outs rs))=ids at h3 h4
 have hsub:∀i∈ownIds ((args.toList.map (ev σ)).map AV.cells).flatten,i∈ids:=fun i hi=>by rw[←hids];exact List.mem_append.2 (.inr (List.mem_append.2 (.inl hi)))
 have hopn:∀i∈opnIds ins,i∈ids:=fun i hi=>by rw[←hids];exact List.mem_append.2 (.inr (List.mem_append.2 (.inr hi)))
 have hfx':a.eval fx=.func (.yield l) #[] #[]:=by
  have hv:=ev_ok h1 fx
  rw[hfx]at hv
  have hv:R c.S w (.v x0) (a.eval fx):=hv
  have:a.eval fx=x0:=by cases hv;rfl
  rw[this]
  exact yieldOf_eq hy
 refine yield_gen (r:=.bx ins outs rs) ho h1 h2 hfx' hsub hopn h3.1 h3.2.1 h3.2.2 fun c' w' v g r1 hv hlt=>?_
 simp only[callVal,callMem]at h4
 have hsub2:∀i∈opnIds outs,i∈ids:=fun i hi=>by
  have:=sameBs_ids h3.2.2.2
  rw[←this]at hi
  exact hopn i hi
 rw[mrg_setBs hsub2,mrg_only]at h4
 refine h4 c' w' v g r1 ?_
 have hv:=hv.1
 match rs,hv with
 | [],hv=>exact hv
 | [x],hv=>
  cases x with
  |one y=>exact hv
  |agg cs=>obtain⟨vs,rfl,h⟩:=hv;exact⟨vs,rfl,F2.map_left.2 h⟩
  |nil=>exact hv
 |x::y::l,hv=>exact hv
theorem yield_okR {o:Oper}{l:Nat}{fx:Operand}{args:Array Operand}{ts:Array TypeId}{r:RV}(ho:o.op=.call {callee:=.value fx,args,argTypes:=ts}){x0:Value}(hfx:ev σ fx=.one (.c (.v x0)))(hy:yieldOf x0=some l):OpOK P o σ (rYield P o.dst l (args.toList.map (ev σ)) r):=by
 cases r with
 |bx ins outs rs=>exact yield_ok ho hfx hy
 |_=>
  intro ro base S0 w0 c a w K Q h1 h2 h3 h4
  unfold rYield at h3
  obtain⟨⟨rc,_,hm⟩,_⟩:=h3.2.1
  simp[insOf]at hm
end
end
section
section
variable {P:Program} {c:Ctx} {w:World} {σ:St} {a:Act} {base:Nat} {S0:Sh} {w0:W0}
theorem rowsOK_cons {m:Mem}{esz:Nat}{p:Nat×AV}{l:List (Nat×AV)}:rowsOK m esz (p::l)↔(p.2.cells.length=esz∧cloAll m p.2.cells)∧rowsOK m esz l:=by
 cases l with
 |nil=>simp[rowsOK]
 |cons y l=>simp[rowsOK]
theorem idx_zip:∀{ps:List (Nat×Operand)} {k:Nat} {g:Operand→AV} {h:Operand→Value},idxOK (partsA g ps) k=true→(ps.map fun p=>(p.1,h p.2))=((ps.map fun p=>h p.2).zipIdx k).map fun x=>(x.2,x.1):=by
 intro ps
 induction ps with
 |nil=>intro k g h _;rfl
 |cons p ps ih=>
  intro k g h e
  simp only[partsA,List.map_cons,idxOK,Bool.and_eq_true]at e
  have e1:p.1=k:=by simpa using e.1
  simp only[List.map_cons,List.zipIdx_cons]
  rw[ih e.2,e1]
theorem toLists {S:Sh}:∀{xss:List (List CV)} {vs:List Value},F2 (fun(us:List CV) (v:Value)=>F2 (R S w) us v.cells.toList) xss vs→F2 (F2 (R S w)) xss (vs.map fun v=>v.cells.toList):=fun h=>⟨by simp[h.1],fun i x y hx hy=>by
 simp only[List.getElem?_map,Option.map_eq_some_iff]at hy
 obtain⟨v,hv,rfl⟩:=hy
 exact h.2 i x v hx hv⟩
theorem buildSlice_ok {o:Oper}{T:TypeId}{len:Nat}{ps:Array (Nat×Operand)}(ho:o.op=.buildSlice T len ps):OpOK P o σ (rBuildSlice P o.dst T len (partsA (ev σ) ps.toList)):=by
 unfold rBuildSlice
 split
 ·rename_i s1 s2 s3 s4 e esz ht
  obtain⟨hd,ie,z,hie,hz,hsz,hby,hzs,hpos,hz1⟩:=slice_shape ht
  split
  ·rename_i d hdst
   intro ro base S0 w0 c a w K Q h1 h2 h3 h4
   simp only[Req.eff,Req.mem,cond_true]at h3 h4
   generalize hids:ownIds ((partsA (ev σ) ps.toList).map fun p=>p.2.cells).flatten=ids at h3 h4
   cases hm:σ.m d with
   |some b=>simp only[only_in (List.mem_cons_self ..),hm]at h3
   |none=>
    simp only[only_in (List.mem_cons_self ..),hm,only_cons hm]at h3 h4
    obtain⟨e1,e2,e3,e4,e5⟩:=h3
    obtain⟨c1,g1,r1⟩:=freezes ids h2
    have hd1:mrg ids (frz σ.m) σ.m d=none:=by
     unfold mrg
     cases hasN ids d
     ·exact hm
     ·show frzB (σ.m d)=none
      rw[hm];rfl
    -- the parts,shown
    have hparts:∀(l:List (Nat×Operand)),allFlat (partsA (ev σ) l)=true→rowsOK (only ids σ.m) esz (partsA (ev σ) l)→(∀i∈ownIds ((partsA (ev σ) l).map fun p=>p.2.cells).flatten,i∈ids)→F2 (fun(us:List CV) (v:Value)=>F2 (R c1.S w) us v.cells.toList) ((partsA (ev σ) l).map fun p=>p.2.cells.map (clo (only ids σ.m))) (l.map fun p=>a.eval p.2)∧∀us∈(partsA (ev σ) l).map fun p=>p.2.cells.map (clo (only ids σ.m)),us.length=esz:=by
     intro l
     induction l with
     |nil=>intro _ _ _;exact⟨F2.nil,fun us hu=>by simp[partsA]at hu⟩
     |cons p l ih=>
      intro f1 f2 f3
      simp only[partsA,List.map_cons,allFlat,Bool.and_eq_true]at f1
      simp only[partsA,List.map_cons]at f2 f3 ⊢
      obtain⟨⟨p1,p2⟩,p3⟩:=rowsOK_cons.1 f2
      simp only[List.flatten_cons,ownIds_append,List.mem_append]at f3
      obtain⟨q1,q2⟩:=ih f1.2 p3 fun i hi=>f3 i (.inr hi)
      have hv:=(ev_ok h1 p.2).goes g1
      obtain⟨vs,hvs,hcv⟩:=cellsOf_ok hv f1.1
      refine⟨F2.cons ?_ q1,fun us hu=>?_⟩
      ·rw[hvs]
       exact cloCells_ok r1 hcv p2 fun i hi=>f3 i (.inl hi)
      ·rcases List.mem_cons.1 hu with rfl|hu
       ·simpa using p1
       ·exact q2 us hu
    obtain⟨q1,q2⟩:=hparts ps.toList e1 e5 (fun i hi=>by rw[←hids];exact hi)
    have hlen:(ps.toList.map fun p=>a.eval p.2).length=len:=by rw[←e3];simp[partsA]
    -- the cells
    have hcells:∀v∈ps.toList.map fun p=>a.eval p.2,v.cells.size=esz:=fun v hv=>by
     obtain⟨i,hi,rfl⟩:=List.getElem_of_mem hv
     obtain⟨us,hu,hq⟩:=q1.get' (List.getElem?_eq_getElem hi)
     have:=hq.1
     rw[q2 us (List.mem_of_getElem? hu)]at this
     simpa using this.symm
    have hrun:(execOp a.eval o).run P w=.ok (.value (.slice (some ⟨w.heap.size,0,none⟩) len len)) (w.alloc (.cells (((ps.toList.map fun p=>a.eval p.2).map fun v=>v.cells.toList).flatten).toArray e)):=by
     have hpv:(ps.map fun(i,x)=>(i,a.eval x)).toList=((ps.toList.map fun p=>a.eval p.2).zipIdx 0).map fun x=>(x.2,x.1):=by
      rw[←idx_zip (g:=ev σ) (h:=a.eval) e2]
      simp
     by_cases hl0:len=0
     ·subst hl0
      have hnil:ps.toList=[]:=List.eq_nil_of_length_eq_zero (by simpa using hlen)
      have hps:ps=#[]:=by simpa using hnil
      subst hps
      simp[execOp,ho,Instr.buildSlice,run_underlying hd,run_sizeOf hie,Instr.fill,newRow_run]
      rw[show Array.map (fun(_:Nat)=>(default:Value)) (Array.range 0)=#[] by apply Array.eq_empty_of_size_eq_zero;simp]
     ·have hp:¬len*ie.size=0:=by rw[hsz];exact fun e=>by rcases Nat.mul_eq_zero.1 e with h|h<;>omega
      have hs:¬len*ie.size > 2 ^ 24:=by rw[hsz];omega
      have hfill:=Great.fill_whole hpos (ps.toList.map fun p=>a.eval p.2) ((Array.range (len*ie.size)).map (z.cells[· % z.cells.size]!)) hcells (by rw[hlen];simp[hsz])
      rw[←hsz]at hfill
      have:=run_buildSlice (P:=P) w T e len (ps.map fun(i,x)=>(i,a.eval x)) _ ie z hd hie hz hs hp (by rw[hpv];exact hfill)
      rw[List.flatMap_def]at this
      simp[execOp,ho,this]
    refine wpo_run (hrun) rfl ?_
    have hrl:=toLists q1
    have hlen2:((partsA (ev σ) ps.toList).map fun p=>p.2.cells.map (clo (only ids σ.m))).length=len:=by rw[←e3];simp
    have hle:len≤1073741824:=by
     have:=Nat.mul_le_mul_left len hpos
     rw[Nat.mul_one]at this
     omega
    have hflat:(((ps.toList.map fun p=>a.eval p.2).map fun v=>v.cells.toList).flatten).length=len*esz:=by
     rw[←hlen]
     generalize (ps.toList.map fun p=>a.eval p.2)=vs at hcells
     clear hrl hlen
     induction vs with
     |nil=>simp
     |cons v vs ih=>
      simp only[List.map_cons,List.flatten_cons,List.length_append,List.length_cons]
      rw[ih (fun u hu=>hcells u (by simp[hu]))]
      have:=hcells v (by simp)
      simp only[Array.length_toList,this]
      rw[Nat.succ_mul];omega
    have hown:(w.alloc (.cells (((ps.toList.map fun p=>a.eval p.2).map fun v=>v.cells.toList).flatten).toArray e)).ownsRow w.heap.size e esz (.slice (some ⟨w.heap.size,0,none⟩) len len) len ((ps.toList.map fun p=>a.eval p.2).map fun v=>v.cells.toList).flatten:=by
     refine⟨hflat,.inr ⟨w.heap.size,len,_,rfl,Nat.le_refl _,heap_alloc_new w _,Nat.le_refl _,small len hle,by simpa using hflat,by rw[←hflat];exact List.take_length⟩⟩
    obtain⟨g2,r2,v2⟩:=r1.rows hd1 (e:=e) (sz:=esz) (xs:=(partsA (ev σ) ps.toList).map fun p=>p.2.cells.map (clo (only ids σ.m))) (v:=.slice (some ⟨w.heap.size,0,none⟩) len len) ((Below.refl _ _).alloc (Nat.le_refl _) _) q2 hpos (by rw[hlen2];exact hle) hrl (by rw[hlen2];exact hown)
    have hmm:mrg (d::ids) (fun i=>bif i==d then some (.rows e esz ((partsA (ev σ) ps.toList).map fun p=>p.2.cells.map (clo (only ids σ.m))))else frz (only ids σ.m) i) σ.m=upd (mrg ids (frz σ.m) σ.m) d (some (.rows e esz ((partsA (ev σ) ps.toList).map fun p=>p.2.cells.map (clo (only ids σ.m))))):=by
     rw[←only_cons (ids:=ids) hm]
     exact mrg_cons
    rw[hmm]at h4
    rw[hlen2]at v2
    exact h4 _ _ _ (g1.trans g2) r2 v2
  ·exact OpOK.bad
 ·exact OpOK.bad
theorem flat_ok {S:Sh}{ys:List (List CV)}{vss:List (List Value)}{sz:Nat}(h:F2 (F2 (R S w)) ys vss)(hsz:∀us∈ys,us.length=sz):(∀u∈vss,u.length=sz)∧vss.flatten.length=ys.length*sz∧∀u∈vss.flatten,u.oneCell'=true:=by
 have h1:∀u∈vss,u.length=sz:=fun u hu=>by
  obtain⟨i,hi,rfl⟩:=List.getElem_of_mem hu
  obtain⟨x,hx,hq⟩:=h.get' (List.getElem?_eq_getElem hi)
  rw[←hq.1]
  exact hsz x (List.mem_of_getElem? hx)
 refine⟨h1,?_,fun u hu=>?_⟩
 ·rw[h.1]
  clear h hsz
  induction vss with
  |nil=>simp
  |cons v vs ih=>
   simp only[List.flatten_cons,List.length_append,List.length_cons]
   rw[ih (fun u hu=>h1 u (by simp[hu])),h1 v (by simp),Nat.succ_mul];omega
 ·obtain⟨t,ht,hut⟩:=List.mem_flatten.1 hu
  obtain⟨i,hi,rfl⟩:=List.getElem_of_mem ht
  obtain⟨x,hx,hq⟩:=h.get' (List.getElem?_eq_getElem hi)
  obtain⟨j,hj,rfl⟩:=List.getElem_of_mem hut
  obtain⟨y,_,hy⟩:=hq.get' (List.getElem?_eq_getElem hj)
  exact R.one hy
theorem holds_parts {b o sz:Nat}:∀{vss:List (List Value)},(∀u∈vss,u.length=sz)→(∀i vs,vss[i]?=some vs→Holds w b (o+i*sz) vs)→Holds w b o vss.flatten:=by
 intro vss
 induction vss generalizing o with
 |nil=>intro _ _ j u h;simp at h
 |cons v vss ih=>
  intro h1 h2 j u hj
  rw[List.flatten_cons]at hj
  have hv:=h1 v (by simp)
  by_cases hjl:j<v.length
  ·rw[List.getElem?_append_left hjl]at hj
   have:=h2 0 v rfl j u hj
   simpa using this
  ·rw[List.getElem?_append_right (by omega)]at hj
   have:=ih (o:=o+sz) (fun u hu=>h1 u (by simp[hu])) (fun i vs hi=>by
    have:=h2 (i+1) vs (by simpa using hi)
    rw[show o+sz+i*sz=o+(i+1)*sz by rw[Nat.succ_mul];omega]
    exact this) (j - v.length) u hj
   rw[hv]at this
   rwa [show o+sz+(j - sz)=o+j by omega]at this
theorem R.flat {S:Sh}{k:Nat}{ys:List (List CV)}{v:Value}{sz:Nat}(h:R S w (.rowc k ys) v)(hsz:∀us∈ys,us.length=sz):(v=.slice none 0 0∧ys=[])∨∃ad cap vss,v=.slice (some ad) ys.length cap∧F2 (F2 (R S w)) ys vss∧∀j u,vss.flatten[j]?=some u→w.cell? (ad.add j)=some u:=by
 by_cases hz:ys=[]
 ·subst hz
  cases h with
  |nil=>exact .inl ⟨rfl,rfl⟩
  |bare h=>exact .inr ⟨_,_,[],rfl,F2.nil,fun j u hj=>by simp at hj⟩
  |row g h1=>exact absurd rfl h1
 ·obtain⟨b,o,cap,he,_⟩:=h.elem (List.getElem?_eq_getElem (List.length_pos_iff.2 hz))
  have each:∀i us,ys[i]?=some us→∃vs,F2 (R S w) us vs∧Holds w b (o+i*sz) vs:=fun i us hi=>by
   obtain⟨b2,o2,cap2,he2,_,_,vs,k1,k2⟩:=h.elem hi
   rw[he]at he2
   simp at he2
   obtain⟨⟨rfl,rfl⟩,_⟩:=he2
   rw[hsz us (List.mem_of_getElem? hi)]at k2
   exact⟨vs,k1,k2⟩
  have all:∀n,n≤ys.length→∃vss:List (List Value),vss.length=n∧∀i us vs,ys[i]?=some us→vss[i]?=some vs→F2 (R S w) us vs∧Holds w b (o+i*sz) vs:=by
   intro n
   induction n with
   |zero=>intro _;exact⟨[],rfl,fun i us vs _ h=>by simp at h⟩
   |succ n ih=>
    intro hn
    obtain⟨vss,h1,h2⟩:=ih (by omega)
    obtain⟨vs,k1,k2⟩:=each n ys[n] (List.getElem?_eq_getElem (by omega))
    refine⟨vss++[vs],by simp[h1],fun i us us2 hi hj=>?_⟩
    by_cases hin:i<vss.length
    ·rw[List.getElem?_append_left hin]at hj
     exact h2 i us us2 hi hj
    ·rw[List.getElem?_append_right (by omega)]at hj
     have:i=n:=by
      rcases Nat.lt_or_ge (i - vss.length) 1 with h|h
      ·omega
      ·rw[List.getElem?_eq_none (by simpa using h)]at hj;simp at hj
     subst this
     rw[h1]at hj
     simp at hj
     subst hj
     rw[List.getElem?_eq_getElem (by omega)]at hi
     cases hi
     exact⟨k1,k2⟩
  obtain⟨vss,h1,h2⟩:=all _ (Nat.le_refl _)
  have hF:F2 (F2 (R S w)) ys vss:=⟨h1.symm,fun i us vs hi hj=>(h2 i us vs hi hj).1⟩
  refine .inr ⟨⟨b,o,none⟩,cap,vss,he,hF,fun j u hj=>?_⟩
  rw[add_row]
  refine holds_parts (flat_ok hF hsz).1 (fun i vs hi=>?_) j u hj
  have hil:i<ys.length:=by rw[←h1];exact(List.getElem?_eq_some_iff.1 hi).1
  exact(h2 i ys[i] vs (List.getElem?_eq_getElem hil) hi).2
theorem own_flat {base:Nat}{e:TypeId}{sz n:Nat}{v:Value}{xs:List Value}(h:w.ownsRow base e sz v n xs):(v=.slice none 0 0∧n=0)∨∃ad cap,v=.slice (some ad) n cap∧∀j u,xs[j]?=some u→w.cell? (ad.add j)=some u:=by
 have hown:=h
 rcases h.2 with h0|⟨g,cap,cur,rfl,_⟩
 ·exact .inl h0
 ·refine .inr ⟨⟨g,0,none⟩,cap,rfl,fun j u hj=>?_⟩
  have hjl:j<n*sz:=by rw[←h.1];exact(List.getElem?_eq_some_iff.1 hj).1
  rw[add_row,Nat.zero_add,hown.cellAt j hjl]
  exact hj
theorem src_ok {m:Mem}{c:Ctx}{x:AV}{v:Value}{ys:List (List CV)}{sz:Nat}(h:WR base S0 w0 c m w)(hv:VV c w m x v)(hx:srcOf m x=some ys)(hok:srcOK m x)(hsz:∀us∈ys,us.length=sz):(v=.slice none 0 0∧ys=[])∨∃ad cap vss,v=.slice (some ad) ys.length cap∧F2 (F2 (R c.S w)) ys vss∧∀j u,vss.flatten[j]?=some u→w.cell? (ad.add j)=some u:=by
 unfold srcOf at hx
 split at hx
 ·cases hx;exact R.flat hv hsz
 ·cases hx;obtain⟨_,_,hv⟩:=hv;exact R.flat hv hsz
 ·cases hx;exact .inl ⟨hv,rfl⟩
 ·cases hx
  obtain⟨a,k,h1,_⟩:=hv
  exact .inr ⟨a,k,[],h1,F2.nil,fun j u hj=>by simp at hj⟩
 ·rename_i id n
  obtain⟨_,L,hL,hn,hq⟩:=hv
  simp only[srcOK]at hok
  split at hx
  ·rename_i e sz2 zs hm
   cases hx
   simp only[hm]at hok
   have hL':ys.length=L:=by simpa[rowLen,hm]using hL
   obtain⟨_,_,_,_,vss,p5,p6⟩:=h.blk id _ hm
   rw[hq (by omega)]
   rcases own_flat p6 with⟨f1,f2⟩|⟨ad,cap,f1,f2⟩
   ·exact .inl ⟨f1,List.eq_nil_of_length_eq_zero f2⟩
   ·exact .inr ⟨ad,cap,vss,f1,p5,f2⟩
  ·rename_i zs hm
   cases hx
   simp only[hm]at hok
   have hL':ys.length=L:=by simpa[rowLen,hm]using hL
   rw[hq (by omega)]
   exact R.flat (h.blk id _ hm) hsz
  ·rename_i j e sz2 zs hm
   cases hx
   simp only[hm]at hok
   have hL':ys.length=L:=by simpa[rowLen,hm]using hL
   obtain⟨_,_,_,_,_,vss,p5,p6⟩:=h.blk id _ hm
   rw[hq (by omega)]
   rcases own_flat p6 with⟨f1,f2⟩|⟨ad,cap,f1,f2⟩
   ·exact .inl ⟨f1,List.eq_nil_of_length_eq_zero f2⟩
   ·exact .inr ⟨ad,cap,vss,f1,p5,f2⟩
  ·simp at hx
 ·simp at hx
end
end
section
section
variable {P:Program} {c:Ctx} {w:World} {σ:St} {a:Act} {base:Nat} {S0:Sh} {w0:W0}
theorem append_run {o:Oper}{T:TypeId}{s x:Operand}(ho:o.op=.call {callee:=.builtin .append,args:=#[s,x],argTypes:=#[T,T]}){a:Act}{v:Value}{w':World}(h:(Builtin.append_ #[T,T] o.type #[a.eval s,a.eval x]).run P w=.ok v w'):(execOp a.eval o).run P w=.ok (.value v) w':=by
 simp[execOp,ho,resolve,invoke,builtin,h]
theorem run_append_zero {t e:TypeId}{ty:TypeId}{i:TypeInfo}{size:Nat}{base:Nat}(ht:P.underlying t=some (.slice e))(hi:P.info? e=some i){v:Value}{n:Nat}{xs:List Value}(hown:w.ownsRow base e size v n xs)(ad:Addr)(cap:Nat):(Builtin.append_ #[t,t] ty #[v,.slice (some ad) 0 cap]).run P w=.ok v w:=by
 have hl:(Builtin.firstCells i.size 0 (.slice (some ad) 0 cap)).run P w=.ok #[] w:=by
  have:=run_loadCells_list (P:=P) w ad [] (fun j v h=>by simp at h)
  simpa[Builtin.firstCells]using this
 rcases hown.2 with⟨rfl,rfl⟩|⟨g,cap',cur,rfl,_,_,hnc,_⟩
 ·simp[Builtin.append_,run_underlying ht,sizeOf,typeInfo,hi,Builtin.lenOf,hl]
 ·simp[Builtin.append_,run_underlying ht,sizeOf,typeInfo,hi,Builtin.lenOf,hl,hnc,storeCells]
theorem run_append_keep {t e:TypeId}{ty:TypeId}{i:TypeInfo}(ht:P.underlying t=some (.slice e))(hi:P.info? e=some i)(ad:Option Addr)(n:Nat)(u:Value)(hu:u=.slice none 0 0∨∃p cap,u=.slice (some p) 0 cap):(Builtin.append_ #[t,t] ty #[.slice ad n n,u]).run P w=.ok (.slice ad n n) w:=by
 rcases hu with rfl|⟨p,cap,rfl⟩
 ·cases ad<;>simp[Builtin.append_,run_underlying ht,sizeOf,typeInfo,hi,Builtin.lenOf,Builtin.firstCells,storeCells]
 ·have hl:(Builtin.firstCells i.size 0 (.slice (some p) 0 cap)).run P w=.ok #[] w:=by
   have:=run_loadCells_list (P:=P) w p [] (fun j v h=>by simp at h)
   simpa[Builtin.firstCells]using this
  cases ad<;>simp[Builtin.append_,run_underlying ht,sizeOf,typeInfo,hi,Builtin.lenOf,hl,storeCells]
theorem own_append {t e:TypeId}{ty:TypeId}{esz:Nat}{S:Sh}{base:Nat}{ie:TypeInfo}{z:Value}(ht:P.underlying t=some (.slice e))(hi:P.info? e=some ie)(hz:ie.zero=some z)(hsz:ie.size=esz)(hby:ie.bytes≤131072)(hzs:z.cells.size=esz)(hpos:0<esz){v u:Value}{xs ys:List (List CV)}{vss:List (List Value)}(hF:F2 (F2 (R S w)) xs vss)(hown:w.ownsRow base e esz v xs.length vss.flatten)(hys:∀us∈ys,us.length=esz)(hlen:xs.length+ys.length≤1073741824)(hbase:base≤w.heap.size)(hu:(u=.slice none 0 0∧ys=[])∨∃ad cap tss,u=.slice (some ad) ys.length cap∧F2 (F2 (R S w)) ys tss∧∀j q,tss.flatten[j]?=some q→w.cell? (ad.add j)=some q):∃v' w' tss,(Builtin.append_ #[t,t] ty #[v,u]).run P w=.ok v' w'∧F2 (F2 (R S w)) (xs++ys) tss∧w'.ownsRow base e esz v' (xs++ys).length tss.flatten∧w.grownBy w' v.ownBlock∧(ys=[]→v'=v)∧(∀k,v'.ownBlock=some k→v.ownBlock=some k∨w.heap.size≤k):=by
 rcases hu with⟨rfl,rfl⟩|⟨ad,cap,tss,rfl,hT,hcells⟩
 ·exact⟨v,w,vss,run_append_owned_none w base t ty e ie esz ht hi v xs.length _ hown,by rw[List.append_nil];exact hF,by rw[List.append_nil];exact hown,World.grownBy.refl _ _,fun _=>rfl,fun k hk=>.inl hk⟩
 ·by_cases h0:ys=[]
  ·subst h0
   exact⟨v,w,vss,run_append_zero ht hi hown ad cap,by rw[List.append_nil];exact hF,by rw[List.append_nil];exact hown,World.grownBy.refl _ _,fun _=>rfl,fun k hk=>.inl hk⟩
  ·obtain⟨f1,f2,f3⟩:=flat_ok hT hys
   have hmul:(xs.length+ys.length)*ie.bytes≤1073741824*131072:=Nat.mul_le_mul hlen hby
   obtain⟨v',w',hr,h2,h3,_,h5⟩:=run_append_own_at (P:=P) w base t ty e ie z esz ie.bytes ht hi hz hsz rfl hzs hpos v xs.length _ hown ad ys.length cap tss.flatten f2 hcells f3 (small _ hlen) (by omega) hbase
   refine⟨v',w',vss++tss,hr,hF.append hT,by rw[List.flatten_append,List.length_append];exact h2,h3,fun e=>absurd e h0,fun k hk=>?_⟩
   rcases h5 with h5|h5
   ·exact .inl (by rw[←h5];exact hk)
   ·rw[h5]at hk
    cases hk
    exact .inr (Nat.le_refl _)
theorem mrg_id {id:Nat}{ids:List Nat}{b:Option Blk}{m:Mem}(h:hasN ids id=false):mrg (id::ids) (fun i=>bif i==id then b else only (id::ids) m i) m=upd m id b:=by
 funext i
 have hN:hasN (id::ids) i=(id==i||hasN ids i):=rfl
 show(bif hasN (id::ids) i then(bif i==id then b else only (id::ids) m i)else m i)=if i=id then b else m i
 rw[hN]
 by_cases hi:i=id
 ·subst hi;simp
 ·have h1:(id==i)=false:=by simpa using fun e=>hi e.symm
  have h2:(i==id)=false:=by simpa using hi
  simp only[h1,h2,Bool.false_or,cond_false,if_neg hi]
  cases hc:hasN ids i with
  |false=>rfl
  |true=>simp only[cond_true];exact only_in (List.mem_cons_of_mem _ (hasN_iff.1 hc))
theorem src_only {ids:List Nat}{m:Mem}{x:AV}(h:∀i∈ownIds x.cells,i∈ids):srcOf (only ids m) x=srcOf m x∧(srcOK (only ids m) x↔srcOK m x):=by
 cases x with
 |one y=>
  cases y with
  |own id n=>
   have:only ids m id=m id:=only_in (h id (by simp[AV.cells,ownIds]))
   simp[srcOf,srcOK,this]
  |c z=>cases z<;>exact⟨rfl,Iff.rfl⟩
  |_=>exact⟨rfl,Iff.rfl⟩
 |_=>exact⟨rfl,Iff.rfl⟩
theorem append_ok {o:Oper}{T T':TypeId}{s x:Operand}(ho:o.op=.call {callee:=.builtin .append,args:=#[s,x],argTypes:=#[T,T']}):OpOK P o σ (rAppend P o.dst T T' (ev σ s) (ev σ x)):=by
 unfold rAppend
 split
 ·rename_i s1 s2 s3 s4 e esz ht
  obtain⟨hd,ie,z,hie,hz,hsz,hby,hzs,hpos,hz1⟩:=slice_shape ht
  split
  ·rename_i id n hs
   intro ro base S0 w0 c a w K Q h1 h2 h3 h4
   simp only[Req.eff,Req.mem,cond_true]at h3 h4
   generalize hids:ownIds (ev σ x).cells=ids at h3 h4
   have hin:only (id::ids) σ.m id=σ.m id:=only_in (List.mem_cons_self ..)
   obtain⟨so1,so2⟩:=src_only (ids:=id::ids) (m:=σ.m) (x:=ev σ x) (fun i hi=>by rw[hids]at hi;exact List.mem_cons_of_mem _ hi)
   rw[hin]at h3 h4
   rw[so1]at h3 h4
   split at h3
   ·rename_i e' sz xs hm
    simp only[hm]at h4
    split at h3
    ·rename_i ys hy
     simp only[hy]at h4
     obtain⟨rfl,rfl,rfl,e4,e5,e6,e7,e8⟩:=h3
     have hv:=ev_ok h1 s
     rw[hs]at hv
     obtain⟨_,L,hL,hn,hq⟩:=hv
     have hL':xs.length=L:=by simpa[rowLen,hm]using hL
     have hpsi:=hq (by omega)
     obtain⟨p1,p2,p3,p4,vss,p5,p6⟩:=h2.blk id _ hm
     obtain⟨v',w',tss,r1,r2,r3,r4,r5,r6⟩:=own_append (P:=P) (ty:=o.type) hd hie hz hsz hby hzs hpos p5 p6 e7 e8 h2.size (src_ok h2 (ev_ok h1 x) hy (so2.1 e5) e7)
     obtain⟨g,q1,q2⟩:=h2.turn hm r4 r6 (by rw[List.length_append];omega) (fun e=>r5 (List.eq_nil_of_length_eq_zero (by rw[List.length_append]at e;omega))) (fun us hu=>by
      rcases List.mem_append.1 hu with hu|hu
      ·exact p1 us hu
      ·exact e7 us hu) (by rw[List.length_append];exact e8) r2 r3
     rw[mrg_id e6]at h4
     rw[List.length_append]at q2
     refine wpo_run (append_run ho (by rw[hpsi];exact r1)) rfl ?_
     exact h4 _ _ _ g q1 q2
    ·exact h3.elim
   ·exact h3.elim
  ·rename_i hs
   split
   ·rename_i d hdst
    intro ro base S0 w0 c a w K Q h1 h2 h3 h4
    simp only[Req.eff,Req.mem,cond_true]at h3 h4
    generalize hids:ownIds (ev σ x).cells=ids at h3 h4
    have hin:only (d::ids) σ.m d=σ.m d:=only_in (List.mem_cons_self ..)
    obtain⟨so1,so2⟩:=src_only (ids:=d::ids) (m:=σ.m) (x:=ev σ x) (fun i hi=>by rw[hids]at hi;exact List.mem_cons_of_mem _ hi)
    rw[hin]at h3 h4
    rw[so1]at h3 h4
    split at h3
    ·rename_i hm
     simp only[hm]at h4
     split at h3
     ·rename_i ys hy
      simp only[hy]at h4
      obtain⟨rfl,e2,e3,e4,e5⟩:=h3
      have hv:=ev_ok h1 s
      rw[hs]at hv
      have hv:a.eval s=.slice none 0 0:=hv
      have hno:hasN ids d=false:=by
       cases hh:hasN ids d with
       |false=>rfl
       |true=>
        exfalso
        have hvx:=ev_ok h1 x
        rw[←hids]at hh
        cases hx:ev σ x with
        |one y=>
         cases y with
         |own id2 n2=>
          rw[hx]at hh hvx
          simp only[AV.cells,ownIds,hasN,Bool.or_false,beq_iff_eq]at hh
          subst hh
          obtain⟨_,L,hL,_⟩:=hvx
          simp[rowLen,hm]at hL
         |mp id2=>rw[hx]at hy;simp[srcOf]at hy
         |_=>rw[hx]at hh;simp[AV.cells,ownIds,hasN]at hh
        |agg cs=>rw[hx]at hy;simp[srcOf]at hy
        |tup rs=>rw[hx]at hy;simp[srcOf]at hy
        |tupo rs=>rw[hx]at hy;simp[srcOf]at hy
        |junk=>rw[hx]at hy;simp[srcOf]at hy
      obtain⟨v',w',tss,r1,r2,r3,r4,r5,r6⟩:=own_append (P:=P) (ty:=o.type) (xs:=[]) (vss:=[]) (v:=.slice none 0 0) (base:=w.heap.size) hd hie hz hsz hby hzs hpos F2.nil (World.ownsRow_nil _ _ _ _) e4 (by simpa using e5) (Nat.le_refl _) (src_ok h2 (ev_ok h1 x) hy (so2.1 e3) e4)
      rw[List.nil_append]at r2 r3
      have hB:Below w.heap.size w w':=⟨r4.os,r4.tape,r4.output,r4.size,fun k hk=>r4.block k hk (by simp[Value.ownBlock])⟩
      obtain⟨g,q1,q2⟩:=h2.rows hm hB e4 hpos e5 r2 r3
      rw[mrg_id hno]at h4
      refine wpo_run (append_run ho (by rw[hv];exact r1)) rfl ?_
      exact h4 _ _ _ g q1 q2
     ·exact h3.elim
    ·exact h3.elim
   ·exact OpOK.bad
  ·rename_i kk xs hs
   split
   ·rename_i d hdst
    intro ro base S0 w0 c a w K Q h1 h2 h3 h4
    simp only[Req.eff,Req.mem,cond_true]at h3 h4
    generalize hids:ownIds (ev σ x).cells=ids at h3 h4
    have hin:only (d::ids) σ.m d=σ.m d:=only_in (List.mem_cons_self ..)
    obtain⟨so1,so2⟩:=src_only (ids:=d::ids) (m:=σ.m) (x:=ev σ x) (fun i hi=>by rw[hids]at hi;exact List.mem_cons_of_mem _ hi)
    rw[hin]at h3 h4
    rw[so1]at h3 h4
    split at h3
    ·rename_i hm
     simp only[hm]at h4
     split at h3
     ·rename_i hy
      simp only[hy]at h4
      obtain⟨rfl,e3,e5⟩:=h3
      have hv:=ev_ok h1 s
      rw[hs]at hv
      obtain⟨ad0,hv1,hv2⟩:=hv
      have hsrc:=src_ok h2 (ev_ok h1 x) hy (so2.1 e3) (sz:=esz) (by simp)
      have hrun:(Builtin.append_ #[T',T'] o.type #[a.eval s,a.eval x]).run P w=.ok (a.eval s) w:=by
       rw[hv1]
       rcases hsrc with⟨f1,_⟩|⟨ad,cap,tss,f1,_⟩
       ·rw[f1];exact run_append_keep hd hie _ _ _ (.inl rfl)
       ·rw[f1];exact run_append_keep hd hie _ _ _ (.inr ⟨ad,cap,rfl⟩)
      have hmem:mrg (d::ids) (only (d::ids) σ.m) σ.m=σ.m:=by
       funext i
       unfold mrg
       cases hi:hasN (d::ids) i with
       |false=>rfl
       |true=>exact only_in (hasN_iff.1 hi)
      rw[hmem]at h4
      refine wpo_run (append_run ho hrun) rfl ?_
      exact h4 _ _ _ (Goes.refl _ _ _) h2 ⟨ad0,hv1,hv2⟩
     ·rename_i ys hne hy
      obtain⟨y0,ys0,hys⟩:∃y0 ys0,ys=y0::ys0:=by
       cases ys with
       |nil=>exact(hne rfl).elim
       |cons a b=>exact⟨a,b,rfl⟩
      rw[hys]at hy
      simp only[hy]at h4
      rw[←hys]at hy h4
      obtain⟨rfl,e2,e3,e4,e5,e6,e7⟩:=h3
      have hv:=ev_ok h1 s
      rw[hs]at hv
      obtain⟨ad0,hv1,hv2⟩:=hv
      have hno:hasN ids d=false:=by
       cases hh:hasN ids d with
       |false=>rfl
       |true=>
        exfalso
        have hvx:=ev_ok h1 x
        rw[←hids]at hh
        cases hx:ev σ x with
        |one y=>
         cases y with
         |own id2 n2=>
          rw[hx]at hh hvx
          simp only[AV.cells,ownIds,hasN,Bool.or_false,beq_iff_eq]at hh
          subst hh
          obtain⟨_,L,hL,_⟩:=hvx
          simp[rowLen,hm]at hL
         |mp id2=>rw[hx]at hy;simp[srcOf]at hy
         |_=>rw[hx]at hh;simp[AV.cells,ownIds,hasN]at hh
        |agg cs=>rw[hx]at hy;simp[srcOf]at hy
        |tup rs=>rw[hx]at hy;simp[srcOf]at hy
        |tupo rs=>rw[hx]at hy;simp[srcOf]at hy
        |junk=>rw[hx]at hy;simp[srcOf]at hy
      have hsrc:=src_ok h2 (ev_ok h1 x) hy (so2.1 e3) e6
      have main:∃v' w' tss,(Builtin.append_ #[T',T'] o.type #[a.eval s,a.eval x]).run P w=.ok v' w'∧F2 (F2 (R c.S w)) (xs++ys) tss∧w'.ownsRow w.heap.size e esz v' (xs++ys).length tss.flatten∧w.grownBy w' none:=by
       rcases R.flat hv2 e5 with⟨f1,f2⟩|⟨ad,cap,vss,f1,f2,f3⟩
       ·subst f2
        obtain⟨v',w',tss,r1,r2,r3,r4,r5,r6⟩:=own_append (P:=P) (ty:=o.type) (xs:=[]) (vss:=[]) (v:=.slice none 0 0) (base:=w.heap.size) hd hie hz hsz hby hzs hpos F2.nil (World.ownsRow_nil _ _ _ _) e6 (by simpa using e7) (Nat.le_refl _) hsrc
        exact⟨v',w',tss,by rw[f1];exact r1,r2,r3,r4⟩
       ·rcases hsrc with⟨_,f4⟩|⟨ad2,cap2,tss,f4,f5,f6⟩
        ·exact absurd f4 e4
        ·have hcap:cap=xs.length:=by rw[hv1]at f1;simp at f1;exact f1.2.symm
         subst hcap
         obtain⟨k1,k2,k3⟩:=flat_ok f2 e5
         obtain⟨l1,l2,l3⟩:=flat_ok f5 e6
         have hyl:0<ys.length:=List.length_pos_iff.2 e4
         have hmul:(xs.length+ys.length)*ie.bytes≤1073741824*131072:=Nat.mul_le_mul e7 hby
         obtain⟨v',w',r1,r2,r3⟩:=run_append_arg_grows (P:=P) w T' o.type e ie z esz ie.bytes hd hie hz hsz rfl hzs hpos ad xs.length xs.length vss.flatten k2 f3 ad2 ys.length cap2 tss.flatten l2 f6 (by omega) (small _ e7) (by omega)
         exact⟨v',w',vss++tss,by rw[f1,f4];exact r1,f2.append f5,by rw[List.flatten_append,List.length_append];exact r2,r3⟩
      obtain⟨v',w',tss,r1,r2,r3,r4⟩:=main
      have hB:Below w.heap.size w w':=⟨r4.os,r4.tape,r4.output,r4.size,fun k hk=>r4.block k hk (by simp)⟩
      obtain⟨g,q1,q2⟩:=h2.rows hm hB (fun us hu=>by
       rcases List.mem_append.1 hu with hu|hu
       ·exact e5 us hu
       ·exact e6 us hu) hpos (by rw[List.length_append];exact e7) r2 r3
      rw[mrg_id hno]at h4
      rw[List.length_append]at q2
      refine wpo_run (append_run ho r1) rfl ?_
      exact h4 _ _ _ g q1 q2
     ·exact h3.elim
    ·exact h3.elim
   ·exact OpOK.bad
  ·exact OpOK.bad
 ·exact OpOK.bad
end
end
section
section
variable {P:Program} {c:Ctx} {w:World} {σ:St} {a:Act} {base:Nat} {S0:Sh} {w0:W0}
theorem R.part {S:Sh}{kc:Nat}{xs:List (List CV)}{v:Value}{esz:Nat}(h:R S w (.rowc kc xs) v)(hsz:∀us∈xs,us.length=esz)(l k:Nat)(hl:l+k≤xs.length):∃ad cap,v=.slice ad xs.length cap∧cap≤maxLen∧xs.length≤cap∧R S w (.rowc kc ((xs.drop l).take k)) (.slice (if cap=l then ad else ad.map (·.add (l*esz))) k (cap - l)):=by
 have hlen:((xs.drop l).take k).length=k:=by simp;omega
 cases h with
 |nil=>
  have:l=0:=by simp at hl;omega
  have hk:k=0:=by simp at hl;omega
  subst this hk
  exact⟨none,0,rfl,by simp,by simp,by simpa using R.nil⟩
 |bare h=>
  rename_i ad cap
  have:l=0:=by simp at hl;omega
  have hk:k=0:=by simp at hl;omega
  subst this hk
  refine⟨some ad,cap,rfl,h,by simp,?_⟩
  simp only[List.drop_zero,List.take_zero,Nat.zero_mul,Nat.sub_zero]
  split
  ·exact R.bare h
  ·exact R.bare h
 |row g h1 h2 h3 h4 h5 h6 h7=>
  rename_i b o cap sz
  have hs:sz=esz:=by
   obtain⟨us,hus⟩:=List.exists_mem_of_ne_nil xs h1
   rw[←h5 us hus,hsz us hus]
  subst hs
  refine⟨some ⟨b,o,none⟩,cap,rfl,h3,h2,?_⟩
  by_cases hk:k=0
  ·subst hk
   rw[List.take_zero]
   split
   ·exact R.bare (by omega)
   ·exact R.bare (by omega)
  ·have hcl:¬cap=l:=by omega
   rw[if_neg hcl]
   have hadd:(some (⟨b,o,none⟩:Addr)).map (·.add (l*sz))=some ⟨b,o+l*sz,none⟩:=by simp[add_row]
   rw[hadd]
   have hrow:∀(ys:List (List CV)),ys=(xs.drop l).take k→ys.length=k→R S w (.rowc kc ys) (.slice (some ⟨b,o+l*sz,none⟩) ys.length (cap - l)):=fun ys e hk'=>by
    have hget:∀i us,ys[i]?=some us→xs[l+i]?=some us:=fun i us hi=>by
     rw[e,List.getElem?_take]at hi
     split at hi
     ·simpa using hi
     ·simp at hi
    refine R.row (sz:=sz) (fun i j=>g (l+i) j) (fun e=>by rw[e]at hk';simp at hk';omega) (by omega) (by omega) h4 (fun us hu=>?_) (fun i us hi j hj=>?_) (fun i us hi j u hu=>?_)
    ·obtain⟨i,hi,rfl⟩:=List.getElem_of_mem hu
     exact h5 _ (List.mem_of_getElem? (hget i _ (List.getElem?_eq_getElem hi)))
    ·rw[show o+l*sz+i*sz=o+(l+i)*sz by rw[Nat.add_mul];omega]
     exact h6 (l+i) us (hget i us hi) j hj
    ·exact h7 (l+i) us (hget i us hi) j u hu
   have:=hrow _ rfl hlen
   rwa [hlen]at this
theorem bound_run {k:IntKind}{i:Int}{y:Nat}{code:BoundsCode}(h0:0≤i)(h1:i≤(y:Int)):(Instr.sliceBound (.int k i) y code).run P w=.ok i.toNat w:=by
 simp[Instr.sliceBound,asIntOf,h0,h1]
theorem bnd_ok (h1:Tm c w σ a){lo:Option Operand}{d:Nat}{l:Int}(h:bndOf (lo.map (ev σ)) d=some l):(lo.map a.eval=none∧l=d)∨∃k,lo.map a.eval=some (.int k l):=by
 cases lo with
 |none=>simp[bndOf]at h;exact .inl ⟨rfl,h.symm⟩
 |some y=>
  right
  simp only[Option.map_some]at h ⊢
  have hvy:=ev_ok h1 y
  generalize ev σ y=q at h hvy
  unfold bndOf at h
  split at h
  ·simp at *
  ·rename_i k i heq
   cases heq
   cases h
   exact⟨k,by rw[R.val hvy]⟩
  ·simp at h
theorem slice_run {T e:TypeId}{ie:TypeInfo}{esz:Nat}(hd:P.underlying T=some (.slice e))(hie:P.info? e=some ie)(hsz:ie.size=esz){S:Sh}{kc:Nat}{xs:List (List CV)}{v:Value}(hv:R S w (.rowc kc xs) v)(e4:∀us∈xs,us.length=esz){l h:Int}{vl vh:Option Value}(hlo:(vl=none∧l=((0:Nat):Int))∨∃k,vl=some (.int k l))(hhi:(vh=none∧h=(xs.length:Int))∨∃k,vh=some (.int k h))(e1:0≤l)(e2:l≤h)(e3:h≤(xs.length:Int)):∃u,(Instr.sliceAt T v vl vh none).run P w=.ok u w∧R S w (.rowc kc (partOf xs l h)) u:=by
 obtain⟨ad,cap,f1,f2,f3,f4⟩:=R.part hv e4 l.toNat (h.toNat - l.toNat) (by omega)
 have hb1:l≤(h.toNat:Int):=by omega
 have hb2:h≤(cap:Int):=by omega
 have h0:0≤h:=by omega
 have key:(Instr.sliceBounds true xs.length cap vl vh none).run P w=.ok (l.toNat,h.toNat,cap) w:=by
  rcases hlo with⟨q1,q2⟩|⟨k1,q1⟩<;>rcases hhi with⟨q3,q4⟩|⟨k2,q3⟩
  ·subst q2 q4;simp[Instr.sliceBounds,q1,q3]
  ·subst q2;simp[Instr.sliceBounds,q1,q3,bound_run h0 hb2]
  ·subst q4;simp[Instr.sliceBounds,q1,q3,bound_run e1 e2]
  ·simp[Instr.sliceBounds,q1,q3,bound_run h0 hb2,bound_run e1 hb1]
 have hrun:(Instr.sliceAt T v vl vh none).run P w=.ok (.slice (if cap=l.toNat then ad else ad.map (·.add (l.toNat*esz))) (h.toNat - l.toNat) (cap - l.toNat)) w:=by
  have:=run_sizeOf (P:=P) (w:=w) hie
  simp[Instr.sliceAt,Instr.slice,run_underlying hd,f1,key,this,hsz]
 exact⟨_,hrun,f4⟩
theorem slice3_run {T e:TypeId}{ie:TypeInfo}{esz:Nat}(hd:P.underlying T=some (.slice e))(hie:P.info? e=some ie)(hsz:ie.size=esz){S:Sh}{kc:Nat}{xs:List (List CV)}{v:Value}(hv:R S w (.rowc kc xs) v)(e4:∀us∈xs,us.length=esz){l h:Int}{vl:Option Value}{k2 k3:IntKind}(hlo:(vl=none∧l=((0:Nat):Int))∨∃k,vl=some (.int k l))(e1:0≤l)(e2:l≤h)(e3:h≤(xs.length:Int)):∃ad,(Instr.sliceAt T v vl (some (.int k2 h)) (some (.int k3 h))).run P w=.ok (.slice ad (partOf xs l h).length (partOf xs l h).length) w∧R S w (.rowc kc (partOf xs l h)) (.slice ad (partOf xs l h).length (partOf xs l h).length):=by
 obtain⟨ad,cap,f1,f2,f3,f4⟩:=R.part hv e4 l.toNat (h.toNat - l.toNat) (by omega)
 have hb1:l≤(h.toNat:Int):=by omega
 have hb2:h≤(cap:Int):=by omega
 have hb3:h≤(h.toNat:Int):=by omega
 have h0:0≤h:=by omega
 have key:(Instr.sliceBounds true xs.length cap vl (some (.int k2 h)) (some (.int k3 h))).run P w=.ok (l.toNat,h.toNat,h.toNat) w:=by
  rcases hlo with⟨q1,q2⟩|⟨k1,q1⟩
  ·subst q2;simp[Instr.sliceBounds,q1,bound_run h0 hb2,bound_run h0 hb3]
  ·simp[Instr.sliceBounds,q1,bound_run h0 hb2,bound_run h0 hb3,bound_run e1 hb1]
 have hlen:(partOf xs l h).length=h.toNat - l.toNat:=by simp[partOf];omega
 have hrun:(Instr.sliceAt T v vl (some (.int k2 h)) (some (.int k3 h))).run P w=.ok (.slice (if h.toNat=l.toNat then ad else ad.map (·.add (l.toNat*esz))) (h.toNat - l.toNat) (h.toNat - l.toNat)) w:=by
  have:=run_sizeOf (P:=P) (w:=w) hie
  simp[Instr.sliceAt,Instr.slice,run_underlying hd,f1,key,this,hsz]
 refine⟨_,by rw[hlen];exact hrun,?_⟩
 -- the same cells,with no room behind them
 change R S w (.rowc kc (partOf xs l h)) _ at f4
 by_cases hz:h.toNat=l.toNat
 ·have hnil:partOf xs l h=[]:=List.eq_nil_of_length_eq_zero (by rw[hlen];omega)
  rw[hnil,hz,if_pos rfl]
  cases ad with
  |none=>exact R.nil
  |some p=>exact R.bare (by simp)
 ·rw[if_neg hz]
  have hne:partOf xs l h≠[]:=fun e=>by rw[e]at hlen;simp at hlen;omega
  have hcl:¬cap=l.toNat:=by omega
  rw[if_neg hcl,←hlen]at f4
  have hle:(partOf xs l h).length≤maxLen:=by omega
  generalize partOf xs l h=ys at *
  generalize (ad.map (·.add (l.toNat*esz)))=ad2 at *
  generalize cap - l.toNat=cc at f4
  cases f4 with
  |nil=>exact absurd rfl hne
  |bare h=>exact absurd rfl hne
  |row g h1 h2 h3 h4 h5 h6 h7=>exact R.row g h1 (Nat.le_refl _) hle h4 h5 h6 h7
theorem fieldV_ok {o:Oper}{T:TypeId}{x:Operand}{f:Nat}(ho:o.op=.field T x f):OpOK P o σ (rFieldV P T (ev σ x) f):=by
 unfold rFieldV
 split
 ·rename_i s1 s2 s3 s4 fs ht
  obtain⟨fields,hd,rfl,hall⟩:=field_shape ht
  split
  ·rename_i off sz ag cs hf hx
   simp only[List.getElem?_map,Option.map_eq_some_iff]at hf
   obtain⟨fd,hf1,hf2⟩:=hf
   simp only[fldOf,Prod.mk.injEq]at hf2
   obtain⟨rfl,rfl,hag⟩:=hf2
   have hf1':fields[f]?=some fd:=by simpa using hf1
   obtain⟨ie,hie⟩:=Option.isSome_iff_exists.1 (hall fd (List.mem_of_getElem? hf1)).1
   obtain⟨d,hu⟩:=Option.isSome_iff_exists.1 (hall fd (List.mem_of_getElem? hf1)).2
   have hsz:P.cellsOf fd.type=ie.size:=by simp[Program.cellsOf,hie]
   simp only[hu]at hag
   subst hag
   ·cases hb:isAggD d with
    |true=>
     refine OpOK.val fun base S0 w0 c a w h1 h2 h3=>?_
     have hv:=ev_ok h1 x
     rw[hx]at hv
     obtain⟨vs,e1,e2⟩:=hv
     refine⟨.agg ((vs.drop fd.offset).take ie.size).toArray,?_,_,rfl,by rw[hsz];exact(e2.drop _).take _⟩
     have hex:vs.toArray.extract fd.offset (fd.offset+ie.size)=((vs.drop fd.offset).take ie.size).toArray:=by
      simp[List.extract_toArray,List.extract]
     simp[execOp,ho,Instr.field,run_underlying hd,hf1',e1,asAgg,Go.part,run_agg hu,hb,run_sizeOf hie,hex]
    |false=>
     simp only[cond_false]
     split
     ·rename_i y hy
      refine OpOK.val fun base S0 w0 c a w h1 h2 h3=>?_
      have hv:=ev_ok h1 x
      rw[hx]at hv
      obtain⟨vs,e1,e2⟩:=hv
      obtain⟨v,hv1,hv2⟩:=e2.get hy
      exact⟨v,by simp[execOp,ho,Instr.field,run_underlying hd,hf1',e1,asAgg,Go.part,run_agg hu,hb,hv1],hv2⟩
     ·exact OpOK.bad
  ·exact OpOK.bad
 ·exact OpOK.bad
theorem part_ok {m:Mem}{T:TypeId}{ti:TI}(ht:TIs P T ti){cs:List A}{vs:List Value}{off:Nat}(hcs:F2 (VA c w m) cs vs)(hok:(rd ti cs off).1):∃v,(Go.part T vs.toArray off).run P w=.ok v w∧VV c w m (rd ti cs off).2 v:=by
 obtain⟨i,d,z,hi,hd,hz,_,rfl⟩:=ht
 unfold rd at hok ⊢
 cases hagg:isAggD d with
 |true=>
  simp only[hagg,cond_true]at hok ⊢
  refine⟨.agg ((vs.drop off).take i.size).toArray,?_,_,rfl,(hcs.drop off).take _⟩
  have hex:vs.toArray.extract off (off+i.size)=((vs.drop off).take i.size).toArray:=by
   simp[List.extract_toArray,List.extract]
  simp[Go.part,run_agg hd,hagg,run_sizeOf hi,hex]
 |false=>
  simp only[hagg,cond_false]at hok ⊢
  cases hx:cs[off]? with
  |none=>rw[hx]at hok;exact hok.elim
  |some x=>
   obtain⟨v,hv1,hv2⟩:=hcs.get hx
   exact⟨v,by simp[Go.part,run_agg hd,hagg,hv1],hv2⟩
theorem indexV_ok {o:Oper}{T:TypeId}{x i:Operand}(ho:o.op=.index T x i):OpOK P o σ (rIndexV P T (ev σ x) (ev σ i)):=by
 unfold rIndexV
 split
 ·rename_i s1 s2 s3 s4 len e esz ht
  obtain⟨hd,hc⟩:=arr_shape ht
  split
  ·rename_i ti hte
   split
   ·rename_i cs k j hx hi
    refine OpOK.val fun base S0 w0 c a w h1 h2 h3=>?_
    have hv:=ev_ok h1 x
    rw[hx]at hv
    have hj:=ev_ok h1 i
    rw[hi]at hj
    have hj:a.eval i=.int k j:=R.val hj
    obtain⟨vs,e1,e2⟩:=hv
    obtain⟨p1,p2,p3,p4⟩:=h3
    obtain⟨v,q1,q2⟩:=part_ok (P:=P) (tinfo_is hte) e2 p4
    obtain⟨ie,de,ze,hie,_,_,_,hti⟩:=tinfo_is hte
    have hsz:ie.size=esz:=by rw[←p3,hti]
    have hlt:j<(len:Int):=by omega
    refine⟨v,?_,q2⟩
    simp only[execOp,ho]
    simp[Instr.index,asIntOf,run_underlying hd,e1,hj,p1,hlt,run_sizeOf hie,hsz,q1]
   ·exact OpOK.bad
  ·exact OpOK.bad
 ·rename_i s1 s2 s3 s4 ht
  have hd:=str_shape ht
  split
  ·rename_i s k j hx hi
   refine OpOK.val fun base S0 w0 c a w h1 h2 h3=>?_
   have hv:=ev_ok h1 x
   rw[hx]at hv
   have hv:a.eval x=.string s:=R.val hv
   have hj:=ev_ok h1 i
   rw[hi]at hj
   have hj:a.eval i=.int k j:=R.val hj
   have hb:s[j.toNat]?=some s[j.toNat]:=getElem?_pos s j.toNat h3.2
   have hq:byteAt s j.toNat=(s[j.toNat].toNat:Int):=by unfold byteAt;rw[hb]
   have hlt:s[j.toNat].toNat<256:=UInt8.toNat_lt _
   refine⟨.int .u8 (byteAt s j.toNat),?_,R.v (show inK .u8 (byteAt s j.toNat)=true by rw[hq];simp only[inK,Bool.and_eq_true,decide_eq_true_eq];omega)⟩
   rw[hq]
   simp only[execOp,ho]
   simp[Instr.index,asIntOf,run_underlying hd,hv,hj,h3.1,hb]
  ·exact OpOK.bad
 ·exact OpOK.bad
end
end
section
section
variable {P:Program} {c:Ctx} {w:World} {σ:St} {a:Act} {base:Nat} {S0:Sh} {w0:W0}
theorem take_flat {α:Type}{sz:Nat}:∀{vss:List (List α)} (l:Nat),(∀u∈vss,u.length=sz)→vss.flatten.take (l*sz)=(vss.take l).flatten:=by
 intro vss
 induction vss with
 |nil=>intro l _;simp
 |cons v vss ih=>
  intro l h
  cases l with
  |zero=>simp
  |succ l=>
   have hv:=h v (by simp)
   rw[List.flatten_cons,List.take_succ_cons,List.flatten_cons,Nat.succ_mul,Nat.add_comm,List.take_append,hv,Nat.add_sub_cancel_left,List.take_of_length_le (by omega),ih l fun u hu=>h u (by simp[hu])]
theorem drop_flat {α:Type}{sz:Nat}:∀{vss:List (List α)} (l:Nat),(∀u∈vss,u.length=sz)→vss.flatten.drop (l*sz)=(vss.drop l).flatten:=by
 intro vss
 induction vss with
 |nil=>intro l _;simp
 |cons v vss ih=>
  intro l h
  cases l with
  |zero=>simp
  |succ l=>
   have hv:=h v (by simp)
   rw[List.flatten_cons,List.drop_succ_cons,Nat.succ_mul,Nat.add_comm,List.drop_append,hv,Nat.add_sub_cancel_left,List.drop_of_length_le (by omega),List.nil_append,ih l fun u hu=>h u (by simp[hu])]
theorem set_flat {α:Type}{sz:Nat}{off:Nat}{ts:List α}(hfit:off+ts.length≤sz):∀{vss:List (List α)} {i:Nat} {v:List α},(∀u∈vss,u.length=sz)→vss[i]?=some v→(vss.set i (splice v off ts)).flatten=splice vss.flatten (i*sz+off) ts:=by
 intro vss
 induction vss with
 |nil=>intro i v _ h;simp at h
 |cons x vss ih=>
  intro i v h hi
  have hx:=h x (by simp)
  cases i with
  |zero=>
   simp at hi
   subst hi
   simp only[List.set_cons_zero,List.flatten_cons,splice,Nat.zero_mul,Nat.zero_add]
   rw[List.take_append_of_le_length (by omega),List.drop_append_of_le_length (by omega)]
   simp only[List.append_assoc]
  |succ i=>
   simp only[List.getElem?_cons_succ]at hi
   have:=ih (fun u hu=>h u (by simp[hu])) hi
   rw[List.set_cons_succ,List.flatten_cons,this,List.flatten_cons]
   unfold splice
   rw[show(i+1)*sz+off=x.length+(i*sz+off) by rw[hx,Nat.succ_mul];omega,List.take_length_add_append,Nat.add_assoc x.length,List.drop_length_add_append]
   simp only[List.append_assoc]
theorem F2.set {α β:Type}{Q:α→β→Prop}{xs:List α}{ys:List β}(h:F2 Q xs ys){x:α}{y:β}(hxy:Q x y)(i:Nat):F2 Q (xs.set i x) (ys.set i y):=⟨by simp[h.1],fun j a b ha hb=>by
 rw[List.getElem?_set]at ha hb
 by_cases hij:i=j
 ·subst hij
  rw[if_pos rfl]at ha hb
  by_cases hl:i<xs.length
  ·rw[if_pos hl]at ha
   rw[if_pos (h.1▸hl)]at hb
   cases ha;cases hb;exact hxy
  ·rw[if_neg hl]at ha;simp at ha
 ·rw[if_neg hij]at ha hb
  exact h.2 j a b ha hb⟩
theorem WR.part {m:Mem}(h:WR base S0 w0 c m w){id d:Nat}{e:TypeId}{sz:Nat}{xs:List (List CV)}(hm:m id=some (.rows e sz xs))(hd:m d=none){n:Nat}(hn:n≤xs.length){v:Value}(hv:∃ad cap,c.ψ id=.slice ad xs.length cap∧v=.slice ad n cap):let c':Ctx:={c with ψ:=upd c.ψ d v};let m':=upd (upd m id (some (.gone (xs.length+1)))) d (some (.rows e sz (xs.take n)));Goes c w m c' w m'∧WR base S0 w0 c' m' w∧VA c' w m' (.own d n) v:=by
 intro c' m'
 obtain⟨ad,cap,hv1,rfl⟩:=hv
 obtain⟨h1,h2,h3,h4,vss,h5,h6⟩:=h.blk id _ hm
 have hid:id≠d:=fun e=>by rw[e,hd]at hm;simp at hm
 have hszv:∀u∈vss,u.length=sz:=fun u hu=>by
  obtain⟨i,hi,rfl⟩:=List.getElem_of_mem hu
  obtain⟨x,hx,hq⟩:=h5.get' (List.getElem?_eq_getElem hi)
  rw[←hq.1]
  exact h1 x (List.mem_of_getElem? hx)
 have hm':∀i,i≠d→i≠id→m' i=m i:=fun i e1 e2=>by simp only[m'];rw[upd_ne _ _ e1,upd_ne _ _ e2]
 have hm'id:m' id=some (.gone (xs.length+1)):=by simp only[m'];rw[upd_ne _ _ hid,upd_same]
 have hm'd:m' d=some (.rows e sz (xs.take n)):=upd_same _ _ _
 have hob:(Value.slice ad n cap).ownBlock=(c.ψ id).ownBlock:=by rw[hv1];cases ad<;>rfl
 have g:Goes c w m c' w m':=by
  refine⟨fun _ _ h=>h,fun _ b hb=>rfl,fun i hi=>⟨rfl,?_⟩,fun i L hL=>?_⟩
  ·have e1:i≠d:=fun e=>by rw[e]at hi;simp[isBox,hd]at hi
   have e2:i≠id:=fun e=>by rw[e]at hi;simp[isBox,hm]at hi
   simp only[isBox,hm' i e1 e2];exact hi
  ·have e1:i≠d:=fun e=>by rw[e]at hL;simp[rowLen,hd]at hL
   by_cases e2:i=id
   ·subst e2
    have:L=xs.length:=by simpa[rowLen,hm]using hL.symm
    subst this
    exact⟨xs.length+1,by simp[rowLen,hm'id],by omega,fun e=>by omega⟩
   ·refine⟨L,by simp only[rowLen,hm' i e1 e2];exact hL,Nat.le_refl _,fun _=>⟨upd_ne _ _ e1,fun e sz xs hx=>⟨xs,by simp only[rowsOf,hm' i e1 e2]at hx;exact hx⟩⟩⟩
 have hbo:∀i,i≠d→i≠id→blockOf c' m' i=blockOf c m i:=fun i e1 e2=>by simp[blockOf,hm' i e1 e2,c',upd_ne _ _ e1]
 have hboid:blockOf c' m' id=none:=by simp[blockOf,hm'id]
 have hbod:blockOf c' m' d=blockOf c m id:=by simp[blockOf,hm'd,hm,c',upd_same,hob]
 refine⟨g,?_,?_⟩
 ·refine h.step g (fun _ b hb=>.inl hb) h.lt (.of (Below.refl _ _)) (fun i bk hi=>?_) (fun i i' bk p1 p2=>?_)
  ·by_cases e1:i=d
   ·right
    subst e1
    rw[hm'd]at hi
    cases hi
    have hc':c'.ψ i=.slice ad n cap:=upd_same _ _ _
    have hl:(xs.take n).length=n:=by simp;omega
    refine⟨fun us hu=>h1 us (List.mem_of_mem_take hu),h2,by rw[hl];omega,fun k hk=>?_,vss.take n,(h5.take n).mono fun x y _ h=>h.mono fun x y _ h=>h.mono g.S g.heap,?_⟩
    ·rw[hc',hob]at hk;exact h4 k hk
    ·rw[hc',hl]
     rcases h6.2 with⟨f1,f2⟩|⟨gg,cap2,cur,f1,f2,f3,f4,f5,f6,f7⟩
     ·rw[hv1]at f1
      simp only[Value.slice.injEq]at f1
      obtain⟨rfl,f3,rfl⟩:=f1
      have hn0:n=0:=by omega
      subst hn0
      exact⟨by simp,.inl ⟨rfl,rfl⟩⟩
     ·rw[hv1]at f1
      simp only[Value.slice.injEq]at f1
      obtain⟨rfl,_,rfl⟩:=f1
      refine⟨?_,.inr ⟨gg,cap,cur,rfl,f2,f3,by omega,f5,f6,?_⟩⟩
      ·rw[←take_flat n hszv,List.length_take,h6.1,Nat.min_eq_left (Nat.mul_le_mul_right _ hn)]
      ·rw[←take_flat n hszv,←f7,List.take_take,Nat.min_eq_left (Nat.mul_le_mul_right _ hn)]
   ·by_cases e2:i=id
    ·right
     subst e2
     rw[hm'id]at hi
     cases hi
     show xs.length+1≤1073741825
     omega
    ·left
     refine⟨by rw[←hm' i e1 e2];exact hi,rfl,upd_ne _ _ e1,fun k hk=>⟨rfl,fun _=>Iff.rfl⟩⟩
  ·have e1:i≠id:=fun e=>by rw[e,hboid]at p1;simp at p1
   have e2:i'≠id:=fun e=>by rw[e,hboid]at p2;simp at p2
   by_cases d1:i=d
   ·by_cases d2:i'=d
    ·rw[d1,d2]
    ·rw[d1,hbod]at p1
     rw[hbo i' d2 e2]at p2
     exact absurd (h.inj id i' bk p1 p2).symm e2
   ·by_cases d2:i'=d
    ·rw[d2,hbod]at p2
     rw[hbo i d1 e1]at p1
     exact absurd (h.inj i id bk p1 p2) e1
    ·rw[hbo i d1 e1]at p1
     rw[hbo i' d2 e2]at p2
     exact h.inj i i' bk p1 p2
 ·refine⟨⟨_,_,rfl⟩,n,by simp[rowLen,hm'd];omega,Nat.le_refl _,fun _=>(upd_same _ _ _).symm⟩
theorem nil_run {T e:TypeId}{ie:TypeInfo}(hd:P.underlying T=some (.slice e))(hie:P.info? e=some ie){vl vh vm:Option Value}(hlo:vl=none∨∃k,vl=some (.int k 0))(hhi:(vm=none∧(vh=none∨∃k,vh=some (.int k 0)))∨((∃k,vm=some (.int k 0))∧∃k,vh=some (.int k 0))):(Instr.sliceAt T (.slice none 0 0) vl vh vm).run P w=.ok (.slice none 0 0) w:=by
 have hb:∀k code,(Instr.sliceBound (.int k 0) 0 code).run P w=.ok 0 w:=fun k code=>by simpa using bound_run (P:=P) (w:=w) (k:=k) (i:=0) (y:=0) (code:=code) (by omega) (by omega)
 have key:(Instr.sliceBounds true 0 0 vl vh vm).run P w=.ok (0,0,0) w:=by
  rcases hlo with rfl|⟨k1,rfl⟩<;>rcases hhi with⟨rfl,rfl|⟨k2,rfl⟩⟩|⟨⟨k3,rfl⟩,k2,rfl⟩<;>simp[Instr.sliceBounds,hb]
 have:=run_sizeOf (P:=P) (w:=w) hie
 simp[Instr.sliceAt,Instr.slice,run_underlying hd,key,this]
theorem own_val (h:Tm c w σ a){x:Operand}{id n:Nat}(hx:ev σ x=.one (.own id n)){e:TypeId}{sz:Nat}{xs:List (List CV)}(hm:σ.m id=some (.rows e sz xs))(hn:xs.length=n):a.eval x=c.ψ id∧∃ad cap,c.ψ id=.slice ad xs.length cap:=by
 have hv:=ev_ok h x
 rw[hx]at hv
 obtain⟨⟨ad,k,he⟩,L,hL,hn',hq⟩:=hv
 have hL':xs.length=L:=by simpa[rowLen,hm]using hL
 have:=hq (by omega)
 exact⟨this,ad,k,by rw[←this,he,hn]⟩
theorem froz_val (h:Tm c w σ a)(h2:WR base S0 w0 c σ.m w){x:Operand}{id n:Nat}(hx:ev σ x=.one (.own id n)){xs:List (List CV)}(hm:σ.m id=some (.froz xs))(hn:xs.length=n):R c.S w (.row xs) (a.eval x):=by
 have hv:=ev_ok h x
 rw[hx]at hv
 obtain⟨_,L,hL,hn',hq⟩:=hv
 have hL':xs.length=L:=by simpa[rowLen,hm]using hL
 rw[show a.eval x=c.ψ id from hq (by omega)]
 exact h2.blk id _ hm
theorem lent_val (h:Tm c w σ a)(h2:WR base S0 w0 c σ.m w){x:Operand}{id n j:Nat}(hx:ev σ x=.one (.own id n)){e:TypeId}{sz:Nat}{xs:List (List CV)}(hm:σ.m id=some (.lent j e sz xs))(hn:xs.length=n):R c.S w (.rowc j xs) (a.eval x)∧∀us∈xs,us.length=sz:=by
 have hv:=ev_ok h x
 rw[hx]at hv
 obtain⟨_,L,hL,hn',hq⟩:=hv
 have hL':xs.length=L:=by simpa[rowLen,hm]using hL
 rw[show a.eval x=c.ψ id from hq (by omega)]
 obtain⟨_,p1,p2,p3,p4,vss,p5,p6⟩:=h2.blk id _ hm
 exact⟨row_shown j p1 p5 p6 fun g hg=>(p4 g hg j).2 rfl,p1⟩
theorem mrg_self {id:Nat}{m:Mem}:mrg [id] (frz (only [id] m)) m=upd m id (frzB (m id)):=by
 rw[mrg_one (b:=frzB (m id)) (by simp[frz,only_same])]
theorem mrg_keep {ids:List Nat}{m:Mem}:mrg ids (only ids m) m=m:=by
 funext i
 unfold mrg
 cases hi:hasN ids i with
 |false=>rfl
 |true=>exact only_in (hasN_iff.1 hi)
theorem froz_own (h:Tm c w σ a)(h2:WR base S0 w0 c σ.m w){x:Operand}{id n:Nat}(hx:ev σ x=.one (.own id n)){e:TypeId}{sz:Nat}{xs:List (List CV)}(hm:σ.m id=some (.rows e sz xs))(hn:xs.length=n):∃c',Goes c w σ.m c' w (mrg [id] (frz (only [id] σ.m)) σ.m)∧WR base S0 w0 c' (mrg [id] (frz (only [id] σ.m)) σ.m) w∧R c'.S w (.row xs) (a.eval x)∧∀us∈xs,us.length=sz:=by
 have hmm:mrg [id] (frz (only [id] σ.m)) σ.m=upd σ.m id (some (.froz xs)):=by rw[mrg_self,hm];rfl
 obtain⟨g,r,hr⟩:=h2.freeze hm
 rw[hmm]
 obtain⟨hv,_⟩:=own_val h hx hm hn
 exact⟨_,g,r,by rw[hv];exact hr,(h2.blk id _ hm).1⟩
theorem isB_nums {xs:List (List CV)}(h:xs.all isB=true):∃ns:List Int,xs=ns.map fun n=>[CV.v (.int .u8 n)]:=by
 induction xs with
 |nil=>exact⟨[],rfl⟩
 |cons us xs ih=>
  rw[List.all_cons,Bool.and_eq_true]at h
  obtain⟨ns,rfl⟩:=ih h.2
  have h1:=h.1
  unfold isB at h1
  split at h1
  ·rename_i n;exact⟨n::ns,rfl⟩
  ·cases h1
theorem push_bytes (ns:List Int)(s:ByteArray):(ns.foldl (fun r n=>r.push (UInt8.ofNat n.toNat)) s).data.toList=s.data.toList++ns.map fun n=>UInt8.ofNat n.toNat:=by
 induction ns generalizing s with
 |nil=>simp
 |cons n ns ih=>rw[List.foldl_cons,ih];simp[ByteArray.push]
theorem bytes_run {S:Sh}{w:World}{k:Nat}{xs:List (List CV)}{v:Value}(h:R S w (.rowc k xs) v)(hb:xs.all isB=true):∃ad n cap,v=.slice ad n cap∧(Conv.bytesToString (.slice ad n cap)).run P w=.ok (.string (bytesOf xs)) w:=by
 obtain⟨ns,rfl⟩:=isB_nums hb
 have hs:ByteArray.mk (ns.map fun n=>UInt8.ofNat n.toNat).toArray=bytesOf (ns.map fun n=>[CV.v (.int .u8 n)]):=by unfold bytesOf;rw[List.map_map];rfl
 have go:∀(a:Addr) (cap:Nat),(∀(j:Nat) (n:Int),ns[j]?=some n→w.cell? (a.add j)=some (.int .u8 n))→(Conv.bytesToString (.slice (some a) ns.length cap)).run P w=.ok (.string (bytesOf (ns.map fun n=>[CV.v (.int .u8 n)]))) w:=fun a cap hc=>by
  rw[run_bytesToString w a ns.length cap ns (by
   have:=run_loadCells_list (P:=P) (w:=w) a (ns.map (Value.int .u8)) fun j v hv=>by
    rw[List.getElem?_map,Option.map_eq_some_iff]at hv
    obtain⟨n,hn,rfl⟩:=hv
    exact hc j n hn
   rwa [List.length_map]at this)]
  rw[←hs]
  rw[show(ns.foldl (fun r n=>r.push (UInt8.ofNat n.toNat)) ByteArray.empty)=bytesOf (ns.map fun n=>[CV.v (.int .u8 n)])from by
   rw[←hs]
   refine ByteArray.ext (Array.ext' ?_)
   rw[push_bytes]
   simp]
  try rw[hs]
 generalize hxx:(ns.map fun n=>[CV.v (.int .u8 n)])=xs at *
 cases h with
 |nil=>
  have:ns=[]:=List.map_eq_nil_iff.1 hxx
  subst this
  exact⟨none,0,0,rfl,by simp[Conv.bytesToString,bytesOf];rfl⟩
 |bare h=>
  have:ns=[]:=List.map_eq_nil_iff.1 hxx
  subst this
  exact⟨_,_,_,rfl,go _ _ fun j n hn=>by simp at hn⟩
 |row g h1 h2 h3 h4 h5 h6 h7=>
  subst hxx
  rw[List.length_map]
  refine⟨_,_,_,rfl,go _ _ fun j n hn=>?_⟩
  have hi:(ns.map fun n=>[CV.v (.int .u8 n)])[j]?=some [CV.v (.int .u8 n)]:=by rw[List.getElem?_map,hn];rfl
  have hsz:=h5 _ (List.mem_of_getElem? hi)
  have c1:=h6 j _ hi 0 (by simp)
  have c2:=R.val (h7 j _ hi 0 (.v (.int .u8 n)) rfl)
  rw[c2]at c1
  rw[←hsz]at c1
  by_cases hj:j=0
  ·subst hj;simpa[Addr.add]using c1
  ·simpa[Addr.add,hj]using c1
theorem toStr_ok {o:Oper}{S T e:TypeId}{x:Operand}{a1 a2:Nat}{a3:Bool}{a4:List A}{b1 b2 esz:Nat}{b3:Bool}{b4:List A}(ho:o.op=.convert S T x)(hs:tinfo P S=some ⟨b1,b2,b3,b4,.slice e esz⟩)(ht:tinfo P T=some ⟨a1,a2,a3,a4,.str⟩):OpOK P o σ (rToStr P e (ev σ x)):=by
 have hd:=str_shape ht
 obtain⟨hds,_⟩:=slice_shape hs
 unfold rToStr
 split
 ·rename_i c1 c2 c3 c4 hte
  have hde:=int_shape hte
  have fin:∀{c:Ctx} {a:Act} {w:World} {k:Nat} {xs:List (List CV)},R c.S w (.rowc k xs) (a.eval x)→xs.all isB=true→(execOp a.eval o).run P w=.ok (.value (.string (bytesOf xs))) w:=fun {c a w k xs} hr hb=>by
   obtain⟨ad,n,cap,h1,h2⟩:=bytes_run (P:=P) hr hb
   simp[execOp,ho,h1,run_convert_bytes_string w S T e ad n cap hds hde hd,h2]
  split
  ·rename_i k xs hx
   refine OpOK.val fun base S0 w0 c a w h1 h2 h3=>?_
   have hv:=ev_ok h1 x
   rw[hx]at hv
   exact⟨_,fin hv h3,R.v rfl⟩
  ·rename_i hx
   refine OpOK.val fun base S0 w0 c a w h1 h2 h3=>?_
   have hv:=ev_ok h1 x
   rw[hx]at hv
   have hv:a.eval x=.slice none 0 0:=hv
   exact⟨_,fin (c:=c) (k:=0) (xs:=[]) (by rw[hv];exact .nil) rfl,R.v rfl⟩
  ·rename_i id n hx
   refine OpOK.same rfl fun base S0 w0 c a w h1 h2 h3=>?_
   cases hm:σ.m id with
   |none=>
    simp only[Req.eff,Req.read,only_same,hm]at h3
   |some blk=>
    simp only[Req.eff,Req.read,only_same,hm]at h3 ⊢
    cases blk with
    |rows e' sz xs=>
     simp only at h3 ⊢
     obtain⟨c',g,r,hr,_⟩:=froz_own h1 h2 hx hm h3.1
     exact⟨_,fin hr h3.2,R.v rfl⟩
    |froz xs=>
     simp only at h3 ⊢
     exact⟨_,fin (froz_val h1 h2 hx hm h3.1) h3.2,R.v rfl⟩
    |_=>exact h3.elim
  ·exact OpOK.bad
 ·exact OpOK.bad
theorem slice_ok {o:Oper}{T:TypeId}{x:Operand}{lo hi:Option Operand}(ho:o.op=.slice T x lo hi none):OpOK P o σ (rSlice P o.dst T (ev σ x) (lo.map (ev σ)) (hi.map (ev σ))):=by
 have hex:∀(a:Act) (w:World) (u:Value),(Instr.sliceAt T (a.eval x) (lo.map a.eval) (hi.map a.eval) none).run P w=.ok u w→(execOp a.eval o).run P w=.ok (.value u) w:=fun a w u h=>by simp[execOp,ho,h]
 unfold rSlice
 split
 ·rename_i s1 s2 s3 s4 e esz ht
  obtain⟨hd,ie,z,hie,hz,hsz,hby,hzs,hpos,hz1⟩:=slice_shape ht
  split
  ·rename_i kc xs hx
   split
   ·rename_i l h hl hh
    refine OpOK.val fun base S0 w0 c a w h1 h2 h3=>?_
    obtain⟨e1,e2,e3,e4⟩:=h3
    have hv:=ev_ok h1 x
    rw[hx]at hv
    obtain⟨u,r1,r2⟩:=slice_run (w:=w) hd hie hsz hv e4 (bnd_ok h1 hl) (bnd_ok h1 hh) e1 e2 e3
    exact⟨u,hex a w u r1,r2⟩
   ·exact OpOK.bad
  ·rename_i kc xs hx
   split
   ·rename_i l h hl hh
    refine OpOK.val fun base S0 w0 c a w h1 h2 h3=>?_
    obtain⟨e1,e2,e3,e4⟩:=h3
    have hv:=ev_ok h1 x
    rw[hx]at hv
    obtain⟨_,_,hv⟩:=hv
    obtain⟨u,r1,r2⟩:=slice_run (w:=w) hd hie hsz hv e4 (bnd_ok h1 hl) (bnd_ok h1 hh) e1 e2 e3
    exact⟨u,hex a w u r1,r2⟩
   ·exact OpOK.bad
  ·rename_i hx
   split
   ·rename_i l h hl hh
    refine OpOK.val fun base S0 w0 c a w h1 h2 h3=>?_
    obtain⟨rfl,rfl⟩:=h3
    have hv:=ev_ok h1 x
    rw[hx]at hv
    have hv:a.eval x=.slice none 0 0:=hv
    refine⟨.slice none 0 0,hex a w _ ?_,rfl⟩
    rw[hv]
    exact nil_run hd hie ((bnd_ok h1 hl).imp (·.1) id) (.inl ⟨rfl,(bnd_ok h1 hh).imp (·.1) id⟩)
   ·exact OpOK.bad
  ·rename_i id n hx
   split
   ·rename_i hlo
    have hlo0:lo=none:=by cases lo with
     |none=>rfl
     |some y=>simp at hlo
    subst hlo0
    split
    ·rename_i d h hdst hh
     intro ro base S0 w0 c a w K Q h1 h2 h3 h4
     have o1:only [id,d] σ.m id=σ.m id:=only_in (by simp)
     have o2:only [id,d] σ.m d=σ.m d:=only_in (by simp)
     simp only[Req.eff,Req.mem,cond_true,o1,o2]at h3 h4
     split at h3
     ·rename_i e' sz xs hm hmd
      simp only[hm,hmd]at h4
      obtain⟨e1,e2,e3⟩:=h3
      obtain⟨v1,ad,cap,v2⟩:=own_val h1 hx hm e1
      have hnle:h.toNat≤xs.length:=by omega
      obtain⟨g,r1,r2⟩:=h2.part hm hmd hnle ⟨ad,cap,v2,rfl⟩
      have hid:id≠d:=fun e=>by rw[e,hmd]at hm;simp at hm
      have hcap:xs.length≤cap:=by
       rcases(h2.blk id _ hm).2.2.2.2 with⟨vss,_,h6⟩
       rcases h6.2 with⟨f1,f2⟩|⟨gg,cap2,cur,f1,f2,f3,f4,_⟩
       ·omega
       ·rw[v2]at f1
        simp only[Value.slice.injEq]at f1
        omega
      have hrun:(Instr.sliceAt T (a.eval x) ((none:Option Operand).map a.eval) (hi.map a.eval) none).run P w=.ok (.slice ad h.toNat cap) w:=by
       have hb2:h≤(cap:Int):=by omega
       have key:(Instr.sliceBounds true xs.length cap none (hi.map a.eval) none).run P w=.ok (0,h.toNat,cap) w:=by
        rcases bnd_ok h1 hh with⟨q1,q2⟩|⟨k,q1⟩
        ·rw[q1];simp[Instr.sliceBounds,q2,e1]
        ·rw[q1];simp[Instr.sliceBounds,bound_run e2 hb2]
       have:=run_sizeOf (P:=P) (w:=w) hie
       rw[v1,v2]
       have hz:∀q:Addr,q.add 0=q:=fun q=>by unfold Addr.add;cases q with|mk b o s=>cases s<;>simp
       simp[Instr.sliceAt,Instr.slice,run_underlying hd,key,this]
       cases ad<;>simp[hz]
      refine wpo_run (hex a w _ hrun) rfl ?_
      have hmm:mrg [id,d] (fun i=>bif i==d then some (.rows e' sz (xs.take h.toNat))else some (.gone (n+1))) σ.m=upd (upd σ.m id (some (.gone (xs.length+1)))) d (some (.rows e' sz (xs.take h.toNat))):=by
       funext i
       unfold mrg upd hasN
       by_cases i1:i=d
       ·subst i1;simp[hasN]
       ·have:(d==i)=false:=by simpa using fun e=>i1 e.symm
        have:(i==d)=false:=by simpa using i1
        by_cases i2:i=id
        ·subst i2;simp[hasN,i1,e1, *]
        ·have:(id==i)=false:=by simpa using fun e=>i2 e.symm
         simp[hasN,i1,i2, *]
      rw[hmm]at h4
      exact h4 _ _ _ g r1 r2
     ·rename_i xs hm
      obtain⟨e1,e2,e3,e4⟩:=h3
      have hv:=froz_val h1 h2 hx hm e1
      obtain⟨u,r1,r2⟩:=slice_run (P:=P) (w:=w) (l:=0) hd hie hsz hv e4 (vl:=(none:Option Operand).map a.eval) (.inl ⟨rfl,rfl⟩) (bnd_ok h1 (e1▸hh)) (by omega) e2 (by omega)
      have h4':=h4
      simp only[hm]at h4'
      rw[mrg_keep]at h4'
      refine wpo_run (hex a w _ r1) rfl ?_
      exact h4' _ _ _ (Goes.refl _ _ _) h2 r2
     ·rename_i j e' sz xs hm
      obtain⟨e1,e2,e3,e4⟩:=h3
      obtain⟨hv,hrow⟩:=lent_val h1 h2 hx hm e1
      obtain⟨u,r1,r2⟩:=slice_run (P:=P) (w:=w) (l:=0) hd hie hsz hv (by rw[←e4];exact hrow) (vl:=(none:Option Operand).map a.eval) (.inl ⟨rfl,rfl⟩) (bnd_ok h1 (e1▸hh)) (by omega) e2 (by omega)
      have h4':=h4
      simp only[hm]at h4'
      rw[mrg_keep]at h4'
      refine wpo_run (hex a w _ r1) rfl ?_
      exact h4' _ _ _ (Goes.refl _ _ _) h2 r2
     ·exact h3.elim
    ·exact OpOK.bad
   ·rename_i y hlo
    split
    ·rename_i l h hl hh
     intro ro base S0 w0 c a w K Q h1 h2 h3 h4
     simp only[Req.eff,Req.mem,cond_true,only_same]at h3 h4
     split at h3
     ·rename_i e' sz xs hm
      simp only[hm]at h4
      obtain⟨e1,e2,e3,e4,e5⟩:=h3
      obtain⟨c',g,r,hv,hrow⟩:=froz_own h1 h2 hx hm e1
      obtain⟨u,r1,r2⟩:=slice_run (P:=P) (w:=w) hd hie hsz hv (by rw[←e5];exact hrow) (bnd_ok (lo:=lo) h1 hl) (bnd_ok h1 (e1▸hh)) e2 e3 (by omega)
      refine wpo_run (hex a w _ r1) rfl ?_
      exact h4 _ _ _ g r r2
     ·rename_i xs hm
      simp only[hm]at h4
      obtain⟨e1,e2,e3,e4,e5⟩:=h3
      have hv:=froz_val h1 h2 hx hm e1
      obtain⟨u,r1,r2⟩:=slice_run (P:=P) (w:=w) hd hie hsz hv e5 (bnd_ok (lo:=lo) h1 hl) (bnd_ok h1 (e1▸hh)) e2 e3 (by omega)
      have hmm:mrg [id] (frz (only [id] σ.m)) σ.m=σ.m:=by
       rw[mrg_self,hm]
       funext i
       by_cases hi:i=id
       ·subst hi;rw[upd_same,hm];rfl
       ·rw[upd_ne _ _ hi]
      rw[hmm]at h4
      refine wpo_run (hex a w _ r1) rfl ?_
      exact h4 _ _ _ (Goes.refl _ _ _) h2 r2
     ·rename_i j e' sz xs hm
      simp only[hm]at h4
      obtain⟨e1,e2,e3,e4,e5⟩:=h3
      obtain⟨hv,hrow⟩:=lent_val h1 h2 hx hm e1
      obtain⟨u,r1,r2⟩:=slice_run (P:=P) (w:=w) hd hie hsz hv (by rw[←e5];exact hrow) (bnd_ok (lo:=lo) h1 hl) (bnd_ok h1 (e1▸hh)) e2 e3 (by omega)
      have hmm:mrg [id] (frz (only [id] σ.m)) σ.m=σ.m:=by
       rw[mrg_self,hm]
       funext i
       by_cases hi:i=id
       ·subst hi;rw[upd_same,hm];rfl
       ·rw[upd_ne _ _ hi]
      rw[hmm]at h4
      refine wpo_run (hex a w _ r1) rfl ?_
      exact h4 _ _ _ (Goes.refl _ _ _) h2 r2
     ·exact h3.elim
    ·exact OpOK.bad
  ·exact OpOK.bad
 ·rename_i s1 s2 s3 s4 ht
  have hd:=str_shape ht
  split
  ·rename_i s hx
   split
   ·rename_i l h hl hh
    refine OpOK.val fun base S0 w0 c a w h1 h2 h3=>?_
    obtain⟨e1,e2,e3⟩:=h3
    have hv:=ev_ok h1 x
    rw[hx]at hv
    have hv:a.eval x=.string s:=R.val hv
    refine⟨.string (s.extract l.toNat h.toNat),hex a w _ ?_,R.v rfl⟩
    have key:(Instr.sliceBounds false s.size s.size (lo.map a.eval) (hi.map a.eval) none).run P w=.ok (l.toNat,h.toNat,s.size) w:=by
     rcases bnd_ok h1 hl with⟨q1,q2⟩|⟨k,q1⟩<;>rcases bnd_ok h1 hh with⟨q3,q4⟩|⟨k',q3⟩
     ·rw[q1,q3,q2,q4];simp[Instr.sliceBounds]
     ·rw[q1,q3,q2];simp[Instr.sliceBounds,bound_run (P:=P) (w:=w) (show 0≤h by omega) e3]
     ·rw[q1,q3,q4];simp[Instr.sliceBounds,bound_run (P:=P) (w:=w) e1 (show l≤(s.size:Int) by omega)]
     ·rw[q1,q3]
      have e2':l≤((h.toNat:Nat):Int):=by omega
      simp[Instr.sliceBounds,bound_run (P:=P) (w:=w) (show 0≤h by omega) e3,bound_run (P:=P) (w:=w) e1 e2']
    rw[hv]
    simp[Instr.sliceAt,Instr.slice,run_underlying hd,key]
   ·exact OpOK.bad
  ·exact OpOK.bad
 ·exact OpOK.bad
theorem slice3_ok {o:Oper}{T:TypeId}{x:Operand}{lo hi:Option Operand}{mx:Operand}(ho:o.op=.slice T x lo hi (some mx)):OpOK P o σ (rSlice3 P T (ev σ x) (lo.map (ev σ)) (hi.map (ev σ)) (ev σ mx)):=by
 have hex:∀(a:Act) (w:World) (u:Value),(Instr.sliceAt T (a.eval x) (lo.map a.eval) (hi.map a.eval) (some (a.eval mx))).run P w=.ok u w→(execOp a.eval o).run P w=.ok (.value u) w:=fun a w u h=>by simp[execOp,ho,h]
 have some_ok:∀{c:Ctx} {w:World} {a:Act} {d:Nat} {h:Int},Tm c w σ a→(hi.map (ev σ)).isSome=true→bndOf (hi.map (ev σ)) d=some h→∃k,hi.map a.eval=some (.int k h):=fun h1 e hh=>by
  rcases bnd_ok h1 hh with⟨q1,_⟩|q
  ·cases hi with
   |none=>simp at e
   |some y=>simp at q1
  ·exact q
 have mx_ok:∀{c:Ctx} {w:World} {a:Act} {h:Int},Tm c w σ a→bndOf (some (ev σ mx)) 0=some h→∃k,a.eval mx=.int k h:=fun {c w a h} h1 hh=>by
  rcases bnd_ok (lo:=some mx) h1 hh with⟨q1,_⟩|⟨k,q⟩
  ·simp at q1
  ·exact⟨k,by simpa using q⟩
 have row:∀{c:Ctx} {w:World} {a:Act} {S:Sh} {e:TypeId} {esz:Nat} {ie:TypeInfo} {kc:Nat} {xs:List (List CV)} {l h:Int},P.underlying T=some (.slice e)→P.info? e=some ie→ie.size=esz→Tm c w σ a→R S w (.rowc kc xs) (a.eval x)→(∀us∈xs,us.length=esz)→bndOf (lo.map (ev σ)) 0=some l→bndOf (hi.map (ev σ)) xs.length=some h→bndOf (some (ev σ mx)) 0=some h→(hi.map (ev σ)).isSome=true→0≤l→l≤h→h≤(xs.length:Int)→∃ad,(execOp a.eval o).run P w=.ok (.value (.slice ad (partOf xs l h).length (partOf xs l h).length)) w∧R S w (.rowc kc (partOf xs l h)) (.slice ad (partOf xs l h).length (partOf xs l h).length):=fun {c w a S e esz ie kc xs l h} hd hie hsz h1 hv e4 hl hh hm e0 e1 e2 e3=>by
  obtain⟨k2,q2⟩:=some_ok h1 e0 hh
  obtain⟨k3,q3⟩:=mx_ok h1 hm
  obtain⟨ad,r1,r2⟩:=slice3_run (P:=P) (w:=w) (k2:=k2) (k3:=k3) hd hie hsz hv e4 (bnd_ok h1 hl) e1 e2 e3
  exact⟨ad,hex a w _ (by rw[q2,q3];exact r1),r2⟩
 unfold rSlice3
 split
 ·rename_i s1 s2 s3 s4 e esz ht
  obtain⟨hd,ie,z,hie,hz,hsz,hby,hzs,hpos,hz1⟩:=slice_shape ht
  split
  ·rename_i kc xs hx
   split
   ·rename_i l h m hl hh hm
    refine OpOK.val fun base S0 w0 c a w h1 h2 h3=>?_
    obtain⟨e0,e1,e2,rfl,e3,e4⟩:=h3
    have hv:=ev_ok h1 x
    rw[hx]at hv
    obtain⟨ad,r1,r2⟩:=row hd hie hsz h1 hv e4 hl hh hm e0 e1 e2 e3
    exact⟨_,r1,ad,rfl,r2⟩
   ·exact OpOK.bad
  ·rename_i kc xs hx
   split
   ·rename_i l h m hl hh hm
    refine OpOK.val fun base S0 w0 c a w h1 h2 h3=>?_
    obtain⟨e0,e1,e2,rfl,e3,e4⟩:=h3
    have hv:=ev_ok h1 x
    rw[hx]at hv
    obtain⟨_,_,hv⟩:=hv
    obtain⟨ad,r1,r2⟩:=row hd hie hsz h1 hv e4 hl hh hm e0 e1 e2 e3
    exact⟨_,r1,ad,rfl,r2⟩
   ·exact OpOK.bad
  ·rename_i hx
   split
   ·rename_i l h m hl hh hm
    refine OpOK.val fun base S0 w0 c a w h1 h2 h3=>?_
    obtain⟨e0,rfl,rfl,rfl⟩:=h3
    have hv:=ev_ok h1 x
    rw[hx]at hv
    have hv:a.eval x=.slice none 0 0:=hv
    refine⟨.slice none 0 0,hex a w _ ?_,rfl⟩
    rw[hv]
    obtain⟨k3,q3⟩:=mx_ok h1 hm
    exact nil_run hd hie ((bnd_ok h1 hl).imp (·.1) id) (.inr ⟨⟨k3,by rw[q3]⟩,some_ok h1 e0 hh⟩)
   ·exact OpOK.bad
  ·rename_i id n hx
   split
   ·rename_i l h k hl hh hk
    intro ro base S0 w0 c a w K Q h1 h2 h3 h4
    simp only[Req.eff,Req.mem,cond_true,only_same]at h3 h4
    split at h3
    ·rename_i e' sz xs hm
     simp only[hm]at h4
     obtain⟨e0,e1,e2,e3,rfl,e5,e6⟩:=h3
     obtain⟨c',g,r,hv,hrow⟩:=froz_own h1 h2 hx hm e1
     obtain⟨ad,r1,r2⟩:=row hd hie hsz h1 hv (by rw[←e6];exact hrow) hl (e1▸hh) hk e0 e2 e3 (by omega)
     refine wpo_run (r1) rfl ?_
     exact h4 _ _ _ g r ⟨ad,rfl,r2⟩
    ·rename_i xs hm
     simp only[hm]at h4
     obtain⟨e0,e1,e2,e3,rfl,e5,e6⟩:=h3
     have hv:=froz_val h1 h2 hx hm e1
     obtain⟨ad,r1,r2⟩:=row hd hie hsz h1 hv e6 hl (e1▸hh) hk e0 e2 e3 (by omega)
     have hmm:mrg [id] (frz (only [id] σ.m)) σ.m=σ.m:=by
      rw[mrg_self,hm]
      funext i
      by_cases hi:i=id
      ·subst hi;rw[upd_same,hm];rfl
      ·rw[upd_ne _ _ hi]
     rw[hmm]at h4
     refine wpo_run (r1) rfl ?_
     exact h4 _ _ _ (Goes.refl _ _ _) h2 ⟨ad,rfl,r2⟩
    ·rename_i j e' sz xs hm
     simp only[hm]at h4
     obtain⟨e0,e1,e2,e3,rfl,e5,e6⟩:=h3
     obtain⟨hv,hrow⟩:=lent_val h1 h2 hx hm e1
     obtain⟨ad,r1,r2⟩:=row hd hie hsz h1 hv (by rw[←e6];exact hrow) hl (e1▸hh) hk e0 e2 e3 (by omega)
     have hmm:mrg [id] (frz (only [id] σ.m)) σ.m=σ.m:=by
      rw[mrg_self,hm]
      funext i
      by_cases hi:i=id
      ·subst hi;rw[upd_same,hm];rfl
      ·rw[upd_ne _ _ hi]
     rw[hmm]at h4
     refine wpo_run (r1) rfl ?_
     exact h4 _ _ _ (Goes.refl _ _ _) h2 ⟨ad,rfl,r2⟩
    ·exact h3.elim
   ·exact OpOK.bad
  ·exact OpOK.bad
 ·exact OpOK.bad
theorem cap_ok {o:Oper}{T:TypeId}{x:Operand}(ho:o.op=.call {callee:=.builtin .cap,args:=#[x],argTypes:=#[T]}):OpOK P o σ (rCap P T (ev σ x)):=by
 unfold rCap
 split
 ·rename_i s1 s2 s3 s4 e esz ht
  obtain⟨hd,_⟩:=slice_shape ht
  have hr:∀(a:Act) (w:World) (ad:Option Addr) (n k:Nat),a.eval x=.slice ad n k→(execOp a.eval o).run P w=.ok (.value (.int .i64 k)) w:=fun a w ad n k h=>by
   simp[execOp,ho,resolve,invoke,builtin,Builtin.cap_,run_underlying hd,h,goInt]
  split
  ·rename_i kc xs hx
   refine OpOK.val fun base S0 w0 c a w h1 h2 h3=>?_
   have hv:=ev_ok h1 x
   rw[hx]at hv
   obtain⟨ad,he,hv⟩:=hv
   obtain⟨_,_,_,hl1,hl2⟩:=R.slice hv
   exact⟨_,hr a w ad _ _ he,R.v (okLen (by omega))⟩
  ·rename_i hx
   refine OpOK.val fun base S0 w0 c a w h1 h2 h3=>?_
   have hv:=ev_ok h1 x
   rw[hx]at hv
   exact⟨_,hr a w none 0 0 hv,R.v rfl⟩
  ·exact OpOK.bad
 ·exact OpOK.bad
theorem made_flat {z:Array Value}{sz:Nat}(hz:z.size=sz)(hp:0<sz)(k:Nat):(madeCells z (k*sz)).toList=(List.replicate k z.toList).flatten:=by
 subst hz
 apply List.ext_getElem?
 intro j
 have hl:∀(n:Nat),(List.replicate n z.toList).flatten.length=n*z.size:=fun n=>by
  induction n with
  |zero=>simp
  |succ n ih=>rw[List.replicate_succ,List.flatten_cons,List.length_append,ih,Nat.succ_mul];simp;omega
 by_cases hj:j<k*z.size
 ·have hget:∀(n j:Nat),j<n*z.size→(List.replicate n z.toList).flatten[j]?=some (z[j % z.size]!):=by
   intro n
   induction n with
   |zero=>intro j h;simp at h
   |succ n ih=>
    intro j h
    rw[List.replicate_succ,List.flatten_cons]
    by_cases hjz:j<z.size
    ·rw[List.getElem?_append_left (by simpa using hjz),Nat.mod_eq_of_lt hjz]
     simp[hjz]
    ·rw[List.getElem?_append_right (by simpa using hjz)]
     rw[Nat.succ_mul]at h
     have:=ih (j - z.size) (by omega)
     rw[Array.length_toList,this,Nat.mod_eq_sub_mod (Nat.le_of_not_lt hjz)]
  rw[hget k j hj]
  simp[madeCells,hj]
 ·rw[List.getElem?_eq_none (by simp[madeCells];omega),List.getElem?_eq_none (by rw[hl];omega)]
theorem zeros_F2 {z:Value}(hz1:∀v∈z.cells.toList,okV v=true)(n:Nat):F2 (F2 (R c.S w)) (List.replicate n ((z.cells.toList.map ofCell).map (clo fun _=>none))) (List.replicate n z.cells.toList):=⟨by simp,fun j x y hx hy=>by
 have hx:=List.eq_of_mem_replicate (List.mem_of_getElem? hx)
 have hy:=List.eq_of_mem_replicate (List.mem_of_getElem? hy)
 subst hx hy
 refine⟨by simp,fun j x y hx hy=>?_⟩
 simp only[List.getElem?_map,Option.map_eq_some_iff]at hx
 obtain⟨_,⟨u,hu,rfl⟩,rfl⟩:=hx
 rw[hu]at hy
 cases hy
 have:=hz1 _ (List.mem_of_getElem? hu)
 unfold ofCell
 split
 ·exact R.nil
 ·exact R.v this⟩
theorem appendX_ok {o:Oper}{T T':TypeId}{s x:Operand}(ho:o.op=.call {callee:=.builtin .append,args:=#[s,x],argTypes:=#[T,T']}):OpOK P o σ (rAppendX P o.dst T T' (ev σ s) (ev σ x)):=by
 unfold rAppendX
 split
 ·rename_i kn n hx
  split
  ·rename_i s1 s2 s3 s4 e esz t1 t2 t3 t4 k ht htn
   obtain⟨hd,ie,z,hie,hz,hsz,hby,hzs,hpos,hz1⟩:=slice_shape ht
   have hdn:=int_shape htn
   split
   ·rename_i u1 u2 u3 zero u5 d hte hdst
    obtain⟨i,d',z',hi',hd',hz',hz2,he⟩:=tinfo_is hte
    simp only[TI.mk.injEq]at he
    obtain⟨_,_,_,rfl,_⟩:=he
    rw[hie]at hi'
    cases hi'
    rw[hz]at hz'
    cases hz'
    split
    ·rename_i hs
     intro ro base S0 w0 c a w K Q h1 h2 h3 h4
     cases hm:σ.m d with
     |some b=>simp only[Req.eff,only_same,hm]at h3
     |none=>
      simp only[Req.eff,Req.mem,only_same,hm,cond_true]at h3 h4
      obtain⟨e1,e2⟩:=h3
      have vs:=ev_ok h1 s
      have vx:=ev_ok h1 x
      rw[hs]at vs
      rw[hx]at vx
      have vs:a.eval s=.slice none 0 0:=vs
      have vx:a.eval x=.int kn n:=R.val vx
      obtain⟨N,rfl⟩:∃N:Nat,n=N:=⟨n.toNat,by omega⟩
      rw[Int.toNat_natCast]at h4
      have hb:N*ie.bytes≤281474976710656:=Nat.le_trans (Nat.mul_le_mul (show N≤1073741824 by omega) hby) (by omega)
      have hrun:=Lib.run_append_nil_zeros (P:=P) w T T' o.type e ie z kn k hd hdn hie hz N (by omega) (by omega) (by omega) hb
      have hge:=grownCap_ge w N 0 e
      have hle:=grownCap_le_maxLen w N 0 e (by unfold maxLen;omega)
      have hlen:(List.replicate N ((z.cells.toList.map ofCell).map (clo fun _=>none))).length=N:=by simp
      have hzc:∀q,(Builtin.zeroCells z.cells q).toList=(List.replicate q z.cells.toList).flatten:=fun q=>by
       have:=made_flat hzs hpos q
       rw[←this]
       simp[Builtin.zeroCells,madeCells,hzs]
      have hfl:∀q,((List.replicate q z.cells.toList).flatten).length=q*esz:=fun q=>by
       have:=made_flat hzs hpos q
       rw[←this,Array.length_toList,size_madeCells]
      have hown:(w.drew.alloc (.cells (Builtin.zeroCells z.cells N++Builtin.zeroCells z.cells (grownCap w N 0 e - N)) e)).ownsRow w.heap.size e esz (.slice (some ⟨w.heap.size,0,none⟩) N (grownCap w N 0 e)) N (List.replicate N z.cells.toList).flatten:=by
       refine⟨hfl N,.inr ⟨w.heap.size,_,_,rfl,Nat.le_refl _,heap_alloc_new w.drew _,hge,hle,?_,?_⟩⟩
       ·rw[←Array.length_toList,Array.toList_append,List.length_append,hzc,hzc,hfl,hfl,←Nat.add_mul,Nat.add_sub_cancel' hge]
       ·rw[Array.toList_append,hzc,hzc,List.take_left' (hfl N)]
      have hB:Below w.heap.size w (w.drew.alloc (.cells (Builtin.zeroCells z.cells N++Builtin.zeroCells z.cells (grownCap w N 0 e - N)) e)):=
       ⟨rfl,rfl,rfl,by rw[show(w.drew.alloc (.cells (Builtin.zeroCells z.cells N++Builtin.zeroCells z.cells (grownCap w N 0 e - N)) e)).heap.size=w.drew.heap.size+1 from alloc_size _ _];exact Nat.le_succ _,fun k hk=>heap_old w.drew _ hk⟩
      obtain⟨g,r1,r2⟩:=h2.rows (xs:=List.replicate N ((z.cells.toList.map ofCell).map (clo fun _=>none))) hm (e:=e) (sz:=esz) hB (fun us hu=>by rw[List.eq_of_mem_replicate hu];simpa using hzs) hpos (by rw[hlen];omega) (zeros_F2 hz1 N) (by rw[hlen];exact hown)
      rw[hlen]at r2
      have hr:(execOp a.eval o).run P w=.ok (.value (.slice (some ⟨w.heap.size,0,none⟩) N (grownCap w N 0 e))) (w.drew.alloc (.cells (Builtin.zeroCells z.cells N++Builtin.zeroCells z.cells (grownCap w N 0 e - N)) e)):=by
       simp[execOp,ho,resolve,invoke,builtin,vs,vx,hrun]
      refine wpo_run (hr) rfl ?_
      rw[mrg_one (b:=some (.rows e esz (List.replicate N ((z.cells.toList.map ofCell).map (clo fun _=>none))))) rfl]at h4
      exact h4 _ _ _ g r1 r2
    ·exact OpOK.bad
   ·exact OpOK.bad
  ·exact OpOK.bad
 ·exact append_ok ho
theorem make_ok {o:Oper}{T:TypeId}{l k:Operand}(ho:o.op=.makeSlice T l k):OpOK P o σ (rMake P o.dst T (ev σ l) (ev σ k)):=by
 unfold rMake
 split
 ·rename_i s1 s2 s3 s4 e esz ht
  obtain⟨hd,ie,z,hie,hz,hsz,hby,hzs,hpos,hz1⟩:=slice_shape ht
  split
  ·rename_i t1 t2 t3 zero t5 d hte hdst
   obtain⟨i,d',z',hi',hd',hz',hz2,he⟩:=tinfo_is hte
   simp only[TI.mk.injEq]at he
   obtain⟨_,_,_,rfl,_⟩:=he
   rw[hie]at hi'
   cases hi'
   rw[hz]at hz'
   cases hz'
   split
   ·rename_i kl L kk C hl hk
    intro ro base S0 w0 c a w K Q h1 h2 h3 h4
    cases hm:σ.m d with
    |some b=>simp only[Req.eff,only_same,hm]at h3
    |none=>
     simp only[Req.eff,Req.mem,only_same,hm,cond_true]at h3 h4
     obtain⟨e1,e2,e3⟩:=h3
     have vl:=ev_ok h1 l
     have vk:=ev_ok h1 k
     rw[hl]at vl
     rw[hk]at vk
     have vl:a.eval l=.int kl L:=R.val vl
     have vk:a.eval k=.int kk C:=R.val vk
     have hbytes:(ie.bytes:Int)*C≤281474976710656:=by
      have q1:(ie.bytes:Int)≤131072:=by omega
      have q2:(ie.bytes:Int)*C≤131072*1073741824:=Int.mul_le_mul q1 e3 (by omega) (by omega)
      omega
     have hrun:=run_make (P:=P) w T e ie z hd hie hz kl kk L C e1 e2 hbytes (by omega)
     have hlen:(List.replicate L.toNat (((z.cells.toList.map ofCell)).map (clo fun _=>none))).length=L.toNat:=by simp
     have hcell:F2 (R c.S w) ((z.cells.toList.map ofCell).map (clo fun _=>none)) z.cells.toList:=⟨by simp,fun j x y hx hy=>by
      simp only[List.getElem?_map,Option.map_eq_some_iff]at hx
      obtain⟨_,⟨u,hu,rfl⟩,rfl⟩:=hx
      rw[hu]at hy
      cases hy
      have:=hz1 _ (List.mem_of_getElem? hu)
      unfold ofCell
      split
      ·exact R.nil
      ·exact R.v this⟩
     have hF:F2 (F2 (R c.S w)) (List.replicate L.toNat ((z.cells.toList.map ofCell).map (clo fun _=>none))) (List.replicate L.toNat z.cells.toList):=⟨by simp,fun j x y hx hy=>by
      have hx:=List.eq_of_mem_replicate (List.mem_of_getElem? hx)
      have hy:=List.eq_of_mem_replicate (List.mem_of_getElem? hy)
      subst hx hy
      exact hcell⟩
     have hfl:((List.replicate L.toNat z.cells.toList).flatten).length=L.toNat*esz:=by
      have:=made_flat hzs hpos L.toNat
      rw[←this,Array.length_toList,size_madeCells]
     have hown:(w.alloc (.cells (madeCells z.cells (C.toNat*ie.size)) e)).ownsRow w.heap.size e esz (.slice (some ⟨w.heap.size,0,none⟩) L.toNat C.toNat) L.toNat (List.replicate L.toNat z.cells.toList).flatten:=by
      refine⟨hfl,.inr ⟨w.heap.size,C.toNat,_,rfl,Nat.le_refl _,heap_alloc_new w _,by omega,by unfold maxLen;omega,by rw[size_madeCells,hsz],?_⟩⟩
      rw[hsz,made_flat hzs hpos,take_flat (sz:=esz) L.toNat (fun u hu=>by rw[List.eq_of_mem_replicate hu];simpa using hzs),List.take_replicate,Nat.min_eq_left (by omega)]
     obtain⟨g,r1,r2⟩:=h2.rows (xs:=List.replicate L.toNat ((z.cells.toList.map ofCell).map (clo fun _=>none))) hm (e:=e) (sz:=esz) ((Below.refl _ _).alloc (Nat.le_refl _) _) (fun us hu=>by rw[List.eq_of_mem_replicate hu];simpa using hzs) hpos (by rw[hlen];omega) hF (by rw[hlen];exact hown)
     rw[hlen]at r2
     have hr:(execOp a.eval o).run P w=.ok (.value (.slice (some ⟨w.heap.size,0,none⟩) L.toNat C.toNat)) (w.alloc (.cells (madeCells z.cells (C.toNat*ie.size)) e)):=by
      simp[execOp,ho,vl,vk,hrun]
     refine wpo_run (hr) rfl ?_
     rw[mrg_one (b:=some (.rows e esz (List.replicate L.toNat ((z.cells.toList.map ofCell).map (clo fun _=>none))))) rfl]at h4
     exact h4 _ _ _ g r1 r2
   ·exact OpOK.bad
  ·exact OpOK.bad
 ·exact OpOK.bad
theorem run_copy_rows {dT sT ty elem:TypeId}{ie:TypeInfo}{g dLen dCap:Nat}{ad:Addr}{sLen sCap:Nat}{cur:Array Value}{t:TypeId}{cs:List Value}(hu:P.underlying dT=some (.slice elem))(hs:P.info? elem=some ie)(hg:w.heap[g]?=some (.cells cur t (0,0)))(hn:cs.length=Nat.min sLen dLen*ie.size)(hsrc:∀j v,cs[j]?=some v→w.cell? (ad.add j)=some v)(hfit:cs.length≤cur.size)(h1:∀v∈cs,v.oneCell'=true):(Builtin.copy_ #[dT,sT] ty #[.slice (some ⟨g,0,none⟩) dLen dCap,.slice (some ad) sLen sCap]).run P w=.ok (goInt (Nat.min sLen dLen)) (w.setRow g (cs++cur.toList.drop cs.length).toArray):=by
 have hl:=run_loadCells_list (P:=P) w ad cs hsrc
 have hst:=run_storeCells_at P g 0 t cs 0 cur w hg (by simpa using hfit) h1
 simp only[Nat.zero_add,List.take_zero,List.nil_append]at hst
 rw[hn]at hl
 simp[Builtin.copy_,run_underlying hu,Builtin.lenOf,Builtin.firstCells,sizeOf,typeInfo,hs,hl,hst]
theorem run_copy_zero {dT sT ty elem:TypeId}{ie:TypeInfo}{d ad:Option Addr}{dLen dCap sLen sCap:Nat}(hu:P.underlying dT=some (.slice elem))(hs:P.info? elem=some ie)(hn:Nat.min sLen dLen=0):(Builtin.copy_ #[dT,sT] ty #[.slice d dLen dCap,.slice ad sLen sCap]).run P w=.ok (goInt 0) w:=by
 have hl:∀(x:Addr),(loadCells x 0).run P w=.ok #[] w:=fun x=>by simpa using run_loadCells_list (P:=P) w x [] (by simp)
 cases d<;>cases ad<;>simp[Builtin.copy_,run_underlying hu,Builtin.lenOf,Builtin.firstCells,sizeOf,typeInfo,hs,hn,storeCells,hl]
theorem nmin (a b:Nat):Nat.min a b=if a≤b then a else b:=Nat.min_def ..
theorem copy_ok {o:Oper}{T T':TypeId}{s x:Operand}(ho:o.op=.call {callee:=.builtin .copy,args:=#[s,x],argTypes:=#[T,T']}):OpOK P o σ (rCopy P T (ev σ s) (ev σ x)):=by
 have hex:∀{a:Act} {w w':World} {v:Value},(Builtin.copy_ #[T,T'] o.type #[a.eval s,a.eval x]).run P w=.ok v w'→(execOp a.eval o).run P w=.ok (.value v) w':=fun {a w w' v} h=>by
  simp[execOp,ho,resolve,invoke,builtin,h]
 unfold rCopy
 split
 ·rename_i s1 s2 s3 s4 e0 esz ht
  obtain⟨hd,ie,z,hie,hz,hsz,hby,hzs,hpos,hz1⟩:=slice_shape ht
  split
  ·rename_i id n hs
   intro ro base S0 w0 c a w K Q h1 h2 h3 h4
   simp only[Req.eff,Req.mem,cond_true]at h3 h4
   generalize hids:ownIds (ev σ x).cells=ids at h3 h4
   have hin:only (id::ids) σ.m id=σ.m id:=only_in (List.mem_cons_self ..)
   obtain⟨so1,so2⟩:=src_only (ids:=id::ids) (m:=σ.m) (x:=ev σ x) (fun i hi=>by rw[hids]at hi;exact List.mem_cons_of_mem _ hi)
   rw[hin]at h3 h4
   rw[so1]at h3 h4
   split at h3
   ·rename_i e sz xs hm
    simp only[hm]at h4
    split at h3
    ·rename_i ys hy
     simp only[hy]at h4
     obtain⟨rfl,e4,e5,e6,e7⟩:=h3
     rw[mrg_id e6]at h4
     obtain⟨v1,ad0,cap0,v2⟩:=own_val h1 hs hm e4
     obtain⟨p1,p2,p3,p4,vss,p5,p6⟩:=h2.blk id _ hm
     have hsrc:=src_ok h2 (ev_ok h1 x) hy (so2.1 e5) e7
     have hvl:vss.length=xs.length:=p5.1.symm
     have hszv:∀u∈vss,u.length=sz:=(flat_ok p5 p1).1
     have hyslen:ys.length≤maxLen:=by
      rcases hsrc with⟨_,f⟩|⟨ad,cap,tss,f1,f2,f3⟩
      ·simp[f]
      ·have hv:=ev_ok h1 x
       generalize hq:ev σ x=q at hv hy
       unfold srcOf at hy
       split at hy
       ·cases hy;obtain⟨_,_,_,q1,q2⟩:=R.slice hv;omega
       ·cases hy;obtain⟨_,_,hv⟩:=hv;obtain⟨_,_,_,q1,q2⟩:=R.slice hv;omega
       ·cases hy;simp
       ·cases hy;simp
       ·obtain⟨_,L,hL,hn,hq⟩:=hv
        have hr:=rowLen_le h2 hL
        split at hy
        ·rename_i hm2;cases hy;simp only[rowLen,hm2,Option.some.injEq]at hL;omega
        ·rename_i hm2;cases hy;simp only[rowLen,hm2,Option.some.injEq]at hL;omega
        ·rename_i hm2;cases hy;simp only[rowLen,hm2,Option.some.injEq]at hL;omega
        ·simp at hy
       ·simp at hy
     have hnum:okV (.int .i64 ((Nat.min ys.length n:Nat):Int))=true:=okLen (Nat.le_trans (Nat.min_le_left _ _) hyslen)
     by_cases h0:Nat.min ys.length n=0
     ·-- nothing goes over
      have hsame:ys.take xs.length++xs.drop ys.length=xs:=by
       rcases Nat.eq_zero_or_pos ys.length with hy0|hy0
       ·have:ys=[]:=List.eq_nil_of_length_eq_zero hy0
        subst this;simp
       ·have:xs.length=0:=by
         have:Nat.min ys.length n=0:=h0
         rw[nmin]at this
         split at this<;>omega
        have:xs=[]:=List.eq_nil_of_length_eq_zero this
        subst this;simp
      have hrun:(Builtin.copy_ #[T,T'] o.type #[a.eval s,a.eval x]).run P w=.ok (goInt 0) w:=by
       rw[v1,v2,e4]
       rcases hsrc with⟨f1,f2⟩|⟨ad,cap,tss,f1,_⟩
       ·rw[f1];exact run_copy_zero hd hie (by simp)
       ·rw[f1];exact run_copy_zero hd hie h0
      rw[hsame]at h4
      have hmm:upd σ.m id (some (.rows e sz xs))=σ.m:=by
       funext i
       by_cases hi:i=id
       ·subst hi;rw[upd_same,hm]
       ·rw[upd_ne _ _ hi]
      rw[hmm]at h4
      refine wpo_run (hex hrun) rfl ?_
      refine h4 _ _ _ (Goes.refl _ _ _) h2 ?_
      rw[h0]
      exact R.v rfl
     ·rcases hsrc with⟨f1,f2⟩|⟨ad,cap,tss,f1,f2,f3⟩
      ·subst f2;simp at h0
      ·rcases p6.2 with⟨_,g0⟩|⟨g,gcap,cur,g1,g2,g3,g4,g5,g6,g7⟩
       ·rw[nmin]at h0
        split at h0<;>omega
       ·obtain⟨k1,k2,k3⟩:=flat_ok f2 e7
        have hmin:Nat.min ys.length n≤ys.length∧Nat.min ys.length n≤n:=⟨Nat.min_le_left _ _,Nat.min_le_right _ _⟩
        generalize hq:Nat.min ys.length n=q at h0 hmin hnum h4
        have hcs:(tss.flatten.take (q*sz)).length=q*sz:=by
         rw[List.length_take,k2,Nat.min_eq_left (Nat.mul_le_mul_right _ hmin.1)]
        have hrun:(Builtin.copy_ #[T,T'] o.type #[a.eval s,a.eval x]).run P w=.ok (goInt q) (w.setRow g (tss.flatten.take (q*sz)++cur.toList.drop (q*sz)).toArray):=by
         rw[v1,g1,f1,e4]
         have:=run_copy_rows (P:=P) (w:=w) (sT:=T') (ty:=o.type) (ad:=ad) (dLen:=n) (dCap:=gcap) (sLen:=ys.length) (sCap:=cap) (cs:=tss.flatten.take (q*sz)) hd hie g3 (by rw[hcs,hq,hsz]) (fun j v hj=>f3 j v (by rw[List.getElem?_take]at hj;split at hj<;>simp_all)) (by rw[hcs,g6];exact Nat.mul_le_mul_right _ (by omega)) (fun v hv=>k3 v (List.mem_of_mem_take hv))
         rw[hq,hcs]at this
         exact this
        have htss:tss.length=ys.length:=f2.1.symm
        have hnew:ys.take xs.length++xs.drop ys.length=ys.take q++xs.drop q:=by
         rw[nmin]at hq
         split at hq
         ·subst hq;rw[List.take_of_length_le (by omega),List.take_of_length_le (by omega)]
         ·subst hq;rw[e4,List.drop_of_length_le (by omega),List.drop_of_length_le (by omega)]
        rw[hnew]at h4
        have hl:(ys.take q++xs.drop q).length=xs.length:=by simp;omega
        have hflat:(tss.take q++vss.drop q).flatten=tss.flatten.take (q*sz)++vss.flatten.drop (q*sz):=by
         rw[List.flatten_append,take_flat q k1,drop_flat q hszv]
        have hgb:w.grownBy (w.setRow g (tss.flatten.take (q*sz)++cur.toList.drop (q*sz)).toArray) (c.ψ id).ownBlock:=by
         refine⟨rfl,rfl,rfl,by rw[setRow_size];exact Nat.le_refl _,fun k _ hk=>setRow_other w g k _ fun e=>hk ?_⟩
         rw[g1,e];rfl
        have hown:(w.setRow g (tss.flatten.take (q*sz)++cur.toList.drop (q*sz)).toArray).ownsRow base e sz (c.ψ id) (ys.take q++xs.drop q).length (tss.take q++vss.drop q).flatten:=by
         rw[hflat,hl]
         have hp6:=p6.1
         have hqx:q*sz≤xs.length*sz:=Nat.mul_le_mul_right _ (by omega)
         refine⟨by rw[List.length_append,hcs,List.length_drop,hp6];omega,.inr ⟨g,gcap,_,g1,g2,setRow_heap w g cur _ _ _ g3,g4,g5,?_,?_⟩⟩
         ·have hq2:q*sz≤gcap*sz:=Nat.mul_le_mul_right _ (by omega)
          simp only[List.size_toArray,List.length_append,hcs,List.length_drop,Array.length_toList,g6]
          omega
         ·rw[←g7]
          simp only[]
          rw[List.take_append,hcs,List.take_of_length_le (by rw[hcs];exact hqx),List.take_drop,Nat.add_sub_cancel' hqx]
        obtain⟨gg,r1,r2⟩:=h2.turn (ys:=ys.take q++xs.drop q) hm hgb (fun k hk=>.inl hk) (by omega) (fun _=>rfl) (fun us hu=>by
         rcases List.mem_append.1 hu with hu|hu
         ·exact e7 us (List.mem_of_mem_take hu)
         ·exact p1 us (List.mem_of_mem_drop hu)) (by omega) ((f2.take q).append (p5.drop q)) hown
        refine wpo_run (hex hrun) rfl ?_
        exact h4 _ _ _ gg r1 (R.v hnum)
    ·exact h3.elim
   ·exact h3.elim
  ·exact OpOK.bad
 ·exact OpOK.bad
theorem clo_only {ids:List Nat}{m:Mem}{x:A}(h:∀i∈ownIds [x],i∈ids):clo (only ids m) x=clo m x∧(cloOK (only ids m) x↔cloOK m x):=by
 cases x with
 |own id n=>have:only ids m id=m id:=only_in (h id (by simp[ownIds]));simp[clo,cloOK,this]
 |mp id=>have:only ids m id=m id:=only_in (h id (by simp[ownIds]));simp[clo,cloOK,this]
 |_=>exact⟨rfl,Iff.rfl⟩
theorem cloL_only {ids:List Nat}{m:Mem}:∀{l:List A},(∀i∈ownIds l,i∈ids)→l.map (clo (only ids m))=l.map (clo m)∧(cloAll (only ids m) l↔cloAll m l):=by
 intro l
 induction l with
 |nil=>intro _;exact⟨rfl,Iff.rfl⟩
 |cons x l ih=>
  intro h
  rw[ownIds_cons]at h
  obtain⟨h1,h2⟩:=clo_only (ids:=ids) (m:=m) (x:=x) fun i hi=>h i (by simp[hi])
  obtain⟨k1,k2⟩:=ih fun i hi=>h i (by simp[hi])
  exact⟨by simp only[List.map_cons];rw[h1,k1],by rw[cloAll_cons,cloAll_cons,h2,k2]⟩
theorem take_splice {α:Type}{cs us:List α}{o k:Nat}(h:o+us.length≤k)(hk:k≤cs.length):(splice cs o us).take k=splice (cs.take k) o us:=by
 have hA:(cs.take o++us).length=o+us.length:=by simp;omega
 simp only[splice]
 rw[List.take_append,hA,List.take_of_length_le (by rw[hA];omega),List.drop_take,List.take_take,Nat.min_eq_left (by omega)]
theorem storeEl_ok {o:Oper}{T:TypeId}{x u:Operand}(ho:o.op=.store T x u)(id n i off:Nat)(hx:ev σ x=.one (.pel id n i off)):OpOK P o σ (rStore P T (.one (.pel id n i off)) (ev σ u)):=by
 unfold rStore
 cases ht:tinfo P T with
 |none=>exact OpOK.bad
 |some ti=>
  obtain⟨ii,d,z,hi,hd,hz,_,rfl⟩:=tinfo_is ht
  simp only
  intro ro base S0 w0 c a w K Q h1 h2 h3 h4
  simp only[Req.eff,Req.mem,cond_true]at h3 h4
  generalize hids:ownIds (ev σ u).cells=ids at h3 h4
  have hin:only (id::ids) σ.m id=σ.m id:=only_in (List.mem_cons_self ..)
  have hcl:=cloL_only (ids:=id::ids) (m:=σ.m) (l:=(ev σ u).cells) (fun j hj=>by rw[hids]at hj;exact List.mem_cons_of_mem _ hj)
  have hcl2:=cloL_only (ids:=ids) (m:=σ.m) (l:=(ev σ u).cells) (fun j hj=>by rw[hids]at hj;exact hj)
  rw[hin]at h3 h4
  split at h3
  ·rename_i e sz xs hm
   simp only[hm]at h4
   obtain⟨e1,e2,e3,e4,e5,e6,e7⟩:=h3
   rw[hcl.1,←hcl2.1]at h4
   rw[hcl.2,←hcl2.2]at e6
   have hv:=ev_ok h1 x
   rw[hx]at hv
   obtain⟨_,L,hL,hn,hq⟩:=hv
   have hL':xs.length=L:=by simpa[rowLen,hm]using hL
   obtain⟨g,cap,q1,q2⟩:=hq (by omega) e sz xs (rowsOf_rows hm)
   obtain⟨c1,g1,r1⟩:=freezes ids h2
   have hm1:mrg ids (frz σ.m) σ.m id=some (.rows e sz xs):=by unfold mrg;rw[e7];exact hm
   have hpsi:c1.ψ id=c.ψ id:=by
    obtain⟨L',k1,k2,k3⟩:=g1.rows id L hL
    have:L=L':=by
     have:xs.length=L':=by simpa[rowLen,hm1]using k1
     omega
    exact(k3 this).1
   obtain⟨ts,t1,t2⟩:=cellsOf_ok ((ev_ok h1 u).goes g1) e1
   have t3:=cloCells_ok r1 t2 e6 (fun j hj=>by rw[hids]at hj;exact hj)
   obtain⟨p1,p2,p3,p4,vss,p5,p6⟩:=r1.blk id _ hm1
   have hszv:∀u∈vss,u.length=sz:=(flat_ok p5 p1).1
   have hil:i<xs.length:=by omega
   have hxi:xs[i]?=some (xs.getD i []):=by simp[List.getD,hil]
   obtain⟨vs,hvs,hvq⟩:=p5.get hxi
   have htl:ts.length=ii.size:=by rw[←t2.1];exact e2
   rcases p6.2 with⟨_,g0⟩|⟨g',gcap,cur,f1,f2,f3,f4,f5,f6,f7⟩
   ·omega
   ·rw[hpsi,q1]at f1
    simp only[Value.slice.injEq,Option.some.injEq,Addr.mk.injEq,and_true]at f1
    obtain⟨rfl,_,rfl⟩:=f1
    have hmul:i*sz+sz≤n*sz:=by rw[←Nat.succ_mul];exact Nat.mul_le_mul_right _ (by omega)
    have hmul2:n*sz≤cap*sz:=Nat.mul_le_mul_right _ (by omega)
    have hst:=run_storeCells_at P g (i*sz+off) e ts 0 cur w f3 (by rw[f6];omega) (fun v hv=>by
     obtain⟨j,hj,rfl⟩:=List.getElem_of_mem hv
     obtain⟨xx,_,hq⟩:=t2.get' (List.getElem?_eq_getElem hj)
     exact VA.one hq)
    simp only[Nat.add_zero]at hst
    have hr:(execOp a.eval o).run P w=.ok .skip (w.setRow g (splice cur.toList (i*sz+off) ts).toArray):=by
     simp[execOp,ho,Instr.storeAt,Instr.sureAddr,q2,storeVar,t1,run_sizeOf hi,htl,hst]
     simp[splice,htl]
    have hsp:F2 (R c1.S w) (splice (xs.getD i []) off ((ev σ u).cells.map (clo (only ids σ.m)))) (splice vs off ts):=splice_ok hvq t3 off
    have hrow:(bif off==0&&ii.size==sz then(ev σ u).cells.map (clo (only ids σ.m))else splice (xs.getD i []) off ((ev σ u).cells.map (clo (only ids σ.m))))=splice (xs.getD i []) off ((ev σ u).cells.map (clo (only ids σ.m))):=by
     cases hb:(off==0&&ii.size==sz)with
     |false=>rfl
     |true=>
      simp only[Bool.and_eq_true,beq_iff_eq]at hb
      obtain⟨rfl,hb⟩:=hb
      have:(xs.getD i []).length=sz:=p1 _ (List.mem_of_getElem? hxi)
      simp only[cond_true,splice,List.take_zero,List.nil_append,Nat.zero_add]
      rw[List.drop_of_length_le (by rw[List.length_map,e2];omega),List.append_nil]
    rw[hrow]at h4
    have hvl:(splice vs off ts).length=sz:=by
     have:=hszv vs (List.mem_of_getElem? hvs)
     simp[splice];omega
    have hown:(w.setRow g (splice cur.toList (i*sz+off) ts).toArray).ownsRow base e sz (c1.ψ id) (xs.set i (splice (xs.getD i []) off ((ev σ u).cells.map (clo (only ids σ.m))))).length (vss.set i (splice vs off ts)).flatten:=by
     rw[set_flat (by omega) hszv hvs,List.length_set]
     have hp6:=p6.1
     have hfl:i*sz+off+ts.length≤xs.length*sz:=by rw[e3];omega
     refine⟨by simp[splice,hp6];omega,.inr ⟨g,cap,_,by rw[hpsi,q1,e3],f2,setRow_heap w g cur _ _ _ f3,by omega,f5,by simp[splice,f6];omega,?_⟩⟩
     rw[←f7]
     exact take_splice (by omega) (by rw[show cur.toList.length=cap*sz by simpa using f6,e3];omega)
    have hgb:w.grownBy (w.setRow g (splice cur.toList (i*sz+off) ts).toArray) (c1.ψ id).ownBlock:=by
     refine⟨rfl,rfl,rfl,by rw[setRow_size];exact Nat.le_refl _,fun k _ hk=>setRow_other w g k _ fun e=>hk ?_⟩
     rw[hpsi,q1,e];rfl
    obtain⟨gg,r2,r3⟩:=r1.turn (ys:=xs.set i (splice (xs.getD i []) off ((ev σ u).cells.map (clo (only ids σ.m))))) hm1 hgb (fun k hk=>.inl hk) (by simp) (fun _=>rfl) (fun us hu=>by
     rcases List.mem_or_eq_of_mem_set hu with hu|rfl
     ·exact p1 us hu
     ·rw[hsp.1];exact hvl) (by rw[List.length_set];exact p3) (p5.set hsp i) hown
    refine wpo_run (hr) rfl ?_
    rw[hpsi]at gg r2
    have hcc:({c1 with ψ:=upd c1.ψ id (c.ψ id)}:Ctx)=c1:=by
     have:upd c1.ψ id (c.ψ id)=c1.ψ:=by
      funext k
      by_cases hk:k=id
      ·subst hk;rw[upd_same,hpsi]
      ·rw[upd_ne _ _ hk]
     rw[this]
    rw[hcc]at gg r2
    have hmc:mrg (id::ids) (fun j=>bif j==id then some (.rows e sz (xs.set i (splice (xs.getD i []) off ((ev σ u).cells.map (clo (only ids σ.m))))))else frz (only (id::ids) σ.m) j) σ.m=upd (mrg ids (frz σ.m) σ.m) id (some (.rows e sz (xs.set i (splice (xs.getD i []) off ((ev σ u).cells.map (clo (only ids σ.m))))))):=mrg_cons
    rw[hmc]at h4
    exact h4 _ _ undef (g1.trans gg) r2 trivial
  ·exact h3.elim
theorem storeOpen_ok {o:Oper}{T:TypeId}{x u:Operand}(ho:o.op=.store T x u)(x0:Value)(hx:ev σ x=.one (.c (.v x0))):OpOK P o σ (rStore P T (.one (.c (.v x0))) (ev σ u)):=by
 unfold rStore
 cases ht:tinfo P T with
 |none=>exact OpOK.bad
 |some ti=>
  obtain⟨ii,d,z,hi,hd,hz,_,rfl⟩:=tinfo_is ht
  simp only
  cases hraw:rawP x0 with
  |none=>exact OpOK.bad
  |some pp=>
  obtain⟨b,off⟩:=pp
  simp only
  intro ro base S0 w0 c a w K Q h1 h2 h3 h4
  simp only[Req.eff,Req.mem,cond_true]at h3 h4
  generalize hid:1000000+b=id at h3 h4
  generalize hids:ownIds (ev σ u).cells=ids at h3 h4
  have hin:only (id::ids) σ.m id=σ.m id:=only_in (List.mem_cons_self ..)
  have hcl:=cloL_only (ids:=id::ids) (m:=σ.m) (l:=(ev σ u).cells) (fun j hj=>by rw[hids]at hj;exact List.mem_cons_of_mem _ hj)
  have hcl2:=cloL_only (ids:=ids) (m:=σ.m) (l:=(ev σ u).cells) (fun j hj=>by rw[hids]at hj;exact hj)
  rw[hin]at h3 h4
  split at h3
  ·rename_i cs hm
   simp only[hm]at h4
   obtain⟨e1,e2,e3,e6,e7⟩:=h3
   rw[hcl.1,←hcl2.1]at h4
   rw[hcl.2,←hcl2.2]at e6
   have hv:=ev_ok h1 x
   rw[hx]at hv
   have hp:a.eval x=.pointer (some ⟨b,off,none⟩):=by rw[R.val hv];exact rawP_eq hraw
   obtain⟨c1,g1,r1⟩:=freezes ids h2
   have hm1:mrg ids (frz σ.m) σ.m id=some (.obox cs):=by unfold mrg;rw[e7];exact hm
   obtain⟨ts,t1,t2⟩:=cellsOf_ok ((ev_ok h1 u).goes g1) e1
   have t3:=cloCells_ok r1 t2 e6 (fun j hj=>by rw[hids]at hj;exact hj)
   obtain⟨p1,p2,p5,vs,TT,p3,p4⟩:=r1.blk id _ hm1
   have hφ:c1.φ id=b:=by rw[←hid]at p5 ⊢;exact Nat.add_left_cancel p5
   have htl:ts.length=ii.size:=by rw[←t2.1];exact e2
   have hst:=run_storeCells_at P (c1.φ id) off TT ts 0 vs.toArray w p3 (by have:=p4.1;have:=t2.1;simp;omega) (fun v hv=>by
    obtain⟨j,hj,rfl⟩:=List.getElem_of_mem hv
    obtain⟨xx,_,hq⟩:=t2.get' (List.getElem?_eq_getElem hj)
    exact VA.one hq)
   obtain⟨g,r2⟩:=r1.setOpen hm1 (splice_ok p4 t3 off)
   have hr:(execOp a.eval o).run P w=.ok .skip (w.setRow (c1.φ id) (splice vs off ts).toArray):=by
    simp only[Nat.add_zero,hφ]at hst
    simp[execOp,ho,Instr.storeAt,Instr.sureAddr,hp,storeVar,t1,run_sizeOf hi,htl,hst]
    simp[splice,htl,hφ]
   refine wpo_run (hr) rfl ?_
   rw[mrg_cons]at h4
   exact h4 _ _ undef (g1.trans g) r2 trivial
  ·exact h3.elim
theorem store_ok {o:Oper}{T:TypeId}{x u:Operand}(ho:o.op=.store T x u):OpOK P o σ (rStore P T (ev σ x) (ev σ u)):=storeBox_ok ho (fun id n i off hx=>storeEl_ok ho id n i off hx) fun x0 hx=>storeOpen_ok ho x0 hx
end
end
section
section
variable {P:Program} {c:Ctx} {w:World} {σ:St} {a:Act} {base:Nat} {S0:Sh} {w0:W0}
theorem clo0_ok {m:Mem}{x:A}{v:Value}(h:VA c w m x v)(hp:plainA x):R c.S w (clo0 x) v:=by
 cases x with
 |c y=>exact h
 |full k xs=>exact h.choose_spec.2
 |el k cs off=>
  obtain⟨b,o,vs,rfl,h1,h2,h3⟩:=h
  exact R.ptr h1 h2.1 h3 h2.2
 |nil=>rw[show v=.slice none 0 0 from h];exact R.nil
 |bare=>obtain⟨_,_,h1,h2⟩:=h;rw[h1];exact R.bare h2
 |_=>exact hp.elim
theorem clo0L_ok {m:Mem}:∀{cs:List A} {vs:List Value},F2 (VA c w m) cs vs→plainL cs→F2 (R c.S w) (cs.map clo0) vs:=by
 intro cs
 induction cs with
 |nil=>intro vs h _;rw[h.unnil];exact F2.nil
 |cons x cs ih=>
  intro vs h hp
  obtain⟨v,vs,rfl,h1,h2⟩:=h.uncons
  exact F2.cons (clo0_ok h1 hp.1) (ih h2 hp.2)
def plainB:Option Blk→Prop
 |some (.box cs)=>plainL cs
 |_=>True
theorem shutB_idem (b:Option Blk):shutB (shutB b)=shutB b:=by
 cases b with
 |none=>rfl
 |some b=>cases b<;>rfl
theorem plain_shut (b:Option Blk):plainB (shutB b):=by
 cases b with
 |none=>trivial
 |some b=>cases b<;>trivial
theorem shut_one {m:Mem}(h:WR base S0 w0 c m w){i:Nat}(hp:plainB (m i)):∃c',Goes c w m c' w (upd m i (shutB (m i)))∧WR base S0 w0 c' (upd m i (shutB (m i))) w:=by
 have same:shutB (m i)=m i→∃c',Goes c w m c' w (upd m i (shutB (m i)))∧WR base S0 w0 c' (upd m i (shutB (m i))) w:=fun e=>by
  have:upd m i (shutB (m i))=m:=by
   funext j
   by_cases hj:j=i
   ·subst hj;rw[upd_same,e]
   ·rw[upd_ne _ _ hj]
  rw[this]
  exact⟨c,Goes.refl _ _ _,h⟩
 cases hm:m i with
 |none=>exact hm▸same (by rw[hm];rfl)
 |some b=>
  cases b with
  |box cs=>
   rw[hm]at hp
   obtain⟨g,r,_⟩:=h.shut hm (ds:=cs.map clo0) fun c' vs hS _ h4=>(clo0L_ok h4 hp).mono fun x y _ h=>h.mono hS fun _ _ _=>rfl
   exact⟨_,g,r⟩
  |_=>exact hm▸same (by rw[hm];rfl)
theorem shuts (ids:List Nat):∀{c:Ctx} {m:Mem},WR base S0 w0 c m w→(∀i∈ids,plainB (m i))→∃c',Goes c w m c' w (mrg ids (fun i=>shutB (m i)) m)∧WR base S0 w0 c' (mrg ids (fun i=>shutB (m i)) m) w:=by
 induction ids with
 |nil=>intro c m h _;exact⟨c,by exact Goes.refl _ _ _,h⟩
 |cons i ids ih=>
  intro c m h hp
  obtain⟨c1,g1,r1⟩:=shut_one h (hp i (by simp))
  obtain⟨c2,g2,r2⟩:=ih r1 fun j hj=>by
   by_cases e:j=i
   ·subst e;rw[upd_same];exact plain_shut _
   ·rw[upd_ne _ _ e];exact hp j (by simp[hj])
  have key:mrg ids (fun j=>shutB (upd m i (shutB (m i)) j)) (upd m i (shutB (m i)))=mrg (i::ids) (fun j=>shutB (m j)) m:=by
   funext j
   by_cases hj:j=i
   ·subst hj
    have h1:upd m j (shutB (m j)) j=shutB (m j):=upd_same _ _ _
    simp only[mrg,hasN,h1,shutB_idem]
    cases hasN ids j<;>simp
   ·have h1:upd m i (shutB (m i)) j=m j:=upd_ne _ _ hj
    have h3:(i==j)=false:=by simpa using fun e=>hj e.symm
    simp only[mrg,hasN,h1,h3,Bool.false_or]
  rw[key]at g2 r2
  exact⟨c2,g1.trans g2,r2⟩
theorem makeFunc_ok {o:Oper}{f:FuncId}{first caps:Array Operand}(ho:o.op=.makeFunc (.func f) first caps):OpOK P o σ (rMakeFunc f (first.toList.map (ev σ)) (caps.toList.map (ev σ))):=by
 intro ro base S0 w0 c a w K Q h1 h2 h3 h4
 unfold rMakeFunc at h3 h4
 simp only[Req.eff,Req.mem,cond_true]at h3 h4
 generalize hids:capIds (caps.toList.map (ev σ))=ids at h3 h4
 obtain⟨hcaps,hfirst⟩:=h3
 have hmm:mrg ids (fun i=>shutB (only ids σ.m i)) σ.m=mrg ids (fun i=>shutB (σ.m i)) σ.m:=by
  funext i
  unfold mrg
  cases h:hasN ids i with
  |false=>rfl
  |true=>simp only[cond_true,only_in (hasN_iff.1 h)]
 rw[hmm]at h4
 -- which boxes are asked of
 have hin:∀(l:List Operand),capsOK (only ids σ.m) (l.map (ev σ))→(∀i∈capIds (l.map (ev σ)),i∈ids)→(∀i∈capIds (l.map (ev σ)),plainB (σ.m i)):=by
  intro l
  induction l with
  |nil=>intro _ _ i hi;simp[capIds]at hi
  |cons x l ih=>
   intro hc hi
   simp only[List.map_cons]at hc hi ⊢
   generalize ev σ x=y at hc hi
   cases y with
   |one z=>
    cases z with
    |ptr id off=>
     have hid:id∈ids:=hi id (by simp[capIds])
     intro i hii
     simp only[capIds,List.mem_cons]at hii
     rcases hii with rfl|hii
     ·have h0:=hc.1
      cases off with
      |zero=>
       simp only[capOK,only_in hid]at h0
       cases hm:σ.m i with
       |none=>trivial
       |some b=>cases b<;>simp_all [plainB]
      |succ n=>exact h0.elim
     ·exact ih hc.2 (fun k hk=>hi k (by simp[capIds,hk])) i hii
    |_=>exact fun i hii=>ih hc.2 (fun k hk=>hi k (by simpa[capIds]using hk)) i (by simpa[capIds]using hii)
   |_=>exact fun i hii=>ih hc.2 (fun k hk=>hi k (by simpa[capIds]using hk)) i (by simpa[capIds]using hii)
 obtain⟨c1,g1,r1⟩:=shuts ids h2 fun i hi=>hin caps.toList hcaps (fun i hi=>by rw[←hids];exact hi) i (by rw[hids];exact hi)
 have hcv:∀(l:List Operand),capsOK (only ids σ.m) (l.map (ev σ))→(∀i∈capIds (l.map (ev σ)),i∈ids)→F2 (R c1.S w) ((l.map (ev σ)).map (capCV (only ids σ.m))) (l.map a.eval):=by
  intro l
  induction l with
  |nil=>intro _ _;exact F2.nil
  |cons x l ih=>
   intro hc hi
   have hv:=(ev_ok h1 x).goes g1
   simp only[List.map_cons]at hc hi ⊢
   refine F2.cons ?_ (ih hc.2 fun k hk=>hi k ?_)
   ·generalize ev σ x=y at hc hi hv
    cases y with
    |one z=>
     cases z with
     |ptr id off=>
      have hid:id∈ids:=hi id (by simp[capIds])
      have h0:=hc.1
      cases off with
      |zero=>
       obtain⟨_,hp⟩:=hv
       simp only[capOK,only_in hid]at h0
       have hm':mrg ids (fun i=>shutB (σ.m i)) σ.m id=shutB (σ.m id):=by simp[mrg,hasN_iff.2 hid]
       have fin:∀ds,shutB (σ.m id)=some (.fbox ds)→R c1.S w (.ptrc 0 ds 0) (a.eval x):=fun ds hd=>by
        obtain⟨p1,vs,p2,p3⟩:=r1.blk id _ (hm'.trans hd)
        rw[hp]
        exact R.ptr p1 p2.1 p3 p2.2
       simp only[capCV,only_in hid]
       cases hm:σ.m id with
       |none=>rw[hm]at h0;exact h0.elim
       |some b=>
        cases b with
        |box cs=>exact fin _ (by rw[hm];rfl)
        |fbox cs=>exact fin _ (by rw[hm];rfl)
        |_=>rw[hm]at h0;exact h0.elim
      |succ n=>exact h0.elim
     |c y=>exact hv
     |_=>exact hc.1.elim
    |_=>exact hc.1.elim
   ·generalize ev σ x=y
    cases y with
    |one z=>cases z<;>simp[capIds,hk]
    |_=>simpa[capIds]using hk
 have hF:=hcv caps.toList hcaps (fun i hi=>by rw[←hids];exact hi)
 have hex:(execOp a.eval o).run P w=.ok (.value (.func (.func f) (first.map a.eval) (caps.map a.eval))) w:=by
  simp[execOp,ho,Instr.makeFunc]
 refine wpo_run (hex) rfl ?_
 refine h4 c1 w _ g1 r1 ?_
 have ec:caps.map a.eval=(caps.toList.map a.eval).toArray:=by rw[←Array.toList_map,Array.toArray_toList]
 have ef:first.map a.eval=(first.toList.map a.eval).toArray:=by rw[←Array.toList_map,Array.toArray_toList]
 rw[ec,ef]
 generalize first.toList=fl at hfirst
 match fl,hfirst with
 | [],_=>exact R.fn (first:=[]) (us:=[]) rfl (fun i x v h=>by simp at h) hF.1 hF.2
 | [x],hfirst=>
  simp only[List.map_cons,List.map_nil]at hfirst ⊢
  have hv:=(ev_ok h1 x).goes g1
  generalize ev σ x=y at hfirst hv
  cases y with
  |agg cs=>
   obtain⟨vs,e1,e2⟩:=hv
   have:=clo0L_ok e2 hfirst
   rw[e1]
   exact R.meth this.1 this.2 hF.1 hF.2
  |one z=>
   cases z with
   |c q=>
    have h0:=F2.cons (show R c1.S w q (a.eval x)from hv) F2.nil
    exact R.fn (first:=[q]) (us:=[a.eval x]) h0.1 h0.2 hF.1 hF.2
   |_=>exact hfirst.elim
  |_=>exact hfirst.elim
 |x::y::l,hfirst=>
  simp only[List.map_cons]at hfirst
  generalize ev σ x=z at hfirst
  cases z with
  |one q=>cases q<;>exact hfirst.elim
  |_=>exact hfirst.elim
theorem fnval_ok {fx:Operand}{f:FuncId}{ag:Bool}{first caps:List CV}(hx:ev σ fx=.one (.c (.fn f ag first caps))){c:Ctx}{w:World}{a:Act}(h1:Tm c w σ a):∃ps qs:List Value,a.eval fx=.func (.func f) ps.toArray qs.toArray∧F2 (RC c.S w) (fnFirst ag first) ps∧F2 (RC c.S w) (caps.map .one) qs:=by
 have hv:=ev_ok h1 fx
 rw[hx]at hv
 have hv:R c.S w (.fn f ag first caps) (a.eval fx):=hv
 generalize a.eval fx=v at hv
 cases hv with
 |fn k1 k2 k3 k4=>exact⟨_,_,rfl,F2.toRC k1 k2,F2.toRC k3 k4⟩
 |meth k1 k2 k3 k4=>exact⟨[_],_,rfl,F2.cons ⟨_,rfl,k1,k2⟩ F2.nil,F2.toRC k3 k4⟩
end
end
end Go.Proofs.YtaoijgapnmmpoaaGreatDoor.Abs
