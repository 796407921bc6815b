/- Texts that were merged: Base, Tabs, Abs, AbsT, AbsO, AbsS, AbsS2. -/
import Derived.Test.YtaoijgapnmmpoaaGreatDoorRows
import Derived.WalkKit
import Derived.ProofKit
import Derived.Below
import Derived.BigQuiet
import Derived.Deep.QuietTactic
import Derived.Lib.Hide
import Derived.Outline
import Derived.WalkSmall
import Derived.Deep.Draws
import Derived.Laws.CopyOwn
import Derived.WalkSpells
import Derived.Laws.AppendOwnNone
import Derived.OrdersIn
set_option linter.unusedSimpArgs false
set_option linter.unusedVariables false
set_option maxRecDepth 100000
section
namespace Go.Proofs.YtaoijgapnmmpoaaGreatDoor
open Go.RowKit
def Reads (w w':World):Prop:=∃q,w'=w.drewN q
theorem Reads.refl (w:World):Reads w w:=⟨0,rfl⟩
theorem Reads.drewN {w w':World}(h:Reads w w')(n:Nat):Reads w (w'.drewN n):=by
 obtain⟨q,rfl⟩:=h
 exact⟨q+n,World.drewN_drewN _ _ _⟩
theorem Reads.drew {w w':World}(h:Reads w w'):Reads w w'.drew:=h.drewN 1
theorem Reads.trans {w w' w'':World}(h:Reads w w')(k:Reads w' w''):Reads w w'':=by
 obtain⟨q,rfl⟩:=k
 exact h.drewN q
theorem Reads.below {w w':World}(h:Reads w w')(B:Nat):Below B w w':=by
 obtain⟨q,rfl⟩:=h
 exact below_drewN (Below.refl _ _) q
theorem lt_of_cell {w:World}{p:Addr}{v:Value}(h:w.cell? p=some v):p.block<w.heap.size:=World.block_lt_of_cell? (w:=w) (a:=p) h
theorem add_row (b off i:Nat):(⟨b,off,none⟩:Addr).add i=⟨b,off+i,none⟩:=by simp[Addr.add]
def Ints (k:IntKind)(w:World)(v:Value)(zs:List Int):Prop:=
 (v=.slice none 0 0∧zs=[])∨∃x c,v=.slice (some x) zs.length c∧zs.length≤c∧c≤maxLen∧∀i,i<zs.length→w.cell? (x.add i)=some (.int k (zs.getD i 0))
theorem Ints.nil (k:IntKind)(w:World):Ints k w (.slice none 0 0) []:=.inl ⟨rfl,rfl⟩
theorem Ints.row {k:IntKind}{w:World}{b off n c:Nat}{zs:List Int}(hn:zs.length=n)(hl:n≤c)(hm:c≤maxLen)(hc:∀i,i<n→w.cell? ⟨b,off+i,none⟩=some (.int k (zs.getD i 0))):Ints k w (.slice (some ⟨b,off,none⟩) n c) zs:=by
 subst hn
 exact .inr ⟨⟨b,off,none⟩,c,rfl,hl,hm,fun i hi=>by rw[add_row];exact hc i hi⟩
theorem Ints.none {k:IntKind}{w:World}{x:Addr}{c:Nat}(hm:c≤maxLen):Ints k w (.slice (some x) 0 c) []:=.inr ⟨x,c,rfl,Nat.zero_le _,hm,fun _ hi=>absurd hi (Nat.not_lt_zero _)⟩
theorem Ints.form {k:IntKind}{w:World}{v:Value}{zs:List Int}(h:Ints k w v zs):∃a c,v=.slice a zs.length c:=by
 rcases h with⟨rfl,rfl⟩|⟨x,c,rfl,_⟩
 ·exact⟨_,0,rfl⟩
 ·exact⟨_,c,rfl⟩
theorem Ints.cells {k:IntKind}{w:World}{v:Value}{zs:List Int}(h:Ints k w v zs)(hz:zs≠[]):∃b off c,v=.slice (some ⟨b,off,.none⟩) zs.length c∧zs.length≤c∧c≤maxLen∧∀i,i<zs.length→w.cell? ⟨b,off+i,.none⟩=some (.int k (zs.getD i 0)):=by
 rcases h with⟨rfl,rfl⟩|⟨x,c,rfl,hl,hm,hc⟩
 ·exact absurd rfl hz
 ·have h0:=hc 0 (List.length_pos_iff.2 hz)
  obtain⟨b,off,spot⟩:=x
  have hspot:spot=.none:=by simpa[Addr.add]using World.cell?_spot h0
  subst hspot
  exact⟨b,off,c,rfl,hl,hm,fun i hi=>by rw[←add_row];exact hc i hi⟩
theorem Ints.len {k:IntKind}{w:World}{v:Value}{zs:List Int}(h:Ints k w v zs):zs.length≤9223372036854775807:=by
 rcases h with⟨rfl,rfl⟩|⟨x,c,rfl,hl,hm,_⟩
 ·simp
 ·unfold maxLen at hm;omega
theorem Ints.reads {k:IntKind}{w w':World}{v:Value}{zs:List Int}(h:Ints k w v zs)(r:Reads w w'):Ints k w' v zs:=by
 obtain⟨q,rfl⟩:=r
 exact h
theorem Ints.below {k:IntKind}{w w':World}{v:Value}{zs:List Int}(h:Ints k w v zs)(hb:Below w.heap.size w w'):Ints k w' v zs:=by
 rcases h with h|⟨x,c,rfl,hl,hm,hc⟩
 ·exact .inl h
 ·exact .inr ⟨x,c,rfl,hl,hm,fun i hi=>(hb.cell (p:=x.add i) (lt_of_cell (hc i hi))).trans (hc i hi)⟩
theorem Ints.alloc {k:IntKind}{w:World}{v:Value}{zs:List Int}(h:Ints k w v zs)(o:Obj):Ints k (w.alloc o) v zs:=h.below ((Below.refl _ _).alloc (Nat.le_refl _) o)
theorem small (n:Nat)(h:n≤1073741824):n≤maxLen:=by unfold maxLen;omega
def From (B:Nat)(v:Value):Prop:=∀a n c,v=.slice (some a) n c→B≤a.block
theorem From.mono {B B':Nat}{v:Value}(h:From B v)(hB:B'≤B):From B' v:=fun a n c e=>Nat.le_trans hB (h a n c e)
theorem From.nil (B:Nat)(n c:Nat):From B (.slice none n c):=fun a n c e=>by simp at e
theorem From.some {B g off:Nat}{n c:Nat}(h:B≤g):From B (.slice (some ⟨g,off,none⟩) n c):=fun a n c e=>by
 simp at e;rw[←e.1];exact h
def Typed (T:TypeId)(w:World)(u:Value):Prop:=∀a n c,u=.slice (some a) n c→∃arr fz,w.heap[a.block]?=some (.cells arr T fz)
theorem Typed.nil (T:TypeId)(w:World)(n c:Nat):Typed T w (.slice none n c):=fun a n' c' e=>by simp at e
theorem Typed.below {T:TypeId}{w w':World}{u:Value}(h:Typed T w u)(hb:Below w.heap.size w w'):Typed T w' u:=by
 intro a n c e
 obtain⟨arr,fz,hh⟩:=h a n c e
 refine⟨arr,fz,?_⟩
 rw[hb.block a.block (Array.getElem?_eq_some_iff.1 hh).1];exact hh
theorem Typed.reads {T:TypeId}{w w':World}{u:Value}(h:Typed T w u)(hr:Reads w w'):Typed T w' u:=h.below (hr.below _)
theorem Typed.new {T:TypeId}{w:World}{arr:Array Value}{fz:Nat×Nat}{g n c:Nat}(h:w.heap[g]?=some (.cells arr T fz)):Typed T w (.slice (some ⟨g,0,none⟩) n c):=by
 intro a n' c' e
 simp at e
 obtain⟨rfl,_⟩:=e
 exact⟨arr,fz,h⟩
theorem Typed.owns {T:TypeId}{w:World}{v:Value}{base size n:Nat}{xs:List Value}(h:w.ownsRow base T size v n xs):Typed T w v:=by
 rcases h.2 with⟨rfl,_⟩|⟨g,cap,cur,rfl,_,hg,_⟩
 ·exact Typed.nil _ _ _ _
 ·exact Typed.new hg
theorem heap_old (w:World)(o:Obj){k:Nat}(hk:k<w.heap.size):(w.alloc o).heap[k]?=w.heap[k]?:=((Below.refl _ _).alloc (Nat.le_refl _) o).block k hk
theorem block_lt {w:World}{g:Nat}{o:Obj}(h:w.heap[g]?=some o):g<w.heap.size:=(Array.getElem?_eq_some_iff.1 h).1
end Go.Proofs.YtaoijgapnmmpoaaGreatDoor
end
section
namespace Go.Proofs.YtaoijgapnmmpoaaGreatDoor.Abs
open Go
def tabsV:Nat→Option (List Value)
 |0=>some [.int .u32 0,.int .u32 56,.int .u32 64,.int .u32 64,.int .u32 64,.int .u32 64,.int .u32 92,.int .u32 220,.int .u32 196,.int .u32 68]
 |_=>none
end Go.Proofs.YtaoijgapnmmpoaaGreatDoor.Abs
end
namespace Go.Proofs.YtaoijgapnmmpoaaGreatDoor.Abs
open Go.RowKit
section
inductive CV where
 |v (x:Value)
 |rowc (k:Nat) (xs:List (List CV))
 |ptrc (k:Nat) (cs:List CV) (off:Nat)
 |fn (f:FuncId) (agg:Bool) (first caps:List CV)
 |mapc (agg:Bool) (ks:List Value) (xs:List (List CV))
@[match_pattern] abbrev CV.row (xs:List (List CV)):CV:=.rowc 0 xs
inductive CA where
 |one (x:CV)
 |agg (cs:List CV)
 |nil
inductive A where
 |c (x:CV)
 |ptr (id off:Nat)
 |own (id n:Nat)
 |el (k:Nat) (cs:List CV) (off:Nat)
 |pel (id n i off:Nat)
 |full (k:Nat) (xs:List (List CV))
 |mp (id:Nat)
 |nil
 |bare
 |any
inductive AV where
 |one (a:A)
 |agg (cs:List A)
 |tup (rs:List CA)
 |tupo (rs:List (Bool×List A))
 |junk
structure Rec where
 fn:FuncId
 n:Nat
 t:Nat→AV
 ps:Array Tmp
 assign:Code
 body:Code
 pend:Option Code
inductive OC where
 |cells (cs:List CV)
 |loop (r:Rec)
inductive Blk where
 |box (cs:List A)
 |rows (e:TypeId) (sz:Nat) (xs:List (List CV))
 |froz (xs:List (List CV))
 |gone (L:Nat)
 |lent (k:Nat) (e:TypeId) (sz:Nat) (xs:List (List CV))
 |fbox (cs:List CV)
 |obox (cs:List CV)
 |orec (r:Rec)
 |mapb (agg:Bool) (ks:List Value) (xs:List (List CV))
 |fmap (agg:Bool) (ks:List Value) (xs:List (List CV))
def inK:IntKind→Int→Bool
 | .i8,n=>decide (-128≤n)&&decide (n≤127)
 | .i16,n=>decide (-32768≤n)&&decide (n≤32767)
 | .i32,n=>decide (-2147483648≤n)&&decide (n≤2147483647)
 | .i64,n=>decide (-9223372036854775808≤n)&&decide (n≤9223372036854775807)
 | .u8,n=>decide (0≤n)&&decide (n≤255)
 | .u16,n=>decide (0≤n)&&decide (n≤65535)
 | .u32,n=>decide (0≤n)&&decide (n≤4294967295)
 | .u64,n=>decide (0≤n)&&decide (n≤18446744073709551615)
theorem inK_wf {k:IntKind}{n:Int}:inK k n=(Lit.int k n).wf:=by cases k<;>rfl
def okV:Value→Bool
 | .int k n=>inK k n
 | .agg _=>false
 | .tuple _=>false
 |_=>true
theorem okV_one {x:Value}(h:okV x=true):x.oneCell'=true:=by cases x<;>first|rfl|(simp[okV]at h)
def F2 {α β:Type}(Q:α→β→Prop)(xs:List α)(ys:List β):Prop:=xs.length=ys.length∧∀(i:Nat) (x:α) (y:β),xs[i]?=some x→ys[i]?=some y→Q x y
section
variable {α β:Type} {Q Q':α→β→Prop}
theorem F2.nil:F2 Q [] []:=⟨rfl,fun i x y h=>by simp at h⟩
theorem F2.cons {x:α}{y:β}{xs:List α}{ys:List β}(h:Q x y)(k:F2 Q xs ys):F2 Q (x::xs) (y::ys):=⟨by simp[k.1],fun i a b ha hb=>by
 cases i with
 |zero=>simp at ha hb;subst ha hb;exact h
 |succ i=>exact k.2 i a b (by simpa using ha) (by simpa using hb)⟩
theorem F2.uncons {x:α}{xs:List α}{ys:List β}(h:F2 Q (x::xs) ys):∃y t,ys=y::t∧Q x y∧F2 Q xs t:=by
 obtain⟨h1,h2⟩:=h
 match ys,h1 with
 |y::t,h1=>exact⟨y,t,rfl,h2 0 x y rfl rfl,by simpa using h1,fun i a b ha hb=>h2 (i+1) a b (by simpa using ha) (by simpa using hb)⟩
theorem F2.unnil {ys:List β}(h:F2 Q ([]:List α) ys):ys=[]:=List.eq_nil_of_length_eq_zero h.1.symm
theorem F2.mono {xs:List α}{ys:List β}(h:F2 Q xs ys)(k:∀x y,x∈xs→Q x y→Q' x y):F2 Q' xs ys:=⟨h.1,fun i x y hx hy=>k x y (List.mem_of_getElem? hx) (h.2 i x y hx hy)⟩
theorem F2.take {xs:List α}{ys:List β}(h:F2 Q xs ys)(n:Nat):F2 Q (xs.take n) (ys.take n):=⟨by simp[h.1],fun i x y hx hy=>by
 rw[List.getElem?_take]at hx hy
 split at hx
 ·rename_i hi;rw[if_pos hi]at hy;exact h.2 i x y hx hy
 ·simp at hx⟩
theorem F2.drop {xs:List α}{ys:List β}(h:F2 Q xs ys)(n:Nat):F2 Q (xs.drop n) (ys.drop n):=⟨by simp[h.1],fun i x y hx hy=>h.2 _ x y (by simpa using hx) (by simpa using hy)⟩
theorem F2.append {xs xs':List α}{ys ys':List β}(h:F2 Q xs ys)(k:F2 Q xs' ys'):F2 Q (xs++xs') (ys++ys'):=⟨by simp[h.1,k.1],fun i x y hx hy=>by
 by_cases hi:i<xs.length
 ·rw[List.getElem?_append_left hi]at hx
  rw[List.getElem?_append_left (h.1▸hi)]at hy
  exact h.2 i x y hx hy
 ·rw[List.getElem?_append_right (by omega)]at hx
  rw[List.getElem?_append_right (by have:=h.1;omega),←h.1]at hy
  exact k.2 _ x y hx hy⟩
theorem F2.get {xs:List α}{ys:List β}(h:F2 Q xs ys){i:Nat}{x:α}(hx:xs[i]?=some x):∃y,ys[i]?=some y∧Q x y:=by
 have hi:i<ys.length:=by rw[←h.1];exact(List.getElem?_eq_some_iff.1 hx).1
 exact⟨ys[i],List.getElem?_eq_getElem hi,h.2 i x _ hx (List.getElem?_eq_getElem hi)⟩
theorem F2.get' {xs:List α}{ys:List β}(h:F2 Q xs ys){i:Nat}{y:β}(hy:ys[i]?=some y):∃x,xs[i]?=some x∧Q x y:=by
 have hi:i<xs.length:=by rw[h.1];exact(List.getElem?_eq_some_iff.1 hy).1
 exact⟨xs[i],List.getElem?_eq_getElem hi,h.2 i _ y (List.getElem?_eq_getElem hi) hy⟩
theorem F2.map_left {γ:Type}{f:γ→α}{xs:List γ}{ys:List β}:F2 Q (xs.map f) ys↔F2 (fun x y=>Q (f x) y) xs ys:=by
 unfold F2
 simp only[List.length_map]
 refine and_congr_right fun _=>⟨fun h i x y hx hy=>h i (f x) y (by simp[hx]) hy,fun h i x y hx hy=>?_⟩
 simp only[List.getElem?_map,Option.map_eq_some_iff]at hx
 obtain⟨z,hz,rfl⟩:=hx
 exact h i z y hz hy
end
def Holds (w:World)(b o:Nat)(us:List Value):Prop:=∀j u,us[j]?=some u→w.cell? ⟨b,o+j,none⟩=some u
theorem Holds.mono {w w':World}{b o:Nat}{us:List Value}(h:Holds w b o us)(k:w'.heap[b]?=w.heap[b]?):Holds w' b o us:=fun j u hj=>(World.cell?_of_block (w:=w) (a:=⟨b,o+j,none⟩) k).trans (h j u hj)
def mkV (agg:Bool)(us:List Value):Value:=bif agg then .agg us.toArray else us.headD undef
structure MapIs (w:World)(b:Nat)(agg:Bool)(ks:List Value)(vss:List (List Value)):Prop where
 at_:∃(es:Array MapEntry) (clock:Nat),w.heap[b]?=some (.map es clock)∧es.toList.map (·.key)=ks∧es.toList.map (·.val)=vss.map (mkV agg)∧clock=es.size∧∀(i:Nat) (e:MapEntry),es[i]?=some e→e.born=i
 one:agg=false→∀vs∈vss,vs.length=1
theorem MapIs.mono {w w':World}{b:Nat}{agg:Bool}{ks:List Value}{vss:List (List Value)}(h:MapIs w b agg ks vss)(k:w'.heap[b]?=w.heap[b]?):MapIs w' b agg ks vss:=by
 obtain⟨⟨es,cl,h1,h2⟩,h3⟩:=h
 exact⟨⟨es,cl,k.trans h1,h2⟩,h3⟩
abbrev Sh:=Nat→Nat→Prop
inductive R (S:Sh)(w:World):CV→Value→Prop
 |v {x:Value}:okV x=true→R S w (.v x) x
 |nil {k:Nat}:R S w (.rowc k []) (.slice none 0 0)
 |bare {k:Nat} {a:Addr} {cap:Nat}:cap≤maxLen→R S w (.rowc k []) (.slice (some a) 0 cap)
 |row {k:Nat} {xs:List (List CV)} {b o cap sz:Nat} (g:Nat→Nat→Value):xs≠[]→xs.length≤cap→cap≤maxLen→S k b→(∀us∈xs,us.length=sz)→(∀i us,xs[i]?=some us→∀j,j<us.length→w.cell? ⟨b,o+i*sz+j,none⟩=some (g i j))→(∀i us,xs[i]?=some us→∀j u,us[j]?=some u→R S w u (g i j))→R S w (.rowc k xs) (.slice (some ⟨b,o,none⟩) xs.length cap)
 |ptr {k:Nat} {cs:List CV} {b o off:Nat} {vs:List Value}:S k b→cs.length=vs.length→Holds w b o vs→(∀(i:Nat) (x:CV) (v:Value),cs[i]?=some x→vs[i]?=some v→R S w x v)→R S w (.ptrc k cs off) (.pointer (some ⟨b,o+off,none⟩))
 |fn {f:FuncId} {first caps:List CV} {us ts:List Value}:first.length=us.length→(∀(i:Nat) (x:CV) (v:Value),first[i]?=some x→us[i]?=some v→R S w x v)→caps.length=ts.length→(∀(i:Nat) (x:CV) (v:Value),caps[i]?=some x→ts[i]?=some v→R S w x v)→R S w (.fn f false first caps) (.func (.func f) us.toArray ts.toArray)
 |meth {f:FuncId} {first caps:List CV} {us ts:List Value}:first.length=us.length→(∀(i:Nat) (x:CV) (v:Value),first[i]?=some x→us[i]?=some v→R S w x v)→caps.length=ts.length→(∀(i:Nat) (x:CV) (v:Value),caps[i]?=some x→ts[i]?=some v→R S w x v)→R S w (.fn f true first caps) (.func (.func f) #[.agg us.toArray] ts.toArray)
 |map {agg:Bool} {ks:List Value} {xs:List (List CV)} {b:Nat} {vss:List (List Value)}:S 0 b→MapIs w b agg ks vss→xs.length=vss.length→(∀(i:Nat) (us:List CV) (vs:List Value),xs[i]?=some us→vss[i]?=some vs→us.length=vs.length)→(∀(i:Nat) (us:List CV) (vs:List Value),xs[i]?=some us→vss[i]?=some vs→∀(j:Nat) (x:CV) (v:Value),us[j]?=some x→vs[j]?=some v→R S w x v)→R S w (.mapc agg ks xs) (.map (some b))
theorem R.one {S:Sh}{w:World}{x:CV}{v:Value}(h:R S w x v):v.oneCell'=true:=by cases h<;>first|exact okV_one ‹_› | rfl
theorem R.mono {S S':Sh}{w w':World}{x:CV}{v:Value}(h:R S w x v)(hS:∀k b,S k b→S' k b)(hw:∀k b,S k b→w'.heap[b]?=w.heap[b]?):R S' w' x v:=by
 induction h with
 |v h=>exact .v h
 |nil=>exact .nil
 |bare h=>exact .bare h
 |row g h1 h2 h3 h4 h5 h6 h7 ih=>exact .row g h1 h2 h3 (hS _ _ h4) h5 (fun i us hi j hj=>(World.cell?_of_block (w:=w) (a:=⟨_,_,none⟩) (hw _ _ h4)).trans (h6 i us hi j hj)) ih
 |ptr h1 h2 h3 h4 ih=>exact .ptr (hS _ _ h1) h2 (h3.mono (hw _ _ h1)) ih
 |fn h1 h2 h3 h4 ih1 ih2=>exact .fn h1 ih1 h3 ih2
 |meth h1 h2 h3 h4 ih1 ih2=>exact .meth h1 ih1 h3 ih2
 |map h1 h2 h3 h4 h5 ih=>exact .map (hS _ _ h1) (h2.mono (hw _ _ h1)) h3 h4 ih
inductive Fine:CV→Prop
 |v {x:Value}:okV x=true→Fine (.v x)
 |row {k:Nat} {xs:List (List CV)}:xs.length≤maxLen→(∀us∈xs,∀u∈us,Fine u)→Fine (.rowc k xs)
 |ptr {k:Nat} {cs:List CV} {off:Nat}:(∀u∈cs,Fine u)→Fine (.ptrc k cs off)
 |fn {f:FuncId} {a:Bool} {first caps:List CV}:(∀u∈first,Fine u)→(∀u∈caps,Fine u)→Fine (.fn f a first caps)
 |map {a:Bool} {ks:List Value} {xs:List (List CV)}:(∀us∈xs,∀u∈us,Fine u)→Fine (.mapc a ks xs)
theorem all_of_get {Q:CV→Prop}{cs:List CV}{vs:List Value}(hl:cs.length=vs.length)(h:∀(i:Nat) (x:CV) (v:Value),cs[i]?=some x→vs[i]?=some v→Q x):∀u∈cs,Q u:=fun u hu=>by
 obtain⟨i,hi,rfl⟩:=List.getElem_of_mem hu
 exact h i _ vs[i] (List.getElem?_eq_getElem hi) (List.getElem?_eq_getElem (hl▸hi))
theorem R.fine {S:Sh}{w:World}{x:CV}{v:Value}(h:R S w x v):Fine x:=by
 induction h with
 |v h=>exact .v h
 |nil=>exact .row (by simp) fun us hu=>by simp at hu
 |bare h=>exact .row (by simp) fun us hu=>by simp at hu
 |row g h1 h2 h3 h4 h5 h6 h7 ih=>
  refine .row (Nat.le_trans h2 h3) fun us hu u hu2=>?_
  obtain⟨i,hi,rfl⟩:=List.getElem_of_mem hu
  obtain⟨j,hj,rfl⟩:=List.getElem_of_mem hu2
  exact ih i _ (List.getElem?_eq_getElem hi) j _ (List.getElem?_eq_getElem hj)
 |ptr h1 h2 h3 h4 ih=>exact .ptr (all_of_get h2 ih)
 |fn h1 h2 h3 h4 ih1 ih2=>exact .fn (all_of_get h1 ih1) (all_of_get h3 ih2)
 |meth h1 h2 h3 h4 ih1 ih2=>exact .fn (all_of_get h1 ih1) (all_of_get h3 ih2)
 |map h1 h2 h3 h4 h5 ih=>
  refine .map fun us hu u hu2=>?_
  obtain⟨i,hi,rfl⟩:=List.getElem_of_mem hu
  exact all_of_get (h4 i _ _ (List.getElem?_eq_getElem hi) (List.getElem?_eq_getElem (h3▸hi))) (ih i _ _ (List.getElem?_eq_getElem hi) (List.getElem?_eq_getElem (h3▸hi))) u hu2
theorem R.slice {S:Sh}{w:World}{k:Nat}{xs:List (List CV)}{v:Value}(h:R S w (.rowc k xs) v):∃a cap,v=.slice a xs.length cap∧xs.length≤cap∧cap≤maxLen:=by
 cases h with
 |nil=>exact⟨none,0,rfl,by simp,by simp⟩
 |bare h=>exact⟨_,_,rfl,by simp,h⟩
 |row g h1 h2 h3=>exact⟨_,_,rfl,h2,h3⟩
theorem R.elem {S:Sh}{w:World}{k:Nat}{xs:List (List CV)}{v:Value}(h:R S w (.rowc k xs) v){i:Nat}{us:List CV}(hi:xs[i]?=some us):∃b o cap,v=.slice (some ⟨b,o,none⟩) xs.length cap∧S k b∧(∀ts∈xs,ts.length=us.length)∧∃vs,F2 (R S w) us vs∧Holds w b (o+i*us.length) vs:=by
 cases h with
 |nil=>simp at hi
 |bare h=>simp at hi
 |row g h1 h2 h3 h4 h5 h6 h7=>
  rename_i b o cap sz
  have hu:us.length=sz:=h5 us (List.mem_of_getElem? hi)
  subst hu
  refine⟨b,o,cap,rfl,h4,h5,(List.range us.length).map (g i),⟨by simp,fun j u v hu hv=>?_⟩,fun j v hv=>?_⟩
  ·simp only[List.getElem?_map,Option.map_eq_some_iff]at hv
   obtain⟨k,hk,rfl⟩:=hv
   obtain⟨hk1,hk2⟩:=List.getElem?_eq_some_iff.1 hk
   simp at hk2
   subst hk2
   exact h7 i us hi j u hu
  ·simp only[List.getElem?_map,Option.map_eq_some_iff]at hv
   obtain⟨k,hk,rfl⟩:=hv
   obtain⟨hk1,hk2⟩:=List.getElem?_eq_some_iff.1 hk
   simp at hk1 hk2
   subst hk2
   exact h6 i us hi j hk1
theorem R.mk {S:Sh}{w:World}{k:Nat}{xs:List (List CV)}{vss:List (List Value)}{b o cap sz:Nat}(hS:S k b)(hl:xs.length≤cap)(hm:cap≤maxLen)(hsz:∀us∈xs,us.length=sz)(h:F2 (F2 (R S w)) xs vss)(hc:∀i vs,vss[i]?=some vs→Holds w b (o+i*sz) vs):R S w (.rowc k xs) (.slice (some ⟨b,o,none⟩) xs.length cap):=by
 by_cases hz:xs=[]
 ·subst hz;exact .bare hm
 refine .row (sz:=sz) (fun i j=>(vss.getD i []).getD j undef) hz hl hm hS hsz (fun i us hi j hj=>?_) (fun i us hi j u hu=>?_)
 ·obtain⟨vs,hv,hq⟩:=h.get hi
  have hj':j<vs.length:=hq.1▸hj
  have:=hc i vs hv j vs[j] (List.getElem?_eq_getElem hj')
  simpa[List.getD,hv,List.getElem?_eq_getElem hj']using this
 ·obtain⟨vs,hv,hq⟩:=h.get hi
  obtain⟨v,hv1,hv2⟩:=hq.get hu
  simpa[List.getD,hv,hv1]using hv2
theorem tabsV_ok:∀g vs,tabsV g=some vs→vs.all okV=true:=by
 intro g vs h
 unfold tabsV at h
 split at h
 all_goals first|(cases h;decide)|cases h
def Gl (S:Sh)(w:World):Prop:=∀g vs,tabsV g=some vs→S 0 g∧Holds w g 0 vs
theorem Gl.mono {S S':Sh}{w w':World}(h:Gl S w)(hS:∀b,S 0 b→S' 0 b)(hw:∀b,S 0 b→w'.heap[b]?=w.heap[b]?):Gl S' w':=fun g vs hg=>⟨hS _ (h g vs hg).1,(h g vs hg).2.mono (hw _ (h g vs hg).1)⟩
theorem Gl.ptr {S:Sh}{w:World}(h:Gl S w){g:Nat}{vs:List Value}(hg:tabsV g=some vs):R S w (.ptrc 0 (vs.map .v) 0) (.pointer (some ⟨g,0,none⟩)):=by
 obtain⟨h1,h2⟩:=h g vs hg
 refine R.ptr (b:=g) (o:=0) (off:=0) h1 (by simp) h2 fun i x v hx hv=>?_
 simp only[List.getElem?_map,Option.map_eq_some_iff]at hx
 obtain⟨z,hz,rfl⟩:=hx
 rw[hz]at hv
 cases hv
 exact R.v (List.all_eq_true.1 (tabsV_ok g vs hg) _ (List.mem_of_getElem? hz))
structure Ctx where
 S:Sh
 φ:Nat→Nat
 ψ:Nat→Value
abbrev Mem:=Nat→Option Blk
def rowLen (m:Mem)(id:Nat):Option Nat:=match m id with
 |some (.rows _ _ xs)=>some xs.length
 |some (.froz xs)=>some xs.length
 |some (.gone L)=>some L
 |some (.lent _ _ _ xs)=>some xs.length
 |_=>none
def isBox (m:Mem)(id:Nat):Prop:=(∃cs,m id=some (.box cs))∨(∃cs,m id=some (.fbox cs))∨(∃a ks xs,m id=some (.mapb a ks xs))∨(∃a ks xs,m id=some (.fmap a ks xs))∨(∃cs,m id=some (.obox cs))∨∃r,m id=some (.orec r)
def rowsOf (m:Mem)(id:Nat):Option (TypeId×Nat×List (List CV)):=match m id with
 |some (.rows e sz xs)=>some (e,sz,xs)
 |some (.lent _ e sz xs)=>some (e,sz,xs)
 |_=>none
def VA (c:Ctx)(w:World)(m:Mem):A→Value→Prop
 | .c x,v=>R c.S w x v
 | .ptr id off,v=>isBox m id∧v=.pointer (some ⟨c.φ id,off,none⟩)
 | .own id n,v=>(∃a k,v=.slice a n k)∧∃L,rowLen m id=some L∧n≤L∧(n=L→v=c.ψ id)
 | .el k cs off,v=>∃b o vs,v=.pointer (some ⟨b,o+off,none⟩)∧c.S k b∧F2 (R c.S w) cs vs∧Holds w b o vs
 | .pel id n i off,v=>(∃a,v=.pointer a)∧∃L,rowLen m id=some L∧n≤L∧(n=L→∀e sz xs,rowsOf m id=some (e,sz,xs)→∃g cap,c.ψ id=.slice (some ⟨g,0,none⟩) n cap∧v=.pointer (some ⟨g,i*sz+off,none⟩))
 | .full k xs,v=>∃a,v=.slice a xs.length xs.length∧R c.S w (.rowc k xs) v
 | .mp id,v=>isBox m id∧v=.map (some (c.φ id))
 | .nil,v=>v=.slice none 0 0
 | .bare,v=>∃a k,v=.slice (some a) 0 k∧k≤maxLen
 | .any,v=>v.oneCell'=true
theorem VA.one {c:Ctx}{w:World}{m:Mem}{a:A}{v:Value}(h:VA c w m a v):v.oneCell'=true:=by
 cases a with
 |c x=>exact R.one h
 |ptr id off=>rw[h.2];rfl
 |own id n=>obtain⟨⟨a,k,rfl⟩,_⟩:=h;rfl
 |el k cs off=>obtain⟨b,o,vs,rfl,_⟩:=h;rfl
 |pel id n i off=>obtain⟨⟨a,rfl⟩,_⟩:=h;rfl
 |full k xs=>exact R.one h.choose_spec.2
 |mp id=>rw[h.2];rfl
 |nil=>cases h;rfl
 |bare=>obtain⟨a,k,rfl,_⟩:=h;rfl
 |any=>exact h
def RC (S:Sh)(w:World):CA→Value→Prop
 | .one x,v=>R S w x v
 | .agg cs,v=>∃vs:List Value,v=.agg vs.toArray∧F2 (R S w) cs vs
 | .nil,v=>v=.slice none 0 0
def VM (c:Ctx)(w:World)(m:Mem):Bool×List A→Value→Prop
 | (true,cs),v=>∃us:List Value,v=.agg us.toArray∧F2 (VA c w m) cs us
 | (false,cs),v=>∃a,cs=[a]∧VA c w m a v
def VV (c:Ctx)(w:World)(m:Mem):AV→Value→Prop
 | .one a,v=>VA c w m a v
 | .agg cs,v=>∃vs:List Value,v=.agg vs.toArray∧F2 (VA c w m) cs vs
 | .tup rs,v=>∃vs:List Value,v=.tuple vs.toArray∧F2 (RC c.S w) rs vs
 | .tupo rs,v=>∃vs:List Value,v=.tuple vs.toArray∧F2 (VM c w m) rs vs
 | .junk,_=>True
structure Goes (c:Ctx)(w:World)(m:Mem)(c':Ctx)(w':World)(m':Mem):Prop where
 S:∀k b,c.S k b→c'.S k b
 heap:∀k b,c.S k b→w'.heap[b]?=w.heap[b]?
 box:∀id,isBox m id→c'.φ id=c.φ id∧isBox m' id
 rows:∀id L,rowLen m id=some L→∃L',rowLen m' id=some L'∧L≤L'∧(L=L'→c'.ψ id=c.ψ id∧∀e sz xs,rowsOf m' id=some (e,sz,xs)→∃ys,rowsOf m id=some (e,sz,ys))
section
variable {c c':Ctx} {w w':World} {m m':Mem}
theorem VA.goes (g:Goes c w m c' w' m'){a:A}{v:Value}(h:VA c w m a v):VA c' w' m' a v:=by
 cases a with
 |c x=>exact R.mono h g.S g.heap
 |ptr id off=>
  obtain⟨hc,rfl⟩:=h
  obtain⟨h1,h2⟩:=g.box id hc
  exact⟨h2,by rw[h1]⟩
 |own id n=>
  obtain⟨h0,L,h1,h2,h3⟩:=h
  obtain⟨L',k1,k2,k3⟩:=g.rows id L h1
  refine⟨h0,L',k1,by omega,fun e=>?_⟩
  have e':L=L':=by omega
  rw[(k3 e').1]
  exact h3 (by omega)
 |el k cs off=>
  obtain⟨b,o,vs,h1,h2,h3,h4⟩:=h
  exact⟨b,o,vs,h1,g.S k b h2,h3.mono fun x y _ h=>h.mono g.S g.heap,h4.mono (g.heap k b h2)⟩
 |pel id n i off=>
  obtain⟨h0,L,h1,h2,h3⟩:=h
  obtain⟨L',k1,k2,k3⟩:=g.rows id L h1
  refine⟨h0,L',k1,by omega,fun e ty sz xs hx=>?_⟩
  have e':L=L':=by omega
  obtain⟨k4,k5⟩:=k3 e'
  obtain⟨ys,hy⟩:=k5 ty sz xs hx
  obtain⟨gg,cap,q1,q2⟩:=h3 (by omega) ty sz ys hy
  exact⟨gg,cap,by rw[k4];exact q1,q2⟩
 |full k xs=>
  obtain⟨a,h1,h2⟩:=h
  exact⟨a,h1,h2.mono g.S g.heap⟩
 |mp id=>
  obtain⟨hc,rfl⟩:=h
  obtain⟨h1,h2⟩:=g.box id hc
  exact⟨h2,by rw[h1]⟩
 |nil=>exact h
 |bare=>exact h
 |any=>exact h
theorem RC.mono {S S':Sh}{r:CA}{v:Value}(h:RC S w r v)(hS:∀k b,S k b→S' k b)(hw:∀k b,S k b→w'.heap[b]?=w.heap[b]?):RC S' w' r v:=by
 cases r with
 |one x=>exact R.mono h hS hw
 |agg cs=>obtain⟨vs,h1,h2⟩:=h;exact⟨vs,h1,h2.mono fun x y _ h=>h.mono hS hw⟩
 |nil=>exact h
theorem VM.goes (g:Goes c w m c' w' m'){a:Bool×List A}{v:Value}(h:VM c w m a v):VM c' w' m' a v:=by
 obtain⟨b,cs⟩:=a
 cases b with
 |true=>obtain⟨us,h1,h2⟩:=h;exact⟨us,h1,h2.mono fun x y _ h=>h.goes g⟩
 |false=>obtain⟨a,h1,h2⟩:=h;exact⟨a,h1,h2.goes g⟩
theorem VV.goes (g:Goes c w m c' w' m'){a:AV}{v:Value}(h:VV c w m a v):VV c' w' m' a v:=by
 cases a with
 |one a=>exact VA.goes g h
 |agg cs=>obtain⟨vs,h1,h2⟩:=h;exact⟨vs,h1,h2.mono fun x y _ h=>h.goes g⟩
 |tup rs=>obtain⟨vs,h1,h2⟩:=h;exact⟨vs,h1,h2.mono fun x y _ h=>h.mono g.S g.heap⟩
 |tupo rs=>obtain⟨vs,h1,h2⟩:=h;exact⟨vs,h1,h2.mono fun x y _ h=>VM.goes g h⟩
 |junk=>exact h
theorem Goes.refl (c:Ctx)(w:World)(m:Mem):Goes c w m c w m:=⟨fun _ _ h=>h,fun _ _ _=>rfl,fun _ h=>⟨rfl,h⟩,fun _ L h=>⟨L,h,Nat.le_refl _,fun _=>⟨rfl,fun _ _ xs hx=>⟨xs,hx⟩⟩⟩⟩
end
def RecAt (S:Sh)(w:World)(b:Nat)(r:Rec):Prop:=∃R:Loop,w.heap[b]?=some (.loop R)∧R.fn=r.fn∧R.params=r.ps∧R.assign=r.assign∧R.body=r.body∧R.pending=r.pend∧R.state=(if r.pend.isNone then .ready else .done)∧
 R.tmps.size=r.n∧∀d,d<r.n→VV ⟨S,fun _=>0,fun _=>undef⟩ w (fun _=>none) (r.t d) (R.tmps.getD d undef)
theorem RecAt.mono {S S':Sh}{w w':World}{b:Nat}{r:Rec}(h:RecAt S w b r)(hb:w'.heap[b]?=w.heap[b]?)(hS:∀k b,S k b→S' k b)(hw:∀k b,S k b→w'.heap[b]?=w.heap[b]?):RecAt S' w' b r:=by
 obtain⟨R,h1,h2,h3,h4,h5,h6,h7,h8,h9⟩:=h
 refine⟨R,hb.trans h1,h2,h3,h4,h5,h6,h7,h8,fun d hd=>?_⟩
 exact VV.goes (c:=⟨S,fun _=>0,fun _=>undef⟩) (c':=⟨S',fun _=>0,fun _=>undef⟩) (m:=fun _=>none) (m':=fun _=>none) ⟨hS,hw,fun id h=>by simp[isBox]at h,fun id L h=>by simp[rowLen]at h⟩ (h9 d hd)
def BlkOK (c:Ctx)(w:World)(m:Mem)(base:Nat)(L:Nat→Prop)(id:Nat):Blk→Prop
 | .box cs=>base≤c.φ id∧(∀k,¬c.S k (c.φ id))∧∃(vs:List Value) (T:TypeId),w.heap[c.φ id]?=some (.cells vs.toArray T (0,0))∧F2 (VA c w m) cs vs
 | .rows e sz xs=>(∀us∈xs,us.length=sz)∧0<sz∧xs.length≤1073741824∧(∀g,(c.ψ id).ownBlock=some g→∀k,¬c.S k g)∧∃vss:List (List Value),F2 (F2 (R c.S w)) xs vss∧w.ownsRow base e sz (c.ψ id) xs.length vss.flatten
 | .froz xs=>R c.S w (.row xs) (c.ψ id)
 | .gone L=>L≤1073741825
 | .lent j e sz xs=>j≠0∧(∀us∈xs,us.length=sz)∧0<sz∧xs.length≤1073741824∧(∀g,(c.ψ id).ownBlock=some g→∀k,c.S k g↔k=j)∧∃vss:List (List Value),F2 (F2 (R c.S w)) xs vss∧w.ownsRow base e sz (c.ψ id) xs.length vss.flatten
 | .fbox cs=>c.S 0 (c.φ id)∧∃vs:List Value,F2 (R c.S w) cs vs∧Holds w (c.φ id) 0 vs
 | .obox cs=>(base≤c.φ id∨L (c.φ id))∧(∀k,¬c.S k (c.φ id))∧1000000+c.φ id=id∧∃(vs:List Value) (T:TypeId),w.heap[c.φ id]?=some (.cells vs.toArray T (0,0))∧F2 (R c.S w) cs vs
 | .orec r=>(base≤c.φ id∨L (c.φ id))∧(∀k,¬c.S k (c.φ id))∧1000000+c.φ id=id∧RecAt c.S w (c.φ id) r
 | .mapb a ks xs=>base≤c.φ id∧(∀k,¬c.S k (c.φ id))∧∃vss:List (List Value),MapIs w (c.φ id) a ks vss∧F2 (F2 (R c.S w)) xs vss
 | .fmap a ks xs=>c.S 0 (c.φ id)∧∃vss:List (List Value),MapIs w (c.φ id) a ks vss∧F2 (F2 (R c.S w)) xs vss
def blockOf (c:Ctx)(m:Mem)(id:Nat):Option Nat:=match m id with
 |some (.box _)=>some (c.φ id)
 |some (.obox _)=>some (c.φ id)
 |some (.orec _)=>some (c.φ id)
 |some (.mapb _ _ _)=>some (c.φ id)
 |some (.rows _ _ _)=>(c.ψ id).ownBlock
 |some (.lent _ _ _ _)=>(c.ψ id).ownBlock
 |_=>none
structure W0 where
 w:World
 L:Nat→Prop
 ro:Option Nat
def RoOK (base:Nat)(w0:W0):Prop:=∀l,w0.ro=some l→l<base∧¬w0.L l∧∃R,w0.w.heap[l]?=some (.loop R)
structure BelowX (base:Nat)(L:Nat→Prop)(w w':World):Prop where
 os:w'.os=w.os
 tape:w'.tape=w.tape
 output:w'.output=w.output
 size:w.heap.size≤w'.heap.size
 block:∀k,k<base→¬L k→w'.heap[k]?=w.heap[k]?
theorem BelowX.of {base:Nat}{L:Nat→Prop}{w w':World}(h:Below base w w'):BelowX base L w w':=⟨h.os,h.tape,h.output,h.size,fun k hk _=>h.block k hk⟩
theorem BelowX.to {base:Nat}{L:Nat→Prop}{w w':World}(h:BelowX base L w w')(hL:∀k,¬L k):Below base w w':=⟨h.os,h.tape,h.output,h.size,fun k hk=>h.block k hk (hL k)⟩
theorem BelowX.trans {base:Nat}{L:Nat→Prop}{a b c:World}(h:BelowX base L a b)(k:BelowX base L b c):BelowX base L a c:=
 ⟨k.os.trans h.os,k.tape.trans h.tape,k.output.trans h.output,Nat.le_trans h.size k.size,fun i hi hL=>(k.block i hi hL).trans (h.block i hi hL)⟩
structure WR (base:Nat)(S0:Sh)(w0:W0)(c:Ctx)(m:Mem)(w:World):Prop where
 blk:∀id b,m id=some b→BlkOK c w m base w0.L id b
 inj:∀id id' b,blockOf c m id=some b→blockOf c m id'=some b→id=id'
 lt:∀k b,c.S k b→b<w.heap.size
 old:∀k b,S0 k b→c.S k b
 new:∀k b,c.S k b→S0 k b∨base≤b
 below:BelowX base w0.L w0.w w
 rok:RoOK base w0
 size:base≤w.heap.size
 s0:∀k b,S0 k b→b<base
end
section
def upd {α:Type}(f:Nat→α)(d:Nat)(x:α):Nat→α:=fun e=>if e=d then x else f e
theorem upd_same {α:Type}(f:Nat→α)(d:Nat)(x:α):upd f d x d=x:=by simp[upd]
theorem upd_ne {α:Type}(f:Nat→α){d e:Nat}(x:α)(h:e≠d):upd f d x e=f e:=by simp[upd,h]
theorem rowLen_upd_ne (m:Mem){d e:Nat}(b:Option Blk)(h:e≠d):rowLen (upd m d b) e=rowLen m e:=by simp[rowLen,upd_ne m b h]
def BoxAt (S:Sh)(w:World)(p:Nat×OC):Prop:=(∀k,¬S k p.1)∧match p.2 with
 | .cells cs=>∃(vs:List Value) (T:TypeId),w.heap[p.1]?=some (.cells vs.toArray T (0,0))∧F2 (R S w) cs vs
 | .loop r=>RecAt S w p.1 r
def OC.blk:OC→Blk
 | .cells cs=>.obox cs
 | .loop r=>.orec r
def opnIds:List (Nat×OC)→List Nat
 | []=>[]
 | (b,_)::l=>(1000000+b)::opnIds l
def insAt (m:Mem):List (Nat×OC)→Prop
 | []=>True
 | (b,.cells cs)::l=>(match m (1000000+b)with
  |some (.obox ds)=>ds=cs
  |_=>False)∧insAt m l
 | (b,.loop r)::l=>(match m (1000000+b)with
  |some (.orec q)=>q=r
  |_=>False)∧insAt m l
def sameBs:List (Nat×OC)→List (Nat×OC)→Prop
 | [],[]=>True
 | (b,_)::l,(c,_)::k=>b=c∧sameBs l k
 |_,_=>False
def setBs (m:Mem):List (Nat×OC)→Mem
 | []=>m
 | (b,oc)::l=>upd (setBs m l) (1000000+b) (some oc.blk)
section
variable {c c':Ctx} {w w':World} {m m':Mem} {base:Nat} {S0:Sh} {w0:W0}
theorem isBox_upd_ne {m:Mem}{d e:Nat}{b:Option Blk}(h:e≠d):isBox (upd m d b) e↔isBox m e:=by simp[isBox,upd_ne m b h]
theorem rowsOf_upd_ne {m:Mem}{d e:Nat}{b:Option Blk}(h:e≠d):rowsOf (upd m d b) e=rowsOf m e:=by simp[rowsOf,upd_ne m b h]
theorem BlkOK.goes {L:Nat→Prop}{id:Nat}{b:Blk}(h:BlkOK c w m base L id b)(hm:m id=some b)(g:Goes c w m c' w' m')(hφ:c'.φ id=c.φ id)(hψ:c'.ψ id=c.ψ id)(hk:∀k,blockOf c m id=some k→w'.heap[k]?=w.heap[k]?∧∀j,c'.S j k↔c.S j k):BlkOK c' w' m' base L id b:=by
 have owns:∀{e sz n xs},(∀gg,(c.ψ id).ownBlock=some gg→blockOf c m id=some gg)→w.ownsRow base e sz (c.ψ id) n xs→w'.ownsRow base e sz (c.ψ id) n xs:=fun {e sz n xs} hb h6=>by
  refine⟨h6.1,?_⟩
  rcases h6.2 with h7|⟨gg,cap,cur,e1,e2,e3,r⟩
  ·exact .inl h7
  ·refine .inr ⟨gg,cap,cur,e1,e2,?_,r⟩
   rw[(hk gg (hb gg (by rw[e1];rfl))).1]
   exact e3
 cases b with
 |box cs=>
  obtain⟨h1,h2,vs,T,h3,h4⟩:=h
  obtain⟨k1,k2⟩:=hk (c.φ id) (by simp[blockOf,hm])
  exact⟨by rw[hφ];exact h1,by rw[hφ];exact fun k hs=>h2 k ((k2 k).1 hs),vs,T,by rw[hφ,k1];exact h3,h4.mono fun x y _ h=>h.goes g⟩
 |rows e sz xs=>
  obtain⟨h1,h2,h3,h4,vss,h5,h6⟩:=h
  have hb:∀gg,(c.ψ id).ownBlock=some gg→blockOf c m id=some gg:=fun gg hg=>by simp[blockOf,hm,hg]
  refine⟨h1,h2,h3,?_,vss,h5.mono fun x y _ h=>h.mono fun x y _ h=>h.mono g.S g.heap,by rw[hψ];exact owns hb h6⟩
  rw[hψ]
  intro k hk' j hs
  exact h4 k hk' j (((hk k (hb k hk')).2 j).1 hs)
 |lent j e sz xs=>
  obtain⟨h0,h1,h2,h3,h4,vss,h5,h6⟩:=h
  have hb:∀gg,(c.ψ id).ownBlock=some gg→blockOf c m id=some gg:=fun gg hg=>by simp[blockOf,hm,hg]
  refine⟨h0,h1,h2,h3,?_,vss,h5.mono fun x y _ h=>h.mono fun x y _ h=>h.mono g.S g.heap,by rw[hψ];exact owns hb h6⟩
  rw[hψ]
  intro k hk' i
  rw[(hk k (hb k hk')).2 i]
  exact h4 k hk' i
 |gone L=>exact h
 |froz xs=>
  have h':R c.S w (.row xs) (c.ψ id):=h
  show R c'.S w' (.row xs) (c'.ψ id)
  rw[hψ]
  exact R.mono h' g.S g.heap
 |fbox cs=>
  obtain⟨h1,vs,h2,h3⟩:=h
  refine⟨by rw[hφ];exact g.S _ _ h1,vs,h2.mono fun x y _ h=>h.mono g.S g.heap,by rw[hφ];exact h3.mono (g.heap _ _ h1)⟩
 |obox cs=>
  obtain⟨h1,h2,h5,vs,T,h3,h4⟩:=h
  obtain⟨k1,k2⟩:=hk (c.φ id) (by simp[blockOf,hm])
  exact⟨by rw[hφ];exact h1,by rw[hφ];exact fun k hs=>h2 k ((k2 k).1 hs),by rw[hφ];exact h5,vs,T,by rw[hφ,k1];exact h3,h4.mono fun x y _ h=>h.mono g.S g.heap⟩
 |orec r=>
  obtain⟨h1,h2,h5,h3⟩:=h
  obtain⟨k1,k2⟩:=hk (c.φ id) (by simp[blockOf,hm])
  exact⟨by rw[hφ];exact h1,by rw[hφ];exact fun k hs=>h2 k ((k2 k).1 hs),by rw[hφ];exact h5,by rw[hφ];exact h3.mono k1 g.S g.heap⟩
 |mapb a ks xs=>
  obtain⟨h1,h2,vss,h3,h4⟩:=h
  obtain⟨k1,k2⟩:=hk (c.φ id) (by simp[blockOf,hm])
  exact⟨by rw[hφ];exact h1,by rw[hφ];exact fun k hs=>h2 k ((k2 k).1 hs),vss,by rw[hφ];exact h3.mono k1,h4.mono fun x y _ h=>h.mono fun x y _ h=>h.mono g.S g.heap⟩
 |fmap a ks xs=>
  obtain⟨h1,vss,h3,h4⟩:=h
  exact⟨by rw[hφ];exact g.S _ _ h1,vss,by rw[hφ];exact h3.mono (g.heap _ _ h1),h4.mono fun x y _ h=>h.mono fun x y _ h=>h.mono g.S g.heap⟩
theorem WR.step (h:WR base S0 w0 c m w)(g:Goes c w m c' w' m')(hS:∀k b,c'.S k b→c.S k b∨base≤b)(hlt:∀k b,c'.S k b→b<w'.heap.size)(hb:BelowX base w0.L w w')(hblk:∀id b,m' id=some b→(m id=some b∧c'.φ id=c.φ id∧c'.ψ id=c.ψ id∧∀k,blockOf c m id=some k→w'.heap[k]?=w.heap[k]?∧∀j,c'.S j k↔c.S j k)∨BlkOK c' w' m' base w0.L id b)(hinj:∀id id' b,blockOf c' m' id=some b→blockOf c' m' id'=some b→id=id'):WR base S0 w0 c' m' w' where
 blk:=fun id b hm=>by
  rcases hblk id b hm with⟨h1,h2,h3,h4⟩|h1
  ·exact(h.blk id b h1).goes h1 g h2 h3 h4
  ·exact h1
 inj:=hinj
 lt:=hlt
 old:=fun k b hb=>g.S k b (h.old k b hb)
 new:=fun k b hb=>by
  rcases hS k b hb with h1|h1
  ·exact h.new k b h1
  ·exact .inr h1
 below:=h.below.trans hb
 rok:=h.rok
 size:=Nat.le_trans h.size hb.size
 s0:=h.s0
theorem WR.apart (h:WR base S0 w0 c m w){id k:Nat}(hk:blockOf c m id=some k):(base≤k∨w0.L k)∧k<w.heap.size:=by
 unfold blockOf at hk
 split at hk
 ·rename_i cs hm
  obtain⟨h1,h2,vs,T,h3,h4⟩:=h.blk id _ hm
  cases hk
  exact⟨.inl h1,block_lt h3⟩
 ·rename_i cs hm
  obtain⟨h1,h2,h5,vs,T,h3,h4⟩:=h.blk id _ hm
  cases hk
  exact⟨h1,block_lt h3⟩
 ·rename_i r hm
  obtain⟨h1,h2,h5,R,h3,_⟩:=h.blk id _ hm
  cases hk
  exact⟨h1,(Array.getElem?_eq_some_iff.1 h3).1⟩
 ·rename_i a ks xs hm
  obtain⟨h1,h2,vss,⟨⟨es,cl,h3,_⟩,_⟩,h4⟩:=h.blk id _ hm
  cases hk
  exact⟨.inl h1,(Array.getElem?_eq_some_iff.1 h3).1⟩
 ·rename_i e sz xs hm
  obtain⟨_,_,_,h4,vss,_,h6⟩:=h.blk id _ hm
  exact⟨.inl (h6.lt k hk).1,(h6.lt k hk).2⟩
 ·rename_i j e sz xs hm
  obtain⟨_,_,_,_,h4,vss,_,h6⟩:=h.blk id _ hm
  exact⟨.inl (h6.lt k hk).1,(h6.lt k hk).2⟩
 ·simp at hk
theorem alloc_size (w:World)(o:Obj):(w.alloc o).heap.size=w.heap.size+1:=by simp
theorem WR.box (h:WR base S0 w0 c m w){d:Nat}(hd:m d=none){cs:List A}{vs:List Value}(T:TypeId)(hcs:F2 (VA c w m) cs vs):let c':Ctx:={c with φ:=upd c.φ d w.heap.size};let m':=upd m d (some (.box cs));let w':=w.alloc (.cells vs.toArray T);Goes c w m c' w' m'∧WR base S0 w0 c' m' w'∧VA c' w' m' (.ptr d 0) (.pointer (some ⟨w.heap.size,0,none⟩)):=by
 intro c' m' w'
 have hne:∀id b,m id=some b→id≠d:=fun id b hm e=>by rw[e,hd]at hm;simp at hm
 have hneL:∀id L,rowLen m id=some L→id≠d:=fun id L hm e=>by rw[e]at hm;simp[rowLen,hd]at hm
 have hneB:∀id,isBox m id→id≠d:=fun id hm e=>by rw[e]at hm;simp[isBox,hd]at hm
 have hold:∀k,k<w.heap.size→w'.heap[k]?=w.heap[k]?:=fun k hk=>heap_old w _ hk
 have g:Goes c w m c' w' m':=by
  refine⟨fun _ _ h=>h,fun k b hb=>hold b (h.lt k b hb),fun id hm=>⟨upd_ne _ _ (hneB id hm),(isBox_upd_ne (hneB id hm)).2 hm⟩,fun id L hL=>⟨L,?_,Nat.le_refl _,fun _=>⟨rfl,fun e sz xs hx=>⟨xs,?_⟩⟩⟩⟩
  ·rw[←hL];exact rowLen_upd_ne m _ (hneL id L hL)
  ·rw[←hx];exact(rowsOf_upd_ne (hneL id L hL)).symm
 have hbo:∀id k,id≠d→blockOf c' m' id=some k→blockOf c m id=some k:=fun id k hne hk=>by
  simpa[blockOf,m',c',upd_ne _ _ hne]using hk
 have hbd:∀k,blockOf c' m' d=some k→k=w.heap.size:=fun k hk=>by simpa[blockOf,m',c',upd_same]using hk.symm
 refine⟨g,?_,.inl ⟨cs,upd_same _ _ _⟩,by simp[c',upd_same]⟩
 refine h.step g (fun _ b hb=>.inl hb) (fun k b hb=>Nat.lt_trans (h.lt k b hb) (by rw[alloc_size];omega)) (.of ((Below.refl _ _).alloc h.size _)) (fun id b hm=>?_) (fun id id' b h1 h2=>?_)
 ·by_cases e:id=d
  ·right
   subst e
   have:b=.box cs:=by simpa[m',upd_same]using hm.symm
   subst this
   refine⟨by simp[c',upd_same];exact h.size,fun k hs=>?_,vs,T,by simp only[c',upd_same];exact heap_alloc_new w _,hcs.mono fun x y _ h=>h.goes g⟩
   have:=h.lt _ _ hs
   simp[c',upd_same]at this
  ·left
   refine⟨by rw[←hm];exact(upd_ne m _ e).symm,upd_ne _ _ e,rfl,fun k hk=>?_⟩
   exact⟨hold k (h.apart hk).2,fun _=>Iff.rfl⟩
 ·by_cases e:id=d
  ·by_cases e':id'=d
   ·rw[e,e']
   ·subst e
    have q1:=hbd b h1
    obtain⟨_,q2⟩:=h.apart (hbo id' b e' h2)
    omega
  ·by_cases e':id'=d
   ·subst e'
    have q1:=hbd b h2
    obtain⟨_,q2⟩:=h.apart (hbo id b e h1)
    omega
   ·exact h.inj id id' b (hbo id b e h1) (hbo id' b e' h2)
theorem WR.rows (h:WR base S0 w0 c m w){d:Nat}(hd:m d=none){e:TypeId}{sz:Nat}{xs:List (List CV)}{v:Value}(hm':Below w.heap.size w w')(h1:∀us∈xs,us.length=sz)(h2:0<sz)(h3:xs.length≤1073741824){vss:List (List Value)}(h5:F2 (F2 (R c.S w)) xs vss)(h6:w'.ownsRow w.heap.size e sz v xs.length vss.flatten):let c':Ctx:={c with ψ:=upd c.ψ d v};let m':=upd m d (some (.rows e sz xs));Goes c w m c' w' m'∧WR base S0 w0 c' m' w'∧VA c' w' m' (.own d xs.length) v:=by
 intro c' m'
 have hne:∀id b,m id=some b→id≠d:=fun id b hm e=>by rw[e,hd]at hm;simp at hm
 have hneL:∀id L,rowLen m id=some L→id≠d:=fun id L hm e=>by rw[e]at hm;simp[rowLen,hd]at hm
 have hneB:∀id,isBox m id→id≠d:=fun id hm e=>by rw[e]at hm;simp[isBox,hd]at hm
 have g:Goes c w m c' w' m':=by
  refine⟨fun _ _ h=>h,fun k b hb=>hm'.block b (h.lt k b hb),fun id hm=>⟨rfl,(isBox_upd_ne (hneB id hm)).2 hm⟩,fun id L hL=>⟨L,?_,Nat.le_refl _,fun _=>⟨upd_ne _ _ (hneL id L hL),fun e sz xs hx=>⟨xs,?_⟩⟩⟩⟩
  ·rw[←hL];exact rowLen_upd_ne m _ (hneL id L hL)
  ·rw[←hx];exact(rowsOf_upd_ne (hneL id L hL)).symm
 have hbo:∀id k,id≠d→blockOf c' m' id=some k→blockOf c m id=some k:=fun id k hne hk=>by
  simpa[blockOf,m',c',upd_ne _ _ hne]using hk
 have hown:∀k,v.ownBlock=some k→w.heap.size≤k:=fun k hk=>(h6.lt k hk).1
 have hbd:∀k,blockOf c' m' d=some k→w.heap.size≤k:=fun k hk=>hown k (by simpa[blockOf,m',c',upd_same]using hk)
 refine⟨g,?_,?_⟩
 ·refine h.step g (fun _ b hb=>.inl hb) (fun k b hb=>Nat.lt_of_lt_of_le (h.lt k b hb) hm'.size) (.of (hm'.mono h.size)) (fun id b hm=>?_) (fun id id' b h1 h2=>?_)
  ·by_cases e':id=d
   ·right
    subst e'
    have:b=.rows e sz xs:=by simpa[m',upd_same]using hm.symm
    subst this
    refine⟨h1,h2,h3,fun k hk j hs=>?_,vss,h5.mono fun x y _ h=>h.mono fun x y _ h=>h.mono g.S g.heap,?_⟩
    ·have q1:=hown k (by simpa[c',upd_same]using hk)
     have q2:=h.lt j k hs
     omega
    ·have:c'.ψ id=v:=upd_same _ _ _
     rw[this]
     refine⟨h6.1,h6.2.imp (fun h=>h) fun⟨gg,cap,cur,e1,e2,r⟩=>⟨gg,cap,cur,e1,Nat.le_trans h.size e2,r⟩⟩
   ·left
    refine⟨by rw[←hm];exact(upd_ne m _ e').symm,rfl,upd_ne _ _ e',fun k hk=>?_⟩
    exact⟨hm'.block k (h.apart hk).2,fun _=>Iff.rfl⟩
  ·by_cases e:id=d
   ·by_cases e':id'=d
    ·rw[e,e']
    ·subst e
     have q1:=hbd b h1
     obtain⟨_,q2⟩:=h.apart (hbo id' b e' h2)
     omega
   ·by_cases e':id'=d
    ·subst e'
     have q1:=hbd b h2
     obtain⟨_,q2⟩:=h.apart (hbo id b e h1)
     omega
    ·exact h.inj id id' b (hbo id b e h1) (hbo id' b e' h2)
 ·refine⟨?_,xs.length,by simp[rowLen,m',upd_same],Nat.le_refl _,fun _=>(upd_same _ _ _).symm⟩
  rcases h6.2 with⟨rfl,e0⟩|⟨gg,cap,cur,rfl,_⟩
  ·exact⟨none,0,by rw[e0]⟩
  ·exact⟨_,_,rfl⟩
theorem WR.calls (h:WR base S0 w0 c m w)(hw:Below w.heap.size w w')(T:Sh)(hT:∀k b,T k b→c.S k b∨(w.heap.size≤b∧b<w'.heap.size)):let c':Ctx:={c with S:=fun k b=>c.S k b∨T k b};Goes c w m c' w' m∧WR base S0 w0 c' m w':=by
 intro c'
 have hS:∀k b,c'.S k b→c.S k b∨(w.heap.size≤b∧b<w'.heap.size):=fun k b hb=>by
  rcases hb with hb|hb
  ·exact .inl hb
  ·exact hT k b hb
 have g:Goes c w m c' w' m:=⟨fun _ _ h=>.inl h,fun k b hb=>hw.block b (h.lt k b hb),fun id h=>⟨rfl,h⟩,fun _ L h=>⟨L,h,Nat.le_refl _,fun _=>⟨rfl,fun _ _ xs hx=>⟨xs,hx⟩⟩⟩⟩
 refine⟨g,h.step g (fun k b hb=>?_) (fun k b hb=>?_) (.of (hw.mono h.size)) (fun id b hm=>.inl ⟨hm,rfl,rfl,fun k hk=>?_⟩) (fun id id' b h1 h2=>h.inj id id' b h1 h2)⟩
 ·rcases hS k b hb with hb|hb
  ·exact .inl hb
  ·exact .inr (Nat.le_trans h.size hb.1)
 ·rcases hS k b hb with hb|hb
  ·exact Nat.lt_of_lt_of_le (h.lt k b hb) hw.size
  ·exact hb.2
 ·have q2:=(h.apart hk).2
  refine⟨hw.block k q2,fun j=>⟨fun hs=>?_,.inl⟩⟩
  rcases hS j k hs with hb|hb
  ·exact hb
  ·omega
theorem WR.setBox (h:WR base S0 w0 c m w){id:Nat}{cs cs':List A}(hm:m id=some (.box cs)){vs:List Value}(hcs:F2 (VA c w m) cs' vs):let w':=w.setRow (c.φ id) vs.toArray;let m':=upd m id (some (.box cs'));Goes c w m c w' m'∧WR base S0 w0 c m' w':=by
 intro w' m'
 obtain⟨h1,h2,us,T,h3,h4⟩:=h.blk id _ hm
 have hoth:∀k,k≠c.φ id→w'.heap[k]?=w.heap[k]?:=fun k hk=>setRow_other w _ k _ hk
 have hbof:blockOf c m id=some (c.φ id):=by simp[blockOf,hm]
 have g:Goes c w m c w' m':=by
  refine⟨fun _ _ h=>h,fun k b hb=>hoth b fun e=>h2 k (e▸hb),fun i hi=>⟨rfl,?_⟩,fun i L hL=>⟨L,?_,Nat.le_refl _,fun _=>⟨rfl,fun e sz xs hx=>⟨xs,?_⟩⟩⟩⟩
  ·by_cases e:i=id
   ·subst e;exact .inl ⟨cs',upd_same _ _ _⟩
   ·exact(isBox_upd_ne e).2 hi
  ·have e:i≠id:=fun e=>by rw[e]at hL;simp[rowLen,hm]at hL
   rw[←hL];exact rowLen_upd_ne m _ e
  ·have e:i≠id:=fun e=>by rw[e]at hL;simp[rowLen,hm]at hL
   rw[←hx];exact(rowsOf_upd_ne e).symm
 have hbo:∀i,blockOf c m' i=blockOf c m i:=fun i=>by
  by_cases e:i=id
  ·subst e;simp[blockOf,hm,m',upd_same]
  ·simp[blockOf,m',upd_ne _ _ e]
 refine⟨g,h.step g (fun _ b hb=>.inl hb) (fun k b hb=>by rw[setRow_size];exact h.lt k b hb) ⟨rfl,rfl,rfl,by rw[setRow_size];exact Nat.le_refl _,fun k hk _=>hoth k (by omega)⟩ (fun i b hi=>?_) (fun i i' b q1 q2=>h.inj i i' b (by rw[←hbo];exact q1) (by rw[←hbo];exact q2))⟩
 by_cases e:i=id
 ·right
  subst e
  have:b=.box cs':=by simpa[m',upd_same]using hi.symm
  subst this
  exact⟨h1,h2,vs,T,setRow_heap w _ _ _ T _ h3,hcs.mono fun x y _ h=>h.goes g⟩
 ·left
  refine⟨by rw[←hi];exact(upd_ne m _ e).symm,rfl,rfl,fun k hk=>⟨hoth k fun e'=>?_,fun _=>Iff.rfl⟩⟩
  subst e'
  exact e (h.inj i id _ hk hbof)
theorem WR.turn (h:WR base S0 w0 c m w){id:Nat}{e:TypeId}{sz:Nat}{xs ys:List (List CV)}(hm:m id=some (.rows e sz xs)){v:Value}(hg:w.grownBy w' (c.ψ id).ownBlock)(hv:∀k,v.ownBlock=some k→(c.ψ id).ownBlock=some k∨w.heap.size≤k)(hl:xs.length≤ys.length)(hlv:xs.length=ys.length→v=c.ψ id)(h1:∀us∈ys,us.length=sz)(h3:ys.length≤1073741824){vss:List (List Value)}(h5:F2 (F2 (R c.S w)) ys vss)(h6:w'.ownsRow base e sz v ys.length vss.flatten):let c':Ctx:={c with ψ:=upd c.ψ id v};let m':=upd m id (some (.rows e sz ys));Goes c w m c' w' m'∧WR base S0 w0 c' m' w'∧VA c' w' m' (.own id ys.length) v:=by
 intro c' m'
 obtain⟨q1,q2,q3,q4,us,q5,q6⟩:=h.blk id _ hm
 have hbof:blockOf c m id=(c.ψ id).ownBlock:=by simp[blockOf,hm]
 have hbnew:blockOf c' m' id=v.ownBlock:=by simp[blockOf,m',c',upd_same]
 have hoth:∀k,k<w.heap.size→(∀g,(c.ψ id).ownBlock=some g→k≠g)→w'.heap[k]?=w.heap[k]?:=fun k hk hne=>hg.block k hk fun e=>hne k e.symm rfl
 have g:Goes c w m c' w' m':=by
  refine⟨fun _ _ h=>h,fun k b hb=>hoth b (h.lt k b hb) fun g hg e=>q4 g hg k (e▸hb),fun i hi=>⟨rfl,?_⟩,fun i L hL=>?_⟩
  ·have e:i≠id:=fun e=>by rw[e]at hi;simp[isBox,hm]at hi
   exact(isBox_upd_ne e).2 hi
  ·by_cases e9:i=id
   ·subst e9
    have hL':L=xs.length:=by simpa[rowLen,hm]using hL.symm
    subst hL'
    refine⟨ys.length,by simp[rowLen,m',upd_same],hl,fun e8=>⟨by simp[c',upd_same,hlv e8],fun e2 sz2 xs2 hx=>?_⟩⟩
    have hx':rowsOf m' i=some (e,sz,ys):=by simp only[rowsOf,m',upd_same]
    rw[hx']at hx
    simp at hx
    obtain⟨rfl,rfl,_⟩:=hx
    exact⟨xs,by simp[rowsOf,hm]⟩
   ·refine⟨L,by rw[←hL];exact rowLen_upd_ne m _ e9,Nat.le_refl _,fun _=>⟨upd_ne _ _ e9,fun e2 sz2 xs2 hx=>⟨xs2,by rw[←hx];exact(rowsOf_upd_ne e9).symm⟩⟩⟩
 have hbo:∀i,i≠id→blockOf c' m' i=blockOf c m i:=fun i e=>by simp[blockOf,m',c',upd_ne _ _ e]
 have hB:Below base w w':=⟨hg.os,hg.tape,hg.output,hg.size,fun k hk=>hoth k (Nat.lt_of_lt_of_le hk h.size) fun g hg e=>by have:=(q6.lt g hg).1;omega⟩
 refine⟨g,h.step g (fun _ b hb=>.inl hb) (fun k b hb=>Nat.lt_of_lt_of_le (h.lt k b hb) hg.size) (.of hB) (fun i b hi=>?_) (fun i i' b p1 p2=>?_),?_⟩
 ·by_cases e':i=id
  ·right
   subst e'
   have:b=.rows e sz ys:=by simpa[m',upd_same]using hi.symm
   subst this
   have hc':c'.ψ i=v:=upd_same _ _ _
   refine⟨h1,q2,h3,fun k hk j hs=>?_,vss,h5.mono fun x y _ h=>h.mono fun x y _ h=>h.mono g.S g.heap,by rw[hc'];exact h6⟩
   rw[hc']at hk
   rcases hv k hk with hv|hv
   ·exact q4 k hv j hs
   ·have:=h.lt j k hs;omega
  ·left
   refine⟨by rw[←hi];exact(upd_ne m _ e').symm,rfl,upd_ne _ _ e',fun k hk=>?_⟩
   exact⟨hoth k (h.apart hk).2 fun gg hgg ek=>e' (h.inj i id k hk (by rw[hbof,ek];exact hgg)),fun _=>Iff.rfl⟩
 ·by_cases e:i=id
  ·by_cases e':i'=id
   ·rw[e,e']
   ·subst e
    rw[hbnew]at p1
    rw[hbo i' e']at p2
    rcases hv b p1 with hv|hv
    ·exact h.inj _ _ b (hbof.trans hv) p2
    ·have:=(h.apart p2).2;omega
  ·by_cases e':i'=id
   ·subst e'
    rw[hbnew]at p2
    rw[hbo i e]at p1
    rcases hv b p2 with hv|hv
    ·exact h.inj _ _ b p1 (hbof.trans hv)
    ·have:=(h.apart p1).2;omega
   ·rw[hbo i e]at p1
    rw[hbo i' e']at p2
    exact h.inj _ _ b p1 p2
 ·refine⟨?_,ys.length,by simp[rowLen,m',upd_same],Nat.le_refl _,fun _=>(upd_same _ _ _).symm⟩
  rcases h6.2 with⟨rfl,e0⟩|⟨gg,cap,cur,rfl,_⟩
  ·exact⟨none,0,by rw[e0]⟩
  ·exact⟨_,_,rfl⟩
theorem holds_flat {w:World}{base:Nat}{e:TypeId}{sz n:Nat}{v:Value}{vss:List (List Value)}(h:w.ownsRow base e sz v n vss.flatten)(hsz:∀u∈vss,u.length=sz)(hn:vss.length=n):∀i vs,vss[i]?=some vs→∃g cap,v=.slice (some ⟨g,0,none⟩) n cap∧n≤cap∧cap≤maxLen∧Holds w g (i*sz) vs:=by
 intro i vs hi
 have hlt:i<vss.length:=(List.getElem?_eq_some_iff.1 hi).1
 have hown:=h
 rcases h.2 with⟨_,h0⟩|⟨gg,cap,cur,rfl,e2,e3,e4,e5,r⟩
 ·omega
 ·refine⟨gg,cap,rfl,e4,e5,fun j u hj=>?_⟩
  have hjl:j<vs.length:=(List.getElem?_eq_some_iff.1 hj).1
  have hvs:vs.length=sz:=hsz vs (List.mem_of_getElem? hi)
  have hlt2:i*sz+j<n*sz:=by
   have:=Nat.mul_le_mul_right sz (show i+1≤n by omega)
   rw[Nat.succ_mul]at this
   omega
  rw[hown.cellAt (i*sz+j) hlt2]
  rw[←hj]
  have flat:∀(l:List (List Value)),(∀u∈l,u.length=sz)→∀i vs,l[i]?=some vs→l.flatten[i*sz+j]?=vs[j]?:=by
   intro l
   induction l with
   |nil=>intro _ i vs h;simp at h
   |cons t l ih=>
    intro hl i vs h
    have ht:=hl t (by simp)
    rw[List.flatten_cons]
    cases i with
    |zero=>simp at h;subst h;rw[Nat.zero_mul,Nat.zero_add,List.getElem?_append_left (by omega)]
    |succ i=>
     rw[List.getElem?_append_right (by rw[ht,Nat.succ_mul];omega),ht,show(i+1)*sz+j - sz=i*sz+j by rw[Nat.succ_mul];omega]
     exact ih (fun u hu=>hl u (by simp[hu])) i vs (by simpa using h)
  exact flat vss hsz i vs hi
theorem row_shown {e:TypeId}{sz:Nat}{xs:List (List CV)}{v:Value}{vss:List (List Value)}{S:Sh}(j:Nat)(q1:∀us∈xs,us.length=sz)(q5:F2 (F2 (R S w)) xs vss)(q6:w.ownsRow base e sz v xs.length vss.flatten)(hS:∀g,v.ownBlock=some g→S j g):R S w (.rowc j xs) v:=by
 have hlen:vss.length=xs.length:=q5.1.symm
 have hszv:∀u∈vss,u.length=sz:=fun u hu=>by
  obtain⟨i,hi,rfl⟩:=List.getElem_of_mem hu
  obtain⟨x,hx,hq⟩:=q5.get' (List.getElem?_eq_getElem hi)
  rw[←hq.1]
  exact q1 x (List.mem_of_getElem? hx)
 by_cases hz:xs=[]
 ·subst hz
  rcases q6.2 with⟨e1,_⟩|⟨gg,cap,cur,e1,e2,e3,e4,e5,r⟩
  ·rw[e1];exact .nil
  ·rw[e1];exact .bare e5
 ·have hp:0<vss.length:=by rw[hlen];exact List.length_pos_iff.2 hz
  obtain⟨gg,cap,e1,e4,e5,_⟩:=holds_flat q6 hszv hlen 0 _ (List.getElem?_eq_getElem hp)
  rw[e1]
  refine R.mk (sz:=sz) (vss:=vss) (hS gg (by rw[e1];rfl)) e4 e5 q1 q5 fun i vs hi=>?_
  obtain⟨g2,cap2,f1,_,_,f2⟩:=holds_flat q6 hszv hlen i vs hi
  rw[e1]at f1
  simp at f1
  obtain⟨rfl,_⟩:=f1
  rw[Nat.zero_add]
  exact f2
theorem WR.show (h:WR base S0 w0 c m w){id:Nat}{e:TypeId}{sz:Nat}{xs:List (List CV)}(hm:m id=some (.rows e sz xs))(j:Nat)(b':Blk)(hb':(j=0∧b'=.froz xs)∨(j≠0∧b'=.lent j e sz xs)):let c':Ctx:={c with S:=fun k b=>c.S k b∨(k=j∧(c.ψ id).ownBlock=some b)};let m':=upd m id (some b');Goes c w m c' w m'∧WR base S0 w0 c' m' w∧R c'.S w (.rowc j xs) (c.ψ id):=by
 intro c' m'
 obtain⟨q1,q2,q3,q4,vss,q5,q6⟩:=h.blk id _ hm
 have hbof:blockOf c m id=(c.ψ id).ownBlock:=by simp[blockOf,hm]
 have hl':rowLen m' id=some xs.length:=by
  rcases hb' with⟨_,rfl⟩|⟨_,rfl⟩<;>simp[rowLen,m',upd_same]
 have g:Goes c w m c' w m':=by
  refine⟨fun _ _ h=>.inl h,fun k b _=>rfl,fun i hi=>⟨rfl,?_⟩,fun i L hL=>⟨L,?_,Nat.le_refl _,fun _=>⟨rfl,fun e2 sz2 xs2 hx=>?_⟩⟩⟩
  ·have e:i≠id:=fun e=>by rw[e]at hi;simp[isBox,hm]at hi
   exact(isBox_upd_ne e).2 hi
  ·by_cases e:i=id
   ·subst e
    rw[hl',←hL];simp[rowLen,hm]
   ·rw[←hL];exact rowLen_upd_ne m _ e
  ·by_cases e':i=id
   ·subst e'
    rcases hb' with⟨_,rfl⟩|⟨_,rfl⟩
    ·simp[rowsOf,m',upd_same]at hx
    ·simp[rowsOf,m',upd_same]at hx
     obtain⟨rfl,rfl,rfl⟩:=hx
     exact⟨xs,by simp only[rowsOf,hm]⟩
   ·exact⟨xs2,by rw[←hx];exact(rowsOf_upd_ne e').symm⟩
 have q5':F2 (F2 (R c'.S w)) xs vss:=q5.mono fun x y _ h=>h.mono fun x y _ h=>h.mono (fun k b hb=>.inl hb) fun _ _ _=>rfl
 have hr:R c'.S w (.rowc j xs) (c.ψ id):=row_shown j q1 q5' q6 fun g hg=>.inr ⟨rfl,hg⟩
 refine⟨g,h.step g (fun k b hb=>?_) (fun k b hb=>?_) (.of (Below.refl _ _)) (fun i b hi=>?_) (fun i i' b p1 p2=>?_),hr⟩
 ·rcases hb with hb|⟨_,hb⟩
  ·exact .inl hb
  ·exact .inr (q6.lt b hb).1
 ·rcases hb with hb|⟨_,hb⟩
  ·exact h.lt k b hb
  ·exact(h.apart (hbof.trans hb)).2
 ·by_cases e':i=id
  ·right
   subst e'
   have hbb:b=b':=by simpa[m',upd_same]using hi.symm
   subst hbb
   rcases hb' with⟨rfl,rfl⟩|⟨hj,rfl⟩
   ·exact hr
   ·exact⟨hj,q1,q2,q3,fun g hg k=>⟨fun hs=>hs.elim (fun hs=>absurd hs (q4 g hg k)) (·.1),fun e=>.inr ⟨e,hg⟩⟩,vss,q5',q6⟩
  ·left
   refine⟨by rw[←hi];exact(upd_ne m _ e').symm,rfl,rfl,fun k hk=>⟨rfl,fun j'=>⟨fun hs=>?_,.inl⟩⟩⟩
   rcases hs with hs|⟨_,hs⟩
   ·exact hs
   ·exact absurd (h.inj i id k hk (hbof.trans hs)) e'
 ·have hbo:∀i k,blockOf c' m' i=some k→blockOf c m i=some k:=fun i k hk=>by
   by_cases e:i=id
   ·subst e
    rcases hb' with⟨_,rfl⟩|⟨_,rfl⟩
    ·simp[blockOf,m',upd_same]at hk
    ·rw[hbof];simpa[blockOf,m',upd_same,c']using hk
   ·simpa[blockOf,m',c',upd_ne _ _ e]using hk
  exact h.inj i i' b (hbo i b p1) (hbo i' b p2)
theorem WR.freeze (h:WR base S0 w0 c m w){id:Nat}{e:TypeId}{sz:Nat}{xs:List (List CV)}(hm:m id=some (.rows e sz xs)):let c':Ctx:={c with S:=fun k b=>c.S k b∨(k=0∧(c.ψ id).ownBlock=some b)};let m':=upd m id (some (.froz xs));Goes c w m c' w m'∧WR base S0 w0 c' m' w∧R c'.S w (.row xs) (c.ψ id):=h.show hm 0 _ (.inl ⟨rfl,rfl⟩)
theorem WR.shut (h:WR base S0 w0 c m w){id:Nat}{cs:List A}(hm:m id=some (.box cs)){ds:List CV}(hd:∀(c':Ctx) (vs:List Value),(∀k b,c.S k b→c'.S k b)→(∀k b,c.S k b→w.heap[b]?=w.heap[b]?)→F2 (VA c w m) cs vs→F2 (R c'.S w) ds vs):let c':Ctx:={c with S:=fun k b=>c.S k b∨(k=0∧b=c.φ id)};let m':=upd m id (some (.fbox ds));Goes c w m c' w m'∧WR base S0 w0 c' m' w∧R c'.S w (.ptrc 0 ds 0) (.pointer (some ⟨c.φ id,0,none⟩)):=by
 intro c' m'
 obtain⟨h1,h2,vs,T,h3,h4⟩:=h.blk id _ hm
 have hbof:blockOf c m id=some (c.φ id):=by simp[blockOf,hm]
 have hF:F2 (R c'.S w) ds vs:=hd c' vs (fun k b hb=>.inl hb) (fun _ _ _=>rfl) h4
 have hH:Holds w (c.φ id) 0 vs:=fun j u hj=>by rw[Nat.zero_add];simpa[World.cell?,h3]using hj
 have g:Goes c w m c' w m':=by
  refine⟨fun _ _ h=>.inl h,fun k b _=>rfl,fun i hi=>⟨rfl,?_⟩,fun i L hL=>⟨L,?_,Nat.le_refl _,fun _=>⟨rfl,fun e2 sz2 xs2 hx=>⟨xs2,?_⟩⟩⟩⟩
  ·by_cases e:i=id
   ·subst e;exact .inr (.inl ⟨ds,upd_same _ _ _⟩)
   ·exact(isBox_upd_ne e).2 hi
  ·have e:i≠id:=fun e=>by rw[e]at hL;simp[rowLen,hm]at hL
   rw[←hL];exact rowLen_upd_ne m _ e
  ·have e:i≠id:=fun e=>by rw[e]at hL;simp[rowLen,hm]at hL
   rw[←hx];exact(rowsOf_upd_ne e).symm
 refine⟨g,h.step g (fun k b hb=>?_) (fun k b hb=>?_) (.of (Below.refl _ _)) (fun i b hi=>?_) (fun i i' b p1 p2=>?_),R.ptr (.inr ⟨rfl,rfl⟩) hF.1 hH hF.2⟩
 ·rcases hb with hb|⟨_,rfl⟩
  ·exact .inl hb
  ·exact .inr h1
 ·rcases hb with hb|⟨_,rfl⟩
  ·exact h.lt k b hb
  ·exact(h.apart hbof).2
 ·by_cases e':i=id
  ·right
   subst e'
   have hbb:b=.fbox ds:=by simpa[m',upd_same]using hi.symm
   subst hbb
   exact⟨.inr ⟨rfl,rfl⟩,vs,hF,hH⟩
  ·left
   refine⟨by rw[←hi];exact(upd_ne m _ e').symm,rfl,rfl,fun k hk=>⟨rfl,fun j'=>⟨fun hs=>?_,.inl⟩⟩⟩
   rcases hs with hs|⟨_,rfl⟩
   ·exact hs
   ·exact absurd (h.inj i id _ hk hbof) e'
 ·have hbo:∀i k,blockOf c' m' i=some k→blockOf c m i=some k:=fun i k hk=>by
   by_cases e:i=id
   ·subst e;simp[blockOf,m',upd_same]at hk
   ·simpa[blockOf,m',c',upd_ne _ _ e]using hk
  exact h.inj i i' b (hbo i b p1) (hbo i' b p2)
theorem WR.newBlk (h:WR base S0 w0 c m w){d:Nat}(hd:m d=none)(o:Obj)(bk:Blk)(hb:∀k,blockOf {c with φ:=upd c.φ d w.heap.size} (upd m d (some bk)) d=some k→k=w.heap.size)(hbk:Goes c w m {c with φ:=upd c.φ d w.heap.size} (w.alloc o) (upd m d (some bk))→BlkOK {c with φ:=upd c.φ d w.heap.size} (w.alloc o) (upd m d (some bk)) base w0.L d bk):let c':Ctx:={c with φ:=upd c.φ d w.heap.size};let m':=upd m d (some bk);let w':=w.alloc o;Goes c w m c' w' m'∧WR base S0 w0 c' m' w':=by
 intro c' m' w'
 have hneL:∀id L,rowLen m id=some L→id≠d:=fun id L hm e=>by rw[e]at hm;simp[rowLen,hd]at hm
 have hneB:∀id,isBox m id→id≠d:=fun id hm e=>by rw[e]at hm;simp[isBox,hd]at hm
 have hold:∀k,k<w.heap.size→w'.heap[k]?=w.heap[k]?:=fun k hk=>heap_old w _ hk
 have g:Goes c w m c' w' m':=by
  refine⟨fun _ _ h=>h,fun k b hb=>hold b (h.lt k b hb),fun id hm=>⟨upd_ne _ _ (hneB id hm),(isBox_upd_ne (hneB id hm)).2 hm⟩,fun id L hL=>⟨L,?_,Nat.le_refl _,fun _=>⟨rfl,fun e sz xs hx=>⟨xs,?_⟩⟩⟩⟩
  ·rw[←hL];exact rowLen_upd_ne m _ (hneL id L hL)
  ·rw[←hx];exact(rowsOf_upd_ne (hneL id L hL)).symm
 have hbo:∀id k,id≠d→blockOf c' m' id=some k→blockOf c m id=some k:=fun id k hne hk=>by
  simpa[blockOf,m',c',upd_ne _ _ hne]using hk
 refine⟨g,?_⟩
 refine h.step g (fun _ b hb=>.inl hb) (fun k b hb=>Nat.lt_trans (h.lt k b hb) (by rw[alloc_size];omega)) (.of ((Below.refl _ _).alloc h.size _)) (fun id b hm=>?_) (fun id id' b h1 h2=>?_)
 ·by_cases e:id=d
  ·right
   subst e
   have:b=bk:=by simpa[m',upd_same]using hm.symm
   subst this
   exact hbk g
  ·left
   refine⟨by rw[←hm];exact(upd_ne m _ e).symm,upd_ne _ _ e,rfl,fun k hk=>?_⟩
   exact⟨hold k (h.apart hk).2,fun _=>Iff.rfl⟩
 ·by_cases e:id=d
  ·by_cases e':id'=d
   ·rw[e,e']
   ·subst e
    have q1:=hb b h1
    obtain⟨_,q2⟩:=h.apart (hbo id' b e' h2)
    omega
  ·by_cases e':id'=d
   ·subst e'
    have q1:=hb b h2
    obtain⟨_,q2⟩:=h.apart (hbo id b e h1)
    omega
   ·exact h.inj id id' b (hbo id b e h1) (hbo id' b e' h2)
theorem WR.setBlk (h:WR base S0 w0 c m w){id:Nat}{bk bk':Blk}(hm:m id=some bk)(hb1:blockOf c m id=some (c.φ id))(hb2:blockOf c (upd m id (some bk')) id=some (c.φ id))(hx2:isBox (upd m id (some bk')) id)(hrl:rowLen m id=none)(hS:∀k,¬c.S k (c.φ id))(hL:base≤c.φ id∨w0.L (c.φ id))(hos:w'.os=w.os)(htape:w'.tape=w.tape)(hout:w'.output=w.output)(hsz:w'.heap.size=w.heap.size)(hoth:∀k,k≠c.φ id→w'.heap[k]?=w.heap[k]?)(hbk:Goes c w m c w' (upd m id (some bk'))→BlkOK c w' (upd m id (some bk')) base w0.L id bk'):let m':=upd m id (some bk');Goes c w m c w' m'∧WR base S0 w0 c m' w':=by
 intro m'
 have g:Goes c w m c w' m':=by
  refine⟨fun _ _ h=>h,fun k b hb=>hoth b fun e=>hS k (e▸hb),fun i hi=>⟨rfl,?_⟩,fun i L hL=>⟨L,?_,Nat.le_refl _,fun _=>⟨rfl,fun e sz xs hx=>⟨xs,?_⟩⟩⟩⟩
  ·by_cases e:i=id
   ·subst e;exact hx2
   ·exact(isBox_upd_ne e).2 hi
  ·have e:i≠id:=fun e=>by rw[e,hrl]at hL;simp at hL
   rw[←hL];exact rowLen_upd_ne m _ e
  ·have e:i≠id:=fun e=>by rw[e,hrl]at hL;simp at hL
   rw[←hx];exact(rowsOf_upd_ne e).symm
 have hbo:∀i,blockOf c m' i=blockOf c m i:=fun i=>by
  by_cases e:i=id
  ·subst e;rw[hb1];exact hb2
  ·simp[blockOf,m',upd_ne _ _ e]
 refine⟨g,h.step g (fun _ b hb=>.inl hb) (fun k b hb=>by rw[hsz];exact h.lt k b hb) ⟨hos,htape,hout,by rw[hsz];exact Nat.le_refl _,fun k hk hnl=>hoth k fun e=>by subst e;exact hL.elim (by omega) hnl⟩ (fun i b hi=>?_) (fun i i' b q1 q2=>h.inj i i' b (by rw[←hbo];exact q1) (by rw[←hbo];exact q2))⟩
 by_cases e:i=id
 ·right
  subst e
  have:b=bk':=by simpa[m',upd_same]using hi.symm
  subst this
  exact hbk g
 ·left
  refine⟨by rw[←hi];exact(upd_ne m _ e).symm,rfl,rfl,fun k hk=>⟨hoth k fun e'=>?_,fun _=>Iff.rfl⟩⟩
  subst e'
  exact e (h.inj i id _ hk hb1)
theorem WR.setOpen (h:WR base S0 w0 c m w){id:Nat}{cs cs':List CV}(hm:m id=some (.obox cs)){vs:List Value}(hcs:F2 (R c.S w) cs' vs):let w':=w.setRow (c.φ id) vs.toArray;let m':=upd m id (some (.obox cs'));Goes c w m c w' m'∧WR base S0 w0 c m' w':=by
 intro w' m'
 obtain⟨h1,h2,h5,us,T,h3,h4⟩:=h.blk id _ hm
 exact h.setBlk hm (by simp[blockOf,hm]) (by simp[blockOf,upd_same]) (.inr (.inr (.inr (.inr (.inl ⟨cs',upd_same _ _ _⟩))))) (by simp[rowLen,hm]) h2 h1 rfl rfl rfl (setRow_size _ _ _) (fun k hk=>setRow_other w _ k _ hk)
  fun g=>⟨h1,h2,h5,vs,T,setRow_heap w _ _ _ T _ h3,hcs.mono fun x y _ h=>h.mono g.S g.heap⟩
theorem WR.mkMap (h:WR base S0 w0 c m w){d:Nat}(hd:m d=none)(agg:Bool):let c':Ctx:={c with φ:=upd c.φ d w.heap.size};let m':=upd m d (some (.mapb agg [] []));let w':=w.alloc (.map #[] 0);Goes c w m c' w' m'∧WR base S0 w0 c' m' w'∧VA c' w' m' (.mp d) (.map (some w.heap.size)):=by
 intro c' m' w'
 obtain⟨g,r⟩:=h.newBlk hd (.map #[] 0) (.mapb agg [] []) (fun k hk=>by simpa[blockOf,upd_same]using hk.symm) fun g=>
  ⟨by simp[upd_same];exact h.size,fun k hs=>by have:=h.lt _ _ hs;simp[upd_same]at this,[],⟨⟨#[],0,by simp only[upd_same];exact heap_alloc_new w _,rfl,rfl,rfl,fun i e h=>by simp at h⟩,fun _ vs h=>by simp at h⟩,F2.nil⟩
 exact⟨g,r,.inr (.inr (.inl ⟨_,_,_,upd_same _ _ _⟩)),by simp[c',upd_same]⟩
theorem setIf_size (w:World)(r:Nat)(o:Obj):({w with heap:=w.heap.setIfInBounds r o}:World).heap.size=w.heap.size:=by simp
theorem setIf_other (w:World)(r k:Nat)(o:Obj)(h:k≠r):({w with heap:=w.heap.setIfInBounds r o}:World).heap[k]?=w.heap[k]?:=by
 simp only
 rw[Array.getElem?_setIfInBounds_ne (Ne.symm h)]
theorem setIf_same (w:World)(r:Nat)(o:Obj)(h:r<w.heap.size):({w with heap:=w.heap.setIfInBounds r o}:World).heap[r]?=some o:=by
 simp only
 rw[Array.getElem?_setIfInBounds_self_of_lt h]
theorem WR.setMap (h:WR base S0 w0 c m w){id:Nat}{agg:Bool}{ks ks':List Value}{xs xs':List (List CV)}(hm:m id=some (.mapb agg ks xs)){es:Array MapEntry}{cl:Nat}{vss:List (List Value)}(hk:es.toList.map (·.key)=ks')(hv:es.toList.map (·.val)=vss.map (mkV agg))(hbn:cl=es.size∧∀(i:Nat) (e:MapEntry),es[i]?=some e→e.born=i)(h1:agg=false→∀vs∈vss,vs.length=1)(hF:F2 (F2 (R c.S w)) xs' vss):let w':World:={w with heap:=w.heap.setIfInBounds (c.φ id) (.map es cl)};let m':=upd m id (some (.mapb agg ks' xs'));Goes c w m c w' m'∧WR base S0 w0 c m' w':=by
 intro w' m'
 obtain⟨q1,q2,vs0,⟨⟨es0,cl0,q3,_⟩,_⟩,q5⟩:=h.blk id _ hm
 have hlt:c.φ id<w.heap.size:=(Array.getElem?_eq_some_iff.1 q3).1
 exact h.setBlk hm (by simp[blockOf,hm]) (by simp[blockOf,upd_same]) (.inr (.inr (.inl ⟨_,_,_,upd_same _ _ _⟩))) (by simp[rowLen,hm]) q2 (.inl q1) rfl rfl rfl (setIf_size ..) (fun k hk=>setIf_other w _ k _ hk)
  fun g=>⟨q1,q2,vss,⟨⟨es,cl,setIf_same w _ _ hlt,hk,hv,hbn⟩,h1⟩,hF.mono fun us vs _ h=>h.mono fun x y _ h=>h.mono g.S g.heap⟩
theorem WR.showMap (h:WR base S0 w0 c m w){id:Nat}{agg:Bool}{ks:List Value}{xs:List (List CV)}(hm:m id=some (.mapb agg ks xs)):let c':Ctx:={c with S:=fun k b=>c.S k b∨(k=0∧b=c.φ id)};let m':=upd m id (some (.fmap agg ks xs));Goes c w m c' w m'∧WR base S0 w0 c' m' w:=by
 intro c' m'
 obtain⟨h1,h2,vss,h3,h4⟩:=h.blk id _ hm
 have hbof:blockOf c m id=some (c.φ id):=by simp[blockOf,hm]
 have hF:F2 (F2 (R c'.S w)) xs vss:=h4.mono fun us vs _ h=>h.mono fun x y _ h=>h.mono (fun k b hb=>.inl hb) fun _ _ _=>rfl
 have g:Goes c w m c' w m':=by
  refine⟨fun _ _ h=>.inl h,fun k b _=>rfl,fun i hi=>⟨rfl,?_⟩,fun i L hL=>⟨L,?_,Nat.le_refl _,fun _=>⟨rfl,fun e2 sz2 xs2 hx=>⟨xs2,?_⟩⟩⟩⟩
  ·by_cases e:i=id
   ·subst e;exact .inr (.inr (.inr (.inl ⟨_,_,_,upd_same _ _ _⟩)))
   ·exact(isBox_upd_ne e).2 hi
  ·have e:i≠id:=fun e=>by rw[e]at hL;simp[rowLen,hm]at hL
   rw[←hL];exact rowLen_upd_ne m _ e
  ·have e:i≠id:=fun e=>by rw[e]at hL;simp[rowLen,hm]at hL
   rw[←hx];exact(rowsOf_upd_ne e).symm
 refine⟨g,h.step g (fun k b hb=>?_) (fun k b hb=>?_) (.of (Below.refl _ _)) (fun i b hi=>?_) (fun i i' b p1 p2=>?_)⟩
 ·rcases hb with hb|⟨_,rfl⟩
  ·exact .inl hb
  ·exact .inr h1
 ·rcases hb with hb|⟨_,rfl⟩
  ·exact h.lt k b hb
  ·exact(h.apart hbof).2
 ·by_cases e':i=id
  ·right
   subst e'
   have hbb:b=.fmap agg ks xs:=by simpa[m',upd_same]using hi.symm
   subst hbb
   exact⟨.inr ⟨rfl,rfl⟩,vss,h3,hF⟩
  ·left
   refine⟨by rw[←hi];exact(upd_ne m _ e').symm,rfl,rfl,fun k hk=>⟨rfl,fun j'=>⟨fun hs=>?_,.inl⟩⟩⟩
   rcases hs with hs|⟨_,rfl⟩
   ·exact hs
   ·exact absurd (h.inj i id _ hk hbof) e'
 ·have hbo:∀i k,blockOf c' m' i=some k→blockOf c m i=some k:=fun i k hk=>by
   by_cases e:i=id
   ·subst e;simp[blockOf,m',upd_same]at hk
   ·simpa[blockOf,m',c',upd_ne _ _ e]using hk
  exact h.inj i i' b (hbo i b p1) (hbo i' b p2)
theorem setBs_not {m:Mem}:∀{l:List (Nat×OC)} {i:Nat},i∉opnIds l→setBs m l i=m i:=by
 intro l
 induction l with
 |nil=>intro i _;rfl
 |cons p l ih=>
  intro i h
  obtain⟨b,cs⟩:=p
  simp only[opnIds,List.mem_cons,not_or]at h
  show upd (setBs m l) (1000000+b) (some cs.blk) i=m i
  rw[upd_ne _ _ h.1,ih h.2]
theorem setBs_in {m:Mem}:∀{l:List (Nat×OC)} {i:Nat},i∈opnIds l→∃b cs,i=1000000+b∧(b,cs)∈l∧setBs m l i=some cs.blk:=by
 intro l
 induction l with
 |nil=>intro i h;simp[opnIds]at h
 |cons p l ih=>
  intro i h
  obtain⟨b,cs⟩:=p
  by_cases e:i=1000000+b
  ·subst e
   exact⟨b,cs,rfl,by simp,upd_same _ _ _⟩
  ·have h':i∈opnIds l:=by simpa[opnIds,e]using h
   obtain⟨b',cs',e1,e2,e3⟩:=ih h'
   exact⟨b',cs',e1,by simp[e2],by show upd (setBs m l) (1000000+b) (some cs.blk) i=_;rw[upd_ne _ _ e];exact e3⟩
theorem opnIds_mem {l:List (Nat×OC)}{b:Nat}{cs:OC}(h:(b,cs)∈l):1000000+b∈opnIds l:=by
 induction l with
 |nil=>simp at h
 |cons p l ih=>
  obtain⟨b',cs'⟩:=p
  simp only[opnIds,List.mem_cons]
  rcases List.mem_cons.1 h with h|h
  ·cases h;exact .inl rfl
  ·exact .inr (ih h)
theorem insAt_mem {m:Mem}:∀{l:List (Nat×OC)},insAt m l→∀p∈l,m (1000000+p.1)=some p.2.blk:=by
 intro l
 induction l with
 |nil=>intro _ p hp;simp at hp
 |cons q l ih=>
  intro h p hp
  obtain⟨b,oc⟩:=q
  cases oc with
  |cells cs=>
   obtain⟨h1,h2⟩:=h
   rcases List.mem_cons.1 hp with rfl|hp
   ·show m (1000000+b)=some (.obox cs)
    split at h1
    ·rename_i ds hm;rw[hm,h1]
    ·exact h1.elim
   ·exact ih h2 p hp
  |loop r=>
   obtain⟨h1,h2⟩:=h
   rcases List.mem_cons.1 hp with rfl|hp
   ·show m (1000000+b)=some (.orec r)
    split at h1
    ·rename_i ds hm;rw[hm,h1]
    ·exact h1.elim
   ·exact ih h2 p hp
theorem insAt_of {m:Mem}:∀{l:List (Nat×OC)},(∀p∈l,m (1000000+p.1)=some p.2.blk)→insAt m l:=by
 intro l
 induction l with
 |nil=>intro _;trivial
 |cons p l ih=>
  intro h
  obtain⟨b,oc⟩:=p
  have h1:=h (b,oc) (List.mem_cons_self ..)
  have h2:=ih fun q hq=>h q (List.mem_cons_of_mem _ hq)
  cases oc with
  |cells cs=>exact⟨by rw[show m (1000000+b)=some (.obox cs)from h1],h2⟩
  |loop r=>exact⟨by rw[show m (1000000+b)=some (.orec r)from h1],h2⟩
theorem sameBs_ids:∀{l k:List (Nat×OC)},sameBs l k→opnIds l=opnIds k:=by
 intro l
 induction l with
 |nil=>intro k h;cases k with
  |nil=>rfl
  |cons q k=>exact h.elim
 |cons p l ih=>
  intro k h
  cases k with
  |nil=>exact h.elim
  |cons q k=>
   obtain⟨b,cs⟩:=p
   obtain⟨b',cs'⟩:=q
   obtain⟨rfl,h⟩:=h
   simp only[opnIds,ih h]
theorem WR.callsX (h:WR base S0 w0 c m w){ins outs:List (Nat×OC)}(hin:insAt m ins)(hsame:sameBs ins outs)(hw:BelowX w.heap.size (fun b=>∃cs,(b,cs)∈ins) w w')(T:Sh)(hT:∀k b,T k b→c.S k b∨(w.heap.size≤b∧b<w'.heap.size))(hout:∀p∈outs,BoxAt (fun k b=>c.S k b∨T k b) w' p):let c':Ctx:={c with S:=fun k b=>c.S k b∨T k b};let m':=setBs m outs;Goes c w m c' w' m'∧WR base S0 w0 c' m' w'∧∀i,blockOf c' m' i=blockOf c m i:=by
 intro c' m'
 have hids:=sameBs_ids hsame
 have hS:∀k b,c'.S k b→c.S k b∨(w.heap.size≤b∧b<w'.heap.size):=fun k b hb=>by
  rcases hb with hb|hb
  ·exact .inl hb
  ·exact hT k b hb
 -- what is lent is an open box
 have hop:∀b cs,(b,cs)∈ins→m (1000000+b)=some cs.blk∧c.φ (1000000+b)=b∧(∀k,¬c.S k b)∧(base≤b∨w0.L b):=fun b cs hb=>by
  have hm:=insAt_mem hin _ hb
  have hB:=h.blk _ _ hm
  cases cs with
  |cells ds=>
   obtain⟨q1,q2,q3,_⟩:=hB
   have q3:c.φ (1000000+b)=b:=Nat.add_left_cancel q3
   rw[q3]at q1 q2
   exact⟨hm,q3,q2,q1⟩
  |loop r=>
   obtain⟨q1,q2,q3,_⟩:=hB
   have q3:c.φ (1000000+b)=b:=Nat.add_left_cancel q3
   rw[q3]at q1 q2
   exact⟨hm,q3,q2,q1⟩
 have hobox:∀i,i∈opnIds outs→∃b cs,i=1000000+b∧(b,cs)∈ins∧m i=some cs.blk∧c.φ i=b:=fun i hi=>by
  rw[←hids]at hi
  obtain⟨b,cs,rfl,h2,_⟩:=setBs_in (m:=m) hi
  obtain⟨k1,k2,_⟩:=hop b cs h2
  exact⟨b,cs,rfl,h2,k1,k2⟩
 have hnl:∀k b,c.S k b→¬ ∃cs,(b,cs)∈ins:=fun k b hb ⟨cs,hc⟩=>(hop b cs hc).2.2.1 k hb
 have g:Goes c w m c' w' m':=by
  refine⟨fun _ _ h=>.inl h,fun k b hb=>hw.block b (h.lt k b hb) (hnl k b hb),fun i hi=>⟨rfl,?_⟩,fun i L hL=>?_⟩
  ·by_cases e:i∈opnIds outs
   ·obtain⟨b,cs,_,_,e3⟩:=setBs_in (m:=m) e
    cases cs with
    |cells ds=>exact .inr (.inr (.inr (.inr (.inl ⟨ds,e3⟩))))
    |loop r=>exact .inr (.inr (.inr (.inr (.inr ⟨r,e3⟩))))
   ·have:m' i=m i:=setBs_not e
    unfold isBox at hi ⊢
    rw[this];exact hi
  ·have e:i∉opnIds outs:=fun e=>by
    obtain⟨b,cs,_,_,hm,_⟩:=hobox i e
    cases cs<;>simp[rowLen,hm,OC.blk]at hL
   have:m' i=m i:=setBs_not e
   refine⟨L,by unfold rowLen at hL ⊢;rw[this];exact hL,Nat.le_refl _,fun _=>⟨rfl,fun e2 sz xs hx=>⟨xs,by unfold rowsOf at hx ⊢;rw[this]at hx;exact hx⟩⟩⟩
 have hbo:∀i,blockOf c' m' i=blockOf c m i:=fun i=>by
  by_cases e:i∈opnIds outs
  ·obtain⟨b,cs,_,_,e3⟩:=setBs_in (m:=m) e
   obtain⟨b',cs',_,_,hm,_⟩:=hobox i e
   have e3:m' i=some cs.blk:=e3
   cases cs<;>cases cs'<;>simp[blockOf,e3,hm,c',OC.blk]
  ·have:m' i=m i:=setBs_not e
   unfold blockOf
   rw[this]
 refine⟨g,?_,hbo⟩
 refine h.step g (fun k b hb=>?_) (fun k b hb=>?_) ⟨hw.os,hw.tape,hw.output,hw.size,fun k hk hnL=>hw.block k (Nat.lt_of_lt_of_le hk h.size) fun⟨cs,hc⟩=>(hop k cs hc).2.2.2.elim (by omega) hnL⟩ (fun i b hi=>?_) (fun i i' b p1 p2=>h.inj i i' b (by rw[←hbo];exact p1) (by rw[←hbo];exact p2))
 ·rcases hS k b hb with hb|hb
  ·exact .inl hb
  ·exact .inr (Nat.le_trans h.size hb.1)
 ·rcases hS k b hb with hb|hb
  ·exact Nat.lt_of_lt_of_le (h.lt k b hb) hw.size
  ·exact hb.2
 ·by_cases e:i∈opnIds outs
  ·right
   obtain⟨b1,cs,e1,e2,e3⟩:=setBs_in (m:=m) e
   obtain⟨b',cs',e1',k2,_,k3⟩:=hobox i e
   have:b=cs.blk:=by have hi:setBs m outs i=some b:=hi;rw[e3]at hi;exact(Option.some.inj hi).symm
   subst this
   have hb1:b'=b1:=Nat.add_left_cancel (e1'.symm.trans e1)
   subst hb1
   have hφ:c'.φ i=b':=k3
   have hO:=hout _ e2
   cases cs with
   |cells ds=>
    obtain⟨q1,vs,TT,q2,q3⟩:=hO
    exact⟨by rw[hφ];exact(hop b' cs' k2).2.2.2,by rw[hφ];exact q1,by rw[hφ];exact e1'.symm,vs,TT,by rw[hφ];exact q2,q3⟩
   |loop r=>
    obtain⟨q1,q2⟩:=hO
    exact⟨by rw[hφ];exact(hop b' cs' k2).2.2.2,by rw[hφ];exact q1,by rw[hφ];exact e1'.symm,by rw[hφ];exact q2⟩
  ·left
   have hmi:m' i=m i:=setBs_not e
   refine⟨by rw[←hmi];exact hi,rfl,rfl,fun k hk=>?_⟩
   have q2:=(h.apart hk).2
   refine⟨hw.block k q2 fun⟨cs,hc⟩=>?_,fun j=>⟨fun hs=>?_,.inl⟩⟩
   ·obtain⟨k1,k2,_⟩:=hop k cs hc
    have:=h.inj i (1000000+k) k hk (by cases cs<;>(simp only[blockOf,k1,OC.blk];rw[k2]))
    subst this
    exact e (hids▸opnIds_mem hc)
   ·rcases hS j k hs with hb|hb
    ·exact hb
    ·omega
theorem map_shown {S:Sh}{b:Nat}{agg:Bool}{ks:List Value}{xs:List (List CV)}{vss:List (List Value)}(hS:S 0 b)(h:MapIs w b agg ks vss)(hF:F2 (F2 (R S w)) xs vss):R S w (.mapc agg ks xs) (.map (some b)):=
 .map hS h hF.1 (fun i us vs hu hv=>(hF.2 i us vs hu hv).1) fun i us vs hu hv=>(hF.2 i us vs hu hv).2
end
end
section
def ofCell:Value→A
 | .slice none 0 0=>.nil
 |x=>.c (.v x)
def rawP:Value→Option (Nat×Nat)
 | .pointer (some ⟨b,off,none⟩)=>some (b,off)
 |_=>none
def ofVal:Value→AV
 | .agg cs=>bif cs.toList.all okV then .agg (cs.toList.map ofCell)else .junk
 | .tuple _=>.junk
 |x=>bif okV x then .one (ofCell x)else .junk
inductive Knd where
 |int (k:IntKind)
 |bool
 |str
 |slice (e esz:Nat)
 |arr (n e esz:Nat)
 |struct (fs:List (Nat×Nat×Bool))
 |other
structure TI where
 size:Nat
 bytes:Nat
 agg:Bool
 zero:List A
 knd:Knd
def isAggD:TypeDesc→Bool
 | .struct _=>true
 | .array _ _=>true
 |_=>false
def fldOf (P:Program)(f:Field):Nat×Nat×Bool:=(f.offset,P.cellsOf f.type,match P.underlying f.type with|some d=>isAggD d|none=>true)
def kndOf (P:Program):TypeDesc→Knd
 | .int k=>.int k
 | .bool=>.bool
 | .string=>.str
 | .slice e=>match P.info? e with
  |some ie=>match ie.zero with
   |some z=>bif decide (ie.bytes≤131072)&&decide (z.cells.size=ie.size)&&decide (0<ie.size)&&z.cells.toList.all okV then .slice e ie.size else .other
   |none=>.other
  |none=>.other
 | .array n e=>.arr n e (P.cellsOf e)
 | .struct fs=>bif fs.toList.all (fun f=>(P.info? f.type).isSome&&(P.underlying f.type).isSome)then .struct (fs.toList.map (fldOf P))else .other
 |_=>.other
def TIs (P:Program)(t:TypeId)(ti:TI):Prop:=
 ∃i d z,P.info? t=some i∧P.underlying t=some d∧i.zero=some z∧z.cells.toList.all okV=true∧ti=⟨i.size,i.bytes,isAggD d,z.cells.toList.map ofCell,kndOf P d⟩
def tinfo (P:Program)(t:TypeId):Option TI:=
 match P.info? t with
 |some i=>match P.underlying t with
  |some d=>match i.zero with
   |some z=>bif z.cells.toList.all okV then some ⟨i.size,i.bytes,isAggD d,z.cells.toList.map ofCell,kndOf P d⟩else none
   |none=>none
  |none=>none
 |none=>none
theorem tinfo_is {P:Program}{t:TypeId}{ti:TI}(h:tinfo P t=some ti):TIs P t ti:=by
 unfold tinfo at h
 split at h
 ·rename_i i hi
  split at h
  ·rename_i d hd
   split at h
   ·rename_i z hz
    cases hc:z.cells.toList.all okV with
    |false=>rw[hc]at h;simp at h
    |true=>
     rw[hc]at h
     cases h
     exact⟨i,d,z,hi,hd,hz,hc,rfl⟩
   ·simp at h
  ·simp at h
 ·simp at h
structure St where
 n:Nat
 t:Nat→AV
 m:Mem
def ev (σ:St):Operand→AV
 | .tmp t=>bif decide (t<σ.n)then σ.t t else .junk
 | .const v=>ofVal v
 | .func f=>.one (.c (.fn f false [] []))
 | .global g=>match tabsV g with
  |some vs=>.one (.c (.ptrc 0 (vs.map .v) 0))
  |none=>.junk
def hasN:List Nat→Nat→Bool
 | [],_=>false
 |x::l,i=>x==i||hasN l i
theorem hasN_iff {l:List Nat}{i:Nat}:hasN l i=true↔i∈l:=by
 induction l with
 |nil=>simp[hasN]
 |cons x l ih=>simp[hasN,ih];exact⟨fun h=>h.imp Eq.symm (fun h=>h),fun h=>h.imp Eq.symm (fun h=>h)⟩
def only (ids:List Nat)(m:Mem):Mem:=fun i=>bif hasN ids i then m i else none
def mrg (ids:List Nat)(nw m:Mem):Mem:=fun i=>bif hasN ids i then nw i else m i
structure Eff where
 ok:Prop
 val:AV
 new:Mem
structure Req where
 ids:List Nat
 wr:Bool
 f:Mem→Eff
def Req.bad:Req:=⟨[],false,fun _=>⟨False,.junk,fun _=>none⟩⟩
def Req.val (ok:Prop)(v:AV):Req:=⟨[],false,fun _=>⟨ok,v,fun _=>none⟩⟩
def Req.read (ids:List Nat)(f:Mem→Prop×AV):Req:=⟨ids,false,fun m=>⟨(f m).1,(f m).2,fun _=>none⟩⟩
def Req.eff (r:Req)(m:Mem):Eff:=r.f (only r.ids m)
def Req.mem (r:Req)(m:Mem):Mem:=bif r.wr then mrg r.ids (r.eff m).new m else m
inductive RE where
 |c (x:CV)
 |own (e:TypeId) (sz:Nat) (xs:List (List CV))
inductive RV where
 |one (x:CA)
 |tup (rs:List CA)
 |own (e:TypeId) (sz:Nat) (xs:List (List CV))
 |mix (rs:List (Bool×List RE))
 |bx (ins outs:List (Nat×OC)) (rs:List CA)
def CA.av:CA→AV
 | .one x=>.one (.c x)
 | .agg cs=>.agg (cs.map .c)
 | .nil=>.one .nil
def RO (base:Nat)(S:Sh)(w:World)(e:TypeId)(sz:Nat)(xs:List (List CV))(v:Value):Prop:=
 (∀us∈xs,us.length=sz)∧0<sz∧xs.length≤1073741824∧(∀g,v.ownBlock=some g→∀k,¬S k g)∧∃vss:List (List Value),F2 (F2 (R S w)) xs vss∧w.ownsRow base e sz v xs.length vss.flatten
def RRE (base:Nat)(S:Sh)(w:World):RE→Value→Prop
 | .c x,u=>R S w x u
 | .own e sz xs,u=>RO base S w e sz xs u
inductive MixR (base:Nat)(S:Sh)(w:World):List (Bool×List RE)→List Value→List (RE×Value)→Prop
 |nil:MixR base S w [] [] []
 |agg {cs:List RE} {us:List Value} {rs:List (Bool×List RE)} {vs:List Value} {ps:List (RE×Value)}:F2 (RRE base S w) cs us→MixR base S w rs vs ps→MixR base S w ((true,cs)::rs) (.agg us.toArray::vs) (cs.zip us++ps)
 |one {r:RE} {u:Value} {rs:List (Bool×List RE)} {vs:List Value} {ps:List (RE×Value)}:RRE base S w r u→MixR base S w rs vs ps→MixR base S w ((false,[r])::rs) (u::vs) ((r,u)::ps)
def apartP (p q:RE×Value):Prop:=match p.1,q.1 with
 | .own _ _ _,.own _ _ _=>∀b,p.2.ownBlock=some b→q.2.ownBlock≠some b
 |_,_=>True
def valOf:List Value→Value
 | [x]=>x
 |l=>.tuple l.toArray
def RRs (S:Sh)(w:World):List CA→Value→Prop
 | [x],v=>RC S w x v
 |l,v=>∃vs:List Value,v=.tuple vs.toArray∧F2 (RC S w) l vs
def insOf:RV→List (Nat×OC)
 | .bx ins _ _=>ins
 |_=>[]
def outsOf:RV→List (Nat×OC)
 | .bx _ outs _=>outs
 |_=>[]
def lentR (r:RV)(b:Nat):Prop:=∃cs,(b,cs)∈insOf r
def RR (base:Nat)(S:Sh)(w:World):RV→Value→Prop
 | .one x,v=>RC S w x v
 | .tup rs,v=>∃vs:List Value,v=.tuple vs.toArray∧F2 (RC S w) rs vs
 | .own e sz xs,v=>RO base S w e sz xs v
 | .mix rs,v=>∃vs ps,MixR base S w rs vs ps∧ps.Pairwise apartP∧v=valOf vs
 | .bx _ outs rs,v=>RRs S w rs v∧∀p∈outs,BoxAt S w p
def FnOK (P:Program) (f:FuncId):Prop:=∃fn,P.funcs[f]?=some fn∧fn.body.isNone=false∧(fn.name == "runtime.NumGoroutine")=false
def ACalls (P:Program)(f:FuncId)(args:List CA)(r:RV):Prop:=
 FnOK P f∧∀(S:Sh) (w:World) (vs:List Value),(∀k b,S k b→b<w.heap.size)→Gl S w→F2 (RC S w) args vs→(∀p∈insOf r,BoxAt S w p)→
  Calls P f vs.toArray w fun e w'=>∃(v:Value) (T:Sh),e=.returned v∧(∀k b,T k b→S k b∨(w.heap.size≤b∧b<w'.heap.size))∧RR w.heap.size (fun k b=>S k b∨T k b) w' r v∧BelowX w.heap.size (lentR r) w w'
abbrev Fw (ro:Option Nat):Fence:={Fence.wide with round:=ro}
def roundTmps (R:Loop)(vs:List Value):Array Value:=(R.params.zip vs.toArray).foldl (fun tmps (t,a)=>tmps.setIfInBounds t a) R.tmps
def AYields (P:Program)(l:Nat)(args:List CA)(r:RV):Prop:=
 (∃rc,rc.pend=none∧(l,OC.loop rc)∈insOf r)∧∀(ro:Option Nat) (S:Sh) (w:World) (vs:List Value),(∀k b,S k b→b<w.heap.size)→Gl S w→F2 (RC S w) args vs→(∀p∈insOf r,BoxAt S w p)→
  ∀R:Loop,w.heap[l]?=some (.loop R)→vs.length=R.params.size∧RoundIn (Fw ro) 0 P l R.fn (roundTmps R vs) R.assign R.body w fun e w'=>∃(v:Value) (T:Sh),e=.returned v∧(∀k b,T k b→S k b∨(w.heap.size≤b∧b<w'.heap.size))∧
   RR w.heap.size (fun k b=>S k b∨T k b) w' r v∧BelowX w.heap.size (lentR r) w w'
def yieldOf:Value→Option Nat
 | .func (.yield l) ⟨[]⟩ ⟨[]⟩=>some l
 |_=>none
theorem yieldOf_func (l:Nat):yieldOf (.func (.yield l) #[] #[])=some l:=rfl
theorem yieldOf_eq {v:Value}{l:Nat}(h:yieldOf v=some l):v=.func (.yield l) #[] #[]:=by
 unfold yieldOf at h
 split at h
 ·cases h;rfl
 ·simp at h
def ownIds:List A→List Nat
 | []=>[]
 | .own id _::l=>id::ownIds l
 | .mp id::l=>id::ownIds l
 |_::l=>ownIds l
def clo (m:Mem):A→CV
 | .c x=>x
 | .own id _=>match m id with
  |some (.rows _ _ xs)=>.row xs
  |some (.froz xs)=>.row xs
  |some (.lent j _ _ xs)=>.rowc j xs
  |_=>.row []
 | .mp id=>match m id with
  |some (.mapb a ks xs)=>.mapc a ks xs
  |some (.fmap a ks xs)=>.mapc a ks xs
  |_=>.row []
 | .full k xs=>.rowc k xs
 | .el k cs off=>.ptrc k cs off
 | .nil=>.row []
 | .bare=>.row []
 |_=>.row []
def cloOK (m:Mem):A→Prop
 | .c _=>True
 | .own id n=>match m id with
  |some (.rows _ _ xs)=>xs.length=n
  |some (.froz xs)=>xs.length=n
  |some (.lent _ _ _ xs)=>xs.length=n
  |_=>False
 | .mp id=>match m id with
  |some (.mapb _ _ _)=>True
  |some (.fmap _ _ _)=>True
  |_=>False
 | .full _ _=>True
 | .el _ _ _=>True
 | .nil=>True
 | .bare=>True
 |_=>False
def cloAll (m:Mem):List A→Prop
 | []=>True
 | [a]=>cloOK m a
 |a::l=>cloOK m a∧cloAll m l
def frzB:Option Blk→Option Blk
 |some (.rows _ _ xs)=>some (.froz xs)
 |some (.mapb a ks xs)=>some (.fmap a ks xs)
 |b=>b
def frz (m:Mem):Mem:=fun i=>frzB (m i)
def AV.cells:AV→List A
 | .one a=>[a]
 | .agg cs=>cs
 |_=>[]
def AV.flat:AV→Bool
 | .one _=>true
 | .agg _=>true
 |_=>false
def cloAV (m:Mem):AV→CA
 | .one a=>.one (clo m a)
 | .agg cs=>.agg (cs.map (clo m))
 |_=>.agg []
def cloArg (m:Mem):AV→CA
 | .one .nil=>.nil
 | .one a=>.one (clo m a)
 | .agg cs=>.agg (cs.map (clo m))
 |_=>.agg []
def splice {α:Type}(cs:List α)(off:Nat)(us:List α):List α:=cs.take off++us++cs.drop (off+us.length)
def icmp:BinOp→Int→Int→Option Bool
 | .eql,a,b=>some (a==b)
 | .neq,a,b=>some (a != b)
 | .lss,a,b=>some (decide (a<b))
 | .leq,a,b=>some (decide (a≤b))
 | .gtr,a,b=>some (decide (a > b))
 | .geq,a,b=>some (decide (a≥b))
 |_,_,_=>none
def iari:BinOp→IntKind→Int→Int→Option Int
 | .add,k,a,b=>some (k.wrap (a+b))
 | .sub,k,a,b=>some (k.wrap (a - b))
 | .mul,k,a,b=>some (k.wrap (a*b))
 | .quo,k,a,b=>bif decide (b=0)then none else some (k.wrap (a.tdiv b))
 | .and,k,a,b=>some (k.wrap (BitVec.ofInt k.bits a &&& BitVec.ofInt k.bits b).toNat)
 | .or,k,a,b=>some (k.wrap (BitVec.ofInt k.bits a ||| BitVec.ofInt k.bits b).toNat)
 | .xor,k,a,b=>some (k.wrap (BitVec.ofInt k.bits a ^^^ BitVec.ofInt k.bits b).toNat)
 | .andNot,k,a,b=>some (k.wrap (BitVec.ofInt k.bits a &&& ~~~ BitVec.ofInt k.bits b).toNat)
 |_,_,_,_=>none
def vbin (op:BinOp):Value→Value→Option Value
 | .int k a,.int k' b=>bif decide (k=k')then match icmp op a b with
  |some c=>some (.bool c)
  |none=>match iari op k a b with
   |some c=>some (.int k c)
   |none=>none
  else none
 |_,_=>none
def eqCV:CV→CV→Option Bool
 | .v (.int k a),.v (.int k' b)=>bif decide (k=k')then some (a==b)else none
 | .v (.bool a),.v (.bool b)=>some (a==b)
 |_,_=>none
def eqA:A→A→Option Bool
 | .c x,.c y=>eqCV x y
 |_,_=>none
def eqL:List A→List A→Option Bool
 | [],[]=>some true
 | [x],[y]=>eqA x y
 |x::xs,y::ys=>match eqA x y with
  |some b=>match eqL xs ys with
   |some c=>some (b&&c)
   |none=>none
  |none=>none
 |_,_=>none
def shV:Value→Option (Option IntKind)
 | .int k _=>some (some k)
 | .bool _=>some none
 |_=>none
def shA:A→Option (Option IntKind)
 | .c (.v x)=>shV x
 |_=>none
def eqV:Value→Value→Bool
 | .int _ a,.int _ b=>a==b
 | .bool a,.bool b=>a==b
 |_,_=>false
def eqVs:List Value→List Value→Bool
 |x::xs,y::ys=>eqV x y&&eqVs xs ys
 |_,_=>true
def EqOK (P:Program)(t:TypeId)(sh:List (Option (Option IntKind))):Prop:=P.eqGuardType P.depth t=false∧∀(us vs:List Value) (w:World),us.map shV=sh→vs.map shV=sh→
 (Op.equal t (.agg us.toArray) (.agg vs.toArray)).run P w=.ok (eqVs us vs) w
def rd (ti:TI)(cs:List A)(off:Nat):Prop×AV:=
 bif ti.agg then(off+ti.size≤cs.length,.agg ((cs.drop off).take ti.size))else match cs[off]? with
  |some a=>(True,.one a)
  |none=>(False,.junk)
def rLoad (P:Program)(T:TypeId)(x:AV):Req:=match tinfo P T with
 |none=>.bad
 |some ti=>match x with
  | .one (.ptr id off)=>.read [id] fun m=>match m id with
   |some (.box cs)=>rd ti cs off
   |some (.fbox cs)=>rd ti (cs.map .c) off
   |_=>(False,.junk)
  | .one (.el _ cs off)=>.val (rd ti (cs.map .c) off).1 (rd ti (cs.map .c) off).2
  | .one (.c (.ptrc _ cs off))=>.val (rd ti (cs.map .c) off).1 (rd ti (cs.map .c) off).2
  | .one (.c (.v x))=>match rawP x with
   |some (b,off)=>.read [1000000+b] fun m=>match m (1000000+b)with
    |some (.obox cs)=>rd ti (cs.map .c) off
    |_=>(False,.junk)
   |none=>.bad
  | .one (.pel id n i off)=>.read [id] fun m=>match rowsOf m id with
   |some (_,_,xs)=>(xs.length=n∧i<n∧(rd ti ((xs.getD i []).map .c) off).1,(rd ti ((xs.getD i []).map .c) off).2)
   |_=>(False,.junk)
  |_=>.bad
def rStore (P:Program)(T:TypeId)(x u:AV):Req:=match tinfo P T with
 |none=>.bad
 |some ti=>match x with
  | .one (.ptr id off)=>⟨[id],true,fun m=>match m id with
   |some (.box cs)=>⟨u.flat=true∧u.cells.length=ti.size∧off+u.cells.length≤cs.length,.junk,fun _=>some (.box (splice cs off u.cells))⟩
   |_=>⟨False,.junk,fun _=>none⟩⟩
  | .one (.pel id n i off)=>⟨id::ownIds u.cells,true,fun m=>match m id with
   |some (.rows e sz xs)=>⟨u.flat=true∧u.cells.length=ti.size∧xs.length=n∧i<n∧off+ti.size≤sz∧cloAll m u.cells∧hasN (ownIds u.cells) id=false,.junk,fun j=>bif j==id then some (.rows e sz (xs.set i (bif off==0&&ti.size==sz then u.cells.map (clo m)else splice (xs.getD i []) off (u.cells.map (clo m)))))else frz m j⟩
   |_=>⟨False,.junk,fun _=>none⟩⟩
  | .one (.c (.v x))=>match rawP x with
   |some (b,off)=>⟨(1000000+b)::ownIds u.cells,true,fun m=>match m (1000000+b)with
    |some (.obox cs)=>⟨u.flat=true∧u.cells.length=ti.size∧off+u.cells.length≤cs.length∧cloAll m u.cells∧hasN (ownIds u.cells) (1000000+b)=false,.junk,fun j=>bif j==1000000+b then some (.obox (splice cs off (u.cells.map (clo m))))else frz m j⟩
    |_=>⟨False,.junk,fun _=>none⟩⟩
   |none=>.bad
  |_=>.bad
def rField (P:Program)(T:TypeId)(x:AV)(f:Nat):Req:=match tinfo P T with
 |some ⟨_,_,_,_,.struct fs⟩=>match fs[f]?,x with
  |some (o,sz,_),.one (.ptr id off)=>.val (sz≠0) (.one (.ptr id (off+o)))
  |some (o,sz,_),.one (.el k cs off)=>.val (sz≠0) (.one (.el k cs (off+o)))
  |some (o,sz,_),.one (.c (.ptrc k cs off))=>.val (sz≠0) (.one (.el k cs (off+o)))
  |some (o,sz,_),.one (.pel id n i off)=>.read [id] fun m=>match rowsOf m id with
   |some (_,_,xs)=>(xs.length=n∧sz≠0,.one (.pel id n i (off+o)))
   |_=>(False,.junk)
  |some (o,sz,_),.one (.c (.v x))=>match rawP x with
   |some (b,off)=>.val (sz≠0) (.one (.c (.v (.pointer (some ⟨b,off+o,none⟩)))))
   |none=>.bad
  |_,_=>.bad
 |_=>.bad
def rFieldV (P:Program)(T:TypeId)(x:AV)(f:Nat):Req:=match tinfo P T with
 |some ⟨_,_,_,_,.struct fs⟩=>match fs[f]?,x with
  |some (o,sz,ag),.agg cs=>bif ag then .val True (.agg ((cs.drop o).take sz))else match cs[o]? with
   |some a=>.val True (.one a)
   |none=>.bad
  |_,_=>.bad
 |_=>.bad
def rIndex (P:Program)(T:TypeId)(x i:AV):Req:=match tinfo P T with
 |some ⟨_,_,_,_,.slice _ esz⟩=>match x,i with
  | .one (.c (.rowc k xs)),.one (.c (.v (.int _ i)))=>.val (0≤i∧i.toNat<xs.length∧(xs.getD i.toNat []).length=esz∧esz≠0) (.one (.el k (xs.getD i.toNat []) 0))
  | .one (.full k xs),.one (.c (.v (.int _ i)))=>.val (0≤i∧i.toNat<xs.length∧(xs.getD i.toNat []).length=esz∧esz≠0) (.one (.el k (xs.getD i.toNat []) 0))
  | .one (.own id n),.one (.c (.v (.int _ i)))=>.read [id] fun m=>match m id with
   |some (.rows _ sz xs)=>(xs.length=n∧0≤i∧i.toNat<xs.length∧sz=esz,.one (.pel id n i.toNat 0))
   |some (.froz xs)=>(xs.length=n∧0≤i∧i.toNat<xs.length∧(xs.getD i.toNat []).length=esz∧esz≠0,.one (.el 0 (xs.getD i.toNat []) 0))
   |some (.lent _ _ sz xs)=>(xs.length=n∧0≤i∧i.toNat<xs.length∧sz=esz,.one (.pel id n i.toNat 0))
   |_=>(False,.junk)
  |_,_=>.bad
 |some ⟨_,_,_,_,.arr len _ esz⟩=>match x,i with
  | .one (.ptr id off),.one (.c (.v (.int _ i)))=>.val (0≤i∧i.toNat<len∧esz≠0) (.one (.ptr id (off+i.toNat*esz)))
  | .one (.el k cs off),.one (.c (.v (.int _ i)))=>.val (0≤i∧i.toNat<len∧esz≠0) (.one (.el k cs (off+i.toNat*esz)))
  | .one (.c (.ptrc k cs off)),.one (.c (.v (.int _ i)))=>.val (0≤i∧i.toNat<len∧esz≠0) (.one (.el k cs (off+i.toNat*esz)))
  | .one (.c (.v x)),.one (.c (.v (.int _ i)))=>match rawP x with
   |some (b,off)=>.val (0≤i∧i.toNat<len∧esz≠0) (.one (.c (.v (.pointer (some ⟨b,off+i.toNat*esz,none⟩)))))
   |none=>.bad
  |_,_=>.bad
 |_=>.bad
def byteAt (s:ByteArray)(i:Nat):Int:=match s[i]? with
 |some b=>(b.toNat:Int)
 |none=>0
def rIndexV (P:Program)(T:TypeId)(x i:AV):Req:=match tinfo P T with
 |some ⟨_,_,_,_,.arr len e esz⟩=>match tinfo P e with
  |some ti=>match x,i with
   | .agg cs,.one (.c (.v (.int _ i)))=>.val (0≤i∧i.toNat<len∧ti.size=esz∧(rd ti cs (i.toNat*esz)).1) (rd ti cs (i.toNat*esz)).2
   |_,_=>.bad
  |none=>.bad
 |some ⟨_,_,_,_,.str⟩=>match x,i with
  | .one (.c (.v (.string s))),.one (.c (.v (.int _ i)))=>.val (0≤i∧i.toNat<s.size) (.one (.c (.v (.int .u8 (byteAt s i.toNat)))))
  |_,_=>.bad
 |_=>.bad
def isAggV:Value→Bool
 | .agg _=>true
 |_=>false
inductive KD where
 |num (q:IntKind)
 |str (t:TypeId) (sh:List (Option (Option IntKind)))
def keyTI (P:Program)(k:TypeId):Option KD:=match P.underlying k with
 |some (.int q)=>some (.num q)
 |some (.struct _)=>match P.info? k with
  |some i=>match i.zero with
   |some (.agg cs)=>some (.str k (cs.toList.map shV))
   |_=>none
  |none=>none
 |_=>none
def mapTI (P:Program)(T:TypeId):Option (KD×TypeId):=match P.underlying T with
 |some (.map k e)=>match keyTI P k with
  |some kd=>match P.info? e with
   |some i=>match P.underlying e with
    |some d=>match i.zero with
     |some z=>bif isAggV z==isAggD d then some (kd,e)else none
     |none=>none
    |none=>none
   |none=>none
  |none=>none
 |_=>none
def rLen (P:Program)(T:TypeId)(x:AV):Req:=match tinfo P T with
 |some ⟨_,_,_,_,.slice _ _⟩=>match x with
  | .one (.c (.rowc _ xs))=>.val True (.one (.c (.v (.int .i64 xs.length))))
  | .one (.full _ xs)=>.val True (.one (.c (.v (.int .i64 xs.length))))
  | .one .nil=>.val True (.one (.c (.v (.int .i64 0))))
  | .one .bare=>.val True (.one (.c (.v (.int .i64 0))))
  | .one (.own _ n)=>.val True (.one (.c (.v (.int .i64 n))))
  |_=>.bad
 |some ⟨_,_,_,_,.str⟩=>match x with
  | .one (.c (.v (.string s)))=>.val (inK .i64 s.size=true) (.one (.c (.v (.int .i64 s.size))))
  |_=>.bad
 |some ⟨_,_,_,_,.other⟩=>match mapTI P T with
  |some _=>match x with
   | .one (.mp id)=>.read [id] fun m=>match m id with
    |some (.mapb _ ks _)=>(inK .i64 ks.length=true,.one (.c (.v (.int .i64 ks.length))))
    |some (.fmap _ ks _)=>(inK .i64 ks.length=true,.one (.c (.v (.int .i64 ks.length))))
    |_=>(False,.junk)
   | .one (.c (.mapc _ ks _))=>.val (inK .i64 ks.length=true) (.one (.c (.v (.int .i64 ks.length))))
   |_=>.bad
  |none=>.bad
 |_=>.bad
def srcOf (m:Mem):AV→Option (List (List CV))
 | .one (.c (.rowc _ ys))=>some ys
 | .one (.full _ ys)=>some ys
 | .one .nil=>some []
 | .one .bare=>some []
 | .one (.own id _)=>match m id with
  |some (.rows _ _ ys)=>some ys
  |some (.froz ys)=>some ys
  |some (.lent _ _ _ ys)=>some ys
  |_=>none
 |_=>none
def srcOK (m:Mem):AV→Prop
 | .one (.own id n)=>match m id with
  |some (.rows _ _ ys)=>ys.length=n
  |some (.froz ys)=>ys.length=n
  |some (.lent _ _ _ ys)=>ys.length=n
  |_=>False
 |_=>True
def rAppend (P:Program)(dst:Option Nat)(T T':TypeId)(s x:AV):Req:=match tinfo P T with
 |some ⟨_,_,_,_,.slice e esz⟩=>match s with
  | .one (.own id n)=>⟨id::ownIds x.cells,true,fun m=>match m id with
   |some (.rows e' sz xs)=>match srcOf m x with
    |some ys=>⟨T'=T∧e'=e∧sz=esz∧xs.length=n∧srcOK m x∧hasN (ownIds x.cells) id=false∧(∀us∈ys,us.length=esz)∧xs.length+ys.length≤1073741824,.one (.own id (xs.length+ys.length)),fun i=>bif i==id then some (.rows e sz (xs++ys))else m i⟩
    |none=>⟨False,.junk,fun _=>none⟩
   |_=>⟨False,.junk,fun _=>none⟩⟩
  | .one .nil=>match dst with
   |some d=>⟨d::ownIds x.cells,true,fun m=>match m d with
    |none=>match srcOf m x with
     |some ys=>⟨T'=T∧0<esz∧srcOK m x∧(∀us∈ys,us.length=esz)∧ys.length≤1073741824,.one (.own d ys.length),fun i=>bif i==d then some (.rows e esz ys)else m i⟩
     |none=>⟨False,.junk,fun _=>none⟩
    |some _=>⟨False,.junk,fun _=>none⟩⟩
   |none=>.bad
  | .one (.full k xs)=>match dst with
   |some d=>⟨d::ownIds x.cells,true,fun m=>match m d with
    |none=>match srcOf m x with
     |some []=>⟨T'=T∧srcOK m x∧(∀us∈xs,us.length=esz),.one (.full k xs),m⟩
     |some ys=>⟨T'=T∧0<esz∧srcOK m x∧ys≠[]∧(∀us∈xs,us.length=esz)∧(∀us∈ys,us.length=esz)∧xs.length+ys.length≤1073741824,.one (.own d (xs.length+ys.length)),fun i=>bif i==d then some (.rows e esz (xs++ys))else m i⟩
     |none=>⟨False,.junk,fun _=>none⟩
    |some _=>⟨False,.junk,fun _=>none⟩⟩
   |none=>.bad
  |_=>.bad
 |_=>.bad
def partsA (g:Operand→AV)(ps:List (Nat×Operand)):List (Nat×AV):=ps.map fun p=>(p.1,g p.2)
def fillA {α:Type}(place:Nat→Option (Nat×Nat))(cs:List α):List (Nat×List α)→Option (List α)
 | []=>some cs
 | (i,us)::rest=>match place i with
  |none=>none
  |some (off,size)=>bif decide (us.length=size)&&decide (off+us.length≤cs.length)then fillA place (splice cs off us) rest else none
def allFlat:List (Nat×AV)→Bool
 | []=>true
 | (_,x)::l=>x.flat&&allFlat l
def rBuild (P:Program)(T:TypeId)(ps:List (Nat×AV)):Req:=match tinfo P T with
 |some ⟨_,_,_,zero,.struct fs⟩=>match fillA (fun i=>match fs[i]? with|some (o,sz,_)=>some (o,sz)|none=>none) zero (ps.map fun p=>(p.1,p.2.cells))with
  |some cs=>.val (allFlat ps=true) (.agg cs)
  |none=>.bad
 |some ⟨_,_,_,zero,.arr _ _ esz⟩=>match fillA (fun i=>some (i*esz,esz)) zero (ps.map fun p=>(p.1,p.2.cells))with
  |some cs=>.val (allFlat ps=true∧esz≠0) (.agg cs)
  |none=>.bad
 |_=>.bad
def idxOK:List (Nat×AV)→Nat→Bool
 | [],_=>true
 | (i,_)::l,k=>i==k&&idxOK l (k+1)
def rowsOK (m:Mem)(esz:Nat):List (Nat×AV)→Prop
 | []=>True
 | [(_,x)]=>x.cells.length=esz∧cloAll m x.cells
 | (_,x)::l=>(x.cells.length=esz∧cloAll m x.cells)∧rowsOK m esz l
def rBuildSlice (P:Program)(dst:Option Nat)(T:TypeId)(len:Nat)(ps:List (Nat×AV)):Req:=match tinfo P T with
 |some ⟨_,_,_,_,.slice e esz⟩=>match dst with
  |some d=>⟨d::ownIds (ps.map fun p=>p.2.cells).flatten,true,fun m=>match m d with
   |none=>⟨allFlat ps=true∧idxOK ps 0=true∧ps.length=len∧len*esz≤16777216∧rowsOK m esz ps,.one (.own d len),fun i=>bif i==d then some (.rows e esz (ps.map fun p=>p.2.cells.map (clo m)))else frz m i⟩
   |some _=>⟨False,.junk,fun _=>none⟩⟩
  |none=>.bad
 |_=>.bad
def nilA:A→Option Bool
 | .nil=>some true
 | .bare=>some false
 | .c (.rowc _ (_::_))=>some false
 | .full _ (_::_)=>some false
 |_=>none
def isFn (P:Program)(T:TypeId):Bool:=match P.underlying T with
 |some (.func _ _ _)=>true
 |_=>false
def rBin (P:Program)(op:BinOp)(T:TypeId)(x y:AV):Req:=match x,y with
 | .one (.c (.v a)),.one (.c (.v b))=>match vbin op a b with
  |some v=>.val True (.one (.c (.v v)))
  |none=>match a,b,tinfo P T with
   | .bool a,.bool b,some ⟨_,_,_,_,.bool⟩=>match op with
    | .eql=>.val True (.one (.c (.v (.bool (a==b)))))
    | .neq=>.val True (.one (.c (.v (.bool (!(a==b))))))
    |_=>.bad
   | .string a,.string b,_=>match op with
    | .eql=>.val True (.one (.c (.v (.bool (a.toList==b.toList)))))
    | .neq=>.val True (.one (.c (.v (.bool (!(a.toList==b.toList))))))
    | .add=>.val (a.size+b.size≤1073741824) (.one (.c (.v (.string (a++b)))))
    |_=>.bad
   | .int k a,.int k' b,_=>match op with
    | .rem=>.val (k=k'∧b≠0∧inK k (a.tmod b)=true) (.one (.c (.v (.int k (a.tmod b)))))
    | .shl=>.val (0≤b) (.one (.c (.v (.int k (k.wrap (a*2 ^ min b.toNat k.bits))))))
    | .shr=>.val (0≤b∧inK k (a.fdiv (2 ^ min b.toNat k.bits))=true) (.one (.c (.v (.int k (a.fdiv (2 ^ min b.toNat k.bits))))))
    |_=>.bad
   | .nilFunc,.nilFunc,_=>match op with
    | .eql=>.val (isFn P T=true) (.one (.c (.v (.bool true))))
    | .neq=>.val (isFn P T=true) (.one (.c (.v (.bool false))))
    |_=>.bad
   |_,_,_=>.bad
 | .one (.c (.fn _ _ _ _)),.one (.c (.v .nilFunc))=>match op with
  | .eql=>.val (isFn P T=true) (.one (.c (.v (.bool false))))
  | .neq=>.val (isFn P T=true) (.one (.c (.v (.bool true))))
  |_=>.bad
 | .one a,.one .nil=>match tinfo P T,nilA a with
  |some ⟨_,_,_,_,.slice _ _⟩,some b=>match op with
   | .eql=>.val True (.one (.c (.v (.bool b))))
   | .neq=>.val True (.one (.c (.v (.bool (!b)))))
   |_=>.bad
  |_,_=>.bad
 | .agg cs,.agg ds=>match eqL cs ds with
  |some b=>match op with
   | .eql=>.val (EqOK P T (cs.map shA)) (.one (.c (.v (.bool b))))
   | .neq=>.val (EqOK P T (cs.map shA)) (.one (.c (.v (.bool (!b)))))
   |_=>.bad
  |none=>.bad
 |_,_=>.bad
def bndOf (v:Option AV)(d:Nat):Option Int:=match v with
 |none=>some d
 |some (.one (.c (.v (.int _ i))))=>some i
 |_=>none
def partOf (xs:List (List CV))(l h:Int):List (List CV):=(xs.drop l.toNat).take (h.toNat - l.toNat)
def rSlice (P:Program)(dst:Option Nat)(T:TypeId)(x:AV)(lo hi:Option AV):Req:=match tinfo P T with
 |some ⟨_,_,_,_,.slice _ esz⟩=>
  match x with
  | .one (.c (.rowc k xs))=>match bndOf lo 0,bndOf hi xs.length with
   |some l,some h=>.val (0≤l∧l≤h∧h≤xs.length∧(∀us∈xs,us.length=esz)) (.one (.c (.rowc k (partOf xs l h))))
   |_,_=>.bad
  | .one (.full k xs)=>match bndOf lo 0,bndOf hi xs.length with
   |some l,some h=>.val (0≤l∧l≤h∧h≤xs.length∧(∀us∈xs,us.length=esz)) (.one (.c (.rowc k (partOf xs l h))))
   |_,_=>.bad
  | .one .nil=>match bndOf lo 0,bndOf hi 0 with
   |some l,some h=>.val (l=0∧h=0) (.one .nil)
   |_,_=>.bad
  | .one (.own id n)=>match lo with
   |none=>match dst,bndOf hi n with
    |some d,some h=>⟨[id,d],true,fun m=>match m id,m d with
     |some (.rows e sz xs),none=>⟨xs.length=n∧0≤h∧h≤n,.one (.own d h.toNat),fun i=>bif i==d then some (.rows e sz (xs.take h.toNat))else some (.gone (n+1))⟩
     |some (.froz xs),_=>⟨xs.length=n∧0≤h∧h≤n∧(∀us∈xs,us.length=esz),.one (.c (.row (partOf xs 0 h))),m⟩
     |some (.lent j _ sz xs),_=>⟨xs.length=n∧0≤h∧h≤n∧sz=esz,.one (.c (.rowc j (partOf xs 0 h))),m⟩
     |_,_=>⟨False,.junk,fun _=>none⟩⟩
    |_,_=>.bad
   |some _=>match bndOf lo 0,bndOf hi n with
    |some l,some h=>⟨[id],true,fun m=>match m id with
     |some (.rows _ sz xs)=>⟨xs.length=n∧0≤l∧l≤h∧h≤n∧sz=esz,.one (.c (.row (partOf xs l h))),frz m⟩
     |some (.froz xs)=>⟨xs.length=n∧0≤l∧l≤h∧h≤n∧(∀us∈xs,us.length=esz),.one (.c (.row (partOf xs l h))),frz m⟩
     |some (.lent j _ sz xs)=>⟨xs.length=n∧0≤l∧l≤h∧h≤n∧sz=esz,.one (.c (.rowc j (partOf xs l h))),frz m⟩
     |_=>⟨False,.junk,fun _=>none⟩⟩
    |_,_=>.bad
  |_=>.bad
 |some ⟨_,_,_,_,.str⟩=>match x with
  | .one (.c (.v (.string s)))=>match bndOf lo 0,bndOf hi s.size with
   |some l,some h=>.val (0≤l∧l≤h∧h≤s.size) (.one (.c (.v (.string (s.extract l.toNat h.toNat)))))
   |_,_=>.bad
  |_=>.bad
 |_=>.bad
def rSlice3 (P : Program) (T : TypeId) (x : AV) (lo hi : Option AV) (mx : AV) : Req := match tinfo P T with
  | some ⟨_, _, _, _, .slice _ esz⟩ =>
    match x with
    | .one (.c (.rowc k xs)) => match bndOf lo 0, bndOf hi xs.length, bndOf (some mx) 0 with
      | some l, some h, some m => .val (hi.isSome = true ∧ 0 ≤ l ∧ l ≤ h ∧ h = m ∧ m ≤ xs.length ∧ (∀ us ∈ xs, us.length = esz)) (.one (.full k (partOf xs l h)))
      | _, _, _ => .bad
    | .one (.full k xs) => match bndOf lo 0, bndOf hi xs.length, bndOf (some mx) 0 with
      | some l, some h, some m => .val (hi.isSome = true ∧ 0 ≤ l ∧ l ≤ h ∧ h = m ∧ m ≤ xs.length ∧ (∀ us ∈ xs, us.length = esz)) (.one (.full k (partOf xs l h)))
      | _, _, _ => .bad
    | .one .nil => match bndOf lo 0, bndOf hi 0, bndOf (some mx) 0 with
      | some l, some h, some m => .val (hi.isSome = true ∧ l = 0 ∧ h = 0 ∧ m = 0) (.one .nil)
      | _, _, _ => .bad
    | .one (.own id n) => match bndOf lo 0, bndOf hi n, bndOf (some mx) 0 with
      | some l, some h, some k => ⟨[id], true, fun m => match m id with
          | some (.rows _ sz xs) => ⟨hi.isSome = true ∧ xs.length = n ∧ 0 ≤ l ∧ l ≤ h ∧ h = k ∧ k ≤ n ∧ sz = esz, .one (.full 0 (partOf xs l h)), frz m⟩
          | some (.froz xs) => ⟨hi.isSome = true ∧ xs.length = n ∧ 0 ≤ l ∧ l ≤ h ∧ h = k ∧ k ≤ n ∧ (∀ us ∈ xs, us.length = esz), .one (.full 0 (partOf xs l h)), frz m⟩
          | some (.lent j _ sz xs) => ⟨hi.isSome = true ∧ xs.length = n ∧ 0 ≤ l ∧ l ≤ h ∧ h = k ∧ k ≤ n ∧ sz = esz, .one (.full j (partOf xs l h)), frz m⟩
          | _ => ⟨False, .junk, fun _ => none⟩⟩
      | _, _, _ => .bad
    | _ => .bad
  | _ => .bad
def rCap (P:Program)(T:TypeId)(x:AV):Req:=match tinfo P T with
 |some ⟨_,_,_,_,.slice _ _⟩=>match x with
  | .one (.full _ xs)=>.val True (.one (.c (.v (.int .i64 xs.length))))
  | .one .nil=>.val True (.one (.c (.v (.int .i64 0))))
  |_=>.bad
 |_=>.bad
def rMake (P:Program)(dst:Option Nat)(T:TypeId)(l k:AV):Req:=match tinfo P T with
 |some ⟨_,_,_,_,.slice e esz⟩=>match tinfo P e,dst with
  |some ⟨_,_,_,zero,_⟩,some d=>match l,k with
   | .one (.c (.v (.int _ l))),.one (.c (.v (.int _ k)))=>⟨[d],true,fun m=>match m d with
    |none=>⟨0≤l∧l≤k∧k≤1073741824,.one (.own d l.toNat),fun _=>some (.rows e esz (List.replicate l.toNat (zero.map (clo fun _=>none))))⟩
    |some _=>⟨False,.junk,fun _=>none⟩⟩
   |_,_=>.bad
  |_,_=>.bad
 |_=>.bad
def rAppendX (P:Program)(dst:Option Nat)(T T':TypeId)(s x:AV):Req:=match x with
 | .one (.c (.v (.int _ n)))=>match tinfo P T,tinfo P T' with
  |some ⟨_,_,_,_,.slice e esz⟩,some ⟨_,_,_,_,.int _⟩=>match tinfo P e,dst with
   |some ⟨_,_,_,zero,_⟩,some d=>match s with
    | .one .nil=>⟨[d],true,fun m=>match m d with
     |none=>⟨0<n∧n≤1073741824,.one (.own d n.toNat),fun _=>some (.rows e esz (List.replicate n.toNat (zero.map (clo fun _=>none))))⟩
     |some _=>⟨False,.junk,fun _=>none⟩⟩
    |_=>.bad
   |_,_=>.bad
  |_,_=>.bad
 |x=>rAppend P dst T T' s x
def rCopy (P:Program)(T:TypeId)(s x:AV):Req:=match tinfo P T with
 |some ⟨_,_,_,_,.slice _ esz⟩=>match s with
  | .one (.own id n)=>⟨id::ownIds x.cells,true,fun m=>match m id with
   |some (.rows e sz xs)=>match srcOf m x with
    |some ys=>⟨sz=esz∧xs.length=n∧srcOK m x∧hasN (ownIds x.cells) id=false∧(∀us∈ys,us.length=esz),.one (.c (.v (.int .i64 (Nat.min ys.length n)))),fun i=>bif i==id then some (.rows e sz (ys.take xs.length++xs.drop ys.length))else m i⟩
    |none=>⟨False,.junk,fun _=>none⟩
   |_=>⟨False,.junk,fun _=>none⟩⟩
  |_=>.bad
 |_=>.bad
def argsOK (m:Mem):List AV→Prop
 | []=>True
 | [x]=>x.flat=true∧cloAll m x.cells
 |x::l=>(x.flat=true∧cloAll m x.cells)∧argsOK m l
def dstL:Option Nat→List Nat
 |some d=>[d]
 |none=>[]
def nOwn:List RE→Nat
 | []=>0
 | .c _::l=>nOwn l
 | .own _ _ _::l=>nOwn l+1
def mixC (d:Nat):Nat→List RE→List A
 |_,[]=>[]
 |k,.c x::l=>.c x::mixC d k l
 |k,.own _ _ xs::l=>.own (d+1000*k) xs.length::mixC d (k+1) l
def mixM (d:Nat):Nat→List RE→Mem→Mem
 |_,[],m=>m
 |k,.c _::l,m=>mixM d k l m
 |k,.own e sz xs::l,m=>mixM d (k+1) l (upd m (d+1000*k) (some (.rows e sz xs)))
def mixI (d:Nat):Nat→List RE→List Nat
 |_,[]=>[]
 |k,.c _::l=>mixI d k l
 |k,.own _ _ _::l=>(d+1000*k)::mixI d (k+1) l
def mixV (d:Nat):Nat→List (Bool×List RE)→List (Bool×List A)
 |_,[]=>[]
 |k,(b,cs)::l=>(b,mixC d k cs)::mixV d (k+nOwn cs) l
def mixL:List (Bool×List RE)→List RE
 | []=>[]
 | (_,cs)::l=>cs++mixL l
def freeAll (m:Mem):List Nat→Bool
 | []=>true
 |i::l=>(match m i with|some _=>false|none=>true)&&freeAll m l
def avM:Bool×List A→AV
 | (true,cs)=>.agg cs
 | (false,[a])=>.one a
 |_=>.junk
def mixAV:List (Bool×List A)→AV
 | [x]=>avM x
 |l=>.tupo l
def callIn (m:Mem):RV→Prop
 | .bx ins outs _=>insAt m ins∧sameBs ins outs
 | .one _=>True
 | .tup _=>True
 | .own _ _ _=>True
 | .mix _=>True
def resIds (dst:Option Nat):RV→List Nat
 | .bx ins _ _=>opnIds ins
 | .mix rs=>match dst with
  |some d=>mixI d 0 (mixL rs)
  |none=>[]
 | .one _=>[]
 | .tup _=>[]
 | .own _ _ _=>[]
def callVal (dst:Option Nat)(m:Mem):RV→AV
 | .bx _ _ rs=>(match rs with
  | [x]=>x.av
  |l=>.tup l)
 | .one x=>x.av
 | .tup rs=>.tup rs
 | .own _ _ xs=>match dst with
  |some d=>match m d with
   |none=>.one (.own d xs.length)
   |some _=>.junk
  |none=>.junk
 | .mix rs=>match dst with
  |some d=>bif freeAll m (mixI d 0 (mixL rs))then mixAV (mixV d 0 rs)else .junk
  |none=>.junk
def callMem (dst:Option Nat)(m:Mem):RV→Mem
 | .bx _ outs _=>setBs (frz m) outs
 | .own e sz xs=>match dst with
  |some d=>match m d with
   |none=>fun i=>bif i==d then some (.rows e sz xs)else frz m i
   |some _=>frz m
  |none=>frz m
 | .one _=>frz m
 | .tup _=>frz m
 | .mix rs=>match dst with
  |some d=>bif freeAll m (mixI d 0 (mixL rs))then mixM d 0 (mixL rs) (frz m)else frz m
  |none=>frz m
def rCall (P:Program)(dst:Option Nat)(f:FuncId)(pre post:List CA)(args:List AV)(r:RV):Req:=
 ⟨dstL dst++(ownIds (args.map AV.cells).flatten++resIds dst r),true,fun m=>⟨argsOK m args∧(ACalls P f (pre++args.map (cloArg m)++post) r∧callIn m r),callVal dst m r,callMem dst m r⟩⟩
def rYield (P:Program)(dst:Option Nat)(l:Nat)(args:List AV)(r:RV):Req:=
 ⟨dstL dst++(ownIds (args.map AV.cells).flatten++resIds dst r),true,fun m=>⟨argsOK m args∧(AYields P l (args.map (cloArg m)) r∧callIn m r),callVal dst m r,callMem dst m r⟩⟩
def fnFirst:Bool→List CV→List CA
 |true,cs=>[.agg cs]
 |false,cs=>cs.map .one
def plainA:A→Prop
 | .c _=>True
 | .full _ _=>True
 | .el _ _ _=>True
 | .nil=>True
 | .bare=>True
 |_=>False
def plainL:List A→Prop
 | []=>True
 |a::l=>plainA a∧plainL l
def clo0:A→CV:=clo fun _=>none
def capOK (m:Mem):AV→Prop
 | .one (.ptr id 0)=>match m id with
  |some (.box cs)=>plainL cs
  |some (.fbox _)=>True
  |_=>False
 | .one (.c _)=>True
 |_=>False
def capsOK (m:Mem):List AV→Prop
 | []=>True
 |x::l=>capOK m x∧capsOK m l
def capCV (m:Mem):AV→CV
 | .one (.ptr id _)=>match m id with
  |some (.box cs)=>.ptrc 0 (cs.map clo0) 0
  |some (.fbox cs)=>.ptrc 0 cs 0
  |_=>.row []
 | .one (.c x)=>x
 |_=>.row []
def capIds:List AV→List Nat
 | []=>[]
 | .one (.ptr id _)::l=>id::capIds l
 |_::l=>capIds l
def shutB:Option Blk→Option Blk
 |some (.box cs)=>some (.fbox (cs.map clo0))
 |b=>b
def firstOK:List AV→Prop
 | []=>True
 | [.agg cs]=>plainL cs
 | [.one (.c _)]=>True
 |_=>False
def firstAgg:List AV→Bool
 | [.agg _]=>true
 |_=>false
def firstCV:List AV→List CV
 | [.agg cs]=>cs.map clo0
 | [.one (.c x)]=>[x]
 |_=>[]
def rMakeFunc (f:FuncId)(first caps:List AV):Req:=
 ⟨capIds caps,true,fun m=>⟨capsOK m caps∧firstOK first,.one (.c (.fn f (firstAgg first) (firstCV first) (caps.map (capCV m)))),fun i=>shutB (m i)⟩⟩
def rMM (lo:Bool)(x y:AV):Req:=match x,y with
 | .one (.c (.v (.int k a))),.one (.c (.v (.int k' b)))=>.val (k=k') (.one (.c (.v (.int k (bif lo then(if b<a then b else a)else(if b > a then b else a))))))
 |_,_=>.bad
def KeyOK (P:Program)(t:TypeId)(sh:List (Option (Option IntKind))):Prop:=EqOK P t sh∧∀(us:List Value) (b:Bool) (w:World),us.map shV=sh→(Instr.checkKey b 10000 t (.agg us.toArray)).run P w=.ok () w
def keyAsk (P:Program):KD→Prop
 | .num _=>True
 | .str t sh=>KeyOK P t sh
def kOK (kd:KD)(v:Value):Bool:=match kd,v with
 | .num q,.int j _=>decide (j=q)
 | .str _ sh,.agg us=>decide (us.toList.map shV=sh)
 |_,_=>false
def keysK (kd:KD):List Value→Bool
 | []=>true
 |v::l=>kOK kd v&&keysK kd l
def eqK:Value→Value→Bool
 | .int _ a,.int _ b=>a==b
 | .agg us,.agg vs=>eqVs us.toList vs.toList
 |_,_=>false
def cellsV:List A→Option (List Value)
 | []=>some []
 | .c (.v x)::l=>(cellsV l).map (x :: ·)
 |_=>none
def keyV:AV→Option Value
 | .one (.c (.v (.int j n)))=>some (.int j n)
 | .agg cs=>(cellsV cs).map fun us=>.agg us.toArray
 |_=>none
def keyIx (key:Value):List Value→Nat→Option Nat
 | [],_=>none
 |k::l,i=>bif eqK key k then some i else keyIx key l (i+1)
def avAgg:AV→Option Bool
 | .one _=>some false
 | .agg _=>some true
 |_=>none
def putKs (key:Value)(ks:List Value):List Value:=match keyIx key ks 0 with
 |some _=>ks
 |none=>ks++[key]
def putXs (key:Value)(ks:List Value)(xs:List (List CV))(us:List CV):List (List CV):=match keyIx key ks 0 with
 |some p=>xs.set p us
 |none=>xs++[us]
def rMakeMap (P:Program)(dst:Option Nat)(T:TypeId):Req:=match mapTI P T,dst with
 |some (_,e),some d=>match tinfo P e with
  |some ti=>⟨[d],true,fun m=>match m d with
   |none=>⟨True,.one (.mp d),fun _=>some (.mapb ti.agg [] [])⟩
   |some _=>⟨False,.junk,fun _=>none⟩⟩
  |none=>.bad
 |_,_=>.bad
def rInsert (P:Program)(T:TypeId)(x k v:AV):Req:=match mapTI P T with
 |some (kd,e)=>match x,keyV k with
  | .one (.mp id),some key=>⟨id::ownIds v.cells,true,fun m=>match m id with
   |some (.mapb agg ks xs)=>⟨kOK kd key=true∧keyAsk P kd∧keysK kd ks=true∧v.flat=true∧avAgg v=some agg∧cloAll m v.cells∧hasN (ownIds v.cells) id=false,.junk,fun i=>bif i==id then some (.mapb agg (putKs key ks) (putXs key ks xs (v.cells.map (clo m))))else frz m i⟩
   |_=>⟨False,.junk,fun _=>none⟩⟩
  |_,_=>.bad
 |none=>.bad
def lookCA (agg:Bool)(us:List CV):CA:=bif agg then .agg us else .one (us.headD (.row []))
def zeroCA (agg:Bool)(zs:List A):CA:=bif agg then .agg (zs.map (clo fun _=>none))else match zs with
 | [.nil]=>.nil
 | [a]=>.one (clo (fun _=>none) a)
 |_=>.agg []
def lookOut (ok there:Bool)(x:CA):AV:=bif ok then .tup [x,.one (.v (.bool there))]else x.av
def lookAt (P:Program)(kd:KD)(key:Value)(ok:Bool)(ti:TI)(agg:Bool)(ks:List Value)(xs:List (List CV)):Prop×AV:=
 (kOK kd key=true∧keyAsk P kd∧agg=ti.agg∧keysK kd ks=true,match keyIx key ks 0 with
  |some p=>lookOut ok true (lookCA agg (xs.getD p []))
  |none=>lookOut ok false (zeroCA ti.agg ti.zero))
def rLookup (P:Program)(T:TypeId)(x k:AV)(ok:Bool):Req:=match mapTI P T with
 |some (kd,e)=>match tinfo P e with
  |some ti=>match keyV k with
   |some key=>match x with
    | .one (.mp id)=>.read [id] fun m=>match m id with
     |some (.mapb agg ks xs)=>lookAt P kd key ok ti agg ks xs
     |some (.fmap agg ks xs)=>lookAt P kd key ok ti agg ks xs
     |_=>(False,.junk)
    | .one (.c (.mapc agg ks xs))=>.val (lookAt P kd key ok ti agg ks xs).1 (lookAt P kd key ok ti agg ks xs).2
    |_=>.bad
   |none=>.bad
  |none=>.bad
 |none=>.bad
def rEntryAt (P : Program) (kd : KD) (ti : TI) (x k : AV) : Req := match x, keyV k with
  | .one (.mp id), some key => ⟨[id], true, fun m => match m id with
    | some (.mapb agg ks xs) => ⟨kOK kd key = true ∧ keyAsk P kd ∧ agg = ti.agg ∧ keysK kd ks = true ∧ inK .i64 ks.length = true ∧ xs.length = ks.length ∧ lookCA ti.agg (ti.zero.map (clo fun _ => none)) = zeroCA ti.agg ti.zero, match keyIx key ks 0 with
        | some p => .tup [lookCA agg (xs.getD p []), .one (.v (.int .i64 p))]
        | none => .tup [zeroCA ti.agg ti.zero, .one (.v (.int .i64 ks.length))],
        fun i => bif i == id then some (.mapb agg (putKs key ks) (match keyIx key ks 0 with
          | some _ => xs
          | none => xs ++ [ti.zero.map (clo fun _ => none)])) else m i⟩
    | _ => ⟨False, .junk, fun _ => none⟩⟩
  | _, _ => .bad
def rEntry (P:Program)(T:TypeId)(x k:AV):Req:=match mapTI P T with
 |some (kd,e)=>match tinfo P e with
  |some ti=>rEntryAt P kd ti x k
  |none=>.bad
 |none=>.bad
def rEntryS (x st v:AV):Req:=match x,st with
 | .one (.mp id),.one (.c (.v (.int _ p)))=>⟨id::ownIds v.cells,true,fun m=>match m id with
  |some (.mapb agg ks xs)=>⟨0≤p∧p.toNat<ks.length∧v.flat=true∧avAgg v=some agg∧cloAll m v.cells∧hasN (ownIds v.cells) id=false,.junk,fun i=>bif i==id then some (.mapb agg ks (xs.set p.toNat (v.cells.map (clo m))))else frz m i⟩
  |_=>⟨False,.junk,fun _=>none⟩⟩
 |_,_=>.bad
def isB:List CV→Bool
 | [.v (.int .u8 _)]=>true
 |_=>false
def byteOf:List CV→UInt8
 | [.v (.int _ n)]=>UInt8.ofNat n.toNat
 |_=>0
def bytesOf (xs:List (List CV)):ByteArray:=⟨(xs.map byteOf).toArray⟩
def strV (xs:List (List CV)):AV:=.one (.c (.v (.string (bytesOf xs))))
def rToStr (P:Program)(e:TypeId)(x:AV):Req:=match tinfo P e with
 |some ⟨_,_,_,_,.int .u8⟩=>match x with
  | .one (.c (.rowc _ xs))=>.val (xs.all isB=true) (strV xs)
  | .one .nil=>.val True (strV [])
  | .one (.own id n)=>.read [id] fun m=>match m id with
   |some (.rows _ _ xs)=>(xs.length=n∧xs.all isB=true,strV xs)
   |some (.froz xs)=>(xs.length=n∧xs.all isB=true,strV xs)
   |_=>(False,.junk)
  |_=>.bad
 |_=>.bad
def rNil (x:AV):Req:=match x with
 | .one (.ptr id off)=>.val True (.one (.ptr id off))
 | .one (.el k cs off)=>.val True (.one (.el k cs off))
 | .one (.pel id n i off)=>.read [id] fun m=>match rowsOf m id with
  |some (_,_,xs)=>(xs.length=n,.one (.pel id n i off))
  |_=>(False,.junk)
 | .one (.c (.ptrc k cs off))=>.val True (.one (.c (.ptrc k cs off)))
 | .one (.c (.fn f a first caps))=>.val True (.one (.c (.fn f a first caps)))
 | .one (.c (.v x))=>match rawP x with
  |some _=>.val True (.one (.c (.v x)))
  |none=>.bad
 |_=>.bad
def areq (P:Program)(dst:Option Nat)(r:RV)(g:Operand→AV):Op→Req
 | .move x=>.val True (g x)
 | .assign x=>.val True (g x)
 | .pick c x y=>match g c with
  | .one (.c (.v (.bool b)))=>.val True (bif b then g x else g y)
  |_=>.bad
 | .alloc T=>match tinfo P T,dst with
  |some ti,some d=>⟨[d],true,fun m=>match m d with
   |none=>⟨True,.one (.ptr d 0),fun _=>some (.box ti.zero)⟩
   |some _=>⟨False,.junk,fun _=>none⟩⟩
  |_,_=>.bad
 | .box _ x=>match dst with
  |some d=>⟨[d],true,fun m=>match m d with
   |none=>⟨(g x).flat=true,.one (.ptr d 0),fun _=>some (.box (g x).cells)⟩
   |some _=>⟨False,.junk,fun _=>none⟩⟩
  |none=>.bad
 | .load T x=>rLoad P T (g x)
 | .store T x u=>rStore P T (g x) (g u)
 | .fieldAddr T x f=>rField P T (g x) f
 | .field T x f=>rFieldV P T (g x) f
 | .extract x i=>match g x with
  | .tup rs=>match rs[i]? with
   |some u=>.val True u.av
   |none=>.bad
  | .tupo rs=>match rs[i]? with
   |some u=>.val True (avM u)
   |none=>.bad
  |_=>.bad
 | .indexAddr T x i=>rIndex P T (g x) (g i)
 | .index T x i=>rIndexV P T (g x) (g i)
 | .binOp op T x y _=>rBin P op T (g x) (g y)
 | .unOp .not _ x=>match g x with
  | .one (.c (.v (.bool b)))=>.val True (.one (.c (.v (.bool (!b)))))
  |_=>.bad
 | .unOp .neg _ x=>match g x with
  | .one (.c (.v (.int k n)))=>.val True (.one (.c (.v (.int k (k.wrap (-n))))))
  |_=>.bad
 | .makeFunc (.func f) first caps=>rMakeFunc f (first.toList.map g) (caps.toList.map g)
 | .makeSlice T l k=>rMake P dst T (g l) (g k)
 | .convert S T x=>match tinfo P S,tinfo P T with
  |some _,some ⟨_,_,_,_,.int k⟩=>match g x with
   | .one (.c (.v (.int _ n)))=>.val True (.one (.c (.v (.int k (k.wrap n)))))
   |_=>.bad
  |some ⟨_,_,_,_,.slice e _⟩,some ⟨_,_,_,_,.str⟩=>rToStr P e (g x)
  |_,_=>.bad
 | .nilCheck x=>rNil (g x)
 | .makeMap T none=>rMakeMap P dst T
 | .insert T x k v=>rInsert P T (g x) (g k) (g v)
 | .mapUpdate T x k v=>rInsert P T (g x) (g k) (g v)
 | .lookup T x k ok=>rLookup P T (g x) (g k) ok
 | .mapEntry T x k=>rEntry P T (g x) (g k)
 | .entryStore _ x st v=>rEntryS (g x) (g st) (g v)
 | .build T ps=>rBuild P T (partsA g ps.toList)
 | .buildSlice T len ps=>rBuildSlice P dst T len (partsA g ps.toList)
 | .slice T x lo hi none=>rSlice P dst T (g x) (lo.map g) (hi.map g)
 | .slice T x lo hi (some mx)=>rSlice3 P T (g x) (lo.map g) (hi.map g) (g mx)
 | .call c=>match c.callee,c.args.toList,c.argTypes.toList with
  | .builtin .len,[x],[T]=>rLen P T (g x)
  | .builtin .append,[s,x],[T,T']=>rAppendX P dst T T' (g s) (g x)
  | .builtin .cap,[x],[T]=>rCap P T (g x)
  | .builtin .copy,[s,x],[T,_]=>rCopy P T (g s) (g x)
  | .builtin .min,[x,y],_=>rMM true (g x) (g y)
  | .builtin .max,[x,y],_=>rMM false (g x) (g y)
  | .value (.func f),args,_=>rCall P dst f [] [] (args.map g) r
  | .value x,args,_=>match g x with
   | .one (.c (.fn f a first caps))=>rCall P dst f (fnFirst a first) (caps.map .one) (args.map g) r
   | .one (.c (.v v))=>match yieldOf v with
    |some l=>rYield P dst l (args.map g) r
    |none=>.bad
   |_=>.bad
  |_,_,_=>.bad
 |_=>.bad
end
section
structure Tm (c:Ctx)(w:World)(σ:St)(a:Act):Prop where
 size:a.tmps.size=σ.n
 val:∀d,d<σ.n→VV c w σ.m (σ.t d) (a.tmps.getD d undef)
 gl:Gl c.S w
theorem ofCell_ok {c:Ctx}{w:World}{m:Mem}{x:Value}(h:okV x=true):VA c w m (ofCell x) x:=by
 unfold ofCell
 split
 ·rfl
 ·exact R.v h
theorem ofVal_ok {c:Ctx}{w:World}{m:Mem}(x:Value):VV c w m (ofVal x) x:=by
 unfold ofVal
 split
 ·rename_i cs
  cases h:cs.toList.all okV with
  |false=>trivial
  |true=>
   refine⟨cs.toList,by simp,by simp,fun i x y hx hy=>?_⟩
   simp only[List.getElem?_map,Option.map_eq_some_iff]at hx
   obtain⟨z,hz,rfl⟩:=hx
   rw[hz]at hy
   cases hy
   exact ofCell_ok (List.all_eq_true.1 h _ (List.mem_of_getElem? hz))
 ·trivial
 ·rename_i h1 h2
  cases h:okV x with
  |false=>trivial
  |true=>exact ofCell_ok h
section
variable {P:Program} {c:Ctx} {w:World} {σ:St} {a:Act} {base:Nat} {S0:Sh} {w0:W0}
theorem ev_ok (h:Tm c w σ a)(x:Operand):VV c w σ.m (ev σ x) (a.eval x):=by
 cases x with
 |tmp t=>
  show VV c w σ.m (bif decide (t<σ.n)then σ.t t else .junk) (a.tmps.getD t undef)
  by_cases ht:t<σ.n
  ·rw[decide_eq_true ht];exact h.2 t ht
  ·rw[decide_eq_false ht];trivial
 |const v=>exact ofVal_ok v
 |global g=>
  show VV c w σ.m (match tabsV g with|some vs=>.one (.c (.ptrc 0 (vs.map .v) 0))|none=>.junk) (.pointer (some ⟨g,0,none⟩))
  cases hg:tabsV g with
  |none=>trivial
  |some vs=>exact h.gl.ptr hg
 |func f=>exact R.fn (us:=[]) (ts:=[]) rfl (fun i x v h=>by simp at h) rfl (fun i x v h=>by simp at h)
def plainN:Next→Bool
 | .value _=>true
 | .skip=>true
 | .enter _ _=>true
 | .round _ _ _ _ _=>true
 |_=>false
theorem wpo_run {o:Oper}{ro:Option Nat}{K:Act→World→Prop}{Q:Exit→Act→World→Prop}{x:Next}{w1:World}(hr:(execOp a.eval o).run P w=.ok x w1)(hx:plainN x=true)(h:o.uponIn (Fw ro) 0 P a K Q (.ok x w1)):o.wpIn (Fw ro) 0 P a w K Q:=by
 refine⟨fun _ _=>trivial,?_⟩
 rw[Oper.semAt_eq _ _ _ fun c hc=>?_,hr]
 ·exact h
 ·have:execOp a.eval o=(do let d ←resolve a.eval c o.type;pure (.defer d)):=by unfold execOp;rw[hc]
  rw[this,Sem.run_bind]at hr
  cases hd:(resolve a.eval c o.type).run P w with
  |ok d w2=>
   rw[hd]at hr
   simp only[Result.andThen_ok,Sem.run_pure]at hr
   cases hr
   simp[plainN]at hx
  |halt y w2=>rw[hd]at hr;simp[Result.andThen]at hr
theorem callsW {ro:Option Nat}{n:Nat}{f:FuncId}{args:Array Value}{R:Ending→World→Prop}(h:Calls P f args w R):CallsIn (Fw ro) n P f args w R:=callsIn_wide.2 h
def OpOK (P:Program)(o:Oper)(σ:St)(rq:Req):Prop:=∀(ro:Option Nat) (base:Nat) (S0:Sh) (w0:W0) (c:Ctx) (a:Act) (w:World) (K:Act→World→Prop) (Q:Exit→Act→World→Prop),
 Tm c w σ a→WR base S0 w0 c σ.m w→(rq.eff σ.m).ok→
 (∀(c':Ctx) (w':World) (v:Value),Goes c w σ.m c' w' (rq.mem σ.m)→WR base S0 w0 c' (rq.mem σ.m) w'→VV c' w' (rq.mem σ.m) (rq.eff σ.m).val v→K (a.put o.dst v) w')→o.wpIn (Fw ro) 0 P a w K Q
theorem OpOK.bad {o:Oper}:OpOK P o σ .bad:=fun _ _ _ _ _ _ _ _ _ _ _ h=>h.elim
theorem OpOK.same {o:Oper}{rq:Req}(hw:rq.wr=false)(h:∀(base:Nat) (S0:Sh) (w0:W0) (c:Ctx) (a:Act) (w:World),Tm c w σ a→WR base S0 w0 c σ.m w→(rq.eff σ.m).ok→∃v,(execOp a.eval o).run P w=.ok (.value v) w∧VV c w σ.m (rq.eff σ.m).val v):OpOK P o σ rq:=by
 intro ro base S0 w0 c a w K Q h1 h2 h3 h4
 obtain⟨v,hr,hv⟩:=h base S0 w0 c a w h1 h2 h3
 have hm:rq.mem σ.m=σ.m:=by unfold Req.mem;rw[hw];rfl
 rw[hm]at h4
 refine wpo_run hr rfl ?_
 exact h4 c w v (Goes.refl _ _ _) h2 hv
theorem OpOK.val {o:Oper}{ok:Prop}{v:AV}(h:∀(base:Nat) (S0:Sh) (w0:W0) (c:Ctx) (a:Act) (w:World),Tm c w σ a→WR base S0 w0 c σ.m w→ok→∃x,(execOp a.eval o).run P w=.ok (.value x) w∧VV c w σ.m v x):OpOK P o σ (.val ok v):=
 OpOK.same rfl fun base S0 w0 c a w h1 h2 h3=>h base S0 w0 c a w h1 h2 h3
theorem only_same {m:Mem}{id:Nat}:only [id] m id=m id:=by simp[only,hasN]
theorem run_agg {T:TypeId}{d:TypeDesc}(hd:P.underlying T=some d):(isAgg T).run P w=.ok (isAggD d) w:=by
 unfold isAgg isAggD
 simp only[Sem.run_bind,run_underlying hd,Result.andThen_ok]
 cases d<;>rfl
theorem run_sizeOf {T:TypeId}{i:TypeInfo}(hi:P.info? T=some i):(sizeOf T).run P w=.ok i.size w:=by
 simp[sizeOf,typeInfo,hi]
theorem run_load {b o:Nat}{v:Value}(h:w.cell? ⟨b,o,none⟩=some v):(Go.load ⟨b,o,none⟩).run P w=.ok v w:=by
 simp[Go.load,Sem.run,h]
theorem rd_ok {m:Mem}{T:TypeId}{ti:TI}(ht:TIs P T ti){cs:List A}{vs:List Value}{b o off:Nat}(hcs:F2 (VA c w m) cs vs)(hv:Holds w b o vs)(hok:(rd ti cs off).1):∃v,(loadVar T ⟨b,o+off,none⟩).run P w=.ok v w∧VV c w m (rd ti cs off).2 v:=by
 obtain⟨i,d,z,hi,hd,hz,_,rfl⟩:=ht
 unfold loadVar
 simp only[Sem.run_bind,run_agg hd,Result.andThen_ok]
 unfold rd at hok ⊢
 cases hagg:isAggD d with
 |true=>
  simp only[hagg,cond_true]at hok ⊢
  have hl:((vs.drop off).take i.size).length=i.size:=by
   have:=hcs.1
   simp
   omega
  have hload:=run_loadCells_list (P:=P) w ⟨b,o+off,none⟩ ((vs.drop off).take i.size) (fun j v hj=>by
   rw[add_row,Nat.add_assoc]
   rw[List.getElem?_take]at hj
   split at hj
   ·exact hv (off+j) v (by simpa using hj)
   ·simp at hj)
  rw[hl]at hload
  refine⟨.agg ((vs.drop off).take i.size).toArray,by simp[run_sizeOf hi,hload],_,rfl,(hcs.drop off).take _⟩
 |false=>
  simp only[hagg,cond_false]at hok ⊢
  cases hx:cs[off]? with
  |none=>rw[hx]at hok;exact hok.elim
  |some x=>
   obtain⟨v,hv1,hv2⟩:=hcs.get hx
   exact⟨v,by simpa using run_load (P:=P) (hv off v hv1),hv2⟩
theorem cells_c {c:Ctx}{m:Mem}{cs:List CV}{vs:List Value}(h:F2 (R c.S w) cs vs):F2 (VA c w m) (cs.map .c) vs:=F2.map_left.2 h
theorem fbox_holds {m:Mem}{id:Nat}{cs:List CV}(h:WR base S0 w0 c m w)(hm:m id=some (.fbox cs)):∃vs,F2 (VA c w m) (cs.map .c) vs∧Holds w (c.φ id) 0 vs:=by
 obtain⟨_,vs,h1,h2⟩:=h.blk id _ hm
 exact⟨vs,cells_c h1,h2⟩
theorem rows_blk {m:Mem}{id:Nat}{e:TypeId}{sz:Nat}{xs:List (List CV)}(h:WR base S0 w0 c m w)(hm:rowsOf m id=some (e,sz,xs)):rowLen m id=some xs.length∧(∀us∈xs,us.length=sz)∧0<sz∧xs.length≤1073741824∧∃vss:List (List Value),F2 (F2 (R c.S w)) xs vss∧w.ownsRow base e sz (c.ψ id) xs.length vss.flatten:=by
 unfold rowsOf at hm
 split at hm
 ·rename_i hm2
  simp only[Option.some.injEq,Prod.mk.injEq]at hm
  obtain⟨rfl,rfl,rfl⟩:=hm
  obtain⟨h1,h2,h3,_,h5⟩:=h.blk id _ hm2
  exact⟨by simp[rowLen,hm2],h1,h2,h3,h5⟩
 ·rename_i hm2
  simp only[Option.some.injEq,Prod.mk.injEq]at hm
  obtain⟨rfl,rfl,rfl⟩:=hm
  obtain⟨_,h1,h2,h3,_,h5⟩:=h.blk id _ hm2
  exact⟨by simp[rowLen,hm2],h1,h2,h3,h5⟩
 ·simp at hm
theorem rowsOf_only {m:Mem}{id:Nat}:rowsOf (only [id] m) id=rowsOf m id:=by simp only[rowsOf,only_same]
theorem box_holds {m:Mem}{id:Nat}{cs:List A}(h:WR base S0 w0 c m w)(hm:m id=some (.box cs)):∃vs,F2 (VA c w m) cs vs∧Holds w (c.φ id) 0 vs:=by
 obtain⟨_,_,vs,T,h3,h4⟩:=h.blk id _ hm
 exact⟨vs,h4,fun j u hj=>by rw[Nat.zero_add];simpa[World.cell?,h3]using hj⟩
theorem rawP_eq {x:Value}{b off:Nat}(h:rawP x=some (b,off)):x=.pointer (some ⟨b,off,none⟩):=by
 unfold rawP at h
 split at h
 ·cases h;rfl
 ·simp at h
theorem obox_holds {m:Mem}{id:Nat}{cs:List CV}(h:WR base S0 w0 c m w)(hm:m id=some (.obox cs)):∃vs,F2 (R c.S w) cs vs∧Holds w (c.φ id) 0 vs∧1000000+c.φ id=id:=by
 obtain⟨_,_,he,vs,T,h3,h4⟩:=h.blk id _ hm
 exact⟨vs,h4,fun j u hj=>by rw[Nat.zero_add];simpa[World.cell?,h3]using hj,he⟩
theorem load_ok {o:Oper}{T:TypeId}{x:Operand}(ho:o.op=.load T x):OpOK P o σ (rLoad P T (ev σ x)):=by
 unfold rLoad
 cases ht:tinfo P T with
 |none=>exact OpOK.bad
 |some ti=>
  have ht:=tinfo_is ht
  have hex:∀(a:Act) (w:World) (p:Addr) (v:Value),a.eval x=.pointer (some p)→(loadVar T p).run P w=.ok v w→(execOp a.eval o).run P w=.ok (.value v) w:=fun a w p v hp hl=>by
   simp[execOp,ho,Instr.loadAt,Instr.sureAddr,hp,hl]
  simp only
  cases hx:ev σ x with
  |one y=>
   cases y with
   |ptr id off=>
    refine OpOK.same rfl fun base S0 w0 c a w h1 h2 h3=>?_
    have hv:=ev_ok h1 x
    rw[hx]at hv
    obtain⟨⟨cs,hm⟩|⟨cs,hm⟩|⟨_,_,_,hm⟩|⟨_,_,_,hm⟩|⟨cs,hm⟩|⟨_,hm⟩,hp⟩:=hv
    ·simp only[Req.eff,Req.read,only_same,hm]at h3 ⊢
     obtain⟨vs,q1,q2⟩:=box_holds h2 hm
     obtain⟨v,r1,r2⟩:=rd_ok ht q1 q2 h3
     exact⟨v,hex a w _ v hp (by simpa using r1),r2⟩
    ·simp only[Req.eff,Req.read,only_same,hm]at h3 ⊢
     obtain⟨vs,q1,q2⟩:=fbox_holds h2 hm
     obtain⟨v,r1,r2⟩:=rd_ok ht q1 q2 h3
     exact⟨v,hex a w _ v hp (by simpa using r1),r2⟩
    ·simp only[Req.eff,Req.read,only_same,hm]at h3
    ·simp only[Req.eff,Req.read,only_same,hm]at h3
    ·simp only[Req.eff,Req.read,only_same,hm]at h3
    ·simp only[Req.eff,Req.read,only_same,hm]at h3
   |el k cs off=>
    refine OpOK.val fun base S0 w0 c a w h1 h2 h3=>?_
    have hv:=ev_ok h1 x
    rw[hx]at hv
    obtain⟨b,o',vs,hp,_,q1,q2⟩:=hv
    obtain⟨v,r1,r2⟩:=rd_ok ht (cells_c (m:=σ.m) q1) q2 h3
    exact⟨v,hex a w _ v hp r1,r2⟩
   |pel id n i off=>
    refine OpOK.same rfl fun base S0 w0 c a w h1 h2 h3=>?_
    have hv:=ev_ok h1 x
    rw[hx]at hv
    obtain⟨_,L,hL,hn,hpel⟩:=hv
    simp only[Req.eff,Req.read,rowsOf_only]at h3 ⊢
    cases hm:rowsOf σ.m id with
    |none=>rw[hm]at h3;exact h3.elim
    |some t=>
     obtain⟨e,sz,xs⟩:=t
     simp only[hm]at h3 ⊢
     obtain⟨e1,e2,e3⟩:=h3
     obtain⟨p0,p1,p2,p3,vss,p5,p6⟩:=rows_blk h2 hm
     have hL':xs.length=L:=by rw[p0]at hL;exact Option.some.inj hL
     obtain⟨g,cap,q1,q2⟩:=hpel (by omega) e sz xs hm
     have hlen:vss.length=xs.length:=p5.1.symm
     have hszv:∀u∈vss,u.length=sz:=fun u hu=>by
      obtain⟨i,hi,rfl⟩:=List.getElem_of_mem hu
      obtain⟨x,hx,hq⟩:=p5.get' (List.getElem?_eq_getElem hi)
      rw[←hq.1]
      exact p1 x (List.mem_of_getElem? hx)
     have hi:i<xs.length:=by omega
     have hxi:xs[i]?=some (xs.getD i []):=by simp[List.getD,hi]
     obtain⟨vs,hvs,hq⟩:=p5.get hxi
     obtain⟨g2,cap2,f1,_,_,f2⟩:=holds_flat p6 hszv hlen i vs hvs
     rw[q1]at f1
     simp at f1
     obtain⟨rfl,_⟩:=f1
     obtain⟨v,r1,r2⟩:=rd_ok ht (cells_c (m:=σ.m) hq) f2 e3
     exact⟨v,hex a w _ v q2 r1,r2⟩
   |c y=>
    cases y with
    |ptrc k cs off=>
     refine OpOK.val fun base S0 w0 c a w h1 h2 h3=>?_
     have hv:=ev_ok h1 x
     rw[hx]at hv
     have hv:R c.S w (.ptrc k cs off) (a.eval x):=hv
     generalize hq:a.eval x=p at hv
     cases hv with
     |ptr k1 k2 k3 k4=>
      obtain⟨v,r1,r2⟩:=rd_ok ht (cells_c (m:=σ.m) ⟨k2,k4⟩) k3 h3
      exact⟨v,hex a w _ v hq r1,r2⟩
    |v x0=>
     simp only
     cases hraw:rawP x0 with
     |none=>exact OpOK.bad
     |some p=>
      obtain⟨b,off⟩:=p
      refine OpOK.same rfl fun base S0 w0 c a w h1 h2 h3=>?_
      have hv:=ev_ok h1 x
      rw[hx]at hv
      have hp:a.eval x=.pointer (some ⟨b,off,none⟩):=by rw[show a.eval x=x0 from by cases hv;rfl];exact rawP_eq hraw
      simp only[Req.eff,Req.read,only_same]at h3 ⊢
      cases hm:σ.m (1000000+b)with
      |none=>simp only[hm]at h3
      |some blk=>
       cases blk with
       |obox cs=>
        simp only[hm]at h3 ⊢
        obtain⟨vs,q1,q2,q3⟩:=obox_holds h2 hm
        have q3:c.φ (1000000+b)=b:=Nat.add_left_cancel q3
        rw[q3]at q2
        obtain⟨v,r1,r2⟩:=rd_ok ht (cells_c (m:=σ.m) q1) q2 h3
        exact⟨v,hex a w _ v hp (by rw[Nat.zero_add]at r1;exact r1),r2⟩
       |_=>simp only[hm]at h3
    |_=>exact OpOK.bad
   |own id n=>exact OpOK.bad
   |mp id=>exact OpOK.bad
   |full k xs=>exact OpOK.bad
   |nil=>exact OpOK.bad
   |bare=>exact OpOK.bad
   |any=>exact OpOK.bad
  |agg cs=>exact OpOK.bad
  |tup rs=>exact OpOK.bad
  |tupo rs=>exact OpOK.bad
  |junk=>exact OpOK.bad
end
end
section
section
variable {P:Program} {c:Ctx} {w:World} {σ:St} {a:Act} {base:Nat} {S0:Sh} {w0:W0}
theorem R.val {S:Sh}{x v:Value}(h:R S w (.v x) v):v=x:=by cases h;rfl
theorem move_ok {o:Oper}{x:Operand}(ho:o.op=.move x∨o.op=.assign x):OpOK P o σ (.val True (ev σ x)):=
 OpOK.val fun base S0 w0 c a w h1 _ _=>⟨a.eval x,by rcases ho with ho|ho<;>simp[execOp,ho],ev_ok h1 x⟩
theorem pick_ok {o:Oper}{b x y:Operand}{t:Bool}(ho:o.op=.pick b x y)(hb:ev σ b=.one (.c (.v (.bool t)))):OpOK P o σ (.val True (bif t then ev σ x else ev σ y)):=
 OpOK.val fun base S0 w0 c a w h1 _ _=>by
  have hv:=ev_ok h1 b
  rw[hb]at hv
  have hb':a.eval b=.bool t:=R.val hv
  refine⟨if t then a.eval x else a.eval y,by simp[execOp,ho,asBool,hb'],?_⟩
  cases t
  ·exact ev_ok h1 y
  ·exact ev_ok h1 x
theorem cellsOf_ok {m:Mem}{x:AV}{v:Value}(h:VV c w m x v)(hx:x.flat=true):∃vs:List Value,v.cells=vs.toArray∧F2 (VA c w m) x.cells vs:=by
 cases x with
 |one y=>
  refine⟨[v],?_,F2.cons h F2.nil⟩
  have h1:=VA.one h
  cases v<;>first|rfl|(simp[Value.oneCell']at h1)
 |agg cs=>
  obtain⟨vs,rfl,h2⟩:=h
  exact⟨vs,rfl,h2⟩
 |tup rs=>simp[AV.flat]at hx
 |tupo rs=>simp[AV.flat]at hx
 |junk=>simp[AV.flat]at hx
theorem newRow_run {e:TypeId}{cells:Array Value}:(newRow e cells).run P w=.ok ⟨w.heap.size,0,none⟩ (w.alloc (.cells cells e)):=rfl
theorem mrg_one {m:Mem}{id:Nat}{nw:Mem}{b:Option Blk}(hb:nw id=b):mrg [id] nw m=upd m id b:=by
 funext i
 unfold mrg upd hasN
 by_cases h:i=id
 ·subst h;simp[hb]
 ·have:(id==i)=false:=by simpa using fun e=>h e.symm
  simp[this,h,hasN]
theorem box_ok {o : Oper} {T : TypeId} {x : Operand} {d : Nat} (ho : o.op = .box T x) : OpOK P o σ ⟨[d], true, fun m => match m d with
      | none => ⟨(ev σ x).flat = true, .one (.ptr d 0), fun _ => some (.box (ev σ x).cells)⟩
      | some _ => ⟨False, .junk, fun _ => none⟩⟩ := by
  intro ro base S0 w0 c a w K Q h1 h2 h3 h4
  cases hm : σ.m d with
  | some b => simp only [Req.eff, only_same, hm] at h3
  | none =>
    simp only [Req.eff, Req.mem, only_same, hm, cond_true] at h3 h4
    obtain ⟨vs, q1, q2⟩ := cellsOf_ok (ev_ok h1 x) h3
    obtain ⟨g, r1, r2⟩ := h2.box hm T q2
    have hr : (execOp a.eval o).run P w = .ok (.value (.pointer (some ⟨w.heap.size, 0, none⟩))) (w.alloc (.cells vs.toArray T)) := by
      simp [execOp, ho, Instr.box, newVar, q1, newRow_run]
    refine wpo_run (hr) rfl ?_
    rw [mrg_one (b := some (.box (ev σ x).cells)) rfl] at h4
    exact h4 _ _ _ g r1 r2
theorem zero_ok {T:TypeId}{ti:TI}(ht:TIs P T ti):∃(z:Value) (vs:List Value),(zeroValue T).run P w=.ok z w∧z.cells=vs.toArray∧ti.zero=vs.map ofCell∧∀v∈vs,okV v=true:=by
 obtain⟨i,d,z,hi,hd,hz,h1,rfl⟩:=ht
 exact⟨z,z.cells.toList,by simp[zeroValue,typeInfo,hi,hz],by simp,rfl,List.all_eq_true.1 h1⟩
theorem ofCells_ok {m:Mem}{vs:List Value}(h:∀v∈vs,okV v=true):F2 (VA c w m) (vs.map ofCell) vs:=⟨by simp,fun i x y hx hy=>by
 simp only[List.getElem?_map,Option.map_eq_some_iff]at hx
 obtain⟨z,hz,rfl⟩:=hx
 rw[hz]at hy
 cases hy
 exact ofCell_ok (h _ (List.mem_of_getElem? hz))⟩
theorem alloc_ok {o : Oper} {T : TypeId} {ti : TI} {d : Nat} (ho : o.op = .alloc T) (ht : TIs P T ti) : OpOK P o σ ⟨[d], true, fun m => match m d with
      | none => ⟨True, .one (.ptr d 0), fun _ => some (.box ti.zero)⟩
      | some _ => ⟨False, .junk, fun _ => none⟩⟩ := by
  intro ro base S0 w0 c a w K Q h1 h2 h3 h4
  cases hm : σ.m d with
  | some b => simp only [Req.eff, only_same, hm] at h3
  | none =>
    simp only [Req.eff, Req.mem, only_same, hm, cond_true] at h3 h4
    obtain ⟨z, vs, q1, q2, q3, q4⟩ := zero_ok (w := w) ht
    have q5 : F2 (VA c w σ.m) ti.zero vs := by rw [q3]; exact ofCells_ok q4
    obtain ⟨g, r1, r2⟩ := h2.box hm T q5
    have hr : (execOp a.eval o).run P w = .ok (.value (.pointer (some ⟨w.heap.size, 0, none⟩))) (w.alloc (.cells vs.toArray T)) := by
      simp [execOp, ho, Instr.alloc, newVar, q1, q2, newRow_run]
    refine wpo_run (hr) rfl ?_
    rw [mrg_one (b := some (.box ti.zero)) rfl] at h4
    exact h4 _ _ _ g r1 r2
theorem splice_ok {α β:Type}{Q:α→β→Prop}{cs us:List α}{vs ts:List β}(h:F2 Q cs vs)(k:F2 Q us ts)(off:Nat):F2 Q (splice cs off us) (vs.take off++ts++vs.drop (off+ts.length)):=by
 unfold splice
 rw[←k.1]
 exact((h.take off).append k).append (h.drop _)
theorem storeBox_ok {o:Oper}{T:TypeId}{x u:Operand}(ho:o.op=.store T x u)(hpel:∀id n i off,ev σ x=.one (.pel id n i off)→OpOK P o σ (rStore P T (.one (.pel id n i off)) (ev σ u)))(hopen:∀x0,ev σ x=.one (.c (.v x0))→OpOK P o σ (rStore P T (.one (.c (.v x0))) (ev σ u))):OpOK P o σ (rStore P T (ev σ x) (ev σ u)):=by
 unfold rStore at hpel hopen ⊢
 cases ht:tinfo P T with
 |none=>exact OpOK.bad
 |some ti=>
  rw[ht]at hpel hopen
  obtain⟨i,d,z,hi,hd,hz,_,rfl⟩:=tinfo_is ht
  simp only at hpel hopen ⊢
  cases hx:ev σ x with
  |one y=>
   cases y with
   |ptr id off=>
    intro ro base S0 w0 c a w K Q h1 h2 h3 h4
    have hv:=ev_ok h1 x
    rw[hx]at hv
    obtain⟨hbx,hp⟩:=hv
    obtain⟨cs,hm⟩:∃cs,σ.m id=some (.box cs):=by
     rcases hbx with h|⟨cs,hm⟩|⟨_,_,_,hm⟩|⟨_,_,_,hm⟩|⟨cs,hm⟩|⟨_,hm⟩
     ·exact h
     all_goals simp only[Req.eff,only_same,hm]at h3
    simp only[Req.eff,Req.mem,only_same,hm,cond_true]at h3 h4
    obtain⟨e1,e2,e3⟩:=h3
    obtain⟨ts,q1,q2⟩:=cellsOf_ok (ev_ok h1 u) e1
    obtain⟨b1,b2,vs,TT,b3,b4⟩:=h2.blk id _ hm
    have hl:ts.length=i.size:=by rw[←q2.1];exact e2
    have hst:=run_storeCells_at P (c.φ id) off TT ts 0 vs.toArray w b3 (by have:=b4.1;have:=q2.1;simp;omega) (fun v hv=>by
     obtain⟨j,hj,rfl⟩:=List.getElem_of_mem hv
     obtain⟨xx,_,hq⟩:=q2.get' (List.getElem?_eq_getElem hj)
     exact VA.one hq)
    obtain⟨g,r1⟩:=h2.setBox hm (splice_ok b4 q2 off)
    have hr:(execOp a.eval o).run P w=.ok .skip (w.setRow (c.φ id) (vs.take off++ts++vs.drop (off+ts.length)).toArray):=by
     simp only[Nat.add_zero]at hst
     simp[execOp,ho,Instr.storeAt,Instr.sureAddr,hp,storeVar,q1,run_sizeOf hi,hl,hst]
    refine wpo_run (hr) rfl ?_
    rw[mrg_one (b:=some (.box (splice cs off (ev σ u).cells))) rfl]at h4
    exact h4 _ _ undef g r1 trivial
   |el k cs off=>exact OpOK.bad
   |pel id n i off=>exact hpel id n i off hx
   |c y=>
    cases y with
    |v x0=>exact hopen x0 hx
    |_=>exact OpOK.bad
   |own id n=>exact OpOK.bad
   |mp id=>exact OpOK.bad
   |full k xs=>exact OpOK.bad
   |nil=>exact OpOK.bad
   |bare=>exact OpOK.bad
   |any=>exact OpOK.bad
  |agg cs=>exact OpOK.bad
  |tup rs=>exact OpOK.bad
  |tupo rs=>exact OpOK.bad
  |junk=>exact OpOK.bad
theorem nolist {fs:Array Field}{k:Knd}(h:k=kndOf P (.struct fs))(hk:∀l,k≠.struct l):k=.other:=by
 simp only[kndOf]at h
 cases hb:fs.toList.all (fun f=>(P.info? f.type).isSome&&(P.underlying f.type).isSome)with
 |false=>rw[hb]at h;exact h
 |true=>rw[hb]at h;exact absurd h (hk _)
theorem noslice {e:TypeId}{k:Knd}(h:k=kndOf P (.slice e))(hk:∀a b,k≠.slice a b):k=.other:=by
 simp only[kndOf]at h
 cases hi:P.info? e with
 |none=>simp only[hi]at h;exact h
 |some ie=>
  cases hz:ie.zero with
  |none=>simp only[hi,hz]at h;exact h
  |some z=>
   simp only[hi,hz]at h
   cases hb:(decide (ie.bytes≤131072)&&decide (z.cells.size=ie.size)&&decide (0<ie.size)&&z.cells.toList.all okV)with
   |false=>rw[hb]at h;exact h
   |true=>rw[hb]at h;exact absurd h (hk _ _)
theorem field_shape {T:TypeId}{a b:Nat}{g:Bool}{zz:List A}{fs:List (Nat×Nat×Bool)}(ht:tinfo P T=some ⟨a,b,g,zz,.struct fs⟩):∃fields:Array Field,P.underlying T=some (.struct fields)∧fs=fields.toList.map (fldOf P)∧∀f∈fields.toList,(P.info? f.type).isSome=true∧(P.underlying f.type).isSome=true:=by
 obtain⟨i,d,z,hi,hd,hz,_,he⟩:=tinfo_is ht
 simp only[TI.mk.injEq]at he
 obtain⟨_,_,_,_,hk⟩:=he
 cases d with
 |slice e'=>have:=noslice hk (by intro a b e;simp at e);simp at this
 |struct fields=>
  simp only[kndOf]at hk
  cases hb:fields.toList.all (fun f=>(P.info? f.type).isSome&&(P.underlying f.type).isSome)with
  |false=>rw[hb]at hk;simp at hk
  |true=>
   rw[hb]at hk
   simp only[cond_true,Knd.struct.injEq]at hk
   exact⟨fields,hd,hk,fun f hf=>by simpa using List.all_eq_true.1 hb f hf⟩
 |_=>simp[kndOf]at hk
theorem fieldAt_run {T:TypeId}{fields:Array Field}{f:Nat}{o sz:Nat}{ag:Bool}(hd:P.underlying T=some (.struct fields))(hf:(fields.toList.map (fldOf P))[f]?=some (o,sz,ag))(hs:sz≠0)(p:Nat)(off:Nat):(Instr.fieldAt T (.pointer (some ⟨p,off,none⟩)) f).run P w=.ok (.pointer (some ⟨p,off+o,none⟩)) w:=by
 simp only[List.getElem?_map,Option.map_eq_some_iff]at hf
 obtain⟨fd,hf1,hf2⟩:=hf
 simp only[fldOf,Prod.mk.injEq]at hf2
 obtain⟨rfl,hsz,_⟩:=hf2
 have hf1':fields[f]?=some fd:=by simpa using hf1
 have hsz':P.cellsOf fd.type≠0:=by rw[hsz];exact hs
 unfold Program.cellsOf at hsz'
 cases hi:P.info? fd.type with
 |none=>simp[hi]at hsz'
 |some i=>
  simp[hi]at hsz'
  simp[Instr.fieldAt,run_underlying hd,hf1',Instr.sureAddr,fieldPlace,run_sizeOf hi,hsz',add_row]
theorem fieldAddr_ok {o:Oper}{T:TypeId}{x:Operand}{f:Nat}(ho:o.op=.fieldAddr T x f):OpOK P o σ (rField P T (ev σ x) f):=by
 unfold rField
 split
 ·rename_i s1 s2 s3 s4 fs ht
  obtain⟨fields,hd,rfl,_⟩:=field_shape ht
  split
  ·rename_i off sz ag id o2 hf hx
   refine OpOK.val fun base S0 w0 c a w h1 h2 h3=>?_
   have hv:=ev_ok h1 x
   rw[hx]at hv
   obtain⟨hb,hp⟩:=hv
   exact⟨_,by simp[execOp,ho,hp,fieldAt_run hd hf h3],hb,rfl⟩
  ·rename_i off sz ag k cs o2 hf hx
   refine OpOK.val fun base S0 w0 c a w h1 h2 h3=>?_
   have hv:=ev_ok h1 x
   rw[hx]at hv
   obtain⟨b,o',vs,hp,q⟩:=hv
   exact⟨_,by simp[execOp,ho,hp,fieldAt_run hd hf h3];rfl,b,o',vs,by rw[Nat.add_assoc],q⟩
  ·rename_i off sz ag k cs o2 hf hx
   refine OpOK.val fun base S0 w0 c a w h1 h2 h3=>?_
   have hv:=ev_ok h1 x
   rw[hx]at hv
   have hv:R c.S w (.ptrc k cs o2) (a.eval x):=hv
   generalize hq:a.eval x=p at hv
   cases hv with
   |ptr k1 k2 k3 k4=>
    rename_i b o' vs
    exact⟨_,by simp[execOp,ho,hq,fieldAt_run hd hf h3];rfl,b,o',vs,by rw[Nat.add_assoc],k1,⟨k2,k4⟩,k3⟩
  ·rename_i off sz ag id n i o2 hf hx
   refine OpOK.same rfl fun base S0 w0 c a w h1 h2 h3=>?_
   have hv:=ev_ok h1 x
   rw[hx]at hv
   simp only[Req.eff,Req.read,rowsOf_only]at h3 ⊢
   obtain⟨⟨ad,hp⟩,L,hL,hn,hq⟩:=hv
   cases hm:rowsOf σ.m id with
   |none=>rw[hm]at h3;exact h3.elim
   |some t=>
    obtain⟨e,sz2,xs⟩:=t
    simp only[hm]at h3 ⊢
    obtain⟨p0,_⟩:=rows_blk h2 hm
    have hL':xs.length=L:=by rw[p0]at hL;exact Option.some.inj hL
    obtain⟨g,cap,q1,q2⟩:=hq (by omega) e sz2 xs hm
    refine⟨_,by simp[execOp,ho,q2,fieldAt_run hd hf h3.2];rfl,⟨_,rfl⟩,L,hL,hn,fun e' e2 sz3 xs3 hm3=>?_⟩
    rw[hm]at hm3
    cases hm3
    exact⟨g,cap,q1,by rw[Nat.add_assoc]⟩
  ·rename_i off sz ag x0 hf hx
   split
   ·rename_i b o2 hraw
    refine OpOK.val fun base S0 w0 c a w h1 h2 h3=>?_
    have hv:=ev_ok h1 x
    rw[hx]at hv
    have hp:a.eval x=.pointer (some ⟨b,o2,none⟩):=by rw[R.val hv];exact rawP_eq hraw
    exact⟨_,by simp[execOp,ho,hp,fieldAt_run hd hf h3],R.v rfl⟩
   ·exact OpOK.bad
  ·exact OpOK.bad
 ·exact OpOK.bad
theorem extract_ok {o:Oper}{x:Operand}{i:Nat}{rs:List CA}{u:CA}(ho:o.op=.extract x i)(hx:ev σ x=.tup rs)(hi:rs[i]?=some u):OpOK P o σ (.val True u.av):=
 OpOK.val fun base S0 w0 c a w h1 h2 h3=>by
  have hv:=ev_ok h1 x
  rw[hx]at hv
  obtain⟨vs,hp,hq⟩:=hv
  obtain⟨v,hv1,hv2⟩:=hq.get hi
  refine⟨v,by simp[execOp,ho,Instr.extract,hp,hv1],?_⟩
  cases u with
  |one y=>exact hv2
  |agg cs=>obtain⟨us,rfl,hus⟩:=hv2;exact⟨us,rfl,F2.map_left.2 hus⟩
  |nil=>exact hv2
theorem extract_mix {o:Oper}{x:Operand}{i:Nat}{rs:List (Bool×List A)}{u:Bool×List A}(ho:o.op=.extract x i)(hx:ev σ x=.tupo rs)(hi:rs[i]?=some u):OpOK P o σ (.val True (avM u)):=
 OpOK.val fun base S0 w0 c a w h1 h2 h3=>by
  have hv:=ev_ok h1 x
  rw[hx]at hv
  obtain⟨vs,hp,hq⟩:=hv
  obtain⟨v,hv1,hv2⟩:=hq.get hi
  refine⟨v,by simp[execOp,ho,Instr.extract,hp,hv1],?_⟩
  obtain⟨b,cs⟩:=u
  cases b with
  |true=>exact hv2
  |false=>obtain⟨y,rfl,h⟩:=hv2;exact h
theorem slice_shape {T:TypeId}{a b:Nat}{g:Bool}{zz:List A}{e esz:Nat}(ht:tinfo P T=some ⟨a,b,g,zz,.slice e esz⟩):P.underlying T=some (.slice e)∧∃ie z,P.info? e=some ie∧ie.zero=some z∧ie.size=esz∧ie.bytes≤131072∧z.cells.size=esz∧0<esz∧∀v∈z.cells.toList,okV v=true:=by
 obtain⟨i,d,z,hi,hd,hz,_,he⟩:=tinfo_is ht
 simp only[TI.mk.injEq]at he
 obtain⟨_,_,_,_,hk⟩:=he
 cases d with
 |slice e'=>
  simp only[kndOf]at hk
  cases hie:P.info? e' with
  |none=>simp[hie]at hk
  |some ie=>
   cases hz':ie.zero with
   |none=>simp[hie,hz']at hk
   |some z'=>
    simp only[hie,hz']at hk
    cases hb:(decide (ie.bytes≤131072)&&decide (z'.cells.size=ie.size)&&decide (0<ie.size)&&z'.cells.toList.all okV)with
    |false=>rw[hb]at hk;simp at hk
    |true=>
     rw[hb]at hk
     simp only[cond_true,Knd.slice.injEq]at hk
     obtain⟨rfl,rfl⟩:=hk
     simp only[Bool.and_eq_true,decide_eq_true_eq]at hb
     obtain⟨⟨⟨h1,h2⟩,h3⟩,h4⟩:=hb
     exact⟨hd,ie,z',hie,hz',rfl,h1,h2,h3,List.all_eq_true.1 h4⟩
 |struct fs=>simp only[kndOf]at hk;cases hb:fs.toList.all (fun f=>(P.info? f.type).isSome&&(P.underlying f.type).isSome)<;>simp[hb]at hk
 |_=>simp[kndOf]at hk
theorem arr_shape {T:TypeId}{a b:Nat}{g:Bool}{zz:List A}{n e esz:Nat}(ht:tinfo P T=some ⟨a,b,g,zz,.arr n e esz⟩):P.underlying T=some (.array n e)∧P.cellsOf e=esz:=by
 obtain⟨i,d,z,hi,hd,hz,_,he⟩:=tinfo_is ht
 simp only[TI.mk.injEq]at he
 obtain⟨_,_,_,_,hk⟩:=he
 cases d with
 |slice e'=>have:=noslice hk (by intro a b e;simp at e);simp at this
 |struct fs=>have:=nolist hk (by intro l e;simp at e);simp at this
 |array n' e'=>simp only[kndOf,Knd.arr.injEq]at hk;obtain⟨rfl,rfl,h2⟩:=hk;exact⟨hd,h2.symm⟩
 |_=>simp[kndOf]at hk
theorem str_shape {T:TypeId}{a b:Nat}{g:Bool}{zz:List A}(ht:tinfo P T=some ⟨a,b,g,zz,.str⟩):P.underlying T=some .string:=by
 obtain⟨i,d,z,hi,hd,hz,_,he⟩:=tinfo_is ht
 simp only[TI.mk.injEq]at he
 obtain⟨_,_,_,_,hk⟩:=he
 cases d with
 |slice e'=>have:=noslice hk (by intro a b e;simp at e);simp at this
 |struct fs=>have:=nolist hk (by intro l e;simp at e);simp at this
 |string=>exact hd
 |_=>simp[kndOf]at hk
theorem int_shape {T:TypeId}{a b:Nat}{g:Bool}{zz:List A}{k:IntKind}(ht:tinfo P T=some ⟨a,b,g,zz,.int k⟩):P.underlying T=some (.int k):=by
 obtain⟨i,d,z,hi,hd,hz,_,he⟩:=tinfo_is ht
 simp only[TI.mk.injEq]at he
 obtain⟨_,_,_,_,hk⟩:=he
 cases d with
 |slice e'=>have:=noslice hk (by intro a b e;simp at e);simp at this
 |struct fs=>have:=nolist hk (by intro l e;simp at e);simp at this
 |int k'=>simp only[kndOf,Knd.int.injEq]at hk;subst hk;exact hd
 |_=>simp[kndOf]at hk
theorem bool_shape {T:TypeId}{a b:Nat}{g:Bool}{zz:List A}(ht:tinfo P T=some ⟨a,b,g,zz,.bool⟩):P.underlying T=some .bool:=by
 obtain⟨i,d,z,hi,hd,hz,_,he⟩:=tinfo_is ht
 simp only[TI.mk.injEq]at he
 obtain⟨_,_,_,_,hk⟩:=he
 cases d with
 |slice e'=>have:=noslice hk (by intro a b e;simp at e);simp at this
 |struct fs=>have:=nolist hk (by intro l e;simp at e);simp at this
 |bool=>exact hd
 |_=>simp[kndOf]at hk
theorem info_of_cells {t:TypeId}(h:P.cellsOf t≠0):∃i,P.info? t=some i∧i.size=P.cellsOf t:=by
 unfold Program.cellsOf at h ⊢
 cases hi:P.info? t with
 |none=>simp[hi]at h
 |some i=>exact⟨i,rfl,by simp⟩
theorem indexAt_run {T e:TypeId}{b o len cap:Nat}{k:IntKind}{i:Int}(hd:P.underlying T=some (.slice e)){ie:TypeInfo}(hi:P.info? e=some ie)(h0:0≤i)(hl:i.toNat<len):(Instr.indexAt T (.slice (some ⟨b,o,none⟩) len cap) (.int k i)).run P w=.ok (.pointer (some ⟨b,o+i.toNat*ie.size,none⟩)) w:=by
 have h1:i<(len:Int):=by omega
 simp[Instr.indexAt,asIntOf,run_underlying hd,h0,h1,run_sizeOf hi,add_row]
theorem indexAtArr_run {T e:TypeId}{b o len:Nat}{k:IntKind}{i:Int}(hd:P.underlying T=some (.array len e)){ie:TypeInfo}(hi:P.info? e=some ie)(h0:0≤i)(hl:i.toNat<len):(Instr.indexAt T (.pointer (some ⟨b,o,none⟩)) (.int k i)).run P w=.ok (.pointer (some ⟨b,o+i.toNat*ie.size,none⟩)) w:=by
 have h1:i<(len:Int):=by omega
 simp[Instr.indexAt,Instr.sureAddr,asIntOf,run_underlying hd,h0,h1,run_sizeOf hi,add_row]
theorem rowsOf_rows {m:Mem}{id:Nat}{e:TypeId}{sz:Nat}{xs:List (List CV)}(h:m id=some (.rows e sz xs)):rowsOf m id=some (e,sz,xs):=by simp only[rowsOf,h]
theorem rowsOf_lent {m:Mem}{id j:Nat}{e:TypeId}{sz:Nat}{xs:List (List CV)}(h:m id=some (.lent j e sz xs)):rowsOf m id=some (e,sz,xs):=by simp only[rowsOf,h]
theorem row_at {S:Sh}{k:Nat}{xs:List (List CV)}{v:Value}(h:R S w (.rowc k xs) v){i:Int}(hi:i.toNat<xs.length):∃b o cap vs,v=.slice (some ⟨b,o,none⟩) xs.length cap∧S k b∧F2 (R S w) (xs.getD i.toNat []) vs∧Holds w b (o+i.toNat*(xs.getD i.toNat []).length) vs:=by
 have hxi:xs[i.toNat]?=some (xs.getD i.toNat []):=by simp[List.getD,hi]
 obtain⟨b,o,cap,h1,h2,_,vs,h3,h4⟩:=h.elem hxi
 exact⟨b,o,cap,vs,h1,h2,h3,h4⟩
theorem index_ok {o:Oper}{T:TypeId}{x i:Operand}(ho:o.op=.indexAddr T x i):OpOK P o σ (rIndex P T (ev σ x) (ev σ i)):=by
 have hint:∀{c:Ctx} {a:Act} {w:World} {k:IntKind} {n:Int},Tm c w σ a→ev σ i=.one (.c (.v (.int k n)))→a.eval i=.int k n:=fun h1 he=>by
  have hv:=ev_ok h1 i
  rw[he]at hv
  exact R.val hv
 unfold rIndex
 split
 ·rename_i s1 s2 s3 s4 e esz ht
  obtain⟨hd,ie,ze,hie,hze,hc,hby,hzs,hpos,hz1⟩:=slice_shape ht
  have row:∀{c:Ctx} {a:Act} {w:World} {j:Nat} {xs:List (List CV)} {k:IntKind} {n:Int} {v:Value},Tm c w σ a→a.eval x=v→R c.S w (.rowc j xs) v→a.eval i=.int k n→(0≤n∧n.toNat<xs.length∧(xs.getD n.toNat []).length=esz∧esz≠0)→∃v,(execOp a.eval o).run P w=.ok (.value v) w∧VV c w σ.m (.one (.el j (xs.getD n.toNat []) 0)) v:=fun {c a w j xs k n v} h1 hx hr hi h3=>by
   obtain⟨b,o',cap,vs,rfl,q1,q2,q3⟩:=row_at hr h3.2.1
   refine⟨_,by simp[execOp,ho,hx,hi,indexAt_run hd hie h3.1 h3.2.1];rfl,b,o'+n.toNat*ie.size,vs,by rw[Nat.add_zero],q1,q2,?_⟩
   rw[hc,←h3.2.2.1]
   exact q3
  split
  ·rename_i j xs k n hx hi
   refine OpOK.val fun base S0 w0 c a w h1 h2 h3=>?_
   have hv:=ev_ok h1 x
   rw[hx]at hv
   exact row h1 rfl hv (hint h1 hi) h3
  ·rename_i j xs k n hx hi
   refine OpOK.val fun base S0 w0 c a w h1 h2 h3=>?_
   have hv:=ev_ok h1 x
   rw[hx]at hv
   obtain⟨ad,_,hv⟩:=hv
   exact row h1 rfl hv (hint h1 hi) h3
  ·rename_i id n k j hx hi
   refine OpOK.same rfl fun base S0 w0 c a w h1 h2 h3=>?_
   have hv:=ev_ok h1 x
   rw[hx]at hv
   obtain⟨_,L,hL,hn,hq⟩:=hv
   have pel:∀{e':TypeId} {sz:Nat} {xs:List (List CV)},rowsOf σ.m id=some (e',sz,xs)→(xs.length=n∧0≤j∧j.toNat<xs.length∧sz=esz)→∃v,(execOp a.eval o).run P w=.ok (.value v) w∧VV c w σ.m (.one (.pel id n j.toNat 0)) v:=fun {e' sz xs} hm h3=>by
    obtain⟨e1,e2,e3,e4⟩:=h3
    obtain⟨p0,p1,p2,p3,vss,p5,p6⟩:=rows_blk h2 hm
    have hL':xs.length=L:=by rw[p0]at hL;exact Option.some.inj hL
    have hpsi:=hq (by omega)
    rcases p6.2 with⟨_,h0⟩|⟨g,cap,cur,f1,_⟩
    ·omega
    ·refine⟨_,by rw[f1]at hpsi;simp[execOp,ho,hpsi,hint h1 hi,indexAt_run hd hie e2 e3];rfl,⟨_,rfl⟩,L,hL,hn,fun _ e2 sz2 xs2 hm2=>?_⟩
     rw[hm]at hm2
     cases hm2
     exact⟨g,cap,by rw[f1,e1],by rw[hc,e4];rfl⟩
   cases hm:σ.m id with
   |none=>simp[rowLen,hm]at hL
   |some blk=>
    simp only[Req.eff,Req.read,only_same,hm]at h3 ⊢
    cases blk with
    |box cs=>exact h3.elim
    |gone L=>exact h3.elim
    |froz xs=>
     simp only at h3 ⊢
     have hL':xs.length=L:=by simpa[rowLen,hm]using hL
     exact row h1 (hq (by omega)) (h2.blk id _ hm) (hint h1 hi) h3.2
    |fbox cs=>exact h3.elim
    |obox cs=>exact h3.elim
    |orec r=>exact h3.elim
    |mapb a ks xs=>exact h3.elim
    |fmap a ks xs=>exact h3.elim
    |rows e' sz xs=>
     simp only at h3 ⊢
     exact pel (rowsOf_rows hm) h3
    |lent j e' sz xs=>
     simp only at h3 ⊢
     exact pel (rowsOf_lent hm) h3
  ·exact OpOK.bad
 ·rename_i s1 s2 s3 s4 len e esz ht
  obtain⟨hd,hc⟩:=arr_shape ht
  split
  ·rename_i id off k j hx hi
   refine OpOK.val fun base S0 w0 c a w h1 h2 h3=>?_
   have hv:=ev_ok h1 x
   rw[hx]at hv
   obtain⟨hb,hp⟩:=hv
   obtain⟨e1,e2,e3⟩:=h3
   obtain⟨ie,hie,hse⟩:=info_of_cells (P:=P) (t:=e) (by rw[hc];exact e3)
   exact⟨_,by simp[execOp,ho,hp,hint h1 hi,indexAtArr_run hd hie e1 e2];rfl,hb,by rw[hse,hc]⟩
  ·rename_i q cs off k j hx hi
   refine OpOK.val fun base S0 w0 c a w h1 h2 h3=>?_
   have hv:=ev_ok h1 x
   rw[hx]at hv
   obtain⟨b,o',vs,hp,q1,q2,q3⟩:=hv
   obtain⟨e1,e2,e3⟩:=h3
   obtain⟨ie,hie,hse⟩:=info_of_cells (P:=P) (t:=e) (by rw[hc];exact e3)
   refine⟨_,by simp[execOp,ho,hp,hint h1 hi,indexAtArr_run hd hie e1 e2];rfl,b,o',vs,?_,q1,q2,q3⟩
   rw[hse,hc,Nat.add_assoc]
  ·rename_i q cs off k j hx hi
   refine OpOK.val fun base S0 w0 c a w h1 h2 h3=>?_
   have hv:=ev_ok h1 x
   rw[hx]at hv
   have hv:R c.S w (.ptrc q cs off) (a.eval x):=hv
   generalize hax:a.eval x=v at hv
   cases hv with
   |ptr p1 p2 p3 p4=>
    obtain⟨e1,e2,e3⟩:=h3
    obtain⟨ie,hie,hse⟩:=info_of_cells (P:=P) (t:=e) (by rw[hc];exact e3)
    refine⟨_,by simp[execOp,ho,hax,hint h1 hi,indexAtArr_run hd hie e1 e2];rfl,_,_,_,?_,p1,⟨p2,p4⟩,p3⟩
    rw[hse,hc,Nat.add_assoc]
  ·rename_i x0 k j hx hi
   split
   ·rename_i b o2 hraw
    refine OpOK.val fun base S0 w0 c a w h1 h2 h3=>?_
    have hv:=ev_ok h1 x
    rw[hx]at hv
    have hp:a.eval x=.pointer (some ⟨b,o2,none⟩):=by rw[R.val hv];exact rawP_eq hraw
    obtain⟨e1,e2,e3⟩:=h3
    obtain⟨ie,hie,hse⟩:=info_of_cells (P:=P) (t:=e) (by rw[hc];exact e3)
    exact⟨_,by simp[execOp,ho,hp,hint h1 hi,indexAtArr_run hd hie e1 e2];rfl,by rw[hse,hc];exact R.v rfl⟩
   ·exact OpOK.bad
  ·exact OpOK.bad
 ·exact OpOK.bad
end
end
end Go.Proofs.YtaoijgapnmmpoaaGreatDoor.Abs
