/- Texts that were merged: L12k, L12s, L12p, L13k, L07m, G1. -/
import Derived.Test.YtaoijgapnmmpoaaGreatDoorZ6
import Derived.Test.YtaoijgapnmmpoaaGreatDoorZ8
set_option linter.unusedSimpArgs false
set_option linter.unusedVariables false
set_option maxRecDepth 100000
namespace Go.Proofs.YtaoijgapnmmpoaaGreatDoor.Abs
open Go.RowKit
section
theorem fewW_iff {w:Wld}(h:fewW w=true):(w.regs.length≤10∧w.log.length≤300∧w.leaks.length≤300∧w.draws.list.length≤1000)∧(w.box.entries.length≤70∧∀s∈w.box.entries,s.plain.length≤100)∧(w.net.grams.length≤64∧w.net.seen.length≤300)∧w.people.length≤10:=by
 unfold fewW fewT at h
 simp only[Bool.and_eq_true,decide_eq_true_eq]at h
 obtain⟨h0,h1,h2,h3,h4⟩:=h
 obtain⟨p1,p2⟩:=of_decide_eq_true h1
 obtain⟨_,_,q3,q4⟩:=of_decide_eq_true h2
 have h5:=(fewPl_iff h3).1
 refine⟨⟨by omega,by omega,by omega,by omega⟩,⟨by omega,fun s hs=>?_⟩,⟨by omega,by omega⟩,h5⟩
 have:=p1 s (by rw[List.take_of_length_le (by omega)];exact hs)
 omega
theorem formW_iff {w:Wld}(h:formW w=true):mayC w.conf=true∧rightB w.box=true∧w.box.room=w.conf.box∧rightN w.net=true∧w.net.room=w.conf.net∧rightPl w.people=true∧(w.people.length:Int)=w.conf.people+1∧(w.regs.length:Int)=w.conf.regs∧(0≤w.draws.next∧w.draws.next≤1048576)∧w.people.all (personB w.conf)=true∧w.regs.all shB=true∧w.net.seen.all shB=true∧w.net.grams.all gramB=true:=by
 unfold formW formA formB at h
 simp only[Bool.and_eq_true,decide_eq_true_eq,beq_iff_eq]at h
 obtain⟨⟨a1,a2,a3,a4,a5⟩,⟨b1,b2,b3,b4⟩,c1,c2,c3,c4⟩:=h
 exact⟨a1,a2,a3,a4,a5,b1,b2,b3,b4,c1,c2,c3,c4⟩
theorem small_of {w:Wld}(h1:fewW w=true)(h2:formW w=true):Small w:=by
 obtain⟨f1,f2,f3,f4⟩:=fewW_iff h1
 obtain⟨_,_,_,_,_,_,_,_,g,_⟩:=formW_iff h2
 exact⟨by omega,fun s hs=>by have:=f2.2 s hs;omega,by omega,by omega,by omega,by omega,by omega,by omega⟩
end
section
theorem formW_mk {w:Wld}(a1:mayC w.conf=true)(a2:rightB w.box=true)(a3:w.box.room=w.conf.box)(a4:rightN w.net=true)(a5:w.net.room=w.conf.net)(b1:rightPl w.people=true)(b2:(w.people.length:Int)=w.conf.people+1)(b3:(w.regs.length:Int)=w.conf.regs)(b4:0≤w.draws.next∧w.draws.next≤1048576)(c1:w.people.all (personB w.conf)=true)(c2:w.regs.all shB=true)(c3:w.net.seen.all shB=true)(c4:w.net.grams.all gramB=true):formW w=true:=by
 unfold formW formA formB
 simp only[a1,a2,a3,a4,a5,b1,c1,c2,c3,c4,decide_eq_true b2,decide_eq_true b3,decide_eq_true b4,beq_self_eq_true,Bool.and_true]
theorem putL_len (m:Mssg):(putL m).length≤18:=by
 unfold putL
 split
 ·rw[putM_length];have:=kindTags_len m.kind;omega
 ·simp
theorem sendW_cases (w:Wld)(to:Int)(m:Mssg):(mayM m=false∧sendW w to m=(w,1))∨(mayM m=true∧w.net.room≤(w.net.grams.length:Int)∧sendW w to m=(w,10))∨(mayM m=true∧¬w.net.room≤(w.net.grams.length:Int)∧sendW w to m=({w with net:=⟨w.net.room,w.net.grams++[⟨to,putL m⟩],w.net.seen++[putL m]⟩},0)):=by
 unfold sendW putE sendN
 cases hm:mayM m
 ·exact .inl ⟨rfl,by simp⟩
 ·by_cases hr:w.net.room≤(w.net.grams.length:Int)
  ·exact .inr (.inl ⟨rfl,hr,by simp[hr]⟩)
  ·exact .inr (.inr ⟨rfl,hr,by simp[hr]⟩)
end
section
theorem putP_ok {label:Int}{p:Prt}(h:(putP label p).2=0):mayP label p=true∧(putP label p).1=wordsP label p∧getP label (wordsP label p)=(p,0):=by
 unfold putP at h ⊢
 split
 ·rename_i hm;exact⟨hm,rfl,of_decide_eq_true hm⟩
 ·rename_i hm;rw[if_neg hm]at h;simp at h
theorem wordsP_len (label:Int)(p:Prt):(wordsP label p).length≤5:=by
 rcases label_cases label with rfl|rfl|rfl|rfl|rfl|rfl|rfl|rfl|hh<;>first|(rw[wordsP_none (by assumption)];simp;done)|simp[wordsP]
theorem sealW_cases (w : Wld) (key label : Int) (p : Prt) : (∃ e, e ≠ 0 ∧ sealW w key label p = (w, 0, e)) ∨
    (getP label (wordsP label p) = (p, 0) ∧ thereB w.box.entries (drawnW w) = false ∧ (w.box.entries.length : Int) < w.box.room ∧
      sealW w key label p = ({ drawW w with box := ⟨w.box.room, w.box.entries ++ [⟨drawnW w, key, label, wordsP label p⟩]⟩ }, drawnW w, 0)) := by
  unfold sealW
  by_cases g1 : (putP label p).2 = 0
  · obtain ⟨_, e1, e2⟩ := putP_ok g1
    rw [if_neg (fun h => h g1)]
    unfold sealedW
    rw [e1]
    have hl := wordsP_len label p
    have n64 : ¬ (64 : Int) < ((wordsP label p).length : Int) := by omega
    by_cases ht : thereB w.box.entries (drawnW w) = true
    · have es : sealB w.box (drawnW w) key label (wordsP label p) = (w.box, 8) := by simp [sealB, n64, ht]
      rw [es]; exact .inl ⟨8, by decide, by simp⟩
    · by_cases hr : w.box.room ≤ (w.box.entries.length : Int)
      · have es : sealB w.box (drawnW w) key label (wordsP label p) = (w.box, 10) := by simp [sealB, n64, ht, hr]
        rw [es]; exact .inl ⟨10, by decide, by simp⟩
      · have es : sealB w.box (drawnW w) key label (wordsP label p) = (⟨w.box.room, w.box.entries ++ [⟨drawnW w, key, label, wordsP label p⟩]⟩, 0) := by simp [sealB, n64, ht, hr]
        rw [es]
        exact .inr ⟨e2, by simpa using ht, by omega, by simp⟩
  · rw [if_pos g1]; exact .inl ⟨_, g1, rfl⟩
end
section
theorem smallN_of {w:Wld}{N:Nat}(hN:N≤1000)(h1:fewW w=true)(h2:formW w=true):SmallN N w:=by
 obtain⟨f1,f2,f3,f4⟩:=fewW_iff h1
 obtain⟨_,_,_,_,_,_,_,_,g,_⟩:=formW_iff h2
 exact⟨by omega,fun s hs=>by have:=f2.2 s hs;omega,by omega,by omega,by omega,by omega,by omega,by omega⟩
theorem person_in (w:Wld)(n:Int):personW w n=person0∨personW w n∈w.people:=by
 unfold personW getPl
 cases hf:w.people.find? (fun p=>p.name==n)with
 |none=>exact .inl rfl
 |some p=>exact .inr (List.mem_of_find?_eq_some hf)
theorem person_used {w:Wld}(h:formW w=true)(n:Int):(personW w n).used.length≤64∧(personW w n).runs.length≤64:=by
 obtain⟨a1,_,_,_,_,_,_,_,_,c1,_⟩:=formW_iff h
 unfold mayC roomB at a1
 simp only[Bool.and_eq_true,decide_eq_true_eq]at a1
 rcases person_in w n with e|e
 ·rw[e];simp[person0]
 ·have:=List.all_eq_true.1 c1 _ e
  unfold personB at this
  simp only[Bool.and_eq_true,decide_eq_true_eq]at this
  have hu:=this.1
  have hr:=this.2.1
  unfold usedR at hu
  unfold runsR at hr
  simp only[Bool.and_eq_true,decide_eq_true_eq]at hu hr
  omega
end
section
theorem right_snoc {r:Int}{es:List Sealed}{s:Sealed}(h:rightB ⟨r,es⟩=true)(hr:(es.length:Int)<r)(hp:s.plain.length≤64)(ht:thereB es s.handle=false):rightB ⟨r,es++[s]⟩=true:=by
 obtain⟨h1,h2,h3,h4⟩:=right_room h
 unfold rightB
 rw[Bool.and_eq_true]
 refine⟨decide_eq_true ⟨h1,h2,by simp only[List.length_append,List.length_singleton];omega⟩,entriesB_iff.2 fun i x hx=>?_⟩
 simp only at h1 h2 h3 h4 hx ⊢
 by_cases hi:i<es.length
 ·rw[List.getElem?_append_left hi]at hx
  rw[List.take_append_of_le_length (by omega)]
  exact h4 i x hx
 ·rw[List.getElem?_append_right (by omega)]at hx
  have hi':i=es.length:=by
   rcases Nat.lt_or_ge (i - es.length) 1 with h|h
   ·omega
   ·rw[List.getElem?_eq_none (by simpa using h)]at hx;simp at hx
  subst hi'
  simp at hx
  subst hx
  rw[List.take_append_of_le_length (Nat.le_refl _),List.take_length]
  exact⟨by omega,ht⟩
end
section
structure Good (N:Nat)(w:Wld):Prop where
 small:SmallN N w
 box:rightB w.box=true
 net:rightN w.net=true
 ppl:rightPl w.people=true
 few:N≤1000
 lists:∀p∈w.people,p.used.length+N≤1000∧p.runs.length+N≤1000
theorem Good.of {N:Nat}{w:Wld}(hf:formW w=true)(h:SmallN N w)(hN:N≤900):Good N w:=by
 obtain⟨hm,a2,_,a4,_,a6,_,_,_,hp,_⟩:=formW_iff hf
 refine⟨h,a2,a4,a6,by omega,fun p hi=>?_⟩
 have:=List.all_eq_true.1 hp p hi
 simp only[personB,usedR,runsR,Bool.and_eq_true,decide_eq_true_eq]at this
 simp only[mayC,roomB,Bool.and_eq_true,decide_eq_true_eq]at hm
 omega
theorem Good.person {N:Nat}{w:Wld}(h:Good N w)(n:Int):(personW w n).used.length+N≤1000∧(personW w n).runs.length+N≤1000:=by
 rcases person_in w n with e|e
 ·rw[e];have:=h.few;exact⟨by show 0+N≤1000;omega,by show 0+N≤1000;omega⟩
 ·exact h.lists _ e
theorem Good.less {N M:Nat}{w:Wld}(h:Good N w)(hm:M≤N):Good M w:=⟨h.small.less hm,h.box,h.net,h.ppl,by have:=h.few;omega,fun p hp=>by have:=h.lists p hp;omega⟩
theorem Good.draw {N:Nat}{w:Wld}(h:Good (N+1) w):Good N (drawW w):=⟨h.small.draw,h.box,h.net,h.ppl,by have:=h.few;omega,fun p hp=>by have:=h.lists p hp;omega⟩
theorem Good.sealS {N:Nat}{w:Wld}(h:Good (N+1) w)(key label:Int)(p:Prt):Good N (sealW w key label p).1:=by
 have hs:=h.small.sealS key label p
 rcases sealW_cases w key label p with⟨e,_,he⟩|⟨_,ht,hr,he⟩
 ·rw[he]at hs ⊢
  exact⟨hs,h.box,h.net,h.ppl,by have:=h.few;omega,fun p hp=>by have:=h.lists p hp;omega⟩
 ·rw[he]at hs ⊢
  have hl:=wordsP_len label p
  exact⟨hs,right_snoc (s:=⟨drawnW w,key,label,wordsP label p⟩) h.box hr (by show(wordsP label p).length≤64;omega) ht,h.net,h.ppl,by have:=h.few;omega,fun p hp=>by have:=h.lists p hp;omega⟩
theorem rightPl_map {l:List Person}(h:rightPl l=true)(f:Person→Person)(hf:∀p∈l,(f p).name=p.name):rightPl (l.map f)=true:=by
 unfold rightPl at h ⊢
 rw[Bool.and_eq_true,decide_eq_true_eq]at h ⊢
 refine⟨namesB_iff.2 fun k y hk=>?_,by simpa using h.2⟩
 rw[List.getElem?_map]at hk
 cases hx:l[k]? with
 |none=>rw[hx]at hk;cases hk
 |some x=>
  rw[hx]at hk
  cases hk
  rw[hf x (List.mem_of_getElem? hx)]
  exact namesB_iff.1 h.1 k x hx
theorem Good.with_ {N:Nat}{w:Wld}(h:Good N w)(p:Person)(hp:p.used.length+N≤1000∧p.runs.length+N≤1000):Good N (withW w p):=by
 have hs:=h.small.with_ p
 unfold withW at hs ⊢
 split
 ·rename_i hz
  rw[if_pos hz]at hs
  refine⟨hs,h.box,h.net,rightPl_map h.ppl _ fun q hq=>?_,h.few,fun q hq=>?_⟩
  ·split
   ·rename_i e;exact e.symm
   ·rfl
  ·obtain⟨r,hr,rfl⟩:=List.mem_map.1 hq
   split
   ·exact hp
   ·exact h.lists r hr
 ·exact h
theorem Good.log_ {N:Nat}{w:Wld}(h:Good (N+1) w)(e:Event):Good N (logW w e):=⟨h.small.log_ e,h.box,h.net,h.ppl,by have:=h.few;omega,fun p hp=>by have:=h.lists p hp;omega⟩
theorem sealW_rest (w:Wld)(key label:Int)(p:Prt):(sealW w key label p).1.people=w.people∧(sealW w key label p).1.conf=w.conf∧(sealW w key label p).1.net=w.net∧(sealW w key label p).1.log=w.log:=by
 rcases sealW_cases w key label p with⟨e,_,he⟩|⟨_,_,_,he⟩
 ·rw[he];exact⟨rfl,rfl,rfl,rfl⟩
 ·rw[he];exact⟨rfl,rfl,rfl,rfl⟩
end
end Go.Proofs.YtaoijgapnmmpoaaGreatDoor.Abs
