/- Texts that were merged: L12k, L12s, L12p, L13k, L07m, G1, P13a, P13, Q12n, Q12b, AbsN, Q12k, L13, Open. -/
import Derived.Test.YtagccdebelheoaaGreatDoorZ6
import Derived.Test.YtagccdebelheoaaGreatDoorZ9
import Derived.Test.YtagccdebelheoaaGreatDoorZ8
import Derived.Test.YtagccdebelheoaaGreatDoorZ4
import Derived.Test.YtagccdebelheoaaGreatDoorZ7
import Derived.Test.YtagccdebelheoaaGreatDoorZ5
import Derived.Test.YtagccdebelheoaaGreatDoorZ3
import Derived.Test.YtagccdebelheoaaGreatDoorRows
section
/- What is known of small worlds that have their form. -/
set_option linter.unusedSimpArgs false
set_option linter.unusedVariables false
set_option maxRecDepth 100000
namespace Go.Proofs.YtagccdebelheoaaGreatDoor.Abs
open Go.RowKit
theorem fewW_iff {w : Wld} (h : fewW w = true) : (w.regs.length ≤ 10 ∧ w.log.length ≤ 300 ∧ w.leaks.length ≤ 300 ∧ w.draws.list.length ≤ 1000) ∧ (w.box.entries.length ≤ 70 ∧ ∀ s ∈ w.box.entries, s.plain.length ≤ 100) ∧ (w.net.grams.length ≤ 64 ∧ w.net.seen.length ≤ 300) ∧ w.people.length ≤ 10 := by
  unfold fewW fewT at h
  simp only [Bool.and_eq_true, decide_eq_true_eq] at h
  obtain ⟨h0, h1, h2, h3, h4⟩ := h
  obtain ⟨p1, p2⟩ := of_decide_eq_true h1
  obtain ⟨_, _, q3, q4⟩ := of_decide_eq_true h2
  have h5 := (fewPl_iff h3).1
  refine ⟨⟨by omega, by omega, by omega, by omega⟩, ⟨by omega, fun s hs => ?_⟩, ⟨by omega, by omega⟩, h5⟩
  have := p1 s (by rw [List.take_of_length_le (by omega)]; exact hs)
  omega
theorem formW_iff {w : Wld} (h : formW w = true) : mayC w.conf = true ∧ rightB w.box = true ∧ w.box.room = w.conf.box ∧ rightN w.net = true ∧ w.net.room = w.conf.net ∧ rightPl w.people = true ∧ (w.people.length : Int) = w.conf.people + 1 ∧ (w.regs.length : Int) = w.conf.regs ∧ (0 ≤ w.draws.next ∧ w.draws.next ≤ 1048576) ∧
    w.people.all (personB w.conf) = true ∧ w.regs.all shB = true ∧ w.net.seen.all shB = true ∧ w.net.grams.all gramB = true := by
  unfold formW formA formB at h
  simp only [Bool.and_eq_true, decide_eq_true_eq, beq_iff_eq] at h
  obtain ⟨⟨a1, a2, a3, a4, a5⟩, ⟨b1, b2, b3, b4⟩, c1, c2, c3, c4⟩ := h
  exact ⟨a1, a2, a3, a4, a5, b1, b2, b3, b4, c1, c2, c3, c4⟩
theorem small_of {w : Wld} (h1 : fewW w = true) (h2 : formW w = true) : Small w := by
  obtain ⟨f1, f2, f3, f4⟩ := fewW_iff h1
  obtain ⟨_, _, _, _, _, _, _, _, g, _⟩ := formW_iff h2
  exact ⟨by omega, fun s hs => by have := f2.2 s hs; omega, by omega, by omega, by omega, by omega, by omega, by omega⟩
def conf0 : Conf := ⟨5, 2, 4, 4, 4, 4, 2⟩
end Go.Proofs.YtagccdebelheoaaGreatDoor.Abs
end
section
/- What the desk's sending makes of a world. -/
set_option linter.unusedSimpArgs false
set_option linter.unusedVariables false
set_option maxRecDepth 100000
namespace Go.Proofs.YtagccdebelheoaaGreatDoor.Abs
open Go.RowKit
theorem formW_mk {w : Wld} (a1 : mayC w.conf = true) (a2 : rightB w.box = true) (a3 : w.box.room = w.conf.box) (a4 : rightN w.net = true) (a5 : w.net.room = w.conf.net) (b1 : rightPl w.people = true) (b2 : (w.people.length : Int) = w.conf.people + 1) (b3 : (w.regs.length : Int) = w.conf.regs) (b4 : 0 ≤ w.draws.next ∧ w.draws.next ≤ 1048576)
    (c1 : w.people.all (personB w.conf) = true) (c2 : w.regs.all shB = true) (c3 : w.net.seen.all shB = true) (c4 : w.net.grams.all gramB = true) : formW w = true := by
  unfold formW formA formB
  simp only [a1, a2, a3, a4, a5, b1, c1, c2, c3, c4, decide_eq_true b2, decide_eq_true b3, decide_eq_true b4, beq_self_eq_true, Bool.and_true]
theorem putL_len (m : Mssg) : (putL m).length ≤ 18 := by
  unfold putL
  split
  · rw [putM_length]; have := kindTags_len m.kind; omega
  · simp
theorem sendW_cases (w : Wld) (to : Int) (m : Mssg) : (mayM m = false ∧ sendW w to m = (w, 1)) ∨ (mayM m = true ∧ w.net.room ≤ (w.net.grams.length : Int) ∧ sendW w to m = (w, 10)) ∨
    (mayM m = true ∧ ¬ w.net.room ≤ (w.net.grams.length : Int) ∧ sendW w to m = ({ w with net := ⟨w.net.room, w.net.grams ++ [⟨to, putL m⟩], w.net.seen ++ [putL m]⟩ }, 0)) := by
  unfold sendW putE sendN
  cases hm : mayM m
  · exact .inl ⟨rfl, by simp⟩
  · by_cases hr : w.net.room ≤ (w.net.grams.length : Int)
    · exact .inr (.inl ⟨rfl, hr, by simp [hr]⟩)
    · exact .inr (.inr ⟨rfl, hr, by simp [hr]⟩)
theorem send_form {w : Wld} {to : Int} {l : List Int} (h : formW w = true) (hr : ¬ w.net.room ≤ (w.net.grams.length : Int)) (hl : l.length ≤ 64) : formW { w with net := ⟨w.net.room, w.net.grams ++ [⟨to, l⟩], w.net.seen ++ [l]⟩ } = true := by
  obtain ⟨a1, a2, a3, a4, a5, b1, b2, b3, b4, c1, c2, c3, c4⟩ := formW_iff h
  have a4' := of_decide_eq_true a4
  have hl' : ((l.length : Int) ≤ 64) := by omega
  refine formW_mk a1 a2 a3 (decide_eq_true ⟨a4'.1, a4'.2.1, ?_⟩) a5 b1 b2 b3 b4 c1 c2 ?_ ?_
  · simp only [List.length_append, List.length_singleton]; omega
  · simp only [List.all_append, c3, Bool.true_and, List.all_cons, List.all_nil, Bool.and_true]; exact decide_eq_true hl'
  · simp only [List.all_append, c4, Bool.true_and, List.all_cons, List.all_nil, Bool.and_true]; exact decide_eq_true hl'
end Go.Proofs.YtagccdebelheoaaGreatDoor.Abs
end
section
/- What sealing makes of a world: plain mathematics. -/
set_option linter.unusedSimpArgs false
set_option linter.unusedVariables false
set_option maxRecDepth 100000
namespace Go.Proofs.YtagccdebelheoaaGreatDoor.Abs
open Go.RowKit
theorem bitI_ge {x : Int} (h : 0 ≤ x) : 2147483648 ≤ bitI x := by unfold bitI; split <;> omega
theorem dAt_ge {l : List Int} (h : ∀ x ∈ l, 0 ≤ x) (i : Nat) : 2147483648 ≤ dAt l i := by
  unfold dAt
  split
  · rename_i x hx; exact bitI_ge (h x (List.mem_of_getElem? hx))
  · exact bitI_ge (u32_range _).1
theorem putP_ok {label : Int} {p : Prt} (h : (putP label p).2 = 0) : mayP label p = true ∧ (putP label p).1 = wordsP label p ∧ getP label (wordsP label p) = (p, 0) := by
  unfold putP at h ⊢
  split
  · rename_i hm; exact ⟨hm, rfl, of_decide_eq_true hm⟩
  · rename_i hm; rw [if_neg hm] at h; simp at h
theorem wordsP_len (label : Int) (p : Prt) : (wordsP label p).length ≤ 5 := by
  rcases label_cases label with rfl | rfl | rfl | rfl | rfl | rfl | rfl | rfl | hh <;> first | (rw [wordsP_none (by assumption)]; simp; done) | simp [wordsP]
/-- What sealing makes of a world: nothing, with an error, or an entry more. -/
theorem sealW_cases (w : Wld) (key label : Int) (p : Prt) : (∃ e, e ≠ 0 ∧ sealW w key label p = (w, 0, e)) ∨
    (getP label (wordsP label p) = (p, 0) ∧ thereB w.box.entries (drawnW w) = false ∧ (w.box.entries.length : Int) < w.box.room ∧
      sealW w key label p = ({ drawW w with box := ⟨w.box.room, w.box.entries ++ [⟨drawnW w, key, label, wordsP label p⟩]⟩ }, drawnW w, 0)) := by
  unfold sealW
  by_cases g1 : (putP label p).2 = 0
  · obtain ⟨_, e1, e2⟩ := putP_ok g1
    rw [if_neg (fun h => h g1)]
    unfold sealedW
    rw [e1]
    have hl := wordsP_len label p
    have n64 : ¬ (64 : Int) < ((wordsP label p).length : Int) := by omega
    by_cases ht : thereB w.box.entries (drawnW w) = true
    · have es : sealB w.box (drawnW w) key label (wordsP label p) = (w.box, 8) := by simp [sealB, n64, ht]
      rw [es]; exact .inl ⟨8, by decide, by simp⟩
    · by_cases hr : w.box.room ≤ (w.box.entries.length : Int)
      · have es : sealB w.box (drawnW w) key label (wordsP label p) = (w.box, 10) := by simp [sealB, n64, ht, hr]
        rw [es]; exact .inl ⟨10, by decide, by simp⟩
      · have es : sealB w.box (drawnW w) key label (wordsP label p) = (⟨w.box.room, w.box.entries ++ [⟨drawnW w, key, label, wordsP label p⟩]⟩, 0) := by simp [sealB, n64, ht, hr]
        rw [es]
        exact .inr ⟨e2, by simpa using ht, by omega, by simp⟩
  · rw [if_pos g1]; exact .inl ⟨_, g1, rfl⟩
end Go.Proofs.YtagccdebelheoaaGreatDoor.Abs
end
section
/- What is known of small worlds that have their form, beside what is added to them. -/
set_option linter.unusedSimpArgs false
set_option linter.unusedVariables false
set_option maxRecDepth 100000
namespace Go.Proofs.YtagccdebelheoaaGreatDoor.Abs
open Go.RowKit
theorem smallN_of {w : Wld} {N : Nat} (hN : N ≤ 1000) (h1 : fewW w = true) (h2 : formW w = true) : SmallN N w := by
  obtain ⟨f1, f2, f3, f4⟩ := fewW_iff h1
  obtain ⟨_, _, _, _, _, _, _, _, g, _⟩ := formW_iff h2
  exact ⟨by omega, fun s hs => by have := f2.2 s hs; omega, by omega, by omega, by omega, by omega, by omega, by omega⟩
theorem person_in (w : Wld) (n : Int) : personW w n = person0 ∨ personW w n ∈ w.people := by
  unfold personW getPl
  cases hf : w.people.find? (fun p => p.name == n) with
  | none => exact .inl rfl
  | some p => exact .inr (List.mem_of_find?_eq_some hf)
theorem person_used {w : Wld} (h : formW w = true) (n : Int) : (personW w n).used.length ≤ 64 ∧ (personW w n).runs.length ≤ 64 := by
  obtain ⟨a1, _, _, _, _, _, _, _, _, c1, _⟩ := formW_iff h
  unfold mayC roomB at a1
  simp only [Bool.and_eq_true, decide_eq_true_eq] at a1
  rcases person_in w n with e | e
  · rw [e]; simp [person0]
  · have := List.all_eq_true.1 c1 _ e
    unfold personB at this
    simp only [Bool.and_eq_true, decide_eq_true_eq] at this
    have hu := this.1
    have hr := this.2.1
    unfold usedR at hu
    unfold runsR at hr
    simp only [Bool.and_eq_true, decide_eq_true_eq] at hu hr
    omega
end Go.Proofs.YtagccdebelheoaaGreatDoor.Abs
end
section
/- Of boxes: what is sealed, and opened. -/
set_option linter.unusedSimpArgs false
set_option linter.unusedVariables false
set_option maxRecDepth 100000
namespace Go.Proofs.YtagccdebelheoaaGreatDoor.Abs
open Go.RowKit
theorem sealB_cases (b : Box) (h k l : Int) (p : List Int) (hp : p.length ≤ 64) : (∃ e, e ≠ 0 ∧ sealB b h k l p = (b, e) ∧ IntKind.i64.wrap e = e ∧ (thereB b.entries h = true ∨ b.room ≤ (b.entries.length : Int)) ∧ (thereB b.entries h = true → e = 8) ∧ (thereB b.entries h = false → e = 10)) ∨
    (thereB b.entries h = false ∧ (b.entries.length : Int) < b.room ∧ sealB b h k l p = (⟨b.room, b.entries ++ [⟨h, k, l, p⟩]⟩, 0)) := by
  have n1 : ¬ (64 < (p.length : Int)) := by omega
  cases ht : thereB b.entries h with
  | true => exact .inl ⟨8, by decide, by simp [sealB, n1, ht], by decide, .inl rfl, fun _ => rfl, fun h => by simp at h⟩
  | false =>
    by_cases hr : b.room ≤ (b.entries.length : Int)
    · exact .inl ⟨10, by decide, by simp [sealB, n1, ht, hr], by decide, .inr hr, fun h => by simp at h, fun _ => rfl⟩
    · exact .inr ⟨rfl, by omega, by simp [sealB, n1, ht, hr]⟩
theorem openP_snoc (r : Int) (es : List Sealed) (s : Sealed) (k l h : Int) : openP ⟨r, es ++ [s]⟩ k l h = if thereB es h = true then openP ⟨r, es⟩ k l h else if s.handle = h then (if s.key = k ∧ s.label = l then (s.plain, true) else ([], false)) else ([], false) := by
  unfold openP
  simp only [List.find?_append]
  cases ht : thereB es h with
  | true =>
    obtain ⟨x, hx, hh⟩ := thereB_iff.1 ht
    rw [if_pos rfl]
    cases hf : es.find? (fun s => s.handle == h) with
    | none => exact absurd (by simp [hh]) (List.find?_eq_none.1 hf x hx)
    | some y => rfl
  | false =>
    have : es.find? (fun s => s.handle == h) = none := List.find?_eq_none.2 fun s hs => by simpa using thereB_no.1 ht s hs
    rw [this, if_neg (by simp)]
    by_cases hh : s.handle = h
    · simp [hh]
    · simp [hh]
theorem right_snoc {r : Int} {es : List Sealed} {s : Sealed} (h : rightB ⟨r, es⟩ = true) (hr : (es.length : Int) < r) (hp : s.plain.length ≤ 64) (ht : thereB es s.handle = false) : rightB ⟨r, es ++ [s]⟩ = true := by
  obtain ⟨h1, h2, h3, h4⟩ := right_room h
  unfold rightB
  rw [Bool.and_eq_true]
  refine ⟨decide_eq_true ⟨h1, h2, by simp only [List.length_append, List.length_singleton]; omega⟩, entriesB_iff.2 fun i x hx => ?_⟩
  simp only at h1 h2 h3 h4 hx ⊢
  by_cases hi : i < es.length
  · rw [List.getElem?_append_left hi] at hx
    rw [List.take_append_of_le_length (by omega)]
    exact h4 i x hx
  · rw [List.getElem?_append_right (by omega)] at hx
    have hi' : i = es.length := by
      rcases Nat.lt_or_ge (i - es.length) 1 with h | h
      · omega
      · rw [List.getElem?_eq_none (by simpa using h)] at hx; simp at hx
    subst hi'
    simp at hx
    subst hx
    rw [List.take_append_of_le_length (Nat.le_refl _), List.take_length]
    exact ⟨by omega, ht⟩
theorem seal_room (b : Box) (h k l : Int) (p : List Int) : (sealB b h k l p).1.room = b.room ∧ (sealB b h k l p).1.entries.length ≤ b.entries.length + 1 := by
  unfold sealB
  split
  · exact ⟨rfl, by simp⟩
  · split
    · exact ⟨rfl, by simp⟩
    · split
      · exact ⟨rfl, by simp⟩
      · exact ⟨rfl, by simp⟩
theorem thereB_snoc (es : List Sealed) (s : Sealed) (h : Int) : thereB (es ++ [s]) h = (thereB es h || s.handle == h) := by
  simp [thereB]
end Go.Proofs.YtagccdebelheoaaGreatDoor.Abs
end
section
/- A world's pieces are right, and its lists short, by so much; and what is done with it keeps that. Plain mathematics: what the landed servers and principals lean on. -/
set_option linter.unusedSimpArgs false
set_option linter.unusedVariables false
set_option maxRecDepth 100000
namespace Go.Proofs.YtagccdebelheoaaGreatDoor.Abs
open Go.RowKit
structure Good (N : Nat) (w : Wld) : Prop where
  small : SmallN N w
  box : rightB w.box = true
  net : rightN w.net = true
  ppl : rightPl w.people = true
  few : N ≤ 1000
  lists : ∀ p ∈ w.people, p.used.length + N ≤ 1000 ∧ p.runs.length + N ≤ 1000
theorem Good.of {N : Nat} {w : Wld} (hf : formW w = true) (h : SmallN N w) (hN : N ≤ 900) : Good N w := by
  obtain ⟨hm, a2, _, a4, _, a6, _, _, _, hp, _⟩ := formW_iff hf
  refine ⟨h, a2, a4, a6, by omega, fun p hi => ?_⟩
  have := List.all_eq_true.1 hp p hi
  simp only [personB, usedR, runsR, Bool.and_eq_true, decide_eq_true_eq] at this
  simp only [mayC, roomB, Bool.and_eq_true, decide_eq_true_eq] at hm
  omega
theorem Good.person {N : Nat} {w : Wld} (h : Good N w) (n : Int) : (personW w n).used.length + N ≤ 1000 ∧ (personW w n).runs.length + N ≤ 1000 := by
  rcases person_in w n with e | e
  · rw [e]; have := h.few; exact ⟨by show 0 + N ≤ 1000; omega, by show 0 + N ≤ 1000; omega⟩
  · exact h.lists _ e
theorem Good.less {N M : Nat} {w : Wld} (h : Good N w) (hm : M ≤ N) : Good M w := ⟨h.small.less hm, h.box, h.net, h.ppl, by have := h.few; omega, fun p hp => by have := h.lists p hp; omega⟩
theorem Good.draw {N : Nat} {w : Wld} (h : Good (N + 1) w) : Good N (drawW w) := ⟨h.small.draw, h.box, h.net, h.ppl, by have := h.few; omega, fun p hp => by have := h.lists p hp; omega⟩
theorem Good.sealS {N : Nat} {w : Wld} (h : Good (N + 1) w) (key label : Int) (p : Prt) : Good N (sealW w key label p).1 := by
  have hs := h.small.sealS key label p
  rcases sealW_cases w key label p with ⟨e, _, he⟩ | ⟨_, ht, hr, he⟩
  · rw [he] at hs ⊢
    exact ⟨hs, h.box, h.net, h.ppl, by have := h.few; omega, fun p hp => by have := h.lists p hp; omega⟩
  · rw [he] at hs ⊢
    have hl := wordsP_len label p
    exact ⟨hs, right_snoc (s := ⟨drawnW w, key, label, wordsP label p⟩) h.box hr (by show (wordsP label p).length ≤ 64; omega) ht, h.net, h.ppl, by have := h.few; omega, fun p hp => by have := h.lists p hp; omega⟩
theorem rightPl_map {l : List Person} (h : rightPl l = true) (f : Person → Person) (hf : ∀ p ∈ l, (f p).name = p.name) : rightPl (l.map f) = true := by
  unfold rightPl at h ⊢
  rw [Bool.and_eq_true, decide_eq_true_eq] at h ⊢
  refine ⟨namesB_iff.2 fun k y hk => ?_, by simpa using h.2⟩
  rw [List.getElem?_map] at hk
  cases hx : l[k]? with
  | none => rw [hx] at hk; cases hk
  | some x =>
    rw [hx] at hk
    cases hk
    rw [hf x (List.mem_of_getElem? hx)]
    exact namesB_iff.1 h.1 k x hx
theorem Good.with_ {N : Nat} {w : Wld} (h : Good N w) (p : Person) (hp : p.used.length + N ≤ 1000 ∧ p.runs.length + N ≤ 1000) : Good N (withW w p) := by
  have hs := h.small.with_ p
  unfold withW at hs ⊢
  split
  · rename_i hz
    rw [if_pos hz] at hs
    refine ⟨hs, h.box, h.net, rightPl_map h.ppl _ fun q hq => ?_, h.few, fun q hq => ?_⟩
    · split
      · rename_i e; exact e.symm
      · rfl
    · obtain ⟨r, hr, rfl⟩ := List.mem_map.1 hq
      split
      · exact hp
      · exact h.lists r hr
  · exact h
theorem Good.log_ {N : Nat} {w : Wld} (h : Good (N + 1) w) (e : Event) : Good N (logW w e) := ⟨h.small.log_ e, h.box, h.net, h.ppl, by have := h.few; omega, fun p hp => by have := h.lists p hp; omega⟩
theorem Good.send {N : Nat} {w : Wld} (h : Good (N + 1) w) (to : Int) (m : Mssg) : Good N (sendW w to m).1 := by
  have hs := h.small.send to m
  have hn : 0 ≤ w.net.room ∧ w.net.room ≤ 64 ∧ (w.net.grams.length : Int) ≤ w.net.room := of_decide_eq_true h.net
  unfold sendW at hs ⊢
  split
  · exact h.less (by omega)
  · rename_i hz
    rw [if_neg hz] at hs
    refine ⟨hs, h.box, ?_, h.ppl, by have := h.few; omega, fun p hp => by have := h.lists p hp; omega⟩
    show rightN (sendN w.net ⟨to, putL m⟩).1 = true
    unfold sendN
    split
    · exact h.net
    · exact decide_eq_true ⟨hn.1, hn.2.1, by simp only [List.length_append, List.length_singleton]; omega⟩
/-- What a seal leaves as it was. -/
theorem sealW_rest (w : Wld) (key label : Int) (p : Prt) : (sealW w key label p).1.people = w.people ∧ (sealW w key label p).1.conf = w.conf ∧ (sealW w key label p).1.net = w.net ∧ (sealW w key label p).1.log = w.log := by
  rcases sealW_cases w key label p with ⟨e, _, he⟩ | ⟨_, _, _, he⟩
  · rw [he]; exact ⟨rfl, rfl, rfl, rfl⟩
  · rw [he]; exact ⟨rfl, rfl, rfl, rfl⟩
theorem sealW_person (w : Wld) (key label : Int) (p : Prt) (n : Int) : personW (sealW w key label p).1 n = personW w n := by
  unfold personW; rw [(sealW_rest w key label p).1]
theorem drawW_person (w : Wld) (n : Int) : personW (drawW w) n = personW w n := rfl
end Go.Proofs.YtagccdebelheoaaGreatDoor.Abs
end
section
/- The landed ksn, over values without addresses. -/
set_option linter.unusedSimpArgs false
set_option linter.unusedVariables false
set_option maxRecDepth 100000
namespace Go.Proofs.YtagccdebelheoaaGreatDoor.Abs
open Go.RowKit
/-- A grant under way. -/
structure Wk13 where
  w : Wld
  e : Int
  m : Mssg
  now : Int
  k : Int
  t : Int
  g : Int
def eWk (s : Wk13) : List CV := [u32 s.w.conf.window, i64 s.w.conf.people, i64 s.w.conf.box, i64 s.w.conf.used, i64 s.w.conf.runs, i64 s.w.conf.net, i64 s.w.conf.regs, eWords s.w.draws.list, i64 s.w.draws.next, i64 s.w.box.room, eSealeds s.w.box.entries, i64 s.w.net.room, eGrams s.w.net.grams, eRows s.w.net.seen, ePeople s.w.people, eEvents s.w.log, eRows s.w.regs, eLeaks s.w.leaks, i64 s.e, u32 s.m.kind, u32 s.m.run, u32 s.m.a, u32 s.m.b, u32 s.m.nonce, u32 s.m.box, u32 s.m.more, u32 s.now, u32 s.k, u32 s.t, u32 s.g]
theorem p13_atEnd (n : Int) : ACalls Tryz.prog 55 [.one (u32 n)] (rB (decide (1073741824 ≤ n))) := by
  refine ACalls.intro (fn := Tryz.f55) Tryz.func55 rfl rfl (by simp [Tryz.f55]) ?_
  have c1 := p05_fresh n n 0
  rw [show freshI n n 0 = !decide (1073741824 ≤ n) from by rw [Bool.eq_iff_iff]; simp only [freshI, decide_eq_true_eq, Bool.not_eq_true', decide_eq_false_iff_not]; omega] at c1
  unfold Tryz.f55
  generalize decide (1073741824 ≤ n) = d at *
  simp only [rB] at *
  cases d
  · refine wk0 trivial c1 trivial
  · refine wk0 trivial c1 trivial
/-- Why the server doesn't grant. -/
def refuseW (w : Wld) (m : Mssg) : Int :=
  if pairPl w.people m.a m.b = false then 5 else if 1073741824 ≤ (personW w 0).clock then 7
  else if mayU (personW w 0).used w.conf.used m.nonce ≠ 0 then mayU (personW w 0).used w.conf.used m.nonce
  else if roomW w 2 1 = false then 10 else 0
set_option maxHeartbeats 4000000 in
theorem p13_refusal (w : Wld) (m : Mssg) (h1 : rightB w.box = true) (h2 : rightN w.net = true) (hp : rightPl w.people = true) : ACalls Tryz.prog 17 [.agg (eWld w), .agg (ePerson (personW w 0)), .agg (eMssg m)] (rI (refuseW w m)) := by
  refine ACalls.intro (fn := Tryz.f17) Tryz.func17 rfl rfl (by simp [Tryz.f17]) ?_
  have c1 := p10_pair w.people m.a m.b hp
  have c2 := p13_atEnd (personW w 0).clock
  have c3 := p08_may 0 (personW w 0).used w.conf.used m.nonce
  have c4 := p12_room w 2 1 h1 h2
  clear h1 h2 hp
  unfold Tryz.f17
  unfold refuseW
  generalize roomW w 2 1 = rm at *
  generalize mayU (personW w 0).used w.conf.used m.nonce = mu at *
  generalize pairPl w.people m.a m.b = pr at *
  generalize personW w 0 = s at *
  simp only [eWld, eMssg, ePerson, eSealeds, eGrams, ePeople, eEvents, eRows, eWords, eLeaks, eRuns, rB, rI] at *
  cases pr
  · rw [if_pos rfl]
    refine wk0 trivial c1 trivial
  rw [if_neg (by decide)]
  by_cases hc : 1073741824 ≤ s.clock
  · rw [if_pos hc]
    rw [decide_eq_true hc] at c2
    refine wk0 trivial (And.intro c1 c2) trivial
  rw [if_neg hc]
  rw [decide_eq_false hc] at c2
  by_cases hm : mu = 0
  rotate_left
  · rw [if_pos hm]
    have hm' : (mu != 0) = true := by simp [hm]
    refine wk0 hm' (And.intro c1 (And.intro c2 c3)) trivial
  rw [if_neg (by simp [hm])]
  have hm' : (mu != 0) = false := by simp [hm]
  cases rm
  · rw [if_pos rfl]
    refine wk0 hm' (And.intro c1 (And.intro c2 (And.intro c3 c4))) trivial
  rw [if_neg (by decide)]
  refine wk0 hm' (And.intro c1 (And.intro c2 (And.intro c3 c4))) trivial
theorem p13_drawKey (b : Nat) (s : Wk13) (h : 0 ≤ s.w.draws.next ∧ s.w.draws.next < 1000000000) : ACalls Tryz.prog 19 [.one (rawV b 0)]
    (.bx [(b, .cells (eWk s))] [(b, .cells (eWk { s with w := drawW s.w, k := drawnW s.w }))] []) := by
  refine ACalls.introX (fn := Tryz.f19) Tryz.func19 rfl rfl (by simp [Tryz.f19]) ?_
  have c1 := p12_draw s.w h
  clear h
  obtain ⟨w, e, m, now, k, t, g⟩ := s
  simp only at c1
  generalize hv : drawW w = v at *
  generalize drawnW w = d at *
  unfold Tryz.f19
  simp only [rawV, insOf, setBs, eWk, eWld, eSealeds, eGrams, ePeople, eEvents, eRows, eWords, eLeaks] at *
  refine wk4 trivial c1 trivial _ _ _ _ ?_ ?_ ?_ ?_
  all_goals (repeat intro h)
  all_goals refine ⟨?_⟩
  all_goals simp only [go_sem, ↓reduceIte, reduceCtorEq, Nat.reduceLT, Nat.reduceEqDiff, Nat.reduceBEq, Nat.reduceAdd, Nat.reduceSub, Nat.reduceMul, Nat.reduceLeDiff, Int.reduceLE, Int.reduceLT, Int.reduceNeg, Int.reduceEq, Int.reduceBEq, Int.reduceBNe, Int.reduceToNat]
set_option maxHeartbeats 4000000 in
theorem p13_sealFor (b : Nat) (s : Wk13) (name label : Int) (p : Prt) (h : Good 1 s.w) : ACalls Tryz.prog 59 [.one (rawV b 0), .one (u32 name), .one (u32 label), .agg (ePrt p)]
    (.bx [(b, .cells (eWk s))] [(b, .cells (eWk { s with w := (sealW s.w (personW s.w name).key label p).1, e := (sealW s.w (personW s.w name).key label p).2.2 }))] [.one (u32 (sealW s.w (personW s.w name).key label p).2.1)]) := by
  refine ACalls.introX (fn := Tryz.f59) Tryz.func59 rfl rfl (by simp [Tryz.f59]) ?_
  have c1 := p12_person s.w name ⟨by have := (h.person name).1; omega, by have := (h.person name).2; omega⟩ h.ppl
  have c2 := p12_seal s.w (personW s.w name).key label p h.small.small h.box
  clear h
  obtain ⟨w, e, m, now, k, t, g⟩ := s
  simp only at c1 c2
  generalize personW w name = P at *
  generalize sealW w P.key label p = v at *
  unfold Tryz.f59
  simp only [rawV, insOf, setBs, eWk, eWld, ePrt, ePerson, eSealeds, eGrams, ePeople, eEvents, eRows, eWords, eLeaks, eRuns] at *
  refine wk0 trivial (And.intro c1 c2) trivial
  all_goals simp only [go_sem, ↓reduceIte, reduceCtorEq, Nat.reduceLT, Nat.reduceEqDiff, Nat.reduceBEq, Nat.reduceAdd, Nat.reduceSub, Nat.reduceMul, Nat.reduceLeDiff, Int.reduceLE, Int.reduceLT, Int.reduceNeg, Int.reduceEq, Int.reduceBEq, Int.reduceBNe, Int.reduceToNat]
set_option maxHeartbeats 4000000 in
theorem p13_ticket (b : Nat) (s : Wk13) (v : Wld × Int × Int) (hv : sealW s.w (personW s.w s.m.b).key 3 ⟨0, 0, s.m.a, 0, s.k, s.now, 0⟩ = v) (h : Good 1 s.w) : ACalls Tryz.prog 20 [.one (rawV b 0)]
    (.bx [(b, .cells (eWk s))] [(b, .cells (eWk { s with w := v.1, e := v.2.2, t := v.2.1 }))] []) := by
  refine ACalls.introX (fn := Tryz.f20) Tryz.func20 rfl rfl (by simp [Tryz.f20]) ?_
  have c1 := p13_sealFor b s s.m.b 3 ⟨0, 0, s.m.a, 0, s.k, s.now, 0⟩ h
  rw [hv] at c1
  clear h hv
  obtain ⟨w, e, m, now, k, t, g⟩ := s
  unfold Tryz.f20
  simp only [rawV, insOf, setBs, eWk, eWld, ePrt, eMssg, eSealeds, eGrams, ePeople, eEvents, eRows, eWords, eLeaks] at *
  refine wk4 trivial c1 trivial _ _ _ _ ?_ ?_ ?_ ?_
  all_goals (repeat intro h)
  all_goals refine ⟨?_⟩
  all_goals simp only [go_sem, ↓reduceIte, reduceCtorEq, Nat.reduceLT, Nat.reduceEqDiff, Nat.reduceBEq, Nat.reduceAdd, Nat.reduceSub, Nat.reduceMul, Nat.reduceLeDiff, Int.reduceLE, Int.reduceLT, Int.reduceNeg, Int.reduceEq, Int.reduceBEq, Int.reduceBNe, Int.reduceToNat]
set_option maxHeartbeats 4000000 in
theorem p13_grnt (b : Nat) (s : Wk13) (v : Wld × Int × Int) (hv : sealW s.w (personW s.w s.m.a).key 2 ⟨s.m.nonce, 0, 0, s.m.b, s.k, s.now, s.t⟩ = v) (h : Good 1 s.w) : ACalls Tryz.prog 21 [.one (rawV b 0)]
    (.bx [(b, .cells (eWk s))] [(b, .cells (eWk { s with w := v.1, e := v.2.2, g := v.2.1 }))] []) := by
  refine ACalls.introX (fn := Tryz.f21) Tryz.func21 rfl rfl (by simp [Tryz.f21]) ?_
  have c1 := p13_sealFor b s s.m.a 2 ⟨s.m.nonce, 0, 0, s.m.b, s.k, s.now, s.t⟩ h
  rw [hv] at c1
  clear h hv
  obtain ⟨w, e, m, now, k, t, g⟩ := s
  unfold Tryz.f21
  simp only [rawV, insOf, setBs, eWk, eWld, ePrt, eMssg, eSealeds, eGrams, ePeople, eEvents, eRows, eWords, eLeaks] at *
  refine wk4 trivial c1 trivial _ _ _ _ ?_ ?_ ?_ ?_
  all_goals (repeat intro h)
  all_goals refine ⟨?_⟩
  all_goals simp only [go_sem, ↓reduceIte, reduceCtorEq, Nat.reduceLT, Nat.reduceEqDiff, Nat.reduceBEq, Nat.reduceAdd, Nat.reduceSub, Nat.reduceMul, Nat.reduceLeDiff, Int.reduceLE, Int.reduceLT, Int.reduceNeg, Int.reduceEq, Int.reduceBEq, Int.reduceBNe, Int.reduceToNat]
set_option maxHeartbeats 4000000 in
theorem p13_note (b : Nat) (s : Wk13) (h0 : mayU (personW s.w 0).used s.w.conf.used s.m.nonce = 0) (h : Good 1 s.w) : ACalls Tryz.prog 22 [.one (rawV b 0)]
    (.bx [(b, .cells (eWk s))] [(b, .cells (eWk { s with w := withW s.w (notedP (personW s.w 0) s.m.nonce), e := 0 }))] []) := by
  refine ACalls.introX (fn := Tryz.f22) Tryz.func22 rfl rfl (by simp [Tryz.f22]) ?_
  have hp := h.person 0
  have c1 := p12_person s.w 0 ⟨by omega, by omega⟩ h.ppl
  have c2 := p08_note 0 (personW s.w 0).used s.w.conf.used s.m.nonce (by omega)
  have c3 := p12_with s.w (notedP (personW s.w 0) s.m.nonce) ⟨by show ((personW s.w 0).used ++ [s.m.nonce]).length ≤ _; simp only [List.length_append, List.length_singleton]; omega, by show (personW s.w 0).runs.length ≤ _; omega⟩ h.ppl
  unfold noteC at c2
  rw [if_pos h0, h0] at c2
  clear h h0 hp
  obtain ⟨w, e, m, now, k, t, g⟩ := s
  simp only at c1 c2 c3
  unfold Tryz.f22
  generalize personW w 0 = P at *
  generalize withW w (notedP P m.nonce) = v at *
  simp only [rawV, insOf, setBs, eWk, eWld, notedP, ePerson, eMssg, eSealeds, eGrams, ePeople, eEvents, eRows, eWords, eLeaks, eRuns, List.map_append, List.map_cons, List.map_nil] at *
  refine wk4 trivial (And.intro c1 (And.intro c2 c3)) trivial _ _ _ _ ?_ ?_ ?_ ?_
  all_goals (repeat intro h)
  all_goals refine ⟨?_⟩
  all_goals simp only [go_sem, ↓reduceIte, reduceCtorEq, Nat.reduceLT, Nat.reduceEqDiff, Nat.reduceBEq, Nat.reduceAdd, Nat.reduceSub, Nat.reduceMul, Nat.reduceLeDiff, Int.reduceLE, Int.reduceLT, Int.reduceNeg, Int.reduceEq, Int.reduceBEq, Int.reduceBNe, Int.reduceToNat]
set_option maxHeartbeats 4000000 in
theorem p13_log (b : Nat) (s : Wk13) (v : Wld) (hv : logW s.w ⟨2, 1, 0, s.m.a, s.m.b, s.k, s.now, 0, s.m.nonce, s.now⟩ = v) (h : s.w.log.length < 1000000) : ACalls Tryz.prog 23 [.one (rawV b 0)]
    (.bx [(b, .cells (eWk s))] [(b, .cells (eWk { s with w := v }))] []) := by
  refine ACalls.introX (fn := Tryz.f23) Tryz.func23 rfl rfl (by simp [Tryz.f23]) ?_
  have c1 := p12_log s.w ⟨2, 1, 0, s.m.a, s.m.b, s.k, s.now, 0, s.m.nonce, s.now⟩ h
  rw [hv] at c1
  clear h hv
  obtain ⟨w, e, m, now, k, t, g⟩ := s
  unfold Tryz.f23
  simp only [rawV, insOf, setBs, eWk, eWld, eEvent, eMssg, eSealeds, eGrams, ePeople, eEvents, eRows, eWords, eLeaks] at *
  refine wk4 trivial c1 trivial _ _ _ _ ?_ ?_ ?_ ?_
  all_goals (repeat intro h)
  all_goals refine ⟨?_⟩
  all_goals simp only [go_sem, ↓reduceIte, reduceCtorEq, Nat.reduceLT, Nat.reduceEqDiff, Nat.reduceBEq, Nat.reduceAdd, Nat.reduceSub, Nat.reduceMul, Nat.reduceLeDiff, Int.reduceLE, Int.reduceLT, Int.reduceNeg, Int.reduceEq, Int.reduceBEq, Int.reduceBNe, Int.reduceToNat]
set_option maxHeartbeats 4000000 in
theorem p13_send (b : Nat) (s : Wk13) (v : Wld × Int) (hv : sendW s.w s.m.a ⟨2, 0, 0, 0, 0, s.g, 0⟩ = v) (h : Good 1 s.w) : ACalls Tryz.prog 24 [.one (rawV b 0)]
    (.bx [(b, .cells (eWk s))] [(b, .cells (eWk { s with w := v.1, e := v.2 }))] []) := by
  refine ACalls.introX (fn := Tryz.f24) Tryz.func24 rfl rfl (by simp [Tryz.f24]) ?_
  have c1 := p12_send s.w s.m.a ⟨2, 0, 0, 0, 0, s.g, 0⟩ h.net h.small.small.grams h.small.small.seen
  rw [hv] at c1
  clear h hv
  obtain ⟨w, e, m, now, k, t, g⟩ := s
  unfold Tryz.f24
  simp only [rawV, insOf, setBs, eWk, eWld, eMssg, eSealeds, eGrams, ePeople, eEvents, eRows, eWords, eLeaks] at *
  refine wk4 trivial c1 trivial _ _ _ _ ?_ ?_ ?_ ?_
  all_goals (repeat intro h)
  all_goals refine ⟨?_⟩
  all_goals simp only [go_sem, ↓reduceIte, reduceCtorEq, Nat.reduceLT, Nat.reduceEqDiff, Nat.reduceBEq, Nat.reduceAdd, Nat.reduceSub, Nat.reduceMul, Nat.reduceLeDiff, Int.reduceLE, Int.reduceLT, Int.reduceNeg, Int.reduceEq, Int.reduceBEq, Int.reduceBNe, Int.reduceToNat]
end Go.Proofs.YtagccdebelheoaaGreatDoor.Abs
end
section
/- The landed ksn, over values without addresses: its steps one behind the other, and Grant. -/
set_option linter.unusedSimpArgs false
set_option linter.unusedVariables false
set_option maxRecDepth 100000
namespace Go.Proofs.YtagccdebelheoaaGreatDoor.Abs
open Go.RowKit
def stepC (b : Nat) (f : FuncId) : List CV := [.fn f false [rawV b 0] []]
theorem p13_do (b : Nat) (fs : List FuncId) (s : Nat → Wk13) (N : Nat) (hN : N ≤ fs.length) (hl : fs.length < 1000) (he : N = fs.length ∨ (0 < N ∧ (s N).e ≠ 0)) (h0 : ∀ i, 0 < i → i < N → (s i).e = 0)
    (hc : ∀ i f, i < N → fs[i]? = some f → ACalls Tryz.prog f [.one (rawV b 0)] (.bx [(b, .cells (eWk (s i)))] [(b, .cells (eWk (s (i + 1))))] [])) :
    ACalls Tryz.prog 18 [.one (rawV b 0), .one (.row (fs.map (stepC b)))] (.bx [(b, .cells (eWk (s 0)))] [(b, .cells (eWk (s N)))] []) := by
  refine ACalls.introX (fn := Tryz.f18) Tryz.func18 rfl rfl (by simp [Tryz.f18]) ?_
  unfold Tryz.f18
  simp only [rawV, insOf, setBs]
  refine wk1 trivial trivial trivial _ ?_
  all_goals (repeat intro h)
  all_goals refine ⟨?_⟩
  refine AW.loopW (fun n σ => ∃ k : Nat, n = fs.length - k ∧ (k < N ∨ (k = N ∧ N = fs.length)) ∧ σ = ⟨20, (upd (upd (upd (upd (fun _ => .junk) 0 (.one (.c (rawV b 0)))) 6 (.one (.c (.row (fs.map (stepC b)))))) 7 (.one (.c (i64 fs.length)))) 8 (.one (.c (i64 k)))), (upd (fun _ => none) (1000000+b) (some (.obox (eWk (s k)))))⟩) (n := fs.length) _ ⟨0, rfl, by omega, rfl⟩ (by exact lz trivial) ?_
  rintro n σ ⟨k, rfl, hk, rfl⟩
  have hs := wrapI (x := (k : Int) + 1) (by omega) (by omega)
  rcases hk with hk | ⟨rfl, hk⟩
  · have hlt : k < fs.length := by omega
    obtain ⟨f, hf⟩ : ∃ f, fs[k]? = some f := ⟨_, List.getElem?_eq_getElem hlt⟩
    have c1 := hc k f hk hf
    have hd : eWk (s (k + 1)) = eWk (s (k + 1)) := rfl
    by_cases hz : (s (k + 1)).e = 0
    · have hz' : ((s (k + 1)).e != 0) = false := by simp [hz]
      have hnx : k + 1 < N ∨ (k + 1 = N ∧ N = fs.length) := by
        rcases Nat.lt_or_ge (k + 1) N with h | h
        · exact .inl h
        · have : k + 1 = N := by omega
          subst this
          rcases he with h | ⟨_, h⟩
          · exact .inr ⟨rfl, h⟩
          · exact absurd hz h
      generalize hA : s (k + 1) = A at *
      generalize s k = B at *
      simp only [eWk, rawV] at *
      refine wk1 (And.intro hf (And.intro hlt (And.intro hs (And.intro hz' (stepC.eq_1 b f))))) c1 trivial _ ?_
      all_goals (repeat intro h)
      all_goals refine ⟨?_⟩
      refine ⟨fs.length - (k + 1), by omega, _, ⟨k + 1, rfl, hnx, rfl⟩, ?_⟩
      rw [hA]
      simp only [eWk, rawV]
      exact lz trivial
    · have hz' : ((s (k + 1)).e != 0) = true := by simp [hz]
      have hnx : k + 1 = N := by
        rcases Nat.lt_or_ge (k + 1) N with h | h
        · exact absurd (h0 _ (by omega) h) hz
        · omega
      subst hnx
      generalize s (k + 1) = A at *
      generalize s k = B at *
      simp only [eWk, rawV] at *
      refine wk0 (And.intro hf (And.intro hlt (And.intro hs (And.intro hz' (stepC.eq_1 b f))))) c1 trivial
      all_goals (try simp only [go_sem, ↓reduceIte, reduceCtorEq, Nat.reduceLT, Nat.reduceEqDiff, Nat.reduceBEq, Nat.reduceAdd, Nat.reduceSub, Nat.reduceMul, Nat.reduceLeDiff, Int.reduceLE, Int.reduceLT, Int.reduceNeg, Int.reduceEq, Int.reduceBEq, Int.reduceBNe, Int.reduceToNat])
  · rw [hk]
    generalize s fs.length = A at *
    simp only [eWk, rawV] at *
    refine wk0 trivial trivial trivial
    all_goals (try simp only [go_sem, ↓reduceIte, reduceCtorEq, Nat.reduceLT, Nat.reduceEqDiff, Nat.reduceBEq, Nat.reduceAdd, Nat.reduceSub, Nat.reduceMul, Nat.reduceLeDiff, Int.reduceLE, Int.reduceLT, Int.reduceNeg, Int.reduceEq, Int.reduceBEq, Int.reduceBNe, Int.reduceToNat])
/-- How far a grant's steps come. -/
def seq13 (w : Wld) (m : Mssg) : Nat → Wk13
  | 0 => ⟨w, 0, m, (personW w 0).clock, 0, 0, 0⟩
  | 1 => ⟨drawW w, 0, m, (personW w 0).clock, drawnW w, 0, 0⟩
  | 2 => ⟨(tickW w m).1, (tickW w m).2.2, m, (personW w 0).clock, drawnW w, (tickW w m).2.1, 0⟩
  | 3 => ⟨(grntW w m).1, (grntW w m).2.2, m, (personW w 0).clock, drawnW w, (tickW w m).2.1, (grntW w m).2.1⟩
  | 4 => ⟨withW (grntW w m).1 (notedP (personW w 0) m.nonce), 0, m, (personW w 0).clock, drawnW w, (tickW w m).2.1, (grntW w m).2.1⟩
  | 5 => ⟨issueW w m, 0, m, (personW w 0).clock, drawnW w, (tickW w m).2.1, (grntW w m).2.1⟩
  | _ => ⟨(grantZ w m).1, (grantZ w m).2, m, (personW w 0).clock, drawnW w, (tickW w m).2.1, (grntW w m).2.1⟩
def end13 (w : Wld) (m : Mssg) : Nat := if (tickW w m).2.2 ≠ 0 then 2 else if (grntW w m).2.2 ≠ 0 then 3 else 6
def fns13 : List FuncId := [19, 20, 21, 22, 23, 24]
theorem p13_steps (b : Nat) (w : Wld) (m : Mssg) (h : Good 10 w) (hu : mayU (personW w 0).used w.conf.used m.nonce = 0) :
    ACalls Tryz.prog 18 [.one (rawV b 0), .one (.row (fns13.map (stepC b)))] (.bx [(b, .cells (eWk (seq13 w m 0)))] [(b, .cells (eWk (seq13 w m (end13 w m))))] []) := by
  have g1 : Good 9 (drawW w) := h.draw
  have g2 : Good 8 (tickW w m).1 := g1.sealS _ _ _
  have g3 : Good 7 (grntW w m).1 := g2.sealS _ _ _
  have p1 : ∀ n, personW (tickW w m).1 n = personW w n := fun n => sealW_person _ _ _ _ n
  have p2 : ∀ n, personW (grntW w m).1 n = personW w n := fun n => (sealW_person _ _ _ _ n).trans (p1 n)
  have cf : (grntW w m).1.conf = w.conf := (sealW_rest _ _ _ _).2.1.trans (sealW_rest _ _ _ _).2.1
  have hp := h.person 0
  have g4 : Good 7 (withW (grntW w m).1 (notedP (personW w 0) m.nonce)) := g3.with_ _ ⟨by show ((personW w 0).used ++ [m.nonce]).length + 7 ≤ _; simp only [List.length_append, List.length_singleton]; omega, by show (personW w 0).runs.length + 7 ≤ _; omega⟩
  have g5 : Good 6 (issueW w m) := g4.log_ _
  refine p13_do b fns13 (seq13 w m) (end13 w m) ?_ (by decide) ?_ ?_ ?_
  · unfold end13; split
    · decide
    · split <;> decide
  · unfold end13; split
    · rename_i h1; exact .inr ⟨by decide, h1⟩
    · split
      · rename_i h1; exact .inr ⟨by decide, h1⟩
      · exact .inl rfl
  · intro i hi hlt
    unfold end13 at hlt
    match i, hi with
    | 1, _ => rfl
    | 2, _ => split at hlt
              · omega
              · rename_i h1; exact Decidable.not_not.1 h1
    | 3, _ => split at hlt
              · omega
              · split at hlt
                · omega
                · rename_i h1; exact Decidable.not_not.1 h1
    | 4, _ => rfl
    | 5, _ => rfl
    | n + 6, _ => split at hlt
                  · omega
                  · split at hlt <;> omega
  · intro i f hi hf
    have h6 : i < 6 := by
      unfold end13 at hi; split at hi
      · omega
      · split at hi <;> omega
    match i, h6, hf with
    | 0, _, hf => cases hf; exact p13_drawKey b (seq13 w m 0) h.small.small.next
    | 1, _, hf => cases hf; exact p13_ticket b (seq13 w m 1) (tickW w m) (by rfl) (g1.less (by decide))
    | 2, _, hf =>
      cases hf
      exact p13_grnt b (seq13 w m 2) (grntW w m) (by show sealW (tickW w m).1 (personW (tickW w m).1 m.a).key 2 _ = _; rw [p1]; rfl) (g2.less (by decide))
    | 3, _, hf =>
      cases hf
      have := p13_note b (seq13 w m 3) (by show mayU (personW (grntW w m).1 0).used (grntW w m).1.conf.used m.nonce = 0; rw [p2, cf]; exact hu) (g3.less (by decide))
      rw [show personW (seq13 w m 3).w 0 = personW w 0 from p2 0] at this
      exact this
    | 4, _, hf => cases hf; exact p13_log b (seq13 w m 4) (issueW w m) (by rfl) g4.small.small.log
    | 5, _, hf => cases hf; exact p13_send b (seq13 w m 5) (grantZ w m) (by rfl) (g5.less (by decide))
    | n + 6, h6, _ => omega
theorem grantW_steps (w : Wld) (m : Mssg) : grantW w m = if refuseW w m ≠ 0 then (w, refuseW w m) else if (seq13 w m (end13 w m)).e ≠ 0 then (w, (seq13 w m (end13 w m)).e) else ((seq13 w m (end13 w m)).w, 0) := by
  unfold grantW refuseW end13
  by_cases a1 : pairPl w.people m.a m.b = false
  · rw [if_pos a1, if_pos a1]; rfl
  rw [if_neg a1, if_neg a1]
  by_cases a2 : 1073741824 ≤ (personW w 0).clock
  · rw [if_pos a2, if_pos a2]; rfl
  rw [if_neg a2, if_neg a2]
  by_cases a3 : mayU (personW w 0).used w.conf.used m.nonce ≠ 0
  · rw [if_pos a3, if_pos a3, if_pos a3]
  rw [if_neg a3, if_neg a3]
  by_cases a4 : roomW w 2 1 = false
  · rw [if_pos a4, if_pos a4]; rfl
  rw [if_neg a4, if_neg a4, if_neg (show ¬ ((0 : Int) ≠ 0) from fun h => h rfl)]
  by_cases a5 : (tickW w m).2.2 ≠ 0
  · rw [if_pos a5, if_pos a5]
    exact (if_pos a5).symm
  rw [if_neg a5, if_neg a5]
  by_cases a6 : (grntW w m).2.2 ≠ 0
  · rw [if_pos a6, if_pos a6]
    exact (if_pos a6).symm
  rw [if_neg a6, if_neg a6]
  rfl
set_option maxHeartbeats 4000000 in
theorem p13_grant (w : Wld) (m : Mssg) (hf : formW w = true) (h : SmallN 10 w) (hk : m.kind = 1) (hm : mayM m = true) : ACalls Tryz.prog 8 [.agg (eWld w), .agg (eMssg m)] (.tup [.agg (eWld (grantW w m).1), .one (i64 (grantW w m).2)]) := by
  refine ACalls.intro (fn := Tryz.f8) Tryz.func8 rfl rfl (by simp [Tryz.f8]) ?_
  have hg := Good.of hf h (by decide)
  have hp := hg.person 0
  have c1 := p12_person w 0 ⟨by omega, by omega⟩ hg.ppl
  have c2 := p13_refusal w m hg.box hg.net hg.ppl
  unfold Tryz.f8
  by_cases hr : refuseW w m = 0
  rotate_left
  · have hr' : (refuseW w m != 0) = true := by simp [hr]
    rw [grantW_steps, if_pos hr]
    clear hg hp hf h hk hm
    generalize refuseW w m = e at *
    generalize personW w 0 = P at *
    simp only [eWld, eMssg, ePerson, eSealeds, eGrams, ePeople, eEvents, eRows, eWords, eLeaks, eRuns, rI] at *
    refine wk0 hr' (And.intro c1 c2) trivial
  have hu : mayU (personW w 0).used w.conf.used m.nonce = 0 := by
    unfold refuseW at hr
    split at hr
    · cases hr
    · split at hr
      · cases hr
      · split at hr
        · exact hr
        · rename_i hh; exact Decidable.not_not.1 hh
  have c3 := fun b => p13_steps b w m hg hu
  rw [grantW_steps, if_neg (by simp [hr])]
  rw [hr] at c2
  generalize hE : seq13 w m (end13 w m) = E at *
  have e0 : seq13 w m 0 = ⟨w, 0, m, (personW w 0).clock, 0, 0, 0⟩ := rfl
  rw [e0] at c3
  clear hE e0 hg hp hf h hk hm hu hr
  generalize personW w 0 = P at *
  simp only [eWld, eMssg, ePerson, eSealeds, eGrams, ePeople, eEvents, eRows, eWords, eLeaks, eRuns, rI, eWk, fns13, stepC, rawV, List.map_cons, List.map_nil] at *
  have hgo : ∀ (v : Wld) (q : Int), (if E.e ≠ 0 then (w, E.e) else (E.w, 0)) = (v, q) → (E.e ≠ 0 ∧ v = w ∧ q = E.e) ∨ (E.e = 0 ∧ v = E.w ∧ q = 0) := fun v q h => by
    by_cases hz : E.e = 0
    · rw [if_neg (by simp [hz])] at h
      cases h; exact .inr ⟨hz, rfl, rfl⟩
    · rw [if_pos hz] at h
      cases h; exact .inl ⟨hz, rfl, rfl⟩
  obtain ⟨v, q, hvq⟩ : ∃ v q, (if E.e ≠ 0 then (w, E.e) else (E.w, 0)) = (v, q) := ⟨_, _, rfl⟩
  rw [hvq]
  have hgo' := hgo v q hvq
  clear hgo hvq
  refine wk1 trivial (And.intro c1 c2) (@AW.halt 6) _ ?_
  all_goals (repeat intro h)
  all_goals refine ⟨?_⟩
  refine AWs.mk (AW.name 24 rfl ?_ ?_ fun b hb => ?_)
  · simp only [go_sem, ↓reduceIte, reduceCtorEq, Nat.reduceLT, Nat.reduceEqDiff, Nat.reduceBEq, Nat.reduceAdd, Nat.reduceSub, Nat.reduceMul, Nat.reduceLeDiff, Int.reduceLE, Int.reduceLT, Int.reduceNeg, Int.reduceEq, Int.reduceBEq, Int.reduceBNe, Int.reduceToNat]
  · intro b; simp only [go_sem, ↓reduceIte, reduceCtorEq, Nat.reduceLT, Nat.reduceEqDiff, Nat.reduceBEq, Nat.reduceAdd, Nat.reduceSub, Nat.reduceMul, Nat.reduceLeDiff, Int.reduceLE, Int.reduceLT, Int.reduceNeg, Int.reduceEq, Int.reduceBEq, Int.reduceBNe, Int.reduceToNat]
  clear hb
  refine AW.lessW ⟨54, (upd (upd (upd (upd (fun _ => .junk) 2 (.one (.ptr 2 0))) 4 (.one (.ptr 4 0))) 5 (.one (.c (i64 0)))) 8 (.one (.c (rawV b 0)))), (upd (upd (upd (fun _ => none) 2 (some (.box [A.c (u32 w.conf.window), A.c (i64 w.conf.people), A.c (i64 w.conf.box), A.c (i64 w.conf.used), A.c (i64 w.conf.runs), A.c (i64 w.conf.net), A.c (i64 w.conf.regs), A.c (CV.row (List.map eWord w.draws.list)), A.c (i64 w.draws.next), A.c (i64 w.box.room), A.c (CV.row (List.map eSealed w.box.entries)), A.c (i64 w.net.room), A.c (CV.row (List.map eGram w.net.grams)), A.c (CV.row (List.map eSeen w.net.seen)), A.c (CV.row (List.map ePerson w.people)), A.c (CV.row (List.map eEvent w.log)), A.c (CV.row (List.map eSeen w.regs)), A.c (CV.row (List.map eLeak w.leaks))]))) 4 (some (.box [A.c (u32 0), A.c (i64 0), A.c (i64 0), A.c (i64 0), A.c (i64 0), A.c (i64 0), A.c (i64 0), A.nil, A.c (i64 0), A.c (i64 0), A.nil, A.c (i64 0), A.nil, A.nil, A.nil, A.nil, A.nil, A.nil]))) (1000000+b) (some (.obox [u32 w.conf.window, i64 w.conf.people, i64 w.conf.box, i64 w.conf.used, i64 w.conf.runs, i64 w.conf.net, i64 w.conf.regs, CV.row (List.map eWord w.draws.list), i64 w.draws.next, i64 w.box.room, CV.row (List.map eSealed w.box.entries), i64 w.net.room, CV.row (List.map eGram w.net.grams), CV.row (List.map eSeen w.net.seen), CV.row (List.map ePerson w.people), CV.row (List.map eEvent w.log), CV.row (List.map eSeen w.regs), CV.row (List.map eLeak w.leaks), i64 0, u32 m.kind, u32 m.run, u32 m.a, u32 m.b, u32 m.nonce, u32 m.box, u32 m.more, u32 P.clock, u32 0, u32 0, u32 0])))⟩ (by exact lz trivial) ?_
  have c4 := c3 b
  clear c1 c2 c3
  simp only [rawV] at *
  rcases hgo' with ⟨hz, rfl, rfl⟩ | ⟨hz, rfl, rfl⟩
  · have hz' : (E.e != 0) = true := by simp [hz]
    refine wk0 hz' c4 trivial
  · have hz' : (E.e != 0) = false := by simp [hz]
    refine wk0 hz' c4 trivial
end Go.Proofs.YtagccdebelheoaaGreatDoor.Abs
end
section
/- The reference of layer desk, over values without addresses: New. -/
set_option linter.unusedSimpArgs false
set_option linter.unusedVariables false
set_option maxRecDepth 100000
namespace Go.Proofs.YtagccdebelheoaaGreatDoor.Abs
open Go.RowKit
def newW (c : Conf) (l : List Int) (n r : Nat) : Wld := ⟨c, ⟨l, (n : Int)⟩, ⟨c.box, []⟩, ⟨c.net, [], []⟩, newPl l 0 n, [], List.replicate r [], []⟩
theorem map_rep (k : Nat) : (List.replicate k ([] : List Int)).map eSeen = List.replicate k [.row []] := by simp [eSeen, eWords]
set_option maxHeartbeats 4000000 in
theorem q12_new (c : Conf) (l : List Int) (n r : Nat) (h1 : c.people = n) (h2 : n ≤ 100) (h3 : c.regs = r) (h4 : r ≤ 1000) : ACalls Tryz.prog 40 [.agg (eConf c), .one (eWords l)] (.one (.agg (eWld (newW c l n r)))) := by
  refine ACalls.intro (fn := Tryz.f40) Tryz.func40 rfl rfl (by simp [Tryz.f40]) ?_
  have hq := q10_new l 0 n h2 (by omega)
  rw [Nat.zero_add] at hq
  unfold Tryz.f40
  obtain ⟨c1, c2, c3, c4, c5, c6, c7⟩ := c
  simp only at h1 h3
  subst h1 h3
  simp only [newW, eWld, eConf, eDraws, eSealeds, eGrams, ePeople, eEvents, eRows, eWords, eLeaks, map_rep] at *
  generalize newPl l 0 n = ppl at *
  refine wk1 trivial hq trivial _ ?_
  all_goals (repeat intro h)
  all_goals refine ⟨?_⟩
  refine AW.loopW (fun z σ => ∃ k : Nat, z = r - k ∧ k ≤ r ∧ ((k = 0 ∧ σ = ⟨43, (upd (upd (upd (upd (fun _ => .junk) 2 (.one (.ptr 2 0))) 4 (.one (.ptr 4 0))) 5 (.one (.ptr 5 0))) 8 (.one (.c (i64 k)))), (upd (upd (upd (fun _ => none) 2 (some (.box [.c (u32 c1), .c (i64 (n : Int)), .c (i64 c3), .c (i64 c4), .c (i64 c5), .c (i64 c6), .c (i64 (r : Int))]))) 4 (some (.box [.c (u32 0), .c (i64 0), .c (i64 0), .c (i64 0), .c (i64 0), .c (i64 0), .c (i64 0), .nil, .c (i64 0), .c (i64 0), .nil, .c (i64 0), .nil, .nil, .nil, .nil, .nil, .nil]))) 5 (some (.box [.c (u32 c1), .c (i64 (n : Int)), .c (i64 c3), .c (i64 c4), .c (i64 c5), .c (i64 c6), .c (i64 (r : Int)), .c (.row (l.map eWord)), .c (i64 (n : Int)), .c (i64 c3), .nil, .c (i64 c6), .nil, .nil, .c (.row (ppl.map ePerson)), .nil, .nil, .nil])))⟩) ∨
      (0 < k ∧ σ = ⟨43, (upd (upd (upd (upd (fun _ => .junk) 2 (.one (.ptr 2 0))) 4 (.one (.ptr 4 0))) 5 (.one (.ptr 5 0))) 8 (.one (.c (i64 k)))), (upd (upd (upd (upd (fun _ => none) 2 (some (.box [.c (u32 c1), .c (i64 (n : Int)), .c (i64 c3), .c (i64 c4), .c (i64 c5), .c (i64 c6), .c (i64 (r : Int))]))) 4 (some (.box [.c (u32 0), .c (i64 0), .c (i64 0), .c (i64 0), .c (i64 0), .c (i64 0), .c (i64 0), .nil, .c (i64 0), .c (i64 0), .nil, .c (i64 0), .nil, .nil, .nil, .nil, .nil, .nil]))) 40 (some (.rows 25 1 (List.replicate k [.row []])))) 5 (some (.box [.c (u32 c1), .c (i64 (n : Int)), .c (i64 c3), .c (i64 c4), .c (i64 c5), .c (i64 c6), .c (i64 (r : Int)), .c (.row (l.map eWord)), .c (i64 (n : Int)), .c (i64 c3), .nil, .c (i64 c6), .nil, .nil, .c (.row (ppl.map ePerson)), .nil, .own 40 k, .nil])))⟩))) (n := r) _ ⟨0, rfl, Nat.zero_le _, .inl ⟨rfl, rfl⟩⟩ (by exact lz trivial) ?_
  rintro z σ ⟨k, rfl, hk, ⟨rfl, rfl⟩ | ⟨hk0, rfl⟩⟩
  · by_cases hlt : (0 : Int) < (r : Int)
    · refine wkx1 hlt trivial trivial _ ?_
      all_goals (repeat intro h)
      all_goals refine ⟨?_⟩
      refine ⟨r - 1, by omega, _, ⟨1, rfl, by omega, .inr ⟨by omega, rfl⟩⟩, ?_⟩
      simp only [List.replicate_succ, List.replicate_zero]
      exact lz trivial
    · obtain rfl : r = 0 := by omega
      refine wk1 hlt trivial trivial _ ?_
      all_goals (repeat intro h)
      all_goals refine ⟨?_⟩
      all_goals rfl
  · by_cases hlt : (k : Int) < (r : Int)
    · have hs := wrapI (x := (k : Int) + 1) (by omega) (by omega)
      refine wk1 (And.intro hlt hs) trivial trivial _ ?_
      all_goals (repeat intro h)
      all_goals refine ⟨?_⟩
      refine ⟨r - (k + 1), by omega, _, ⟨k + 1, rfl, by omega, .inr ⟨by omega, rfl⟩⟩, ?_⟩
      rw [List.replicate_succ']
      exact lz trivial
    · obtain rfl : k = r := by omega
      refine wk0 hlt trivial trivial
end Go.Proofs.YtagccdebelheoaaGreatDoor.Abs
end
section
/- The reference of layer desk, over values without addresses: Same. -/
set_option linter.unusedSimpArgs false
set_option linter.unusedVariables false
set_option maxRecDepth 100000
namespace Go.Proofs.YtagccdebelheoaaGreatDoor.Abs
open Go.RowKit
theorem wld_ext {a b : Wld} (h1 : a.conf = b.conf) (h2 : a.draws = b.draws) (h3 : a.box = b.box) (h4 : a.net = b.net) (h5 : a.people = b.people) (h6 : a.log = b.log) (h7 : a.regs = b.regs) (h8 : a.leaks = b.leaks) : a = b := by
  cases a; cases b; simp_all
set_option maxHeartbeats 16000000 in
theorem q12_same (a b : Wld) : ACalls Tryz.prog 10 [.agg (eWld a), .agg (eWld b)] (rB (decide (a = b))) := by
  refine ACalls.introF (fn := Tryz.f10) Tryz.func10 rfl rfl (by simp [Tryz.f10]) fun hf => ?_
  have hl : a.leaks.length ≤ 9223372036854775807 := Fine.rowC (f := eLeak) (k := 0) ((hf (.agg (eWld a)) (by simp) : FineCA (.agg (eWld a))) (eLeaks a.leaks) (by simp [eWld]))
  clear hf
  have hc := eqConfB_dec a.conf b.conf
  have s2 := q04_same a.draws b.draws
  have s3 := q07_same 0 a.box b.box
  have s4 := q06_same a.net b.net
  have s5 := q10_same 0 a.people b.people
  have s6 := q12_events a.log b.log
  have s7 := q01_rows a.regs b.regs
  have heq := eqok_conf
  have hel := eqok_leak
  unfold Tryz.f10
  simp only [eWld, eBoxC, eBox, eNet, eDraws, eSealeds, eGrams, ePeople, eEvents, eRows, eWords, eLeaks, rB, eqConfB] at *
  by_cases h1 : a.conf = b.conf
  rotate_left
  · rw [decide_eq_false h1] at hc
    rw [decide_eq_false (fun e => h1 (by rw [e]))]
    refine wk0 (And.intro heq hc) trivial trivial
  rw [decide_eq_true h1] at hc
  by_cases h2 : a.draws = b.draws
  rotate_left
  · rw [decide_eq_false h2] at s2
    rw [decide_eq_false (fun e => h2 (by rw [e]))]
    refine wk0 (And.intro heq hc) s2 trivial
  rw [decide_eq_true h2] at s2
  by_cases h3 : a.box = b.box
  rotate_left
  · rw [decide_eq_false h3] at s3
    rw [decide_eq_false (fun e => h3 (by rw [e]))]
    refine wk0 (And.intro heq hc) (And.intro s2 s3) trivial
  rw [decide_eq_true h3] at s3
  by_cases h4 : a.net = b.net
  rotate_left
  · rw [decide_eq_false h4] at s4
    rw [decide_eq_false (fun e => h4 (by rw [e]))]
    refine wk0 (And.intro heq hc) (And.intro s2 (And.intro s3 s4)) trivial
  rw [decide_eq_true h4] at s4
  by_cases h5 : a.people = b.people
  rotate_left
  · rw [decide_eq_false h5] at s5
    rw [decide_eq_false (fun e => h5 (by rw [e]))]
    refine wk0 (And.intro heq hc) (And.intro s2 (And.intro s3 (And.intro s4 s5))) trivial
  rw [decide_eq_true h5] at s5
  by_cases h6 : a.log = b.log
  rotate_left
  · rw [decide_eq_false h6] at s6
    rw [decide_eq_false (fun e => h6 (by rw [e]))]
    refine wk0 (And.intro heq hc) (And.intro s2 (And.intro s3 (And.intro s4 (And.intro s5 s6)))) trivial
  rw [decide_eq_true h6] at s6
  by_cases h7 : a.regs = b.regs
  rotate_left
  · rw [decide_eq_false h7] at s7
    rw [decide_eq_false (fun e => h7 (by rw [e]))]
    refine wk0 (And.intro heq hc) (And.intro s2 (And.intro s3 (And.intro s4 (And.intro s5 (And.intro s6 s7))))) trivial
  rw [decide_eq_true h7] at s7
  by_cases h8 : a.leaks.length = b.leaks.length
  rotate_left
  · have hne : ((a.leaks.length : Int) != (b.leaks.length : Int)) = true := by rw [bne_iff_ne]; omega
    rw [decide_eq_false (fun e => h8 (by rw [e]))]
    refine wk0 (And.intro heq (And.intro hc hne)) (And.intro s2 (And.intro s3 (And.intro s4 (And.intro s5 (And.intro s6 s7))))) trivial
  have hli : (a.leaks.length : Int) = (b.leaks.length : Int) := by omega
  refine wkx1 (And.intro heq (And.intro hc hli)) (And.intro s2 (And.intro s3 (And.intro s4 (And.intro s5 (And.intro s6 s7))))) trivial _ ?_
  all_goals (repeat intro h)
  all_goals refine ⟨?_⟩
  refine AW.loopW (fun n σ => ∃ k : Nat, n = a.leaks.length - k ∧ k ≤ a.leaks.length ∧ a.leaks.take k = b.leaks.take k ∧ σ = ⟨86, (upd (upd (upd (fun _ => .junk) 2 (.one (.ptr 2 0))) 3 (.one (.ptr 3 0))) 5 (.one (.c (i64 k)))), (upd (upd (fun _ => none) 2 (some (.box ((eWld a).map .c)))) 3 (some (.box ((eWld b).map .c))))⟩) (n := a.leaks.length) _ ⟨0, rfl, Nat.zero_le _, rfl, rfl⟩ (by simp only [eWld, eSealeds, eGrams, ePeople, eEvents, eRows, eWords, eLeaks, List.map_cons, List.map_nil]; exact lz trivial) ?_
  rintro n σ ⟨k, rfl, hk, ht, rfl⟩
  simp only [eWld, eSealeds, eGrams, ePeople, eEvents, eRows, eWords, eLeaks, List.map_cons, List.map_nil]
  by_cases hlt : k < a.leaks.length
  · obtain ⟨x, hx⟩ : ∃ x, a.leaks[k]? = some x := ⟨_, List.getElem?_eq_getElem hlt⟩
    obtain ⟨y, hy⟩ : ∃ y, b.leaks[k]? = some y := ⟨_, List.getElem?_eq_getElem (by omega)⟩
    have hlt2 : k < b.leaks.length := by omega
    have hs := wrapI (x := (k : Int) + 1) (by omega) (by omega)
    have hd0 := eqLeakB_dec x y
    unfold eqLeakB at hd0
    by_cases hxy : x = y
    · subst hxy
      refine wkx1 (And.intro hx (And.intro hy (And.intro hlt (And.intro hlt2 (And.intro hs (And.intro hel eLeak.eq_1)))))) trivial trivial _ ?_
      all_goals (repeat intro h)
      all_goals refine ⟨?_⟩
      refine ⟨a.leaks.length - (k + 1), by omega, _, ⟨k + 1, rfl, by omega, take_more ht hx hy, rfl⟩, ?_⟩
      try simp only [eWld, eSealeds, eGrams, ePeople, eEvents, eRows, eWords, eLeaks, List.map_cons, List.map_nil]
      exact lz trivial
    · rw [decide_eq_false hxy] at hd0
      rw [decide_eq_false (fun e => by subst e; rw [hx] at hy; exact hxy (Option.some.inj hy))]
      refine wk0 (And.intro hx (And.intro hy (And.intro hlt (And.intro hlt2 (And.intro hs (And.intro hel (And.intro hd0 eLeak.eq_1))))))) trivial trivial
  · obtain rfl : k = a.leaks.length := by omega
    have : a = b := wld_ext h1 h2 h3 h4 h5 h6 h7 (take_all h8 ht)
    rw [decide_eq_true this]
    refine wk0 trivial trivial trivial
end Go.Proofs.YtagccdebelheoaaGreatDoor.Abs
end
section
/- A struct's fields that are nothing become empty rows. -/
set_option linter.unusedSimpArgs false
set_option linter.unusedVariables false
set_option maxRecDepth 100000
namespace Go.Proofs.YtagccdebelheoaaGreatDoor.Abs
open Go.RowKit
section
variable {P : Program}
/-- Nothing is an empty row. -/
def sealA : A → A
  | .nil => .c (.row [])
  | a => a
theorem VA.sealA {c : Ctx} {w : World} {m : Mem} {a : A} {v : Value} (h : VA c w m a v) : VA c w m (sealA a) v := by
  cases a with
  | nil => cases h; exact R.nil
  | _ => exact h
theorem Goes.nils {c : Ctx} {w : World} {m : Mem} {id : Nat} {cs cs' : List A} (hm : m id = some (.box cs)) : Goes c w m c w (upd m id (some (.box cs'))) := by
  refine ⟨fun _ _ h => h, fun _ _ _ => rfl, fun i h => ⟨rfl, ?_⟩, fun i L h => ?_⟩
  · by_cases e : i = id
    · subst e; exact .inl ⟨_, upd_same ..⟩
    · exact (isBox_upd_ne e).2 h
  · by_cases e : i = id
    · subst e; simp [rowLen, hm] at h
    · exact ⟨L, by rw [rowLen_upd_ne m _ e]; exact h, Nat.le_refl _, fun _ => ⟨rfl, fun ty sz xs hx => ⟨xs, by rw [← hx]; exact (rowsOf_upd_ne e).symm⟩⟩⟩
theorem AW.nils {c : Code} {σ : St} {Q : Exit → St → Prop} (id : Nat) {cs : List A} (hm : σ.m id = some (.box cs))
    (h : AW P c ⟨σ.n, σ.t, upd σ.m id (some (.box (cs.map sealA)))⟩ Q) : AW P c σ Q := fun base S0 w0 df a w hG => by
  refine h base S0 w0 df a w ?_
  obtain ⟨cc, h1, h2, h3⟩ := hG
  have g : Goes cc w σ.m cc w (upd σ.m id (some (.box (cs.map sealA)))) := Goes.nils hm
  refine ⟨cc, ⟨h1.1, fun q hq => (h1.2 q hq).goes g, h1.3⟩, ⟨fun i b hb => ?_, fun i i' b e1 e2 => ?_, h2.lt, h2.old, h2.new, h2.below, h2.rok, h2.size, h2.s0⟩, h3⟩
  · by_cases e : i = id
    · subst e
      simp only [upd_same, Option.some.injEq] at hb
      subst hb
      obtain ⟨q1, q2, vs, T, q3, q4⟩ := h2.blk i _ hm
      exact ⟨q1, q2, vs, T, q3, F2.map_left.mpr (q4.mono fun x y _ hx => (hx.goes g).sealA)⟩
    · have hu : upd σ.m id (some (.box (cs.map sealA))) i = σ.m i := upd_ne _ _ e
      have h4 := h2.blk i b (by rw [← hu]; exact hb)
      cases b with
      | box xs =>
        obtain ⟨q1, q2, vs, T, q3, q4⟩ := h4
        exact ⟨q1, q2, vs, T, q3, q4.mono fun x y _ hx => hx.goes g⟩
      | rows ty sz xs => exact h4
      | froz xs => exact h4
      | gone L => exact h4
      | lent j e sz xs => exact h4
      | fbox cs => exact h4
      | obox cs => exact h4
      | orec r => exact h4
      | mapb a ks xs => exact h4
      | fmap a ks xs => exact h4
  · have hb : ∀ i b, blockOf cc (upd σ.m id (some (.box (cs.map sealA)))) i = some b → blockOf cc σ.m i = some b := fun i b hb => by
      unfold blockOf at hb ⊢
      by_cases e : i = id
      · subst e; rw [upd_same] at hb; rw [hm]; exact hb
      · rw [upd_ne _ _ e] at hb; exact hb
    exact h2.inj i i' b (hb _ _ e1) (hb _ _ e2)
/-- A box of the call's own has other cells, that stand for what is in it. -/
theorem box_cells {base : Nat} {S0 : Sh} {w0 : W0} {cc : Ctx} {m : Mem} {w : World} {id : Nat} {cs cs' : List A} (h2 : WR base S0 w0 cc m w) (hm : m id = some (.box cs)) (hF : ∀ vs, F2 (VA cc w m) cs vs → F2 (VA cc w m) cs' vs) :
    Goes cc w m cc w (upd m id (some (.box cs'))) ∧ WR base S0 w0 cc (upd m id (some (.box cs'))) w := by
  have g : Goes cc w m cc w (upd m id (some (.box cs'))) := Goes.nils hm
  refine ⟨g, fun i b hb => ?_, fun i i' b e1 e2 => ?_, h2.lt, h2.old, h2.new, h2.below, h2.rok, h2.size, h2.s0⟩
  · by_cases e : i = id
    · subst e
      simp only [upd_same, Option.some.injEq] at hb
      subst hb
      obtain ⟨q1, q2, vs, T, q3, q4⟩ := h2.blk i _ hm
      exact ⟨q1, q2, vs, T, q3, (hF vs q4).mono fun x y _ hx => hx.goes g⟩
    · have hu : upd m id (some (.box cs')) i = m i := upd_ne _ _ e
      have h4 := h2.blk i b (by rw [← hu]; exact hb)
      cases b with
      | box xs =>
        obtain ⟨q1, q2, vs, T, q3, q4⟩ := h4
        exact ⟨q1, q2, vs, T, q3, q4.mono fun x y _ hx => hx.goes g⟩
      | rows ty sz xs => exact h4
      | froz xs => exact h4
      | gone L => exact h4
      | lent j e sz xs => exact h4
      | fbox cs => exact h4
      | obox cs => exact h4
      | orec r => exact h4
      | mapb a ks xs => exact h4
      | fmap a ks xs => exact h4
  · have hb : ∀ i b, blockOf cc (upd m id (some (.box cs'))) i = some b → blockOf cc m i = some b := fun i b hb => by
      unfold blockOf at hb ⊢
      by_cases e : i = id
      · subst e; rw [upd_same] at hb; rw [hm]; exact hb
      · rw [upd_ne _ _ e] at hb; exact hb
    exact h2.inj i i' b (hb _ _ e1) (hb _ _ e2)
/-- A box's cell that is nothing becomes an own row. -/
theorem AW.freshB {c : Code} {σ : St} {Q : Exit → St → Prop} (bid j id : Nat) (e : TypeId) (sz : Nat) (hs : 0 < sz) {cs : List A} (hb : σ.m bid = some (.box cs)) (hj : cs[j]? = some .nil) (hm : σ.m id = none)
    (h : AW P c ⟨σ.n, σ.t, upd (upd σ.m id (some (.rows e sz []))) bid (some (.box (cs.set j (.own id 0))))⟩ Q) : AW P c σ Q := fun base S0 w0 df a w hG => by
  refine h base S0 w0 df a w ?_
  obtain ⟨cc, h1, h2, h3⟩ := hG
  have hne : bid ≠ id := fun e => by rw [e, hm] at hb; simp at hb
  obtain ⟨g, r, hv⟩ := h2.rows hm (e := e) (sz := sz) (xs := []) (v := .slice none 0 0) (Below.refl _ w) (by simp) hs (by simp) (vss := []) F2.nil (World.ownsRow_nil _ _ _ _)
  have hb1 : upd σ.m id (some (.rows e sz [])) bid = some (.box cs) := by rw [upd_ne _ _ hne]; exact hb
  obtain ⟨g2, r2⟩ := box_cells (cs' := cs.set j (.own id 0)) r hb1 fun vs hF => ⟨by rw [List.length_set]; exact hF.1, fun i x y hx hy => by
    rw [List.getElem?_set] at hx
    split at hx
    · rename_i hij
      subst hij
      split at hx
      · cases hx
        have hn := hF.2 j _ y hj hy
        rw [show y = .slice none 0 0 from hn]
        exact hv
      · simp at hx
    · exact hF.2 i x y hx hy⟩
  have g3 := g.trans g2
  exact ⟨_, ⟨h1.1, fun q hq => (h1.2 q hq).goes g3, h1.3.mono (g3.S 0) (g3.heap 0)⟩, r2, h3.goes g3⟩
end
end Go.Proofs.YtagccdebelheoaaGreatDoor.Abs
end
section
/- The reference of layer desk, over values without addresses: Copied. -/
set_option linter.unusedSimpArgs false
set_option linter.unusedVariables false
set_option maxRecDepth 100000
namespace Go.Proofs.YtagccdebelheoaaGreatDoor.Abs
open Go.RowKit
/-- A world's lists are short, and what is in them. -/
structure Tiny (w : Wld) : Prop where
  dl : w.draws.list.length ≤ 1000
  en : w.box.entries.length ≤ 70
  pl : ∀ s ∈ w.box.entries, s.plain.length ≤ 100
  gr : w.net.grams.length ≤ 64
  gw : ∀ g ∈ w.net.grams, g.words.length ≤ 100
  se : w.net.seen.length ≤ 300
  sw : ∀ s ∈ w.net.seen, s.length ≤ 100
  pp : w.people.length ≤ 10
  pu : ∀ p ∈ w.people, p.used.length ≤ 100 ∧ p.runs.length ≤ 100
  lg : w.log.length ≤ 300
  rg : w.regs.length ≤ 10
  rw : ∀ r ∈ w.regs, r.length ≤ 100
  lk : w.leaks.length ≤ 300
theorem tiny_of {w : Wld} (h : fewW w = true) : Tiny w := by
  unfold fewW fewT at h
  simp only [Bool.and_eq_true, decide_eq_true_eq] at h
  obtain ⟨h0, h1, h2, h3, h4⟩ := h
  obtain ⟨p1, p2⟩ := of_decide_eq_true h1
  obtain ⟨q1, q2, q3, q4⟩ := of_decide_eq_true h2
  obtain ⟨r1, r2⟩ := fewPl_iff h3
  refine ⟨by omega, by omega, fun s hs => ?_, by omega, fun s hs => ?_, by omega, fun s hs => ?_, r1, r2, by omega, by omega, fun s hs => ?_, by omega⟩
  · have := p1 s (by rw [List.take_of_length_le (by omega)]; exact hs); omega
  · have := q1 s (by rw [List.take_of_length_le (by omega)]; exact hs); omega
  · have := q2 s (by rw [List.take_of_length_le (by omega)]; exact hs); omega
  · have := h0 s (by rw [List.take_of_length_le (by omega)]; exact hs); omega
set_option maxHeartbeats 32000000 in
theorem q12_copied (w : Wld) (h : Tiny w) : ACalls Tryz.prog 11 [.agg (eWld w)] (.one (.agg (eWld w))) := by
  refine ACalls.intro (fn := Tryz.f11) Tryz.func11 rfl rfl (by simp [Tryz.f11]) ?_
  obtain ⟨dl, en, pl, gr, gw, se, sw, pp, pu, lg, rg, rw', lk⟩ := h
  unfold Tryz.f11
  simp only [eWld, eSealeds, eGrams, ePeople, eEvents, eRows, eWords, eLeaks, List.map_cons, List.map_nil]
  refine wkx1 trivial trivial trivial _ ?_
  all_goals (repeat intro h)
  all_goals refine ⟨?_⟩
  refine AW.freshB 3 10 45 89 4 (by decide) rfl rfl rfl ?_
  refine AW.loopW (fun z σ => ∃ k : Nat, z = w.box.entries.length - k ∧ k ≤ w.box.entries.length ∧ σ = ⟨167, (upd (upd (upd (upd (fun _ => .junk) 1 (.one (.ptr 1 0))) 2 (.one (.ptr 2 0))) 3 (.one (.ptr 3 0))) 4 (.one (.c (i64 k)))), (upd (upd (upd (upd (upd (fun _ => none) 1 (some (.box ((eWld w).map .c)))) 2 (some (.box [.c (u32 0), .c (i64 0), .c (i64 0), .c (i64 0), .c (i64 0), .c (i64 0), .c (i64 0), .nil, .c (i64 0), .c (i64 0), .nil, .c (i64 0), .nil, .nil, .nil, .nil, .nil, .nil]))) 12 (some (.rows 22 1 (w.draws.list.map eWord)))) 45 (some (.rows 89 4 ((w.box.entries.take k).map eSealed)))) 3 (some (.box [.c (u32 w.conf.window), .c (i64 w.conf.people), .c (i64 w.conf.box), .c (i64 w.conf.used), .c (i64 w.conf.runs), .c (i64 w.conf.net), .c (i64 w.conf.regs), .own 12 w.draws.list.length, .c (i64 w.draws.next), .c (i64 w.box.room), .own 45 k, .c (i64 w.net.room), .c (.row (w.net.grams.map eGram)), .c (.row (w.net.seen.map eSeen)), .c (.row (w.people.map ePerson)), .c (.row (w.log.map eEvent)), .c (.row (w.regs.map eSeen)), .c (.row (w.leaks.map eLeak))])))⟩) (n := w.box.entries.length) _ ⟨0, rfl, Nat.zero_le _, rfl⟩ (by simp only [eWld, eSealeds, eGrams, ePeople, eEvents, eRows, eWords, eLeaks, List.map_cons, List.map_nil, List.take_zero, List.map_nil]; exact lz trivial) ?_
  rintro z σ ⟨k, rfl, hk, rfl⟩
  simp only [eWld, eSealeds, eGrams, ePeople, eEvents, eRows, eWords, eLeaks, List.map_cons, List.map_nil]
  have hkl : (w.box.entries.take k).length = k := by rw [List.length_take]; omega
  by_cases hlt : k < w.box.entries.length
  · obtain ⟨x, hx⟩ : ∃ x, w.box.entries[k]? = some x := ⟨_, List.getElem?_eq_getElem hlt⟩
    have hxl := pl x (List.mem_of_getElem? hx)
    have hs := wrapI (x := (k : Int) + 1) (by omega) (by omega)
    have hst : (w.box.entries.take (k + 1)).map eSealed = (w.box.entries.take k).map eSealed ++ [eSealed x] := by rw [List.take_add_one, hx]; simp
    refine wkx1 (And.intro hx (And.intro hlt (And.intro hs (And.intro hkl (And.intro eSealed.eq_1 (And.intro eWords.eq_1 eRuns.eq_1)))))) trivial trivial _ ?_
    all_goals (repeat intro h)
    all_goals refine ⟨?_⟩
    refine ⟨w.box.entries.length - (k + 1), by omega, _, ⟨k + 1, rfl, by omega, rfl⟩, ?_⟩
    rw [hst]
    simp only [eWld, eSealeds, eGrams, ePeople, eEvents, eRows, eWords, eLeaks, List.map_cons, List.map_nil, eSealed, eRuns]
    exact lz trivial
  obtain rfl : k = w.box.entries.length := by omega
  rw [List.take_length]
  refine wkx1 hkl trivial trivial _ ?_
  all_goals (repeat intro h)
  all_goals refine ⟨?_⟩
  clear hlt hk hkl
  refine AW.freshB 3 12 79 59 2 (by decide) rfl rfl rfl ?_
  refine AW.loopW (fun z σ => ∃ k : Nat, z = w.net.grams.length - k ∧ k ≤ w.net.grams.length ∧ σ = ⟨167, (upd (upd (upd (upd (fun _ => .junk) 1 (.one (.ptr 1 0))) 2 (.one (.ptr 2 0))) 3 (.one (.ptr 3 0))) 6 (.one (.c (i64 k)))), (upd (upd (upd (upd (upd (upd (fun _ => none) 1 (some (.box ((eWld w).map .c)))) 2 (some (.box [.c (u32 0), .c (i64 0), .c (i64 0), .c (i64 0), .c (i64 0), .c (i64 0), .c (i64 0), .nil, .c (i64 0), .c (i64 0), .nil, .c (i64 0), .nil, .nil, .nil, .nil, .nil, .nil]))) 12 (some (.rows 22 1 (w.draws.list.map eWord)))) 45 (some (.rows 89 4 (w.box.entries.map eSealed)))) 79 (some (.rows 59 2 ((w.net.grams.take k).map eGram)))) 3 (some (.box [.c (u32 w.conf.window), .c (i64 w.conf.people), .c (i64 w.conf.box), .c (i64 w.conf.used), .c (i64 w.conf.runs), .c (i64 w.conf.net), .c (i64 w.conf.regs), .own 12 w.draws.list.length, .c (i64 w.draws.next), .c (i64 w.box.room), .own 45 w.box.entries.length, .c (i64 w.net.room), .own 79 k, .c (.row (w.net.seen.map eSeen)), .c (.row (w.people.map ePerson)), .c (.row (w.log.map eEvent)), .c (.row (w.regs.map eSeen)), .c (.row (w.leaks.map eLeak))])))⟩) (n := w.net.grams.length) _ ⟨0, rfl, Nat.zero_le _, rfl⟩ (by simp only [eWld, eSealeds, eGrams, ePeople, eEvents, eRows, eWords, eLeaks, List.map_cons, List.map_nil, List.take_zero, List.map_nil]; exact lz trivial) ?_
  rintro z σ ⟨k, rfl, hk, rfl⟩
  simp only [eWld, eSealeds, eGrams, ePeople, eEvents, eRows, eWords, eLeaks, List.map_cons, List.map_nil]
  have hkl : (w.net.grams.take k).length = k := by rw [List.length_take]; omega
  by_cases hlt : k < w.net.grams.length
  · obtain ⟨x, hx⟩ : ∃ x, w.net.grams[k]? = some x := ⟨_, List.getElem?_eq_getElem hlt⟩
    have hxl := gw x (List.mem_of_getElem? hx)
    have hs := wrapI (x := (k : Int) + 1) (by omega) (by omega)
    have hst : (w.net.grams.take (k + 1)).map eGram = (w.net.grams.take k).map eGram ++ [eGram x] := by rw [List.take_add_one, hx]; simp
    refine wkx1 (And.intro hx (And.intro hlt (And.intro hs (And.intro hkl (And.intro eGram.eq_1 (And.intro eWords.eq_1 eRuns.eq_1)))))) trivial trivial _ ?_
    all_goals (repeat intro h)
    all_goals refine ⟨?_⟩
    refine ⟨w.net.grams.length - (k + 1), by omega, _, ⟨k + 1, rfl, by omega, rfl⟩, ?_⟩
    rw [hst]
    simp only [eWld, eSealeds, eGrams, ePeople, eEvents, eRows, eWords, eLeaks, List.map_cons, List.map_nil, eGram, eRuns]
    exact lz trivial
  obtain rfl : k = w.net.grams.length := by omega
  rw [List.take_length]
  refine wkx1 hkl trivial trivial _ ?_
  all_goals (repeat intro h)
  all_goals refine ⟨?_⟩
  clear hlt hk hkl
  refine AW.freshB 3 13 104 25 1 (by decide) rfl rfl rfl ?_
  refine AW.loopW (fun z σ => ∃ k : Nat, z = w.net.seen.length - k ∧ k ≤ w.net.seen.length ∧ σ = ⟨167, (upd (upd (upd (upd (fun _ => .junk) 1 (.one (.ptr 1 0))) 2 (.one (.ptr 2 0))) 3 (.one (.ptr 3 0))) 7 (.one (.c (i64 k)))), (upd (upd (upd (upd (upd (upd (upd (fun _ => none) 1 (some (.box ((eWld w).map .c)))) 2 (some (.box [.c (u32 0), .c (i64 0), .c (i64 0), .c (i64 0), .c (i64 0), .c (i64 0), .c (i64 0), .nil, .c (i64 0), .c (i64 0), .nil, .c (i64 0), .nil, .nil, .nil, .nil, .nil, .nil]))) 12 (some (.rows 22 1 (w.draws.list.map eWord)))) 45 (some (.rows 89 4 (w.box.entries.map eSealed)))) 79 (some (.rows 59 2 (w.net.grams.map eGram)))) 104 (some (.rows 25 1 ((w.net.seen.take k).map eSeen)))) 3 (some (.box [.c (u32 w.conf.window), .c (i64 w.conf.people), .c (i64 w.conf.box), .c (i64 w.conf.used), .c (i64 w.conf.runs), .c (i64 w.conf.net), .c (i64 w.conf.regs), .own 12 w.draws.list.length, .c (i64 w.draws.next), .c (i64 w.box.room), .own 45 w.box.entries.length, .c (i64 w.net.room), .own 79 w.net.grams.length, .own 104 k, .c (.row (w.people.map ePerson)), .c (.row (w.log.map eEvent)), .c (.row (w.regs.map eSeen)), .c (.row (w.leaks.map eLeak))])))⟩) (n := w.net.seen.length) _ ⟨0, rfl, Nat.zero_le _, rfl⟩ (by simp only [eWld, eSealeds, eGrams, ePeople, eEvents, eRows, eWords, eLeaks, List.map_cons, List.map_nil, List.take_zero, List.map_nil]; exact lz trivial) ?_
  rintro z σ ⟨k, rfl, hk, rfl⟩
  simp only [eWld, eSealeds, eGrams, ePeople, eEvents, eRows, eWords, eLeaks, List.map_cons, List.map_nil]
  have hkl : (w.net.seen.take k).length = k := by rw [List.length_take]; omega
  by_cases hlt : k < w.net.seen.length
  · obtain ⟨x, hx⟩ : ∃ x, w.net.seen[k]? = some x := ⟨_, List.getElem?_eq_getElem hlt⟩
    have hxl := sw x (List.mem_of_getElem? hx)
    have hs := wrapI (x := (k : Int) + 1) (by omega) (by omega)
    have hst : (w.net.seen.take (k + 1)).map eSeen = (w.net.seen.take k).map eSeen ++ [eSeen x] := by rw [List.take_add_one, hx]; simp
    refine wkx1 (And.intro hx (And.intro hlt (And.intro hs (And.intro hkl (And.intro eSeen.eq_1 (And.intro eWords.eq_1 eRuns.eq_1)))))) trivial trivial _ ?_
    all_goals (repeat intro h)
    all_goals refine ⟨?_⟩
    refine ⟨w.net.seen.length - (k + 1), by omega, _, ⟨k + 1, rfl, by omega, rfl⟩, ?_⟩
    rw [hst]
    simp only [eWld, eSealeds, eGrams, ePeople, eEvents, eRows, eWords, eLeaks, List.map_cons, List.map_nil, eSeen, eRuns]
    exact lz trivial
  obtain rfl : k = w.net.seen.length := by omega
  rw [List.take_length]
  refine wkx1 hkl trivial trivial _ ?_
  all_goals (repeat intro h)
  all_goals refine ⟨?_⟩
  clear hlt hk hkl
  refine AW.freshB 3 14 134 53 6 (by decide) rfl rfl rfl ?_
  refine AW.loopW (fun z σ => ∃ k : Nat, z = w.people.length - k ∧ k ≤ w.people.length ∧ σ = ⟨167, (upd (upd (upd (upd (fun _ => .junk) 1 (.one (.ptr 1 0))) 2 (.one (.ptr 2 0))) 3 (.one (.ptr 3 0))) 8 (.one (.c (i64 k)))), (upd (upd (upd (upd (upd (upd (upd (upd (fun _ => none) 1 (some (.box ((eWld w).map .c)))) 2 (some (.box [.c (u32 0), .c (i64 0), .c (i64 0), .c (i64 0), .c (i64 0), .c (i64 0), .c (i64 0), .nil, .c (i64 0), .c (i64 0), .nil, .c (i64 0), .nil, .nil, .nil, .nil, .nil, .nil]))) 12 (some (.rows 22 1 (w.draws.list.map eWord)))) 45 (some (.rows 89 4 (w.box.entries.map eSealed)))) 79 (some (.rows 59 2 (w.net.grams.map eGram)))) 104 (some (.rows 25 1 (w.net.seen.map eSeen)))) 134 (some (.rows 53 6 ((w.people.take k).map ePerson)))) 3 (some (.box [.c (u32 w.conf.window), .c (i64 w.conf.people), .c (i64 w.conf.box), .c (i64 w.conf.used), .c (i64 w.conf.runs), .c (i64 w.conf.net), .c (i64 w.conf.regs), .own 12 w.draws.list.length, .c (i64 w.draws.next), .c (i64 w.box.room), .own 45 w.box.entries.length, .c (i64 w.net.room), .own 79 w.net.grams.length, .own 104 w.net.seen.length, .own 134 k, .c (.row (w.log.map eEvent)), .c (.row (w.regs.map eSeen)), .c (.row (w.leaks.map eLeak))])))⟩) (n := w.people.length) _ ⟨0, rfl, Nat.zero_le _, rfl⟩ (by simp only [eWld, eSealeds, eGrams, ePeople, eEvents, eRows, eWords, eLeaks, List.map_cons, List.map_nil, List.take_zero, List.map_nil]; exact lz trivial) ?_
  rintro z σ ⟨k, rfl, hk, rfl⟩
  simp only [eWld, eSealeds, eGrams, ePeople, eEvents, eRows, eWords, eLeaks, List.map_cons, List.map_nil]
  have hkl : (w.people.take k).length = k := by rw [List.length_take]; omega
  by_cases hlt : k < w.people.length
  · obtain ⟨x, hx⟩ : ∃ x, w.people[k]? = some x := ⟨_, List.getElem?_eq_getElem hlt⟩
    have hxl := pu x (List.mem_of_getElem? hx)
    have hs := wrapI (x := (k : Int) + 1) (by omega) (by omega)
    have hst : (w.people.take (k + 1)).map ePerson = (w.people.take k).map ePerson ++ [ePerson x] := by rw [List.take_add_one, hx]; simp
    refine wkx1 (And.intro hx (And.intro hlt (And.intro hs (And.intro hkl (And.intro ePerson.eq_1 (And.intro eWords.eq_1 eRuns.eq_1)))))) trivial trivial _ ?_
    all_goals (repeat intro h)
    all_goals refine ⟨?_⟩
    refine ⟨w.people.length - (k + 1), by omega, _, ⟨k + 1, rfl, by omega, rfl⟩, ?_⟩
    rw [hst]
    simp only [eWld, eSealeds, eGrams, ePeople, eEvents, eRows, eWords, eLeaks, List.map_cons, List.map_nil, ePerson, eRuns]
    exact lz trivial
  obtain rfl : k = w.people.length := by omega
  rw [List.take_length]
  refine wkx1 hkl trivial trivial _ ?_
  all_goals (repeat intro h)
  all_goals refine ⟨?_⟩
  clear hlt hk hkl
  refine AW.freshB 3 16 159 25 1 (by decide) rfl rfl rfl ?_
  refine AW.loopW (fun z σ => ∃ k : Nat, z = w.regs.length - k ∧ k ≤ w.regs.length ∧ σ = ⟨167, (upd (upd (upd (upd (fun _ => .junk) 1 (.one (.ptr 1 0))) 2 (.one (.ptr 2 0))) 3 (.one (.ptr 3 0))) 10 (.one (.c (i64 k)))), (upd (upd (upd (upd (upd (upd (upd (upd (upd (upd (fun _ => none) 1 (some (.box ((eWld w).map .c)))) 2 (some (.box [.c (u32 0), .c (i64 0), .c (i64 0), .c (i64 0), .c (i64 0), .c (i64 0), .c (i64 0), .nil, .c (i64 0), .c (i64 0), .nil, .c (i64 0), .nil, .nil, .nil, .nil, .nil, .nil]))) 12 (some (.rows 22 1 (w.draws.list.map eWord)))) 45 (some (.rows 89 4 (w.box.entries.map eSealed)))) 79 (some (.rows 59 2 (w.net.grams.map eGram)))) 104 (some (.rows 25 1 (w.net.seen.map eSeen)))) 134 (some (.rows 53 6 (w.people.map ePerson)))) 136 (some (.rows 57 10 (w.log.map eEvent)))) 159 (some (.rows 25 1 ((w.regs.take k).map eSeen)))) 3 (some (.box [.c (u32 w.conf.window), .c (i64 w.conf.people), .c (i64 w.conf.box), .c (i64 w.conf.used), .c (i64 w.conf.runs), .c (i64 w.conf.net), .c (i64 w.conf.regs), .own 12 w.draws.list.length, .c (i64 w.draws.next), .c (i64 w.box.room), .own 45 w.box.entries.length, .c (i64 w.net.room), .own 79 w.net.grams.length, .own 104 w.net.seen.length, .own 134 w.people.length, .own 136 w.log.length, .own 159 k, .c (.row (w.leaks.map eLeak))])))⟩) (n := w.regs.length) _ ⟨0, rfl, Nat.zero_le _, rfl⟩ (by simp only [eWld, eSealeds, eGrams, ePeople, eEvents, eRows, eWords, eLeaks, List.map_cons, List.map_nil, List.take_zero, List.map_nil]; exact lz trivial) ?_
  rintro z σ ⟨k, rfl, hk, rfl⟩
  simp only [eWld, eSealeds, eGrams, ePeople, eEvents, eRows, eWords, eLeaks, List.map_cons, List.map_nil]
  have hkl : (w.regs.take k).length = k := by rw [List.length_take]; omega
  by_cases hlt : k < w.regs.length
  · obtain ⟨x, hx⟩ : ∃ x, w.regs[k]? = some x := ⟨_, List.getElem?_eq_getElem hlt⟩
    have hxl := rw' x (List.mem_of_getElem? hx)
    have hs := wrapI (x := (k : Int) + 1) (by omega) (by omega)
    have hst : (w.regs.take (k + 1)).map eSeen = (w.regs.take k).map eSeen ++ [eSeen x] := by rw [List.take_add_one, hx]; simp
    refine wkx1 (And.intro hx (And.intro hlt (And.intro hs (And.intro hkl (And.intro eSeen.eq_1 (And.intro eWords.eq_1 eRuns.eq_1)))))) trivial trivial _ ?_
    all_goals (repeat intro h)
    all_goals refine ⟨?_⟩
    refine ⟨w.regs.length - (k + 1), by omega, _, ⟨k + 1, rfl, by omega, rfl⟩, ?_⟩
    rw [hst]
    simp only [eWld, eSealeds, eGrams, ePeople, eEvents, eRows, eWords, eLeaks, List.map_cons, List.map_nil, eSeen, eRuns]
    exact lz trivial
  obtain rfl : k = w.regs.length := by omega
  rw [List.take_length]
  refine wkx0 hkl trivial trivial
end Go.Proofs.YtagccdebelheoaaGreatDoor.Abs
end
section
/- The laws of layer ksn, over values without addresses: what the document fixes; KsnGrants, KsnKeeps. -/
set_option linter.unusedSimpArgs false
set_option linter.unusedVariables false
set_option maxRecDepth 100000
namespace Go.Proofs.YtagccdebelheoaaGreatDoor.Abs
open Go.RowKit
def W13 : Wld := newW conf0 [11, 12, 13, 14, 15, 16, 17] 2 2
theorem l13_small : ACalls Tryz.prog 12 [] (.one (.agg (eWld W13))) := by
  refine ACalls.intro (fn := Tryz.f12) Tryz.func12 rfl rfl (by simp [Tryz.f12]) ?_
  have hq := q12_new conf0 [11, 12, 13, 14, 15, 16, 17] 2 2 rfl (by decide) rfl (by decide)
  rw [show newW conf0 [11, 12, 13, 14, 15, 16, 17] 2 2 = W13 from rfl] at hq
  generalize W13 = W at *
  unfold Tryz.f12
  simp only [conf0, eConf, eWld, eSealeds, eGrams, ePeople, eEvents, eRows, eWords, eLeaks, eWord, List.map_cons, List.map_nil] at *
  refine wk0 trivial hq trivial
def m129 : Mssg := ⟨1, 0, 1, 2, 9, 0, 0⟩
def m119 : Mssg := ⟨1, 0, 1, 1, 9, 0, 0⟩
def ev13 : Event := ⟨2, 1, 0, 1, 2, 2147483661, 0, 0, 9, 0⟩
theorem w13_few : fewW W13 = true := by decide +kernel
theorem w13_form : formW W13 = true := by decide +kernel
theorem w13_e : (grantW W13 m129).2 = 0 ∧ (grantW W13 m119).2 = 5 ∧ (grantW (grantW W13 m129).1 m129).2 = 8 := by decide +kernel
theorem w13_a : fewW (grantW W13 m129).1 = true ∧ formW (grantW W13 m129).1 = true ∧ (grantW W13 m129).1.log = [ev13] ∧ (grantW W13 m129).1.box.entries.length = 2 ∧ (grantW W13 m129).1.net.grams.length = 1 ∧ ((grantW W13 m129).1.net.grams[0]?.map (·.to)) = some 1 := by decide +kernel
set_option maxHeartbeats 16000000 in
theorem l13_awake : ACalls Tryz.prog 6 [] (rB true) := by
  refine ACalls.intro (fn := Tryz.f6) Tryz.func6 rfl rfl (by simp [Tryz.f6]) ?_
  obtain ⟨a1, a2, a3, a4, a5, a6⟩ := w13_a
  have c0 := l13_small
  have c1 := p13_grant W13 m129 w13_form (smallN_of (by decide) w13_few w13_form) rfl (by decide)
  have c2 := p13_grant (grantW W13 m129).1 m129 a2 (smallN_of (by decide) a1 a2) rfl (by decide)
  have c3 := p13_grant W13 m119 w13_form (smallN_of (by decide) w13_few w13_form) rfl (by decide)
  rw [w13_e.1] at c1
  rw [w13_e.2.2] at c2
  rw [w13_e.2.1] at c3
  have heq := eqok_event
  clear a1 a2
  generalize (grantW (grantW W13 m129).1 m129).1 = B at *
  generalize (grantW W13 m129).1 = A at *
  generalize (grantW W13 m119).1 = C at *
  generalize W13 = W at *
  obtain ⟨g, hg⟩ : ∃ g, A.net.grams[0]? = some g := ⟨_, List.getElem?_eq_getElem (by omega)⟩
  rw [hg] at a6
  have a6' : g.to = 1 := by simpa using a6
  have l1 : (A.box.entries.length : Int) = 2 := by omega
  have l2 : (A.net.grams.length : Int) = 1 := by omega
  have l3 : 0 < A.net.grams.length := by omega
  unfold Tryz.f6
  simp only [eWld, m129, m119, eMssg, eSealeds, eGrams, ePeople, eEvents, eRows, eWords, eLeaks, rB, a3, ev13, eEvent, List.map_cons, List.map_nil] at *
  refine wkx0 (And.intro l1 (And.intro l2 (And.intro l3 (And.intro hg (And.intro a6' (And.intro eGram.eq_1 (And.intro eWords.eq_1 heq))))))) (And.intro c0 (And.intro c1 (And.intro c2 c3))) trivial
def fitsM13 (w : Wld) (m : Mssg) : Bool := fewW w && (formW w && (m.kind == 1 && mayM m))
set_option maxHeartbeats 8000000 in
theorem l13_fits (w : Wld) (m : Mssg) : ACalls Tryz.prog 7 [.agg (eWld w), .agg (eMssg m)] (rB (fitsM13 w m)) := by
  refine ACalls.intro (fn := Tryz.f7) Tryz.func7 rfl rfl (by simp [Tryz.f7]) ?_
  have c1 := q12_few w
  have c2 := q12_form w
  have c3 := q03_may m
  unfold Tryz.f7
  unfold fitsM13
  generalize fewW w = b1 at *
  generalize formW w = b2 at *
  generalize mayM m = b3 at *
  simp only [eWld, eMssg, eSealeds, eGrams, ePeople, eEvents, eRows, eWords, eLeaks, rB] at *
  cases hk : (m.kind == 1) <;> cases b1 <;> cases b2 <;> cases b3
  all_goals repeat' (first
    | (refine hC ?_ ?_ ?_ ?_ ?_
       rotate_left
       · rfl
       · simp only [go_sem, ↓reduceIte, reduceCtorEq, Nat.reduceLT, Nat.reduceEqDiff, Nat.reduceBEq, Nat.reduceAdd, Nat.reduceSub, Nat.reduceMul, Nat.reduceLeDiff, Int.reduceLE, Int.reduceLT, Int.reduceNeg, Int.reduceEq, Int.reduceBEq, Int.reduceBNe, Int.reduceToNat, hk]
       · simp only [go_sem, ↓reduceIte, reduceCtorEq, Nat.reduceLT, Nat.reduceEqDiff, Nat.reduceBEq, Nat.reduceAdd, Nat.reduceSub, Nat.reduceMul, Nat.reduceLeDiff, Int.reduceLE, Int.reduceLT, Int.reduceNeg, Int.reduceEq, Int.reduceBEq, Int.reduceBNe, Int.reduceToNat, hk]
         first | (refine And.intro ?_ ?_; exact c1; first | exact trivial | (simp only [go_sem, ↓reduceIte, reduceCtorEq, Nat.reduceLT, Nat.reduceEqDiff, Nat.reduceBEq, Nat.reduceAdd, Nat.reduceSub, Nat.reduceMul, Nat.reduceLeDiff, Int.reduceLE, Int.reduceLT, Int.reduceNeg, Int.reduceEq, Int.reduceBEq, Int.reduceBNe, Int.reduceToNat, hk]; done)) | (refine And.intro (ACalls.args (k := ?_) ?_ ?_) ?_; rotate_left; exact c1; repeat' (first | exact trivial | exact Or.inl ⟨rfl, rfl⟩ | exact Or.inr rfl | apply And.intro))
       simp only [go_sem, ↓reduceIte, reduceCtorEq, Nat.reduceLT, Nat.reduceEqDiff, Nat.reduceBEq, Nat.reduceAdd, Nat.reduceSub, Nat.reduceMul, Nat.reduceLeDiff, Int.reduceLE, Int.reduceLT, Int.reduceNeg, Int.reduceEq, Int.reduceBEq, Int.reduceBNe, Int.reduceToNat, hk])
    | (refine hC ?_ ?_ ?_ ?_ ?_
       rotate_left
       · rfl
       · simp only [go_sem, ↓reduceIte, reduceCtorEq, Nat.reduceLT, Nat.reduceEqDiff, Nat.reduceBEq, Nat.reduceAdd, Nat.reduceSub, Nat.reduceMul, Nat.reduceLeDiff, Int.reduceLE, Int.reduceLT, Int.reduceNeg, Int.reduceEq, Int.reduceBEq, Int.reduceBNe, Int.reduceToNat, hk]
       · simp only [go_sem, ↓reduceIte, reduceCtorEq, Nat.reduceLT, Nat.reduceEqDiff, Nat.reduceBEq, Nat.reduceAdd, Nat.reduceSub, Nat.reduceMul, Nat.reduceLeDiff, Int.reduceLE, Int.reduceLT, Int.reduceNeg, Int.reduceEq, Int.reduceBEq, Int.reduceBNe, Int.reduceToNat, hk]
         first | (refine And.intro ?_ ?_; exact c2; first | exact trivial | (simp only [go_sem, ↓reduceIte, reduceCtorEq, Nat.reduceLT, Nat.reduceEqDiff, Nat.reduceBEq, Nat.reduceAdd, Nat.reduceSub, Nat.reduceMul, Nat.reduceLeDiff, Int.reduceLE, Int.reduceLT, Int.reduceNeg, Int.reduceEq, Int.reduceBEq, Int.reduceBNe, Int.reduceToNat, hk]; done)) | (refine And.intro (ACalls.args (k := ?_) ?_ ?_) ?_; rotate_left; exact c2; repeat' (first | exact trivial | exact Or.inl ⟨rfl, rfl⟩ | exact Or.inr rfl | apply And.intro))
       simp only [go_sem, ↓reduceIte, reduceCtorEq, Nat.reduceLT, Nat.reduceEqDiff, Nat.reduceBEq, Nat.reduceAdd, Nat.reduceSub, Nat.reduceMul, Nat.reduceLeDiff, Int.reduceLE, Int.reduceLT, Int.reduceNeg, Int.reduceEq, Int.reduceBEq, Int.reduceBNe, Int.reduceToNat, hk])
    | (refine hC ?_ ?_ ?_ ?_ ?_
       rotate_left
       · rfl
       · simp only [go_sem, ↓reduceIte, reduceCtorEq, Nat.reduceLT, Nat.reduceEqDiff, Nat.reduceBEq, Nat.reduceAdd, Nat.reduceSub, Nat.reduceMul, Nat.reduceLeDiff, Int.reduceLE, Int.reduceLT, Int.reduceNeg, Int.reduceEq, Int.reduceBEq, Int.reduceBNe, Int.reduceToNat, hk]
       · simp only [go_sem, ↓reduceIte, reduceCtorEq, Nat.reduceLT, Nat.reduceEqDiff, Nat.reduceBEq, Nat.reduceAdd, Nat.reduceSub, Nat.reduceMul, Nat.reduceLeDiff, Int.reduceLE, Int.reduceLT, Int.reduceNeg, Int.reduceEq, Int.reduceBEq, Int.reduceBNe, Int.reduceToNat, hk]
         first | (refine And.intro ?_ ?_; exact c3; first | exact trivial | (simp only [go_sem, ↓reduceIte, reduceCtorEq, Nat.reduceLT, Nat.reduceEqDiff, Nat.reduceBEq, Nat.reduceAdd, Nat.reduceSub, Nat.reduceMul, Nat.reduceLeDiff, Int.reduceLE, Int.reduceLT, Int.reduceNeg, Int.reduceEq, Int.reduceBEq, Int.reduceBNe, Int.reduceToNat, hk]; done)) | (refine And.intro (ACalls.args (k := ?_) ?_ ?_) ?_; rotate_left; exact c3; repeat' (first | exact trivial | exact Or.inl ⟨rfl, rfl⟩ | exact Or.inr rfl | apply And.intro))
       simp only [go_sem, ↓reduceIte, reduceCtorEq, Nat.reduceLT, Nat.reduceEqDiff, Nat.reduceBEq, Nat.reduceAdd, Nat.reduceSub, Nat.reduceMul, Nat.reduceLeDiff, Int.reduceLE, Int.reduceLT, Int.reduceNeg, Int.reduceEq, Int.reduceBEq, Int.reduceBNe, Int.reduceToNat, hk])
    | (refine hK _ _ ?_; clear hK hC; clear K C)
    | (refine hK _ _ rfl ?_; clear hK hC; clear K C)
    | (refine hK _ _ (by simp only [crs, crsI, alfO, alfL, Nat.reduceLT]; rfl) ?_; clear hK hC; clear K C)
    | (refine AW.seqR fun K C hK hC => ?_; simp only [go_sem, ↓reduceIte, reduceCtorEq, Nat.reduceLT, Nat.reduceEqDiff, Nat.reduceBEq, Nat.reduceAdd, Nat.reduceSub, Nat.reduceMul, Nat.reduceLeDiff, Int.reduceLE, Int.reduceLT, Int.reduceNeg, Int.reduceEq, Int.reduceBEq, Int.reduceBNe, Int.reduceToNat, hk])
    | (refine AW.seqD rfl fun K C hK hC => ?_; simp only [go_sem, ↓reduceIte, reduceCtorEq, Nat.reduceLT, Nat.reduceEqDiff, Nat.reduceBEq, Nat.reduceAdd, Nat.reduceSub, Nat.reduceMul, Nat.reduceLeDiff, Int.reduceLE, Int.reduceLT, Int.reduceNeg, Int.reduceEq, Int.reduceBEq, Int.reduceBNe, Int.reduceToNat, hk])
    | (refine AW.reg fun K C hK hC => ?_; simp only [go_sem, ↓reduceIte, reduceCtorEq, Nat.reduceLT, Nat.reduceEqDiff, Nat.reduceBEq, Nat.reduceAdd, Nat.reduceSub, Nat.reduceMul, Nat.reduceLeDiff, Int.reduceLE, Int.reduceLT, Int.reduceNeg, Int.reduceEq, Int.reduceBEq, Int.reduceBNe, Int.reduceToNat, hk])
    | (refine AW.regD rfl fun K C hK hC => ?_; simp only [go_sem, ↓reduceIte, reduceCtorEq, Nat.reduceLT, Nat.reduceEqDiff, Nat.reduceBEq, Nat.reduceAdd, Nat.reduceSub, Nat.reduceMul, Nat.reduceLeDiff, Int.reduceLE, Int.reduceLT, Int.reduceNeg, Int.reduceEq, Int.reduceBEq, Int.reduceBNe, Int.reduceToNat, hk])
    | refine AW.seqS ?_
    | (refine AW.ret ?_; simp only [go_sem, ↓reduceIte, reduceCtorEq, Nat.reduceLT, Nat.reduceEqDiff, Nat.reduceBEq, Nat.reduceAdd, Nat.reduceSub, Nat.reduceMul, Nat.reduceLeDiff, Int.reduceLE, Int.reduceLT, Int.reduceNeg, Int.reduceEq, Int.reduceBEq, Int.reduceBNe, Int.reduceToNat, hk])
    | (refine AW.cond rfl (fun h => ?_) (fun h => ?_) <;> (try simp only [decide_eq_true_eq, decide_eq_false_iff_not, bne_iff_ne, beq_iff_eq, bne_eq_false_iff_eq, beq_eq_false_iff_ne, ne_eq, ge_iff_le, gt_iff_lt, Bool.not_eq_true, Bool.not_eq_false, Bool.not_not, Bool.not_true, Bool.not_false, Int.not_le, Int.not_lt, not_true_eq_false, not_false_eq_true, reduceCtorEq, Bool.false_eq_true, Bool.not_eq_true', Bool.not_eq_false'] at h) <;> first | (exfalso; omega) | skip)
    | refine AW.skip ?_
    | refine AW.seq ?_
    | refine AW.block ?_
    | (refine AW.exit ?_; simp only [go_sem, ↓reduceIte, reduceCtorEq, Nat.reduceLT, Nat.reduceEqDiff, Nat.reduceBEq, Nat.reduceAdd, Nat.reduceSub, Nat.reduceMul, Nat.reduceLeDiff, Int.reduceLE, Int.reduceLT, Int.reduceNeg, Int.reduceEq, Int.reduceBEq, Int.reduceBNe, Int.reduceToNat, hk])
    | (refine ite_on (fun h => ?_) (fun h => ?_) <;> (try simp only [decide_eq_true_eq, decide_eq_false_iff_not, bne_iff_ne, beq_iff_eq, bne_eq_false_iff_eq, beq_eq_false_iff_ne, ne_eq, ge_iff_le, gt_iff_lt, Bool.not_eq_true, Bool.not_eq_false, Bool.not_not, Bool.not_true, Bool.not_false, Int.not_le, Int.not_lt, not_true_eq_false, not_false_eq_true, reduceCtorEq, Bool.false_eq_true, Bool.not_eq_true', Bool.not_eq_false'] at h) <;> first | (exfalso; omega) | skip)
    | rw [thenN]
    | rw [blockN]
    | rw [scopeN]
    | refine AW.scope ?_
    | refine AW.label ?_
    | refine And.intro ?_ ?_
    | refine lcons rfl ?_
    | exact lGram _
    | exact lSeen _
    | exact lWord _
    | exact lSealed _
    | exact lRun _
    | exact lPerson _
    | exact lEvent _
    | exact lLeak _
    | exact lNum _
    | exact lOprn _
    | exact in64 (by omega) (by omega)
    | exact in32 (by omega) (by omega)
    | omega)
set_option maxHeartbeats 16000000 in
theorem l13_grants (w : Wld) (m : Mssg) : ACalls Tryz.prog 3 [.agg (eWld w), .agg (eMssg m)] (rB true) := by
  refine ACalls.intro (fn := Tryz.f3) Tryz.func3 rfl rfl (by simp [Tryz.f3]) ?_
  have aw := l13_awake
  have ft := l13_fits w m
  unfold Tryz.f3
  cases hF : fitsM13 w m
  · rw [hF] at ft
    simp only [eWld, eMssg, eSealeds, eGrams, ePeople, eEvents, eRows, eWords, eLeaks, rB] at *
    refine wk0 trivial (And.intro aw ft) trivial
  · rw [hF] at ft
    unfold fitsM13 at hF
    simp only [Bool.and_eq_true, beq_iff_eq] at hF
    obtain ⟨h1, h2, h3, h4⟩ := hF
    have sm : SmallN 10 w := smallN_of (by decide) h1 h2
    obtain ⟨_, hb, _, hn, _⟩ := formW_iff h2
    have c1 := p13_grant w m h2 sm h3 h4
    have d1 := q13_grant w m sm hb hn (by have := (person_used h2 0).1; omega)
    have s1 := q12_same (grantW w m).1 (grantW w m).1
    rw [decide_eq_true rfl] at s1
    clear h1 h2 h3 h4 sm hb hn
    generalize grantW w m = a at *
    simp only [eWld, eMssg, eSealeds, eGrams, ePeople, eEvents, eRows, eWords, eLeaks, rB] at *
    refine wkx0 trivial (And.intro aw (And.intro ft (And.intro c1 (And.intro d1 s1)))) trivial
set_option maxHeartbeats 16000000 in
theorem l13_keeps (w : Wld) (m : Mssg) : ACalls Tryz.prog 4 [.agg (eWld w), .agg (eMssg m)] (rB true) := by
  refine ACalls.intro (fn := Tryz.f4) Tryz.func4 rfl rfl (by simp [Tryz.f4]) ?_
  have aw := l13_awake
  have ft := l13_fits w m
  unfold Tryz.f4
  cases hF : fitsM13 w m
  · rw [hF] at ft
    simp only [eWld, eMssg, eSealeds, eGrams, ePeople, eEvents, eRows, eWords, eLeaks, rB] at *
    refine wk0 trivial (And.intro aw ft) trivial
  · rw [hF] at ft
    unfold fitsM13 at hF
    simp only [Bool.and_eq_true, beq_iff_eq] at hF
    obtain ⟨h1, h2, h3, h4⟩ := hF
    have sm : SmallN 10 w := smallN_of (by decide) h1 h2
    obtain ⟨_, hb, _, hn, _⟩ := formW_iff h2
    have cp := q12_copied w (tiny_of h1)
    have c1 := p13_grant w m h2 sm h3 h4
    have d1 := q13_grant w m sm hb hn (by have := (person_used h2 0).1; omega)
    have s1 := q12_same (grantW w m).1 (grantW w m).1
    have s2 := q12_same w w
    rw [decide_eq_true rfl] at s1 s2
    clear h1 h2 h3 h4 sm hb hn
    generalize grantW w m = a at *
    simp only [eWld, eMssg, eSealeds, eGrams, ePeople, eEvents, eRows, eWords, eLeaks, rB] at *
    refine wkx0 trivial (And.intro aw (And.intro ft (And.intro cp (And.intro c1 (And.intro d1 (And.intro s2 s1)))))) trivial
end Go.Proofs.YtagccdebelheoaaGreatDoor.Abs
end
section
/- What is handed in, opened: whatever its type. -/
set_option linter.unusedSimpArgs false
set_option linter.unusedVariables false
set_option maxRecDepth 100000
namespace Go.Proofs.YtagccdebelheoaaGreatDoor.Abs
open Go.RowKit
/-- A struct that is handed in, by value. -/
theorem open_agg {α : Type} {C : Cod α} {H : Type} {enc : TypeId × Value → H} {P : Program} {W : World} {r : Reach} {b0 : Nat} {t : TypeId} {fs : Array Field} {v : Value} {d : DataW H} {p : List MemPlace} (ho : Cod.Opens P t C) (hs : P.underlying t = some (.struct fs))
    (hv : Value.okWide P W r b0 t v) (h : DataW.Trod enc P W 0 (fun _ => true) true t v d p) : ∃ (vs : List Value) (y : α), v = .agg vs.toArray ∧ C.rep W W.heap.size vs y := by
  obtain ⟨cs, rfl, _⟩ := Go.WideShapes.okWide_struct hs hv
  obtain ⟨fuel, hf⟩ := h
  obtain ⟨y, hy⟩ := ho.2 H enc W fuel cs.toList _ hf
  exact ⟨cs.toList, y, rfl, hy⟩
/-- A row that is handed in. -/
theorem open_row {α : Type} {C : Cod α} {H : Type} {enc : TypeId × Value → H} {P : Program} {W : World} {r : Reach} {b0 : Nat} {t e : TypeId} {v : Value} {d : DataW H} {p : List MemPlace} (ho : Cod.Opens P t C.row) (hs : P.underlying t = some (.slice e))
    (hv : Value.okWide P W r b0 t v) (h : DataW.Trod enc P W 0 (fun _ => true) true t v d p) : ∃ y : List α, C.row.rep W W.heap.size [v] y := by
  obtain ⟨a, len, cap, rfl⟩ := Go.WideShapes.okWide_slice hs hv
  obtain ⟨fuel, hf⟩ := h
  exact ho.2 H enc W fuel _ _ hf
theorem RC.int {S : Sh} {w : World} {k : IntKind} {n : Int} (h : (Lit.int k n).wf = true) : RC S w (.one (.v (.int k n))) (.int k n) := R.v (inK_wf.trans h)
theorem RC.flag {S : Sh} {w : World} (b : Bool) : RC S w (.one (.v (.bool b))) (.bool b) := R.v rfl
theorem openWords : Cod.Opens Tryz.prog 25 Cod.words := Cod.Opens.row (e := 22) Tryz.underlying25 (by kernel_rfl) (Cod.Opens.num Tryz.underlying22 (by kernel_rfl)) (by decide)
end Go.Proofs.YtagccdebelheoaaGreatDoor.Abs
end
