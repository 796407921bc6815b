/- Texts that were merged: L12k, L12s, L12p, L13k, L07m, G1, P14a, P14, Q12n, Q12b, AbsN, Q12k, L14, Open. -/
import Derived.Test.YthfhhciogimhjaaGreatDoorZ6
import Derived.Test.YthfhhciogimhjaaGreatDoorZ10
import Derived.Test.YthfhhciogimhjaaGreatDoorZ9
import Derived.Test.YthfhhciogimhjaaGreatDoorZ7
import Derived.Test.YthfhhciogimhjaaGreatDoorZ8
import Derived.Test.YthfhhciogimhjaaGreatDoorZ4
import Derived.Test.YthfhhciogimhjaaGreatDoorZ5
import Derived.Test.YthfhhciogimhjaaGreatDoorZ3
import Derived.Test.YthfhhciogimhjaaGreatDoorRows
section
/- What is known of small worlds that have their form. -/
set_option linter.unusedSimpArgs false
set_option linter.unusedVariables false
set_option maxRecDepth 100000
namespace Go.Proofs.YthfhhciogimhjaaGreatDoor.Abs
open Go.RowKit
theorem fewW_iff {w : Wld} (h : fewW w = true) : (w.regs.length ≤ 10 ∧ w.log.length ≤ 300 ∧ w.leaks.length ≤ 300 ∧ w.draws.list.length ≤ 1000) ∧ (w.box.entries.length ≤ 70 ∧ ∀ s ∈ w.box.entries, s.plain.length ≤ 100) ∧ (w.net.grams.length ≤ 64 ∧ w.net.seen.length ≤ 300) ∧ w.people.length ≤ 10 := by
  unfold fewW fewT at h
  simp only [Bool.and_eq_true, decide_eq_true_eq] at h
  obtain ⟨h0, h1, h2, h3, h4⟩ := h
  obtain ⟨p1, p2⟩ := of_decide_eq_true h1
  obtain ⟨_, _, q3, q4⟩ := of_decide_eq_true h2
  have h5 := (fewPl_iff h3).1
  refine ⟨⟨by omega, by omega, by omega, by omega⟩, ⟨by omega, fun s hs => ?_⟩, ⟨by omega, by omega⟩, h5⟩
  have := p1 s (by rw [List.take_of_length_le (by omega)]; exact hs)
  omega
theorem formW_iff {w : Wld} (h : formW w = true) : mayC w.conf = true ∧ rightB w.box = true ∧ w.box.room = w.conf.box ∧ rightN w.net = true ∧ w.net.room = w.conf.net ∧ rightPl w.people = true ∧ (w.people.length : Int) = w.conf.people + 1 ∧ (w.regs.length : Int) = w.conf.regs ∧ (0 ≤ w.draws.next ∧ w.draws.next ≤ 1048576) ∧
    w.people.all (personB w.conf) = true ∧ w.regs.all shB = true ∧ w.net.seen.all shB = true ∧ w.net.grams.all gramB = true := by
  unfold formW formA formB at h
  simp only [Bool.and_eq_true, decide_eq_true_eq, beq_iff_eq] at h
  obtain ⟨⟨a1, a2, a3, a4, a5⟩, ⟨b1, b2, b3, b4⟩, c1, c2, c3, c4⟩ := h
  exact ⟨a1, a2, a3, a4, a5, b1, b2, b3, b4, c1, c2, c3, c4⟩
theorem small_of {w : Wld} (h1 : fewW w = true) (h2 : formW w = true) : Small w := by
  obtain ⟨f1, f2, f3, f4⟩ := fewW_iff h1
  obtain ⟨_, _, _, _, _, _, _, _, g, _⟩ := formW_iff h2
  exact ⟨by omega, fun s hs => by have := f2.2 s hs; omega, by omega, by omega, by omega, by omega, by omega, by omega⟩
end Go.Proofs.YthfhhciogimhjaaGreatDoor.Abs
end
section
/- What the desk's sending makes of a world. -/
set_option linter.unusedSimpArgs false
set_option linter.unusedVariables false
set_option maxRecDepth 100000
namespace Go.Proofs.YthfhhciogimhjaaGreatDoor.Abs
open Go.RowKit
end Go.Proofs.YthfhhciogimhjaaGreatDoor.Abs
end
section
/- What sealing makes of a world: plain mathematics. -/
set_option linter.unusedSimpArgs false
set_option linter.unusedVariables false
set_option maxRecDepth 100000
namespace Go.Proofs.YthfhhciogimhjaaGreatDoor.Abs
open Go.RowKit
theorem putP_ok {label : Int} {p : Prt} (h : (putP label p).2 = 0) : mayP label p = true ∧ (putP label p).1 = wordsP label p ∧ getP label (wordsP label p) = (p, 0) := by
  unfold putP at h ⊢
  split
  · rename_i hm; exact ⟨hm, rfl, of_decide_eq_true hm⟩
  · rename_i hm; rw [if_neg hm] at h; simp at h
theorem wordsP_len (label : Int) (p : Prt) : (wordsP label p).length ≤ 5 := by
  rcases label_cases label with rfl | rfl | rfl | rfl | rfl | rfl | rfl | rfl | hh <;> first | (rw [wordsP_none (by assumption)]; simp; done) | simp [wordsP]
/-- What sealing makes of a world: nothing, with an error, or an entry more. -/
theorem sealW_cases (w : Wld) (key label : Int) (p : Prt) : (∃ e, e ≠ 0 ∧ sealW w key label p = (w, 0, e)) ∨
    (getP label (wordsP label p) = (p, 0) ∧ thereB w.box.entries (drawnW w) = false ∧ (w.box.entries.length : Int) < w.box.room ∧
      sealW w key label p = ({ drawW w with box := ⟨w.box.room, w.box.entries ++ [⟨drawnW w, key, label, wordsP label p⟩]⟩ }, drawnW w, 0)) := by
  unfold sealW
  by_cases g1 : (putP label p).2 = 0
  · obtain ⟨_, e1, e2⟩ := putP_ok g1
    rw [if_neg (fun h => h g1)]
    unfold sealedW
    rw [e1]
    have hl := wordsP_len label p
    have n64 : ¬ (64 : Int) < ((wordsP label p).length : Int) := by omega
    by_cases ht : thereB w.box.entries (drawnW w) = true
    · have es : sealB w.box (drawnW w) key label (wordsP label p) = (w.box, 8) := by simp [sealB, n64, ht]
      rw [es]; exact .inl ⟨8, by decide, by simp⟩
    · by_cases hr : w.box.room ≤ (w.box.entries.length : Int)
      · have es : sealB w.box (drawnW w) key label (wordsP label p) = (w.box, 10) := by simp [sealB, n64, ht, hr]
        rw [es]; exact .inl ⟨10, by decide, by simp⟩
      · have es : sealB w.box (drawnW w) key label (wordsP label p) = (⟨w.box.room, w.box.entries ++ [⟨drawnW w, key, label, wordsP label p⟩]⟩, 0) := by simp [sealB, n64, ht, hr]
        rw [es]
        exact .inr ⟨e2, by simpa using ht, by omega, by simp⟩
  · rw [if_pos g1]; exact .inl ⟨_, g1, rfl⟩
end Go.Proofs.YthfhhciogimhjaaGreatDoor.Abs
end
section
/- What is known of small worlds that have their form, beside what is added to them. -/
set_option linter.unusedSimpArgs false
set_option linter.unusedVariables false
set_option maxRecDepth 100000
namespace Go.Proofs.YthfhhciogimhjaaGreatDoor.Abs
open Go.RowKit
theorem smallN_of {w : Wld} {N : Nat} (hN : N ≤ 1000) (h1 : fewW w = true) (h2 : formW w = true) : SmallN N w := by
  obtain ⟨f1, f2, f3, f4⟩ := fewW_iff h1
  obtain ⟨_, _, _, _, _, _, _, _, g, _⟩ := formW_iff h2
  exact ⟨by omega, fun s hs => by have := f2.2 s hs; omega, by omega, by omega, by omega, by omega, by omega, by omega⟩
theorem person_in (w : Wld) (n : Int) : personW w n = person0 ∨ personW w n ∈ w.people := by
  unfold personW getPl
  cases hf : w.people.find? (fun p => p.name == n) with
  | none => exact .inl rfl
  | some p => exact .inr (List.mem_of_find?_eq_some hf)
theorem person_used {w : Wld} (h : formW w = true) (n : Int) : (personW w n).used.length ≤ 64 ∧ (personW w n).runs.length ≤ 64 := by
  obtain ⟨a1, _, _, _, _, _, _, _, _, c1, _⟩ := formW_iff h
  unfold mayC roomB at a1
  simp only [Bool.and_eq_true, decide_eq_true_eq] at a1
  rcases person_in w n with e | e
  · rw [e]; simp [person0]
  · have := List.all_eq_true.1 c1 _ e
    unfold personB at this
    simp only [Bool.and_eq_true, decide_eq_true_eq] at this
    have hu := this.1
    have hr := this.2.1
    unfold usedR at hu
    unfold runsR at hr
    simp only [Bool.and_eq_true, decide_eq_true_eq] at hu hr
    omega
end Go.Proofs.YthfhhciogimhjaaGreatDoor.Abs
end
section
/- Of boxes: what is sealed, and opened. -/
set_option linter.unusedSimpArgs false
set_option linter.unusedVariables false
set_option maxRecDepth 100000
namespace Go.Proofs.YthfhhciogimhjaaGreatDoor.Abs
open Go.RowKit
theorem right_snoc {r : Int} {es : List Sealed} {s : Sealed} (h : rightB ⟨r, es⟩ = true) (hr : (es.length : Int) < r) (hp : s.plain.length ≤ 64) (ht : thereB es s.handle = false) : rightB ⟨r, es ++ [s]⟩ = true := by
  obtain ⟨h1, h2, h3, h4⟩ := right_room h
  unfold rightB
  rw [Bool.and_eq_true]
  refine ⟨decide_eq_true ⟨h1, h2, by simp only [List.length_append, List.length_singleton]; omega⟩, entriesB_iff.2 fun i x hx => ?_⟩
  simp only at h1 h2 h3 h4 hx ⊢
  by_cases hi : i < es.length
  · rw [List.getElem?_append_left hi] at hx
    rw [List.take_append_of_le_length (by omega)]
    exact h4 i x hx
  · rw [List.getElem?_append_right (by omega)] at hx
    have hi' : i = es.length := by
      rcases Nat.lt_or_ge (i - es.length) 1 with h | h
      · omega
      · rw [List.getElem?_eq_none (by simpa using h)] at hx; simp at hx
    subst hi'
    simp at hx
    subst hx
    rw [List.take_append_of_le_length (Nat.le_refl _), List.take_length]
    exact ⟨by omega, ht⟩
end Go.Proofs.YthfhhciogimhjaaGreatDoor.Abs
end
section
/- A world's pieces are right, and its lists short, by so much; and what is done with it keeps that. Plain mathematics: what the landed servers and principals lean on. -/
set_option linter.unusedSimpArgs false
set_option linter.unusedVariables false
set_option maxRecDepth 100000
namespace Go.Proofs.YthfhhciogimhjaaGreatDoor.Abs
open Go.RowKit
structure Good (N : Nat) (w : Wld) : Prop where
  small : SmallN N w
  box : rightB w.box = true
  net : rightN w.net = true
  ppl : rightPl w.people = true
  few : N ≤ 1000
  lists : ∀ p ∈ w.people, p.used.length + N ≤ 1000 ∧ p.runs.length + N ≤ 1000
theorem Good.of {N : Nat} {w : Wld} (hf : formW w = true) (h : SmallN N w) (hN : N ≤ 900) : Good N w := by
  obtain ⟨hm, a2, _, a4, _, a6, _, _, _, hp, _⟩ := formW_iff hf
  refine ⟨h, a2, a4, a6, by omega, fun p hi => ?_⟩
  have := List.all_eq_true.1 hp p hi
  simp only [personB, usedR, runsR, Bool.and_eq_true, decide_eq_true_eq] at this
  simp only [mayC, roomB, Bool.and_eq_true, decide_eq_true_eq] at hm
  omega
theorem Good.person {N : Nat} {w : Wld} (h : Good N w) (n : Int) : (personW w n).used.length + N ≤ 1000 ∧ (personW w n).runs.length + N ≤ 1000 := by
  rcases person_in w n with e | e
  · rw [e]; have := h.few; exact ⟨by show 0 + N ≤ 1000; omega, by show 0 + N ≤ 1000; omega⟩
  · exact h.lists _ e
theorem Good.less {N M : Nat} {w : Wld} (h : Good N w) (hm : M ≤ N) : Good M w := ⟨h.small.less hm, h.box, h.net, h.ppl, by have := h.few; omega, fun p hp => by have := h.lists p hp; omega⟩
theorem Good.draw {N : Nat} {w : Wld} (h : Good (N + 1) w) : Good N (drawW w) := ⟨h.small.draw, h.box, h.net, h.ppl, by have := h.few; omega, fun p hp => by have := h.lists p hp; omega⟩
theorem Good.sealS {N : Nat} {w : Wld} (h : Good (N + 1) w) (key label : Int) (p : Prt) : Good N (sealW w key label p).1 := by
  have hs := h.small.sealS key label p
  rcases sealW_cases w key label p with ⟨e, _, he⟩ | ⟨_, ht, hr, he⟩
  · rw [he] at hs ⊢
    exact ⟨hs, h.box, h.net, h.ppl, by have := h.few; omega, fun p hp => by have := h.lists p hp; omega⟩
  · rw [he] at hs ⊢
    have hl := wordsP_len label p
    exact ⟨hs, right_snoc (s := ⟨drawnW w, key, label, wordsP label p⟩) h.box hr (by show (wordsP label p).length ≤ 64; omega) ht, h.net, h.ppl, by have := h.few; omega, fun p hp => by have := h.lists p hp; omega⟩
theorem rightPl_map {l : List Person} (h : rightPl l = true) (f : Person → Person) (hf : ∀ p ∈ l, (f p).name = p.name) : rightPl (l.map f) = true := by
  unfold rightPl at h ⊢
  rw [Bool.and_eq_true, decide_eq_true_eq] at h ⊢
  refine ⟨namesB_iff.2 fun k y hk => ?_, by simpa using h.2⟩
  rw [List.getElem?_map] at hk
  cases hx : l[k]? with
  | none => rw [hx] at hk; cases hk
  | some x =>
    rw [hx] at hk
    cases hk
    rw [hf x (List.mem_of_getElem? hx)]
    exact namesB_iff.1 h.1 k x hx
theorem Good.with_ {N : Nat} {w : Wld} (h : Good N w) (p : Person) (hp : p.used.length + N ≤ 1000 ∧ p.runs.length + N ≤ 1000) : Good N (withW w p) := by
  have hs := h.small.with_ p
  unfold withW at hs ⊢
  split
  · rename_i hz
    rw [if_pos hz] at hs
    refine ⟨hs, h.box, h.net, rightPl_map h.ppl _ fun q hq => ?_, h.few, fun q hq => ?_⟩
    · split
      · rename_i e; exact e.symm
      · rfl
    · obtain ⟨r, hr, rfl⟩ := List.mem_map.1 hq
      split
      · exact hp
      · exact h.lists r hr
  · exact h
theorem Good.log_ {N : Nat} {w : Wld} (h : Good (N + 1) w) (e : Event) : Good N (logW w e) := ⟨h.small.log_ e, h.box, h.net, h.ppl, by have := h.few; omega, fun p hp => by have := h.lists p hp; omega⟩
/-- What a seal leaves as it was. -/
theorem sealW_rest (w : Wld) (key label : Int) (p : Prt) : (sealW w key label p).1.people = w.people ∧ (sealW w key label p).1.conf = w.conf ∧ (sealW w key label p).1.net = w.net ∧ (sealW w key label p).1.log = w.log := by
  rcases sealW_cases w key label p with ⟨e, _, he⟩ | ⟨_, _, _, he⟩
  · rw [he]; exact ⟨rfl, rfl, rfl, rfl⟩
  · rw [he]; exact ⟨rfl, rfl, rfl, rfl⟩
theorem sealW_person (w : Wld) (key label : Int) (p : Prt) (n : Int) : personW (sealW w key label p).1 n = personW w n := by
  unfold personW; rw [(sealW_rest w key label p).1]
end Go.Proofs.YthfhhciogimhjaaGreatDoor.Abs
end
section
/- The landed kso, over values without addresses: what is asked, what is opened, and each step. -/
set_option linter.unusedSimpArgs false
set_option linter.unusedVariables false
set_option maxRecDepth 100000
namespace Go.Proofs.YthfhhciogimhjaaGreatDoor.Abs
open Go.RowKit
/-- A share under way. -/
structure Wk14 where
  w : Wld
  m : Mssg
  na : Int
  nb : Int
  k : Int
  a : Int
  b : Int
def eWk14 (s : Wk14) : List CV := [u32 s.w.conf.window, i64 s.w.conf.people, i64 s.w.conf.box, i64 s.w.conf.used, i64 s.w.conf.runs, i64 s.w.conf.net, i64 s.w.conf.regs, eWords s.w.draws.list, i64 s.w.draws.next, i64 s.w.box.room, eSealeds s.w.box.entries, i64 s.w.net.room, eGrams s.w.net.grams, eRows s.w.net.seen, ePeople s.w.people, eEvents s.w.log, eRows s.w.regs, eLeaks s.w.leaks, u32 s.m.kind, u32 s.m.run, u32 s.m.a, u32 s.m.b, u32 s.m.nonce, u32 s.m.box, u32 s.m.more, u32 s.na, u32 s.nb, u32 s.k, u32 s.a, u32 s.b]
def openC (w : Wld) (m : Mssg) (name label handle : Int) : Int × Int := if ((openW w (personW w name).key label handle).2 && namesIt (openW w (personW w name).key label handle).1 m) = true then ((openW w (personW w name).key label handle).1.n, 0) else (0, 6)
theorem with_clock (w : Wld) (x : Int) : (personW (withW w (notedP (personW w 0) x)) 0).clock = (personW w 0).clock := by
  unfold personW withW getPl setPl
  cases hf : w.people.find? (fun p => p.name == 0) with
  | none =>
    have hn : w.people.any (fun q => q.name == (notedP person0 x).name) = false := by
      rw [List.find?_eq_none] at hf
      rw [List.any_eq_false]
      intro q hq
      exact hf q hq
    simp only [hn]
    rw [if_neg (by decide), hf]
  | some p =>
    have hp : (p.name == 0) = true := List.find?_some (p := fun (p : Person) => p.name == 0) hf
    have hp' : p.name = 0 := by simpa using hp
    have ha : w.people.any (fun q => q.name == (notedP p x).name) = true := List.any_eq_true.2 ⟨p, List.mem_of_find?_eq_some hf, by simp [notedP]⟩
    simp only [ha]
    rw [if_pos (by decide)]
    simp only [List.find?_map]
    have hg : ((fun (p : Person) => p.name == 0) ∘ fun q => if q.name = (notedP p x).name then notedP p x else q) = fun q => q.name == 0 := by
      funext q
      simp only [Function.comp]
      by_cases hq : q.name = (notedP p x).name
      · rw [if_pos hq, show q.name = p.name from hq]; rfl
      · rw [if_neg hq]
    rw [hg, hf]
    show (if p.name = p.name then notedP p x else p).clock = p.clock
    rw [if_pos rfl]
    rfl
set_option maxHeartbeats 4000000 in
theorem p14_open (b : Nat) (s : Wk14) (name label handle : Int) (h : Good 1 s.w) : ACalls Tryz.prog 74 [.one (rawV b 0), .one (u32 name), .one (u32 label), .one (u32 handle)]
    (.bx [(b, .cells (eWk14 s))] [(b, .cells (eWk14 s))] [.one (u32 (openC s.w s.m name label handle).1), .one (i64 (openC s.w s.m name label handle).2)]) := by
  refine ACalls.introX (fn := Tryz.f74) Tryz.func74 rfl rfl (by simp [Tryz.f74]) ?_
  have c1 := p12_person s.w name ⟨by have := (h.person name).1; omega, by have := (h.person name).2; omega⟩ h.ppl
  have c2 := p12_open s.w (personW s.w name).key label handle h.box
  unfold openC
  clear h
  obtain ⟨w, m, na, nb, k, sa, sb⟩ := s
  unfold Tryz.f74
  simp only at c1 c2 ⊢
  generalize personW w name = P at *
  generalize openW w P.key label handle = fa at *
  obtain ⟨p, ok⟩ := fa
  dsimp only at *
  generalize hc : (ok && namesIt p m) = c at *
  have hcase : (ok = false ∧ c = false) ∨ (ok = true ∧ (p.m != m.run) = true ∧ c = false) ∨ (ok = true ∧ (p.m != m.run) = false ∧ (p.a != m.a) = true ∧ c = false) ∨ (ok = true ∧ (p.m != m.run) = false ∧ (p.a != m.a) = false ∧ (p.b != m.b) = true ∧ c = false) ∨ (ok = true ∧ (p.m != m.run) = false ∧ (p.a != m.a) = false ∧ (p.b != m.b) = false ∧ c = true) := by
    subst hc
    unfold namesIt
    cases ok
    · exact .inl ⟨rfl, rfl⟩
    by_cases e1 : p.m = m.run
    rotate_left
    · exact .inr (.inl ⟨rfl, by simp [e1], by simp [e1]⟩)
    by_cases e2 : p.a = m.a
    rotate_left
    · exact .inr (.inr (.inl ⟨rfl, by simp [e1], by simp [e2], by simp [e2]⟩))
    by_cases e3 : p.b = m.b
    rotate_left
    · exact .inr (.inr (.inr (.inl ⟨rfl, by simp [e1], by simp [e2], by simp [e3], by simp [e3]⟩)))
    exact .inr (.inr (.inr (.inr ⟨rfl, by simp [e1], by simp [e2], by simp [e3], by simp [e1, e2, e3]⟩)))
  clear hc
  simp only [rawV, insOf, setBs, eWk14, ePrt, ePerson, eWld, eSealeds, eGrams, ePeople, eEvents, eRows, eWords, eLeaks, eRuns] at *
  rcases hcase with ⟨rfl, rfl⟩ | ⟨rfl, d1, rfl⟩ | ⟨rfl, d1, d2, rfl⟩ | ⟨rfl, d1, d2, d3, rfl⟩ | ⟨rfl, d1, d2, d3, rfl⟩
  · rw [if_neg (by decide)]
    refine wk0 trivial (And.intro c1 c2) trivial
    all_goals simp only [go_sem, ↓reduceIte, reduceCtorEq, Nat.reduceLT, Nat.reduceEqDiff, Nat.reduceBEq, Nat.reduceAdd, Nat.reduceSub, Nat.reduceMul, Nat.reduceLeDiff, Int.reduceLE, Int.reduceLT, Int.reduceNeg, Int.reduceEq, Int.reduceBEq, Int.reduceBNe, Int.reduceToNat]
  · rw [if_neg (by decide)]
    refine wk0 d1 (And.intro c1 c2) trivial
    all_goals simp only [go_sem, ↓reduceIte, reduceCtorEq, Nat.reduceLT, Nat.reduceEqDiff, Nat.reduceBEq, Nat.reduceAdd, Nat.reduceSub, Nat.reduceMul, Nat.reduceLeDiff, Int.reduceLE, Int.reduceLT, Int.reduceNeg, Int.reduceEq, Int.reduceBEq, Int.reduceBNe, Int.reduceToNat]
  · rw [if_neg (by decide)]
    refine wk0 (And.intro d1 d2) (And.intro c1 c2) trivial
    all_goals simp only [go_sem, ↓reduceIte, reduceCtorEq, Nat.reduceLT, Nat.reduceEqDiff, Nat.reduceBEq, Nat.reduceAdd, Nat.reduceSub, Nat.reduceMul, Nat.reduceLeDiff, Int.reduceLE, Int.reduceLT, Int.reduceNeg, Int.reduceEq, Int.reduceBEq, Int.reduceBNe, Int.reduceToNat]
  · rw [if_neg (by decide)]
    refine wk0 (And.intro d1 (And.intro d2 d3)) (And.intro c1 c2) trivial
    all_goals simp only [go_sem, ↓reduceIte, reduceCtorEq, Nat.reduceLT, Nat.reduceEqDiff, Nat.reduceBEq, Nat.reduceAdd, Nat.reduceSub, Nat.reduceMul, Nat.reduceLeDiff, Int.reduceLE, Int.reduceLT, Int.reduceNeg, Int.reduceEq, Int.reduceBEq, Int.reduceBNe, Int.reduceToNat]
  · rw [if_pos rfl]
    refine wk0 (And.intro d1 (And.intro d2 d3)) (And.intro c1 c2) trivial
    all_goals simp only [go_sem, ↓reduceIte, reduceCtorEq, Nat.reduceLT, Nat.reduceEqDiff, Nat.reduceBEq, Nat.reduceAdd, Nat.reduceSub, Nat.reduceMul, Nat.reduceLeDiff, Int.reduceLE, Int.reduceLT, Int.reduceNeg, Int.reduceEq, Int.reduceBEq, Int.reduceBNe, Int.reduceToNat]
set_option maxHeartbeats 4000000 in
theorem p14_sealFor (b : Nat) (s : Wk14) (name label nonce : Int) (v : Wld × Int × Int) (hv : sealW s.w (personW s.w name).key label ⟨nonce, 0, 0, 0, s.k, 0, 0⟩ = v) (h : Good 1 s.w) : ACalls Tryz.prog 79 [.one (rawV b 0), .one (u32 name), .one (u32 label), .one (u32 nonce)]
    (.bx [(b, .cells (eWk14 s))] [(b, .cells (eWk14 { s with w := v.1 }))] [.one (u32 v.2.1), .one (i64 v.2.2)]) := by
  refine ACalls.introX (fn := Tryz.f79) Tryz.func79 rfl rfl (by simp [Tryz.f79]) ?_
  have c1 := p12_person s.w name ⟨by have := (h.person name).1; omega, by have := (h.person name).2; omega⟩ h.ppl
  have c2 := p12_seal s.w (personW s.w name).key label ⟨nonce, 0, 0, 0, s.k, 0, 0⟩ h.small.small h.box
  rw [hv] at c2
  clear h hv
  obtain ⟨w, m, na, nb, k, sa, sb⟩ := s
  unfold Tryz.f79
  simp only at c1 c2
  generalize personW w name = P at *
  simp only [rawV, insOf, setBs, eWk14, eWld, ePrt, ePerson, eSealeds, eGrams, ePeople, eEvents, eRows, eWords, eLeaks, eRuns] at *
  refine wk0 trivial (And.intro c1 c2) trivial
  all_goals simp only [go_sem, ↓reduceIte, reduceCtorEq, Nat.reduceLT, Nat.reduceEqDiff, Nat.reduceBEq, Nat.reduceAdd, Nat.reduceSub, Nat.reduceMul, Nat.reduceLeDiff, Int.reduceLE, Int.reduceLT, Int.reduceNeg, Int.reduceEq, Int.reduceBEq, Int.reduceBNe, Int.reduceToNat]
set_option maxHeartbeats 4000000 in
theorem p14_checkNames (b : Nat) (s : Wk14) (h : Good 1 s.w) : ACalls Tryz.prog 45 [.one (rawV b 0)]
    (.bx [(b, .cells (eWk14 s))] [(b, .cells (eWk14 s))] [.one (i64 (if pairPl s.w.people s.m.a s.m.b = false then 5 else 0))]) := by
  refine ACalls.introX (fn := Tryz.f45) Tryz.func45 rfl rfl (by simp [Tryz.f45]) ?_
  have c1 := p10_pair s.w.people s.m.a s.m.b h.ppl
  simp only [rB] at c1
  clear h
  obtain ⟨w, m, na, nb, k, sa, sb⟩ := s
  unfold Tryz.f45
  simp only at c1 ⊢
  generalize pairPl w.people m.a m.b = pr at *
  simp only [rawV, insOf, setBs, eWk14, eWld, ePrt, ePerson, eSealeds, eGrams, ePeople, eEvents, eRows, eWords, eLeaks, eRuns] at *
  cases pr
  · rw [if_pos rfl]
    refine wk0 trivial c1 trivial
    all_goals simp only [go_sem, ↓reduceIte, reduceCtorEq, Nat.reduceLT, Nat.reduceEqDiff, Nat.reduceBEq, Nat.reduceAdd, Nat.reduceSub, Nat.reduceMul, Nat.reduceLeDiff, Int.reduceLE, Int.reduceLT, Int.reduceNeg, Int.reduceEq, Int.reduceBEq, Int.reduceBNe, Int.reduceToNat]
  · rw [if_neg (by decide)]
    refine wk0 trivial c1 trivial
    all_goals simp only [go_sem, ↓reduceIte, reduceCtorEq, Nat.reduceLT, Nat.reduceEqDiff, Nat.reduceBEq, Nat.reduceAdd, Nat.reduceSub, Nat.reduceMul, Nat.reduceLeDiff, Int.reduceLE, Int.reduceLT, Int.reduceNeg, Int.reduceEq, Int.reduceBEq, Int.reduceBNe, Int.reduceToNat]
set_option maxHeartbeats 4000000 in
theorem p14_checkRoom (b : Nat) (s : Wk14) (h : Good 1 s.w) : ACalls Tryz.prog 49 [.one (rawV b 0)]
    (.bx [(b, .cells (eWk14 s))] [(b, .cells (eWk14 s))] [.one (i64 (if roomW s.w 2 1 = false then 10 else 0))]) := by
  refine ACalls.introX (fn := Tryz.f49) Tryz.func49 rfl rfl (by simp [Tryz.f49]) ?_
  have c1 := p12_room s.w 2 1 h.box h.net
  simp only [rB] at c1
  clear h
  obtain ⟨w, m, na, nb, k, sa, sb⟩ := s
  unfold Tryz.f49
  simp only at c1 ⊢
  generalize roomW w 2 1 = pr at *
  simp only [rawV, insOf, setBs, eWk14, eWld, ePrt, ePerson, eSealeds, eGrams, ePeople, eEvents, eRows, eWords, eLeaks, eRuns] at *
  cases pr
  · rw [if_pos rfl]
    refine wk0 trivial c1 trivial
    all_goals simp only [go_sem, ↓reduceIte, reduceCtorEq, Nat.reduceLT, Nat.reduceEqDiff, Nat.reduceBEq, Nat.reduceAdd, Nat.reduceSub, Nat.reduceMul, Nat.reduceLeDiff, Int.reduceLE, Int.reduceLT, Int.reduceNeg, Int.reduceEq, Int.reduceBEq, Int.reduceBNe, Int.reduceToNat]
  · rw [if_neg (by decide)]
    refine wk0 trivial c1 trivial
    all_goals simp only [go_sem, ↓reduceIte, reduceCtorEq, Nat.reduceLT, Nat.reduceEqDiff, Nat.reduceBEq, Nat.reduceAdd, Nat.reduceSub, Nat.reduceMul, Nat.reduceLeDiff, Int.reduceLE, Int.reduceLT, Int.reduceNeg, Int.reduceEq, Int.reduceBEq, Int.reduceBNe, Int.reduceToNat]
set_option maxHeartbeats 4000000 in
theorem p14_checkRun (b : Nat) (s : Wk14) (h : Good 1 s.w) : ACalls Tryz.prog 48 [.one (rawV b 0)]
    (.bx [(b, .cells (eWk14 s))] [(b, .cells (eWk14 s))] [.one (i64 (mayU (personW s.w 0).used s.w.conf.used s.m.run))]) := by
  refine ACalls.introX (fn := Tryz.f48) Tryz.func48 rfl rfl (by simp [Tryz.f48]) ?_
  have c1 := p12_person s.w 0 ⟨by have := (h.person 0).1; omega, by have := (h.person 0).2; omega⟩ h.ppl
  have c2 := p08_may 0 (personW s.w 0).used s.w.conf.used s.m.run
  clear h
  obtain ⟨w, m, na, nb, k, sa, sb⟩ := s
  unfold Tryz.f48
  simp only [rI] at c1 c2 ⊢
  generalize mayU (personW w 0).used w.conf.used m.run = mu at *
  generalize personW w 0 = P at *
  simp only [rawV, insOf, setBs, eWk14, eWld, ePrt, ePerson, eSealeds, eGrams, ePeople, eEvents, eRows, eWords, eLeaks, eRuns] at *
  refine wk0 trivial (And.intro c1 c2) trivial
  all_goals simp only [go_sem, ↓reduceIte, reduceCtorEq, Nat.reduceLT, Nat.reduceEqDiff, Nat.reduceBEq, Nat.reduceAdd, Nat.reduceSub, Nat.reduceMul, Nat.reduceLeDiff, Int.reduceLE, Int.reduceLT, Int.reduceNeg, Int.reduceEq, Int.reduceBEq, Int.reduceBNe, Int.reduceToNat]
set_option maxHeartbeats 4000000 in
theorem p14_openFirst (b : Nat) (s : Wk14) (v : Int × Int) (hv : openC s.w s.m s.m.a 6 s.m.box = v) (h : Good 1 s.w) : ACalls Tryz.prog 46 [.one (rawV b 0)]
    (.bx [(b, .cells (eWk14 s))] [(b, .cells (eWk14 { s with na := v.1 }))] [.one (i64 v.2)]) := by
  refine ACalls.introX (fn := Tryz.f46) Tryz.func46 rfl rfl (by simp [Tryz.f46]) ?_
  have c1 := p14_open b s s.m.a 6 s.m.box h
  rw [hv] at c1
  clear h hv
  obtain ⟨w, m, na, nb, k, sa, sb⟩ := s
  unfold Tryz.f46
  simp only [rawV, insOf, setBs, eWk14, eWld, eSealeds, eGrams, ePeople, eEvents, eRows, eWords, eLeaks] at *
  refine wk0 trivial c1 trivial
  all_goals simp only [go_sem, ↓reduceIte, reduceCtorEq, Nat.reduceLT, Nat.reduceEqDiff, Nat.reduceBEq, Nat.reduceAdd, Nat.reduceSub, Nat.reduceMul, Nat.reduceLeDiff, Int.reduceLE, Int.reduceLT, Int.reduceNeg, Int.reduceEq, Int.reduceBEq, Int.reduceBNe, Int.reduceToNat]
set_option maxHeartbeats 4000000 in
theorem p14_openSecond (b : Nat) (s : Wk14) (v : Int × Int) (hv : openC s.w s.m s.m.b 7 s.m.more = v) (h : Good 1 s.w) : ACalls Tryz.prog 47 [.one (rawV b 0)]
    (.bx [(b, .cells (eWk14 s))] [(b, .cells (eWk14 { s with nb := v.1 }))] [.one (i64 v.2)]) := by
  refine ACalls.introX (fn := Tryz.f47) Tryz.func47 rfl rfl (by simp [Tryz.f47]) ?_
  have c1 := p14_open b s s.m.b 7 s.m.more h
  rw [hv] at c1
  clear h hv
  obtain ⟨w, m, na, nb, k, sa, sb⟩ := s
  unfold Tryz.f47
  simp only [rawV, insOf, setBs, eWk14, eWld, eSealeds, eGrams, ePeople, eEvents, eRows, eWords, eLeaks] at *
  refine wk0 trivial c1 trivial
  all_goals simp only [go_sem, ↓reduceIte, reduceCtorEq, Nat.reduceLT, Nat.reduceEqDiff, Nat.reduceBEq, Nat.reduceAdd, Nat.reduceSub, Nat.reduceMul, Nat.reduceLeDiff, Int.reduceLE, Int.reduceLT, Int.reduceNeg, Int.reduceEq, Int.reduceBEq, Int.reduceBNe, Int.reduceToNat]
set_option maxHeartbeats 4000000 in
theorem p14_sealShareB (b : Nat) (s : Wk14) (v : Wld × Int × Int) (hv : sealW s.w (personW s.w s.m.b).key 8 ⟨s.nb, 0, 0, 0, s.k, 0, 0⟩ = v) (h : Good 1 s.w) : ACalls Tryz.prog 51 [.one (rawV b 0)]
    (.bx [(b, .cells (eWk14 s))] [(b, .cells (eWk14 { s with w := v.1, b := v.2.1 }))] [.one (i64 v.2.2)]) := by
  refine ACalls.introX (fn := Tryz.f51) Tryz.func51 rfl rfl (by simp [Tryz.f51]) ?_
  have c1 := p14_sealFor b s s.m.b 8 s.nb v hv h
  clear h hv
  obtain ⟨w, m, na, nb, k, sa, sb⟩ := s
  unfold Tryz.f51
  simp only [rawV, insOf, setBs, eWk14, eWld, eSealeds, eGrams, ePeople, eEvents, eRows, eWords, eLeaks] at *
  refine wk0 trivial c1 trivial
  all_goals simp only [go_sem, ↓reduceIte, reduceCtorEq, Nat.reduceLT, Nat.reduceEqDiff, Nat.reduceBEq, Nat.reduceAdd, Nat.reduceSub, Nat.reduceMul, Nat.reduceLeDiff, Int.reduceLE, Int.reduceLT, Int.reduceNeg, Int.reduceEq, Int.reduceBEq, Int.reduceBNe, Int.reduceToNat]
set_option maxHeartbeats 4000000 in
theorem p14_sealShareA (b : Nat) (s : Wk14) (v : Wld × Int × Int) (hv : sealW s.w (personW s.w s.m.a).key 9 ⟨s.na, 0, 0, 0, s.k, 0, 0⟩ = v) (h : Good 1 s.w) : ACalls Tryz.prog 52 [.one (rawV b 0)]
    (.bx [(b, .cells (eWk14 s))] [(b, .cells (eWk14 { s with w := v.1, a := v.2.1 }))] [.one (i64 v.2.2)]) := by
  refine ACalls.introX (fn := Tryz.f52) Tryz.func52 rfl rfl (by simp [Tryz.f52]) ?_
  have c1 := p14_sealFor b s s.m.a 9 s.na v hv h
  clear h hv
  obtain ⟨w, m, na, nb, k, sa, sb⟩ := s
  unfold Tryz.f52
  simp only [rawV, insOf, setBs, eWk14, eWld, eSealeds, eGrams, ePeople, eEvents, eRows, eWords, eLeaks] at *
  refine wk0 trivial c1 trivial
  all_goals simp only [go_sem, ↓reduceIte, reduceCtorEq, Nat.reduceLT, Nat.reduceEqDiff, Nat.reduceBEq, Nat.reduceAdd, Nat.reduceSub, Nat.reduceMul, Nat.reduceLeDiff, Int.reduceLE, Int.reduceLT, Int.reduceNeg, Int.reduceEq, Int.reduceBEq, Int.reduceBNe, Int.reduceToNat]
set_option maxHeartbeats 4000000 in
theorem p14_drawKey (b : Nat) (s : Wk14) (h : 0 ≤ s.w.draws.next ∧ s.w.draws.next < 1000000000) : ACalls Tryz.prog 50 [.one (rawV b 0)]
    (.bx [(b, .cells (eWk14 s))] [(b, .cells (eWk14 { s with w := drawW s.w, k := drawnW s.w }))] []) := by
  refine ACalls.introX (fn := Tryz.f50) Tryz.func50 rfl rfl (by simp [Tryz.f50]) ?_
  have c1 := p12_draw s.w h
  clear h
  obtain ⟨w, m, na, nb, k, sa, sb⟩ := s
  unfold Tryz.f50
  simp only at c1
  generalize hv : drawW w = v at *
  generalize drawnW w = d at *
  simp only [rawV, insOf, setBs, eWk14, eWld, eSealeds, eGrams, ePeople, eEvents, eRows, eWords, eLeaks] at *
  refine wk4 trivial c1 trivial _ _ _ _ ?_ ?_ ?_ ?_
  all_goals (repeat intro h)
  all_goals refine ⟨?_⟩
  all_goals simp only [go_sem, ↓reduceIte, reduceCtorEq, Nat.reduceLT, Nat.reduceEqDiff, Nat.reduceBEq, Nat.reduceAdd, Nat.reduceSub, Nat.reduceMul, Nat.reduceLeDiff, Int.reduceLE, Int.reduceLT, Int.reduceNeg, Int.reduceEq, Int.reduceBEq, Int.reduceBNe, Int.reduceToNat]
set_option maxHeartbeats 4000000 in
theorem p14_noteRun (b : Nat) (s : Wk14) (h0 : mayU (personW s.w 0).used s.w.conf.used s.m.run = 0) (h : Good 1 s.w) : ACalls Tryz.prog 53 [.one (rawV b 0)]
    (.bx [(b, .cells (eWk14 s))] [(b, .cells (eWk14 { s with w := withW s.w (notedP (personW s.w 0) s.m.run) }))] [.one (i64 0)]) := by
  refine ACalls.introX (fn := Tryz.f53) Tryz.func53 rfl rfl (by simp [Tryz.f53]) ?_
  have hp := h.person 0
  have c1 := p12_person s.w 0 ⟨by omega, by omega⟩ h.ppl
  have c2 := p08_note 0 (personW s.w 0).used s.w.conf.used s.m.run (by omega)
  have c3 := p12_with s.w (notedP (personW s.w 0) s.m.run) ⟨by show ((personW s.w 0).used ++ [s.m.run]).length ≤ _; simp only [List.length_append, List.length_singleton]; omega, by show (personW s.w 0).runs.length ≤ _; omega⟩ h.ppl
  unfold noteC at c2
  rw [if_pos h0, h0] at c2
  clear h h0 hp
  obtain ⟨w, m, na, nb, k, sa, sb⟩ := s
  unfold Tryz.f53
  simp only at c1 c2 c3
  generalize personW w 0 = P at *
  generalize withW w (notedP P m.run) = v at *
  simp only [rawV, insOf, setBs, eWk14, eWld, notedP, ePerson, eMssg, eSealeds, eGrams, ePeople, eEvents, eRows, eWords, eLeaks, eRuns, List.map_append, List.map_cons, List.map_nil] at *
  refine wk0 trivial (And.intro c1 (And.intro c2 c3)) trivial
  all_goals simp only [go_sem, ↓reduceIte, reduceCtorEq, Nat.reduceLT, Nat.reduceEqDiff, Nat.reduceBEq, Nat.reduceAdd, Nat.reduceSub, Nat.reduceMul, Nat.reduceLeDiff, Int.reduceLE, Int.reduceLT, Int.reduceNeg, Int.reduceEq, Int.reduceBEq, Int.reduceBNe, Int.reduceToNat]
set_option maxHeartbeats 4000000 in
theorem p14_logIssue (b : Nat) (s : Wk14) (v : Wld) (t : Int) (ht : (personW s.w 0).clock = t) (hv : logW s.w ⟨2, 2, 0, s.m.a, s.m.b, s.k, 0, s.m.run, 0, t⟩ = v) (h : Good 1 s.w) : ACalls Tryz.prog 54 [.one (rawV b 0)]
    (.bx [(b, .cells (eWk14 s))] [(b, .cells (eWk14 { s with w := v }))] []) := by
  refine ACalls.introX (fn := Tryz.f54) Tryz.func54 rfl rfl (by simp [Tryz.f54]) ?_
  have c1 := p12_person s.w 0 ⟨by have := (h.person 0).1; omega, by have := (h.person 0).2; omega⟩ h.ppl
  have c2 := p12_log s.w ⟨2, 2, 0, s.m.a, s.m.b, s.k, 0, s.m.run, 0, t⟩ h.small.small.log
  rw [hv] at c2
  rw [<- ht] at c2
  clear h hv ht
  obtain ⟨w, m, na, nb, k, sa, sb⟩ := s
  unfold Tryz.f54
  simp only at c1 c2
  generalize personW w 0 = P at *
  simp only [rawV, insOf, setBs, eWk14, eWld, eEvent, ePerson, eMssg, eSealeds, eGrams, ePeople, eEvents, eRows, eWords, eLeaks, eRuns] at *
  refine wk4 trivial (And.intro c1 c2) trivial _ _ _ _ ?_ ?_ ?_ ?_
  all_goals (repeat intro h)
  all_goals refine ⟨?_⟩
  all_goals simp only [go_sem, ↓reduceIte, reduceCtorEq, Nat.reduceLT, Nat.reduceEqDiff, Nat.reduceBEq, Nat.reduceAdd, Nat.reduceSub, Nat.reduceMul, Nat.reduceLeDiff, Int.reduceLE, Int.reduceLT, Int.reduceNeg, Int.reduceEq, Int.reduceBEq, Int.reduceBNe, Int.reduceToNat]
set_option maxHeartbeats 4000000 in
theorem p14_send (b : Nat) (s : Wk14) (v : Wld × Int) (hv : sendW s.w s.m.b ⟨8, s.m.run, 0, 0, 0, s.a, s.b⟩ = v) (h : Good 1 s.w) : ACalls Tryz.prog 55 [.one (rawV b 0)]
    (.bx [(b, .cells (eWk14 s))] [(b, .cells (eWk14 { s with w := v.1 }))] [.one (i64 v.2)]) := by
  refine ACalls.introX (fn := Tryz.f55) Tryz.func55 rfl rfl (by simp [Tryz.f55]) ?_
  have c1 := p12_send s.w s.m.b ⟨8, s.m.run, 0, 0, 0, s.a, s.b⟩ h.net h.small.small.grams h.small.small.seen
  rw [hv] at c1
  clear h hv
  obtain ⟨w, m, na, nb, k, sa, sb⟩ := s
  unfold Tryz.f55
  simp only [rawV, insOf, setBs, eWk14, eMssg, eWld, eSealeds, eGrams, ePeople, eEvents, eRows, eWords, eLeaks] at *
  refine wk0 trivial c1 trivial
  all_goals simp only [go_sem, ↓reduceIte, reduceCtorEq, Nat.reduceLT, Nat.reduceEqDiff, Nat.reduceBEq, Nat.reduceAdd, Nat.reduceSub, Nat.reduceMul, Nat.reduceLeDiff, Int.reduceLE, Int.reduceLT, Int.reduceNeg, Int.reduceEq, Int.reduceBEq, Int.reduceBNe, Int.reduceToNat]
end Go.Proofs.YthfhhciogimhjaaGreatDoor.Abs
end
section
/- The landed kso, over values without addresses: its steps one behind the other, and Share. -/
set_option linter.unusedSimpArgs false
set_option linter.unusedVariables false
set_option maxRecDepth 100000
namespace Go.Proofs.YthfhhciogimhjaaGreatDoor.Abs
open Go.RowKit
def nextC14 (b : Nat) : Option FuncId → CV
  | none => .v .nilFunc
  | some g => .fn g false [rawV b 0] []
def stepC14 (b : Nat) (f : FuncId × Option FuncId) : List CV := [.fn f.1 false [rawV b 0] [], nextC14 b f.2]
set_option maxHeartbeats 4000000 in
theorem p14_doAll (b : Nat) (fs : List (FuncId × Option FuncId)) (s u : Nat → Wk14) (e : Nat → Int) (N : Nat) (hl : fs.length < 1000) (h0 : ∀ i, i < N → e i = 0) (hN : N = fs.length ∨ (N < fs.length ∧ e N ≠ 0))
    (hdo : ∀ i f g, i ≤ N → fs[i]? = some (f, g) → ACalls Tryz.prog f [.one (rawV b 0)] (.bx [(b, .cells (eWk14 (s i)))] [(b, .cells (eWk14 (u i)))] [.one (i64 (e i))]))
    (hth : ∀ i f g, i < N → fs[i]? = some (f, some g) → ACalls Tryz.prog g [.one (rawV b 0)] (.bx [(b, .cells (eWk14 (u i)))] [(b, .cells (eWk14 (s (i + 1))))] []))
    (hno : ∀ i f, i < N → fs[i]? = some (f, none) → s (i + 1) = u i)
    (E : Wk14) (q : Int) (hE : (N = fs.length ∧ E = s N ∧ q = 0) ∨ (N < fs.length ∧ E = u N ∧ q = e N)) :
    ACalls Tryz.prog 15 [.one (.row (fs.map (stepC14 b)))] (.bx [(b, .cells (eWk14 (s 0)))] [(b, .cells (eWk14 E))] [.one (i64 q)]) := by
  refine ACalls.introX (fn := Tryz.f15) Tryz.func15 rfl rfl (by simp [Tryz.f15]) ?_
  unfold Tryz.f15
  simp only [insOf, setBs]
  refine wk1 trivial trivial trivial _ ?_
  all_goals (repeat intro h)
  all_goals refine ⟨?_⟩
  refine AW.loopW (fun n σ => ∃ k : Nat, n = fs.length - k ∧ k ≤ N ∧ σ = ⟨25, (upd (upd (upd (upd (fun _ => .junk) 2 (.one (.c (i64 0)))) 6 (.one (.c (.row (fs.map (stepC14 b)))))) 7 (.one (.c (i64 fs.length)))) 8 (.one (.c (i64 k)))), (upd (fun _ => none) (1000000+b) (some (.obox (eWk14 (s k)))))⟩) (n := fs.length) _ ⟨0, rfl, by omega, rfl⟩ (by exact lz trivial) ?_
  rintro n σ ⟨k, rfl, hk, rfl⟩
  have hs := wrapI (x := (k : Int) + 1) (by omega) (by omega)
  by_cases hlt : k < fs.length
  · obtain ⟨⟨f, g⟩, hf⟩ : ∃ f, fs[k]? = some f := ⟨_, List.getElem?_eq_getElem hlt⟩
    have c1 := hdo k f g hk hf
    by_cases hz : e k = 0
    · have hkN : k < N := by
        rcases hN with h | ⟨_, h⟩
        · omega
        · rcases Nat.lt_or_ge k N with h2 | h2
          · exact h2
          · exact absurd hz (by rw [show k = N by omega]; exact h)
      cases g with
      | none =>
        have hu := hno k f hkN hf
        have hc : stepC14 b (f, none) = [.fn f false [rawV b 0] [], .v .nilFunc] := rfl
        rw [<- hu, hz] at c1
        clear hdo hth hno hE h0 hN hu hz
        generalize hA : s (k + 1) = A at *
        generalize s k = B at *
        simp only [eWk14, rawV] at *
        refine wk1 (And.intro hf (And.intro hlt (And.intro hs hc))) c1 trivial _ ?_
        all_goals (repeat intro h)
        all_goals refine ⟨?_⟩
        refine ⟨fs.length - (k + 1), by omega, _, ⟨k + 1, rfl, hkN, rfl⟩, ?_⟩
        rw [hA]
        try simp only [eWk14, rawV]
        exact lz trivial
      | some g =>
        have c2 := hth k f g hkN hf
        have hc : stepC14 b (f, some g) = [.fn f false [rawV b 0] [], .fn g false [rawV b 0] []] := rfl
        rw [hz] at c1
        clear hdo hth hno hE h0 hN hz
        generalize hA : s (k + 1) = A at *
        generalize s k = B at *
        generalize u k = D at *
        simp only [eWk14, rawV] at *
        refine wk1 (And.intro hf (And.intro hlt (And.intro hs hc))) (And.intro c1 c2) trivial _ ?_
        all_goals (repeat intro h)
        all_goals refine ⟨?_⟩
        refine ⟨fs.length - (k + 1), by omega, _, ⟨k + 1, rfl, hkN, rfl⟩, ?_⟩
        rw [hA]
        try simp only [eWk14, rawV]
        exact lz trivial
    · have hkN : k = N := by
        rcases Nat.lt_or_ge k N with h2 | h2
        · exact absurd (h0 k h2) hz
        · omega
      subst hkN
      rcases hE with ⟨h, _⟩ | ⟨_, rfl, rfl⟩
      · omega
      have hz' : (e k != 0) = true := by simp [hz]
      have hc : stepC14 b (f, g) = [.fn f false [rawV b 0] [], nextC14 b g] := rfl
      clear hdo hth hno h0 hN hz
      generalize s k = B at *
      generalize u k = D at *
      generalize e k = ek at *
      generalize nextC14 b g = y at *
      simp only [eWk14, rawV] at *
      refine wk0 (And.intro hf (And.intro hlt (And.intro hs (And.intro hz' hc)))) c1 trivial
      all_goals (try simp only [go_sem, ↓reduceIte, reduceCtorEq, Nat.reduceLT, Nat.reduceEqDiff, Nat.reduceBEq, Nat.reduceAdd, Nat.reduceSub, Nat.reduceMul, Nat.reduceLeDiff, Int.reduceLE, Int.reduceLT, Int.reduceNeg, Int.reduceEq, Int.reduceBEq, Int.reduceBNe, Int.reduceToNat])
  · have hkN : k = N ∧ N = fs.length := by
      rcases hN with h | ⟨h, _⟩ <;> omega
    obtain ⟨rfl, hkL⟩ := hkN
    rcases hE with ⟨_, rfl, rfl⟩ | ⟨h, _⟩
    rotate_left
    · omega
    rw [hkL]
    generalize s fs.length = A at *
    simp only [eWk14, rawV] at *
    refine wk0 trivial trivial trivial
    all_goals (try simp only [go_sem, ↓reduceIte, reduceCtorEq, Nat.reduceLT, Nat.reduceEqDiff, Nat.reduceBEq, Nat.reduceAdd, Nat.reduceSub, Nat.reduceMul, Nat.reduceLeDiff, Int.reduceLE, Int.reduceLT, Int.reduceNeg, Int.reduceEq, Int.reduceBEq, Int.reduceBNe, Int.reduceToNat])
def fns14 : List (FuncId × Option FuncId) := [(45, none), (46, none), (47, none), (48, none), (49, some 50), (51, none), (52, none), (53, some 54), (55, none)]
set_option maxHeartbeats 4000000 in
theorem p14_steps (b : Nat) : ACalls Tryz.prog 16 [.one (rawV b 0)] (.one (.one (.row (fns14.map (stepC14 b))))) := by
  refine ACalls.intro (fn := Tryz.f16) Tryz.func16 rfl rfl (by simp [Tryz.f16]) ?_
  unfold Tryz.f16
  simp only [rawV, fns14, stepC14, nextC14, List.map_cons, List.map_nil]
  refine wk0 trivial trivial trivial
/-- What each step answers, if all steps ahead of it answered nothing. -/
def err14 (w : Wld) (m : Mssg) : Nat → Int
  | 0 => if pairPl w.people m.a m.b = false then 5 else 0
  | 1 => (openC w m m.a 6 m.box).2
  | 2 => (openC w m m.b 7 m.more).2
  | 3 => mayU (personW w 0).used w.conf.used m.run
  | 4 => if roomW w 2 1 = false then 10 else 0
  | 5 => (shrB w m).2.2
  | 6 => (shrA w m).2.2
  | 7 => 0
  | 8 => (shareZ w m).2
  | _ => 0
def to14 (w : Wld) (m : Mssg) : Nat → Wk14
  | 0 => ⟨w, m, 0, 0, 0, 0, 0⟩
  | 1 => ⟨w, m, 0, 0, 0, 0, 0⟩
  | 2 => ⟨w, m, (firstA w m).1.n, 0, 0, 0, 0⟩
  | 3 => ⟨w, m, (firstA w m).1.n, (firstB w m).1.n, 0, 0, 0⟩
  | 4 => ⟨w, m, (firstA w m).1.n, (firstB w m).1.n, 0, 0, 0⟩
  | 5 => ⟨drawW w, m, (firstA w m).1.n, (firstB w m).1.n, drawnW w, 0, 0⟩
  | 6 => ⟨(shrB w m).1, m, (firstA w m).1.n, (firstB w m).1.n, drawnW w, 0, (shrB w m).2.1⟩
  | 7 => ⟨(shrA w m).1, m, (firstA w m).1.n, (firstB w m).1.n, drawnW w, (shrA w m).2.1, (shrB w m).2.1⟩
  | 8 => ⟨sharedW w m, m, (firstA w m).1.n, (firstB w m).1.n, drawnW w, (shrA w m).2.1, (shrB w m).2.1⟩
  | _ => ⟨(shareZ w m).1, m, (firstA w m).1.n, (firstB w m).1.n, drawnW w, (shrA w m).2.1, (shrB w m).2.1⟩
def mid14 (w : Wld) (m : Mssg) : Nat → Wk14
  | 0 => to14 w m 1
  | 1 => { to14 w m 1 with na := (openC w m m.a 6 m.box).1 }
  | 2 => { to14 w m 2 with nb := (openC w m m.b 7 m.more).1 }
  | 3 => to14 w m 4
  | 4 => to14 w m 4
  | 5 => to14 w m 6
  | 6 => to14 w m 7
  | 7 => { to14 w m 7 with w := withW (shrA w m).1 (notedP (personW w 0) m.run) }
  | _ => to14 w m 9
theorem openC_ok {w : Wld} {m : Mssg} {name label handle : Int} (h : (openC w m name label handle).2 = 0) : (openC w m name label handle).1 = (openW w (personW w name).key label handle).1.n := by
  unfold openC at h ⊢
  split
  · rfl
  · rename_i hh; rw [if_neg hh] at h; exact absurd h (by decide)
theorem p14_all (b : Nat) (w : Wld) (m : Mssg) (h : Good 10 w) : ∃ E q, ACalls Tryz.prog 15 [.one (.row (fns14.map (stepC14 b)))] (.bx [(b, .cells (eWk14 (to14 w m 0)))] [(b, .cells (eWk14 E))] [.one (i64 q)])
    ∧ shareW w m = if q ≠ 0 then (w, q) else (E.w, 0) := by
  have g1 : Good 9 (drawW w) := h.draw
  have g2 : Good 8 (shrB w m).1 := g1.sealS _ _ _
  have g3 : Good 7 (shrA w m).1 := g2.sealS _ _ _
  have p1 : ∀ n, personW (shrB w m).1 n = personW w n := fun n => sealW_person _ _ _ _ n
  have p2 : ∀ n, personW (shrA w m).1 n = personW w n := fun n => (sealW_person _ _ _ _ n).trans (p1 n)
  have cf : (shrA w m).1.conf = w.conf := (sealW_rest _ _ _ _).2.1.trans (sealW_rest _ _ _ _).2.1
  have hp := h.person 0
  have g4 : Good 7 (withW (shrA w m).1 (notedP (personW w 0) m.run)) := g3.with_ _ ⟨by show ((personW w 0).used ++ [m.run]).length + 7 ≤ _; simp only [List.length_append, List.length_singleton]; omega, by show (personW w 0).runs.length + 7 ≤ _; omega⟩
  have g5 : Good 6 (sharedW w m) := g4.log_ _
  have ck : (personW (withW (shrA w m).1 (notedP (personW w 0) m.run)) 0).clock = (personW w 0).clock := by
    have := with_clock (shrA w m).1 m.run
    rw [p2] at this
    exact this
  have key : ∀ N, N ≤ 9 → (∀ i, i < N → err14 w m i = 0) → (N = 9 ∨ err14 w m N ≠ 0) → ∀ E q, ((N = 9 ∧ E = to14 w m N ∧ q = 0) ∨ (N < 9 ∧ E = mid14 w m N ∧ q = err14 w m N)) →
      ACalls Tryz.prog 15 [.one (.row (fns14.map (stepC14 b)))] (.bx [(b, .cells (eWk14 (to14 w m 0)))] [(b, .cells (eWk14 E))] [.one (i64 q)]) := by
    intro N hN9 h0 hN E q hE
    have hlen : fns14.length = 9 := rfl
    refine p14_doAll b fns14 (to14 w m) (mid14 w m) (err14 w m) N (by decide) h0 (by rw [hlen]; rcases hN with h | h; exact .inl h; rcases Nat.lt_or_ge N 9 with h2 | h2; exact .inr ⟨h2, h⟩; exact .inl (by omega)) ?_ ?_ ?_ E q (by rw [hlen]; exact hE)
    · intro i f g hi hf
      have hi9 : i < 9 := by have := (List.getElem?_eq_some_iff.1 hf).1; rw [hlen] at this; exact this
      match i, hi9, hf, hi with
      | 0, _, hf, _ => cases hf; exact p14_checkNames b (to14 w m 0) (h.less (by decide))
      | 1, _, hf, _ => cases hf; exact p14_openFirst b (to14 w m 1) (openC w m m.a 6 m.box) rfl (h.less (by decide))
      | 2, _, hf, _ => cases hf; exact p14_openSecond b (to14 w m 2) (openC w m m.b 7 m.more) rfl (h.less (by decide))
      | 3, _, hf, _ => cases hf; exact p14_checkRun b (to14 w m 3) (h.less (by decide))
      | 4, _, hf, _ => cases hf; exact p14_checkRoom b (to14 w m 4) (h.less (by decide))
      | 5, _, hf, _ => cases hf; exact p14_sealShareB b (to14 w m 5) (shrB w m) rfl (g1.less (by decide))
      | 6, _, hf, _ => cases hf; exact p14_sealShareA b (to14 w m 6) (shrA w m) (by show sealW (shrB w m).1 (personW (shrB w m).1 m.a).key 9 _ = _; rw [p1]; rfl) (g2.less (by decide))
      | 7, _, hf, hi =>
        cases hf
        have := p14_noteRun b (to14 w m 7) (by show mayU (personW (shrA w m).1 0).used (shrA w m).1.conf.used m.run = 0; rw [p2, cf]; exact h0 3 (by omega)) (g3.less (by decide))
        rw [show personW (to14 w m 7).w 0 = personW w 0 from p2 0] at this
        exact this
      | 8, _, hf, _ => cases hf; exact p14_send b (to14 w m 8) (shareZ w m) rfl (g5.less (by decide))
      | n + 9, h9, _, _ => omega
    · intro i f g hi hf
      have hi9 : i < 9 := by have := (List.getElem?_eq_some_iff.1 hf).1; rw [hlen] at this; exact this
      match i, hi9, hf, hi with
      | 0, _, hf, _ => cases hf
      | 1, _, hf, _ => cases hf
      | 2, _, hf, _ => cases hf
      | 3, _, hf, _ => cases hf
      | 4, _, hf, _ => cases hf; exact p14_drawKey b (to14 w m 4) h.small.small.next
      | 5, _, hf, _ => cases hf
      | 6, _, hf, _ => cases hf
      | 7, _, hf, _ => cases hf; exact p14_logIssue b (mid14 w m 7) (sharedW w m) _ ck rfl (g4.less (by decide))
      | 8, _, hf, _ => cases hf
      | n + 9, h9, _, _ => omega
    · intro i f hi hf
      have hi9 : i < 9 := by have := (List.getElem?_eq_some_iff.1 hf).1; rw [hlen] at this; exact this
      match i, hi9, hf, hi with
      | 0, _, hf, _ => rfl
      | 1, _, hf, hi =>
        show (⟨w, m, (firstA w m).1.n, 0, 0, 0, 0⟩ : Wk14) = ⟨w, m, (openC w m m.a 6 m.box).1, 0, 0, 0, 0⟩
        rw [openC_ok (h0 1 hi)]; rfl
      | 2, _, hf, hi =>
        show (⟨w, m, (firstA w m).1.n, (firstB w m).1.n, 0, 0, 0⟩ : Wk14) = ⟨w, m, (firstA w m).1.n, (openC w m m.b 7 m.more).1, 0, 0, 0⟩
        rw [openC_ok (h0 2 hi)]; rfl
      | 3, _, hf, _ => rfl
      | 4, _, hf, _ => cases hf
      | 5, _, hf, _ => rfl
      | 6, _, hf, _ => rfl
      | 7, _, hf, _ => cases hf
      | 8, _, hf, _ => rfl
      | n + 9, h9, _, _ => omega
  have oA : (openC w m m.a 6 m.box).2 = if ((firstA w m).2 && namesIt (firstA w m).1 m) = false then 6 else 0 := by
    unfold openC firstA
    cases (openW w (personW w m.a).key 6 m.box).2 && namesIt (openW w (personW w m.a).key 6 m.box).1 m <;> rfl
  have oB : (openC w m m.b 7 m.more).2 = if ((firstB w m).2 && namesIt (firstB w m).1 m) = false then 6 else 0 := by
    unfold openC firstB
    cases (openW w (personW w m.b).key 7 m.more).2 && namesIt (openW w (personW w m.b).key 7 m.more).1 m <;> rfl
  have fin : ∀ (N : Nat) (q : Int), N < 9 → (∀ i, i < N → err14 w m i = 0) → err14 w m N = q → q ≠ 0 → shareW w m = (w, q) → ∃ E q, ACalls Tryz.prog 15 [.one (.row (fns14.map (stepC14 b)))] (.bx [(b, .cells (eWk14 (to14 w m 0)))] [(b, .cells (eWk14 E))] [.one (i64 q)]) ∧ shareW w m = if q ≠ 0 then (w, q) else (E.w, 0) := by
    intro N q hN h0 he hq hs
    refine ⟨_, q, key N (by omega) h0 (.inr (by rw [he]; exact hq)) _ q (.inr ⟨hN, rfl, he.symm⟩), ?_⟩
    rw [if_pos hq]; exact hs
  by_cases a0 : pairPl w.people m.a m.b = false
  · exact fin 0 5 (by decide) (fun i hi => absurd hi (Nat.not_lt_zero i)) (by show (if _ then (5 : Int) else 0) = 5; rw [if_pos a0]) (by decide) (by unfold shareW; rw [if_pos a0])
  have z0 : err14 w m 0 = 0 := by show (if _ then (5 : Int) else 0) = 0; rw [if_neg a0]
  by_cases a1 : ((firstA w m).2 && namesIt (firstA w m).1 m) = false
  · exact fin 1 6 (by decide) (fun i hi => by match i, hi with | 0, _ => exact z0) (by show (openC w m m.a 6 m.box).2 = 6; rw [oA, if_pos a1]) (by decide) (by unfold shareW; rw [if_neg a0, if_pos a1])
  have z1 : err14 w m 1 = 0 := by show (openC w m m.a 6 m.box).2 = 0; rw [oA, if_neg a1]
  by_cases a2 : ((firstB w m).2 && namesIt (firstB w m).1 m) = false
  · exact fin 2 6 (by decide) (fun i hi => by match i, hi with | 0, _ => exact z0 | 1, _ => exact z1) (by show (openC w m m.b 7 m.more).2 = 6; rw [oB, if_pos a2]) (by decide) (by unfold shareW; rw [if_neg a0, if_neg a1, if_pos a2])
  have z2 : err14 w m 2 = 0 := by show (openC w m m.b 7 m.more).2 = 0; rw [oB, if_neg a2]
  by_cases a3 : mayU (personW w 0).used w.conf.used m.run ≠ 0
  · exact fin 3 _ (by decide) (fun i hi => by match i, hi with | 0, _ => exact z0 | 1, _ => exact z1 | 2, _ => exact z2) rfl a3 (by unfold shareW; rw [if_neg a0, if_neg a1, if_neg a2, if_pos a3]; rfl)
  have z3 : err14 w m 3 = 0 := Decidable.not_not.1 a3
  by_cases a4 : roomW w 2 1 = false
  · exact fin 4 10 (by decide) (fun i hi => by match i, hi with | 0, _ => exact z0 | 1, _ => exact z1 | 2, _ => exact z2 | 3, _ => exact z3) (by show (if _ then (10 : Int) else 0) = 10; rw [if_pos a4]) (by decide) (by unfold shareW; rw [if_neg a0, if_neg a1, if_neg a2, if_neg a3, if_pos a4])
  have z4 : err14 w m 4 = 0 := by show (if _ then (10 : Int) else 0) = 0; rw [if_neg a4]
  by_cases a5 : (shrB w m).2.2 ≠ 0
  · exact fin 5 _ (by decide) (fun i hi => by match i, hi with | 0, _ => exact z0 | 1, _ => exact z1 | 2, _ => exact z2 | 3, _ => exact z3 | 4, _ => exact z4) rfl a5 (by unfold shareW; rw [if_neg a0, if_neg a1, if_neg a2, if_neg a3, if_neg a4, if_pos a5]; rfl)
  have z5 : err14 w m 5 = 0 := Decidable.not_not.1 a5
  by_cases a6 : (shrA w m).2.2 ≠ 0
  · exact fin 6 _ (by decide) (fun i hi => by match i, hi with | 0, _ => exact z0 | 1, _ => exact z1 | 2, _ => exact z2 | 3, _ => exact z3 | 4, _ => exact z4 | 5, _ => exact z5) rfl a6 (by unfold shareW; rw [if_neg a0, if_neg a1, if_neg a2, if_neg a3, if_neg a4, if_neg a5, if_pos a6]; rfl)
  have z6 : err14 w m 6 = 0 := Decidable.not_not.1 a6
  by_cases a8 : (shareZ w m).2 ≠ 0
  · exact fin 8 _ (by decide) (fun i hi => by match i, hi with | 0, _ => exact z0 | 1, _ => exact z1 | 2, _ => exact z2 | 3, _ => exact z3 | 4, _ => exact z4 | 5, _ => exact z5 | 6, _ => exact z6 | 7, _ => rfl) rfl a8 (by unfold shareW; rw [if_neg a0, if_neg a1, if_neg a2, if_neg a3, if_neg a4, if_neg a5, if_neg a6, if_pos a8]; rfl)
  have z8 : err14 w m 8 = 0 := Decidable.not_not.1 a8
  refine ⟨to14 w m 9, 0, key 9 (by decide) (fun i hi => by match i, hi with | 0, _ => exact z0 | 1, _ => exact z1 | 2, _ => exact z2 | 3, _ => exact z3 | 4, _ => exact z4 | 5, _ => exact z5 | 6, _ => exact z6 | 7, _ => rfl | 8, _ => exact z8) (.inl rfl) _ 0 (.inl ⟨rfl, rfl, rfl⟩), ?_⟩
  rw [if_neg (by decide)]
  unfold shareW
  rw [if_neg a0, if_neg a1, if_neg a2, if_neg a3, if_neg a4, if_neg a5, if_neg a6, if_neg a8]
  rfl
set_option maxHeartbeats 4000000 in
theorem p14_share (w : Wld) (m : Mssg) (hf : formW w = true) (h : SmallN 10 w) (hk : m.kind = 7) (hm : mayM m = true) : ACalls Tryz.prog 7 [.agg (eWld w), .agg (eMssg m)] (.tup [.agg (eWld (shareW w m).1), .one (i64 (shareW w m).2)]) := by
  refine ACalls.intro (fn := Tryz.f7) Tryz.func7 rfl rfl (by simp [Tryz.f7]) ?_
  have hg := Good.of hf h (by decide)
  have c0 := p14_steps
  have c1 := fun b => p14_all b w m hg
  unfold Tryz.f7
  generalize hgo : shareW w m = z at *
  obtain ⟨z1, z2⟩ := z
  clear hg hf h hk hm
  have e0 : to14 w m 0 = ⟨w, m, 0, 0, 0, 0, 0⟩ := rfl
  rw [e0] at c1
  clear e0 hgo
  simp only [eWld, eMssg, ePerson, eSealeds, eGrams, ePeople, eEvents, eRows, eWords, eLeaks, eRuns, rI, eWk14, fns14, stepC14, nextC14, rawV, List.map_cons, List.map_nil] at *
  refine wk1 trivial trivial (@AW.halt 2) _ ?_
  all_goals (repeat intro h)
  all_goals refine ⟨?_⟩
  refine AWs.mk (AW.name 11 rfl ?_ ?_ fun b hb => ?_)
  · simp only [go_sem, ↓reduceIte, reduceCtorEq, Nat.reduceLT, Nat.reduceEqDiff, Nat.reduceBEq, Nat.reduceAdd, Nat.reduceSub, Nat.reduceMul, Nat.reduceLeDiff, Int.reduceLE, Int.reduceLT, Int.reduceNeg, Int.reduceEq, Int.reduceBEq, Int.reduceBNe, Int.reduceToNat]
  · intro b; simp only [go_sem, ↓reduceIte, reduceCtorEq, Nat.reduceLT, Nat.reduceEqDiff, Nat.reduceBEq, Nat.reduceAdd, Nat.reduceSub, Nat.reduceMul, Nat.reduceLeDiff, Int.reduceLE, Int.reduceLT, Int.reduceNeg, Int.reduceEq, Int.reduceBEq, Int.reduceBNe, Int.reduceToNat]
  clear hb
  refine AW.lessW ⟨23, (upd (upd (upd (upd (fun _ => .junk) 2 (.one (.ptr 2 0))) 4 (.one (.ptr 4 0))) 5 (.one (.c (i64 0)))) 6 (.one (.c (rawV b 0)))), (upd (upd (upd (fun _ => none) 2 (some (.box [A.c (u32 w.conf.window), A.c (i64 w.conf.people), A.c (i64 w.conf.box), A.c (i64 w.conf.used), A.c (i64 w.conf.runs), A.c (i64 w.conf.net), A.c (i64 w.conf.regs), A.c (CV.row (List.map eWord w.draws.list)), A.c (i64 w.draws.next), A.c (i64 w.box.room), A.c (CV.row (List.map eSealed w.box.entries)), A.c (i64 w.net.room), A.c (CV.row (List.map eGram w.net.grams)), A.c (CV.row (List.map eSeen w.net.seen)), A.c (CV.row (List.map ePerson w.people)), A.c (CV.row (List.map eEvent w.log)), A.c (CV.row (List.map eSeen w.regs)), A.c (CV.row (List.map eLeak w.leaks))]))) 4 (some (.box [A.c (u32 0), A.c (i64 0), A.c (i64 0), A.c (i64 0), A.c (i64 0), A.c (i64 0), A.c (i64 0), A.nil, A.c (i64 0), A.c (i64 0), A.nil, A.c (i64 0), A.nil, A.nil, A.nil, A.nil, A.nil, A.nil]))) (1000000+b) (some (.obox [u32 w.conf.window, i64 w.conf.people, i64 w.conf.box, i64 w.conf.used, i64 w.conf.runs, i64 w.conf.net, i64 w.conf.regs, CV.row (List.map eWord w.draws.list), i64 w.draws.next, i64 w.box.room, CV.row (List.map eSealed w.box.entries), i64 w.net.room, CV.row (List.map eGram w.net.grams), CV.row (List.map eSeen w.net.seen), CV.row (List.map ePerson w.people), CV.row (List.map eEvent w.log), CV.row (List.map eSeen w.regs), CV.row (List.map eLeak w.leaks), u32 m.kind, u32 m.run, u32 m.a, u32 m.b, u32 m.nonce, u32 m.box, u32 m.more, u32 0, u32 0, u32 0, u32 0, u32 0])))⟩ (by exact lz trivial) ?_
  have c2 := c0 b
  obtain ⟨E, q, c3, hz⟩ := c1 b
  clear c0 c1
  simp only [rawV] at *
  by_cases hq : q = 0
  · rw [if_neg (by simp [hq])] at hz
    cases hz
    have hq' : (q != 0) = false := by simp [hq]
    refine wk0 hq' (And.intro c2 c3) trivial
  · rw [if_pos hq] at hz
    have hq' : (q != 0) = true := by simp [hq]
    clear hq
    cases hz
    refine wk0 hq' (And.intro c2 c3) trivial
end Go.Proofs.YthfhhciogimhjaaGreatDoor.Abs
end
section
/- The reference of layer desk, over values without addresses: New. -/
set_option linter.unusedSimpArgs false
set_option linter.unusedVariables false
set_option maxRecDepth 100000
namespace Go.Proofs.YthfhhciogimhjaaGreatDoor.Abs
open Go.RowKit
def newW (c : Conf) (l : List Int) (n r : Nat) : Wld := ⟨c, ⟨l, (n : Int)⟩, ⟨c.box, []⟩, ⟨c.net, [], []⟩, newPl l 0 n, [], List.replicate r [], []⟩
theorem map_rep (k : Nat) : (List.replicate k ([] : List Int)).map eSeen = List.replicate k [.row []] := by simp [eSeen, eWords]
set_option maxHeartbeats 4000000 in
theorem q12_new (c : Conf) (l : List Int) (n r : Nat) (h1 : c.people = n) (h2 : n ≤ 100) (h3 : c.regs = r) (h4 : r ≤ 1000) : ACalls Tryz.prog 33 [.agg (eConf c), .one (eWords l)] (.one (.agg (eWld (newW c l n r)))) := by
  refine ACalls.intro (fn := Tryz.f33) Tryz.func33 rfl rfl (by simp [Tryz.f33]) ?_
  have hq := q10_new l 0 n h2 (by omega)
  rw [Nat.zero_add] at hq
  unfold Tryz.f33
  obtain ⟨c1, c2, c3, c4, c5, c6, c7⟩ := c
  simp only at h1 h3
  subst h1 h3
  simp only [newW, eWld, eConf, eDraws, eSealeds, eGrams, ePeople, eEvents, eRows, eWords, eLeaks, map_rep] at *
  generalize newPl l 0 n = ppl at *
  refine wk1 trivial hq trivial _ ?_
  all_goals (repeat intro h)
  all_goals refine ⟨?_⟩
  refine AW.loopW (fun z σ => ∃ k : Nat, z = r - k ∧ k ≤ r ∧ ((k = 0 ∧ σ = ⟨43, (upd (upd (upd (upd (fun _ => .junk) 2 (.one (.ptr 2 0))) 4 (.one (.ptr 4 0))) 5 (.one (.ptr 5 0))) 8 (.one (.c (i64 k)))), (upd (upd (upd (fun _ => none) 2 (some (.box [.c (u32 c1), .c (i64 (n : Int)), .c (i64 c3), .c (i64 c4), .c (i64 c5), .c (i64 c6), .c (i64 (r : Int))]))) 4 (some (.box [.c (u32 0), .c (i64 0), .c (i64 0), .c (i64 0), .c (i64 0), .c (i64 0), .c (i64 0), .nil, .c (i64 0), .c (i64 0), .nil, .c (i64 0), .nil, .nil, .nil, .nil, .nil, .nil]))) 5 (some (.box [.c (u32 c1), .c (i64 (n : Int)), .c (i64 c3), .c (i64 c4), .c (i64 c5), .c (i64 c6), .c (i64 (r : Int)), .c (.row (l.map eWord)), .c (i64 (n : Int)), .c (i64 c3), .nil, .c (i64 c6), .nil, .nil, .c (.row (ppl.map ePerson)), .nil, .nil, .nil])))⟩) ∨
      (0 < k ∧ σ = ⟨43, (upd (upd (upd (upd (fun _ => .junk) 2 (.one (.ptr 2 0))) 4 (.one (.ptr 4 0))) 5 (.one (.ptr 5 0))) 8 (.one (.c (i64 k)))), (upd (upd (upd (upd (fun _ => none) 2 (some (.box [.c (u32 c1), .c (i64 (n : Int)), .c (i64 c3), .c (i64 c4), .c (i64 c5), .c (i64 c6), .c (i64 (r : Int))]))) 4 (some (.box [.c (u32 0), .c (i64 0), .c (i64 0), .c (i64 0), .c (i64 0), .c (i64 0), .c (i64 0), .nil, .c (i64 0), .c (i64 0), .nil, .c (i64 0), .nil, .nil, .nil, .nil, .nil, .nil]))) 40 (some (.rows 25 1 (List.replicate k [.row []])))) 5 (some (.box [.c (u32 c1), .c (i64 (n : Int)), .c (i64 c3), .c (i64 c4), .c (i64 c5), .c (i64 c6), .c (i64 (r : Int)), .c (.row (l.map eWord)), .c (i64 (n : Int)), .c (i64 c3), .nil, .c (i64 c6), .nil, .nil, .c (.row (ppl.map ePerson)), .nil, .own 40 k, .nil])))⟩))) (n := r) _ ⟨0, rfl, Nat.zero_le _, .inl ⟨rfl, rfl⟩⟩ (by exact lz trivial) ?_
  rintro z σ ⟨k, rfl, hk, ⟨rfl, rfl⟩ | ⟨hk0, rfl⟩⟩
  · by_cases hlt : (0 : Int) < (r : Int)
    · refine wkx1 hlt trivial trivial _ ?_
      all_goals (repeat intro h)
      all_goals refine ⟨?_⟩
      refine ⟨r - 1, by omega, _, ⟨1, rfl, by omega, .inr ⟨by omega, rfl⟩⟩, ?_⟩
      simp only [List.replicate_succ, List.replicate_zero]
      exact lz trivial
    · obtain rfl : r = 0 := by omega
      refine wk1 hlt trivial trivial _ ?_
      all_goals (repeat intro h)
      all_goals refine ⟨?_⟩
      all_goals rfl
  · by_cases hlt : (k : Int) < (r : Int)
    · have hs := wrapI (x := (k : Int) + 1) (by omega) (by omega)
      refine wk1 (And.intro hlt hs) trivial trivial _ ?_
      all_goals (repeat intro h)
      all_goals refine ⟨?_⟩
      refine ⟨r - (k + 1), by omega, _, ⟨k + 1, rfl, by omega, .inr ⟨by omega, rfl⟩⟩, ?_⟩
      rw [List.replicate_succ']
      exact lz trivial
    · obtain rfl : k = r := by omega
      refine wk0 hlt trivial trivial
end Go.Proofs.YthfhhciogimhjaaGreatDoor.Abs
end
section
/- The reference of layer desk, over values without addresses: Same. -/
set_option linter.unusedSimpArgs false
set_option linter.unusedVariables false
set_option maxRecDepth 100000
namespace Go.Proofs.YthfhhciogimhjaaGreatDoor.Abs
open Go.RowKit
theorem wld_ext {a b : Wld} (h1 : a.conf = b.conf) (h2 : a.draws = b.draws) (h3 : a.box = b.box) (h4 : a.net = b.net) (h5 : a.people = b.people) (h6 : a.log = b.log) (h7 : a.regs = b.regs) (h8 : a.leaks = b.leaks) : a = b := by
  cases a; cases b; simp_all
set_option maxHeartbeats 16000000 in
theorem q12_same (a b : Wld) : ACalls Tryz.prog 9 [.agg (eWld a), .agg (eWld b)] (rB (decide (a = b))) := by
  refine ACalls.introF (fn := Tryz.f9) Tryz.func9 rfl rfl (by simp [Tryz.f9]) fun hf => ?_
  have hl : a.leaks.length ≤ 9223372036854775807 := Fine.rowC (f := eLeak) (k := 0) ((hf (.agg (eWld a)) (by simp) : FineCA (.agg (eWld a))) (eLeaks a.leaks) (by simp [eWld]))
  clear hf
  have hc := eqConfB_dec a.conf b.conf
  have s2 := q04_same a.draws b.draws
  have s3 := q07_same 0 a.box b.box
  have s4 := q06_same a.net b.net
  have s5 := q10_same 0 a.people b.people
  have s6 := q12_events a.log b.log
  have s7 := q01_rows a.regs b.regs
  have heq := eqok_conf
  have hel := eqok_leak
  unfold Tryz.f9
  simp only [eWld, eBoxC, eBox, eNet, eDraws, eSealeds, eGrams, ePeople, eEvents, eRows, eWords, eLeaks, rB, eqConfB] at *
  by_cases h1 : a.conf = b.conf
  rotate_left
  · rw [decide_eq_false h1] at hc
    rw [decide_eq_false (fun e => h1 (by rw [e]))]
    refine wk0 (And.intro heq hc) trivial trivial
  rw [decide_eq_true h1] at hc
  by_cases h2 : a.draws = b.draws
  rotate_left
  · rw [decide_eq_false h2] at s2
    rw [decide_eq_false (fun e => h2 (by rw [e]))]
    refine wk0 (And.intro heq hc) s2 trivial
  rw [decide_eq_true h2] at s2
  by_cases h3 : a.box = b.box
  rotate_left
  · rw [decide_eq_false h3] at s3
    rw [decide_eq_false (fun e => h3 (by rw [e]))]
    refine wk0 (And.intro heq hc) (And.intro s2 s3) trivial
  rw [decide_eq_true h3] at s3
  by_cases h4 : a.net = b.net
  rotate_left
  · rw [decide_eq_false h4] at s4
    rw [decide_eq_false (fun e => h4 (by rw [e]))]
    refine wk0 (And.intro heq hc) (And.intro s2 (And.intro s3 s4)) trivial
  rw [decide_eq_true h4] at s4
  by_cases h5 : a.people = b.people
  rotate_left
  · rw [decide_eq_false h5] at s5
    rw [decide_eq_false (fun e => h5 (by rw [e]))]
    refine wk0 (And.intro heq hc) (And.intro s2 (And.intro s3 (And.intro s4 s5))) trivial
  rw [decide_eq_true h5] at s5
  by_cases h6 : a.log = b.log
  rotate_left
  · rw [decide_eq_false h6] at s6
    rw [decide_eq_false (fun e => h6 (by rw [e]))]
    refine wk0 (And.intro heq hc) (And.intro s2 (And.intro s3 (And.intro s4 (And.intro s5 s6)))) trivial
  rw [decide_eq_true h6] at s6
  by_cases h7 : a.regs = b.regs
  rotate_left
  · rw [decide_eq_false h7] at s7
    rw [decide_eq_false (fun e => h7 (by rw [e]))]
    refine wk0 (And.intro heq hc) (And.intro s2 (And.intro s3 (And.intro s4 (And.intro s5 (And.intro s6 s7))))) trivial
  rw [decide_eq_true h7] at s7
  by_cases h8 : a.leaks.length = b.leaks.length
  rotate_left
  · have hne : ((a.leaks.length : Int) != (b.leaks.length : Int)) = true := by rw [bne_iff_ne]; omega
    rw [decide_eq_false (fun e => h8 (by rw [e]))]
    refine wk0 (And.intro heq (And.intro hc hne)) (And.intro s2 (And.intro s3 (And.intro s4 (And.intro s5 (And.intro s6 s7))))) trivial
  have hli : (a.leaks.length : Int) = (b.leaks.length : Int) := by omega
  refine wkx1 (And.intro heq (And.intro hc hli)) (And.intro s2 (And.intro s3 (And.intro s4 (And.intro s5 (And.intro s6 s7))))) trivial _ ?_
  all_goals (repeat intro h)
  all_goals refine ⟨?_⟩
  refine AW.loopW (fun n σ => ∃ k : Nat, n = a.leaks.length - k ∧ k ≤ a.leaks.length ∧ a.leaks.take k = b.leaks.take k ∧ σ = ⟨86, (upd (upd (upd (fun _ => .junk) 2 (.one (.ptr 2 0))) 3 (.one (.ptr 3 0))) 5 (.one (.c (i64 k)))), (upd (upd (fun _ => none) 2 (some (.box ((eWld a).map .c)))) 3 (some (.box ((eWld b).map .c))))⟩) (n := a.leaks.length) _ ⟨0, rfl, Nat.zero_le _, rfl, rfl⟩ (by simp only [eWld, eSealeds, eGrams, ePeople, eEvents, eRows, eWords, eLeaks, List.map_cons, List.map_nil]; exact lz trivial) ?_
  rintro n σ ⟨k, rfl, hk, ht, rfl⟩
  simp only [eWld, eSealeds, eGrams, ePeople, eEvents, eRows, eWords, eLeaks, List.map_cons, List.map_nil]
  by_cases hlt : k < a.leaks.length
  · obtain ⟨x, hx⟩ : ∃ x, a.leaks[k]? = some x := ⟨_, List.getElem?_eq_getElem hlt⟩
    obtain ⟨y, hy⟩ : ∃ y, b.leaks[k]? = some y := ⟨_, List.getElem?_eq_getElem (by omega)⟩
    have hlt2 : k < b.leaks.length := by omega
    have hs := wrapI (x := (k : Int) + 1) (by omega) (by omega)
    have hd0 := eqLeakB_dec x y
    unfold eqLeakB at hd0
    by_cases hxy : x = y
    · subst hxy
      refine wkx1 (And.intro hx (And.intro hy (And.intro hlt (And.intro hlt2 (And.intro hs (And.intro hel eLeak.eq_1)))))) trivial trivial _ ?_
      all_goals (repeat intro h)
      all_goals refine ⟨?_⟩
      refine ⟨a.leaks.length - (k + 1), by omega, _, ⟨k + 1, rfl, by omega, take_more ht hx hy, rfl⟩, ?_⟩
      try simp only [eWld, eSealeds, eGrams, ePeople, eEvents, eRows, eWords, eLeaks, List.map_cons, List.map_nil]
      exact lz trivial
    · rw [decide_eq_false hxy] at hd0
      rw [decide_eq_false (fun e => by subst e; rw [hx] at hy; exact hxy (Option.some.inj hy))]
      refine wk0 (And.intro hx (And.intro hy (And.intro hlt (And.intro hlt2 (And.intro hs (And.intro hel (And.intro hd0 eLeak.eq_1))))))) trivial trivial
  · obtain rfl : k = a.leaks.length := by omega
    have : a = b := wld_ext h1 h2 h3 h4 h5 h6 h7 (take_all h8 ht)
    rw [decide_eq_true this]
    refine wk0 trivial trivial trivial
end Go.Proofs.YthfhhciogimhjaaGreatDoor.Abs
end
section
/- A struct's fields that are nothing become empty rows. -/
set_option linter.unusedSimpArgs false
set_option linter.unusedVariables false
set_option maxRecDepth 100000
namespace Go.Proofs.YthfhhciogimhjaaGreatDoor.Abs
open Go.RowKit
section
variable {P : Program}
end
end Go.Proofs.YthfhhciogimhjaaGreatDoor.Abs
end
section
/- The reference of layer desk, over values without addresses: Copied. -/
set_option linter.unusedSimpArgs false
set_option linter.unusedVariables false
set_option maxRecDepth 100000
namespace Go.Proofs.YthfhhciogimhjaaGreatDoor.Abs
open Go.RowKit
/-- A world's lists are short, and what is in them. -/
structure Tiny (w : Wld) : Prop where
  dl : w.draws.list.length ≤ 1000
  en : w.box.entries.length ≤ 70
  pl : ∀ s ∈ w.box.entries, s.plain.length ≤ 100
  gr : w.net.grams.length ≤ 64
  gw : ∀ g ∈ w.net.grams, g.words.length ≤ 100
  se : w.net.seen.length ≤ 300
  sw : ∀ s ∈ w.net.seen, s.length ≤ 100
  pp : w.people.length ≤ 10
  pu : ∀ p ∈ w.people, p.used.length ≤ 100 ∧ p.runs.length ≤ 100
  lg : w.log.length ≤ 300
  rg : w.regs.length ≤ 10
  rw : ∀ r ∈ w.regs, r.length ≤ 100
  lk : w.leaks.length ≤ 300
end Go.Proofs.YthfhhciogimhjaaGreatDoor.Abs
end
section
/- The laws of layer kso, over values without addresses: what the document fixes; KsoDoes, KsoKeeps. -/
set_option linter.unusedSimpArgs false
set_option linter.unusedVariables false
set_option maxRecDepth 100000
namespace Go.Proofs.YthfhhciogimhjaaGreatDoor.Abs
open Go.RowKit
def conf14 : Conf := ⟨5, 2, 6, 4, 4, 4, 2⟩
def V0 : Wld := newW conf14 [11, 12, 13, 14, 15, 16, 17] 2 2
def pt3 : Prt := ⟨3, 9, 1, 2, 0, 0, 0⟩
def pt4 : Prt := ⟨4, 9, 1, 2, 0, 0, 0⟩
def V1 : Wld := (sealW V0 2147483659 6 pt3).1
def V2 : Wld := (sealW V1 2147483660 7 pt4).1
def m14 : Mssg := ⟨7, 9, 1, 2, 0, 2147483661, 2147483662⟩
def m14r : Mssg := ⟨7, 8, 1, 2, 0, 2147483661, 2147483662⟩
def m14b : Mssg := ⟨7, 9, 1, 1, 0, 2147483661, 2147483662⟩
def ev14 : Event := ⟨2, 2, 0, 1, 2, 2147483663, 0, 9, 0, 0⟩
theorem v0_p : V0.people[1]?.map (·.key) = some 2147483659 ∧ V0.people[2]?.map (·.key) = some 2147483660 ∧ V0.people.length = 3 := by decide +kernel
theorem v1_s : (sealW V0 2147483659 6 pt3).2.1 = 2147483661 ∧ (sealW V1 2147483660 7 pt4).2.1 = 2147483662 := by decide +kernel
theorem v0_few : fewW V0 = true ∧ formW V0 = true ∧ fewW V1 = true ∧ formW V1 = true ∧ fewW V2 = true ∧ formW V2 = true := by decide +kernel
theorem key_at {l : List Person} {i : Nat} {k : Int} (h : l[i]?.map (·.key) = some k) : ∃ p, l[i]? = some p ∧ p.key = k := by
  cases hp : l[i]? with
  | none => rw [hp] at h; simp at h
  | some p => rw [hp] at h; exact ⟨p, rfl, by simpa using h⟩
set_option maxHeartbeats 8000000 in
theorem l14_asked : ACalls Tryz.prog 11 [] (.tup [.agg (eWld V2), .agg (eMssg m14)]) := by
  refine ACalls.intro (fn := Tryz.f11) Tryz.func11 rfl rfl (by simp [Tryz.f11]) ?_
  have hq := q12_new conf14 [11, 12, 13, 14, 15, 16, 17] 2 2 rfl (by decide) rfl (by decide)
  rw [show newW conf14 [11, 12, 13, 14, 15, 16, 17] 2 2 = V0 from rfl] at hq
  obtain ⟨f0, g0, f1, g1, _, _⟩ := v0_few
  have c1 := q12_seal V0 2147483659 6 pt3 (small_of f0 g0)
  have c2 := q12_seal V1 2147483660 7 pt4 (small_of f1 g1)
  rw [v1_s.1] at c1
  rw [v1_s.2] at c2
  change ACalls _ _ _ (.tup [.agg (eWld V1), _, _]) at c1
  change ACalls _ _ _ (.tup [.agg (eWld V2), _, _]) at c2
  obtain ⟨pa, x1, k1⟩ := key_at v0_p.1
  obtain ⟨pb, x2, k2⟩ := key_at v0_p.2.1
  have hl := v0_p.2.2
  clear f0 g0 f1 g1
  generalize (sealW V0 2147483659 6 pt3).2.2 = e1 at *
  generalize (sealW V1 2147483660 7 pt4).2.2 = e2 at *
  generalize V2 = B at *
  generalize V1 = A at *
  generalize V0 = W at *
  have h1 : 1 < W.people.length := by omega
  have h2 : 2 < W.people.length := by omega
  unfold Tryz.f11
  simp only [conf14, pt3, pt4, m14, eConf, ePrt, eMssg, eWld, eSealeds, eGrams, ePeople, eEvents, eRows, eWords, eLeaks, eWord, List.map_cons, List.map_nil] at *
  repeat' (first
    | (refine hC ?_ ?_ ?_ ?_ ?_
       rotate_left
       · rfl
       · simp only [go_sem, ↓reduceIte, reduceCtorEq, Nat.reduceLT, Nat.reduceEqDiff, Nat.reduceBEq, Nat.reduceAdd, Nat.reduceSub, Nat.reduceMul, Nat.reduceLeDiff, Int.reduceLE, Int.reduceLT, Int.reduceNeg, Int.reduceEq, Int.reduceBEq, Int.reduceBNe, Int.reduceToNat, x1, x2, k1, k2, h1, h2, ePerson, eRuns, eWords]
       · simp only [go_sem, ↓reduceIte, reduceCtorEq, Nat.reduceLT, Nat.reduceEqDiff, Nat.reduceBEq, Nat.reduceAdd, Nat.reduceSub, Nat.reduceMul, Nat.reduceLeDiff, Int.reduceLE, Int.reduceLT, Int.reduceNeg, Int.reduceEq, Int.reduceBEq, Int.reduceBNe, Int.reduceToNat, x1, x2, k1, k2, h1, h2, ePerson, eRuns, eWords]
         first | (refine And.intro ?_ ?_; exact hq; first | exact trivial | (simp only [go_sem, ↓reduceIte, reduceCtorEq, Nat.reduceLT, Nat.reduceEqDiff, Nat.reduceBEq, Nat.reduceAdd, Nat.reduceSub, Nat.reduceMul, Nat.reduceLeDiff, Int.reduceLE, Int.reduceLT, Int.reduceNeg, Int.reduceEq, Int.reduceBEq, Int.reduceBNe, Int.reduceToNat, x1, x2, k1, k2, h1, h2, ePerson, eRuns, eWords]; done)) | (refine And.intro (ACalls.args (k := ?_) ?_ ?_) ?_; rotate_left; exact hq; repeat' (first | exact trivial | exact Or.inl ⟨rfl, rfl⟩ | exact Or.inr rfl | apply And.intro))
       simp only [go_sem, ↓reduceIte, reduceCtorEq, Nat.reduceLT, Nat.reduceEqDiff, Nat.reduceBEq, Nat.reduceAdd, Nat.reduceSub, Nat.reduceMul, Nat.reduceLeDiff, Int.reduceLE, Int.reduceLT, Int.reduceNeg, Int.reduceEq, Int.reduceBEq, Int.reduceBNe, Int.reduceToNat, x1, x2, k1, k2, h1, h2, ePerson, eRuns, eWords])
    | (refine hC ?_ ?_ ?_ ?_ ?_
       rotate_left
       · rfl
       · simp only [go_sem, ↓reduceIte, reduceCtorEq, Nat.reduceLT, Nat.reduceEqDiff, Nat.reduceBEq, Nat.reduceAdd, Nat.reduceSub, Nat.reduceMul, Nat.reduceLeDiff, Int.reduceLE, Int.reduceLT, Int.reduceNeg, Int.reduceEq, Int.reduceBEq, Int.reduceBNe, Int.reduceToNat, x1, x2, k1, k2, h1, h2, ePerson, eRuns, eWords]
       · simp only [go_sem, ↓reduceIte, reduceCtorEq, Nat.reduceLT, Nat.reduceEqDiff, Nat.reduceBEq, Nat.reduceAdd, Nat.reduceSub, Nat.reduceMul, Nat.reduceLeDiff, Int.reduceLE, Int.reduceLT, Int.reduceNeg, Int.reduceEq, Int.reduceBEq, Int.reduceBNe, Int.reduceToNat, x1, x2, k1, k2, h1, h2, ePerson, eRuns, eWords]
         first | (refine And.intro ?_ ?_; exact c1; first | exact trivial | (simp only [go_sem, ↓reduceIte, reduceCtorEq, Nat.reduceLT, Nat.reduceEqDiff, Nat.reduceBEq, Nat.reduceAdd, Nat.reduceSub, Nat.reduceMul, Nat.reduceLeDiff, Int.reduceLE, Int.reduceLT, Int.reduceNeg, Int.reduceEq, Int.reduceBEq, Int.reduceBNe, Int.reduceToNat, x1, x2, k1, k2, h1, h2, ePerson, eRuns, eWords]; done)) | (refine And.intro (ACalls.args (k := ?_) ?_ ?_) ?_; rotate_left; exact c1; repeat' (first | exact trivial | exact Or.inl ⟨rfl, rfl⟩ | exact Or.inr rfl | apply And.intro))
       simp only [go_sem, ↓reduceIte, reduceCtorEq, Nat.reduceLT, Nat.reduceEqDiff, Nat.reduceBEq, Nat.reduceAdd, Nat.reduceSub, Nat.reduceMul, Nat.reduceLeDiff, Int.reduceLE, Int.reduceLT, Int.reduceNeg, Int.reduceEq, Int.reduceBEq, Int.reduceBNe, Int.reduceToNat, x1, x2, k1, k2, h1, h2, ePerson, eRuns, eWords])
    | (refine hC ?_ ?_ ?_ ?_ ?_
       rotate_left
       · rfl
       · simp only [go_sem, ↓reduceIte, reduceCtorEq, Nat.reduceLT, Nat.reduceEqDiff, Nat.reduceBEq, Nat.reduceAdd, Nat.reduceSub, Nat.reduceMul, Nat.reduceLeDiff, Int.reduceLE, Int.reduceLT, Int.reduceNeg, Int.reduceEq, Int.reduceBEq, Int.reduceBNe, Int.reduceToNat, x1, x2, k1, k2, h1, h2, ePerson, eRuns, eWords]
       · simp only [go_sem, ↓reduceIte, reduceCtorEq, Nat.reduceLT, Nat.reduceEqDiff, Nat.reduceBEq, Nat.reduceAdd, Nat.reduceSub, Nat.reduceMul, Nat.reduceLeDiff, Int.reduceLE, Int.reduceLT, Int.reduceNeg, Int.reduceEq, Int.reduceBEq, Int.reduceBNe, Int.reduceToNat, x1, x2, k1, k2, h1, h2, ePerson, eRuns, eWords]
         first | (refine And.intro ?_ ?_; exact c2; first | exact trivial | (simp only [go_sem, ↓reduceIte, reduceCtorEq, Nat.reduceLT, Nat.reduceEqDiff, Nat.reduceBEq, Nat.reduceAdd, Nat.reduceSub, Nat.reduceMul, Nat.reduceLeDiff, Int.reduceLE, Int.reduceLT, Int.reduceNeg, Int.reduceEq, Int.reduceBEq, Int.reduceBNe, Int.reduceToNat, x1, x2, k1, k2, h1, h2, ePerson, eRuns, eWords]; done)) | (refine And.intro (ACalls.args (k := ?_) ?_ ?_) ?_; rotate_left; exact c2; repeat' (first | exact trivial | exact Or.inl ⟨rfl, rfl⟩ | exact Or.inr rfl | apply And.intro))
       simp only [go_sem, ↓reduceIte, reduceCtorEq, Nat.reduceLT, Nat.reduceEqDiff, Nat.reduceBEq, Nat.reduceAdd, Nat.reduceSub, Nat.reduceMul, Nat.reduceLeDiff, Int.reduceLE, Int.reduceLT, Int.reduceNeg, Int.reduceEq, Int.reduceBEq, Int.reduceBNe, Int.reduceToNat, x1, x2, k1, k2, h1, h2, ePerson, eRuns, eWords])
    | (refine hK _ _ ?_; clear hK hC; clear K C)
    | (refine hK _ _ rfl ?_; clear hK hC; clear K C)
    | (refine hK _ _ (by simp only [crs, crsI, alfO, alfL, Nat.reduceLT]; rfl) ?_; clear hK hC; clear K C)
    | (refine AW.seqR fun K C hK hC => ?_; simp only [go_sem, ↓reduceIte, reduceCtorEq, Nat.reduceLT, Nat.reduceEqDiff, Nat.reduceBEq, Nat.reduceAdd, Nat.reduceSub, Nat.reduceMul, Nat.reduceLeDiff, Int.reduceLE, Int.reduceLT, Int.reduceNeg, Int.reduceEq, Int.reduceBEq, Int.reduceBNe, Int.reduceToNat, x1, x2, k1, k2, h1, h2, ePerson, eRuns, eWords])
    | (refine AW.seqD rfl fun K C hK hC => ?_; simp only [go_sem, ↓reduceIte, reduceCtorEq, Nat.reduceLT, Nat.reduceEqDiff, Nat.reduceBEq, Nat.reduceAdd, Nat.reduceSub, Nat.reduceMul, Nat.reduceLeDiff, Int.reduceLE, Int.reduceLT, Int.reduceNeg, Int.reduceEq, Int.reduceBEq, Int.reduceBNe, Int.reduceToNat, x1, x2, k1, k2, h1, h2, ePerson, eRuns, eWords])
    | (refine AW.reg fun K C hK hC => ?_; simp only [go_sem, ↓reduceIte, reduceCtorEq, Nat.reduceLT, Nat.reduceEqDiff, Nat.reduceBEq, Nat.reduceAdd, Nat.reduceSub, Nat.reduceMul, Nat.reduceLeDiff, Int.reduceLE, Int.reduceLT, Int.reduceNeg, Int.reduceEq, Int.reduceBEq, Int.reduceBNe, Int.reduceToNat, x1, x2, k1, k2, h1, h2, ePerson, eRuns, eWords])
    | (refine AW.regD rfl fun K C hK hC => ?_; simp only [go_sem, ↓reduceIte, reduceCtorEq, Nat.reduceLT, Nat.reduceEqDiff, Nat.reduceBEq, Nat.reduceAdd, Nat.reduceSub, Nat.reduceMul, Nat.reduceLeDiff, Int.reduceLE, Int.reduceLT, Int.reduceNeg, Int.reduceEq, Int.reduceBEq, Int.reduceBNe, Int.reduceToNat, x1, x2, k1, k2, h1, h2, ePerson, eRuns, eWords])
    | refine AW.seqS ?_
    | (refine AW.ret ?_; simp only [go_sem, ↓reduceIte, reduceCtorEq, Nat.reduceLT, Nat.reduceEqDiff, Nat.reduceBEq, Nat.reduceAdd, Nat.reduceSub, Nat.reduceMul, Nat.reduceLeDiff, Int.reduceLE, Int.reduceLT, Int.reduceNeg, Int.reduceEq, Int.reduceBEq, Int.reduceBNe, Int.reduceToNat, x1, x2, k1, k2, h1, h2, ePerson, eRuns, eWords])
    | (refine AW.cond rfl (fun h => ?_) (fun h => ?_) <;> (try simp only [decide_eq_true_eq, decide_eq_false_iff_not, bne_iff_ne, beq_iff_eq, bne_eq_false_iff_eq, beq_eq_false_iff_ne, ne_eq, ge_iff_le, gt_iff_lt, Bool.not_eq_true, Bool.not_eq_false, Bool.not_not, Bool.not_true, Bool.not_false, Int.not_le, Int.not_lt, not_true_eq_false, not_false_eq_true, reduceCtorEq, Bool.false_eq_true, Bool.not_eq_true', Bool.not_eq_false'] at h) <;> first | (exfalso; omega) | skip)
    | refine AW.skip ?_
    | refine AW.seq ?_
    | refine AW.block ?_
    | (refine AW.exit ?_; simp only [go_sem, ↓reduceIte, reduceCtorEq, Nat.reduceLT, Nat.reduceEqDiff, Nat.reduceBEq, Nat.reduceAdd, Nat.reduceSub, Nat.reduceMul, Nat.reduceLeDiff, Int.reduceLE, Int.reduceLT, Int.reduceNeg, Int.reduceEq, Int.reduceBEq, Int.reduceBNe, Int.reduceToNat, x1, x2, k1, k2, h1, h2, ePerson, eRuns, eWords])
    | (refine ite_on (fun h => ?_) (fun h => ?_) <;> (try simp only [decide_eq_true_eq, decide_eq_false_iff_not, bne_iff_ne, beq_iff_eq, bne_eq_false_iff_eq, beq_eq_false_iff_ne, ne_eq, ge_iff_le, gt_iff_lt, Bool.not_eq_true, Bool.not_eq_false, Bool.not_not, Bool.not_true, Bool.not_false, Int.not_le, Int.not_lt, not_true_eq_false, not_false_eq_true, reduceCtorEq, Bool.false_eq_true, Bool.not_eq_true', Bool.not_eq_false'] at h) <;> first | (exfalso; omega) | skip)
    | rw [thenN]
    | rw [blockN]
    | rw [scopeN]
    | refine AW.scope ?_
    | refine AW.label ?_
    | refine And.intro ?_ ?_
    | refine lcons rfl ?_
    | exact lGram _
    | exact lSeen _
    | exact lWord _
    | exact lSealed _
    | exact lRun _
    | exact lPerson _
    | exact lEvent _
    | exact lLeak _
    | exact lNum _
    | exact lOprn _
    | exact in64 (by omega) (by omega)
    | exact in32 (by omega) (by omega)
    | omega)
theorem w14_e : (shareW V2 m14).2 = 0 ∧ (shareW V2 m14r).2 = 6 ∧ (shareW V2 m14b).2 = 5 ∧ (shareW (shareW V2 m14).1 m14).2 = 8 := by decide +kernel
theorem w14_a : fewW (shareW V2 m14).1 = true ∧ formW (shareW V2 m14).1 = true ∧ (shareW V2 m14).1.log = [ev14] ∧ (shareW V2 m14).1.box.entries.length = 4 ∧ (shareW V2 m14).1.net.grams.length = 1 ∧ ((shareW V2 m14).1.net.grams[0]?.map (·.to)) = some 2 := by decide +kernel
set_option maxHeartbeats 16000000 in
theorem l14_awake : ACalls Tryz.prog 5 [] (rB true) := by
  refine ACalls.intro (fn := Tryz.f5) Tryz.func5 rfl rfl (by simp [Tryz.f5]) ?_
  obtain ⟨a1, a2, a3, a4, a5, a6⟩ := w14_a
  obtain ⟨_, _, _, _, f2, g2⟩ := v0_few
  have sm : SmallN 10 V2 := smallN_of (by decide) f2 g2
  have c0 := l14_asked
  have c1 := p14_share V2 m14 g2 sm rfl (by decide)
  have c2 := p14_share (shareW V2 m14).1 m14 a2 (smallN_of (by decide) a1 a2) rfl (by decide)
  have c3 := p14_share V2 m14r g2 sm rfl (by decide)
  have c4 := p14_share V2 m14b g2 sm rfl (by decide)
  rw [w14_e.1] at c1
  rw [w14_e.2.2.2] at c2
  rw [w14_e.2.1] at c3
  rw [w14_e.2.2.1] at c4
  have heq := eqok_event
  clear a1 a2 f2 g2 sm
  generalize (shareW (shareW V2 m14).1 m14).1 = B at *
  generalize (shareW V2 m14).1 = A at *
  generalize (shareW V2 m14r).1 = C at *
  generalize (shareW V2 m14b).1 = D at *
  generalize V2 = W at *
  obtain ⟨g, hg⟩ : ∃ g, A.net.grams[0]? = some g := ⟨_, List.getElem?_eq_getElem (by omega)⟩
  rw [hg] at a6
  have a6' : g.to = 2 := by simpa using a6
  have l1 : (A.box.entries.length : Int) = 4 := by omega
  have l2 : (A.net.grams.length : Int) = 1 := by omega
  have l3 : 0 < A.net.grams.length := by omega
  unfold Tryz.f5
  simp only [eWld, m14, m14r, m14b, eMssg, eSealeds, eGrams, ePeople, eEvents, eRows, eWords, eLeaks, rB, a3, ev14, eEvent, List.map_cons, List.map_nil] at *
  repeat' (first
    | (refine hC ?_ ?_ ?_ ?_ ?_
       rotate_left
       · rfl
       · simp only [go_sem, ↓reduceIte, reduceCtorEq, Nat.reduceLT, Nat.reduceEqDiff, Nat.reduceBEq, Nat.reduceAdd, Nat.reduceSub, Nat.reduceMul, Nat.reduceLeDiff, Int.reduceLE, Int.reduceLT, Int.reduceNeg, Int.reduceEq, Int.reduceBEq, Int.reduceBNe, Int.reduceToNat, List.append_eq, l1, l2, l3, hg, a6', eGram, eWords, heq, beq_self_eq_true]
       · simp only [go_sem, ↓reduceIte, reduceCtorEq, Nat.reduceLT, Nat.reduceEqDiff, Nat.reduceBEq, Nat.reduceAdd, Nat.reduceSub, Nat.reduceMul, Nat.reduceLeDiff, Int.reduceLE, Int.reduceLT, Int.reduceNeg, Int.reduceEq, Int.reduceBEq, Int.reduceBNe, Int.reduceToNat, List.append_eq, l1, l2, l3, hg, a6', eGram, eWords, heq, beq_self_eq_true]
         first | (refine And.intro ?_ ?_; exact c0; first | exact trivial | (simp only [go_sem, ↓reduceIte, reduceCtorEq, Nat.reduceLT, Nat.reduceEqDiff, Nat.reduceBEq, Nat.reduceAdd, Nat.reduceSub, Nat.reduceMul, Nat.reduceLeDiff, Int.reduceLE, Int.reduceLT, Int.reduceNeg, Int.reduceEq, Int.reduceBEq, Int.reduceBNe, Int.reduceToNat, List.append_eq, l1, l2, l3, hg, a6', eGram, eWords, heq, beq_self_eq_true]; done)) | (refine And.intro (ACalls.args (k := ?_) ?_ ?_) ?_; rotate_left; exact c0; repeat' (first | exact trivial | exact Or.inl ⟨rfl, rfl⟩ | exact Or.inr rfl | apply And.intro))
       simp only [go_sem, ↓reduceIte, reduceCtorEq, Nat.reduceLT, Nat.reduceEqDiff, Nat.reduceBEq, Nat.reduceAdd, Nat.reduceSub, Nat.reduceMul, Nat.reduceLeDiff, Int.reduceLE, Int.reduceLT, Int.reduceNeg, Int.reduceEq, Int.reduceBEq, Int.reduceBNe, Int.reduceToNat, List.append_eq, l1, l2, l3, hg, a6', eGram, eWords, heq, beq_self_eq_true])
    | (refine hC ?_ ?_ ?_ ?_ ?_
       rotate_left
       · rfl
       · simp only [go_sem, ↓reduceIte, reduceCtorEq, Nat.reduceLT, Nat.reduceEqDiff, Nat.reduceBEq, Nat.reduceAdd, Nat.reduceSub, Nat.reduceMul, Nat.reduceLeDiff, Int.reduceLE, Int.reduceLT, Int.reduceNeg, Int.reduceEq, Int.reduceBEq, Int.reduceBNe, Int.reduceToNat, List.append_eq, l1, l2, l3, hg, a6', eGram, eWords, heq, beq_self_eq_true]
       · simp only [go_sem, ↓reduceIte, reduceCtorEq, Nat.reduceLT, Nat.reduceEqDiff, Nat.reduceBEq, Nat.reduceAdd, Nat.reduceSub, Nat.reduceMul, Nat.reduceLeDiff, Int.reduceLE, Int.reduceLT, Int.reduceNeg, Int.reduceEq, Int.reduceBEq, Int.reduceBNe, Int.reduceToNat, List.append_eq, l1, l2, l3, hg, a6', eGram, eWords, heq, beq_self_eq_true]
         first | (refine And.intro ?_ ?_; exact c1; first | exact trivial | (simp only [go_sem, ↓reduceIte, reduceCtorEq, Nat.reduceLT, Nat.reduceEqDiff, Nat.reduceBEq, Nat.reduceAdd, Nat.reduceSub, Nat.reduceMul, Nat.reduceLeDiff, Int.reduceLE, Int.reduceLT, Int.reduceNeg, Int.reduceEq, Int.reduceBEq, Int.reduceBNe, Int.reduceToNat, List.append_eq, l1, l2, l3, hg, a6', eGram, eWords, heq, beq_self_eq_true]; done)) | (refine And.intro (ACalls.args (k := ?_) ?_ ?_) ?_; rotate_left; exact c1; repeat' (first | exact trivial | exact Or.inl ⟨rfl, rfl⟩ | exact Or.inr rfl | apply And.intro))
       simp only [go_sem, ↓reduceIte, reduceCtorEq, Nat.reduceLT, Nat.reduceEqDiff, Nat.reduceBEq, Nat.reduceAdd, Nat.reduceSub, Nat.reduceMul, Nat.reduceLeDiff, Int.reduceLE, Int.reduceLT, Int.reduceNeg, Int.reduceEq, Int.reduceBEq, Int.reduceBNe, Int.reduceToNat, List.append_eq, l1, l2, l3, hg, a6', eGram, eWords, heq, beq_self_eq_true])
    | (refine hC ?_ ?_ ?_ ?_ ?_
       rotate_left
       · rfl
       · simp only [go_sem, ↓reduceIte, reduceCtorEq, Nat.reduceLT, Nat.reduceEqDiff, Nat.reduceBEq, Nat.reduceAdd, Nat.reduceSub, Nat.reduceMul, Nat.reduceLeDiff, Int.reduceLE, Int.reduceLT, Int.reduceNeg, Int.reduceEq, Int.reduceBEq, Int.reduceBNe, Int.reduceToNat, List.append_eq, l1, l2, l3, hg, a6', eGram, eWords, heq, beq_self_eq_true]
       · simp only [go_sem, ↓reduceIte, reduceCtorEq, Nat.reduceLT, Nat.reduceEqDiff, Nat.reduceBEq, Nat.reduceAdd, Nat.reduceSub, Nat.reduceMul, Nat.reduceLeDiff, Int.reduceLE, Int.reduceLT, Int.reduceNeg, Int.reduceEq, Int.reduceBEq, Int.reduceBNe, Int.reduceToNat, List.append_eq, l1, l2, l3, hg, a6', eGram, eWords, heq, beq_self_eq_true]
         first | (refine And.intro ?_ ?_; exact c2; first | exact trivial | (simp only [go_sem, ↓reduceIte, reduceCtorEq, Nat.reduceLT, Nat.reduceEqDiff, Nat.reduceBEq, Nat.reduceAdd, Nat.reduceSub, Nat.reduceMul, Nat.reduceLeDiff, Int.reduceLE, Int.reduceLT, Int.reduceNeg, Int.reduceEq, Int.reduceBEq, Int.reduceBNe, Int.reduceToNat, List.append_eq, l1, l2, l3, hg, a6', eGram, eWords, heq, beq_self_eq_true]; done)) | (refine And.intro (ACalls.args (k := ?_) ?_ ?_) ?_; rotate_left; exact c2; repeat' (first | exact trivial | exact Or.inl ⟨rfl, rfl⟩ | exact Or.inr rfl | apply And.intro))
       simp only [go_sem, ↓reduceIte, reduceCtorEq, Nat.reduceLT, Nat.reduceEqDiff, Nat.reduceBEq, Nat.reduceAdd, Nat.reduceSub, Nat.reduceMul, Nat.reduceLeDiff, Int.reduceLE, Int.reduceLT, Int.reduceNeg, Int.reduceEq, Int.reduceBEq, Int.reduceBNe, Int.reduceToNat, List.append_eq, l1, l2, l3, hg, a6', eGram, eWords, heq, beq_self_eq_true])
    | (refine hC ?_ ?_ ?_ ?_ ?_
       rotate_left
       · rfl
       · simp only [go_sem, ↓reduceIte, reduceCtorEq, Nat.reduceLT, Nat.reduceEqDiff, Nat.reduceBEq, Nat.reduceAdd, Nat.reduceSub, Nat.reduceMul, Nat.reduceLeDiff, Int.reduceLE, Int.reduceLT, Int.reduceNeg, Int.reduceEq, Int.reduceBEq, Int.reduceBNe, Int.reduceToNat, List.append_eq, l1, l2, l3, hg, a6', eGram, eWords, heq, beq_self_eq_true]
       · simp only [go_sem, ↓reduceIte, reduceCtorEq, Nat.reduceLT, Nat.reduceEqDiff, Nat.reduceBEq, Nat.reduceAdd, Nat.reduceSub, Nat.reduceMul, Nat.reduceLeDiff, Int.reduceLE, Int.reduceLT, Int.reduceNeg, Int.reduceEq, Int.reduceBEq, Int.reduceBNe, Int.reduceToNat, List.append_eq, l1, l2, l3, hg, a6', eGram, eWords, heq, beq_self_eq_true]
         first | (refine And.intro ?_ ?_; exact c3; first | exact trivial | (simp only [go_sem, ↓reduceIte, reduceCtorEq, Nat.reduceLT, Nat.reduceEqDiff, Nat.reduceBEq, Nat.reduceAdd, Nat.reduceSub, Nat.reduceMul, Nat.reduceLeDiff, Int.reduceLE, Int.reduceLT, Int.reduceNeg, Int.reduceEq, Int.reduceBEq, Int.reduceBNe, Int.reduceToNat, List.append_eq, l1, l2, l3, hg, a6', eGram, eWords, heq, beq_self_eq_true]; done)) | (refine And.intro (ACalls.args (k := ?_) ?_ ?_) ?_; rotate_left; exact c3; repeat' (first | exact trivial | exact Or.inl ⟨rfl, rfl⟩ | exact Or.inr rfl | apply And.intro))
       simp only [go_sem, ↓reduceIte, reduceCtorEq, Nat.reduceLT, Nat.reduceEqDiff, Nat.reduceBEq, Nat.reduceAdd, Nat.reduceSub, Nat.reduceMul, Nat.reduceLeDiff, Int.reduceLE, Int.reduceLT, Int.reduceNeg, Int.reduceEq, Int.reduceBEq, Int.reduceBNe, Int.reduceToNat, List.append_eq, l1, l2, l3, hg, a6', eGram, eWords, heq, beq_self_eq_true])
    | (refine hC ?_ ?_ ?_ ?_ ?_
       rotate_left
       · rfl
       · simp only [go_sem, ↓reduceIte, reduceCtorEq, Nat.reduceLT, Nat.reduceEqDiff, Nat.reduceBEq, Nat.reduceAdd, Nat.reduceSub, Nat.reduceMul, Nat.reduceLeDiff, Int.reduceLE, Int.reduceLT, Int.reduceNeg, Int.reduceEq, Int.reduceBEq, Int.reduceBNe, Int.reduceToNat, List.append_eq, l1, l2, l3, hg, a6', eGram, eWords, heq, beq_self_eq_true]
       · simp only [go_sem, ↓reduceIte, reduceCtorEq, Nat.reduceLT, Nat.reduceEqDiff, Nat.reduceBEq, Nat.reduceAdd, Nat.reduceSub, Nat.reduceMul, Nat.reduceLeDiff, Int.reduceLE, Int.reduceLT, Int.reduceNeg, Int.reduceEq, Int.reduceBEq, Int.reduceBNe, Int.reduceToNat, List.append_eq, l1, l2, l3, hg, a6', eGram, eWords, heq, beq_self_eq_true]
         first | (refine And.intro ?_ ?_; exact c4; first | exact trivial | (simp only [go_sem, ↓reduceIte, reduceCtorEq, Nat.reduceLT, Nat.reduceEqDiff, Nat.reduceBEq, Nat.reduceAdd, Nat.reduceSub, Nat.reduceMul, Nat.reduceLeDiff, Int.reduceLE, Int.reduceLT, Int.reduceNeg, Int.reduceEq, Int.reduceBEq, Int.reduceBNe, Int.reduceToNat, List.append_eq, l1, l2, l3, hg, a6', eGram, eWords, heq, beq_self_eq_true]; done)) | (refine And.intro (ACalls.args (k := ?_) ?_ ?_) ?_; rotate_left; exact c4; repeat' (first | exact trivial | exact Or.inl ⟨rfl, rfl⟩ | exact Or.inr rfl | apply And.intro))
       simp only [go_sem, ↓reduceIte, reduceCtorEq, Nat.reduceLT, Nat.reduceEqDiff, Nat.reduceBEq, Nat.reduceAdd, Nat.reduceSub, Nat.reduceMul, Nat.reduceLeDiff, Int.reduceLE, Int.reduceLT, Int.reduceNeg, Int.reduceEq, Int.reduceBEq, Int.reduceBNe, Int.reduceToNat, List.append_eq, l1, l2, l3, hg, a6', eGram, eWords, heq, beq_self_eq_true])
    | (refine hK _ _ ?_; clear hK hC; clear K C)
    | (refine hK _ _ rfl ?_; clear hK hC; clear K C)
    | (refine hK _ _ (by simp only [crs, crsI, alfO, alfL, Nat.reduceLT]; rfl) ?_; clear hK hC; clear K C)
    | (refine AW.seqR fun K C hK hC => ?_; simp only [go_sem, ↓reduceIte, reduceCtorEq, Nat.reduceLT, Nat.reduceEqDiff, Nat.reduceBEq, Nat.reduceAdd, Nat.reduceSub, Nat.reduceMul, Nat.reduceLeDiff, Int.reduceLE, Int.reduceLT, Int.reduceNeg, Int.reduceEq, Int.reduceBEq, Int.reduceBNe, Int.reduceToNat, List.append_eq, l1, l2, l3, hg, a6', eGram, eWords, heq, beq_self_eq_true])
    | (refine AW.seqD rfl fun K C hK hC => ?_; simp only [go_sem, ↓reduceIte, reduceCtorEq, Nat.reduceLT, Nat.reduceEqDiff, Nat.reduceBEq, Nat.reduceAdd, Nat.reduceSub, Nat.reduceMul, Nat.reduceLeDiff, Int.reduceLE, Int.reduceLT, Int.reduceNeg, Int.reduceEq, Int.reduceBEq, Int.reduceBNe, Int.reduceToNat, List.append_eq, l1, l2, l3, hg, a6', eGram, eWords, heq, beq_self_eq_true])
    | (refine AW.reg fun K C hK hC => ?_; simp only [go_sem, ↓reduceIte, reduceCtorEq, Nat.reduceLT, Nat.reduceEqDiff, Nat.reduceBEq, Nat.reduceAdd, Nat.reduceSub, Nat.reduceMul, Nat.reduceLeDiff, Int.reduceLE, Int.reduceLT, Int.reduceNeg, Int.reduceEq, Int.reduceBEq, Int.reduceBNe, Int.reduceToNat, List.append_eq, l1, l2, l3, hg, a6', eGram, eWords, heq, beq_self_eq_true])
    | (refine AW.regD rfl fun K C hK hC => ?_; simp only [go_sem, ↓reduceIte, reduceCtorEq, Nat.reduceLT, Nat.reduceEqDiff, Nat.reduceBEq, Nat.reduceAdd, Nat.reduceSub, Nat.reduceMul, Nat.reduceLeDiff, Int.reduceLE, Int.reduceLT, Int.reduceNeg, Int.reduceEq, Int.reduceBEq, Int.reduceBNe, Int.reduceToNat, List.append_eq, l1, l2, l3, hg, a6', eGram, eWords, heq, beq_self_eq_true])
    | refine AW.seqS ?_
    | (refine AW.ret ?_; simp only [go_sem, ↓reduceIte, reduceCtorEq, Nat.reduceLT, Nat.reduceEqDiff, Nat.reduceBEq, Nat.reduceAdd, Nat.reduceSub, Nat.reduceMul, Nat.reduceLeDiff, Int.reduceLE, Int.reduceLT, Int.reduceNeg, Int.reduceEq, Int.reduceBEq, Int.reduceBNe, Int.reduceToNat, List.append_eq, l1, l2, l3, hg, a6', eGram, eWords, heq, beq_self_eq_true])
    | (refine AW.cond rfl (fun h => ?_) (fun h => ?_) <;> (try simp only [decide_eq_true_eq, decide_eq_false_iff_not, bne_iff_ne, beq_iff_eq, bne_eq_false_iff_eq, beq_eq_false_iff_ne, ne_eq, ge_iff_le, gt_iff_lt, Bool.not_eq_true, Bool.not_eq_false, Bool.not_not, Bool.not_true, Bool.not_false, Int.not_le, Int.not_lt, not_true_eq_false, not_false_eq_true, reduceCtorEq, Bool.false_eq_true, Bool.not_eq_true', Bool.not_eq_false'] at h) <;> first | (exfalso; omega) | skip)
    | refine AW.skip ?_
    | refine AW.seq ?_
    | refine AW.block ?_
    | (refine AW.exit ?_; simp only [go_sem, ↓reduceIte, reduceCtorEq, Nat.reduceLT, Nat.reduceEqDiff, Nat.reduceBEq, Nat.reduceAdd, Nat.reduceSub, Nat.reduceMul, Nat.reduceLeDiff, Int.reduceLE, Int.reduceLT, Int.reduceNeg, Int.reduceEq, Int.reduceBEq, Int.reduceBNe, Int.reduceToNat, List.append_eq, l1, l2, l3, hg, a6', eGram, eWords, heq, beq_self_eq_true])
    | (refine ite_on (fun h => ?_) (fun h => ?_) <;> (try simp only [decide_eq_true_eq, decide_eq_false_iff_not, bne_iff_ne, beq_iff_eq, bne_eq_false_iff_eq, beq_eq_false_iff_ne, ne_eq, ge_iff_le, gt_iff_lt, Bool.not_eq_true, Bool.not_eq_false, Bool.not_not, Bool.not_true, Bool.not_false, Int.not_le, Int.not_lt, not_true_eq_false, not_false_eq_true, reduceCtorEq, Bool.false_eq_true, Bool.not_eq_true', Bool.not_eq_false'] at h) <;> first | (exfalso; omega) | skip)
    | rw [thenN]
    | rw [blockN]
    | rw [scopeN]
    | refine AW.scope ?_
    | refine AW.label ?_
    | refine And.intro ?_ ?_
    | refine lcons rfl ?_
    | exact lGram _
    | exact lSeen _
    | exact lWord _
    | exact lSealed _
    | exact lRun _
    | exact lPerson _
    | exact lEvent _
    | exact lLeak _
    | exact lNum _
    | exact lOprn _
    | exact in64 (by omega) (by omega)
    | exact in32 (by omega) (by omega)
    | omega)
def fitsM14 (w : Wld) (m : Mssg) : Bool := fewW w && (formW w && (m.kind == 7 && mayM m))
set_option maxHeartbeats 8000000 in
theorem l14_fits (w : Wld) (m : Mssg) : ACalls Tryz.prog 6 [.agg (eWld w), .agg (eMssg m)] (rB (fitsM14 w m)) := by
  refine ACalls.intro (fn := Tryz.f6) Tryz.func6 rfl rfl (by simp [Tryz.f6]) ?_
  have c1 := q12_few w
  have c2 := q12_form w
  have c3 := q03_may m
  unfold Tryz.f6
  unfold fitsM14
  generalize fewW w = b1 at *
  generalize formW w = b2 at *
  generalize mayM m = b3 at *
  simp only [eWld, eMssg, eSealeds, eGrams, ePeople, eEvents, eRows, eWords, eLeaks, rB] at *
  cases hk : (m.kind == 7) <;> cases b1 <;> cases b2 <;> cases b3
  all_goals repeat' (first
    | (refine hC ?_ ?_ ?_ ?_ ?_
       rotate_left
       · rfl
       · simp only [go_sem, ↓reduceIte, reduceCtorEq, Nat.reduceLT, Nat.reduceEqDiff, Nat.reduceBEq, Nat.reduceAdd, Nat.reduceSub, Nat.reduceMul, Nat.reduceLeDiff, Int.reduceLE, Int.reduceLT, Int.reduceNeg, Int.reduceEq, Int.reduceBEq, Int.reduceBNe, Int.reduceToNat, hk]
       · simp only [go_sem, ↓reduceIte, reduceCtorEq, Nat.reduceLT, Nat.reduceEqDiff, Nat.reduceBEq, Nat.reduceAdd, Nat.reduceSub, Nat.reduceMul, Nat.reduceLeDiff, Int.reduceLE, Int.reduceLT, Int.reduceNeg, Int.reduceEq, Int.reduceBEq, Int.reduceBNe, Int.reduceToNat, hk]
         first | (refine And.intro ?_ ?_; exact c1; first | exact trivial | (simp only [go_sem, ↓reduceIte, reduceCtorEq, Nat.reduceLT, Nat.reduceEqDiff, Nat.reduceBEq, Nat.reduceAdd, Nat.reduceSub, Nat.reduceMul, Nat.reduceLeDiff, Int.reduceLE, Int.reduceLT, Int.reduceNeg, Int.reduceEq, Int.reduceBEq, Int.reduceBNe, Int.reduceToNat, hk]; done)) | (refine And.intro (ACalls.args (k := ?_) ?_ ?_) ?_; rotate_left; exact c1; repeat' (first | exact trivial | exact Or.inl ⟨rfl, rfl⟩ | exact Or.inr rfl | apply And.intro))
       simp only [go_sem, ↓reduceIte, reduceCtorEq, Nat.reduceLT, Nat.reduceEqDiff, Nat.reduceBEq, Nat.reduceAdd, Nat.reduceSub, Nat.reduceMul, Nat.reduceLeDiff, Int.reduceLE, Int.reduceLT, Int.reduceNeg, Int.reduceEq, Int.reduceBEq, Int.reduceBNe, Int.reduceToNat, hk])
    | (refine hC ?_ ?_ ?_ ?_ ?_
       rotate_left
       · rfl
       · simp only [go_sem, ↓reduceIte, reduceCtorEq, Nat.reduceLT, Nat.reduceEqDiff, Nat.reduceBEq, Nat.reduceAdd, Nat.reduceSub, Nat.reduceMul, Nat.reduceLeDiff, Int.reduceLE, Int.reduceLT, Int.reduceNeg, Int.reduceEq, Int.reduceBEq, Int.reduceBNe, Int.reduceToNat, hk]
       · simp only [go_sem, ↓reduceIte, reduceCtorEq, Nat.reduceLT, Nat.reduceEqDiff, Nat.reduceBEq, Nat.reduceAdd, Nat.reduceSub, Nat.reduceMul, Nat.reduceLeDiff, Int.reduceLE, Int.reduceLT, Int.reduceNeg, Int.reduceEq, Int.reduceBEq, Int.reduceBNe, Int.reduceToNat, hk]
         first | (refine And.intro ?_ ?_; exact c2; first | exact trivial | (simp only [go_sem, ↓reduceIte, reduceCtorEq, Nat.reduceLT, Nat.reduceEqDiff, Nat.reduceBEq, Nat.reduceAdd, Nat.reduceSub, Nat.reduceMul, Nat.reduceLeDiff, Int.reduceLE, Int.reduceLT, Int.reduceNeg, Int.reduceEq, Int.reduceBEq, Int.reduceBNe, Int.reduceToNat, hk]; done)) | (refine And.intro (ACalls.args (k := ?_) ?_ ?_) ?_; rotate_left; exact c2; repeat' (first | exact trivial | exact Or.inl ⟨rfl, rfl⟩ | exact Or.inr rfl | apply And.intro))
       simp only [go_sem, ↓reduceIte, reduceCtorEq, Nat.reduceLT, Nat.reduceEqDiff, Nat.reduceBEq, Nat.reduceAdd, Nat.reduceSub, Nat.reduceMul, Nat.reduceLeDiff, Int.reduceLE, Int.reduceLT, Int.reduceNeg, Int.reduceEq, Int.reduceBEq, Int.reduceBNe, Int.reduceToNat, hk])
    | (refine hC ?_ ?_ ?_ ?_ ?_
       rotate_left
       · rfl
       · simp only [go_sem, ↓reduceIte, reduceCtorEq, Nat.reduceLT, Nat.reduceEqDiff, Nat.reduceBEq, Nat.reduceAdd, Nat.reduceSub, Nat.reduceMul, Nat.reduceLeDiff, Int.reduceLE, Int.reduceLT, Int.reduceNeg, Int.reduceEq, Int.reduceBEq, Int.reduceBNe, Int.reduceToNat, hk]
       · simp only [go_sem, ↓reduceIte, reduceCtorEq, Nat.reduceLT, Nat.reduceEqDiff, Nat.reduceBEq, Nat.reduceAdd, Nat.reduceSub, Nat.reduceMul, Nat.reduceLeDiff, Int.reduceLE, Int.reduceLT, Int.reduceNeg, Int.reduceEq, Int.reduceBEq, Int.reduceBNe, Int.reduceToNat, hk]
         first | (refine And.intro ?_ ?_; exact c3; first | exact trivial | (simp only [go_sem, ↓reduceIte, reduceCtorEq, Nat.reduceLT, Nat.reduceEqDiff, Nat.reduceBEq, Nat.reduceAdd, Nat.reduceSub, Nat.reduceMul, Nat.reduceLeDiff, Int.reduceLE, Int.reduceLT, Int.reduceNeg, Int.reduceEq, Int.reduceBEq, Int.reduceBNe, Int.reduceToNat, hk]; done)) | (refine And.intro (ACalls.args (k := ?_) ?_ ?_) ?_; rotate_left; exact c3; repeat' (first | exact trivial | exact Or.inl ⟨rfl, rfl⟩ | exact Or.inr rfl | apply And.intro))
       simp only [go_sem, ↓reduceIte, reduceCtorEq, Nat.reduceLT, Nat.reduceEqDiff, Nat.reduceBEq, Nat.reduceAdd, Nat.reduceSub, Nat.reduceMul, Nat.reduceLeDiff, Int.reduceLE, Int.reduceLT, Int.reduceNeg, Int.reduceEq, Int.reduceBEq, Int.reduceBNe, Int.reduceToNat, hk])
    | (refine hK _ _ ?_; clear hK hC; clear K C)
    | (refine hK _ _ rfl ?_; clear hK hC; clear K C)
    | (refine hK _ _ (by simp only [crs, crsI, alfO, alfL, Nat.reduceLT]; rfl) ?_; clear hK hC; clear K C)
    | (refine AW.seqR fun K C hK hC => ?_; simp only [go_sem, ↓reduceIte, reduceCtorEq, Nat.reduceLT, Nat.reduceEqDiff, Nat.reduceBEq, Nat.reduceAdd, Nat.reduceSub, Nat.reduceMul, Nat.reduceLeDiff, Int.reduceLE, Int.reduceLT, Int.reduceNeg, Int.reduceEq, Int.reduceBEq, Int.reduceBNe, Int.reduceToNat, hk])
    | (refine AW.seqD rfl fun K C hK hC => ?_; simp only [go_sem, ↓reduceIte, reduceCtorEq, Nat.reduceLT, Nat.reduceEqDiff, Nat.reduceBEq, Nat.reduceAdd, Nat.reduceSub, Nat.reduceMul, Nat.reduceLeDiff, Int.reduceLE, Int.reduceLT, Int.reduceNeg, Int.reduceEq, Int.reduceBEq, Int.reduceBNe, Int.reduceToNat, hk])
    | (refine AW.reg fun K C hK hC => ?_; simp only [go_sem, ↓reduceIte, reduceCtorEq, Nat.reduceLT, Nat.reduceEqDiff, Nat.reduceBEq, Nat.reduceAdd, Nat.reduceSub, Nat.reduceMul, Nat.reduceLeDiff, Int.reduceLE, Int.reduceLT, Int.reduceNeg, Int.reduceEq, Int.reduceBEq, Int.reduceBNe, Int.reduceToNat, hk])
    | (refine AW.regD rfl fun K C hK hC => ?_; simp only [go_sem, ↓reduceIte, reduceCtorEq, Nat.reduceLT, Nat.reduceEqDiff, Nat.reduceBEq, Nat.reduceAdd, Nat.reduceSub, Nat.reduceMul, Nat.reduceLeDiff, Int.reduceLE, Int.reduceLT, Int.reduceNeg, Int.reduceEq, Int.reduceBEq, Int.reduceBNe, Int.reduceToNat, hk])
    | refine AW.seqS ?_
    | (refine AW.ret ?_; simp only [go_sem, ↓reduceIte, reduceCtorEq, Nat.reduceLT, Nat.reduceEqDiff, Nat.reduceBEq, Nat.reduceAdd, Nat.reduceSub, Nat.reduceMul, Nat.reduceLeDiff, Int.reduceLE, Int.reduceLT, Int.reduceNeg, Int.reduceEq, Int.reduceBEq, Int.reduceBNe, Int.reduceToNat, hk])
    | (refine AW.cond rfl (fun h => ?_) (fun h => ?_) <;> (try simp only [decide_eq_true_eq, decide_eq_false_iff_not, bne_iff_ne, beq_iff_eq, bne_eq_false_iff_eq, beq_eq_false_iff_ne, ne_eq, ge_iff_le, gt_iff_lt, Bool.not_eq_true, Bool.not_eq_false, Bool.not_not, Bool.not_true, Bool.not_false, Int.not_le, Int.not_lt, not_true_eq_false, not_false_eq_true, reduceCtorEq, Bool.false_eq_true, Bool.not_eq_true', Bool.not_eq_false'] at h) <;> first | (exfalso; omega) | skip)
    | refine AW.skip ?_
    | refine AW.seq ?_
    | refine AW.block ?_
    | (refine AW.exit ?_; simp only [go_sem, ↓reduceIte, reduceCtorEq, Nat.reduceLT, Nat.reduceEqDiff, Nat.reduceBEq, Nat.reduceAdd, Nat.reduceSub, Nat.reduceMul, Nat.reduceLeDiff, Int.reduceLE, Int.reduceLT, Int.reduceNeg, Int.reduceEq, Int.reduceBEq, Int.reduceBNe, Int.reduceToNat, hk])
    | (refine ite_on (fun h => ?_) (fun h => ?_) <;> (try simp only [decide_eq_true_eq, decide_eq_false_iff_not, bne_iff_ne, beq_iff_eq, bne_eq_false_iff_eq, beq_eq_false_iff_ne, ne_eq, ge_iff_le, gt_iff_lt, Bool.not_eq_true, Bool.not_eq_false, Bool.not_not, Bool.not_true, Bool.not_false, Int.not_le, Int.not_lt, not_true_eq_false, not_false_eq_true, reduceCtorEq, Bool.false_eq_true, Bool.not_eq_true', Bool.not_eq_false'] at h) <;> first | (exfalso; omega) | skip)
    | rw [thenN]
    | rw [blockN]
    | rw [scopeN]
    | refine AW.scope ?_
    | refine AW.label ?_
    | refine And.intro ?_ ?_
    | refine lcons rfl ?_
    | exact lGram _
    | exact lSeen _
    | exact lWord _
    | exact lSealed _
    | exact lRun _
    | exact lPerson _
    | exact lEvent _
    | exact lLeak _
    | exact lNum _
    | exact lOprn _
    | exact in64 (by omega) (by omega)
    | exact in32 (by omega) (by omega)
    | omega)
set_option maxHeartbeats 16000000 in
theorem l14_grants (w : Wld) (m : Mssg) : ACalls Tryz.prog 3 [.agg (eWld w), .agg (eMssg m)] (rB true) := by
  refine ACalls.intro (fn := Tryz.f3) Tryz.func3 rfl rfl (by simp [Tryz.f3]) ?_
  have aw := l14_awake
  have ft := l14_fits w m
  unfold Tryz.f3
  cases hF : fitsM14 w m
  · rw [hF] at ft
    simp only [eWld, eMssg, eSealeds, eGrams, ePeople, eEvents, eRows, eWords, eLeaks, rB] at *
    repeat' (first
    | (refine hC ?_ ?_ ?_ ?_ ?_
       rotate_left
       · rfl
       · simp only [go_sem, ↓reduceIte, reduceCtorEq, Nat.reduceLT, Nat.reduceEqDiff, Nat.reduceBEq, Nat.reduceAdd, Nat.reduceSub, Nat.reduceMul, Nat.reduceLeDiff, Int.reduceLE, Int.reduceLT, Int.reduceNeg, Int.reduceEq, Int.reduceBEq, Int.reduceBNe, Int.reduceToNat]
       · simp only [go_sem, ↓reduceIte, reduceCtorEq, Nat.reduceLT, Nat.reduceEqDiff, Nat.reduceBEq, Nat.reduceAdd, Nat.reduceSub, Nat.reduceMul, Nat.reduceLeDiff, Int.reduceLE, Int.reduceLT, Int.reduceNeg, Int.reduceEq, Int.reduceBEq, Int.reduceBNe, Int.reduceToNat]
         first | (refine And.intro ?_ ?_; exact aw; first | exact trivial | (simp only [go_sem, ↓reduceIte, reduceCtorEq, Nat.reduceLT, Nat.reduceEqDiff, Nat.reduceBEq, Nat.reduceAdd, Nat.reduceSub, Nat.reduceMul, Nat.reduceLeDiff, Int.reduceLE, Int.reduceLT, Int.reduceNeg, Int.reduceEq, Int.reduceBEq, Int.reduceBNe, Int.reduceToNat]; done)) | (refine And.intro (ACalls.args (k := ?_) ?_ ?_) ?_; rotate_left; exact aw; repeat' (first | exact trivial | exact Or.inl ⟨rfl, rfl⟩ | exact Or.inr rfl | apply And.intro))
       simp only [go_sem, ↓reduceIte, reduceCtorEq, Nat.reduceLT, Nat.reduceEqDiff, Nat.reduceBEq, Nat.reduceAdd, Nat.reduceSub, Nat.reduceMul, Nat.reduceLeDiff, Int.reduceLE, Int.reduceLT, Int.reduceNeg, Int.reduceEq, Int.reduceBEq, Int.reduceBNe, Int.reduceToNat])
    | (refine hC ?_ ?_ ?_ ?_ ?_
       rotate_left
       · rfl
       · simp only [go_sem, ↓reduceIte, reduceCtorEq, Nat.reduceLT, Nat.reduceEqDiff, Nat.reduceBEq, Nat.reduceAdd, Nat.reduceSub, Nat.reduceMul, Nat.reduceLeDiff, Int.reduceLE, Int.reduceLT, Int.reduceNeg, Int.reduceEq, Int.reduceBEq, Int.reduceBNe, Int.reduceToNat]
       · simp only [go_sem, ↓reduceIte, reduceCtorEq, Nat.reduceLT, Nat.reduceEqDiff, Nat.reduceBEq, Nat.reduceAdd, Nat.reduceSub, Nat.reduceMul, Nat.reduceLeDiff, Int.reduceLE, Int.reduceLT, Int.reduceNeg, Int.reduceEq, Int.reduceBEq, Int.reduceBNe, Int.reduceToNat]
         first | (refine And.intro ?_ ?_; exact ft; first | exact trivial | (simp only [go_sem, ↓reduceIte, reduceCtorEq, Nat.reduceLT, Nat.reduceEqDiff, Nat.reduceBEq, Nat.reduceAdd, Nat.reduceSub, Nat.reduceMul, Nat.reduceLeDiff, Int.reduceLE, Int.reduceLT, Int.reduceNeg, Int.reduceEq, Int.reduceBEq, Int.reduceBNe, Int.reduceToNat]; done)) | (refine And.intro (ACalls.args (k := ?_) ?_ ?_) ?_; rotate_left; exact ft; repeat' (first | exact trivial | exact Or.inl ⟨rfl, rfl⟩ | exact Or.inr rfl | apply And.intro))
       simp only [go_sem, ↓reduceIte, reduceCtorEq, Nat.reduceLT, Nat.reduceEqDiff, Nat.reduceBEq, Nat.reduceAdd, Nat.reduceSub, Nat.reduceMul, Nat.reduceLeDiff, Int.reduceLE, Int.reduceLT, Int.reduceNeg, Int.reduceEq, Int.reduceBEq, Int.reduceBNe, Int.reduceToNat])
    | (refine hK _ _ ?_; clear hK hC; clear K C)
    | (refine hK _ _ rfl ?_; clear hK hC; clear K C)
    | (refine hK _ _ (by simp only [crs, crsI, alfO, alfL, Nat.reduceLT]; rfl) ?_; clear hK hC; clear K C)
    | (refine AW.seqR fun K C hK hC => ?_; simp only [go_sem, ↓reduceIte, reduceCtorEq, Nat.reduceLT, Nat.reduceEqDiff, Nat.reduceBEq, Nat.reduceAdd, Nat.reduceSub, Nat.reduceMul, Nat.reduceLeDiff, Int.reduceLE, Int.reduceLT, Int.reduceNeg, Int.reduceEq, Int.reduceBEq, Int.reduceBNe, Int.reduceToNat])
    | (refine AW.seqD rfl fun K C hK hC => ?_; simp only [go_sem, ↓reduceIte, reduceCtorEq, Nat.reduceLT, Nat.reduceEqDiff, Nat.reduceBEq, Nat.reduceAdd, Nat.reduceSub, Nat.reduceMul, Nat.reduceLeDiff, Int.reduceLE, Int.reduceLT, Int.reduceNeg, Int.reduceEq, Int.reduceBEq, Int.reduceBNe, Int.reduceToNat])
    | (refine AW.reg fun K C hK hC => ?_; simp only [go_sem, ↓reduceIte, reduceCtorEq, Nat.reduceLT, Nat.reduceEqDiff, Nat.reduceBEq, Nat.reduceAdd, Nat.reduceSub, Nat.reduceMul, Nat.reduceLeDiff, Int.reduceLE, Int.reduceLT, Int.reduceNeg, Int.reduceEq, Int.reduceBEq, Int.reduceBNe, Int.reduceToNat])
    | (refine AW.regD rfl fun K C hK hC => ?_; simp only [go_sem, ↓reduceIte, reduceCtorEq, Nat.reduceLT, Nat.reduceEqDiff, Nat.reduceBEq, Nat.reduceAdd, Nat.reduceSub, Nat.reduceMul, Nat.reduceLeDiff, Int.reduceLE, Int.reduceLT, Int.reduceNeg, Int.reduceEq, Int.reduceBEq, Int.reduceBNe, Int.reduceToNat])
    | refine AW.seqS ?_
    | (refine AW.ret ?_; simp only [go_sem, ↓reduceIte, reduceCtorEq, Nat.reduceLT, Nat.reduceEqDiff, Nat.reduceBEq, Nat.reduceAdd, Nat.reduceSub, Nat.reduceMul, Nat.reduceLeDiff, Int.reduceLE, Int.reduceLT, Int.reduceNeg, Int.reduceEq, Int.reduceBEq, Int.reduceBNe, Int.reduceToNat])
    | (refine AW.cond rfl (fun h => ?_) (fun h => ?_) <;> (try simp only [decide_eq_true_eq, decide_eq_false_iff_not, bne_iff_ne, beq_iff_eq, bne_eq_false_iff_eq, beq_eq_false_iff_ne, ne_eq, ge_iff_le, gt_iff_lt, Bool.not_eq_true, Bool.not_eq_false, Bool.not_not, Bool.not_true, Bool.not_false, Int.not_le, Int.not_lt, not_true_eq_false, not_false_eq_true, reduceCtorEq, Bool.false_eq_true, Bool.not_eq_true', Bool.not_eq_false'] at h) <;> first | (exfalso; omega) | skip)
    | refine AW.skip ?_
    | refine AW.seq ?_
    | refine AW.block ?_
    | (refine AW.exit ?_; simp only [go_sem, ↓reduceIte, reduceCtorEq, Nat.reduceLT, Nat.reduceEqDiff, Nat.reduceBEq, Nat.reduceAdd, Nat.reduceSub, Nat.reduceMul, Nat.reduceLeDiff, Int.reduceLE, Int.reduceLT, Int.reduceNeg, Int.reduceEq, Int.reduceBEq, Int.reduceBNe, Int.reduceToNat])
    | (refine ite_on (fun h => ?_) (fun h => ?_) <;> (try simp only [decide_eq_true_eq, decide_eq_false_iff_not, bne_iff_ne, beq_iff_eq, bne_eq_false_iff_eq, beq_eq_false_iff_ne, ne_eq, ge_iff_le, gt_iff_lt, Bool.not_eq_true, Bool.not_eq_false, Bool.not_not, Bool.not_true, Bool.not_false, Int.not_le, Int.not_lt, not_true_eq_false, not_false_eq_true, reduceCtorEq, Bool.false_eq_true, Bool.not_eq_true', Bool.not_eq_false'] at h) <;> first | (exfalso; omega) | skip)
    | rw [thenN]
    | rw [blockN]
    | rw [scopeN]
    | refine AW.scope ?_
    | refine AW.label ?_
    | refine And.intro ?_ ?_
    | refine lcons rfl ?_
    | exact lGram _
    | exact lSeen _
    | exact lWord _
    | exact lSealed _
    | exact lRun _
    | exact lPerson _
    | exact lEvent _
    | exact lLeak _
    | exact lNum _
    | exact lOprn _
    | exact in64 (by omega) (by omega)
    | exact in32 (by omega) (by omega)
    | omega)
  · rw [hF] at ft
    unfold fitsM14 at hF
    simp only [Bool.and_eq_true, beq_iff_eq] at hF
    obtain ⟨h1, h2, h3, h4⟩ := hF
    have sm : SmallN 10 w := smallN_of (by decide) h1 h2
    obtain ⟨_, hb, _, hn, _⟩ := formW_iff h2
    have c1 := p14_share w m h2 sm h3 h4
    have d1 := q14_share w m sm hb hn (by have := (person_used h2 0).1; omega)
    have s1 := q12_same (shareW w m).1 (shareW w m).1
    rw [decide_eq_true rfl] at s1
    clear h1 h2 h3 h4 sm hb hn
    generalize shareW w m = a at *
    simp only [eWld, eMssg, eSealeds, eGrams, ePeople, eEvents, eRows, eWords, eLeaks, rB] at *
    repeat' (first
    | (refine hC ?_ ?_ ?_ ?_ ?_
       rotate_left
       · rfl
       · simp only [go_sem, ↓reduceIte, reduceCtorEq, Nat.reduceLT, Nat.reduceEqDiff, Nat.reduceBEq, Nat.reduceAdd, Nat.reduceSub, Nat.reduceMul, Nat.reduceLeDiff, Int.reduceLE, Int.reduceLT, Int.reduceNeg, Int.reduceEq, Int.reduceBEq, Int.reduceBNe, Int.reduceToNat, List.append_eq, beq_self_eq_true]
       · simp only [go_sem, ↓reduceIte, reduceCtorEq, Nat.reduceLT, Nat.reduceEqDiff, Nat.reduceBEq, Nat.reduceAdd, Nat.reduceSub, Nat.reduceMul, Nat.reduceLeDiff, Int.reduceLE, Int.reduceLT, Int.reduceNeg, Int.reduceEq, Int.reduceBEq, Int.reduceBNe, Int.reduceToNat, List.append_eq, beq_self_eq_true]
         first | (refine And.intro ?_ ?_; exact aw; first | exact trivial | (simp only [go_sem, ↓reduceIte, reduceCtorEq, Nat.reduceLT, Nat.reduceEqDiff, Nat.reduceBEq, Nat.reduceAdd, Nat.reduceSub, Nat.reduceMul, Nat.reduceLeDiff, Int.reduceLE, Int.reduceLT, Int.reduceNeg, Int.reduceEq, Int.reduceBEq, Int.reduceBNe, Int.reduceToNat, List.append_eq, beq_self_eq_true]; done)) | (refine And.intro (ACalls.args (k := ?_) ?_ ?_) ?_; rotate_left; exact aw; repeat' (first | exact trivial | exact Or.inl ⟨rfl, rfl⟩ | exact Or.inr rfl | apply And.intro))
       simp only [go_sem, ↓reduceIte, reduceCtorEq, Nat.reduceLT, Nat.reduceEqDiff, Nat.reduceBEq, Nat.reduceAdd, Nat.reduceSub, Nat.reduceMul, Nat.reduceLeDiff, Int.reduceLE, Int.reduceLT, Int.reduceNeg, Int.reduceEq, Int.reduceBEq, Int.reduceBNe, Int.reduceToNat, List.append_eq, beq_self_eq_true])
    | (refine hC ?_ ?_ ?_ ?_ ?_
       rotate_left
       · rfl
       · simp only [go_sem, ↓reduceIte, reduceCtorEq, Nat.reduceLT, Nat.reduceEqDiff, Nat.reduceBEq, Nat.reduceAdd, Nat.reduceSub, Nat.reduceMul, Nat.reduceLeDiff, Int.reduceLE, Int.reduceLT, Int.reduceNeg, Int.reduceEq, Int.reduceBEq, Int.reduceBNe, Int.reduceToNat, List.append_eq, beq_self_eq_true]
       · simp only [go_sem, ↓reduceIte, reduceCtorEq, Nat.reduceLT, Nat.reduceEqDiff, Nat.reduceBEq, Nat.reduceAdd, Nat.reduceSub, Nat.reduceMul, Nat.reduceLeDiff, Int.reduceLE, Int.reduceLT, Int.reduceNeg, Int.reduceEq, Int.reduceBEq, Int.reduceBNe, Int.reduceToNat, List.append_eq, beq_self_eq_true]
         first | (refine And.intro ?_ ?_; exact ft; first | exact trivial | (simp only [go_sem, ↓reduceIte, reduceCtorEq, Nat.reduceLT, Nat.reduceEqDiff, Nat.reduceBEq, Nat.reduceAdd, Nat.reduceSub, Nat.reduceMul, Nat.reduceLeDiff, Int.reduceLE, Int.reduceLT, Int.reduceNeg, Int.reduceEq, Int.reduceBEq, Int.reduceBNe, Int.reduceToNat, List.append_eq, beq_self_eq_true]; done)) | (refine And.intro (ACalls.args (k := ?_) ?_ ?_) ?_; rotate_left; exact ft; repeat' (first | exact trivial | exact Or.inl ⟨rfl, rfl⟩ | exact Or.inr rfl | apply And.intro))
       simp only [go_sem, ↓reduceIte, reduceCtorEq, Nat.reduceLT, Nat.reduceEqDiff, Nat.reduceBEq, Nat.reduceAdd, Nat.reduceSub, Nat.reduceMul, Nat.reduceLeDiff, Int.reduceLE, Int.reduceLT, Int.reduceNeg, Int.reduceEq, Int.reduceBEq, Int.reduceBNe, Int.reduceToNat, List.append_eq, beq_self_eq_true])
    | (refine hC ?_ ?_ ?_ ?_ ?_
       rotate_left
       · rfl
       · simp only [go_sem, ↓reduceIte, reduceCtorEq, Nat.reduceLT, Nat.reduceEqDiff, Nat.reduceBEq, Nat.reduceAdd, Nat.reduceSub, Nat.reduceMul, Nat.reduceLeDiff, Int.reduceLE, Int.reduceLT, Int.reduceNeg, Int.reduceEq, Int.reduceBEq, Int.reduceBNe, Int.reduceToNat, List.append_eq, beq_self_eq_true]
       · simp only [go_sem, ↓reduceIte, reduceCtorEq, Nat.reduceLT, Nat.reduceEqDiff, Nat.reduceBEq, Nat.reduceAdd, Nat.reduceSub, Nat.reduceMul, Nat.reduceLeDiff, Int.reduceLE, Int.reduceLT, Int.reduceNeg, Int.reduceEq, Int.reduceBEq, Int.reduceBNe, Int.reduceToNat, List.append_eq, beq_self_eq_true]
         first | (refine And.intro ?_ ?_; exact c1; first | exact trivial | (simp only [go_sem, ↓reduceIte, reduceCtorEq, Nat.reduceLT, Nat.reduceEqDiff, Nat.reduceBEq, Nat.reduceAdd, Nat.reduceSub, Nat.reduceMul, Nat.reduceLeDiff, Int.reduceLE, Int.reduceLT, Int.reduceNeg, Int.reduceEq, Int.reduceBEq, Int.reduceBNe, Int.reduceToNat, List.append_eq, beq_self_eq_true]; done)) | (refine And.intro (ACalls.args (k := ?_) ?_ ?_) ?_; rotate_left; exact c1; repeat' (first | exact trivial | exact Or.inl ⟨rfl, rfl⟩ | exact Or.inr rfl | apply And.intro))
       simp only [go_sem, ↓reduceIte, reduceCtorEq, Nat.reduceLT, Nat.reduceEqDiff, Nat.reduceBEq, Nat.reduceAdd, Nat.reduceSub, Nat.reduceMul, Nat.reduceLeDiff, Int.reduceLE, Int.reduceLT, Int.reduceNeg, Int.reduceEq, Int.reduceBEq, Int.reduceBNe, Int.reduceToNat, List.append_eq, beq_self_eq_true])
    | (refine hC ?_ ?_ ?_ ?_ ?_
       rotate_left
       · rfl
       · simp only [go_sem, ↓reduceIte, reduceCtorEq, Nat.reduceLT, Nat.reduceEqDiff, Nat.reduceBEq, Nat.reduceAdd, Nat.reduceSub, Nat.reduceMul, Nat.reduceLeDiff, Int.reduceLE, Int.reduceLT, Int.reduceNeg, Int.reduceEq, Int.reduceBEq, Int.reduceBNe, Int.reduceToNat, List.append_eq, beq_self_eq_true]
       · simp only [go_sem, ↓reduceIte, reduceCtorEq, Nat.reduceLT, Nat.reduceEqDiff, Nat.reduceBEq, Nat.reduceAdd, Nat.reduceSub, Nat.reduceMul, Nat.reduceLeDiff, Int.reduceLE, Int.reduceLT, Int.reduceNeg, Int.reduceEq, Int.reduceBEq, Int.reduceBNe, Int.reduceToNat, List.append_eq, beq_self_eq_true]
         first | (refine And.intro ?_ ?_; exact d1; first | exact trivial | (simp only [go_sem, ↓reduceIte, reduceCtorEq, Nat.reduceLT, Nat.reduceEqDiff, Nat.reduceBEq, Nat.reduceAdd, Nat.reduceSub, Nat.reduceMul, Nat.reduceLeDiff, Int.reduceLE, Int.reduceLT, Int.reduceNeg, Int.reduceEq, Int.reduceBEq, Int.reduceBNe, Int.reduceToNat, List.append_eq, beq_self_eq_true]; done)) | (refine And.intro (ACalls.args (k := ?_) ?_ ?_) ?_; rotate_left; exact d1; repeat' (first | exact trivial | exact Or.inl ⟨rfl, rfl⟩ | exact Or.inr rfl | apply And.intro))
       simp only [go_sem, ↓reduceIte, reduceCtorEq, Nat.reduceLT, Nat.reduceEqDiff, Nat.reduceBEq, Nat.reduceAdd, Nat.reduceSub, Nat.reduceMul, Nat.reduceLeDiff, Int.reduceLE, Int.reduceLT, Int.reduceNeg, Int.reduceEq, Int.reduceBEq, Int.reduceBNe, Int.reduceToNat, List.append_eq, beq_self_eq_true])
    | (refine hC ?_ ?_ ?_ ?_ ?_
       rotate_left
       · rfl
       · simp only [go_sem, ↓reduceIte, reduceCtorEq, Nat.reduceLT, Nat.reduceEqDiff, Nat.reduceBEq, Nat.reduceAdd, Nat.reduceSub, Nat.reduceMul, Nat.reduceLeDiff, Int.reduceLE, Int.reduceLT, Int.reduceNeg, Int.reduceEq, Int.reduceBEq, Int.reduceBNe, Int.reduceToNat, List.append_eq, beq_self_eq_true]
       · simp only [go_sem, ↓reduceIte, reduceCtorEq, Nat.reduceLT, Nat.reduceEqDiff, Nat.reduceBEq, Nat.reduceAdd, Nat.reduceSub, Nat.reduceMul, Nat.reduceLeDiff, Int.reduceLE, Int.reduceLT, Int.reduceNeg, Int.reduceEq, Int.reduceBEq, Int.reduceBNe, Int.reduceToNat, List.append_eq, beq_self_eq_true]
         first | (refine And.intro ?_ ?_; exact s1; first | exact trivial | (simp only [go_sem, ↓reduceIte, reduceCtorEq, Nat.reduceLT, Nat.reduceEqDiff, Nat.reduceBEq, Nat.reduceAdd, Nat.reduceSub, Nat.reduceMul, Nat.reduceLeDiff, Int.reduceLE, Int.reduceLT, Int.reduceNeg, Int.reduceEq, Int.reduceBEq, Int.reduceBNe, Int.reduceToNat, List.append_eq, beq_self_eq_true]; done)) | (refine And.intro (ACalls.args (k := ?_) ?_ ?_) ?_; rotate_left; exact s1; repeat' (first | exact trivial | exact Or.inl ⟨rfl, rfl⟩ | exact Or.inr rfl | apply And.intro))
       simp only [go_sem, ↓reduceIte, reduceCtorEq, Nat.reduceLT, Nat.reduceEqDiff, Nat.reduceBEq, Nat.reduceAdd, Nat.reduceSub, Nat.reduceMul, Nat.reduceLeDiff, Int.reduceLE, Int.reduceLT, Int.reduceNeg, Int.reduceEq, Int.reduceBEq, Int.reduceBNe, Int.reduceToNat, List.append_eq, beq_self_eq_true])
    | (refine hK _ _ ?_; clear hK hC; clear K C)
    | (refine hK _ _ rfl ?_; clear hK hC; clear K C)
    | (refine hK _ _ (by simp only [crs, crsI, alfO, alfL, Nat.reduceLT]; rfl) ?_; clear hK hC; clear K C)
    | (refine AW.seqR fun K C hK hC => ?_; simp only [go_sem, ↓reduceIte, reduceCtorEq, Nat.reduceLT, Nat.reduceEqDiff, Nat.reduceBEq, Nat.reduceAdd, Nat.reduceSub, Nat.reduceMul, Nat.reduceLeDiff, Int.reduceLE, Int.reduceLT, Int.reduceNeg, Int.reduceEq, Int.reduceBEq, Int.reduceBNe, Int.reduceToNat, List.append_eq, beq_self_eq_true])
    | (refine AW.seqD rfl fun K C hK hC => ?_; simp only [go_sem, ↓reduceIte, reduceCtorEq, Nat.reduceLT, Nat.reduceEqDiff, Nat.reduceBEq, Nat.reduceAdd, Nat.reduceSub, Nat.reduceMul, Nat.reduceLeDiff, Int.reduceLE, Int.reduceLT, Int.reduceNeg, Int.reduceEq, Int.reduceBEq, Int.reduceBNe, Int.reduceToNat, List.append_eq, beq_self_eq_true])
    | (refine AW.reg fun K C hK hC => ?_; simp only [go_sem, ↓reduceIte, reduceCtorEq, Nat.reduceLT, Nat.reduceEqDiff, Nat.reduceBEq, Nat.reduceAdd, Nat.reduceSub, Nat.reduceMul, Nat.reduceLeDiff, Int.reduceLE, Int.reduceLT, Int.reduceNeg, Int.reduceEq, Int.reduceBEq, Int.reduceBNe, Int.reduceToNat, List.append_eq, beq_self_eq_true])
    | (refine AW.regD rfl fun K C hK hC => ?_; simp only [go_sem, ↓reduceIte, reduceCtorEq, Nat.reduceLT, Nat.reduceEqDiff, Nat.reduceBEq, Nat.reduceAdd, Nat.reduceSub, Nat.reduceMul, Nat.reduceLeDiff, Int.reduceLE, Int.reduceLT, Int.reduceNeg, Int.reduceEq, Int.reduceBEq, Int.reduceBNe, Int.reduceToNat, List.append_eq, beq_self_eq_true])
    | refine AW.seqS ?_
    | (refine AW.ret ?_; simp only [go_sem, ↓reduceIte, reduceCtorEq, Nat.reduceLT, Nat.reduceEqDiff, Nat.reduceBEq, Nat.reduceAdd, Nat.reduceSub, Nat.reduceMul, Nat.reduceLeDiff, Int.reduceLE, Int.reduceLT, Int.reduceNeg, Int.reduceEq, Int.reduceBEq, Int.reduceBNe, Int.reduceToNat, List.append_eq, beq_self_eq_true])
    | (refine AW.cond rfl (fun h => ?_) (fun h => ?_) <;> (try simp only [decide_eq_true_eq, decide_eq_false_iff_not, bne_iff_ne, beq_iff_eq, bne_eq_false_iff_eq, beq_eq_false_iff_ne, ne_eq, ge_iff_le, gt_iff_lt, Bool.not_eq_true, Bool.not_eq_false, Bool.not_not, Bool.not_true, Bool.not_false, Int.not_le, Int.not_lt, not_true_eq_false, not_false_eq_true, reduceCtorEq, Bool.false_eq_true, Bool.not_eq_true', Bool.not_eq_false'] at h) <;> first | (exfalso; omega) | skip)
    | refine AW.skip ?_
    | refine AW.seq ?_
    | refine AW.block ?_
    | (refine AW.exit ?_; simp only [go_sem, ↓reduceIte, reduceCtorEq, Nat.reduceLT, Nat.reduceEqDiff, Nat.reduceBEq, Nat.reduceAdd, Nat.reduceSub, Nat.reduceMul, Nat.reduceLeDiff, Int.reduceLE, Int.reduceLT, Int.reduceNeg, Int.reduceEq, Int.reduceBEq, Int.reduceBNe, Int.reduceToNat, List.append_eq, beq_self_eq_true])
    | (refine ite_on (fun h => ?_) (fun h => ?_) <;> (try simp only [decide_eq_true_eq, decide_eq_false_iff_not, bne_iff_ne, beq_iff_eq, bne_eq_false_iff_eq, beq_eq_false_iff_ne, ne_eq, ge_iff_le, gt_iff_lt, Bool.not_eq_true, Bool.not_eq_false, Bool.not_not, Bool.not_true, Bool.not_false, Int.not_le, Int.not_lt, not_true_eq_false, not_false_eq_true, reduceCtorEq, Bool.false_eq_true, Bool.not_eq_true', Bool.not_eq_false'] at h) <;> first | (exfalso; omega) | skip)
    | rw [thenN]
    | rw [blockN]
    | rw [scopeN]
    | refine AW.scope ?_
    | refine AW.label ?_
    | refine And.intro ?_ ?_
    | refine lcons rfl ?_
    | exact lGram _
    | exact lSeen _
    | exact lWord _
    | exact lSealed _
    | exact lRun _
    | exact lPerson _
    | exact lEvent _
    | exact lLeak _
    | exact lNum _
    | exact lOprn _
    | exact in64 (by omega) (by omega)
    | exact in32 (by omega) (by omega)
    | omega)
end Go.Proofs.YthfhhciogimhjaaGreatDoor.Abs
end
section
/- What is handed in, opened: whatever its type. -/
set_option linter.unusedSimpArgs false
set_option linter.unusedVariables false
set_option maxRecDepth 100000
namespace Go.Proofs.YthfhhciogimhjaaGreatDoor.Abs
open Go.RowKit
/-- A struct that is handed in, by value. -/
theorem open_agg {α : Type} {C : Cod α} {H : Type} {enc : TypeId × Value → H} {P : Program} {W : World} {r : Reach} {b0 : Nat} {t : TypeId} {fs : Array Field} {v : Value} {d : DataW H} {p : List MemPlace} (ho : Cod.Opens P t C) (hs : P.underlying t = some (.struct fs))
    (hv : Value.okWide P W r b0 t v) (h : DataW.Trod enc P W 0 (fun _ => true) true t v d p) : ∃ (vs : List Value) (y : α), v = .agg vs.toArray ∧ C.rep W W.heap.size vs y := by
  obtain ⟨cs, rfl, _⟩ := Go.WideShapes.okWide_struct hs hv
  obtain ⟨fuel, hf⟩ := h
  obtain ⟨y, hy⟩ := ho.2 H enc W fuel cs.toList _ hf
  exact ⟨cs.toList, y, rfl, hy⟩
theorem RC.int {S : Sh} {w : World} {k : IntKind} {n : Int} (h : (Lit.int k n).wf = true) : RC S w (.one (.v (.int k n))) (.int k n) := R.v (inK_wf.trans h)
theorem RC.flag {S : Sh} {w : World} (b : Bool) : RC S w (.one (.v (.bool b))) (.bool b) := R.v rfl
theorem openWords : Cod.Opens Tryz.prog 25 Cod.words := Cod.Opens.row (e := 22) Tryz.underlying25 (by kernel_rfl) (Cod.Opens.num Tryz.underlying22 (by kernel_rfl)) (by decide)
end Go.Proofs.YthfhhciogimhjaaGreatDoor.Abs
end

