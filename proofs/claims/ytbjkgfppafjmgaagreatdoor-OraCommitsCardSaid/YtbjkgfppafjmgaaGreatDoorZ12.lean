/- Texts that were merged: L12q, L12o, L17m, L17c, Open, OpenNet, OpenBox, OpenWld, LaidN. -/
import Derived.Test.YtbjkgfppafjmgaaGreatDoorZ9
import Derived.Test.YtbjkgfppafjmgaaGreatDoorZ11
import Derived.Test.YtbjkgfppafjmgaaGreatDoorZ10
import Derived.Test.YtbjkgfppafjmgaaGreatDoorZ5
import Derived.Test.YtbjkgfppafjmgaaGreatDoorZ4
import Derived.Test.YtbjkgfppafjmgaaGreatDoorRows
import Derived.Test.YtbjkgfppafjmgaaGreatDoorZ3
import Derived.OpenShut
import Derived.ShutString
import Derived.ChangeOld
import Derived.ChangeVars
import Derived.JoinedOf
import Derived.RowKit
set_option linter.unusedSimpArgs false
set_option linter.unusedVariables false
set_option maxHeartbeats 64000000
set_option maxRecDepth 100000
namespace Go.Proofs.YtbjkgfppafjmgaaGreatDoor.Abs
open Go.RowKit
section
theorem openW_of {w : Wld} (h : rightB w.box = true) (k l hh : Int) : openW w k l hh = if (openP w.box k l hh).2 = true ∧ (getP l (openP w.box k l hh).1).2 = 0 then ((getP l (openP w.box k l hh).1).1, true) else (prt0, false) := by
 unfold openW; rw [open_eq h]
theorem opened_new {r : Int} {es : List Sealed} {key label hd : Int} {p : Prt} {A : Wld} (hA : A.box = ⟨r, es ++ [⟨hd, key, label, wordsP label p⟩]⟩) (hr : rightB A.box = true) (ht : thereB es hd = false) (hg : getP label (wordsP label p) = (p, 0)) (k l : Int) :
    openW A k l hd = if key = k ∧ label = l then (p, true) else (prt0, false) := by
  have e : openP A.box k l hd = if key = k ∧ label = l then (wordsP label p, true) else ([], false) := by
    rw [hA, openP_snoc]; simp [ht]
  by_cases hk : key = k ∧ label = l
  · obtain ⟨rfl, rfl⟩ := hk
    have e' : openP A.box key label hd = (wordsP label p, true) := by rw [e, if_pos ⟨rfl, rfl⟩]
    have g : ((wordsP label p, true) : List Int × Bool).2 = true ∧ (getP label ((wordsP label p, true) : List Int × Bool).1).2 = 0 := ⟨rfl, by show (getP label (wordsP label p)).2 = 0; rw [hg]⟩
    rw [openW_of hr, e', if_pos g, if_pos ⟨rfl, rfl⟩]
    show ((getP label (wordsP label p)).1, true) = (p, true)
    rw [hg]
  · have e' : openP A.box k l hd = ([], false) := by rw [e, if_neg hk]
    rw [openW_of hr, e', if_neg (fun h => by simp at h), if_neg hk]
end
end Go.Proofs.YtbjkgfppafjmgaaGreatDoor.Abs
section
end
namespace Go.Proofs.YtbjkgfppafjmgaaGreatDoor.Abs
open Go.RowKit
section
theorem frame_words {m : Mssg} {x : Int} (h : x ∈ putL m) : x < 2147483648 ∨ x = m.kind ∨ ∃ t, hasT m.kind t = true ∧ x = m.word t := by
 unfold putL at h
 split at h
 rotate_left
 ·simp at h
 unfold putM flatF at h
 rw [List.mem_flatMap] at h
 obtain ⟨f, hf, hx⟩ := h
 unfold fieldsM at hf
 rcases List.mem_cons.1 hf with rfl | hf
 ·simp only [wordsF1, List.length_singleton, List.mem_cons, List.not_mem_nil, or_false] at hx
  rcases hx with rfl | rfl | rfl
  ·left; decide
  ·left; decide
  ·exact .inr (.inl rfl)
 ·obtain ⟨t, ht, rfl⟩ := List.mem_map.1 hf
  have hr := kindTags_ok m.kind t ht
  simp only [wordsF1, List.length_singleton, List.mem_cons, List.not_mem_nil, or_false] at hx
  rcases hx with rfl | rfl | rfl
  ·left; omega
  ·left; decide
  ·exact .inr (.inr ⟨t, decide_eq_true ht, rfl⟩)
theorem word_six (m : Mssg) (t : Int) : m.word t = m.run ∨ m.word t = m.a ∨ m.word t = m.b ∨ m.word t = m.nonce ∨ m.word t = m.box ∨ m.word t = m.more := by
 unfold M7.word
 split
 ·exact .inl rfl
 split
 ·exact .inr (.inl rfl)
 split
 ·exact .inr (.inr (.inl rfl))
 split
 ·exact .inr (.inr (.inr (.inl rfl)))
 split
 ·exact .inr (.inr (.inr (.inr (.inl rfl))))
 ·exact .inr (.inr (.inr (.inr (.inr rfl))))
theorem frame_not {m : Mssg} {x : Int} (hx : 2147483648 ≤ x) (hk : m.kind < 2147483648) (h1 : x ≠ m.run) (h2 : x ≠ m.a) (h3 : x ≠ m.b) (h4 : x ≠ m.nonce) (h5 : x ≠ m.box) (h6 : x ≠ m.more) : hasB (putL m) x = false := by
 unfold hasB
 rw [List.any_eq_false]
 intro y hy e
 have e : y = x := by simpa using e
 subst e
 rcases frame_words hy with h | h | ⟨t, _, h⟩
 ·omega
 ·omega
 ·rcases word_six m t with g | g | g | g | g | g <;> rw [g] at h <;> contradiction
theorem SmallN.act {N M : Nat} {w : Wld} {a : Act} (h : SmallN N w) (hs : a.seals.length + M ≤ N) (hf : a.frames.length + M ≤ N) (he : a.evs.length + M ≤ N) (hd : a.draws + M ≤ N) (hp : ∀ s ∈ a.seals, s.plain.length < 1000000) : SmallN M (actW w a) := by
 refine ⟨?_, ?_, ?_, ?_, ?_, ?_, ?_⟩
 ·show (w.box.entries ++ a.seals).length + M < _
  have := h.ent; rw [List.length_append]; omega
 ·show ∀ s ∈ w.box.entries ++ a.seals, _
  intro s hs
  rcases List.mem_append.1 hs with h1 | h1
  ·exact h.plain s h1
  ·exact hp s h1
 ·show (w.net.grams ++ a.frames).length + M < _
  have := h.grams; rw [List.length_append]; omega
 ·show (w.net.seen ++ a.frames.map (·.words)).length + M < _
  have := h.seen; rw [List.length_append, List.length_map]; omega
 ·show (w.people.set a.who a.new).length < _
  have := h.people; rw [List.length_set]; exact this
 ·show (w.log ++ a.evs).length + M < _
  have := h.log; rw [List.length_append]; omega
 ·show 0 ≤ w.draws.next + (a.draws : Int) ∧ w.draws.next + (a.draws : Int) + (M : Int) < _
  have := h.next; omega
theorem wordsP_short (l : Int) (p : Prt) : (wordsP l p).length < 1000000 := by have := wordsP_len l p; omega
theorem drawnW2 (w : Wld) (h : 0 ≤ w.draws.next) : drawnW (drawW w) = dAt w.draws.list (w.draws.next.toNat + 1) := by
 show dAt w.draws.list (w.draws.next + 1).toNat = _
 rw [show (w.draws.next + 1).toNat = w.draws.next.toNat + 1 by omega]
theorem startO_seen {w : Wld} {a b : Int} (hf : formW w = true) (hd : ∀ x ∈ w.draws.list, 0 ≤ x) (h : (startOW w a b).2 = 0) : ∃ (i : Nat) (p P : Person) (hh : Int) (PP : List Person) (e : Event) (s : Sealed) (l : List Int), a = i ∧ w.people[i]? = some p ∧ 0 ≤ a ∧ 0 ≤ b ∧ a < 10 ∧ b < 10 ∧
    (startOW w a b).1 = { w with draws := ⟨w.draws.list, w.draws.next + 3⟩, box := ⟨w.box.room, w.box.entries ++ [s]⟩, net := ⟨w.net.room, w.net.grams ++ [⟨b, l⟩], w.net.seen ++ [l]⟩, people := PP, log := w.log ++ [e] } ∧ PP = w.people.set i P ∧
    P = putRun p ⟨2, 1, b, drawnW (drawW w), 0, drawnW w, 0, 0, 1⟩ ∧ 2147483648 ≤ drawnW w ∧ 2147483648 ≤ drawnW (drawW w) ∧ getM l = ((⟨6, drawnW w, a, b, 0, hh, 0⟩ : Mssg), 0) ∧
    (∀ key, openW (startOW w a b).1 key 6 hh = if p.key = key then (⟨drawnW (drawW w), drawnW w, a, b, 0, 0, 0⟩, true) else (prt0, false)) ∧ (drawnW (drawW w) ≠ drawnW w → drawnW (drawW w) ≠ hh → hasB l (drawnW (drawW w)) = false) ∧ s.plain.length < 1000000 ∧
    (w.draws.next ≤ 1048567 → formW (startOW w a b).1 = true) := by
  obtain ⟨i, p, e1, e2, e3, e4, e5, e6, e7, e8, e9⟩ := startOW_ok hf h
  obtain ⟨_, a2, _, a4, _, b1, _, _, b4, _⟩ := formW_iff hf
  have a4' := of_decide_eq_true a4
  obtain ⟨_, q1, q2, q3, q4⟩ := pairPl_iff b1 e4
  have q5 := (right_names b1).1
  have r6 := roomW_iff e6
  have hk : 2147483648 ≤ drawnW w := dAt_ge hd _
  have hk2 : 2147483648 ≤ drawnW (drawW w) := dAt_ge hd _
  have hm : mayM (⟨6, drawnW w, a, b, 0, drawnW (drawW (drawW w)), 0⟩ : Mssg) = true := by simp [mayM, fitsM, hasT, kindTags, isKindB, M7.word]
  have hL : putL (⟨6, drawnW w, a, b, 0, drawnW (drawW (drawW w)), 0⟩ : Mssg) = putM ⟨6, drawnW w, a, b, 0, drawnW (drawW (drawW w)), 0⟩ := by unfold putL; rw [if_pos hm]
  have hR : rightB ⟨w.box.room, w.box.entries ++ [⟨drawnW (drawW (drawW w)), p.key, 6, wordsP 6 ⟨drawnW (drawW w), drawnW w, a, b, 0, 0, 0⟩⟩]⟩ = true := right_snoc (by simpa using a2) (by omega) (by dsimp only; exact wordsP_le _ _) e7
  refine ⟨i, p, _, drawnW (drawW (drawW w)), _, _, _, putL ⟨6, drawnW w, a, b, 0, drawnW (drawW (drawW w)), 0⟩, e1, e2, by omega, by omega, by omega, by omega, by rw [e9]; rfl, rfl, rfl, hk, hk2, ?_, ?_, ?_, by dsimp only; exact wordsP_short _ _, ?_⟩
  · rw [hL]; exact get_put hm
  · intro key
    have := opened_new (A := (startOW w a b).1) (r := w.box.room) (es := w.box.entries) (key := p.key) (label := 6) (hd := drawnW (drawW (drawW w))) (p := ⟨drawnW (drawW w), drawnW w, a, b, 0, 0, 0⟩) (by rw [e9]; rfl) (by rw [e9]; exact hR) e7 e8 key 6
    rw [this]
    simp
  · intro n1 n2
    exact frame_not hk2 (show (6 : Int) < _ by decide) n1 (show drawnW (drawW w) ≠ a by omega) (show drawnW (drawW w) ≠ b by omega) (show drawnW (drawW w) ≠ 0 by omega) n2 (show drawnW (drawW w) ≠ 0 by omega)
  · intro hn
    exact startOW_form hf (by omega) a b
theorem shareA_seen {w : Wld} {me : Int} {m : Mssg} (hf : formW w = true) (h1 : 1 ≤ me) (h2 : me < (w.people.length : Int)) (h : (shareAW w me m).2 = 0) : ∃ (i j : Nat) (p P : Person) (r s : Run) (b : Prt) (PP : List Person), me = i ∧ w.people[i]? = some p ∧ p.runs[j]? = some r ∧ P.runs[j]? = some s ∧
    (shareAW w me m).1 = { w with people := PP, log := w.log ++ [⟨4, 2, 1, me, r.peer, b.k, 0, r.m, r.mine, p.clock⟩] } ∧ PP = w.people.set i P ∧ P = { p with runs := p.runs.set j s } ∧ formW (shareAW w me m).1 = true ∧
    openW w p.key 9 m.box = (b, true) ∧ b.n = r.mine ∧ r.m = m.run ∧ r.state = 1 ∧ s.state = 3 ∧ s.k = b.k := by
  obtain ⟨i, j, p, r, b, e1, e2, e3, e4, e5, e6, e7, e8, e9, e10, e11⟩ := shareAW_ok hf h1 h2 h
  have hj := (List.getElem?_eq_some_iff.1 e4).1
  obtain ⟨_, a2, _, a4, _, b1, _, _, b4, _⟩ := formW_iff hf
  have a4' := of_decide_eq_true a4
  refine ⟨i, j, p, { p with runs := p.runs.set j { r with k := b.k, state := 3 } }, r, { r with k := b.k, state := 3 }, b, w.people.set i { p with runs := p.runs.set j { r with k := b.k, state := 3 } }, e1, e2, e4, ?_, ?_, rfl, rfl, ?_, e9, e10, e8, e7, rfl, rfl⟩
  · show (p.runs.set j _)[j]? = _; rw [List.getElem?_set]; simp [hj]
  · rw [e11]; simp [actW]
  · rw [e11]
    refine act_form hf (by show w.draws.next + ((0 : Nat) : Int) ≤ _; have := b4.2; omega) (by simpa using a2) (by simpa using a4'.2.2) (by simp) e2 ((right_names b1).2 i p e2) (run_form (person_form hf e2) e4 rfl rfl (.inr (.inr rfl)))
theorem shareA_rest {w : Wld} {i j : Nat} {p : Person} {s : Run} {m : Mssg} (hf : formW w = true) (h1 : 1 ≤ (i : Int)) (hx : w.people[i]? = some p) (hs : p.runs[j]? = some s) (hn : s.state ≠ 1) : (shareAW w (i : Int) m).1.people.length = w.people.length ∧ ∃ Q : Person, (shareAW w (i : Int) m).1.people[i]? = some Q ∧ Q.runs.length = p.runs.length ∧ Q.runs[j]? = some s := by
 by_cases h : (shareAW w (i : Int) m).2 = 0
 ·obtain ⟨i', k, p', P, r, s', b, PP, e1, e2, e3, e4, e5, e6, e7, _, _, _, _, e8, _⟩ := shareA_seen hf h1 (by have := (List.getElem?_eq_some_iff.1 hx).1; omega) h
  have : i = i' := by omega
  subst this
  rw [hx] at e2; cases e2
  have hi := (List.getElem?_eq_some_iff.1 hx).1
  rw [e5, e6]
  refine ⟨by simp, P, by simp [hi], by rw [e7]; simp, ?_⟩
  rw [e7]
  show (p.runs.set k s')[j]? = some s
  rw [List.getElem?_set, if_neg ?_]
  ·exact hs
  ·rintro rfl
   rw [hs] at e3; cases e3
   exact hn e8
 ·rw [shareAW_err h]
  exact ⟨rfl, p, hx, rfl, hs⟩
end
section
theorem l17_commits (w : Wld) (me : Int) (m : Mssg) : ACalls Tryz.prog 5 [.agg (eWld w), .one (u32 me), .agg (eMssg m)] (rB true) := by
  refine ACalls.intro (fn := Tryz.f5) Tryz.func5 rfl rfl (by simp [Tryz.f5]) ?_
  have aw := l17_awake
  have ft := l17_fits w me m
  unfold Tryz.f5
  cases hF : fits17 w me m 9
  · rw [hF] at ft
    simp only [eWld, eMssg, eSealeds, eGrams, ePeople, eEvents, eRows, eWords, eLeaks, rB] at *
    refine wk T0 (J2 aw ft) T0 T0
  rw [hF] at ft
  obtain ⟨h1, h2, h3, h4, h5, h6⟩ := fits17_iff hF
  have sm : SmallN 10 w := smallN_of (by decide) h1 h2
  have sm' : SmallN 11 w := smallN_of (by decide) h1 h2
  have c1 := p17_share w me m h2 sm h3 h4 h5 h6
  have s1 := q12_same w w
  rw [decide_eq_true rfl] at s1
  by_cases hx : (shareAW w me m).2 = 0
  rotate_left
  · have hx' : ((shareAW w me m).2 != 0) = true := by simp [hx]
    rw [shareAW_err hx] at c1
    clear hF h1 h2 h3 h4 h5 h6 sm sm'
    generalize (shareAW w me m).2 = e at *
    simp only [eWld, eMssg, eSealeds, eGrams, ePeople, eEvents, eRows, eWords, eLeaks, rB] at *
    refine wk hx' (J4 aw ft c1 s1) T0 T0
  obtain ⟨i, j, p, P, r, s, b, PP, rfl, g2, g3, g4, g5, g6, g7, g8, g9, g10, g11, g13, g14, g15⟩ := shareA_seen h2 h3 h4 hx
  have hi := (List.getElem?_eq_some_iff.1 g2).1
  have hj := (List.getElem?_eq_some_iff.1 g3).1
  have hPr : P.runs = p.runs.set j s := by rw [g7]
  have hPl : P.runs.length = p.runs.length := by rw [hPr]; simp
  have hPk : ∀ (k : Nat) (y : Run), k ≠ j → p.runs[k]? = some y → P.runs[k]? = some y := fun k y hk hy => by rw [hPr, List.getElem?_set, if_neg (Ne.symm hk)]; exact hy
  have hPP : PP[i]? = some P := by rw [g6]; simp [hi]
  have hPPl : PP.length = w.people.length := by rw [g6]; simp
  have hback : (PP.map ePerson).set i [u32 P.name, u32 P.key, u32 P.clock, .row (P.used.map eWord), .row (p.runs.map eRun), bl P.corrupt] = w.people.map ePerson := by
    rw [g6, List.map_set, List.set_set, g7]
    refine List.ext_getElem? fun k => ?_
    rw [List.getElem?_set]
    by_cases e : i = k
    · subst e; simp [hi, g2, ePerson, eWords, eRuns]
      rw [List.getElem?_eq_getElem hi] at g2
      cases g2; exact ⟨rfl, rfl, rfl, rfl, rfl, rfl⟩
    · rw [if_neg e]
  have hA := g8
  rw [g5] at hA
  have c2 := p17_share _ (i : Int) m hA (sm'.log1 PP hPPl _) h3 (by show (i : Int) < (PP.length : Int); omega) h5 h6
  obtain ⟨z1, Q, z2, z3, z4⟩ := shareA_rest (m := m) hA h3 (show ({ w with people := PP, log := _ } : Wld).people[i]? = some P from hPP) g4 (by omega)
  have o1 := q12_open w p.key 9 m.box sm.plain
  rw [g9] at o1
  rw [hx, g5] at c1
  have pr := (person_used h2 (i : Int)).2
  obtain ⟨_, _, _, _, _, hrl, _⟩ := formW_iff h2
  have hpw : personW w (i : Int) = p := by unfold personW; rw [getPl_at hrl g2]
  rw [hpw] at pr
  have bl1 := sm.log
  have b7 := (right_names hrl).1
  clear hF h1 h2 h4 h5 h6 sm sm' hA g5 g6 g7 g8 g9 hx hPr hrl hpw
  generalize shareAW { w with people := PP, log := w.log ++ [⟨4, 2, 1, i, r.peer, b.k, 0, r.m, r.mine, p.clock⟩] } (i : Int) m = Z at *
  obtain ⟨Z, ze⟩ := Z
  simp only at z1 z2
  have hL : (w.log ++ [(⟨4, 2, 1, i, r.peer, b.k, 0, r.m, r.mine, p.clock⟩ : Event)])[w.log.length]? = some ⟨4, 2, 1, i, r.peer, b.k, 0, r.m, r.mine, p.clock⟩ := by simp
  have hL1 : (w.log ++ [(⟨4, 2, 1, i, r.peer, b.k, 0, r.m, r.mine, p.clock⟩ : Event)]).length = w.log.length + 1 := by simp
  generalize hE : (⟨4, 2, 1, i, r.peer, b.k, 0, r.m, r.mine, p.clock⟩ : Event) = ev at *
  generalize w.log ++ [ev] = L at *
  have hlog : w.log.length < L.length := by omega
  have d1 : (L.length : Int) = (w.log.length : Int) + 1 := by omega
  have d2 : (PP.length : Int) = (w.people.length : Int) := by omega
  have d3 : (P.runs.length : Int) = (p.runs.length : Int) := by omega
  have d4 : (Z.people.length : Int) = (w.people.length : Int) := by omega
  have d5 : (Q.runs.length : Int) = (p.runs.length : Int) := by omega
  have w1 := wrapI (x := (w.log.length : Int) + 1) (by omega) (by omega)
  have hi2 : i < PP.length := by omega
  have hi3 : i < Z.people.length := by omega
  have hj2 : j < P.runs.length := by omega
  have hj3 : j < Q.runs.length := by omega
  have heq := eqok_run
  subst hE
  simp only [eWld, eMssg, ePrt, eSealeds, eGrams, ePeople, eEvents, eRows, eWords, eLeaks, rB] at *
  refine wkx (J9 g2 hPP hi hi2 d1 d2 d3 w1 (J3 ePerson.eq_1 eWords.eq_1 eRuns.eq_1)) (J3 aw ft c1) T0 (J2 ?_ T0)
  all_goals ((repeat intro h); refine ⟨?_⟩)
  refine AW.loopW (fun n σ => ∃ k : Nat, n = p.runs.length - k ∧ k ≤ p.runs.length ∧ ((k ≤ j ∧ σ = ⟨272, (upd (upd (upd (upd (upd (upd (upd (upd (fun _ => .junk) 1 (.one (.c (u32 (i : Int))))) 3 (.one (.ptr 3 0))) 5 (.one (.ptr 5 0))) 7 (.one (.ptr 7 0))) 9 (.one (.c (.row (p.runs.map eRun))))) 10 (.one (.c (.row (P.runs.map eRun))))) 11 (.one (.c (i64 (-1))))) 12 (.one (.c (i64 k)))), (upd (upd (upd (fun _ => none) 3 (some (.box (cWld w)))) 5 (some (.box (cMssg m)))) 7 (some (.box (cWld { w with people := PP, log := L }))))⟩) ∨
      (j < k ∧ σ = ⟨272, (upd (upd (upd (upd (upd (upd (upd (upd (fun _ => .junk) 1 (.one (.c (u32 (i : Int))))) 3 (.one (.ptr 3 0))) 5 (.one (.ptr 5 0))) 7 (.one (.ptr 7 0))) 9 (.one (.c (.row (p.runs.map eRun))))) 10 (.one (.c (.row (P.runs.map eRun))))) 11 (.one (.c (i64 j)))) 12 (.one (.c (i64 k)))), (upd (upd (upd (fun _ => none) 3 (some (.box (cWld w)))) 5 (some (.box (cMssg m)))) 7 (some (.box (cWld { w with people := PP, log := L }))))⟩))) (n := p.runs.length) _ ⟨0, rfl, Nat.zero_le _, .inl ⟨Nat.zero_le _, rfl⟩⟩ (by exact lz T0) ?_
  rintro n σ ⟨k, rfl, hk, ⟨hkj, rfl⟩ | ⟨hkj, rfl⟩⟩
  · have hlt : k < p.runs.length := by omega
    have hlt2 : k < P.runs.length := by omega
    have hs := wrapI (x := (k : Int) + 1) (by omega) (by omega)
    by_cases hne : k = j
    · subst hne
      have hst : (r.state == s.state) = false := by rw [g13, g14]; rfl
      refine wk (J9 g3 g4 hlt hlt2 hs heq hst eRun.eq_1 (J2 @Bool.and_false @Bool.false_and)) T0 T0 (J2 ?_ T0)
      all_goals ((repeat intro h); refine ⟨?_⟩)
      refine ⟨p.runs.length - (k + 1), by omega, _, ⟨k + 1, rfl, by omega, .inr ⟨by omega, rfl⟩⟩, ?_⟩
      exact lz T0
    · obtain ⟨y, hy⟩ : ∃ y, p.runs[k]? = some y := ⟨_, List.getElem?_eq_getElem hlt⟩
      have hy2 := hPk k y hne hy
      refine wkx (J7 hy hy2 hlt hlt2 hs heq eRun.eq_1) T0 T0 (J2 ?_ T0)
      all_goals ((repeat intro h); refine ⟨?_⟩)
      refine ⟨p.runs.length - (k + 1), by omega, _, ⟨k + 1, rfl, by omega, .inl ⟨by omega, rfl⟩⟩, ?_⟩
      exact lz T0
  · by_cases hlt : k < p.runs.length
    · have hlt2 : k < P.runs.length := by omega
      have hs := wrapI (x := (k : Int) + 1) (by omega) (by omega)
      obtain ⟨y, hy⟩ : ∃ y, p.runs[k]? = some y := ⟨_, List.getElem?_eq_getElem hlt⟩
      have hy2 := hPk k y (by omega) hy
      refine wkx (J7 hy hy2 hlt hlt2 hs heq eRun.eq_1) T0 T0 (J2 ?_ T0)
      all_goals ((repeat intro h); refine ⟨?_⟩)
      refine ⟨p.runs.length - (k + 1), by omega, _, ⟨k + 1, rfl, by omega, .inr ⟨by omega, rfl⟩⟩, ?_⟩
      exact lz T0
    · obtain rfl : k = p.runs.length := by omega
      have n0 : ¬ ((j : Int) < 0) := by omega
      have t1 : (r.mine != b.n) = false := by simp [g10]
      have t2 : (r.state != 1) = false := by simp [g13]
      have t3 : (r.m != m.run) = false := by simp [g11]
      have t4 : (s.k != b.k) = false := by simp [g15]
      have t5 : (s.state != 3) = false := by simp [g14]
      clear aw ft c1 hPk g10 g11 g13 g14 g15
      refine wkx (J9 g2 g3 g4 hPP hi hi2 hi3 hj (J9 hj2 hj3 hL hlog z2 z4 d2 d3 (J9 d4 d5 n0 t1 t2 t3 t4 t5 (J8 heq hback hPPl eEvent.eq_1 eRun.eq_1 ePerson.eq_1 eWords.eq_1 eRuns.eq_1)))) (J3 o1 c2 s1) T0 T0
end
section
theorem open_agg {α : Type} {C : Cod α} {H : Type} {enc : TypeId × Value → H} {P : Program} {W : World} {r : Reach} {b0 : Nat} {t : TypeId} {fs : Array Field} {v : Value} {d : DataW H} {p : List MemPlace} (ho : Cod.Opens P t C) (hs : P.underlying t = some (.struct fs))
    (hv : Value.okWide P W r b0 t v) (h : DataW.Trod enc P W 0 (fun _ => true) true t v d p) : ∃ (vs : List Value) (y : α), v = .agg vs.toArray ∧ C.rep W W.heap.size vs y := by
  obtain ⟨cs, rfl, _⟩ := Go.WideShapes.okWide_struct hs hv
  obtain ⟨fuel, hf⟩ := h
  obtain ⟨y, hy⟩ := ho.2 H enc W fuel cs.toList _ hf
  exact ⟨cs.toList, y, rfl, hy⟩
theorem RC.int {S : Sh} {w : World} {k : IntKind} {n : Int} (h : (Lit.int k n).wf = true) : RC S w (.one (.v (.int k n))) (.int k n) := R.v (inK_wf.trans h)
theorem RC.flag {S : Sh} {w : World} (b : Bool) : RC S w (.one (.v (.bool b))) (.bool b) := R.v rfl
theorem RC.str {S : Sh} {w : World} (s : ByteArray) : RC S w (.one (.v (.string s))) (.string s) := R.v rfl
theorem openWords : Cod.Opens Tryz.prog 25 Cod.words := Cod.Opens.row (e := 22) Tryz.underlying25 (by kernel_rfl) (Cod.Opens.num Tryz.underlying22 (by kernel_rfl)) (by decide)
end
section
theorem openRows : Cod.Opens Tryz.prog 32 Cod.words.row := Cod.Opens.row (e := 25) Tryz.underlying32 (by kernel_rfl) openWords (by decide)
theorem openGram : Cod.Opens Tryz.prog 62 gramC :=
 (Cod.Opens.struct Tryz.underlying62 (by kernel_rfl) (Cod.OpensAt.cons rfl (Cod.Opens.num Tryz.underlying22 (by kernel_rfl)) (Cod.OpensAt.one rfl openWords))).via _ fun a => ⟨⟨a.1, a.2⟩, rfl⟩
theorem openNet : Cod.Opens Tryz.prog 34 netC :=
 (Cod.Opens.struct Tryz.underlying34 (by kernel_rfl) (Cod.OpensAt.cons rfl (Cod.Opens.num Tryz.underlying3 (by kernel_rfl))
  (Cod.OpensAt.cons rfl (Cod.Opens.row (e := 62) Tryz.underlying31 (by kernel_rfl) openGram (by decide)) (Cod.OpensAt.one rfl openRows)))).via _ fun a => ⟨⟨a.1, a.2.1, a.2.2⟩, rfl⟩
end
section
theorem openSealed : Cod.Opens Tryz.prog 120 sealedC :=
 (Cod.Opens.struct Tryz.underlying120 (by kernel_rfl) (Cod.OpensAt.cons rfl (Cod.Opens.num Tryz.underlying22 (by kernel_rfl))
  (Cod.OpensAt.cons rfl (Cod.Opens.num Tryz.underlying22 (by kernel_rfl)) (Cod.OpensAt.cons rfl (Cod.Opens.num Tryz.underlying22 (by kernel_rfl)) (Cod.OpensAt.one rfl openWords))))).via _ fun a => ⟨⟨a.1, a.2.1, a.2.2.1, a.2.2.2⟩, rfl⟩
theorem openBox : Cod.Opens Tryz.prog 30 boxC :=
 (Cod.Opens.struct Tryz.underlying30 (by kernel_rfl) (Cod.OpensAt.cons rfl (Cod.Opens.num Tryz.underlying3 (by kernel_rfl))
  (Cod.OpensAt.one rfl (Cod.Opens.row (e := 120) Tryz.underlying28 (by kernel_rfl) openSealed (by decide))))).via _ fun a => ⟨⟨a.1, a.2⟩, rfl⟩
end
section
theorem openRun : Cod.Opens Tryz.prog 58 runC :=
 (Cod.Opens.struct Tryz.underlying58 (by kernel_rfl) (Cod.OpensAt.cons rfl (Cod.Opens.num Tryz.underlying3 (by kernel_rfl)) (Cod.OpensAt.cons rfl (Cod.Opens.num Tryz.underlying3 (by kernel_rfl)) (Cod.OpensAt.cons rfl (Cod.Opens.num Tryz.underlying22 (by kernel_rfl)) (Cod.OpensAt.cons rfl (Cod.Opens.num Tryz.underlying22 (by kernel_rfl)) (Cod.OpensAt.cons rfl (Cod.Opens.num Tryz.underlying22 (by kernel_rfl)) (Cod.OpensAt.cons rfl (Cod.Opens.num Tryz.underlying22 (by kernel_rfl)) (Cod.OpensAt.cons rfl (Cod.Opens.num Tryz.underlying22 (by kernel_rfl)) (Cod.OpensAt.cons rfl (Cod.Opens.num Tryz.underlying22 (by kernel_rfl)) (Cod.OpensAt.one rfl (Cod.Opens.num Tryz.underlying3 (by kernel_rfl)))))))))))).via _ fun a => ⟨⟨a.1, a.2.1, a.2.2.1, a.2.2.2.1, a.2.2.2.2.1, a.2.2.2.2.2.1, a.2.2.2.2.2.2.1, a.2.2.2.2.2.2.2.1, a.2.2.2.2.2.2.2.2⟩, rfl⟩
theorem openEvent : Cod.Opens Tryz.prog 70 eventC :=
 (Cod.Opens.struct Tryz.underlying70 (by kernel_rfl) (Cod.OpensAt.cons rfl (Cod.Opens.num Tryz.underlying3 (by kernel_rfl)) (Cod.OpensAt.cons rfl (Cod.Opens.num Tryz.underlying3 (by kernel_rfl)) (Cod.OpensAt.cons rfl (Cod.Opens.num Tryz.underlying3 (by kernel_rfl)) (Cod.OpensAt.cons rfl (Cod.Opens.num Tryz.underlying22 (by kernel_rfl)) (Cod.OpensAt.cons rfl (Cod.Opens.num Tryz.underlying22 (by kernel_rfl)) (Cod.OpensAt.cons rfl (Cod.Opens.num Tryz.underlying22 (by kernel_rfl)) (Cod.OpensAt.cons rfl (Cod.Opens.num Tryz.underlying22 (by kernel_rfl)) (Cod.OpensAt.cons rfl (Cod.Opens.num Tryz.underlying22 (by kernel_rfl)) (Cod.OpensAt.cons rfl (Cod.Opens.num Tryz.underlying22 (by kernel_rfl)) (Cod.OpensAt.one rfl (Cod.Opens.num Tryz.underlying22 (by kernel_rfl))))))))))))).via _ fun a => ⟨⟨a.1, a.2.1, a.2.2.1, a.2.2.2.1, a.2.2.2.2.1, a.2.2.2.2.2.1, a.2.2.2.2.2.2.1, a.2.2.2.2.2.2.2.1, a.2.2.2.2.2.2.2.2.1, a.2.2.2.2.2.2.2.2.2⟩, rfl⟩
theorem openLeak : Cod.Opens Tryz.prog 100 leakC :=
 (Cod.Opens.struct Tryz.underlying100 (by kernel_rfl) (Cod.OpensAt.cons rfl (Cod.Opens.num Tryz.underlying22 (by kernel_rfl)) (Cod.OpensAt.one rfl (Cod.Opens.num Tryz.underlying22 (by kernel_rfl))))).via _ fun a => ⟨⟨a.1, a.2⟩, rfl⟩
theorem openConf : Cod.Opens Tryz.prog 24 confC :=
 (Cod.Opens.struct Tryz.underlying24 (by kernel_rfl) (Cod.OpensAt.cons rfl (Cod.Opens.num Tryz.underlying22 (by kernel_rfl)) (Cod.OpensAt.cons rfl (Cod.Opens.num Tryz.underlying3 (by kernel_rfl)) (Cod.OpensAt.cons rfl (Cod.Opens.num Tryz.underlying3 (by kernel_rfl)) (Cod.OpensAt.cons rfl (Cod.Opens.num Tryz.underlying3 (by kernel_rfl)) (Cod.OpensAt.cons rfl (Cod.Opens.num Tryz.underlying3 (by kernel_rfl)) (Cod.OpensAt.cons rfl (Cod.Opens.num Tryz.underlying3 (by kernel_rfl)) (Cod.OpensAt.one rfl (Cod.Opens.num Tryz.underlying3 (by kernel_rfl)))))))))).via _ fun a => ⟨⟨a.1, a.2.1, a.2.2.1, a.2.2.2.1, a.2.2.2.2.1, a.2.2.2.2.2.1, a.2.2.2.2.2.2⟩, rfl⟩
theorem openMsg : Cod.Opens Tryz.prog 41 mssgC :=
 (Cod.Opens.struct Tryz.underlying41 (by kernel_rfl) (Cod.OpensAt.cons rfl (Cod.Opens.num Tryz.underlying22 (by kernel_rfl)) (Cod.OpensAt.cons rfl (Cod.Opens.num Tryz.underlying22 (by kernel_rfl)) (Cod.OpensAt.cons rfl (Cod.Opens.num Tryz.underlying22 (by kernel_rfl)) (Cod.OpensAt.cons rfl (Cod.Opens.num Tryz.underlying22 (by kernel_rfl)) (Cod.OpensAt.cons rfl (Cod.Opens.num Tryz.underlying22 (by kernel_rfl)) (Cod.OpensAt.cons rfl (Cod.Opens.num Tryz.underlying22 (by kernel_rfl)) (Cod.OpensAt.one rfl (Cod.Opens.num Tryz.underlying22 (by kernel_rfl)))))))))).via _ fun a => ⟨⟨a.1, a.2.1, a.2.2.1, a.2.2.2.1, a.2.2.2.2.1, a.2.2.2.2.2.1, a.2.2.2.2.2.2⟩, rfl⟩
theorem openDraws : Cod.Opens Tryz.prog 27 drawsC :=
 (Cod.Opens.struct Tryz.underlying27 (by kernel_rfl) (Cod.OpensAt.cons rfl openWords (Cod.OpensAt.one rfl (Cod.Opens.num Tryz.underlying3 (by kernel_rfl))))).via _ fun a => ⟨⟨a.1, a.2⟩, rfl⟩
theorem openPerson : Cod.Opens Tryz.prog 56 personC :=
 (Cod.Opens.struct Tryz.underlying56 (by kernel_rfl) (Cod.OpensAt.cons rfl (Cod.Opens.num Tryz.underlying22 (by kernel_rfl)) (Cod.OpensAt.cons rfl (Cod.Opens.num Tryz.underlying22 (by kernel_rfl)) (Cod.OpensAt.cons rfl (Cod.Opens.num Tryz.underlying22 (by kernel_rfl)) (Cod.OpensAt.cons rfl openWords (Cod.OpensAt.cons rfl (Cod.Opens.row (e := 58) Tryz.underlying54 (by kernel_rfl) openRun (by decide)) (Cod.OpensAt.one rfl (Cod.Opens.flag Tryz.underlying4 (by kernel_rfl))))))))).via _ fun a => ⟨⟨a.1, a.2.1, a.2.2.1, a.2.2.2.1, a.2.2.2.2.1, a.2.2.2.2.2⟩, rfl⟩
theorem openWorld : Cod.Opens Tryz.prog 39 wldC :=
 (Cod.Opens.struct Tryz.underlying39 (by kernel_rfl) (Cod.OpensAt.cons rfl openConf (Cod.OpensAt.cons rfl openDraws (Cod.OpensAt.cons rfl openBox (Cod.OpensAt.cons rfl openNet (Cod.OpensAt.cons rfl (Cod.Opens.row (e := 56) Tryz.underlying35 (by kernel_rfl) openPerson (by decide)) (Cod.OpensAt.cons rfl (Cod.Opens.row (e := 70) Tryz.underlying36 (by kernel_rfl) openEvent (by decide)) (Cod.OpensAt.cons rfl openRows (Cod.OpensAt.one rfl (Cod.Opens.row (e := 100) Tryz.underlying37 (by kernel_rfl) openLeak (by decide))))))))))).via _ fun a => ⟨⟨a.1, a.2.1, a.2.2.1, a.2.2.2.1, a.2.2.2.2.1, a.2.2.2.2.2.1, a.2.2.2.2.2.2.1, a.2.2.2.2.2.2.2⟩, rfl⟩
end
end Go.Proofs.YtbjkgfppafjmgaaGreatDoor.Abs
section
namespace Go.Proofs.YtbjkgfppafjmgaaGreatDoor.Abs
open Go.ChangeShapes Go.WideShapes Go.RowKit
theorem own : ownKnob Tryz.prog.godebug = none := by kernel_rfl
theorem laidOut : laidOutB Tryz.prog = true := by kernel_rfl
theorem masksG : Tryz.prog.globalNamed "chamberlain/msg.masks" = some 0 := by kernel_rfl
theorem masksT : (Tryz.prog.globals[0]?).map (·.type) = some 208 := by kernel_rfl
theorem cellsT : Tryz.prog.cellsOf 208 = 10 := by kernel_rfl
theorem cellsU : Tryz.prog.cellsOf 22 = 1 := by kernel_rfl
theorem word_of_trod {H : Type} {enc : TypeId × Value → H} {w : World} {base : Nat} {sp : Nat → Bool} {held : Bool} {fuel : Nat} {c : Value} {y : DataW H × List MemPlace}
    (h : DataW.trod enc Tryz.prog w base sp held fuel 22 [c] = some y) : ∃ n, c = .int .u32 n ∧ y = (.lit (.int .u32 n), []) ∧ (Lit.int .u32 n).wf = true := by
  obtain ⟨n, h1, h2, h3⟩ := DataW.trod_int Tryz.underlying22 h
  simp at h1
  exact ⟨n, h1, h2, h3⟩
def masksC : Array Value := #[.int .u32 0, .int .u32 56, .int .u32 64, .int .u32 64, .int .u32 64, .int .u32 64, .int .u32 92, .int .u32 220, .int .u32 196, .int .u32 68]
theorem gl_of_laid {W : World} (h : laidMet Tryz.prog [("chamberlain/msg.masks", Rows.laid_chamberlain_msg_masks)] W) : Gl (fun k b => k = 0 ∧ b < W.heap.size) W := by
 obtain ⟨ps, ⟨g, t, cs, fuel, p, q, hg, ht, hvar, hd, _, _⟩, _⟩ := h
 obtain rfl := Option.some.inj (masksG.symm.trans hg)
 obtain rfl := Option.some.inj (masksT.symm.trans ht)
 have key : cs = masksC := by
  obtain ⟨l⟩ := cs
  cases fuel with
  | zero => simp [DataW.trod] at hd
  | succ fuel =>
   simp only [DataW.trod, Tryz.underlying208, cellsT, cellsU] at hd
   split at hd
   ·rename_i hl
    obtain ⟨c0, c1, c2, c3, c4, c5, c6, c7, c8, c9, rfl⟩ : ∃ c0 c1 c2 c3 c4 c5 c6 c7 c8 c9, l = [c0, c1, c2, c3, c4, c5, c6, c7, c8, c9] := by
     match l, hl with
     | [c0, c1, c2, c3, c4, c5, c6, c7, c8, c9], _ => exact ⟨c0, c1, c2, c3, c4, c5, c6, c7, c8, c9, rfl⟩
    have e : List.range 10 = [0, 1, 2, 3, 4, 5, 6, 7, 8, 9] := rfl
    rw [e] at hd
    simp only [Option.map_eq_some_iff, List.mapM_cons, List.mapM_nil, Option.bind_eq_bind, Option.bind_eq_some_iff, Option.pure_def, Option.some.injEq] at hd
    obtain ⟨xs, ⟨y0, h0, _, ⟨y1, h1, _, ⟨y2, h2, _, ⟨y3, h3, _, ⟨y4, h4, _, ⟨y5, h5, _, ⟨y6, h6, _, ⟨y7, h7, _, ⟨y8, h8, _, ⟨y9, h9, _, rfl, rfl⟩, rfl⟩, rfl⟩, rfl⟩, rfl⟩, rfl⟩, rfl⟩, rfl⟩, rfl⟩, rfl⟩, hx⟩ := hd
    obtain ⟨n0, rfl, rfl, _⟩ := word_of_trod h0
    obtain ⟨n1, rfl, rfl, _⟩ := word_of_trod h1
    obtain ⟨n2, rfl, rfl, _⟩ := word_of_trod h2
    obtain ⟨n3, rfl, rfl, _⟩ := word_of_trod h3
    obtain ⟨n4, rfl, rfl, _⟩ := word_of_trod h4
    obtain ⟨n5, rfl, rfl, _⟩ := word_of_trod h5
    obtain ⟨n6, rfl, rfl, _⟩ := word_of_trod h6
    obtain ⟨n7, rfl, rfl, _⟩ := word_of_trod h7
    obtain ⟨n8, rfl, rfl, _⟩ := word_of_trod h8
    obtain ⟨n9, rfl, rfl, _⟩ := word_of_trod h9
    simp [Rows.laid_chamberlain_msg_masks] at hx
    obtain ⟨⟨rfl, rfl, rfl, rfl, rfl, rfl, rfl, rfl, rfl, rfl⟩, _⟩ := hx
    rfl
   ·cases hd
 subst key
 have cell : ∀ (i : Nat) (u : Value), masksC[i]? = some u → W.cell? ⟨0, i, none⟩ = some u := fun i u hu => (World.var?_cell hg hvar i).trans hu
 have hlt : 0 < W.heap.size := lt_of_cell (cell 0 _ rfl)
 intro g vs hgv
 unfold tabsV at hgv
 split at hgv
 ·cases hgv
  exact ⟨⟨rfl, hlt⟩, fun j u hj => by rw [Nat.zero_add]; exact cell j u (by unfold masksC; rw [List.getElem?_toArray]; exact hj)⟩
 ·cases hgv
noncomputable def laidWorld (os : Os) : World :=
  { World.holding Tryz.prog os ⟨#[], #[], []⟩ with heap := (World.holding Tryz.prog os ⟨#[], #[], []⟩).heap.modify 0 fun
      | .cells _ t frozen => .cells masksC t frozen
      | o => o }
theorem laidWorld_row (os : Os) (args : Array Value) : ((laidWorld os).forCall (fun _ _ => 0) ⟨#[], args, []⟩).memory.heap[0]? = some (.cells masksC 208 (0, 0)) := by kernel_rfl
theorem laidWorld_met (os : Os) (args : Array Value) : laidMet Tryz.prog [("chamberlain/msg.masks", Rows.laid_chamberlain_msg_masks)] ((laidWorld os).forCall (fun _ _ => 0) ⟨#[], args, []⟩).memory := by
 refine ⟨_, ⟨0, 208, masksC, 8, [], [], by kernel_rfl, by kernel_rfl, by kernel_rfl, by kernel_rfl, rfl, rfl⟩, by decide, fun b off h => ?_⟩
 have h' : MemPlace.cell b off ∈ [MemPlace.cell 0 0, .cell 0 1, .cell 0 2, .cell 0 3, .cell 0 4, .cell 0 5, .cell 0 6, .cell 0 7, .cell 0 8, .cell 0 9] := h
 have hb : b = 0 := by simp at h'; omega
 subst hb
 refine ⟨⟨_, _, laidWorld_row os args⟩, fun u v hc => ?_⟩
 simp only [World.cell?, laidWorld_row os args] at hc
 simp at h'
 rcases h' with rfl | rfl | rfl | rfl | rfl | rfl | rfl | rfl | rfl | rfl <;> simp [masksC] at hc
end Go.Proofs.YtbjkgfppafjmgaaGreatDoor.Abs
end
