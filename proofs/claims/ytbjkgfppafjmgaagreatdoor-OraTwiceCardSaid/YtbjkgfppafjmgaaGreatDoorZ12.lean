/- Texts that were merged: L12q, L12o, L17m, L17t, Open, OpenNet, OpenBox, OpenWld, LaidN. -/
import Derived.Test.YtbjkgfppafjmgaaGreatDoorZ9
import Derived.Test.YtbjkgfppafjmgaaGreatDoorZ11
import Derived.Test.YtbjkgfppafjmgaaGreatDoorZ10
import Derived.Test.YtbjkgfppafjmgaaGreatDoorZ4
import Derived.Test.YtbjkgfppafjmgaaGreatDoorRows
import Derived.Test.YtbjkgfppafjmgaaGreatDoorZ3
import Derived.OpenShut
import Derived.ShutString
import Derived.ChangeOld
import Derived.ChangeVars
import Derived.JoinedOf
import Derived.RowKit
set_option linter.unusedSimpArgs false
set_option linter.unusedVariables false
set_option maxHeartbeats 64000000
set_option maxRecDepth 100000
namespace Go.Proofs.YtbjkgfppafjmgaaGreatDoor.Abs
open Go.RowKit
section
theorem openW_of {w : Wld} (h : rightB w.box = true) (k l hh : Int) : openW w k l hh = if (openP w.box k l hh).2 = true ∧ (getP l (openP w.box k l hh).1).2 = 0 then ((getP l (openP w.box k l hh).1).1, true) else (prt0, false) := by
 unfold openW; rw [open_eq h]
theorem opened_new {r : Int} {es : List Sealed} {key label hd : Int} {p : Prt} {A : Wld} (hA : A.box = ⟨r, es ++ [⟨hd, key, label, wordsP label p⟩]⟩) (hr : rightB A.box = true) (ht : thereB es hd = false) (hg : getP label (wordsP label p) = (p, 0)) (k l : Int) :
    openW A k l hd = if key = k ∧ label = l then (p, true) else (prt0, false) := by
  have e : openP A.box k l hd = if key = k ∧ label = l then (wordsP label p, true) else ([], false) := by
    rw [hA, openP_snoc]; simp [ht]
  by_cases hk : key = k ∧ label = l
  · obtain ⟨rfl, rfl⟩ := hk
    have e' : openP A.box key label hd = (wordsP label p, true) := by rw [e, if_pos ⟨rfl, rfl⟩]
    have g : ((wordsP label p, true) : List Int × Bool).2 = true ∧ (getP label ((wordsP label p, true) : List Int × Bool).1).2 = 0 := ⟨rfl, by show (getP label (wordsP label p)).2 = 0; rw [hg]⟩
    rw [openW_of hr, e', if_pos g, if_pos ⟨rfl, rfl⟩]
    show ((getP label (wordsP label p)).1, true) = (p, true)
    rw [hg]
  · have e' : openP A.box k l hd = ([], false) := by rw [e, if_neg hk]
    rw [openW_of hr, e', if_neg (fun h => by simp at h), if_neg hk]
end
end Go.Proofs.YtbjkgfppafjmgaaGreatDoor.Abs
section
end
namespace Go.Proofs.YtbjkgfppafjmgaaGreatDoor.Abs
open Go.RowKit
section
theorem frame_words {m : Mssg} {x : Int} (h : x ∈ putL m) : x < 2147483648 ∨ x = m.kind ∨ ∃ t, hasT m.kind t = true ∧ x = m.word t := by
 unfold putL at h
 split at h
 rotate_left
 ·simp at h
 unfold putM flatF at h
 rw [List.mem_flatMap] at h
 obtain ⟨f, hf, hx⟩ := h
 unfold fieldsM at hf
 rcases List.mem_cons.1 hf with rfl | hf
 ·simp only [wordsF1, List.length_singleton, List.mem_cons, List.not_mem_nil, or_false] at hx
  rcases hx with rfl | rfl | rfl
  ·left; decide
  ·left; decide
  ·exact .inr (.inl rfl)
 ·obtain ⟨t, ht, rfl⟩ := List.mem_map.1 hf
  have hr := kindTags_ok m.kind t ht
  simp only [wordsF1, List.length_singleton, List.mem_cons, List.not_mem_nil, or_false] at hx
  rcases hx with rfl | rfl | rfl
  ·left; omega
  ·left; decide
  ·exact .inr (.inr ⟨t, decide_eq_true ht, rfl⟩)
theorem word_six (m : Mssg) (t : Int) : m.word t = m.run ∨ m.word t = m.a ∨ m.word t = m.b ∨ m.word t = m.nonce ∨ m.word t = m.box ∨ m.word t = m.more := by
 unfold M7.word
 split
 ·exact .inl rfl
 split
 ·exact .inr (.inl rfl)
 split
 ·exact .inr (.inr (.inl rfl))
 split
 ·exact .inr (.inr (.inr (.inl rfl)))
 split
 ·exact .inr (.inr (.inr (.inr (.inl rfl))))
 ·exact .inr (.inr (.inr (.inr (.inr rfl))))
theorem frame_not {m : Mssg} {x : Int} (hx : 2147483648 ≤ x) (hk : m.kind < 2147483648) (h1 : x ≠ m.run) (h2 : x ≠ m.a) (h3 : x ≠ m.b) (h4 : x ≠ m.nonce) (h5 : x ≠ m.box) (h6 : x ≠ m.more) : hasB (putL m) x = false := by
 unfold hasB
 rw [List.any_eq_false]
 intro y hy e
 have e : y = x := by simpa using e
 subst e
 rcases frame_words hy with h | h | ⟨t, _, h⟩
 ·omega
 ·omega
 ·rcases word_six m t with g | g | g | g | g | g <;> rw [g] at h <;> contradiction
theorem SmallN.act {N M : Nat} {w : Wld} {a : Act} (h : SmallN N w) (hs : a.seals.length + M ≤ N) (hf : a.frames.length + M ≤ N) (he : a.evs.length + M ≤ N) (hd : a.draws + M ≤ N) (hp : ∀ s ∈ a.seals, s.plain.length < 1000000) : SmallN M (actW w a) := by
 refine ⟨?_, ?_, ?_, ?_, ?_, ?_, ?_⟩
 ·show (w.box.entries ++ a.seals).length + M < _
  have := h.ent; rw [List.length_append]; omega
 ·show ∀ s ∈ w.box.entries ++ a.seals, _
  intro s hs
  rcases List.mem_append.1 hs with h1 | h1
  ·exact h.plain s h1
  ·exact hp s h1
 ·show (w.net.grams ++ a.frames).length + M < _
  have := h.grams; rw [List.length_append]; omega
 ·show (w.net.seen ++ a.frames.map (·.words)).length + M < _
  have := h.seen; rw [List.length_append, List.length_map]; omega
 ·show (w.people.set a.who a.new).length < _
  have := h.people; rw [List.length_set]; exact this
 ·show (w.log ++ a.evs).length + M < _
  have := h.log; rw [List.length_append]; omega
 ·show 0 ≤ w.draws.next + (a.draws : Int) ∧ w.draws.next + (a.draws : Int) + (M : Int) < _
  have := h.next; omega
theorem wordsP_short (l : Int) (p : Prt) : (wordsP l p).length < 1000000 := by have := wordsP_len l p; omega
theorem drawnW2 (w : Wld) (h : 0 ≤ w.draws.next) : drawnW (drawW w) = dAt w.draws.list (w.draws.next.toNat + 1) := by
 show dAt w.draws.list (w.draws.next + 1).toNat = _
 rw [show (w.draws.next + 1).toNat = w.draws.next.toNat + 1 by omega]
theorem startO_seen {w : Wld} {a b : Int} (hf : formW w = true) (hd : ∀ x ∈ w.draws.list, 0 ≤ x) (h : (startOW w a b).2 = 0) : ∃ (i : Nat) (p P : Person) (hh : Int) (PP : List Person) (e : Event) (s : Sealed) (l : List Int), a = i ∧ w.people[i]? = some p ∧ 0 ≤ a ∧ 0 ≤ b ∧ a < 10 ∧ b < 10 ∧
    (startOW w a b).1 = { w with draws := ⟨w.draws.list, w.draws.next + 3⟩, box := ⟨w.box.room, w.box.entries ++ [s]⟩, net := ⟨w.net.room, w.net.grams ++ [⟨b, l⟩], w.net.seen ++ [l]⟩, people := PP, log := w.log ++ [e] } ∧ PP = w.people.set i P ∧
    P = putRun p ⟨2, 1, b, drawnW (drawW w), 0, drawnW w, 0, 0, 1⟩ ∧ 2147483648 ≤ drawnW w ∧ 2147483648 ≤ drawnW (drawW w) ∧ getM l = ((⟨6, drawnW w, a, b, 0, hh, 0⟩ : Mssg), 0) ∧
    (∀ key, openW (startOW w a b).1 key 6 hh = if p.key = key then (⟨drawnW (drawW w), drawnW w, a, b, 0, 0, 0⟩, true) else (prt0, false)) ∧ (drawnW (drawW w) ≠ drawnW w → drawnW (drawW w) ≠ hh → hasB l (drawnW (drawW w)) = false) ∧ s.plain.length < 1000000 ∧
    (w.draws.next ≤ 1048567 → formW (startOW w a b).1 = true) := by
  obtain ⟨i, p, e1, e2, e3, e4, e5, e6, e7, e8, e9⟩ := startOW_ok hf h
  obtain ⟨_, a2, _, a4, _, b1, _, _, b4, _⟩ := formW_iff hf
  have a4' := of_decide_eq_true a4
  obtain ⟨_, q1, q2, q3, q4⟩ := pairPl_iff b1 e4
  have q5 := (right_names b1).1
  have r6 := roomW_iff e6
  have hk : 2147483648 ≤ drawnW w := dAt_ge hd _
  have hk2 : 2147483648 ≤ drawnW (drawW w) := dAt_ge hd _
  have hm : mayM (⟨6, drawnW w, a, b, 0, drawnW (drawW (drawW w)), 0⟩ : Mssg) = true := by simp [mayM, fitsM, hasT, kindTags, isKindB, M7.word]
  have hL : putL (⟨6, drawnW w, a, b, 0, drawnW (drawW (drawW w)), 0⟩ : Mssg) = putM ⟨6, drawnW w, a, b, 0, drawnW (drawW (drawW w)), 0⟩ := by unfold putL; rw [if_pos hm]
  have hR : rightB ⟨w.box.room, w.box.entries ++ [⟨drawnW (drawW (drawW w)), p.key, 6, wordsP 6 ⟨drawnW (drawW w), drawnW w, a, b, 0, 0, 0⟩⟩]⟩ = true := right_snoc (by simpa using a2) (by omega) (by dsimp only; exact wordsP_le _ _) e7
  refine ⟨i, p, _, drawnW (drawW (drawW w)), _, _, _, putL ⟨6, drawnW w, a, b, 0, drawnW (drawW (drawW w)), 0⟩, e1, e2, by omega, by omega, by omega, by omega, by rw [e9]; rfl, rfl, rfl, hk, hk2, ?_, ?_, ?_, by dsimp only; exact wordsP_short _ _, ?_⟩
  · rw [hL]; exact get_put hm
  · intro key
    have := opened_new (A := (startOW w a b).1) (r := w.box.room) (es := w.box.entries) (key := p.key) (label := 6) (hd := drawnW (drawW (drawW w))) (p := ⟨drawnW (drawW w), drawnW w, a, b, 0, 0, 0⟩) (by rw [e9]; rfl) (by rw [e9]; exact hR) e7 e8 key 6
    rw [this]
    simp
  · intro n1 n2
    exact frame_not hk2 (show (6 : Int) < _ by decide) n1 (show drawnW (drawW w) ≠ a by omega) (show drawnW (drawW w) ≠ b by omega) (show drawnW (drawW w) ≠ 0 by omega) n2 (show drawnW (drawW w) ≠ 0 by omega)
  · intro hn
    exact startOW_form hf (by omega) a b
theorem shareA_seen {w : Wld} {me : Int} {m : Mssg} (hf : formW w = true) (h1 : 1 ≤ me) (h2 : me < (w.people.length : Int)) (h : (shareAW w me m).2 = 0) : ∃ (i j : Nat) (p P : Person) (r s : Run) (b : Prt) (PP : List Person), me = i ∧ w.people[i]? = some p ∧ p.runs[j]? = some r ∧ P.runs[j]? = some s ∧
    (shareAW w me m).1 = { w with people := PP, log := w.log ++ [⟨4, 2, 1, me, r.peer, b.k, 0, r.m, r.mine, p.clock⟩] } ∧ PP = w.people.set i P ∧ P = { p with runs := p.runs.set j s } ∧ formW (shareAW w me m).1 = true ∧
    openW w p.key 9 m.box = (b, true) ∧ b.n = r.mine ∧ r.m = m.run ∧ r.state = 1 ∧ s.state = 3 ∧ s.k = b.k := by
  obtain ⟨i, j, p, r, b, e1, e2, e3, e4, e5, e6, e7, e8, e9, e10, e11⟩ := shareAW_ok hf h1 h2 h
  have hj := (List.getElem?_eq_some_iff.1 e4).1
  obtain ⟨_, a2, _, a4, _, b1, _, _, b4, _⟩ := formW_iff hf
  have a4' := of_decide_eq_true a4
  refine ⟨i, j, p, { p with runs := p.runs.set j { r with k := b.k, state := 3 } }, r, { r with k := b.k, state := 3 }, b, w.people.set i { p with runs := p.runs.set j { r with k := b.k, state := 3 } }, e1, e2, e4, ?_, ?_, rfl, rfl, ?_, e9, e10, e8, e7, rfl, rfl⟩
  · show (p.runs.set j _)[j]? = _; rw [List.getElem?_set]; simp [hj]
  · rw [e11]; simp [actW]
  · rw [e11]
    refine act_form hf (by show w.draws.next + ((0 : Nat) : Int) ≤ _; have := b4.2; omega) (by simpa using a2) (by simpa using a4'.2.2) (by simp) e2 ((right_names b1).2 i p e2) (run_form (person_form hf e2) e4 rfl rfl (.inr (.inr rfl)))
theorem shareA_rest {w : Wld} {i j : Nat} {p : Person} {s : Run} {m : Mssg} (hf : formW w = true) (h1 : 1 ≤ (i : Int)) (hx : w.people[i]? = some p) (hs : p.runs[j]? = some s) (hn : s.state ≠ 1) : (shareAW w (i : Int) m).1.people.length = w.people.length ∧ ∃ Q : Person, (shareAW w (i : Int) m).1.people[i]? = some Q ∧ Q.runs.length = p.runs.length ∧ Q.runs[j]? = some s := by
 by_cases h : (shareAW w (i : Int) m).2 = 0
 ·obtain ⟨i', k, p', P, r, s', b, PP, e1, e2, e3, e4, e5, e6, e7, _, _, _, _, e8, _⟩ := shareA_seen hf h1 (by have := (List.getElem?_eq_some_iff.1 hx).1; omega) h
  have : i = i' := by omega
  subst this
  rw [hx] at e2; cases e2
  have hi := (List.getElem?_eq_some_iff.1 hx).1
  rw [e5, e6]
  refine ⟨by simp, P, by simp [hi], by rw [e7]; simp, ?_⟩
  rw [e7]
  show (p.runs.set k s')[j]? = some s
  rw [List.getElem?_set, if_neg ?_]
  ·exact hs
  ·rintro rfl
   rw [hs] at e3; cases e3
   exact hn e8
 ·rw [shareAW_err h]
  exact ⟨rfl, p, hx, rfl, hs⟩
end
section
theorem l17_twice (w : Wld) (a b : Int) : ACalls Tryz.prog 7 [.agg (eWld w), .one (u32 a), .one (u32 b)] (rB true) := by
 refine ACalls.introF (fn := Tryz.f7) Tryz.func7 rfl rfl (by simp [Tryz.f7]) fun hf => ?_
 have hdl : ∀ x ∈ w.draws.list, 0 ≤ x := fun x hx => ((fineWords ((hf (.agg (eWld w)) (by simp) : FineCA (.agg (eWld w))) (eWords w.draws.list) (by simp [eWld]))).2 x hx).1
 clear hf
 have aw := l17_awake
 have r1 := q12_few w
 have r2 := q12_form w
 unfold Tryz.f7
 cases h1 : fewW w
 ·rw [h1] at r1
  simp only [eWld, eMssg, eSealeds, eGrams, ePeople, eEvents, eRows, eWords, eLeaks, rB] at *
  refine wk T0 (J3 aw r1 r2) T0 T0
 cases h2 : formW w
 ·rw [h1] at r1
  rw [h2] at r2
  simp only [eWld, eMssg, eSealeds, eGrams, ePeople, eEvents, eRows, eWords, eLeaks, rB] at *
  refine wk T0 (J3 aw r1 r2) T0 T0
 rw [h1] at r1
 rw [h2] at r2
 by_cases hd : 1048567 < w.draws.next
 ·simp only [eWld, eMssg, eSealeds, eGrams, ePeople, eEvents, eRows, eWords, eLeaks, rB] at *
  refine wk hd (J3 aw r1 r2) T0 T0
 have sm : SmallN 10 w := smallN_of (by decide) h1 h2
 have sm' : SmallN 20 w := smallN_of (by decide) h1 h2
 have c1 := p17_start w a b h2 sm
 have s1 := q12_same w w
 rw [decide_eq_true rfl] at s1
 by_cases hx : (startOW w a b).2 = 0
 rotate_left
 ·have hx' : ((startOW w a b).2 != 0) = true := by simp [hx]
  have hx2 : ((startOW w a b).2 == 0) = false := by simp [hx]
  rw [startOW_err hx] at c1
  clear h1 h2 sm sm' hdl
  generalize (startOW w a b).2 = e at *
  simp only [eWld, eMssg, eSealeds, eGrams, ePeople, eEvents, eRows, eWords, eLeaks, rB] at *
  refine wk (J3 hd hx' hx2) (J5 aw r1 r2 c1 s1) T0 T0
 obtain ⟨i, p, P, hh, PP, ev, sd, l, rfl, g2, a1, b1, a2, b2, g3, g4, g5, g6, g7, g8, g9, g10, g11, g12⟩ := startO_seen h2 hdl hx
 have hi := (List.getElem?_eq_some_iff.1 g2).1
 have hVf := g12 (by omega)
 have ok1 := startOW_ok h2 hx
 obtain ⟨V, hV⟩ : ∃ V : Wld, V = (startOW w (i : Int) b).1 := ⟨_, rfl⟩
 rw [hx, ← hV] at c1
 rw [← hV] at g3 g9 hVf
 have smV : SmallN 10 V := by
  obtain ⟨j, q, _, _, _, _, _, _, _, _, e⟩ := ok1
  rw [hV, e]
  exact sm'.act (by simp) (by simp) (by simp) (by simp) (by intro s hs; simp at hs; subst hs; (dsimp only; exact wordsP_short _ _))
 have c2 := p17_start V (i : Int) b hVf smV
 have s2 := q12_same V V
 rw [decide_eq_true rfl] at s2
 by_cases hy : (startOW V (i : Int) b).2 = 0
 rotate_left
 ·have hy' : ((startOW V (i : Int) b).2 != 0) = true := by simp [hy]
  rw [startOW_err hy] at c2
  clear h1 h2 sm sm' hdl smV hVf ok1 g12 g9 g10 g11
  generalize (startOW V (i : Int) b).2 = e at *
  simp only [eWld, eMssg, eSealeds, eGrams, ePeople, eEvents, eRows, eWords, eLeaks, rB] at *
  refine wkx (J2 hd hy') (J6 aw r1 r2 c1 c2 s2) T0 T0
 have hdV : ∀ x ∈ V.draws.list, 0 ≤ x := by rw [g3]; exact hdl
 obtain ⟨i', p', Q, hh', QQ, ev', sd', l', ei, k2, _, _, _, _, k3, k4, k5, _, _, _, _, _, _, _⟩ := startO_seen hVf hdV hy
 have : i = i' := by omega
 subst this
 have vp : V.people[i]? = some P := by rw [g3, g4]; simp [hi]
 rw [vp] at k2
 cases k2
 obtain ⟨n, hn⟩ : ∃ n : Nat, w.draws.next = n := ⟨w.draws.next.toNat, by have := sm.next; omega⟩
 have D0 : drawnW w = dAt w.draws.list n := by show dAt _ w.draws.next.toNat = _; rw [hn]; rfl
 have D1 : drawnW (drawW w) = dAt w.draws.list (n + 1) := by rw [drawnW2 w (by omega), hn]; rfl
 have D2 : drawnW V = dAt w.draws.list (n + 3) := by
  rw [g3]; show dAt w.draws.list (w.draws.next + 3).toNat = _; rw [show (w.draws.next + 3).toNat = n + 3 by omega]
 have D3 : drawnW (drawW V) = dAt w.draws.list (n + 4) := by
  rw [drawnW2 V (by rw [g3]; show 0 ≤ w.draws.next + 3; omega), g3]; show dAt w.draws.list ((w.draws.next + 3).toNat + 1) = _; rw [show (w.draws.next + 3).toNat + 1 = n + 4 by omega]
 obtain ⟨Y, hY⟩ : ∃ Y : Wld, Y = (startOW V (i : Int) b).1 := ⟨_, rfl⟩
 rw [hy, ← hY] at c2
 rw [← hY] at k3
 rw [D2, D3] at k5
 rw [D0, D1] at g5
 have A0 := q04_at w.draws n (by omega)
 have A1 := q04_at w.draws (n + 1) (by omega)
 have A2 := q04_at w.draws (n + 3) (by omega)
 have A3 := q04_at w.draws (n + 4) (by omega)
 have v1 : Y.people[i]? = some Q := by rw [k3, k4]; have := (List.getElem?_eq_some_iff.1 vp).1; simp [this]
 have v2 : Y.people.length = w.people.length := by rw [k3, k4]; simp; rw [g3, g4]; simp
 have v3 : Q.runs[p.runs.length]? = some ⟨2, 1, b, dAt w.draws.list (n + 1), 0, dAt w.draws.list n, 0, 0, 1⟩ := by rw [k5, g5]; simp [putRun]
 have v4 : Q.runs[p.runs.length + 1]? = some ⟨2, 1, b, dAt w.draws.list (n + 4), 0, dAt w.draws.list (n + 3), 0, 0, 1⟩ := by rw [k5, g5]; simp [putRun]
 have v5 : Q.runs.length = p.runs.length + 2 := by rw [k5, g5]; simp [putRun]
 have v6 : Y.net.grams.length = w.net.grams.length + 2 := by rw [k3, g3]; simp
 have v7 : Y.draws.next = (n : Int) + 6 := by rw [k3]; show V.draws.next + 3 = _; rw [g3]; show w.draws.next + 3 + 3 = _; omega
 have pr := (person_used h2 (i : Int)).2
 obtain ⟨_, _, _, _, _, hrl, _⟩ := formW_iff h2
 have hpw : personW w (i : Int) = p := by unfold personW; rw [getPl_at hrl g2]
 rw [hpw] at pr
 have bl2 := sm.grams
 have b7 := (right_names hrl).1
 clear h1 h2 sm sm' smV hdl hdV hx hy hVf ok1 g3 g4 g5 g6 g7 g8 g9 g10 g11 g12 k3 k4 k5 hV hY hrl hpw s1 s2 D0 D1 D2 D3 vp
 generalize dAt w.draws.list n = x0 at *
 generalize dAt w.draws.list (n + 1) = x1 at *
 generalize dAt w.draws.list (n + 3) = x2 at *
 generalize dAt w.draws.list (n + 4) = x3 at *
 have sa := q01_same [x0, x1, x2, x3] [x0, x1, x2, x3]
 rw [decide_eq_true rfl] at sa
 have hi2 : i < Y.people.length := by omega
 have hj : p.runs.length < Q.runs.length := by omega
 have hj2 : p.runs.length + 1 < Q.runs.length := by omega
 have d1 : (Y.people.length : Int) = (w.people.length : Int) := by omega
 have d2 : (Q.runs.length : Int) = (p.runs.length : Int) + 2 := by omega
 have d3 : (Y.net.grams.length : Int) = (w.net.grams.length : Int) + 2 := by omega
 have w1 := wrapI (x := (n : Int) + 6) (by omega) (by omega)
 have w2 := wrapI (x := (w.net.grams.length : Int) + 2) (by omega) (by omega)
 have w3 := wrapI (x := (p.runs.length : Int) + 2) (by omega) (by omega)
 have w4 := wrapI (x := (p.runs.length : Int) + 1) (by omega) (by omega)
 have w5 := wrapI (x := (n : Int) + 1) (by omega) (by omega)
 have w6 := wrapI (x := (n : Int) + 3) (by omega) (by omega)
 have w7 := wrapI (x := (n : Int) + 4) (by omega) (by omega)
 have w8 : ((p.runs.length : Int) + 1).toNat = p.runs.length + 1 := by omega
 clear v2 v5 v6
 rw [hn] at hd
 simp only [eWld, hn, v7, eDraws, Int.natCast_add, Int.cast_ofNat_Int, eMssg, eSealeds, eGrams, ePeople, eEvents, eRows, eWords, eWord, List.map_cons, List.map_nil, eLeaks, rB] at *
 refine wkx (J9 hd g2 v1 v3 v4 hi hi2 hj (J9 hj2 d1 d2 d3 w1 w2 w3 w4 (J8 w5 w6 w7 w8 eRun.eq_1 ePerson.eq_1 eWords.eq_1 eRuns.eq_1))) (J9 aw r1 r2 c1 c2 A0 A1 A2 (J2 A3 sa)) T0 T0
end
section
theorem open_agg {α : Type} {C : Cod α} {H : Type} {enc : TypeId × Value → H} {P : Program} {W : World} {r : Reach} {b0 : Nat} {t : TypeId} {fs : Array Field} {v : Value} {d : DataW H} {p : List MemPlace} (ho : Cod.Opens P t C) (hs : P.underlying t = some (.struct fs))
    (hv : Value.okWide P W r b0 t v) (h : DataW.Trod enc P W 0 (fun _ => true) true t v d p) : ∃ (vs : List Value) (y : α), v = .agg vs.toArray ∧ C.rep W W.heap.size vs y := by
  obtain ⟨cs, rfl, _⟩ := Go.WideShapes.okWide_struct hs hv
  obtain ⟨fuel, hf⟩ := h
  obtain ⟨y, hy⟩ := ho.2 H enc W fuel cs.toList _ hf
  exact ⟨cs.toList, y, rfl, hy⟩
theorem RC.int {S : Sh} {w : World} {k : IntKind} {n : Int} (h : (Lit.int k n).wf = true) : RC S w (.one (.v (.int k n))) (.int k n) := R.v (inK_wf.trans h)
theorem RC.flag {S : Sh} {w : World} (b : Bool) : RC S w (.one (.v (.bool b))) (.bool b) := R.v rfl
theorem RC.str {S : Sh} {w : World} (s : ByteArray) : RC S w (.one (.v (.string s))) (.string s) := R.v rfl
theorem openWords : Cod.Opens Tryz.prog 25 Cod.words := Cod.Opens.row (e := 22) Tryz.underlying25 (by kernel_rfl) (Cod.Opens.num Tryz.underlying22 (by kernel_rfl)) (by decide)
end
section
theorem openRows : Cod.Opens Tryz.prog 32 Cod.words.row := Cod.Opens.row (e := 25) Tryz.underlying32 (by kernel_rfl) openWords (by decide)
theorem openGram : Cod.Opens Tryz.prog 62 gramC :=
 (Cod.Opens.struct Tryz.underlying62 (by kernel_rfl) (Cod.OpensAt.cons rfl (Cod.Opens.num Tryz.underlying22 (by kernel_rfl)) (Cod.OpensAt.one rfl openWords))).via _ fun a => ⟨⟨a.1, a.2⟩, rfl⟩
theorem openNet : Cod.Opens Tryz.prog 34 netC :=
 (Cod.Opens.struct Tryz.underlying34 (by kernel_rfl) (Cod.OpensAt.cons rfl (Cod.Opens.num Tryz.underlying3 (by kernel_rfl))
  (Cod.OpensAt.cons rfl (Cod.Opens.row (e := 62) Tryz.underlying31 (by kernel_rfl) openGram (by decide)) (Cod.OpensAt.one rfl openRows)))).via _ fun a => ⟨⟨a.1, a.2.1, a.2.2⟩, rfl⟩
end
section
theorem openSealed : Cod.Opens Tryz.prog 120 sealedC :=
 (Cod.Opens.struct Tryz.underlying120 (by kernel_rfl) (Cod.OpensAt.cons rfl (Cod.Opens.num Tryz.underlying22 (by kernel_rfl))
  (Cod.OpensAt.cons rfl (Cod.Opens.num Tryz.underlying22 (by kernel_rfl)) (Cod.OpensAt.cons rfl (Cod.Opens.num Tryz.underlying22 (by kernel_rfl)) (Cod.OpensAt.one rfl openWords))))).via _ fun a => ⟨⟨a.1, a.2.1, a.2.2.1, a.2.2.2⟩, rfl⟩
theorem openBox : Cod.Opens Tryz.prog 30 boxC :=
 (Cod.Opens.struct Tryz.underlying30 (by kernel_rfl) (Cod.OpensAt.cons rfl (Cod.Opens.num Tryz.underlying3 (by kernel_rfl))
  (Cod.OpensAt.one rfl (Cod.Opens.row (e := 120) Tryz.underlying28 (by kernel_rfl) openSealed (by decide))))).via _ fun a => ⟨⟨a.1, a.2⟩, rfl⟩
end
section
theorem openRun : Cod.Opens Tryz.prog 58 runC :=
 (Cod.Opens.struct Tryz.underlying58 (by kernel_rfl) (Cod.OpensAt.cons rfl (Cod.Opens.num Tryz.underlying3 (by kernel_rfl)) (Cod.OpensAt.cons rfl (Cod.Opens.num Tryz.underlying3 (by kernel_rfl)) (Cod.OpensAt.cons rfl (Cod.Opens.num Tryz.underlying22 (by kernel_rfl)) (Cod.OpensAt.cons rfl (Cod.Opens.num Tryz.underlying22 (by kernel_rfl)) (Cod.OpensAt.cons rfl (Cod.Opens.num Tryz.underlying22 (by kernel_rfl)) (Cod.OpensAt.cons rfl (Cod.Opens.num Tryz.underlying22 (by kernel_rfl)) (Cod.OpensAt.cons rfl (Cod.Opens.num Tryz.underlying22 (by kernel_rfl)) (Cod.OpensAt.cons rfl (Cod.Opens.num Tryz.underlying22 (by kernel_rfl)) (Cod.OpensAt.one rfl (Cod.Opens.num Tryz.underlying3 (by kernel_rfl)))))))))))).via _ fun a => ⟨⟨a.1, a.2.1, a.2.2.1, a.2.2.2.1, a.2.2.2.2.1, a.2.2.2.2.2.1, a.2.2.2.2.2.2.1, a.2.2.2.2.2.2.2.1, a.2.2.2.2.2.2.2.2⟩, rfl⟩
theorem openEvent : Cod.Opens Tryz.prog 70 eventC :=
 (Cod.Opens.struct Tryz.underlying70 (by kernel_rfl) (Cod.OpensAt.cons rfl (Cod.Opens.num Tryz.underlying3 (by kernel_rfl)) (Cod.OpensAt.cons rfl (Cod.Opens.num Tryz.underlying3 (by kernel_rfl)) (Cod.OpensAt.cons rfl (Cod.Opens.num Tryz.underlying3 (by kernel_rfl)) (Cod.OpensAt.cons rfl (Cod.Opens.num Tryz.underlying22 (by kernel_rfl)) (Cod.OpensAt.cons rfl (Cod.Opens.num Tryz.underlying22 (by kernel_rfl)) (Cod.OpensAt.cons rfl (Cod.Opens.num Tryz.underlying22 (by kernel_rfl)) (Cod.OpensAt.cons rfl (Cod.Opens.num Tryz.underlying22 (by kernel_rfl)) (Cod.OpensAt.cons rfl (Cod.Opens.num Tryz.underlying22 (by kernel_rfl)) (Cod.OpensAt.cons rfl (Cod.Opens.num Tryz.underlying22 (by kernel_rfl)) (Cod.OpensAt.one rfl (Cod.Opens.num Tryz.underlying22 (by kernel_rfl))))))))))))).via _ fun a => ⟨⟨a.1, a.2.1, a.2.2.1, a.2.2.2.1, a.2.2.2.2.1, a.2.2.2.2.2.1, a.2.2.2.2.2.2.1, a.2.2.2.2.2.2.2.1, a.2.2.2.2.2.2.2.2.1, a.2.2.2.2.2.2.2.2.2⟩, rfl⟩
theorem openLeak : Cod.Opens Tryz.prog 100 leakC :=
 (Cod.Opens.struct Tryz.underlying100 (by kernel_rfl) (Cod.OpensAt.cons rfl (Cod.Opens.num Tryz.underlying22 (by kernel_rfl)) (Cod.OpensAt.one rfl (Cod.Opens.num Tryz.underlying22 (by kernel_rfl))))).via _ fun a => ⟨⟨a.1, a.2⟩, rfl⟩
theorem openConf : Cod.Opens Tryz.prog 24 confC :=
 (Cod.Opens.struct Tryz.underlying24 (by kernel_rfl) (Cod.OpensAt.cons rfl (Cod.Opens.num Tryz.underlying22 (by kernel_rfl)) (Cod.OpensAt.cons rfl (Cod.Opens.num Tryz.underlying3 (by kernel_rfl)) (Cod.OpensAt.cons rfl (Cod.Opens.num Tryz.underlying3 (by kernel_rfl)) (Cod.OpensAt.cons rfl (Cod.Opens.num Tryz.underlying3 (by kernel_rfl)) (Cod.OpensAt.cons rfl (Cod.Opens.num Tryz.underlying3 (by kernel_rfl)) (Cod.OpensAt.cons rfl (Cod.Opens.num Tryz.underlying3 (by kernel_rfl)) (Cod.OpensAt.one rfl (Cod.Opens.num Tryz.underlying3 (by kernel_rfl)))))))))).via _ fun a => ⟨⟨a.1, a.2.1, a.2.2.1, a.2.2.2.1, a.2.2.2.2.1, a.2.2.2.2.2.1, a.2.2.2.2.2.2⟩, rfl⟩
theorem openMsg : Cod.Opens Tryz.prog 41 mssgC :=
 (Cod.Opens.struct Tryz.underlying41 (by kernel_rfl) (Cod.OpensAt.cons rfl (Cod.Opens.num Tryz.underlying22 (by kernel_rfl)) (Cod.OpensAt.cons rfl (Cod.Opens.num Tryz.underlying22 (by kernel_rfl)) (Cod.OpensAt.cons rfl (Cod.Opens.num Tryz.underlying22 (by kernel_rfl)) (Cod.OpensAt.cons rfl (Cod.Opens.num Tryz.underlying22 (by kernel_rfl)) (Cod.OpensAt.cons rfl (Cod.Opens.num Tryz.underlying22 (by kernel_rfl)) (Cod.OpensAt.cons rfl (Cod.Opens.num Tryz.underlying22 (by kernel_rfl)) (Cod.OpensAt.one rfl (Cod.Opens.num Tryz.underlying22 (by kernel_rfl)))))))))).via _ fun a => ⟨⟨a.1, a.2.1, a.2.2.1, a.2.2.2.1, a.2.2.2.2.1, a.2.2.2.2.2.1, a.2.2.2.2.2.2⟩, rfl⟩
theorem openDraws : Cod.Opens Tryz.prog 27 drawsC :=
 (Cod.Opens.struct Tryz.underlying27 (by kernel_rfl) (Cod.OpensAt.cons rfl openWords (Cod.OpensAt.one rfl (Cod.Opens.num Tryz.underlying3 (by kernel_rfl))))).via _ fun a => ⟨⟨a.1, a.2⟩, rfl⟩
theorem openPerson : Cod.Opens Tryz.prog 56 personC :=
 (Cod.Opens.struct Tryz.underlying56 (by kernel_rfl) (Cod.OpensAt.cons rfl (Cod.Opens.num Tryz.underlying22 (by kernel_rfl)) (Cod.OpensAt.cons rfl (Cod.Opens.num Tryz.underlying22 (by kernel_rfl)) (Cod.OpensAt.cons rfl (Cod.Opens.num Tryz.underlying22 (by kernel_rfl)) (Cod.OpensAt.cons rfl openWords (Cod.OpensAt.cons rfl (Cod.Opens.row (e := 58) Tryz.underlying54 (by kernel_rfl) openRun (by decide)) (Cod.OpensAt.one rfl (Cod.Opens.flag Tryz.underlying4 (by kernel_rfl))))))))).via _ fun a => ⟨⟨a.1, a.2.1, a.2.2.1, a.2.2.2.1, a.2.2.2.2.1, a.2.2.2.2.2⟩, rfl⟩
theorem openWorld : Cod.Opens Tryz.prog 39 wldC :=
 (Cod.Opens.struct Tryz.underlying39 (by kernel_rfl) (Cod.OpensAt.cons rfl openConf (Cod.OpensAt.cons rfl openDraws (Cod.OpensAt.cons rfl openBox (Cod.OpensAt.cons rfl openNet (Cod.OpensAt.cons rfl (Cod.Opens.row (e := 56) Tryz.underlying35 (by kernel_rfl) openPerson (by decide)) (Cod.OpensAt.cons rfl (Cod.Opens.row (e := 70) Tryz.underlying36 (by kernel_rfl) openEvent (by decide)) (Cod.OpensAt.cons rfl openRows (Cod.OpensAt.one rfl (Cod.Opens.row (e := 100) Tryz.underlying37 (by kernel_rfl) openLeak (by decide))))))))))).via _ fun a => ⟨⟨a.1, a.2.1, a.2.2.1, a.2.2.2.1, a.2.2.2.2.1, a.2.2.2.2.2.1, a.2.2.2.2.2.2.1, a.2.2.2.2.2.2.2⟩, rfl⟩
end
end Go.Proofs.YtbjkgfppafjmgaaGreatDoor.Abs
section
namespace Go.Proofs.YtbjkgfppafjmgaaGreatDoor.Abs
open Go.ChangeShapes Go.WideShapes Go.RowKit
theorem own : ownKnob Tryz.prog.godebug = none := by kernel_rfl
theorem laidOut : laidOutB Tryz.prog = true := by kernel_rfl
theorem masksG : Tryz.prog.globalNamed "chamberlain/msg.masks" = some 0 := by kernel_rfl
theorem masksT : (Tryz.prog.globals[0]?).map (·.type) = some 208 := by kernel_rfl
theorem cellsT : Tryz.prog.cellsOf 208 = 10 := by kernel_rfl
theorem cellsU : Tryz.prog.cellsOf 22 = 1 := by kernel_rfl
theorem word_of_trod {H : Type} {enc : TypeId × Value → H} {w : World} {base : Nat} {sp : Nat → Bool} {held : Bool} {fuel : Nat} {c : Value} {y : DataW H × List MemPlace}
    (h : DataW.trod enc Tryz.prog w base sp held fuel 22 [c] = some y) : ∃ n, c = .int .u32 n ∧ y = (.lit (.int .u32 n), []) ∧ (Lit.int .u32 n).wf = true := by
  obtain ⟨n, h1, h2, h3⟩ := DataW.trod_int Tryz.underlying22 h
  simp at h1
  exact ⟨n, h1, h2, h3⟩
def masksC : Array Value := #[.int .u32 0, .int .u32 56, .int .u32 64, .int .u32 64, .int .u32 64, .int .u32 64, .int .u32 92, .int .u32 220, .int .u32 196, .int .u32 68]
theorem gl_of_laid {W : World} (h : laidMet Tryz.prog [("chamberlain/msg.masks", Rows.laid_chamberlain_msg_masks)] W) : Gl (fun k b => k = 0 ∧ b < W.heap.size) W := by
 obtain ⟨ps, ⟨g, t, cs, fuel, p, q, hg, ht, hvar, hd, _, _⟩, _⟩ := h
 obtain rfl := Option.some.inj (masksG.symm.trans hg)
 obtain rfl := Option.some.inj (masksT.symm.trans ht)
 have key : cs = masksC := by
  obtain ⟨l⟩ := cs
  cases fuel with
  | zero => simp [DataW.trod] at hd
  | succ fuel =>
   simp only [DataW.trod, Tryz.underlying208, cellsT, cellsU] at hd
   split at hd
   ·rename_i hl
    obtain ⟨c0, c1, c2, c3, c4, c5, c6, c7, c8, c9, rfl⟩ : ∃ c0 c1 c2 c3 c4 c5 c6 c7 c8 c9, l = [c0, c1, c2, c3, c4, c5, c6, c7, c8, c9] := by
     match l, hl with
     | [c0, c1, c2, c3, c4, c5, c6, c7, c8, c9], _ => exact ⟨c0, c1, c2, c3, c4, c5, c6, c7, c8, c9, rfl⟩
    have e : List.range 10 = [0, 1, 2, 3, 4, 5, 6, 7, 8, 9] := rfl
    rw [e] at hd
    simp only [Option.map_eq_some_iff, List.mapM_cons, List.mapM_nil, Option.bind_eq_bind, Option.bind_eq_some_iff, Option.pure_def, Option.some.injEq] at hd
    obtain ⟨xs, ⟨y0, h0, _, ⟨y1, h1, _, ⟨y2, h2, _, ⟨y3, h3, _, ⟨y4, h4, _, ⟨y5, h5, _, ⟨y6, h6, _, ⟨y7, h7, _, ⟨y8, h8, _, ⟨y9, h9, _, rfl, rfl⟩, rfl⟩, rfl⟩, rfl⟩, rfl⟩, rfl⟩, rfl⟩, rfl⟩, rfl⟩, rfl⟩, hx⟩ := hd
    obtain ⟨n0, rfl, rfl, _⟩ := word_of_trod h0
    obtain ⟨n1, rfl, rfl, _⟩ := word_of_trod h1
    obtain ⟨n2, rfl, rfl, _⟩ := word_of_trod h2
    obtain ⟨n3, rfl, rfl, _⟩ := word_of_trod h3
    obtain ⟨n4, rfl, rfl, _⟩ := word_of_trod h4
    obtain ⟨n5, rfl, rfl, _⟩ := word_of_trod h5
    obtain ⟨n6, rfl, rfl, _⟩ := word_of_trod h6
    obtain ⟨n7, rfl, rfl, _⟩ := word_of_trod h7
    obtain ⟨n8, rfl, rfl, _⟩ := word_of_trod h8
    obtain ⟨n9, rfl, rfl, _⟩ := word_of_trod h9
    simp [Rows.laid_chamberlain_msg_masks] at hx
    obtain ⟨⟨rfl, rfl, rfl, rfl, rfl, rfl, rfl, rfl, rfl, rfl⟩, _⟩ := hx
    rfl
   ·cases hd
 subst key
 have cell : ∀ (i : Nat) (u : Value), masksC[i]? = some u → W.cell? ⟨0, i, none⟩ = some u := fun i u hu => (World.var?_cell hg hvar i).trans hu
 have hlt : 0 < W.heap.size := lt_of_cell (cell 0 _ rfl)
 intro g vs hgv
 unfold tabsV at hgv
 split at hgv
 ·cases hgv
  exact ⟨⟨rfl, hlt⟩, fun j u hj => by rw [Nat.zero_add]; exact cell j u (by unfold masksC; rw [List.getElem?_toArray]; exact hj)⟩
 ·cases hgv
noncomputable def laidWorld (os : Os) : World :=
  { World.holding Tryz.prog os ⟨#[], #[], []⟩ with heap := (World.holding Tryz.prog os ⟨#[], #[], []⟩).heap.modify 0 fun
      | .cells _ t frozen => .cells masksC t frozen
      | o => o }
theorem laidWorld_row (os : Os) (args : Array Value) : ((laidWorld os).forCall (fun _ _ => 0) ⟨#[], args, []⟩).memory.heap[0]? = some (.cells masksC 208 (0, 0)) := by kernel_rfl
theorem laidWorld_met (os : Os) (args : Array Value) : laidMet Tryz.prog [("chamberlain/msg.masks", Rows.laid_chamberlain_msg_masks)] ((laidWorld os).forCall (fun _ _ => 0) ⟨#[], args, []⟩).memory := by
 refine ⟨_, ⟨0, 208, masksC, 8, [], [], by kernel_rfl, by kernel_rfl, by kernel_rfl, by kernel_rfl, rfl, rfl⟩, by decide, fun b off h => ?_⟩
 have h' : MemPlace.cell b off ∈ [MemPlace.cell 0 0, .cell 0 1, .cell 0 2, .cell 0 3, .cell 0 4, .cell 0 5, .cell 0 6, .cell 0 7, .cell 0 8, .cell 0 9] := h
 have hb : b = 0 := by simp at h'; omega
 subst hb
 refine ⟨⟨_, _, laidWorld_row os args⟩, fun u v hc => ?_⟩
 simp only [World.cell?, laidWorld_row os args] at hc
 simp at h'
 rcases h' with rfl | rfl | rfl | rfl | rfl | rfl | rfl | rfl | rfl | rfl <;> simp [masksC] at hc
end Go.Proofs.YtbjkgfppafjmgaaGreatDoor.Abs
end
