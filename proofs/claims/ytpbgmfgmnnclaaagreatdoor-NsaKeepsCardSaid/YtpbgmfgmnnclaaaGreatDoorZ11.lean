/- Texts that were merged: L10n, M1, P15c, AbsX, P15b, P15d, P15f, P15e, P15g, P15, Q15b, Q15c, Q12n, Q12b. -/
import Derived.Test.YtpbgmfgmnnclaaaGreatDoorZ5
import Derived.Test.YtpbgmfgmnnclaaaGreatDoorZ10
import Derived.Test.YtpbgmfgmnnclaaaGreatDoorZ6
import Derived.Test.YtpbgmfgmnnclaaaGreatDoorZ4
import Derived.Test.YtpbgmfgmnnclaaaGreatDoorZ2
import Derived.Test.YtpbgmfgmnnclaaaGreatDoorZ7
section
/- Rows of principals that are right: each at its name. -/
set_option linter.unusedSimpArgs false
set_option linter.unusedVariables false
set_option maxRecDepth 100000
namespace Go.Proofs.YtpbgmfgmnnclaaaGreatDoor.Abs
open Go.RowKit
theorem right_names {l : List Person} (h : rightPl l = true) : l.length ≤ 7 ∧ ∀ (i : Nat) (x : Person), l[i]? = some x → x.name = (i : Int) := by
  unfold rightPl at h
  rw [Bool.and_eq_true, decide_eq_true_eq] at h
  obtain ⟨h1, h2, h3⟩ := h
  refine ⟨by omega, fun i x hx => ?_⟩
  have hi := (List.getElem?_eq_some_iff.1 hx).1
  rw [namesB_iff.1 h1 i x hx]
  exact IntWalk.u32_in _ (by omega)
theorem getPl_at {l : List Person} (h : rightPl l = true) {i : Nat} {x : Person} (hx : l[i]? = some x) : getPl l (i : Int) = (x, true) := by
  have hn := (right_names h).2
  cases hf : l.find? (fun p => p.name == (i : Int)) with
  | none =>
    have := List.find?_eq_none.1 hf x (List.mem_of_getElem? hx)
    rw [hn i x hx] at this
    simp at this
  | some y =>
    have h1 := List.find?_some hf
    obtain ⟨j, hj⟩ := List.mem_iff_getElem?.1 (List.mem_of_find?_eq_some hf)
    have h2 := hn j y hj
    rw [beq_iff_eq] at h1
    have : j = i := by omega
    subst this
    rw [hx] at hj
    cases hj
    unfold getPl; rw [hf]
theorem getPl_no {l : List Person} (h : rightPl l = true) {n : Int} (hn : (l.length : Int) ≤ n ∨ n < 0) : getPl l n = (person0, false) := by
  have : l.find? (fun p => p.name == n) = none := List.find?_eq_none.2 fun x hx => by
    obtain ⟨i, hi⟩ := List.mem_iff_getElem?.1 hx
    have h1 := (right_names h).2 i x hi
    have h2 := (List.getElem?_eq_some_iff.1 hi).1
    rw [beq_iff_eq]
    omega
  unfold getPl; rw [this]
theorem getPl_ok {l : List Person} (h : rightPl l = true) (n : Int) : (getPl l n).2 = decide (0 ≤ n ∧ n < (l.length : Int)) := by
  by_cases hn : 0 ≤ n ∧ n < (l.length : Int)
  · obtain ⟨i, rfl⟩ : ∃ i : Nat, n = i := ⟨n.toNat, by omega⟩
    rw [getPl_at h (List.getElem?_eq_getElem (by omega)), decide_eq_true hn]
  · rw [getPl_no h (by omega), decide_eq_false hn]
end Go.Proofs.YtpbgmfgmnnclaaaGreatDoor.Abs
end
section
/- What a step of a principal or of the server makes of a world: plain mathematics. -/
set_option linter.unusedSimpArgs false
set_option linter.unusedVariables false
set_option maxRecDepth 100000
namespace Go.Proofs.YtpbgmfgmnnclaaaGreatDoor.Abs
open Go.RowKit
/-- What a step brings: so many draws, seals, somebody who is another one, events, frames. -/
structure Act where
  draws : Nat
  seals : List Sealed
  who : Nat
  new : Person
  evs : List Event
  frames : List Gram
def actW (w : Wld) (a : Act) : Wld := { w with
  draws := ⟨w.draws.list, w.draws.next + (a.draws : Int)⟩
  box := ⟨w.box.room, w.box.entries ++ a.seals⟩
  net := ⟨w.net.room, w.net.grams ++ a.frames, w.net.seen ++ a.frames.map (·.words)⟩
  people := w.people.set a.who a.new
  log := w.log ++ a.evs }
theorem setPl_at {l : List Person} (hl : rightPl l = true) {i : Nat} {x p : Person} (hx : l[i]? = some x) (hp : p.name = (i : Int)) : setPl l p = (l.set i p, 0) := by
  have hn := (right_names hl).2
  have hi := (List.getElem?_eq_some_iff.1 hx).1
  have hxn := hn i x hx
  unfold setPl
  have hany : l.any (fun q => q.name == p.name) = true := List.any_eq_true.2 ⟨x, List.mem_of_getElem? hx, by simp [hxn, hp]⟩
  rw [hany]
  refine Prod.ext (List.ext_getElem? fun k => ?_) rfl
  rw [List.getElem?_map, List.getElem?_set]
  cases hk : l[k]? with
  | none =>
    have : l.length ≤ k := List.getElem?_eq_none_iff.1 hk
    rw [if_neg (by omega)]; rfl
  | some y =>
    have e2 := hn k y hk
    by_cases e : i = k
    · subst e
      rw [hx] at hk; cases hk
      simp [hp, hxn, hi]
    · rw [if_neg e]
      have : y.name ≠ p.name := by omega
      simp [this]
theorem withW_at {w : Wld} (hl : rightPl w.people = true) {i : Nat} {x p : Person} (hx : w.people[i]? = some x) (hp : p.name = (i : Int)) : withW w p = { w with people := w.people.set i p } := by
  unfold withW
  rw [setPl_at hl hx hp]
  rfl
theorem withW_to {w v : Wld} {i : Nat} {x p : Person} (hv : v.people = w.people) (hl : rightPl w.people = true) (hx : w.people[i]? = some x) (hp : p.name = (i : Int)) : withW v p = { v with people := w.people.set i p } := by
  rw [withW_at (hv ▸ hl) (by rw [hv]; exact hx) hp, hv]
theorem withR_to {w v : Wld} {i j : Nat} {x p : Person} {r : Run} (hv : v.people = w.people) (hl : rightPl w.people = true) (hx : w.people[i]? = some x) (hp : p.name = (i : Int)) : withR v p j r = { v with people := w.people.set i { p with runs := p.runs.set j r } } := withW_to hv hl hx hp
theorem sentW_ok {w : Wld} {to : Int} {m : Mssg} (hm : mayM m = true) (hr : ¬ w.net.room ≤ (w.net.grams.length : Int)) : sentW w to m = { w with net := ⟨w.net.room, w.net.grams ++ [⟨to, putL m⟩], w.net.seen ++ [putL m]⟩ } := by
  unfold sentW
  rcases sendW_cases w to m with ⟨h, _⟩ | ⟨_, h, _⟩ | ⟨_, _, h⟩
  · rw [hm] at h; cases h
  · exact absurd h hr
  · rw [h]
theorem roomW_iff {w : Wld} {b f : Int} (h : roomW w b f = true) : b ≤ w.box.room - (w.box.entries.length : Int) ∧ f ≤ w.net.room - (w.net.grams.length : Int) := of_decide_eq_true h
theorem person_at {w : Wld} (hl : rightPl w.people = true) {n : Int} (h0 : 0 ≤ n) (h1 : n < (w.people.length : Int)) : ∃ (i : Nat) (p : Person), n = i ∧ w.people[i]? = some p ∧ personW w n = p ∧ p.name = (i : Int) := by
  obtain ⟨i, rfl⟩ : ∃ i : Nat, n = i := ⟨n.toNat, by omega⟩
  have hx : w.people[i]? = some w.people[i] := List.getElem?_eq_getElem (by omega)
  exact ⟨i, _, rfl, hx, by unfold personW; rw [getPl_at hl hx], (right_names hl).2 i _ hx⟩
theorem pairPl_iff {l : List Person} (h : rightPl l = true) {a b : Int} (hp : pairPl l a b = true) : a ≠ b ∧ 1 ≤ a ∧ 1 ≤ b ∧ a < (l.length : Int) ∧ b < (l.length : Int) := by
  unfold pairPl at hp
  rw [getPl_ok h, getPl_ok h] at hp
  simp only [Bool.and_eq_true, decide_eq_true_eq, bne_iff_ne] at hp
  omega
/-! A step with an error changes nothing. -/
theorem startNW_err {w : Wld} {a b : Int} (h : (startNW w a b).2 ≠ 0) : (startNW w a b).1 = w := by
  unfold startNW at h ⊢
  split at h <;> rename_i g1
  · rw [if_pos g1]
  · rw [if_neg g1]
    split at h <;> rename_i g2
    · rw [if_pos g2]
    · exact absurd rfl h
theorem grantNW_err {w : Wld} {me : Int} {m : Mssg} (h : (grantNW w me m).2 ≠ 0) : (grantNW w me m).1 = w := by
  revert h
  unfold grantNW grantedW
  split
  · exact fun _ => rfl
  cases (personW w me).runs.find? (waitsN (openW w (personW w me).key 2 m.box).1) with
  | none => exact fun _ => rfl
  | some r =>
    simp only
    split
    · exact fun _ => rfl
    split
    · exact fun _ => rfl
    exact fun h => absurd rfl h
theorem echoNW_err {w : Wld} {me : Int} {m : Mssg} (h : (echoNW w me m).2 ≠ 0) : (echoNW w me m).1 = w := by
  revert h
  unfold echoNW
  cases (personW w me).runs.find? (runsN w m) with
  | none => exact fun _ => rfl
  | some r =>
    simp only
    split
    · exact fun _ => rfl
    split
    · exact fun _ => rfl
    split
    · exact fun _ => rfl
    exact fun h => absurd rfl h
/-! What a step without an error brings. -/
theorem startNW_ok {w : Wld} {a b : Int} (hf : formW w = true) (h : (startNW w a b).2 = 0) : ∃ (i : Nat) (p : Person), a = i ∧ w.people[i]? = some p ∧ personW w a = p ∧ pairPl w.people a b = true ∧ (p.runs.length : Int) < w.conf.runs ∧ roomW w 0 1 = true ∧
    (startNW w a b).1 = actW w ⟨1, [], i, putRun p ⟨1, 1, b, drawnW w, 0, 0, 0, 0, 1⟩, [⟨1, 1, 1, a, b, 0, 0, 0, drawnW w, p.clock⟩], [⟨0, putL ⟨1, 0, a, b, drawnW w, 0, 0⟩⟩]⟩ := by
  obtain ⟨_, _, _, _, _, hl, _⟩ := formW_iff hf
  unfold startNW at h ⊢
  split at h
  · cases h
  rename_i g1
  split at h
  · cases h
  rename_i g2
  rw [if_neg g1, if_neg g2]
  have hp : pairPl w.people a b = true := by simpa using g1
  have hr : roomW w 0 1 = true := by cases hr : roomW w 0 1 with
    | true => rfl
    | false => exact absurd (.inr hr) g2
  obtain ⟨_, q1, _, q2, _⟩ := pairPl_iff hl hp
  obtain ⟨i, p, e1, e2, e3, e4⟩ := person_at hl (by omega) q2
  refine ⟨i, p, e1, e2, e3, hp, ?_, hr, ?_⟩
  · rw [e3] at g2; exact Int.not_le.1 fun hc => g2 (.inl hc)
  · rw [e3]
    have hr2 := (roomW_iff hr).2
    rw [withW_at (w := drawW w) hl e2 (show (putRun p _).name = (i : Int) from e4), sentW_ok (by simp [mayM, fitsM, hasT, kindTags, isKindB, M7.word]) (by show ¬ w.net.room ≤ (w.net.grams.length : Int); omega)]
    simp [actW, logW, drawW]
end Go.Proofs.YtpbgmfgmnnclaaaGreatDoor.Abs
end
section
/- The landed nsa, over values without addresses: Start. -/
set_option linter.unusedSimpArgs false
set_option linter.unusedVariables false
set_option maxRecDepth 100000
namespace Go.Proofs.YtpbgmfgmnnclaaaGreatDoor.Abs
open Go.RowKit
theorem send_room {w : Wld} {t : Int} {m : Mssg} (hm : mayM m = true) (hr : ¬ w.net.room ≤ (w.net.grams.length : Int)) : sendW w t m = (sentW w t m, 0) := by
  rcases sendW_cases w t m with ⟨h, _⟩ | ⟨_, h, _⟩ | ⟨_, _, h⟩
  · rw [hm] at h; cases h
  · exact absurd h hr
  · unfold sentW; rw [h]
theorem withW_net (w : Wld) (p : Person) : (withW w p).net = w.net ∧ (withW w p).log = w.log ∧ (withW w p).box = w.box ∧ (withW w p).conf = w.conf := by
  unfold withW
  split
  · exact ⟨rfl, rfl, rfl, rfl⟩
  · exact ⟨rfl, rfl, rfl, rfl⟩
def startR (w : Wld) (b : Int) : Run := ⟨1, 1, b, drawnW w, 0, 0, 0, 0, 1⟩
def startU (w : Wld) (a b : Int) : Wld := logW (withW (drawW w) (putRun (personW w a) (startR w b))) ⟨1, 1, 1, (personW w a).name, b, 0, 0, 0, drawnW w, (personW w a).clock⟩
set_option maxHeartbeats 8000000 in
theorem p15_begin (w : Wld) (a b : Int) (h : Good 10 w) : ∃ D : Deed, ((startNW w a b).2 = 0 → (startNW w a b).1 = D.w) ∧ ∀ bb, ACalls Tryz.prog 35 [.one (rawV bb 0), .one (u32 a), .one (u32 b)]
    (.bx [(bb, .cells (eDeed ⟨w, personW w a, run0⟩))] [(bb, .cells (eDeed D))] [.one (i64 (startNW w a b).2)]) := by
  have c1 := p10_pair w.people a b h.ppl
  have c2 := p12_room w 0 1 h.box h.net
  have c3 := p12_draw w h.small.small.next
  have hp := h.person a
  have c4 := p09_add 0 (personW w a).runs (drawW w).conf.runs (startR w b) (by omega)
  by_cases hpr : pairPl w.people a b = false
  · refine ⟨⟨w, personW w a, run0⟩, fun _ => ?_, fun bb => ?_⟩
    · unfold startNW; rw [if_pos hpr]
    · rw [show (startNW w a b).2 = 5 from by unfold startNW; rw [if_pos hpr]]
      rw [hpr] at c1
      clear c2 c3 c4 h hpr hp
      refine ACalls.introX (fn := Tryz.f35) Tryz.func35 rfl rfl (by simp [Tryz.f35]) ?_
      generalize personW w a = P at *
      unfold Tryz.f35
      simp only [rawV, insOf, setBs, eDeed, run0, eWld, ePerson, eSealeds, eGrams, ePeople, eEvents, eRows, eWords, eLeaks, eRuns, rB, rI] at *
      refine wk0 trivial c1 trivial
      all_goals (try simp only [go_sem, ↓reduceIte, reduceCtorEq, Nat.reduceLT, Nat.reduceEqDiff, Nat.reduceBEq, Nat.reduceAdd, Nat.reduceSub, Nat.reduceMul, Nat.reduceLeDiff, Int.reduceLE, Int.reduceLT, Int.reduceNeg, Int.reduceEq, Int.reduceBEq, Int.reduceBNe, Int.reduceToNat])
  have hpt : pairPl w.people a b = true := by simpa using hpr
  rw [hpt] at c1
  by_cases hrr : w.conf.runs ≤ ((personW w a).runs.length : Int) ∨ roomW w 0 1 = false
  · refine ⟨⟨w, personW w a, run0⟩, fun _ => ?_, fun bb => ?_⟩
    · unfold startNW; rw [if_neg hpr, if_pos hrr]
    · rw [show (startNW w a b).2 = 10 from by unfold startNW; rw [if_neg hpr, if_pos hrr]]
      clear c3 c4 h hpr hp
      refine ACalls.introX (fn := Tryz.f35) Tryz.func35 rfl rfl (by simp [Tryz.f35]) ?_
      generalize personW w a = P at *
      generalize roomW w 0 1 = rm at *
      unfold Tryz.f35
      simp only [rawV, insOf, setBs, eDeed, run0, eWld, ePerson, eSealeds, eGrams, ePeople, eEvents, eRows, eWords, eLeaks, eRuns, rB, rI] at *
      by_cases hc : w.conf.runs ≤ (P.runs.length : Int)
      · refine wk0 hc (And.intro c1 c2) trivial
        all_goals (try simp only [go_sem, ↓reduceIte, reduceCtorEq, Nat.reduceLT, Nat.reduceEqDiff, Nat.reduceBEq, Nat.reduceAdd, Nat.reduceSub, Nat.reduceMul, Nat.reduceLeDiff, Int.reduceLE, Int.reduceLT, Int.reduceNeg, Int.reduceEq, Int.reduceBEq, Int.reduceBNe, Int.reduceToNat])
      · have hrm : rm = false := hrr.resolve_left hc
        subst hrm
        refine wk0 hc (And.intro c1 c2) trivial
        all_goals (try simp only [go_sem, ↓reduceIte, reduceCtorEq, Nat.reduceLT, Nat.reduceEqDiff, Nat.reduceBEq, Nat.reduceAdd, Nat.reduceSub, Nat.reduceMul, Nat.reduceLeDiff, Int.reduceLE, Int.reduceLT, Int.reduceNeg, Int.reduceEq, Int.reduceBEq, Int.reduceBNe, Int.reduceToNat])
  have hc : ¬ w.conf.runs ≤ ((personW w a).runs.length : Int) := fun e => hrr (.inl e)
  have hrm : roomW w 0 1 = true := by
    cases e : roomW w 0 1
    · exact absurd (.inr e) hrr
    · rfl
  obtain ⟨_, _, ha, _, hal, _⟩ : a ≠ b ∧ 1 ≤ a ∧ True ∧ True ∧ True ∧ True := ⟨(pairPl_iff h.ppl hpt).1, (pairPl_iff h.ppl hpt).2.1, trivial, trivial, trivial, trivial⟩
  obtain ⟨i, p, e1, e2, e3, e4⟩ := person_at h.ppl (n := a) (by have := (pairPl_iff h.ppl hpt).2.1; omega) (pairPl_iff h.ppl hpt).2.2.2.1
  have hname : (personW w a).name = a := by rw [e3, e4, e1]
  have hz : addR (personW w a).runs (drawW w).conf.runs (startR w b) = ((personW w a).runs ++ [startR w b], 0) := by
    unfold addR
    rw [if_neg (by unfold startR runMay; simp), if_neg (show ¬ (drawW w).conf.runs ≤ ((personW w a).runs.length : Int) from hc)]
  unfold addC at c4
  rw [hz, if_pos rfl] at c4
  have h1 : Good 9 (drawW w) := h.draw
  have hpp : (putRun (personW w a) (startR w b)).used.length + 9 ≤ 1000 ∧ (putRun (personW w a) (startR w b)).runs.length + 9 ≤ 1000 := ⟨by show (personW w a).used.length + 9 ≤ 1000; omega, by show ((personW w a).runs ++ [startR w b]).length + 9 ≤ 1000; rw [List.length_append]; simp; omega⟩
  have h2 : Good 9 (withW (drawW w) (putRun (personW w a) (startR w b))) := h1.with_ _ hpp
  have h3 : Good 8 (startU w a b) := h2.log_ _
  have hnet : ¬ (startU w a b).net.room ≤ ((startU w a b).net.grams.length : Int) := by
    rw [show (startU w a b).net = w.net from (withW_net (drawW w) _).1]
    have := (roomW_iff hrm).2; omega
  have hsend := send_room (w := startU w a b) (t := 0) (m := ⟨1, 0, a, b, drawnW w, 0, 0⟩) (by unfold mayM; rfl) hnet
  have hres : startNW w a b = (sentW (startU w a b) 0 ⟨1, 0, a, b, drawnW w, 0, 0⟩, 0) := by
    unfold startNW
    rw [if_neg hpr, if_neg hrr]
    unfold startU
    rw [hname]
    rfl
  rw [hres]
  refine ⟨⟨sentW (startU w a b) 0 ⟨1, 0, a, b, drawnW w, 0, 0⟩, putRun (personW w a) (startR w b), startR w b⟩, fun _ => rfl, fun bb => ?_⟩
  have c5 := p15_note bb ⟨drawW w, putRun (personW w a) (startR w b), startR w b⟩ 1 (drawnW w) (startU w a b) (by rfl) ⟨by show (putRun (personW w a) (startR w b)).used.length ≤ 1000000; omega, by show (putRun (personW w a) (startR w b)).runs.length ≤ 1000000; omega⟩ h1.ppl h2.small.small.log
  have c6 := p15_send bb ⟨startU w a b, putRun (personW w a) (startR w b), startR w b⟩ 0 ⟨1, 0, a, b, drawnW w, 0, 0⟩ _ _ hsend h3.net h3.small.small.grams h3.small.small.seen
  clear hsend hres hnet hpp h1 h2 h3 hz hname e1 e2 e3 e4 hrr hpr hpt h hp ha hal
  rw [hrm] at c2
  simp only at c5 c6
  generalize sentW (startU w a b) 0 ⟨1, 0, a, b, drawnW w, 0, 0⟩ = z at *
  generalize startU w a b = u at *
  generalize drawW w = v at *
  simp only [startR] at *
  generalize drawnW w = k at *
  generalize personW w a = P at *
  refine ACalls.introX (fn := Tryz.f35) Tryz.func35 rfl rfl (by simp [Tryz.f35]) ?_
  unfold Tryz.f35
  simp only [rawV, insOf, setBs, eDeed, putRun, run0, eWld, ePerson, eMssg, eSealeds, eGrams, ePeople, eEvents, eRows, eWords, eLeaks, eRuns, eRun, List.map_append, List.map_cons, List.map_nil, rB, rI] at *
  refine wk0 hc (And.intro c1 (And.intro c2 (And.intro c3 (And.intro c4 (And.intro c5 c6))))) trivial
  all_goals (try simp only [go_sem, ↓reduceIte, reduceCtorEq, Nat.reduceLT, Nat.reduceEqDiff, Nat.reduceBEq, Nat.reduceAdd, Nat.reduceSub, Nat.reduceMul, Nat.reduceLeDiff, Int.reduceLE, Int.reduceLT, Int.reduceNeg, Int.reduceEq, Int.reduceBEq, Int.reduceBNe, Int.reduceToNat])
end Go.Proofs.YtpbgmfgmnnclaaaGreatDoor.Abs
end
section
/- Ahead of loops over a function: boxes that are written no more are shown; tables without boxes' addresses. -/
set_option linter.unusedSimpArgs false
set_option linter.unusedVariables false
set_option maxRecDepth 100000
namespace Go.Proofs.YtpbgmfgmnnclaaaGreatDoor.Abs
open Go.RowKit
section
variable {P : Program}
/-- A box that is written no more is shown: its pointer is a plain value. -/
theorem AW.shut {c : Code} {σ : St} {Q : Exit → St → Prop} (d id : Nat) {cs : List A} (hd : σ.t d = .one (.ptr id 0)) (hm : σ.m id = some (.box cs)) (hp : plainL cs)
    (h : AW P c ⟨σ.n, upd σ.t d (.one (.c (.ptrc 0 (cs.map clo0) 0))), upd σ.m id (some (.fbox (cs.map clo0)))⟩ Q) : AW P c σ Q := fun base S0 w0 df a w hG => by
  obtain ⟨cc, h1, h2, h3⟩ := hG
  obtain ⟨c1, g, r⟩ := shut_one h2 (i := id) (by rw [hm]; exact hp)
  have e : shutB (σ.m id) = some (.fbox (cs.map clo0)) := by rw [hm]; rfl
  rw [e] at g r
  refine h base S0 w0 df a w ⟨c1, ⟨h1.1, fun q hq => ?_, h1.3.mono (g.S 0) (g.heap 0)⟩, r, h3.goes g⟩
  show VV c1 w _ (upd σ.t d _ q) _
  by_cases hqd : q = d
  · subst hqd
    rw [upd_same]
    have hv := (h1.2 q hq).goes g
    rw [hd] at hv
    obtain ⟨_, hpv⟩ := hv
    obtain ⟨p1, vs, p2, p3⟩ := r.blk id _ (upd_same _ _ _)
    show R c1.S w (.ptrc 0 (cs.map clo0) 0) _
    rw [hpv]
    exact R.ptr p1 p2.1 p3 p2.2
  · rw [upd_ne _ _ hqd]
    exact (h1.2 q hq).goes g
/-- A table without boxes' ids. -/
def NoIds (t : Nat → AV) : Prop := ∀ d, (t d).ids = []
theorem NoIds.junk : NoIds fun _ => .junk := fun _ => rfl
theorem NoIds.upd {t : Nat → AV} {k : Nat} {x : AV} (hx : x.ids = []) (h : NoIds t) : NoIds (upd t k x) := fun d => by
  by_cases e : d = k
  · subst e; rw [upd_same]; exact hx
  · rw [upd_ne _ _ e]; exact h d
theorem NoIds.at {t : Nat → AV} (h : NoIds t) (d : Nat) : t d = .junk ∨ (t d = t d ∧ (t d).ids = []) := .inr ⟨rfl, h d⟩
end
end Go.Proofs.YtpbgmfgmnnclaaaGreatDoor.Abs
end
section
/- The landed nsa, over values without addresses: runs that are gone through by a function. -/
set_option linter.unusedSimpArgs false
set_option linter.unusedVariables false
set_option maxRecDepth 100000
namespace Go.Proofs.YtpbgmfgmnnclaaaGreatDoor.Abs
open Go.RowKit
abbrev yldV (l : Nat) : CV := .v (yieldV l)
theorem p15_begun (l : List Run) (st : Int) : ACalls Tryz.prog 104 [.one (eRuns l), .one (i64 st)] (.one (.one (.fn 121 false [] [.ptrc 0 [eRuns l] 0, .ptrc 0 [i64 st] 0]))) := by
  refine ACalls.intro (fn := Tryz.f104) Tryz.func104 rfl rfl (by simp [Tryz.f104]) ?_
  unfold Tryz.f104
  simp only [eRuns]
  refine wk0 trivial trivial trivial
set_option maxHeartbeats 4000000 in
/-- The iterator: runs of a kind, till one stops it. q: which run stops it. -/
theorem p15_nxt2 (L : List Run) (st : Int) (q : Run → Bool) (l b1 b2 : Nat) (rc rc' : Rec) (x1 x2 : CV) (y1 y2 : Nat → Run → CV) (hm : L.length < 1000000) (n12 : b1 ≠ b2) (n1 : l ≠ b1) (n2 : l ≠ b2)
    (hy : ∀ (k : Nat) (r : Run), L[k]? = some r → isKind 1 1 st r = true → q r = false → AYields Tryz.prog l [.one (i64 k), .agg (eRun r)] (.bx [(l, .loop rc), (b1, .cells [x1]), (b2, .cells [x2])] [(l, .loop rc), (b1, .cells [x1]), (b2, .cells [x2])] [.one (bl true)]))
    (hs : ∀ (k : Nat) (r : Run), L[k]? = some r → isKind 1 1 st r = true → q r = true → AYields Tryz.prog l [.one (i64 k), .agg (eRun r)] (.bx [(l, .loop rc), (b1, .cells [x1]), (b2, .cells [x2])] [(l, .loop rc'), (b1, .cells [y1 k r]), (b2, .cells [y2 k r])] [.one (bl false)]))
    (rcE : Rec) (z1 z2 : CV) (hE : ((∀ (i : Nat) (x : Run), L[i]? = some x → (isKind 1 1 st x && q x) = false) ∧ rcE = rc ∧ z1 = x1 ∧ z2 = x2) ∨ ∃ k r, L[k]? = some r ∧ (isKind 1 1 st r && q r) = true ∧ (∀ (i : Nat) (x : Run), i < k → L[i]? = some x → (isKind 1 1 st x && q x) = false) ∧ rcE = rc' ∧ z1 = y1 k r ∧ z2 = y2 k r) :
    ACalls Tryz.prog 121 [.one (yldV l), .one (.ptrc 0 [eRuns L] 0), .one (.ptrc 0 [i64 st] 0)] (.bx [(l, .loop rc), (b1, .cells [x1]), (b2, .cells [x2])] [(l, .loop rcE), (b1, .cells [z1]), (b2, .cells [z2])] []) := by
  have e1 : (l == b1) = false := by simp [n1]
  have e2 : (b1 == l) = false := by simp [Ne.symm n1]
  have e3 : (l = b1) = False := eq_false n1
  have e4 : (b1 = l) = False := eq_false (Ne.symm n1)
  have e5 : (l == b2) = false := by simp [n2]
  have e6 : (b2 == l) = false := by simp [Ne.symm n2]
  have e7 : (l = b2) = False := eq_false n2
  have e8 : (b2 = l) = False := eq_false (Ne.symm n2)
  have e9 : (b1 == b2) = false := by simp [n12]
  have e10 : (b2 == b1) = false := by simp [Ne.symm n12]
  have e11 : (b1 = b2) = False := eq_false n12
  have e12 : (b2 = b1) = False := eq_false (Ne.symm n12)
  refine ACalls.introX (fn := Tryz.f121) Tryz.func121 rfl rfl (by simp [Tryz.f121]) ?_
  have c0 := fun fr => p09_next L fr 1 1 st
  unfold Tryz.f121
  simp only [insOf, setBs, yldV, eRuns] at *
  have c1 := c0 0
  refine wk1 (And.intro e1 (And.intro e2 (And.intro e3 (And.intro e4 (And.intro e5 (And.intro e6 (And.intro e7 (And.intro e8 (And.intro e9 (And.intro e10 (And.intro e11 e12))))))))))) c1 trivial _ ?_
  all_goals (repeat intro h)
  all_goals refine ⟨?_⟩
  refine AW.loopW (fun n σ => ∃ f : Nat, n = L.length - f ∧ f ≤ L.length ∧ (∀ (i : Nat) (x : Run), i < f → L[i]? = some x → (isKind 1 1 st x && q x) = false) ∧ σ = ⟨30, (upd (upd (upd (upd (upd (fun _ => .junk) 0 (.one (.c (.v (yieldV l))))) 1 (.one (.c (.ptrc 0 [.row (L.map eRun)] 0)))) 2 (.one (.c (.ptrc 0 [i64 st] 0)))) 4 (.one (.c (i64 (nextRun L (f : Int) 1 1 st).1)))) 5 (.one (.c (bl (nextRun L (f : Int) 1 1 st).2)))), (upd (upd (upd (fun _ => none) (1000000+b2) (some (.obox [x2]))) (1000000+b1) (some (.obox [x1]))) (1000000+l) (some (.orec rc)))⟩) (n := L.length) _ ⟨0, rfl, Nat.zero_le _, fun i x hi => absurd hi (Nat.not_lt_zero i), rfl⟩ (by simp only [Int.natCast_zero]; exact lz (And.intro e1 (And.intro e2 (And.intro e3 (And.intro e4 (And.intro e5 (And.intro e6 (And.intro e7 (And.intro e8 (And.intro e9 (And.intro e10 (And.intro e11 e12)))))))))))) ?_
  rintro n σ ⟨f, rfl, hf, hno, rfl⟩
  have hle : ∀ m : Nat, m ≤ L.length → (∀ (i : Nat) (x : Run), i < f → L[i]? = some x → (isKind 1 1 st x && q x) = false) → noneTo L (f : Int) (isKind 1 1 st) m → ∀ (i : Nat) (x : Run), i < m → L[i]? = some x → (isKind 1 1 st x && q x) = false := fun m _ h1 h2 i x hi hx => by
    rcases Nat.lt_or_ge i f with h | h
    · exact h1 i x h hx
    · rw [h2 i x hi hx (by omega)]; rfl
  rcases idxFrom_cases L (f : Int) (isKind 1 1 st) with ⟨hn, hnone⟩ | ⟨k, x, hk, hnk, hx, hkl, hfk, hqx⟩
  · have hnx : nextRun L (f : Int) 1 1 st = (0, false) := by unfold nextRun; rw [hn]
    have hall : ∀ (i : Nat) (x : Run), L[i]? = some x → (isKind 1 1 st x && q x) = false := fun i x hx => hle L.length (Nat.le_refl _) hno hnone i x (List.getElem?_eq_some_iff.1 hx).1 hx
    rcases hE with ⟨_, rfl, rfl, rfl⟩ | ⟨k, r, h1, h2, _⟩
    rotate_left
    · rw [hall k r h1] at h2; cases h2
    rw [hnx]
    clear hy hs hall hle hno
    refine wk0 (And.intro e1 (And.intro e2 (And.intro e3 (And.intro e4 (And.intro e5 (And.intro e6 (And.intro e7 (And.intro e8 (And.intro e9 (And.intro e10 (And.intro e11 e12))))))))))) trivial trivial
    all_goals (try simp only [go_sem, ↓reduceIte, reduceCtorEq, Nat.reduceLT, Nat.reduceEqDiff, Nat.reduceBEq, Nat.reduceAdd, Nat.reduceSub, Nat.reduceMul, Nat.reduceLeDiff, Int.reduceLE, Int.reduceLT, Int.reduceNeg, Int.reduceEq, Int.reduceBEq, Int.reduceBNe, Int.reduceToNat, e1, e2, e3, e4, e5, e6, e7, e8, e9, e10, e11, e12])
  · have hnx : nextRun L (f : Int) 1 1 st = ((k : Int), true) := by unfold nextRun; rw [hk]
    have hbel := hle k (by omega) hno hnk
    cases hq : q x
    · have cy := hy k x hx hqx hq
      have c2 := c0 ((k + 1 : Nat) : Int)
      have hw := wrapI (x := (k : Int) + 1) (by omega) (by omega)
      have hcast : ((k + 1 : Nat) : Int) = (k : Int) + 1 := by omega
      rw [hnx]
      generalize hnn : nextRun L ((k + 1 : Nat) : Int) 1 1 st = nn at *
      rw [hcast] at c2
      clear hy hs hle hE
      simp only [eRun] at cy
      refine wk1 (And.intro e1 (And.intro e2 (And.intro e3 (And.intro e4 (And.intro e5 (And.intro e6 (And.intro e7 (And.intro e8 (And.intro e9 (And.intro e10 (And.intro e11 (And.intro e12 (And.intro hx (And.intro hkl (And.intro hw eRun.eq_1))))))))))))))) (And.intro cy c2) trivial _ ?_
      all_goals (repeat intro h)
      all_goals refine ⟨?_⟩
      refine ⟨L.length - (k + 1), by omega, _, ⟨k + 1, rfl, by omega, fun i y hi hy => ?_, rfl⟩, ?_⟩
      · rcases Nat.lt_or_ge i k with h | h
        · exact hbel i y h hy
        · obtain rfl : i = k := by omega
          rw [hx] at hy; cases hy
          rw [hq, Bool.and_false]
      · rw [hnn]
        exact lz (And.intro e1 (And.intro e2 (And.intro e3 (And.intro e4 (And.intro e5 (And.intro e6 (And.intro e7 (And.intro e8 (And.intro e9 (And.intro e10 (And.intro e11 e12)))))))))))
    · have cy := hs k x hx hqx hq
      have hkq : (isKind 1 1 st x && q x) = true := by rw [hqx, hq]; rfl
      rcases hE with ⟨h0, _⟩ | ⟨k', r', h1, h2, h3, rfl, rfl, rfl⟩
      · rw [h0 k x hx] at hkq; cases hkq
      obtain rfl : k' = k := by
        rcases Nat.lt_trichotomy k' k with h | h | h
        · rw [hbel k' r' h h1] at h2; cases h2
        · exact h
        · rw [h3 k x h hx] at hkq; cases hkq
      rw [hx] at h1
      cases h1
      rw [hnx]
      clear hy hs hle h3 hbel hno
      simp only [eRun] at cy
      refine wk0 (And.intro e1 (And.intro e2 (And.intro e3 (And.intro e4 (And.intro e5 (And.intro e6 (And.intro e7 (And.intro e8 (And.intro e9 (And.intro e10 (And.intro e11 (And.intro e12 (And.intro hx (And.intro hkl eRun.eq_1)))))))))))))) cy trivial
      all_goals (try simp only [go_sem, ↓reduceIte, reduceCtorEq, Nat.reduceLT, Nat.reduceEqDiff, Nat.reduceBEq, Nat.reduceAdd, Nat.reduceSub, Nat.reduceMul, Nat.reduceLeDiff, Int.reduceLE, Int.reduceLT, Int.reduceNeg, Int.reduceEq, Int.reduceBEq, Int.reduceBNe, Int.reduceToNat, e1, e2, e3, e4, e5, e6, e7, e8, e9, e10, e11, e12])
set_option maxHeartbeats 4000000 in
/-- The iterator: runs of a kind, till one stops it. q: which run stops it. -/
theorem p15_nxt4 (L : List Run) (st : Int) (q : Run → Bool) (l b0 b1 b2 b3 : Nat) (ds : List CV) (rc rc' : Rec) (x1 x2 x3 : CV) (y1 y2 y3 : Nat → Run → CV) (hm : L.length < 1000000) (n01 : b0 ≠ b1) (n02 : b0 ≠ b2) (n03 : b0 ≠ b3) (n12 : b1 ≠ b2) (n13 : b1 ≠ b3) (n23 : b2 ≠ b3) (n0 : l ≠ b0) (n1 : l ≠ b1) (n2 : l ≠ b2) (n3 : l ≠ b3)
    (hy : ∀ (k : Nat) (r : Run), L[k]? = some r → isKind 1 1 st r = true → q r = false → AYields Tryz.prog l [.one (i64 k), .agg (eRun r)] (.bx [(l, .loop rc), (b0, .cells ds), (b1, .cells [x1]), (b2, .cells [x2]), (b3, .cells [x3])] [(l, .loop rc), (b0, .cells ds), (b1, .cells [x1]), (b2, .cells [x2]), (b3, .cells [x3])] [.one (bl true)]))
    (hs : ∀ (k : Nat) (r : Run), L[k]? = some r → isKind 1 1 st r = true → q r = true → AYields Tryz.prog l [.one (i64 k), .agg (eRun r)] (.bx [(l, .loop rc), (b0, .cells ds), (b1, .cells [x1]), (b2, .cells [x2]), (b3, .cells [x3])] [(l, .loop rc'), (b0, .cells ds), (b1, .cells [y1 k r]), (b2, .cells [y2 k r]), (b3, .cells [y3 k r])] [.one (bl false)]))
    (rcE : Rec) (z1 z2 z3 : CV) (hE : ((∀ (i : Nat) (x : Run), L[i]? = some x → (isKind 1 1 st x && q x) = false) ∧ rcE = rc ∧ z1 = x1 ∧ z2 = x2 ∧ z3 = x3) ∨ ∃ k r, L[k]? = some r ∧ (isKind 1 1 st r && q r) = true ∧ (∀ (i : Nat) (x : Run), i < k → L[i]? = some x → (isKind 1 1 st x && q x) = false) ∧ rcE = rc' ∧ z1 = y1 k r ∧ z2 = y2 k r ∧ z3 = y3 k r) :
    ACalls Tryz.prog 121 [.one (yldV l), .one (.ptrc 0 [eRuns L] 0), .one (.ptrc 0 [i64 st] 0)] (.bx [(l, .loop rc), (b0, .cells ds), (b1, .cells [x1]), (b2, .cells [x2]), (b3, .cells [x3])] [(l, .loop rcE), (b0, .cells ds), (b1, .cells [z1]), (b2, .cells [z2]), (b3, .cells [z3])] []) := by
  have e1 : (l == b0) = false := by simp [n0]
  have e2 : (b0 == l) = false := by simp [Ne.symm n0]
  have e3 : (l = b0) = False := eq_false n0
  have e4 : (b0 = l) = False := eq_false (Ne.symm n0)
  have e5 : (l == b1) = false := by simp [n1]
  have e6 : (b1 == l) = false := by simp [Ne.symm n1]
  have e7 : (l = b1) = False := eq_false n1
  have e8 : (b1 = l) = False := eq_false (Ne.symm n1)
  have e9 : (l == b2) = false := by simp [n2]
  have e10 : (b2 == l) = false := by simp [Ne.symm n2]
  have e11 : (l = b2) = False := eq_false n2
  have e12 : (b2 = l) = False := eq_false (Ne.symm n2)
  have e13 : (l == b3) = false := by simp [n3]
  have e14 : (b3 == l) = false := by simp [Ne.symm n3]
  have e15 : (l = b3) = False := eq_false n3
  have e16 : (b3 = l) = False := eq_false (Ne.symm n3)
  have e17 : (b0 == b1) = false := by simp [n01]
  have e18 : (b1 == b0) = false := by simp [Ne.symm n01]
  have e19 : (b0 = b1) = False := eq_false n01
  have e20 : (b1 = b0) = False := eq_false (Ne.symm n01)
  have e21 : (b0 == b2) = false := by simp [n02]
  have e22 : (b2 == b0) = false := by simp [Ne.symm n02]
  have e23 : (b0 = b2) = False := eq_false n02
  have e24 : (b2 = b0) = False := eq_false (Ne.symm n02)
  have e25 : (b0 == b3) = false := by simp [n03]
  have e26 : (b3 == b0) = false := by simp [Ne.symm n03]
  have e27 : (b0 = b3) = False := eq_false n03
  have e28 : (b3 = b0) = False := eq_false (Ne.symm n03)
  have e29 : (b1 == b2) = false := by simp [n12]
  have e30 : (b2 == b1) = false := by simp [Ne.symm n12]
  have e31 : (b1 = b2) = False := eq_false n12
  have e32 : (b2 = b1) = False := eq_false (Ne.symm n12)
  have e33 : (b1 == b3) = false := by simp [n13]
  have e34 : (b3 == b1) = false := by simp [Ne.symm n13]
  have e35 : (b1 = b3) = False := eq_false n13
  have e36 : (b3 = b1) = False := eq_false (Ne.symm n13)
  have e37 : (b2 == b3) = false := by simp [n23]
  have e38 : (b3 == b2) = false := by simp [Ne.symm n23]
  have e39 : (b2 = b3) = False := eq_false n23
  have e40 : (b3 = b2) = False := eq_false (Ne.symm n23)
  refine ACalls.introX (fn := Tryz.f121) Tryz.func121 rfl rfl (by simp [Tryz.f121]) ?_
  have c0 := fun fr => p09_next L fr 1 1 st
  unfold Tryz.f121
  simp only [insOf, setBs, yldV, eRuns] at *
  have c1 := c0 0
  refine wk1 (And.intro e1 (And.intro e2 (And.intro e3 (And.intro e4 (And.intro e5 (And.intro e6 (And.intro e7 (And.intro e8 (And.intro e9 (And.intro e10 (And.intro e11 (And.intro e12 (And.intro e13 (And.intro e14 (And.intro e15 (And.intro e16 (And.intro e17 (And.intro e18 (And.intro e19 (And.intro e20 (And.intro e21 (And.intro e22 (And.intro e23 (And.intro e24 (And.intro e25 (And.intro e26 (And.intro e27 (And.intro e28 (And.intro e29 (And.intro e30 (And.intro e31 (And.intro e32 (And.intro e33 (And.intro e34 (And.intro e35 (And.intro e36 (And.intro e37 (And.intro e38 (And.intro e39 e40))))))))))))))))))))))))))))))))))))))) c1 trivial _ ?_
  all_goals (repeat intro h)
  all_goals refine ⟨?_⟩
  refine AW.loopW (fun n σ => ∃ f : Nat, n = L.length - f ∧ f ≤ L.length ∧ (∀ (i : Nat) (x : Run), i < f → L[i]? = some x → (isKind 1 1 st x && q x) = false) ∧ σ = ⟨30, (upd (upd (upd (upd (upd (fun _ => .junk) 0 (.one (.c (.v (yieldV l))))) 1 (.one (.c (.ptrc 0 [.row (L.map eRun)] 0)))) 2 (.one (.c (.ptrc 0 [i64 st] 0)))) 4 (.one (.c (i64 (nextRun L (f : Int) 1 1 st).1)))) 5 (.one (.c (bl (nextRun L (f : Int) 1 1 st).2)))), (upd (upd (upd (upd (upd (fun _ => none) (1000000+b3) (some (.obox [x3]))) (1000000+b2) (some (.obox [x2]))) (1000000+b1) (some (.obox [x1]))) (1000000+b0) (some (.obox ds))) (1000000+l) (some (.orec rc)))⟩) (n := L.length) _ ⟨0, rfl, Nat.zero_le _, fun i x hi => absurd hi (Nat.not_lt_zero i), rfl⟩ (by simp only [Int.natCast_zero]; exact lz (And.intro e1 (And.intro e2 (And.intro e3 (And.intro e4 (And.intro e5 (And.intro e6 (And.intro e7 (And.intro e8 (And.intro e9 (And.intro e10 (And.intro e11 (And.intro e12 (And.intro e13 (And.intro e14 (And.intro e15 (And.intro e16 (And.intro e17 (And.intro e18 (And.intro e19 (And.intro e20 (And.intro e21 (And.intro e22 (And.intro e23 (And.intro e24 (And.intro e25 (And.intro e26 (And.intro e27 (And.intro e28 (And.intro e29 (And.intro e30 (And.intro e31 (And.intro e32 (And.intro e33 (And.intro e34 (And.intro e35 (And.intro e36 (And.intro e37 (And.intro e38 (And.intro e39 e40)))))))))))))))))))))))))))))))))))))))) ?_
  rintro n σ ⟨f, rfl, hf, hno, rfl⟩
  have hle : ∀ m : Nat, m ≤ L.length → (∀ (i : Nat) (x : Run), i < f → L[i]? = some x → (isKind 1 1 st x && q x) = false) → noneTo L (f : Int) (isKind 1 1 st) m → ∀ (i : Nat) (x : Run), i < m → L[i]? = some x → (isKind 1 1 st x && q x) = false := fun m _ h1 h2 i x hi hx => by
    rcases Nat.lt_or_ge i f with h | h
    · exact h1 i x h hx
    · rw [h2 i x hi hx (by omega)]; rfl
  rcases idxFrom_cases L (f : Int) (isKind 1 1 st) with ⟨hn, hnone⟩ | ⟨k, x, hk, hnk, hx, hkl, hfk, hqx⟩
  · have hnx : nextRun L (f : Int) 1 1 st = (0, false) := by unfold nextRun; rw [hn]
    have hall : ∀ (i : Nat) (x : Run), L[i]? = some x → (isKind 1 1 st x && q x) = false := fun i x hx => hle L.length (Nat.le_refl _) hno hnone i x (List.getElem?_eq_some_iff.1 hx).1 hx
    rcases hE with ⟨_, rfl, rfl, rfl, rfl⟩ | ⟨k, r, h1, h2, _⟩
    rotate_left
    · rw [hall k r h1] at h2; cases h2
    rw [hnx]
    clear hy hs hall hle hno
    refine wk0 (And.intro e1 (And.intro e2 (And.intro e3 (And.intro e4 (And.intro e5 (And.intro e6 (And.intro e7 (And.intro e8 (And.intro e9 (And.intro e10 (And.intro e11 (And.intro e12 (And.intro e13 (And.intro e14 (And.intro e15 (And.intro e16 (And.intro e17 (And.intro e18 (And.intro e19 (And.intro e20 (And.intro e21 (And.intro e22 (And.intro e23 (And.intro e24 (And.intro e25 (And.intro e26 (And.intro e27 (And.intro e28 (And.intro e29 (And.intro e30 (And.intro e31 (And.intro e32 (And.intro e33 (And.intro e34 (And.intro e35 (And.intro e36 (And.intro e37 (And.intro e38 (And.intro e39 e40))))))))))))))))))))))))))))))))))))))) trivial trivial
    all_goals (try simp only [go_sem, ↓reduceIte, reduceCtorEq, Nat.reduceLT, Nat.reduceEqDiff, Nat.reduceBEq, Nat.reduceAdd, Nat.reduceSub, Nat.reduceMul, Nat.reduceLeDiff, Int.reduceLE, Int.reduceLT, Int.reduceNeg, Int.reduceEq, Int.reduceBEq, Int.reduceBNe, Int.reduceToNat, e1, e2, e3, e4, e5, e6, e7, e8, e9, e10, e11, e12, e13, e14, e15, e16, e17, e18, e19, e20, e21, e22, e23, e24, e25, e26, e27, e28, e29, e30, e31, e32, e33, e34, e35, e36, e37, e38, e39, e40])
  · have hnx : nextRun L (f : Int) 1 1 st = ((k : Int), true) := by unfold nextRun; rw [hk]
    have hbel := hle k (by omega) hno hnk
    cases hq : q x
    · have cy := hy k x hx hqx hq
      have c2 := c0 ((k + 1 : Nat) : Int)
      have hw := wrapI (x := (k : Int) + 1) (by omega) (by omega)
      have hcast : ((k + 1 : Nat) : Int) = (k : Int) + 1 := by omega
      rw [hnx]
      generalize hnn : nextRun L ((k + 1 : Nat) : Int) 1 1 st = nn at *
      rw [hcast] at c2
      clear hy hs hle hE
      simp only [eRun] at cy
      refine wk1 (And.intro e1 (And.intro e2 (And.intro e3 (And.intro e4 (And.intro e5 (And.intro e6 (And.intro e7 (And.intro e8 (And.intro e9 (And.intro e10 (And.intro e11 (And.intro e12 (And.intro e13 (And.intro e14 (And.intro e15 (And.intro e16 (And.intro e17 (And.intro e18 (And.intro e19 (And.intro e20 (And.intro e21 (And.intro e22 (And.intro e23 (And.intro e24 (And.intro e25 (And.intro e26 (And.intro e27 (And.intro e28 (And.intro e29 (And.intro e30 (And.intro e31 (And.intro e32 (And.intro e33 (And.intro e34 (And.intro e35 (And.intro e36 (And.intro e37 (And.intro e38 (And.intro e39 (And.intro e40 (And.intro hx (And.intro hkl (And.intro hw eRun.eq_1))))))))))))))))))))))))))))))))))))))))))) (And.intro cy c2) trivial _ ?_
      all_goals (repeat intro h)
      all_goals refine ⟨?_⟩
      refine ⟨L.length - (k + 1), by omega, _, ⟨k + 1, rfl, by omega, fun i y hi hy => ?_, rfl⟩, ?_⟩
      · rcases Nat.lt_or_ge i k with h | h
        · exact hbel i y h hy
        · obtain rfl : i = k := by omega
          rw [hx] at hy; cases hy
          rw [hq, Bool.and_false]
      · rw [hnn]
        exact lz (And.intro e1 (And.intro e2 (And.intro e3 (And.intro e4 (And.intro e5 (And.intro e6 (And.intro e7 (And.intro e8 (And.intro e9 (And.intro e10 (And.intro e11 (And.intro e12 (And.intro e13 (And.intro e14 (And.intro e15 (And.intro e16 (And.intro e17 (And.intro e18 (And.intro e19 (And.intro e20 (And.intro e21 (And.intro e22 (And.intro e23 (And.intro e24 (And.intro e25 (And.intro e26 (And.intro e27 (And.intro e28 (And.intro e29 (And.intro e30 (And.intro e31 (And.intro e32 (And.intro e33 (And.intro e34 (And.intro e35 (And.intro e36 (And.intro e37 (And.intro e38 (And.intro e39 e40)))))))))))))))))))))))))))))))))))))))
    · have cy := hs k x hx hqx hq
      have hkq : (isKind 1 1 st x && q x) = true := by rw [hqx, hq]; rfl
      rcases hE with ⟨h0, _⟩ | ⟨k', r', h1, h2, h3, rfl, rfl, rfl, rfl⟩
      · rw [h0 k x hx] at hkq; cases hkq
      obtain rfl : k' = k := by
        rcases Nat.lt_trichotomy k' k with h | h | h
        · rw [hbel k' r' h h1] at h2; cases h2
        · exact h
        · rw [h3 k x h hx] at hkq; cases hkq
      rw [hx] at h1
      cases h1
      rw [hnx]
      clear hy hs hle h3 hbel hno
      simp only [eRun] at cy
      refine wk0 (And.intro e1 (And.intro e2 (And.intro e3 (And.intro e4 (And.intro e5 (And.intro e6 (And.intro e7 (And.intro e8 (And.intro e9 (And.intro e10 (And.intro e11 (And.intro e12 (And.intro e13 (And.intro e14 (And.intro e15 (And.intro e16 (And.intro e17 (And.intro e18 (And.intro e19 (And.intro e20 (And.intro e21 (And.intro e22 (And.intro e23 (And.intro e24 (And.intro e25 (And.intro e26 (And.intro e27 (And.intro e28 (And.intro e29 (And.intro e30 (And.intro e31 (And.intro e32 (And.intro e33 (And.intro e34 (And.intro e35 (And.intro e36 (And.intro e37 (And.intro e38 (And.intro e39 (And.intro e40 (And.intro hx (And.intro hkl eRun.eq_1)))))))))))))))))))))))))))))))))))))))))) cy trivial
      all_goals (try simp only [go_sem, ↓reduceIte, reduceCtorEq, Nat.reduceLT, Nat.reduceEqDiff, Nat.reduceBEq, Nat.reduceAdd, Nat.reduceSub, Nat.reduceMul, Nat.reduceLeDiff, Int.reduceLE, Int.reduceLT, Int.reduceNeg, Int.reduceEq, Int.reduceBEq, Int.reduceBNe, Int.reduceToNat, e1, e2, e3, e4, e5, e6, e7, e8, e9, e10, e11, e12, e13, e14, e15, e16, e17, e18, e19, e20, e21, e22, e23, e24, e25, e26, e27, e28, e29, e30, e31, e32, e33, e34, e35, e36, e37, e38, e39, e40])
end Go.Proofs.YtpbgmfgmnnclaaaGreatDoor.Abs
end
section
/- The landed nsa, over values without addresses: the first run that asked for a grant. -/
set_option linter.unusedSimpArgs false
set_option linter.unusedVariables false
set_option maxRecDepth 100000
namespace Go.Proofs.YtpbgmfgmnnclaaaGreatDoor.Abs
open Go.RowKit
def wantR (n p : Int) (r : Run) : Bool := r.mine == n && r.peer == p
set_option maxHeartbeats 8000000 in
/-- The first of my runs that asked for a grant. -/
theorem p15_asked (bd : Nat) (s : Deed) (g : Prt) (hm : s.me.runs.length < 1000000) (a : Int) (ok : Bool)
    (hE : ((∀ (i : Nat) (x : Run), s.me.runs[i]? = some x → (isKind 1 1 1 x && wantR g.n g.b x) = false) ∧ a = 0 ∧ ok = false) ∨ ∃ k r, s.me.runs[k]? = some r ∧ (isKind 1 1 1 r && wantR g.n g.b r) = true ∧ (∀ (i : Nat) (x : Run), i < k → s.me.runs[i]? = some x → (isKind 1 1 1 x && wantR g.n g.b x) = false) ∧ a = (k : Int) ∧ ok = true) :
    ACalls Tryz.prog 81 [.one (rawV bd 0), .agg (ePrt g)] (.bx [(bd, .cells (eDeed s))] [(bd, .cells (eDeed s))] [.one (i64 a), .one (bl ok)]) := by
  refine ACalls.introX (fn := Tryz.f81) Tryz.func81 rfl rfl (by simp [Tryz.f81]) ?_
  obtain ⟨w, me, run⟩ := s
  simp only at hm hE
  have c1 := p15_begun me.runs 1
  unfold Tryz.f81
  simp only [rawV, insOf, setBs, eDeed, eWld, eSealeds, eGrams, ePeople, eEvents, eRows, eWords, eLeaks, eRuns, ePrt] at *
  refine wk1 trivial c1 trivial _ ?_
  all_goals (repeat intro h)
  all_goals refine ⟨?_⟩
  refine AW.shut 3 3 rfl rfl (by simp only [go_sem, ↓reduceIte, reduceCtorEq, Nat.reduceLT, Nat.reduceEqDiff, Nat.reduceBEq, Nat.reduceAdd, Nat.reduceSub, Nat.reduceMul, Nat.reduceLeDiff, Int.reduceLE, Int.reduceLT, Int.reduceNeg, Int.reduceEq, Int.reduceBEq, Int.reduceBNe, Int.reduceToNat]) ?_
  refine AW.lessW ⟨33, (upd (upd (upd (upd (upd (fun _ => .junk) 0 (.one (.c (rawV bd 0)))) 3 (.one (.c (.ptrc 0 [u32 g.n, u32 g.m, u32 g.a, u32 g.b, u32 g.k, u32 g.t, u32 g.h] 0)))) 6 (.one (.ptr 6 0))) 7 (.one (.ptr 7 0))) 15 (.one (.c (.fn 121 false [] [.ptrc 0 [.row (me.runs.map eRun)] 0, .ptrc 0 [i64 1] 0])))), (upd (upd (upd (fun _ => none) (1000000+bd) (some (.obox [u32 w.conf.window, i64 w.conf.people, i64 w.conf.box, i64 w.conf.used, i64 w.conf.runs, i64 w.conf.net, i64 w.conf.regs, CV.row (List.map eWord w.draws.list), i64 w.draws.next, i64 w.box.room, CV.row (List.map eSealed w.box.entries), i64 w.net.room, CV.row (List.map eGram w.net.grams), CV.row (List.map eSeen w.net.seen), CV.row (List.map ePerson w.people), CV.row (List.map eEvent w.log), CV.row (List.map eSeen w.regs), CV.row (List.map eLeak w.leaks), u32 me.name, u32 me.key, u32 me.clock, CV.row (List.map eWord me.used), CV.row (List.map eRun me.runs), bl me.corrupt, i64 run.proto, i64 run.role, u32 run.peer, u32 run.mine, u32 run.their, u32 run.m, u32 run.k, u32 run.t, i64 run.state]))) 6 (some (.box [A.c (i64 0)]))) 7 (some (.box [A.c (bl false)])))⟩ (by exact lz trivial) ?_
  refine AW.name 6 rfl (by simp only [go_sem, ↓reduceIte, reduceCtorEq, Nat.reduceLT, Nat.reduceEqDiff, Nat.reduceBEq, Nat.reduceAdd, Nat.reduceSub, Nat.reduceMul, Nat.reduceLeDiff, Int.reduceLE, Int.reduceLT, Int.reduceNeg, Int.reduceEq, Int.reduceBEq, Int.reduceBNe, Int.reduceToNat]) (fun b => by simp only [go_sem, ↓reduceIte, reduceCtorEq, Nat.reduceLT, Nat.reduceEqDiff, Nat.reduceBEq, Nat.reduceAdd, Nat.reduceSub, Nat.reduceMul, Nat.reduceLeDiff, Int.reduceLE, Int.reduceLT, Int.reduceNeg, Int.reduceEq, Int.reduceBEq, Int.reduceBNe, Int.reduceToNat]; by_cases h : b = bd <;> simp [h]) fun b6 h6 => ?_
  have nd6 : bd ≠ b6 := fun e => by
    subst e
    simp [upd] at h6
    (repeat (rw [if_neg (by omega)] at h6)); cases h6
  clear h6
  have t1 : (bd == b6) = false := by simp [nd6]
  have t2 : (b6 == bd) = false := by simp [Ne.symm nd6]
  have t3 : (bd = b6) = False := eq_false nd6
  have t4 : (b6 = bd) = False := eq_false (Ne.symm nd6)
  refine AW.lessW ⟨33, (upd (upd (upd (upd (upd (fun _ => .junk) 0 (.one (.c (rawV bd 0)))) 3 (.one (.c (.ptrc 0 [u32 g.n, u32 g.m, u32 g.a, u32 g.b, u32 g.k, u32 g.t, u32 g.h] 0)))) 6 (.one (.c (rawV b6 0)))) 7 (.one (.ptr 7 0))) 15 (.one (.c (.fn 121 false [] [.ptrc 0 [.row (me.runs.map eRun)] 0, .ptrc 0 [i64 1] 0])))), (upd (upd (upd (fun _ => none) (1000000+bd) (some (.obox [u32 w.conf.window, i64 w.conf.people, i64 w.conf.box, i64 w.conf.used, i64 w.conf.runs, i64 w.conf.net, i64 w.conf.regs, CV.row (List.map eWord w.draws.list), i64 w.draws.next, i64 w.box.room, CV.row (List.map eSealed w.box.entries), i64 w.net.room, CV.row (List.map eGram w.net.grams), CV.row (List.map eSeen w.net.seen), CV.row (List.map ePerson w.people), CV.row (List.map eEvent w.log), CV.row (List.map eSeen w.regs), CV.row (List.map eLeak w.leaks), u32 me.name, u32 me.key, u32 me.clock, CV.row (List.map eWord me.used), CV.row (List.map eRun me.runs), bl me.corrupt, i64 run.proto, i64 run.role, u32 run.peer, u32 run.mine, u32 run.their, u32 run.m, u32 run.k, u32 run.t, i64 run.state]))) (1000000+b6) (some (.obox [i64 0]))) 7 (some (.box [A.c (bl false)])))⟩ (by exact lz (And.intro t1 (And.intro t2 (And.intro t3 t4)))) ?_
  refine AW.name 7 rfl (by simp only [go_sem, ↓reduceIte, reduceCtorEq, Nat.reduceLT, Nat.reduceEqDiff, Nat.reduceBEq, Nat.reduceAdd, Nat.reduceSub, Nat.reduceMul, Nat.reduceLeDiff, Int.reduceLE, Int.reduceLT, Int.reduceNeg, Int.reduceEq, Int.reduceBEq, Int.reduceBNe, Int.reduceToNat]) (fun b => by simp only [go_sem, ↓reduceIte, reduceCtorEq, Nat.reduceLT, Nat.reduceEqDiff, Nat.reduceBEq, Nat.reduceAdd, Nat.reduceSub, Nat.reduceMul, Nat.reduceLeDiff, Int.reduceLE, Int.reduceLT, Int.reduceNeg, Int.reduceEq, Int.reduceBEq, Int.reduceBNe, Int.reduceToNat]; by_cases h : b = bd <;> by_cases h' : b = b6 <;> simp [h, h', nd6, Ne.symm nd6]) fun b7 h7 => ?_
  have nd7 : bd ≠ b7 := fun e => by
    subst e
    simp [upd, nd6] at h7
    (repeat (rw [if_neg (by omega)] at h7)); cases h7
  have n67 : b6 ≠ b7 := fun e => by
    subst e
    simp [upd] at h7
    (repeat (rw [if_neg (by omega)] at h7)); cases h7
  clear h7 t1 t2 t3 t4
  have e1 : (bd == b6) = false := by simp [nd6]
  have e2 : (b6 == bd) = false := by simp [Ne.symm nd6]
  have e3 : (bd = b6) = False := eq_false nd6
  have e4 : (b6 = bd) = False := eq_false (Ne.symm nd6)
  have e5 : (bd == b7) = false := by simp [nd7]
  have e6 : (b7 == bd) = false := by simp [Ne.symm nd7]
  have e7 : (bd = b7) = False := eq_false nd7
  have e8 : (b7 = bd) = False := eq_false (Ne.symm nd7)
  have e9 : (b6 == b7) = false := by simp [n67]
  have e10 : (b7 == b6) = false := by simp [Ne.symm n67]
  have e11 : (b6 = b7) = False := eq_false n67
  have e12 : (b7 = b6) = False := eq_false (Ne.symm n67)
  refine AW.lessW ⟨33, (upd (upd (upd (upd (upd (fun _ => .junk) 0 (.one (.c (rawV bd 0)))) 3 (.one (.c (.ptrc 0 [u32 g.n, u32 g.m, u32 g.a, u32 g.b, u32 g.k, u32 g.t, u32 g.h] 0)))) 6 (.one (.c (rawV b6 0)))) 7 (.one (.c (rawV b7 0)))) 15 (.one (.c (.fn 121 false [] [.ptrc 0 [.row (me.runs.map eRun)] 0, .ptrc 0 [i64 1] 0])))), (upd (upd (upd (fun _ => none) (1000000+bd) (some (.obox [u32 w.conf.window, i64 w.conf.people, i64 w.conf.box, i64 w.conf.used, i64 w.conf.runs, i64 w.conf.net, i64 w.conf.regs, CV.row (List.map eWord w.draws.list), i64 w.draws.next, i64 w.box.room, CV.row (List.map eSealed w.box.entries), i64 w.net.room, CV.row (List.map eGram w.net.grams), CV.row (List.map eSeen w.net.seen), CV.row (List.map ePerson w.people), CV.row (List.map eEvent w.log), CV.row (List.map eSeen w.regs), CV.row (List.map eLeak w.leaks), u32 me.name, u32 me.key, u32 me.clock, CV.row (List.map eWord me.used), CV.row (List.map eRun me.runs), bl me.corrupt, i64 run.proto, i64 run.role, u32 run.peer, u32 run.mine, u32 run.their, u32 run.m, u32 run.k, u32 run.t, i64 run.state]))) (1000000+b6) (some (.obox [i64 0]))) (1000000+b7) (some (.obox [bl false])))⟩ (by exact lz (And.intro e1 (And.intro e2 (And.intro e3 (And.intro e4 (And.intro e5 (And.intro e6 (And.intro e7 (And.intro e8 (And.intro e9 (And.intro e10 (And.intro e11 e12)))))))))))) ?_
  have hno : NoIds (fun d => (⟨33, (upd (upd (upd (upd (upd (fun _ => .junk) 0 (.one (.c (rawV bd 0)))) 3 (.one (.c (.ptrc 0 [u32 g.n, u32 g.m, u32 g.a, u32 g.b, u32 g.k, u32 g.t, u32 g.h] 0)))) 6 (.one (.c (rawV b6 0)))) 7 (.one (.c (rawV b7 0)))) 15 (.one (.c (.fn 121 false [] [.ptrc 0 [.row (me.runs.map eRun)] 0, .ptrc 0 [i64 1] 0])))), (upd (upd (upd (fun _ => none) (1000000+bd) (some (.obox [u32 w.conf.window, i64 w.conf.people, i64 w.conf.box, i64 w.conf.used, i64 w.conf.runs, i64 w.conf.net, i64 w.conf.regs, CV.row (List.map eWord w.draws.list), i64 w.draws.next, i64 w.box.room, CV.row (List.map eSealed w.box.entries), i64 w.net.room, CV.row (List.map eGram w.net.grams), CV.row (List.map eSeen w.net.seen), CV.row (List.map ePerson w.people), CV.row (List.map eEvent w.log), CV.row (List.map eSeen w.regs), CV.row (List.map eLeak w.leaks), u32 me.name, u32 me.key, u32 me.clock, CV.row (List.map eWord me.used), CV.row (List.map eRun me.runs), bl me.corrupt, i64 run.proto, i64 run.role, u32 run.peer, u32 run.mine, u32 run.their, u32 run.m, u32 run.k, u32 run.t, i64 run.state]))) (1000000+b6) (some (.obox [i64 0]))) (1000000+b7) (some (.obox [bl false])))⟩ : St).t d) := by
    repeat' first | exact NoIds.junk | refine NoIds.upd rfl ?_
  rcases hE with ⟨h1, rfl, rfl⟩ | ⟨k, r, h1, h2, h3, rfl, rfl⟩
  · refine AW.range 121 [.ptrc 0 [.row (me.runs.map eRun)] 0, .ptrc 0 [i64 1] 0] _ [(b6, .cells [i64 0]), (b7, .cells [bl false])] [(b6, .cells [i64 0]), (b7, .cells [bl false])] none rfl hno.at (by simp only [go_sem, ↓reduceIte, reduceCtorEq, Nat.reduceLT, Nat.reduceEqDiff, Nat.reduceBEq, Nat.reduceAdd, Nat.reduceSub, Nat.reduceMul, Nat.reduceLeDiff, Int.reduceLE, Int.reduceLT, Int.reduceNeg, Int.reduceEq, Int.reduceBEq, Int.reduceBNe, Int.reduceToNat, e1, e2, e3, e4, e5, e6, e7, e8, e9, e10, e11, e12]) (by simp only [go_sem, ↓reduceIte, reduceCtorEq, Nat.reduceLT, Nat.reduceEqDiff, Nat.reduceBEq, Nat.reduceAdd, Nat.reduceSub, Nat.reduceMul, Nat.reduceLeDiff, Int.reduceLE, Int.reduceLT, Int.reduceNeg, Int.reduceEq, Int.reduceBEq, Int.reduceBNe, Int.reduceToNat]) (fun fn l hl => ?_) ?_
    · have nl6 : l ≠ b6 := fun e => hl (.cells [i64 0]) (by rw [e]; simp)
      have nl7 : l ≠ b7 := fun e => hl (.cells [bl false]) (by rw [e]; simp)
      refine p15_nxt2 me.runs 1 (wantR g.n g.b) l b6 b7 _ ⟨fn, 0, fun _ => .junk, #[], .skip, .skip, none⟩ (i64 0) (bl false) (fun k _ => i64 k) (fun _ _ => bl true) hm n67 nl6 nl7 ?_ ?_ _ _ _ (.inl ⟨h1, rfl, rfl, rfl⟩)
      · intro k' x hx hk hq
        refine AYields.intro (jump := none) rfl rfl (fun oc h => hl oc h) ?_
        have hw : (x.mine != g.n) = true ∨ ((x.mine != g.n) = false ∧ (x.peer != g.b) = true) := by
          unfold wantR at hq
          by_cases e : x.mine = g.n
          · by_cases e' : x.peer = g.b
            · simp [e, e'] at hq
            · exact .inr ⟨by simp [e], by simp [e']⟩
          · exact .inl (by simp [e])
        simp only [eRun, List.zip_cons_cons, List.zip_nil_left, List.zip_nil_right, setP, setBs, OC.blk, CA.av]
        rcases hw with hw | ⟨hw, hw'⟩
        · refine wk4 (And.intro e1 (And.intro e2 (And.intro e3 (And.intro e4 (And.intro e5 (And.intro e6 (And.intro e7 (And.intro e8 (And.intro e9 (And.intro e10 (And.intro e11 (And.intro e12 hw)))))))))))) trivial trivial _ _ _ _ ?_ ?_ ?_ ?_
          all_goals (repeat intro h)
          all_goals refine ⟨?_⟩
          all_goals (try simp only [go_sem, ↓reduceIte, reduceCtorEq, Nat.reduceLT, Nat.reduceEqDiff, Nat.reduceBEq, Nat.reduceAdd, Nat.reduceSub, Nat.reduceMul, Nat.reduceLeDiff, Int.reduceLE, Int.reduceLT, Int.reduceNeg, Int.reduceEq, Int.reduceBEq, Int.reduceBNe, Int.reduceToNat, e1, e2, e3, e4, e5, e6, e7, e8, e9, e10, e11, e12])
        · refine wk4 (And.intro e1 (And.intro e2 (And.intro e3 (And.intro e4 (And.intro e5 (And.intro e6 (And.intro e7 (And.intro e8 (And.intro e9 (And.intro e10 (And.intro e11 (And.intro e12 (And.intro hw hw'))))))))))))) trivial trivial _ _ _ _ ?_ ?_ ?_ ?_
          all_goals (repeat intro h)
          all_goals refine ⟨?_⟩
          all_goals (try simp only [go_sem, ↓reduceIte, reduceCtorEq, Nat.reduceLT, Nat.reduceEqDiff, Nat.reduceBEq, Nat.reduceAdd, Nat.reduceSub, Nat.reduceMul, Nat.reduceLeDiff, Int.reduceLE, Int.reduceLT, Int.reduceNeg, Int.reduceEq, Int.reduceBEq, Int.reduceBNe, Int.reduceToNat, e1, e2, e3, e4, e5, e6, e7, e8, e9, e10, e11, e12])
      · intro k' x hx hk hq
        have := h1 k' x hx
        rw [hk, hq] at this
        cases this
    · simp only [setBs, OC.blk]
      refine wk0 (And.intro e1 (And.intro e2 (And.intro e3 (And.intro e4 (And.intro e5 (And.intro e6 (And.intro e7 (And.intro e8 (And.intro e9 (And.intro e10 (And.intro e11 e12))))))))))) trivial trivial
      all_goals (try simp only [go_sem, ↓reduceIte, reduceCtorEq, Nat.reduceLT, Nat.reduceEqDiff, Nat.reduceBEq, Nat.reduceAdd, Nat.reduceSub, Nat.reduceMul, Nat.reduceLeDiff, Int.reduceLE, Int.reduceLT, Int.reduceNeg, Int.reduceEq, Int.reduceBEq, Int.reduceBNe, Int.reduceToNat, e1, e2, e3, e4, e5, e6, e7, e8, e9, e10, e11, e12])
  · refine AW.range 121 [.ptrc 0 [.row (me.runs.map eRun)] 0, .ptrc 0 [i64 1] 0] _ [(b6, .cells [i64 0]), (b7, .cells [bl false])] [(b6, .cells [i64 k]), (b7, .cells [bl true])] (some (.exit 0)) rfl hno.at (by simp only [go_sem, ↓reduceIte, reduceCtorEq, Nat.reduceLT, Nat.reduceEqDiff, Nat.reduceBEq, Nat.reduceAdd, Nat.reduceSub, Nat.reduceMul, Nat.reduceLeDiff, Int.reduceLE, Int.reduceLT, Int.reduceNeg, Int.reduceEq, Int.reduceBEq, Int.reduceBNe, Int.reduceToNat, e1, e2, e3, e4, e5, e6, e7, e8, e9, e10, e11, e12]) (by simp only [go_sem, ↓reduceIte, reduceCtorEq, Nat.reduceLT, Nat.reduceEqDiff, Nat.reduceBEq, Nat.reduceAdd, Nat.reduceSub, Nat.reduceMul, Nat.reduceLeDiff, Int.reduceLE, Int.reduceLT, Int.reduceNeg, Int.reduceEq, Int.reduceBEq, Int.reduceBNe, Int.reduceToNat]) (fun fn l hl => ?_) ?_
    · have nl6 : l ≠ b6 := fun e => hl (.cells [i64 0]) (by rw [e]; simp)
      have nl7 : l ≠ b7 := fun e => hl (.cells [bl false]) (by rw [e]; simp)
      refine p15_nxt2 me.runs 1 (wantR g.n g.b) l b6 b7 _ _ (i64 0) (bl false) (fun k _ => i64 k) (fun _ _ => bl true) hm n67 nl6 nl7 ?_ ?_ _ _ _ (.inr ⟨k, r, h1, h2, h3, rfl, rfl, rfl⟩)
      · intro k' x hx hk hq
        refine AYields.intro (jump := none) rfl rfl (fun oc h => hl oc h) ?_
        have hw : (x.mine != g.n) = true ∨ ((x.mine != g.n) = false ∧ (x.peer != g.b) = true) := by
          unfold wantR at hq
          by_cases e : x.mine = g.n
          · by_cases e' : x.peer = g.b
            · simp [e, e'] at hq
            · exact .inr ⟨by simp [e], by simp [e']⟩
          · exact .inl (by simp [e])
        simp only [eRun, List.zip_cons_cons, List.zip_nil_left, List.zip_nil_right, setP, setBs, OC.blk, CA.av]
        rcases hw with hw | ⟨hw, hw'⟩
        · refine wk4 (And.intro e1 (And.intro e2 (And.intro e3 (And.intro e4 (And.intro e5 (And.intro e6 (And.intro e7 (And.intro e8 (And.intro e9 (And.intro e10 (And.intro e11 (And.intro e12 hw)))))))))))) trivial trivial _ _ _ _ ?_ ?_ ?_ ?_
          all_goals (repeat intro h)
          all_goals refine ⟨?_⟩
          all_goals (try simp only [go_sem, ↓reduceIte, reduceCtorEq, Nat.reduceLT, Nat.reduceEqDiff, Nat.reduceBEq, Nat.reduceAdd, Nat.reduceSub, Nat.reduceMul, Nat.reduceLeDiff, Int.reduceLE, Int.reduceLT, Int.reduceNeg, Int.reduceEq, Int.reduceBEq, Int.reduceBNe, Int.reduceToNat, e1, e2, e3, e4, e5, e6, e7, e8, e9, e10, e11, e12])
        · refine wk4 (And.intro e1 (And.intro e2 (And.intro e3 (And.intro e4 (And.intro e5 (And.intro e6 (And.intro e7 (And.intro e8 (And.intro e9 (And.intro e10 (And.intro e11 (And.intro e12 (And.intro hw hw'))))))))))))) trivial trivial _ _ _ _ ?_ ?_ ?_ ?_
          all_goals (repeat intro h)
          all_goals refine ⟨?_⟩
          all_goals (try simp only [go_sem, ↓reduceIte, reduceCtorEq, Nat.reduceLT, Nat.reduceEqDiff, Nat.reduceBEq, Nat.reduceAdd, Nat.reduceSub, Nat.reduceMul, Nat.reduceLeDiff, Int.reduceLE, Int.reduceLT, Int.reduceNeg, Int.reduceEq, Int.reduceBEq, Int.reduceBNe, Int.reduceToNat, e1, e2, e3, e4, e5, e6, e7, e8, e9, e10, e11, e12])
      · intro k' x hx hk hq
        refine AYields.intro (jump := some (.exit 0)) rfl rfl (fun oc h => hl oc h) ?_
        have hw : (x.mine != g.n) = false ∧ (x.peer != g.b) = false := by
          unfold wantR at hq
          simp only [Bool.and_eq_true, beq_iff_eq] at hq
          exact ⟨by simp [hq.1], by simp [hq.2]⟩
        simp only [eRun, List.zip_cons_cons, List.zip_nil_left, List.zip_nil_right, setP, setBs, OC.blk, CA.av]
        obtain ⟨hw, hw'⟩ := hw
        refine wk0 (And.intro e1 (And.intro e2 (And.intro e3 (And.intro e4 (And.intro e5 (And.intro e6 (And.intro e7 (And.intro e8 (And.intro e9 (And.intro e10 (And.intro e11 (And.intro e12 (And.intro hw hw'))))))))))))) trivial trivial
        all_goals (try simp only [go_sem, ↓reduceIte, reduceCtorEq, Nat.reduceLT, Nat.reduceEqDiff, Nat.reduceBEq, Nat.reduceAdd, Nat.reduceSub, Nat.reduceMul, Nat.reduceLeDiff, Int.reduceLE, Int.reduceLT, Int.reduceNeg, Int.reduceEq, Int.reduceBEq, Int.reduceBNe, Int.reduceToNat, e1, e2, e3, e4, e5, e6, e7, e8, e9, e10, e11, e12])
    · simp only [setBs, OC.blk]
      refine wk0 (And.intro e1 (And.intro e2 (And.intro e3 (And.intro e4 (And.intro e5 (And.intro e6 (And.intro e7 (And.intro e8 (And.intro e9 (And.intro e10 (And.intro e11 e12))))))))))) trivial trivial
      all_goals (try simp only [go_sem, ↓reduceIte, reduceCtorEq, Nat.reduceLT, Nat.reduceEqDiff, Nat.reduceBEq, Nat.reduceAdd, Nat.reduceSub, Nat.reduceMul, Nat.reduceLeDiff, Int.reduceLE, Int.reduceLT, Int.reduceNeg, Int.reduceEq, Int.reduceBEq, Int.reduceBNe, Int.reduceToNat, e1, e2, e3, e4, e5, e6, e7, e8, e9, e10, e11, e12])
end Go.Proofs.YtpbgmfgmnnclaaaGreatDoor.Abs
end
section
/- The landed nsa, over values without addresses: a grant is taken. -/
set_option linter.unusedSimpArgs false
set_option linter.unusedVariables false
set_option maxRecDepth 100000
namespace Go.Proofs.YtpbgmfgmnnclaaaGreatDoor.Abs
open Go.RowKit
def takenR (r : Run) (g : Prt) : Run := { r with k := g.k, t := g.t, state := 2 }
def takenU (w : Wld) (me : Int) (g : Prt) (i : Nat) (r : Run) : Wld := logW (withW w { personW w me with runs := (personW w me).runs.set i (takenR r g) }) ⟨3, 1, 1, (personW w me).name, r.peer, g.k, g.t, 0, r.mine, (personW w me).clock⟩
theorem waitsN_kind (g : Prt) (r : Run) : (isKind 1 1 1 r && wantR g.n g.b r) = waitsN g r := by
  unfold isKind wantR waitsN
  simp only [Bool.and_assoc]
set_option maxHeartbeats 16000000 in
theorem p15_take (w : Wld) (me : Int) (m : Mssg) (h : Good 10 w) (h1 : 1 ≤ me) (h2 : me < (w.people.length : Int)) : ∃ D : Deed, ((grantNW w me m).2 = 0 → (grantNW w me m).1 = D.w) ∧ ∀ bb, ACalls Tryz.prog 50 [.one (rawV bb 0), .one (u32 m.box)]
    (.bx [(bb, .cells (eDeed ⟨w, personW w me, run0⟩))] [(bb, .cells (eDeed D))] [.one (i64 (grantNW w me m).2)]) := by
  have c1 := p12_open w (personW w me).key 2 m.box h.box
  have hp := h.person me
  unfold grantNW grantedW
  cases ho : (openW w (personW w me).key 2 m.box).2
  · refine ⟨⟨w, personW w me, run0⟩, fun _ => rfl, fun bb => ?_⟩
    rw [if_pos rfl]
    rw [ho] at c1
    clear ho h hp
    refine ACalls.introX (fn := Tryz.f50) Tryz.func50 rfl rfl (by simp [Tryz.f50]) ?_
    generalize (openW w (personW w me).key 2 m.box).1 = g at *
    generalize personW w me = P at *
    unfold Tryz.f50
    simp only [rawV, insOf, setBs, eDeed, run0, eWld, ePerson, ePrt, eSealeds, eGrams, ePeople, eEvents, eRows, eWords, eLeaks, eRuns, rB, rI] at *
    refine wk0 trivial c1 trivial
    all_goals (try simp only [go_sem, ↓reduceIte, reduceCtorEq, Nat.reduceLT, Nat.reduceEqDiff, Nat.reduceBEq, Nat.reduceAdd, Nat.reduceSub, Nat.reduceMul, Nat.reduceLeDiff, Int.reduceLE, Int.reduceLT, Int.reduceNeg, Int.reduceEq, Int.reduceBEq, Int.reduceBNe, Int.reduceToNat])
  rw [if_neg (by decide)]
  rw [ho] at c1
  clear ho
  generalize (openW w (personW w me).key 2 m.box).1 = g at *
  have c2 := fun bb => p15_asked bb ⟨w, personW w me, run0⟩ g (by show (personW w me).runs.length < 1000000; omega)
  rcases idx_or (personW w me).runs (waitsN g) with ⟨hn, ha⟩ | ⟨i, r, hf, hi, hx, hw, ha⟩
  · simp only [hn]
    refine ⟨⟨w, personW w me, run0⟩, fun _ => rfl, fun bb => ?_⟩
    have c2' := c2 bb 0 false (.inl ⟨fun i x hx => (waitsN_kind g x).trans (ha i x hx), rfl, rfl⟩)
    clear c2 ha hn h hp
    refine ACalls.introX (fn := Tryz.f50) Tryz.func50 rfl rfl (by simp [Tryz.f50]) ?_
    generalize personW w me = P at *
    unfold Tryz.f50
    simp only [rawV, insOf, setBs, eDeed, run0, eWld, ePerson, ePrt, eSealeds, eGrams, ePeople, eEvents, eRows, eWords, eLeaks, eRuns, rB, rI] at *
    refine wk0 trivial (And.intro c1 c2') trivial
    all_goals (try simp only [go_sem, ↓reduceIte, reduceCtorEq, Nat.reduceLT, Nat.reduceEqDiff, Nat.reduceBEq, Nat.reduceAdd, Nat.reduceSub, Nat.reduceMul, Nat.reduceLeDiff, Int.reduceLE, Int.reduceLT, Int.reduceNeg, Int.reduceEq, Int.reduceBEq, Int.reduceBNe, Int.reduceToNat])
  simp only [hf, hi]
  have hlt : i < (personW w me).runs.length := (List.getElem?_eq_some_iff.1 hx).1
  have c2' := fun bb => c2 bb (i : Int) true (.inr ⟨i, r, hx, (waitsN_kind g r).trans hw, fun j x hj hx => (waitsN_kind g x).trans (ha j x hj hx), rfl, rfl⟩)
  clear c2 ha hf hi
  have c3 := fun bb => p15_isFresh bb ⟨w, personW w me, run0⟩ g.t
  simp only at c3
  cases hfr : freshI (personW w me).clock g.t w.conf.window
  · refine ⟨⟨w, personW w me, run0⟩, fun _ => rfl, fun bb => ?_⟩
    rw [if_pos rfl]
    have c2 := c2' bb
    have c3 := c3 bb
    rw [hfr] at c3
    clear c2' hfr h hp hw
    refine ACalls.introX (fn := Tryz.f50) Tryz.func50 rfl rfl (by simp [Tryz.f50]) ?_
    generalize personW w me = P at *
    unfold Tryz.f50
    simp only [rawV, insOf, setBs, eDeed, run0, eWld, ePerson, ePrt, eSealeds, eGrams, ePeople, eEvents, eRows, eWords, eLeaks, eRuns, rB, rI] at *
    refine wk0 trivial (And.intro c1 (And.intro c2 c3)) trivial
    all_goals (try simp only [go_sem, ↓reduceIte, reduceCtorEq, Nat.reduceLT, Nat.reduceEqDiff, Nat.reduceBEq, Nat.reduceAdd, Nat.reduceSub, Nat.reduceMul, Nat.reduceLeDiff, Int.reduceLE, Int.reduceLT, Int.reduceNeg, Int.reduceEq, Int.reduceBEq, Int.reduceBNe, Int.reduceToNat])
  rw [if_neg (by decide)]
  rw [hfr] at c3
  have c4 := p12_room w 0 1 h.box h.net
  cases hrm : roomW w 0 1
  · refine ⟨⟨w, personW w me, run0⟩, fun _ => rfl, fun bb => ?_⟩
    rw [if_pos rfl]
    have c2 := c2' bb
    have c3 := c3 bb
    rw [hrm] at c4
    clear c2' hfr h hp hw hrm
    refine ACalls.introX (fn := Tryz.f50) Tryz.func50 rfl rfl (by simp [Tryz.f50]) ?_
    generalize personW w me = P at *
    unfold Tryz.f50
    simp only [rawV, insOf, setBs, eDeed, run0, eWld, ePerson, ePrt, eSealeds, eGrams, ePeople, eEvents, eRows, eWords, eLeaks, eRuns, rB, rI] at *
    refine wk0 trivial (And.intro c1 (And.intro c2 (And.intro c3 c4))) trivial
    all_goals (try simp only [go_sem, ↓reduceIte, reduceCtorEq, Nat.reduceLT, Nat.reduceEqDiff, Nat.reduceBEq, Nat.reduceAdd, Nat.reduceSub, Nat.reduceMul, Nat.reduceLeDiff, Int.reduceLE, Int.reduceLT, Int.reduceNeg, Int.reduceEq, Int.reduceBEq, Int.reduceBNe, Int.reduceToNat])
  rw [if_neg (by decide)]
  rw [hrm] at c4
  obtain ⟨j, p, e1, e2, e3, e4⟩ := person_at h.ppl (n := me) (by omega) h2
  have hname : (personW w me).name = me := by rw [e3, e4, e1]
  have hmay : runMay (takenR r g) = true := by
    simp only [waitsN, Bool.and_eq_true, beq_iff_eq] at hw
    unfold takenR runMay
    simp [hw.1, hw.2.1]
  have hpp : ((personW w me).used.length + 10 ≤ 1000) ∧ ((personW w me).runs.set i (takenR r g)).length + 10 ≤ 1000 := ⟨hp.1, by rw [List.length_set]; exact hp.2⟩
  have h3 : Good 10 (withW w { personW w me with runs := (personW w me).runs.set i (takenR r g) }) := h.with_ _ hpp
  have h4 : Good 9 (takenU w me g i r) := h3.log_ _
  have hnet : ¬ (takenU w me g i r).net.room ≤ ((takenU w me g i r).net.grams.length : Int) := by
    rw [show (takenU w me g i r).net = w.net from (withW_net w _).1]
    have := (roomW_iff hrm).2; omega
  have hsend := send_room (w := takenU w me g i r) (t := r.peer) (m := ⟨3, 0, 0, 0, 0, g.h, 0⟩) (by unfold mayM; rfl) hnet
  have hres : takesN w me g i r = sentW (takenU w me g i r) r.peer ⟨3, 0, 0, 0, 0, g.h, 0⟩ := by
    unfold takenU
    rw [show (⟨3, 1, 1, (personW w me).name, r.peer, g.k, g.t, 0, r.mine, (personW w me).clock⟩ : Event) = ⟨3, 1, 1, me, r.peer, g.k, g.t, 0, r.mine, (personW w me).clock⟩ from by rw [hname]]
    rfl
  rw [hres]
  refine ⟨⟨sentW (takenU w me g i r) r.peer ⟨3, 0, 0, 0, 0, g.h, 0⟩, { personW w me with runs := (personW w me).runs.set i (takenR r g) }, takenR r g⟩, fun _ => rfl, fun bb => ?_⟩
  have c2 := c2' bb
  have c3 := c3 bb
  have c5 := p15_keep bb ⟨w, personW w me, takenR r g⟩ i hlt hmay (by show (personW w me).runs.length < 1000000; omega)
  have c6 := p15_note bb ⟨w, { personW w me with runs := (personW w me).runs.set i (takenR r g) }, takenR r g⟩ 3 r.mine (takenU w me g i r) (by rfl) ⟨by show (personW w me).used.length ≤ 1000000; omega, by show ((personW w me).runs.set i (takenR r g)).length ≤ 1000000; omega⟩ h.ppl h3.small.small.log
  have c7 := p15_send bb ⟨takenU w me g i r, { personW w me with runs := (personW w me).runs.set i (takenR r g) }, takenR r g⟩ r.peer ⟨3, 0, 0, 0, 0, g.h, 0⟩ _ _ hsend h4.net h4.small.small.grams h4.small.small.seen
  clear c2' hsend hres hnet h3 h4 hpp hname e1 e2 e3 e4 hmay hfr hrm hw h hp
  simp only at c5 c6 c7
  generalize sentW (takenU w me g i r) r.peer ⟨3, 0, 0, 0, 0, g.h, 0⟩ = z at *
  generalize takenU w me g i r = u at *
  generalize hL : (personW w me).runs.set i (takenR r g) = L at *
  clear hL
  generalize personW w me = P at *
  refine ACalls.introX (fn := Tryz.f50) Tryz.func50 rfl rfl (by simp [Tryz.f50]) ?_
  unfold Tryz.f50
  simp only [rawV, insOf, setBs, eDeed, takenR, run0, eWld, ePerson, eMssg, ePrt, eSealeds, eGrams, ePeople, eEvents, eRows, eWords, eLeaks, eRuns, eRun.eq_1 r, rB, rI] at *
  refine wk0 (And.intro hx (And.intro hlt (eRun.eq_1 r))) (And.intro c1 (And.intro c2 (And.intro c3 (And.intro c4 (And.intro c5 (And.intro c6 c7)))))) trivial
  all_goals (try simp only [go_sem, ↓reduceIte, reduceCtorEq, Nat.reduceLT, Nat.reduceEqDiff, Nat.reduceBEq, Nat.reduceAdd, Nat.reduceSub, Nat.reduceMul, Nat.reduceLeDiff, Int.reduceLE, Int.reduceLT, Int.reduceNeg, Int.reduceEq, Int.reduceBEq, Int.reduceBNe, Int.reduceToNat])
end Go.Proofs.YtpbgmfgmnnclaaaGreatDoor.Abs
end
section
/- The landed nsa, over values without addresses: the first run under whose key there is an echo. -/
set_option linter.unusedSimpArgs false
set_option linter.unusedVariables false
set_option maxRecDepth 100000
namespace Go.Proofs.YtpbgmfgmnnclaaaGreatDoor.Abs
open Go.RowKit
set_option maxHeartbeats 16000000 in
/-- The first of my runs under whose key there is an echo in a box. -/
theorem p15_echoed (bd : Nat) (s : Deed) (hd : Int) (hm : s.me.runs.length < 1000000) (hb : rightB s.w.box = true) (a nn : Int) (ok : Bool)
    (hE : ((∀ (i : Nat) (x : Run), s.me.runs[i]? = some x → (isKind 1 1 2 x && (openW s.w x.k 4 hd).2) = false) ∧ a = 0 ∧ nn = 0 ∧ ok = false) ∨ ∃ k r, s.me.runs[k]? = some r ∧ (isKind 1 1 2 r && (openW s.w r.k 4 hd).2) = true ∧ (∀ (i : Nat) (x : Run), i < k → s.me.runs[i]? = some x → (isKind 1 1 2 x && (openW s.w x.k 4 hd).2) = false) ∧ a = (k : Int) ∧ nn = (openW s.w r.k 4 hd).1.n ∧ ok = true) :
    ACalls Tryz.prog 84 [.one (rawV bd 0), .one (u32 hd)] (.bx [(bd, .cells (eDeed s))] [(bd, .cells (eDeed s))] [.one (i64 a), .one (u32 nn), .one (bl ok)]) := by
  refine ACalls.introX (fn := Tryz.f84) Tryz.func84 rfl rfl (by simp [Tryz.f84]) ?_
  obtain ⟨w, me, run⟩ := s
  simp only at hm hE hb
  have c2 := fun key => p12_open w key 4 hd hb
  have c1 := p15_begun me.runs 2
  unfold Tryz.f84
  simp only [rawV, insOf, setBs, eDeed, eWld, eSealeds, eGrams, ePeople, eEvents, eRows, eWords, eLeaks, eRuns, ePrt] at *
  refine wk1 trivial c1 trivial _ ?_
  all_goals (repeat intro h)
  all_goals refine ⟨?_⟩
  refine AW.shut 2 2 rfl rfl (by simp only [go_sem, ↓reduceIte, reduceCtorEq, Nat.reduceLT, Nat.reduceEqDiff, Nat.reduceBEq, Nat.reduceAdd, Nat.reduceSub, Nat.reduceMul, Nat.reduceLeDiff, Int.reduceLE, Int.reduceLT, Int.reduceNeg, Int.reduceEq, Int.reduceBEq, Int.reduceBNe, Int.reduceToNat]) ?_
  refine AW.shut 3 3 rfl rfl (by simp only [go_sem, ↓reduceIte, reduceCtorEq, Nat.reduceLT, Nat.reduceEqDiff, Nat.reduceBEq, Nat.reduceAdd, Nat.reduceSub, Nat.reduceMul, Nat.reduceLeDiff, Int.reduceLE, Int.reduceLT, Int.reduceNeg, Int.reduceEq, Int.reduceBEq, Int.reduceBNe, Int.reduceToNat]) ?_
  refine AW.lessW ⟨40, (upd (upd (upd (upd (upd (upd (fun _ => .junk) 2 (.one (.c (.ptrc 0 [rawV bd 0] 0)))) 3 (.one (.c (.ptrc 0 [u32 hd] 0)))) 7 (.one (.ptr 7 0))) 8 (.one (.ptr 8 0))) 9 (.one (.ptr 9 0))) 19 (.one (.c (.fn 121 false [] [.ptrc 0 [.row (me.runs.map eRun)] 0, .ptrc 0 [i64 2] 0])))), (upd (upd (upd (upd (fun _ => none) (1000000+bd) (some (.obox [u32 w.conf.window, i64 w.conf.people, i64 w.conf.box, i64 w.conf.used, i64 w.conf.runs, i64 w.conf.net, i64 w.conf.regs, CV.row (List.map eWord w.draws.list), i64 w.draws.next, i64 w.box.room, CV.row (List.map eSealed w.box.entries), i64 w.net.room, CV.row (List.map eGram w.net.grams), CV.row (List.map eSeen w.net.seen), CV.row (List.map ePerson w.people), CV.row (List.map eEvent w.log), CV.row (List.map eSeen w.regs), CV.row (List.map eLeak w.leaks), u32 me.name, u32 me.key, u32 me.clock, CV.row (List.map eWord me.used), CV.row (List.map eRun me.runs), bl me.corrupt, i64 run.proto, i64 run.role, u32 run.peer, u32 run.mine, u32 run.their, u32 run.m, u32 run.k, u32 run.t, i64 run.state]))) 7 (some (.box [A.c (i64 0)]))) 8 (some (.box [A.c (u32 0)]))) 9 (some (.box [A.c (bl false)])))⟩ (by exact lz trivial) ?_
  refine AW.name 7 rfl (by simp only [go_sem, ↓reduceIte, reduceCtorEq, Nat.reduceLT, Nat.reduceEqDiff, Nat.reduceBEq, Nat.reduceAdd, Nat.reduceSub, Nat.reduceMul, Nat.reduceLeDiff, Int.reduceLE, Int.reduceLT, Int.reduceNeg, Int.reduceEq, Int.reduceBEq, Int.reduceBNe, Int.reduceToNat]) (fun b => by simp only [go_sem, ↓reduceIte, reduceCtorEq, Nat.reduceLT, Nat.reduceEqDiff, Nat.reduceBEq, Nat.reduceAdd, Nat.reduceSub, Nat.reduceMul, Nat.reduceLeDiff, Int.reduceLE, Int.reduceLT, Int.reduceNeg, Int.reduceEq, Int.reduceBEq, Int.reduceBNe, Int.reduceToNat]; by_cases h : b = bd <;> simp [h]) fun b7 h7 => ?_
  have nd7 : bd ≠ b7 := fun e => by
    subst e
    simp [upd] at h7
    (repeat (rw [if_neg (by omega)] at h7)); cases h7
  clear h7
  have t1 : (bd == b7) = false := by simp [nd7]
  have t2 : (b7 == bd) = false := by simp [Ne.symm nd7]
  have t3 : (bd = b7) = False := eq_false nd7
  have t4 : (b7 = bd) = False := eq_false (Ne.symm nd7)
  refine AW.lessW ⟨40, (upd (upd (upd (upd (upd (upd (fun _ => .junk) 2 (.one (.c (.ptrc 0 [rawV bd 0] 0)))) 3 (.one (.c (.ptrc 0 [u32 hd] 0)))) 7 (.one (.c (rawV b7 0)))) 8 (.one (.ptr 8 0))) 9 (.one (.ptr 9 0))) 19 (.one (.c (.fn 121 false [] [.ptrc 0 [.row (me.runs.map eRun)] 0, .ptrc 0 [i64 2] 0])))), (upd (upd (upd (upd (fun _ => none) (1000000+bd) (some (.obox [u32 w.conf.window, i64 w.conf.people, i64 w.conf.box, i64 w.conf.used, i64 w.conf.runs, i64 w.conf.net, i64 w.conf.regs, CV.row (List.map eWord w.draws.list), i64 w.draws.next, i64 w.box.room, CV.row (List.map eSealed w.box.entries), i64 w.net.room, CV.row (List.map eGram w.net.grams), CV.row (List.map eSeen w.net.seen), CV.row (List.map ePerson w.people), CV.row (List.map eEvent w.log), CV.row (List.map eSeen w.regs), CV.row (List.map eLeak w.leaks), u32 me.name, u32 me.key, u32 me.clock, CV.row (List.map eWord me.used), CV.row (List.map eRun me.runs), bl me.corrupt, i64 run.proto, i64 run.role, u32 run.peer, u32 run.mine, u32 run.their, u32 run.m, u32 run.k, u32 run.t, i64 run.state]))) (1000000+b7) (some (.obox [i64 0]))) 8 (some (.box [A.c (u32 0)]))) 9 (some (.box [A.c (bl false)])))⟩ (by exact lz (And.intro t1 (And.intro t2 (And.intro t3 t4)))) ?_
  refine AW.name 8 rfl (by simp only [go_sem, ↓reduceIte, reduceCtorEq, Nat.reduceLT, Nat.reduceEqDiff, Nat.reduceBEq, Nat.reduceAdd, Nat.reduceSub, Nat.reduceMul, Nat.reduceLeDiff, Int.reduceLE, Int.reduceLT, Int.reduceNeg, Int.reduceEq, Int.reduceBEq, Int.reduceBNe, Int.reduceToNat]) (fun b => by simp only [go_sem, ↓reduceIte, reduceCtorEq, Nat.reduceLT, Nat.reduceEqDiff, Nat.reduceBEq, Nat.reduceAdd, Nat.reduceSub, Nat.reduceMul, Nat.reduceLeDiff, Int.reduceLE, Int.reduceLT, Int.reduceNeg, Int.reduceEq, Int.reduceBEq, Int.reduceBNe, Int.reduceToNat]; by_cases h : b = bd <;> by_cases h' : b = b7 <;> simp [h, h', nd7, Ne.symm nd7]) fun b8 h8 => ?_
  have nd8 : bd ≠ b8 := fun e => by
    subst e
    simp [upd, nd7] at h8
    (repeat (rw [if_neg (by omega)] at h8)); cases h8
  have n78 : b7 ≠ b8 := fun e => by
    subst e
    simp [upd] at h8
    (repeat (rw [if_neg (by omega)] at h8)); cases h8
  clear h8
  have t5 : (bd == b8) = false := by simp [nd8]
  have t6 : (b8 == bd) = false := by simp [Ne.symm nd8]
  have t7 : (bd = b8) = False := eq_false nd8
  have t8 : (b8 = bd) = False := eq_false (Ne.symm nd8)
  have t9 : (b7 == b8) = false := by simp [n78]
  have t10 : (b8 == b7) = false := by simp [Ne.symm n78]
  have t11 : (b7 = b8) = False := eq_false n78
  have t12 : (b8 = b7) = False := eq_false (Ne.symm n78)
  refine AW.lessW ⟨40, (upd (upd (upd (upd (upd (upd (fun _ => .junk) 2 (.one (.c (.ptrc 0 [rawV bd 0] 0)))) 3 (.one (.c (.ptrc 0 [u32 hd] 0)))) 7 (.one (.c (rawV b7 0)))) 8 (.one (.c (rawV b8 0)))) 9 (.one (.ptr 9 0))) 19 (.one (.c (.fn 121 false [] [.ptrc 0 [.row (me.runs.map eRun)] 0, .ptrc 0 [i64 2] 0])))), (upd (upd (upd (upd (fun _ => none) (1000000+bd) (some (.obox [u32 w.conf.window, i64 w.conf.people, i64 w.conf.box, i64 w.conf.used, i64 w.conf.runs, i64 w.conf.net, i64 w.conf.regs, CV.row (List.map eWord w.draws.list), i64 w.draws.next, i64 w.box.room, CV.row (List.map eSealed w.box.entries), i64 w.net.room, CV.row (List.map eGram w.net.grams), CV.row (List.map eSeen w.net.seen), CV.row (List.map ePerson w.people), CV.row (List.map eEvent w.log), CV.row (List.map eSeen w.regs), CV.row (List.map eLeak w.leaks), u32 me.name, u32 me.key, u32 me.clock, CV.row (List.map eWord me.used), CV.row (List.map eRun me.runs), bl me.corrupt, i64 run.proto, i64 run.role, u32 run.peer, u32 run.mine, u32 run.their, u32 run.m, u32 run.k, u32 run.t, i64 run.state]))) (1000000+b7) (some (.obox [i64 0]))) (1000000+b8) (some (.obox [u32 0]))) 9 (some (.box [A.c (bl false)])))⟩ (by exact lz (And.intro t1 (And.intro t2 (And.intro t3 (And.intro t4 (And.intro t5 (And.intro t6 (And.intro t7 (And.intro t8 (And.intro t9 (And.intro t10 (And.intro t11 t12)))))))))))) ?_
  refine AW.name 9 rfl (by simp only [go_sem, ↓reduceIte, reduceCtorEq, Nat.reduceLT, Nat.reduceEqDiff, Nat.reduceBEq, Nat.reduceAdd, Nat.reduceSub, Nat.reduceMul, Nat.reduceLeDiff, Int.reduceLE, Int.reduceLT, Int.reduceNeg, Int.reduceEq, Int.reduceBEq, Int.reduceBNe, Int.reduceToNat]) (fun b => by simp only [go_sem, ↓reduceIte, reduceCtorEq, Nat.reduceLT, Nat.reduceEqDiff, Nat.reduceBEq, Nat.reduceAdd, Nat.reduceSub, Nat.reduceMul, Nat.reduceLeDiff, Int.reduceLE, Int.reduceLT, Int.reduceNeg, Int.reduceEq, Int.reduceBEq, Int.reduceBNe, Int.reduceToNat]; by_cases h : b = bd <;> by_cases h' : b = b7 <;> by_cases h'' : b = b8 <;> simp [h, h', h'', nd7, Ne.symm nd7, nd8, Ne.symm nd8, n78, Ne.symm n78]) fun b9 h9 => ?_
  have nd9 : bd ≠ b9 := fun e => by
    subst e
    simp [upd, nd7, nd8] at h9
    (repeat (rw [if_neg (by omega)] at h9)); cases h9
  have n79 : b7 ≠ b9 := fun e => by
    subst e
    simp [upd, n78] at h9
    (repeat (rw [if_neg (by omega)] at h9)); cases h9
  have n89 : b8 ≠ b9 := fun e => by
    subst e
    simp [upd] at h9
    (repeat (rw [if_neg (by omega)] at h9)); cases h9
  clear h9 t1 t2 t3 t4 t5 t6 t7 t8 t9 t10 t11 t12
  have e1 : (bd == b7) = false := by simp [nd7]
  have e2 : (b7 == bd) = false := by simp [Ne.symm nd7]
  have e3 : (bd = b7) = False := eq_false nd7
  have e4 : (b7 = bd) = False := eq_false (Ne.symm nd7)
  have e5 : (bd == b8) = false := by simp [nd8]
  have e6 : (b8 == bd) = false := by simp [Ne.symm nd8]
  have e7 : (bd = b8) = False := eq_false nd8
  have e8 : (b8 = bd) = False := eq_false (Ne.symm nd8)
  have e9 : (bd == b9) = false := by simp [nd9]
  have e10 : (b9 == bd) = false := by simp [Ne.symm nd9]
  have e11 : (bd = b9) = False := eq_false nd9
  have e12 : (b9 = bd) = False := eq_false (Ne.symm nd9)
  have e13 : (b7 == b8) = false := by simp [n78]
  have e14 : (b8 == b7) = false := by simp [Ne.symm n78]
  have e15 : (b7 = b8) = False := eq_false n78
  have e16 : (b8 = b7) = False := eq_false (Ne.symm n78)
  have e17 : (b7 == b9) = false := by simp [n79]
  have e18 : (b9 == b7) = false := by simp [Ne.symm n79]
  have e19 : (b7 = b9) = False := eq_false n79
  have e20 : (b9 = b7) = False := eq_false (Ne.symm n79)
  have e21 : (b8 == b9) = false := by simp [n89]
  have e22 : (b9 == b8) = false := by simp [Ne.symm n89]
  have e23 : (b8 = b9) = False := eq_false n89
  have e24 : (b9 = b8) = False := eq_false (Ne.symm n89)
  refine AW.lessW ⟨40, (upd (upd (upd (upd (upd (upd (fun _ => .junk) 2 (.one (.c (.ptrc 0 [rawV bd 0] 0)))) 3 (.one (.c (.ptrc 0 [u32 hd] 0)))) 7 (.one (.c (rawV b7 0)))) 8 (.one (.c (rawV b8 0)))) 9 (.one (.c (rawV b9 0)))) 19 (.one (.c (.fn 121 false [] [.ptrc 0 [.row (me.runs.map eRun)] 0, .ptrc 0 [i64 2] 0])))), (upd (upd (upd (upd (fun _ => none) (1000000+bd) (some (.obox [u32 w.conf.window, i64 w.conf.people, i64 w.conf.box, i64 w.conf.used, i64 w.conf.runs, i64 w.conf.net, i64 w.conf.regs, CV.row (List.map eWord w.draws.list), i64 w.draws.next, i64 w.box.room, CV.row (List.map eSealed w.box.entries), i64 w.net.room, CV.row (List.map eGram w.net.grams), CV.row (List.map eSeen w.net.seen), CV.row (List.map ePerson w.people), CV.row (List.map eEvent w.log), CV.row (List.map eSeen w.regs), CV.row (List.map eLeak w.leaks), u32 me.name, u32 me.key, u32 me.clock, CV.row (List.map eWord me.used), CV.row (List.map eRun me.runs), bl me.corrupt, i64 run.proto, i64 run.role, u32 run.peer, u32 run.mine, u32 run.their, u32 run.m, u32 run.k, u32 run.t, i64 run.state]))) (1000000+b7) (some (.obox [i64 0]))) (1000000+b8) (some (.obox [u32 0]))) (1000000+b9) (some (.obox [bl false])))⟩ (by exact lz (And.intro e1 (And.intro e2 (And.intro e3 (And.intro e4 (And.intro e5 (And.intro e6 (And.intro e7 (And.intro e8 (And.intro e9 (And.intro e10 (And.intro e11 (And.intro e12 (And.intro e13 (And.intro e14 (And.intro e15 (And.intro e16 (And.intro e17 (And.intro e18 (And.intro e19 (And.intro e20 (And.intro e21 (And.intro e22 (And.intro e23 e24)))))))))))))))))))))))) ?_
  have hno : NoIds (fun d => (⟨40, (upd (upd (upd (upd (upd (upd (fun _ => .junk) 2 (.one (.c (.ptrc 0 [rawV bd 0] 0)))) 3 (.one (.c (.ptrc 0 [u32 hd] 0)))) 7 (.one (.c (rawV b7 0)))) 8 (.one (.c (rawV b8 0)))) 9 (.one (.c (rawV b9 0)))) 19 (.one (.c (.fn 121 false [] [.ptrc 0 [.row (me.runs.map eRun)] 0, .ptrc 0 [i64 2] 0])))), (upd (upd (upd (upd (fun _ => none) (1000000+bd) (some (.obox [u32 w.conf.window, i64 w.conf.people, i64 w.conf.box, i64 w.conf.used, i64 w.conf.runs, i64 w.conf.net, i64 w.conf.regs, CV.row (List.map eWord w.draws.list), i64 w.draws.next, i64 w.box.room, CV.row (List.map eSealed w.box.entries), i64 w.net.room, CV.row (List.map eGram w.net.grams), CV.row (List.map eSeen w.net.seen), CV.row (List.map ePerson w.people), CV.row (List.map eEvent w.log), CV.row (List.map eSeen w.regs), CV.row (List.map eLeak w.leaks), u32 me.name, u32 me.key, u32 me.clock, CV.row (List.map eWord me.used), CV.row (List.map eRun me.runs), bl me.corrupt, i64 run.proto, i64 run.role, u32 run.peer, u32 run.mine, u32 run.their, u32 run.m, u32 run.k, u32 run.t, i64 run.state]))) (1000000+b7) (some (.obox [i64 0]))) (1000000+b8) (some (.obox [u32 0]))) (1000000+b9) (some (.obox [bl false])))⟩ : St).t d) := by
    repeat' first | exact NoIds.junk | refine NoIds.upd rfl ?_
  rcases hE with ⟨h1, rfl, rfl, rfl⟩ | ⟨k, r, h1, h2, h3, rfl, rfl, rfl⟩
  · refine AW.range 121 [.ptrc 0 [.row (me.runs.map eRun)] 0, .ptrc 0 [i64 2] 0] _ [(bd, .cells [u32 w.conf.window, i64 w.conf.people, i64 w.conf.box, i64 w.conf.used, i64 w.conf.runs, i64 w.conf.net, i64 w.conf.regs, CV.row (List.map eWord w.draws.list), i64 w.draws.next, i64 w.box.room, CV.row (List.map eSealed w.box.entries), i64 w.net.room, CV.row (List.map eGram w.net.grams), CV.row (List.map eSeen w.net.seen), CV.row (List.map ePerson w.people), CV.row (List.map eEvent w.log), CV.row (List.map eSeen w.regs), CV.row (List.map eLeak w.leaks), u32 me.name, u32 me.key, u32 me.clock, CV.row (List.map eWord me.used), CV.row (List.map eRun me.runs), bl me.corrupt, i64 run.proto, i64 run.role, u32 run.peer, u32 run.mine, u32 run.their, u32 run.m, u32 run.k, u32 run.t, i64 run.state]), (b7, .cells [i64 0]), (b8, .cells [u32 0]), (b9, .cells [bl false])] [(bd, .cells [u32 w.conf.window, i64 w.conf.people, i64 w.conf.box, i64 w.conf.used, i64 w.conf.runs, i64 w.conf.net, i64 w.conf.regs, CV.row (List.map eWord w.draws.list), i64 w.draws.next, i64 w.box.room, CV.row (List.map eSealed w.box.entries), i64 w.net.room, CV.row (List.map eGram w.net.grams), CV.row (List.map eSeen w.net.seen), CV.row (List.map ePerson w.people), CV.row (List.map eEvent w.log), CV.row (List.map eSeen w.regs), CV.row (List.map eLeak w.leaks), u32 me.name, u32 me.key, u32 me.clock, CV.row (List.map eWord me.used), CV.row (List.map eRun me.runs), bl me.corrupt, i64 run.proto, i64 run.role, u32 run.peer, u32 run.mine, u32 run.their, u32 run.m, u32 run.k, u32 run.t, i64 run.state]), (b7, .cells [i64 0]), (b8, .cells [u32 0]), (b9, .cells [bl false])] none rfl hno.at (by simp only [go_sem, ↓reduceIte, reduceCtorEq, Nat.reduceLT, Nat.reduceEqDiff, Nat.reduceBEq, Nat.reduceAdd, Nat.reduceSub, Nat.reduceMul, Nat.reduceLeDiff, Int.reduceLE, Int.reduceLT, Int.reduceNeg, Int.reduceEq, Int.reduceBEq, Int.reduceBNe, Int.reduceToNat, e1, e2, e3, e4, e5, e6, e7, e8, e9, e10, e11, e12, e13, e14, e15, e16, e17, e18, e19, e20, e21, e22, e23, e24]) (by simp only [go_sem, ↓reduceIte, reduceCtorEq, Nat.reduceLT, Nat.reduceEqDiff, Nat.reduceBEq, Nat.reduceAdd, Nat.reduceSub, Nat.reduceMul, Nat.reduceLeDiff, Int.reduceLE, Int.reduceLT, Int.reduceNeg, Int.reduceEq, Int.reduceBEq, Int.reduceBNe, Int.reduceToNat]) (fun fn l hl => ?_) ?_
    · have nld : l ≠ bd := fun e => hl (.cells [u32 w.conf.window, i64 w.conf.people, i64 w.conf.box, i64 w.conf.used, i64 w.conf.runs, i64 w.conf.net, i64 w.conf.regs, CV.row (List.map eWord w.draws.list), i64 w.draws.next, i64 w.box.room, CV.row (List.map eSealed w.box.entries), i64 w.net.room, CV.row (List.map eGram w.net.grams), CV.row (List.map eSeen w.net.seen), CV.row (List.map ePerson w.people), CV.row (List.map eEvent w.log), CV.row (List.map eSeen w.regs), CV.row (List.map eLeak w.leaks), u32 me.name, u32 me.key, u32 me.clock, CV.row (List.map eWord me.used), CV.row (List.map eRun me.runs), bl me.corrupt, i64 run.proto, i64 run.role, u32 run.peer, u32 run.mine, u32 run.their, u32 run.m, u32 run.k, u32 run.t, i64 run.state]) (by rw [e]; simp)
      have nl7 : l ≠ b7 := fun e => hl (.cells [i64 0]) (by rw [e]; simp)
      have nl8 : l ≠ b8 := fun e => hl (.cells [u32 0]) (by rw [e]; simp)
      have nl9 : l ≠ b9 := fun e => hl (.cells [bl false]) (by rw [e]; simp)
      refine p15_nxt4 me.runs 2 (fun x => (openW w x.k 4 hd).2) l bd b7 b8 b9 [u32 w.conf.window, i64 w.conf.people, i64 w.conf.box, i64 w.conf.used, i64 w.conf.runs, i64 w.conf.net, i64 w.conf.regs, CV.row (List.map eWord w.draws.list), i64 w.draws.next, i64 w.box.room, CV.row (List.map eSealed w.box.entries), i64 w.net.room, CV.row (List.map eGram w.net.grams), CV.row (List.map eSeen w.net.seen), CV.row (List.map ePerson w.people), CV.row (List.map eEvent w.log), CV.row (List.map eSeen w.regs), CV.row (List.map eLeak w.leaks), u32 me.name, u32 me.key, u32 me.clock, CV.row (List.map eWord me.used), CV.row (List.map eRun me.runs), bl me.corrupt, i64 run.proto, i64 run.role, u32 run.peer, u32 run.mine, u32 run.their, u32 run.m, u32 run.k, u32 run.t, i64 run.state] _ ⟨fn, 0, fun _ => .junk, #[], .skip, .skip, none⟩ (i64 0) (u32 0) (bl false) (fun k _ => i64 k) (fun _ x => u32 (openW w x.k 4 hd).1.n) (fun _ _ => bl true) hm nd7 nd8 nd9 n78 n79 n89 nld nl7 nl8 nl9 ?_ ?_ _ _ _ _ (.inl ⟨h1, rfl, rfl, rfl, rfl⟩)
      · intro k' x hx hk hq
        refine AYields.intro (jump := none) rfl rfl (fun oc h => hl oc h) ?_
        have co := c2 x.k
        clear hl c2 h1
        generalize openW w x.k 4 hd = o at *
        obtain ⟨pt, okk⟩ := o
        try simp only at hq
        subst hq
        simp only [eRun, List.zip_cons_cons, List.zip_nil_left, List.zip_nil_right, setP, setBs, OC.blk, CA.av, ePrt] at *
        repeat' (first
    | (refine hC ?_ ?_ ?_ ?_ ?_
       rotate_left
       · rfl
       · simp only [go_sem, ↓reduceIte, reduceCtorEq, Nat.reduceLT, Nat.reduceEqDiff, Nat.reduceBEq, Nat.reduceAdd, Nat.reduceSub, Nat.reduceMul, Nat.reduceLeDiff, Int.reduceLE, Int.reduceLT, Int.reduceNeg, Int.reduceEq, Int.reduceBEq, Int.reduceBNe, Int.reduceToNat, e1, e2, e3, e4, e5, e6, e7, e8, e9, e10, e11, e12, e13, e14, e15, e16, e17, e18, e19, e20, e21, e22, e23, e24]
       · simp only [go_sem, ↓reduceIte, reduceCtorEq, Nat.reduceLT, Nat.reduceEqDiff, Nat.reduceBEq, Nat.reduceAdd, Nat.reduceSub, Nat.reduceMul, Nat.reduceLeDiff, Int.reduceLE, Int.reduceLT, Int.reduceNeg, Int.reduceEq, Int.reduceBEq, Int.reduceBNe, Int.reduceToNat, e1, e2, e3, e4, e5, e6, e7, e8, e9, e10, e11, e12, e13, e14, e15, e16, e17, e18, e19, e20, e21, e22, e23, e24]
         first | (refine And.intro ?_ ?_; exact co; first | exact trivial | (simp only [go_sem, ↓reduceIte, reduceCtorEq, Nat.reduceLT, Nat.reduceEqDiff, Nat.reduceBEq, Nat.reduceAdd, Nat.reduceSub, Nat.reduceMul, Nat.reduceLeDiff, Int.reduceLE, Int.reduceLT, Int.reduceNeg, Int.reduceEq, Int.reduceBEq, Int.reduceBNe, Int.reduceToNat, e1, e2, e3, e4, e5, e6, e7, e8, e9, e10, e11, e12, e13, e14, e15, e16, e17, e18, e19, e20, e21, e22, e23, e24]; done)) | (refine And.intro (ACalls.args (k := ?_) ?_ ?_) ?_; rotate_left; exact co; repeat' (first | exact trivial | exact Or.inl ⟨rfl, rfl⟩ | exact Or.inr rfl | apply And.intro))
       simp only [go_sem, ↓reduceIte, reduceCtorEq, Nat.reduceLT, Nat.reduceEqDiff, Nat.reduceBEq, Nat.reduceAdd, Nat.reduceSub, Nat.reduceMul, Nat.reduceLeDiff, Int.reduceLE, Int.reduceLT, Int.reduceNeg, Int.reduceEq, Int.reduceBEq, Int.reduceBNe, Int.reduceToNat, e1, e2, e3, e4, e5, e6, e7, e8, e9, e10, e11, e12, e13, e14, e15, e16, e17, e18, e19, e20, e21, e22, e23, e24])
    | (refine hK _ _ ?_; clear hK hC; clear K C)
    | (refine hK _ _ rfl ?_; clear hK hC; clear K C)
    | (refine hK _ _ (by simp only [crs, crsI, alfO, alfL, Nat.reduceLT]; rfl) ?_; clear hK hC; clear K C)
    | (refine AW.seqR fun K C hK hC => ?_; simp only [go_sem, ↓reduceIte, reduceCtorEq, Nat.reduceLT, Nat.reduceEqDiff, Nat.reduceBEq, Nat.reduceAdd, Nat.reduceSub, Nat.reduceMul, Nat.reduceLeDiff, Int.reduceLE, Int.reduceLT, Int.reduceNeg, Int.reduceEq, Int.reduceBEq, Int.reduceBNe, Int.reduceToNat, e1, e2, e3, e4, e5, e6, e7, e8, e9, e10, e11, e12, e13, e14, e15, e16, e17, e18, e19, e20, e21, e22, e23, e24])
    | (refine AW.seqD rfl fun K C hK hC => ?_; simp only [go_sem, ↓reduceIte, reduceCtorEq, Nat.reduceLT, Nat.reduceEqDiff, Nat.reduceBEq, Nat.reduceAdd, Nat.reduceSub, Nat.reduceMul, Nat.reduceLeDiff, Int.reduceLE, Int.reduceLT, Int.reduceNeg, Int.reduceEq, Int.reduceBEq, Int.reduceBNe, Int.reduceToNat, e1, e2, e3, e4, e5, e6, e7, e8, e9, e10, e11, e12, e13, e14, e15, e16, e17, e18, e19, e20, e21, e22, e23, e24])
    | (refine AW.reg fun K C hK hC => ?_; simp only [go_sem, ↓reduceIte, reduceCtorEq, Nat.reduceLT, Nat.reduceEqDiff, Nat.reduceBEq, Nat.reduceAdd, Nat.reduceSub, Nat.reduceMul, Nat.reduceLeDiff, Int.reduceLE, Int.reduceLT, Int.reduceNeg, Int.reduceEq, Int.reduceBEq, Int.reduceBNe, Int.reduceToNat, e1, e2, e3, e4, e5, e6, e7, e8, e9, e10, e11, e12, e13, e14, e15, e16, e17, e18, e19, e20, e21, e22, e23, e24])
    | (refine AW.regD rfl fun K C hK hC => ?_; simp only [go_sem, ↓reduceIte, reduceCtorEq, Nat.reduceLT, Nat.reduceEqDiff, Nat.reduceBEq, Nat.reduceAdd, Nat.reduceSub, Nat.reduceMul, Nat.reduceLeDiff, Int.reduceLE, Int.reduceLT, Int.reduceNeg, Int.reduceEq, Int.reduceBEq, Int.reduceBNe, Int.reduceToNat, e1, e2, e3, e4, e5, e6, e7, e8, e9, e10, e11, e12, e13, e14, e15, e16, e17, e18, e19, e20, e21, e22, e23, e24])
    | refine AW.seqS ?_
    | (refine AW.ret ?_; simp only [go_sem, ↓reduceIte, reduceCtorEq, Nat.reduceLT, Nat.reduceEqDiff, Nat.reduceBEq, Nat.reduceAdd, Nat.reduceSub, Nat.reduceMul, Nat.reduceLeDiff, Int.reduceLE, Int.reduceLT, Int.reduceNeg, Int.reduceEq, Int.reduceBEq, Int.reduceBNe, Int.reduceToNat, e1, e2, e3, e4, e5, e6, e7, e8, e9, e10, e11, e12, e13, e14, e15, e16, e17, e18, e19, e20, e21, e22, e23, e24])
    | (refine AW.cond rfl (fun h => ?_) (fun h => ?_) <;> (try simp only [decide_eq_true_eq, decide_eq_false_iff_not, bne_iff_ne, beq_iff_eq, bne_eq_false_iff_eq, beq_eq_false_iff_ne, ne_eq, ge_iff_le, gt_iff_lt, Bool.not_eq_true, Bool.not_eq_false, Bool.not_not, Bool.not_true, Bool.not_false, Int.not_le, Int.not_lt, not_true_eq_false, not_false_eq_true, reduceCtorEq, Bool.false_eq_true, Bool.not_eq_true', Bool.not_eq_false'] at h) <;> first | (exfalso; omega) | skip)
    | refine AW.skip ?_
    | refine AW.seq ?_
    | refine AW.block ?_
    | (refine AW.exit ?_; simp only [go_sem, ↓reduceIte, reduceCtorEq, Nat.reduceLT, Nat.reduceEqDiff, Nat.reduceBEq, Nat.reduceAdd, Nat.reduceSub, Nat.reduceMul, Nat.reduceLeDiff, Int.reduceLE, Int.reduceLT, Int.reduceNeg, Int.reduceEq, Int.reduceBEq, Int.reduceBNe, Int.reduceToNat, e1, e2, e3, e4, e5, e6, e7, e8, e9, e10, e11, e12, e13, e14, e15, e16, e17, e18, e19, e20, e21, e22, e23, e24])
    | (refine ite_on (fun h => ?_) (fun h => ?_) <;> (try simp only [decide_eq_true_eq, decide_eq_false_iff_not, bne_iff_ne, beq_iff_eq, bne_eq_false_iff_eq, beq_eq_false_iff_ne, ne_eq, ge_iff_le, gt_iff_lt, Bool.not_eq_true, Bool.not_eq_false, Bool.not_not, Bool.not_true, Bool.not_false, Int.not_le, Int.not_lt, not_true_eq_false, not_false_eq_true, reduceCtorEq, Bool.false_eq_true, Bool.not_eq_true', Bool.not_eq_false'] at h) <;> first | (exfalso; omega) | skip)
    | rw [thenN]
    | rw [blockN]
    | rw [scopeN]
    | refine AW.scope ?_
    | refine AW.label ?_
    | refine And.intro ?_ ?_
    | refine lcons rfl ?_
    | exact lGram _
    | exact lSeen _
    | exact lWord _
    | exact lSealed _
    | exact lRun _
    | exact lPerson _
    | exact lEvent _
    | exact lLeak _
    | exact lNum _
    | exact lOprn _
    | exact in64 (by omega) (by omega)
    | exact in32 (by omega) (by omega)
    | omega)
        all_goals (try simp only [go_sem, ↓reduceIte, reduceCtorEq, Nat.reduceLT, Nat.reduceEqDiff, Nat.reduceBEq, Nat.reduceAdd, Nat.reduceSub, Nat.reduceMul, Nat.reduceLeDiff, Int.reduceLE, Int.reduceLT, Int.reduceNeg, Int.reduceEq, Int.reduceBEq, Int.reduceBNe, Int.reduceToNat, e1, e2, e3, e4, e5, e6, e7, e8, e9, e10, e11, e12, e13, e14, e15, e16, e17, e18, e19, e20, e21, e22, e23, e24])
      · intro k' x hx hk hq
        have := h1 k' x hx
        rw [hk] at this
        try simp only at hq
        rw [hq] at this
        cases this
    · simp only [setBs, OC.blk]
      refine wk0 (And.intro e1 (And.intro e2 (And.intro e3 (And.intro e4 (And.intro e5 (And.intro e6 (And.intro e7 (And.intro e8 (And.intro e9 (And.intro e10 (And.intro e11 (And.intro e12 (And.intro e13 (And.intro e14 (And.intro e15 (And.intro e16 (And.intro e17 (And.intro e18 (And.intro e19 (And.intro e20 (And.intro e21 (And.intro e22 (And.intro e23 e24))))))))))))))))))))))) trivial trivial
      all_goals (try simp only [go_sem, ↓reduceIte, reduceCtorEq, Nat.reduceLT, Nat.reduceEqDiff, Nat.reduceBEq, Nat.reduceAdd, Nat.reduceSub, Nat.reduceMul, Nat.reduceLeDiff, Int.reduceLE, Int.reduceLT, Int.reduceNeg, Int.reduceEq, Int.reduceBEq, Int.reduceBNe, Int.reduceToNat, e1, e2, e3, e4, e5, e6, e7, e8, e9, e10, e11, e12, e13, e14, e15, e16, e17, e18, e19, e20, e21, e22, e23, e24])
  · refine AW.range 121 [.ptrc 0 [.row (me.runs.map eRun)] 0, .ptrc 0 [i64 2] 0] _ [(bd, .cells [u32 w.conf.window, i64 w.conf.people, i64 w.conf.box, i64 w.conf.used, i64 w.conf.runs, i64 w.conf.net, i64 w.conf.regs, CV.row (List.map eWord w.draws.list), i64 w.draws.next, i64 w.box.room, CV.row (List.map eSealed w.box.entries), i64 w.net.room, CV.row (List.map eGram w.net.grams), CV.row (List.map eSeen w.net.seen), CV.row (List.map ePerson w.people), CV.row (List.map eEvent w.log), CV.row (List.map eSeen w.regs), CV.row (List.map eLeak w.leaks), u32 me.name, u32 me.key, u32 me.clock, CV.row (List.map eWord me.used), CV.row (List.map eRun me.runs), bl me.corrupt, i64 run.proto, i64 run.role, u32 run.peer, u32 run.mine, u32 run.their, u32 run.m, u32 run.k, u32 run.t, i64 run.state]), (b7, .cells [i64 0]), (b8, .cells [u32 0]), (b9, .cells [bl false])] [(bd, .cells [u32 w.conf.window, i64 w.conf.people, i64 w.conf.box, i64 w.conf.used, i64 w.conf.runs, i64 w.conf.net, i64 w.conf.regs, CV.row (List.map eWord w.draws.list), i64 w.draws.next, i64 w.box.room, CV.row (List.map eSealed w.box.entries), i64 w.net.room, CV.row (List.map eGram w.net.grams), CV.row (List.map eSeen w.net.seen), CV.row (List.map ePerson w.people), CV.row (List.map eEvent w.log), CV.row (List.map eSeen w.regs), CV.row (List.map eLeak w.leaks), u32 me.name, u32 me.key, u32 me.clock, CV.row (List.map eWord me.used), CV.row (List.map eRun me.runs), bl me.corrupt, i64 run.proto, i64 run.role, u32 run.peer, u32 run.mine, u32 run.their, u32 run.m, u32 run.k, u32 run.t, i64 run.state]), (b7, .cells [i64 k]), (b8, .cells [u32 (openW w r.k 4 hd).1.n]), (b9, .cells [bl true])] (some (.exit 0)) rfl hno.at (by simp only [go_sem, ↓reduceIte, reduceCtorEq, Nat.reduceLT, Nat.reduceEqDiff, Nat.reduceBEq, Nat.reduceAdd, Nat.reduceSub, Nat.reduceMul, Nat.reduceLeDiff, Int.reduceLE, Int.reduceLT, Int.reduceNeg, Int.reduceEq, Int.reduceBEq, Int.reduceBNe, Int.reduceToNat, e1, e2, e3, e4, e5, e6, e7, e8, e9, e10, e11, e12, e13, e14, e15, e16, e17, e18, e19, e20, e21, e22, e23, e24]) (by simp only [go_sem, ↓reduceIte, reduceCtorEq, Nat.reduceLT, Nat.reduceEqDiff, Nat.reduceBEq, Nat.reduceAdd, Nat.reduceSub, Nat.reduceMul, Nat.reduceLeDiff, Int.reduceLE, Int.reduceLT, Int.reduceNeg, Int.reduceEq, Int.reduceBEq, Int.reduceBNe, Int.reduceToNat]) (fun fn l hl => ?_) ?_
    · have nld : l ≠ bd := fun e => hl (.cells [u32 w.conf.window, i64 w.conf.people, i64 w.conf.box, i64 w.conf.used, i64 w.conf.runs, i64 w.conf.net, i64 w.conf.regs, CV.row (List.map eWord w.draws.list), i64 w.draws.next, i64 w.box.room, CV.row (List.map eSealed w.box.entries), i64 w.net.room, CV.row (List.map eGram w.net.grams), CV.row (List.map eSeen w.net.seen), CV.row (List.map ePerson w.people), CV.row (List.map eEvent w.log), CV.row (List.map eSeen w.regs), CV.row (List.map eLeak w.leaks), u32 me.name, u32 me.key, u32 me.clock, CV.row (List.map eWord me.used), CV.row (List.map eRun me.runs), bl me.corrupt, i64 run.proto, i64 run.role, u32 run.peer, u32 run.mine, u32 run.their, u32 run.m, u32 run.k, u32 run.t, i64 run.state]) (by rw [e]; simp)
      have nl7 : l ≠ b7 := fun e => hl (.cells [i64 0]) (by rw [e]; simp)
      have nl8 : l ≠ b8 := fun e => hl (.cells [u32 0]) (by rw [e]; simp)
      have nl9 : l ≠ b9 := fun e => hl (.cells [bl false]) (by rw [e]; simp)
      refine p15_nxt4 me.runs 2 (fun x => (openW w x.k 4 hd).2) l bd b7 b8 b9 [u32 w.conf.window, i64 w.conf.people, i64 w.conf.box, i64 w.conf.used, i64 w.conf.runs, i64 w.conf.net, i64 w.conf.regs, CV.row (List.map eWord w.draws.list), i64 w.draws.next, i64 w.box.room, CV.row (List.map eSealed w.box.entries), i64 w.net.room, CV.row (List.map eGram w.net.grams), CV.row (List.map eSeen w.net.seen), CV.row (List.map ePerson w.people), CV.row (List.map eEvent w.log), CV.row (List.map eSeen w.regs), CV.row (List.map eLeak w.leaks), u32 me.name, u32 me.key, u32 me.clock, CV.row (List.map eWord me.used), CV.row (List.map eRun me.runs), bl me.corrupt, i64 run.proto, i64 run.role, u32 run.peer, u32 run.mine, u32 run.their, u32 run.m, u32 run.k, u32 run.t, i64 run.state] _ _ (i64 0) (u32 0) (bl false) (fun k _ => i64 k) (fun _ x => u32 (openW w x.k 4 hd).1.n) (fun _ _ => bl true) hm nd7 nd8 nd9 n78 n79 n89 nld nl7 nl8 nl9 ?_ ?_ _ _ _ _ (.inr ⟨k, r, h1, h2, h3, rfl, rfl, rfl, rfl⟩)
      · intro k' x hx hk hq
        refine AYields.intro (jump := none) rfl rfl (fun oc h => hl oc h) ?_
        have co := c2 x.k
        clear hl c2 h1
        generalize openW w x.k 4 hd = o at *
        obtain ⟨pt, okk⟩ := o
        try simp only at hq
        subst hq
        simp only [eRun, List.zip_cons_cons, List.zip_nil_left, List.zip_nil_right, setP, setBs, OC.blk, CA.av, ePrt] at *
        repeat' (first
    | (refine hC ?_ ?_ ?_ ?_ ?_
       rotate_left
       · rfl
       · simp only [go_sem, ↓reduceIte, reduceCtorEq, Nat.reduceLT, Nat.reduceEqDiff, Nat.reduceBEq, Nat.reduceAdd, Nat.reduceSub, Nat.reduceMul, Nat.reduceLeDiff, Int.reduceLE, Int.reduceLT, Int.reduceNeg, Int.reduceEq, Int.reduceBEq, Int.reduceBNe, Int.reduceToNat, e1, e2, e3, e4, e5, e6, e7, e8, e9, e10, e11, e12, e13, e14, e15, e16, e17, e18, e19, e20, e21, e22, e23, e24]
       · simp only [go_sem, ↓reduceIte, reduceCtorEq, Nat.reduceLT, Nat.reduceEqDiff, Nat.reduceBEq, Nat.reduceAdd, Nat.reduceSub, Nat.reduceMul, Nat.reduceLeDiff, Int.reduceLE, Int.reduceLT, Int.reduceNeg, Int.reduceEq, Int.reduceBEq, Int.reduceBNe, Int.reduceToNat, e1, e2, e3, e4, e5, e6, e7, e8, e9, e10, e11, e12, e13, e14, e15, e16, e17, e18, e19, e20, e21, e22, e23, e24]
         first | (refine And.intro ?_ ?_; exact co; first | exact trivial | (simp only [go_sem, ↓reduceIte, reduceCtorEq, Nat.reduceLT, Nat.reduceEqDiff, Nat.reduceBEq, Nat.reduceAdd, Nat.reduceSub, Nat.reduceMul, Nat.reduceLeDiff, Int.reduceLE, Int.reduceLT, Int.reduceNeg, Int.reduceEq, Int.reduceBEq, Int.reduceBNe, Int.reduceToNat, e1, e2, e3, e4, e5, e6, e7, e8, e9, e10, e11, e12, e13, e14, e15, e16, e17, e18, e19, e20, e21, e22, e23, e24]; done)) | (refine And.intro (ACalls.args (k := ?_) ?_ ?_) ?_; rotate_left; exact co; repeat' (first | exact trivial | exact Or.inl ⟨rfl, rfl⟩ | exact Or.inr rfl | apply And.intro))
       simp only [go_sem, ↓reduceIte, reduceCtorEq, Nat.reduceLT, Nat.reduceEqDiff, Nat.reduceBEq, Nat.reduceAdd, Nat.reduceSub, Nat.reduceMul, Nat.reduceLeDiff, Int.reduceLE, Int.reduceLT, Int.reduceNeg, Int.reduceEq, Int.reduceBEq, Int.reduceBNe, Int.reduceToNat, e1, e2, e3, e4, e5, e6, e7, e8, e9, e10, e11, e12, e13, e14, e15, e16, e17, e18, e19, e20, e21, e22, e23, e24])
    | (refine hK _ _ ?_; clear hK hC; clear K C)
    | (refine hK _ _ rfl ?_; clear hK hC; clear K C)
    | (refine hK _ _ (by simp only [crs, crsI, alfO, alfL, Nat.reduceLT]; rfl) ?_; clear hK hC; clear K C)
    | (refine AW.seqR fun K C hK hC => ?_; simp only [go_sem, ↓reduceIte, reduceCtorEq, Nat.reduceLT, Nat.reduceEqDiff, Nat.reduceBEq, Nat.reduceAdd, Nat.reduceSub, Nat.reduceMul, Nat.reduceLeDiff, Int.reduceLE, Int.reduceLT, Int.reduceNeg, Int.reduceEq, Int.reduceBEq, Int.reduceBNe, Int.reduceToNat, e1, e2, e3, e4, e5, e6, e7, e8, e9, e10, e11, e12, e13, e14, e15, e16, e17, e18, e19, e20, e21, e22, e23, e24])
    | (refine AW.seqD rfl fun K C hK hC => ?_; simp only [go_sem, ↓reduceIte, reduceCtorEq, Nat.reduceLT, Nat.reduceEqDiff, Nat.reduceBEq, Nat.reduceAdd, Nat.reduceSub, Nat.reduceMul, Nat.reduceLeDiff, Int.reduceLE, Int.reduceLT, Int.reduceNeg, Int.reduceEq, Int.reduceBEq, Int.reduceBNe, Int.reduceToNat, e1, e2, e3, e4, e5, e6, e7, e8, e9, e10, e11, e12, e13, e14, e15, e16, e17, e18, e19, e20, e21, e22, e23, e24])
    | (refine AW.reg fun K C hK hC => ?_; simp only [go_sem, ↓reduceIte, reduceCtorEq, Nat.reduceLT, Nat.reduceEqDiff, Nat.reduceBEq, Nat.reduceAdd, Nat.reduceSub, Nat.reduceMul, Nat.reduceLeDiff, Int.reduceLE, Int.reduceLT, Int.reduceNeg, Int.reduceEq, Int.reduceBEq, Int.reduceBNe, Int.reduceToNat, e1, e2, e3, e4, e5, e6, e7, e8, e9, e10, e11, e12, e13, e14, e15, e16, e17, e18, e19, e20, e21, e22, e23, e24])
    | (refine AW.regD rfl fun K C hK hC => ?_; simp only [go_sem, ↓reduceIte, reduceCtorEq, Nat.reduceLT, Nat.reduceEqDiff, Nat.reduceBEq, Nat.reduceAdd, Nat.reduceSub, Nat.reduceMul, Nat.reduceLeDiff, Int.reduceLE, Int.reduceLT, Int.reduceNeg, Int.reduceEq, Int.reduceBEq, Int.reduceBNe, Int.reduceToNat, e1, e2, e3, e4, e5, e6, e7, e8, e9, e10, e11, e12, e13, e14, e15, e16, e17, e18, e19, e20, e21, e22, e23, e24])
    | refine AW.seqS ?_
    | (refine AW.ret ?_; simp only [go_sem, ↓reduceIte, reduceCtorEq, Nat.reduceLT, Nat.reduceEqDiff, Nat.reduceBEq, Nat.reduceAdd, Nat.reduceSub, Nat.reduceMul, Nat.reduceLeDiff, Int.reduceLE, Int.reduceLT, Int.reduceNeg, Int.reduceEq, Int.reduceBEq, Int.reduceBNe, Int.reduceToNat, e1, e2, e3, e4, e5, e6, e7, e8, e9, e10, e11, e12, e13, e14, e15, e16, e17, e18, e19, e20, e21, e22, e23, e24])
    | (refine AW.cond rfl (fun h => ?_) (fun h => ?_) <;> (try simp only [decide_eq_true_eq, decide_eq_false_iff_not, bne_iff_ne, beq_iff_eq, bne_eq_false_iff_eq, beq_eq_false_iff_ne, ne_eq, ge_iff_le, gt_iff_lt, Bool.not_eq_true, Bool.not_eq_false, Bool.not_not, Bool.not_true, Bool.not_false, Int.not_le, Int.not_lt, not_true_eq_false, not_false_eq_true, reduceCtorEq, Bool.false_eq_true, Bool.not_eq_true', Bool.not_eq_false'] at h) <;> first | (exfalso; omega) | skip)
    | refine AW.skip ?_
    | refine AW.seq ?_
    | refine AW.block ?_
    | (refine AW.exit ?_; simp only [go_sem, ↓reduceIte, reduceCtorEq, Nat.reduceLT, Nat.reduceEqDiff, Nat.reduceBEq, Nat.reduceAdd, Nat.reduceSub, Nat.reduceMul, Nat.reduceLeDiff, Int.reduceLE, Int.reduceLT, Int.reduceNeg, Int.reduceEq, Int.reduceBEq, Int.reduceBNe, Int.reduceToNat, e1, e2, e3, e4, e5, e6, e7, e8, e9, e10, e11, e12, e13, e14, e15, e16, e17, e18, e19, e20, e21, e22, e23, e24])
    | (refine ite_on (fun h => ?_) (fun h => ?_) <;> (try simp only [decide_eq_true_eq, decide_eq_false_iff_not, bne_iff_ne, beq_iff_eq, bne_eq_false_iff_eq, beq_eq_false_iff_ne, ne_eq, ge_iff_le, gt_iff_lt, Bool.not_eq_true, Bool.not_eq_false, Bool.not_not, Bool.not_true, Bool.not_false, Int.not_le, Int.not_lt, not_true_eq_false, not_false_eq_true, reduceCtorEq, Bool.false_eq_true, Bool.not_eq_true', Bool.not_eq_false'] at h) <;> first | (exfalso; omega) | skip)
    | rw [thenN]
    | rw [blockN]
    | rw [scopeN]
    | refine AW.scope ?_
    | refine AW.label ?_
    | refine And.intro ?_ ?_
    | refine lcons rfl ?_
    | exact lGram _
    | exact lSeen _
    | exact lWord _
    | exact lSealed _
    | exact lRun _
    | exact lPerson _
    | exact lEvent _
    | exact lLeak _
    | exact lNum _
    | exact lOprn _
    | exact in64 (by omega) (by omega)
    | exact in32 (by omega) (by omega)
    | omega)
        all_goals (try simp only [go_sem, ↓reduceIte, reduceCtorEq, Nat.reduceLT, Nat.reduceEqDiff, Nat.reduceBEq, Nat.reduceAdd, Nat.reduceSub, Nat.reduceMul, Nat.reduceLeDiff, Int.reduceLE, Int.reduceLT, Int.reduceNeg, Int.reduceEq, Int.reduceBEq, Int.reduceBNe, Int.reduceToNat, e1, e2, e3, e4, e5, e6, e7, e8, e9, e10, e11, e12, e13, e14, e15, e16, e17, e18, e19, e20, e21, e22, e23, e24])
      · intro k' x hx hk hq
        refine AYields.intro (jump := some (.exit 0)) rfl rfl (fun oc h => hl oc h) ?_
        have co := c2 x.k
        clear hl c2 h1
        generalize openW w x.k 4 hd = o at *
        obtain ⟨pt, okk⟩ := o
        try simp only at hq
        subst hq
        simp only [eRun, List.zip_cons_cons, List.zip_nil_left, List.zip_nil_right, setP, setBs, OC.blk, CA.av, ePrt] at *
        refine wk0 (And.intro e1 (And.intro e2 (And.intro e3 (And.intro e4 (And.intro e5 (And.intro e6 (And.intro e7 (And.intro e8 (And.intro e9 (And.intro e10 (And.intro e11 (And.intro e12 (And.intro e13 (And.intro e14 (And.intro e15 (And.intro e16 (And.intro e17 (And.intro e18 (And.intro e19 (And.intro e20 (And.intro e21 (And.intro e22 (And.intro e23 e24))))))))))))))))))))))) co trivial
        all_goals (try simp only [go_sem, ↓reduceIte, reduceCtorEq, Nat.reduceLT, Nat.reduceEqDiff, Nat.reduceBEq, Nat.reduceAdd, Nat.reduceSub, Nat.reduceMul, Nat.reduceLeDiff, Int.reduceLE, Int.reduceLT, Int.reduceNeg, Int.reduceEq, Int.reduceBEq, Int.reduceBNe, Int.reduceToNat, e1, e2, e3, e4, e5, e6, e7, e8, e9, e10, e11, e12, e13, e14, e15, e16, e17, e18, e19, e20, e21, e22, e23, e24])
    · simp only [setBs, OC.blk]
      refine wk0 (And.intro e1 (And.intro e2 (And.intro e3 (And.intro e4 (And.intro e5 (And.intro e6 (And.intro e7 (And.intro e8 (And.intro e9 (And.intro e10 (And.intro e11 (And.intro e12 (And.intro e13 (And.intro e14 (And.intro e15 (And.intro e16 (And.intro e17 (And.intro e18 (And.intro e19 (And.intro e20 (And.intro e21 (And.intro e22 (And.intro e23 e24))))))))))))))))))))))) trivial trivial
      all_goals (try simp only [go_sem, ↓reduceIte, reduceCtorEq, Nat.reduceLT, Nat.reduceEqDiff, Nat.reduceBEq, Nat.reduceAdd, Nat.reduceSub, Nat.reduceMul, Nat.reduceLeDiff, Int.reduceLE, Int.reduceLT, Int.reduceNeg, Int.reduceEq, Int.reduceBEq, Int.reduceBNe, Int.reduceToNat, e1, e2, e3, e4, e5, e6, e7, e8, e9, e10, e11, e12, e13, e14, e15, e16, e17, e18, e19, e20, e21, e22, e23, e24])
end Go.Proofs.YtpbgmfgmnnclaaaGreatDoor.Abs
end
section
/- The landed nsa, over values without addresses: an echo is taken. -/
set_option linter.unusedSimpArgs false
set_option linter.unusedVariables false
set_option maxRecDepth 100000
namespace Go.Proofs.YtpbgmfgmnnclaaaGreatDoor.Abs
open Go.RowKit
def echoR (r : Run) (n : Int) : Run := { r with their := n, state := 3 }
def echoU (w : Wld) (me : Int) (e : Prt) (i : Nat) (r : Run) : Wld := logW (withW (backN w r e).1 { personW w me with runs := (personW w me).runs.set i (echoR r e.n) }) ⟨4, 1, 1, (personW w me).name, r.peer, r.k, r.t, 0, e.n, (personW w me).clock⟩
theorem runsN_kind (w : Wld) (m : Mssg) (r : Run) : (isKind 1 1 2 r && (openW w r.k 4 m.box).2) = runsN w m r := by
  unfold isKind runsN
  simp only [Bool.and_assoc]
set_option maxHeartbeats 16000000 in
theorem p15_hear (w : Wld) (me : Int) (m : Mssg) (h : Good 10 w) (h1 : 1 ≤ me) (h2 : me < (w.people.length : Int)) : ∃ D : Deed, ((echoNW w me m).2 = 0 → (echoNW w me m).1 = D.w) ∧ ∀ bb, ACalls Tryz.prog 52 [.one (rawV bb 0), .one (u32 m.box)]
    (.bx [(bb, .cells (eDeed ⟨w, personW w me, run0⟩))] [(bb, .cells (eDeed D))] [.one (i64 (echoNW w me m).2)]) := by
  have hp := h.person me
  unfold echoNW
  have c2 := fun bb => p15_echoed bb ⟨w, personW w me, run0⟩ m.box (by show (personW w me).runs.length < 1000000; omega) h.box
  rcases idx_or (personW w me).runs (runsN w m) with ⟨hn, ha⟩ | ⟨i, r, hf, hi, hx, hw, ha⟩
  · simp only [hn]
    refine ⟨⟨w, personW w me, run0⟩, fun _ => rfl, fun bb => ?_⟩
    have c2' := c2 bb 0 0 false (.inl ⟨fun i x hx => (runsN_kind w m x).trans (ha i x hx), rfl, rfl, rfl⟩)
    clear c2 ha hn h hp
    refine ACalls.introX (fn := Tryz.f52) Tryz.func52 rfl rfl (by simp [Tryz.f52]) ?_
    generalize personW w me = P at *
    unfold Tryz.f52
    simp only [rawV, insOf, setBs, eDeed, run0, eWld, ePerson, ePrt, eSealeds, eGrams, ePeople, eEvents, eRows, eWords, eLeaks, eRuns, rB, rI] at *
    refine wk0 trivial c2' trivial
    all_goals (try simp only [go_sem, ↓reduceIte, reduceCtorEq, Nat.reduceLT, Nat.reduceEqDiff, Nat.reduceBEq, Nat.reduceAdd, Nat.reduceSub, Nat.reduceMul, Nat.reduceLeDiff, Int.reduceLE, Int.reduceLT, Int.reduceNeg, Int.reduceEq, Int.reduceBEq, Int.reduceBNe, Int.reduceToNat])
  simp only [hf, hi]
  have hlt : i < (personW w me).runs.length := (List.getElem?_eq_some_iff.1 hx).1
  have c2' := fun bb => c2 bb (i : Int) (openW w r.k 4 m.box).1.n true (.inr ⟨i, r, hx, (runsN_kind w m r).trans hw, fun j x hj hx => (runsN_kind w m x).trans (ha j x hj hx), rfl, rfl, rfl⟩)
  clear c2 ha hf hi
  generalize hee : (openW w r.k 4 m.box).1 = e at *
  have c3 := fun bb => p15_isFresh bb ⟨w, personW w me, r⟩ r.t
  simp only at c3
  cases hfr : freshI (personW w me).clock r.t w.conf.window
  · refine ⟨⟨w, personW w me, r⟩, fun _ => rfl, fun bb => ?_⟩
    rw [if_pos rfl]
    have c2 := c2' bb
    have c3 := c3 bb
    rw [hfr] at c3
    clear c2' hfr h hp hw hee
    refine ACalls.introX (fn := Tryz.f52) Tryz.func52 rfl rfl (by simp [Tryz.f52]) ?_
    generalize personW w me = P at *
    unfold Tryz.f52
    simp only [rawV, insOf, setBs, eDeed, run0, eWld, ePerson, ePrt, eSealeds, eGrams, ePeople, eEvents, eRows, eWords, eLeaks, eRuns, eRun.eq_1 r, rB, rI] at *
    refine wk0 (And.intro hx (And.intro hlt (eRun.eq_1 r))) (And.intro c2 c3) trivial
    all_goals (try simp only [go_sem, ↓reduceIte, reduceCtorEq, Nat.reduceLT, Nat.reduceEqDiff, Nat.reduceBEq, Nat.reduceAdd, Nat.reduceSub, Nat.reduceMul, Nat.reduceLeDiff, Int.reduceLE, Int.reduceLT, Int.reduceNeg, Int.reduceEq, Int.reduceBEq, Int.reduceBNe, Int.reduceToNat])
  rw [if_neg (by decide)]
  rw [hfr] at c3
  have c4 := p12_room w 1 1 h.box h.net
  cases hrm : roomW w 1 1
  · refine ⟨⟨w, personW w me, r⟩, fun _ => rfl, fun bb => ?_⟩
    rw [if_pos rfl]
    have c2 := c2' bb
    have c3 := c3 bb
    rw [hrm] at c4
    clear c2' hfr h hp hw hrm hee
    refine ACalls.introX (fn := Tryz.f52) Tryz.func52 rfl rfl (by simp [Tryz.f52]) ?_
    generalize personW w me = P at *
    unfold Tryz.f52
    simp only [rawV, insOf, setBs, eDeed, run0, eWld, ePerson, ePrt, eSealeds, eGrams, ePeople, eEvents, eRows, eWords, eLeaks, eRuns, eRun.eq_1 r, rB, rI] at *
    refine wk0 (And.intro hx (And.intro hlt (eRun.eq_1 r))) (And.intro c2 (And.intro c3 c4)) trivial
    all_goals (try simp only [go_sem, ↓reduceIte, reduceCtorEq, Nat.reduceLT, Nat.reduceEqDiff, Nat.reduceBEq, Nat.reduceAdd, Nat.reduceSub, Nat.reduceMul, Nat.reduceLeDiff, Int.reduceLE, Int.reduceLT, Int.reduceNeg, Int.reduceEq, Int.reduceBEq, Int.reduceBNe, Int.reduceToNat])
  rw [if_neg (by decide)]
  rw [hrm] at c4
  have c5 := p12_seal w r.k 5 ⟨e.n, 0, 0, 0, 0, 0, 0⟩ h.small.small h.box
  rw [show sealW w r.k 5 ⟨e.n, 0, 0, 0, 0, 0, 0⟩ = backN w r e from rfl] at c5
  by_cases hz : (backN w r e).2.2 = 0
  rotate_left
  · refine ⟨⟨w, personW w me, r⟩, fun _ => ?_, fun bb => ?_⟩
    · rw [if_pos hz]
    rw [if_pos hz]
    have hz' : ((backN w r e).2.2 != 0) = true := by simp [hz]
    have c2 := c2' bb
    have c3 := c3 bb
    clear c2' hfr h hp hw hrm hee hz
    refine ACalls.introX (fn := Tryz.f52) Tryz.func52 rfl rfl (by simp [Tryz.f52]) ?_
    generalize backN w r e = v at *
    generalize personW w me = P at *
    unfold Tryz.f52
    simp only [rawV, insOf, setBs, eDeed, run0, eWld, ePerson, ePrt, eSealeds, eGrams, ePeople, eEvents, eRows, eWords, eLeaks, eRuns, eRun.eq_1 r, rB, rI] at *
    refine wk0 (And.intro hx (And.intro hlt (And.intro (eRun.eq_1 r) hz'))) (And.intro c2 (And.intro c3 (And.intro c4 c5))) trivial
    all_goals (try simp only [go_sem, ↓reduceIte, reduceCtorEq, Nat.reduceLT, Nat.reduceEqDiff, Nat.reduceBEq, Nat.reduceAdd, Nat.reduceSub, Nat.reduceMul, Nat.reduceLeDiff, Int.reduceLE, Int.reduceLT, Int.reduceNeg, Int.reduceEq, Int.reduceBEq, Int.reduceBNe, Int.reduceToNat])
  rw [if_neg (by rw [hz]; decide)]
  obtain ⟨j, p, e1, e2, e3, e4⟩ := person_at h.ppl (n := me) (by omega) h2
  have hname : (personW w me).name = me := by rw [e3, e4, e1]
  have hmay : runMay (echoR r e.n) = true := by
    simp only [runsN, Bool.and_eq_true, beq_iff_eq] at hw
    unfold echoR runMay
    simp [hw.1, hw.2.1]
  have hpp : ((personW w me).used.length + 9 ≤ 1000) ∧ ((personW w me).runs.set i (echoR r e.n)).length + 9 ≤ 1000 := ⟨by omega, by rw [List.length_set]; omega⟩
  have g1 : Good 9 (backN w r e).1 := h.sealS _ _ _
  have g2 : Good 9 (withW (backN w r e).1 { personW w me with runs := (personW w me).runs.set i (echoR r e.n) }) := g1.with_ _ hpp
  have g3 : Good 8 (echoU w me e i r) := g2.log_ _
  have hnet : ¬ (echoU w me e i r).net.room ≤ ((echoU w me e i r).net.grams.length : Int) := by
    rw [show (echoU w me e i r).net = w.net from (withW_net (backN w r e).1 _).1.trans (sealW_rest _ _ _ _).2.2.1]
    have := (roomW_iff hrm).2; omega
  have hsend := send_room (w := echoU w me e i r) (t := r.peer) (m := ⟨5, 0, 0, 0, 0, (backN w r e).2.1, 0⟩) (by unfold mayM; rfl) hnet
  have hres : echoedW w me e i r = sentW (echoU w me e i r) r.peer ⟨5, 0, 0, 0, 0, (backN w r e).2.1, 0⟩ := by
    unfold echoU
    rw [show (⟨4, 1, 1, (personW w me).name, r.peer, r.k, r.t, 0, e.n, (personW w me).clock⟩ : Event) = ⟨4, 1, 1, me, r.peer, r.k, r.t, 0, e.n, (personW w me).clock⟩ from by rw [hname]]
    rfl
  rw [hres]
  refine ⟨⟨sentW (echoU w me e i r) r.peer ⟨5, 0, 0, 0, 0, (backN w r e).2.1, 0⟩, { personW w me with runs := (personW w me).runs.set i (echoR r e.n) }, echoR r e.n⟩, fun _ => rfl, fun bb => ?_⟩
  have c2 := c2' bb
  have c3 := c3 bb
  have c6 := p15_keep bb ⟨(backN w r e).1, personW w me, echoR r e.n⟩ i hlt hmay (by show (personW w me).runs.length < 1000000; omega)
  have c7 := p15_note bb ⟨(backN w r e).1, { personW w me with runs := (personW w me).runs.set i (echoR r e.n) }, echoR r e.n⟩ 4 e.n (echoU w me e i r) (by rfl) ⟨by show (personW w me).used.length ≤ 1000000; omega, by show ((personW w me).runs.set i (echoR r e.n)).length ≤ 1000000; omega⟩ g1.ppl g2.small.small.log
  have c8 := p15_send bb ⟨echoU w me e i r, { personW w me with runs := (personW w me).runs.set i (echoR r e.n) }, echoR r e.n⟩ r.peer ⟨5, 0, 0, 0, 0, (backN w r e).2.1, 0⟩ _ _ hsend g3.net g3.small.small.grams g3.small.small.seen
  rw [hz] at c5
  clear c2' hsend hres hnet g1 g2 g3 hpp hname e1 e2 e3 e4 hmay hfr hrm hw h hp hz
  simp only at c6 c7 c8
  generalize sentW (echoU w me e i r) r.peer ⟨5, 0, 0, 0, 0, (backN w r e).2.1, 0⟩ = z at *
  generalize echoU w me e i r = u at *
  generalize hv : backN w r e = v at *
  generalize hL : (personW w me).runs.set i (echoR r e.n) = L at *
  clear hL hv hee
  generalize personW w me = P at *
  refine ACalls.introX (fn := Tryz.f52) Tryz.func52 rfl rfl (by simp [Tryz.f52]) ?_
  unfold Tryz.f52
  simp only [rawV, insOf, setBs, eDeed, echoR, run0, eWld, ePerson, eMssg, ePrt, eSealeds, eGrams, ePeople, eEvents, eRows, eWords, eLeaks, eRuns, eRun.eq_1 r, rB, rI] at *
  refine wk0 (And.intro hx (And.intro hlt (eRun.eq_1 r))) (And.intro c2 (And.intro c3 (And.intro c4 (And.intro c5 (And.intro c6 (And.intro c7 c8)))))) trivial
  all_goals (try simp only [go_sem, ↓reduceIte, reduceCtorEq, Nat.reduceLT, Nat.reduceEqDiff, Nat.reduceBEq, Nat.reduceAdd, Nat.reduceSub, Nat.reduceMul, Nat.reduceLeDiff, Int.reduceLE, Int.reduceLT, Int.reduceNeg, Int.reduceEq, Int.reduceBEq, Int.reduceBNe, Int.reduceToNat])
end Go.Proofs.YtpbgmfgmnnclaaaGreatDoor.Abs
end
section
/- The landed nsa, over values without addresses: Start, Grant, Echo. -/
set_option linter.unusedSimpArgs false
set_option linter.unusedVariables false
set_option maxRecDepth 100000
namespace Go.Proofs.YtpbgmfgmnnclaaaGreatDoor.Abs
open Go.RowKit
set_option maxHeartbeats 8000000 in
theorem p15_start (w : Wld) (a b : Int) (hf : formW w = true) (h : SmallN 10 w) : ACalls Tryz.prog 11 [.agg (eWld w), .one (u32 a), .one (u32 b)] (.tup [.agg (eWld (startNW w a b).1), .one (i64 (startNW w a b).2)]) := by
  refine ACalls.intro (fn := Tryz.f11) Tryz.func11 rfl rfl (by simp [Tryz.f11]) ?_
  have hg := Good.of hf h (by decide)
  have hp := hg.person a
  have c1 := p12_person w a ⟨by omega, by omega⟩ hg.ppl
  obtain ⟨E, hE, c3⟩ := p15_begin w a b hg
  obtain ⟨v, q, hvq⟩ : ∃ v q, startNW w a b = (v, q) := ⟨_, _, rfl⟩
  have hgo : (q ≠ 0 ∧ v = w) ∨ (q = 0 ∧ v = E.w) := by
    by_cases hz : q = 0
    · refine .inr ⟨hz, ?_⟩
      have := hE (by rw [hvq]; exact hz)
      rw [hvq] at this
      exact this
    · refine .inl ⟨hz, ?_⟩
      have := startNW_err (w := w) (a := a) (b := b) (by rw [hvq]; exact hz)
      rw [hvq] at this
      exact this
  rw [hvq] at c3 ⊢
  clear hvq hE hg hp hf h
  simp only at c3 ⊢
  unfold Tryz.f11
  generalize personW w a = P at *
  simp only [eWld, eMssg, ePerson, eDeed, run0, eSealeds, eGrams, ePeople, eEvents, eRows, eWords, eLeaks, eRuns, rI, rawV] at *
  refine wk1 trivial c1 (@AW.halt 2) _ ?_
  all_goals (repeat intro h)
  all_goals refine ⟨?_⟩
  refine AWs.mk (AW.name 15 rfl ?_ ?_ fun bb hb => ?_)
  · simp only [go_sem, ↓reduceIte, reduceCtorEq, Nat.reduceLT, Nat.reduceEqDiff, Nat.reduceBEq, Nat.reduceAdd, Nat.reduceSub, Nat.reduceMul, Nat.reduceLeDiff, Int.reduceLE, Int.reduceLT, Int.reduceNeg, Int.reduceEq, Int.reduceBEq, Int.reduceBNe, Int.reduceToNat]
  · intro b; simp only [go_sem, ↓reduceIte, reduceCtorEq, Nat.reduceLT, Nat.reduceEqDiff, Nat.reduceBEq, Nat.reduceAdd, Nat.reduceSub, Nat.reduceMul, Nat.reduceLeDiff, Int.reduceLE, Int.reduceLT, Int.reduceNeg, Int.reduceEq, Int.reduceBEq, Int.reduceBNe, Int.reduceToNat]
  clear hb
  refine AW.lessW ⟨28, (upd (upd (upd (upd (upd (upd (fun _ => .junk) 1 (.one (.c (u32 a)))) 2 (.one (.c (u32 b)))) 3 (.one (.ptr 3 0))) 6 (.one (.ptr 6 0))) 7 (.one (.c (i64 0)))) 8 (.one (.c (rawV bb 0)))), (upd (upd (upd (fun _ => none) 3 (some (.box [A.c (u32 w.conf.window), A.c (i64 w.conf.people), A.c (i64 w.conf.box), A.c (i64 w.conf.used), A.c (i64 w.conf.runs), A.c (i64 w.conf.net), A.c (i64 w.conf.regs), A.c (CV.row (List.map eWord w.draws.list)), A.c (i64 w.draws.next), A.c (i64 w.box.room), A.c (CV.row (List.map eSealed w.box.entries)), A.c (i64 w.net.room), A.c (CV.row (List.map eGram w.net.grams)), A.c (CV.row (List.map eSeen w.net.seen)), A.c (CV.row (List.map ePerson w.people)), A.c (CV.row (List.map eEvent w.log)), A.c (CV.row (List.map eSeen w.regs)), A.c (CV.row (List.map eLeak w.leaks))]))) 6 (some (.box [A.c (u32 0), A.c (i64 0), A.c (i64 0), A.c (i64 0), A.c (i64 0), A.c (i64 0), A.c (i64 0), A.nil, A.c (i64 0), A.c (i64 0), A.nil, A.c (i64 0), A.nil, A.nil, A.nil, A.nil, A.nil, A.nil]))) (1000000+bb) (some (.obox [(u32 w.conf.window), (i64 w.conf.people), (i64 w.conf.box), (i64 w.conf.used), (i64 w.conf.runs), (i64 w.conf.net), (i64 w.conf.regs), (CV.row (List.map eWord w.draws.list)), (i64 w.draws.next), (i64 w.box.room), (CV.row (List.map eSealed w.box.entries)), (i64 w.net.room), (CV.row (List.map eGram w.net.grams)), (CV.row (List.map eSeen w.net.seen)), (CV.row (List.map ePerson w.people)), (CV.row (List.map eEvent w.log)), (CV.row (List.map eSeen w.regs)), (CV.row (List.map eLeak w.leaks)), u32 P.name, u32 P.key, u32 P.clock, CV.row (List.map eWord P.used), CV.row (List.map eRun P.runs), bl P.corrupt, i64 0, i64 0, u32 0, u32 0, u32 0, u32 0, u32 0, u32 0, i64 0])))⟩ (by exact lz trivial) ?_
  have c4 := c3 bb
  clear c1 c3
  simp only [rawV] at *
  rcases hgo with ⟨hz, rfl⟩ | ⟨hz, rfl⟩
  · have hz' : (q != 0) = true := by simp [hz]
    refine wk0 hz' c4 trivial
  · subst hz
    refine wk0 trivial c4 trivial
set_option maxHeartbeats 8000000 in
theorem p15_grant (w : Wld) (me : Int) (m : Mssg) (hf : formW w = true) (h : SmallN 10 w) (h1 : 1 ≤ me) (h2 : me < (w.people.length : Int)) (hk : m.kind = 2) (hm : mayM m = true) : ACalls Tryz.prog 15 [.agg (eWld w), .one (u32 me), .agg (eMssg m)] (.tup [.agg (eWld (grantNW w me m).1), .one (i64 (grantNW w me m).2)]) := by
  refine ACalls.intro (fn := Tryz.f15) Tryz.func15 rfl rfl (by simp [Tryz.f15]) ?_
  have hg := Good.of hf h (by decide)
  have hp := hg.person me
  have c1 := p12_person w me ⟨by omega, by omega⟩ hg.ppl
  obtain ⟨E, hE, c3⟩ := p15_take w me m hg h1 h2
  obtain ⟨v, q, hvq⟩ : ∃ v q, grantNW w me m = (v, q) := ⟨_, _, rfl⟩
  have hgo : (q ≠ 0 ∧ v = w) ∨ (q = 0 ∧ v = E.w) := by
    by_cases hz : q = 0
    · refine .inr ⟨hz, ?_⟩
      have := hE (by rw [hvq]; exact hz)
      rw [hvq] at this
      exact this
    · refine .inl ⟨hz, ?_⟩
      have := grantNW_err (w := w) (me := me) (m := m) (by rw [hvq]; exact hz)
      rw [hvq] at this
      exact this
  rw [hvq] at c3 ⊢
  clear hvq hE hg hp hf h h1 h2 hk hm
  simp only at c3 ⊢
  unfold Tryz.f15
  generalize personW w me = P at *
  simp only [eWld, eMssg, ePerson, eDeed, run0, eSealeds, eGrams, ePeople, eEvents, eRows, eWords, eLeaks, eRuns, rI, rawV] at *
  refine wk1 trivial c1 (@AW.halt 2) _ ?_
  all_goals (repeat intro h)
  all_goals refine ⟨?_⟩
  refine AWs.mk (AW.name 15 rfl ?_ ?_ fun bb hb => ?_)
  · simp only [go_sem, ↓reduceIte, reduceCtorEq, Nat.reduceLT, Nat.reduceEqDiff, Nat.reduceBEq, Nat.reduceAdd, Nat.reduceSub, Nat.reduceMul, Nat.reduceLeDiff, Int.reduceLE, Int.reduceLT, Int.reduceNeg, Int.reduceEq, Int.reduceBEq, Int.reduceBNe, Int.reduceToNat]
  · intro b; simp only [go_sem, ↓reduceIte, reduceCtorEq, Nat.reduceLT, Nat.reduceEqDiff, Nat.reduceBEq, Nat.reduceAdd, Nat.reduceSub, Nat.reduceMul, Nat.reduceLeDiff, Int.reduceLE, Int.reduceLT, Int.reduceNeg, Int.reduceEq, Int.reduceBEq, Int.reduceBNe, Int.reduceToNat]
  clear hb
  refine AW.lessW ⟨28, (upd (upd (upd (upd (upd (fun _ => .junk) 3 (.one (.ptr 3 0))) 5 (.one (.ptr 5 0))) 6 (.one (.ptr 6 0))) 7 (.one (.c (i64 0)))) 8 (.one (.c (rawV bb 0)))), (upd (upd (upd (upd (fun _ => none) 3 (some (.box [A.c (u32 w.conf.window), A.c (i64 w.conf.people), A.c (i64 w.conf.box), A.c (i64 w.conf.used), A.c (i64 w.conf.runs), A.c (i64 w.conf.net), A.c (i64 w.conf.regs), A.c (CV.row (List.map eWord w.draws.list)), A.c (i64 w.draws.next), A.c (i64 w.box.room), A.c (CV.row (List.map eSealed w.box.entries)), A.c (i64 w.net.room), A.c (CV.row (List.map eGram w.net.grams)), A.c (CV.row (List.map eSeen w.net.seen)), A.c (CV.row (List.map ePerson w.people)), A.c (CV.row (List.map eEvent w.log)), A.c (CV.row (List.map eSeen w.regs)), A.c (CV.row (List.map eLeak w.leaks))]))) 5 (some (.box [A.c (u32 m.kind), A.c (u32 m.run), A.c (u32 m.a), A.c (u32 m.b), A.c (u32 m.nonce), A.c (u32 m.box), A.c (u32 m.more)]))) 6 (some (.box [A.c (u32 0), A.c (i64 0), A.c (i64 0), A.c (i64 0), A.c (i64 0), A.c (i64 0), A.c (i64 0), A.nil, A.c (i64 0), A.c (i64 0), A.nil, A.c (i64 0), A.nil, A.nil, A.nil, A.nil, A.nil, A.nil]))) (1000000+bb) (some (.obox [(u32 w.conf.window), (i64 w.conf.people), (i64 w.conf.box), (i64 w.conf.used), (i64 w.conf.runs), (i64 w.conf.net), (i64 w.conf.regs), (CV.row (List.map eWord w.draws.list)), (i64 w.draws.next), (i64 w.box.room), (CV.row (List.map eSealed w.box.entries)), (i64 w.net.room), (CV.row (List.map eGram w.net.grams)), (CV.row (List.map eSeen w.net.seen)), (CV.row (List.map ePerson w.people)), (CV.row (List.map eEvent w.log)), (CV.row (List.map eSeen w.regs)), (CV.row (List.map eLeak w.leaks)), u32 P.name, u32 P.key, u32 P.clock, CV.row (List.map eWord P.used), CV.row (List.map eRun P.runs), bl P.corrupt, i64 0, i64 0, u32 0, u32 0, u32 0, u32 0, u32 0, u32 0, i64 0])))⟩ (by exact lz trivial) ?_
  have c4 := c3 bb
  clear c1 c3
  simp only [rawV] at *
  rcases hgo with ⟨hz, rfl⟩ | ⟨hz, rfl⟩
  · have hz' : (q != 0) = true := by simp [hz]
    refine wk0 hz' c4 trivial
  · subst hz
    refine wk0 trivial c4 trivial
set_option maxHeartbeats 8000000 in
theorem p15_echo (w : Wld) (me : Int) (m : Mssg) (hf : formW w = true) (h : SmallN 10 w) (h1 : 1 ≤ me) (h2 : me < (w.people.length : Int)) (hk : m.kind = 4) (hm : mayM m = true) : ACalls Tryz.prog 17 [.agg (eWld w), .one (u32 me), .agg (eMssg m)] (.tup [.agg (eWld (echoNW w me m).1), .one (i64 (echoNW w me m).2)]) := by
  refine ACalls.intro (fn := Tryz.f17) Tryz.func17 rfl rfl (by simp [Tryz.f17]) ?_
  have hg := Good.of hf h (by decide)
  have hp := hg.person me
  have c1 := p12_person w me ⟨by omega, by omega⟩ hg.ppl
  obtain ⟨E, hE, c3⟩ := p15_hear w me m hg h1 h2
  obtain ⟨v, q, hvq⟩ : ∃ v q, echoNW w me m = (v, q) := ⟨_, _, rfl⟩
  have hgo : (q ≠ 0 ∧ v = w) ∨ (q = 0 ∧ v = E.w) := by
    by_cases hz : q = 0
    · refine .inr ⟨hz, ?_⟩
      have := hE (by rw [hvq]; exact hz)
      rw [hvq] at this
      exact this
    · refine .inl ⟨hz, ?_⟩
      have := echoNW_err (w := w) (me := me) (m := m) (by rw [hvq]; exact hz)
      rw [hvq] at this
      exact this
  rw [hvq] at c3 ⊢
  clear hvq hE hg hp hf h h1 h2 hk hm
  simp only at c3 ⊢
  unfold Tryz.f17
  generalize personW w me = P at *
  simp only [eWld, eMssg, ePerson, eDeed, run0, eSealeds, eGrams, ePeople, eEvents, eRows, eWords, eLeaks, eRuns, rI, rawV] at *
  refine wk1 trivial c1 (@AW.halt 2) _ ?_
  all_goals (repeat intro h)
  all_goals refine ⟨?_⟩
  refine AWs.mk (AW.name 15 rfl ?_ ?_ fun bb hb => ?_)
  · simp only [go_sem, ↓reduceIte, reduceCtorEq, Nat.reduceLT, Nat.reduceEqDiff, Nat.reduceBEq, Nat.reduceAdd, Nat.reduceSub, Nat.reduceMul, Nat.reduceLeDiff, Int.reduceLE, Int.reduceLT, Int.reduceNeg, Int.reduceEq, Int.reduceBEq, Int.reduceBNe, Int.reduceToNat]
  · intro b; simp only [go_sem, ↓reduceIte, reduceCtorEq, Nat.reduceLT, Nat.reduceEqDiff, Nat.reduceBEq, Nat.reduceAdd, Nat.reduceSub, Nat.reduceMul, Nat.reduceLeDiff, Int.reduceLE, Int.reduceLT, Int.reduceNeg, Int.reduceEq, Int.reduceBEq, Int.reduceBNe, Int.reduceToNat]
  clear hb
  refine AW.lessW ⟨28, (upd (upd (upd (upd (upd (fun _ => .junk) 3 (.one (.ptr 3 0))) 5 (.one (.ptr 5 0))) 6 (.one (.ptr 6 0))) 7 (.one (.c (i64 0)))) 8 (.one (.c (rawV bb 0)))), (upd (upd (upd (upd (fun _ => none) 3 (some (.box [A.c (u32 w.conf.window), A.c (i64 w.conf.people), A.c (i64 w.conf.box), A.c (i64 w.conf.used), A.c (i64 w.conf.runs), A.c (i64 w.conf.net), A.c (i64 w.conf.regs), A.c (CV.row (List.map eWord w.draws.list)), A.c (i64 w.draws.next), A.c (i64 w.box.room), A.c (CV.row (List.map eSealed w.box.entries)), A.c (i64 w.net.room), A.c (CV.row (List.map eGram w.net.grams)), A.c (CV.row (List.map eSeen w.net.seen)), A.c (CV.row (List.map ePerson w.people)), A.c (CV.row (List.map eEvent w.log)), A.c (CV.row (List.map eSeen w.regs)), A.c (CV.row (List.map eLeak w.leaks))]))) 5 (some (.box [A.c (u32 m.kind), A.c (u32 m.run), A.c (u32 m.a), A.c (u32 m.b), A.c (u32 m.nonce), A.c (u32 m.box), A.c (u32 m.more)]))) 6 (some (.box [A.c (u32 0), A.c (i64 0), A.c (i64 0), A.c (i64 0), A.c (i64 0), A.c (i64 0), A.c (i64 0), A.nil, A.c (i64 0), A.c (i64 0), A.nil, A.c (i64 0), A.nil, A.nil, A.nil, A.nil, A.nil, A.nil]))) (1000000+bb) (some (.obox [(u32 w.conf.window), (i64 w.conf.people), (i64 w.conf.box), (i64 w.conf.used), (i64 w.conf.runs), (i64 w.conf.net), (i64 w.conf.regs), (CV.row (List.map eWord w.draws.list)), (i64 w.draws.next), (i64 w.box.room), (CV.row (List.map eSealed w.box.entries)), (i64 w.net.room), (CV.row (List.map eGram w.net.grams)), (CV.row (List.map eSeen w.net.seen)), (CV.row (List.map ePerson w.people)), (CV.row (List.map eEvent w.log)), (CV.row (List.map eSeen w.regs)), (CV.row (List.map eLeak w.leaks)), u32 P.name, u32 P.key, u32 P.clock, CV.row (List.map eWord P.used), CV.row (List.map eRun P.runs), bl P.corrupt, i64 0, i64 0, u32 0, u32 0, u32 0, u32 0, u32 0, u32 0, i64 0])))⟩ (by exact lz trivial) ?_
  have c4 := c3 bb
  clear c1 c3
  simp only [rawV] at *
  rcases hgo with ⟨hz, rfl⟩ | ⟨hz, rfl⟩
  · have hz' : (q != 0) = true := by simp [hz]
    refine wk0 hz' c4 trivial
  · subst hz
    refine wk0 trivial c4 trivial
end Go.Proofs.YtpbgmfgmnnclaaaGreatDoor.Abs
end
section
/- The reference of layer nsa, over values without addresses: Grant. -/
set_option linter.unusedSimpArgs false
set_option linter.unusedVariables false
set_option maxRecDepth 100000
namespace Go.Proofs.YtpbgmfgmnnclaaaGreatDoor.Abs
open Go.RowKit
/-- A world that holds nothing. -/
abbrev zWld : List A := [.c (u32 0), .c (i64 0), .c (i64 0), .c (i64 0), .c (i64 0), .c (i64 0), .c (i64 0), .nil, .c (i64 0), .c (i64 0), .nil, .c (i64 0), .nil, .nil, .nil, .nil, .nil, .nil]
abbrev cWld (w : Wld) : List A := [.c (u32 w.conf.window), .c (i64 w.conf.people), .c (i64 w.conf.box), .c (i64 w.conf.used), .c (i64 w.conf.runs), .c (i64 w.conf.net), .c (i64 w.conf.regs), .c (.row (w.draws.list.map eWord)), .c (i64 w.draws.next), .c (i64 w.box.room), .c (.row (w.box.entries.map eSealed)), .c (i64 w.net.room), .c (.row (w.net.grams.map eGram)), .c (.row (w.net.seen.map eSeen)), .c (.row (w.people.map ePerson)), .c (.row (w.log.map eEvent)), .c (.row (w.regs.map eSeen)), .c (.row (w.leaks.map eLeak))]
abbrev cMssg (m : Mssg) : List A := [.c (u32 m.kind), .c (u32 m.run), .c (u32 m.a), .c (u32 m.b), .c (u32 m.nonce), .c (u32 m.box), .c (u32 m.more)]
abbrev cPrs (p : Person) : List A := [.c (u32 p.name), .c (u32 p.key), .c (u32 p.clock), .c (.row (p.used.map eWord)), .c (.row (p.runs.map eRun)), .c (bl p.corrupt)]
abbrev cPrt (p : Prt) : List A := [.c (u32 p.n), .c (u32 p.m), .c (u32 p.a), .c (u32 p.b), .c (u32 p.k), .c (u32 p.t), .c (u32 p.h)]
theorem SmallN.withR {N : Nat} {w : Wld} (h : SmallN N w) (p : Person) (i : Nat) (r : Run) : SmallN N (withR w p i r) := h.with_ _
end Go.Proofs.YtpbgmfgmnnclaaaGreatDoor.Abs
end
section
/- The reference of layer nsa, over values without addresses: Echo. -/
set_option linter.unusedSimpArgs false
set_option linter.unusedVariables false
set_option maxRecDepth 100000
namespace Go.Proofs.YtpbgmfgmnnclaaaGreatDoor.Abs
open Go.RowKit
set_option maxHeartbeats 64000000 in
theorem q15_echo (w : Wld) (me : Int) (m : Mssg) (h : SmallN 10 w) (h1 : rightB w.box = true) (h2 : rightN w.net = true) (hr : (personW w me).runs.length < 1000000) : ACalls Tryz.prog 18 [.agg (eWld w), .one (u32 me), .agg (eMssg m)] (.tup [.agg (eWld (echoNW w me m).1), .one (i64 (echoNW w me m).2)]) := by
  refine ACalls.intro (fn := Tryz.f18) Tryz.func18 rfl rfl (by simp [Tryz.f18]) ?_
  have c1 := q12_person w me
  have c4 := q12_roomq w 1 1 h1 h2
  have oo : ∀ k : Int, ACalls Tryz.prog 20 [.agg (eWld w), .one (u32 k), .one (u32 4), .one (u32 m.box)] (.tup [.agg (ePrt (openW w k 4 m.box).1), .one (bl (openW w k 4 m.box).2)]) := fun k => q12_open w k 4 m.box h.plain
  unfold Tryz.f18
  unfold echoNW echoedW
  generalize personW w me = p at *
  rcases idx_or p.runs (runsN w m) with ⟨hn, ha⟩ | ⟨i, x, hf, hi, hx, hp, ha⟩
  · simp only [hn]
    clear c4 h h1 h2 hn
    have zz : eWld w = eWld w := rfl
    simp only [eWld, eMssg, ePrt, ePerson, eSealeds, eGrams, ePeople, eEvents, eRows, eWords, eLeaks, eRuns] at *
    refine wk1 trivial c1 trivial _ ?_
    all_goals (repeat intro h)
    all_goals refine ⟨?_⟩
    refine AW.loopW (fun n σ => ∃ k : Nat, n = p.runs.length - k ∧ k ≤ p.runs.length ∧ σ = ⟨118, (upd (upd (upd (upd (upd (upd (fun _ => .junk) 1 (.one (.c (u32 me)))) 3 (.one (.ptr 3 0))) 5 (.one (.ptr 5 0))) 6 (.one (.ptr 6 0))) 8 (.one (.ptr 8 0))) 9 (.one (.c (i64 k)))), (upd (upd (upd (upd (fun _ => none) 3 (some (.box (cWld w)))) 5 (some (.box (cMssg m)))) 6 (some (.box zWld))) 8 (some (.box (cPrs p))))⟩) (n := p.runs.length) _ ⟨0, rfl, Nat.zero_le _, rfl⟩ (by exact lz trivial) ?_
    rintro n σ ⟨k, rfl, hk, rfl⟩
    by_cases hlt : k < p.runs.length
    · obtain ⟨y, hy⟩ : ∃ y, p.runs[k]? = some y := ⟨_, List.getElem?_eq_getElem hlt⟩
      have hs := wrapI (x := (k : Int) + 1) (by omega) (by omega)
      have oy := oo y.k
      have hne : ¬ (y.proto = 1 ∧ y.role = 1 ∧ y.state = 2) ∨ (openW w y.k 4 m.box).2 = false := by
        have := ha k y hy
        simp only [runsN, Bool.and_eq_false_iff, beq_eq_false_iff_ne] at this
        by_cases g1 : (openW w y.k 4 m.box).2 = false
        · exact .inr g1
        · left; rintro ⟨a1, a2, a3⟩
          simp [a1, a2, a3, g1] at this
      clear oo ha
      generalize openW w y.k 4 m.box = O at *
      obtain ⟨e, oky⟩ := O
      rcases hne with hne | hne
      · refine wk3 (And.intro hy (And.intro hlt (And.intro hs eRun.eq_1))) trivial trivial _ _ _ ?_ ?_ ?_
        all_goals (repeat intro h)
        all_goals refine ⟨?_⟩
        all_goals refine ⟨p.runs.length - (k + 1), by omega, _, ⟨k + 1, rfl, by omega, rfl⟩, ?_⟩
        all_goals exact lz trivial
      · simp only at hne
        subst hne
        refine wk4 (And.intro hy (And.intro hlt (And.intro hs eRun.eq_1))) oy trivial _ _ _ _ ?_ ?_ ?_ ?_
        all_goals (repeat intro h)
        all_goals refine ⟨?_⟩
        all_goals refine ⟨p.runs.length - (k + 1), by omega, _, ⟨k + 1, rfl, by omega, rfl⟩, ?_⟩
        all_goals exact lz trivial
    · obtain rfl : k = p.runs.length := by omega
      refine wk0 trivial trivial trivial
  · simp only [hf, hi]
    have hil : i < p.runs.length := (List.getElem?_eq_some_iff.1 hx).1
    have oy := oo x.k
    have hpp : (x.proto = 1 ∧ x.role = 1 ∧ x.state = 2) ∧ (openW w x.k 4 m.box).2 = true := by
      simp only [runsN, Bool.and_eq_true, beq_iff_eq] at hp
      exact ⟨⟨hp.1, hp.2.1, hp.2.2.1⟩, hp.2.2.2⟩
    have ha' : ∀ (k : Nat) (y : Run), k < i → p.runs[k]? = some y → ¬ (y.proto = 1 ∧ y.role = 1 ∧ y.state = 2) ∨ (openW w y.k 4 m.box).2 = false := fun k y hk hy => by
      have := ha k y hk hy
      simp only [runsN, Bool.and_eq_false_iff, beq_eq_false_iff_ne] at this
      by_cases g1 : (openW w y.k 4 m.box).2 = false
      · exact .inr g1
      · left; rintro ⟨a1, a2, a3⟩
        simp [a1, a2, a3, g1] at this
    clear ha hp
    obtain ⟨⟨a1, a2, a3⟩, a4⟩ := hpp
    generalize hE : openW w x.k 4 m.box = E at *
    obtain ⟨e, oke⟩ := E
    simp only at a4
    subst a4
    have fr := q05_fresh p.clock x.t w.conf.window
    have cse := q12_seal w x.k 5 ⟨e.n, 0, 0, 0, 0, 0, 0⟩ h.small
    have s0 : SmallN 9 (backN w x e).1 := h.sealS _ _ _
    have cw := q15_with (backN w x e).1 p i { x with their := e.n, state := 3 } hil s0.people hr
    have s1 : SmallN 9 (withR (backN w x e).1 p i { x with their := e.n, state := 3 }) := s0.withR _ _ _
    have cl := q12_log _ ⟨4, 1, 1, me, x.peer, x.k, x.t, 0, e.n, p.clock⟩ s1.small.log
    have s2 : SmallN 8 (logW (withR (backN w x e).1 p i { x with their := e.n, state := 3 }) ⟨4, 1, 1, me, x.peer, x.k, x.t, 0, e.n, p.clock⟩) := s1.log_ _
    have cs := q12_send _ x.peer ⟨5, 0, 0, 0, 0, (backN w x e).2.1, 0⟩ s2.small.grams s2.small.seen
    change ACalls _ _ _ (.tup [.agg (eWld (backN w x e).1), .one (u32 (backN w x e).2.1), .one (i64 (backN w x e).2.2)]) at cse
    clear s0 s1 s2 h h1 h2 hf hi hE
    unfold sentW
    generalize sendW (logW (withR (backN w x e).1 p i { x with their := e.n, state := 3 }) ⟨4, 1, 1, me, x.peer, x.k, x.t, 0, e.n, p.clock⟩) x.peer ⟨5, 0, 0, 0, 0, (backN w x e).2.1, 0⟩ = z at *
    generalize logW (withR (backN w x e).1 p i { x with their := e.n, state := 3 }) ⟨4, 1, 1, me, x.peer, x.k, x.t, 0, e.n, p.clock⟩ = lw at *
    generalize withR (backN w x e).1 p i { x with their := e.n, state := 3 } = ww at *
    generalize backN w x e = bb at *
    obtain ⟨bw, bh, be⟩ := bb
    generalize roomW w 1 1 = rm at *
    generalize freshI p.clock x.t w.conf.window = fi at *
    simp only [eWld, eMssg, ePrt, ePerson, eEvent, eRun, eSealeds, eGrams, ePeople, eEvents, eRows, eWords, eLeaks, eRuns, rB] at *
    refine wk1 trivial c1 trivial _ ?_
    all_goals (repeat intro h)
    all_goals refine ⟨?_⟩
    refine AW.loopW (fun n σ => ∃ k : Nat, n = i - k ∧ k ≤ i ∧ σ = ⟨118, (upd (upd (upd (upd (upd (upd (fun _ => .junk) 1 (.one (.c (u32 me)))) 3 (.one (.ptr 3 0))) 5 (.one (.ptr 5 0))) 6 (.one (.ptr 6 0))) 8 (.one (.ptr 8 0))) 9 (.one (.c (i64 k)))), (upd (upd (upd (upd (fun _ => none) 3 (some (.box (cWld w)))) 5 (some (.box (cMssg m)))) 6 (some (.box zWld))) 8 (some (.box (cPrs p))))⟩) (n := i) _ ⟨0, rfl, Nat.zero_le _, rfl⟩ (by exact lz trivial) ?_
    rintro n σ ⟨k, rfl, hk, rfl⟩
    have hlt : k < p.runs.length := by omega
    have hs := wrapI (x := (k : Int) + 1) (by omega) (by omega)
    by_cases hki : k < i
    · obtain ⟨y, hy⟩ : ∃ y, p.runs[k]? = some y := ⟨_, List.getElem?_eq_getElem hlt⟩
      have hne := ha' k y hki hy
      have oz := oo y.k
      clear oo ha' c1 c4 fr cse cw cl cs hx oy
      generalize openW w y.k 4 m.box = O at *
      obtain ⟨f, oky⟩ := O
      rcases hne with hne | hne
      · refine wk3 (And.intro hy (And.intro hlt (And.intro hs eRun.eq_1))) trivial trivial _ _ _ ?_ ?_ ?_
        all_goals (repeat intro h)
        all_goals refine ⟨?_⟩
        all_goals refine ⟨i - (k + 1), by omega, _, ⟨k + 1, rfl, by omega, rfl⟩, ?_⟩
        all_goals exact lz trivial
      · simp only at hne
        subst hne
        refine wk4 (And.intro hy (And.intro hlt (And.intro hs eRun.eq_1))) oz trivial _ _ _ _ ?_ ?_ ?_ ?_
        all_goals (repeat intro h)
        all_goals refine ⟨?_⟩
        all_goals refine ⟨i - (k + 1), by omega, _, ⟨k + 1, rfl, by omega, rfl⟩, ?_⟩
        all_goals exact lz trivial
    · obtain rfl : k = i := by omega
      have t1 : (x.proto != 1) = false := by simp [a1]
      have t2 : (x.role != 1) = false := by simp [a2]
      have t3 : (x.state != 2) = false := by simp [a3]
      clear a1 a2 a3 ha' c1 oo
      cases fi
      · rw [if_pos rfl]
        refine wk0 (And.intro hx (And.intro hlt (And.intro hs (And.intro t1 (And.intro t2 (And.intro t3 eRun.eq_1)))))) (And.intro oy fr) trivial
      rw [if_neg (by decide)]
      cases rm
      · rw [if_pos rfl]
        refine wk0 (And.intro hx (And.intro hlt (And.intro hs (And.intro t1 (And.intro t2 (And.intro t3 eRun.eq_1)))))) (And.intro oy (And.intro fr c4)) trivial
      rw [if_neg (by decide)]
      by_cases hb : be = 0
      rotate_left
      · rw [if_pos hb]
        have hb' : (be != 0) = true := by simp [hb]
        refine wk0 (And.intro hx (And.intro hlt (And.intro hs (And.intro t1 (And.intro t2 (And.intro t3 (And.intro hb' eRun.eq_1))))))) (And.intro oy (And.intro fr (And.intro c4 cse))) trivial
      rw [if_neg (by simp [hb])]
      have hb' : (be != 0) = false := by simp [hb]
      refine wk0 (And.intro hx (And.intro hlt (And.intro hs (And.intro t1 (And.intro t2 (And.intro t3 (And.intro hb' eRun.eq_1))))))) (And.intro oy (And.intro fr (And.intro c4 (And.intro cse (And.intro cw (And.intro cl cs)))))) trivial
end Go.Proofs.YtpbgmfgmnnclaaaGreatDoor.Abs
end
section
/- The reference of layer desk, over values without addresses: New. -/
set_option linter.unusedSimpArgs false
set_option linter.unusedVariables false
set_option maxRecDepth 100000
namespace Go.Proofs.YtpbgmfgmnnclaaaGreatDoor.Abs
open Go.RowKit
def newW (c : Conf) (l : List Int) (n r : Nat) : Wld := ⟨c, ⟨l, (n : Int)⟩, ⟨c.box, []⟩, ⟨c.net, [], []⟩, newPl l 0 n, [], List.replicate r [], []⟩
theorem map_rep (k : Nat) : (List.replicate k ([] : List Int)).map eSeen = List.replicate k [.row []] := by simp [eSeen, eWords]
set_option maxHeartbeats 4000000 in
theorem q12_new (c : Conf) (l : List Int) (n r : Nat) (h1 : c.people = n) (h2 : n ≤ 100) (h3 : c.regs = r) (h4 : r ≤ 1000) : ACalls Tryz.prog 59 [.agg (eConf c), .one (eWords l)] (.one (.agg (eWld (newW c l n r)))) := by
  refine ACalls.intro (fn := Tryz.f59) Tryz.func59 rfl rfl (by simp [Tryz.f59]) ?_
  have hq := q10_new l 0 n h2 (by omega)
  rw [Nat.zero_add] at hq
  unfold Tryz.f59
  obtain ⟨c1, c2, c3, c4, c5, c6, c7⟩ := c
  simp only at h1 h3
  subst h1 h3
  simp only [newW, eWld, eConf, eDraws, eSealeds, eGrams, ePeople, eEvents, eRows, eWords, eLeaks, map_rep] at *
  generalize newPl l 0 n = ppl at *
  refine wk1 trivial hq trivial _ ?_
  all_goals (repeat intro h)
  all_goals refine ⟨?_⟩
  refine AW.loopW (fun z σ => ∃ k : Nat, z = r - k ∧ k ≤ r ∧ ((k = 0 ∧ σ = ⟨43, (upd (upd (upd (upd (fun _ => .junk) 2 (.one (.ptr 2 0))) 4 (.one (.ptr 4 0))) 5 (.one (.ptr 5 0))) 8 (.one (.c (i64 k)))), (upd (upd (upd (fun _ => none) 2 (some (.box [.c (u32 c1), .c (i64 (n : Int)), .c (i64 c3), .c (i64 c4), .c (i64 c5), .c (i64 c6), .c (i64 (r : Int))]))) 4 (some (.box [.c (u32 0), .c (i64 0), .c (i64 0), .c (i64 0), .c (i64 0), .c (i64 0), .c (i64 0), .nil, .c (i64 0), .c (i64 0), .nil, .c (i64 0), .nil, .nil, .nil, .nil, .nil, .nil]))) 5 (some (.box [.c (u32 c1), .c (i64 (n : Int)), .c (i64 c3), .c (i64 c4), .c (i64 c5), .c (i64 c6), .c (i64 (r : Int)), .c (.row (l.map eWord)), .c (i64 (n : Int)), .c (i64 c3), .nil, .c (i64 c6), .nil, .nil, .c (.row (ppl.map ePerson)), .nil, .nil, .nil])))⟩) ∨
      (0 < k ∧ σ = ⟨43, (upd (upd (upd (upd (fun _ => .junk) 2 (.one (.ptr 2 0))) 4 (.one (.ptr 4 0))) 5 (.one (.ptr 5 0))) 8 (.one (.c (i64 k)))), (upd (upd (upd (upd (fun _ => none) 2 (some (.box [.c (u32 c1), .c (i64 (n : Int)), .c (i64 c3), .c (i64 c4), .c (i64 c5), .c (i64 c6), .c (i64 (r : Int))]))) 4 (some (.box [.c (u32 0), .c (i64 0), .c (i64 0), .c (i64 0), .c (i64 0), .c (i64 0), .c (i64 0), .nil, .c (i64 0), .c (i64 0), .nil, .c (i64 0), .nil, .nil, .nil, .nil, .nil, .nil]))) 40 (some (.rows 25 1 (List.replicate k [.row []])))) 5 (some (.box [.c (u32 c1), .c (i64 (n : Int)), .c (i64 c3), .c (i64 c4), .c (i64 c5), .c (i64 c6), .c (i64 (r : Int)), .c (.row (l.map eWord)), .c (i64 (n : Int)), .c (i64 c3), .nil, .c (i64 c6), .nil, .nil, .c (.row (ppl.map ePerson)), .nil, .own 40 k, .nil])))⟩))) (n := r) _ ⟨0, rfl, Nat.zero_le _, .inl ⟨rfl, rfl⟩⟩ (by exact lz trivial) ?_
  rintro z σ ⟨k, rfl, hk, ⟨rfl, rfl⟩ | ⟨hk0, rfl⟩⟩
  · by_cases hlt : (0 : Int) < (r : Int)
    · refine wkx1 hlt trivial trivial _ ?_
      all_goals (repeat intro h)
      all_goals refine ⟨?_⟩
      refine ⟨r - 1, by omega, _, ⟨1, rfl, by omega, .inr ⟨by omega, rfl⟩⟩, ?_⟩
      simp only [List.replicate_succ, List.replicate_zero]
      exact lz trivial
    · obtain rfl : r = 0 := by omega
      refine wk1 hlt trivial trivial _ ?_
      all_goals (repeat intro h)
      all_goals refine ⟨?_⟩
      all_goals rfl
  · by_cases hlt : (k : Int) < (r : Int)
    · have hs := wrapI (x := (k : Int) + 1) (by omega) (by omega)
      refine wk1 (And.intro hlt hs) trivial trivial _ ?_
      all_goals (repeat intro h)
      all_goals refine ⟨?_⟩
      refine ⟨r - (k + 1), by omega, _, ⟨k + 1, rfl, by omega, .inr ⟨by omega, rfl⟩⟩, ?_⟩
      rw [List.replicate_succ']
      exact lz trivial
    · obtain rfl : k = r := by omega
      refine wk0 hlt trivial trivial
end Go.Proofs.YtpbgmfgmnnclaaaGreatDoor.Abs
end
section
/- The reference of layer desk, over values without addresses: Same. -/
set_option linter.unusedSimpArgs false
set_option linter.unusedVariables false
set_option maxRecDepth 100000
namespace Go.Proofs.YtpbgmfgmnnclaaaGreatDoor.Abs
open Go.RowKit
theorem wld_ext {a b : Wld} (h1 : a.conf = b.conf) (h2 : a.draws = b.draws) (h3 : a.box = b.box) (h4 : a.net = b.net) (h5 : a.people = b.people) (h6 : a.log = b.log) (h7 : a.regs = b.regs) (h8 : a.leaks = b.leaks) : a = b := by
  cases a; cases b; simp_all
set_option maxHeartbeats 16000000 in
theorem q12_same (a b : Wld) : ACalls Tryz.prog 13 [.agg (eWld a), .agg (eWld b)] (rB (decide (a = b))) := by
  refine ACalls.introF (fn := Tryz.f13) Tryz.func13 rfl rfl (by simp [Tryz.f13]) fun hf => ?_
  have hl : a.leaks.length ≤ 9223372036854775807 := Fine.rowC (f := eLeak) (k := 0) ((hf (.agg (eWld a)) (by simp) : FineCA (.agg (eWld a))) (eLeaks a.leaks) (by simp [eWld]))
  clear hf
  have hc := eqConfB_dec a.conf b.conf
  have s2 := q04_same a.draws b.draws
  have s3 := q07_same 0 a.box b.box
  have s4 := q06_same a.net b.net
  have s5 := q10_same 0 a.people b.people
  have s6 := q12_events a.log b.log
  have s7 := q01_rows a.regs b.regs
  have heq := eqok_conf
  have hel := eqok_leak
  unfold Tryz.f13
  simp only [eWld, eBoxC, eBox, eNet, eDraws, eSealeds, eGrams, ePeople, eEvents, eRows, eWords, eLeaks, rB, eqConfB] at *
  by_cases h1 : a.conf = b.conf
  rotate_left
  · rw [decide_eq_false h1] at hc
    rw [decide_eq_false (fun e => h1 (by rw [e]))]
    refine wk0 (And.intro heq hc) trivial trivial
  rw [decide_eq_true h1] at hc
  by_cases h2 : a.draws = b.draws
  rotate_left
  · rw [decide_eq_false h2] at s2
    rw [decide_eq_false (fun e => h2 (by rw [e]))]
    refine wk0 (And.intro heq hc) s2 trivial
  rw [decide_eq_true h2] at s2
  by_cases h3 : a.box = b.box
  rotate_left
  · rw [decide_eq_false h3] at s3
    rw [decide_eq_false (fun e => h3 (by rw [e]))]
    refine wk0 (And.intro heq hc) (And.intro s2 s3) trivial
  rw [decide_eq_true h3] at s3
  by_cases h4 : a.net = b.net
  rotate_left
  · rw [decide_eq_false h4] at s4
    rw [decide_eq_false (fun e => h4 (by rw [e]))]
    refine wk0 (And.intro heq hc) (And.intro s2 (And.intro s3 s4)) trivial
  rw [decide_eq_true h4] at s4
  by_cases h5 : a.people = b.people
  rotate_left
  · rw [decide_eq_false h5] at s5
    rw [decide_eq_false (fun e => h5 (by rw [e]))]
    refine wk0 (And.intro heq hc) (And.intro s2 (And.intro s3 (And.intro s4 s5))) trivial
  rw [decide_eq_true h5] at s5
  by_cases h6 : a.log = b.log
  rotate_left
  · rw [decide_eq_false h6] at s6
    rw [decide_eq_false (fun e => h6 (by rw [e]))]
    refine wk0 (And.intro heq hc) (And.intro s2 (And.intro s3 (And.intro s4 (And.intro s5 s6)))) trivial
  rw [decide_eq_true h6] at s6
  by_cases h7 : a.regs = b.regs
  rotate_left
  · rw [decide_eq_false h7] at s7
    rw [decide_eq_false (fun e => h7 (by rw [e]))]
    refine wk0 (And.intro heq hc) (And.intro s2 (And.intro s3 (And.intro s4 (And.intro s5 (And.intro s6 s7))))) trivial
  rw [decide_eq_true h7] at s7
  by_cases h8 : a.leaks.length = b.leaks.length
  rotate_left
  · have hne : ((a.leaks.length : Int) != (b.leaks.length : Int)) = true := by rw [bne_iff_ne]; omega
    rw [decide_eq_false (fun e => h8 (by rw [e]))]
    refine wk0 (And.intro heq (And.intro hc hne)) (And.intro s2 (And.intro s3 (And.intro s4 (And.intro s5 (And.intro s6 s7))))) trivial
  have hli : (a.leaks.length : Int) = (b.leaks.length : Int) := by omega
  refine wkx1 (And.intro heq (And.intro hc hli)) (And.intro s2 (And.intro s3 (And.intro s4 (And.intro s5 (And.intro s6 s7))))) trivial _ ?_
  all_goals (repeat intro h)
  all_goals refine ⟨?_⟩
  refine AW.loopW (fun n σ => ∃ k : Nat, n = a.leaks.length - k ∧ k ≤ a.leaks.length ∧ a.leaks.take k = b.leaks.take k ∧ σ = ⟨86, (upd (upd (upd (fun _ => .junk) 2 (.one (.ptr 2 0))) 3 (.one (.ptr 3 0))) 5 (.one (.c (i64 k)))), (upd (upd (fun _ => none) 2 (some (.box ((eWld a).map .c)))) 3 (some (.box ((eWld b).map .c))))⟩) (n := a.leaks.length) _ ⟨0, rfl, Nat.zero_le _, rfl, rfl⟩ (by simp only [eWld, eSealeds, eGrams, ePeople, eEvents, eRows, eWords, eLeaks, List.map_cons, List.map_nil]; exact lz trivial) ?_
  rintro n σ ⟨k, rfl, hk, ht, rfl⟩
  simp only [eWld, eSealeds, eGrams, ePeople, eEvents, eRows, eWords, eLeaks, List.map_cons, List.map_nil]
  by_cases hlt : k < a.leaks.length
  · obtain ⟨x, hx⟩ : ∃ x, a.leaks[k]? = some x := ⟨_, List.getElem?_eq_getElem hlt⟩
    obtain ⟨y, hy⟩ : ∃ y, b.leaks[k]? = some y := ⟨_, List.getElem?_eq_getElem (by omega)⟩
    have hlt2 : k < b.leaks.length := by omega
    have hs := wrapI (x := (k : Int) + 1) (by omega) (by omega)
    have hd0 := eqLeakB_dec x y
    unfold eqLeakB at hd0
    by_cases hxy : x = y
    · subst hxy
      refine wkx1 (And.intro hx (And.intro hy (And.intro hlt (And.intro hlt2 (And.intro hs (And.intro hel eLeak.eq_1)))))) trivial trivial _ ?_
      all_goals (repeat intro h)
      all_goals refine ⟨?_⟩
      refine ⟨a.leaks.length - (k + 1), by omega, _, ⟨k + 1, rfl, by omega, take_more ht hx hy, rfl⟩, ?_⟩
      try simp only [eWld, eSealeds, eGrams, ePeople, eEvents, eRows, eWords, eLeaks, List.map_cons, List.map_nil]
      exact lz trivial
    · rw [decide_eq_false hxy] at hd0
      rw [decide_eq_false (fun e => by subst e; rw [hx] at hy; exact hxy (Option.some.inj hy))]
      refine wk0 (And.intro hx (And.intro hy (And.intro hlt (And.intro hlt2 (And.intro hs (And.intro hel (And.intro hd0 eLeak.eq_1))))))) trivial trivial
  · obtain rfl : k = a.leaks.length := by omega
    have : a = b := wld_ext h1 h2 h3 h4 h5 h6 h7 (take_all h8 ht)
    rw [decide_eq_true this]
    refine wk0 trivial trivial trivial
end Go.Proofs.YtpbgmfgmnnclaaaGreatDoor.Abs
end

