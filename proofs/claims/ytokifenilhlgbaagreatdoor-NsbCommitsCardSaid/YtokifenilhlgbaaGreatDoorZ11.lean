/- Texts that were merged: L10n, M1, G2, P16a, P16b, P16c, P16d, P16e, P16, Q15b, Q16, Q16b, Q12n, Q12b. -/
import Derived.Test.YtokifenilhlgbaaGreatDoorZ5
import Derived.Test.YtokifenilhlgbaaGreatDoorZ10
import Derived.Test.YtokifenilhlgbaaGreatDoorZ6
import Derived.Test.YtokifenilhlgbaaGreatDoorZ9
import Derived.Test.YtokifenilhlgbaaGreatDoorZ7
import Derived.Test.YtokifenilhlgbaaGreatDoorZ4
section
/- Rows of principals that are right: each at its name. -/
set_option linter.unusedSimpArgs false
set_option linter.unusedVariables false
set_option maxRecDepth 100000
namespace Go.Proofs.YtokifenilhlgbaaGreatDoor.Abs
open Go.RowKit
theorem right_names {l : List Person} (h : rightPl l = true) : l.length ≤ 7 ∧ ∀ (i : Nat) (x : Person), l[i]? = some x → x.name = (i : Int) := by
  unfold rightPl at h
  rw [Bool.and_eq_true, decide_eq_true_eq] at h
  obtain ⟨h1, h2, h3⟩ := h
  refine ⟨by omega, fun i x hx => ?_⟩
  have hi := (List.getElem?_eq_some_iff.1 hx).1
  rw [namesB_iff.1 h1 i x hx]
  exact IntWalk.u32_in _ (by omega)
theorem getPl_at {l : List Person} (h : rightPl l = true) {i : Nat} {x : Person} (hx : l[i]? = some x) : getPl l (i : Int) = (x, true) := by
  have hn := (right_names h).2
  cases hf : l.find? (fun p => p.name == (i : Int)) with
  | none =>
    have := List.find?_eq_none.1 hf x (List.mem_of_getElem? hx)
    rw [hn i x hx] at this
    simp at this
  | some y =>
    have h1 := List.find?_some hf
    obtain ⟨j, hj⟩ := List.mem_iff_getElem?.1 (List.mem_of_find?_eq_some hf)
    have h2 := hn j y hj
    rw [beq_iff_eq] at h1
    have : j = i := by omega
    subst this
    rw [hx] at hj
    cases hj
    unfold getPl; rw [hf]
end Go.Proofs.YtokifenilhlgbaaGreatDoor.Abs
end
section
/- What a step of a principal or of the server makes of a world: plain mathematics. -/
set_option linter.unusedSimpArgs false
set_option linter.unusedVariables false
set_option maxRecDepth 100000
namespace Go.Proofs.YtokifenilhlgbaaGreatDoor.Abs
open Go.RowKit
/-- What a step brings: so many draws, seals, somebody who is another one, events, frames. -/
structure Act where
  draws : Nat
  seals : List Sealed
  who : Nat
  new : Person
  evs : List Event
  frames : List Gram
def actW (w : Wld) (a : Act) : Wld := { w with
  draws := ⟨w.draws.list, w.draws.next + (a.draws : Int)⟩
  box := ⟨w.box.room, w.box.entries ++ a.seals⟩
  net := ⟨w.net.room, w.net.grams ++ a.frames, w.net.seen ++ a.frames.map (·.words)⟩
  people := w.people.set a.who a.new
  log := w.log ++ a.evs }
theorem setPl_at {l : List Person} (hl : rightPl l = true) {i : Nat} {x p : Person} (hx : l[i]? = some x) (hp : p.name = (i : Int)) : setPl l p = (l.set i p, 0) := by
  have hn := (right_names hl).2
  have hi := (List.getElem?_eq_some_iff.1 hx).1
  have hxn := hn i x hx
  unfold setPl
  have hany : l.any (fun q => q.name == p.name) = true := List.any_eq_true.2 ⟨x, List.mem_of_getElem? hx, by simp [hxn, hp]⟩
  rw [hany]
  refine Prod.ext (List.ext_getElem? fun k => ?_) rfl
  rw [List.getElem?_map, List.getElem?_set]
  cases hk : l[k]? with
  | none =>
    have : l.length ≤ k := List.getElem?_eq_none_iff.1 hk
    rw [if_neg (by omega)]; rfl
  | some y =>
    have e2 := hn k y hk
    by_cases e : i = k
    · subst e
      rw [hx] at hk; cases hk
      simp [hp, hxn, hi]
    · rw [if_neg e]
      have : y.name ≠ p.name := by omega
      simp [this]
theorem withW_at {w : Wld} (hl : rightPl w.people = true) {i : Nat} {x p : Person} (hx : w.people[i]? = some x) (hp : p.name = (i : Int)) : withW w p = { w with people := w.people.set i p } := by
  unfold withW
  rw [setPl_at hl hx hp]
  rfl
theorem withW_to {w v : Wld} {i : Nat} {x p : Person} (hv : v.people = w.people) (hl : rightPl w.people = true) (hx : w.people[i]? = some x) (hp : p.name = (i : Int)) : withW v p = { v with people := w.people.set i p } := by
  rw [withW_at (hv ▸ hl) (by rw [hv]; exact hx) hp, hv]
theorem withR_to {w v : Wld} {i j : Nat} {x p : Person} {r : Run} (hv : v.people = w.people) (hl : rightPl w.people = true) (hx : w.people[i]? = some x) (hp : p.name = (i : Int)) : withR v p j r = { v with people := w.people.set i { p with runs := p.runs.set j r } } := withW_to hv hl hx hp
theorem roomW_iff {w : Wld} {b f : Int} (h : roomW w b f = true) : b ≤ w.box.room - (w.box.entries.length : Int) ∧ f ≤ w.net.room - (w.net.grams.length : Int) := of_decide_eq_true h
theorem person_at {w : Wld} (hl : rightPl w.people = true) {n : Int} (h0 : 0 ≤ n) (h1 : n < (w.people.length : Int)) : ∃ (i : Nat) (p : Person), n = i ∧ w.people[i]? = some p ∧ personW w n = p ∧ p.name = (i : Int) := by
  obtain ⟨i, rfl⟩ : ∃ i : Nat, n = i := ⟨n.toNat, by omega⟩
  have hx : w.people[i]? = some w.people[i] := List.getElem?_eq_getElem (by omega)
  exact ⟨i, _, rfl, hx, by unfold personW; rw [getPl_at hl hx], (right_names hl).2 i _ hx⟩
/-! A step with an error changes nothing. -/
theorem ticketW_err {w : Wld} {me : Int} {m : Mssg} (h : (ticketW w me m).2 ≠ 0) : (ticketW w me m).1 = w := by
  unfold ticketW ticketOf at h ⊢
  split at h <;> rename_i g1
  · rw [if_pos g1]
  · rw [if_neg g1]
    split at h <;> rename_i g2
    · rw [if_pos g2]
    · rw [if_neg g2]
      split at h <;> rename_i g3
      · rw [if_pos g3]
      · rw [if_neg g3]
        split at h <;> rename_i g4
        · rw [if_pos g4]
        · rw [if_neg g4]
          split at h <;> rename_i g5
          · rw [if_pos g5]
          · rw [if_neg g5]
            split at h <;> rename_i g6
            · rw [if_pos g6]
            · exact absurd rfl h
theorem backW_err {w : Wld} {me : Int} {m : Mssg} (h : (backW w me m).2 ≠ 0) : (backW w me m).1 = w := by
  revert h
  unfold backW
  cases (personW w me).runs.find? (backsN w m) with
  | none => exact fun _ => rfl
  | some r =>
    simp only
    split
    · exact fun _ => rfl
    exact fun h => absurd rfl h
/-! What a step without an error brings. -/
end Go.Proofs.YtokifenilhlgbaaGreatDoor.Abs
end
section
/- What is sent where there is room, what a world keeps when one is put into it, a run of which nothing is known: plain mathematics. -/
set_option linter.unusedSimpArgs false
set_option linter.unusedVariables false
set_option maxRecDepth 100000
namespace Go.Proofs.YtokifenilhlgbaaGreatDoor.Abs
open Go.RowKit
def run0 : Run := ⟨0, 0, 0, 0, 0, 0, 0, 0, 0⟩
theorem send_room {w : Wld} {t : Int} {m : Mssg} (hm : mayM m = true) (hr : ¬ w.net.room ≤ (w.net.grams.length : Int)) : sendW w t m = (sentW w t m, 0) := by
  rcases sendW_cases w t m with ⟨h, _⟩ | ⟨_, h, _⟩ | ⟨_, _, h⟩
  · rw [hm] at h; cases h
  · exact absurd h hr
  · unfold sentW; rw [h]
theorem withW_net (w : Wld) (p : Person) : (withW w p).net = w.net ∧ (withW w p).log = w.log ∧ (withW w p).box = w.box ∧ (withW w p).conf = w.conf := by
  unfold withW
  split
  · exact ⟨rfl, rfl, rfl, rfl⟩
  · exact ⟨rfl, rfl, rfl, rfl⟩
end Go.Proofs.YtokifenilhlgbaaGreatDoor.Abs
end
section
/- The landed nsb, over values without addresses: what one does for a run, piece by piece. -/
set_option linter.unusedSimpArgs false
set_option linter.unusedVariables false
set_option maxRecDepth 100000
namespace Go.Proofs.YtokifenilhlgbaaGreatDoor.Abs
open Go.RowKit
/-- What the responder has in hand: a world, who it is, a run. -/
structure Resp where
  w : Wld
  me : Person
  run : Run
def eResp (s : Resp) : List CV := [u32 s.w.conf.window, i64 s.w.conf.people, i64 s.w.conf.box, i64 s.w.conf.used, i64 s.w.conf.runs, i64 s.w.conf.net, i64 s.w.conf.regs, eWords s.w.draws.list, i64 s.w.draws.next, i64 s.w.box.room, eSealeds s.w.box.entries, i64 s.w.net.room, eGrams s.w.net.grams, eRows s.w.net.seen, ePeople s.w.people, eEvents s.w.log, eRows s.w.regs, eLeaks s.w.leaks, u32 s.me.name, u32 s.me.key, u32 s.me.clock, eWords s.me.used, eRuns s.me.runs, bl s.me.corrupt, i64 s.run.proto, i64 s.run.role, u32 s.run.peer, u32 s.run.mine, u32 s.run.their, u32 s.run.m, u32 s.run.k, u32 s.run.t, i64 s.run.state]
theorem p16_isFresh (b : Nat) (s : Resp) (t : Int) : ACalls Tryz.prog 75 [.one (rawV b 0), .one (u32 t)]
    (.bx [(b, .cells (eResp s))] [(b, .cells (eResp s))] [.one (bl (freshI s.me.clock t s.w.conf.window))]) := by
  refine ACalls.introX (fn := Tryz.f75) Tryz.func75 rfl rfl (by simp [Tryz.f75]) ?_
  have c1 := p05_fresh s.me.clock t s.w.conf.window
  generalize freshI s.me.clock t s.w.conf.window = f at *
  obtain ⟨w, me, run⟩ := s
  unfold Tryz.f75
  simp only [rawV, insOf, setBs, eResp, eSealeds, eGrams, ePeople, eEvents, eRows, eWords, eLeaks, eRuns, rB] at *
  refine wk0 trivial c1 trivial
  all_goals simp only [go_sem, ↓reduceIte]
set_option maxHeartbeats 4000000 in
theorem p16_note (b : Nat) (s : Resp) (kind : Int) (v : Wld) (hv : logW (withW s.w s.me) ⟨kind, 1, 2, s.run.peer, s.me.name, s.run.k, s.run.t, 0, s.run.mine, s.me.clock⟩ = v) (hp : PShort s.me) (hr : rightPl s.w.people = true) (hl : (withW s.w s.me).log.length < 1000000) : ACalls Tryz.prog 63 [.one (rawV b 0), .one (i64 kind)]
    (.bx [(b, .cells (eResp s))] [(b, .cells (eResp { s with w := v }))] []) := by
  refine ACalls.introX (fn := Tryz.f63) Tryz.func63 rfl rfl (by simp [Tryz.f63]) ?_
  have c1 := p12_with s.w s.me hp hr
  have c2 := p12_log (withW s.w s.me) ⟨kind, 1, 2, s.run.peer, s.me.name, s.run.k, s.run.t, 0, s.run.mine, s.me.clock⟩ hl
  rw [hv] at c2
  clear hp hr hl hv
  generalize withW s.w s.me = u at *
  obtain ⟨w, me, run⟩ := s
  unfold Tryz.f63
  simp only [rawV, insOf, setBs, eResp, eWld, ePerson, eEvent, eSealeds, eGrams, ePeople, eEvents, eRows, eWords, eLeaks, eRuns] at *
  refine wk4 trivial (And.intro c1 c2) trivial _ _ _ _ ?_ ?_ ?_ ?_
  all_goals (repeat intro h)
  all_goals refine ⟨?_⟩
  all_goals simp only [go_sem, ↓reduceIte]
theorem p16_running (b : Nat) (s : Resp) (fr : Int) : ACalls Tryz.prog 100 [.one (rawV b 0), .one (i64 fr)]
    (.bx [(b, .cells (eResp s))] [(b, .cells (eResp s))] [.one (i64 (nextRun s.me.runs fr 1 2 2).1), .one (bl (nextRun s.me.runs fr 1 2 2).2)]) := by
  refine ACalls.introX (fn := Tryz.f100) Tryz.func100 rfl rfl (by simp [Tryz.f100]) ?_
  have c1 := p09_next s.me.runs fr 1 2 2
  generalize nextRun s.me.runs fr 1 2 2 = n at *
  obtain ⟨w, me, run⟩ := s
  unfold Tryz.f100
  simp only [rawV, insOf, setBs, eResp, eSealeds, eGrams, ePeople, eEvents, eRows, eWords, eLeaks, eRuns] at *
  refine wk0 trivial c1 trivial
  all_goals simp only [go_sem, ↓reduceIte]
end Go.Proofs.YtokifenilhlgbaaGreatDoor.Abs
end
section
/- The landed nsb, over values without addresses: the first run whose nonce has come back. -/
set_option linter.unusedSimpArgs false
set_option linter.unusedVariables false
set_option maxRecDepth 100000
namespace Go.Proofs.YtokifenilhlgbaaGreatDoor.Abs
open Go.RowKit
/-- Whether a run's nonce has come back in a box. -/
def cameB (w : Wld) (box : Int) (r : Run) : Bool := (openW w r.k 5 box).2 && (openW w r.k 5 box).1.n == r.mine
set_option maxHeartbeats 8000000 in
theorem p16_returned (b : Nat) (s : Resp) (box : Int) (hm : s.me.runs.length < 1000000) (hb : rightB s.w.box = true) (a : Int) (ok : Bool)
    (hE : ((∀ (i : Nat) (x : Run), s.me.runs[i]? = some x → (isKind 1 2 2 x && cameB s.w box x) = false) ∧ a = 0 ∧ ok = false) ∨ ∃ k r, s.me.runs[k]? = some r ∧ (isKind 1 2 2 r && cameB s.w box r) = true ∧ (∀ (i : Nat) (x : Run), i < k → s.me.runs[i]? = some x → (isKind 1 2 2 x && cameB s.w box x) = false) ∧ a = (k : Int) ∧ ok = true) :
    ACalls Tryz.prog 74 [.one (rawV b 0), .one (u32 box)] (.bx [(b, .cells (eResp s))] [(b, .cells (eResp s))] [.one (i64 a), .one (bl ok)]) := by
  refine ACalls.introX (fn := Tryz.f74) Tryz.func74 rfl rfl (by simp [Tryz.f74]) ?_
  have c0 := fun fr => p16_running b s fr
  have co := fun key => p12_open s.w key 5 box hb
  obtain ⟨w, me, run⟩ := s
  simp only at hm hE hb c0 co
  unfold Tryz.f74
  simp only [rawV, insOf, setBs, eResp, eWld, eSealeds, eGrams, ePeople, eEvents, eRows, eWords, eLeaks, eRuns, ePrt] at *
  generalize me.runs = L at *
  have c1 := c0 0
  refine wk1 trivial c1 trivial _ ?_
  all_goals (repeat intro h)
  all_goals refine ⟨?_⟩
  refine AW.loopW (fun n σ => ∃ f : Nat, n = L.length - f ∧ f ≤ L.length ∧ (∀ (i : Nat) (x : Run), i < f → L[i]? = some x → (isKind 1 2 2 x && cameB w box x) = false) ∧ σ = ⟨52, (upd (upd (upd (upd (fun _ => .junk) 0 (.one (.c (rawV b 0)))) 1 (.one (.c (u32 box)))) 6 (.one (.c (i64 (nextRun L (f : Int) 1 2 2).1)))) 7 (.one (.c (bl (nextRun L (f : Int) 1 2 2).2)))), (upd (fun _ => none) (1000000+b) (some (.obox [u32 w.conf.window, i64 w.conf.people, i64 w.conf.box, i64 w.conf.used, i64 w.conf.runs, i64 w.conf.net, i64 w.conf.regs, CV.row (List.map eWord w.draws.list), i64 w.draws.next, i64 w.box.room, CV.row (List.map eSealed w.box.entries), i64 w.net.room, CV.row (List.map eGram w.net.grams), CV.row (List.map eSeen w.net.seen), CV.row (List.map ePerson w.people), CV.row (List.map eEvent w.log), CV.row (List.map eSeen w.regs), CV.row (List.map eLeak w.leaks), u32 me.name, u32 me.key, u32 me.clock, CV.row (List.map eWord me.used), CV.row (List.map eRun L), bl me.corrupt, i64 run.proto, i64 run.role, u32 run.peer, u32 run.mine, u32 run.their, u32 run.m, u32 run.k, u32 run.t, i64 run.state])))⟩) (n := L.length) _ ⟨0, rfl, Nat.zero_le _, fun i x hi => absurd hi (Nat.not_lt_zero i), rfl⟩ (by simp only [Int.natCast_zero]; exact lz trivial) ?_
  rintro n σ ⟨f, rfl, hf, hno, rfl⟩
  have hle : ∀ m : Nat, m ≤ L.length → (∀ (i : Nat) (x : Run), i < f → L[i]? = some x → (isKind 1 2 2 x && cameB w box x) = false) → noneTo L (f : Int) (isKind 1 2 2) m → ∀ (i : Nat) (x : Run), i < m → L[i]? = some x → (isKind 1 2 2 x && cameB w box x) = false := fun m _ h1 h2 i x hi hx => by
    rcases Nat.lt_or_ge i f with h | h
    · exact h1 i x h hx
    · rw [h2 i x hi hx (by omega)]; rfl
  rcases idxFrom_cases L (f : Int) (isKind 1 2 2) with ⟨hn, hnone⟩ | ⟨k, x, hk, hnk, hx, hkl, hfk, hqx⟩
  · have hnx : nextRun L (f : Int) 1 2 2 = (0, false) := by unfold nextRun; rw [hn]
    have hall : ∀ (i : Nat) (x : Run), L[i]? = some x → (isKind 1 2 2 x && cameB w box x) = false := fun i x hx => hle L.length (Nat.le_refl _) hno hnone i x (List.getElem?_eq_some_iff.1 hx).1 hx
    rcases hE with ⟨_, rfl, rfl⟩ | ⟨k, r, h1, h2, _⟩
    rotate_left
    · rw [hall k r h1] at h2; cases h2
    rw [hnx]
    clear hall hle hno
    refine wk0 trivial trivial trivial
    all_goals (try simp only [go_sem, ↓reduceIte])
  · have hnx : nextRun L (f : Int) 1 2 2 = ((k : Int), true) := by unfold nextRun; rw [hk]
    have hbel := hle k (by omega) hno hnk
    have co' := co x.k
    cases hq : cameB w box x
    · have c2 := c0 ((k + 1 : Nat) : Int)
      have hw := wrapI (x := (k : Int) + 1) (by omega) (by omega)
      have hcast : ((k + 1 : Nat) : Int) = (k : Int) + 1 := by omega
      rw [hnx]
      generalize hnn : nextRun L ((k + 1 : Nat) : Int) 1 2 2 = nn at *
      rw [hcast] at c2
      have hcm : (openW w x.k 5 box).2 = false ∨ ((openW w x.k 5 box).2 = true ∧ ((openW w x.k 5 box).1.n == x.mine) = false) := by
        unfold cameB at hq
        cases e : (openW w x.k 5 box).2
        · exact .inl rfl
        · rw [e, Bool.true_and] at hq; exact .inr ⟨rfl, hq⟩
      have hstep : ∃ f', k + 1 = f' ∧ f' ≤ L.length ∧ (∀ (i : Nat) (y : Run), i < f' → L[i]? = some y → (isKind 1 2 2 y && cameB w box y) = false) := by
        refine ⟨k + 1, rfl, by omega, fun i y hi hy => ?_⟩
        rcases Nat.lt_or_ge i k with h | h
        · exact hbel i y h hy
        · obtain rfl : i = k := by omega
          rw [hx] at hy; cases hy
          rw [hq, Bool.and_false]
      obtain ⟨f', rfl, hf', hno'⟩ := hstep
      clear hle hE hbel hno
      generalize openW w x.k 5 box = o at *
      obtain ⟨g, oo⟩ := o
      simp only at hcm co'
      rcases hcm with rfl | ⟨rfl, hcm⟩
      · refine wk1 (And.intro hx (And.intro hkl (And.intro hw eRun.eq_1))) (And.intro co' c2) trivial _ ?_
        all_goals (repeat intro h)
        all_goals refine ⟨?_⟩
        refine ⟨L.length - (k + 1), by omega, _, ⟨k + 1, rfl, hf', hno', rfl⟩, ?_⟩
        rw [hnn]
        exact lz trivial
      · refine wk1 (And.intro hx (And.intro hkl (And.intro hw (And.intro eRun.eq_1 hcm)))) (And.intro co' c2) trivial _ ?_
        all_goals (repeat intro h)
        all_goals refine ⟨?_⟩
        refine ⟨L.length - (k + 1), by omega, _, ⟨k + 1, rfl, hf', hno', rfl⟩, ?_⟩
        rw [hnn]
        exact lz trivial
    · have hkq : (isKind 1 2 2 x && cameB w box x) = true := by rw [hqx, hq]; rfl
      rcases hE with ⟨h0, _⟩ | ⟨k', r', h1, h2, h3, rfl, rfl⟩
      · rw [h0 k x hx] at hkq; cases hkq
      obtain rfl : k' = k := by
        rcases Nat.lt_trichotomy k' k with h | h | h
        · rw [hbel k' r' h h1] at h2; cases h2
        · exact h
        · rw [h3 k x h hx] at hkq; cases hkq
      rw [hx] at h1
      cases h1
      rw [hnx]
      unfold cameB at hq
      rw [Bool.and_eq_true] at hq
      obtain ⟨hq1, hq2⟩ := hq
      clear hle h3 hbel hno h2 hkq
      generalize openW w x.k 5 box = o at *
      obtain ⟨g, oo⟩ := o
      simp only at hq1 hq2 co'
      subst hq1
      refine wk0 (And.intro hx (And.intro hkl (And.intro eRun.eq_1 hq2))) co' trivial
      all_goals (try simp only [go_sem, ↓reduceIte])
end Go.Proofs.YtokifenilhlgbaaGreatDoor.Abs
end
section
/- The landed nsb, over values without addresses: a back is taken. -/
set_option linter.unusedSimpArgs false
set_option linter.unusedVariables false
set_option maxRecDepth 100000
namespace Go.Proofs.YtokifenilhlgbaaGreatDoor.Abs
open Go.RowKit
def doneR (r : Run) : Run := { r with state := 3 }
def doneU (w : Wld) (me : Int) (i : Nat) (r : Run) : Wld := logW (withW w { personW w me with runs := (personW w me).runs.set i (doneR r) }) ⟨4, 1, 2, r.peer, (personW w me).name, r.k, r.t, 0, r.mine, (personW w me).clock⟩
theorem backsN_kind (w : Wld) (m : Mssg) (r : Run) : (isKind 1 2 2 r && cameB w m.box r) = backsN w m r := by
  unfold isKind cameB backsN
  simp only [Bool.and_assoc]
set_option maxHeartbeats 16000000 in
theorem p16_commit (w : Wld) (me : Int) (m : Mssg) (h : Good 10 w) (h1 : 1 ≤ me) (h2 : me < (w.people.length : Int)) : ∃ D : Resp, ((backW w me m).2 = 0 → (backW w me m).1 = D.w) ∧ ∀ bb, ACalls Tryz.prog 38 [.one (rawV bb 0), .one (u32 m.box)]
    (.bx [(bb, .cells (eResp ⟨w, personW w me, run0⟩))] [(bb, .cells (eResp D))] [.one (i64 (backW w me m).2)]) := by
  have hp := h.person me
  unfold backW
  have c2 := fun bb => p16_returned bb ⟨w, personW w me, run0⟩ m.box (by show (personW w me).runs.length < 1000000; omega) h.box
  rcases idx_or (personW w me).runs (backsN w m) with ⟨hn, ha⟩ | ⟨i, r, hf, hi, hx, hw, ha⟩
  · simp only [hn]
    refine ⟨⟨w, personW w me, run0⟩, fun _ => rfl, fun bb => ?_⟩
    have c2' := c2 bb 0 false (.inl ⟨fun i x hx => (backsN_kind w m x).trans (ha i x hx), rfl, rfl⟩)
    clear c2 ha hn h hp
    refine ACalls.introX (fn := Tryz.f38) Tryz.func38 rfl rfl (by simp [Tryz.f38]) ?_
    generalize personW w me = P at *
    unfold Tryz.f38
    simp only [rawV, insOf, setBs, eResp, run0, eWld, ePerson, ePrt, eSealeds, eGrams, ePeople, eEvents, eRows, eWords, eLeaks, eRuns, rB, rI] at *
    refine wk0 trivial c2' trivial
    all_goals (try simp only [go_sem, ↓reduceIte])
  simp only [hf, hi]
  have hlt : i < (personW w me).runs.length := (List.getElem?_eq_some_iff.1 hx).1
  have c2' := fun bb => c2 bb (i : Int) true (.inr ⟨i, r, hx, (backsN_kind w m r).trans hw, fun j x hj hx => (backsN_kind w m x).trans (ha j x hj hx), rfl, rfl⟩)
  clear c2 ha hf hi
  have c3 := fun bb => p16_isFresh bb ⟨w, personW w me, r⟩ r.t
  simp only at c3
  cases hfr : freshI (personW w me).clock r.t w.conf.window
  · refine ⟨⟨w, personW w me, r⟩, fun _ => rfl, fun bb => ?_⟩
    rw [if_pos rfl]
    have c2 := c2' bb
    have c3 := c3 bb
    rw [hfr] at c3
    clear c2' hfr h hp hw
    refine ACalls.introX (fn := Tryz.f38) Tryz.func38 rfl rfl (by simp [Tryz.f38]) ?_
    generalize personW w me = P at *
    unfold Tryz.f38
    simp only [rawV, insOf, setBs, eResp, run0, eWld, ePerson, ePrt, eSealeds, eGrams, ePeople, eEvents, eRows, eWords, eLeaks, eRuns, eRun.eq_1 r, rB, rI] at *
    refine wk0 (And.intro hx (And.intro hlt (eRun.eq_1 r))) (And.intro c2 c3) trivial
    all_goals (try simp only [go_sem, ↓reduceIte])
  rw [if_neg (by decide)]
  rw [hfr] at c3
  obtain ⟨j, p, e1, e2, e3, e4⟩ := person_at h.ppl (n := me) (by omega) h2
  have hname : (personW w me).name = me := by rw [e3, e4, e1]
  have hmay : runMay (doneR r) = true := by
    simp only [backsN, Bool.and_eq_true, beq_iff_eq] at hw
    unfold doneR runMay
    simp [hw.1, hw.2.1]
  have c5 := p09_set 0 (personW w me).runs (i : Int) (doneR r) (by omega)
  have hset : setR (personW w me).runs (i : Int) (doneR r) = ((personW w me).runs.set i (doneR r), 0) := by
    unfold setR
    rw [if_neg (by rw [hmay]; simp; omega)]
    rfl
  unfold setC at c5
  rw [hset, if_pos rfl] at c5
  have hpp : ((personW w me).used.length + 10 ≤ 1000) ∧ ((personW w me).runs.set i (doneR r)).length + 10 ≤ 1000 := ⟨hp.1, by rw [List.length_set]; exact hp.2⟩
  have h3 : Good 10 (withW w { personW w me with runs := (personW w me).runs.set i (doneR r) }) := h.with_ _ hpp
  have hres : logW (withR w (personW w me) i { r with state := 3 }) ⟨4, 1, 2, r.peer, me, r.k, r.t, 0, r.mine, (personW w me).clock⟩ = doneU w me i r := by
    unfold doneU
    rw [show (⟨4, 1, 2, r.peer, (personW w me).name, r.k, r.t, 0, r.mine, (personW w me).clock⟩ : Event) = ⟨4, 1, 2, r.peer, me, r.k, r.t, 0, r.mine, (personW w me).clock⟩ from by rw [hname]]
    rfl
  rw [hres]
  refine ⟨⟨doneU w me i r, { personW w me with runs := (personW w me).runs.set i (doneR r) }, doneR r⟩, fun _ => rfl, fun bb => ?_⟩
  have c2 := c2' bb
  have c3 := c3 bb
  have c6 := p16_note bb ⟨w, { personW w me with runs := (personW w me).runs.set i (doneR r) }, doneR r⟩ 4 (doneU w me i r) (by rfl) ⟨by show (personW w me).used.length ≤ 1000000; omega, by show ((personW w me).runs.set i (doneR r)).length ≤ 1000000; omega⟩ h.ppl h3.small.small.log
  clear c2' hres h3 hpp hname e1 e2 e3 e4 hmay hset hfr hw h hp
  simp only at c6
  generalize doneU w me i r = u at *
  generalize hL : (personW w me).runs.set i (doneR r) = L at *
  clear hL
  generalize personW w me = P at *
  refine ACalls.introX (fn := Tryz.f38) Tryz.func38 rfl rfl (by simp [Tryz.f38]) ?_
  unfold Tryz.f38
  simp only [rawV, insOf, setBs, eResp, doneR, run0, eWld, ePerson, eMssg, ePrt, eSealeds, eGrams, ePeople, eEvents, eRows, eWords, eLeaks, eRuns, eRun.eq_1 r, eRun.eq_1 (doneR r), rB, rI] at *
  refine wk0 (And.intro hx (And.intro hlt (eRun.eq_1 r))) (And.intro c2 (And.intro c3 (And.intro c5 c6))) trivial
  all_goals (try simp only [go_sem, ↓reduceIte])
end Go.Proofs.YtokifenilhlgbaaGreatDoor.Abs
end
section
/- The landed nsb, over values without addresses: a ticket is taken. -/
set_option linter.unusedSimpArgs false
set_option linter.unusedVariables false
set_option maxRecDepth 100000
namespace Go.Proofs.YtokifenilhlgbaaGreatDoor.Abs
open Go.RowKit
/-- What is against a ticket. -/
def accE (w : Wld) (me : Int) (m : Mssg) : Int :=
  if (tickP w me m).2 = false then 6
  else if pairPl w.people (tickP w me m).1.a (personW w me).name = false then 5
  else if freshI (personW w me).clock (tickP w me m).1.t w.conf.window = false then 7
  else if mayU (personW w me).used w.conf.used (tickP w me m).1.k ≠ 0 then mayU (personW w me).used w.conf.used (tickP w me m).1.k
  else if w.conf.runs ≤ ((personW w me).runs.length : Int) ∨ roomW w 1 1 = false then 10 else 0
def accR (w : Wld) (me : Int) (m : Mssg) : Run := if accE w me m = 0 then ⟨1, 2, (tickP w me m).1.a, 0, 0, 0, (tickP w me m).1.k, (tickP w me m).1.t, 2⟩ else run0
theorem accR_ok {w : Wld} {me : Int} {m : Mssg} (h : accE w me m = 0) : accR w me m = ⟨1, 2, (tickP w me m).1.a, 0, 0, 0, (tickP w me m).1.k, (tickP w me m).1.t, 2⟩ := if_pos h
theorem accR_no {w : Wld} {me : Int} {m : Mssg} {e : Int} (h : accE w me m = e) (he : e ≠ 0) : accR w me m = run0 := if_neg (by rw [h]; exact he)
set_option maxHeartbeats 8000000 in
theorem p16_accept (w : Wld) (me : Int) (m : Mssg) (h : Good 10 w) (bb : Nat) : ACalls Tryz.prog 58 [.one (rawV bb 0), .one (u32 m.box)]
    (.bx [(bb, .cells (eResp ⟨w, personW w me, run0⟩))] [(bb, .cells (eResp ⟨w, personW w me, accR w me m⟩))] [.one (i64 (accE w me m))]) := by
  have c1 := p12_open w (personW w me).key 3 m.box h.box
  rw [show openW w (personW w me).key 3 m.box = tickP w me m from rfl] at c1
  have hp := h.person me
  cases ho : (tickP w me m).2
  · have he : accE w me m = 6 := by unfold accE; rw [if_pos ho]
    rw [accR_no he (by decide), he]
    rw [ho] at c1
    clear ho h hp he
    refine ACalls.introX (fn := Tryz.f58) Tryz.func58 rfl rfl (by simp [Tryz.f58]) ?_
    generalize (tickP w me m).1 = g at *
    generalize personW w me = P at *
    unfold Tryz.f58
    simp only [rawV, insOf, setBs, eResp, run0, eWld, ePerson, ePrt, eSealeds, eGrams, ePeople, eEvents, eRows, eWords, eLeaks, eRuns, rB, rI] at *
    refine wk0 trivial c1 trivial
    all_goals (try simp only [go_sem, ↓reduceIte])
  rw [ho] at c1
  have c2 := p10_pair w.people (tickP w me m).1.a (personW w me).name h.ppl
  cases hq : pairPl w.people (tickP w me m).1.a (personW w me).name
  · have he : accE w me m = 5 := by unfold accE; rw [if_neg (by rw [ho]; decide), if_pos hq]
    rw [accR_no he (by decide), he]
    rw [hq] at c2
    clear ho h hp he hq
    refine ACalls.introX (fn := Tryz.f58) Tryz.func58 rfl rfl (by simp [Tryz.f58]) ?_
    generalize (tickP w me m).1 = g at *
    generalize personW w me = P at *
    unfold Tryz.f58
    simp only [rawV, insOf, setBs, eResp, run0, eWld, ePerson, ePrt, eSealeds, eGrams, ePeople, eEvents, eRows, eWords, eLeaks, eRuns, rB, rI] at *
    refine wk0 trivial (And.intro c1 c2) trivial
    all_goals (try simp only [go_sem, ↓reduceIte])
  rw [hq] at c2
  have c3 := p16_isFresh bb ⟨w, personW w me, run0⟩ (tickP w me m).1.t
  simp only at c3
  cases hfr : freshI (personW w me).clock (tickP w me m).1.t w.conf.window
  · have he : accE w me m = 7 := by unfold accE; rw [if_neg (by rw [ho]; decide), if_neg (by rw [hq]; decide), if_pos hfr]
    rw [accR_no he (by decide), he]
    rw [hfr] at c3
    clear ho h hp he hq hfr
    refine ACalls.introX (fn := Tryz.f58) Tryz.func58 rfl rfl (by simp [Tryz.f58]) ?_
    generalize (tickP w me m).1 = g at *
    generalize personW w me = P at *
    unfold Tryz.f58
    simp only [rawV, insOf, setBs, eResp, run0, eWld, ePerson, ePrt, eSealeds, eGrams, ePeople, eEvents, eRows, eWords, eLeaks, eRuns, rB, rI] at *
    refine wk0 trivial (And.intro c1 (And.intro c2 c3)) trivial
    all_goals (try simp only [go_sem, ↓reduceIte])
  rw [hfr] at c3
  have c4 := p08_may 0 (personW w me).used w.conf.used (tickP w me m).1.k
  by_cases hu : mayU (personW w me).used w.conf.used (tickP w me m).1.k = 0
  rotate_left
  · have he : accE w me m = mayU (personW w me).used w.conf.used (tickP w me m).1.k := by unfold accE; rw [if_neg (by rw [ho]; decide), if_neg (by rw [hq]; decide), if_neg (by rw [hfr]; decide), if_pos hu]
    rw [accR_no he hu, he]
    have hu' : (mayU (personW w me).used w.conf.used (tickP w me m).1.k != 0) = true := by simp [hu]
    clear ho h hp he hq hfr hu
    refine ACalls.introX (fn := Tryz.f58) Tryz.func58 rfl rfl (by simp [Tryz.f58]) ?_
    generalize (tickP w me m).1 = g at *
    generalize personW w me = P at *
    generalize mayU P.used w.conf.used g.k = e at *
    unfold Tryz.f58
    simp only [rawV, insOf, setBs, eResp, run0, eWld, ePerson, ePrt, eSealeds, eGrams, ePeople, eEvents, eRows, eWords, eLeaks, eRuns, rB, rI, List.map_map] at *
    refine wk0 hu' (And.intro c1 (And.intro c2 (And.intro c3 c4))) trivial
    all_goals (try simp only [go_sem, ↓reduceIte])
  rw [hu] at c4
  have c5 := p12_room w 1 1 h.box h.net
  by_cases hrr : w.conf.runs ≤ ((personW w me).runs.length : Int) ∨ roomW w 1 1 = false
  · have he : accE w me m = 10 := by unfold accE; rw [if_neg (by rw [ho]; decide), if_neg (by rw [hq]; decide), if_neg (by rw [hfr]; decide), if_neg (by simp [hu]), if_pos hrr]
    rw [accR_no he (by decide), he]
    clear ho h hp he hq hfr hu
    refine ACalls.introX (fn := Tryz.f58) Tryz.func58 rfl rfl (by simp [Tryz.f58]) ?_
    generalize (tickP w me m).1 = g at *
    generalize personW w me = P at *
    generalize roomW w 1 1 = rm at *
    unfold Tryz.f58
    simp only [rawV, insOf, setBs, eResp, run0, eWld, ePerson, ePrt, eSealeds, eGrams, ePeople, eEvents, eRows, eWords, eLeaks, eRuns, rB, rI] at *
    by_cases hc : w.conf.runs ≤ (P.runs.length : Int)
    · refine wk0 hc (And.intro c1 (And.intro c2 (And.intro c3 (And.intro c4 c5)))) trivial
      all_goals (try simp only [go_sem, ↓reduceIte])
    · have hrm : rm = false := hrr.resolve_left hc
      subst hrm
      refine wk0 hc (And.intro c1 (And.intro c2 (And.intro c3 (And.intro c4 c5)))) trivial
      all_goals (try simp only [go_sem, ↓reduceIte])
  have hc : ¬ w.conf.runs ≤ ((personW w me).runs.length : Int) := fun e => hrr (.inl e)
  have hrm : roomW w 1 1 = true := by
    cases e : roomW w 1 1
    · exact absurd (.inr e) hrr
    · rfl
  have he : accE w me m = 0 := by unfold accE; rw [if_neg (by rw [ho]; decide), if_neg (by rw [hq]; decide), if_neg (by rw [hfr]; decide), if_neg (by simp [hu]), if_neg hrr]
  rw [accR_ok he, he]
  rw [hrm] at c5
  clear ho h hp he hq hfr hu hrr hrm
  refine ACalls.introX (fn := Tryz.f58) Tryz.func58 rfl rfl (by simp [Tryz.f58]) ?_
  generalize (tickP w me m).1 = g at *
  generalize personW w me = P at *
  unfold Tryz.f58
  simp only [rawV, insOf, setBs, eResp, run0, eWld, ePerson, ePrt, eSealeds, eGrams, ePeople, eEvents, eRows, eWords, eLeaks, eRuns, rB, rI] at *
  refine wk0 hc (And.intro c1 (And.intro c2 (And.intro c3 (And.intro c4 c5)))) trivial
  all_goals (try simp only [go_sem, ↓reduceIte])
end Go.Proofs.YtokifenilhlgbaaGreatDoor.Abs
end
section
/- The landed nsb, over values without addresses: a ticket is taken, all of it. -/
set_option linter.unusedSimpArgs false
set_option linter.unusedVariables false
set_option maxRecDepth 100000
namespace Go.Proofs.YtokifenilhlgbaaGreatDoor.Abs
open Go.RowKit
def tookR (w : Wld) (t : Prt) : Run := ⟨1, 2, t.a, drawnW w, 0, 0, t.k, t.t, 2⟩
def tookU (w : Wld) (me : Int) (t : Prt) : Wld := logW (withW (echN w t).1 (tookP (personW w me) t.k (tookR w t))) ⟨3, 1, 2, t.a, (personW w me).name, t.k, t.t, 0, drawnW w, (personW w me).clock⟩
theorem ticketW_acc (w : Wld) (me : Int) (m : Mssg) (hn : (personW w me).name = me) : ticketW w me m = if accE w me m ≠ 0 then (w, accE w me m) else if (echN w (tickP w me m).1).2.2 ≠ 0 then (w, (echN w (tickP w me m).1).2.2) else (tookN w me (tickP w me m).1, 0) := by
  unfold ticketW ticketOf accE
  rw [hn]
  by_cases h1 : (tickP w me m).2 = false
  · rw [if_pos h1, if_pos h1, if_pos (by decide)]
  rw [if_neg h1, if_neg h1]
  by_cases h2 : pairPl w.people (tickP w me m).1.a me = false
  · rw [if_pos h2, if_pos h2, if_pos (by decide)]
  rw [if_neg h2, if_neg h2]
  by_cases h3 : freshI (personW w me).clock (tickP w me m).1.t w.conf.window = false
  · rw [if_pos h3, if_pos h3, if_pos (by decide)]
  rw [if_neg h3, if_neg h3]
  by_cases h4 : mayU (personW w me).used w.conf.used (tickP w me m).1.k ≠ 0
  · rw [if_pos h4, if_pos h4, if_pos h4]
  rw [if_neg h4, if_neg h4]
  by_cases h5 : w.conf.runs ≤ ((personW w me).runs.length : Int) ∨ roomW w 1 1 = false
  · rw [if_pos h5, if_pos h5, if_pos (by decide)]
  rw [if_neg h5, if_neg h5]
  exact (if_neg (show ¬ (0 : Int) ≠ 0 by decide)).symm
theorem accE_zero {w : Wld} {me : Int} {m : Mssg} (h : accE w me m = 0) : mayU (personW w me).used w.conf.used (tickP w me m).1.k = 0 ∧ ¬ w.conf.runs ≤ ((personW w me).runs.length : Int) ∧ roomW w 1 1 = true := by
  unfold accE at h
  split at h
  · exact absurd h (by decide)
  split at h
  · exact absurd h (by decide)
  split at h
  · exact absurd h (by decide)
  split at h
  · rename_i h4; exact absurd h h4
  rename_i h4
  split at h
  · exact absurd h (by decide)
  rename_i h5
  refine ⟨Decidable.not_not.1 h4, fun e => h5 (.inl e), ?_⟩
  cases e : roomW w 1 1
  · exact absurd (.inr e) h5
  · rfl
set_option maxHeartbeats 16000000 in
theorem p16_take (w : Wld) (me : Int) (m : Mssg) (h : Good 10 w) (h1 : 1 ≤ me) (h2 : me < (w.people.length : Int)) : ∃ D : Resp, ((ticketW w me m).2 = 0 → (ticketW w me m).1 = D.w) ∧ ∀ bb, ACalls Tryz.prog 23 [.one (rawV bb 0), .one (u32 m.box)]
    (.bx [(bb, .cells (eResp ⟨w, personW w me, run0⟩))] [(bb, .cells (eResp D))] [.one (i64 (ticketW w me m).2)]) := by
  obtain ⟨j, p, e1, e2, e3, e4⟩ := person_at h.ppl (n := me) (by omega) h2
  have hname : (personW w me).name = me := by rw [e3, e4, e1]
  clear e1 e2 e3 e4
  have hp := h.person me
  have c1 := fun bb => p16_accept w me m h bb
  rw [ticketW_acc w me m hname]
  by_cases ha : accE w me m = 0
  rotate_left
  · rw [if_pos ha]
    refine ⟨⟨w, personW w me, run0⟩, fun e => absurd e ha, fun bb => ?_⟩
    have c1 := c1 bb
    rw [accR_no rfl ha] at c1
    have ha' : (accE w me m != 0) = true := by simp [ha]
    clear h hp hname ha
    refine ACalls.introX (fn := Tryz.f23) Tryz.func23 rfl rfl (by simp [Tryz.f23]) ?_
    generalize accE w me m = e at *
    generalize personW w me = P at *
    unfold Tryz.f23
    simp only [rawV, insOf, setBs, eResp, run0, eWld, ePerson, ePrt, eSealeds, eGrams, ePeople, eEvents, eRows, eWords, eLeaks, eRuns, rB, rI] at *
    refine wk0 ha' c1 trivial
    all_goals (try simp only [go_sem, ↓reduceIte])
  rw [if_neg (by simp [ha])]
  rw [accR_ok ha, ha] at c1
  obtain ⟨hu, hc, hrm⟩ := accE_zero ha
  clear ha
  generalize (tickP w me m).1 = t at *
  have c2 := p12_draw w h.small.small.next
  have g0 : Good 9 (drawW w) := h.draw
  have c3 := p12_seal (drawW w) t.k 4 ⟨drawnW w, 0, 0, 0, 0, 0, 0⟩ g0.small.small g0.box
  rw [show sealW (drawW w) t.k 4 ⟨drawnW w, 0, 0, 0, 0, 0, 0⟩ = echN w t from rfl] at c3
  by_cases hz : (echN w t).2.2 = 0
  rotate_left
  · refine ⟨⟨drawW w, personW w me, tookR w t⟩, fun e => ?_, fun bb => ?_⟩
    · rw [if_pos hz] at e; exact absurd e hz
    rw [if_pos hz]
    have c1 := c1 bb
    have hz' : ((echN w t).2.2 != 0) = true := by simp [hz]
    clear h hp hname hu hc hrm g0 hz
    simp only [tookR] at *
    refine ACalls.introX (fn := Tryz.f23) Tryz.func23 rfl rfl (by simp [Tryz.f23]) ?_
    generalize echN w t = v at *
    generalize personW w me = P at *
    generalize drawW w = d at *
    generalize drawnW w = n at *
    unfold Tryz.f23
    simp only [rawV, insOf, setBs, eResp, run0, eWld, ePerson, ePrt, eSealeds, eGrams, ePeople, eEvents, eRows, eWords, eLeaks, eRuns, rB, rI] at *
    refine wk0 hz' (And.intro c1 (And.intro c2 c3)) trivial
    all_goals (try simp only [go_sem, ↓reduceIte])
  rw [if_neg (by simp [hz])]
  have g1 : Good 8 (echN w t).1 := g0.sealS _ _ _
  have cf : (echN w t).1.conf = w.conf := (sealW_rest _ _ _ _).2.1
  have c4 := p08_note 0 (personW w me).used (echN w t).1.conf.used t.k (by omega)
  have hu2 : mayU (personW w me).used (echN w t).1.conf.used t.k = 0 := by rw [cf]; exact hu
  unfold noteC at c4
  rw [if_pos hu2, hu2] at c4
  have c5 := p09_add 0 (personW w me).runs (echN w t).1.conf.runs (tookR w t) (by omega)
  have hadd : addR (personW w me).runs (echN w t).1.conf.runs (tookR w t) = ((personW w me).runs ++ [tookR w t], 0) := by
    unfold addR
    rw [cf, if_neg (by unfold tookR runMay; simp), if_neg hc]
  unfold addC at c5
  rw [hadd, if_pos rfl] at c5
  have hpp : (tookP (personW w me) t.k (tookR w t)).used.length + 8 ≤ 1000 ∧ (tookP (personW w me) t.k (tookR w t)).runs.length + 8 ≤ 1000 := ⟨by show ((personW w me).used ++ [t.k]).length + 8 ≤ 1000; rw [List.length_append]; simp; omega, by show ((personW w me).runs ++ [tookR w t]).length + 8 ≤ 1000; rw [List.length_append]; simp; omega⟩
  have g2 : Good 8 (withW (echN w t).1 (tookP (personW w me) t.k (tookR w t))) := g1.with_ _ hpp
  have g3 : Good 7 (tookU w me t) := g2.log_ _
  have hnet : ¬ (tookU w me t).net.room ≤ ((tookU w me t).net.grams.length : Int) := by
    rw [show (tookU w me t).net = w.net from (withW_net (echN w t).1 _).1.trans (sealW_rest _ _ _ _).2.2.1]
    have := (roomW_iff hrm).2; omega
  have hsend := send_room (w := tookU w me t) (t := t.a) (m := ⟨4, 0, 0, 0, 0, (echN w t).2.1, 0⟩) (by unfold mayM; rfl) hnet
  have hres : tookN w me t = sentW (tookU w me t) t.a ⟨4, 0, 0, 0, 0, (echN w t).2.1, 0⟩ := by
    unfold tookU
    rw [show (⟨3, 1, 2, t.a, (personW w me).name, t.k, t.t, 0, drawnW w, (personW w me).clock⟩ : Event) = ⟨3, 1, 2, t.a, me, t.k, t.t, 0, drawnW w, (personW w me).clock⟩ from by rw [hname]]
    rfl
  have c7 := p12_send (tookU w me t) t.a ⟨4, 0, 0, 0, 0, (echN w t).2.1, 0⟩ g3.net g3.small.small.grams g3.small.small.seen
  rw [hres]
  rw [hsend] at c7
  refine ⟨⟨sentW (tookU w me t) t.a ⟨4, 0, 0, 0, 0, (echN w t).2.1, 0⟩, tookP (personW w me) t.k (tookR w t), tookR w t⟩, fun _ => rfl, fun bb => ?_⟩
  have c1 := c1 bb
  have c6 := p16_note bb ⟨(echN w t).1, tookP (personW w me) t.k (tookR w t), tookR w t⟩ 3 (tookU w me t) (by rfl) ⟨by show (tookP (personW w me) t.k (tookR w t)).used.length ≤ 1000000; omega, by show (tookP (personW w me) t.k (tookR w t)).runs.length ≤ 1000000; omega⟩ g1.ppl g2.small.small.log
  rw [hz] at c3
  clear hsend hres hnet g0 g1 g2 g3 hpp hname hadd hu hu2 hc hrm cf h hp hz
  simp only at c6 c7
  generalize sentW (tookU w me t) t.a ⟨4, 0, 0, 0, 0, (echN w t).2.1, 0⟩ = z at *
  generalize tookU w me t = u at *
  simp only [tookR] at *
  generalize echN w t = v at *
  generalize drawW w = d at *
  generalize drawnW w = n at *
  generalize personW w me = P at *
  refine ACalls.introX (fn := Tryz.f23) Tryz.func23 rfl rfl (by simp [Tryz.f23]) ?_
  unfold Tryz.f23
  simp only [rawV, insOf, setBs, eResp, tookP, run0, eWld, ePerson, eMssg, ePrt, eSealeds, eGrams, ePeople, eEvents, eRows, eWords, eLeaks, eRuns, eRun, eWord, List.map_append, List.map_cons, List.map_nil, rB, rI] at *
  refine wk0 trivial (And.intro c1 (And.intro c2 (And.intro c3 (And.intro c4 (And.intro c5 (And.intro c6 c7)))))) trivial
  all_goals (try simp only [go_sem, ↓reduceIte])
end Go.Proofs.YtokifenilhlgbaaGreatDoor.Abs
end
section
/- The landed nsb, over values without addresses: Ticket, Back. -/
set_option linter.unusedSimpArgs false
set_option linter.unusedVariables false
set_option maxRecDepth 100000
namespace Go.Proofs.YtokifenilhlgbaaGreatDoor.Abs
open Go.RowKit
set_option maxHeartbeats 8000000 in
theorem p16_ticket (w : Wld) (me : Int) (m : Mssg) (hf : formW w = true) (h : SmallN 10 w) (h1 : 1 ≤ me) (h2 : me < (w.people.length : Int)) (hk : m.kind = 3) (hm : mayM m = true) : ACalls Tryz.prog 9 [.agg (eWld w), .one (u32 me), .agg (eMssg m)] (.tup [.agg (eWld (ticketW w me m).1), .one (i64 (ticketW w me m).2)]) := by
  refine ACalls.intro (fn := Tryz.f9) Tryz.func9 rfl rfl (by simp [Tryz.f9]) ?_
  have hg := Good.of hf h (by decide)
  have hp := hg.person me
  have c1 := p12_person w me ⟨by omega, by omega⟩ hg.ppl
  obtain ⟨E, hE, c3⟩ := p16_take w me m hg h1 h2
  obtain ⟨v, q, hvq⟩ : ∃ v q, ticketW w me m = (v, q) := ⟨_, _, rfl⟩
  have hgo : (q ≠ 0 ∧ v = w) ∨ (q = 0 ∧ v = E.w) := by
    by_cases hz : q = 0
    · refine .inr ⟨hz, ?_⟩
      have := hE (by rw [hvq]; exact hz)
      rw [hvq] at this
      exact this
    · refine .inl ⟨hz, ?_⟩
      have := ticketW_err (w := w) (me := me) (m := m) (by rw [hvq]; exact hz)
      rw [hvq] at this
      exact this
  rw [hvq] at c3 ⊢
  clear hvq hE hg hp hf h h1 h2 hk hm
  simp only at c3 ⊢
  unfold Tryz.f9
  generalize personW w me = P at *
  simp only [eWld, eMssg, ePerson, eResp, run0, eSealeds, eGrams, ePeople, eEvents, eRows, eWords, eLeaks, eRuns, rI, rawV] at *
  refine wk1 trivial c1 (@AW.halt 2) _ ?_
  all_goals (repeat intro h)
  all_goals refine ⟨?_⟩
  refine AWs.mk (AW.name 15 rfl ?_ ?_ fun bb hb => ?_)
  · simp only [go_sem, ↓reduceIte]
  · intro b; simp only [go_sem, ↓reduceIte]
  clear hb
  refine AW.lessW ⟨28, (upd (upd (upd (upd (upd (fun _ => .junk) 3 (.one (.ptr 3 0))) 5 (.one (.ptr 5 0))) 6 (.one (.ptr 6 0))) 7 (.one (.c (i64 0)))) 8 (.one (.c (rawV bb 0)))), (upd (upd (upd (upd (fun _ => none) 3 (some (.box [A.c (u32 w.conf.window), A.c (i64 w.conf.people), A.c (i64 w.conf.box), A.c (i64 w.conf.used), A.c (i64 w.conf.runs), A.c (i64 w.conf.net), A.c (i64 w.conf.regs), A.c (CV.row (List.map eWord w.draws.list)), A.c (i64 w.draws.next), A.c (i64 w.box.room), A.c (CV.row (List.map eSealed w.box.entries)), A.c (i64 w.net.room), A.c (CV.row (List.map eGram w.net.grams)), A.c (CV.row (List.map eSeen w.net.seen)), A.c (CV.row (List.map ePerson w.people)), A.c (CV.row (List.map eEvent w.log)), A.c (CV.row (List.map eSeen w.regs)), A.c (CV.row (List.map eLeak w.leaks))]))) 5 (some (.box [A.c (u32 m.kind), A.c (u32 m.run), A.c (u32 m.a), A.c (u32 m.b), A.c (u32 m.nonce), A.c (u32 m.box), A.c (u32 m.more)]))) 6 (some (.box [A.c (u32 0), A.c (i64 0), A.c (i64 0), A.c (i64 0), A.c (i64 0), A.c (i64 0), A.c (i64 0), A.nil, A.c (i64 0), A.c (i64 0), A.nil, A.c (i64 0), A.nil, A.nil, A.nil, A.nil, A.nil, A.nil]))) (1000000+bb) (some (.obox [(u32 w.conf.window), (i64 w.conf.people), (i64 w.conf.box), (i64 w.conf.used), (i64 w.conf.runs), (i64 w.conf.net), (i64 w.conf.regs), (CV.row (List.map eWord w.draws.list)), (i64 w.draws.next), (i64 w.box.room), (CV.row (List.map eSealed w.box.entries)), (i64 w.net.room), (CV.row (List.map eGram w.net.grams)), (CV.row (List.map eSeen w.net.seen)), (CV.row (List.map ePerson w.people)), (CV.row (List.map eEvent w.log)), (CV.row (List.map eSeen w.regs)), (CV.row (List.map eLeak w.leaks)), u32 P.name, u32 P.key, u32 P.clock, CV.row (List.map eWord P.used), CV.row (List.map eRun P.runs), bl P.corrupt, i64 0, i64 0, u32 0, u32 0, u32 0, u32 0, u32 0, u32 0, i64 0])))⟩ (by exact lz trivial) ?_
  have c4 := c3 bb
  clear c1 c3
  simp only [rawV] at *
  rcases hgo with ⟨hz, rfl⟩ | ⟨hz, rfl⟩
  · have hz' : (q != 0) = true := by simp [hz]
    refine wk0 hz' c4 trivial
  · subst hz
    refine wk0 trivial c4 trivial
set_option maxHeartbeats 8000000 in
theorem p16_back (w : Wld) (me : Int) (m : Mssg) (hf : formW w = true) (h : SmallN 10 w) (h1 : 1 ≤ me) (h2 : me < (w.people.length : Int)) (hk : m.kind = 5) (hm : mayM m = true) : ACalls Tryz.prog 12 [.agg (eWld w), .one (u32 me), .agg (eMssg m)] (.tup [.agg (eWld (backW w me m).1), .one (i64 (backW w me m).2)]) := by
  refine ACalls.intro (fn := Tryz.f12) Tryz.func12 rfl rfl (by simp [Tryz.f12]) ?_
  have hg := Good.of hf h (by decide)
  have hp := hg.person me
  have c1 := p12_person w me ⟨by omega, by omega⟩ hg.ppl
  obtain ⟨E, hE, c3⟩ := p16_commit w me m hg h1 h2
  obtain ⟨v, q, hvq⟩ : ∃ v q, backW w me m = (v, q) := ⟨_, _, rfl⟩
  have hgo : (q ≠ 0 ∧ v = w) ∨ (q = 0 ∧ v = E.w) := by
    by_cases hz : q = 0
    · refine .inr ⟨hz, ?_⟩
      have := hE (by rw [hvq]; exact hz)
      rw [hvq] at this
      exact this
    · refine .inl ⟨hz, ?_⟩
      have := backW_err (w := w) (me := me) (m := m) (by rw [hvq]; exact hz)
      rw [hvq] at this
      exact this
  rw [hvq] at c3 ⊢
  clear hvq hE hg hp hf h h1 h2 hk hm
  simp only at c3 ⊢
  unfold Tryz.f12
  generalize personW w me = P at *
  simp only [eWld, eMssg, ePerson, eResp, run0, eSealeds, eGrams, ePeople, eEvents, eRows, eWords, eLeaks, eRuns, rI, rawV] at *
  refine wk1 trivial c1 (@AW.halt 2) _ ?_
  all_goals (repeat intro h)
  all_goals refine ⟨?_⟩
  refine AWs.mk (AW.name 15 rfl ?_ ?_ fun bb hb => ?_)
  · simp only [go_sem, ↓reduceIte]
  · intro b; simp only [go_sem, ↓reduceIte]
  clear hb
  refine AW.lessW ⟨28, (upd (upd (upd (upd (upd (fun _ => .junk) 3 (.one (.ptr 3 0))) 5 (.one (.ptr 5 0))) 6 (.one (.ptr 6 0))) 7 (.one (.c (i64 0)))) 8 (.one (.c (rawV bb 0)))), (upd (upd (upd (upd (fun _ => none) 3 (some (.box [A.c (u32 w.conf.window), A.c (i64 w.conf.people), A.c (i64 w.conf.box), A.c (i64 w.conf.used), A.c (i64 w.conf.runs), A.c (i64 w.conf.net), A.c (i64 w.conf.regs), A.c (CV.row (List.map eWord w.draws.list)), A.c (i64 w.draws.next), A.c (i64 w.box.room), A.c (CV.row (List.map eSealed w.box.entries)), A.c (i64 w.net.room), A.c (CV.row (List.map eGram w.net.grams)), A.c (CV.row (List.map eSeen w.net.seen)), A.c (CV.row (List.map ePerson w.people)), A.c (CV.row (List.map eEvent w.log)), A.c (CV.row (List.map eSeen w.regs)), A.c (CV.row (List.map eLeak w.leaks))]))) 5 (some (.box [A.c (u32 m.kind), A.c (u32 m.run), A.c (u32 m.a), A.c (u32 m.b), A.c (u32 m.nonce), A.c (u32 m.box), A.c (u32 m.more)]))) 6 (some (.box [A.c (u32 0), A.c (i64 0), A.c (i64 0), A.c (i64 0), A.c (i64 0), A.c (i64 0), A.c (i64 0), A.nil, A.c (i64 0), A.c (i64 0), A.nil, A.c (i64 0), A.nil, A.nil, A.nil, A.nil, A.nil, A.nil]))) (1000000+bb) (some (.obox [(u32 w.conf.window), (i64 w.conf.people), (i64 w.conf.box), (i64 w.conf.used), (i64 w.conf.runs), (i64 w.conf.net), (i64 w.conf.regs), (CV.row (List.map eWord w.draws.list)), (i64 w.draws.next), (i64 w.box.room), (CV.row (List.map eSealed w.box.entries)), (i64 w.net.room), (CV.row (List.map eGram w.net.grams)), (CV.row (List.map eSeen w.net.seen)), (CV.row (List.map ePerson w.people)), (CV.row (List.map eEvent w.log)), (CV.row (List.map eSeen w.regs)), (CV.row (List.map eLeak w.leaks)), u32 P.name, u32 P.key, u32 P.clock, CV.row (List.map eWord P.used), CV.row (List.map eRun P.runs), bl P.corrupt, i64 0, i64 0, u32 0, u32 0, u32 0, u32 0, u32 0, u32 0, i64 0])))⟩ (by exact lz trivial) ?_
  have c4 := c3 bb
  clear c1 c3
  simp only [rawV] at *
  rcases hgo with ⟨hz, rfl⟩ | ⟨hz, rfl⟩
  · have hz' : (q != 0) = true := by simp [hz]
    refine wk0 hz' c4 trivial
  · subst hz
    refine wk0 trivial c4 trivial
end Go.Proofs.YtokifenilhlgbaaGreatDoor.Abs
end
section
/- The reference of layer nsa, over values without addresses: Grant. -/
set_option linter.unusedSimpArgs false
set_option linter.unusedVariables false
set_option maxRecDepth 100000
namespace Go.Proofs.YtokifenilhlgbaaGreatDoor.Abs
open Go.RowKit
/-- A world that holds nothing. -/
abbrev zWld : List A := [.c (u32 0), .c (i64 0), .c (i64 0), .c (i64 0), .c (i64 0), .c (i64 0), .c (i64 0), .nil, .c (i64 0), .c (i64 0), .nil, .c (i64 0), .nil, .nil, .nil, .nil, .nil, .nil]
abbrev cWld (w : Wld) : List A := [.c (u32 w.conf.window), .c (i64 w.conf.people), .c (i64 w.conf.box), .c (i64 w.conf.used), .c (i64 w.conf.runs), .c (i64 w.conf.net), .c (i64 w.conf.regs), .c (.row (w.draws.list.map eWord)), .c (i64 w.draws.next), .c (i64 w.box.room), .c (.row (w.box.entries.map eSealed)), .c (i64 w.net.room), .c (.row (w.net.grams.map eGram)), .c (.row (w.net.seen.map eSeen)), .c (.row (w.people.map ePerson)), .c (.row (w.log.map eEvent)), .c (.row (w.regs.map eSeen)), .c (.row (w.leaks.map eLeak))]
abbrev cMssg (m : Mssg) : List A := [.c (u32 m.kind), .c (u32 m.run), .c (u32 m.a), .c (u32 m.b), .c (u32 m.nonce), .c (u32 m.box), .c (u32 m.more)]
abbrev cPrs (p : Person) : List A := [.c (u32 p.name), .c (u32 p.key), .c (u32 p.clock), .c (.row (p.used.map eWord)), .c (.row (p.runs.map eRun)), .c (bl p.corrupt)]
theorem SmallN.withR {N : Nat} {w : Wld} (h : SmallN N w) (p : Person) (i : Nat) (r : Run) : SmallN N (withR w p i r) := h.with_ _
end Go.Proofs.YtokifenilhlgbaaGreatDoor.Abs
end
section
/- The reference of layer nsb, over values without addresses: Ticket. -/
set_option linter.unusedSimpArgs false
set_option linter.unusedVariables false
set_option maxRecDepth 100000
namespace Go.Proofs.YtokifenilhlgbaaGreatDoor.Abs
open Go.RowKit
set_option maxHeartbeats 64000000 in
theorem q16_ticket (w : Wld) (me : Int) (m : Mssg) (h : SmallN 10 w) (h1 : rightB w.box = true) (h2 : rightN w.net = true) (hr : (personW w me).runs.length < 1000000) (hu : (personW w me).used.length < 1000000) : ACalls Tryz.prog 10 [.agg (eWld w), .one (u32 me), .agg (eMssg m)] (.tup [.agg (eWld (ticketW w me m).1), .one (i64 (ticketW w me m).2)]) := by
  refine ACalls.intro (fn := Tryz.f10) Tryz.func10 rfl rfl (by simp [Tryz.f10]) ?_
  have c1 := q12_person w me
  have o1 := q12_open w (personW w me).key 3 m.box h.plain
  have c4 := q12_roomq w 1 1 h1 h2
  have c5 := q12_draw w h.small.next
  have c2 := q10_pair w.people (tickP w me m).1.a me
  have c3 := q08_may 0 (personW w me).used w.conf.used (tickP w me m).1.k
  have fr := q05_fresh (personW w me).clock (tickP w me m).1.t w.conf.window
  have s1 : SmallN 9 (drawW w) := h.draw
  have s2 : SmallN 8 (echN w (tickP w me m).1).1 := s1.sealS _ _ _
  have c7 := q12_seal (drawW w) (tickP w me m).1.k 4 ⟨drawnW w, 0, 0, 0, 0, 0, 0⟩ s1.small
  change ACalls _ _ _ (.tup [.agg (eWld (echN w (tickP w me m).1).1), .one (u32 (echN w (tickP w me m).1).2.1), .one (i64 (echN w (tickP w me m).1).2.2)]) at c7
  change ACalls _ _ _ (.tup [.agg (ePrt (tickP w me m).1), .one (bl (tickP w me m).2)]) at o1
  have c10 := q12_with (echN w (tickP w me m).1).1 (tookP (personW w me) (tickP w me m).1.k ⟨1, 2, (tickP w me m).1.a, drawnW w, 0, 0, (tickP w me m).1.k, (tickP w me m).1.t, 2⟩) s2.small.people
  have c11 := q12_log _ ⟨3, 1, 2, (tickP w me m).1.a, me, (tickP w me m).1.k, (tickP w me m).1.t, 0, drawnW w, (personW w me).clock⟩ (s2.with_ (tookP (personW w me) (tickP w me m).1.k ⟨1, 2, (tickP w me m).1.a, drawnW w, 0, 0, (tickP w me m).1.k, (tickP w me m).1.t, 2⟩)).small.log
  have c12 := q12_send _ (tickP w me m).1.a ⟨4, 0, 0, 0, 0, (echN w (tickP w me m).1).2.1, 0⟩ ((s2.with_ (tookP (personW w me) (tickP w me m).1.k ⟨1, 2, (tickP w me m).1.a, drawnW w, 0, 0, (tickP w me m).1.k, (tickP w me m).1.t, 2⟩)).log_ ⟨3, 1, 2, (tickP w me m).1.a, me, (tickP w me m).1.k, (tickP w me m).1.t, 0, drawnW w, (personW w me).clock⟩).small.grams ((s2.with_ (tookP (personW w me) (tickP w me m).1.k ⟨1, 2, (tickP w me m).1.a, drawnW w, 0, 0, (tickP w me m).1.k, (tickP w me m).1.t, 2⟩)).log_ ⟨3, 1, 2, (tickP w me m).1.a, me, (tickP w me m).1.k, (tickP w me m).1.t, 0, drawnW w, (personW w me).clock⟩).small.seen
  clear s1 s2 h h1 h2
  unfold Tryz.f10
  unfold ticketW ticketOf tookN sentW
  generalize tickP w me m = tp at *
  obtain ⟨t, ok⟩ := tp
  simp only at *
  generalize echN w t = en at *
  obtain ⟨ew, eh, ee⟩ := en
  simp only at *
  generalize drawW w = v at *
  generalize drawnW w = k at *
  generalize personW w me = p at *
  generalize sendW (logW (withW ew (tookP p t.k ⟨1, 2, t.a, k, 0, 0, t.k, t.t, 2⟩)) ⟨3, 1, 2, t.a, me, t.k, t.t, 0, k, p.clock⟩) t.a ⟨4, 0, 0, 0, 0, eh, 0⟩ = z at *
  generalize logW (withW ew (tookP p t.k ⟨1, 2, t.a, k, 0, 0, t.k, t.t, 2⟩)) ⟨3, 1, 2, t.a, me, t.k, t.t, 0, k, p.clock⟩ = lw at *
  generalize withW ew (tookP p t.k ⟨1, 2, t.a, k, 0, 0, t.k, t.t, 2⟩) = ww at *
  generalize roomW w 1 1 = rm at *
  generalize mayU p.used w.conf.used t.k = mu at *
  generalize pairPl w.people t.a me = pr at *
  generalize freshI p.clock t.t w.conf.window = fi at *
  simp only [eWld, eMssg, ePrt, eEvent, tookP, ePerson, eSealeds, eGrams, ePeople, eEvents, eRows, eWords, eLeaks, eRuns, eRun, eWord, List.map_append, List.map_cons, List.map_nil, rB, rI] at *
  cases ok
  · rw [if_pos rfl]
    refine wk0 trivial (And.intro c1 o1) trivial
  rw [if_neg (by simp)]
  cases pr
  · rw [if_pos rfl]
    refine wk0 trivial (And.intro c1 (And.intro o1 c2)) trivial
  rw [if_neg (by simp)]
  cases fi
  · rw [if_pos rfl]
    refine wk0 trivial (And.intro c1 (And.intro o1 (And.intro c2 fr))) trivial
  rw [if_neg (by simp)]
  by_cases hm : mu = 0
  rotate_left
  · rw [if_pos hm]
    have hm' : (mu != 0) = true := by simp [hm]
    refine wk0 hm' (And.intro c1 (And.intro o1 (And.intro c2 (And.intro fr c3)))) trivial
  rw [if_neg (by simp [hm])]
  have hm' : (mu != 0) = false := by simp [hm]
  by_cases hc : w.conf.runs ≤ (p.runs.length : Int)
  · rw [if_pos (.inl hc)]
    refine wk0 (And.intro hm' hc) (And.intro c1 (And.intro o1 (And.intro c2 (And.intro fr (And.intro c3 c4))))) trivial
  cases rm
  · rw [if_pos (.inr rfl)]
    refine wk0 (And.intro hm' hc) (And.intro c1 (And.intro o1 (And.intro c2 (And.intro fr (And.intro c3 c4))))) trivial
  rw [if_neg (by simp [hc])]
  by_cases he : ee = 0
  rotate_left
  · rw [if_pos he]
    have he' : (ee != 0) = true := by simp [he]
    refine wk0 (And.intro hm' (And.intro hc he')) (And.intro c1 (And.intro o1 (And.intro c2 (And.intro fr (And.intro c3 (And.intro c4 (And.intro c5 c7))))))) trivial
  rw [if_neg (by simp [he])]
  have he' : (ee != 0) = false := by simp [he]
  refine wkx0 (And.intro hm' (And.intro hc he')) (And.intro c1 (And.intro o1 (And.intro c2 (And.intro fr (And.intro c3 (And.intro c4 (And.intro c5 (And.intro c7 (And.intro c10 (And.intro c11 c12)))))))))) trivial
end Go.Proofs.YtokifenilhlgbaaGreatDoor.Abs
end
section
/- The reference of layer nsb, over values without addresses: Back. -/
set_option linter.unusedSimpArgs false
set_option linter.unusedVariables false
set_option maxRecDepth 100000
namespace Go.Proofs.YtokifenilhlgbaaGreatDoor.Abs
open Go.RowKit
set_option maxHeartbeats 64000000 in
theorem q16_back (w : Wld) (me : Int) (m : Mssg) (h : SmallN 10 w) (hr : (personW w me).runs.length < 1000000) : ACalls Tryz.prog 13 [.agg (eWld w), .one (u32 me), .agg (eMssg m)] (.tup [.agg (eWld (backW w me m).1), .one (i64 (backW w me m).2)]) := by
  refine ACalls.intro (fn := Tryz.f13) Tryz.func13 rfl rfl (by simp [Tryz.f13]) ?_
  have c1 := q12_person w me
  have oo : ∀ k : Int, ACalls Tryz.prog 14 [.agg (eWld w), .one (u32 k), .one (u32 5), .one (u32 m.box)] (.tup [.agg (ePrt (openW w k 5 m.box).1), .one (bl (openW w k 5 m.box).2)]) := fun k => q12_open w k 5 m.box h.plain
  unfold Tryz.f13
  unfold backW
  generalize personW w me = p at *
  have hno : ∀ y : Run, backsN w m y = false → ¬ (y.proto = 1 ∧ y.role = 2 ∧ y.state = 2 ∧ (openW w y.k 5 m.box).1.n = y.mine) ∨ (openW w y.k 5 m.box).2 = false := fun y hy => by
    by_cases g1 : (openW w y.k 5 m.box).2 = false
    · exact .inr g1
    · left; rintro ⟨a1, a2, a3, a4⟩
      simp [backsN, a1, a2, a3, a4, g1] at hy
  rcases idx_or p.runs (backsN w m) with ⟨hn, ha⟩ | ⟨i, x, hf, hi, hx, hp, ha⟩
  · simp only [hn]
    clear h hn
    simp only [eWld, eMssg, ePrt, ePerson, eSealeds, eGrams, ePeople, eEvents, eRows, eWords, eLeaks, eRuns] at *
    refine wk1 trivial c1 trivial _ ?_
    all_goals (repeat intro h)
    all_goals refine ⟨?_⟩
    refine AW.loopW (fun n σ => ∃ k : Nat, n = p.runs.length - k ∧ k ≤ p.runs.length ∧ σ = ⟨93, (upd (upd (upd (upd (upd (upd (fun _ => .junk) 1 (.one (.c (u32 me)))) 3 (.one (.ptr 3 0))) 5 (.one (.ptr 5 0))) 6 (.one (.ptr 6 0))) 8 (.one (.ptr 8 0))) 9 (.one (.c (i64 k)))), (upd (upd (upd (upd (fun _ => none) 3 (some (.box (cWld w)))) 5 (some (.box (cMssg m)))) 6 (some (.box zWld))) 8 (some (.box (cPrs p))))⟩) (n := p.runs.length) _ ⟨0, rfl, Nat.zero_le _, rfl⟩ (by exact lz trivial) ?_
    rintro n σ ⟨k, rfl, hk, rfl⟩
    by_cases hlt : k < p.runs.length
    · obtain ⟨y, hy⟩ : ∃ y, p.runs[k]? = some y := ⟨_, List.getElem?_eq_getElem hlt⟩
      have hs := wrapI (x := (k : Int) + 1) (by omega) (by omega)
      have oy := oo y.k
      have hne := hno y (ha k y hy)
      clear oo ha hno
      generalize openW w y.k 5 m.box = O at *
      obtain ⟨e, oky⟩ := O
      rcases hne with hne | hne
      · simp only at hne
        cases oky
        · refine wk4 (And.intro hy (And.intro hlt (And.intro hs eRun.eq_1))) oy trivial _ _ _ _ ?_ ?_ ?_ ?_
          all_goals (repeat intro h)
          all_goals refine ⟨?_⟩
          all_goals refine ⟨p.runs.length - (k + 1), by omega, _, ⟨k + 1, rfl, by omega, rfl⟩, ?_⟩
          all_goals exact lz trivial
        · refine wk4 (And.intro hy (And.intro hlt (And.intro hs eRun.eq_1))) oy trivial _ _ _ _ ?_ ?_ ?_ ?_
          all_goals (repeat intro h)
          all_goals refine ⟨?_⟩
          all_goals refine ⟨p.runs.length - (k + 1), by omega, _, ⟨k + 1, rfl, by omega, rfl⟩, ?_⟩
          all_goals exact lz trivial
      · simp only at hne
        subst hne
        refine wk4 (And.intro hy (And.intro hlt (And.intro hs eRun.eq_1))) oy trivial _ _ _ _ ?_ ?_ ?_ ?_
        all_goals (repeat intro h)
        all_goals refine ⟨?_⟩
        all_goals refine ⟨p.runs.length - (k + 1), by omega, _, ⟨k + 1, rfl, by omega, rfl⟩, ?_⟩
        all_goals exact lz trivial
    · obtain rfl : k = p.runs.length := by omega
      refine wk0 trivial trivial trivial
  · simp only [hf, hi]
    have hil : i < p.runs.length := (List.getElem?_eq_some_iff.1 hx).1
    have oy := oo x.k
    have hpp : (x.proto = 1 ∧ x.role = 2 ∧ x.state = 2) ∧ (openW w x.k 5 m.box).2 = true ∧ (openW w x.k 5 m.box).1.n = x.mine := by
      simp only [backsN, Bool.and_eq_true, beq_iff_eq] at hp
      exact ⟨⟨hp.1, hp.2.1, hp.2.2.1⟩, hp.2.2.2⟩
    clear hp
    obtain ⟨⟨a1, a2, a3⟩, a4, a5⟩ := hpp
    generalize hE : openW w x.k 5 m.box = E at *
    obtain ⟨e, oke⟩ := E
    simp only at a4 a5
    subst a4
    have fr := q05_fresh p.clock x.t w.conf.window
    have cw := q15_with w p i { x with state := 3 } hil h.people hr
    have s1 : SmallN 10 (withR w p i { x with state := 3 }) := h.withR _ _ _
    have cl := q12_log _ ⟨4, 1, 2, x.peer, me, x.k, x.t, 0, x.mine, p.clock⟩ s1.small.log
    clear s1 h hf hi hE
    generalize logW (withR w p i { x with state := 3 }) ⟨4, 1, 2, x.peer, me, x.k, x.t, 0, x.mine, p.clock⟩ = lw at *
    generalize withR w p i { x with state := 3 } = ww at *
    generalize freshI p.clock x.t w.conf.window = fi at *
    simp only [eWld, eMssg, ePrt, ePerson, eEvent, eRun, eSealeds, eGrams, ePeople, eEvents, eRows, eWords, eLeaks, eRuns, rB] at *
    refine wk1 trivial c1 trivial _ ?_
    all_goals (repeat intro h)
    all_goals refine ⟨?_⟩
    refine AW.loopW (fun n σ => ∃ k : Nat, n = i - k ∧ k ≤ i ∧ σ = ⟨93, (upd (upd (upd (upd (upd (upd (fun _ => .junk) 1 (.one (.c (u32 me)))) 3 (.one (.ptr 3 0))) 5 (.one (.ptr 5 0))) 6 (.one (.ptr 6 0))) 8 (.one (.ptr 8 0))) 9 (.one (.c (i64 k)))), (upd (upd (upd (upd (fun _ => none) 3 (some (.box (cWld w)))) 5 (some (.box (cMssg m)))) 6 (some (.box zWld))) 8 (some (.box (cPrs p))))⟩) (n := i) _ ⟨0, rfl, Nat.zero_le _, rfl⟩ (by exact lz trivial) ?_
    rintro n σ ⟨k, rfl, hk, rfl⟩
    have hlt : k < p.runs.length := by omega
    have hs := wrapI (x := (k : Int) + 1) (by omega) (by omega)
    by_cases hki : k < i
    · obtain ⟨y, hy⟩ : ∃ y, p.runs[k]? = some y := ⟨_, List.getElem?_eq_getElem hlt⟩
      have hne := hno y (ha k y hki hy)
      have oz := oo y.k
      clear oo ha hno c1 fr cw cl hx oy
      generalize openW w y.k 5 m.box = O at *
      obtain ⟨f, oky⟩ := O
      rcases hne with hne | hne
      · simp only at hne
        cases oky
        · refine wk4 (And.intro hy (And.intro hlt (And.intro hs eRun.eq_1))) oz trivial _ _ _ _ ?_ ?_ ?_ ?_
          all_goals (repeat intro h)
          all_goals refine ⟨?_⟩
          all_goals refine ⟨i - (k + 1), by omega, _, ⟨k + 1, rfl, by omega, rfl⟩, ?_⟩
          all_goals exact lz trivial
        · refine wk4 (And.intro hy (And.intro hlt (And.intro hs eRun.eq_1))) oz trivial _ _ _ _ ?_ ?_ ?_ ?_
          all_goals (repeat intro h)
          all_goals refine ⟨?_⟩
          all_goals refine ⟨i - (k + 1), by omega, _, ⟨k + 1, rfl, by omega, rfl⟩, ?_⟩
          all_goals exact lz trivial
      · simp only at hne
        subst hne
        refine wk4 (And.intro hy (And.intro hlt (And.intro hs eRun.eq_1))) oz trivial _ _ _ _ ?_ ?_ ?_ ?_
        all_goals (repeat intro h)
        all_goals refine ⟨?_⟩
        all_goals refine ⟨i - (k + 1), by omega, _, ⟨k + 1, rfl, by omega, rfl⟩, ?_⟩
        all_goals exact lz trivial
    · obtain rfl : k = i := by omega
      have t1 : (x.proto != 1) = false := by simp [a1]
      have t2 : (x.role != 2) = false := by simp [a2]
      have t3 : (x.state != 2) = false := by simp [a3]
      have t4 : (e.n != x.mine) = false := by simp [a5]
      clear a1 a2 a3 a5 ha hno c1 oo
      cases fi
      · rw [if_pos rfl]
        refine wk0 (And.intro hx (And.intro hlt (And.intro hs (And.intro t1 (And.intro t2 (And.intro t3 (And.intro t4 eRun.eq_1))))))) (And.intro oy fr) trivial
      rw [if_neg (by simp)]
      refine wk0 (And.intro hx (And.intro hlt (And.intro hs (And.intro t1 (And.intro t2 (And.intro t3 (And.intro t4 eRun.eq_1))))))) (And.intro oy (And.intro fr (And.intro cw cl))) trivial
end Go.Proofs.YtokifenilhlgbaaGreatDoor.Abs
end
section
/- The reference of layer desk, over values without addresses: New. -/
set_option linter.unusedSimpArgs false
set_option linter.unusedVariables false
set_option maxRecDepth 100000
namespace Go.Proofs.YtokifenilhlgbaaGreatDoor.Abs
open Go.RowKit
def newW (c : Conf) (l : List Int) (n r : Nat) : Wld := ⟨c, ⟨l, (n : Int)⟩, ⟨c.box, []⟩, ⟨c.net, [], []⟩, newPl l 0 n, [], List.replicate r [], []⟩
theorem map_rep (k : Nat) : (List.replicate k ([] : List Int)).map eSeen = List.replicate k [.row []] := by simp [eSeen, eWords]
set_option maxHeartbeats 4000000 in
theorem q12_new (c : Conf) (l : List Int) (n r : Nat) (h1 : c.people = n) (h2 : n ≤ 100) (h3 : c.regs = r) (h4 : r ≤ 1000) : ACalls Tryz.prog 17 [.agg (eConf c), .one (eWords l)] (.one (.agg (eWld (newW c l n r)))) := by
  refine ACalls.intro (fn := Tryz.f17) Tryz.func17 rfl rfl (by simp [Tryz.f17]) ?_
  have hq := q10_new l 0 n h2 (by omega)
  rw [Nat.zero_add] at hq
  unfold Tryz.f17
  obtain ⟨c1, c2, c3, c4, c5, c6, c7⟩ := c
  simp only at h1 h3
  subst h1 h3
  simp only [newW, eWld, eConf, eDraws, eSealeds, eGrams, ePeople, eEvents, eRows, eWords, eLeaks, map_rep] at *
  generalize newPl l 0 n = ppl at *
  refine wk1 trivial hq trivial _ ?_
  all_goals (repeat intro h)
  all_goals refine ⟨?_⟩
  refine AW.loopW (fun z σ => ∃ k : Nat, z = r - k ∧ k ≤ r ∧ ((k = 0 ∧ σ = ⟨43, (upd (upd (upd (upd (fun _ => .junk) 2 (.one (.ptr 2 0))) 4 (.one (.ptr 4 0))) 5 (.one (.ptr 5 0))) 8 (.one (.c (i64 k)))), (upd (upd (upd (fun _ => none) 2 (some (.box [.c (u32 c1), .c (i64 (n : Int)), .c (i64 c3), .c (i64 c4), .c (i64 c5), .c (i64 c6), .c (i64 (r : Int))]))) 4 (some (.box [.c (u32 0), .c (i64 0), .c (i64 0), .c (i64 0), .c (i64 0), .c (i64 0), .c (i64 0), .nil, .c (i64 0), .c (i64 0), .nil, .c (i64 0), .nil, .nil, .nil, .nil, .nil, .nil]))) 5 (some (.box [.c (u32 c1), .c (i64 (n : Int)), .c (i64 c3), .c (i64 c4), .c (i64 c5), .c (i64 c6), .c (i64 (r : Int)), .c (.row (l.map eWord)), .c (i64 (n : Int)), .c (i64 c3), .nil, .c (i64 c6), .nil, .nil, .c (.row (ppl.map ePerson)), .nil, .nil, .nil])))⟩) ∨
      (0 < k ∧ σ = ⟨43, (upd (upd (upd (upd (fun _ => .junk) 2 (.one (.ptr 2 0))) 4 (.one (.ptr 4 0))) 5 (.one (.ptr 5 0))) 8 (.one (.c (i64 k)))), (upd (upd (upd (upd (fun _ => none) 2 (some (.box [.c (u32 c1), .c (i64 (n : Int)), .c (i64 c3), .c (i64 c4), .c (i64 c5), .c (i64 c6), .c (i64 (r : Int))]))) 4 (some (.box [.c (u32 0), .c (i64 0), .c (i64 0), .c (i64 0), .c (i64 0), .c (i64 0), .c (i64 0), .nil, .c (i64 0), .c (i64 0), .nil, .c (i64 0), .nil, .nil, .nil, .nil, .nil, .nil]))) 40 (some (.rows 25 1 (List.replicate k [.row []])))) 5 (some (.box [.c (u32 c1), .c (i64 (n : Int)), .c (i64 c3), .c (i64 c4), .c (i64 c5), .c (i64 c6), .c (i64 (r : Int)), .c (.row (l.map eWord)), .c (i64 (n : Int)), .c (i64 c3), .nil, .c (i64 c6), .nil, .nil, .c (.row (ppl.map ePerson)), .nil, .own 40 k, .nil])))⟩))) (n := r) _ ⟨0, rfl, Nat.zero_le _, .inl ⟨rfl, rfl⟩⟩ (by exact lz trivial) ?_
  rintro z σ ⟨k, rfl, hk, ⟨rfl, rfl⟩ | ⟨hk0, rfl⟩⟩
  · by_cases hlt : (0 : Int) < (r : Int)
    · refine wkx1 hlt trivial trivial _ ?_
      all_goals (repeat intro h)
      all_goals refine ⟨?_⟩
      refine ⟨r - 1, by omega, _, ⟨1, rfl, by omega, .inr ⟨by omega, rfl⟩⟩, ?_⟩
      simp only [List.replicate_succ, List.replicate_zero]
      exact lz trivial
    · obtain rfl : r = 0 := by omega
      refine wk1 hlt trivial trivial _ ?_
      all_goals (repeat intro h)
      all_goals refine ⟨?_⟩
      all_goals rfl
  · by_cases hlt : (k : Int) < (r : Int)
    · have hs := wrapI (x := (k : Int) + 1) (by omega) (by omega)
      refine wk1 (And.intro hlt hs) trivial trivial _ ?_
      all_goals (repeat intro h)
      all_goals refine ⟨?_⟩
      refine ⟨r - (k + 1), by omega, _, ⟨k + 1, rfl, by omega, .inr ⟨by omega, rfl⟩⟩, ?_⟩
      rw [List.replicate_succ']
      exact lz trivial
    · obtain rfl : k = r := by omega
      refine wk0 hlt trivial trivial
end Go.Proofs.YtokifenilhlgbaaGreatDoor.Abs
end
section
/- The reference of layer desk, over values without addresses: Same. -/
set_option linter.unusedSimpArgs false
set_option linter.unusedVariables false
set_option maxRecDepth 100000
namespace Go.Proofs.YtokifenilhlgbaaGreatDoor.Abs
open Go.RowKit
theorem wld_ext {a b : Wld} (h1 : a.conf = b.conf) (h2 : a.draws = b.draws) (h3 : a.box = b.box) (h4 : a.net = b.net) (h5 : a.people = b.people) (h6 : a.log = b.log) (h7 : a.regs = b.regs) (h8 : a.leaks = b.leaks) : a = b := by
  cases a; cases b; simp_all
set_option maxHeartbeats 16000000 in
theorem q12_same (a b : Wld) : ACalls Tryz.prog 11 [.agg (eWld a), .agg (eWld b)] (rB (decide (a = b))) := by
  refine ACalls.introF (fn := Tryz.f11) Tryz.func11 rfl rfl (by simp [Tryz.f11]) fun hf => ?_
  have hl : a.leaks.length ≤ 9223372036854775807 := Fine.rowC (f := eLeak) (k := 0) ((hf (.agg (eWld a)) (by simp) : FineCA (.agg (eWld a))) (eLeaks a.leaks) (by simp [eWld]))
  clear hf
  have hc := eqConfB_dec a.conf b.conf
  have s2 := q04_same a.draws b.draws
  have s3 := q07_same 0 a.box b.box
  have s4 := q06_same a.net b.net
  have s5 := q10_same 0 a.people b.people
  have s6 := q12_events a.log b.log
  have s7 := q01_rows a.regs b.regs
  have heq := eqok_conf
  have hel := eqok_leak
  unfold Tryz.f11
  simp only [eWld, eBoxC, eBox, eNet, eDraws, eSealeds, eGrams, ePeople, eEvents, eRows, eWords, eLeaks, rB, eqConfB] at *
  by_cases h1 : a.conf = b.conf
  rotate_left
  · rw [decide_eq_false h1] at hc
    rw [decide_eq_false (fun e => h1 (by rw [e]))]
    refine wk0 (And.intro heq hc) trivial trivial
  rw [decide_eq_true h1] at hc
  by_cases h2 : a.draws = b.draws
  rotate_left
  · rw [decide_eq_false h2] at s2
    rw [decide_eq_false (fun e => h2 (by rw [e]))]
    refine wk0 (And.intro heq hc) s2 trivial
  rw [decide_eq_true h2] at s2
  by_cases h3 : a.box = b.box
  rotate_left
  · rw [decide_eq_false h3] at s3
    rw [decide_eq_false (fun e => h3 (by rw [e]))]
    refine wk0 (And.intro heq hc) (And.intro s2 s3) trivial
  rw [decide_eq_true h3] at s3
  by_cases h4 : a.net = b.net
  rotate_left
  · rw [decide_eq_false h4] at s4
    rw [decide_eq_false (fun e => h4 (by rw [e]))]
    refine wk0 (And.intro heq hc) (And.intro s2 (And.intro s3 s4)) trivial
  rw [decide_eq_true h4] at s4
  by_cases h5 : a.people = b.people
  rotate_left
  · rw [decide_eq_false h5] at s5
    rw [decide_eq_false (fun e => h5 (by rw [e]))]
    refine wk0 (And.intro heq hc) (And.intro s2 (And.intro s3 (And.intro s4 s5))) trivial
  rw [decide_eq_true h5] at s5
  by_cases h6 : a.log = b.log
  rotate_left
  · rw [decide_eq_false h6] at s6
    rw [decide_eq_false (fun e => h6 (by rw [e]))]
    refine wk0 (And.intro heq hc) (And.intro s2 (And.intro s3 (And.intro s4 (And.intro s5 s6)))) trivial
  rw [decide_eq_true h6] at s6
  by_cases h7 : a.regs = b.regs
  rotate_left
  · rw [decide_eq_false h7] at s7
    rw [decide_eq_false (fun e => h7 (by rw [e]))]
    refine wk0 (And.intro heq hc) (And.intro s2 (And.intro s3 (And.intro s4 (And.intro s5 (And.intro s6 s7))))) trivial
  rw [decide_eq_true h7] at s7
  by_cases h8 : a.leaks.length = b.leaks.length
  rotate_left
  · have hne : ((a.leaks.length : Int) != (b.leaks.length : Int)) = true := by rw [bne_iff_ne]; omega
    rw [decide_eq_false (fun e => h8 (by rw [e]))]
    refine wk0 (And.intro heq (And.intro hc hne)) (And.intro s2 (And.intro s3 (And.intro s4 (And.intro s5 (And.intro s6 s7))))) trivial
  have hli : (a.leaks.length : Int) = (b.leaks.length : Int) := by omega
  refine wkx1 (And.intro heq (And.intro hc hli)) (And.intro s2 (And.intro s3 (And.intro s4 (And.intro s5 (And.intro s6 s7))))) trivial _ ?_
  all_goals (repeat intro h)
  all_goals refine ⟨?_⟩
  refine AW.loopW (fun n σ => ∃ k : Nat, n = a.leaks.length - k ∧ k ≤ a.leaks.length ∧ a.leaks.take k = b.leaks.take k ∧ σ = ⟨86, (upd (upd (upd (fun _ => .junk) 2 (.one (.ptr 2 0))) 3 (.one (.ptr 3 0))) 5 (.one (.c (i64 k)))), (upd (upd (fun _ => none) 2 (some (.box ((eWld a).map .c)))) 3 (some (.box ((eWld b).map .c))))⟩) (n := a.leaks.length) _ ⟨0, rfl, Nat.zero_le _, rfl, rfl⟩ (by simp only [eWld, eSealeds, eGrams, ePeople, eEvents, eRows, eWords, eLeaks, List.map_cons, List.map_nil]; exact lz trivial) ?_
  rintro n σ ⟨k, rfl, hk, ht, rfl⟩
  simp only [eWld, eSealeds, eGrams, ePeople, eEvents, eRows, eWords, eLeaks, List.map_cons, List.map_nil]
  by_cases hlt : k < a.leaks.length
  · obtain ⟨x, hx⟩ : ∃ x, a.leaks[k]? = some x := ⟨_, List.getElem?_eq_getElem hlt⟩
    obtain ⟨y, hy⟩ : ∃ y, b.leaks[k]? = some y := ⟨_, List.getElem?_eq_getElem (by omega)⟩
    have hlt2 : k < b.leaks.length := by omega
    have hs := wrapI (x := (k : Int) + 1) (by omega) (by omega)
    have hd0 := eqLeakB_dec x y
    unfold eqLeakB at hd0
    by_cases hxy : x = y
    · subst hxy
      refine wkx1 (And.intro hx (And.intro hy (And.intro hlt (And.intro hlt2 (And.intro hs (And.intro hel eLeak.eq_1)))))) trivial trivial _ ?_
      all_goals (repeat intro h)
      all_goals refine ⟨?_⟩
      refine ⟨a.leaks.length - (k + 1), by omega, _, ⟨k + 1, rfl, by omega, take_more ht hx hy, rfl⟩, ?_⟩
      try simp only [eWld, eSealeds, eGrams, ePeople, eEvents, eRows, eWords, eLeaks, List.map_cons, List.map_nil]
      exact lz trivial
    · rw [decide_eq_false hxy] at hd0
      rw [decide_eq_false (fun e => by subst e; rw [hx] at hy; exact hxy (Option.some.inj hy))]
      refine wk0 (And.intro hx (And.intro hy (And.intro hlt (And.intro hlt2 (And.intro hs (And.intro hel (And.intro hd0 eLeak.eq_1))))))) trivial trivial
  · obtain rfl : k = a.leaks.length := by omega
    have : a = b := wld_ext h1 h2 h3 h4 h5 h6 h7 (take_all h8 ht)
    rw [decide_eq_true this]
    refine wk0 trivial trivial trivial
end Go.Proofs.YtokifenilhlgbaaGreatDoor.Abs
end

