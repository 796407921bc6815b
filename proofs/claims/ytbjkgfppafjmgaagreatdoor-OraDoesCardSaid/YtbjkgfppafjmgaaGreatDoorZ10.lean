/- Texts that were merged: L10n, M1, G2, P17a, P17b, EqFnd, P17c, P17d, M2, M3, Q14, M4, P17, Q15b. -/
import Derived.Test.YtbjkgfppafjmgaaGreatDoorZ5
import Derived.Test.YtbjkgfppafjmgaaGreatDoorZ9
import Derived.Test.YtbjkgfppafjmgaaGreatDoorZ6
import Derived.Test.YtbjkgfppafjmgaaGreatDoorZ8
import Derived.Test.YtbjkgfppafjmgaaGreatDoorZ7
import Derived.Test.YtbjkgfppafjmgaaGreatDoorZ4
set_option linter.unusedSimpArgs false
set_option linter.unusedVariables false
set_option maxHeartbeats 16000000
set_option maxRecDepth 100000
namespace Go.Proofs.YtbjkgfppafjmgaaGreatDoor.Abs
open Go.RowKit
section
theorem right_names {l : List Person} (h : rightPl l = true) : l.length ≤ 7 ∧ ∀ (i : Nat) (x : Person), l[i]? = some x → x.name = (i : Int) := by
 unfold rightPl at h
 rw [Bool.and_eq_true, decide_eq_true_eq] at h
 obtain ⟨h1, h2, h3⟩ := h
 refine ⟨by omega, fun i x hx => ?_⟩
 have hi := (List.getElem?_eq_some_iff.1 hx).1
 rw [namesB_iff.1 h1 i x hx]
 exact IntWalk.u32_in _ (by omega)
theorem getPl_at {l : List Person} (h : rightPl l = true) {i : Nat} {x : Person} (hx : l[i]? = some x) : getPl l (i : Int) = (x, true) := by
 have hn := (right_names h).2
 cases hf : l.find? (fun p => p.name == (i : Int)) with
 | none =>
  have := List.find?_eq_none.1 hf x (List.mem_of_getElem? hx)
  rw [hn i x hx] at this
  simp at this
 | some y =>
  have h1 := List.find?_some hf
  obtain ⟨j, hj⟩ := List.mem_iff_getElem?.1 (List.mem_of_find?_eq_some hf)
  have h2 := hn j y hj
  rw [beq_iff_eq] at h1
  have : j = i := by omega
  subst this
  rw [hx] at hj
  cases hj
  unfold getPl; rw [hf]
theorem getPl_no {l : List Person} (h : rightPl l = true) {n : Int} (hn : (l.length : Int) ≤ n ∨ n < 0) : getPl l n = (person0, false) := by
 have : l.find? (fun p => p.name == n) = none := List.find?_eq_none.2 fun x hx => by
  obtain ⟨i, hi⟩ := List.mem_iff_getElem?.1 hx
  have h1 := (right_names h).2 i x hi
  have h2 := (List.getElem?_eq_some_iff.1 hi).1
  rw [beq_iff_eq]
  omega
 unfold getPl; rw [this]
theorem getPl_ok {l : List Person} (h : rightPl l = true) (n : Int) : (getPl l n).2 = decide (0 ≤ n ∧ n < (l.length : Int)) := by
 by_cases hn : 0 ≤ n ∧ n < (l.length : Int)
 ·obtain ⟨i, rfl⟩ : ∃ i : Nat, n = i := ⟨n.toNat, by omega⟩
  rw [getPl_at h (List.getElem?_eq_getElem (by omega)), decide_eq_true hn]
 ·rw [getPl_no h (by omega), decide_eq_false hn]
end
section
structure Act where
 draws : Nat
 seals : List Sealed
 who : Nat
 new : Person
 evs : List Event
 frames : List Gram
def actW (w : Wld) (a : Act) : Wld := { w with
 draws := ⟨w.draws.list, w.draws.next + (a.draws : Int)⟩
 box := ⟨w.box.room, w.box.entries ++ a.seals⟩
 net := ⟨w.net.room, w.net.grams ++ a.frames, w.net.seen ++ a.frames.map (·.words)⟩
 people := w.people.set a.who a.new
 log := w.log ++ a.evs }
theorem setPl_at {l : List Person} (hl : rightPl l = true) {i : Nat} {x p : Person} (hx : l[i]? = some x) (hp : p.name = (i : Int)) : setPl l p = (l.set i p, 0) := by
 have hn := (right_names hl).2
 have hi := (List.getElem?_eq_some_iff.1 hx).1
 have hxn := hn i x hx
 unfold setPl
 have hany : l.any (fun q => q.name == p.name) = true := List.any_eq_true.2 ⟨x, List.mem_of_getElem? hx, by simp [hxn, hp]⟩
 rw [hany]
 refine Prod.ext (List.ext_getElem? fun k => ?_) rfl
 rw [List.getElem?_map, List.getElem?_set]
 cases hk : l[k]? with
 | none =>
  have : l.length ≤ k := List.getElem?_eq_none_iff.1 hk
  rw [if_neg (by omega)]; rfl
 | some y =>
  have e2 := hn k y hk
  by_cases e : i = k
  ·subst e
   rw [hx] at hk; cases hk
   simp [hp, hxn, hi]
  ·rw [if_neg e]
   have : y.name ≠ p.name := by omega
   simp [this]
theorem withW_at {w : Wld} (hl : rightPl w.people = true) {i : Nat} {x p : Person} (hx : w.people[i]? = some x) (hp : p.name = (i : Int)) : withW w p = { w with people := w.people.set i p } := by
 unfold withW
 rw [setPl_at hl hx hp]
 rfl
theorem withW_to {w v : Wld} {i : Nat} {x p : Person} (hv : v.people = w.people) (hl : rightPl w.people = true) (hx : w.people[i]? = some x) (hp : p.name = (i : Int)) : withW v p = { v with people := w.people.set i p } := by
 rw [withW_at (hv ▸ hl) (by rw [hv]; exact hx) hp, hv]
theorem withR_to {w v : Wld} {i j : Nat} {x p : Person} {r : Run} (hv : v.people = w.people) (hl : rightPl w.people = true) (hx : w.people[i]? = some x) (hp : p.name = (i : Int)) : withR v p j r = { v with people := w.people.set i { p with runs := p.runs.set j r } } := withW_to hv hl hx hp
theorem sentW_ok {w : Wld} {to : Int} {m : Mssg} (hm : mayM m = true) (hr : ¬ w.net.room ≤ (w.net.grams.length : Int)) : sentW w to m = { w with net := ⟨w.net.room, w.net.grams ++ [⟨to, putL m⟩], w.net.seen ++ [putL m]⟩ } := by
 unfold sentW
 rcases sendW_cases w to m with ⟨h, _⟩ | ⟨_, h, _⟩ | ⟨_, _, h⟩
 ·rw [hm] at h; cases h
 ·exact absurd h hr
 ·rw [h]
theorem roomW_iff {w : Wld} {b f : Int} (h : roomW w b f = true) : b ≤ w.box.room - (w.box.entries.length : Int) ∧ f ≤ w.net.room - (w.net.grams.length : Int) := of_decide_eq_true h
theorem person_at {w : Wld} (hl : rightPl w.people = true) {n : Int} (h0 : 0 ≤ n) (h1 : n < (w.people.length : Int)) : ∃ (i : Nat) (p : Person), n = i ∧ w.people[i]? = some p ∧ personW w n = p ∧ p.name = (i : Int) := by
 obtain ⟨i, rfl⟩ : ∃ i : Nat, n = i := ⟨n.toNat, by omega⟩
 have hx : w.people[i]? = some w.people[i] := List.getElem?_eq_getElem (by omega)
 exact ⟨i, _, rfl, hx, by unfold personW; rw [getPl_at hl hx], (right_names hl).2 i _ hx⟩
theorem pairPl_iff {l : List Person} (h : rightPl l = true) {a b : Int} (hp : pairPl l a b = true) : a ≠ b ∧ 1 ≤ a ∧ 1 ≤ b ∧ a < (l.length : Int) ∧ b < (l.length : Int) := by
 unfold pairPl at hp
 rw [getPl_ok h, getPl_ok h] at hp
 simp only [Bool.and_eq_true, decide_eq_true_eq, bne_iff_ne] at hp
 omega
end
section
def run0 : Run := ⟨0, 0, 0, 0, 0, 0, 0, 0, 0⟩
theorem send_room {w : Wld} {t : Int} {m : Mssg} (hm : mayM m = true) (hr : ¬ w.net.room ≤ (w.net.grams.length : Int)) : sendW w t m = (sentW w t m, 0) := by
 rcases sendW_cases w t m with ⟨h, _⟩ | ⟨_, h, _⟩ | ⟨_, _, h⟩
 ·rw [hm] at h; cases h
 ·exact absurd h hr
 ·unfold sentW; rw [h]
theorem withW_net (w : Wld) (p : Person) : (withW w p).net = w.net ∧ (withW w p).log = w.log ∧ (withW w p).box = w.box ∧ (withW w p).conf = w.conf := by
 unfold withW
 split
 ·exact ⟨rfl, rfl, rfl, rfl⟩
 ·exact ⟨rfl, rfl, rfl, rfl⟩
end
section
structure Init where
 w : Wld
 me : Person
 run : Run
def eInit (s : Init) : List CV := [u32 s.w.conf.window, i64 s.w.conf.people, i64 s.w.conf.box, i64 s.w.conf.used, i64 s.w.conf.runs, i64 s.w.conf.net, i64 s.w.conf.regs, eWords s.w.draws.list, i64 s.w.draws.next, i64 s.w.box.room, eSealeds s.w.box.entries, i64 s.w.net.room, eGrams s.w.net.grams, eRows s.w.net.seen, ePeople s.w.people, eEvents s.w.log, eRows s.w.regs, eLeaks s.w.leaks, u32 s.me.name, u32 s.me.key, u32 s.me.clock, eWords s.me.used, eRuns s.me.runs, bl s.me.corrupt, i64 s.run.proto, i64 s.run.role, u32 s.run.peer, u32 s.run.mine, u32 s.run.their, u32 s.run.m, u32 s.run.k, u32 s.run.t, i64 s.run.state]
theorem p17_note (b : Nat) (s : Init) (kind : Int) (v : Wld) (hv : logW (withW s.w s.me) ⟨kind, 2, 1, s.me.name, s.run.peer, s.run.k, 0, s.run.m, s.run.mine, s.me.clock⟩ = v) (hp : PShort s.me) (hr : rightPl s.w.people = true) (hl : (withW s.w s.me).log.length < 1000000) : ACalls Tryz.prog 68 [.one (rawV b 0), .one (i64 kind)]
    (.bx [(b, .cells (eInit s))] [(b, .cells (eInit { s with w := v }))] []) := by
  refine ACalls.introX (fn := Tryz.f68) Tryz.func68 rfl rfl (by simp [Tryz.f68]) ?_
  have c1 := p12_with s.w s.me hp hr
  have c2 := p12_log (withW s.w s.me) ⟨kind, 2, 1, s.me.name, s.run.peer, s.run.k, 0, s.run.m, s.run.mine, s.me.clock⟩ hl
  rw [hv] at c2
  clear hp hr hl hv
  generalize withW s.w s.me = u at *
  obtain ⟨w, me, run⟩ := s
  unfold Tryz.f68
  simp only [rawV, insOf, setBs, eInit, eWld, ePerson, eEvent, eSealeds, eGrams, ePeople, eEvents, eRows, eWords, eLeaks, eRuns] at *
  refine wk T0 (J2 c1 c2) T0 (J5 ?_ ?_ ?_ ?_ T0)
  all_goals ((repeat intro h); refine ⟨?_⟩)
  all_goals simp only [go_sem, ↓reduceIte]
theorem p17_next (b : Nat) (s : Init) (fr : Int) : ACalls Tryz.prog 99 [.one (rawV b 0), .one (i64 fr)]
    (.bx [(b, .cells (eInit s))] [(b, .cells (eInit s))] [.one (i64 (nextRun s.me.runs fr 2 1 1).1), .one (bl (nextRun s.me.runs fr 2 1 1).2)]) := by
  refine ACalls.introX (fn := Tryz.f99) Tryz.func99 rfl rfl (by simp [Tryz.f99]) ?_
  have c1 := p09_next s.me.runs fr 2 1 1
  generalize nextRun s.me.runs fr 2 1 1 = n at *
  obtain ⟨w, me, run⟩ := s
  unfold Tryz.f99
  simp only [rawV, insOf, setBs, eInit, eSealeds, eGrams, ePeople, eEvents, eRows, eWords, eLeaks, eRuns] at *
  refine wk T0 c1 T0 T0
  all_goals simp only [go_sem, ↓reduceIte]
def eFnd (o : Prt × Bool) : List CV := [bl o.2, u32 o.1.n, u32 o.1.m, u32 o.1.a, u32 o.1.b, u32 o.1.k, u32 o.1.t, u32 o.1.h]
theorem p17_look (b : Nat) (s : Init) (box : Int) (hb : rightB s.w.box = true) : ACalls Tryz.prog 75 [.one (rawV b 0), .one (u32 box)]
    (.bx [(b, .cells (eInit s))] [(b, .cells (eInit s))] [.agg (eFnd (openW s.w s.me.key 9 box))]) := by
  refine ACalls.introX (fn := Tryz.f75) Tryz.func75 rfl rfl (by simp [Tryz.f75]) ?_
  have c1 := p12_open s.w s.me.key 9 box hb
  clear hb
  generalize openW s.w s.me.key 9 box = o at *
  obtain ⟨w, me, run⟩ := s
  unfold Tryz.f75
  simp only [rawV, insOf, setBs, eInit, eFnd, eWld, ePrt, eSealeds, eGrams, ePeople, eEvents, eRows, eWords, eLeaks, eRuns] at *
  refine wk T0 c1 T0 T0
  all_goals simp only [go_sem, ↓reduceIte]
theorem p17_due (b : Nat) (s : Init) (key : Int) : ACalls Tryz.prog 76 [.one (rawV b 0), .one (u32 key)]
    (.bx [(b, .cells (eInit s))] [(b, .cells (eInit s))] [.agg (eFnd (⟨s.run.mine, 0, 0, 0, key, 0, 0⟩, true))]) := by
  refine ACalls.introX (fn := Tryz.f76) Tryz.func76 rfl rfl (by simp [Tryz.f76]) ?_
  obtain ⟨w, me, run⟩ := s
  unfold Tryz.f76
  simp only [rawV, insOf, setBs, eInit, eFnd, eSealeds, eGrams, ePeople, eEvents, eRows, eWords, eLeaks, eRuns] at *
  refine wk T0 T0 T0 T0
  all_goals simp only [go_sem, ↓reduceIte]
end
section
theorem p17_waiting (b : Nat) (s : Init) (d : Int) (hm : s.me.runs.length < 1000000) (a : Int) (ok : Bool)
    (hE : ((∀ (i : Nat) (x : Run), s.me.runs[i]? = some x → (isKind 2 1 1 x && x.m == d) = false) ∧ a = 0 ∧ ok = false) ∨ ∃ k r, s.me.runs[k]? = some r ∧ (isKind 2 1 1 r && r.m == d) = true ∧ (∀ (i : Nat) (x : Run), i < k → s.me.runs[i]? = some x → (isKind 2 1 1 x && x.m == d) = false) ∧ a = (k : Int) ∧ ok = true) :
    ACalls Tryz.prog 74 [.one (rawV b 0), .one (u32 d)] (.bx [(b, .cells (eInit s))] [(b, .cells (eInit s))] [.one (i64 a), .one (bl ok)]) := by
  refine ACalls.introX (fn := Tryz.f74) Tryz.func74 rfl rfl (by simp [Tryz.f74]) ?_
  have c0 := fun fr => p17_next b s fr
  obtain ⟨w, me, run⟩ := s
  simp only at hm hE c0
  unfold Tryz.f74
  simp only [rawV, insOf, setBs, eInit, eWld, eSealeds, eGrams, ePeople, eEvents, eRows, eWords, eLeaks, eRuns, ePrt] at *
  generalize me.runs = L at *
  have c1 := c0 0
  refine wk T0 c1 T0 (J2 ?_ T0)
  all_goals ((repeat intro h); refine ⟨?_⟩)
  refine AW.loopW (fun n σ => ∃ f : Nat, n = L.length - f ∧ f ≤ L.length ∧ (∀ (i : Nat) (x : Run), i < f → L[i]? = some x → (isKind 2 1 1 x && x.m == d) = false) ∧ σ = ⟨33, (upd (upd (upd (upd (fun _ => .junk) 0 (.one (.c (rawV b 0)))) 1 (.one (.c (u32 d)))) 6 (.one (.c (i64 (nextRun L (f : Int) 2 1 1).1)))) 7 (.one (.c (bl (nextRun L (f : Int) 2 1 1).2)))), (upd (fun _ => none) (1000000+b) (some (.obox [u32 w.conf.window, i64 w.conf.people, i64 w.conf.box, i64 w.conf.used, i64 w.conf.runs, i64 w.conf.net, i64 w.conf.regs, CV.row (List.map eWord w.draws.list), i64 w.draws.next, i64 w.box.room, CV.row (List.map eSealed w.box.entries), i64 w.net.room, CV.row (List.map eGram w.net.grams), CV.row (List.map eSeen w.net.seen), CV.row (List.map ePerson w.people), CV.row (List.map eEvent w.log), CV.row (List.map eSeen w.regs), CV.row (List.map eLeak w.leaks), u32 me.name, u32 me.key, u32 me.clock, CV.row (List.map eWord me.used), CV.row (List.map eRun L), bl me.corrupt, i64 run.proto, i64 run.role, u32 run.peer, u32 run.mine, u32 run.their, u32 run.m, u32 run.k, u32 run.t, i64 run.state])))⟩) (n := L.length) _ ⟨0, rfl, Nat.zero_le _, fun i x hi => absurd hi (Nat.not_lt_zero i), rfl⟩ (by simp only [Int.natCast_zero]; exact lz T0) ?_
  rintro n σ ⟨f, rfl, hf, hno, rfl⟩
  have hle : ∀ m : Nat, m ≤ L.length → (∀ (i : Nat) (x : Run), i < f → L[i]? = some x → (isKind 2 1 1 x && x.m == d) = false) → noneTo L (f : Int) (isKind 2 1 1) m → ∀ (i : Nat) (x : Run), i < m → L[i]? = some x → (isKind 2 1 1 x && x.m == d) = false := fun m _ h1 h2 i x hi hx => by
    rcases Nat.lt_or_ge i f with h | h
    · exact h1 i x h hx
    · rw [h2 i x hi hx (by omega)]; rfl
  rcases idxFrom_cases L (f : Int) (isKind 2 1 1) with ⟨hn, hnone⟩ | ⟨k, x, hk, hnk, hx, hkl, hfk, hqx⟩
  · have hnx : nextRun L (f : Int) 2 1 1 = (0, false) := by unfold nextRun; rw [hn]
    have hall : ∀ (i : Nat) (x : Run), L[i]? = some x → (isKind 2 1 1 x && x.m == d) = false := fun i x hx => hle L.length (Nat.le_refl _) hno hnone i x (List.getElem?_eq_some_iff.1 hx).1 hx
    rcases hE with ⟨_, rfl, rfl⟩ | ⟨k, r, h1, h2, _⟩
    rotate_left
    · rw [hall k r h1] at h2; cases h2
    rw [hnx]
    clear hall hle hno
    refine wk T0 T0 T0 T0
    all_goals (try simp only [go_sem, ↓reduceIte])
  · have hnx : nextRun L (f : Int) 2 1 1 = ((k : Int), true) := by unfold nextRun; rw [hk]
    have hbel := hle k (by omega) hno hnk
    cases hq : x.m == d
    · have c2 := c0 ((k + 1 : Nat) : Int)
      have hw := wrapI (x := (k : Int) + 1) (by omega) (by omega)
      have hcast : ((k + 1 : Nat) : Int) = (k : Int) + 1 := by omega
      rw [hnx]
      generalize hnn : nextRun L ((k + 1 : Nat) : Int) 2 1 1 = nn at *
      rw [hcast] at c2
      have hstep : ∃ f', k + 1 = f' ∧ f' ≤ L.length ∧ (∀ (i : Nat) (y : Run), i < f' → L[i]? = some y → (isKind 2 1 1 y && y.m == d) = false) := by
        refine ⟨k + 1, rfl, by omega, fun i y hi hy => ?_⟩
        rcases Nat.lt_or_ge i k with h | h
        · exact hbel i y h hy
        · obtain rfl : i = k := by omega
          rw [hx] at hy; cases hy
          rw [hq, Bool.and_false]
      obtain ⟨f', rfl, hf', hno'⟩ := hstep
      clear hle hE hbel hno
      refine wk (J5 hx hkl hw eRun.eq_1 hq) c2 T0 (J2 ?_ T0)
      all_goals ((repeat intro h); refine ⟨?_⟩)
      refine ⟨L.length - (k + 1), by omega, _, ⟨k + 1, rfl, hf', hno', rfl⟩, ?_⟩
      rw [hnn]
      exact lz T0
    · have hkq : (isKind 2 1 1 x && x.m == d) = true := by rw [hqx, hq]; rfl
      rcases hE with ⟨h0, _⟩ | ⟨k', r', h1, h2, h3, rfl, rfl⟩
      · rw [h0 k x hx] at hkq; cases hkq
      obtain rfl : k' = k := by
        rcases Nat.lt_trichotomy k' k with h | h | h
        · rw [hbel k' r' h h1] at h2; cases h2
        · exact h
        · rw [h3 k x h hx] at hkq; cases hkq
      rw [hx] at h1
      cases h1
      rw [hnx]
      clear hle h3 hbel hno h2 hkq
      refine wk (J4 hx hkl eRun.eq_1 hq) T0 T0 T0
      all_goals (try simp only [go_sem, ↓reduceIte])
end
section
theorem sh_bool {us : List Value} {l : List (Option (Option IntKind))} (h : us.map shV = some none :: l) : ∃ a t, us = .bool a :: t ∧ t.map shV = l := by
 cases us with
 | nil => simp at h
 | cons x t =>
  simp only [List.map_cons, List.cons.injEq] at h
  obtain ⟨h1, h2⟩ := h
  cases x <;> simp [shV] at h1
  exact ⟨_, t, rfl, h2⟩
theorem eqr_fnd (a0 : Bool) (a1 : Int) (a2 : Int) (a3 : Int) (a4 : Int) (a5 : Int) (a6 : Int) (a7 : Int) (b0 : Bool) (b1 : Int) (b2 : Int) (b3 : Int) (b4 : Int) (b5 : Int) (b6 : Int) (b7 : Int) (w : World) : (Op.equal 144 (.agg #[.bool a0, .int .u32 a1, .int .u32 a2, .int .u32 a3, .int .u32 a4, .int .u32 a5, .int .u32 a6, .int .u32 a7]) (.agg #[.bool b0, .int .u32 b1, .int .u32 b2, .int .u32 b3, .int .u32 b4, .int .u32 b5, .int .u32 b6, .int .u32 b7])).run Tryz.prog w = .ok ((a0 == b0) && ((a1 == b1) && ((a2 == b2) && ((a3 == b3) && ((a4 == b4) && ((a5 == b5) && ((a6 == b6) && ((a7 == b7))))))))) w := by
 show (Op.equalIn 10000 144 (.agg #[.bool a0, .int .u32 a1, .int .u32 a2, .int .u32 a3, .int .u32 a4, .int .u32 a5, .int .u32 a6, .int .u32 a7]) (.agg #[.bool b0, .int .u32 b1, .int .u32 b2, .int .u32 b3, .int .u32 b4, .int .u32 b5, .int .u32 b6, .int .u32 b7])).run Tryz.prog w = _
 cases h0 : (a0 == b0) with
 | false => go_simp <;> simp [h0]
 | true =>
  cases h1 : (a1 == b1) with
  | false => go_simp <;> simp [h0, h1]
  | true =>
   cases h2 : (a2 == b2) with
   | false => go_simp <;> simp [h0, h1, h2]
   | true =>
    cases h3 : (a3 == b3) with
    | false => go_simp <;> simp [h0, h1, h2, h3]
    | true =>
     cases h4 : (a4 == b4) with
     | false => go_simp <;> simp [h0, h1, h2, h3, h4]
     | true =>
      cases h5 : (a5 == b5) with
      | false => go_simp <;> simp [h0, h1, h2, h3, h4, h5]
      | true =>
       cases h6 : (a6 == b6) with
       | false => go_simp <;> simp [h0, h1, h2, h3, h4, h5, h6]
       | true =>
        cases h7 : (a7 == b7) with
        | false => go_simp <;> simp [h0, h1, h2, h3, h4, h5, h6, h7]
        | true =>
         go_simp <;> simp [h0, h1, h2, h3, h4, h5, h6, h7]
theorem eqok_fnd : EqOK Tryz.prog 144 [some none, some (some .u32), some (some .u32), some (some .u32), some (some .u32), some (some .u32), some (some .u32), some (some .u32)] := by
 refine ⟨by kernel_rfl, fun us0 vs0 w p0 q0 => ?_⟩
 obtain ⟨a0, us1, rfl, p1⟩ := sh_bool p0
 obtain ⟨b0, vs1, rfl, q1⟩ := sh_bool q0
 obtain ⟨a1, us2, rfl, p2⟩ := sh_int p1
 obtain ⟨b1, vs2, rfl, q2⟩ := sh_int q1
 obtain ⟨a2, us3, rfl, p3⟩ := sh_int p2
 obtain ⟨b2, vs3, rfl, q3⟩ := sh_int q2
 obtain ⟨a3, us4, rfl, p4⟩ := sh_int p3
 obtain ⟨b3, vs4, rfl, q4⟩ := sh_int q3
 obtain ⟨a4, us5, rfl, p5⟩ := sh_int p4
 obtain ⟨b4, vs5, rfl, q5⟩ := sh_int q4
 obtain ⟨a5, us6, rfl, p6⟩ := sh_int p5
 obtain ⟨b5, vs6, rfl, q6⟩ := sh_int q5
 obtain ⟨a6, us7, rfl, p7⟩ := sh_int p6
 obtain ⟨b6, vs7, rfl, q7⟩ := sh_int q6
 obtain ⟨a7, us8, rfl, p8⟩ := sh_int p7
 obtain ⟨b7, vs8, rfl, q8⟩ := sh_int q7
 obtain rfl := sh_nil p8
 obtain rfl := sh_nil q8
 rw [eqr_fnd]
 simp [eqVs, eqV]
end
section
theorem open_share (w : Wld) (key box : Int) : (openW w key 9 box).2 = false ∨ ∃ n k, openW w key 9 box = (⟨n, 0, 0, 0, k, 0, 0⟩, true) := by
 unfold openW
 split
 ·rename_i h
  obtain ⟨_, h⟩ := h
  unfold getP at h ⊢
  rw [if_neg (by decide)] at h ⊢
  split at h
  ·exact absurd h (by decide)
  ·rename_i h2
   rw [if_neg h2]
   exact .inr ⟨_, _, rfl⟩
 ·exact .inl rfl
def doneS (k : Int) (r : Run) : Run := { r with k := k, state := 3 }
def doneV (w : Wld) (me : Int) (i : Nat) (k : Int) (r : Run) : Wld := logW (withW w { personW w me with runs := (personW w me).runs.set i (doneS k r) }) ⟨4, 2, 1, (personW w me).name, r.peer, k, 0, r.m, r.mine, (personW w me).clock⟩
theorem waitsO_kind (d : Int) (r : Run) : (isKind 2 1 1 r && r.m == d) = waitsO 1 d r := by
 unfold isKind waitsO
 simp only [Bool.and_assoc]
theorem p17_commit (w : Wld) (me : Int) (m : Mssg) (h : Good 10 w) (h1 : 1 ≤ me) (h2 : me < (w.people.length : Int)) : ∃ D : Init, ((shareAW w me m).2 = 0 → (shareAW w me m).1 = D.w) ∧ ∀ bb, ACalls Tryz.prog 35 [.one (rawV bb 0), .agg (eMssg m)]
    (.bx [(bb, .cells (eInit ⟨w, personW w me, run0⟩))] [(bb, .cells (eInit D))] [.one (i64 (shareAW w me m).2)]) := by
  have hp := h.person me
  have heq := eqok_fnd
  unfold shareAW
  have c2 := fun bb => p17_waiting bb ⟨w, personW w me, run0⟩ m.run (by show (personW w me).runs.length < 1000000; omega)
  rcases idx_or (personW w me).runs (waitsO 1 m.run) with ⟨hn, ha⟩ | ⟨i, r, hf, hi, hx, hw, ha⟩
  · simp only [hn]
    refine ⟨⟨w, personW w me, run0⟩, fun _ => rfl, fun bb => ?_⟩
    have c2' := c2 bb 0 false (.inl ⟨fun i x hx => (waitsO_kind m.run x).trans (ha i x hx), rfl, rfl⟩)
    clear c2 ha hn h hp heq
    refine ACalls.introX (fn := Tryz.f35) Tryz.func35 rfl rfl (by simp [Tryz.f35]) ?_
    generalize personW w me = P at *
    unfold Tryz.f35
    simp only [rawV, insOf, setBs, eInit, run0, eWld, ePerson, eMssg, ePrt, eSealeds, eGrams, ePeople, eEvents, eRows, eWords, eLeaks, eRuns, rB, rI] at *
    refine wk T0 c2' T0 T0
    all_goals (try simp only [go_sem, ↓reduceIte])
  simp only [hf, hi]
  have hlt : i < (personW w me).runs.length := (List.getElem?_eq_some_iff.1 hx).1
  have c2' := fun bb => c2 bb (i : Int) true (.inr ⟨i, r, hx, (waitsO_kind m.run r).trans hw, fun j x hj hx => (waitsO_kind m.run x).trans (ha j x hj hx), rfl, rfl⟩)
  clear c2 ha hf hi
  have c3 := fun bb => p17_look bb ⟨w, personW w me, r⟩ m.box h.box
  have c4 := fun bb key => p17_due bb ⟨w, personW w me, r⟩ key
  simp only at c3 c4
  by_cases hok : ∃ k, openW w (personW w me).key 9 m.box = (⟨r.mine, 0, 0, 0, k, 0, 0⟩, true)
  rotate_left
  · have hno : ((openW w (personW w me).key 9 m.box).2 && (openW w (personW w me).key 9 m.box).1.n == r.mine) = false := by
      rcases open_share w (personW w me).key m.box with e | ⟨n, k, e⟩
      · rw [e]; rfl
      · rw [e]
        cases hn : n == r.mine
        · simp
        · exact absurd ⟨k, by rw [e, eq_of_beq hn]⟩ hok
    rw [if_pos hno]
    clear hok
    refine ⟨⟨w, personW w me, r⟩, fun _ => rfl, fun bb => ?_⟩
    have c2 := c2' bb
    have c3 := c3 bb
    have c4 := fun key => c4 bb key
    clear c2' h hp hw
    refine ACalls.introX (fn := Tryz.f35) Tryz.func35 rfl rfl (by simp [Tryz.f35]) ?_
    generalize openW w (personW w me).key 9 m.box = o at *
    generalize personW w me = P at *
    obtain ⟨g, oo⟩ := o
    have c5 := c4 g.k
    clear c4
    unfold Tryz.f35
    simp only [rawV, insOf, setBs, eInit, eFnd, run0, eWld, ePerson, eMssg, ePrt, eSealeds, eGrams, ePeople, eEvents, eRows, eWords, eLeaks, eRuns, eRun.eq_1 r, rB, rI] at *
    have hft : (false == true) = false := rfl
    cases oo
    · refine wk (J5 hx hlt (eRun.eq_1 r) heq hft) (J3 c2 c3 c5) T0 T0
      all_goals (try simp only [go_sem, ↓reduceIte])
    · have hno' : (g.n == r.mine) = false := by simpa using hno
      refine wk (J5 hx hlt (eRun.eq_1 r) heq hno') (J3 c2 c3 c5) T0 T0
      all_goals (try simp only [go_sem, ↓reduceIte])
  obtain ⟨k, hok⟩ := hok
  simp only [hok] at c3 ⊢
  rw [if_neg (by simp)]
  obtain ⟨j, p, e1, e2, e3, e4⟩ := person_at h.ppl (n := me) (by omega) h2
  have hname : (personW w me).name = me := by rw [e3, e4, e1]
  have hmay : runMay (doneS k r) = true := by
    simp only [waitsO, Bool.and_eq_true, beq_iff_eq] at hw
    unfold doneS runMay
    simp [hw.1, hw.2.1]
  have c5 := p09_set 0 (personW w me).runs (i : Int) (doneS k r) (by omega)
  have hset : setR (personW w me).runs (i : Int) (doneS k r) = ((personW w me).runs.set i (doneS k r), 0) := by
    unfold setR
    rw [if_neg (by rw [hmay]; simp; omega)]
    rfl
  unfold setC at c5
  rw [hset, if_pos rfl] at c5
  have hpp : ((personW w me).used.length + 10 ≤ 1000) ∧ ((personW w me).runs.set i (doneS k r)).length + 10 ≤ 1000 := ⟨hp.1, by rw [List.length_set]; exact hp.2⟩
  have h3 : Good 10 (withW w { personW w me with runs := (personW w me).runs.set i (doneS k r) }) := h.with_ _ hpp
  have hres : doneA w me ⟨r.mine, 0, 0, 0, k, 0, 0⟩ i r = doneV w me i k r := by
    unfold doneV
    rw [show (⟨4, 2, 1, (personW w me).name, r.peer, k, 0, r.m, r.mine, (personW w me).clock⟩ : Event) = ⟨4, 2, 1, me, r.peer, k, 0, r.m, r.mine, (personW w me).clock⟩ from by rw [hname]]
    rfl
  rw [hres]
  refine ⟨⟨doneV w me i k r, { personW w me with runs := (personW w me).runs.set i (doneS k r) }, doneS k r⟩, fun _ => rfl, fun bb => ?_⟩
  have c2 := c2' bb
  have c3 := c3 bb
  have c4 := c4 bb k
  have c6 := p17_note bb ⟨w, { personW w me with runs := (personW w me).runs.set i (doneS k r) }, doneS k r⟩ 4 (doneV w me i k r) (by rfl) ⟨by show (personW w me).used.length ≤ 1000000; omega, by show ((personW w me).runs.set i (doneS k r)).length ≤ 1000000; omega⟩ h.ppl h3.small.small.log
  clear c2' hres h3 hpp hname e1 e2 e3 e4 hmay hset hw h hp hok
  simp only at c6
  generalize doneV w me i k r = u at *
  generalize hL : (personW w me).runs.set i (doneS k r) = L at *
  clear hL
  generalize personW w me = P at *
  refine ACalls.introX (fn := Tryz.f35) Tryz.func35 rfl rfl (by simp [Tryz.f35]) ?_
  unfold Tryz.f35
  simp only [rawV, insOf, setBs, eInit, eFnd, doneS, run0, eWld, ePerson, eMssg, ePrt, eSealeds, eGrams, ePeople, eEvents, eRows, eWords, eLeaks, eRuns, eRun.eq_1 r, eRun.eq_1 (doneS k r), rB, rI] at *
  refine wkx (J4 hx hlt (eRun.eq_1 r) heq) (J5 c2 c3 c4 c5 c6) T0 T0
  all_goals (try simp only [go_sem, ↓reduceIte])
end
section
def begR (w : Wld) (b : Int) : Run := ⟨2, 1, b, drawnW (drawW w), 0, drawnW w, 0, 0, 1⟩
def begU (w : Wld) (a b : Int) : Wld := logW (withW (frstA w a b).1 (putRun (personW w a) (begR w b))) ⟨1, 2, 1, (personW w a).name, b, 0, 0, drawnW w, drawnW (drawW w), (personW w a).clock⟩
theorem p17_begin (w : Wld) (a b : Int) (h : Good 10 w) : ∃ D : Init, ((startOW w a b).2 = 0 → (startOW w a b).1 = D.w) ∧ ∀ bb, ACalls Tryz.prog 27 [.one (rawV bb 0), .one (u32 a), .one (u32 b)]
    (.bx [(bb, .cells (eInit ⟨w, personW w a, run0⟩))] [(bb, .cells (eInit D))] [.one (i64 (startOW w a b).2)]) := by
  have c1 := p10_pair w.people a b h.ppl
  have cr := p12_room w 1 1 h.box h.net
  have hp := h.person a
  by_cases hpr : pairPl w.people a b = false
  · refine ⟨⟨w, personW w a, run0⟩, fun _ => ?_, fun bb => ?_⟩
    · unfold startOW; rw [if_pos hpr]
    · rw [show (startOW w a b).2 = 5 from by unfold startOW; rw [if_pos hpr]]
      rw [hpr] at c1
      clear cr h hpr hp
      refine ACalls.introX (fn := Tryz.f27) Tryz.func27 rfl rfl (by simp [Tryz.f27]) ?_
      generalize personW w a = P at *
      unfold Tryz.f27
      simp only [rawV, insOf, setBs, eInit, run0, eWld, ePerson, eSealeds, eGrams, ePeople, eEvents, eRows, eWords, eLeaks, eRuns, rB, rI] at *
      refine wk T0 c1 T0 T0
      all_goals (try simp only [go_sem, ↓reduceIte])
  have hpt : pairPl w.people a b = true := by simpa using hpr
  rw [hpt] at c1
  by_cases hrr : w.conf.runs ≤ ((personW w a).runs.length : Int) ∨ roomW w 1 1 = false
  · refine ⟨⟨w, personW w a, run0⟩, fun _ => ?_, fun bb => ?_⟩
    · unfold startOW; rw [if_neg hpr, if_pos hrr]
    · rw [show (startOW w a b).2 = 10 from by unfold startOW; rw [if_neg hpr, if_pos hrr]]
      clear h hpr hp
      refine ACalls.introX (fn := Tryz.f27) Tryz.func27 rfl rfl (by simp [Tryz.f27]) ?_
      generalize personW w a = P at *
      generalize roomW w 1 1 = rm at *
      unfold Tryz.f27
      simp only [rawV, insOf, setBs, eInit, run0, eWld, ePerson, eSealeds, eGrams, ePeople, eEvents, eRows, eWords, eLeaks, eRuns, rB, rI] at *
      by_cases hc : w.conf.runs ≤ (P.runs.length : Int)
      · refine wk hc (J2 c1 cr) T0 T0
        all_goals (try simp only [go_sem, ↓reduceIte])
      · have hrm : rm = false := hrr.resolve_left hc
        subst hrm
        refine wk hc (J2 c1 cr) T0 T0
        all_goals (try simp only [go_sem, ↓reduceIte])
  have hc : ¬ w.conf.runs ≤ ((personW w a).runs.length : Int) := fun e => hrr (.inl e)
  have hrm : roomW w 1 1 = true := by
    cases e : roomW w 1 1
    · exact absurd (.inr e) hrr
    · rfl
  rw [hrm] at cr
  unfold startOW
  rw [if_neg hpr, if_neg hrr]
  have g0 : Good 9 (drawW w) := h.draw
  have g1 : Good 8 (drawW (drawW w)) := g0.draw
  have c2 := p12_draw w h.small.small.next
  have c3 := p12_draw (drawW w) g0.small.small.next
  have c4 := p12_seal (drawW (drawW w)) (personW w a).key 6 ⟨drawnW (drawW w), drawnW w, a, b, 0, 0, 0⟩ g1.small.small g1.box
  rw [show sealW (drawW (drawW w)) (personW w a).key 6 ⟨drawnW (drawW w), drawnW w, a, b, 0, 0, 0⟩ = frstA w a b from rfl] at c4
  obtain ⟨i, p, e1, e2, e3, e4⟩ := person_at h.ppl (n := a) (by have := (pairPl_iff h.ppl hpt).2.1; omega) (pairPl_iff h.ppl hpt).2.2.2.1
  have hname : (personW w a).name = a := by rw [e3, e4, e1]
  clear e1 e2 e3 e4 hpt hpr hrr
  by_cases hz : (frstA w a b).2.2 = 0
  rotate_left
  · refine ⟨⟨drawW (drawW w), personW w a, begR w b⟩, fun e => ?_, fun bb => ?_⟩
    · rw [if_pos hz] at e; exact absurd e hz
    rw [if_pos hz]
    have hz' : ((frstA w a b).2.2 != 0) = true := by simp [hz]
    clear h hp hname hrm g0 g1 hz
    simp only [begR] at *
    refine ACalls.introX (fn := Tryz.f27) Tryz.func27 rfl rfl (by simp [Tryz.f27]) ?_
    generalize frstA w a b = v at *
    generalize personW w a = P at *
    generalize drawW (drawW w) = dd at *
    generalize drawnW (drawW w) = nn at *
    generalize drawW w = d at *
    generalize drawnW w = n at *
    unfold Tryz.f27
    simp only [rawV, insOf, setBs, eInit, run0, eWld, ePerson, ePrt, eSealeds, eGrams, ePeople, eEvents, eRows, eWords, eLeaks, eRuns, rB, rI] at *
    refine wk (J2 hz' hc) (J5 c1 cr c2 c3 c4) T0 T0
    all_goals (try simp only [go_sem, ↓reduceIte])
  rw [if_neg (by simp [hz])]
  have g2 : Good 7 (frstA w a b).1 := g1.sealS _ _ _
  have cf : (frstA w a b).1.conf = w.conf := (sealW_rest _ _ _ _).2.1
  have c5 := p09_add 0 (personW w a).runs (frstA w a b).1.conf.runs (begR w b) (by omega)
  have hadd : addR (personW w a).runs (frstA w a b).1.conf.runs (begR w b) = ((personW w a).runs ++ [begR w b], 0) := by
    unfold addR
    rw [cf, if_neg (by unfold begR runMay; simp), if_neg hc]
  unfold addC at c5
  rw [hadd, if_pos rfl] at c5
  have hpp : (putRun (personW w a) (begR w b)).used.length + 7 ≤ 1000 ∧ (putRun (personW w a) (begR w b)).runs.length + 7 ≤ 1000 := ⟨by show (personW w a).used.length + 7 ≤ 1000; omega, by show ((personW w a).runs ++ [begR w b]).length + 7 ≤ 1000; rw [List.length_append]; simp; omega⟩
  have g3 : Good 7 (withW (frstA w a b).1 (putRun (personW w a) (begR w b))) := g2.with_ _ hpp
  have g4 : Good 6 (begU w a b) := g3.log_ _
  have hnet : ¬ (begU w a b).net.room ≤ ((begU w a b).net.grams.length : Int) := by
    rw [show (begU w a b).net = w.net from (withW_net (frstA w a b).1 _).1.trans (sealW_rest _ _ _ _).2.2.1]
    have := (roomW_iff hrm).2; omega
  have hsend := send_room (w := begU w a b) (t := b) (m := ⟨6, drawnW w, a, b, 0, (frstA w a b).2.1, 0⟩) (by unfold mayM; rfl) hnet
  have hres : begunO w a b = sentW (begU w a b) b ⟨6, drawnW w, a, b, 0, (frstA w a b).2.1, 0⟩ := by
    unfold begU
    rw [show (⟨1, 2, 1, (personW w a).name, b, 0, 0, drawnW w, drawnW (drawW w), (personW w a).clock⟩ : Event) = ⟨1, 2, 1, a, b, 0, 0, drawnW w, drawnW (drawW w), (personW w a).clock⟩ from by rw [hname]]
    rfl
  have c7 := p12_send (begU w a b) b ⟨6, drawnW w, a, b, 0, (frstA w a b).2.1, 0⟩ g4.net g4.small.small.grams g4.small.small.seen
  rw [hres]
  rw [hsend] at c7
  refine ⟨⟨sentW (begU w a b) b ⟨6, drawnW w, a, b, 0, (frstA w a b).2.1, 0⟩, putRun (personW w a) (begR w b), begR w b⟩, fun _ => rfl, fun bb => ?_⟩
  have c6 := p17_note bb ⟨(frstA w a b).1, putRun (personW w a) (begR w b), begR w b⟩ 1 (begU w a b) (by rfl) ⟨by show (putRun (personW w a) (begR w b)).used.length ≤ 1000000; omega, by show (putRun (personW w a) (begR w b)).runs.length ≤ 1000000; omega⟩ g2.ppl g3.small.small.log
  rw [hz] at c4
  clear hsend hres hnet g0 g1 g2 g3 g4 hpp hname hadd hrm cf h hp hz
  simp only at c6 c7
  generalize sentW (begU w a b) b ⟨6, drawnW w, a, b, 0, (frstA w a b).2.1, 0⟩ = z at *
  generalize begU w a b = u at *
  simp only [begR] at *
  generalize frstA w a b = v at *
  generalize drawW (drawW w) = dd at *
  generalize drawnW (drawW w) = nn at *
  generalize drawW w = d at *
  generalize drawnW w = n at *
  generalize personW w a = P at *
  refine ACalls.introX (fn := Tryz.f27) Tryz.func27 rfl rfl (by simp [Tryz.f27]) ?_
  unfold Tryz.f27
  simp only [rawV, insOf, setBs, eInit, putRun, run0, eWld, ePerson, eMssg, ePrt, eSealeds, eGrams, ePeople, eEvents, eRows, eWords, eLeaks, eRuns, eRun, List.map_append, List.map_cons, List.map_nil, rB, rI] at *
  refine wk hc (J8 c1 cr c2 c3 c4 c5 c6 c7) T0 T0
  all_goals (try simp only [go_sem, ↓reduceIte])
end
section
theorem run_at {l : List Run} {p : Run → Bool} {r : Run} (h : l.find? p = some r) : l[l.findIdx p]? = some r ∧ p r = true := by
 rcases idx_or l p with ⟨h1, _⟩ | ⟨i, x, h1, h2, h3, h4, _⟩
 ·rw [h] at h1; cases h1
 ·rw [h] at h1; cases h1
  rw [h2]
  exact ⟨h3, h4⟩
theorem sealW_ok {w : Wld} {k l : Int} {p : Prt} (h : (sealW w k l p).2.2 = 0) : getP l (wordsP l p) = (p, 0) ∧ thereB w.box.entries (drawnW w) = false ∧ (w.box.entries.length : Int) < w.box.room ∧ sealW w k l p = ({ drawW w with box := ⟨w.box.room, w.box.entries ++ [⟨drawnW w, k, l, wordsP l p⟩]⟩ }, drawnW w, 0) := by
 rcases sealW_cases w k l p with ⟨e, he, hs⟩ | hs
 ·rw [hs] at h; exact absurd h he
 ·exact hs
end
section
theorem right_set {l : List Person} (h : rightPl l = true) {i : Nat} {x p : Person} (hx : l[i]? = some x) (hp : p.name = (i : Int)) : rightPl (l.set i p) = true := by
 have hn := right_names h
 unfold rightPl at h ⊢
 rw [Bool.and_eq_true, decide_eq_true_eq] at h ⊢
 refine ⟨namesB_iff.2 fun k y hk => ?_, by simpa using h.2⟩
 rw [List.getElem?_set] at hk
 by_cases e : i = k
 ·subst e
  rw [if_pos rfl] at hk
  split at hk
  ·cases hk
   rw [hp, IntWalk.u32_in _ (by have := (List.getElem?_eq_some_iff.1 hx).1; omega)]
  ·cases hk
 ·rw [if_neg e] at hk
  exact namesB_iff.1 h.1 k y hk
theorem all_set {α : Type} {l : List α} {f : α → Bool} {i : Nat} {p : α} (h : l.all f = true) (hp : f p = true) : (l.set i p).all f = true := by
 rw [List.all_eq_true] at h ⊢
 intro x hx
 rcases List.mem_or_eq_of_mem_set hx with h1 | rfl
 ·exact h x h1
 ·exact hp
theorem act_form {w : Wld} {a : Act} (hf : formW w = true) (hd : w.draws.next + (a.draws : Int) ≤ 1048576) (hb : rightB ⟨w.box.room, w.box.entries ++ a.seals⟩ = true) (hn : ((w.net.grams.length + a.frames.length : Nat) : Int) ≤ w.net.room) (hl : ∀ f ∈ a.frames, (f.words.length : Int) ≤ 64)
    {x : Person} (hx : w.people[a.who]? = some x) (hp : a.new.name = (a.who : Int)) (hq : personB w.conf a.new = true) : formW (actW w a) = true := by
  obtain ⟨a1, a2, a3, a4, a5, b1, b2, b3, b4, c1, c2, c3, c4⟩ := formW_iff hf
  have a4' := of_decide_eq_true a4
  refine formW_mk a1 hb a3 (decide_eq_true ⟨a4'.1, a4'.2.1, ?_⟩) a5 (right_set b1 hx hp) (by show ((w.people.set _ _).length : Int) = w.conf.people + 1; simpa using b2) b3 ⟨by show 0 ≤ w.draws.next + (a.draws : Int); omega, hd⟩ (all_set c1 hq) c2 ?_ ?_
  · show ((w.net.grams ++ a.frames).length : Int) ≤ w.net.room
    simpa using hn
  · show (w.net.seen ++ a.frames.map (·.words)).all shB = true
    rw [List.all_append, c3, Bool.true_and, List.all_map, List.all_eq_true]
    exact fun f hf => decide_eq_true (hl f hf)
  · show (w.net.grams ++ a.frames).all gramB = true
    rw [List.all_append, c4, Bool.true_and, List.all_eq_true]
    exact fun f hf => decide_eq_true (hl f hf)
theorem person_form {w : Wld} (hf : formW w = true) {i : Nat} {p : Person} (hx : w.people[i]? = some p) : personB w.conf p = true := by
 obtain ⟨_, _, _, _, _, _, _, _, _, c1, _⟩ := formW_iff hf
 exact List.all_eq_true.1 c1 p (List.mem_of_getElem? hx)
theorem run_form {c : Conf} {p : Person} (h : personB c p = true) {j : Nat} {r r' : Run} (hr : p.runs[j]? = some r) (h1 : r'.proto = r.proto) (h2 : r'.role = r.role) (h3 : r'.state = 1 ∨ r'.state = 2 ∨ r'.state = 3) : personB c { p with runs := p.runs.set j r' } = true := by
 unfold personB runsR at h ⊢
 simp only [Bool.and_eq_true] at h ⊢
 refine ⟨h.1, ⟨all_set h.2.1.1 ?_, by simpa using h.2.1.2⟩, h.2.2⟩
 have := List.all_eq_true.1 h.2.1.1 r (List.mem_of_getElem? hr)
 unfold runMay at this ⊢
 simp only [decide_eq_true_eq] at this ⊢
 exact ⟨by rw [h1]; exact this.1, by rw [h2]; exact this.2.1, h3⟩
theorem SmallN.log1 {N : Nat} {w : Wld} (h : SmallN (N + 1) w) (PP : List Person) (hP : PP.length = w.people.length) (e : Event) : SmallN N { w with people := PP, log := w.log ++ [e] } := ⟨by have := h.ent; show w.box.entries.length + N < _; omega, h.plain, by have := h.grams; show w.net.grams.length + N < _; omega, by have := h.seen; show w.net.seen.length + N < _; omega, by have := h.people; show PP.length < _; omega, by have := h.log; show (w.log ++ [e]).length + N < _; simp only [List.length_append, List.length_singleton]; omega, by have := h.next; show 0 ≤ w.draws.next ∧ w.draws.next + (N : Int) < _; omega⟩
end
section
end
section
theorem startOW_err {w : Wld} {a b : Int} (h : (startOW w a b).2 ≠ 0) : (startOW w a b).1 = w := by
 revert h
 unfold startOW
 split
 ·exact fun _ => rfl
 split
 ·exact fun _ => rfl
 split
 ·exact fun _ => rfl
 exact fun h => absurd rfl h
theorem shareAW_err {w : Wld} {me : Int} {m : Mssg} (h : (shareAW w me m).2 ≠ 0) : (shareAW w me m).1 = w := by
 revert h
 unfold shareAW
 cases (personW w me).runs.find? (waitsO 1 m.run) with
 | none => exact fun _ => rfl
 | some r =>
  simp only
  split
  ·exact fun _ => rfl
  exact fun h => absurd rfl h
end
section
theorem p17_start (w : Wld) (a b : Int) (hf : formW w = true) (h : SmallN 10 w) : ACalls Tryz.prog 10 [.agg (eWld w), .one (u32 a), .one (u32 b)] (.tup [.agg (eWld (startOW w a b).1), .one (i64 (startOW w a b).2)]) := by
 refine ACalls.intro (fn := Tryz.f10) Tryz.func10 rfl rfl (by simp [Tryz.f10]) ?_
 have hg := Good.of hf h (by decide)
 have hp := hg.person a
 have c1 := p12_person w a ⟨by omega, by omega⟩ hg.ppl
 obtain ⟨E, hE, c3⟩ := p17_begin w a b hg
 obtain ⟨v, q, hvq⟩ : ∃ v q, startOW w a b = (v, q) := ⟨_, _, rfl⟩
 have hgo : (q ≠ 0 ∧ v = w) ∨ (q = 0 ∧ v = E.w) := by
  by_cases hz : q = 0
  ·refine .inr ⟨hz, ?_⟩
   have := hE (by rw [hvq]; exact hz)
   rw [hvq] at this
   exact this
  ·refine .inl ⟨hz, ?_⟩
   have := startOW_err (w := w) (a := a) (b := b) (by rw [hvq]; exact hz)
   rw [hvq] at this
   exact this
 rw [hvq] at c3 ⊢
 clear hvq hE hg hp hf h
 simp only at c3 ⊢
 unfold Tryz.f10
 generalize personW w a = P at *
 simp only [eWld, eMssg, ePerson, eInit, run0, eSealeds, eGrams, ePeople, eEvents, eRows, eWords, eLeaks, eRuns, rI, rawV] at *
 refine wk T0 c1 (@AW.halt 2) (J2 ?_ T0)
 all_goals ((repeat intro h); refine ⟨?_⟩)
 refine AWs.mk (AW.name 15 rfl ?_ ?_ fun bb hb => ?_)
 ·simp only [go_sem, ↓reduceIte]
 ·intro b; simp only [go_sem, ↓reduceIte]
 clear hb
 refine AW.lessW ⟨28, (upd (upd (upd (upd (upd (upd (fun _ => .junk) 1 (.one (.c (u32 a)))) 2 (.one (.c (u32 b)))) 3 (.one (.ptr 3 0))) 6 (.one (.ptr 6 0))) 7 (.one (.c (i64 0)))) 8 (.one (.c (rawV bb 0)))), (upd (upd (upd (fun _ => none) 3 (some (.box [A.c (u32 w.conf.window), A.c (i64 w.conf.people), A.c (i64 w.conf.box), A.c (i64 w.conf.used), A.c (i64 w.conf.runs), A.c (i64 w.conf.net), A.c (i64 w.conf.regs), A.c (CV.row (List.map eWord w.draws.list)), A.c (i64 w.draws.next), A.c (i64 w.box.room), A.c (CV.row (List.map eSealed w.box.entries)), A.c (i64 w.net.room), A.c (CV.row (List.map eGram w.net.grams)), A.c (CV.row (List.map eSeen w.net.seen)), A.c (CV.row (List.map ePerson w.people)), A.c (CV.row (List.map eEvent w.log)), A.c (CV.row (List.map eSeen w.regs)), A.c (CV.row (List.map eLeak w.leaks))]))) 6 (some (.box [A.c (u32 0), A.c (i64 0), A.c (i64 0), A.c (i64 0), A.c (i64 0), A.c (i64 0), A.c (i64 0), A.nil, A.c (i64 0), A.c (i64 0), A.nil, A.c (i64 0), A.nil, A.nil, A.nil, A.nil, A.nil, A.nil]))) (1000000+bb) (some (.obox [(u32 w.conf.window), (i64 w.conf.people), (i64 w.conf.box), (i64 w.conf.used), (i64 w.conf.runs), (i64 w.conf.net), (i64 w.conf.regs), (CV.row (List.map eWord w.draws.list)), (i64 w.draws.next), (i64 w.box.room), (CV.row (List.map eSealed w.box.entries)), (i64 w.net.room), (CV.row (List.map eGram w.net.grams)), (CV.row (List.map eSeen w.net.seen)), (CV.row (List.map ePerson w.people)), (CV.row (List.map eEvent w.log)), (CV.row (List.map eSeen w.regs)), (CV.row (List.map eLeak w.leaks)), u32 P.name, u32 P.key, u32 P.clock, CV.row (List.map eWord P.used), CV.row (List.map eRun P.runs), bl P.corrupt, i64 0, i64 0, u32 0, u32 0, u32 0, u32 0, u32 0, u32 0, i64 0])))⟩ (by exact lz T0) ?_
 have c4 := c3 bb
 clear c1 c3
 simp only [rawV] at *
 rcases hgo with ⟨hz, rfl⟩ | ⟨hz, rfl⟩
 ·have hz' : (q != 0) = true := by simp [hz]
  refine wk hz' c4 T0 T0
 ·subst hz
  refine wk T0 c4 T0 T0
theorem p17_share (w : Wld) (me : Int) (m : Mssg) (hf : formW w = true) (h : SmallN 10 w) (h1 : 1 ≤ me) (h2 : me < (w.people.length : Int)) (hk : m.kind = 9) (hm : mayM m = true) : ACalls Tryz.prog 12 [.agg (eWld w), .one (u32 me), .agg (eMssg m)] (.tup [.agg (eWld (shareAW w me m).1), .one (i64 (shareAW w me m).2)]) := by
 refine ACalls.intro (fn := Tryz.f12) Tryz.func12 rfl rfl (by simp [Tryz.f12]) ?_
 have hg := Good.of hf h (by decide)
 have hp := hg.person me
 have c1 := p12_person w me ⟨by omega, by omega⟩ hg.ppl
 obtain ⟨E, hE, c3⟩ := p17_commit w me m hg h1 h2
 obtain ⟨v, q, hvq⟩ : ∃ v q, shareAW w me m = (v, q) := ⟨_, _, rfl⟩
 have hgo : (q ≠ 0 ∧ v = w) ∨ (q = 0 ∧ v = E.w) := by
  by_cases hz : q = 0
  ·refine .inr ⟨hz, ?_⟩
   have := hE (by rw [hvq]; exact hz)
   rw [hvq] at this
   exact this
  ·refine .inl ⟨hz, ?_⟩
   have := shareAW_err (w := w) (me := me) (m := m) (by rw [hvq]; exact hz)
   rw [hvq] at this
   exact this
 rw [hvq] at c3 ⊢
 clear hvq hE hg hp hf h h1 h2 hk hm
 simp only at c3 ⊢
 unfold Tryz.f12
 generalize personW w me = P at *
 simp only [eWld, eMssg, ePerson, eInit, run0, eSealeds, eGrams, ePeople, eEvents, eRows, eWords, eLeaks, eRuns, rI, rawV] at *
 refine wk T0 c1 (@AW.halt 2) (J2 ?_ T0)
 all_goals ((repeat intro h); refine ⟨?_⟩)
 refine AWs.mk (AW.name 15 rfl ?_ ?_ fun bb hb => ?_)
 ·simp only [go_sem, ↓reduceIte]
 ·intro b; simp only [go_sem, ↓reduceIte]
 clear hb
 refine AW.lessW ⟨27, (upd (upd (upd (upd (upd (fun _ => .junk) 3 (.one (.ptr 3 0))) 5 (.one (.ptr 5 0))) 6 (.one (.ptr 6 0))) 7 (.one (.c (i64 0)))) 8 (.one (.c (rawV bb 0)))), (upd (upd (upd (upd (fun _ => none) 3 (some (.box [A.c (u32 w.conf.window), A.c (i64 w.conf.people), A.c (i64 w.conf.box), A.c (i64 w.conf.used), A.c (i64 w.conf.runs), A.c (i64 w.conf.net), A.c (i64 w.conf.regs), A.c (CV.row (List.map eWord w.draws.list)), A.c (i64 w.draws.next), A.c (i64 w.box.room), A.c (CV.row (List.map eSealed w.box.entries)), A.c (i64 w.net.room), A.c (CV.row (List.map eGram w.net.grams)), A.c (CV.row (List.map eSeen w.net.seen)), A.c (CV.row (List.map ePerson w.people)), A.c (CV.row (List.map eEvent w.log)), A.c (CV.row (List.map eSeen w.regs)), A.c (CV.row (List.map eLeak w.leaks))]))) 5 (some (.box [A.c (u32 m.kind), A.c (u32 m.run), A.c (u32 m.a), A.c (u32 m.b), A.c (u32 m.nonce), A.c (u32 m.box), A.c (u32 m.more)]))) 6 (some (.box [A.c (u32 0), A.c (i64 0), A.c (i64 0), A.c (i64 0), A.c (i64 0), A.c (i64 0), A.c (i64 0), A.nil, A.c (i64 0), A.c (i64 0), A.nil, A.c (i64 0), A.nil, A.nil, A.nil, A.nil, A.nil, A.nil]))) (1000000+bb) (some (.obox [(u32 w.conf.window), (i64 w.conf.people), (i64 w.conf.box), (i64 w.conf.used), (i64 w.conf.runs), (i64 w.conf.net), (i64 w.conf.regs), (CV.row (List.map eWord w.draws.list)), (i64 w.draws.next), (i64 w.box.room), (CV.row (List.map eSealed w.box.entries)), (i64 w.net.room), (CV.row (List.map eGram w.net.grams)), (CV.row (List.map eSeen w.net.seen)), (CV.row (List.map ePerson w.people)), (CV.row (List.map eEvent w.log)), (CV.row (List.map eSeen w.regs)), (CV.row (List.map eLeak w.leaks)), u32 P.name, u32 P.key, u32 P.clock, CV.row (List.map eWord P.used), CV.row (List.map eRun P.runs), bl P.corrupt, i64 0, i64 0, u32 0, u32 0, u32 0, u32 0, u32 0, u32 0, i64 0])))⟩ (by exact lz T0) ?_
 have c4 := c3 bb
 clear c1 c3
 simp only [rawV] at *
 rcases hgo with ⟨hz, rfl⟩ | ⟨hz, rfl⟩
 ·have hz' : (q != 0) = true := by simp [hz]
  refine wk hz' c4 T0 T0
 ·subst hz
  refine wk T0 c4 T0 T0
end
section
abbrev zWld : List A := [.c (u32 0), .c (i64 0), .c (i64 0), .c (i64 0), .c (i64 0), .c (i64 0), .c (i64 0), .nil, .c (i64 0), .c (i64 0), .nil, .c (i64 0), .nil, .nil, .nil, .nil, .nil, .nil]
abbrev cWld (w : Wld) : List A := [.c (u32 w.conf.window), .c (i64 w.conf.people), .c (i64 w.conf.box), .c (i64 w.conf.used), .c (i64 w.conf.runs), .c (i64 w.conf.net), .c (i64 w.conf.regs), .c (.row (w.draws.list.map eWord)), .c (i64 w.draws.next), .c (i64 w.box.room), .c (.row (w.box.entries.map eSealed)), .c (i64 w.net.room), .c (.row (w.net.grams.map eGram)), .c (.row (w.net.seen.map eSeen)), .c (.row (w.people.map ePerson)), .c (.row (w.log.map eEvent)), .c (.row (w.regs.map eSeen)), .c (.row (w.leaks.map eLeak))]
abbrev cMssg (m : Mssg) : List A := [.c (u32 m.kind), .c (u32 m.run), .c (u32 m.a), .c (u32 m.b), .c (u32 m.nonce), .c (u32 m.box), .c (u32 m.more)]
abbrev cPrs (p : Person) : List A := [.c (u32 p.name), .c (u32 p.key), .c (u32 p.clock), .c (.row (p.used.map eWord)), .c (.row (p.runs.map eRun)), .c (bl p.corrupt)]
theorem SmallN.withR {N : Nat} {w : Wld} (h : SmallN N w) (p : Person) (i : Nat) (r : Run) : SmallN N (withR w p i r) := h.with_ _
end
end Go.Proofs.YtbjkgfppafjmgaaGreatDoor.Abs
