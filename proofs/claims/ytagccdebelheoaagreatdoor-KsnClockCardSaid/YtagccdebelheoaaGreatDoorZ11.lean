/- Texts that were merged: L13c, L10n, L13d, Q12m. -/
import Derived.Test.YtagccdebelheoaaGreatDoorZ6
import Derived.Test.YtagccdebelheoaaGreatDoorZ10
import Derived.Test.YtagccdebelheoaaGreatDoorZ5
import Derived.Test.YtagccdebelheoaaGreatDoorZ4
section
/- What a grant's error hangs on: a world's configuration, draws, box, net, and of its people the names, keys, and the server. -/
set_option linter.unusedSimpArgs false
set_option linter.unusedVariables false
set_option maxRecDepth 100000
namespace Go.Proofs.YtagccdebelheoaaGreatDoor.Abs
open Go.RowKit
/-- Two worlds have the same configuration, draws, box and net. -/
def core (a b : Wld) : Prop := a.conf = b.conf ∧ a.draws = b.draws ∧ a.box = b.box ∧ a.net = b.net
theorem core_draw {a b : Wld} (h : core a b) : core (drawW a) (drawW b) ∧ drawnW a = drawnW b := by
  obtain ⟨h1, h2, h3, h4⟩ := h
  exact ⟨⟨h1, by show (⟨a.draws.list, a.draws.next + 1⟩ : Draws) = _; rw [h2]; rfl, h3, h4⟩, by unfold drawnW; rw [h2]⟩
theorem core_seal {a b : Wld} (h : core a b) (k l : Int) (p : Prt) : core (sealW a k l p).1 (sealW b k l p).1 ∧ (sealW a k l p).2 = (sealW b k l p).2 := by
  have hd := core_draw h
  have hs : sealedW a k l p = sealedW b k l p := by unfold sealedW; rw [h.2.2.1, hd.2]
  unfold sealW
  rw [hs, hd.2]
  split
  · exact ⟨h, rfl⟩
  · split
    · exact ⟨h, rfl⟩
    · exact ⟨⟨hd.1.1, hd.1.2.1, rfl, hd.1.2.2.2⟩, rfl⟩
theorem core_send {a b : Wld} (h : a.net = b.net) (to : Int) (m : Mssg) : (sendW a to m).2 = (sendW b to m).2 := by
  unfold sendW
  rw [h]
  split <;> rfl
theorem withW_net (w : Wld) (p : Person) : (withW w p).net = w.net := by unfold withW; split <;> rfl
/-- The same names and keys, and the same server. -/
structure SamePl (l k : List Person) : Prop where
  key : ∀ n, (getPl l n).1.key = (getPl k n).1.key
  is_ : ∀ n, (getPl l n).2 = (getPl k n).2
  server : (getPl l 0).1 = (getPl k 0).1
theorem grant_error {a b : Wld} (h : core a b) (hp : SamePl a.people b.people) (m : Mssg) : (grantW a m).2 = (grantW b m).2 := by
  have e0 : personW a 0 = personW b 0 := hp.server
  have ka : ∀ n, (personW a n).key = (personW b n).key := hp.key
  have hpr : pairPl a.people m.a m.b = pairPl b.people m.a m.b := by unfold pairPl; rw [hp.is_, hp.is_]
  obtain ⟨hd, hw⟩ := core_draw h
  have ht : core (tickW a m).1 (tickW b m).1 ∧ (tickW a m).2 = (tickW b m).2 := by
    unfold tickW; rw [e0, ka, hw]; exact core_seal hd _ _ _
  have hg : core (grntW a m).1 (grntW b m).1 ∧ (grntW a m).2 = (grntW b m).2 := by
    unfold grntW; rw [e0, ka, hw, ht.2]; exact core_seal ht.1 _ _ _
  have hz : (grantZ a m).2 = (grantZ b m).2 := by
    unfold grantZ
    rw [hg.2]
    refine core_send ?_ _ _
    show (withW (grntW a m).1 _).net = (withW (grntW b m).1 _).net
    rw [withW_net, withW_net]
    exact hg.1.2.2.2
  have hr : roomW a 2 1 = roomW b 2 1 := by unfold roomW; rw [h.2.2.1, h.2.2.2]
  unfold grantW
  rw [hpr, e0, h.1, hr, ht.2, hg.2, hz]
  repeat' split
  all_goals rfl
/-- A server whose clock is at its end grants nothing. -/
theorem grant_end {w : Wld} (hc : (personW w 0).clock = 1073741824) (m : Mssg) : (grantW w m).2 = if pairPl w.people m.a m.b = false then 5 else 7 := by
  unfold grantW
  rw [hc]
  split
  · rfl
  · rw [if_pos (by decide)]
theorem grant_five {w : Wld} {m : Mssg} (h : pairPl w.people m.a m.b = false) : (grantW w m).2 = 5 := by unfold grantW; rw [if_pos h]
end Go.Proofs.YtagccdebelheoaaGreatDoor.Abs
end
section
/- Rows of principals that are right: each at its name. -/
set_option linter.unusedSimpArgs false
set_option linter.unusedVariables false
set_option maxRecDepth 100000
namespace Go.Proofs.YtagccdebelheoaaGreatDoor.Abs
open Go.RowKit
theorem right_names {l : List Person} (h : rightPl l = true) : l.length ≤ 7 ∧ ∀ (i : Nat) (x : Person), l[i]? = some x → x.name = (i : Int) := by
  unfold rightPl at h
  rw [Bool.and_eq_true, decide_eq_true_eq] at h
  obtain ⟨h1, h2, h3⟩ := h
  refine ⟨by omega, fun i x hx => ?_⟩
  have hi := (List.getElem?_eq_some_iff.1 hx).1
  rw [namesB_iff.1 h1 i x hx]
  exact IntWalk.u32_in _ (by omega)
theorem getPl_at {l : List Person} (h : rightPl l = true) {i : Nat} {x : Person} (hx : l[i]? = some x) : getPl l (i : Int) = (x, true) := by
  have hn := (right_names h).2
  cases hf : l.find? (fun p => p.name == (i : Int)) with
  | none =>
    have := List.find?_eq_none.1 hf x (List.mem_of_getElem? hx)
    rw [hn i x hx] at this
    simp at this
  | some y =>
    have h1 := List.find?_some hf
    obtain ⟨j, hj⟩ := List.mem_iff_getElem?.1 (List.mem_of_find?_eq_some hf)
    have h2 := hn j y hj
    rw [beq_iff_eq] at h1
    have : j = i := by omega
    subst this
    rw [hx] at hj
    cases hj
    unfold getPl; rw [hf]
theorem getPl_no {l : List Person} (h : rightPl l = true) {n : Int} (hn : (l.length : Int) ≤ n ∨ n < 0) : getPl l n = (person0, false) := by
  have : l.find? (fun p => p.name == n) = none := List.find?_eq_none.2 fun x hx => by
    obtain ⟨i, hi⟩ := List.mem_iff_getElem?.1 hx
    have h1 := (right_names h).2 i x hi
    have h2 := (List.getElem?_eq_some_iff.1 hi).1
    rw [beq_iff_eq]
    omega
  unfold getPl; rw [this]
theorem getPl_ok {l : List Person} (h : rightPl l = true) (n : Int) : (getPl l n).2 = decide (0 ≤ n ∧ n < (l.length : Int)) := by
  by_cases hn : 0 ≤ n ∧ n < (l.length : Int)
  · obtain ⟨i, rfl⟩ : ∃ i : Nat, n = i := ⟨n.toNat, by omega⟩
    rw [getPl_at h (List.getElem?_eq_getElem (by omega)), decide_eq_true hn]
  · rw [getPl_no h (by omega), decide_eq_false hn]
end Go.Proofs.YtagccdebelheoaaGreatDoor.Abs
end
section
/- Worlds whose server's clock is at its end; worlds of other clocks, runs and registers. -/
set_option linter.unusedSimpArgs false
set_option linter.unusedVariables false
set_option maxRecDepth 100000
namespace Go.Proofs.YtagccdebelheoaaGreatDoor.Abs
open Go.RowKit
theorem samePl_of {l k : List Person} (hl : rightPl l = true) (hk : rightPl k = true) (hlen : l.length = k.length) (hkey : ∀ (i : Nat) (x y : Person), l[i]? = some x → k[i]? = some y → x.key = y.key) (h0 : l[0]? = k[0]?) : SamePl l k := by
  have at_ : ∀ n : Int, (∃ (i : Nat) (x y : Person), n = (i : Int) ∧ l[i]? = some x ∧ k[i]? = some y) ∨ ((getPl l n) = (person0, false) ∧ (getPl k n) = (person0, false)) := fun n => by
    by_cases hn : 0 ≤ n ∧ n < (l.length : Int)
    · have h1 : n.toNat < l.length := by omega
      have h2 : n.toNat < k.length := by omega
      exact .inl ⟨n.toNat, l[n.toNat], k[n.toNat], by omega, List.getElem?_eq_getElem h1, List.getElem?_eq_getElem h2⟩
    · exact .inr ⟨getPl_no hl (by omega), getPl_no hk (by omega)⟩
  refine ⟨fun n => ?_, fun n => ?_, ?_⟩
  · rcases at_ n with ⟨i, x, y, rfl, hx, hy⟩ | ⟨e1, e2⟩
    · rw [getPl_at hl hx, getPl_at hk hy]; exact hkey i x y hx hy
    · rw [e1, e2]
  · rcases at_ n with ⟨i, x, y, rfl, hx, hy⟩ | ⟨e1, e2⟩
    · rw [getPl_at hl hx, getPl_at hk hy]
    · rw [e1, e2]
  · rcases at_ 0 with ⟨i, x, y, hi, hx, hy⟩ | ⟨e1, e2⟩
    · obtain rfl : i = 0 := by omega
      have e1 := getPl_at hl hx
      have e2 := getPl_at hk hy
      rw [hx, hy] at h0
      rw [show (0 : Int) = ((0 : Nat) : Int) from rfl, e1, e2]
      exact Option.some.inj h0
    · rw [e1, e2]
def quiet (c : Int) (p : Person) : Person := ⟨p.name, p.key, c, [], [], true⟩
def modP (c : Int) (l : List Person) (k : Nat) : List Person := l.mapIdx fun i p => if 1 ≤ i ∧ i < k then quiet c p else p
theorem modP_get (c : Int) (l : List Person) (k i : Nat) : (modP c l k)[i]? = (l[i]?).map fun p => if 1 ≤ i ∧ i < k then quiet c p else p := by simp [modP]
theorem modP_len (c : Int) (l : List Person) (k : Nat) : (modP c l k).length = l.length := by simp [modP]
theorem modP_one (c : Int) (l : List Person) : modP c l 1 = l := by
  apply List.ext_getElem?
  intro i
  rw [modP_get]
  have : (fun p : Person => if 1 ≤ i ∧ i < 1 then quiet c p else p) = id := by
    funext p; rw [if_neg (by omega)]; rfl
  rw [this, Option.map_id]; rfl
theorem modP_next {c : Int} {l : List Person} {k : Nat} {x : Person} (h1 : 1 ≤ k) (hx : l[k]? = some x) : (modP c l k).set k (quiet c x) = modP c l (k + 1) := by
  apply List.ext_getElem?
  intro i
  rw [List.getElem?_set, modP_get, modP_get, modP_len]
  by_cases e : k = i
  · subst e
    have hk : k < l.length := (List.getElem?_eq_some_iff.1 hx).1
    rw [if_pos rfl, if_pos hk, hx]
    have : 1 ≤ k ∧ k < k + 1 := by omega
    simp [this]
  · rw [if_neg e]
    congr 1
    funext p
    by_cases hi : 1 ≤ i ∧ i < k
    · rw [if_pos hi, if_pos (by omega)]
    · rw [if_neg hi, if_neg (by omega)]
def endW (w : Wld) (s : Person) : Wld := { w with people := w.people.set 0 { s with clock := 1073741824 } }
def quietW (w : Wld) (c : Int) : Wld := { w with people := modP c w.people w.people.length, regs := List.replicate w.regs.length [] }
theorem names_of {l k : List Person} (h : rightPl l = true) (hlen : k.length = l.length) (hn : ∀ (i : Nat) (x y : Person), l[i]? = some x → k[i]? = some y → y.name = x.name) : rightPl k = true := by
  unfold rightPl at h ⊢
  rw [Bool.and_eq_true] at h ⊢
  refine ⟨namesB_iff.2 fun i y hy => ?_, by rw [hlen]; exact h.2⟩
  have hi : i < l.length := by rw [← hlen]; exact (List.getElem?_eq_some_iff.1 hy).1
  rw [hn i l[i] y (List.getElem?_eq_getElem hi) hy]
  exact namesB_iff.1 h.1 i _ (List.getElem?_eq_getElem hi)
theorem end_form {w : Wld} {s : Person} (h : formW w = true) (hs : w.people[0]? = some s) : formW (endW w s) = true := by
  obtain ⟨a1, a2, a3, a4, a5, b1, b2, b3, b4, c1, c2, c3, c4⟩ := formW_iff h
  have hr : rightPl (endW w s).people = true := names_of b1 (by simp [endW]) fun i x y hx hy => by
    simp only [endW, List.getElem?_set] at hy
    split at hy
    · rename_i e
      subst e
      split at hy
      · cases hy; rw [hs] at hx; cases hx; rfl
      · simp at hy
    · rw [hx] at hy; cases hy; rfl
  refine formW_mk a1 a2 a3 a4 a5 hr (by simpa [endW] using b2) b3 b4 ?_ c2 c3 c4
  rw [List.all_eq_true] at c1 ⊢
  intro p hp
  rcases List.mem_or_eq_of_mem_set hp with hp | rfl
  · exact c1 p hp
  · have := c1 s (List.mem_of_getElem? hs)
    unfold personB at this ⊢
    simp only [Bool.and_eq_true, decide_eq_true_eq] at this ⊢
    exact ⟨this.1, this.2.1, by decide⟩
theorem quiet_form {w : Wld} {c : Int} (h : formW w = true) (hc : c ≤ 1073741824) : formW (quietW w c) = true := by
  obtain ⟨a1, a2, a3, a4, a5, b1, b2, b3, b4, c1, c2, c3, c4⟩ := formW_iff h
  have hr : rightPl (quietW w c).people = true := names_of b1 (by simp [quietW, modP_len]) fun i x y hx hy => by
    simp only [quietW, modP_get, hx, Option.map_some, Option.some.injEq] at hy
    subst hy
    split <;> rfl
  have hroom := a1
  unfold mayC roomB at hroom
  simp only [Bool.and_eq_true, decide_eq_true_eq] at hroom
  refine formW_mk a1 a2 a3 a4 a5 hr (by simpa [quietW, modP_len] using b2) (by simpa [quietW] using b3) b4 ?_ ?_ c3 c4
  · rw [List.all_eq_true] at c1 ⊢
    intro p hp
    obtain ⟨i, hi⟩ := List.mem_iff_getElem?.1 hp
    simp only [quietW, modP_get, Option.map_eq_some_iff] at hi
    obtain ⟨q, hq, rfl⟩ := hi
    split
    · have d0 : distB [] = true := rfl
      have h1 : usedR [] w.conf.used = true := by unfold usedR; rw [d0, decide_eq_true (by simp; omega)]; rfl
      have h2 : runsR [] w.conf.runs = true := by unfold runsR; rw [decide_eq_true (by simp; omega)]; rfl
      show (usedR [] w.conf.used && (runsR [] w.conf.runs && decide (c ≤ 1073741824))) = true
      rw [h1, h2, decide_eq_true hc]
      rfl
    · exact c1 q (List.mem_of_getElem? hq)
  · rw [List.all_eq_true]
    intro r hr2
    rw [List.eq_of_mem_replicate hr2]
    rfl
theorem end_error {w : Wld} {s : Person} (h : formW w = true) (hs : w.people[0]? = some s) (m : Mssg) : (grantW (endW w s) m).2 = if pairPl w.people m.a m.b = false then 5 else 7 := by
  have b1 := (formW_iff h).2.2.2.2.2.1
  have e1 := (formW_iff (end_form h hs)).2.2.2.2.2.1
  have hx : (endW w s).people[0]? = some { s with clock := 1073741824 } := by
    have : 0 < w.people.length := (List.getElem?_eq_some_iff.1 hs).1
    simp [endW, this]
  have hp : pairPl (endW w s).people m.a m.b = pairPl w.people m.a m.b := by
    unfold pairPl
    rw [getPl_ok e1, getPl_ok e1, getPl_ok b1, getPl_ok b1]
    simp [endW]
  rw [grant_end ?_ m, hp]
  have := getPl_at e1 hx
  show (getPl (endW w s).people 0).1.clock = _
  rw [show (0 : Int) = ((0 : Nat) : Int) from rfl, this]
theorem quiet_error {w : Wld} {c : Int} (h : formW w = true) (hc : c ≤ 1073741824) (m : Mssg) : (grantW (quietW w c) m).2 = (grantW w m).2 := by
  have b1 := (formW_iff h).2.2.2.2.2.1
  have e1 := (formW_iff (quiet_form h hc)).2.2.2.2.2.1
  refine grant_error (a := quietW w c) (b := w) ⟨rfl, rfl, rfl, rfl⟩ (samePl_of e1 b1 (by simp [quietW, modP_len]) (fun i x y hx hy => ?_) ?_) m
  · simp only [quietW, modP_get, hy, Option.map_some, Option.some.injEq] at hx
    subst hx
    split <;> rfl
  · simp only [quietW, modP_get]
    cases w.people[0]? with
    | none => rfl
    | some p => simp
end Go.Proofs.YtagccdebelheoaaGreatDoor.Abs
end
section
/- The reference of layer desk, over values without addresses: Copied, people and registers in rows that the caller may write. -/
set_option linter.unusedSimpArgs false
set_option linter.unusedVariables false
set_option maxRecDepth 100000
namespace Go.Proofs.YtagccdebelheoaaGreatDoor.Abs
open Go.RowKit
set_option maxHeartbeats 32000000 in
theorem q12_copiedO (w : Wld) (h : Tiny w) : ACalls Tryz.prog 11 [.agg (eWld w)] (.mix [(true, [.c (u32 w.conf.window), .c (i64 w.conf.people), .c (i64 w.conf.box), .c (i64 w.conf.used), .c (i64 w.conf.runs), .c (i64 w.conf.net), .c (i64 w.conf.regs), .own 22 1 (w.draws.list.map eWord), .c (i64 w.draws.next), .c (i64 w.box.room), .own 89 4 (w.box.entries.map eSealed), .c (i64 w.net.room), .own 59 2 (w.net.grams.map eGram), .own 25 1 (w.net.seen.map eSeen), .own 53 6 (w.people.map ePerson), .own 57 10 (w.log.map eEvent), .own 25 1 (w.regs.map eSeen), .own 87 2 (w.leaks.map eLeak)])]) := by
  refine ACalls.intro (fn := Tryz.f11) Tryz.func11 rfl rfl (by simp [Tryz.f11]) ?_
  obtain ⟨dl, en, pl, gr, gw, se, sw, pp, pu, lg, rg, rw', lk⟩ := h
  unfold Tryz.f11
  simp only [eWld, eSealeds, eGrams, ePeople, eEvents, eRows, eWords, eLeaks, List.map_cons, List.map_nil]
  refine wkx1 trivial trivial trivial _ ?_
  all_goals (repeat intro h)
  all_goals refine ⟨?_⟩
  refine AW.freshB 3 10 45 89 4 (by decide) rfl rfl rfl ?_
  refine AW.loopW (fun z σ => ∃ k : Nat, z = w.box.entries.length - k ∧ k ≤ w.box.entries.length ∧ σ = ⟨167, (upd (upd (upd (upd (fun _ => .junk) 1 (.one (.ptr 1 0))) 2 (.one (.ptr 2 0))) 3 (.one (.ptr 3 0))) 4 (.one (.c (i64 k)))), (upd (upd (upd (upd (upd (fun _ => none) 1 (some (.box ((eWld w).map .c)))) 2 (some (.box [.c (u32 0), .c (i64 0), .c (i64 0), .c (i64 0), .c (i64 0), .c (i64 0), .c (i64 0), .nil, .c (i64 0), .c (i64 0), .nil, .c (i64 0), .nil, .nil, .nil, .nil, .nil, .nil]))) 12 (some (.rows 22 1 (w.draws.list.map eWord)))) 45 (some (.rows 89 4 ((w.box.entries.take k).map eSealed)))) 3 (some (.box [.c (u32 w.conf.window), .c (i64 w.conf.people), .c (i64 w.conf.box), .c (i64 w.conf.used), .c (i64 w.conf.runs), .c (i64 w.conf.net), .c (i64 w.conf.regs), .own 12 w.draws.list.length, .c (i64 w.draws.next), .c (i64 w.box.room), .own 45 k, .c (i64 w.net.room), .c (.row (w.net.grams.map eGram)), .c (.row (w.net.seen.map eSeen)), .c (.row (w.people.map ePerson)), .c (.row (w.log.map eEvent)), .c (.row (w.regs.map eSeen)), .c (.row (w.leaks.map eLeak))])))⟩) (n := w.box.entries.length) _ ⟨0, rfl, Nat.zero_le _, rfl⟩ (by simp only [eWld, eSealeds, eGrams, ePeople, eEvents, eRows, eWords, eLeaks, List.map_cons, List.map_nil, List.take_zero, List.map_nil]; exact lz trivial) ?_
  rintro z σ ⟨k, rfl, hk, rfl⟩
  simp only [eWld, eSealeds, eGrams, ePeople, eEvents, eRows, eWords, eLeaks, List.map_cons, List.map_nil]
  have hkl : (w.box.entries.take k).length = k := by rw [List.length_take]; omega
  by_cases hlt : k < w.box.entries.length
  · obtain ⟨x, hx⟩ : ∃ x, w.box.entries[k]? = some x := ⟨_, List.getElem?_eq_getElem hlt⟩
    have hxl := pl x (List.mem_of_getElem? hx)
    have hs := wrapI (x := (k : Int) + 1) (by omega) (by omega)
    have hst : (w.box.entries.take (k + 1)).map eSealed = (w.box.entries.take k).map eSealed ++ [eSealed x] := by rw [List.take_add_one, hx]; simp
    refine wkx1 (And.intro hx (And.intro hlt (And.intro hs (And.intro hkl (And.intro eSealed.eq_1 (And.intro eWords.eq_1 eRuns.eq_1)))))) trivial trivial _ ?_
    all_goals (repeat intro h)
    all_goals refine ⟨?_⟩
    refine ⟨w.box.entries.length - (k + 1), by omega, _, ⟨k + 1, rfl, by omega, rfl⟩, ?_⟩
    rw [hst]
    simp only [eWld, eSealeds, eGrams, ePeople, eEvents, eRows, eWords, eLeaks, List.map_cons, List.map_nil, eSealed, eRuns]
    exact lz trivial
  obtain rfl : k = w.box.entries.length := by omega
  rw [List.take_length]
  refine wkx1 hkl trivial trivial _ ?_
  all_goals (repeat intro h)
  all_goals refine ⟨?_⟩
  clear hlt hk hkl
  refine AW.freshB 3 12 79 59 2 (by decide) rfl rfl rfl ?_
  refine AW.loopW (fun z σ => ∃ k : Nat, z = w.net.grams.length - k ∧ k ≤ w.net.grams.length ∧ σ = ⟨167, (upd (upd (upd (upd (fun _ => .junk) 1 (.one (.ptr 1 0))) 2 (.one (.ptr 2 0))) 3 (.one (.ptr 3 0))) 6 (.one (.c (i64 k)))), (upd (upd (upd (upd (upd (upd (fun _ => none) 1 (some (.box ((eWld w).map .c)))) 2 (some (.box [.c (u32 0), .c (i64 0), .c (i64 0), .c (i64 0), .c (i64 0), .c (i64 0), .c (i64 0), .nil, .c (i64 0), .c (i64 0), .nil, .c (i64 0), .nil, .nil, .nil, .nil, .nil, .nil]))) 12 (some (.rows 22 1 (w.draws.list.map eWord)))) 45 (some (.rows 89 4 (w.box.entries.map eSealed)))) 79 (some (.rows 59 2 ((w.net.grams.take k).map eGram)))) 3 (some (.box [.c (u32 w.conf.window), .c (i64 w.conf.people), .c (i64 w.conf.box), .c (i64 w.conf.used), .c (i64 w.conf.runs), .c (i64 w.conf.net), .c (i64 w.conf.regs), .own 12 w.draws.list.length, .c (i64 w.draws.next), .c (i64 w.box.room), .own 45 w.box.entries.length, .c (i64 w.net.room), .own 79 k, .c (.row (w.net.seen.map eSeen)), .c (.row (w.people.map ePerson)), .c (.row (w.log.map eEvent)), .c (.row (w.regs.map eSeen)), .c (.row (w.leaks.map eLeak))])))⟩) (n := w.net.grams.length) _ ⟨0, rfl, Nat.zero_le _, rfl⟩ (by simp only [eWld, eSealeds, eGrams, ePeople, eEvents, eRows, eWords, eLeaks, List.map_cons, List.map_nil, List.take_zero, List.map_nil]; exact lz trivial) ?_
  rintro z σ ⟨k, rfl, hk, rfl⟩
  simp only [eWld, eSealeds, eGrams, ePeople, eEvents, eRows, eWords, eLeaks, List.map_cons, List.map_nil]
  have hkl : (w.net.grams.take k).length = k := by rw [List.length_take]; omega
  by_cases hlt : k < w.net.grams.length
  · obtain ⟨x, hx⟩ : ∃ x, w.net.grams[k]? = some x := ⟨_, List.getElem?_eq_getElem hlt⟩
    have hxl := gw x (List.mem_of_getElem? hx)
    have hs := wrapI (x := (k : Int) + 1) (by omega) (by omega)
    have hst : (w.net.grams.take (k + 1)).map eGram = (w.net.grams.take k).map eGram ++ [eGram x] := by rw [List.take_add_one, hx]; simp
    refine wkx1 (And.intro hx (And.intro hlt (And.intro hs (And.intro hkl (And.intro eGram.eq_1 (And.intro eWords.eq_1 eRuns.eq_1)))))) trivial trivial _ ?_
    all_goals (repeat intro h)
    all_goals refine ⟨?_⟩
    refine ⟨w.net.grams.length - (k + 1), by omega, _, ⟨k + 1, rfl, by omega, rfl⟩, ?_⟩
    rw [hst]
    simp only [eWld, eSealeds, eGrams, ePeople, eEvents, eRows, eWords, eLeaks, List.map_cons, List.map_nil, eGram, eRuns]
    exact lz trivial
  obtain rfl : k = w.net.grams.length := by omega
  rw [List.take_length]
  refine wkx1 hkl trivial trivial _ ?_
  all_goals (repeat intro h)
  all_goals refine ⟨?_⟩
  clear hlt hk hkl
  refine AW.freshB 3 13 104 25 1 (by decide) rfl rfl rfl ?_
  refine AW.loopW (fun z σ => ∃ k : Nat, z = w.net.seen.length - k ∧ k ≤ w.net.seen.length ∧ σ = ⟨167, (upd (upd (upd (upd (fun _ => .junk) 1 (.one (.ptr 1 0))) 2 (.one (.ptr 2 0))) 3 (.one (.ptr 3 0))) 7 (.one (.c (i64 k)))), (upd (upd (upd (upd (upd (upd (upd (fun _ => none) 1 (some (.box ((eWld w).map .c)))) 2 (some (.box [.c (u32 0), .c (i64 0), .c (i64 0), .c (i64 0), .c (i64 0), .c (i64 0), .c (i64 0), .nil, .c (i64 0), .c (i64 0), .nil, .c (i64 0), .nil, .nil, .nil, .nil, .nil, .nil]))) 12 (some (.rows 22 1 (w.draws.list.map eWord)))) 45 (some (.rows 89 4 (w.box.entries.map eSealed)))) 79 (some (.rows 59 2 (w.net.grams.map eGram)))) 104 (some (.rows 25 1 ((w.net.seen.take k).map eSeen)))) 3 (some (.box [.c (u32 w.conf.window), .c (i64 w.conf.people), .c (i64 w.conf.box), .c (i64 w.conf.used), .c (i64 w.conf.runs), .c (i64 w.conf.net), .c (i64 w.conf.regs), .own 12 w.draws.list.length, .c (i64 w.draws.next), .c (i64 w.box.room), .own 45 w.box.entries.length, .c (i64 w.net.room), .own 79 w.net.grams.length, .own 104 k, .c (.row (w.people.map ePerson)), .c (.row (w.log.map eEvent)), .c (.row (w.regs.map eSeen)), .c (.row (w.leaks.map eLeak))])))⟩) (n := w.net.seen.length) _ ⟨0, rfl, Nat.zero_le _, rfl⟩ (by simp only [eWld, eSealeds, eGrams, ePeople, eEvents, eRows, eWords, eLeaks, List.map_cons, List.map_nil, List.take_zero, List.map_nil]; exact lz trivial) ?_
  rintro z σ ⟨k, rfl, hk, rfl⟩
  simp only [eWld, eSealeds, eGrams, ePeople, eEvents, eRows, eWords, eLeaks, List.map_cons, List.map_nil]
  have hkl : (w.net.seen.take k).length = k := by rw [List.length_take]; omega
  by_cases hlt : k < w.net.seen.length
  · obtain ⟨x, hx⟩ : ∃ x, w.net.seen[k]? = some x := ⟨_, List.getElem?_eq_getElem hlt⟩
    have hxl := sw x (List.mem_of_getElem? hx)
    have hs := wrapI (x := (k : Int) + 1) (by omega) (by omega)
    have hst : (w.net.seen.take (k + 1)).map eSeen = (w.net.seen.take k).map eSeen ++ [eSeen x] := by rw [List.take_add_one, hx]; simp
    refine wkx1 (And.intro hx (And.intro hlt (And.intro hs (And.intro hkl (And.intro eSeen.eq_1 (And.intro eWords.eq_1 eRuns.eq_1)))))) trivial trivial _ ?_
    all_goals (repeat intro h)
    all_goals refine ⟨?_⟩
    refine ⟨w.net.seen.length - (k + 1), by omega, _, ⟨k + 1, rfl, by omega, rfl⟩, ?_⟩
    rw [hst]
    simp only [eWld, eSealeds, eGrams, ePeople, eEvents, eRows, eWords, eLeaks, List.map_cons, List.map_nil, eSeen, eRuns]
    exact lz trivial
  obtain rfl : k = w.net.seen.length := by omega
  rw [List.take_length]
  refine wkx1 hkl trivial trivial _ ?_
  all_goals (repeat intro h)
  all_goals refine ⟨?_⟩
  clear hlt hk hkl
  refine AW.freshB 3 14 134 53 6 (by decide) rfl rfl rfl ?_
  refine AW.loopW (fun z σ => ∃ k : Nat, z = w.people.length - k ∧ k ≤ w.people.length ∧ σ = ⟨167, (upd (upd (upd (upd (fun _ => .junk) 1 (.one (.ptr 1 0))) 2 (.one (.ptr 2 0))) 3 (.one (.ptr 3 0))) 8 (.one (.c (i64 k)))), (upd (upd (upd (upd (upd (upd (upd (upd (fun _ => none) 1 (some (.box ((eWld w).map .c)))) 2 (some (.box [.c (u32 0), .c (i64 0), .c (i64 0), .c (i64 0), .c (i64 0), .c (i64 0), .c (i64 0), .nil, .c (i64 0), .c (i64 0), .nil, .c (i64 0), .nil, .nil, .nil, .nil, .nil, .nil]))) 12 (some (.rows 22 1 (w.draws.list.map eWord)))) 45 (some (.rows 89 4 (w.box.entries.map eSealed)))) 79 (some (.rows 59 2 (w.net.grams.map eGram)))) 104 (some (.rows 25 1 (w.net.seen.map eSeen)))) 134 (some (.rows 53 6 ((w.people.take k).map ePerson)))) 3 (some (.box [.c (u32 w.conf.window), .c (i64 w.conf.people), .c (i64 w.conf.box), .c (i64 w.conf.used), .c (i64 w.conf.runs), .c (i64 w.conf.net), .c (i64 w.conf.regs), .own 12 w.draws.list.length, .c (i64 w.draws.next), .c (i64 w.box.room), .own 45 w.box.entries.length, .c (i64 w.net.room), .own 79 w.net.grams.length, .own 104 w.net.seen.length, .own 134 k, .c (.row (w.log.map eEvent)), .c (.row (w.regs.map eSeen)), .c (.row (w.leaks.map eLeak))])))⟩) (n := w.people.length) _ ⟨0, rfl, Nat.zero_le _, rfl⟩ (by simp only [eWld, eSealeds, eGrams, ePeople, eEvents, eRows, eWords, eLeaks, List.map_cons, List.map_nil, List.take_zero, List.map_nil]; exact lz trivial) ?_
  rintro z σ ⟨k, rfl, hk, rfl⟩
  simp only [eWld, eSealeds, eGrams, ePeople, eEvents, eRows, eWords, eLeaks, List.map_cons, List.map_nil]
  have hkl : (w.people.take k).length = k := by rw [List.length_take]; omega
  by_cases hlt : k < w.people.length
  · obtain ⟨x, hx⟩ : ∃ x, w.people[k]? = some x := ⟨_, List.getElem?_eq_getElem hlt⟩
    have hxl := pu x (List.mem_of_getElem? hx)
    have hs := wrapI (x := (k : Int) + 1) (by omega) (by omega)
    have hst : (w.people.take (k + 1)).map ePerson = (w.people.take k).map ePerson ++ [ePerson x] := by rw [List.take_add_one, hx]; simp
    refine wkx1 (And.intro hx (And.intro hlt (And.intro hs (And.intro hkl (And.intro ePerson.eq_1 (And.intro eWords.eq_1 eRuns.eq_1)))))) trivial trivial _ ?_
    all_goals (repeat intro h)
    all_goals refine ⟨?_⟩
    refine ⟨w.people.length - (k + 1), by omega, _, ⟨k + 1, rfl, by omega, rfl⟩, ?_⟩
    rw [hst]
    simp only [eWld, eSealeds, eGrams, ePeople, eEvents, eRows, eWords, eLeaks, List.map_cons, List.map_nil, ePerson, eRuns]
    exact lz trivial
  obtain rfl : k = w.people.length := by omega
  rw [List.take_length]
  refine wkx1 hkl trivial trivial _ ?_
  all_goals (repeat intro h)
  all_goals refine ⟨?_⟩
  clear hlt hk hkl
  refine AW.freshB 3 16 159 25 1 (by decide) rfl rfl rfl ?_
  refine AW.loopW (fun z σ => ∃ k : Nat, z = w.regs.length - k ∧ k ≤ w.regs.length ∧ σ = ⟨167, (upd (upd (upd (upd (fun _ => .junk) 1 (.one (.ptr 1 0))) 2 (.one (.ptr 2 0))) 3 (.one (.ptr 3 0))) 10 (.one (.c (i64 k)))), (upd (upd (upd (upd (upd (upd (upd (upd (upd (upd (fun _ => none) 1 (some (.box ((eWld w).map .c)))) 2 (some (.box [.c (u32 0), .c (i64 0), .c (i64 0), .c (i64 0), .c (i64 0), .c (i64 0), .c (i64 0), .nil, .c (i64 0), .c (i64 0), .nil, .c (i64 0), .nil, .nil, .nil, .nil, .nil, .nil]))) 12 (some (.rows 22 1 (w.draws.list.map eWord)))) 45 (some (.rows 89 4 (w.box.entries.map eSealed)))) 79 (some (.rows 59 2 (w.net.grams.map eGram)))) 104 (some (.rows 25 1 (w.net.seen.map eSeen)))) 134 (some (.rows 53 6 (w.people.map ePerson)))) 136 (some (.rows 57 10 (w.log.map eEvent)))) 159 (some (.rows 25 1 ((w.regs.take k).map eSeen)))) 3 (some (.box [.c (u32 w.conf.window), .c (i64 w.conf.people), .c (i64 w.conf.box), .c (i64 w.conf.used), .c (i64 w.conf.runs), .c (i64 w.conf.net), .c (i64 w.conf.regs), .own 12 w.draws.list.length, .c (i64 w.draws.next), .c (i64 w.box.room), .own 45 w.box.entries.length, .c (i64 w.net.room), .own 79 w.net.grams.length, .own 104 w.net.seen.length, .own 134 w.people.length, .own 136 w.log.length, .own 159 k, .c (.row (w.leaks.map eLeak))])))⟩) (n := w.regs.length) _ ⟨0, rfl, Nat.zero_le _, rfl⟩ (by simp only [eWld, eSealeds, eGrams, ePeople, eEvents, eRows, eWords, eLeaks, List.map_cons, List.map_nil, List.take_zero, List.map_nil]; exact lz trivial) ?_
  rintro z σ ⟨k, rfl, hk, rfl⟩
  simp only [eWld, eSealeds, eGrams, ePeople, eEvents, eRows, eWords, eLeaks, List.map_cons, List.map_nil]
  have hkl : (w.regs.take k).length = k := by rw [List.length_take]; omega
  by_cases hlt : k < w.regs.length
  · obtain ⟨x, hx⟩ : ∃ x, w.regs[k]? = some x := ⟨_, List.getElem?_eq_getElem hlt⟩
    have hxl := rw' x (List.mem_of_getElem? hx)
    have hs := wrapI (x := (k : Int) + 1) (by omega) (by omega)
    have hst : (w.regs.take (k + 1)).map eSeen = (w.regs.take k).map eSeen ++ [eSeen x] := by rw [List.take_add_one, hx]; simp
    refine wkx1 (And.intro hx (And.intro hlt (And.intro hs (And.intro hkl (And.intro eSeen.eq_1 (And.intro eWords.eq_1 eRuns.eq_1)))))) trivial trivial _ ?_
    all_goals (repeat intro h)
    all_goals refine ⟨?_⟩
    refine ⟨w.regs.length - (k + 1), by omega, _, ⟨k + 1, rfl, by omega, rfl⟩, ?_⟩
    rw [hst]
    simp only [eWld, eSealeds, eGrams, ePeople, eEvents, eRows, eWords, eLeaks, List.map_cons, List.map_nil, eSeen, eRuns]
    exact lz trivial
  obtain rfl : k = w.regs.length := by omega
  rw [List.take_length]
  refine wkx0 hkl trivial trivial
end Go.Proofs.YtagccdebelheoaaGreatDoor.Abs
end
