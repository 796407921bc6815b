/- Texts that were merged: Q10c, P10a, P12a, P04. -/
import Derived.Test.YtagccdebelheoaaGreatDoorZ6
import Derived.Test.YtagccdebelheoaaGreatDoorZ4
import Derived.Test.YtagccdebelheoaaGreatDoorZ5
section
/- The reference of layer people, over values without addresses: New. -/
set_option linter.unusedSimpArgs false
set_option linter.unusedVariables false
set_option maxRecDepth 100000
namespace Go.Proofs.YtagccdebelheoaaGreatDoor.Abs
open Go.RowKit
/-- The one of a number, from 1 on. -/
def newOne (l : List Int) (nx i : Nat) : Person := ⟨((i + 1 : Nat) : Int), dAt l (nx + i), 0, [], [], false⟩
def newPl (l : List Int) (nx n : Nat) : List Person := person0 :: (List.range n).map (newOne l nx)
theorem newPl_len (l : List Int) (nx n : Nat) : (newPl l nx n).length = n + 1 := by simp [newPl]
theorem newPl_succ (l : List Int) (nx n : Nat) : newPl l nx (n + 1) = newPl l nx n ++ [newOne l nx n] := by simp [newPl, List.range_succ]
set_option maxHeartbeats 1000000 in
theorem q10_new (l : List Int) (nx n : Nat) (hn : n ≤ 100) (hx : nx ≤ 100000000) : ACalls Tryz.prog 75 [.one (i64 n), .agg (eDraws ⟨l, nx⟩)] (.tup [.one (ePeople (newPl l nx n)), .agg (eDraws ⟨l, ((nx + n : Nat) : Int)⟩)]) := by
  refine ACalls.intro (fn := Tryz.f75) Tryz.func75 rfl rfl (by simp [Tryz.f75]) ?_
  unfold Tryz.f75
  simp only [ePeople, eDraws, eWords]
  refine wk1 trivial trivial trivial _ ?_
  all_goals (repeat intro h)
  all_goals refine ⟨?_⟩
  refine AW.loopW (fun z σ => ∃ k : Nat, z = n - k ∧ k ≤ n ∧ σ = ⟨32, (upd (upd (upd (upd (upd (fun _ => .junk) 0 (.one (.c (i64 n)))) 3 (.one (.ptr 3 0))) 5 (.one (.ptr 5 0))) 6 (.one (.own 11 (k + 1)))) 7 (.one (.c (i64 ((k + 1 : Nat) : Int))))), (upd (upd (upd (fun _ => none) 3 (some (.box [.c (.row (l.map eWord)), .c (i64 ((nx + k : Nat) : Int))]))) 5 (some (.box [.nil, .c (i64 0)]))) 11 (some (.rows 53 6 ((newPl l nx k).map ePerson))))⟩) (n := n) _ ⟨0, rfl, Nat.zero_le _, rfl⟩ ?_ ?_
  · simp only [newPl, List.range_zero, List.map_nil, List.map_cons, ePerson, person0, eWords, eRuns, Nat.add_zero, Nat.zero_add, Int.natCast_one]
    exact lz trivial
  · rintro z σ ⟨k, rfl, hk, rfl⟩
    by_cases hlt : k < n
    · have h1 : ((k + 1 : Nat) : Int) ≤ (n : Int) := by omega
      have hw : IntKind.i64.wrap (((k + 1 : Nat) : Int) + 1) = ((k + 1 + 1 : Nat) : Int) := by rw [wrapI (by omega) (by omega)]; omega
      have hw2 : IntKind.u32.wrap ((k + 1 : Nat) : Int) = ((k + 1 : Nat) : Int) := IntWalk.u32_in _ (by omega)
      have tk := q04_take ⟨l, ((nx + k : Nat) : Int)⟩ (nx + k) rfl (by omega)
      have hL : (newPl l nx k).length = k + 1 := newPl_len l nx k
      simp only [eDraws, eWords] at tk
      generalize hG : newPl l nx k = G at *
      refine wk1 (And.intro h1 (And.intro hw (And.intro hw2 hL))) tk trivial _ ?_
      all_goals (repeat intro h)
      all_goals refine ⟨?_⟩
      refine ⟨n - (k + 1), by omega, _, ⟨k + 1, rfl, by omega, rfl⟩, ?_⟩
      rw [newPl_succ, hG]
      simp only [List.map_append, List.map_cons, List.map_nil, ePerson.eq_1 (newOne l nx k), newOne, eWords, eRuns, Nat.add_assoc]
      exact lz hL
    · obtain rfl : k = n := by omega
      have h1 : ¬ ((k + 1 : Nat) : Int) ≤ (k : Int) := by omega
      have hL : (newPl l nx k).length = k + 1 := newPl_len l nx k
      refine wk0 (And.intro h1 hL) trivial trivial
theorem newPl_right (l : List Int) (nx n : Nat) (h1 : 1 ≤ n) (h2 : n ≤ 6) : rightPl (newPl l nx n) = true := by
  unfold rightPl
  rw [Bool.and_eq_true]
  refine ⟨namesB_iff.2 fun i x hx => ?_, decide_eq_true (by rw [newPl_len]; omega)⟩
  have hi : i < n + 1 := by rw [← newPl_len l nx n]; exact (List.getElem?_eq_some_iff.1 hx).1
  rw [IntWalk.u32_in _ (by omega)]
  unfold newPl at hx
  cases i with
  | zero => simp at hx; subst hx; rfl
  | succ i =>
    simp only [List.getElem?_cons_succ, List.getElem?_map, Option.map_eq_some_iff] at hx
    obtain ⟨j, hj, rfl⟩ := hx
    obtain ⟨_, h3⟩ := List.getElem?_eq_some_iff.1 hj
    simp at h3
    subst h3
    rfl
end Go.Proofs.YtagccdebelheoaaGreatDoor.Abs
end
section
/- The landed layer people, over values without addresses: Right, Get, Set, Pair. -/
set_option linter.unusedSimpArgs false
set_option linter.unusedVariables false
set_option maxRecDepth 100000
namespace Go.Proofs.YtagccdebelheoaaGreatDoor.Abs
open Go.RowKit
theorem lib_clone_people (j : Nat) (l : List Person) (hl : l.length ≤ 1000000) : ACalls Tryz.prog 105 [.one (.rowc j (l.map ePerson))] (.own 53 6 (l.map ePerson)) := by
  refine ACalls.intro (fn := Tryz.f105) Tryz.func105 rfl rfl (by simp [Tryz.f105]) ?_
  unfold Tryz.f105
  simp only []
  cases l with
  | nil =>
    refine AW.empty 0 rfl ?_ ?_
    · refine wk0 trivial trivial trivial
    · refine wk0 trivial trivial trivial
  | cons x l =>
    simp only [List.length_cons] at hl
    refine wk0 trivial trivial trivial

/-- Where the one of a name is. -/
theorem find_or {α : Type} (l : List α) (p : α → Bool) : l.find? p = none ∨ ∃ i x, (l.take i).find? p = none ∧ l[i]? = some x ∧ p x = true ∧ l.find? p = some x := by
  induction l with
  | nil => exact .inl rfl
  | cons a l ih =>
    cases hp : p a with
    | true => exact .inr ⟨0, a, rfl, rfl, hp, by simp [hp]⟩
    | false =>
      rcases ih with h | ⟨i, x, h1, h2, h3, h4⟩
      · exact .inl (by simp [hp, h])
      · exact .inr ⟨i + 1, x, by simp [hp, h1], by simpa using h2, h3, by simp [hp, h4]⟩
theorem p10_placeAt (j : Nat) (l : List Person) (n : Int) (i : Nat) (x : Person) (ht : (l.take i).find? (fun p => p.name == n) = none) (hx : l[i]? = some x) (hp : (x.name == n) = true) : ACalls Tryz.prog 79 [.one (.rowc j (l.map ePerson)), .one (u32 n)] (.tup [.one (i64 i), .one (bl true)]) := by
  refine ACalls.introF (fn := Tryz.f79) Tryz.func79 rfl rfl (by simp [Tryz.f79]) fun hf => ?_
  have hl := Fine.rowC (hf _ (by simp) : FineCA (.one (.rowc j (l.map ePerson))))
  clear hf
  unfold Tryz.f79
  simp only []
  have hil : i < l.length := (List.getElem?_eq_some_iff.1 hx).1
  refine wk1 trivial trivial trivial _ ?_
  all_goals (repeat intro h)
  all_goals refine ⟨?_⟩
  refine AW.loopW (fun z σ => ∃ k : Nat, z = i - k ∧ k ≤ i ∧ σ = ⟨21, (upd (upd (upd (upd (fun _ => .junk) 1 (.one (.c (u32 n)))) 8 (.one (.c (.rowc j (l.map ePerson))))) 9 (.one (.c (i64 l.length)))) 10 (.one (.c (i64 k)))), (fun _ => none)⟩) (n := i) _ ⟨0, rfl, Nat.zero_le _, rfl⟩ (by exact lz trivial) ?_
  rintro z σ ⟨k, rfl, hk, rfl⟩
  have hlt : k < l.length := by omega
  have hs := wrapI (x := (k : Int) + 1) (by omega) (by omega)
  by_cases hki : k < i
  · obtain ⟨y, hy⟩ : ∃ y, l[k]? = some y := ⟨_, List.getElem?_eq_getElem hlt⟩
    have hq : (y.name == n) = false := by
      have := List.find?_eq_none.1 ht y (List.mem_of_getElem? (i := k) (by rw [List.getElem?_take, if_pos hki]; exact hy))
      simpa using this
    refine wk1 (And.intro hy (And.intro hlt (And.intro hs (And.intro hq ePerson.eq_1)))) trivial trivial _ ?_
    all_goals (repeat intro h)
    all_goals refine ⟨?_⟩
    refine ⟨i - (k + 1), by omega, _, ⟨k + 1, rfl, by omega, rfl⟩, ?_⟩
    exact lz trivial
  · obtain rfl : k = i := by omega
    refine wk0 (And.intro hx (And.intro hlt (And.intro hs (And.intro hp ePerson.eq_1)))) trivial trivial
theorem p10_placeNo (j : Nat) (l : List Person) (n : Int) (ht : l.find? (fun p => p.name == n) = none) : ACalls Tryz.prog 79 [.one (.rowc j (l.map ePerson)), .one (u32 n)] (.tup [.one (i64 0), .one (bl false)]) := by
  refine ACalls.introF (fn := Tryz.f79) Tryz.func79 rfl rfl (by simp [Tryz.f79]) fun hf => ?_
  have hl := Fine.rowC (hf _ (by simp) : FineCA (.one (.rowc j (l.map ePerson))))
  clear hf
  unfold Tryz.f79
  simp only []
  refine wk1 trivial trivial trivial _ ?_
  all_goals (repeat intro h)
  all_goals refine ⟨?_⟩
  refine AW.loopW (fun z σ => ∃ k : Nat, z = l.length - k ∧ k ≤ l.length ∧ σ = ⟨21, (upd (upd (upd (upd (fun _ => .junk) 1 (.one (.c (u32 n)))) 8 (.one (.c (.rowc j (l.map ePerson))))) 9 (.one (.c (i64 l.length)))) 10 (.one (.c (i64 k)))), (fun _ => none)⟩) (n := l.length) _ ⟨0, rfl, Nat.zero_le _, rfl⟩ (by exact lz trivial) ?_
  rintro z σ ⟨k, rfl, hk, rfl⟩
  by_cases hlt : k < l.length
  · have hs := wrapI (x := (k : Int) + 1) (by omega) (by omega)
    obtain ⟨y, hy⟩ : ∃ y, l[k]? = some y := ⟨_, List.getElem?_eq_getElem hlt⟩
    have hq : (y.name == n) = false := by simpa using List.find?_eq_none.1 ht y (List.mem_of_getElem? hy)
    refine wk1 (And.intro hy (And.intro hlt (And.intro hs (And.intro hq ePerson.eq_1)))) trivial trivial _ ?_
    all_goals (repeat intro h)
    all_goals refine ⟨?_⟩
    refine ⟨l.length - (k + 1), by omega, _, ⟨k + 1, rfl, by omega, rfl⟩, ?_⟩
    exact lz trivial
  · obtain rfl : k = l.length := by omega
    refine wk0 trivial trivial trivial
theorem p10_get (l : List Person) (n : Int) (hl : rightPl l = true) : ACalls Tryz.prog 52 [.one (ePeople l), .one (u32 n)] (.tup [.agg (ePerson (getPl l n).1), .one (bl (getPl l n).2)]) := by
  refine ACalls.intro (fn := Tryz.f52) Tryz.func52 rfl rfl (by simp [Tryz.f52]) ?_
  unfold Tryz.f52
  rcases find_or l (fun p => p.name == n) with h | ⟨i, x, h1, h2, h3, h4⟩
  · have hq := p10_placeNo 0 l n h
    have he : getPl l n = (person0, false) := by rw [getPl, h]
    rw [he]
    simp only [ePeople, ePerson, person0, eWords, eRuns, List.map_nil]
    refine wk0 trivial hq trivial
  · have hq := p10_placeAt 0 l n i x h1 h2 h3
    have he : getPl l n = (x, true) := by rw [getPl, h4]
    have hlt : i < l.length := (List.getElem?_eq_some_iff.1 h2).1
    rw [he]
    simp only [ePeople]
    refine wk0 (And.intro h2 (And.intro hlt ePerson.eq_1)) hq trivial
/-- What is answered; the row itself, in its colour, where it is refused. -/
def setPC (j : Nat) (l : List Person) (p : Person) : CV := if (setPl l p).2 = 0 then ePeople (setPl l p).1 else .rowc j (l.map ePerson)
theorem names_at {l : List Person} (hl : rightPl l = true) {i : Nat} {x : Person} (hx : l[i]? = some x) : x.name = (i : Int) ∧ i < 8 := by
  unfold rightPl at hl
  simp only [Bool.and_eq_true, decide_eq_true_eq] at hl
  have h1 := namesB_iff.1 hl.1 i x hx
  have h2 := (List.getElem?_eq_some_iff.1 hx).1
  rw [IntWalk.u32_in _ (by omega)] at h1
  exact ⟨h1, by omega⟩
theorem set_map {l : List Person} (hl : rightPl l = true) {i : Nat} {x p : Person} (hx : l[i]? = some x) (hp : x.name = p.name) : l.map (fun q => if q.name = p.name then p else q) = l.set i p := by
  refine List.ext_getElem? fun k => ?_
  rw [List.getElem?_map, List.getElem?_set]
  have hi := (List.getElem?_eq_some_iff.1 hx).1
  cases hk : l[k]? with
  | none =>
    have : l.length ≤ k := List.getElem?_eq_none_iff.1 hk
    rw [if_neg (by omega)]; rfl
  | some y =>
    have e1 := (names_at hl hx).1
    have e2 := (names_at hl hk).1
    by_cases e : i = k
    · subst e
      rw [hx] at hk; cases hk
      simp [hp, hi]
    · rw [if_neg e]
      have : y.name ≠ p.name := by omega
      simp [this]
theorem p10_set (j : Nat) (l : List Person) (p : Person) (hl : rightPl l = true) : ACalls Tryz.prog 90 [.one (.rowc j (l.map ePerson)), .agg (ePerson p)] (.tup [.one (setPC j l p), .one (i64 (setPl l p).2)]) := by
  refine ACalls.intro (fn := Tryz.f90) Tryz.func90 rfl rfl (by simp [Tryz.f90]) ?_
  unfold Tryz.f90
  have hlen : l.length ≤ 1000000 := by
    unfold rightPl at hl
    simp only [Bool.and_eq_true, decide_eq_true_eq] at hl
    omega
  rcases find_or l (fun q => q.name == p.name) with h | ⟨i, x, h1, h2, h3, h4⟩
  · have hq := p10_placeNo j l p.name h
    have he : (setPl l p).2 = 1 := by
      unfold setPl
      have : l.any (fun q => q.name == p.name) = false := by
        cases ha : l.any (fun q => q.name == p.name) with
        | false => rfl
        | true =>
          obtain ⟨q, hq1, hq2⟩ := List.any_eq_true.1 ha
          exact absurd hq2 (List.find?_eq_none.1 h q hq1)
      simp [this]
    have ec : setPC j l p = .rowc j (l.map ePerson) := by unfold setPC; rw [he]; rfl
    rw [he, ec]
    simp only [ePerson.eq_1 p]
    refine wk0 trivial hq trivial
  · have hq := p10_placeAt j l p.name i x h1 h2 h3
    have hcl := lib_clone_people j l hlen
    have hpi : x.name = p.name := by simpa using h3
    have hlt : i < l.length := (List.getElem?_eq_some_iff.1 h2).1
    have he : setPl l p = (l.set i p, 0) := by
      unfold setPl
      have : l.any (fun q => q.name == p.name) = true := List.any_eq_true.2 ⟨x, List.mem_of_getElem? h2, h3⟩
      rw [this, set_map hl h2 hpi]; rfl
    have ec : setPC j l p = ePeople (l.set i p) := by unfold setPC; rw [he]; rfl
    rw [he, ec]
    simp only [ePeople, List.map_set, ePerson.eq_1 p]
    refine wk1 hlt (And.intro hq hcl) trivial _ ?_
    all_goals (repeat intro h)
    all_goals refine ⟨?_⟩
    all_goals simp only [List.length_set, List.length_map]
theorem p10_isP (l : List Person) (a : Int) : ACalls Tryz.prog 82 [.one (ePeople l), .one (u32 a)] (rB ((getPl l a).2 && decide (0 < a))) := by
  refine ACalls.introF (fn := Tryz.f82) Tryz.func82 rfl rfl (by simp [Tryz.f82]) fun hf => ?_
  have ha := in_u32 (Fine.int (hf (.one (u32 a)) (by simp)))
  clear hf
  unfold Tryz.f82
  simp only [rB, ePeople]
  rcases find_or l (fun p => p.name == a) with h | ⟨i, x, h1, h2, h3, h4⟩
  · have hq := p10_placeNo 0 l a h
    have he : getPl l a = (person0, false) := by rw [getPl, h]
    rw [he]
    refine wk0 trivial hq trivial
  · have hq := p10_placeAt 0 l a i x h1 h2 h3
    have he : getPl l a = (x, true) := by rw [getPl, h4]
    rw [he]
    by_cases h0 : a = 0
    · subst h0
      refine wk0 trivial hq trivial
    · have hb : (a != 0) = true := by simp [h0]
      have hp : decide (0 < a) = true := by simp; omega
      rw [hp]
      refine wk0 hb hq trivial
theorem p10_pair (l : List Person) (a b : Int) (hl : rightPl l = true) : ACalls Tryz.prog 54 [.one (ePeople l), .one (u32 a), .one (u32 b)] (rB (pairPl l a b)) := by
  refine ACalls.intro (fn := Tryz.f54) Tryz.func54 rfl rfl (by simp [Tryz.f54]) ?_
  have ga := p10_isP l a
  have gb := p10_isP l b
  have e : pairPl l a b = (a != b && (((getPl l a).2 && decide (0 < a)) && ((getPl l b).2 && decide (0 < b)))) := by
    unfold pairPl
    cases (getPl l a).2 <;> cases (getPl l b).2 <;> cases (a != b) <;> cases decide (0 < a) <;> cases decide (0 < b) <;> rfl
  rw [e]
  unfold Tryz.f54
  generalize ((getPl l a).2 && decide (0 < a)) = A at *
  generalize ((getPl l b).2 && decide (0 < b)) = B at *
  simp only [ePeople, rB] at *
  cases hab : (a != b)
  · refine wk0 hab trivial trivial
  · cases A
    · refine wk0 hab (And.intro ga gb) trivial
    · refine wk0 hab (And.intro ga gb) trivial
end Go.Proofs.YtagccdebelheoaaGreatDoor.Abs
end
section
/- The landed desk, over values without addresses: whether a world has its form. -/
set_option linter.unusedSimpArgs false
set_option linter.unusedVariables false
set_option maxRecDepth 100000
namespace Go.Proofs.YtagccdebelheoaaGreatDoor.Abs
open Go.RowKit
theorem mayC_eq (c : Conf) (h : 0 ≤ c.window) : mayC c = (decide (0 ≤ c.window ∧ c.window ≤ 1048576) && (decide (1 ≤ c.people ∧ c.people ≤ 6) && (decide (0 ≤ c.box ∧ c.box ≤ 64) && (decide (0 ≤ c.used ∧ c.used ≤ 64) && (decide (0 ≤ c.runs ∧ c.runs ≤ 64) && (decide (0 ≤ c.net ∧ c.net ≤ 64) && decide (1 ≤ c.regs ∧ c.regs ≤ 8))))))) := by
  rw [Bool.eq_iff_iff]
  simp only [mayC, roomB, Bool.and_eq_true, decide_eq_true_eq]
  omega
theorem formW_eq (w : Wld) : formW w = (mayC w.conf && ((rightB w.box && (w.box.room == w.conf.box)) && ((rightN w.net && ((w.net.room == w.conf.net) && (w.net.grams.all gramB && w.net.seen.all shB))) && ((rightPl w.people && (((w.people.length : Int) == w.conf.people + 1) && w.people.all (personB w.conf))) && ((((w.regs.length : Int) == w.conf.regs) && w.regs.all shB) && decide (0 ≤ w.draws.next ∧ w.draws.next ≤ 1048576)))))) := by
  rw [Bool.eq_iff_iff]
  simp only [formW, formA, formB, Bool.and_eq_true, decide_eq_true_eq, beq_iff_eq]
  constructor
  · rintro ⟨⟨a1, a2, a3, a4, a5⟩, ⟨b1, b2, b3, b4⟩, c1, c2, c3, c4⟩
    exact ⟨a1, ⟨a2, a3⟩, ⟨a4, a5, c4, c3⟩, ⟨b1, b2, c1⟩, ⟨b3, c2⟩, b4⟩
  · rintro ⟨a1, ⟨a2, a3⟩, ⟨a4, a5, c4, c3⟩, ⟨b1, b2, c1⟩, ⟨b3, c2⟩, b4⟩
    exact ⟨⟨a1, a2, a3, a4, a5⟩, ⟨b1, b2, b3, b4⟩, c1, c2, c3, c4⟩
end Go.Proofs.YtagccdebelheoaaGreatDoor.Abs
end
section
/- The landed layer draw, over values without addresses: Take. -/
set_option linter.unusedSimpArgs false
set_option linter.unusedVariables false
set_option maxRecDepth 100000
namespace Go.Proofs.YtagccdebelheoaaGreatDoor.Abs
open Go.RowKit
theorem or_bit {x : Int} (h0 : 0 ≤ x) (h1 : x < 4294967296) : IntKind.u32.wrap (((BitVec.ofInt 32 x ||| BitVec.ofInt 32 2147483648).toNat : Nat) : Int) = bitI x := by
  obtain ⟨n, rfl⟩ : ∃ n : Nat, x = n := ⟨x.toNat, by omega⟩
  have e1 : BitVec.ofInt 32 (n : Int) = BitVec.ofNat 32 n := by
    apply BitVec.eq_of_toNat_eq
    simp only [BitVec.toNat_ofInt, BitVec.toNat_ofNat]
    omega
  have e2 : BitVec.ofInt 32 2147483648 = BitVec.ofNat 32 2147483648 := by decide
  rw [e1, e2, BitVec.toNat_or, BitVec.toNat_ofNat, BitVec.toNat_ofNat, IntKind.wrap_u32]
  have hn : n % 2 ^ 32 = n := Nat.mod_eq_of_lt (by omega)
  have h31 : (2147483648 : Nat) % 2 ^ 32 = 2147483648 := by decide
  rw [hn, h31]
  unfold bitI
  by_cases hb : n < 2147483648
  · have := Nat.two_pow_add_eq_or_of_lt (i := 31) (b := n) (by simpa using hb) 1
    have e : n ||| 2147483648 = n + 2147483648 := by
      rw [Nat.or_comm]
      have h2 : (2147483648 : Nat) = 2 ^ 31 * 1 := by decide
      rw [h2, ← this]; omega
    rw [e, if_pos (by omega)]
    omega
  · obtain ⟨y, rfl⟩ : ∃ y, n = 2147483648 + y := ⟨n - 2147483648, by omega⟩
    have := Nat.two_pow_add_eq_or_of_lt (i := 31) (b := y) (by simp; omega) 1
    have h2 : (2147483648 : Nat) = 2 ^ 31 * 1 := by decide
    have e : 2147483648 + y = 2147483648 ||| y := by rw [h2]; exact this
    rw [if_neg (by omega)]
    have e3 : 2147483648 + y ||| 2147483648 = 2147483648 + y := by
      rw [e, Nat.or_comm (2147483648 ||| y), ← Nat.or_assoc, Nat.or_self]
    rw [e3]
    omega
theorem p01_draw (x : Int) (h : 0 ≤ x ∧ x < 4294967296) : ACalls Tryz.prog 114 [.one (u32 x)] (.one (.one (u32 (bitI x)))) := by
  refine ACalls.intro (fn := Tryz.f114) Tryz.func114 rfl rfl (by simp [Tryz.f114]) ?_
  unfold Tryz.f114
  rw [← or_bit h.1 h.2]
  refine wk1 trivial trivial trivial _ ?_
  all_goals (repeat intro h)
  all_goals refine ⟨?_⟩
  all_goals rfl
theorem p04_nth (l : List Int) (i : Nat) (hr : ∀ x ∈ l, 0 ≤ x ∧ x < 4294967296) : ACalls Tryz.prog 101 [.one (eWords l), .one (i64 i)] (.one (.one (u32 (dAt l i)))) := by
  refine ACalls.intro (fn := Tryz.f101) Tryz.func101 rfl rfl (by simp [Tryz.f101]) ?_
  unfold Tryz.f101
  simp only [eWords] at *
  by_cases hlt : i < l.length
  · obtain ⟨x, hx⟩ : ∃ x, l[i]? = some x := ⟨_, List.getElem?_eq_getElem hlt⟩
    have hli : (i : Int) < (l.length : Int) := by omega
    have hq := p01_draw x (hr x (List.mem_of_getElem? hx))
    rw [show dAt l i = bitI x by simp [dAt, hx]]
    refine wk0 (And.intro hx (And.intro hlt (And.intro hli eWord.eq_1))) hq trivial
  · have hli : ¬ (i : Int) < (l.length : Int) := by omega
    have hn : l[i]? = none := List.getElem?_eq_none (by omega)
    have hq := p01_draw (farI i) (u32_range _)
    have hq2 : ACalls Tryz.prog 114 [.one (u32 (IntKind.u32.wrap (((BitVec.ofInt IntKind.u32.bits 1073741824 ||| BitVec.ofInt IntKind.u32.bits (IntKind.u32.wrap (i : Int))).toNat : Nat) : Int)))] (.one (.one (u32 (bitI (farI i))))) := hq
    rw [show dAt l i = bitI (farI i) by simp [dAt, hn]]
    refine wk0 hli hq2 trivial
theorem p04_take (d : Draws) (i : Nat) (hd : d.next = i) (hi : (i : Int) < 1000000000) : ACalls Tryz.prog 87 [.agg (eDraws d)] (.tup [.agg (eDraws ⟨d.list, ((i + 1 : Nat) : Int)⟩), .one (u32 (dAt d.list i))]) := by
  refine ACalls.introF (fn := Tryz.f87) Tryz.func87 rfl rfl (by simp [Tryz.f87]) fun hf => ?_
  have hr := (fineWords ((hf _ (by simp) : FineCA (.agg (eDraws d))) (eWords d.list) (by simp [eDraws]))).2
  clear hf
  have hq := p04_nth d.list i hr
  obtain ⟨l, nx⟩ := d
  simp only at hd
  subst hd
  have hw : IntKind.i64.wrap ((i : Int) + 1) = ((i + 1 : Nat) : Int) := by rw [wrapI (by omega) (by omega)]; omega
  unfold Tryz.f87
  simp only [eDraws, eWords] at *
  refine wk0 hw hq trivial
end Go.Proofs.YtagccdebelheoaaGreatDoor.Abs
end
