/- Texts that were merged: P06, P07, P07b, P08, Q09b, P09, Q10c, P10a, P12a, P04. -/
import Derived.Test.YthfhhciogimhjaaGreatDoorZ5
import Derived.Test.YthfhhciogimhjaaGreatDoorZ4
import Derived.Test.YthfhhciogimhjaaGreatDoorZ6
import Derived.Test.YthfhhciogimhjaaGreatDoorZ7
section
/- The landed layer net, over values without addresses. -/
set_option linter.unusedSimpArgs false
set_option linter.unusedVariables false
set_option maxRecDepth 100000
namespace Go.Proofs.YthfhhciogimhjaaGreatDoor.Abs
open Go.RowKit
theorem p06_free (n : Net) : ACalls Tryz.prog 93 [.agg (eNet n)] (rI (IntKind.i64.wrap (n.room - n.grams.length))) := by
  refine ACalls.intro (fn := Tryz.f93) Tryz.func93 rfl rfl (by simp [Tryz.f93]) ?_
  unfold Tryz.f93 eNet eGrams
  simp only [rI]
  refine wk0 trivial trivial trivial
theorem p06_full (n : Net) (hl : n.grams.length < 1000000) (hr : 0 ≤ n.room) : ACalls Tryz.prog 116 [.agg (eNet n)] (rB (decide (n.room ≤ (n.grams.length : Int)))) := by
  refine ACalls.introF (fn := Tryz.f116) Tryz.func116 rfl rfl (by simp [Tryz.f116]) fun hf => ?_
  have hr2 := in_i64 (Fine.int ((hf _ (by simp) : FineCA (.agg (eNet n))) (i64 n.room) (by simp [eNet])))
  have hq := p06_free n
  have hw : IntKind.i64.wrap (n.room - (n.grams.length : Int)) = n.room - (n.grams.length : Int) := wrapI (by omega) (by omega)
  rw [hw] at hq
  unfold Tryz.f116 eNet at *
  simp only [rI, rB] at *
  refine wk1 trivial hq trivial _ ?_
  all_goals (repeat intro h)
  all_goals refine ⟨?_⟩
  congr 4
  rw [decide_eq_decide]
  omega
theorem p06_behind_gram (l : List Gram) (g : Gram) (hl : l.length < 1000000) : ACalls Tryz.prog 117 [.one (eGrams l), .agg (eGram g)] (.one (.one (eGrams (l ++ [g])))) := by
  refine ACalls.intro (fn := Tryz.f117) Tryz.func117 rfl rfl (by simp [Tryz.f117]) ?_
  unfold Tryz.f117 eGrams
  simp only [eGram.eq_1 g]
  refine wk1 trivial trivial trivial _ ?_
  all_goals (repeat intro h)
  all_goals refine ⟨?_⟩
  simp [eGram, eSeen]
theorem p06_behind_seen (l : List (List Int)) (g : List Int) (hl : l.length < 1000000) : ACalls Tryz.prog 118 [.one (eRows l), .one (eWords g)] (.one (.one (eRows (l ++ [g])))) := by
  refine ACalls.intro (fn := Tryz.f118) Tryz.func118 rfl rfl (by simp [Tryz.f118]) ?_
  unfold Tryz.f118 eRows
  simp only []
  refine wk1 trivial trivial trivial _ ?_
  all_goals (repeat intro h)
  all_goals refine ⟨?_⟩
  simp [eGram, eSeen]
theorem p06_send (n : Net) (g : Gram) (hl : n.grams.length < 1000000) (hs : n.seen.length < 1000000) (hr : 0 ≤ n.room) : ACalls Tryz.prog 100 [.agg (eNet n), .agg (eGram g)] (.tup [.agg (eNet (sendN n g).1), .one (i64 (sendN n g).2)]) := by
  refine ACalls.intro (fn := Tryz.f100) Tryz.func100 rfl rfl (by simp [Tryz.f100]) ?_
  have hf := p06_full n hl hr
  have h1 := p06_behind_gram n.grams g hl
  have h2 := p06_behind_seen n.seen g.words hs
  unfold Tryz.f100 eNet eGram at *
  simp only [rB] at *
  refine wk2 trivial (And.intro hf (And.intro h1 h2)) trivial _ _ ?_ ?_
  all_goals (repeat intro h)
  all_goals refine ⟨?_⟩
  · simp [sendN, h]
  · have h' : ¬ n.room ≤ (n.grams.length : Int) := by omega
    simp [sendN, h']
end Go.Proofs.YthfhhciogimhjaaGreatDoor.Abs
end
section
/- The landed box, over values without addresses. -/
set_option linter.unusedSimpArgs false
set_option linter.unusedVariables false
set_option maxRecDepth 100000
namespace Go.Proofs.YthfhhciogimhjaaGreatDoor.Abs
open Go.RowKit
theorem lib_index_sealed (j : Nat) (l : List Sealed) (p : Sealed → Bool) (f : FuncId) (caps : List CV) (hp : ∀ s, ACalls Tryz.prog f (.agg (eSealed s) :: caps.map .one) (rB (p s))) :
    ACalls Tryz.prog 119 [.one (.rowc j (l.map eSealed)), .one (.fn f false [] caps)] (rI (idxOf l p)) := by
  refine ACalls.introF (fn := Tryz.f119) Tryz.func119 rfl rfl (by simp [Tryz.f119]) fun hf => ?_
  have hl := Fine.rowC (hf _ (by simp) : FineCA (.one (.rowc j (l.map eSealed))))
  clear hf
  unfold Tryz.f119
  simp only [rI]
  refine wk1 trivial trivial trivial _ ?_
  all_goals (repeat intro h)
  all_goals refine ⟨?_⟩
  refine AW.loopW (fun n σ => ∃ k : Nat, n = l.length - k ∧ k ≤ l.length ∧ (∀ s ∈ l.take k, p s = false) ∧ σ = ⟨19, upd (upd (upd (upd (fun _ => .junk) 8 (.one (.c (i64 k)))) 7 (.one (.c (i64 l.length)))) 1 (.one (.c (.fn f false [] caps)))) 0 (.one (.c (.rowc j (l.map eSealed)))), fun _ => none⟩) (n := l.length) _ ⟨0, rfl, Nat.zero_le _, by simp, rfl⟩ (by exact lz trivial) ?_
  rintro n σ ⟨k, rfl, hk, ht, rfl⟩
  by_cases hlt : k < l.length
  · obtain ⟨x, hx⟩ : ∃ x, l[k]? = some x := ⟨_, List.getElem?_eq_getElem hlt⟩
    have hs := wrapI (x := (k : Int) + 1) (by omega) (by omega)
    have hq := hp x
    cases hpx : p x
    · rw [hpx] at hq
      simp only [eSealed, rB] at hq
      refine wk1 (And.intro hx (And.intro hlt (And.intro hs eSealed.eq_1))) hq trivial _ ?_
      all_goals (repeat intro h)
      all_goals refine ⟨?_⟩
      refine ⟨l.length - (k + 1), by omega, _, ⟨k + 1, rfl, by omega, idxOf_next ht hx hpx, rfl⟩, ?_⟩
      exact lz trivial
    · rw [hpx] at hq
      simp only [eSealed, rB] at hq
      refine wk1 (And.intro hx (And.intro hlt (And.intro hs eSealed.eq_1))) hq trivial _ ?_
      all_goals (repeat intro h)
      all_goals refine ⟨?_⟩
      rw [idxOf_some ht hx hpx]
  · obtain rfl : k = l.length := by omega
    refine wk1 trivial trivial trivial _ ?_
    all_goals (repeat intro h)
    all_goals refine ⟨?_⟩
    rw [idxOf_none ht]

theorem lib_contains_sealed (j : Nat) (l : List Sealed) (p : Sealed → Bool) (f : FuncId) (caps : List CV) (hp : ∀ s, ACalls Tryz.prog f (.agg (eSealed s) :: caps.map .one) (rB (p s))) :
    ACalls Tryz.prog 125 [.one (.rowc j (l.map eSealed)), .one (.fn f false [] caps)] (rB (l.any p)) := by
  refine ACalls.intro (fn := Tryz.f125) Tryz.func125 rfl rfl (by simp [Tryz.f125]) ?_
  have hq := lib_index_sealed j l p f caps hp
  rw [← idxOf_ge]
  unfold Tryz.f125
  simp only [rI, rB] at *
  refine wk0 trivial hq trivial
theorem p07_pred (s : Sealed) (h : Int) : ACalls Tryz.prog 134 [.agg (eSealed s), .one (.ptrc 0 [u32 h] 0)] (rB (s.handle == h)) := by
  refine ACalls.intro (fn := Tryz.f134) Tryz.func134 rfl rfl (by simp [Tryz.f134]) ?_
  unfold Tryz.f134 eSealed
  simp only [rB]
  refine wk0 trivial trivial trivial
abbrev fnHandle (h : Int) : CV := .fn 134 false [] [.ptrc 0 [u32 h] 0]
theorem p07_of (h : Int) : ACalls Tryz.prog 120 [.one (u32 h)] (.one (.one (fnHandle h))) := by
  refine ACalls.intro (fn := Tryz.f120) Tryz.func120 rfl rfl (by simp [Tryz.f120]) ?_
  unfold Tryz.f120
  simp only [fnHandle]
  refine wk0 trivial trivial trivial
theorem p07_contains (j : Nat) (l : List Sealed) (h : Int) : ACalls Tryz.prog 125 [.one (.rowc j (l.map eSealed)), .one (fnHandle h)] (rB (thereB l h)) :=
  lib_contains_sealed j l (fun s => s.handle == h) _ _ (fun s => p07_pred s h)
theorem p07_index (j : Nat) (l : List Sealed) (h : Int) : ACalls Tryz.prog 119 [.one (.rowc j (l.map eSealed)), .one (fnHandle h)] (rI (idxOf l fun s => s.handle == h)) :=
  lib_index_sealed j l (fun s => s.handle == h) _ _ (fun s => p07_pred s h)
theorem p07_fits (j : Nat) (p : List Int) : ACalls Tryz.prog 124 [.one (.rowc j (p.map eWord))] (rB (decide ((p.length : Int) ≤ 64))) := by
  refine ACalls.intro (fn := Tryz.f124) Tryz.func124 rfl rfl (by simp [Tryz.f124]) ?_
  unfold Tryz.f124
  simp only [rB]
  refine wk0 trivial trivial trivial
theorem p07_free (j : Nat) (b : Box) (h0 : 0 ≤ b.room) (h1 : b.room ≤ 64) (hl : b.entries.length < 1000000) : ACalls Tryz.prog 92 [.agg (eBoxC j b)] (rI (b.room - b.entries.length)) := by
  refine ACalls.intro (fn := Tryz.f92) Tryz.func92 rfl rfl (by simp [Tryz.f92]) ?_
  have hw := wrapI (x := b.room - (b.entries.length : Int)) (by omega) (by omega)
  unfold Tryz.f92 eBoxC
  simp only [rI]
  refine wk0 hw trivial trivial
end Go.Proofs.YthfhhciogimhjaaGreatDoor.Abs
end
section
/- The landed box, over values without addresses: Right. -/
set_option linter.unusedSimpArgs false
set_option linter.unusedVariables false
set_option maxRecDepth 100000
namespace Go.Proofs.YthfhhciogimhjaaGreatDoor.Abs
open Go.RowKit
end Go.Proofs.YthfhhciogimhjaaGreatDoor.Abs
end
section
/- The landed used, over values without addresses. -/
set_option linter.unusedSimpArgs false
set_option linter.unusedVariables false
set_option maxRecDepth 100000
namespace Go.Proofs.YthfhhciogimhjaaGreatDoor.Abs
open Go.RowKit
theorem lib_grow_words (n : Int) (h0 : 0 ≤ n) (hn : n ≤ 1000000) : ACalls Tryz.prog 110 [.nil, .one (i64 n)] (.own 22 1 []) := by
  refine ACalls.intro (fn := Tryz.f110) Tryz.func110 rfl rfl (by simp [Tryz.f110]) ?_
  have w0 : IntKind.i64.wrap 0 = 0 := by decide
  have w1 : IntKind.i64.wrap n = n := wrapI (by omega) (by omega)
  obtain ⟨N, rfl⟩ : ∃ N : Nat, n = N := ⟨n.toNat, by omega⟩
  unfold Tryz.f110
  simp only []
  refine wk0 (And.intro @Int.sub_self (And.intro @Int.sub_zero (And.intro w0 w1))) trivial trivial

theorem lib_concatC_words (ls : List (Nat × List Int)) (hk : ls.length ≤ 1000000) (hl : (ls.map (·.2)).flatten.length ≤ 1000000) : ACalls Tryz.prog 96 [.one (.row (ls.map fun l => [.rowc l.1 (l.2.map eWord)]))] (.own 22 1 ((ls.map (·.2)).flatten.map eWord)) := by
  refine ACalls.intro (fn := Tryz.f96) Tryz.func96 rfl rfl (by simp [Tryz.f96]) ?_
  unfold Tryz.f96
  simp only []
  have hstep : ∀ {k : Nat} {x : Nat × List Int}, ls[k]? = some x → ((ls.map (·.2)).take (k + 1)).flatten = ((ls.map (·.2)).take k).flatten ++ x.2 := fun {k x} hx => by
    rw [List.take_add_one, List.getElem?_map, hx]; simp
  have hle : ∀ k, ((ls.map (·.2)).take k).flatten.length ≤ (ls.map (·.2)).flatten.length := fun k => by
    have := congrArg (fun l => l.flatten.length) (List.take_append_drop k (ls.map (·.2)))
    simp only [List.flatten_append, List.length_append] at this
    omega
  refine wk1 trivial trivial trivial _ ?_
  all_goals (repeat intro h)
  all_goals refine ⟨?_⟩
  refine AW.loopW (fun n σ => ∃ k : Nat, n = ls.length - k ∧ k ≤ ls.length ∧ σ = ⟨36, upd (upd (upd (upd (upd (fun _ => .junk) 11 (.one (.c (i64 k)))) 10 (.one (.c (i64 ls.length)))) 9 (.one (.c (.row (ls.map fun l => [.rowc l.1 (l.2.map eWord)]))))) 3 (.one (.c (i64 (((ls.map (·.2)).take k).flatten.length : Nat))))) 0 (.one (.c (.row (ls.map fun l => [.rowc l.1 (l.2.map eWord)])))), fun _ => none⟩) (n := ls.length) _ ⟨0, rfl, Nat.zero_le _, rfl⟩ (by exact lz trivial) ?_
  rintro n σ ⟨k, rfl, hkl, rfl⟩
  by_cases hlt : k < ls.length
  · obtain ⟨x, hx⟩ : ∃ x : Nat × List Int, ls[k]? = some x := ⟨_, List.getElem?_eq_getElem hlt⟩
    have h1 := hle (k + 1)
    have hst := hstep hx
    rw [hst, List.length_append] at h1
    have hs := wrapI (x := (k : Int) + 1) (by omega) (by omega)
    have hs2 := wrapI (x := (((ls.map (·.2)).take k).flatten.length : Int) + (x.2.length : Int)) (by omega) (by omega)
    generalize hq : ((ls.map (·.2)).take k).flatten.length = q at hs2 h1
    refine wk1 (And.intro hx (And.intro hlt (And.intro hs (And.intro hs2 eWords.eq_1)))) trivial trivial _ ?_
    all_goals (repeat intro h)
    all_goals refine ⟨?_⟩
    refine ⟨ls.length - (k + 1), by omega, _, ⟨k + 1, rfl, by omega, rfl⟩, ?_⟩
    rw [hst, List.length_append, hq]
    have hc : ((q + x.2.length : Nat) : Int) = (q : Int) + (x.2.length : Int) := by omega
    exact lz hc
  · obtain rfl : k = ls.length := by omega
    rw [List.take_of_length_le (by simp)]
    generalize hq : (ls.map (·.2)).flatten.length = q at hl hle
    have gw := lib_grow_words q (by omega) (by omega)
    refine wk1 trivial gw trivial _ ?_
    all_goals (repeat intro h)
    all_goals refine ⟨?_⟩
    refine AW.loopW (fun n σ => ∃ k : Nat, n = ls.length - k ∧ k ≤ ls.length ∧ σ = ⟨36, upd (upd (upd (upd (fun _ => .junk) 27 (.one (.c (i64 k)))) 26 (.one (.c (i64 ls.length)))) 25 (.one (.c (.row (ls.map fun l => [.rowc l.1 (l.2.map eWord)]))))) 6 (.one (.own 24 ((ls.map (·.2)).take k).flatten.length)), upd (fun _ => none) 24 (some (.rows 22 1 (((ls.map (·.2)).take k).flatten.map eWord)))⟩) (n := ls.length) _ ⟨0, rfl, Nat.zero_le _, rfl⟩ (by exact lz trivial) ?_
    rintro n σ ⟨k, rfl, hkl, rfl⟩
    by_cases hlt : k < ls.length
    · obtain ⟨x, hx⟩ : ∃ x : Nat × List Int, ls[k]? = some x := ⟨_, List.getElem?_eq_getElem hlt⟩
      have h1 := hle (k + 1)
      have hst := hstep hx
      rw [hst, List.length_append] at h1
      have hs := wrapI (x := (k : Int) + 1) (by omega) (by omega)
      refine wk1 (And.intro hx (And.intro hlt (And.intro hs eWords.eq_1))) trivial trivial _ ?_
      all_goals (repeat intro h)
      all_goals refine ⟨?_⟩
      refine ⟨ls.length - (k + 1), by omega, _, ⟨k + 1, rfl, by omega, rfl⟩, ?_⟩
      rw [hst]
      simp only [List.length_append, List.map_append]
      exact lz trivial
    · obtain rfl : k = ls.length := by omega
      rw [List.take_of_length_le (by simp)]
      refine wk0 trivial trivial trivial

theorem lib_index_words (j : Nat) (l : List Int) (w : Int) :
    ACalls Tryz.prog 104 [.one (.rowc j (l.map eWord)), .one (u32 w)] (rI (idxOf l fun x => w == x)) := by
  refine ACalls.introF (fn := Tryz.f104) Tryz.func104 rfl rfl (by simp [Tryz.f104]) fun hf => ?_
  have hl := Fine.rowC (hf _ (by simp) : FineCA (.one (.rowc j (l.map eWord))))
  clear hf
  unfold Tryz.f104
  simp only [rI]
  refine wk1 trivial trivial trivial _ ?_
  all_goals (repeat intro h)
  all_goals refine ⟨?_⟩
  refine AW.loopW (fun n σ => ∃ k : Nat, n = l.length - k ∧ k ≤ l.length ∧ (∀ s ∈ l.take k, (fun x => w == x) s = false) ∧ σ = ⟨19, (upd (upd (upd (upd (fun _ => .junk) 0 (.one (.c (.rowc j (l.map eWord))))) 1 (.one (.c (u32 w)))) 7 (.one (.c (i64 l.length)))) 8 (.one (.c (i64 k)))), (fun _ => none)⟩) (n := l.length) _ ⟨0, rfl, Nat.zero_le _, by simp, rfl⟩ (by exact lz trivial) ?_
  rintro n σ ⟨k, rfl, hk, ht, rfl⟩
  by_cases hlt : k < l.length
  · obtain ⟨x, hx⟩ : ∃ x, l[k]? = some x := ⟨_, List.getElem?_eq_getElem hlt⟩
    have hs := wrapI (x := (k : Int) + 1) (by omega) (by omega)
    cases hp : (w == x)
    · refine wk1 (And.intro hx (And.intro hlt (And.intro hs (And.intro hp eWord.eq_1)))) trivial trivial _ ?_
      all_goals (repeat intro h)
      all_goals refine ⟨?_⟩
      refine ⟨l.length - (k + 1), by omega, _, ⟨k + 1, rfl, by omega, idxOf_next ht hx hp, rfl⟩, ?_⟩
      exact lz trivial
    · refine wk1 (And.intro hx (And.intro hlt (And.intro hs (And.intro hp eWord.eq_1)))) trivial trivial _ ?_
      all_goals (repeat intro h)
      all_goals refine ⟨?_⟩
      rw [idxOf_some ht hx hp]
  · obtain rfl : k = l.length := by omega
    refine wk1 trivial trivial trivial _ ?_
    all_goals (repeat intro h)
    all_goals refine ⟨?_⟩
    rw [idxOf_none ht]
theorem lib_contains_words (j : Nat) (l : List Int) (w : Int) :
    ACalls Tryz.prog 89 [.one (.rowc j (l.map eWord)), .one (u32 w)] (rB (hasB l w)) := by
  refine ACalls.intro (fn := Tryz.f89) Tryz.func89 rfl rfl (by simp [Tryz.f89]) ?_
  have hq := lib_index_words j l w
  have hb : hasB l w = l.any fun x => w == x := by unfold hasB; congr 1; funext x; exact Bool.beq_comm
  rw [hb, ← idxOf_ge]
  unfold Tryz.f89
  simp only [rI, rB] at *
  refine wk0 trivial hq trivial
theorem p08_may (j : Nat) (l : List Int) (room w : Int) : ACalls Tryz.prog 75 [.one (.rowc j (l.map eWord)), .one (i64 room), .one (u32 w)] (rI (mayU l room w)) := by
  refine ACalls.intro (fn := Tryz.f75) Tryz.func75 rfl rfl (by simp [Tryz.f75]) ?_
  have hh := lib_contains_words j l w
  unfold Tryz.f75
  simp only [rI, rB] at *
  cases hb : hasB l w
  · rw [hb] at hh
    by_cases hr : room ≤ (l.length : Int)
    · refine wk1 hr hh trivial _ ?_
      all_goals (repeat intro h)
      all_goals refine ⟨?_⟩
      simp [mayU, hb, hr]
    · refine wk1 hr hh trivial _ ?_
      all_goals (repeat intro h)
      all_goals refine ⟨?_⟩
      simp [mayU, hb, hr]
  · rw [hb] at hh
    refine wk1 trivial hh trivial _ ?_
    all_goals (repeat intro h)
    all_goals refine ⟨?_⟩
    simp [mayU, hb]
def noteC (j : Nat) (l : List Int) (room w : Int) : CV := if mayU l room w = 0 then eWords (l ++ [w]) else .rowc j (l.map eWord)
theorem p08_note (j : Nat) (l : List Int) (room w : Int) (hl : l.length < 1000000) : ACalls Tryz.prog 80 [.one (.rowc j (l.map eWord)), .one (i64 room), .one (u32 w)] (.tup [.one (noteC j l room w), .one (i64 (mayU l room w))]) := by
  refine ACalls.intro (fn := Tryz.f80) Tryz.func80 rfl rfl (by simp [Tryz.f80]) ?_
  have hq := p08_may j l room w
  have hc := lib_concatC_words [(j, l), (0, [w])] (by simp) (by simp; omega)
  simp only [List.map_cons, List.map_nil, List.flatten_cons, List.flatten_nil, List.append_nil, List.map_append, eWord.eq_1 w] at hc
  unfold Tryz.f80
  simp only [rI] at *
  by_cases h0 : mayU l room w = 0
  · have hb : (mayU l room w != 0) = false := by simp [h0]
    refine wkx1 hb (And.intro hq hc) trivial _ ?_
    all_goals (repeat intro h)
    all_goals refine ⟨?_⟩
    simp [noteC, h0, eWords, eWord]
  · have hb : (mayU l room w != 0) = true := by simp [h0]
    refine wk1 hb hq trivial _ ?_
    all_goals (repeat intro h)
    all_goals refine ⟨?_⟩
    simp [noteC, h0]
end Go.Proofs.YthfhhciogimhjaaGreatDoor.Abs
end
section
/- The reference of layer runs, over values without addresses: Next, Same. -/
set_option linter.unusedSimpArgs false
set_option linter.unusedVariables false
set_option maxRecDepth 100000
namespace Go.Proofs.YthfhhciogimhjaaGreatDoor.Abs
open Go.RowKit
end Go.Proofs.YthfhhciogimhjaaGreatDoor.Abs
end
section
/- The landed runs, over values without addresses. -/
set_option linter.unusedSimpArgs false
set_option linter.unusedVariables false
set_option maxRecDepth 100000
namespace Go.Proofs.YthfhhciogimhjaaGreatDoor.Abs
open Go.RowKit
theorem lib_clone_runs (j : Nat) (l : List Run) (hl : l.length ≤ 1000000) : ACalls Tryz.prog 106 [.one (.rowc j (l.map eRun))] (.own 132 9 (l.map eRun)) := by
  refine ACalls.intro (fn := Tryz.f106) Tryz.func106 rfl rfl (by simp [Tryz.f106]) ?_
  unfold Tryz.f106
  simp only []
  cases l with
  | nil =>
    refine AW.empty 0 rfl ?_ ?_
    · refine wk0 trivial trivial trivial
    · refine wk0 trivial trivial trivial
  | cons x l =>
    simp only [List.length_cons] at hl
    refine wk0 trivial trivial trivial

end Go.Proofs.YthfhhciogimhjaaGreatDoor.Abs
end
section
/- The reference of layer people, over values without addresses: New. -/
set_option linter.unusedSimpArgs false
set_option linter.unusedVariables false
set_option maxRecDepth 100000
namespace Go.Proofs.YthfhhciogimhjaaGreatDoor.Abs
open Go.RowKit
/-- The one of a number, from 1 on. -/
def newOne (l : List Int) (nx i : Nat) : Person := ⟨((i + 1 : Nat) : Int), dAt l (nx + i), 0, [], [], false⟩
def newPl (l : List Int) (nx n : Nat) : List Person := person0 :: (List.range n).map (newOne l nx)
theorem newPl_len (l : List Int) (nx n : Nat) : (newPl l nx n).length = n + 1 := by simp [newPl]
theorem newPl_succ (l : List Int) (nx n : Nat) : newPl l nx (n + 1) = newPl l nx n ++ [newOne l nx n] := by simp [newPl, List.range_succ]
set_option maxHeartbeats 1000000 in
theorem q10_new (l : List Int) (nx n : Nat) (hn : n ≤ 100) (hx : nx ≤ 100000000) : ACalls Tryz.prog 69 [.one (i64 n), .agg (eDraws ⟨l, nx⟩)] (.tup [.one (ePeople (newPl l nx n)), .agg (eDraws ⟨l, ((nx + n : Nat) : Int)⟩)]) := by
  refine ACalls.intro (fn := Tryz.f69) Tryz.func69 rfl rfl (by simp [Tryz.f69]) ?_
  unfold Tryz.f69
  simp only [ePeople, eDraws, eWords]
  refine wk1 trivial trivial trivial _ ?_
  all_goals (repeat intro h)
  all_goals refine ⟨?_⟩
  refine AW.loopW (fun z σ => ∃ k : Nat, z = n - k ∧ k ≤ n ∧ σ = ⟨32, (upd (upd (upd (upd (upd (fun _ => .junk) 0 (.one (.c (i64 n)))) 3 (.one (.ptr 3 0))) 5 (.one (.ptr 5 0))) 6 (.one (.own 11 (k + 1)))) 7 (.one (.c (i64 ((k + 1 : Nat) : Int))))), (upd (upd (upd (fun _ => none) 3 (some (.box [.c (.row (l.map eWord)), .c (i64 ((nx + k : Nat) : Int))]))) 5 (some (.box [.nil, .c (i64 0)]))) 11 (some (.rows 68 6 ((newPl l nx k).map ePerson))))⟩) (n := n) _ ⟨0, rfl, Nat.zero_le _, rfl⟩ ?_ ?_
  · simp only [newPl, List.range_zero, List.map_nil, List.map_cons, ePerson, person0, eWords, eRuns, Nat.add_zero, Nat.zero_add, Int.natCast_one]
    exact lz trivial
  · rintro z σ ⟨k, rfl, hk, rfl⟩
    by_cases hlt : k < n
    · have h1 : ((k + 1 : Nat) : Int) ≤ (n : Int) := by omega
      have hw : IntKind.i64.wrap (((k + 1 : Nat) : Int) + 1) = ((k + 1 + 1 : Nat) : Int) := by rw [wrapI (by omega) (by omega)]; omega
      have hw2 : IntKind.u32.wrap ((k + 1 : Nat) : Int) = ((k + 1 : Nat) : Int) := IntWalk.u32_in _ (by omega)
      have tk := q04_take ⟨l, ((nx + k : Nat) : Int)⟩ (nx + k) rfl (by omega)
      have hL : (newPl l nx k).length = k + 1 := newPl_len l nx k
      simp only [eDraws, eWords] at tk
      generalize hG : newPl l nx k = G at *
      refine wk1 (And.intro h1 (And.intro hw (And.intro hw2 hL))) tk trivial _ ?_
      all_goals (repeat intro h)
      all_goals refine ⟨?_⟩
      refine ⟨n - (k + 1), by omega, _, ⟨k + 1, rfl, by omega, rfl⟩, ?_⟩
      rw [newPl_succ, hG]
      simp only [List.map_append, List.map_cons, List.map_nil, ePerson.eq_1 (newOne l nx k), newOne, eWords, eRuns, Nat.add_assoc]
      exact lz hL
    · obtain rfl : k = n := by omega
      have h1 : ¬ ((k + 1 : Nat) : Int) ≤ (k : Int) := by omega
      have hL : (newPl l nx k).length = k + 1 := newPl_len l nx k
      refine wk0 (And.intro h1 hL) trivial trivial
end Go.Proofs.YthfhhciogimhjaaGreatDoor.Abs
end
section
/- The landed layer people, over values without addresses: Right, Get, Set, Pair. -/
set_option linter.unusedSimpArgs false
set_option linter.unusedVariables false
set_option maxRecDepth 100000
namespace Go.Proofs.YthfhhciogimhjaaGreatDoor.Abs
open Go.RowKit
theorem lib_clone_people (j : Nat) (l : List Person) (hl : l.length ≤ 1000000) : ACalls Tryz.prog 111 [.one (.rowc j (l.map ePerson))] (.own 68 6 (l.map ePerson)) := by
  refine ACalls.intro (fn := Tryz.f111) Tryz.func111 rfl rfl (by simp [Tryz.f111]) ?_
  unfold Tryz.f111
  simp only []
  cases l with
  | nil =>
    refine AW.empty 0 rfl ?_ ?_
    · refine wk0 trivial trivial trivial
    · refine wk0 trivial trivial trivial
  | cons x l =>
    simp only [List.length_cons] at hl
    refine wk0 trivial trivial trivial

/-- Where the one of a name is. -/
theorem find_or {α : Type} (l : List α) (p : α → Bool) : l.find? p = none ∨ ∃ i x, (l.take i).find? p = none ∧ l[i]? = some x ∧ p x = true ∧ l.find? p = some x := by
  induction l with
  | nil => exact .inl rfl
  | cons a l ih =>
    cases hp : p a with
    | true => exact .inr ⟨0, a, rfl, rfl, hp, by simp [hp]⟩
    | false =>
      rcases ih with h | ⟨i, x, h1, h2, h3, h4⟩
      · exact .inl (by simp [hp, h])
      · exact .inr ⟨i + 1, x, by simp [hp, h1], by simpa using h2, h3, by simp [hp, h4]⟩
theorem p10_placeAt (j : Nat) (l : List Person) (n : Int) (i : Nat) (x : Person) (ht : (l.take i).find? (fun p => p.name == n) = none) (hx : l[i]? = some x) (hp : (x.name == n) = true) : ACalls Tryz.prog 101 [.one (.rowc j (l.map ePerson)), .one (u32 n)] (.tup [.one (i64 i), .one (bl true)]) := by
  refine ACalls.introF (fn := Tryz.f101) Tryz.func101 rfl rfl (by simp [Tryz.f101]) fun hf => ?_
  have hl := Fine.rowC (hf _ (by simp) : FineCA (.one (.rowc j (l.map ePerson))))
  clear hf
  unfold Tryz.f101
  simp only []
  have hil : i < l.length := (List.getElem?_eq_some_iff.1 hx).1
  refine wk1 trivial trivial trivial _ ?_
  all_goals (repeat intro h)
  all_goals refine ⟨?_⟩
  refine AW.loopW (fun z σ => ∃ k : Nat, z = i - k ∧ k ≤ i ∧ σ = ⟨21, (upd (upd (upd (upd (fun _ => .junk) 1 (.one (.c (u32 n)))) 8 (.one (.c (.rowc j (l.map ePerson))))) 9 (.one (.c (i64 l.length)))) 10 (.one (.c (i64 k)))), (fun _ => none)⟩) (n := i) _ ⟨0, rfl, Nat.zero_le _, rfl⟩ (by exact lz trivial) ?_
  rintro z σ ⟨k, rfl, hk, rfl⟩
  have hlt : k < l.length := by omega
  have hs := wrapI (x := (k : Int) + 1) (by omega) (by omega)
  by_cases hki : k < i
  · obtain ⟨y, hy⟩ : ∃ y, l[k]? = some y := ⟨_, List.getElem?_eq_getElem hlt⟩
    have hq : (y.name == n) = false := by
      have := List.find?_eq_none.1 ht y (List.mem_of_getElem? (i := k) (by rw [List.getElem?_take, if_pos hki]; exact hy))
      simpa using this
    refine wk1 (And.intro hy (And.intro hlt (And.intro hs (And.intro hq ePerson.eq_1)))) trivial trivial _ ?_
    all_goals (repeat intro h)
    all_goals refine ⟨?_⟩
    refine ⟨i - (k + 1), by omega, _, ⟨k + 1, rfl, by omega, rfl⟩, ?_⟩
    exact lz trivial
  · obtain rfl : k = i := by omega
    refine wk0 (And.intro hx (And.intro hlt (And.intro hs (And.intro hp ePerson.eq_1)))) trivial trivial
theorem p10_placeNo (j : Nat) (l : List Person) (n : Int) (ht : l.find? (fun p => p.name == n) = none) : ACalls Tryz.prog 101 [.one (.rowc j (l.map ePerson)), .one (u32 n)] (.tup [.one (i64 0), .one (bl false)]) := by
  refine ACalls.introF (fn := Tryz.f101) Tryz.func101 rfl rfl (by simp [Tryz.f101]) fun hf => ?_
  have hl := Fine.rowC (hf _ (by simp) : FineCA (.one (.rowc j (l.map ePerson))))
  clear hf
  unfold Tryz.f101
  simp only []
  refine wk1 trivial trivial trivial _ ?_
  all_goals (repeat intro h)
  all_goals refine ⟨?_⟩
  refine AW.loopW (fun z σ => ∃ k : Nat, z = l.length - k ∧ k ≤ l.length ∧ σ = ⟨21, (upd (upd (upd (upd (fun _ => .junk) 1 (.one (.c (u32 n)))) 8 (.one (.c (.rowc j (l.map ePerson))))) 9 (.one (.c (i64 l.length)))) 10 (.one (.c (i64 k)))), (fun _ => none)⟩) (n := l.length) _ ⟨0, rfl, Nat.zero_le _, rfl⟩ (by exact lz trivial) ?_
  rintro z σ ⟨k, rfl, hk, rfl⟩
  by_cases hlt : k < l.length
  · have hs := wrapI (x := (k : Int) + 1) (by omega) (by omega)
    obtain ⟨y, hy⟩ : ∃ y, l[k]? = some y := ⟨_, List.getElem?_eq_getElem hlt⟩
    have hq : (y.name == n) = false := by simpa using List.find?_eq_none.1 ht y (List.mem_of_getElem? hy)
    refine wk1 (And.intro hy (And.intro hlt (And.intro hs (And.intro hq ePerson.eq_1)))) trivial trivial _ ?_
    all_goals (repeat intro h)
    all_goals refine ⟨?_⟩
    refine ⟨l.length - (k + 1), by omega, _, ⟨k + 1, rfl, by omega, rfl⟩, ?_⟩
    exact lz trivial
  · obtain rfl : k = l.length := by omega
    refine wk0 trivial trivial trivial
theorem p10_get (l : List Person) (n : Int) (hl : rightPl l = true) : ACalls Tryz.prog 90 [.one (ePeople l), .one (u32 n)] (.tup [.agg (ePerson (getPl l n).1), .one (bl (getPl l n).2)]) := by
  refine ACalls.intro (fn := Tryz.f90) Tryz.func90 rfl rfl (by simp [Tryz.f90]) ?_
  unfold Tryz.f90
  rcases find_or l (fun p => p.name == n) with h | ⟨i, x, h1, h2, h3, h4⟩
  · have hq := p10_placeNo 0 l n h
    have he : getPl l n = (person0, false) := by rw [getPl, h]
    rw [he]
    simp only [ePeople, ePerson, person0, eWords, eRuns, List.map_nil]
    refine wk0 trivial hq trivial
  · have hq := p10_placeAt 0 l n i x h1 h2 h3
    have he : getPl l n = (x, true) := by rw [getPl, h4]
    have hlt : i < l.length := (List.getElem?_eq_some_iff.1 h2).1
    rw [he]
    simp only [ePeople]
    refine wk0 (And.intro h2 (And.intro hlt ePerson.eq_1)) hq trivial
/-- What is answered; the row itself, in its colour, where it is refused. -/
def setPC (j : Nat) (l : List Person) (p : Person) : CV := if (setPl l p).2 = 0 then ePeople (setPl l p).1 else .rowc j (l.map ePerson)
theorem names_at {l : List Person} (hl : rightPl l = true) {i : Nat} {x : Person} (hx : l[i]? = some x) : x.name = (i : Int) ∧ i < 8 := by
  unfold rightPl at hl
  simp only [Bool.and_eq_true, decide_eq_true_eq] at hl
  have h1 := namesB_iff.1 hl.1 i x hx
  have h2 := (List.getElem?_eq_some_iff.1 hx).1
  rw [IntWalk.u32_in _ (by omega)] at h1
  exact ⟨h1, by omega⟩
theorem set_map {l : List Person} (hl : rightPl l = true) {i : Nat} {x p : Person} (hx : l[i]? = some x) (hp : x.name = p.name) : l.map (fun q => if q.name = p.name then p else q) = l.set i p := by
  refine List.ext_getElem? fun k => ?_
  rw [List.getElem?_map, List.getElem?_set]
  have hi := (List.getElem?_eq_some_iff.1 hx).1
  cases hk : l[k]? with
  | none =>
    have : l.length ≤ k := List.getElem?_eq_none_iff.1 hk
    rw [if_neg (by omega)]; rfl
  | some y =>
    have e1 := (names_at hl hx).1
    have e2 := (names_at hl hk).1
    by_cases e : i = k
    · subst e
      rw [hx] at hk; cases hk
      simp [hp, hi]
    · rw [if_neg e]
      have : y.name ≠ p.name := by omega
      simp [this]
theorem p10_set (j : Nat) (l : List Person) (p : Person) (hl : rightPl l = true) : ACalls Tryz.prog 97 [.one (.rowc j (l.map ePerson)), .agg (ePerson p)] (.tup [.one (setPC j l p), .one (i64 (setPl l p).2)]) := by
  refine ACalls.intro (fn := Tryz.f97) Tryz.func97 rfl rfl (by simp [Tryz.f97]) ?_
  unfold Tryz.f97
  have hlen : l.length ≤ 1000000 := by
    unfold rightPl at hl
    simp only [Bool.and_eq_true, decide_eq_true_eq] at hl
    omega
  rcases find_or l (fun q => q.name == p.name) with h | ⟨i, x, h1, h2, h3, h4⟩
  · have hq := p10_placeNo j l p.name h
    have he : (setPl l p).2 = 1 := by
      unfold setPl
      have : l.any (fun q => q.name == p.name) = false := by
        cases ha : l.any (fun q => q.name == p.name) with
        | false => rfl
        | true =>
          obtain ⟨q, hq1, hq2⟩ := List.any_eq_true.1 ha
          exact absurd hq2 (List.find?_eq_none.1 h q hq1)
      simp [this]
    have ec : setPC j l p = .rowc j (l.map ePerson) := by unfold setPC; rw [he]; rfl
    rw [he, ec]
    simp only [ePerson.eq_1 p]
    refine wk0 trivial hq trivial
  · have hq := p10_placeAt j l p.name i x h1 h2 h3
    have hcl := lib_clone_people j l hlen
    have hpi : x.name = p.name := by simpa using h3
    have hlt : i < l.length := (List.getElem?_eq_some_iff.1 h2).1
    have he : setPl l p = (l.set i p, 0) := by
      unfold setPl
      have : l.any (fun q => q.name == p.name) = true := List.any_eq_true.2 ⟨x, List.mem_of_getElem? h2, h3⟩
      rw [this, set_map hl h2 hpi]; rfl
    have ec : setPC j l p = ePeople (l.set i p) := by unfold setPC; rw [he]; rfl
    rw [he, ec]
    simp only [ePeople, List.map_set, ePerson.eq_1 p]
    refine wk1 hlt (And.intro hq hcl) trivial _ ?_
    all_goals (repeat intro h)
    all_goals refine ⟨?_⟩
    all_goals simp only [List.length_set, List.length_map]
theorem p10_isP (l : List Person) (a : Int) : ACalls Tryz.prog 87 [.one (ePeople l), .one (u32 a)] (rB ((getPl l a).2 && decide (0 < a))) := by
  refine ACalls.introF (fn := Tryz.f87) Tryz.func87 rfl rfl (by simp [Tryz.f87]) fun hf => ?_
  have ha := in_u32 (Fine.int (hf (.one (u32 a)) (by simp)))
  clear hf
  unfold Tryz.f87
  simp only [rB, ePeople]
  rcases find_or l (fun p => p.name == a) with h | ⟨i, x, h1, h2, h3, h4⟩
  · have hq := p10_placeNo 0 l a h
    have he : getPl l a = (person0, false) := by rw [getPl, h]
    rw [he]
    refine wk0 trivial hq trivial
  · have hq := p10_placeAt 0 l a i x h1 h2 h3
    have he : getPl l a = (x, true) := by rw [getPl, h4]
    rw [he]
    by_cases h0 : a = 0
    · subst h0
      refine wk0 trivial hq trivial
    · have hb : (a != 0) = true := by simp [h0]
      have hp : decide (0 < a) = true := by simp; omega
      rw [hp]
      refine wk0 hb hq trivial
theorem p10_pair (l : List Person) (a b : Int) (hl : rightPl l = true) : ACalls Tryz.prog 73 [.one (ePeople l), .one (u32 a), .one (u32 b)] (rB (pairPl l a b)) := by
  refine ACalls.intro (fn := Tryz.f73) Tryz.func73 rfl rfl (by simp [Tryz.f73]) ?_
  have ga := p10_isP l a
  have gb := p10_isP l b
  have e : pairPl l a b = (a != b && (((getPl l a).2 && decide (0 < a)) && ((getPl l b).2 && decide (0 < b)))) := by
    unfold pairPl
    cases (getPl l a).2 <;> cases (getPl l b).2 <;> cases (a != b) <;> cases decide (0 < a) <;> cases decide (0 < b) <;> rfl
  rw [e]
  unfold Tryz.f73
  generalize ((getPl l a).2 && decide (0 < a)) = A at *
  generalize ((getPl l b).2 && decide (0 < b)) = B at *
  simp only [ePeople, rB] at *
  cases hab : (a != b)
  · refine wk0 hab trivial trivial
  · cases A
    · refine wk0 hab (And.intro ga gb) trivial
    · refine wk0 hab (And.intro ga gb) trivial
end Go.Proofs.YthfhhciogimhjaaGreatDoor.Abs
end
section
/- The landed desk, over values without addresses: whether a world has its form. -/
set_option linter.unusedSimpArgs false
set_option linter.unusedVariables false
set_option maxRecDepth 100000
namespace Go.Proofs.YthfhhciogimhjaaGreatDoor.Abs
open Go.RowKit
end Go.Proofs.YthfhhciogimhjaaGreatDoor.Abs
end
section
/- The landed layer draw, over values without addresses: Take. -/
set_option linter.unusedSimpArgs false
set_option linter.unusedVariables false
set_option maxRecDepth 100000
namespace Go.Proofs.YthfhhciogimhjaaGreatDoor.Abs
open Go.RowKit
theorem or_bit {x : Int} (h0 : 0 ≤ x) (h1 : x < 4294967296) : IntKind.u32.wrap (((BitVec.ofInt 32 x ||| BitVec.ofInt 32 2147483648).toNat : Nat) : Int) = bitI x := by
  obtain ⟨n, rfl⟩ : ∃ n : Nat, x = n := ⟨x.toNat, by omega⟩
  have e1 : BitVec.ofInt 32 (n : Int) = BitVec.ofNat 32 n := by
    apply BitVec.eq_of_toNat_eq
    simp only [BitVec.toNat_ofInt, BitVec.toNat_ofNat]
    omega
  have e2 : BitVec.ofInt 32 2147483648 = BitVec.ofNat 32 2147483648 := by decide
  rw [e1, e2, BitVec.toNat_or, BitVec.toNat_ofNat, BitVec.toNat_ofNat, IntKind.wrap_u32]
  have hn : n % 2 ^ 32 = n := Nat.mod_eq_of_lt (by omega)
  have h31 : (2147483648 : Nat) % 2 ^ 32 = 2147483648 := by decide
  rw [hn, h31]
  unfold bitI
  by_cases hb : n < 2147483648
  · have := Nat.two_pow_add_eq_or_of_lt (i := 31) (b := n) (by simpa using hb) 1
    have e : n ||| 2147483648 = n + 2147483648 := by
      rw [Nat.or_comm]
      have h2 : (2147483648 : Nat) = 2 ^ 31 * 1 := by decide
      rw [h2, ← this]; omega
    rw [e, if_pos (by omega)]
    omega
  · obtain ⟨y, rfl⟩ : ∃ y, n = 2147483648 + y := ⟨n - 2147483648, by omega⟩
    have := Nat.two_pow_add_eq_or_of_lt (i := 31) (b := y) (by simp; omega) 1
    have h2 : (2147483648 : Nat) = 2 ^ 31 * 1 := by decide
    have e : 2147483648 + y = 2147483648 ||| y := by rw [h2]; exact this
    rw [if_neg (by omega)]
    have e3 : 2147483648 + y ||| 2147483648 = 2147483648 + y := by
      rw [e, Nat.or_comm (2147483648 ||| y), ← Nat.or_assoc, Nat.or_self]
    rw [e3]
    omega
theorem p01_draw (x : Int) (h : 0 ≤ x ∧ x < 4294967296) : ACalls Tryz.prog 122 [.one (u32 x)] (.one (.one (u32 (bitI x)))) := by
  refine ACalls.intro (fn := Tryz.f122) Tryz.func122 rfl rfl (by simp [Tryz.f122]) ?_
  unfold Tryz.f122
  rw [← or_bit h.1 h.2]
  refine wk1 trivial trivial trivial _ ?_
  all_goals (repeat intro h)
  all_goals refine ⟨?_⟩
  all_goals rfl
theorem p04_nth (l : List Int) (i : Nat) (hr : ∀ x ∈ l, 0 ≤ x ∧ x < 4294967296) : ACalls Tryz.prog 107 [.one (eWords l), .one (i64 i)] (.one (.one (u32 (dAt l i)))) := by
  refine ACalls.intro (fn := Tryz.f107) Tryz.func107 rfl rfl (by simp [Tryz.f107]) ?_
  unfold Tryz.f107
  simp only [eWords] at *
  by_cases hlt : i < l.length
  · obtain ⟨x, hx⟩ : ∃ x, l[i]? = some x := ⟨_, List.getElem?_eq_getElem hlt⟩
    have hli : (i : Int) < (l.length : Int) := by omega
    have hq := p01_draw x (hr x (List.mem_of_getElem? hx))
    rw [show dAt l i = bitI x by simp [dAt, hx]]
    refine wk0 (And.intro hx (And.intro hlt (And.intro hli eWord.eq_1))) hq trivial
  · have hli : ¬ (i : Int) < (l.length : Int) := by omega
    have hn : l[i]? = none := List.getElem?_eq_none (by omega)
    have hq := p01_draw (farI i) (u32_range _)
    have hq2 : ACalls Tryz.prog 122 [.one (u32 (IntKind.u32.wrap (((BitVec.ofInt IntKind.u32.bits 1073741824 ||| BitVec.ofInt IntKind.u32.bits (IntKind.u32.wrap (i : Int))).toNat : Nat) : Int)))] (.one (.one (u32 (bitI (farI i))))) := hq
    rw [show dAt l i = bitI (farI i) by simp [dAt, hn]]
    refine wk0 hli hq2 trivial
theorem p04_take (d : Draws) (i : Nat) (hd : d.next = i) (hi : (i : Int) < 1000000000) : ACalls Tryz.prog 94 [.agg (eDraws d)] (.tup [.agg (eDraws ⟨d.list, ((i + 1 : Nat) : Int)⟩), .one (u32 (dAt d.list i))]) := by
  refine ACalls.introF (fn := Tryz.f94) Tryz.func94 rfl rfl (by simp [Tryz.f94]) fun hf => ?_
  have hr := (fineWords ((hf _ (by simp) : FineCA (.agg (eDraws d))) (eWords d.list) (by simp [eDraws]))).2
  clear hf
  have hq := p04_nth d.list i hr
  obtain ⟨l, nx⟩ := d
  simp only at hd
  subst hd
  have hw : IntKind.i64.wrap ((i : Int) + 1) = ((i + 1 : Nat) : Int) := by rw [wrapI (by omega) (by omega)]; omega
  unfold Tryz.f94
  simp only [eDraws, eWords] at *
  refine wk0 hw hq trivial
end Go.Proofs.YthfhhciogimhjaaGreatDoor.Abs
end

