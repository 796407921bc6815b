/- Texts that were merged: P12a, P04. -/
import Derived.Test.YtjhofkdcekdplaaGreatDoorZ6
import Derived.Test.YtjhofkdcekdplaaGreatDoorZ4
import Derived.Test.YtjhofkdcekdplaaGreatDoorZ5
section
/- The landed desk, over values without addresses: whether a world has its form. -/
set_option linter.unusedSimpArgs false
set_option linter.unusedVariables false
set_option maxRecDepth 100000
namespace Go.Proofs.YtjhofkdcekdplaaGreatDoor.Abs
open Go.RowKit
theorem p12_within (n a b : Int) : ACalls Tryz.prog 46 [.one (i64 n), .one (i64 a), .one (i64 b)] (rB (decide (a ≤ n ∧ n ≤ b))) := by
  refine ACalls.intro (fn := Tryz.f46) Tryz.func46 rfl rfl (by simp [Tryz.f46]) ?_
  unfold Tryz.f46
  simp only [rB]
  refine wk2 trivial trivial trivial _ _ ?_ ?_
  all_goals (repeat intro h)
  all_goals refine ⟨?_⟩
  all_goals (congr 4; rw [Bool.eq_iff_iff]; simp at *; omega)
theorem p12_withinU (n a b : Int) : ACalls Tryz.prog 52 [.one (u32 n), .one (u32 a), .one (u32 b)] (rB (decide (a ≤ n ∧ n ≤ b))) := by
  refine ACalls.intro (fn := Tryz.f52) Tryz.func52 rfl rfl (by simp [Tryz.f52]) ?_
  unfold Tryz.f52
  simp only [rB]
  refine wk2 trivial trivial trivial _ _ ?_ ?_
  all_goals (repeat intro h)
  all_goals refine ⟨?_⟩
  all_goals (congr 4; rw [Bool.eq_iff_iff]; simp at *; omega)
theorem p12_all_gram (j : Nat) (l : List Gram) (p : Gram → Bool) (f : FuncId) (caps : List CV) (hp : ∀ s, ACalls Tryz.prog f (.agg (eGram s) :: caps.map .one) (rB (p s))) : ACalls Tryz.prog 91 [.one (.rowc j (l.map eGram)), .one (.fn f false [] caps)] (rB (l.all p)) := by
  refine ACalls.introF (fn := Tryz.f91) Tryz.func91 rfl rfl (by simp [Tryz.f91]) fun hf => ?_
  have hl := Fine.rowC (hf _ (by simp) : FineCA (.one (.rowc j (l.map eGram))))
  clear hf
  unfold Tryz.f91
  simp only [rB]
  refine wk1 trivial trivial trivial _ ?_
  all_goals (repeat intro h)
  all_goals refine ⟨?_⟩
  refine AW.loopW (fun n σ => ∃ k : Nat, n = l.length - k ∧ k ≤ l.length ∧ (l.take k).all p = true ∧ σ = ⟨18, (upd (upd (upd (upd (fun _ => .junk) 1 (.one (.c (.fn f false [] caps)))) 7 (.one (.c (.rowc j (l.map eGram))))) 8 (.one (.c (i64 l.length)))) 9 (.one (.c (i64 k)))), (fun _ => none)⟩) (n := l.length) _ ⟨0, rfl, Nat.zero_le _, rfl, rfl⟩ (by exact lz trivial) ?_
  rintro n σ ⟨k, rfl, hk, ht, rfl⟩
  by_cases hlt : k < l.length
  · obtain ⟨x, hx⟩ : ∃ x, l[k]? = some x := ⟨_, List.getElem?_eq_getElem hlt⟩
    have hs := wrapI (x := (k : Int) + 1) (by omega) (by omega)
    have hq := hp x
    cases hpx : p x
    · rw [hpx] at hq
      rw [allB_at hx hpx]
      simp only [eGram, rB] at hq
      refine wk0 (And.intro hx (And.intro hlt (And.intro hs eGram.eq_1))) hq trivial
    · rw [hpx] at hq
      simp only [eGram, rB] at hq
      refine wk1 (And.intro hx (And.intro hlt (And.intro hs eGram.eq_1))) hq trivial _ ?_
      all_goals (repeat intro h)
      all_goals refine ⟨?_⟩
      refine ⟨l.length - (k + 1), by omega, _, ⟨k + 1, rfl, by omega, allB_next ht hx hpx, rfl⟩, ?_⟩
      exact lz trivial
  · obtain rfl : k = l.length := by omega
    rw [List.take_length] at ht
    rw [ht]
    refine wk0 trivial trivial trivial
theorem p12_all_seen (j : Nat) (l : List (List Int)) (p : (List Int) → Bool) (f : FuncId) (caps : List CV) (hp : ∀ s, ACalls Tryz.prog f (.one (eWords s) :: caps.map .one) (rB (p s))) : ACalls Tryz.prog 92 [.one (.rowc j (l.map eSeen)), .one (.fn f false [] caps)] (rB (l.all p)) := by
  refine ACalls.introF (fn := Tryz.f92) Tryz.func92 rfl rfl (by simp [Tryz.f92]) fun hf => ?_
  have hl := Fine.rowC (hf _ (by simp) : FineCA (.one (.rowc j (l.map eSeen))))
  clear hf
  unfold Tryz.f92
  simp only [rB]
  refine wk1 trivial trivial trivial _ ?_
  all_goals (repeat intro h)
  all_goals refine ⟨?_⟩
  refine AW.loopW (fun n σ => ∃ k : Nat, n = l.length - k ∧ k ≤ l.length ∧ (l.take k).all p = true ∧ σ = ⟨18, (upd (upd (upd (upd (fun _ => .junk) 1 (.one (.c (.fn f false [] caps)))) 7 (.one (.c (.rowc j (l.map eSeen))))) 8 (.one (.c (i64 l.length)))) 9 (.one (.c (i64 k)))), (fun _ => none)⟩) (n := l.length) _ ⟨0, rfl, Nat.zero_le _, rfl, rfl⟩ (by exact lz trivial) ?_
  rintro n σ ⟨k, rfl, hk, ht, rfl⟩
  by_cases hlt : k < l.length
  · obtain ⟨x, hx⟩ : ∃ x, l[k]? = some x := ⟨_, List.getElem?_eq_getElem hlt⟩
    have hs := wrapI (x := (k : Int) + 1) (by omega) (by omega)
    have hq := hp x
    cases hpx : p x
    · rw [hpx] at hq
      rw [allB_at hx hpx]
      simp only [eSeen, eWords, rB] at hq
      refine wk0 (And.intro hx (And.intro hlt (And.intro hs (And.intro eSeen.eq_1 eWords.eq_1)))) hq trivial
    · rw [hpx] at hq
      simp only [eSeen, eWords, rB] at hq
      refine wk1 (And.intro hx (And.intro hlt (And.intro hs (And.intro eSeen.eq_1 eWords.eq_1)))) hq trivial _ ?_
      all_goals (repeat intro h)
      all_goals refine ⟨?_⟩
      refine ⟨l.length - (k + 1), by omega, _, ⟨k + 1, rfl, by omega, allB_next ht hx hpx, rfl⟩, ?_⟩
      exact lz trivial
  · obtain rfl : k = l.length := by omega
    rw [List.take_length] at ht
    rw [ht]
    refine wk0 trivial trivial trivial
theorem p12_all_person (j : Nat) (l : List Person) (p : Person → Bool) (f : FuncId) (caps : List CV) (hp : ∀ s, ACalls Tryz.prog f (.agg (ePerson s) :: caps.map .one) (rB (p s))) : ACalls Tryz.prog 94 [.one (.rowc j (l.map ePerson)), .one (.fn f false [] caps)] (rB (l.all p)) := by
  refine ACalls.introF (fn := Tryz.f94) Tryz.func94 rfl rfl (by simp [Tryz.f94]) fun hf => ?_
  have hl := Fine.rowC (hf _ (by simp) : FineCA (.one (.rowc j (l.map ePerson))))
  clear hf
  unfold Tryz.f94
  simp only [rB]
  refine wk1 trivial trivial trivial _ ?_
  all_goals (repeat intro h)
  all_goals refine ⟨?_⟩
  refine AW.loopW (fun n σ => ∃ k : Nat, n = l.length - k ∧ k ≤ l.length ∧ (l.take k).all p = true ∧ σ = ⟨18, (upd (upd (upd (upd (fun _ => .junk) 1 (.one (.c (.fn f false [] caps)))) 7 (.one (.c (.rowc j (l.map ePerson))))) 8 (.one (.c (i64 l.length)))) 9 (.one (.c (i64 k)))), (fun _ => none)⟩) (n := l.length) _ ⟨0, rfl, Nat.zero_le _, rfl, rfl⟩ (by exact lz trivial) ?_
  rintro n σ ⟨k, rfl, hk, ht, rfl⟩
  by_cases hlt : k < l.length
  · obtain ⟨x, hx⟩ : ∃ x, l[k]? = some x := ⟨_, List.getElem?_eq_getElem hlt⟩
    have hs := wrapI (x := (k : Int) + 1) (by omega) (by omega)
    have hq := hp x
    cases hpx : p x
    · rw [hpx] at hq
      rw [allB_at hx hpx]
      simp only [ePerson, rB] at hq
      refine wk0 (And.intro hx (And.intro hlt (And.intro hs ePerson.eq_1))) hq trivial
    · rw [hpx] at hq
      simp only [ePerson, rB] at hq
      refine wk1 (And.intro hx (And.intro hlt (And.intro hs ePerson.eq_1))) hq trivial _ ?_
      all_goals (repeat intro h)
      all_goals refine ⟨?_⟩
      refine ⟨l.length - (k + 1), by omega, _, ⟨k + 1, rfl, by omega, allB_next ht hx hpx, rfl⟩, ?_⟩
      exact lz trivial
  · obtain rfl : k = l.length := by omega
    rw [List.take_length] at ht
    rw [ht]
    refine wk0 trivial trivial trivial
theorem p12_short (l : List Int) : ACalls Tryz.prog 89 [.one (eWords l)] (rB (shB l)) := by
  refine ACalls.intro (fn := Tryz.f89) Tryz.func89 rfl rfl (by simp [Tryz.f89]) ?_
  have hq := p12_within (l.length : Int) 0 64
  unfold Tryz.f89
  have e : shB l = decide (0 ≤ (l.length : Int) ∧ (l.length : Int) ≤ 64) := decide_eq_decide.2 (by omega)
  rw [e]
  simp only [rB, eWords] at *
  refine wk0 trivial hq trivial
theorem p12_onWay (g : Gram) : ACalls Tryz.prog 88 [.agg (eGram g)] (rB (gramB g)) := by
  refine ACalls.intro (fn := Tryz.f88) Tryz.func88 rfl rfl (by simp [Tryz.f88]) ?_
  have hq : ACalls Tryz.prog 89 [.one (eWords g.words)] (rB (gramB g)) := p12_short g.words
  unfold Tryz.f88
  simp only [rB, eWords, eGram] at *
  refine wk0 trivial hq trivial
abbrev fnFits (c : Conf) : CV := .fn 121 false [] [.ptrc 0 (eConf c) 0]
abbrev fnShort : CV := .fn 89 false [] []
abbrev fnWay : CV := .fn 88 false [] []
theorem p12_fits (c : Conf) : ACalls Tryz.prog 95 [.agg (eConf c)] (.one (.one (fnFits c))) := by
  refine ACalls.intro (fn := Tryz.f95) Tryz.func95 rfl rfl (by simp [Tryz.f95]) ?_
  unfold Tryz.f95
  simp only [fnFits, eConf]
  refine wk0 trivial trivial trivial
theorem p12_fits1 (c : Conf) (s : Person) : ACalls Tryz.prog 121 [.agg (ePerson s), .one (.ptrc 0 (eConf c) 0)] (rB (personB c s)) := by
  refine ACalls.introF (fn := Tryz.f121) Tryz.func121 rfl rfl (by simp [Tryz.f121]) fun hf => ?_
  have hc := in_u32 (Fine.int ((hf (.agg (ePerson s)) (by simp) : FineCA (.agg (ePerson s))) (u32 s.clock) (by simp [ePerson])))
  clear hf
  have r1 := p08_right s.used c.used
  have r2 := p09_right s.runs c.runs
  have r3 := p12_withinU s.clock 0 1073741824
  have e : decide (0 ≤ s.clock ∧ s.clock ≤ 1073741824) = decide (s.clock ≤ 1073741824) := decide_eq_decide.2 (by omega)
  rw [e] at r3
  clear e hc
  unfold Tryz.f121
  unfold personB
  generalize usedR s.used c.used = b1 at *
  generalize runsR s.runs c.runs = b2 at *
  generalize decide (s.clock ≤ 1073741824) = b3 at *
  simp only [rB, eWords, eRuns, ePerson, eConf] at *
  cases b1
  · simp only [Bool.false_and]
    refine wk0 trivial r1 trivial
  cases b2
  · simp only [Bool.false_and, Bool.true_and]
    refine wk0 trivial (And.intro r1 r2) trivial
  simp only [Bool.true_and]
  refine wk0 trivial (And.intro r1 (And.intro r2 r3)) trivial
theorem mayC_eq (c : Conf) (h : 0 ≤ c.window) : mayC c = (decide (0 ≤ c.window ∧ c.window ≤ 1048576) && (decide (1 ≤ c.people ∧ c.people ≤ 6) && (decide (0 ≤ c.box ∧ c.box ≤ 64) && (decide (0 ≤ c.used ∧ c.used ≤ 64) && (decide (0 ≤ c.runs ∧ c.runs ≤ 64) && (decide (0 ≤ c.net ∧ c.net ≤ 64) && decide (1 ≤ c.regs ∧ c.regs ≤ 8))))))) := by
  rw [Bool.eq_iff_iff]
  simp only [mayC, roomB, Bool.and_eq_true, decide_eq_true_eq]
  omega
set_option maxHeartbeats 8000000 in
theorem p12_may (c : Conf) : ACalls Tryz.prog 13 [.agg (eConf c)] (rB (mayC c)) := by
  refine ACalls.introF (fn := Tryz.f13) Tryz.func13 rfl rfl (by simp [Tryz.f13]) fun hf => ?_
  have hw := in_u32 (Fine.int ((hf _ (by simp) : FineCA (.agg (eConf c))) (u32 c.window) (by simp [eConf])))
  clear hf
  rw [mayC_eq c hw.1]
  have r1 := p12_withinU c.window 0 1048576
  have r2 := p12_within c.people 1 6
  have r3 := p12_within c.box 0 64
  have r4 := p12_within c.used 0 64
  have r5 := p12_within c.runs 0 64
  have r6 := p12_within c.net 0 64
  have r7 := p12_within c.regs 1 8
  clear hw
  unfold Tryz.f13
  generalize decide (0 ≤ c.window ∧ c.window ≤ 1048576) = b1 at *
  generalize decide (1 ≤ c.people ∧ c.people ≤ 6) = b2 at *
  generalize decide (0 ≤ c.box ∧ c.box ≤ 64) = b3 at *
  generalize decide (0 ≤ c.used ∧ c.used ≤ 64) = b4 at *
  generalize decide (0 ≤ c.runs ∧ c.runs ≤ 64) = b5 at *
  generalize decide (0 ≤ c.net ∧ c.net ≤ 64) = b6 at *
  generalize decide (1 ≤ c.regs ∧ c.regs ≤ 8) = b7 at *
  simp only [rB, eConf] at *
  cases b1
  · simp only [Bool.false_and]
    refine wk0 trivial r1 trivial
  simp only [Bool.true_and]
  cases b2
  · simp only [Bool.false_and]
    refine wk0 trivial (And.intro r1 r2) trivial
  simp only [Bool.true_and]
  cases b3
  · simp only [Bool.false_and]
    refine wk0 trivial (And.intro r1 (And.intro r2 r3)) trivial
  simp only [Bool.true_and]
  cases b4
  · simp only [Bool.false_and]
    refine wk0 trivial (And.intro r1 (And.intro r2 (And.intro r3 r4))) trivial
  simp only [Bool.true_and]
  cases b5
  · simp only [Bool.false_and]
    refine wk0 trivial (And.intro r1 (And.intro r2 (And.intro r3 (And.intro r4 r5)))) trivial
  simp only [Bool.true_and]
  cases b6
  · simp only [Bool.false_and]
    refine wk0 trivial (And.intro r1 (And.intro r2 (And.intro r3 (And.intro r4 (And.intro r5 r6))))) trivial
  simp only [Bool.true_and]
  refine wk0 trivial (And.intro r1 (And.intro r2 (And.intro r3 (And.intro r4 (And.intro r5 (And.intro r6 r7)))))) trivial
theorem p12_boxFits (w : Wld) : ACalls Tryz.prog 42 [.agg (eWld w)] (rB (rightB w.box && (w.box.room == w.conf.box))) := by
  refine ACalls.intro (fn := Tryz.f42) Tryz.func42 rfl rfl (by simp [Tryz.f42]) ?_
  have r1 := p07_right w.box
  unfold Tryz.f42
  generalize rightB w.box = b1 at *
  simp only [eWld, eConf, eBox, eNet, eSealeds, eGrams, ePeople, eEvents, eRows, eWords, eLeaks, rB] at *
  cases b1
  · simp only [Bool.false_and]
    refine wk0 trivial r1 trivial
  simp only [Bool.true_and]
  refine wk0 trivial r1 trivial
set_option maxHeartbeats 4000000 in
theorem p12_netFits (w : Wld) : ACalls Tryz.prog 43 [.agg (eWld w)] (rB (rightN w.net && ((w.net.room == w.conf.net) && (w.net.grams.all gramB && w.net.seen.all shB)))) := by
  refine ACalls.intro (fn := Tryz.f43) Tryz.func43 rfl rfl (by simp [Tryz.f43]) ?_
  have r1 := p06_right w.net
  have r2 := p12_all_gram 0 w.net.grams gramB 88 [] p12_onWay
  have r3 := p12_all_seen 0 w.net.seen shB 89 [] p12_short
  unfold Tryz.f43
  generalize rightN w.net = b1 at *
  generalize w.net.grams.all gramB = b2 at *
  generalize w.net.seen.all shB = b3 at *
  simp only [eWld, eConf, eBox, eNet, eSealeds, eGrams, ePeople, eEvents, eRows, eWords, eLeaks, rB] at *
  cases b1
  · simp only [Bool.false_and]
    refine wk0 trivial r1 trivial
  simp only [Bool.true_and]
  cases hr : (w.net.room == w.conf.net)
  · simp only [Bool.false_and]
    refine wk0 hr r1 trivial
  simp only [Bool.true_and]
  cases b2
  · simp only [Bool.false_and]
    refine wk0 hr (And.intro r1 r2) trivial
  simp only [Bool.true_and]
  refine wk0 hr (And.intro r1 (And.intro r2 r3)) trivial
set_option maxHeartbeats 4000000 in
theorem p12_peopleFit (w : Wld) (hc : 1 ≤ w.conf.people ∧ w.conf.people ≤ 6) : ACalls Tryz.prog 44 [.agg (eWld w)] (rB (rightPl w.people && (((w.people.length : Int) == w.conf.people + 1) && w.people.all (personB w.conf)))) := by
  refine ACalls.intro (fn := Tryz.f44) Tryz.func44 rfl rfl (by simp [Tryz.f44]) ?_
  have r1 := p10_right w.people
  have r2 := p12_all_person 0 w.people (personB w.conf) 121 [.ptrc 0 (eConf w.conf) 0] (p12_fits1 w.conf)
  have r3 := p12_fits w.conf
  have hw := wrapI (x := w.conf.people + 1) (by omega) (by omega)
  unfold Tryz.f44
  generalize rightPl w.people = b1 at *
  generalize w.people.all (personB w.conf) = b2 at *
  simp only [fnFits, eWld, eConf, eBox, eNet, eSealeds, eGrams, ePeople, eEvents, eRows, eWords, eLeaks, rB] at *
  cases b1
  · simp only [Bool.false_and]
    refine wk0 trivial r1 trivial
  simp only [Bool.true_and]
  cases hr : ((w.people.length : Int) == w.conf.people + 1)
  · simp only [Bool.false_and]
    refine wk0 (And.intro hw hr) r1 trivial
  simp only [Bool.true_and]
  refine wk0 (And.intro hw hr) (And.intro r1 (And.intro r2 r3)) trivial
theorem p12_regsFit (w : Wld) : ACalls Tryz.prog 45 [.agg (eWld w)] (rB (((w.regs.length : Int) == w.conf.regs) && w.regs.all shB)) := by
  refine ACalls.intro (fn := Tryz.f45) Tryz.func45 rfl rfl (by simp [Tryz.f45]) ?_
  have r2 := p12_all_seen 0 w.regs shB 89 [] p12_short
  unfold Tryz.f45
  generalize w.regs.all shB = b2 at *
  simp only [eWld, eConf, eBox, eNet, eSealeds, eGrams, ePeople, eEvents, eRows, eWords, eLeaks, rB] at *
  cases hr : ((w.regs.length : Int) == w.conf.regs)
  · simp only [Bool.false_and]
    refine wk0 hr trivial trivial
  simp only [Bool.true_and]
  refine wk0 hr r2 trivial
theorem formW_eq (w : Wld) : formW w = (mayC w.conf && ((rightB w.box && (w.box.room == w.conf.box)) && ((rightN w.net && ((w.net.room == w.conf.net) && (w.net.grams.all gramB && w.net.seen.all shB))) && ((rightPl w.people && (((w.people.length : Int) == w.conf.people + 1) && w.people.all (personB w.conf))) && ((((w.regs.length : Int) == w.conf.regs) && w.regs.all shB) && decide (0 ≤ w.draws.next ∧ w.draws.next ≤ 1048576)))))) := by
  rw [Bool.eq_iff_iff]
  simp only [formW, formA, formB, Bool.and_eq_true, decide_eq_true_eq, beq_iff_eq]
  constructor
  · rintro ⟨⟨a1, a2, a3, a4, a5⟩, ⟨b1, b2, b3, b4⟩, c1, c2, c3, c4⟩
    exact ⟨a1, ⟨a2, a3⟩, ⟨a4, a5, c4, c3⟩, ⟨b1, b2, c1⟩, ⟨b3, c2⟩, b4⟩
  · rintro ⟨a1, ⟨a2, a3⟩, ⟨a4, a5, c4, c3⟩, ⟨b1, b2, c1⟩, ⟨b3, c2⟩, b4⟩
    exact ⟨⟨a1, a2, a3, a4, a5⟩, ⟨b1, b2, b3, b4⟩, c1, c2, c3, c4⟩
set_option maxHeartbeats 8000000 in
theorem p12_form (w : Wld) : ACalls Tryz.prog 11 [.agg (eWld w)] (rB (formW w)) := by
  refine ACalls.intro (fn := Tryz.f11) Tryz.func11 rfl rfl (by simp [Tryz.f11]) ?_
  have r1 := p12_may w.conf
  have r2 := p12_boxFits w
  have r3 := p12_netFits w
  have r5 := p12_regsFit w
  have r6 := p12_within w.draws.next 0 1048576
  unfold Tryz.f11
  rw [formW_eq]
  generalize (rightB w.box && (w.box.room == w.conf.box)) = b2 at *
  generalize (rightN w.net && ((w.net.room == w.conf.net) && (w.net.grams.all gramB && w.net.seen.all shB))) = b3 at *
  generalize ((((w.regs.length : Int) == w.conf.regs) && w.regs.all shB)) = b5 at *
  generalize decide (0 ≤ w.draws.next ∧ w.draws.next ≤ 1048576) = b6 at *
  cases m1 : mayC w.conf
  · rw [m1] at r1
    simp only [Bool.false_and]
    simp only [eWld, eConf, eBox, eNet, eSealeds, eGrams, ePeople, eEvents, eRows, eWords, eLeaks, rB] at *
    refine wk0 trivial r1 trivial
  rw [m1] at r1
  have hc : 1 ≤ w.conf.people ∧ w.conf.people ≤ 6 := by
    simp only [mayC, Bool.and_eq_true, decide_eq_true_eq] at m1
    omega
  have r4 := p12_peopleFit w hc
  generalize (rightPl w.people && (((w.people.length : Int) == w.conf.people + 1) && w.people.all (personB w.conf))) = b4 at *
  clear m1 hc
  simp only [eWld, eConf, eBox, eNet, eSealeds, eGrams, ePeople, eEvents, eRows, eWords, eLeaks, rB] at *
  simp only [Bool.true_and]
  cases b2
  · simp only [Bool.false_and]
    refine wk0 trivial (And.intro r1 r2) trivial
  simp only [Bool.true_and]
  cases b3
  · simp only [Bool.false_and]
    refine wk0 trivial (And.intro r1 (And.intro r2 r3)) trivial
  simp only [Bool.true_and]
  cases b4
  · simp only [Bool.false_and]
    refine wk0 trivial (And.intro r1 (And.intro r2 (And.intro r3 r4))) trivial
  simp only [Bool.true_and]
  cases b5
  · simp only [Bool.false_and]
    refine wk0 trivial (And.intro r1 (And.intro r2 (And.intro r3 (And.intro r4 r5)))) trivial
  simp only [Bool.true_and]
  refine wk0 trivial (And.intro r1 (And.intro r2 (And.intro r3 (And.intro r4 (And.intro r5 r6))))) trivial
end Go.Proofs.YtjhofkdcekdplaaGreatDoor.Abs
end
section
/- The landed layer draw, over values without addresses: Take. -/
set_option linter.unusedSimpArgs false
set_option linter.unusedVariables false
set_option maxRecDepth 100000
namespace Go.Proofs.YtjhofkdcekdplaaGreatDoor.Abs
open Go.RowKit
theorem or_bit {x : Int} (h0 : 0 ≤ x) (h1 : x < 4294967296) : IntKind.u32.wrap (((BitVec.ofInt 32 x ||| BitVec.ofInt 32 2147483648).toNat : Nat) : Int) = bitI x := by
  obtain ⟨n, rfl⟩ : ∃ n : Nat, x = n := ⟨x.toNat, by omega⟩
  have e1 : BitVec.ofInt 32 (n : Int) = BitVec.ofNat 32 n := by
    apply BitVec.eq_of_toNat_eq
    simp only [BitVec.toNat_ofInt, BitVec.toNat_ofNat]
    omega
  have e2 : BitVec.ofInt 32 2147483648 = BitVec.ofNat 32 2147483648 := by decide
  rw [e1, e2, BitVec.toNat_or, BitVec.toNat_ofNat, BitVec.toNat_ofNat, IntKind.wrap_u32]
  have hn : n % 2 ^ 32 = n := Nat.mod_eq_of_lt (by omega)
  have h31 : (2147483648 : Nat) % 2 ^ 32 = 2147483648 := by decide
  rw [hn, h31]
  unfold bitI
  by_cases hb : n < 2147483648
  · have := Nat.two_pow_add_eq_or_of_lt (i := 31) (b := n) (by simpa using hb) 1
    have e : n ||| 2147483648 = n + 2147483648 := by
      rw [Nat.or_comm]
      have h2 : (2147483648 : Nat) = 2 ^ 31 * 1 := by decide
      rw [h2, ← this]; omega
    rw [e, if_pos (by omega)]
    omega
  · obtain ⟨y, rfl⟩ : ∃ y, n = 2147483648 + y := ⟨n - 2147483648, by omega⟩
    have := Nat.two_pow_add_eq_or_of_lt (i := 31) (b := y) (by simp; omega) 1
    have h2 : (2147483648 : Nat) = 2 ^ 31 * 1 := by decide
    have e : 2147483648 + y = 2147483648 ||| y := by rw [h2]; exact this
    rw [if_neg (by omega)]
    have e3 : 2147483648 + y ||| 2147483648 = 2147483648 + y := by
      rw [e, Nat.or_comm (2147483648 ||| y), ← Nat.or_assoc, Nat.or_self]
    rw [e3]
    omega
theorem p01_draw (x : Int) (h : 0 ≤ x ∧ x < 4294967296) : ACalls Tryz.prog 132 [.one (u32 x)] (.one (.one (u32 (bitI x)))) := by
  refine ACalls.intro (fn := Tryz.f132) Tryz.func132 rfl rfl (by simp [Tryz.f132]) ?_
  unfold Tryz.f132
  rw [← or_bit h.1 h.2]
  refine wk1 trivial trivial trivial _ ?_
  all_goals (repeat intro h)
  all_goals refine ⟨?_⟩
  all_goals rfl
theorem p04_nth (l : List Int) (i : Nat) (hr : ∀ x ∈ l, 0 ≤ x ∧ x < 4294967296) : ACalls Tryz.prog 107 [.one (eWords l), .one (i64 i)] (.one (.one (u32 (dAt l i)))) := by
  refine ACalls.intro (fn := Tryz.f107) Tryz.func107 rfl rfl (by simp [Tryz.f107]) ?_
  unfold Tryz.f107
  simp only [eWords] at *
  by_cases hlt : i < l.length
  · obtain ⟨x, hx⟩ : ∃ x, l[i]? = some x := ⟨_, List.getElem?_eq_getElem hlt⟩
    have hli : (i : Int) < (l.length : Int) := by omega
    have hq := p01_draw x (hr x (List.mem_of_getElem? hx))
    rw [show dAt l i = bitI x by simp [dAt, hx]]
    refine wk0 (And.intro hx (And.intro hlt (And.intro hli eWord.eq_1))) hq trivial
  · have hli : ¬ (i : Int) < (l.length : Int) := by omega
    have hn : l[i]? = none := List.getElem?_eq_none (by omega)
    have hq := p01_draw (farI i) (u32_range _)
    have hq2 : ACalls Tryz.prog 132 [.one (u32 (IntKind.u32.wrap (((BitVec.ofInt IntKind.u32.bits 1073741824 ||| BitVec.ofInt IntKind.u32.bits (IntKind.u32.wrap (i : Int))).toNat : Nat) : Int)))] (.one (.one (u32 (bitI (farI i))))) := hq
    rw [show dAt l i = bitI (farI i) by simp [dAt, hn]]
    refine wk0 hli hq2 trivial
theorem p04_take (d : Draws) (i : Nat) (hd : d.next = i) (hi : (i : Int) < 1000000000) : ACalls Tryz.prog 64 [.agg (eDraws d)] (.tup [.agg (eDraws ⟨d.list, ((i + 1 : Nat) : Int)⟩), .one (u32 (dAt d.list i))]) := by
  refine ACalls.introF (fn := Tryz.f64) Tryz.func64 rfl rfl (by simp [Tryz.f64]) fun hf => ?_
  have hr := (fineWords ((hf _ (by simp) : FineCA (.agg (eDraws d))) (eWords d.list) (by simp [eDraws]))).2
  clear hf
  have hq := p04_nth d.list i hr
  obtain ⟨l, nx⟩ := d
  simp only at hd
  subst hd
  have hw : IntKind.i64.wrap ((i : Int) + 1) = ((i + 1 : Nat) : Int) := by rw [wrapI (by omega) (by omega)]; omega
  unfold Tryz.f64
  simp only [eDraws, eWords] at *
  refine wk0 hw hq trivial
end Go.Proofs.YtjhofkdcekdplaaGreatDoor.Abs
end
