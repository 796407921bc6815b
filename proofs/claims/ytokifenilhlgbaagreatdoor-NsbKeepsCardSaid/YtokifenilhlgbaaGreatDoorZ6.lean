/- Texts that were merged: Q06c, Q09s, Q10b, EqPrt, Q11, Q12g, Q13s, Q13, Q15m, Q05, Q15, P06, P07, P07b. -/
import Derived.Test.YtokifenilhlgbaaGreatDoorZ5
import Derived.Test.YtokifenilhlgbaaGreatDoorZ4
section
/- The reference of layer net, over values without addresses: Few. -/
set_option linter.unusedSimpArgs false
set_option linter.unusedVariables false
set_option maxRecDepth 100000
namespace Go.Proofs.YtokifenilhlgbaaGreatDoor.Abs
open Go.RowKit
def fewN (n : Net) : Bool := decide ((∀ g ∈ n.grams.take 100, (g.words.length : Int) ≤ 100) ∧ (∀ s ∈ n.seen.take 400, (s.length : Int) ≤ 100) ∧ (n.grams.length : Int) ≤ 64 ∧ (n.seen.length : Int) ≤ 300)
theorem all_next {α : Type} {p : α → Prop} {l : List α} {k : Nat} {x : α} (h : ∀ y ∈ l.take k, p y) (hx : l[k]? = some x) (hp : p x) : ∀ y ∈ l.take (k + 1), p y := by
  intro y hy
  rw [List.take_add_one, hx] at hy
  simp only [Option.toList_some, List.mem_append, List.mem_singleton] at hy
  rcases hy with hy | rfl
  · exact h y hy
  · exact hp
theorem mem_take {α : Type} {l : List α} {k m : Nat} {x : α} (hx : l[k]? = some x) (h : k < m) : x ∈ l.take m := by
  refine List.mem_iff_getElem?.mpr ⟨k, ?_⟩
  rw [List.getElem?_take, if_pos h, hx]
theorem few_no {n : Net} (h : (∃ x ∈ n.grams.take 100, 100 < (x.words.length : Int)) ∨ (∃ x ∈ n.seen.take 400, 100 < (x.length : Int))) : fewN n = false := by
  unfold fewN
  rw [decide_eq_false_iff_not]
  rintro ⟨h1, h2, -, -⟩
  rcases h with ⟨x, hx, hb⟩ | ⟨x, hx, hb⟩
  · have := h1 x hx; omega
  · have := h2 x hx; omega
theorem few_end {n : Net} (h1 : ∀ x ∈ n.grams.take 100, (x.words.length : Int) ≤ 100) (h2 : ∀ x ∈ n.seen.take 400, (x.length : Int) ≤ 100) : fewN n = decide ((n.grams.length : Int) ≤ 64 ∧ (n.seen.length : Int) ≤ 300) := by
  unfold fewN
  rw [decide_eq_decide]
  exact ⟨fun h => h.2.2, fun h => ⟨h1, h2, h⟩⟩
set_option maxHeartbeats 2000000 in
set_option maxRecDepth 100000 in
theorem q06_few (n : Net) : ACalls Tryz.prog 46 [.agg (eNet n)] (rB (fewN n)) := by
  refine ACalls.introF (fn := Tryz.f46) Tryz.func46 rfl rfl (by simp [Tryz.f46]) fun hf => ?_
  have hl : n.grams.length ≤ 9223372036854775807 := (Fine.rowM ((hf _ (by simp) : FineCA (.agg (eNet n))) (eGrams n.grams) (by simp [eNet]))).1
  have hm : n.seen.length ≤ 9223372036854775807 := (Fine.rowM ((hf _ (by simp) : FineCA (.agg (eNet n))) (eRows n.seen) (by simp [eNet]))).1
  clear hf
  obtain ⟨r, g, s⟩ := n
  simp only at hl hm
  unfold Tryz.f46 eNet
  simp only [eGrams, eRows]
  refine wk1 trivial trivial trivial _ ?_
  all_goals (repeat intro h)
  all_goals refine ⟨?_⟩
  refine AW.loopW (fun q σ => ∃ k : Nat, q = g.length - k ∧ k ≤ g.length ∧ k ≤ 100 ∧ (∀ x ∈ g.take k, (x.words.length : Int) ≤ 100) ∧ σ = ⟨52, upd (upd (upd (fun _ => .junk) 1 (.one (.ptr 1 0))) 2 (.one (.c (.v (.bool false))))) 3 (.one (.c (i64 k))),
    upd (fun _ => none) 1 (some (.box [.c (i64 r), .c (.row (g.map eGram)), .c (.row (s.map eSeen))]))⟩) (n := g.length) _ ⟨0, rfl, Nat.zero_le _, by omega, by simp, rfl⟩ (by exact lz trivial) ?_
  rintro q σ ⟨k, rfl, hk, hc, ha, rfl⟩
  by_cases hlt : k < g.length
  · obtain ⟨x, hx⟩ : ∃ x, g[k]? = some x := ⟨_, List.getElem?_eq_getElem hlt⟩
    have hs := wrapI (x := (k : Int) + 1) (by omega) (by omega)
    by_cases h100 : (k : Int) < 100
    · refine wk2 (And.intro hx (And.intro hlt (And.intro h100 (And.intro eGram.eq_1 (And.intro eWords.eq_1 hs))))) trivial trivial _ _ ?_ ?_
      all_goals (repeat intro h)
      all_goals refine ⟨?_⟩
      · rw [few_no (.inl ⟨x, mem_take hx (by omega), by omega⟩)]
      · refine ⟨g.length - (k + 1), by omega, _, ⟨k + 1, rfl, by omega, by omega, all_next ha hx (by omega), rfl⟩, ?_⟩
        exact lz trivial
    · refine wk1 (And.intro hx (And.intro hlt (And.intro h100 (And.intro eGram.eq_1 (And.intro eWords.eq_1 hs))))) trivial trivial _ ?_
      all_goals (repeat intro h)
      all_goals refine ⟨?_⟩
      have hA : ∀ x ∈ g.take 100, (x.words.length : Int) ≤ 100 := (show k = 100 by omega) ▸ ha
      refine AW.loopW (fun q σ => ∃ j : Nat, q = s.length - j ∧ j ≤ s.length ∧ j ≤ 400 ∧ (∀ x ∈ s.take j, (x.length : Int) ≤ 100) ∧ σ = ⟨52, upd (upd (upd (fun _ => .junk) 1 (.one (.ptr 1 0))) 2 (.one (.c (.v (.bool false))))) 4 (.one (.c (i64 j))),
        upd (fun _ => none) 1 (some (.box [.c (i64 r), .c (.row (g.map eGram)), .c (.row (s.map eSeen))]))⟩) (n := s.length) _ ⟨0, rfl, Nat.zero_le _, by omega, by simp, rfl⟩ (by exact lz trivial) ?_
      rintro q σ ⟨j, rfl, hj, hd, hb, rfl⟩
      by_cases hjt : j < s.length
      · obtain ⟨y, hy⟩ : ∃ y, s[j]? = some y := ⟨_, List.getElem?_eq_getElem hjt⟩
        have hs2 := wrapI (x := (j : Int) + 1) (by omega) (by omega)
        by_cases h400 : (j : Int) < 400
        · refine wk2 (And.intro hy (And.intro hjt (And.intro h400 (And.intro eSeen.eq_1 (And.intro eWords.eq_1 hs2))))) trivial trivial _ _ ?_ ?_
          all_goals (repeat intro h)
          all_goals refine ⟨?_⟩
          · rw [few_no (.inr ⟨y, mem_take hy (by omega), by omega⟩)]
          · refine ⟨s.length - (j + 1), by omega, _, ⟨j + 1, rfl, by omega, by omega, all_next hb hy (by omega), rfl⟩, ?_⟩
            exact lz trivial
        · have hB : ∀ x ∈ s.take 400, (x.length : Int) ≤ 100 := (show j = 400 by omega) ▸ hb
          refine wk1 (And.intro hy (And.intro hjt (And.intro h400 (And.intro eSeen.eq_1 (And.intro eWords.eq_1 hs2))))) trivial trivial _ ?_
          all_goals (repeat intro h)
          all_goals refine ⟨?_⟩
          all_goals (rw [few_end hA hB]; first | (simp [rB, h]; done) | (simp [rB]; omega))
      · have hB : ∀ x ∈ s.take 400, (x.length : Int) ≤ 100 := fun x hx => hb x (by rw [List.take_of_length_le (by omega)]; exact List.mem_of_mem_take hx)
        refine wk1 trivial trivial trivial _ ?_
        all_goals (repeat intro h)
        all_goals refine ⟨?_⟩
        all_goals (rw [few_end hA hB]; first | (simp [rB, h]; done) | (simp [rB]; omega))
  · refine wk1 trivial trivial trivial _ ?_
    all_goals (repeat intro h)
    all_goals refine ⟨?_⟩
    have hA : ∀ x ∈ g.take 100, (x.words.length : Int) ≤ 100 := fun x hx => ha x (by rw [List.take_of_length_le (by omega)]; exact List.mem_of_mem_take hx)
    refine AW.loopW (fun q σ => ∃ j : Nat, q = s.length - j ∧ j ≤ s.length ∧ j ≤ 400 ∧ (∀ x ∈ s.take j, (x.length : Int) ≤ 100) ∧ σ = ⟨52, upd (upd (upd (fun _ => .junk) 1 (.one (.ptr 1 0))) 2 (.one (.c (.v (.bool false))))) 4 (.one (.c (i64 j))),
      upd (fun _ => none) 1 (some (.box [.c (i64 r), .c (.row (g.map eGram)), .c (.row (s.map eSeen))]))⟩) (n := s.length) _ ⟨0, rfl, Nat.zero_le _, by omega, by simp, rfl⟩ (by exact lz trivial) ?_
    rintro q σ ⟨j, rfl, hj, hd, hb, rfl⟩
    by_cases hjt : j < s.length
    · obtain ⟨y, hy⟩ : ∃ y, s[j]? = some y := ⟨_, List.getElem?_eq_getElem hjt⟩
      have hs2 := wrapI (x := (j : Int) + 1) (by omega) (by omega)
      by_cases h400 : (j : Int) < 400
      · refine wk2 (And.intro hy (And.intro hjt (And.intro h400 (And.intro eSeen.eq_1 (And.intro eWords.eq_1 hs2))))) trivial trivial _ _ ?_ ?_
        all_goals (repeat intro h)
        all_goals refine ⟨?_⟩
        · rw [few_no (.inr ⟨y, mem_take hy (by omega), by omega⟩)]
        · refine ⟨s.length - (j + 1), by omega, _, ⟨j + 1, rfl, by omega, by omega, all_next hb hy (by omega), rfl⟩, ?_⟩
          exact lz trivial
      · have hB : ∀ x ∈ s.take 400, (x.length : Int) ≤ 100 := (show j = 400 by omega) ▸ hb
        refine wk2 (And.intro hy (And.intro hjt (And.intro h400 (And.intro eSeen.eq_1 (And.intro eWords.eq_1 hs2))))) trivial trivial _ _ ?_ ?_
        all_goals (repeat intro h)
        all_goals refine ⟨?_⟩
        all_goals (rw [few_end hA hB]; first | (simp [rB, h]; done) | (simp [rB]; omega))
    · have hB : ∀ x ∈ s.take 400, (x.length : Int) ≤ 100 := fun x hx => hb x (by rw [List.take_of_length_le (by omega)]; exact List.mem_of_mem_take hx)
      refine wk2 trivial trivial trivial _ _ ?_ ?_
      all_goals (repeat intro h)
      all_goals refine ⟨?_⟩
      all_goals (rw [few_end hA hB]; first | (simp [rB, h]; done) | (simp [rB]; omega))
end Go.Proofs.YtokifenilhlgbaaGreatDoor.Abs
end
section
/- The reference of layer runs, over values without addresses: Same. -/
set_option linter.unusedSimpArgs false
set_option linter.unusedVariables false
set_option maxRecDepth 100000
namespace Go.Proofs.YtokifenilhlgbaaGreatDoor.Abs
open Go.RowKit
/-- '==' of two runs, as it is reckoned. -/
def eqRunB (x y : Run) : Bool := x.proto == y.proto && (x.role == y.role && (x.peer == y.peer && (x.mine == y.mine && (x.their == y.their && (x.m == y.m && (x.k == y.k && (x.t == y.t && x.state == y.state)))))))
theorem eqRunB_ne {x y : Run} (h : x ≠ y) : eqRunB x y = false := by
  cases hb : eqRunB x y with
  | false => rfl
  | true =>
    refine absurd ?_ h
    obtain ⟨x1, x2, x3, x4, x5, x6, x7, x8, x9⟩ := x
    obtain ⟨y1, y2, y3, y4, y5, y6, y7, y8, y9⟩ := y
    simp [eqRunB] at hb
    simp [hb]
theorem q09_same (j : Nat) (l m : List Run) : ACalls Tryz.prog 99 [.one (.rowc j (l.map eRun)), .one (eRuns m)] (rB (decide (l = m))) := by
  refine ACalls.introF (fn := Tryz.f99) Tryz.func99 rfl rfl (by simp [Tryz.f99]) fun hf => ?_
  have hl := Fine.rowC (hf _ (by simp) : FineCA (.one (.rowc j (l.map eRun))))
  clear hf
  unfold Tryz.f99
  simp only [eRuns]
  by_cases hlen : l.length = m.length
  · have hli : (l.length : Int) = (m.length : Int) := by omega
    refine wkx1 hli trivial trivial _ ?_
    all_goals (repeat intro h)
    all_goals refine ⟨?_⟩
    refine AW.loopW (fun n σ => ∃ k : Nat, n = l.length - k ∧ k ≤ l.length ∧ l.take k = m.take k ∧ σ = ⟨26, (upd (upd (upd (fun _ => .junk) 0 (.one (.c (.rowc j (l.map eRun))))) 1 (.one (.c (.row (m.map eRun))))) 5 (.one (.c (i64 k)))), (fun _ => none)⟩) (n := l.length) _ ⟨0, rfl, Nat.zero_le _, rfl, rfl⟩ (by exact lz trivial) ?_
    rintro n σ ⟨k, rfl, hk, ht, rfl⟩
    by_cases hlt : k < l.length
    · obtain ⟨x, hx⟩ : ∃ x, l[k]? = some x := ⟨_, List.getElem?_eq_getElem hlt⟩
      obtain ⟨y, hy⟩ : ∃ y, m[k]? = some y := ⟨_, List.getElem?_eq_getElem (by omega)⟩
      have hlt2 : k < m.length := by omega
      have hs := wrapI (x := (k : Int) + 1) (by omega) (by omega)
      have heq := eqok_run
      by_cases hxy : x = y
      · subst hxy
        refine wkx1 (And.intro hx (And.intro hy (And.intro hlt (And.intro hlt2 (And.intro hs (And.intro heq eRun.eq_1)))))) trivial trivial _ ?_
        all_goals (repeat intro h)
        all_goals refine ⟨?_⟩
        refine ⟨l.length - (k + 1), by omega, _, ⟨k + 1, rfl, by omega, take_more ht hx hy, rfl⟩, ?_⟩
        exact lz trivial
      · have hne := eqRunB_ne hxy
        unfold eqRunB at hne
        have hd : decide (l = m) = false := decide_eq_false fun e => by subst e; rw [hx] at hy; exact hxy (Option.some.inj hy)
        rw [hd]
        refine wk0 (And.intro hx (And.intro hy (And.intro hlt (And.intro hlt2 (And.intro hs (And.intro heq (And.intro hne eRun.eq_1))))))) trivial trivial
    · obtain rfl : k = l.length := by omega
      have : l = m := take_all hlen ht
      subst this
      refine wk0 trivial trivial trivial
  · have hd : decide (l = m) = false := decide_eq_false fun e => hlen (by rw [e])
    have hne : ((l.length : Int) != (m.length : Int)) = true := by rw [bne_iff_ne]; omega
    rw [hd]
    refine wk0 hne trivial trivial
end Go.Proofs.YtokifenilhlgbaaGreatDoor.Abs
end
section
/- The reference of layer people, over values without addresses: One, Same, Few, New. -/
set_option linter.unusedSimpArgs false
set_option linter.unusedVariables false
set_option maxRecDepth 100000
namespace Go.Proofs.YtokifenilhlgbaaGreatDoor.Abs
open Go.RowKit
theorem q10_one (a b : Person) : ACalls Tryz.prog 73 [.agg (ePerson a), .agg (ePerson b)] (rB (decide (a = b))) := by
  refine ACalls.intro (fn := Tryz.f73) Tryz.func73 rfl rfl (by simp [Tryz.f73]) ?_
  have su := q01_same a.used b.used
  have sr := q09_same 0 a.runs b.runs
  unfold Tryz.f73
  by_cases hab : a = b
  · subst hab
    rw [decide_eq_true rfl] at su sr ⊢
    simp only [ePerson, eWords, eRuns, rB] at *
    refine wkx0 trivial (And.intro su sr) trivial
  · rw [decide_eq_false hab]
    cases h1 : (a.name == b.name)
    · simp only [ePerson, eWords, eRuns, rB] at *
      refine wk0 h1 trivial trivial
    · cases h2 : (a.key == b.key)
      · simp only [ePerson, eWords, eRuns, rB] at *
        refine wk0 (And.intro h1 h2) trivial trivial
      · cases h3 : (a.clock == b.clock)
        · simp only [ePerson, eWords, eRuns, rB] at *
          refine wk0 (And.intro h1 (And.intro h2 h3)) trivial trivial
        · cases h4 : (a.corrupt == b.corrupt)
          · simp only [ePerson, eWords, eRuns, rB] at *
            refine wk0 (And.intro h1 (And.intro h2 (And.intro h3 h4))) trivial trivial
          · by_cases h5 : a.used = b.used
            · have h6 : ¬ a.runs = b.runs := fun h6 => hab (by
                obtain ⟨a1, a2, a3, a4, a5, a6⟩ := a
                obtain ⟨b1, b2, b3, b4, b5, b6⟩ := b
                simp at h1 h2 h3 h4 h5 h6
                simp [h1, h2, h3, h4, h5, h6])
              rw [decide_eq_true h5] at su
              rw [decide_eq_false h6] at sr
              simp only [ePerson, eWords, eRuns, rB] at *
              refine wk0 (And.intro h1 (And.intro h2 (And.intro h3 h4))) (And.intro su sr) trivial
            · rw [decide_eq_false h5] at su
              simp only [ePerson, eWords, eRuns, rB] at *
              refine wk0 (And.intro h1 (And.intro h2 (And.intro h3 h4))) su trivial
theorem q10_same (j : Nat) (l m : List Person) : ACalls Tryz.prog 35 [.one (.rowc j (l.map ePerson)), .one (ePeople m)] (rB (decide (l = m))) := by
  refine ACalls.introF (fn := Tryz.f35) Tryz.func35 rfl rfl (by simp [Tryz.f35]) fun hf => ?_
  have hl := Fine.rowC (hf _ (by simp) : FineCA (.one (.rowc j (l.map ePerson))))
  clear hf
  unfold Tryz.f35
  simp only [ePeople, rB]
  by_cases hlen : l.length = m.length
  · have hli : (l.length : Int) = (m.length : Int) := by omega
    refine wkx1 hli trivial trivial _ ?_
    all_goals (repeat intro h)
    all_goals refine ⟨?_⟩
    refine AW.loopW (fun n σ => ∃ k : Nat, n = l.length - k ∧ k ≤ l.length ∧ l.take k = m.take k ∧ σ = ⟨27, (upd (upd (upd (fun _ => .junk) 0 (.one (.c (.rowc j (l.map ePerson))))) 1 (.one (.c (.row (m.map ePerson))))) 5 (.one (.c (i64 k)))), (fun _ => none)⟩) (n := l.length) _ ⟨0, rfl, Nat.zero_le _, rfl, rfl⟩ (by exact lz trivial) ?_
    rintro n σ ⟨k, rfl, hk, ht, rfl⟩
    by_cases hlt : k < l.length
    · obtain ⟨x, hx⟩ : ∃ x, l[k]? = some x := ⟨_, List.getElem?_eq_getElem hlt⟩
      obtain ⟨y, hy⟩ : ∃ y, m[k]? = some y := ⟨_, List.getElem?_eq_getElem (by omega)⟩
      have hlt2 : k < m.length := by omega
      have hs := wrapI (x := (k : Int) + 1) (by omega) (by omega)
      have h1 := q10_one x y
      by_cases hxy : x = y
      · rw [decide_eq_true hxy] at h1
        simp only [ePerson, rB] at h1
        refine wk1 (And.intro hx (And.intro hy (And.intro hlt (And.intro hlt2 (And.intro hs ePerson.eq_1))))) h1 trivial _ ?_
        all_goals (repeat intro h)
        all_goals refine ⟨?_⟩
        refine ⟨l.length - (k + 1), by omega, _, ⟨k + 1, rfl, by omega, take_more ht hx (hxy ▸ hy), rfl⟩, ?_⟩
        exact lz trivial
      · rw [decide_eq_false hxy] at h1
        have hd : decide (l = m) = false := decide_eq_false fun e => by subst e; rw [hx] at hy; exact hxy (Option.some.inj hy)
        rw [hd]
        simp only [ePerson, rB] at h1
        refine wk0 (And.intro hx (And.intro hy (And.intro hlt (And.intro hlt2 (And.intro hs ePerson.eq_1))))) h1 trivial
    · obtain rfl : k = l.length := by omega
      have : l = m := take_all hlen ht
      subst this
      rw [decide_eq_true rfl]
      refine wk0 trivial trivial trivial
  · have hd : decide (l = m) = false := decide_eq_false fun e => hlen (by rw [e])
    have hne : ((l.length : Int) != (m.length : Int)) = true := by rw [bne_iff_ne]; omega
    rw [hd]
    refine wk0 hne trivial trivial
def fewPl (l : List Person) : Bool := decide ((∀ p ∈ l.take 20, (p.used.length : Int) ≤ 100 ∧ (p.runs.length : Int) ≤ 100) ∧ (l.length : Int) ≤ 10)
theorem fewPl_iff {l : List Person} (h : fewPl l = true) : l.length ≤ 10 ∧ ∀ p ∈ l, p.used.length ≤ 100 ∧ p.runs.length ≤ 100 := by
  obtain ⟨h1, h2⟩ := of_decide_eq_true h
  refine ⟨by omega, fun p hp => ?_⟩
  have := h1 p (by rw [List.take_of_length_le (by omega)]; exact hp)
  omega
set_option maxHeartbeats 1000000 in
theorem q10_few (l : List Person) : ACalls Tryz.prog 47 [.one (ePeople l)] (rB (fewPl l)) := by
  refine ACalls.introF (fn := Tryz.f47) Tryz.func47 rfl rfl (by simp [Tryz.f47]) fun hf => ?_
  have hl := (Fine.rowM (hf _ (by simp) : FineCA (.one (ePeople l)))).1
  clear hf
  unfold Tryz.f47
  simp only [ePeople, rB]
  have no : (∃ p ∈ l.take 20, 100 < (p.used.length : Int) ∨ 100 < (p.runs.length : Int)) → fewPl l = false := by
    rintro ⟨p, hp, hb⟩
    unfold fewPl
    rw [decide_eq_false_iff_not]
    rintro ⟨h1, -⟩
    have := h1 p hp; omega
  have ok : (∀ p ∈ l.take 20, (p.used.length : Int) ≤ 100 ∧ (p.runs.length : Int) ≤ 100) → fewPl l = decide ((l.length : Int) ≤ 10) := fun h => by
    unfold fewPl; rw [decide_eq_decide]; exact ⟨fun h => h.2, fun h2 => ⟨h, h2⟩⟩
  refine wk1 trivial trivial trivial _ ?_
  all_goals (repeat intro h)
  all_goals refine ⟨?_⟩
  refine AW.loopW (fun n σ => ∃ k : Nat, n = l.length - k ∧ k ≤ l.length ∧ k ≤ 20 ∧ (∀ p ∈ l.take k, (p.used.length : Int) ≤ 100 ∧ (p.runs.length : Int) ≤ 100) ∧ σ = ⟨33, (upd (upd (fun _ => .junk) 0 (.one (.c (.row (l.map ePerson))))) 3 (.one (.c (i64 k)))), (fun _ => none)⟩) (n := l.length) _ ⟨0, rfl, Nat.zero_le _, by omega, by simp, rfl⟩ (by exact lz trivial) ?_
  rintro n σ ⟨k, rfl, hk, hk2, ha, rfl⟩
  by_cases hlt : k < l.length
  · obtain ⟨x, hx⟩ : ∃ x, l[k]? = some x := ⟨_, List.getElem?_eq_getElem hlt⟩
    have hs := wrapI (x := (k : Int) + 1) (by omega) (by omega)
    have hli : (k : Int) < (l.length : Int) := by omega
    by_cases h20 : k < 20
    · have h20' : (k : Int) < 20 := by omega
      have hmem : x ∈ l.take 20 := List.mem_iff_getElem?.2 ⟨k, by rw [List.getElem?_take, if_pos h20, hx]⟩
      by_cases h1 : 100 < (x.used.length : Int)
      · rw [no ⟨x, hmem, .inl h1⟩]
        refine wk0 (And.intro hx (And.intro hlt (And.intro hli (And.intro h20' (And.intro h1 (And.intro hs (And.intro ePerson.eq_1 (And.intro eWords.eq_1 eRuns.eq_1)))))))) trivial trivial
      · by_cases h2 : 100 < (x.runs.length : Int)
        · rw [no ⟨x, hmem, .inr h2⟩]
          refine wk0 (And.intro hx (And.intro hlt (And.intro hli (And.intro h20' (And.intro h1 (And.intro h2 (And.intro hs (And.intro ePerson.eq_1 (And.intro eWords.eq_1 eRuns.eq_1))))))))) trivial trivial
        · refine wk1 (And.intro hx (And.intro hlt (And.intro hli (And.intro h20' (And.intro h1 (And.intro h2 (And.intro hs (And.intro ePerson.eq_1 (And.intro eWords.eq_1 eRuns.eq_1))))))))) trivial trivial _ ?_
          all_goals (repeat intro h)
          all_goals refine ⟨?_⟩
          refine ⟨l.length - (k + 1), by omega, _, ⟨k + 1, rfl, by omega, by omega, fun p hp => ?_, rfl⟩, ?_⟩
          · rw [List.take_add_one, hx] at hp
            simp only [Option.toList_some, List.mem_append, List.mem_singleton] at hp
            rcases hp with hp | rfl
            · exact ha p hp
            · omega
          · exact lz trivial
    · obtain rfl : k = 20 := by omega
      rw [ok ha]
      refine wk0 (And.intro hx (And.intro hlt (And.intro hli hs))) trivial trivial
  · have hA : ∀ p ∈ l.take 20, (p.used.length : Int) ≤ 100 ∧ (p.runs.length : Int) ≤ 100 := fun p hp => ha p (by rw [List.take_of_length_le (by omega)]; exact List.mem_of_mem_take hp)
    obtain rfl : k = l.length := by omega
    rw [ok hA]
    refine wk0 trivial trivial trivial
end Go.Proofs.YtokifenilhlgbaaGreatDoor.Abs
end
section
/- Parts, held against one another. -/
set_option linter.unusedSimpArgs false
set_option linter.unusedVariables false
set_option maxRecDepth 100000
namespace Go.Proofs.YtokifenilhlgbaaGreatDoor.Abs
open Go.RowKit
set_option maxHeartbeats 4000000 in
set_option maxRecDepth 100000 in
theorem eqr_prt (a0 a1 a2 a3 a4 a5 a6 b0 b1 b2 b3 b4 b5 b6 : Int) (w : World) : (Op.equal 57 (.agg #[.int .u32 a0, .int .u32 a1, .int .u32 a2, .int .u32 a3, .int .u32 a4, .int .u32 a5, .int .u32 a6]) (.agg #[.int .u32 b0, .int .u32 b1, .int .u32 b2, .int .u32 b3, .int .u32 b4, .int .u32 b5, .int .u32 b6])).run Tryz.prog w = .ok ((a0 == b0) && ((a1 == b1) && ((a2 == b2) && ((a3 == b3) && ((a4 == b4) && ((a5 == b5) && ((a6 == b6)))))))) w := by
  show (Op.equalIn 10000 57 (.agg #[.int .u32 a0, .int .u32 a1, .int .u32 a2, .int .u32 a3, .int .u32 a4, .int .u32 a5, .int .u32 a6]) (.agg #[.int .u32 b0, .int .u32 b1, .int .u32 b2, .int .u32 b3, .int .u32 b4, .int .u32 b5, .int .u32 b6])).run Tryz.prog w = _
  cases h0 : (a0 == b0) with
  | false => go_simp <;> simp [h0]
  | true =>
    cases h1 : (a1 == b1) with
    | false => go_simp <;> simp [h0, h1]
    | true =>
      cases h2 : (a2 == b2) with
      | false => go_simp <;> simp [h0, h1, h2]
      | true =>
        cases h3 : (a3 == b3) with
        | false => go_simp <;> simp [h0, h1, h2, h3]
        | true =>
          cases h4 : (a4 == b4) with
          | false => go_simp <;> simp [h0, h1, h2, h3, h4]
          | true =>
            cases h5 : (a5 == b5) with
            | false => go_simp <;> simp [h0, h1, h2, h3, h4, h5]
            | true =>
              cases h6 : (a6 == b6) with
              | false => go_simp <;> simp [h0, h1, h2, h3, h4, h5, h6]
              | true =>
                go_simp <;> simp [h0, h1, h2, h3, h4, h5, h6]
theorem eqok_prt : EqOK Tryz.prog 57 [some (some .u32), some (some .u32), some (some .u32), some (some .u32), some (some .u32), some (some .u32), some (some .u32)] := by
  refine ⟨by kernel_rfl, fun us0 vs0 w p0 q0 => ?_⟩
  obtain ⟨a0, us1, rfl, p1⟩ := sh_int p0
  obtain ⟨b0, vs1, rfl, q1⟩ := sh_int q0
  obtain ⟨a1, us2, rfl, p2⟩ := sh_int p1
  obtain ⟨b1, vs2, rfl, q2⟩ := sh_int q1
  obtain ⟨a2, us3, rfl, p3⟩ := sh_int p2
  obtain ⟨b2, vs3, rfl, q3⟩ := sh_int q2
  obtain ⟨a3, us4, rfl, p4⟩ := sh_int p3
  obtain ⟨b3, vs4, rfl, q4⟩ := sh_int q3
  obtain ⟨a4, us5, rfl, p5⟩ := sh_int p4
  obtain ⟨b4, vs5, rfl, q5⟩ := sh_int q4
  obtain ⟨a5, us6, rfl, p6⟩ := sh_int p5
  obtain ⟨b5, vs6, rfl, q6⟩ := sh_int q5
  obtain ⟨a6, us7, rfl, p7⟩ := sh_int p6
  obtain ⟨b6, vs7, rfl, q7⟩ := sh_int q6
  obtain rfl := sh_nil p7
  obtain rfl := sh_nil q7
  rw [eqr_prt]
  simp [eqVs, eqV]
/-- '==' of two parts, as it is reckoned. -/
def eqPrtB (x y : Prt) : Bool := x.n == y.n && (x.m == y.m && (x.a == y.a && (x.b == y.b && (x.k == y.k && (x.t == y.t && x.h == y.h)))))
theorem eqPrtB_dec (x y : Prt) : eqPrtB x y = decide (x = y) := by
  obtain ⟨x1, x2, x3, x4, x5, x6, x7⟩ := x
  obtain ⟨y1, y2, y3, y4, y5, y6, y7⟩ := y
  rw [Bool.eq_iff_iff]
  simp [eqPrtB]
end Go.Proofs.YtokifenilhlgbaaGreatDoor.Abs
end
section
/- The reference of layer part, over values without addresses. -/
set_option linter.unusedSimpArgs false
set_option linter.unusedVariables false
set_option maxRecDepth 100000
namespace Go.Proofs.YtokifenilhlgbaaGreatDoor.Abs
open Go.RowKit
def prt0 : Prt := ⟨0, 0, 0, 0, 0, 0, 0⟩
def wordsP (label : Int) (p : Prt) : List Int := if label = 2 then [p.n, p.b, p.k, p.t, p.h] else if label = 3 then [p.k, p.a, p.t] else if label = 4 ∨ label = 5 then [p.n] else if label = 6 ∨ label = 7 then [p.n, p.m, p.a, p.b] else if label = 8 ∨ label = 9 then [p.n, p.k] else []
def sizeP (label : Int) : Int := (wordsP label prt0).length
def fillP (label : Int) (l : List Int) : Prt := if label = 2 then ⟨l.getD 0 0, 0, 0, l.getD 1 0, l.getD 2 0, l.getD 3 0, l.getD 4 0⟩ else if label = 3 then ⟨0, 0, l.getD 1 0, 0, l.getD 0 0, l.getD 2 0, 0⟩ else if label = 4 ∨ label = 5 then ⟨l.getD 0 0, 0, 0, 0, 0, 0, 0⟩ else if label = 6 ∨ label = 7 then ⟨l.getD 0 0, l.getD 1 0, l.getD 2 0, l.getD 3 0, 0, 0, 0⟩ else ⟨l.getD 0 0, 0, 0, 0, l.getD 1 0, 0, 0⟩
def getP (label : Int) (l : List Int) : Prt × Int := if label < 2 ∨ 9 < label then (prt0, 1) else if (l.length : Int) ≠ sizeP label then (prt0, 2) else (fillP label l, 0)
def mayP (label : Int) (p : Prt) : Bool := decide (getP label (wordsP label p) = (p, 0))
def putP (label : Int) (p : Prt) : List Int × Int := if mayP label p = true then (wordsP label p, 0) else ([], 1)
/-- Whatever the label: one of eight, or none. -/
theorem label_cases (x : Int) : x = 2 ∨ x = 3 ∨ x = 4 ∨ x = 5 ∨ x = 6 ∨ x = 7 ∨ x = 8 ∨ x = 9 ∨ (x < 2 ∨ 9 < x) := by omega
theorem wordsP_none {x : Int} (h : x < 2 ∨ 9 < x) (p : Prt) : wordsP x p = [] := by
  unfold wordsP
  rw [if_neg (by omega), if_neg (by omega), if_neg (by omega), if_neg (by omega), if_neg (by omega)]
set_option maxHeartbeats 1000000 in
theorem q11_words (x : Int) (p : Prt) : ACalls Tryz.prog 77 [.one (u32 x), .agg (ePrt p)] (.one (.one (eWords (wordsP x p)))) := by
  refine ACalls.intro (fn := Tryz.f77) Tryz.func77 rfl rfl (by simp [Tryz.f77]) ?_
  unfold Tryz.f77
  simp only [ePrt]
  rcases label_cases x with rfl | rfl | rfl | rfl | rfl | rfl | rfl | rfl | h
  · refine wk1 trivial trivial trivial _ ?_
    all_goals (repeat intro h)
    all_goals refine ⟨?_⟩
    simp [wordsP, eWords, eWord]
  · refine wk1 trivial trivial trivial _ ?_
    all_goals (repeat intro h)
    all_goals refine ⟨?_⟩
    simp [wordsP, eWords, eWord]
  · refine wk1 trivial trivial trivial _ ?_
    all_goals (repeat intro h)
    all_goals refine ⟨?_⟩
    simp [wordsP, eWords, eWord]
  · refine wk1 trivial trivial trivial _ ?_
    all_goals (repeat intro h)
    all_goals refine ⟨?_⟩
    simp [wordsP, eWords, eWord]
  · refine wk1 trivial trivial trivial _ ?_
    all_goals (repeat intro h)
    all_goals refine ⟨?_⟩
    simp [wordsP, eWords, eWord]
  · refine wk1 trivial trivial trivial _ ?_
    all_goals (repeat intro h)
    all_goals refine ⟨?_⟩
    simp [wordsP, eWords, eWord]
  · refine wk1 trivial trivial trivial _ ?_
    all_goals (repeat intro h)
    all_goals refine ⟨?_⟩
    simp [wordsP, eWords, eWord]
  · refine wk1 trivial trivial trivial _ ?_
    all_goals (repeat intro h)
    all_goals refine ⟨?_⟩
    simp [wordsP, eWords, eWord]
  rw [wordsP_none h]
  have h2 : (x == 2) = false := by rw [beq_eq_false_iff_ne]; omega
  have h3 : (x == 3) = false := by rw [beq_eq_false_iff_ne]; omega
  have h4 : (x == 4) = false := by rw [beq_eq_false_iff_ne]; omega
  have h5 : (x == 5) = false := by rw [beq_eq_false_iff_ne]; omega
  have h6 : (x == 6) = false := by rw [beq_eq_false_iff_ne]; omega
  have h7 : (x == 7) = false := by rw [beq_eq_false_iff_ne]; omega
  have h8 : (x == 8) = false := by rw [beq_eq_false_iff_ne]; omega
  have h9 : (x == 9) = false := by rw [beq_eq_false_iff_ne]; omega
  refine wk1 (And.intro h2 (And.intro h3 (And.intro h4 (And.intro h5 (And.intro h6 (And.intro h7 (And.intro h8 h9))))))) trivial trivial _ ?_
  all_goals (repeat intro h)
  all_goals refine ⟨?_⟩
  simp [eWords]
theorem len1 {l : List Int} (h : (l.length : Int) = 1) : ∃ a, l = [a] := by
  match l, h with
  | [a], _ => exact ⟨a, rfl⟩
  | [], h => simp at h
  | a :: b :: t, h => simp at h; omega
theorem len2 {l : List Int} (h : (l.length : Int) = 2) : ∃ a b, l = [a, b] := by
  match l, h with
  | [a, b], _ => exact ⟨a, b, rfl⟩
  | [], h => simp at h
  | [a], h => simp at h
  | a :: b :: c :: t, h => simp at h; omega
theorem len3 {l : List Int} (h : (l.length : Int) = 3) : ∃ a b c, l = [a, b, c] := by
  match l, h with
  | a :: t, h =>
    obtain ⟨b, c, rfl⟩ := len2 (l := t) (by simp at h; omega)
    exact ⟨a, b, c, rfl⟩
theorem len4 {l : List Int} (h : (l.length : Int) = 4) : ∃ a b c d, l = [a, b, c, d] := by
  match l, h with
  | a :: t, h =>
    obtain ⟨b, c, d, rfl⟩ := len3 (l := t) (by simp at h; omega)
    exact ⟨a, b, c, d, rfl⟩
theorem len5 {l : List Int} (h : (l.length : Int) = 5) : ∃ a b c d e, l = [a, b, c, d, e] := by
  match l, h with
  | a :: t, h =>
    obtain ⟨b, c, d, e, rfl⟩ := len4 (l := t) (by simp at h; omega)
    exact ⟨a, b, c, d, e, rfl⟩
set_option maxHeartbeats 2000000 in
theorem q11_get (x : Int) (l : List Int) : ACalls Tryz.prog 41 [.one (u32 x), .one (eWords l)] (.tup [.agg (ePrt (getP x l).1), .one (i64 (getP x l).2)]) := by
  refine ACalls.intro (fn := Tryz.f41) Tryz.func41 rfl rfl (by simp [Tryz.f41]) ?_
  have hq := q11_words x prt0
  unfold Tryz.f41
  by_cases hx : x < 2 ∨ 9 < x
  · have e : getP x l = (prt0, 1) := by rw [getP, if_pos hx]
    rw [e]
    simp only [ePrt, prt0, eWords] at *
    by_cases h2 : x < 2
    · refine wk0 h2 trivial trivial
    · have h9 : 9 < x := by omega
      refine wk0 (And.intro h2 h9) trivial trivial
  · by_cases hs : (l.length : Int) = sizeP x
    · have e : getP x l = (fillP x l, 0) := by rw [getP, if_neg hx, if_neg (fun h => h hs)]
      rw [e]
      rcases label_cases x with rfl | rfl | rfl | rfl | rfl | rfl | rfl | rfl | h
      · obtain ⟨a, b, c, d, f, rfl⟩ := len5 hs
        rw [show wordsP 2 prt0 = [0, 0, 0, 0, 0] from rfl] at hq
        rw [show fillP 2 [a, b, c, d, f] = ⟨a, 0, 0, b, c, d, f⟩ from rfl]
        simp only [ePrt, prt0, eWords, eWord, List.map_cons, List.map_nil] at *
        refine wk0 trivial hq trivial
      · obtain ⟨a, b, c, rfl⟩ := len3 hs
        rw [show wordsP 3 prt0 = [0, 0, 0] from rfl] at hq
        rw [show fillP 3 [a, b, c] = ⟨0, 0, b, 0, a, c, 0⟩ from rfl]
        simp only [ePrt, prt0, eWords, eWord, List.map_cons, List.map_nil] at *
        refine wk0 trivial hq trivial
      · obtain ⟨a, rfl⟩ := len1 hs
        rw [show wordsP 4 prt0 = [0] from rfl] at hq
        rw [show fillP 4 [a] = ⟨a, 0, 0, 0, 0, 0, 0⟩ from rfl]
        simp only [ePrt, prt0, eWords, eWord, List.map_cons, List.map_nil] at *
        refine wk0 trivial hq trivial
      · obtain ⟨a, rfl⟩ := len1 hs
        rw [show wordsP 5 prt0 = [0] from rfl] at hq
        rw [show fillP 5 [a] = ⟨a, 0, 0, 0, 0, 0, 0⟩ from rfl]
        simp only [ePrt, prt0, eWords, eWord, List.map_cons, List.map_nil] at *
        refine wk0 trivial hq trivial
      · obtain ⟨a, b, c, d, rfl⟩ := len4 hs
        rw [show wordsP 6 prt0 = [0, 0, 0, 0] from rfl] at hq
        rw [show fillP 6 [a, b, c, d] = ⟨a, b, c, d, 0, 0, 0⟩ from rfl]
        simp only [ePrt, prt0, eWords, eWord, List.map_cons, List.map_nil] at *
        refine wk0 trivial hq trivial
      · obtain ⟨a, b, c, d, rfl⟩ := len4 hs
        rw [show wordsP 7 prt0 = [0, 0, 0, 0] from rfl] at hq
        rw [show fillP 7 [a, b, c, d] = ⟨a, b, c, d, 0, 0, 0⟩ from rfl]
        simp only [ePrt, prt0, eWords, eWord, List.map_cons, List.map_nil] at *
        refine wk0 trivial hq trivial
      · obtain ⟨a, b, rfl⟩ := len2 hs
        rw [show wordsP 8 prt0 = [0, 0] from rfl] at hq
        rw [show fillP 8 [a, b] = ⟨a, 0, 0, 0, b, 0, 0⟩ from rfl]
        simp only [ePrt, prt0, eWords, eWord, List.map_cons, List.map_nil] at *
        refine wk0 trivial hq trivial
      · obtain ⟨a, b, rfl⟩ := len2 hs
        rw [show wordsP 9 prt0 = [0, 0] from rfl] at hq
        rw [show fillP 9 [a, b] = ⟨a, 0, 0, 0, b, 0, 0⟩ from rfl]
        simp only [ePrt, prt0, eWords, eWord, List.map_cons, List.map_nil] at *
        refine wk0 trivial hq trivial
      · exact absurd h hx
    · have e : getP x l = (prt0, 2) := by rw [getP, if_neg hx, if_pos hs]
      rw [e]
      have h2 : ¬ x < 2 := by omega
      have h9 : ¬ 9 < x := by omega
      have hne : ((l.length : Int) != ((wordsP x prt0).length : Int)) = true := by rw [bne_iff_ne]; exact hs
      generalize wordsP x prt0 = m at *
      simp only [ePrt, prt0, eWords] at *
      refine wk0 (And.intro h2 (And.intro h9 hne)) hq trivial
theorem q11_put (x : Int) (p : Prt) : ACalls Tryz.prog 43 [.one (u32 x), .agg (ePrt p)] (.tup [.one (eWords (putP x p).1), .one (i64 (putP x p).2)]) := by
  refine ACalls.intro (fn := Tryz.f43) Tryz.func43 rfl rfl (by simp [Tryz.f43]) ?_
  have hw := q11_words x p
  have hg := q11_get x (wordsP x p)
  have heq := eqok_prt
  have hd := eqPrtB_dec (getP x (wordsP x p)).1 p
  unfold eqPrtB at hd
  unfold putP mayP
  generalize wordsP x p = l at *
  generalize getP x l = g at *
  unfold Tryz.f43
  obtain ⟨q, e⟩ := g
  by_cases he : e = 0
  · subst he
    by_cases hqp : q = p
    · subst hqp
      simp only [decide_true] at hd
      simp only [ePrt, eWords, if_true, decide_true] at *
      refine wkx0 (And.intro heq hd) (And.intro hw hg) trivial
    · have hn : ¬ ((q, (0 : Int)) = (p, 0)) := fun h => hqp (by simpa using h)
      simp only [hqp, decide_false] at hd
      simp only [ePrt, eWords, hn, decide_false, Bool.false_eq_true, if_false, List.map_nil] at *
      refine wkx0 (And.intro heq hd) (And.intro hw hg) trivial
  · have hn : ¬ ((q, e) = (p, 0)) := fun h => he (by simp at h; exact h.2)
    have hb : (e != 0) = true := by simpa using he
    clear hd
    simp only [ePrt, eWords, hn, decide_false, Bool.false_eq_true, if_false, List.map_nil] at *
    refine wk0 hb (And.intro hw hg) trivial
end Go.Proofs.YtokifenilhlgbaaGreatDoor.Abs
end
section
/- The reference of layer desk, over values without addresses: what is done with a world. -/
set_option linter.unusedSimpArgs false
set_option linter.unusedVariables false
set_option maxRecDepth 100000
namespace Go.Proofs.YtokifenilhlgbaaGreatDoor.Abs
open Go.RowKit
/-- A world's lists are no longer than lists may be. -/
structure Small (w : Wld) : Prop where
  ent : w.box.entries.length < 1000000
  plain : ∀ s ∈ w.box.entries, s.plain.length < 1000000
  grams : w.net.grams.length < 1000000
  seen : w.net.seen.length < 1000000
  people : w.people.length < 1000000
  log : w.log.length < 1000000
  next : 0 ≤ w.draws.next ∧ w.draws.next < 1000000000
def drawW (w : Wld) : Wld := { w with draws := ⟨w.draws.list, w.draws.next + 1⟩ }
def drawnW (w : Wld) : Int := dAt w.draws.list w.draws.next.toNat
def sealedW (w : Wld) (key label : Int) (p : Prt) : Box × Int := sealB w.box (drawnW w) key label (putP label p).1
def sealW (w : Wld) (key label : Int) (p : Prt) : Wld × Int × Int :=
  if (putP label p).2 ≠ 0 then (w, 0, (putP label p).2) else if (sealedW w key label p).2 ≠ 0 then (w, 0, (sealedW w key label p).2) else ({ drawW w with box := (sealedW w key label p).1 }, drawnW w, 0)
def openW (w : Wld) (key label handle : Int) : Prt × Bool :=
  if (openB w.box key label handle).2 = true ∧ (getP label (openB w.box key label handle).1).2 = 0 then ((getP label (openB w.box key label handle).1).1, true) else (prt0, false)
def sendW (w : Wld) (to : Int) (m : Mssg) : Wld × Int :=
  if putE m ≠ 0 then (w, putE m) else ({ w with net := (sendN w.net ⟨to, putL m⟩).1 }, (sendN w.net ⟨to, putL m⟩).2)
def logW (w : Wld) (e : Event) : Wld := { w with log := w.log ++ [e] }
def roomW (w : Wld) (b f : Int) : Bool := decide (b ≤ w.box.room - (w.box.entries.length : Int) ∧ f ≤ w.net.room - (w.net.grams.length : Int))
def personW (w : Wld) (n : Int) : Person := (getPl w.people n).1
def withW (w : Wld) (p : Person) : Wld := if (setPl w.people p).2 = 0 then { w with people := (setPl w.people p).1 } else w
theorem q12_draw (w : Wld) (h : 0 ≤ w.draws.next ∧ w.draws.next < 1000000000) : ACalls Tryz.prog 28 [.agg (eWld w)] (.tup [.agg (eWld (drawW w)), .one (u32 (drawnW w))]) := by
  refine ACalls.intro (fn := Tryz.f28) Tryz.func28 rfl rfl (by simp [Tryz.f28]) ?_
  have hq := q04_take w.draws w.draws.next.toNat (by omega) (by omega)
  rw [show ((w.draws.next.toNat + 1 : Nat) : Int) = w.draws.next + 1 by omega] at hq
  unfold Tryz.f28
  simp only [eWld, drawW, drawnW, eDraws, eSealeds, eGrams, ePeople, eEvents, eRows, eWords, eLeaks] at *
  refine wk0 trivial hq trivial
set_option maxHeartbeats 4000000 in
theorem q12_seal (w : Wld) (key label : Int) (p : Prt) (h : Small w) : ACalls Tryz.prog 18 [.agg (eWld w), .one (u32 key), .one (u32 label), .agg (ePrt p)] (.tup [.agg (eWld (sealW w key label p).1), .one (u32 (sealW w key label p).2.1), .one (i64 (sealW w key label p).2.2)]) := by
  refine ACalls.intro (fn := Tryz.f18) Tryz.func18 rfl rfl (by simp [Tryz.f18]) ?_
  have hp := q11_put label p
  have hd := q12_draw w h.next
  have hpl : (putP label p).1.length < 1000000 := by
    unfold putP; split
    · rcases label_cases label with rfl | rfl | rfl | rfl | rfl | rfl | rfl | rfl | hh <;> first | (rw [wordsP_none (by assumption)]; simp; done) | simp [wordsP]
    · simp
  have hs := q07_seal w.box (drawnW w) key label (putP label p).1 h.ent hpl
  have e2 : sealB w.box (drawnW w) key label (putP label p).1 = sealedW w key label p := rfl
  rw [e2] at hs
  unfold Tryz.f18
  by_cases g1 : (putP label p).2 = 0
  · have g1' : ((putP label p).2 != 0) = false := by simp [g1]
    by_cases g2 : (sealedW w key label p).2 = 0
    · have g2' : ((sealedW w key label p).2 != 0) = false := by simp [g2]
      have e : sealW w key label p = ({ drawW w with box := (sealedW w key label p).1 }, drawnW w, 0) := by unfold sealW; rw [if_neg (by simp [g1]), if_neg (by simp [g2])]
      rw [e]
      clear e e2 hpl
      generalize sealedW w key label p = b at *
      generalize putP label p = pp at *
      generalize drawnW w = dr at *
      simp only [eWld, drawW, eBox, ePrt, eSealeds, eGrams, ePeople, eEvents, eRows, eWords, eLeaks] at *
      refine wk0 (And.intro g1' g2') (And.intro hp (And.intro hd hs)) trivial
    · have g2' : ((sealedW w key label p).2 != 0) = true := by simp [g2]
      have e : sealW w key label p = (w, 0, (sealedW w key label p).2) := by unfold sealW; rw [if_neg (by simp [g1]), if_pos (by simp [g2])]
      rw [e]
      clear e e2 hpl
      generalize sealedW w key label p = b at *
      generalize putP label p = pp at *
      generalize drawnW w = dr at *
      simp only [eWld, drawW, eBox, ePrt, eSealeds, eGrams, ePeople, eEvents, eRows, eWords, eLeaks] at *
      refine wk0 (And.intro g1' g2') (And.intro hp (And.intro hd hs)) trivial
  · have g1' : ((putP label p).2 != 0) = true := by simp [g1]
    have e : sealW w key label p = (w, 0, (putP label p).2) := by unfold sealW; rw [if_pos (by simp [g1])]
    rw [e]
    clear e e2 hpl
    generalize putP label p = pp at *
    simp only [eWld, eBox, ePrt, eSealeds, eGrams, ePeople, eEvents, eRows, eWords, eLeaks] at *
    refine wk0 g1' hp trivial
set_option maxHeartbeats 4000000 in
theorem q12_open (w : Wld) (key label handle : Int) (h : ∀ s ∈ w.box.entries, s.plain.length < 1000000) : ACalls Tryz.prog 14 [.agg (eWld w), .one (u32 key), .one (u32 label), .one (u32 handle)] (.tup [.agg (ePrt (openW w key label handle).1), .one (bl (openW w key label handle).2)]) := by
  refine ACalls.intro (fn := Tryz.f14) Tryz.func14 rfl rfl (by simp [Tryz.f14]) ?_
  have ho := q07_open w.box key label handle h
  have hg := q11_get label (openB w.box key label handle).1
  unfold Tryz.f14
  unfold openW
  generalize hB : openB w.box key label handle = b at *
  obtain ⟨bl1, b2⟩ := b
  simp only at *
  generalize getP label bl1 = g at *
  obtain ⟨g1, g2⟩ := g
  simp only at *
  cases b2
  · rw [if_neg (by simp)]
    simp only [eWld, eBox, ePrt, prt0, eSealeds, eGrams, ePeople, eEvents, eRows, eWords, eLeaks] at *
    refine wk0 trivial (And.intro ho hg) trivial
  · by_cases hz : g2 = 0
    · have hz' : (g2 != 0) = false := by simp [hz]
      rw [if_pos ⟨rfl, hz⟩]
      simp only [eWld, eBox, ePrt, prt0, eSealeds, eGrams, ePeople, eEvents, eRows, eWords, eLeaks] at *
      refine wk0 hz' (And.intro ho hg) trivial
    · have hz' : (g2 != 0) = true := by simp [hz]
      rw [if_neg (by simp [hz])]
      simp only [eWld, eBox, ePrt, prt0, eSealeds, eGrams, ePeople, eEvents, eRows, eWords, eLeaks] at *
      refine wk0 hz' (And.intro ho hg) trivial
set_option maxHeartbeats 4000000 in
theorem q12_send (w : Wld) (to : Int) (m : Mssg) (h1 : w.net.grams.length < 1000000) (h2 : w.net.seen.length < 1000000) : ACalls Tryz.prog 31 [.agg (eWld w), .one (u32 to), .agg (eMssg m)] (.tup [.agg (eWld (sendW w to m).1), .one (i64 (sendW w to m).2)]) := by
  refine ACalls.intro (fn := Tryz.f31) Tryz.func31 rfl rfl (by simp [Tryz.f31]) ?_
  have hp := q03_put m
  have hs := q06_send w.net ⟨to, putL m⟩ h1 h2
  unfold Tryz.f31
  unfold sendW
  generalize putL m = l at *
  by_cases g : putE m = 0
  · have g' : (putE m != 0) = false := by simp [g]
    rw [if_neg (by simp [g])]
    generalize sendN w.net ⟨to, l⟩ = n at *
    generalize putE m = e at *
    simp only [eWld, eNet, eGram, eMssg, eSealeds, eGrams, ePeople, eEvents, eRows, eWords, eLeaks] at *
    refine wk0 g' (And.intro hp hs) trivial
  · have g' : (putE m != 0) = true := by simp [g]
    rw [if_pos g]
    generalize putE m = e at *
    simp only [eWld, eNet, eGram, eMssg, eSealeds, eGrams, ePeople, eEvents, eRows, eWords, eLeaks] at *
    refine wk0 g' hp trivial
theorem q12_log (w : Wld) (e : Event) (h : w.log.length < 1000000) : ACalls Tryz.prog 30 [.agg (eWld w), .agg (eEvent e)] (.one (.agg (eWld (logW w e)))) := by
  refine ACalls.intro (fn := Tryz.f30) Tryz.func30 rfl rfl (by simp [Tryz.f30]) ?_
  unfold Tryz.f30
  simp only [eWld, logW, eEvent.eq_1 e, eSealeds, eGrams, ePeople, eEvents, eRows, eWords, eLeaks] at *
  refine wk1 trivial trivial trivial _ ?_
  all_goals (repeat intro h)
  all_goals refine ⟨?_⟩
  simp [eEvent]
theorem q12_roomq (w : Wld) (b f : Int) (h1 : rightB w.box = true) (h2 : rightN w.net = true) : ACalls Tryz.prog 27 [.agg (eWld w), .one (i64 b), .one (i64 f)] (rB (roomW w b f)) := by
  refine ACalls.intro (fn := Tryz.f27) Tryz.func27 rfl rfl (by simp [Tryz.f27]) ?_
  have g1 : 0 ≤ w.box.room ∧ w.box.room ≤ 64 ∧ (w.box.entries.length : Int) ≤ w.box.room := by
    unfold rightB at h1; rw [Bool.and_eq_true, decide_eq_true_eq] at h1; exact h1.1
  have g2 : 0 ≤ w.net.room ∧ w.net.room ≤ 64 ∧ (w.net.grams.length : Int) ≤ w.net.room := of_decide_eq_true h2
  have hw1 := wrapI (x := w.box.room - (w.box.entries.length : Int)) (by omega) (by omega)
  have hw2 := wrapI (x := w.net.room - (w.net.grams.length : Int)) (by omega) (by omega)
  unfold Tryz.f27
  simp only [eWld, rB, eSealeds, eGrams, ePeople, eEvents, eRows, eWords, eLeaks] at *
  refine wk2 (And.intro hw1 hw2) trivial trivial _ _ ?_ ?_
  all_goals (repeat intro h)
  all_goals refine ⟨?_⟩
  all_goals (refine rB_eq ?_; simp only [roomW, decide_eq_true_eq, decide_eq_false_iff_not, Bool.false_eq_true, iff_false, false_iff, not_and, not_true_eq_false] at *; omega)
theorem q12_person (w : Wld) (n : Int) : ACalls Tryz.prog 24 [.agg (eWld w), .one (u32 n)] (.one (.agg (ePerson (personW w n)))) := by
  refine ACalls.intro (fn := Tryz.f24) Tryz.func24 rfl rfl (by simp [Tryz.f24]) ?_
  have hg := q10_get w.people n
  unfold Tryz.f24
  unfold personW
  generalize getPl w.people n = g at *
  simp only [eWld, ePerson, eSealeds, eGrams, ePeople, eEvents, eRows, eWords, eLeaks, eRuns] at *
  refine wk0 trivial hg trivial
theorem q12_with (w : Wld) (p : Person) (h : w.people.length < 1000000) : ACalls Tryz.prog 29 [.agg (eWld w), .agg (ePerson p)] (.one (.agg (eWld (withW w p)))) := by
  refine ACalls.intro (fn := Tryz.f29) Tryz.func29 rfl rfl (by simp [Tryz.f29]) ?_
  have hg := q10_set 0 w.people p h
  unfold Tryz.f29
  unfold withW
  generalize setPl w.people p = g at *
  by_cases hz : g.2 = 0
  · have hz' : (g.2 == 0) = true := by simp [hz]
    rw [if_pos hz]
    simp only [eWld, ePerson, eSealeds, eGrams, ePeople, eEvents, eRows, eWords, eLeaks, eRuns] at *
    refine wk0 hz' hg trivial
  · have hz' : (g.2 == 0) = false := by simp [hz]
    rw [if_neg hz]
    simp only [eWld, ePerson, eSealeds, eGrams, ePeople, eEvents, eRows, eWords, eLeaks, eRuns] at *
    refine wk0 hz' hg trivial
end Go.Proofs.YtokifenilhlgbaaGreatDoor.Abs
end
section
/- A world's lists are short, by so much; and what is done with it adds little. -/
set_option linter.unusedSimpArgs false
set_option linter.unusedVariables false
set_option maxRecDepth 100000
namespace Go.Proofs.YtokifenilhlgbaaGreatDoor.Abs
open Go.RowKit
structure SmallN (N : Nat) (w : Wld) : Prop where
  ent : w.box.entries.length + N < 1000000
  plain : ∀ s ∈ w.box.entries, s.plain.length < 1000000
  grams : w.net.grams.length + N < 1000000
  seen : w.net.seen.length + N < 1000000
  people : w.people.length < 1000000
  log : w.log.length + N < 1000000
  next : 0 ≤ w.draws.next ∧ w.draws.next + (N : Int) < 1000000000
theorem SmallN.small {N : Nat} {w : Wld} (h : SmallN N w) : Small w := ⟨by have := h.ent; omega, h.plain, by have := h.grams; omega, by have := h.seen; omega, h.people, by have := h.log; omega, by have := h.next; omega⟩
theorem SmallN.less {N M : Nat} {w : Wld} (h : SmallN N w) (hm : M ≤ N) : SmallN M w := ⟨by have := h.ent; omega, h.plain, by have := h.grams; omega, by have := h.seen; omega, h.people, by have := h.log; omega, by have := h.next; omega⟩
theorem SmallN.draw {N : Nat} {w : Wld} (h : SmallN (N + 1) w) : SmallN N (drawW w) := ⟨by have := h.ent; show w.box.entries.length + N < _; omega, h.plain, by have := h.grams; show w.net.grams.length + N < _; omega, by have := h.seen; show w.net.seen.length + N < _; omega, h.people, by have := h.log; show w.log.length + N < _; omega, by have := h.next; show 0 ≤ w.draws.next + 1 ∧ w.draws.next + 1 + (N : Int) < _; omega⟩
theorem putP_len (label : Int) (p : Prt) : (putP label p).1.length ≤ 5 := by
  unfold putP; split
  · rcases label_cases label with rfl | rfl | rfl | rfl | rfl | rfl | rfl | rfl | hh <;> first | (rw [wordsP_none (by assumption)]; simp; done) | simp [wordsP]
  · simp
theorem sealB_box (b : Box) (h k l : Int) (p : List Int) : (sealB b h k l p).1 = b ∨ (sealB b h k l p).1 = ⟨b.room, b.entries ++ [⟨h, k, l, p⟩]⟩ := by
  unfold sealB
  split
  · exact .inl rfl
  · split
    · exact .inl rfl
    · split
      · exact .inl rfl
      · exact .inr rfl
theorem SmallN.sealS {N : Nat} {w : Wld} (h : SmallN (N + 1) w) (key label : Int) (p : Prt) : SmallN N (sealW w key label p).1 := by
  unfold sealW
  split
  · exact h.less (by omega)
  · split
    · exact h.less (by omega)
    · have hd := h.draw
      have hl := putP_len label p
      rcases sealB_box w.box (drawnW w) key label (putP label p).1 with e | e
      · refine ⟨?_, ?_, hd.grams, hd.seen, hd.people, hd.log, hd.next⟩
        · show (sealedW w key label p).1.entries.length + N < 1000000
          unfold sealedW; rw [e]; exact hd.ent
        · show ∀ s ∈ (sealedW w key label p).1.entries, _
          unfold sealedW; rw [e]; exact hd.plain
      · refine ⟨?_, ?_, hd.grams, hd.seen, hd.people, hd.log, hd.next⟩
        · show (sealedW w key label p).1.entries.length + N < 1000000
          unfold sealedW; rw [e]; have := h.ent; simp only [List.length_append, List.length_singleton]; omega
        · show ∀ s ∈ (sealedW w key label p).1.entries, _
          unfold sealedW; rw [e]
          intro s hs
          rcases List.mem_append.1 hs with hs | hs
          · exact h.plain s hs
          · rw [List.mem_singleton.1 hs]; show (putP label p).1.length < 1000000; omega
theorem SmallN.with_ {N : Nat} {w : Wld} (h : SmallN N w) (p : Person) : SmallN N (withW w p) := by
  unfold withW
  split
  · exact ⟨h.ent, h.plain, h.grams, h.seen, by show (setPl w.people p).1.length < _; unfold setPl; simp only [List.length_map]; exact h.people, h.log, h.next⟩
  · exact h
theorem SmallN.log_ {N : Nat} {w : Wld} (h : SmallN (N + 1) w) (e : Event) : SmallN N (logW w e) := ⟨by have := h.ent; show w.box.entries.length + N < _; omega, h.plain, by have := h.grams; show w.net.grams.length + N < _; omega, by have := h.seen; show w.net.seen.length + N < _; omega, h.people, by have := h.log; show (w.log ++ [e]).length + N < _; simp only [List.length_append, List.length_singleton]; omega, by have := h.next; show 0 ≤ w.draws.next ∧ w.draws.next + (N : Int) < _; omega⟩
end Go.Proofs.YtokifenilhlgbaaGreatDoor.Abs
end
section
/- The reference of layer ksn, over values without addresses: Grant. -/
set_option linter.unusedSimpArgs false
set_option linter.unusedVariables false
set_option maxRecDepth 100000
namespace Go.Proofs.YtokifenilhlgbaaGreatDoor.Abs
open Go.RowKit
end Go.Proofs.YtokifenilhlgbaaGreatDoor.Abs
end
section
/- Runs that are looked for, and what comes of the messages of layers 15 to 18: plain mathematics. -/
set_option linter.unusedSimpArgs false
set_option linter.unusedVariables false
set_option maxRecDepth 100000
namespace Go.Proofs.YtokifenilhlgbaaGreatDoor.Abs
open Go.RowKit
def freshI (now t w : Int) : Bool := decide (now < 1073741824 ∧ t < 1073741824 ∧ now - t ≤ w ∧ t - now ≤ w)
/-- None is such a one, or the first one is. -/
theorem idx_or {α : Type} (l : List α) (p : α → Bool) : (l.find? p = none ∧ ∀ (j : Nat) (y : α), l[j]? = some y → p y = false) ∨ ∃ (i : Nat) (x : α), l.find? p = some x ∧ l.findIdx p = i ∧ l[i]? = some x ∧ p x = true ∧ ∀ (j : Nat) (y : α), j < i → l[j]? = some y → p y = false := by
  induction l with
  | nil => exact .inl ⟨rfl, fun j y h => by simp at h⟩
  | cons a l ih =>
    cases hp : p a with
    | true => exact .inr ⟨0, a, by simp [hp], by simp [List.findIdx_cons, hp], rfl, hp, fun j y h => by omega⟩
    | false =>
      rcases ih with ⟨h1, h2⟩ | ⟨i, x, h1, h2, h3, h4, h5⟩
      · refine .inl ⟨by simp [hp, h1], fun j y hj => ?_⟩
        cases j with
        | zero => simp at hj; subst hj; exact hp
        | succ j => exact h2 j y (by simpa using hj)
      · refine .inr ⟨i + 1, x, by simp [hp, h1], by simp [List.findIdx_cons, hp, h2], by simpa using h3, h4, fun j y hj hy => ?_⟩
        cases j with
        | zero => simp at hy; subst hy; exact hp
        | succ j => exact h5 j y (by omega) (by simpa using hy)
def withR (w : Wld) (p : Person) (i : Nat) (r : Run) : Wld := withW w { p with runs := p.runs.set i r }
def sentW (w : Wld) (to : Int) (m : Mssg) : Wld := (sendW w to m).1
/-! The initiator with times. -/
/-! The responder with times. -/
def tickP (w : Wld) (me : Int) (m : Mssg) : Prt × Bool := openW w (personW w me).key 3 m.box
def echN (w : Wld) (t : Prt) : Wld × Int × Int := sealW (drawW w) t.k 4 ⟨drawnW w, 0, 0, 0, 0, 0, 0⟩
def tookP (p : Person) (k : Int) (r : Run) : Person := { p with used := p.used ++ [k], runs := p.runs ++ [r] }
def tookN (w : Wld) (me : Int) (t : Prt) : Wld :=
  sentW (logW (withW (echN w t).1 (tookP (personW w me) t.k ⟨1, 2, t.a, drawnW w, 0, 0, t.k, t.t, 2⟩)) ⟨3, 1, 2, t.a, me, t.k, t.t, 0, drawnW w, (personW w me).clock⟩) t.a ⟨4, 0, 0, 0, 0, (echN w t).2.1, 0⟩
def ticketOf (w : Wld) (me : Int) (t : Prt) : Wld × Int :=
  if pairPl w.people t.a me = false then (w, 5) else if freshI (personW w me).clock t.t w.conf.window = false then (w, 7)
  else if mayU (personW w me).used w.conf.used t.k ≠ 0 then (w, mayU (personW w me).used w.conf.used t.k)
  else if w.conf.runs ≤ ((personW w me).runs.length : Int) ∨ roomW w 1 1 = false then (w, 10)
  else if (echN w t).2.2 ≠ 0 then (w, (echN w t).2.2) else (tookN w me t, 0)
def ticketW (w : Wld) (me : Int) (m : Mssg) : Wld × Int := if (tickP w me m).2 = false then (w, 6) else ticketOf w me (tickP w me m).1
def backsN (w : Wld) (m : Mssg) (r : Run) : Bool := r.proto == 1 && (r.role == 2 && (r.state == 2 && ((openW w r.k 5 m.box).2 && (openW w r.k 5 m.box).1.n == r.mine)))
def backW (w : Wld) (me : Int) (m : Mssg) : Wld × Int := match (personW w me).runs.find? (backsN w m) with
  | none => (w, 6)
  | some r => if freshI (personW w me).clock r.t w.conf.window = false then (w, 7)
    else (logW (withR w (personW w me) ((personW w me).runs.findIdx (backsN w m)) { r with state := 3 }) ⟨4, 1, 2, r.peer, me, r.k, r.t, 0, r.mine, (personW w me).clock⟩, 0)
/-! The initiator with an identifier. -/
/-! The responder with an identifier. -/
end Go.Proofs.YtokifenilhlgbaaGreatDoor.Abs
end
section
/- The reference of layer clock, over values without addresses: Fresh. -/
set_option linter.unusedSimpArgs false
set_option linter.unusedVariables false
set_option maxRecDepth 100000
namespace Go.Proofs.YtokifenilhlgbaaGreatDoor.Abs
open Go.RowKit
theorem q05_fresh (now t w : Int) : ACalls Tryz.prog 15 [.one (u32 now), .one (u32 t), .one (u32 w)] (rB (freshI now t w)) := by
  refine ACalls.introF (fn := Tryz.f15) Tryz.func15 rfl rfl (by simp [Tryz.f15]) fun hf => ?_
  have b1 := in_u32 (Fine.int (hf (.one (u32 now)) (by simp)))
  have b2 := in_u32 (Fine.int (hf (.one (u32 t)) (by simp)))
  have b3 := in_u32 (Fine.int (hf (.one (u32 w)) (by simp)))
  clear hf
  unfold Tryz.f15
  simp only [rB]
  have w1 := wrapI (x := now) (by omega) (by omega)
  have w2 := wrapI (x := t) (by omega) (by omega)
  have w3 := wrapI (x := w) (by omega) (by omega)
  have w4 := wrapI (x := now - t) (by omega) (by omega)
  have w5 := wrapI (x := -(now - t)) (by omega) (by omega)
  refine wk4 (And.intro w1 (And.intro w2 (And.intro w3 (And.intro w4 w5)))) trivial trivial _ _ _ _ ?_ ?_ ?_ ?_
  all_goals (repeat intro h)
  all_goals refine ⟨?_⟩
  all_goals (refine rB_eq ?_; simp only [freshI, decide_eq_true_eq, decide_eq_false_iff_not, Bool.false_eq_true, iff_false, false_iff, not_and, not_true_eq_false, true_iff, iff_true] at *; omega)
end Go.Proofs.YtokifenilhlgbaaGreatDoor.Abs
end
section
/- The reference of layer nsa, over values without addresses: With, Start. -/
set_option linter.unusedSimpArgs false
set_option linter.unusedVariables false
set_option maxRecDepth 100000
namespace Go.Proofs.YtokifenilhlgbaaGreatDoor.Abs
open Go.RowKit
set_option maxHeartbeats 4000000 in
theorem q15_with (w : Wld) (p : Person) (i : Nat) (r : Run) (hi : i < p.runs.length) (h : w.people.length < 1000000) (hr : p.runs.length < 1000000) : ACalls Tryz.prog 39 [.agg (eWld w), .agg (ePerson p), .one (i64 i), .agg (eRun r)] (.one (.agg (eWld (withR w p i r)))) := by
  refine ACalls.intro (fn := Tryz.f39) Tryz.func39 rfl rfl (by simp [Tryz.f39]) ?_
  have c1 := q12_with w { p with runs := p.runs.set i r } h
  unfold Tryz.f39
  unfold withR
  generalize withW w { p with runs := p.runs.set i r } = ww at *
  simp only [eWld, ePerson.eq_1, eSealeds, eGrams, ePeople, eEvents, eRows, eWords, eLeaks, eRuns, eRun.eq_1 r, List.map_set] at *
  refine wkx0 hi c1 trivial
end Go.Proofs.YtokifenilhlgbaaGreatDoor.Abs
end
section
/- The landed layer net, over values without addresses. -/
set_option linter.unusedSimpArgs false
set_option linter.unusedVariables false
set_option maxRecDepth 100000
namespace Go.Proofs.YtokifenilhlgbaaGreatDoor.Abs
open Go.RowKit
theorem p06_free (n : Net) : ACalls Tryz.prog 107 [.agg (eNet n)] (rI (IntKind.i64.wrap (n.room - n.grams.length))) := by
  refine ACalls.intro (fn := Tryz.f107) Tryz.func107 rfl rfl (by simp [Tryz.f107]) ?_
  unfold Tryz.f107 eNet eGrams
  simp only [rI]
  refine wk0 trivial trivial trivial
theorem p06_full (n : Net) (hl : n.grams.length < 1000000) (hr : 0 ≤ n.room) : ACalls Tryz.prog 125 [.agg (eNet n)] (rB (decide (n.room ≤ (n.grams.length : Int)))) := by
  refine ACalls.introF (fn := Tryz.f125) Tryz.func125 rfl rfl (by simp [Tryz.f125]) fun hf => ?_
  have hr2 := in_i64 (Fine.int ((hf _ (by simp) : FineCA (.agg (eNet n))) (i64 n.room) (by simp [eNet])))
  have hq := p06_free n
  have hw : IntKind.i64.wrap (n.room - (n.grams.length : Int)) = n.room - (n.grams.length : Int) := wrapI (by omega) (by omega)
  rw [hw] at hq
  unfold Tryz.f125 eNet at *
  simp only [rI, rB] at *
  refine wk1 trivial hq trivial _ ?_
  all_goals (repeat intro h)
  all_goals refine ⟨?_⟩
  congr 4
  rw [decide_eq_decide]
  omega
theorem p06_behind_gram (l : List Gram) (g : Gram) (hl : l.length < 1000000) : ACalls Tryz.prog 126 [.one (eGrams l), .agg (eGram g)] (.one (.one (eGrams (l ++ [g])))) := by
  refine ACalls.intro (fn := Tryz.f126) Tryz.func126 rfl rfl (by simp [Tryz.f126]) ?_
  unfold Tryz.f126 eGrams
  simp only [eGram.eq_1 g]
  refine wk1 trivial trivial trivial _ ?_
  all_goals (repeat intro h)
  all_goals refine ⟨?_⟩
  simp [eGram, eSeen]
theorem p06_behind_seen (l : List (List Int)) (g : List Int) (hl : l.length < 1000000) : ACalls Tryz.prog 127 [.one (eRows l), .one (eWords g)] (.one (.one (eRows (l ++ [g])))) := by
  refine ACalls.intro (fn := Tryz.f127) Tryz.func127 rfl rfl (by simp [Tryz.f127]) ?_
  unfold Tryz.f127 eRows
  simp only []
  refine wk1 trivial trivial trivial _ ?_
  all_goals (repeat intro h)
  all_goals refine ⟨?_⟩
  simp [eGram, eSeen]
theorem p06_send (n : Net) (g : Gram) (hl : n.grams.length < 1000000) (hs : n.seen.length < 1000000) (hr : 0 ≤ n.room) : ACalls Tryz.prog 97 [.agg (eNet n), .agg (eGram g)] (.tup [.agg (eNet (sendN n g).1), .one (i64 (sendN n g).2)]) := by
  refine ACalls.intro (fn := Tryz.f97) Tryz.func97 rfl rfl (by simp [Tryz.f97]) ?_
  have hf := p06_full n hl hr
  have h1 := p06_behind_gram n.grams g hl
  have h2 := p06_behind_seen n.seen g.words hs
  unfold Tryz.f97 eNet eGram at *
  simp only [rB] at *
  refine wk2 trivial (And.intro hf (And.intro h1 h2)) trivial _ _ ?_ ?_
  all_goals (repeat intro h)
  all_goals refine ⟨?_⟩
  · simp [sendN, h]
  · have h' : ¬ n.room ≤ (n.grams.length : Int) := by omega
    simp [sendN, h']
end Go.Proofs.YtokifenilhlgbaaGreatDoor.Abs
end
section
/- The landed box, over values without addresses. -/
set_option linter.unusedSimpArgs false
set_option linter.unusedVariables false
set_option maxRecDepth 100000
namespace Go.Proofs.YtokifenilhlgbaaGreatDoor.Abs
open Go.RowKit
theorem lib_index_sealed (j : Nat) (l : List Sealed) (p : Sealed → Bool) (f : FuncId) (caps : List CV) (hp : ∀ s, ACalls Tryz.prog f (.agg (eSealed s) :: caps.map .one) (rB (p s))) :
    ACalls Tryz.prog 131 [.one (.rowc j (l.map eSealed)), .one (.fn f false [] caps)] (rI (idxOf l p)) := by
  refine ACalls.introF (fn := Tryz.f131) Tryz.func131 rfl rfl (by simp [Tryz.f131]) fun hf => ?_
  have hl := Fine.rowC (hf _ (by simp) : FineCA (.one (.rowc j (l.map eSealed))))
  clear hf
  unfold Tryz.f131
  simp only [rI]
  refine wk1 trivial trivial trivial _ ?_
  all_goals (repeat intro h)
  all_goals refine ⟨?_⟩
  refine AW.loopW (fun n σ => ∃ k : Nat, n = l.length - k ∧ k ≤ l.length ∧ (∀ s ∈ l.take k, p s = false) ∧ σ = ⟨19, upd (upd (upd (upd (fun _ => .junk) 8 (.one (.c (i64 k)))) 7 (.one (.c (i64 l.length)))) 1 (.one (.c (.fn f false [] caps)))) 0 (.one (.c (.rowc j (l.map eSealed)))), fun _ => none⟩) (n := l.length) _ ⟨0, rfl, Nat.zero_le _, by simp, rfl⟩ (by exact lz trivial) ?_
  rintro n σ ⟨k, rfl, hk, ht, rfl⟩
  by_cases hlt : k < l.length
  · obtain ⟨x, hx⟩ : ∃ x, l[k]? = some x := ⟨_, List.getElem?_eq_getElem hlt⟩
    have hs := wrapI (x := (k : Int) + 1) (by omega) (by omega)
    have hq := hp x
    cases hpx : p x
    · rw [hpx] at hq
      simp only [eSealed, rB] at hq
      refine wk1 (And.intro hx (And.intro hlt (And.intro hs eSealed.eq_1))) hq trivial _ ?_
      all_goals (repeat intro h)
      all_goals refine ⟨?_⟩
      refine ⟨l.length - (k + 1), by omega, _, ⟨k + 1, rfl, by omega, idxOf_next ht hx hpx, rfl⟩, ?_⟩
      exact lz trivial
    · rw [hpx] at hq
      simp only [eSealed, rB] at hq
      refine wk1 (And.intro hx (And.intro hlt (And.intro hs eSealed.eq_1))) hq trivial _ ?_
      all_goals (repeat intro h)
      all_goals refine ⟨?_⟩
      rw [idxOf_some ht hx hpx]
  · obtain rfl : k = l.length := by omega
    refine wk1 trivial trivial trivial _ ?_
    all_goals (repeat intro h)
    all_goals refine ⟨?_⟩
    rw [idxOf_none ht]

theorem lib_contains_sealed (j : Nat) (l : List Sealed) (p : Sealed → Bool) (f : FuncId) (caps : List CV) (hp : ∀ s, ACalls Tryz.prog f (.agg (eSealed s) :: caps.map .one) (rB (p s))) :
    ACalls Tryz.prog 112 [.one (.rowc j (l.map eSealed)), .one (.fn f false [] caps)] (rB (l.any p)) := by
  refine ACalls.intro (fn := Tryz.f112) Tryz.func112 rfl rfl (by simp [Tryz.f112]) ?_
  have hq := lib_index_sealed j l p f caps hp
  rw [← idxOf_ge]
  unfold Tryz.f112
  simp only [rI, rB] at *
  refine wk0 trivial hq trivial
theorem p07_pred (s : Sealed) (h : Int) : ACalls Tryz.prog 141 [.agg (eSealed s), .one (.ptrc 0 [u32 h] 0)] (rB (s.handle == h)) := by
  refine ACalls.intro (fn := Tryz.f141) Tryz.func141 rfl rfl (by simp [Tryz.f141]) ?_
  unfold Tryz.f141 eSealed
  simp only [rB]
  refine wk0 trivial trivial trivial
abbrev fnHandle (h : Int) : CV := .fn 141 false [] [.ptrc 0 [u32 h] 0]
theorem p07_of (h : Int) : ACalls Tryz.prog 113 [.one (u32 h)] (.one (.one (fnHandle h))) := by
  refine ACalls.intro (fn := Tryz.f113) Tryz.func113 rfl rfl (by simp [Tryz.f113]) ?_
  unfold Tryz.f113
  simp only [fnHandle]
  refine wk0 trivial trivial trivial
theorem p07_contains (j : Nat) (l : List Sealed) (h : Int) : ACalls Tryz.prog 112 [.one (.rowc j (l.map eSealed)), .one (fnHandle h)] (rB (thereB l h)) :=
  lib_contains_sealed j l (fun s => s.handle == h) _ _ (fun s => p07_pred s h)
theorem p07_index (j : Nat) (l : List Sealed) (h : Int) : ACalls Tryz.prog 131 [.one (.rowc j (l.map eSealed)), .one (fnHandle h)] (rI (idxOf l fun s => s.handle == h)) :=
  lib_index_sealed j l (fun s => s.handle == h) _ _ (fun s => p07_pred s h)
theorem p07_fits (j : Nat) (p : List Int) : ACalls Tryz.prog 111 [.one (.rowc j (p.map eWord))] (rB (decide ((p.length : Int) ≤ 64))) := by
  refine ACalls.intro (fn := Tryz.f111) Tryz.func111 rfl rfl (by simp [Tryz.f111]) ?_
  unfold Tryz.f111
  simp only [rB]
  refine wk0 trivial trivial trivial
theorem p07_free (j : Nat) (b : Box) (h0 : 0 ≤ b.room) (h1 : b.room ≤ 64) (hl : b.entries.length < 1000000) : ACalls Tryz.prog 106 [.agg (eBoxC j b)] (rI (b.room - b.entries.length)) := by
  refine ACalls.intro (fn := Tryz.f106) Tryz.func106 rfl rfl (by simp [Tryz.f106]) ?_
  have hw := wrapI (x := b.room - (b.entries.length : Int)) (by omega) (by omega)
  unfold Tryz.f106 eBoxC
  simp only [rI]
  refine wk0 hw trivial trivial
end Go.Proofs.YtokifenilhlgbaaGreatDoor.Abs
end
section
/- The landed box, over values without addresses: Right. -/
set_option linter.unusedSimpArgs false
set_option linter.unusedVariables false
set_option maxRecDepth 100000
namespace Go.Proofs.YtokifenilhlgbaaGreatDoor.Abs
open Go.RowKit
end Go.Proofs.YtokifenilhlgbaaGreatDoor.Abs
end

