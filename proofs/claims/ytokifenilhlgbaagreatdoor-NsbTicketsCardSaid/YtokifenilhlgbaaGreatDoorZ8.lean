/- Texts that were merged: L07p, P07c, P11a, P11, P12c, Q02, P02. -/
import Derived.Test.YtokifenilhlgbaaGreatDoorZ5
import Derived.Test.YtokifenilhlgbaaGreatDoorZ6
import Derived.Test.YtokifenilhlgbaaGreatDoorZ4
import Derived.Test.YtokifenilhlgbaaGreatDoorZ7
section
/- Boxes that are right: what is found in them. Plain mathematics. -/
set_option linter.unusedSimpArgs false
set_option linter.unusedVariables false
set_option maxRecDepth 100000
namespace Go.Proofs.YtokifenilhlgbaaGreatDoor.Abs
open Go.RowKit
def openP (b : Box) (k l h : Int) : List Int × Bool := match b.entries.find? (fun s => s.handle == h) with
  | some s => if s.key = k ∧ s.label = l then (s.plain, true) else ([], false)
  | none => ([], false)
theorem right_room {b : Box} (h : rightB b = true) : 0 ≤ b.room ∧ b.room ≤ 64 ∧ (b.entries.length : Int) ≤ b.room ∧ entriesOK b.entries := by
  unfold rightB at h
  rw [Bool.and_eq_true] at h
  have := of_decide_eq_true h.1
  exact ⟨this.1, this.2.1, this.2.2, entriesB_iff.1 h.2⟩
theorem right_len {b : Box} (h : rightB b = true) : b.entries.length ≤ 64 ∧ ∀ s ∈ b.entries, s.plain.length ≤ 64 := by
  obtain ⟨h1, h2, h3, h4⟩ := right_room h
  refine ⟨by omega, fun s hs => ?_⟩
  obtain ⟨i, hi, rfl⟩ := List.getElem_of_mem hs
  have := (h4 i _ (List.getElem?_eq_getElem hi)).1
  omega
theorem thereB_iff {l : List Sealed} {h : Int} : thereB l h = true ↔ ∃ s ∈ l, s.handle = h := by
  unfold thereB
  rw [List.any_eq_true]
  simp
theorem thereB_no {l : List Sealed} {h : Int} : thereB l h = false ↔ ∀ s ∈ l, s.handle ≠ h := by
  unfold thereB
  rw [List.any_eq_false]
  simp
/-- No two entries of a right box have one handle. -/
theorem entries_uniq {l : List Sealed} (h : entriesOK l) {i j : Nat} {x y : Sealed} (hx : l[i]? = some x) (hy : l[j]? = some y) (e : x.handle = y.handle) : i = j := by
  have no : ∀ {i j : Nat} {x y : Sealed}, l[i]? = some x → l[j]? = some y → x.handle = y.handle → ¬ i < j := by
    intro i j x y hx hy e hij
    have := thereB_no.1 (h j y hy).2 x (List.mem_iff_getElem?.2 ⟨i, by rw [List.getElem?_take, if_pos hij, hx]⟩)
    exact this e
  have h1 := no hx hy e
  have h2 := no hy hx e.symm
  omega
/-- The entry of a handle, if there is one. -/
theorem entry_found {l : List Sealed} (h : entriesOK l) {s : Sealed} (hs : s ∈ l) : l.find? (fun t => t.handle == s.handle) = some s := by
  obtain ⟨i, hi⟩ := List.mem_iff_getElem?.1 hs
  cases hf : l.find? (fun t => t.handle == s.handle) with
  | none => exact absurd (by simp) (List.find?_eq_none.1 hf s hs)
  | some t =>
    have h1 := List.find?_some hf
    obtain ⟨j, hj⟩ := List.mem_iff_getElem?.1 (List.mem_of_find?_eq_some hf)
    have := entries_uniq h hj hi (by simpa using h1)
    subst this
    rw [hi] at hj; exact hj.symm
theorem openP_none {b : Box} {k l h : Int} (hn : thereB b.entries h = false) : openP b k l h = ([], false) := by
  have : b.entries.find? (fun s => s.handle == h) = none := List.find?_eq_none.2 fun s hs => by simpa using thereB_no.1 hn s hs
  unfold openP; rw [this]
theorem openP_some {b : Box} {k l h : Int} (ho : entriesOK b.entries) {s : Sealed} (hs : s ∈ b.entries) (hh : s.handle = h) : openP b k l h = if s.key = k ∧ s.label = l then (s.plain, true) else ([], false) := by
  have := entry_found ho hs
  unfold openP; rw [← hh, this]
theorem open_eq {b : Box} (hr : rightB b = true) (k l h : Int) : openB b k l h = openP b k l h := by
  obtain ⟨-, -, -, ho⟩ := right_room hr
  cases ht : thereB b.entries h with
  | false =>
    rw [openP_none ht]
    have : b.entries.find? (fun s => s.handle == h && s.key == k && s.label == l) = none := List.find?_eq_none.2 fun s hs => by simp [thereB_no.1 ht s hs]
    unfold openB; rw [this]
  | true =>
    obtain ⟨s, hs, hh⟩ := thereB_iff.1 ht
    rw [openP_some ho hs hh]
    unfold openB
    cases hf : b.entries.find? (fun s => s.handle == h && s.key == k && s.label == l) with
    | none =>
      have := List.find?_eq_none.1 hf s hs
      rw [if_neg fun e => this (by simp [hh, e.1, e.2])]
    | some t =>
      have h1 := List.find?_some hf
      simp only [Bool.and_eq_true, beq_iff_eq] at h1
      obtain ⟨i, hi⟩ := List.mem_iff_getElem?.1 hs
      obtain ⟨j, hj⟩ := List.mem_iff_getElem?.1 (List.mem_of_find?_eq_some hf)
      have := entries_uniq ho hi hj (by rw [hh, h1.1.1])
      subst this
      rw [hi] at hj
      cases hj
      rw [if_pos ⟨h1.1.2, h1.2⟩]
end Go.Proofs.YtokifenilhlgbaaGreatDoor.Abs
end
section
/- The landed box, over values without addresses: Seal, Open. -/
set_option linter.unusedSimpArgs false
set_option linter.unusedVariables false
set_option maxRecDepth 100000
namespace Go.Proofs.YtokifenilhlgbaaGreatDoor.Abs
open Go.RowKit
theorem lib_clone_words (j : Nat) (l : List Int) (hl : l.length ≤ 1000000) : ACalls Tryz.prog 82 [.one (.rowc j (l.map eWord))] (.own 22 1 (l.map eWord)) := by
  refine ACalls.intro (fn := Tryz.f82) Tryz.func82 rfl rfl (by simp [Tryz.f82]) ?_
  unfold Tryz.f82
  simp only []
  cases l with
  | nil =>
    refine AW.empty 0 rfl ?_ ?_
    · refine wk0 trivial trivial trivial
    · refine wk0 trivial trivial trivial
  | cons x l =>
    simp only [List.length_cons] at hl
    refine wk0 trivial trivial trivial

theorem lib_clone_sealed (j : Nat) (l : List Sealed) (hl : l.length ≤ 1000000) : ACalls Tryz.prog 114 [.one (.rowc j (l.map eSealed))] (.own 98 4 (l.map eSealed)) := by
  refine ACalls.intro (fn := Tryz.f114) Tryz.func114 rfl rfl (by simp [Tryz.f114]) ?_
  unfold Tryz.f114
  simp only []
  cases l with
  | nil =>
    refine AW.empty 0 rfl ?_ ?_
    · refine wk0 trivial trivial trivial
    · refine wk0 trivial trivial trivial
  | cons x l =>
    simp only [List.length_cons] at hl
    refine wk0 trivial trivial trivial

/-- A box that Seal answers: of a list that is lent where it is refused. -/
def sealC (j : Nat) (b : Box) (h k l : Int) (p : List Int) : List CV := if (sealB b h k l p).2 = 0 then eBox (sealB b h k l p).1 else eBoxC j b
theorem p07_seal (j jp : Nat) (b : Box) (h k l : Int) (p : List Int) (h0 : 0 ≤ b.room) (h1 : b.room ≤ 64) (hl : b.entries.length < 1000000) (hp : p.length < 1000000) : ACalls Tryz.prog 90 [.agg (eBoxC j b), .one (u32 h), .one (u32 k), .one (u32 l), .one (.rowc jp (p.map eWord))] (.tup [.agg (sealC j b h k l p), .one (i64 (sealB b h k l p).2)]) := by
  refine ACalls.intro (fn := Tryz.f90) Tryz.func90 rfl rfl (by simp [Tryz.f90]) ?_
  have hfi := p07_fits jp p
  have hth := p07_contains j b.entries h
  have hof := p07_of h
  have hfr := p07_free j b h0 h1 hl
  have hcw := lib_clone_words jp p (by omega)
  have hcs := lib_clone_sealed j b.entries (by omega)
  unfold Tryz.f90
  simp only [eBoxC, eBox, eSealeds, eWords, rB, rI] at *
  by_cases g1 : (p.length : Int) ≤ 64
  · have n1 : ¬ (64 < (p.length : Int)) := by omega
    rw [decide_eq_true g1] at hfi
    cases g2 : thereB b.entries h
    · rw [g2] at hth
      by_cases g3 : b.room ≤ (b.entries.length : Int)
      · have e : sealB b h k l p = (b, 10) := by simp [sealB, n1, g2, g3]
        have g4 : b.room - (b.entries.length : Int) < 1 := by omega
        refine wk1 g4 (And.intro hfi (And.intro hof (And.intro hth hfr))) trivial _ ?_
        all_goals (repeat intro h)
        all_goals refine ⟨?_⟩
        simp [sealC, e, eBoxC]
      · have e : sealB b h k l p = (⟨b.room, b.entries ++ [⟨h, k, l, p⟩]⟩, 0) := by simp [sealB, n1, g2, g3]
        have g4 : ¬ (b.room - (b.entries.length : Int) < 1) := by omega
        refine wk1 g4 (And.intro hfi (And.intro hof (And.intro hth (And.intro hfr (And.intro hcw hcs))))) trivial _ ?_
        all_goals (repeat intro h)
        all_goals refine ⟨?_⟩
        simp [sealC, e, eBox, eSealeds, eSealed, eWords]
    · rw [g2] at hth
      have e : sealB b h k l p = (b, 8) := by simp [sealB, n1, g2]
      refine wk1 trivial (And.intro hfi (And.intro hof hth)) trivial _ ?_
      all_goals (repeat intro h)
      all_goals refine ⟨?_⟩
      simp [sealC, e, eBoxC]
  · have n1 : 64 < (p.length : Int) := by omega
    rw [decide_eq_false g1] at hfi
    have e : sealB b h k l p = (b, 3) := by simp [sealB, n1]
    refine wk1 trivial hfi trivial _ ?_
    all_goals (repeat intro h)
    all_goals refine ⟨?_⟩
    simp [sealC, e, eBoxC]
theorem p07_open (b : Box) (kk ll hh : Int) (hs : ∀ s ∈ b.entries, s.plain.length < 1000000) : ACalls Tryz.prog 102 [.agg (eBox b), .one (u32 kk), .one (u32 ll), .one (u32 hh)] (.tup [.one (eWords (openP b kk ll hh).1), .one (bl (openP b kk ll hh).2)]) := by
  refine ACalls.intro (fn := Tryz.f102) Tryz.func102 rfl rfl (by simp [Tryz.f102]) ?_
  have hof := p07_of hh
  have hix := p07_index 0 b.entries hh
  unfold Tryz.f102
  simp only [eBox, eSealeds, eWords, rI] at *
  rcases idxOf_cases b.entries (fun s => s.handle == hh) with ⟨hi, hf⟩ | ⟨k, x, hi, hx, hlt, hp, hf⟩
  · rw [hi] at hix
    refine wk1 trivial (And.intro hof hix) trivial _ ?_
    all_goals (repeat intro h)
    all_goals refine ⟨?_⟩
    simp [openP, hf]
  · rw [hi] at hix
    have hpl := hs x (List.mem_of_getElem? hx)
    have hcw := lib_clone_words 0 x.plain (by omega)
    have hk0 : ¬ ((k : Int) < 0) := by omega
    by_cases h1 : x.key = kk
    · have d1 : (x.key != kk) = false := by simp [h1]
      by_cases h2 : x.label = ll
      · have d2 : (x.label != ll) = false := by simp [h2]
        refine wk1 (And.intro hx (And.intro hlt (And.intro hk0 (And.intro d1 (And.intro d2 (And.intro eSealed.eq_1 eWords.eq_1)))))) (And.intro hof (And.intro hix hcw)) trivial _ ?_
        all_goals (repeat intro h)
        all_goals refine ⟨?_⟩
        simp [openP, hf, h1, h2]
      · have d2 : (x.label != ll) = true := by simp [h2]
        refine wk1 (And.intro hx (And.intro hlt (And.intro hk0 (And.intro d1 (And.intro d2 (And.intro eSealed.eq_1 eWords.eq_1)))))) (And.intro hof hix) trivial _ ?_
        all_goals (repeat intro h)
        all_goals refine ⟨?_⟩
        simp [openP, hf, h1, h2]
    · have d1 : (x.key != kk) = true := by simp [h1]
      refine wk1 (And.intro hx (And.intro hlt (And.intro hk0 (And.intro d1 (And.intro eSealed.eq_1 eWords.eq_1))))) (And.intro hof hix) trivial _ ?_
      all_goals (repeat intro h)
      all_goals refine ⟨?_⟩
      simp [openP, hf, h1]
end Go.Proofs.YtokifenilhlgbaaGreatDoor.Abs
end
section
/- The landed part: a map of closures. -/
set_option linter.unusedSimpArgs false
set_option linter.unusedVariables false
set_option maxRecDepth 100000
namespace Go.Proofs.YtokifenilhlgbaaGreatDoor.Abs
open Go.RowKit
abbrev rawV (b off : Nat) : CV := .v (.pointer (some ⟨b, off, none⟩))
abbrev plc (f : FuncId) : CV := .fn f false [] []
/-- What each label has: who tells where its words are. -/
abbrev atsV : List (List CV) := [[.row [[plc 134], [plc 137], [plc 138], [plc 139], [plc 140]]], [.row [[plc 138], [plc 136], [plc 139]]], [.row [[plc 134]]], [.row [[plc 134]]], [.row [[plc 134], [plc 135], [plc 136], [plc 137]]], [.row [[plc 134], [plc 135], [plc 136], [plc 137]]], [.row [[plc 134], [plc 138]]], [.row [[plc 134], [plc 138]]]]
abbrev labsV : List Value := [.int .u32 2, .int .u32 3, .int .u32 4, .int .u32 5, .int .u32 6, .int .u32 7, .int .u32 8, .int .u32 9]
theorem p11_wn (b : Nat) : ACalls Tryz.prog 134 [.one (rawV b 0)] (.one (.one (rawV b 0))) := by
  refine ACalls.intro (fn := Tryz.f134) Tryz.func134 rfl rfl (by simp [Tryz.f134]) ?_
  unfold Tryz.f134
  simp only [rawV]
  refine wk0 trivial trivial trivial
theorem p11_wm (b : Nat) : ACalls Tryz.prog 135 [.one (rawV b 0)] (.one (.one (rawV b 1))) := by
  refine ACalls.intro (fn := Tryz.f135) Tryz.func135 rfl rfl (by simp [Tryz.f135]) ?_
  unfold Tryz.f135
  simp only [rawV]
  refine wk0 trivial trivial trivial
theorem p11_wa (b : Nat) : ACalls Tryz.prog 136 [.one (rawV b 0)] (.one (.one (rawV b 2))) := by
  refine ACalls.intro (fn := Tryz.f136) Tryz.func136 rfl rfl (by simp [Tryz.f136]) ?_
  unfold Tryz.f136
  simp only [rawV]
  refine wk0 trivial trivial trivial
theorem p11_wb (b : Nat) : ACalls Tryz.prog 137 [.one (rawV b 0)] (.one (.one (rawV b 3))) := by
  refine ACalls.intro (fn := Tryz.f137) Tryz.func137 rfl rfl (by simp [Tryz.f137]) ?_
  unfold Tryz.f137
  simp only [rawV]
  refine wk0 trivial trivial trivial
theorem p11_wk (b : Nat) : ACalls Tryz.prog 138 [.one (rawV b 0)] (.one (.one (rawV b 4))) := by
  refine ACalls.intro (fn := Tryz.f138) Tryz.func138 rfl rfl (by simp [Tryz.f138]) ?_
  unfold Tryz.f138
  simp only [rawV]
  refine wk0 trivial trivial trivial
theorem p11_wt (b : Nat) : ACalls Tryz.prog 139 [.one (rawV b 0)] (.one (.one (rawV b 5))) := by
  refine ACalls.intro (fn := Tryz.f139) Tryz.func139 rfl rfl (by simp [Tryz.f139]) ?_
  unfold Tryz.f139
  simp only [rawV]
  refine wk0 trivial trivial trivial
theorem p11_wh (b : Nat) : ACalls Tryz.prog 140 [.one (rawV b 0)] (.one (.one (rawV b 6))) := by
  refine ACalls.intro (fn := Tryz.f140) Tryz.func140 rfl rfl (by simp [Tryz.f140]) ?_
  unfold Tryz.f140
  simp only [rawV]
  refine wk0 trivial trivial trivial
theorem p11_places : ACalls Tryz.prog 110 [] (.one (.one (.mapc false labsV atsV))) := by
  refine ACalls.intro (fn := Tryz.f110) Tryz.func110 rfl rfl (by simp [Tryz.f110]) ?_
  unfold Tryz.f110
  simp only [plc, labsV, atsV]
  refine wk0 trivial trivial trivial
set_option maxHeartbeats 4000000 in
theorem p11_may2 (p : Prt) : ACalls Tryz.prog 109 [.one (u32 2), .agg (ePrt p)] (rB (mayP 2 p)) := by
  refine ACalls.intro (fn := Tryz.f109) Tryz.func109 rfl rfl (by simp [Tryz.f109]) ?_
  have hpl := p11_places
  have heq := eqok_prt
  rw [show mayP 2 p = (p.m == 0 && p.a == 0) from by obtain ⟨p1, p2, p3, p4, p5, p6, p7⟩ := p; rw [mayP, Bool.eq_iff_iff]; simp [getP, wordsP, sizeP, fillP]; try (constructor <;> intro h <;> simp_all [eq_comm])]
  unfold Tryz.f109
  simp only [rB, ePrt, plc, rawV, labsV, atsV] at *
  refine wk1 trivial hpl (@AW.halt 4) _ ?_
  all_goals (repeat intro h)
  all_goals refine ⟨?_⟩
  refine AWs.mk (AW.name 3 rfl ?_ ?_ fun b1 hb1 => ?_)
  · simp only [go_sem, ↓reduceIte]
  · intro b; simp only [go_sem, ↓reduceIte]
  clear hb1
  refine AW.lessW ⟨30, (upd (upd (fun _ => .junk) 3 (.one (.c (rawV b1 0)))) 5 (.one (.c (.row [[plc 134], [plc 137], [plc 138], [plc 139], [plc 140]])))), (upd (fun _ => none) (1000000+b1) (some (.obox [u32 p.n, u32 p.m, u32 p.a, u32 p.b, u32 p.k, u32 p.t, u32 p.h])))⟩ (by exact lz trivial) ?_
  simp only [rawV, plc]
  have i1 : IntKind.i64.wrap (0 + 1) = 1 := by decide
  have i2 : IntKind.i64.wrap (1 + 1) = 2 := by decide
  have i3 : IntKind.i64.wrap (2 + 1) = 3 := by decide
  have i4 : IntKind.i64.wrap (3 + 1) = 4 := by decide
  have i5 : IntKind.i64.wrap (4 + 1) = 5 := by decide
  have hwb := p11_wb b1
  have hwh := p11_wh b1
  have hwk := p11_wk b1
  have hwn := p11_wn b1
  have hwt := p11_wt b1
  simp only [rawV] at *
  refine wk1 trivial trivial trivial _ ?_
  all_goals (repeat intro h)
  all_goals refine ⟨?_⟩
  refine AW.unroll 5 ?_
  refine wk0 (And.intro i1 (And.intro i2 (And.intro i3 (And.intro i4 (And.intro i5 heq))))) (And.intro hwb (And.intro hwh (And.intro hwk (And.intro hwn hwt)))) trivial
  all_goals simp only [Bool.and_assoc]
set_option maxHeartbeats 4000000 in
theorem p11_may3 (p : Prt) : ACalls Tryz.prog 109 [.one (u32 3), .agg (ePrt p)] (rB (mayP 3 p)) := by
  refine ACalls.intro (fn := Tryz.f109) Tryz.func109 rfl rfl (by simp [Tryz.f109]) ?_
  have hpl := p11_places
  have heq := eqok_prt
  rw [show mayP 3 p = (p.n == 0 && p.m == 0 && p.b == 0 && p.h == 0) from by obtain ⟨p1, p2, p3, p4, p5, p6, p7⟩ := p; rw [mayP, Bool.eq_iff_iff]; simp [getP, wordsP, sizeP, fillP]; try (constructor <;> intro h <;> simp_all [eq_comm])]
  unfold Tryz.f109
  simp only [rB, ePrt, plc, rawV, labsV, atsV] at *
  refine wk1 trivial hpl (@AW.halt 4) _ ?_
  all_goals (repeat intro h)
  all_goals refine ⟨?_⟩
  refine AWs.mk (AW.name 3 rfl ?_ ?_ fun b1 hb1 => ?_)
  · simp only [go_sem, ↓reduceIte]
  · intro b; simp only [go_sem, ↓reduceIte]
  clear hb1
  refine AW.lessW ⟨30, (upd (upd (fun _ => .junk) 3 (.one (.c (rawV b1 0)))) 5 (.one (.c (.row [[plc 138], [plc 136], [plc 139]])))), (upd (fun _ => none) (1000000+b1) (some (.obox [u32 p.n, u32 p.m, u32 p.a, u32 p.b, u32 p.k, u32 p.t, u32 p.h])))⟩ (by exact lz trivial) ?_
  simp only [rawV, plc]
  have i1 : IntKind.i64.wrap (0 + 1) = 1 := by decide
  have i2 : IntKind.i64.wrap (1 + 1) = 2 := by decide
  have i3 : IntKind.i64.wrap (2 + 1) = 3 := by decide
  have i4 : IntKind.i64.wrap (3 + 1) = 4 := by decide
  have i5 : IntKind.i64.wrap (4 + 1) = 5 := by decide
  have hwa := p11_wa b1
  have hwk := p11_wk b1
  have hwt := p11_wt b1
  simp only [rawV] at *
  refine wk1 trivial trivial trivial _ ?_
  all_goals (repeat intro h)
  all_goals refine ⟨?_⟩
  refine AW.unroll 3 ?_
  refine wk1 (And.intro i1 (And.intro i2 (And.intro i3 heq))) (And.intro hwa (And.intro hwk hwt)) trivial _ ?_
  all_goals (repeat intro h)
  all_goals refine ⟨?_⟩
  all_goals simp only [Bool.and_assoc]
set_option maxHeartbeats 4000000 in
theorem p11_may4 (p : Prt) : ACalls Tryz.prog 109 [.one (u32 4), .agg (ePrt p)] (rB (mayP 4 p)) := by
  refine ACalls.intro (fn := Tryz.f109) Tryz.func109 rfl rfl (by simp [Tryz.f109]) ?_
  have hpl := p11_places
  have heq := eqok_prt
  rw [show mayP 4 p = (p.m == 0 && p.a == 0 && p.b == 0 && p.k == 0 && p.t == 0 && p.h == 0) from by obtain ⟨p1, p2, p3, p4, p5, p6, p7⟩ := p; rw [mayP, Bool.eq_iff_iff]; simp [getP, wordsP, sizeP, fillP]; try (constructor <;> intro h <;> simp_all [eq_comm])]
  unfold Tryz.f109
  simp only [rB, ePrt, plc, rawV, labsV, atsV] at *
  refine wk1 trivial hpl (@AW.halt 4) _ ?_
  all_goals (repeat intro h)
  all_goals refine ⟨?_⟩
  refine AWs.mk (AW.name 3 rfl ?_ ?_ fun b1 hb1 => ?_)
  · simp only [go_sem, ↓reduceIte]
  · intro b; simp only [go_sem, ↓reduceIte]
  clear hb1
  refine AW.lessW ⟨30, (upd (upd (fun _ => .junk) 3 (.one (.c (rawV b1 0)))) 5 (.one (.c (.row [[plc 134]])))), (upd (fun _ => none) (1000000+b1) (some (.obox [u32 p.n, u32 p.m, u32 p.a, u32 p.b, u32 p.k, u32 p.t, u32 p.h])))⟩ (by exact lz trivial) ?_
  simp only [rawV, plc]
  have i1 : IntKind.i64.wrap (0 + 1) = 1 := by decide
  have i2 : IntKind.i64.wrap (1 + 1) = 2 := by decide
  have i3 : IntKind.i64.wrap (2 + 1) = 3 := by decide
  have i4 : IntKind.i64.wrap (3 + 1) = 4 := by decide
  have i5 : IntKind.i64.wrap (4 + 1) = 5 := by decide
  have hwn := p11_wn b1
  simp only [rawV] at *
  refine wk1 trivial trivial trivial _ ?_
  all_goals (repeat intro h)
  all_goals refine ⟨?_⟩
  refine AW.unroll 1 ?_
  refine wk1 (And.intro i1 heq) hwn trivial _ ?_
  all_goals (repeat intro h)
  all_goals refine ⟨?_⟩
  all_goals simp only [Bool.and_assoc]
set_option maxHeartbeats 4000000 in
theorem p11_may5 (p : Prt) : ACalls Tryz.prog 109 [.one (u32 5), .agg (ePrt p)] (rB (mayP 5 p)) := by
  refine ACalls.intro (fn := Tryz.f109) Tryz.func109 rfl rfl (by simp [Tryz.f109]) ?_
  have hpl := p11_places
  have heq := eqok_prt
  rw [show mayP 5 p = (p.m == 0 && p.a == 0 && p.b == 0 && p.k == 0 && p.t == 0 && p.h == 0) from by obtain ⟨p1, p2, p3, p4, p5, p6, p7⟩ := p; rw [mayP, Bool.eq_iff_iff]; simp [getP, wordsP, sizeP, fillP]; try (constructor <;> intro h <;> simp_all [eq_comm])]
  unfold Tryz.f109
  simp only [rB, ePrt, plc, rawV, labsV, atsV] at *
  refine wk1 trivial hpl (@AW.halt 4) _ ?_
  all_goals (repeat intro h)
  all_goals refine ⟨?_⟩
  refine AWs.mk (AW.name 3 rfl ?_ ?_ fun b1 hb1 => ?_)
  · simp only [go_sem, ↓reduceIte]
  · intro b; simp only [go_sem, ↓reduceIte]
  clear hb1
  refine AW.lessW ⟨30, (upd (upd (fun _ => .junk) 3 (.one (.c (rawV b1 0)))) 5 (.one (.c (.row [[plc 134]])))), (upd (fun _ => none) (1000000+b1) (some (.obox [u32 p.n, u32 p.m, u32 p.a, u32 p.b, u32 p.k, u32 p.t, u32 p.h])))⟩ (by exact lz trivial) ?_
  simp only [rawV, plc]
  have i1 : IntKind.i64.wrap (0 + 1) = 1 := by decide
  have i2 : IntKind.i64.wrap (1 + 1) = 2 := by decide
  have i3 : IntKind.i64.wrap (2 + 1) = 3 := by decide
  have i4 : IntKind.i64.wrap (3 + 1) = 4 := by decide
  have i5 : IntKind.i64.wrap (4 + 1) = 5 := by decide
  have hwn := p11_wn b1
  simp only [rawV] at *
  refine wk1 trivial trivial trivial _ ?_
  all_goals (repeat intro h)
  all_goals refine ⟨?_⟩
  refine AW.unroll 1 ?_
  refine wk1 (And.intro i1 heq) hwn trivial _ ?_
  all_goals (repeat intro h)
  all_goals refine ⟨?_⟩
  all_goals simp only [Bool.and_assoc]
set_option maxHeartbeats 4000000 in
theorem p11_may6 (p : Prt) : ACalls Tryz.prog 109 [.one (u32 6), .agg (ePrt p)] (rB (mayP 6 p)) := by
  refine ACalls.intro (fn := Tryz.f109) Tryz.func109 rfl rfl (by simp [Tryz.f109]) ?_
  have hpl := p11_places
  have heq := eqok_prt
  rw [show mayP 6 p = (p.k == 0 && p.t == 0 && p.h == 0) from by obtain ⟨p1, p2, p3, p4, p5, p6, p7⟩ := p; rw [mayP, Bool.eq_iff_iff]; simp [getP, wordsP, sizeP, fillP]; try (constructor <;> intro h <;> simp_all [eq_comm])]
  unfold Tryz.f109
  simp only [rB, ePrt, plc, rawV, labsV, atsV] at *
  refine wk1 trivial hpl (@AW.halt 4) _ ?_
  all_goals (repeat intro h)
  all_goals refine ⟨?_⟩
  refine AWs.mk (AW.name 3 rfl ?_ ?_ fun b1 hb1 => ?_)
  · simp only [go_sem, ↓reduceIte]
  · intro b; simp only [go_sem, ↓reduceIte]
  clear hb1
  refine AW.lessW ⟨30, (upd (upd (fun _ => .junk) 3 (.one (.c (rawV b1 0)))) 5 (.one (.c (.row [[plc 134], [plc 135], [plc 136], [plc 137]])))), (upd (fun _ => none) (1000000+b1) (some (.obox [u32 p.n, u32 p.m, u32 p.a, u32 p.b, u32 p.k, u32 p.t, u32 p.h])))⟩ (by exact lz trivial) ?_
  simp only [rawV, plc]
  have i1 : IntKind.i64.wrap (0 + 1) = 1 := by decide
  have i2 : IntKind.i64.wrap (1 + 1) = 2 := by decide
  have i3 : IntKind.i64.wrap (2 + 1) = 3 := by decide
  have i4 : IntKind.i64.wrap (3 + 1) = 4 := by decide
  have i5 : IntKind.i64.wrap (4 + 1) = 5 := by decide
  have hwa := p11_wa b1
  have hwb := p11_wb b1
  have hwm := p11_wm b1
  have hwn := p11_wn b1
  simp only [rawV] at *
  refine wk1 trivial trivial trivial _ ?_
  all_goals (repeat intro h)
  all_goals refine ⟨?_⟩
  refine AW.unroll 4 ?_
  refine wk1 (And.intro i1 (And.intro i2 (And.intro i3 (And.intro i4 heq)))) (And.intro hwa (And.intro hwb (And.intro hwm hwn))) trivial _ ?_
  all_goals (repeat intro h)
  all_goals refine ⟨?_⟩
  all_goals simp only [Bool.and_assoc]
set_option maxHeartbeats 4000000 in
theorem p11_may7 (p : Prt) : ACalls Tryz.prog 109 [.one (u32 7), .agg (ePrt p)] (rB (mayP 7 p)) := by
  refine ACalls.intro (fn := Tryz.f109) Tryz.func109 rfl rfl (by simp [Tryz.f109]) ?_
  have hpl := p11_places
  have heq := eqok_prt
  rw [show mayP 7 p = (p.k == 0 && p.t == 0 && p.h == 0) from by obtain ⟨p1, p2, p3, p4, p5, p6, p7⟩ := p; rw [mayP, Bool.eq_iff_iff]; simp [getP, wordsP, sizeP, fillP]; try (constructor <;> intro h <;> simp_all [eq_comm])]
  unfold Tryz.f109
  simp only [rB, ePrt, plc, rawV, labsV, atsV] at *
  refine wk1 trivial hpl (@AW.halt 4) _ ?_
  all_goals (repeat intro h)
  all_goals refine ⟨?_⟩
  refine AWs.mk (AW.name 3 rfl ?_ ?_ fun b1 hb1 => ?_)
  · simp only [go_sem, ↓reduceIte]
  · intro b; simp only [go_sem, ↓reduceIte]
  clear hb1
  refine AW.lessW ⟨30, (upd (upd (fun _ => .junk) 3 (.one (.c (rawV b1 0)))) 5 (.one (.c (.row [[plc 134], [plc 135], [plc 136], [plc 137]])))), (upd (fun _ => none) (1000000+b1) (some (.obox [u32 p.n, u32 p.m, u32 p.a, u32 p.b, u32 p.k, u32 p.t, u32 p.h])))⟩ (by exact lz trivial) ?_
  simp only [rawV, plc]
  have i1 : IntKind.i64.wrap (0 + 1) = 1 := by decide
  have i2 : IntKind.i64.wrap (1 + 1) = 2 := by decide
  have i3 : IntKind.i64.wrap (2 + 1) = 3 := by decide
  have i4 : IntKind.i64.wrap (3 + 1) = 4 := by decide
  have i5 : IntKind.i64.wrap (4 + 1) = 5 := by decide
  have hwa := p11_wa b1
  have hwb := p11_wb b1
  have hwm := p11_wm b1
  have hwn := p11_wn b1
  simp only [rawV] at *
  refine wk1 trivial trivial trivial _ ?_
  all_goals (repeat intro h)
  all_goals refine ⟨?_⟩
  refine AW.unroll 4 ?_
  refine wk1 (And.intro i1 (And.intro i2 (And.intro i3 (And.intro i4 heq)))) (And.intro hwa (And.intro hwb (And.intro hwm hwn))) trivial _ ?_
  all_goals (repeat intro h)
  all_goals refine ⟨?_⟩
  all_goals simp only [Bool.and_assoc]
set_option maxHeartbeats 4000000 in
theorem p11_may8 (p : Prt) : ACalls Tryz.prog 109 [.one (u32 8), .agg (ePrt p)] (rB (mayP 8 p)) := by
  refine ACalls.intro (fn := Tryz.f109) Tryz.func109 rfl rfl (by simp [Tryz.f109]) ?_
  have hpl := p11_places
  have heq := eqok_prt
  rw [show mayP 8 p = (p.m == 0 && p.a == 0 && p.b == 0 && p.t == 0 && p.h == 0) from by obtain ⟨p1, p2, p3, p4, p5, p6, p7⟩ := p; rw [mayP, Bool.eq_iff_iff]; simp [getP, wordsP, sizeP, fillP]; try (constructor <;> intro h <;> simp_all [eq_comm])]
  unfold Tryz.f109
  simp only [rB, ePrt, plc, rawV, labsV, atsV] at *
  refine wk1 trivial hpl (@AW.halt 4) _ ?_
  all_goals (repeat intro h)
  all_goals refine ⟨?_⟩
  refine AWs.mk (AW.name 3 rfl ?_ ?_ fun b1 hb1 => ?_)
  · simp only [go_sem, ↓reduceIte]
  · intro b; simp only [go_sem, ↓reduceIte]
  clear hb1
  refine AW.lessW ⟨30, (upd (upd (fun _ => .junk) 3 (.one (.c (rawV b1 0)))) 5 (.one (.c (.row [[plc 134], [plc 138]])))), (upd (fun _ => none) (1000000+b1) (some (.obox [u32 p.n, u32 p.m, u32 p.a, u32 p.b, u32 p.k, u32 p.t, u32 p.h])))⟩ (by exact lz trivial) ?_
  simp only [rawV, plc]
  have i1 : IntKind.i64.wrap (0 + 1) = 1 := by decide
  have i2 : IntKind.i64.wrap (1 + 1) = 2 := by decide
  have i3 : IntKind.i64.wrap (2 + 1) = 3 := by decide
  have i4 : IntKind.i64.wrap (3 + 1) = 4 := by decide
  have i5 : IntKind.i64.wrap (4 + 1) = 5 := by decide
  have hwk := p11_wk b1
  have hwn := p11_wn b1
  simp only [rawV] at *
  refine wk1 trivial trivial trivial _ ?_
  all_goals (repeat intro h)
  all_goals refine ⟨?_⟩
  refine AW.unroll 2 ?_
  refine wk1 (And.intro i1 (And.intro i2 heq)) (And.intro hwk hwn) trivial _ ?_
  all_goals (repeat intro h)
  all_goals refine ⟨?_⟩
  all_goals simp only [Bool.and_assoc]
set_option maxHeartbeats 4000000 in
theorem p11_may9 (p : Prt) : ACalls Tryz.prog 109 [.one (u32 9), .agg (ePrt p)] (rB (mayP 9 p)) := by
  refine ACalls.intro (fn := Tryz.f109) Tryz.func109 rfl rfl (by simp [Tryz.f109]) ?_
  have hpl := p11_places
  have heq := eqok_prt
  rw [show mayP 9 p = (p.m == 0 && p.a == 0 && p.b == 0 && p.t == 0 && p.h == 0) from by obtain ⟨p1, p2, p3, p4, p5, p6, p7⟩ := p; rw [mayP, Bool.eq_iff_iff]; simp [getP, wordsP, sizeP, fillP]; try (constructor <;> intro h <;> simp_all [eq_comm])]
  unfold Tryz.f109
  simp only [rB, ePrt, plc, rawV, labsV, atsV] at *
  refine wk1 trivial hpl (@AW.halt 4) _ ?_
  all_goals (repeat intro h)
  all_goals refine ⟨?_⟩
  refine AWs.mk (AW.name 3 rfl ?_ ?_ fun b1 hb1 => ?_)
  · simp only [go_sem, ↓reduceIte]
  · intro b; simp only [go_sem, ↓reduceIte]
  clear hb1
  refine AW.lessW ⟨30, (upd (upd (fun _ => .junk) 3 (.one (.c (rawV b1 0)))) 5 (.one (.c (.row [[plc 134], [plc 138]])))), (upd (fun _ => none) (1000000+b1) (some (.obox [u32 p.n, u32 p.m, u32 p.a, u32 p.b, u32 p.k, u32 p.t, u32 p.h])))⟩ (by exact lz trivial) ?_
  simp only [rawV, plc]
  have i1 : IntKind.i64.wrap (0 + 1) = 1 := by decide
  have i2 : IntKind.i64.wrap (1 + 1) = 2 := by decide
  have i3 : IntKind.i64.wrap (2 + 1) = 3 := by decide
  have i4 : IntKind.i64.wrap (3 + 1) = 4 := by decide
  have i5 : IntKind.i64.wrap (4 + 1) = 5 := by decide
  have hwk := p11_wk b1
  have hwn := p11_wn b1
  simp only [rawV] at *
  refine wk1 trivial trivial trivial _ ?_
  all_goals (repeat intro h)
  all_goals refine ⟨?_⟩
  refine AW.unroll 2 ?_
  refine wk1 (And.intro i1 (And.intro i2 heq)) (And.intro hwk hwn) trivial _ ?_
  all_goals (repeat intro h)
  all_goals refine ⟨?_⟩
  all_goals simp only [Bool.and_assoc]
theorem p11_may (x : Int) (p : Prt) : ACalls Tryz.prog 109 [.one (u32 x), .agg (ePrt p)] (rB (mayP x p)) := by
  rcases label_cases x with rfl | rfl | rfl | rfl | rfl | rfl | rfl | rfl | h
  · exact p11_may2 p
  · exact p11_may3 p
  · exact p11_may4 p
  · exact p11_may5 p
  · exact p11_may6 p
  · exact p11_may7 p
  · exact p11_may8 p
  · exact p11_may9 p
  rw [show mayP x p = false from by rw [mayP, getP, if_pos h]; simp]
  refine ACalls.intro (fn := Tryz.f109) Tryz.func109 rfl rfl (by simp [Tryz.f109]) ?_
  have hpl := p11_places
  have h2 : (x == 2) = false := beq_eq_false_iff_ne.2 (by omega)
  have h3 : (x == 3) = false := beq_eq_false_iff_ne.2 (by omega)
  have h4 : (x == 4) = false := beq_eq_false_iff_ne.2 (by omega)
  have h5 : (x == 5) = false := beq_eq_false_iff_ne.2 (by omega)
  have h6 : (x == 6) = false := beq_eq_false_iff_ne.2 (by omega)
  have h7 : (x == 7) = false := beq_eq_false_iff_ne.2 (by omega)
  have h8 : (x == 8) = false := beq_eq_false_iff_ne.2 (by omega)
  have h9 : (x == 9) = false := beq_eq_false_iff_ne.2 (by omega)
  unfold Tryz.f109
  simp only [rB, ePrt, plc, rawV, labsV, atsV] at *
  refine wk0 (And.intro h2 (And.intro h3 (And.intro h4 (And.intro h5 (And.intro h6 (And.intro h7 (And.intro h8 h9))))))) hpl trivial
end Go.Proofs.YtokifenilhlgbaaGreatDoor.Abs
end
section
/- The landed part: Put and Get. -/
set_option linter.unusedSimpArgs false
set_option linter.unusedVariables false
set_option maxRecDepth 100000
namespace Go.Proofs.YtokifenilhlgbaaGreatDoor.Abs
open Go.RowKit
theorem Unr.less {P : Program} {c : Code} {σ : St} (σ' : St) {Q : Exit → St → Prop} {n : Nat} (hl : Less σ σ') (h : Unr P c Q n σ') : Unr P c Q n σ := by
  cases n with
  | zero => exact AW.lessW σ' hl h
  | succ n => exact AW.lessW σ' hl h
section
attribute [local irreducible] Unr
set_option maxHeartbeats 4000000 in
theorem p11_puts2 (p : Prt) (h : mayP 2 p = true) : ACalls Tryz.prog 89 [.one (u32 2), .agg (ePrt p)] (.tup [.one (.row ((wordsP 2 p).map eWord)), .one (i64 0)]) := by
  refine ACalls.intro (fn := Tryz.f89) Tryz.func89 rfl rfl (by simp [Tryz.f89]) ?_
  have hpl := p11_places
  have hm := p11_may 2 p
  rw [h] at hm
  rw [show (wordsP 2 p).map eWord = [[u32 p.n], [u32 p.b], [u32 p.k], [u32 p.t], [u32 p.h]] from rfl]
  unfold Tryz.f89
  simp only [rB, ePrt, plc, rawV, labsV, atsV] at *
  refine wk1 trivial (And.intro hpl hm) (@AW.halt 4) _ ?_
  all_goals (repeat intro h)
  all_goals refine ⟨?_⟩
  refine AWs.mk (AW.name 3 rfl ?_ ?_ fun b1 hb1 => ?_)
  · simp only [go_sem, ↓reduceIte]
  · intro b; simp only [go_sem, ↓reduceIte]
  clear hb1
  refine AW.lessW ⟨30, (upd (upd (upd (fun _ => .junk) 0 (.one (.c (u32 2)))) 3 (.one (.c (rawV b1 0)))) 6 (.one .nil)), (upd (fun _ => none) (1000000+b1) (some (.obox [u32 p.n, u32 p.m, u32 p.a, u32 p.b, u32 p.k, u32 p.t, u32 p.h])))⟩ (by exact lz trivial) ?_
  simp only [rawV, plc]
  have i1 : IntKind.i64.wrap (0 + 1) = 1 := by decide
  have i2 : IntKind.i64.wrap (1 + 1) = 2 := by decide
  have i3 : IntKind.i64.wrap (2 + 1) = 3 := by decide
  have i4 : IntKind.i64.wrap (3 + 1) = 4 := by decide
  have i5 : IntKind.i64.wrap (4 + 1) = 5 := by decide
  have hwb := p11_wb b1
  have hwh := p11_wh b1
  have hwk := p11_wk b1
  have hwn := p11_wn b1
  have hwt := p11_wt b1
  simp only [rawV] at *
  refine wk1 trivial hpl trivial _ ?_
  all_goals (repeat intro h)
  all_goals refine ⟨?_⟩
  refine AW.unroll 5 ?_
  refine Unr.step ?_
  refine wk1 (And.intro i1 (And.intro i2 (And.intro i3 (And.intro i4 i5)))) (And.intro hwb (And.intro hwh (And.intro hwk (And.intro hwn hwt)))) trivial _ ?_
  all_goals (repeat intro h)
  all_goals refine ⟨?_⟩
  refine Unr.less ⟨30, (upd (upd (upd (upd (upd (fun _ => .junk) 3 (.one (.c (rawV b1 0)))) 6 (.one (.own 27 1))) 15 (.one (.c (.row [[plc 134], [plc 137], [plc 138], [plc 139], [plc 140]])))) 16 (.one (.c (i64 ((5 : Nat) : Int))))) 17 (.one (.c (i64 1)))), (upd (upd (fun _ => none) 27 (some (.rows 22 1 ([[u32 p.n]])))) (1000000+b1) (some (.obox [u32 p.n, u32 p.m, u32 p.a, u32 p.b, u32 p.k, u32 p.t, u32 p.h])))⟩ (by exact lz trivial) ?_
  simp only [rawV, plc]
  refine Unr.step ?_
  refine wk1 (And.intro i1 (And.intro i2 (And.intro i3 (And.intro i4 i5)))) (And.intro hwb (And.intro hwh (And.intro hwk (And.intro hwn hwt)))) trivial _ ?_
  all_goals (repeat intro h)
  all_goals refine ⟨?_⟩
  refine Unr.less ⟨30, (upd (upd (upd (upd (upd (fun _ => .junk) 3 (.one (.c (rawV b1 0)))) 6 (.one (.own 27 2))) 15 (.one (.c (.row [[plc 134], [plc 137], [plc 138], [plc 139], [plc 140]])))) 16 (.one (.c (i64 ((5 : Nat) : Int))))) 17 (.one (.c (i64 2)))), (upd (upd (fun _ => none) 27 (some (.rows 22 1 ([[u32 p.n], [u32 p.b]])))) (1000000+b1) (some (.obox [u32 p.n, u32 p.m, u32 p.a, u32 p.b, u32 p.k, u32 p.t, u32 p.h])))⟩ (by exact lz trivial) ?_
  simp only [rawV, plc]
  refine Unr.step ?_
  refine wk1 (And.intro i1 (And.intro i2 (And.intro i3 (And.intro i4 i5)))) (And.intro hwb (And.intro hwh (And.intro hwk (And.intro hwn hwt)))) trivial _ ?_
  all_goals (repeat intro h)
  all_goals refine ⟨?_⟩
  refine Unr.less ⟨30, (upd (upd (upd (upd (upd (fun _ => .junk) 3 (.one (.c (rawV b1 0)))) 6 (.one (.own 27 3))) 15 (.one (.c (.row [[plc 134], [plc 137], [plc 138], [plc 139], [plc 140]])))) 16 (.one (.c (i64 ((5 : Nat) : Int))))) 17 (.one (.c (i64 3)))), (upd (upd (fun _ => none) 27 (some (.rows 22 1 ([[u32 p.n], [u32 p.b], [u32 p.k]])))) (1000000+b1) (some (.obox [u32 p.n, u32 p.m, u32 p.a, u32 p.b, u32 p.k, u32 p.t, u32 p.h])))⟩ (by exact lz trivial) ?_
  simp only [rawV, plc]
  refine Unr.step ?_
  refine wk1 (And.intro i1 (And.intro i2 (And.intro i3 (And.intro i4 i5)))) (And.intro hwb (And.intro hwh (And.intro hwk (And.intro hwn hwt)))) trivial _ ?_
  all_goals (repeat intro h)
  all_goals refine ⟨?_⟩
  refine Unr.less ⟨30, (upd (upd (upd (upd (upd (fun _ => .junk) 3 (.one (.c (rawV b1 0)))) 6 (.one (.own 27 4))) 15 (.one (.c (.row [[plc 134], [plc 137], [plc 138], [plc 139], [plc 140]])))) 16 (.one (.c (i64 ((5 : Nat) : Int))))) 17 (.one (.c (i64 4)))), (upd (upd (fun _ => none) 27 (some (.rows 22 1 ([[u32 p.n], [u32 p.b], [u32 p.k], [u32 p.t]])))) (1000000+b1) (some (.obox [u32 p.n, u32 p.m, u32 p.a, u32 p.b, u32 p.k, u32 p.t, u32 p.h])))⟩ (by exact lz trivial) ?_
  simp only [rawV, plc]
  refine Unr.step ?_
  refine wk1 (And.intro i1 (And.intro i2 (And.intro i3 (And.intro i4 i5)))) (And.intro hwb (And.intro hwh (And.intro hwk (And.intro hwn hwt)))) trivial _ ?_
  all_goals (repeat intro h)
  all_goals refine ⟨?_⟩
  refine Unr.less ⟨30, (upd (upd (upd (upd (upd (fun _ => .junk) 3 (.one (.c (rawV b1 0)))) 6 (.one (.own 27 5))) 15 (.one (.c (.row [[plc 134], [plc 137], [plc 138], [plc 139], [plc 140]])))) 16 (.one (.c (i64 ((5 : Nat) : Int))))) 17 (.one (.c (i64 5)))), (upd (upd (fun _ => none) 27 (some (.rows 22 1 ([[u32 p.n], [u32 p.b], [u32 p.k], [u32 p.t], [u32 p.h]])))) (1000000+b1) (some (.obox [u32 p.n, u32 p.m, u32 p.a, u32 p.b, u32 p.k, u32 p.t, u32 p.h])))⟩ (by exact lz trivial) ?_
  simp only [rawV, plc]
  refine Unr.last ?_
  refine wk0 (And.intro i1 (And.intro i2 (And.intro i3 (And.intro i4 i5)))) trivial trivial
set_option maxHeartbeats 4000000 in
theorem p11_puts3 (p : Prt) (h : mayP 3 p = true) : ACalls Tryz.prog 89 [.one (u32 3), .agg (ePrt p)] (.tup [.one (.row ((wordsP 3 p).map eWord)), .one (i64 0)]) := by
  refine ACalls.intro (fn := Tryz.f89) Tryz.func89 rfl rfl (by simp [Tryz.f89]) ?_
  have hpl := p11_places
  have hm := p11_may 3 p
  rw [h] at hm
  rw [show (wordsP 3 p).map eWord = [[u32 p.k], [u32 p.a], [u32 p.t]] from rfl]
  unfold Tryz.f89
  simp only [rB, ePrt, plc, rawV, labsV, atsV] at *
  refine wk1 trivial (And.intro hpl hm) (@AW.halt 4) _ ?_
  all_goals (repeat intro h)
  all_goals refine ⟨?_⟩
  refine AWs.mk (AW.name 3 rfl ?_ ?_ fun b1 hb1 => ?_)
  · simp only [go_sem, ↓reduceIte]
  · intro b; simp only [go_sem, ↓reduceIte]
  clear hb1
  refine AW.lessW ⟨30, (upd (upd (upd (fun _ => .junk) 0 (.one (.c (u32 3)))) 3 (.one (.c (rawV b1 0)))) 6 (.one .nil)), (upd (fun _ => none) (1000000+b1) (some (.obox [u32 p.n, u32 p.m, u32 p.a, u32 p.b, u32 p.k, u32 p.t, u32 p.h])))⟩ (by exact lz trivial) ?_
  simp only [rawV, plc]
  have i1 : IntKind.i64.wrap (0 + 1) = 1 := by decide
  have i2 : IntKind.i64.wrap (1 + 1) = 2 := by decide
  have i3 : IntKind.i64.wrap (2 + 1) = 3 := by decide
  have i4 : IntKind.i64.wrap (3 + 1) = 4 := by decide
  have i5 : IntKind.i64.wrap (4 + 1) = 5 := by decide
  have hwa := p11_wa b1
  have hwk := p11_wk b1
  have hwt := p11_wt b1
  simp only [rawV] at *
  refine wk1 trivial hpl trivial _ ?_
  all_goals (repeat intro h)
  all_goals refine ⟨?_⟩
  refine AW.unroll 3 ?_
  refine Unr.step ?_
  refine wk1 (And.intro i1 (And.intro i2 i3)) (And.intro hwa (And.intro hwk hwt)) trivial _ ?_
  all_goals (repeat intro h)
  all_goals refine ⟨?_⟩
  refine Unr.less ⟨30, (upd (upd (upd (upd (upd (fun _ => .junk) 3 (.one (.c (rawV b1 0)))) 6 (.one (.own 27 1))) 15 (.one (.c (.row [[plc 138], [plc 136], [plc 139]])))) 16 (.one (.c (i64 ((3 : Nat) : Int))))) 17 (.one (.c (i64 1)))), (upd (upd (fun _ => none) 27 (some (.rows 22 1 ([[u32 p.k]])))) (1000000+b1) (some (.obox [u32 p.n, u32 p.m, u32 p.a, u32 p.b, u32 p.k, u32 p.t, u32 p.h])))⟩ (by exact lz trivial) ?_
  simp only [rawV, plc]
  refine Unr.step ?_
  refine wk1 (And.intro i1 (And.intro i2 i3)) (And.intro hwa (And.intro hwk hwt)) trivial _ ?_
  all_goals (repeat intro h)
  all_goals refine ⟨?_⟩
  refine Unr.less ⟨30, (upd (upd (upd (upd (upd (fun _ => .junk) 3 (.one (.c (rawV b1 0)))) 6 (.one (.own 27 2))) 15 (.one (.c (.row [[plc 138], [plc 136], [plc 139]])))) 16 (.one (.c (i64 ((3 : Nat) : Int))))) 17 (.one (.c (i64 2)))), (upd (upd (fun _ => none) 27 (some (.rows 22 1 ([[u32 p.k], [u32 p.a]])))) (1000000+b1) (some (.obox [u32 p.n, u32 p.m, u32 p.a, u32 p.b, u32 p.k, u32 p.t, u32 p.h])))⟩ (by exact lz trivial) ?_
  simp only [rawV, plc]
  refine Unr.step ?_
  refine wk1 (And.intro i1 (And.intro i2 i3)) (And.intro hwa (And.intro hwk hwt)) trivial _ ?_
  all_goals (repeat intro h)
  all_goals refine ⟨?_⟩
  refine Unr.less ⟨30, (upd (upd (upd (upd (upd (fun _ => .junk) 3 (.one (.c (rawV b1 0)))) 6 (.one (.own 27 3))) 15 (.one (.c (.row [[plc 138], [plc 136], [plc 139]])))) 16 (.one (.c (i64 ((3 : Nat) : Int))))) 17 (.one (.c (i64 3)))), (upd (upd (fun _ => none) 27 (some (.rows 22 1 ([[u32 p.k], [u32 p.a], [u32 p.t]])))) (1000000+b1) (some (.obox [u32 p.n, u32 p.m, u32 p.a, u32 p.b, u32 p.k, u32 p.t, u32 p.h])))⟩ (by exact lz trivial) ?_
  simp only [rawV, plc]
  refine Unr.last ?_
  refine wk0 (And.intro i1 (And.intro i2 i3)) trivial trivial
set_option maxHeartbeats 4000000 in
theorem p11_puts4 (p : Prt) (h : mayP 4 p = true) : ACalls Tryz.prog 89 [.one (u32 4), .agg (ePrt p)] (.tup [.one (.row ((wordsP 4 p).map eWord)), .one (i64 0)]) := by
  refine ACalls.intro (fn := Tryz.f89) Tryz.func89 rfl rfl (by simp [Tryz.f89]) ?_
  have hpl := p11_places
  have hm := p11_may 4 p
  rw [h] at hm
  rw [show (wordsP 4 p).map eWord = [[u32 p.n]] from rfl]
  unfold Tryz.f89
  simp only [rB, ePrt, plc, rawV, labsV, atsV] at *
  refine wk1 trivial (And.intro hpl hm) (@AW.halt 4) _ ?_
  all_goals (repeat intro h)
  all_goals refine ⟨?_⟩
  refine AWs.mk (AW.name 3 rfl ?_ ?_ fun b1 hb1 => ?_)
  · simp only [go_sem, ↓reduceIte]
  · intro b; simp only [go_sem, ↓reduceIte]
  clear hb1
  refine AW.lessW ⟨30, (upd (upd (upd (fun _ => .junk) 0 (.one (.c (u32 4)))) 3 (.one (.c (rawV b1 0)))) 6 (.one .nil)), (upd (fun _ => none) (1000000+b1) (some (.obox [u32 p.n, u32 p.m, u32 p.a, u32 p.b, u32 p.k, u32 p.t, u32 p.h])))⟩ (by exact lz trivial) ?_
  simp only [rawV, plc]
  have i1 : IntKind.i64.wrap (0 + 1) = 1 := by decide
  have i2 : IntKind.i64.wrap (1 + 1) = 2 := by decide
  have i3 : IntKind.i64.wrap (2 + 1) = 3 := by decide
  have i4 : IntKind.i64.wrap (3 + 1) = 4 := by decide
  have i5 : IntKind.i64.wrap (4 + 1) = 5 := by decide
  have hwn := p11_wn b1
  simp only [rawV] at *
  refine wk1 trivial hpl trivial _ ?_
  all_goals (repeat intro h)
  all_goals refine ⟨?_⟩
  refine AW.unroll 1 ?_
  refine Unr.step ?_
  refine wk1 i1 hwn trivial _ ?_
  all_goals (repeat intro h)
  all_goals refine ⟨?_⟩
  refine Unr.less ⟨30, (upd (upd (upd (upd (upd (fun _ => .junk) 3 (.one (.c (rawV b1 0)))) 6 (.one (.own 27 1))) 15 (.one (.c (.row [[plc 134]])))) 16 (.one (.c (i64 ((1 : Nat) : Int))))) 17 (.one (.c (i64 1)))), (upd (upd (fun _ => none) 27 (some (.rows 22 1 ([[u32 p.n]])))) (1000000+b1) (some (.obox [u32 p.n, u32 p.m, u32 p.a, u32 p.b, u32 p.k, u32 p.t, u32 p.h])))⟩ (by exact lz trivial) ?_
  simp only [rawV, plc]
  refine Unr.last ?_
  refine wk0 i1 trivial trivial
set_option maxHeartbeats 4000000 in
theorem p11_puts5 (p : Prt) (h : mayP 5 p = true) : ACalls Tryz.prog 89 [.one (u32 5), .agg (ePrt p)] (.tup [.one (.row ((wordsP 5 p).map eWord)), .one (i64 0)]) := by
  refine ACalls.intro (fn := Tryz.f89) Tryz.func89 rfl rfl (by simp [Tryz.f89]) ?_
  have hpl := p11_places
  have hm := p11_may 5 p
  rw [h] at hm
  rw [show (wordsP 5 p).map eWord = [[u32 p.n]] from rfl]
  unfold Tryz.f89
  simp only [rB, ePrt, plc, rawV, labsV, atsV] at *
  refine wk1 trivial (And.intro hpl hm) (@AW.halt 4) _ ?_
  all_goals (repeat intro h)
  all_goals refine ⟨?_⟩
  refine AWs.mk (AW.name 3 rfl ?_ ?_ fun b1 hb1 => ?_)
  · simp only [go_sem, ↓reduceIte]
  · intro b; simp only [go_sem, ↓reduceIte]
  clear hb1
  refine AW.lessW ⟨30, (upd (upd (upd (fun _ => .junk) 0 (.one (.c (u32 5)))) 3 (.one (.c (rawV b1 0)))) 6 (.one .nil)), (upd (fun _ => none) (1000000+b1) (some (.obox [u32 p.n, u32 p.m, u32 p.a, u32 p.b, u32 p.k, u32 p.t, u32 p.h])))⟩ (by exact lz trivial) ?_
  simp only [rawV, plc]
  have i1 : IntKind.i64.wrap (0 + 1) = 1 := by decide
  have i2 : IntKind.i64.wrap (1 + 1) = 2 := by decide
  have i3 : IntKind.i64.wrap (2 + 1) = 3 := by decide
  have i4 : IntKind.i64.wrap (3 + 1) = 4 := by decide
  have i5 : IntKind.i64.wrap (4 + 1) = 5 := by decide
  have hwn := p11_wn b1
  simp only [rawV] at *
  refine wk1 trivial hpl trivial _ ?_
  all_goals (repeat intro h)
  all_goals refine ⟨?_⟩
  refine AW.unroll 1 ?_
  refine Unr.step ?_
  refine wk1 i1 hwn trivial _ ?_
  all_goals (repeat intro h)
  all_goals refine ⟨?_⟩
  refine Unr.less ⟨30, (upd (upd (upd (upd (upd (fun _ => .junk) 3 (.one (.c (rawV b1 0)))) 6 (.one (.own 27 1))) 15 (.one (.c (.row [[plc 134]])))) 16 (.one (.c (i64 ((1 : Nat) : Int))))) 17 (.one (.c (i64 1)))), (upd (upd (fun _ => none) 27 (some (.rows 22 1 ([[u32 p.n]])))) (1000000+b1) (some (.obox [u32 p.n, u32 p.m, u32 p.a, u32 p.b, u32 p.k, u32 p.t, u32 p.h])))⟩ (by exact lz trivial) ?_
  simp only [rawV, plc]
  refine Unr.last ?_
  refine wk0 i1 trivial trivial
set_option maxHeartbeats 4000000 in
theorem p11_puts6 (p : Prt) (h : mayP 6 p = true) : ACalls Tryz.prog 89 [.one (u32 6), .agg (ePrt p)] (.tup [.one (.row ((wordsP 6 p).map eWord)), .one (i64 0)]) := by
  refine ACalls.intro (fn := Tryz.f89) Tryz.func89 rfl rfl (by simp [Tryz.f89]) ?_
  have hpl := p11_places
  have hm := p11_may 6 p
  rw [h] at hm
  rw [show (wordsP 6 p).map eWord = [[u32 p.n], [u32 p.m], [u32 p.a], [u32 p.b]] from rfl]
  unfold Tryz.f89
  simp only [rB, ePrt, plc, rawV, labsV, atsV] at *
  refine wk1 trivial (And.intro hpl hm) (@AW.halt 4) _ ?_
  all_goals (repeat intro h)
  all_goals refine ⟨?_⟩
  refine AWs.mk (AW.name 3 rfl ?_ ?_ fun b1 hb1 => ?_)
  · simp only [go_sem, ↓reduceIte]
  · intro b; simp only [go_sem, ↓reduceIte]
  clear hb1
  refine AW.lessW ⟨30, (upd (upd (upd (fun _ => .junk) 0 (.one (.c (u32 6)))) 3 (.one (.c (rawV b1 0)))) 6 (.one .nil)), (upd (fun _ => none) (1000000+b1) (some (.obox [u32 p.n, u32 p.m, u32 p.a, u32 p.b, u32 p.k, u32 p.t, u32 p.h])))⟩ (by exact lz trivial) ?_
  simp only [rawV, plc]
  have i1 : IntKind.i64.wrap (0 + 1) = 1 := by decide
  have i2 : IntKind.i64.wrap (1 + 1) = 2 := by decide
  have i3 : IntKind.i64.wrap (2 + 1) = 3 := by decide
  have i4 : IntKind.i64.wrap (3 + 1) = 4 := by decide
  have i5 : IntKind.i64.wrap (4 + 1) = 5 := by decide
  have hwa := p11_wa b1
  have hwb := p11_wb b1
  have hwm := p11_wm b1
  have hwn := p11_wn b1
  simp only [rawV] at *
  refine wk1 trivial hpl trivial _ ?_
  all_goals (repeat intro h)
  all_goals refine ⟨?_⟩
  refine AW.unroll 4 ?_
  refine Unr.step ?_
  refine wk1 (And.intro i1 (And.intro i2 (And.intro i3 i4))) (And.intro hwa (And.intro hwb (And.intro hwm hwn))) trivial _ ?_
  all_goals (repeat intro h)
  all_goals refine ⟨?_⟩
  refine Unr.less ⟨30, (upd (upd (upd (upd (upd (fun _ => .junk) 3 (.one (.c (rawV b1 0)))) 6 (.one (.own 27 1))) 15 (.one (.c (.row [[plc 134], [plc 135], [plc 136], [plc 137]])))) 16 (.one (.c (i64 ((4 : Nat) : Int))))) 17 (.one (.c (i64 1)))), (upd (upd (fun _ => none) 27 (some (.rows 22 1 ([[u32 p.n]])))) (1000000+b1) (some (.obox [u32 p.n, u32 p.m, u32 p.a, u32 p.b, u32 p.k, u32 p.t, u32 p.h])))⟩ (by exact lz trivial) ?_
  simp only [rawV, plc]
  refine Unr.step ?_
  refine wk1 (And.intro i1 (And.intro i2 (And.intro i3 i4))) (And.intro hwa (And.intro hwb (And.intro hwm hwn))) trivial _ ?_
  all_goals (repeat intro h)
  all_goals refine ⟨?_⟩
  refine Unr.less ⟨30, (upd (upd (upd (upd (upd (fun _ => .junk) 3 (.one (.c (rawV b1 0)))) 6 (.one (.own 27 2))) 15 (.one (.c (.row [[plc 134], [plc 135], [plc 136], [plc 137]])))) 16 (.one (.c (i64 ((4 : Nat) : Int))))) 17 (.one (.c (i64 2)))), (upd (upd (fun _ => none) 27 (some (.rows 22 1 ([[u32 p.n], [u32 p.m]])))) (1000000+b1) (some (.obox [u32 p.n, u32 p.m, u32 p.a, u32 p.b, u32 p.k, u32 p.t, u32 p.h])))⟩ (by exact lz trivial) ?_
  simp only [rawV, plc]
  refine Unr.step ?_
  refine wk1 (And.intro i1 (And.intro i2 (And.intro i3 i4))) (And.intro hwa (And.intro hwb (And.intro hwm hwn))) trivial _ ?_
  all_goals (repeat intro h)
  all_goals refine ⟨?_⟩
  refine Unr.less ⟨30, (upd (upd (upd (upd (upd (fun _ => .junk) 3 (.one (.c (rawV b1 0)))) 6 (.one (.own 27 3))) 15 (.one (.c (.row [[plc 134], [plc 135], [plc 136], [plc 137]])))) 16 (.one (.c (i64 ((4 : Nat) : Int))))) 17 (.one (.c (i64 3)))), (upd (upd (fun _ => none) 27 (some (.rows 22 1 ([[u32 p.n], [u32 p.m], [u32 p.a]])))) (1000000+b1) (some (.obox [u32 p.n, u32 p.m, u32 p.a, u32 p.b, u32 p.k, u32 p.t, u32 p.h])))⟩ (by exact lz trivial) ?_
  simp only [rawV, plc]
  refine Unr.step ?_
  refine wk1 (And.intro i1 (And.intro i2 (And.intro i3 i4))) (And.intro hwa (And.intro hwb (And.intro hwm hwn))) trivial _ ?_
  all_goals (repeat intro h)
  all_goals refine ⟨?_⟩
  refine Unr.less ⟨30, (upd (upd (upd (upd (upd (fun _ => .junk) 3 (.one (.c (rawV b1 0)))) 6 (.one (.own 27 4))) 15 (.one (.c (.row [[plc 134], [plc 135], [plc 136], [plc 137]])))) 16 (.one (.c (i64 ((4 : Nat) : Int))))) 17 (.one (.c (i64 4)))), (upd (upd (fun _ => none) 27 (some (.rows 22 1 ([[u32 p.n], [u32 p.m], [u32 p.a], [u32 p.b]])))) (1000000+b1) (some (.obox [u32 p.n, u32 p.m, u32 p.a, u32 p.b, u32 p.k, u32 p.t, u32 p.h])))⟩ (by exact lz trivial) ?_
  simp only [rawV, plc]
  refine Unr.last ?_
  refine wk0 (And.intro i1 (And.intro i2 (And.intro i3 i4))) trivial trivial
set_option maxHeartbeats 4000000 in
theorem p11_puts7 (p : Prt) (h : mayP 7 p = true) : ACalls Tryz.prog 89 [.one (u32 7), .agg (ePrt p)] (.tup [.one (.row ((wordsP 7 p).map eWord)), .one (i64 0)]) := by
  refine ACalls.intro (fn := Tryz.f89) Tryz.func89 rfl rfl (by simp [Tryz.f89]) ?_
  have hpl := p11_places
  have hm := p11_may 7 p
  rw [h] at hm
  rw [show (wordsP 7 p).map eWord = [[u32 p.n], [u32 p.m], [u32 p.a], [u32 p.b]] from rfl]
  unfold Tryz.f89
  simp only [rB, ePrt, plc, rawV, labsV, atsV] at *
  refine wk1 trivial (And.intro hpl hm) (@AW.halt 4) _ ?_
  all_goals (repeat intro h)
  all_goals refine ⟨?_⟩
  refine AWs.mk (AW.name 3 rfl ?_ ?_ fun b1 hb1 => ?_)
  · simp only [go_sem, ↓reduceIte]
  · intro b; simp only [go_sem, ↓reduceIte]
  clear hb1
  refine AW.lessW ⟨30, (upd (upd (upd (fun _ => .junk) 0 (.one (.c (u32 7)))) 3 (.one (.c (rawV b1 0)))) 6 (.one .nil)), (upd (fun _ => none) (1000000+b1) (some (.obox [u32 p.n, u32 p.m, u32 p.a, u32 p.b, u32 p.k, u32 p.t, u32 p.h])))⟩ (by exact lz trivial) ?_
  simp only [rawV, plc]
  have i1 : IntKind.i64.wrap (0 + 1) = 1 := by decide
  have i2 : IntKind.i64.wrap (1 + 1) = 2 := by decide
  have i3 : IntKind.i64.wrap (2 + 1) = 3 := by decide
  have i4 : IntKind.i64.wrap (3 + 1) = 4 := by decide
  have i5 : IntKind.i64.wrap (4 + 1) = 5 := by decide
  have hwa := p11_wa b1
  have hwb := p11_wb b1
  have hwm := p11_wm b1
  have hwn := p11_wn b1
  simp only [rawV] at *
  refine wk1 trivial hpl trivial _ ?_
  all_goals (repeat intro h)
  all_goals refine ⟨?_⟩
  refine AW.unroll 4 ?_
  refine Unr.step ?_
  refine wk1 (And.intro i1 (And.intro i2 (And.intro i3 i4))) (And.intro hwa (And.intro hwb (And.intro hwm hwn))) trivial _ ?_
  all_goals (repeat intro h)
  all_goals refine ⟨?_⟩
  refine Unr.less ⟨30, (upd (upd (upd (upd (upd (fun _ => .junk) 3 (.one (.c (rawV b1 0)))) 6 (.one (.own 27 1))) 15 (.one (.c (.row [[plc 134], [plc 135], [plc 136], [plc 137]])))) 16 (.one (.c (i64 ((4 : Nat) : Int))))) 17 (.one (.c (i64 1)))), (upd (upd (fun _ => none) 27 (some (.rows 22 1 ([[u32 p.n]])))) (1000000+b1) (some (.obox [u32 p.n, u32 p.m, u32 p.a, u32 p.b, u32 p.k, u32 p.t, u32 p.h])))⟩ (by exact lz trivial) ?_
  simp only [rawV, plc]
  refine Unr.step ?_
  refine wk1 (And.intro i1 (And.intro i2 (And.intro i3 i4))) (And.intro hwa (And.intro hwb (And.intro hwm hwn))) trivial _ ?_
  all_goals (repeat intro h)
  all_goals refine ⟨?_⟩
  refine Unr.less ⟨30, (upd (upd (upd (upd (upd (fun _ => .junk) 3 (.one (.c (rawV b1 0)))) 6 (.one (.own 27 2))) 15 (.one (.c (.row [[plc 134], [plc 135], [plc 136], [plc 137]])))) 16 (.one (.c (i64 ((4 : Nat) : Int))))) 17 (.one (.c (i64 2)))), (upd (upd (fun _ => none) 27 (some (.rows 22 1 ([[u32 p.n], [u32 p.m]])))) (1000000+b1) (some (.obox [u32 p.n, u32 p.m, u32 p.a, u32 p.b, u32 p.k, u32 p.t, u32 p.h])))⟩ (by exact lz trivial) ?_
  simp only [rawV, plc]
  refine Unr.step ?_
  refine wk1 (And.intro i1 (And.intro i2 (And.intro i3 i4))) (And.intro hwa (And.intro hwb (And.intro hwm hwn))) trivial _ ?_
  all_goals (repeat intro h)
  all_goals refine ⟨?_⟩
  refine Unr.less ⟨30, (upd (upd (upd (upd (upd (fun _ => .junk) 3 (.one (.c (rawV b1 0)))) 6 (.one (.own 27 3))) 15 (.one (.c (.row [[plc 134], [plc 135], [plc 136], [plc 137]])))) 16 (.one (.c (i64 ((4 : Nat) : Int))))) 17 (.one (.c (i64 3)))), (upd (upd (fun _ => none) 27 (some (.rows 22 1 ([[u32 p.n], [u32 p.m], [u32 p.a]])))) (1000000+b1) (some (.obox [u32 p.n, u32 p.m, u32 p.a, u32 p.b, u32 p.k, u32 p.t, u32 p.h])))⟩ (by exact lz trivial) ?_
  simp only [rawV, plc]
  refine Unr.step ?_
  refine wk1 (And.intro i1 (And.intro i2 (And.intro i3 i4))) (And.intro hwa (And.intro hwb (And.intro hwm hwn))) trivial _ ?_
  all_goals (repeat intro h)
  all_goals refine ⟨?_⟩
  refine Unr.less ⟨30, (upd (upd (upd (upd (upd (fun _ => .junk) 3 (.one (.c (rawV b1 0)))) 6 (.one (.own 27 4))) 15 (.one (.c (.row [[plc 134], [plc 135], [plc 136], [plc 137]])))) 16 (.one (.c (i64 ((4 : Nat) : Int))))) 17 (.one (.c (i64 4)))), (upd (upd (fun _ => none) 27 (some (.rows 22 1 ([[u32 p.n], [u32 p.m], [u32 p.a], [u32 p.b]])))) (1000000+b1) (some (.obox [u32 p.n, u32 p.m, u32 p.a, u32 p.b, u32 p.k, u32 p.t, u32 p.h])))⟩ (by exact lz trivial) ?_
  simp only [rawV, plc]
  refine Unr.last ?_
  refine wk0 (And.intro i1 (And.intro i2 (And.intro i3 i4))) trivial trivial
set_option maxHeartbeats 4000000 in
theorem p11_puts8 (p : Prt) (h : mayP 8 p = true) : ACalls Tryz.prog 89 [.one (u32 8), .agg (ePrt p)] (.tup [.one (.row ((wordsP 8 p).map eWord)), .one (i64 0)]) := by
  refine ACalls.intro (fn := Tryz.f89) Tryz.func89 rfl rfl (by simp [Tryz.f89]) ?_
  have hpl := p11_places
  have hm := p11_may 8 p
  rw [h] at hm
  rw [show (wordsP 8 p).map eWord = [[u32 p.n], [u32 p.k]] from rfl]
  unfold Tryz.f89
  simp only [rB, ePrt, plc, rawV, labsV, atsV] at *
  refine wk1 trivial (And.intro hpl hm) (@AW.halt 4) _ ?_
  all_goals (repeat intro h)
  all_goals refine ⟨?_⟩
  refine AWs.mk (AW.name 3 rfl ?_ ?_ fun b1 hb1 => ?_)
  · simp only [go_sem, ↓reduceIte]
  · intro b; simp only [go_sem, ↓reduceIte]
  clear hb1
  refine AW.lessW ⟨30, (upd (upd (upd (fun _ => .junk) 0 (.one (.c (u32 8)))) 3 (.one (.c (rawV b1 0)))) 6 (.one .nil)), (upd (fun _ => none) (1000000+b1) (some (.obox [u32 p.n, u32 p.m, u32 p.a, u32 p.b, u32 p.k, u32 p.t, u32 p.h])))⟩ (by exact lz trivial) ?_
  simp only [rawV, plc]
  have i1 : IntKind.i64.wrap (0 + 1) = 1 := by decide
  have i2 : IntKind.i64.wrap (1 + 1) = 2 := by decide
  have i3 : IntKind.i64.wrap (2 + 1) = 3 := by decide
  have i4 : IntKind.i64.wrap (3 + 1) = 4 := by decide
  have i5 : IntKind.i64.wrap (4 + 1) = 5 := by decide
  have hwk := p11_wk b1
  have hwn := p11_wn b1
  simp only [rawV] at *
  refine wk1 trivial hpl trivial _ ?_
  all_goals (repeat intro h)
  all_goals refine ⟨?_⟩
  refine AW.unroll 2 ?_
  refine Unr.step ?_
  refine wk1 (And.intro i1 i2) (And.intro hwk hwn) trivial _ ?_
  all_goals (repeat intro h)
  all_goals refine ⟨?_⟩
  refine Unr.less ⟨30, (upd (upd (upd (upd (upd (fun _ => .junk) 3 (.one (.c (rawV b1 0)))) 6 (.one (.own 27 1))) 15 (.one (.c (.row [[plc 134], [plc 138]])))) 16 (.one (.c (i64 ((2 : Nat) : Int))))) 17 (.one (.c (i64 1)))), (upd (upd (fun _ => none) 27 (some (.rows 22 1 ([[u32 p.n]])))) (1000000+b1) (some (.obox [u32 p.n, u32 p.m, u32 p.a, u32 p.b, u32 p.k, u32 p.t, u32 p.h])))⟩ (by exact lz trivial) ?_
  simp only [rawV, plc]
  refine Unr.step ?_
  refine wk1 (And.intro i1 i2) (And.intro hwk hwn) trivial _ ?_
  all_goals (repeat intro h)
  all_goals refine ⟨?_⟩
  refine Unr.less ⟨30, (upd (upd (upd (upd (upd (fun _ => .junk) 3 (.one (.c (rawV b1 0)))) 6 (.one (.own 27 2))) 15 (.one (.c (.row [[plc 134], [plc 138]])))) 16 (.one (.c (i64 ((2 : Nat) : Int))))) 17 (.one (.c (i64 2)))), (upd (upd (fun _ => none) 27 (some (.rows 22 1 ([[u32 p.n], [u32 p.k]])))) (1000000+b1) (some (.obox [u32 p.n, u32 p.m, u32 p.a, u32 p.b, u32 p.k, u32 p.t, u32 p.h])))⟩ (by exact lz trivial) ?_
  simp only [rawV, plc]
  refine Unr.last ?_
  refine wk0 (And.intro i1 i2) trivial trivial
set_option maxHeartbeats 4000000 in
theorem p11_puts9 (p : Prt) (h : mayP 9 p = true) : ACalls Tryz.prog 89 [.one (u32 9), .agg (ePrt p)] (.tup [.one (.row ((wordsP 9 p).map eWord)), .one (i64 0)]) := by
  refine ACalls.intro (fn := Tryz.f89) Tryz.func89 rfl rfl (by simp [Tryz.f89]) ?_
  have hpl := p11_places
  have hm := p11_may 9 p
  rw [h] at hm
  rw [show (wordsP 9 p).map eWord = [[u32 p.n], [u32 p.k]] from rfl]
  unfold Tryz.f89
  simp only [rB, ePrt, plc, rawV, labsV, atsV] at *
  refine wk1 trivial (And.intro hpl hm) (@AW.halt 4) _ ?_
  all_goals (repeat intro h)
  all_goals refine ⟨?_⟩
  refine AWs.mk (AW.name 3 rfl ?_ ?_ fun b1 hb1 => ?_)
  · simp only [go_sem, ↓reduceIte]
  · intro b; simp only [go_sem, ↓reduceIte]
  clear hb1
  refine AW.lessW ⟨30, (upd (upd (upd (fun _ => .junk) 0 (.one (.c (u32 9)))) 3 (.one (.c (rawV b1 0)))) 6 (.one .nil)), (upd (fun _ => none) (1000000+b1) (some (.obox [u32 p.n, u32 p.m, u32 p.a, u32 p.b, u32 p.k, u32 p.t, u32 p.h])))⟩ (by exact lz trivial) ?_
  simp only [rawV, plc]
  have i1 : IntKind.i64.wrap (0 + 1) = 1 := by decide
  have i2 : IntKind.i64.wrap (1 + 1) = 2 := by decide
  have i3 : IntKind.i64.wrap (2 + 1) = 3 := by decide
  have i4 : IntKind.i64.wrap (3 + 1) = 4 := by decide
  have i5 : IntKind.i64.wrap (4 + 1) = 5 := by decide
  have hwk := p11_wk b1
  have hwn := p11_wn b1
  simp only [rawV] at *
  refine wk1 trivial hpl trivial _ ?_
  all_goals (repeat intro h)
  all_goals refine ⟨?_⟩
  refine AW.unroll 2 ?_
  refine Unr.step ?_
  refine wk1 (And.intro i1 i2) (And.intro hwk hwn) trivial _ ?_
  all_goals (repeat intro h)
  all_goals refine ⟨?_⟩
  refine Unr.less ⟨30, (upd (upd (upd (upd (upd (fun _ => .junk) 3 (.one (.c (rawV b1 0)))) 6 (.one (.own 27 1))) 15 (.one (.c (.row [[plc 134], [plc 138]])))) 16 (.one (.c (i64 ((2 : Nat) : Int))))) 17 (.one (.c (i64 1)))), (upd (upd (fun _ => none) 27 (some (.rows 22 1 ([[u32 p.n]])))) (1000000+b1) (some (.obox [u32 p.n, u32 p.m, u32 p.a, u32 p.b, u32 p.k, u32 p.t, u32 p.h])))⟩ (by exact lz trivial) ?_
  simp only [rawV, plc]
  refine Unr.step ?_
  refine wk1 (And.intro i1 i2) (And.intro hwk hwn) trivial _ ?_
  all_goals (repeat intro h)
  all_goals refine ⟨?_⟩
  refine Unr.less ⟨30, (upd (upd (upd (upd (upd (fun _ => .junk) 3 (.one (.c (rawV b1 0)))) 6 (.one (.own 27 2))) 15 (.one (.c (.row [[plc 134], [plc 138]])))) 16 (.one (.c (i64 ((2 : Nat) : Int))))) 17 (.one (.c (i64 2)))), (upd (upd (fun _ => none) 27 (some (.rows 22 1 ([[u32 p.n], [u32 p.k]])))) (1000000+b1) (some (.obox [u32 p.n, u32 p.m, u32 p.a, u32 p.b, u32 p.k, u32 p.t, u32 p.h])))⟩ (by exact lz trivial) ?_
  simp only [rawV, plc]
  refine Unr.last ?_
  refine wk0 (And.intro i1 i2) trivial trivial
theorem p11_put (x : Int) (p : Prt) : ACalls Tryz.prog 89 [.one (u32 x), .agg (ePrt p)] (.tup [.one (eWords (putP x p).1), .one (i64 (putP x p).2)]) := by
  by_cases h : mayP x p = true
  · rw [putP, if_pos h]
    rcases label_cases x with rfl | rfl | rfl | rfl | rfl | rfl | rfl | rfl | hn
    · exact p11_puts2 p h
    · exact p11_puts3 p h
    · exact p11_puts4 p h
    · exact p11_puts5 p h
    · exact p11_puts6 p h
    · exact p11_puts7 p h
    · exact p11_puts8 p h
    · exact p11_puts9 p h
    rw [mayP, getP, if_pos hn] at h
    simp at h
  · rw [putP, if_neg h]
    have hm := p11_may x p
    rw [Bool.not_eq_true] at h
    rw [h] at hm
    refine ACalls.intro (fn := Tryz.f89) Tryz.func89 rfl rfl (by simp [Tryz.f89]) ?_
    unfold Tryz.f89
    simp only [rB, ePrt, eWords, List.map_nil] at *
    refine wk0 trivial hm trivial
end
set_option maxHeartbeats 4000000 in
theorem p11_get2 (x0 x1 x2 x3 x4 : Int) : ACalls Tryz.prog 103 [.one (u32 2), .one (eWords [x0, x1, x2, x3, x4])] (.tup [.agg (ePrt ⟨x0, 0, 0, x1, x2, x3, x4⟩), .one (i64 0)]) := by
  refine ACalls.intro (fn := Tryz.f103) Tryz.func103 rfl rfl (by simp [Tryz.f103]) ?_
  have hpl := p11_places
  unfold Tryz.f103
  simp only [rB, ePrt, plc, rawV, eWords, eWord, List.map_cons, List.map_nil, labsV, atsV] at *
  refine wk1 trivial hpl (@AW.halt 7) _ ?_
  all_goals (repeat intro h)
  all_goals refine ⟨?_⟩
  refine AWs.mk (AW.name 8 (cs := [.c (u32 0), .c (u32 0), .c (u32 0), .c (u32 0), .c (u32 0), .c (u32 0), .c (u32 0)]) ?_ ?_ ?_ fun b1 hb1 => ?_)
  · simp only [go_sem, ↓reduceIte]
  · simp only [go_sem, ↓reduceIte]
  · intro b; simp only [go_sem, ↓reduceIte]
  clear hb1
  refine AW.lessW ⟨44, (upd (upd (upd (upd (upd (fun _ => .junk) 1 (.one (.c (.row [[u32 x0], [u32 x1], [u32 x2], [u32 x3], [u32 x4]])))) 4 (.one (.ptr 4 0))) 5 (.one (.c (i64 0)))) 6 (.one (.c (.row [[plc 134], [plc 137], [plc 138], [plc 139], [plc 140]])))) 8 (.one (.c (rawV b1 0)))), (upd (upd (fun _ => none) 4 (some (.box [.c (u32 0), .c (u32 0), .c (u32 0), .c (u32 0), .c (u32 0), .c (u32 0), .c (u32 0)]))) (1000000+b1) (some (.obox [u32 0, u32 0, u32 0, u32 0, u32 0, u32 0, u32 0])))⟩ (by exact lz trivial) ?_
  simp only [rawV, plc]
  have i1 : IntKind.i64.wrap (0 + 1) = 1 := by decide
  have i2 : IntKind.i64.wrap (1 + 1) = 2 := by decide
  have i3 : IntKind.i64.wrap (2 + 1) = 3 := by decide
  have i4 : IntKind.i64.wrap (3 + 1) = 4 := by decide
  have i5 : IntKind.i64.wrap (4 + 1) = 5 := by decide
  have hwb := p11_wb b1
  have hwh := p11_wh b1
  have hwk := p11_wk b1
  have hwn := p11_wn b1
  have hwt := p11_wt b1
  simp only [rawV] at *
  refine wk1 trivial trivial trivial _ ?_
  all_goals (repeat intro h)
  all_goals refine ⟨?_⟩
  refine AW.unroll 5 ?_
  refine wk0 (And.intro i1 (And.intro i2 (And.intro i3 (And.intro i4 i5)))) (And.intro hwb (And.intro hwh (And.intro hwk (And.intro hwn hwt)))) trivial
set_option maxHeartbeats 4000000 in
theorem p11_get3 (x0 x1 x2 : Int) : ACalls Tryz.prog 103 [.one (u32 3), .one (eWords [x0, x1, x2])] (.tup [.agg (ePrt ⟨0, 0, x1, 0, x0, x2, 0⟩), .one (i64 0)]) := by
  refine ACalls.intro (fn := Tryz.f103) Tryz.func103 rfl rfl (by simp [Tryz.f103]) ?_
  have hpl := p11_places
  unfold Tryz.f103
  simp only [rB, ePrt, plc, rawV, eWords, eWord, List.map_cons, List.map_nil, labsV, atsV] at *
  refine wk1 trivial hpl (@AW.halt 7) _ ?_
  all_goals (repeat intro h)
  all_goals refine ⟨?_⟩
  refine AWs.mk (AW.name 8 (cs := [.c (u32 0), .c (u32 0), .c (u32 0), .c (u32 0), .c (u32 0), .c (u32 0), .c (u32 0)]) ?_ ?_ ?_ fun b1 hb1 => ?_)
  · simp only [go_sem, ↓reduceIte]
  · simp only [go_sem, ↓reduceIte]
  · intro b; simp only [go_sem, ↓reduceIte]
  clear hb1
  refine AW.lessW ⟨44, (upd (upd (upd (upd (upd (fun _ => .junk) 1 (.one (.c (.row [[u32 x0], [u32 x1], [u32 x2]])))) 4 (.one (.ptr 4 0))) 5 (.one (.c (i64 0)))) 6 (.one (.c (.row [[plc 138], [plc 136], [plc 139]])))) 8 (.one (.c (rawV b1 0)))), (upd (upd (fun _ => none) 4 (some (.box [.c (u32 0), .c (u32 0), .c (u32 0), .c (u32 0), .c (u32 0), .c (u32 0), .c (u32 0)]))) (1000000+b1) (some (.obox [u32 0, u32 0, u32 0, u32 0, u32 0, u32 0, u32 0])))⟩ (by exact lz trivial) ?_
  simp only [rawV, plc]
  have i1 : IntKind.i64.wrap (0 + 1) = 1 := by decide
  have i2 : IntKind.i64.wrap (1 + 1) = 2 := by decide
  have i3 : IntKind.i64.wrap (2 + 1) = 3 := by decide
  have i4 : IntKind.i64.wrap (3 + 1) = 4 := by decide
  have i5 : IntKind.i64.wrap (4 + 1) = 5 := by decide
  have hwa := p11_wa b1
  have hwk := p11_wk b1
  have hwt := p11_wt b1
  simp only [rawV] at *
  refine wk1 trivial trivial trivial _ ?_
  all_goals (repeat intro h)
  all_goals refine ⟨?_⟩
  refine AW.unroll 3 ?_
  refine wk0 (And.intro i1 (And.intro i2 i3)) (And.intro hwa (And.intro hwk hwt)) trivial
set_option maxHeartbeats 4000000 in
theorem p11_get4 (x0 : Int) : ACalls Tryz.prog 103 [.one (u32 4), .one (eWords [x0])] (.tup [.agg (ePrt ⟨x0, 0, 0, 0, 0, 0, 0⟩), .one (i64 0)]) := by
  refine ACalls.intro (fn := Tryz.f103) Tryz.func103 rfl rfl (by simp [Tryz.f103]) ?_
  have hpl := p11_places
  unfold Tryz.f103
  simp only [rB, ePrt, plc, rawV, eWords, eWord, List.map_cons, List.map_nil, labsV, atsV] at *
  refine wk1 trivial hpl (@AW.halt 7) _ ?_
  all_goals (repeat intro h)
  all_goals refine ⟨?_⟩
  refine AWs.mk (AW.name 8 (cs := [.c (u32 0), .c (u32 0), .c (u32 0), .c (u32 0), .c (u32 0), .c (u32 0), .c (u32 0)]) ?_ ?_ ?_ fun b1 hb1 => ?_)
  · simp only [go_sem, ↓reduceIte]
  · simp only [go_sem, ↓reduceIte]
  · intro b; simp only [go_sem, ↓reduceIte]
  clear hb1
  refine AW.lessW ⟨44, (upd (upd (upd (upd (upd (fun _ => .junk) 1 (.one (.c (.row [[u32 x0]])))) 4 (.one (.ptr 4 0))) 5 (.one (.c (i64 0)))) 6 (.one (.c (.row [[plc 134]])))) 8 (.one (.c (rawV b1 0)))), (upd (upd (fun _ => none) 4 (some (.box [.c (u32 0), .c (u32 0), .c (u32 0), .c (u32 0), .c (u32 0), .c (u32 0), .c (u32 0)]))) (1000000+b1) (some (.obox [u32 0, u32 0, u32 0, u32 0, u32 0, u32 0, u32 0])))⟩ (by exact lz trivial) ?_
  simp only [rawV, plc]
  have i1 : IntKind.i64.wrap (0 + 1) = 1 := by decide
  have i2 : IntKind.i64.wrap (1 + 1) = 2 := by decide
  have i3 : IntKind.i64.wrap (2 + 1) = 3 := by decide
  have i4 : IntKind.i64.wrap (3 + 1) = 4 := by decide
  have i5 : IntKind.i64.wrap (4 + 1) = 5 := by decide
  have hwn := p11_wn b1
  simp only [rawV] at *
  refine wk1 trivial trivial trivial _ ?_
  all_goals (repeat intro h)
  all_goals refine ⟨?_⟩
  refine AW.unroll 1 ?_
  refine wk0 i1 hwn trivial
set_option maxHeartbeats 4000000 in
theorem p11_get5 (x0 : Int) : ACalls Tryz.prog 103 [.one (u32 5), .one (eWords [x0])] (.tup [.agg (ePrt ⟨x0, 0, 0, 0, 0, 0, 0⟩), .one (i64 0)]) := by
  refine ACalls.intro (fn := Tryz.f103) Tryz.func103 rfl rfl (by simp [Tryz.f103]) ?_
  have hpl := p11_places
  unfold Tryz.f103
  simp only [rB, ePrt, plc, rawV, eWords, eWord, List.map_cons, List.map_nil, labsV, atsV] at *
  refine wk1 trivial hpl (@AW.halt 7) _ ?_
  all_goals (repeat intro h)
  all_goals refine ⟨?_⟩
  refine AWs.mk (AW.name 8 (cs := [.c (u32 0), .c (u32 0), .c (u32 0), .c (u32 0), .c (u32 0), .c (u32 0), .c (u32 0)]) ?_ ?_ ?_ fun b1 hb1 => ?_)
  · simp only [go_sem, ↓reduceIte]
  · simp only [go_sem, ↓reduceIte]
  · intro b; simp only [go_sem, ↓reduceIte]
  clear hb1
  refine AW.lessW ⟨44, (upd (upd (upd (upd (upd (fun _ => .junk) 1 (.one (.c (.row [[u32 x0]])))) 4 (.one (.ptr 4 0))) 5 (.one (.c (i64 0)))) 6 (.one (.c (.row [[plc 134]])))) 8 (.one (.c (rawV b1 0)))), (upd (upd (fun _ => none) 4 (some (.box [.c (u32 0), .c (u32 0), .c (u32 0), .c (u32 0), .c (u32 0), .c (u32 0), .c (u32 0)]))) (1000000+b1) (some (.obox [u32 0, u32 0, u32 0, u32 0, u32 0, u32 0, u32 0])))⟩ (by exact lz trivial) ?_
  simp only [rawV, plc]
  have i1 : IntKind.i64.wrap (0 + 1) = 1 := by decide
  have i2 : IntKind.i64.wrap (1 + 1) = 2 := by decide
  have i3 : IntKind.i64.wrap (2 + 1) = 3 := by decide
  have i4 : IntKind.i64.wrap (3 + 1) = 4 := by decide
  have i5 : IntKind.i64.wrap (4 + 1) = 5 := by decide
  have hwn := p11_wn b1
  simp only [rawV] at *
  refine wk1 trivial trivial trivial _ ?_
  all_goals (repeat intro h)
  all_goals refine ⟨?_⟩
  refine AW.unroll 1 ?_
  refine wk0 i1 hwn trivial
set_option maxHeartbeats 4000000 in
theorem p11_get6 (x0 x1 x2 x3 : Int) : ACalls Tryz.prog 103 [.one (u32 6), .one (eWords [x0, x1, x2, x3])] (.tup [.agg (ePrt ⟨x0, x1, x2, x3, 0, 0, 0⟩), .one (i64 0)]) := by
  refine ACalls.intro (fn := Tryz.f103) Tryz.func103 rfl rfl (by simp [Tryz.f103]) ?_
  have hpl := p11_places
  unfold Tryz.f103
  simp only [rB, ePrt, plc, rawV, eWords, eWord, List.map_cons, List.map_nil, labsV, atsV] at *
  refine wk1 trivial hpl (@AW.halt 7) _ ?_
  all_goals (repeat intro h)
  all_goals refine ⟨?_⟩
  refine AWs.mk (AW.name 8 (cs := [.c (u32 0), .c (u32 0), .c (u32 0), .c (u32 0), .c (u32 0), .c (u32 0), .c (u32 0)]) ?_ ?_ ?_ fun b1 hb1 => ?_)
  · simp only [go_sem, ↓reduceIte]
  · simp only [go_sem, ↓reduceIte]
  · intro b; simp only [go_sem, ↓reduceIte]
  clear hb1
  refine AW.lessW ⟨44, (upd (upd (upd (upd (upd (fun _ => .junk) 1 (.one (.c (.row [[u32 x0], [u32 x1], [u32 x2], [u32 x3]])))) 4 (.one (.ptr 4 0))) 5 (.one (.c (i64 0)))) 6 (.one (.c (.row [[plc 134], [plc 135], [plc 136], [plc 137]])))) 8 (.one (.c (rawV b1 0)))), (upd (upd (fun _ => none) 4 (some (.box [.c (u32 0), .c (u32 0), .c (u32 0), .c (u32 0), .c (u32 0), .c (u32 0), .c (u32 0)]))) (1000000+b1) (some (.obox [u32 0, u32 0, u32 0, u32 0, u32 0, u32 0, u32 0])))⟩ (by exact lz trivial) ?_
  simp only [rawV, plc]
  have i1 : IntKind.i64.wrap (0 + 1) = 1 := by decide
  have i2 : IntKind.i64.wrap (1 + 1) = 2 := by decide
  have i3 : IntKind.i64.wrap (2 + 1) = 3 := by decide
  have i4 : IntKind.i64.wrap (3 + 1) = 4 := by decide
  have i5 : IntKind.i64.wrap (4 + 1) = 5 := by decide
  have hwa := p11_wa b1
  have hwb := p11_wb b1
  have hwm := p11_wm b1
  have hwn := p11_wn b1
  simp only [rawV] at *
  refine wk1 trivial trivial trivial _ ?_
  all_goals (repeat intro h)
  all_goals refine ⟨?_⟩
  refine AW.unroll 4 ?_
  refine wk0 (And.intro i1 (And.intro i2 (And.intro i3 i4))) (And.intro hwa (And.intro hwb (And.intro hwm hwn))) trivial
set_option maxHeartbeats 4000000 in
theorem p11_get7 (x0 x1 x2 x3 : Int) : ACalls Tryz.prog 103 [.one (u32 7), .one (eWords [x0, x1, x2, x3])] (.tup [.agg (ePrt ⟨x0, x1, x2, x3, 0, 0, 0⟩), .one (i64 0)]) := by
  refine ACalls.intro (fn := Tryz.f103) Tryz.func103 rfl rfl (by simp [Tryz.f103]) ?_
  have hpl := p11_places
  unfold Tryz.f103
  simp only [rB, ePrt, plc, rawV, eWords, eWord, List.map_cons, List.map_nil, labsV, atsV] at *
  refine wk1 trivial hpl (@AW.halt 7) _ ?_
  all_goals (repeat intro h)
  all_goals refine ⟨?_⟩
  refine AWs.mk (AW.name 8 (cs := [.c (u32 0), .c (u32 0), .c (u32 0), .c (u32 0), .c (u32 0), .c (u32 0), .c (u32 0)]) ?_ ?_ ?_ fun b1 hb1 => ?_)
  · simp only [go_sem, ↓reduceIte]
  · simp only [go_sem, ↓reduceIte]
  · intro b; simp only [go_sem, ↓reduceIte]
  clear hb1
  refine AW.lessW ⟨44, (upd (upd (upd (upd (upd (fun _ => .junk) 1 (.one (.c (.row [[u32 x0], [u32 x1], [u32 x2], [u32 x3]])))) 4 (.one (.ptr 4 0))) 5 (.one (.c (i64 0)))) 6 (.one (.c (.row [[plc 134], [plc 135], [plc 136], [plc 137]])))) 8 (.one (.c (rawV b1 0)))), (upd (upd (fun _ => none) 4 (some (.box [.c (u32 0), .c (u32 0), .c (u32 0), .c (u32 0), .c (u32 0), .c (u32 0), .c (u32 0)]))) (1000000+b1) (some (.obox [u32 0, u32 0, u32 0, u32 0, u32 0, u32 0, u32 0])))⟩ (by exact lz trivial) ?_
  simp only [rawV, plc]
  have i1 : IntKind.i64.wrap (0 + 1) = 1 := by decide
  have i2 : IntKind.i64.wrap (1 + 1) = 2 := by decide
  have i3 : IntKind.i64.wrap (2 + 1) = 3 := by decide
  have i4 : IntKind.i64.wrap (3 + 1) = 4 := by decide
  have i5 : IntKind.i64.wrap (4 + 1) = 5 := by decide
  have hwa := p11_wa b1
  have hwb := p11_wb b1
  have hwm := p11_wm b1
  have hwn := p11_wn b1
  simp only [rawV] at *
  refine wk1 trivial trivial trivial _ ?_
  all_goals (repeat intro h)
  all_goals refine ⟨?_⟩
  refine AW.unroll 4 ?_
  refine wk0 (And.intro i1 (And.intro i2 (And.intro i3 i4))) (And.intro hwa (And.intro hwb (And.intro hwm hwn))) trivial
set_option maxHeartbeats 4000000 in
theorem p11_get8 (x0 x1 : Int) : ACalls Tryz.prog 103 [.one (u32 8), .one (eWords [x0, x1])] (.tup [.agg (ePrt ⟨x0, 0, 0, 0, x1, 0, 0⟩), .one (i64 0)]) := by
  refine ACalls.intro (fn := Tryz.f103) Tryz.func103 rfl rfl (by simp [Tryz.f103]) ?_
  have hpl := p11_places
  unfold Tryz.f103
  simp only [rB, ePrt, plc, rawV, eWords, eWord, List.map_cons, List.map_nil, labsV, atsV] at *
  refine wk1 trivial hpl (@AW.halt 7) _ ?_
  all_goals (repeat intro h)
  all_goals refine ⟨?_⟩
  refine AWs.mk (AW.name 8 (cs := [.c (u32 0), .c (u32 0), .c (u32 0), .c (u32 0), .c (u32 0), .c (u32 0), .c (u32 0)]) ?_ ?_ ?_ fun b1 hb1 => ?_)
  · simp only [go_sem, ↓reduceIte]
  · simp only [go_sem, ↓reduceIte]
  · intro b; simp only [go_sem, ↓reduceIte]
  clear hb1
  refine AW.lessW ⟨44, (upd (upd (upd (upd (upd (fun _ => .junk) 1 (.one (.c (.row [[u32 x0], [u32 x1]])))) 4 (.one (.ptr 4 0))) 5 (.one (.c (i64 0)))) 6 (.one (.c (.row [[plc 134], [plc 138]])))) 8 (.one (.c (rawV b1 0)))), (upd (upd (fun _ => none) 4 (some (.box [.c (u32 0), .c (u32 0), .c (u32 0), .c (u32 0), .c (u32 0), .c (u32 0), .c (u32 0)]))) (1000000+b1) (some (.obox [u32 0, u32 0, u32 0, u32 0, u32 0, u32 0, u32 0])))⟩ (by exact lz trivial) ?_
  simp only [rawV, plc]
  have i1 : IntKind.i64.wrap (0 + 1) = 1 := by decide
  have i2 : IntKind.i64.wrap (1 + 1) = 2 := by decide
  have i3 : IntKind.i64.wrap (2 + 1) = 3 := by decide
  have i4 : IntKind.i64.wrap (3 + 1) = 4 := by decide
  have i5 : IntKind.i64.wrap (4 + 1) = 5 := by decide
  have hwk := p11_wk b1
  have hwn := p11_wn b1
  simp only [rawV] at *
  refine wk1 trivial trivial trivial _ ?_
  all_goals (repeat intro h)
  all_goals refine ⟨?_⟩
  refine AW.unroll 2 ?_
  refine wk0 (And.intro i1 i2) (And.intro hwk hwn) trivial
set_option maxHeartbeats 4000000 in
theorem p11_get9 (x0 x1 : Int) : ACalls Tryz.prog 103 [.one (u32 9), .one (eWords [x0, x1])] (.tup [.agg (ePrt ⟨x0, 0, 0, 0, x1, 0, 0⟩), .one (i64 0)]) := by
  refine ACalls.intro (fn := Tryz.f103) Tryz.func103 rfl rfl (by simp [Tryz.f103]) ?_
  have hpl := p11_places
  unfold Tryz.f103
  simp only [rB, ePrt, plc, rawV, eWords, eWord, List.map_cons, List.map_nil, labsV, atsV] at *
  refine wk1 trivial hpl (@AW.halt 7) _ ?_
  all_goals (repeat intro h)
  all_goals refine ⟨?_⟩
  refine AWs.mk (AW.name 8 (cs := [.c (u32 0), .c (u32 0), .c (u32 0), .c (u32 0), .c (u32 0), .c (u32 0), .c (u32 0)]) ?_ ?_ ?_ fun b1 hb1 => ?_)
  · simp only [go_sem, ↓reduceIte]
  · simp only [go_sem, ↓reduceIte]
  · intro b; simp only [go_sem, ↓reduceIte]
  clear hb1
  refine AW.lessW ⟨44, (upd (upd (upd (upd (upd (fun _ => .junk) 1 (.one (.c (.row [[u32 x0], [u32 x1]])))) 4 (.one (.ptr 4 0))) 5 (.one (.c (i64 0)))) 6 (.one (.c (.row [[plc 134], [plc 138]])))) 8 (.one (.c (rawV b1 0)))), (upd (upd (fun _ => none) 4 (some (.box [.c (u32 0), .c (u32 0), .c (u32 0), .c (u32 0), .c (u32 0), .c (u32 0), .c (u32 0)]))) (1000000+b1) (some (.obox [u32 0, u32 0, u32 0, u32 0, u32 0, u32 0, u32 0])))⟩ (by exact lz trivial) ?_
  simp only [rawV, plc]
  have i1 : IntKind.i64.wrap (0 + 1) = 1 := by decide
  have i2 : IntKind.i64.wrap (1 + 1) = 2 := by decide
  have i3 : IntKind.i64.wrap (2 + 1) = 3 := by decide
  have i4 : IntKind.i64.wrap (3 + 1) = 4 := by decide
  have i5 : IntKind.i64.wrap (4 + 1) = 5 := by decide
  have hwk := p11_wk b1
  have hwn := p11_wn b1
  simp only [rawV] at *
  refine wk1 trivial trivial trivial _ ?_
  all_goals (repeat intro h)
  all_goals refine ⟨?_⟩
  refine AW.unroll 2 ?_
  refine wk0 (And.intro i1 i2) (And.intro hwk hwn) trivial
set_option maxHeartbeats 4000000 in
theorem p11_get (x : Int) (l : List Int) (hl : l.length < 1000000) : ACalls Tryz.prog 103 [.one (u32 x), .one (eWords l)] (.tup [.agg (ePrt (getP x l).1), .one (i64 (getP x l).2)]) := by
  by_cases hx : x < 2 ∨ 9 < x
  · have e : getP x l = (prt0, 1) := by rw [getP, if_pos hx]
    rw [e]
    refine ACalls.intro (fn := Tryz.f103) Tryz.func103 rfl rfl (by simp [Tryz.f103]) ?_
    have hpl := p11_places
    have h2 : (x == 2) = false := beq_eq_false_iff_ne.2 (by omega)
    have h3 : (x == 3) = false := beq_eq_false_iff_ne.2 (by omega)
    have h4 : (x == 4) = false := beq_eq_false_iff_ne.2 (by omega)
    have h5 : (x == 5) = false := beq_eq_false_iff_ne.2 (by omega)
    have h6 : (x == 6) = false := beq_eq_false_iff_ne.2 (by omega)
    have h7 : (x == 7) = false := beq_eq_false_iff_ne.2 (by omega)
    have h8 : (x == 8) = false := beq_eq_false_iff_ne.2 (by omega)
    have h9 : (x == 9) = false := beq_eq_false_iff_ne.2 (by omega)
    unfold Tryz.f103
    simp only [prt0, rB, ePrt, plc, rawV, eWords, labsV, atsV] at *
    refine wk0 (And.intro h2 (And.intro h3 (And.intro h4 (And.intro h5 (And.intro h6 (And.intro h7 (And.intro h8 h9))))))) hpl trivial
  by_cases hs : (l.length : Int) = sizeP x
  · have e : getP x l = (fillP x l, 0) := by rw [getP, if_neg hx, if_neg (fun h => h hs)]
    rw [e]
    rcases label_cases x with rfl | rfl | rfl | rfl | rfl | rfl | rfl | rfl | h
    · obtain ⟨x0, x1, x2, x3, x4, rfl⟩ := len5 hs
      exact p11_get2 x0 x1 x2 x3 x4
    · obtain ⟨x0, x1, x2, rfl⟩ := len3 hs
      exact p11_get3 x0 x1 x2
    · obtain ⟨x0, rfl⟩ := len1 hs
      exact p11_get4 x0
    · obtain ⟨x0, rfl⟩ := len1 hs
      exact p11_get5 x0
    · obtain ⟨x0, x1, x2, x3, rfl⟩ := len4 hs
      exact p11_get6 x0 x1 x2 x3
    · obtain ⟨x0, x1, x2, x3, rfl⟩ := len4 hs
      exact p11_get7 x0 x1 x2 x3
    · obtain ⟨x0, x1, rfl⟩ := len2 hs
      exact p11_get8 x0 x1
    · obtain ⟨x0, x1, rfl⟩ := len2 hs
      exact p11_get9 x0 x1
    · exact absurd h hx
  have e : getP x l = (prt0, 2) := by rw [getP, if_neg hx, if_pos hs]
  rw [e]
  refine ACalls.intro (fn := Tryz.f103) Tryz.func103 rfl rfl (by simp [Tryz.f103]) ?_
  have hpl := p11_places
  unfold Tryz.f103
  rcases label_cases x with rfl | rfl | rfl | rfl | rfl | rfl | rfl | rfl | h
  · have hne : ((l.length : Int) != ((5 : Nat) : Int)) = true := bne_iff_ne.2 hs
    simp only [prt0, rB, ePrt, plc, rawV, eWords, labsV, atsV] at *
    refine wk0 hne hpl trivial
  · have hne : ((l.length : Int) != ((3 : Nat) : Int)) = true := bne_iff_ne.2 hs
    simp only [prt0, rB, ePrt, plc, rawV, eWords, labsV, atsV] at *
    refine wk0 hne hpl trivial
  · have hne : ((l.length : Int) != ((1 : Nat) : Int)) = true := bne_iff_ne.2 hs
    simp only [prt0, rB, ePrt, plc, rawV, eWords, labsV, atsV] at *
    refine wk0 hne hpl trivial
  · have hne : ((l.length : Int) != ((1 : Nat) : Int)) = true := bne_iff_ne.2 hs
    simp only [prt0, rB, ePrt, plc, rawV, eWords, labsV, atsV] at *
    refine wk0 hne hpl trivial
  · have hne : ((l.length : Int) != ((4 : Nat) : Int)) = true := bne_iff_ne.2 hs
    simp only [prt0, rB, ePrt, plc, rawV, eWords, labsV, atsV] at *
    refine wk0 hne hpl trivial
  · have hne : ((l.length : Int) != ((4 : Nat) : Int)) = true := bne_iff_ne.2 hs
    simp only [prt0, rB, ePrt, plc, rawV, eWords, labsV, atsV] at *
    refine wk0 hne hpl trivial
  · have hne : ((l.length : Int) != ((2 : Nat) : Int)) = true := bne_iff_ne.2 hs
    simp only [prt0, rB, ePrt, plc, rawV, eWords, labsV, atsV] at *
    refine wk0 hne hpl trivial
  · have hne : ((l.length : Int) != ((2 : Nat) : Int)) = true := bne_iff_ne.2 hs
    simp only [prt0, rB, ePrt, plc, rawV, eWords, labsV, atsV] at *
    refine wk0 hne hpl trivial
  · exact absurd h hx
end Go.Proofs.YtokifenilhlgbaaGreatDoor.Abs
end
section
/- The landed desk, over values without addresses: Draw, Seal, Open. -/
set_option linter.unusedSimpArgs false
set_option linter.unusedVariables false
set_option maxRecDepth 100000
namespace Go.Proofs.YtokifenilhlgbaaGreatDoor.Abs
open Go.RowKit
theorem p12_draw (w : Wld) (h : 0 ≤ w.draws.next ∧ w.draws.next < 1000000000) : ACalls Tryz.prog 59 [.agg (eWld w)] (.tup [.agg (eWld (drawW w)), .one (u32 (drawnW w))]) := by
  refine ACalls.intro (fn := Tryz.f59) Tryz.func59 rfl rfl (by simp [Tryz.f59]) ?_
  have hq := p04_take w.draws w.draws.next.toNat (by omega) (by omega)
  rw [show ((w.draws.next.toNat + 1 : Nat) : Int) = w.draws.next + 1 by omega] at hq
  unfold Tryz.f59
  simp only [eWld, drawW, drawnW, eDraws, eSealeds, eGrams, ePeople, eEvents, eRows, eWords, eLeaks] at *
  refine wk0 trivial hq trivial
set_option maxHeartbeats 4000000 in
theorem p12_seal (w : Wld) (key label : Int) (p : Prt) (h : Small w) (hb : rightB w.box = true) : ACalls Tryz.prog 60 [.agg (eWld w), .one (u32 key), .one (u32 label), .agg (ePrt p)] (.tup [.agg (eWld (sealW w key label p).1), .one (u32 (sealW w key label p).2.1), .one (i64 (sealW w key label p).2.2)]) := by
  refine ACalls.intro (fn := Tryz.f60) Tryz.func60 rfl rfl (by simp [Tryz.f60]) ?_
  have hp := p11_put label p
  have hd := p12_draw w h.next
  have hpl : (putP label p).1.length < 1000000 := by
    unfold putP; split
    · rcases label_cases label with rfl | rfl | rfl | rfl | rfl | rfl | rfl | rfl | hh <;> first | (rw [wordsP_none (by assumption)]; simp; done) | simp [wordsP]
    · simp
  have hr := right_room hb
  have hs := p07_seal 0 0 w.box (drawnW w) key label (putP label p).1 hr.1 hr.2.1 h.ent hpl
  have e2 : sealB w.box (drawnW w) key label (putP label p).1 = sealedW w key label p := rfl
  unfold sealC at hs
  rw [e2] at hs
  unfold Tryz.f60
  by_cases g1 : (putP label p).2 = 0
  · have g1' : ((putP label p).2 != 0) = false := by simp [g1]
    by_cases g2 : (sealedW w key label p).2 = 0
    · have g2' : ((sealedW w key label p).2 != 0) = false := by simp [g2]
      have e : sealW w key label p = ({ drawW w with box := (sealedW w key label p).1 }, drawnW w, 0) := by unfold sealW; rw [if_neg (by simp [g1]), if_neg (by simp [g2])]
      rw [e]
      rw [if_pos g2] at hs
      clear e e2 hpl hr
      generalize sealedW w key label p = b at *
      generalize putP label p = pp at *
      generalize drawnW w = dr at *
      simp only [eWld, drawW, eBox, eBoxC, ePrt, eSealeds, eGrams, ePeople, eEvents, eRows, eWords, eLeaks] at *
      refine wk0 (And.intro g1' g2') (And.intro hp (And.intro hd hs)) trivial
    · have g2' : ((sealedW w key label p).2 != 0) = true := by simp [g2]
      have e : sealW w key label p = (w, 0, (sealedW w key label p).2) := by unfold sealW; rw [if_neg (by simp [g1]), if_pos (by simp [g2])]
      rw [e]
      rw [if_neg g2] at hs
      clear e e2 hpl hr
      generalize sealedW w key label p = b at *
      generalize putP label p = pp at *
      generalize drawnW w = dr at *
      simp only [eWld, drawW, eBox, eBoxC, ePrt, eSealeds, eGrams, ePeople, eEvents, eRows, eWords, eLeaks] at *
      refine wk0 (And.intro g1' g2') (And.intro hp (And.intro hd hs)) trivial
  · have g1' : ((putP label p).2 != 0) = true := by simp [g1]
    have e : sealW w key label p = (w, 0, (putP label p).2) := by unfold sealW; rw [if_pos (by simp [g1])]
    rw [e]
    clear e e2 hpl hr hs hd
    generalize putP label p = pp at *
    simp only [eWld, drawW, eBox, eBoxC, ePrt, eSealeds, eGrams, ePeople, eEvents, eRows, eWords, eLeaks] at *
    refine wk0 g1' hp trivial
set_option maxHeartbeats 4000000 in
theorem p12_open (w : Wld) (key label handle : Int) (hb : rightB w.box = true) : ACalls Tryz.prog 84 [.agg (eWld w), .one (u32 key), .one (u32 label), .one (u32 handle)] (.tup [.agg (ePrt (openW w key label handle).1), .one (bl (openW w key label handle).2)]) := by
  refine ACalls.intro (fn := Tryz.f84) Tryz.func84 rfl rfl (by simp [Tryz.f84]) ?_
  have hl := right_len hb
  have ho := p07_open w.box key label handle (fun s hs => by have := hl.2 s hs; omega)
  rw [← open_eq hb] at ho
  have hol : (openB w.box key label handle).1.length < 1000000 := by
    unfold openB
    cases hf : w.box.entries.find? (fun s => s.handle == handle && s.key == key && s.label == label) with
    | none => simp
    | some s => have := hl.2 s (List.mem_of_find?_eq_some hf); simp only; omega
  have hg := p11_get label (openB w.box key label handle).1 hol
  clear hol hl
  unfold Tryz.f84
  unfold openW
  generalize hB : openB w.box key label handle = b at *
  obtain ⟨bl1, b2⟩ := b
  simp only at *
  have hz0 : (getP label bl1).2 ≠ 0 → (getP label bl1).1 = prt0 := by unfold getP; split <;> (try split) <;> simp
  generalize getP label bl1 = g at *
  obtain ⟨g1, g2⟩ := g
  simp only at *
  clear hB hb
  cases b2
  · rw [if_neg (by simp)]
    simp only [eWld, eBox, ePrt, prt0, eSealeds, eGrams, ePeople, eEvents, eRows, eWords, eLeaks] at *
    refine wk0 trivial ho trivial
  · by_cases hz : g2 = 0
    · have hz' : (g2 == 0) = true := by simp [hz]
      rw [if_pos ⟨rfl, hz⟩]
      simp only [eWld, eBox, ePrt, prt0, eSealeds, eGrams, ePeople, eEvents, eRows, eWords, eLeaks] at *
      refine wk0 hz' (And.intro ho hg) trivial
    · have hz' : (g2 == 0) = false := by simp [hz]
      obtain rfl := hz0 hz
      rw [if_neg (by simp [hz])]
      simp only [eWld, eBox, ePrt, prt0, eSealeds, eGrams, ePeople, eEvents, eRows, eWords, eLeaks] at *
      refine wk0 hz' (And.intro ho hg) trivial
end Go.Proofs.YtokifenilhlgbaaGreatDoor.Abs
end
section
/- The reference of layer wire, over values without addresses: Get. -/
set_option linter.unusedSimpArgs false
set_option linter.unusedVariables false
set_option maxRecDepth 100000
namespace Go.Proofs.YtokifenilhlgbaaGreatDoor.Abs
open Go.RowKit
def eFld (f : Fld) : List CV := [u32 f.1, eWords f.2]
def eFlds (l : List Fld) : CV := .row (l.map eFld)
end Go.Proofs.YtokifenilhlgbaaGreatDoor.Abs
end
section
/- The landed layer wire, over values without addresses: May, One, Put. -/
set_option linter.unusedSimpArgs false
set_option linter.unusedVariables false
set_option maxRecDepth 100000
namespace Go.Proofs.YtokifenilhlgbaaGreatDoor.Abs
open Go.RowKit
def tagB (t : Int) : Bool := decide (1 ≤ t ∧ t ≤ 255)
def fldB (f : Fld) : Bool := tagB f.1 && decide ((f.2.length : Int) ≤ 16)
theorem p02_tag (t : Int) : ACalls Tryz.prog 152 [.one (u32 t)] (rB (tagB t)) := by
  refine ACalls.intro (fn := Tryz.f152) Tryz.func152 rfl rfl (by simp [Tryz.f152]) ?_
  unfold Tryz.f152
  simp only [rB]
  repeat' (first
    | (refine hK _ _ ?_; clear hK hC; clear K C)
    | (refine hK _ _ rfl ?_; clear hK hC; clear K C)
    | (refine hK _ _ (by simp only [crs, crsI, alfO, alfL, Nat.reduceLT]; rfl) ?_; clear hK hC; clear K C)
    | (refine AW.seqR fun K C hK hC => ?_; simp only [go_sem, ↓reduceIte, reduceCtorEq, Nat.reduceLT, Nat.reduceEqDiff, Nat.reduceBEq, Nat.reduceAdd, Nat.reduceSub, Nat.reduceMul, Nat.reduceLeDiff, Int.reduceLE, Int.reduceLT, Int.reduceNeg, Int.reduceEq, Int.reduceBEq, Int.reduceBNe, Int.reduceToNat])
    | (refine AW.seqD rfl fun K C hK hC => ?_; simp only [go_sem, ↓reduceIte, reduceCtorEq, Nat.reduceLT, Nat.reduceEqDiff, Nat.reduceBEq, Nat.reduceAdd, Nat.reduceSub, Nat.reduceMul, Nat.reduceLeDiff, Int.reduceLE, Int.reduceLT, Int.reduceNeg, Int.reduceEq, Int.reduceBEq, Int.reduceBNe, Int.reduceToNat])
    | (refine AW.reg fun K C hK hC => ?_; simp only [go_sem, ↓reduceIte, reduceCtorEq, Nat.reduceLT, Nat.reduceEqDiff, Nat.reduceBEq, Nat.reduceAdd, Nat.reduceSub, Nat.reduceMul, Nat.reduceLeDiff, Int.reduceLE, Int.reduceLT, Int.reduceNeg, Int.reduceEq, Int.reduceBEq, Int.reduceBNe, Int.reduceToNat])
    | (refine AW.regD rfl fun K C hK hC => ?_; simp only [go_sem, ↓reduceIte, reduceCtorEq, Nat.reduceLT, Nat.reduceEqDiff, Nat.reduceBEq, Nat.reduceAdd, Nat.reduceSub, Nat.reduceMul, Nat.reduceLeDiff, Int.reduceLE, Int.reduceLT, Int.reduceNeg, Int.reduceEq, Int.reduceBEq, Int.reduceBNe, Int.reduceToNat])
    | refine AW.seqS ?_
    | (refine AW.ret ?_; simp only [go_sem, ↓reduceIte, reduceCtorEq, Nat.reduceLT, Nat.reduceEqDiff, Nat.reduceBEq, Nat.reduceAdd, Nat.reduceSub, Nat.reduceMul, Nat.reduceLeDiff, Int.reduceLE, Int.reduceLT, Int.reduceNeg, Int.reduceEq, Int.reduceBEq, Int.reduceBNe, Int.reduceToNat])
    | (refine AW.cond rfl (fun h => ?_) (fun h => ?_) <;> (try simp only [decide_eq_true_eq, decide_eq_false_iff_not, bne_iff_ne, beq_iff_eq, bne_eq_false_iff_eq, beq_eq_false_iff_ne, ne_eq, ge_iff_le, gt_iff_lt, Bool.not_eq_true, Bool.not_eq_false, Bool.not_not, Bool.not_true, Bool.not_false, Int.not_le, Int.not_lt, not_true_eq_false, not_false_eq_true, reduceCtorEq, Bool.false_eq_true, Bool.not_eq_true', Bool.not_eq_false'] at h) <;> first | (exfalso; omega) | skip)
    | refine AW.skip ?_
    | refine AW.seq ?_
    | refine AW.block ?_
    | (refine AW.exit ?_; simp only [go_sem, ↓reduceIte, reduceCtorEq, Nat.reduceLT, Nat.reduceEqDiff, Nat.reduceBEq, Nat.reduceAdd, Nat.reduceSub, Nat.reduceMul, Nat.reduceLeDiff, Int.reduceLE, Int.reduceLT, Int.reduceNeg, Int.reduceEq, Int.reduceBEq, Int.reduceBNe, Int.reduceToNat])
    | (refine ite_on (fun h => ?_) (fun h => ?_) <;> (try simp only [decide_eq_true_eq, decide_eq_false_iff_not, bne_iff_ne, beq_iff_eq, bne_eq_false_iff_eq, beq_eq_false_iff_ne, ne_eq, ge_iff_le, gt_iff_lt, Bool.not_eq_true, Bool.not_eq_false, Bool.not_not, Bool.not_true, Bool.not_false, Int.not_le, Int.not_lt, not_true_eq_false, not_false_eq_true, reduceCtorEq, Bool.false_eq_true, Bool.not_eq_true', Bool.not_eq_false'] at h) <;> first | (exfalso; omega) | skip)
    | rw [thenN]
    | rw [blockN]
    | rw [scopeN]
    | refine AW.scope ?_
    | refine AW.label ?_
    | refine And.intro ?_ ?_
    | refine lcons rfl ?_
    | exact lGram _
    | exact lSeen _
    | exact lWord _
    | exact lSealed _
    | exact lRun _
    | exact lPerson _
    | exact lEvent _
    | exact lLeak _
    | exact lNum _
    | exact lOprn _
    | exact in64 (by omega) (by omega)
    | exact in32 (by omega) (by omega)
    | omega)
  all_goals trace "W#0"
  all_goals (refine rB_eq ?_; simp only [tagB, decide_eq_true_eq, decide_eq_false_iff_not, Bool.false_eq_true, iff_false, false_iff, not_and, not_true_eq_false] at *; omega)
theorem p02_may (f : Fld) : ACalls Tryz.prog 147 [.agg (eFld f)] (rB (fldB f)) := by
  refine ACalls.intro (fn := Tryz.f147) Tryz.func147 rfl rfl (by simp [Tryz.f147]) ?_
  have hq := p02_tag f.1
  unfold Tryz.f147
  unfold fldB
  generalize tagB f.1 = b at *
  simp only [rB, eFld, eWords] at *
  cases b
  · repeat' (first
    | (refine hC ?_ ?_ ?_ ?_ ?_
       rotate_left
       · rfl
       · simp only [go_sem, ↓reduceIte, reduceCtorEq, Nat.reduceLT, Nat.reduceEqDiff, Nat.reduceBEq, Nat.reduceAdd, Nat.reduceSub, Nat.reduceMul, Nat.reduceLeDiff, Int.reduceLE, Int.reduceLT, Int.reduceNeg, Int.reduceEq, Int.reduceBEq, Int.reduceBNe, Int.reduceToNat]
       · simp only [go_sem, ↓reduceIte, reduceCtorEq, Nat.reduceLT, Nat.reduceEqDiff, Nat.reduceBEq, Nat.reduceAdd, Nat.reduceSub, Nat.reduceMul, Nat.reduceLeDiff, Int.reduceLE, Int.reduceLT, Int.reduceNeg, Int.reduceEq, Int.reduceBEq, Int.reduceBNe, Int.reduceToNat]
         first | (refine And.intro ?_ ?_; exact hq; first | exact trivial | (simp only [go_sem, ↓reduceIte, reduceCtorEq, Nat.reduceLT, Nat.reduceEqDiff, Nat.reduceBEq, Nat.reduceAdd, Nat.reduceSub, Nat.reduceMul, Nat.reduceLeDiff, Int.reduceLE, Int.reduceLT, Int.reduceNeg, Int.reduceEq, Int.reduceBEq, Int.reduceBNe, Int.reduceToNat]; done)) | (refine And.intro (ACalls.args (k := ?_) ?_ ?_) ?_; rotate_left; exact hq; repeat' (first | exact trivial | exact Or.inl ⟨rfl, rfl⟩ | exact Or.inr rfl | apply And.intro))
       simp only [go_sem, ↓reduceIte, reduceCtorEq, Nat.reduceLT, Nat.reduceEqDiff, Nat.reduceBEq, Nat.reduceAdd, Nat.reduceSub, Nat.reduceMul, Nat.reduceLeDiff, Int.reduceLE, Int.reduceLT, Int.reduceNeg, Int.reduceEq, Int.reduceBEq, Int.reduceBNe, Int.reduceToNat])
    | (refine hK _ _ ?_; clear hK hC; clear K C)
    | (refine hK _ _ rfl ?_; clear hK hC; clear K C)
    | (refine hK _ _ (by simp only [crs, crsI, alfO, alfL, Nat.reduceLT]; rfl) ?_; clear hK hC; clear K C)
    | (refine AW.seqR fun K C hK hC => ?_; simp only [go_sem, ↓reduceIte, reduceCtorEq, Nat.reduceLT, Nat.reduceEqDiff, Nat.reduceBEq, Nat.reduceAdd, Nat.reduceSub, Nat.reduceMul, Nat.reduceLeDiff, Int.reduceLE, Int.reduceLT, Int.reduceNeg, Int.reduceEq, Int.reduceBEq, Int.reduceBNe, Int.reduceToNat])
    | (refine AW.seqD rfl fun K C hK hC => ?_; simp only [go_sem, ↓reduceIte, reduceCtorEq, Nat.reduceLT, Nat.reduceEqDiff, Nat.reduceBEq, Nat.reduceAdd, Nat.reduceSub, Nat.reduceMul, Nat.reduceLeDiff, Int.reduceLE, Int.reduceLT, Int.reduceNeg, Int.reduceEq, Int.reduceBEq, Int.reduceBNe, Int.reduceToNat])
    | (refine AW.reg fun K C hK hC => ?_; simp only [go_sem, ↓reduceIte, reduceCtorEq, Nat.reduceLT, Nat.reduceEqDiff, Nat.reduceBEq, Nat.reduceAdd, Nat.reduceSub, Nat.reduceMul, Nat.reduceLeDiff, Int.reduceLE, Int.reduceLT, Int.reduceNeg, Int.reduceEq, Int.reduceBEq, Int.reduceBNe, Int.reduceToNat])
    | (refine AW.regD rfl fun K C hK hC => ?_; simp only [go_sem, ↓reduceIte, reduceCtorEq, Nat.reduceLT, Nat.reduceEqDiff, Nat.reduceBEq, Nat.reduceAdd, Nat.reduceSub, Nat.reduceMul, Nat.reduceLeDiff, Int.reduceLE, Int.reduceLT, Int.reduceNeg, Int.reduceEq, Int.reduceBEq, Int.reduceBNe, Int.reduceToNat])
    | refine AW.seqS ?_
    | (refine AW.ret ?_; simp only [go_sem, ↓reduceIte, reduceCtorEq, Nat.reduceLT, Nat.reduceEqDiff, Nat.reduceBEq, Nat.reduceAdd, Nat.reduceSub, Nat.reduceMul, Nat.reduceLeDiff, Int.reduceLE, Int.reduceLT, Int.reduceNeg, Int.reduceEq, Int.reduceBEq, Int.reduceBNe, Int.reduceToNat])
    | (refine AW.cond rfl (fun h => ?_) (fun h => ?_) <;> (try simp only [decide_eq_true_eq, decide_eq_false_iff_not, bne_iff_ne, beq_iff_eq, bne_eq_false_iff_eq, beq_eq_false_iff_ne, ne_eq, ge_iff_le, gt_iff_lt, Bool.not_eq_true, Bool.not_eq_false, Bool.not_not, Bool.not_true, Bool.not_false, Int.not_le, Int.not_lt, not_true_eq_false, not_false_eq_true, reduceCtorEq, Bool.false_eq_true, Bool.not_eq_true', Bool.not_eq_false'] at h) <;> first | (exfalso; omega) | skip)
    | refine AW.skip ?_
    | refine AW.seq ?_
    | refine AW.block ?_
    | (refine AW.exit ?_; simp only [go_sem, ↓reduceIte, reduceCtorEq, Nat.reduceLT, Nat.reduceEqDiff, Nat.reduceBEq, Nat.reduceAdd, Nat.reduceSub, Nat.reduceMul, Nat.reduceLeDiff, Int.reduceLE, Int.reduceLT, Int.reduceNeg, Int.reduceEq, Int.reduceBEq, Int.reduceBNe, Int.reduceToNat])
    | (refine ite_on (fun h => ?_) (fun h => ?_) <;> (try simp only [decide_eq_true_eq, decide_eq_false_iff_not, bne_iff_ne, beq_iff_eq, bne_eq_false_iff_eq, beq_eq_false_iff_ne, ne_eq, ge_iff_le, gt_iff_lt, Bool.not_eq_true, Bool.not_eq_false, Bool.not_not, Bool.not_true, Bool.not_false, Int.not_le, Int.not_lt, not_true_eq_false, not_false_eq_true, reduceCtorEq, Bool.false_eq_true, Bool.not_eq_true', Bool.not_eq_false'] at h) <;> first | (exfalso; omega) | skip)
    | rw [thenN]
    | rw [blockN]
    | rw [scopeN]
    | refine AW.scope ?_
    | refine AW.label ?_
    | refine And.intro ?_ ?_
    | refine lcons rfl ?_
    | exact lGram _
    | exact lSeen _
    | exact lWord _
    | exact lSealed _
    | exact lRun _
    | exact lPerson _
    | exact lEvent _
    | exact lLeak _
    | exact lNum _
    | exact lOprn _
    | exact in64 (by omega) (by omega)
    | exact in32 (by omega) (by omega)
    | omega)
    all_goals trace "W#1"
  · repeat' (first
    | (refine hC ?_ ?_ ?_ ?_ ?_
       rotate_left
       · rfl
       · simp only [go_sem, ↓reduceIte, reduceCtorEq, Nat.reduceLT, Nat.reduceEqDiff, Nat.reduceBEq, Nat.reduceAdd, Nat.reduceSub, Nat.reduceMul, Nat.reduceLeDiff, Int.reduceLE, Int.reduceLT, Int.reduceNeg, Int.reduceEq, Int.reduceBEq, Int.reduceBNe, Int.reduceToNat]
       · simp only [go_sem, ↓reduceIte, reduceCtorEq, Nat.reduceLT, Nat.reduceEqDiff, Nat.reduceBEq, Nat.reduceAdd, Nat.reduceSub, Nat.reduceMul, Nat.reduceLeDiff, Int.reduceLE, Int.reduceLT, Int.reduceNeg, Int.reduceEq, Int.reduceBEq, Int.reduceBNe, Int.reduceToNat]
         first | (refine And.intro ?_ ?_; exact hq; first | exact trivial | (simp only [go_sem, ↓reduceIte, reduceCtorEq, Nat.reduceLT, Nat.reduceEqDiff, Nat.reduceBEq, Nat.reduceAdd, Nat.reduceSub, Nat.reduceMul, Nat.reduceLeDiff, Int.reduceLE, Int.reduceLT, Int.reduceNeg, Int.reduceEq, Int.reduceBEq, Int.reduceBNe, Int.reduceToNat]; done)) | (refine And.intro (ACalls.args (k := ?_) ?_ ?_) ?_; rotate_left; exact hq; repeat' (first | exact trivial | exact Or.inl ⟨rfl, rfl⟩ | exact Or.inr rfl | apply And.intro))
       simp only [go_sem, ↓reduceIte, reduceCtorEq, Nat.reduceLT, Nat.reduceEqDiff, Nat.reduceBEq, Nat.reduceAdd, Nat.reduceSub, Nat.reduceMul, Nat.reduceLeDiff, Int.reduceLE, Int.reduceLT, Int.reduceNeg, Int.reduceEq, Int.reduceBEq, Int.reduceBNe, Int.reduceToNat])
    | (refine hK _ _ ?_; clear hK hC; clear K C)
    | (refine hK _ _ rfl ?_; clear hK hC; clear K C)
    | (refine hK _ _ (by simp only [crs, crsI, alfO, alfL, Nat.reduceLT]; rfl) ?_; clear hK hC; clear K C)
    | (refine AW.seqR fun K C hK hC => ?_; simp only [go_sem, ↓reduceIte, reduceCtorEq, Nat.reduceLT, Nat.reduceEqDiff, Nat.reduceBEq, Nat.reduceAdd, Nat.reduceSub, Nat.reduceMul, Nat.reduceLeDiff, Int.reduceLE, Int.reduceLT, Int.reduceNeg, Int.reduceEq, Int.reduceBEq, Int.reduceBNe, Int.reduceToNat])
    | (refine AW.seqD rfl fun K C hK hC => ?_; simp only [go_sem, ↓reduceIte, reduceCtorEq, Nat.reduceLT, Nat.reduceEqDiff, Nat.reduceBEq, Nat.reduceAdd, Nat.reduceSub, Nat.reduceMul, Nat.reduceLeDiff, Int.reduceLE, Int.reduceLT, Int.reduceNeg, Int.reduceEq, Int.reduceBEq, Int.reduceBNe, Int.reduceToNat])
    | (refine AW.reg fun K C hK hC => ?_; simp only [go_sem, ↓reduceIte, reduceCtorEq, Nat.reduceLT, Nat.reduceEqDiff, Nat.reduceBEq, Nat.reduceAdd, Nat.reduceSub, Nat.reduceMul, Nat.reduceLeDiff, Int.reduceLE, Int.reduceLT, Int.reduceNeg, Int.reduceEq, Int.reduceBEq, Int.reduceBNe, Int.reduceToNat])
    | (refine AW.regD rfl fun K C hK hC => ?_; simp only [go_sem, ↓reduceIte, reduceCtorEq, Nat.reduceLT, Nat.reduceEqDiff, Nat.reduceBEq, Nat.reduceAdd, Nat.reduceSub, Nat.reduceMul, Nat.reduceLeDiff, Int.reduceLE, Int.reduceLT, Int.reduceNeg, Int.reduceEq, Int.reduceBEq, Int.reduceBNe, Int.reduceToNat])
    | refine AW.seqS ?_
    | (refine AW.ret ?_; simp only [go_sem, ↓reduceIte, reduceCtorEq, Nat.reduceLT, Nat.reduceEqDiff, Nat.reduceBEq, Nat.reduceAdd, Nat.reduceSub, Nat.reduceMul, Nat.reduceLeDiff, Int.reduceLE, Int.reduceLT, Int.reduceNeg, Int.reduceEq, Int.reduceBEq, Int.reduceBNe, Int.reduceToNat])
    | (refine AW.cond rfl (fun h => ?_) (fun h => ?_) <;> (try simp only [decide_eq_true_eq, decide_eq_false_iff_not, bne_iff_ne, beq_iff_eq, bne_eq_false_iff_eq, beq_eq_false_iff_ne, ne_eq, ge_iff_le, gt_iff_lt, Bool.not_eq_true, Bool.not_eq_false, Bool.not_not, Bool.not_true, Bool.not_false, Int.not_le, Int.not_lt, not_true_eq_false, not_false_eq_true, reduceCtorEq, Bool.false_eq_true, Bool.not_eq_true', Bool.not_eq_false'] at h) <;> first | (exfalso; omega) | skip)
    | refine AW.skip ?_
    | refine AW.seq ?_
    | refine AW.block ?_
    | (refine AW.exit ?_; simp only [go_sem, ↓reduceIte, reduceCtorEq, Nat.reduceLT, Nat.reduceEqDiff, Nat.reduceBEq, Nat.reduceAdd, Nat.reduceSub, Nat.reduceMul, Nat.reduceLeDiff, Int.reduceLE, Int.reduceLT, Int.reduceNeg, Int.reduceEq, Int.reduceBEq, Int.reduceBNe, Int.reduceToNat])
    | (refine ite_on (fun h => ?_) (fun h => ?_) <;> (try simp only [decide_eq_true_eq, decide_eq_false_iff_not, bne_iff_ne, beq_iff_eq, bne_eq_false_iff_eq, beq_eq_false_iff_ne, ne_eq, ge_iff_le, gt_iff_lt, Bool.not_eq_true, Bool.not_eq_false, Bool.not_not, Bool.not_true, Bool.not_false, Int.not_le, Int.not_lt, not_true_eq_false, not_false_eq_true, reduceCtorEq, Bool.false_eq_true, Bool.not_eq_true', Bool.not_eq_false'] at h) <;> first | (exfalso; omega) | skip)
    | rw [thenN]
    | rw [blockN]
    | rw [scopeN]
    | refine AW.scope ?_
    | refine AW.label ?_
    | refine And.intro ?_ ?_
    | refine lcons rfl ?_
    | exact lGram _
    | exact lSeen _
    | exact lWord _
    | exact lSealed _
    | exact lRun _
    | exact lPerson _
    | exact lEvent _
    | exact lLeak _
    | exact lNum _
    | exact lOprn _
    | exact in64 (by omega) (by omega)
    | exact in32 (by omega) (by omega)
    | omega)
    all_goals trace "W#2"
theorem p02_copied (l : List Int) (h : l.length ≤ 1000000) : ACalls Tryz.prog 153 [.one (eWords l)] (.one (.one (eWords l))) := by
  refine ACalls.intro (fn := Tryz.f153) Tryz.func153 rfl rfl (by simp [Tryz.f153]) ?_
  have h1 : List.take l.length (l.map eWord) = l.map eWord := List.take_of_length_le (by simp)
  have h2 : List.drop l.length (List.replicate l.length [u32 0]) = [] := List.drop_of_length_le (by simp)
  unfold Tryz.f153
  simp only [eWords]
  repeat' (first
    | (refine hK _ _ ?_; clear hK hC; clear K C)
    | (refine hK _ _ rfl ?_; clear hK hC; clear K C)
    | (refine hK _ _ (by simp only [crs, crsI, alfO, alfL, Nat.reduceLT]; rfl) ?_; clear hK hC; clear K C)
    | (refine AW.seqR fun K C hK hC => ?_; simp only [go_sem, ↓reduceIte, reduceCtorEq, Nat.reduceLT, Nat.reduceEqDiff, Nat.reduceBEq, Nat.reduceAdd, Nat.reduceSub, Nat.reduceMul, Nat.reduceLeDiff, Int.reduceLE, Int.reduceLT, Int.reduceNeg, Int.reduceEq, Int.reduceBEq, Int.reduceBNe, Int.reduceToNat, h1, h2])
    | (refine AW.seqD rfl fun K C hK hC => ?_; simp only [go_sem, ↓reduceIte, reduceCtorEq, Nat.reduceLT, Nat.reduceEqDiff, Nat.reduceBEq, Nat.reduceAdd, Nat.reduceSub, Nat.reduceMul, Nat.reduceLeDiff, Int.reduceLE, Int.reduceLT, Int.reduceNeg, Int.reduceEq, Int.reduceBEq, Int.reduceBNe, Int.reduceToNat, h1, h2])
    | (refine AW.reg fun K C hK hC => ?_; simp only [go_sem, ↓reduceIte, reduceCtorEq, Nat.reduceLT, Nat.reduceEqDiff, Nat.reduceBEq, Nat.reduceAdd, Nat.reduceSub, Nat.reduceMul, Nat.reduceLeDiff, Int.reduceLE, Int.reduceLT, Int.reduceNeg, Int.reduceEq, Int.reduceBEq, Int.reduceBNe, Int.reduceToNat, h1, h2])
    | (refine AW.regD rfl fun K C hK hC => ?_; simp only [go_sem, ↓reduceIte, reduceCtorEq, Nat.reduceLT, Nat.reduceEqDiff, Nat.reduceBEq, Nat.reduceAdd, Nat.reduceSub, Nat.reduceMul, Nat.reduceLeDiff, Int.reduceLE, Int.reduceLT, Int.reduceNeg, Int.reduceEq, Int.reduceBEq, Int.reduceBNe, Int.reduceToNat, h1, h2])
    | refine AW.seqS ?_
    | (refine AW.ret ?_; simp only [go_sem, ↓reduceIte, reduceCtorEq, Nat.reduceLT, Nat.reduceEqDiff, Nat.reduceBEq, Nat.reduceAdd, Nat.reduceSub, Nat.reduceMul, Nat.reduceLeDiff, Int.reduceLE, Int.reduceLT, Int.reduceNeg, Int.reduceEq, Int.reduceBEq, Int.reduceBNe, Int.reduceToNat, h1, h2])
    | (refine AW.cond rfl (fun h => ?_) (fun h => ?_) <;> (try simp only [decide_eq_true_eq, decide_eq_false_iff_not, bne_iff_ne, beq_iff_eq, bne_eq_false_iff_eq, beq_eq_false_iff_ne, ne_eq, ge_iff_le, gt_iff_lt, Bool.not_eq_true, Bool.not_eq_false, Bool.not_not, Bool.not_true, Bool.not_false, Int.not_le, Int.not_lt, not_true_eq_false, not_false_eq_true, reduceCtorEq, Bool.false_eq_true, Bool.not_eq_true', Bool.not_eq_false'] at h) <;> first | (exfalso; omega) | skip)
    | refine AW.skip ?_
    | refine AW.seq ?_
    | refine AW.block ?_
    | (refine AW.exit ?_; simp only [go_sem, ↓reduceIte, reduceCtorEq, Nat.reduceLT, Nat.reduceEqDiff, Nat.reduceBEq, Nat.reduceAdd, Nat.reduceSub, Nat.reduceMul, Nat.reduceLeDiff, Int.reduceLE, Int.reduceLT, Int.reduceNeg, Int.reduceEq, Int.reduceBEq, Int.reduceBNe, Int.reduceToNat, h1, h2])
    | (refine ite_on (fun h => ?_) (fun h => ?_) <;> (try simp only [decide_eq_true_eq, decide_eq_false_iff_not, bne_iff_ne, beq_iff_eq, bne_eq_false_iff_eq, beq_eq_false_iff_ne, ne_eq, ge_iff_le, gt_iff_lt, Bool.not_eq_true, Bool.not_eq_false, Bool.not_not, Bool.not_true, Bool.not_false, Int.not_le, Int.not_lt, not_true_eq_false, not_false_eq_true, reduceCtorEq, Bool.false_eq_true, Bool.not_eq_true', Bool.not_eq_false'] at h) <;> first | (exfalso; omega) | skip)
    | rw [thenN]
    | rw [blockN]
    | rw [scopeN]
    | refine AW.scope ?_
    | refine AW.label ?_
    | refine And.intro ?_ ?_
    | refine lcons rfl ?_
    | exact lGram _
    | exact lSeen _
    | exact lWord _
    | exact lSealed _
    | exact lRun _
    | exact lPerson _
    | exact lEvent _
    | exact lLeak _
    | exact lNum _
    | exact lOprn _
    | exact in64 (by omega) (by omega)
    | exact in32 (by omega) (by omega)
    | omega)
  all_goals trace "W#3"
theorem p02_one (t : Int) (l : List Int) (h : l.length ≤ 1000000) : ACalls Tryz.prog 150 [.one (u32 t), .one (eWords l)] (.one (.agg (eFld (t, l)))) := by
  refine ACalls.intro (fn := Tryz.f150) Tryz.func150 rfl rfl (by simp [Tryz.f150]) ?_
  have hq := p02_copied l h
  unfold Tryz.f150
  simp only [eFld, eWords] at *
  repeat' (first
    | (refine hC ?_ ?_ ?_ ?_ ?_
       rotate_left
       · rfl
       · simp only [go_sem, ↓reduceIte, reduceCtorEq, Nat.reduceLT, Nat.reduceEqDiff, Nat.reduceBEq, Nat.reduceAdd, Nat.reduceSub, Nat.reduceMul, Nat.reduceLeDiff, Int.reduceLE, Int.reduceLT, Int.reduceNeg, Int.reduceEq, Int.reduceBEq, Int.reduceBNe, Int.reduceToNat]
       · simp only [go_sem, ↓reduceIte, reduceCtorEq, Nat.reduceLT, Nat.reduceEqDiff, Nat.reduceBEq, Nat.reduceAdd, Nat.reduceSub, Nat.reduceMul, Nat.reduceLeDiff, Int.reduceLE, Int.reduceLT, Int.reduceNeg, Int.reduceEq, Int.reduceBEq, Int.reduceBNe, Int.reduceToNat]
         first | (refine And.intro ?_ ?_; exact hq; first | exact trivial | (simp only [go_sem, ↓reduceIte, reduceCtorEq, Nat.reduceLT, Nat.reduceEqDiff, Nat.reduceBEq, Nat.reduceAdd, Nat.reduceSub, Nat.reduceMul, Nat.reduceLeDiff, Int.reduceLE, Int.reduceLT, Int.reduceNeg, Int.reduceEq, Int.reduceBEq, Int.reduceBNe, Int.reduceToNat]; done)) | (refine And.intro (ACalls.args (k := ?_) ?_ ?_) ?_; rotate_left; exact hq; repeat' (first | exact trivial | exact Or.inl ⟨rfl, rfl⟩ | exact Or.inr rfl | apply And.intro))
       simp only [go_sem, ↓reduceIte, reduceCtorEq, Nat.reduceLT, Nat.reduceEqDiff, Nat.reduceBEq, Nat.reduceAdd, Nat.reduceSub, Nat.reduceMul, Nat.reduceLeDiff, Int.reduceLE, Int.reduceLT, Int.reduceNeg, Int.reduceEq, Int.reduceBEq, Int.reduceBNe, Int.reduceToNat])
    | (refine hK _ _ ?_; clear hK hC; clear K C)
    | (refine hK _ _ rfl ?_; clear hK hC; clear K C)
    | (refine hK _ _ (by simp only [crs, crsI, alfO, alfL, Nat.reduceLT]; rfl) ?_; clear hK hC; clear K C)
    | (refine AW.seqR fun K C hK hC => ?_; simp only [go_sem, ↓reduceIte, reduceCtorEq, Nat.reduceLT, Nat.reduceEqDiff, Nat.reduceBEq, Nat.reduceAdd, Nat.reduceSub, Nat.reduceMul, Nat.reduceLeDiff, Int.reduceLE, Int.reduceLT, Int.reduceNeg, Int.reduceEq, Int.reduceBEq, Int.reduceBNe, Int.reduceToNat])
    | (refine AW.seqD rfl fun K C hK hC => ?_; simp only [go_sem, ↓reduceIte, reduceCtorEq, Nat.reduceLT, Nat.reduceEqDiff, Nat.reduceBEq, Nat.reduceAdd, Nat.reduceSub, Nat.reduceMul, Nat.reduceLeDiff, Int.reduceLE, Int.reduceLT, Int.reduceNeg, Int.reduceEq, Int.reduceBEq, Int.reduceBNe, Int.reduceToNat])
    | (refine AW.reg fun K C hK hC => ?_; simp only [go_sem, ↓reduceIte, reduceCtorEq, Nat.reduceLT, Nat.reduceEqDiff, Nat.reduceBEq, Nat.reduceAdd, Nat.reduceSub, Nat.reduceMul, Nat.reduceLeDiff, Int.reduceLE, Int.reduceLT, Int.reduceNeg, Int.reduceEq, Int.reduceBEq, Int.reduceBNe, Int.reduceToNat])
    | (refine AW.regD rfl fun K C hK hC => ?_; simp only [go_sem, ↓reduceIte, reduceCtorEq, Nat.reduceLT, Nat.reduceEqDiff, Nat.reduceBEq, Nat.reduceAdd, Nat.reduceSub, Nat.reduceMul, Nat.reduceLeDiff, Int.reduceLE, Int.reduceLT, Int.reduceNeg, Int.reduceEq, Int.reduceBEq, Int.reduceBNe, Int.reduceToNat])
    | refine AW.seqS ?_
    | (refine AW.ret ?_; simp only [go_sem, ↓reduceIte, reduceCtorEq, Nat.reduceLT, Nat.reduceEqDiff, Nat.reduceBEq, Nat.reduceAdd, Nat.reduceSub, Nat.reduceMul, Nat.reduceLeDiff, Int.reduceLE, Int.reduceLT, Int.reduceNeg, Int.reduceEq, Int.reduceBEq, Int.reduceBNe, Int.reduceToNat])
    | (refine AW.cond rfl (fun h => ?_) (fun h => ?_) <;> (try simp only [decide_eq_true_eq, decide_eq_false_iff_not, bne_iff_ne, beq_iff_eq, bne_eq_false_iff_eq, beq_eq_false_iff_ne, ne_eq, ge_iff_le, gt_iff_lt, Bool.not_eq_true, Bool.not_eq_false, Bool.not_not, Bool.not_true, Bool.not_false, Int.not_le, Int.not_lt, not_true_eq_false, not_false_eq_true, reduceCtorEq, Bool.false_eq_true, Bool.not_eq_true', Bool.not_eq_false'] at h) <;> first | (exfalso; omega) | skip)
    | refine AW.skip ?_
    | refine AW.seq ?_
    | refine AW.block ?_
    | (refine AW.exit ?_; simp only [go_sem, ↓reduceIte, reduceCtorEq, Nat.reduceLT, Nat.reduceEqDiff, Nat.reduceBEq, Nat.reduceAdd, Nat.reduceSub, Nat.reduceMul, Nat.reduceLeDiff, Int.reduceLE, Int.reduceLT, Int.reduceNeg, Int.reduceEq, Int.reduceBEq, Int.reduceBNe, Int.reduceToNat])
    | (refine ite_on (fun h => ?_) (fun h => ?_) <;> (try simp only [decide_eq_true_eq, decide_eq_false_iff_not, bne_iff_ne, beq_iff_eq, bne_eq_false_iff_eq, beq_eq_false_iff_ne, ne_eq, ge_iff_le, gt_iff_lt, Bool.not_eq_true, Bool.not_eq_false, Bool.not_not, Bool.not_true, Bool.not_false, Int.not_le, Int.not_lt, not_true_eq_false, not_false_eq_true, reduceCtorEq, Bool.false_eq_true, Bool.not_eq_true', Bool.not_eq_false'] at h) <;> first | (exfalso; omega) | skip)
    | rw [thenN]
    | rw [blockN]
    | rw [scopeN]
    | refine AW.scope ?_
    | refine AW.label ?_
    | refine And.intro ?_ ?_
    | refine lcons rfl ?_
    | exact lGram _
    | exact lSeen _
    | exact lWord _
    | exact lSealed _
    | exact lRun _
    | exact lPerson _
    | exact lEvent _
    | exact lLeak _
    | exact lNum _
    | exact lOprn _
    | exact in64 (by omega) (by omega)
    | exact in32 (by omega) (by omega)
    | omega)
  all_goals trace "W#4"
theorem flatF_next {F : List Fld} {k : Nat} {x : Fld} (hx : F[k]? = some x) : flatF (F.take (k + 1)) = flatF (F.take k) ++ wordsF1 x := by
  rw [List.take_add_one, hx]; simp [flatF]
theorem flatF_le {F : List Fld} (h : ∀ f ∈ F, f.2.length ≤ 16) : (flatF F).length ≤ 18 * F.length := by
  induction F with
  | nil => simp [flatF_nil]
  | cons f F ih =>
    have h1 := h f (by simp)
    have h2 := ih fun g hg => h g (by simp [hg])
    rw [flatF_cons]
    simp only [List.length_cons, List.length_append]
    omega
theorem p02_words (F : List Fld) (hl : F.length ≤ 1000) (h : ∀ f ∈ F, f.2.length ≤ 16) : ACalls Tryz.prog 148 [.one (eFlds F)] (rI ((flatF F).length : Nat)) := by
  refine ACalls.intro (fn := Tryz.f148) Tryz.func148 rfl rfl (by simp [Tryz.f148]) ?_
  unfold Tryz.f148
  simp only [eFlds, rI]
  repeat' (first
    | (refine hK _ _ ?_; clear hK hC; clear K C)
    | (refine hK _ _ rfl ?_; clear hK hC; clear K C)
    | (refine hK _ _ (by simp only [crs, crsI, alfO, alfL, Nat.reduceLT]; rfl) ?_; clear hK hC; clear K C)
    | (refine AW.seqR fun K C hK hC => ?_; simp only [go_sem, ↓reduceIte, reduceCtorEq, Nat.reduceLT, Nat.reduceEqDiff, Nat.reduceBEq, Nat.reduceAdd, Nat.reduceSub, Nat.reduceMul, Nat.reduceLeDiff, Int.reduceLE, Int.reduceLT, Int.reduceNeg, Int.reduceEq, Int.reduceBEq, Int.reduceBNe, Int.reduceToNat])
    | (refine AW.seqD rfl fun K C hK hC => ?_; simp only [go_sem, ↓reduceIte, reduceCtorEq, Nat.reduceLT, Nat.reduceEqDiff, Nat.reduceBEq, Nat.reduceAdd, Nat.reduceSub, Nat.reduceMul, Nat.reduceLeDiff, Int.reduceLE, Int.reduceLT, Int.reduceNeg, Int.reduceEq, Int.reduceBEq, Int.reduceBNe, Int.reduceToNat])
    | (refine AW.reg fun K C hK hC => ?_; simp only [go_sem, ↓reduceIte, reduceCtorEq, Nat.reduceLT, Nat.reduceEqDiff, Nat.reduceBEq, Nat.reduceAdd, Nat.reduceSub, Nat.reduceMul, Nat.reduceLeDiff, Int.reduceLE, Int.reduceLT, Int.reduceNeg, Int.reduceEq, Int.reduceBEq, Int.reduceBNe, Int.reduceToNat])
    | (refine AW.regD rfl fun K C hK hC => ?_; simp only [go_sem, ↓reduceIte, reduceCtorEq, Nat.reduceLT, Nat.reduceEqDiff, Nat.reduceBEq, Nat.reduceAdd, Nat.reduceSub, Nat.reduceMul, Nat.reduceLeDiff, Int.reduceLE, Int.reduceLT, Int.reduceNeg, Int.reduceEq, Int.reduceBEq, Int.reduceBNe, Int.reduceToNat])
    | refine AW.seqS ?_
    | (refine AW.ret ?_; simp only [go_sem, ↓reduceIte, reduceCtorEq, Nat.reduceLT, Nat.reduceEqDiff, Nat.reduceBEq, Nat.reduceAdd, Nat.reduceSub, Nat.reduceMul, Nat.reduceLeDiff, Int.reduceLE, Int.reduceLT, Int.reduceNeg, Int.reduceEq, Int.reduceBEq, Int.reduceBNe, Int.reduceToNat])
    | (refine AW.cond rfl (fun h => ?_) (fun h => ?_) <;> (try simp only [decide_eq_true_eq, decide_eq_false_iff_not, bne_iff_ne, beq_iff_eq, bne_eq_false_iff_eq, beq_eq_false_iff_ne, ne_eq, ge_iff_le, gt_iff_lt, Bool.not_eq_true, Bool.not_eq_false, Bool.not_not, Bool.not_true, Bool.not_false, Int.not_le, Int.not_lt, not_true_eq_false, not_false_eq_true, reduceCtorEq, Bool.false_eq_true, Bool.not_eq_true', Bool.not_eq_false'] at h) <;> first | (exfalso; omega) | skip)
    | refine AW.skip ?_
    | refine AW.seq ?_
    | refine AW.block ?_
    | (refine AW.exit ?_; simp only [go_sem, ↓reduceIte, reduceCtorEq, Nat.reduceLT, Nat.reduceEqDiff, Nat.reduceBEq, Nat.reduceAdd, Nat.reduceSub, Nat.reduceMul, Nat.reduceLeDiff, Int.reduceLE, Int.reduceLT, Int.reduceNeg, Int.reduceEq, Int.reduceBEq, Int.reduceBNe, Int.reduceToNat])
    | (refine ite_on (fun h => ?_) (fun h => ?_) <;> (try simp only [decide_eq_true_eq, decide_eq_false_iff_not, bne_iff_ne, beq_iff_eq, bne_eq_false_iff_eq, beq_eq_false_iff_ne, ne_eq, ge_iff_le, gt_iff_lt, Bool.not_eq_true, Bool.not_eq_false, Bool.not_not, Bool.not_true, Bool.not_false, Int.not_le, Int.not_lt, not_true_eq_false, not_false_eq_true, reduceCtorEq, Bool.false_eq_true, Bool.not_eq_true', Bool.not_eq_false'] at h) <;> first | (exfalso; omega) | skip)
    | rw [thenN]
    | rw [blockN]
    | rw [scopeN]
    | refine AW.scope ?_
    | refine AW.label ?_
    | refine And.intro ?_ ?_
    | refine lcons rfl ?_
    | exact lGram _
    | exact lSeen _
    | exact lWord _
    | exact lSealed _
    | exact lRun _
    | exact lPerson _
    | exact lEvent _
    | exact lLeak _
    | exact lNum _
    | exact lOprn _
    | exact in64 (by omega) (by omega)
    | exact in32 (by omega) (by omega)
    | omega)
  all_goals trace "W#5"
  refine AW.loopW (fun n σ => ∃ k : Nat, n = F.length - k ∧ k ≤ F.length ∧ σ = ⟨20, (upd (upd (upd (upd (fun _ => .junk) 3 (.one (.c (i64 ((flatF (F.take k)).length : Nat))))) 6 (.one (.c (.row (F.map eFld))))) 7 (.one (.c (i64 F.length)))) 8 (.one (.c (i64 k)))), (fun _ => none)⟩) (n := F.length) _ ⟨0, rfl, Nat.zero_le _, rfl⟩ (by simp only [List.take_zero, flatF_nil, List.length_nil]; (refine ⟨rfl, ?_, ?_, ?_⟩ <;> repeat' (first | exact LeT.junk | exact LeM.none | exact LiveM.none | refine LeT.nil0 (by simp only [go_sem, ↓reduceIte, reduceCtorEq, Nat.reduceLT, Nat.reduceEqDiff, Nat.reduceBEq, Nat.reduceAdd, Nat.reduceSub, Nat.reduceMul, Nat.reduceLeDiff, Int.reduceLE, Int.reduceLT, Int.reduceNeg, Int.reduceEq, Int.reduceBEq, Int.reduceBNe, Int.reduceToNat]; done) ?_ | refine LeT.same ?_ ?_ ?_ | refine LeM.same ?_ ?_ | refine LiveM.upd ?_ ?_ | trivial | (simp only [go_sem, ↓reduceIte, reduceCtorEq, Nat.reduceLT, Nat.reduceEqDiff, Nat.reduceBEq, Nat.reduceAdd, Nat.reduceSub, Nat.reduceMul, Nat.reduceLeDiff, Int.reduceLE, Int.reduceLT, Int.reduceNeg, Int.reduceEq, Int.reduceBEq, Int.reduceBNe, Int.reduceToNat]; done) | rfl))) ?_
  rintro n σ ⟨k, rfl, hk, rfl⟩
  by_cases hlt : k < F.length
  · obtain ⟨x, hx⟩ : ∃ x, F[k]? = some x := ⟨_, List.getElem?_eq_getElem hlt⟩
    have hs := wrapI (x := (k : Int) + 1) (by omega) (by omega)
    have hxl := h x (List.mem_of_getElem? hx)
    have h1 := flatF_le (F := F.take k) fun f hf => h f (List.mem_of_mem_take hf)
    rw [List.length_take] at h1
    have hn := flatF_next hx
    generalize hq : (flatF (F.take k)).length = q at *
    have hs2 := wrapI (x := 2 + (x.2.length : Int)) (by omega) (by omega)
    have hs3 := wrapI (x := (q : Int) + (2 + (x.2.length : Int))) (by omega) (by omega)
    repeat' (first
    | (refine hK _ _ ?_; clear hK hC; clear K C)
    | (refine hK _ _ rfl ?_; clear hK hC; clear K C)
    | (refine hK _ _ (by simp only [crs, crsI, alfO, alfL, Nat.reduceLT]; rfl) ?_; clear hK hC; clear K C)
    | (refine AW.seqR fun K C hK hC => ?_; simp only [go_sem, ↓reduceIte, reduceCtorEq, Nat.reduceLT, Nat.reduceEqDiff, Nat.reduceBEq, Nat.reduceAdd, Nat.reduceSub, Nat.reduceMul, Nat.reduceLeDiff, Int.reduceLE, Int.reduceLT, Int.reduceNeg, Int.reduceEq, Int.reduceBEq, Int.reduceBNe, Int.reduceToNat, hx, hlt, hs, hs2, hs3, eFld, eWords])
    | (refine AW.seqD rfl fun K C hK hC => ?_; simp only [go_sem, ↓reduceIte, reduceCtorEq, Nat.reduceLT, Nat.reduceEqDiff, Nat.reduceBEq, Nat.reduceAdd, Nat.reduceSub, Nat.reduceMul, Nat.reduceLeDiff, Int.reduceLE, Int.reduceLT, Int.reduceNeg, Int.reduceEq, Int.reduceBEq, Int.reduceBNe, Int.reduceToNat, hx, hlt, hs, hs2, hs3, eFld, eWords])
    | (refine AW.reg fun K C hK hC => ?_; simp only [go_sem, ↓reduceIte, reduceCtorEq, Nat.reduceLT, Nat.reduceEqDiff, Nat.reduceBEq, Nat.reduceAdd, Nat.reduceSub, Nat.reduceMul, Nat.reduceLeDiff, Int.reduceLE, Int.reduceLT, Int.reduceNeg, Int.reduceEq, Int.reduceBEq, Int.reduceBNe, Int.reduceToNat, hx, hlt, hs, hs2, hs3, eFld, eWords])
    | (refine AW.regD rfl fun K C hK hC => ?_; simp only [go_sem, ↓reduceIte, reduceCtorEq, Nat.reduceLT, Nat.reduceEqDiff, Nat.reduceBEq, Nat.reduceAdd, Nat.reduceSub, Nat.reduceMul, Nat.reduceLeDiff, Int.reduceLE, Int.reduceLT, Int.reduceNeg, Int.reduceEq, Int.reduceBEq, Int.reduceBNe, Int.reduceToNat, hx, hlt, hs, hs2, hs3, eFld, eWords])
    | refine AW.seqS ?_
    | (refine AW.ret ?_; simp only [go_sem, ↓reduceIte, reduceCtorEq, Nat.reduceLT, Nat.reduceEqDiff, Nat.reduceBEq, Nat.reduceAdd, Nat.reduceSub, Nat.reduceMul, Nat.reduceLeDiff, Int.reduceLE, Int.reduceLT, Int.reduceNeg, Int.reduceEq, Int.reduceBEq, Int.reduceBNe, Int.reduceToNat, hx, hlt, hs, hs2, hs3, eFld, eWords])
    | (refine AW.cond rfl (fun h => ?_) (fun h => ?_) <;> (try simp only [decide_eq_true_eq, decide_eq_false_iff_not, bne_iff_ne, beq_iff_eq, bne_eq_false_iff_eq, beq_eq_false_iff_ne, ne_eq, ge_iff_le, gt_iff_lt, Bool.not_eq_true, Bool.not_eq_false, Bool.not_not, Bool.not_true, Bool.not_false, Int.not_le, Int.not_lt, not_true_eq_false, not_false_eq_true, reduceCtorEq, Bool.false_eq_true, Bool.not_eq_true', Bool.not_eq_false'] at h) <;> first | (exfalso; omega) | skip)
    | refine AW.skip ?_
    | refine AW.seq ?_
    | refine AW.block ?_
    | (refine AW.exit ?_; simp only [go_sem, ↓reduceIte, reduceCtorEq, Nat.reduceLT, Nat.reduceEqDiff, Nat.reduceBEq, Nat.reduceAdd, Nat.reduceSub, Nat.reduceMul, Nat.reduceLeDiff, Int.reduceLE, Int.reduceLT, Int.reduceNeg, Int.reduceEq, Int.reduceBEq, Int.reduceBNe, Int.reduceToNat, hx, hlt, hs, hs2, hs3, eFld, eWords])
    | (refine ite_on (fun h => ?_) (fun h => ?_) <;> (try simp only [decide_eq_true_eq, decide_eq_false_iff_not, bne_iff_ne, beq_iff_eq, bne_eq_false_iff_eq, beq_eq_false_iff_ne, ne_eq, ge_iff_le, gt_iff_lt, Bool.not_eq_true, Bool.not_eq_false, Bool.not_not, Bool.not_true, Bool.not_false, Int.not_le, Int.not_lt, not_true_eq_false, not_false_eq_true, reduceCtorEq, Bool.false_eq_true, Bool.not_eq_true', Bool.not_eq_false'] at h) <;> first | (exfalso; omega) | skip)
    | rw [thenN]
    | rw [blockN]
    | rw [scopeN]
    | refine AW.scope ?_
    | refine AW.label ?_
    | refine And.intro ?_ ?_
    | refine lcons rfl ?_
    | exact lGram _
    | exact lSeen _
    | exact lWord _
    | exact lSealed _
    | exact lRun _
    | exact lPerson _
    | exact lEvent _
    | exact lLeak _
    | exact lNum _
    | exact lOprn _
    | exact in64 (by omega) (by omega)
    | exact in32 (by omega) (by omega)
    | omega)
    all_goals trace "W#6"
    refine ⟨F.length - (k + 1), by omega, _, ⟨k + 1, rfl, by omega, rfl⟩, ?_⟩
    have hc : (((flatF (F.take (k + 1))).length : Nat) : Int) = (q : Int) + (2 + (x.2.length : Int)) := by rw [hn]; simp [wordsF1, hq]; omega
    (refine ⟨rfl, ?_, ?_, ?_⟩ <;> repeat' (first | exact LeT.junk | exact LeM.none | exact LiveM.none | refine LeT.nil0 (by simp only [go_sem, ↓reduceIte, reduceCtorEq, Nat.reduceLT, Nat.reduceEqDiff, Nat.reduceBEq, Nat.reduceAdd, Nat.reduceSub, Nat.reduceMul, Nat.reduceLeDiff, Int.reduceLE, Int.reduceLT, Int.reduceNeg, Int.reduceEq, Int.reduceBEq, Int.reduceBNe, Int.reduceToNat, hc]; done) ?_ | refine LeT.same ?_ ?_ ?_ | refine LeM.same ?_ ?_ | refine LiveM.upd ?_ ?_ | trivial | (simp only [go_sem, ↓reduceIte, reduceCtorEq, Nat.reduceLT, Nat.reduceEqDiff, Nat.reduceBEq, Nat.reduceAdd, Nat.reduceSub, Nat.reduceMul, Nat.reduceLeDiff, Int.reduceLE, Int.reduceLT, Int.reduceNeg, Int.reduceEq, Int.reduceBEq, Int.reduceBNe, Int.reduceToNat, hc]; done) | rfl))
  · obtain rfl : k = F.length := by omega
    rw [List.take_length]
    repeat' (first
    | (refine hK _ _ ?_; clear hK hC; clear K C)
    | (refine hK _ _ rfl ?_; clear hK hC; clear K C)
    | (refine hK _ _ (by simp only [crs, crsI, alfO, alfL, Nat.reduceLT]; rfl) ?_; clear hK hC; clear K C)
    | (refine AW.seqR fun K C hK hC => ?_; simp only [go_sem, ↓reduceIte, reduceCtorEq, Nat.reduceLT, Nat.reduceEqDiff, Nat.reduceBEq, Nat.reduceAdd, Nat.reduceSub, Nat.reduceMul, Nat.reduceLeDiff, Int.reduceLE, Int.reduceLT, Int.reduceNeg, Int.reduceEq, Int.reduceBEq, Int.reduceBNe, Int.reduceToNat])
    | (refine AW.seqD rfl fun K C hK hC => ?_; simp only [go_sem, ↓reduceIte, reduceCtorEq, Nat.reduceLT, Nat.reduceEqDiff, Nat.reduceBEq, Nat.reduceAdd, Nat.reduceSub, Nat.reduceMul, Nat.reduceLeDiff, Int.reduceLE, Int.reduceLT, Int.reduceNeg, Int.reduceEq, Int.reduceBEq, Int.reduceBNe, Int.reduceToNat])
    | (refine AW.reg fun K C hK hC => ?_; simp only [go_sem, ↓reduceIte, reduceCtorEq, Nat.reduceLT, Nat.reduceEqDiff, Nat.reduceBEq, Nat.reduceAdd, Nat.reduceSub, Nat.reduceMul, Nat.reduceLeDiff, Int.reduceLE, Int.reduceLT, Int.reduceNeg, Int.reduceEq, Int.reduceBEq, Int.reduceBNe, Int.reduceToNat])
    | (refine AW.regD rfl fun K C hK hC => ?_; simp only [go_sem, ↓reduceIte, reduceCtorEq, Nat.reduceLT, Nat.reduceEqDiff, Nat.reduceBEq, Nat.reduceAdd, Nat.reduceSub, Nat.reduceMul, Nat.reduceLeDiff, Int.reduceLE, Int.reduceLT, Int.reduceNeg, Int.reduceEq, Int.reduceBEq, Int.reduceBNe, Int.reduceToNat])
    | refine AW.seqS ?_
    | (refine AW.ret ?_; simp only [go_sem, ↓reduceIte, reduceCtorEq, Nat.reduceLT, Nat.reduceEqDiff, Nat.reduceBEq, Nat.reduceAdd, Nat.reduceSub, Nat.reduceMul, Nat.reduceLeDiff, Int.reduceLE, Int.reduceLT, Int.reduceNeg, Int.reduceEq, Int.reduceBEq, Int.reduceBNe, Int.reduceToNat])
    | (refine AW.cond rfl (fun h => ?_) (fun h => ?_) <;> (try simp only [decide_eq_true_eq, decide_eq_false_iff_not, bne_iff_ne, beq_iff_eq, bne_eq_false_iff_eq, beq_eq_false_iff_ne, ne_eq, ge_iff_le, gt_iff_lt, Bool.not_eq_true, Bool.not_eq_false, Bool.not_not, Bool.not_true, Bool.not_false, Int.not_le, Int.not_lt, not_true_eq_false, not_false_eq_true, reduceCtorEq, Bool.false_eq_true, Bool.not_eq_true', Bool.not_eq_false'] at h) <;> first | (exfalso; omega) | skip)
    | refine AW.skip ?_
    | refine AW.seq ?_
    | refine AW.block ?_
    | (refine AW.exit ?_; simp only [go_sem, ↓reduceIte, reduceCtorEq, Nat.reduceLT, Nat.reduceEqDiff, Nat.reduceBEq, Nat.reduceAdd, Nat.reduceSub, Nat.reduceMul, Nat.reduceLeDiff, Int.reduceLE, Int.reduceLT, Int.reduceNeg, Int.reduceEq, Int.reduceBEq, Int.reduceBNe, Int.reduceToNat])
    | (refine ite_on (fun h => ?_) (fun h => ?_) <;> (try simp only [decide_eq_true_eq, decide_eq_false_iff_not, bne_iff_ne, beq_iff_eq, bne_eq_false_iff_eq, beq_eq_false_iff_ne, ne_eq, ge_iff_le, gt_iff_lt, Bool.not_eq_true, Bool.not_eq_false, Bool.not_not, Bool.not_true, Bool.not_false, Int.not_le, Int.not_lt, not_true_eq_false, not_false_eq_true, reduceCtorEq, Bool.false_eq_true, Bool.not_eq_true', Bool.not_eq_false'] at h) <;> first | (exfalso; omega) | skip)
    | rw [thenN]
    | rw [blockN]
    | rw [scopeN]
    | refine AW.scope ?_
    | refine AW.label ?_
    | refine And.intro ?_ ?_
    | refine lcons rfl ?_
    | exact lGram _
    | exact lSeen _
    | exact lWord _
    | exact lSealed _
    | exact lRun _
    | exact lPerson _
    | exact lEvent _
    | exact lLeak _
    | exact lNum _
    | exact lOprn _
    | exact in64 (by omega) (by omega)
    | exact in32 (by omega) (by omega)
    | omega)
    all_goals trace "W#7"
theorem p02_laid (F : List Fld) (hl : F.length ≤ 1000) (h : ∀ f ∈ F, f.2.length ≤ 16) : ACalls Tryz.prog 149 [.one (eFlds F)] (.one (.one (eWords (flatF F)))) := by
  refine ACalls.intro (fn := Tryz.f149) Tryz.func149 rfl rfl (by simp [Tryz.f149]) ?_
  have hw := p02_words F hl h
  have hle := flatF_le h
  unfold Tryz.f149
  generalize hN : (flatF F).length = N at hw
  simp only [eFlds, eWords, rI] at *
  have hN1 : N ≤ 1000000 := by omega
  repeat' (first
    | (refine hC ?_ ?_ ?_ ?_ ?_
       rotate_left
       · rfl
       · simp only [go_sem, ↓reduceIte, reduceCtorEq, Nat.reduceLT, Nat.reduceEqDiff, Nat.reduceBEq, Nat.reduceAdd, Nat.reduceSub, Nat.reduceMul, Nat.reduceLeDiff, Int.reduceLE, Int.reduceLT, Int.reduceNeg, Int.reduceEq, Int.reduceBEq, Int.reduceBNe, Int.reduceToNat]
       · simp only [go_sem, ↓reduceIte, reduceCtorEq, Nat.reduceLT, Nat.reduceEqDiff, Nat.reduceBEq, Nat.reduceAdd, Nat.reduceSub, Nat.reduceMul, Nat.reduceLeDiff, Int.reduceLE, Int.reduceLT, Int.reduceNeg, Int.reduceEq, Int.reduceBEq, Int.reduceBNe, Int.reduceToNat]
         first | (refine And.intro ?_ ?_; exact hw; first | exact trivial | (simp only [go_sem, ↓reduceIte, reduceCtorEq, Nat.reduceLT, Nat.reduceEqDiff, Nat.reduceBEq, Nat.reduceAdd, Nat.reduceSub, Nat.reduceMul, Nat.reduceLeDiff, Int.reduceLE, Int.reduceLT, Int.reduceNeg, Int.reduceEq, Int.reduceBEq, Int.reduceBNe, Int.reduceToNat]; done)) | (refine And.intro (ACalls.args (k := ?_) ?_ ?_) ?_; rotate_left; exact hw; repeat' (first | exact trivial | exact Or.inl ⟨rfl, rfl⟩ | exact Or.inr rfl | apply And.intro))
       simp only [go_sem, ↓reduceIte, reduceCtorEq, Nat.reduceLT, Nat.reduceEqDiff, Nat.reduceBEq, Nat.reduceAdd, Nat.reduceSub, Nat.reduceMul, Nat.reduceLeDiff, Int.reduceLE, Int.reduceLT, Int.reduceNeg, Int.reduceEq, Int.reduceBEq, Int.reduceBNe, Int.reduceToNat])
    | (refine hK _ _ ?_; clear hK hC; clear K C)
    | (refine hK _ _ rfl ?_; clear hK hC; clear K C)
    | (refine hK _ _ (by simp only [crs, crsI, alfO, alfL, Nat.reduceLT]; rfl) ?_; clear hK hC; clear K C)
    | (refine AW.seqR fun K C hK hC => ?_; simp only [go_sem, ↓reduceIte, reduceCtorEq, Nat.reduceLT, Nat.reduceEqDiff, Nat.reduceBEq, Nat.reduceAdd, Nat.reduceSub, Nat.reduceMul, Nat.reduceLeDiff, Int.reduceLE, Int.reduceLT, Int.reduceNeg, Int.reduceEq, Int.reduceBEq, Int.reduceBNe, Int.reduceToNat])
    | (refine AW.seqD rfl fun K C hK hC => ?_; simp only [go_sem, ↓reduceIte, reduceCtorEq, Nat.reduceLT, Nat.reduceEqDiff, Nat.reduceBEq, Nat.reduceAdd, Nat.reduceSub, Nat.reduceMul, Nat.reduceLeDiff, Int.reduceLE, Int.reduceLT, Int.reduceNeg, Int.reduceEq, Int.reduceBEq, Int.reduceBNe, Int.reduceToNat])
    | (refine AW.reg fun K C hK hC => ?_; simp only [go_sem, ↓reduceIte, reduceCtorEq, Nat.reduceLT, Nat.reduceEqDiff, Nat.reduceBEq, Nat.reduceAdd, Nat.reduceSub, Nat.reduceMul, Nat.reduceLeDiff, Int.reduceLE, Int.reduceLT, Int.reduceNeg, Int.reduceEq, Int.reduceBEq, Int.reduceBNe, Int.reduceToNat])
    | (refine AW.regD rfl fun K C hK hC => ?_; simp only [go_sem, ↓reduceIte, reduceCtorEq, Nat.reduceLT, Nat.reduceEqDiff, Nat.reduceBEq, Nat.reduceAdd, Nat.reduceSub, Nat.reduceMul, Nat.reduceLeDiff, Int.reduceLE, Int.reduceLT, Int.reduceNeg, Int.reduceEq, Int.reduceBEq, Int.reduceBNe, Int.reduceToNat])
    | refine AW.seqS ?_
    | (refine AW.ret ?_; simp only [go_sem, ↓reduceIte, reduceCtorEq, Nat.reduceLT, Nat.reduceEqDiff, Nat.reduceBEq, Nat.reduceAdd, Nat.reduceSub, Nat.reduceMul, Nat.reduceLeDiff, Int.reduceLE, Int.reduceLT, Int.reduceNeg, Int.reduceEq, Int.reduceBEq, Int.reduceBNe, Int.reduceToNat])
    | (refine AW.cond rfl (fun h => ?_) (fun h => ?_) <;> (try simp only [decide_eq_true_eq, decide_eq_false_iff_not, bne_iff_ne, beq_iff_eq, bne_eq_false_iff_eq, beq_eq_false_iff_ne, ne_eq, ge_iff_le, gt_iff_lt, Bool.not_eq_true, Bool.not_eq_false, Bool.not_not, Bool.not_true, Bool.not_false, Int.not_le, Int.not_lt, not_true_eq_false, not_false_eq_true, reduceCtorEq, Bool.false_eq_true, Bool.not_eq_true', Bool.not_eq_false'] at h) <;> first | (exfalso; omega) | skip)
    | refine AW.skip ?_
    | refine AW.seq ?_
    | refine AW.block ?_
    | (refine AW.exit ?_; simp only [go_sem, ↓reduceIte, reduceCtorEq, Nat.reduceLT, Nat.reduceEqDiff, Nat.reduceBEq, Nat.reduceAdd, Nat.reduceSub, Nat.reduceMul, Nat.reduceLeDiff, Int.reduceLE, Int.reduceLT, Int.reduceNeg, Int.reduceEq, Int.reduceBEq, Int.reduceBNe, Int.reduceToNat])
    | (refine ite_on (fun h => ?_) (fun h => ?_) <;> (try simp only [decide_eq_true_eq, decide_eq_false_iff_not, bne_iff_ne, beq_iff_eq, bne_eq_false_iff_eq, beq_eq_false_iff_ne, ne_eq, ge_iff_le, gt_iff_lt, Bool.not_eq_true, Bool.not_eq_false, Bool.not_not, Bool.not_true, Bool.not_false, Int.not_le, Int.not_lt, not_true_eq_false, not_false_eq_true, reduceCtorEq, Bool.false_eq_true, Bool.not_eq_true', Bool.not_eq_false'] at h) <;> first | (exfalso; omega) | skip)
    | rw [thenN]
    | rw [blockN]
    | rw [scopeN]
    | refine AW.scope ?_
    | refine AW.label ?_
    | refine And.intro ?_ ?_
    | refine lcons rfl ?_
    | exact lGram _
    | exact lSeen _
    | exact lWord _
    | exact lSealed _
    | exact lRun _
    | exact lPerson _
    | exact lEvent _
    | exact lLeak _
    | exact lNum _
    | exact lOprn _
    | exact in64 (by omega) (by omega)
    | exact in32 (by omega) (by omega)
    | omega)
  all_goals trace "W#8"
  refine AW.loopW (fun n σ => ∃ k : Nat, n = F.length - k ∧ k ≤ F.length ∧ σ = ⟨30, (upd (upd (upd (upd (fun _ => .junk) 3 (.one (.own 8 ((flatF (F.take k)).length)))) 9 (.one (.c (.row (F.map eFld))))) 10 (.one (.c (i64 F.length)))) 11 (.one (.c (i64 k)))), (upd (fun _ => none) 8 (some (.rows 22 1 ((flatF (F.take k)).map eWord))))⟩) (n := F.length) _ ⟨0, rfl, Nat.zero_le _, rfl⟩ (by simp only [List.take_zero, flatF_nil, List.length_nil, List.map_nil]; (refine ⟨rfl, ?_, ?_, ?_⟩ <;> repeat' (first | exact LeT.junk | exact LeM.none | exact LiveM.none | refine LeT.nil0 (by simp only [go_sem, ↓reduceIte, reduceCtorEq, Nat.reduceLT, Nat.reduceEqDiff, Nat.reduceBEq, Nat.reduceAdd, Nat.reduceSub, Nat.reduceMul, Nat.reduceLeDiff, Int.reduceLE, Int.reduceLT, Int.reduceNeg, Int.reduceEq, Int.reduceBEq, Int.reduceBNe, Int.reduceToNat]; done) ?_ | refine LeT.same ?_ ?_ ?_ | refine LeM.same ?_ ?_ | refine LiveM.upd ?_ ?_ | trivial | (simp only [go_sem, ↓reduceIte, reduceCtorEq, Nat.reduceLT, Nat.reduceEqDiff, Nat.reduceBEq, Nat.reduceAdd, Nat.reduceSub, Nat.reduceMul, Nat.reduceLeDiff, Int.reduceLE, Int.reduceLT, Int.reduceNeg, Int.reduceEq, Int.reduceBEq, Int.reduceBNe, Int.reduceToNat]; done) | rfl))) ?_
  rintro n σ ⟨k, rfl, hk, rfl⟩
  have h1 := flatF_le (F := F.take k) fun f hf => h f (List.mem_of_mem_take hf)
  rw [List.length_take] at h1
  by_cases hlt : k < F.length
  · obtain ⟨x, hx⟩ : ∃ x, F[k]? = some x := ⟨_, List.getElem?_eq_getElem hlt⟩
    have hs := wrapI (x := (k : Int) + 1) (by omega) (by omega)
    have hxl := h x (List.mem_of_getElem? hx)
    have hn := flatF_next hx
    have hw32 : IntKind.u32.wrap (x.2.length : Int) = (x.2.length : Int) := by rw [IntKind.wrap_u32]; omega
    repeat' (first
    | (refine hK _ _ ?_; clear hK hC; clear K C)
    | (refine hK _ _ rfl ?_; clear hK hC; clear K C)
    | (refine hK _ _ (by simp only [crs, crsI, alfO, alfL, Nat.reduceLT]; rfl) ?_; clear hK hC; clear K C)
    | (refine AW.seqR fun K C hK hC => ?_; simp only [go_sem, ↓reduceIte, reduceCtorEq, Nat.reduceLT, Nat.reduceEqDiff, Nat.reduceBEq, Nat.reduceAdd, Nat.reduceSub, Nat.reduceMul, Nat.reduceLeDiff, Int.reduceLE, Int.reduceLT, Int.reduceNeg, Int.reduceEq, Int.reduceBEq, Int.reduceBNe, Int.reduceToNat, hx, hlt, hs, hw32, eFld, eWords])
    | (refine AW.seqD rfl fun K C hK hC => ?_; simp only [go_sem, ↓reduceIte, reduceCtorEq, Nat.reduceLT, Nat.reduceEqDiff, Nat.reduceBEq, Nat.reduceAdd, Nat.reduceSub, Nat.reduceMul, Nat.reduceLeDiff, Int.reduceLE, Int.reduceLT, Int.reduceNeg, Int.reduceEq, Int.reduceBEq, Int.reduceBNe, Int.reduceToNat, hx, hlt, hs, hw32, eFld, eWords])
    | (refine AW.reg fun K C hK hC => ?_; simp only [go_sem, ↓reduceIte, reduceCtorEq, Nat.reduceLT, Nat.reduceEqDiff, Nat.reduceBEq, Nat.reduceAdd, Nat.reduceSub, Nat.reduceMul, Nat.reduceLeDiff, Int.reduceLE, Int.reduceLT, Int.reduceNeg, Int.reduceEq, Int.reduceBEq, Int.reduceBNe, Int.reduceToNat, hx, hlt, hs, hw32, eFld, eWords])
    | (refine AW.regD rfl fun K C hK hC => ?_; simp only [go_sem, ↓reduceIte, reduceCtorEq, Nat.reduceLT, Nat.reduceEqDiff, Nat.reduceBEq, Nat.reduceAdd, Nat.reduceSub, Nat.reduceMul, Nat.reduceLeDiff, Int.reduceLE, Int.reduceLT, Int.reduceNeg, Int.reduceEq, Int.reduceBEq, Int.reduceBNe, Int.reduceToNat, hx, hlt, hs, hw32, eFld, eWords])
    | refine AW.seqS ?_
    | (refine AW.ret ?_; simp only [go_sem, ↓reduceIte, reduceCtorEq, Nat.reduceLT, Nat.reduceEqDiff, Nat.reduceBEq, Nat.reduceAdd, Nat.reduceSub, Nat.reduceMul, Nat.reduceLeDiff, Int.reduceLE, Int.reduceLT, Int.reduceNeg, Int.reduceEq, Int.reduceBEq, Int.reduceBNe, Int.reduceToNat, hx, hlt, hs, hw32, eFld, eWords])
    | (refine AW.cond rfl (fun h => ?_) (fun h => ?_) <;> (try simp only [decide_eq_true_eq, decide_eq_false_iff_not, bne_iff_ne, beq_iff_eq, bne_eq_false_iff_eq, beq_eq_false_iff_ne, ne_eq, ge_iff_le, gt_iff_lt, Bool.not_eq_true, Bool.not_eq_false, Bool.not_not, Bool.not_true, Bool.not_false, Int.not_le, Int.not_lt, not_true_eq_false, not_false_eq_true, reduceCtorEq, Bool.false_eq_true, Bool.not_eq_true', Bool.not_eq_false'] at h) <;> first | (exfalso; omega) | skip)
    | refine AW.skip ?_
    | refine AW.seq ?_
    | refine AW.block ?_
    | (refine AW.exit ?_; simp only [go_sem, ↓reduceIte, reduceCtorEq, Nat.reduceLT, Nat.reduceEqDiff, Nat.reduceBEq, Nat.reduceAdd, Nat.reduceSub, Nat.reduceMul, Nat.reduceLeDiff, Int.reduceLE, Int.reduceLT, Int.reduceNeg, Int.reduceEq, Int.reduceBEq, Int.reduceBNe, Int.reduceToNat, hx, hlt, hs, hw32, eFld, eWords])
    | (refine ite_on (fun h => ?_) (fun h => ?_) <;> (try simp only [decide_eq_true_eq, decide_eq_false_iff_not, bne_iff_ne, beq_iff_eq, bne_eq_false_iff_eq, beq_eq_false_iff_ne, ne_eq, ge_iff_le, gt_iff_lt, Bool.not_eq_true, Bool.not_eq_false, Bool.not_not, Bool.not_true, Bool.not_false, Int.not_le, Int.not_lt, not_true_eq_false, not_false_eq_true, reduceCtorEq, Bool.false_eq_true, Bool.not_eq_true', Bool.not_eq_false'] at h) <;> first | (exfalso; omega) | skip)
    | rw [thenN]
    | rw [blockN]
    | rw [scopeN]
    | refine AW.scope ?_
    | refine AW.label ?_
    | refine And.intro ?_ ?_
    | refine lcons rfl ?_
    | exact lGram _
    | exact lSeen _
    | exact lWord _
    | exact lSealed _
    | exact lRun _
    | exact lPerson _
    | exact lEvent _
    | exact lLeak _
    | exact lNum _
    | exact lOprn _
    | exact in64 (by omega) (by omega)
    | exact in32 (by omega) (by omega)
    | omega)
    all_goals trace "W#9"
    all_goals first | (intro us hu; rcases hu with rfl | rfl <;> rfl) | skip
    refine ⟨F.length - (k + 1), by omega, _, ⟨k + 1, rfl, by omega, rfl⟩, ?_⟩
    rw [hn]
    simp only [wordsF1, eWord, List.map_append, List.map_cons, List.map_nil, List.length_append, List.length_cons, List.length_nil, List.append_assoc, List.cons_append, List.nil_append]
    have hc : (flatF (F.take k)).length + (x.2.length + 1 + 1) = (flatF (F.take k)).length + 2 + x.2.length := by omega
    (refine ⟨rfl, ?_, ?_, ?_⟩ <;> repeat' (first | exact LeT.junk | exact LeM.none | exact LiveM.none | refine LeT.nil0 (by simp only [go_sem, ↓reduceIte, reduceCtorEq, Nat.reduceLT, Nat.reduceEqDiff, Nat.reduceBEq, Nat.reduceAdd, Nat.reduceSub, Nat.reduceMul, Nat.reduceLeDiff, Int.reduceLE, Int.reduceLT, Int.reduceNeg, Int.reduceEq, Int.reduceBEq, Int.reduceBNe, Int.reduceToNat, hc, List.append_assoc]; done) ?_ | refine LeT.same ?_ ?_ ?_ | refine LeM.same ?_ ?_ | refine LiveM.upd ?_ ?_ | trivial | (simp only [go_sem, ↓reduceIte, reduceCtorEq, Nat.reduceLT, Nat.reduceEqDiff, Nat.reduceBEq, Nat.reduceAdd, Nat.reduceSub, Nat.reduceMul, Nat.reduceLeDiff, Int.reduceLE, Int.reduceLT, Int.reduceNeg, Int.reduceEq, Int.reduceBEq, Int.reduceBNe, Int.reduceToNat, hc, List.append_assoc]; done) | rfl))
  · obtain rfl : k = F.length := by omega
    rw [List.take_length]
    repeat' (first
    | (refine hK _ _ ?_; clear hK hC; clear K C)
    | (refine hK _ _ rfl ?_; clear hK hC; clear K C)
    | (refine hK _ _ (by simp only [crs, crsI, alfO, alfL, Nat.reduceLT]; rfl) ?_; clear hK hC; clear K C)
    | (refine AW.seqR fun K C hK hC => ?_; simp only [go_sem, ↓reduceIte, reduceCtorEq, Nat.reduceLT, Nat.reduceEqDiff, Nat.reduceBEq, Nat.reduceAdd, Nat.reduceSub, Nat.reduceMul, Nat.reduceLeDiff, Int.reduceLE, Int.reduceLT, Int.reduceNeg, Int.reduceEq, Int.reduceBEq, Int.reduceBNe, Int.reduceToNat])
    | (refine AW.seqD rfl fun K C hK hC => ?_; simp only [go_sem, ↓reduceIte, reduceCtorEq, Nat.reduceLT, Nat.reduceEqDiff, Nat.reduceBEq, Nat.reduceAdd, Nat.reduceSub, Nat.reduceMul, Nat.reduceLeDiff, Int.reduceLE, Int.reduceLT, Int.reduceNeg, Int.reduceEq, Int.reduceBEq, Int.reduceBNe, Int.reduceToNat])
    | (refine AW.reg fun K C hK hC => ?_; simp only [go_sem, ↓reduceIte, reduceCtorEq, Nat.reduceLT, Nat.reduceEqDiff, Nat.reduceBEq, Nat.reduceAdd, Nat.reduceSub, Nat.reduceMul, Nat.reduceLeDiff, Int.reduceLE, Int.reduceLT, Int.reduceNeg, Int.reduceEq, Int.reduceBEq, Int.reduceBNe, Int.reduceToNat])
    | (refine AW.regD rfl fun K C hK hC => ?_; simp only [go_sem, ↓reduceIte, reduceCtorEq, Nat.reduceLT, Nat.reduceEqDiff, Nat.reduceBEq, Nat.reduceAdd, Nat.reduceSub, Nat.reduceMul, Nat.reduceLeDiff, Int.reduceLE, Int.reduceLT, Int.reduceNeg, Int.reduceEq, Int.reduceBEq, Int.reduceBNe, Int.reduceToNat])
    | refine AW.seqS ?_
    | (refine AW.ret ?_; simp only [go_sem, ↓reduceIte, reduceCtorEq, Nat.reduceLT, Nat.reduceEqDiff, Nat.reduceBEq, Nat.reduceAdd, Nat.reduceSub, Nat.reduceMul, Nat.reduceLeDiff, Int.reduceLE, Int.reduceLT, Int.reduceNeg, Int.reduceEq, Int.reduceBEq, Int.reduceBNe, Int.reduceToNat])
    | (refine AW.cond rfl (fun h => ?_) (fun h => ?_) <;> (try simp only [decide_eq_true_eq, decide_eq_false_iff_not, bne_iff_ne, beq_iff_eq, bne_eq_false_iff_eq, beq_eq_false_iff_ne, ne_eq, ge_iff_le, gt_iff_lt, Bool.not_eq_true, Bool.not_eq_false, Bool.not_not, Bool.not_true, Bool.not_false, Int.not_le, Int.not_lt, not_true_eq_false, not_false_eq_true, reduceCtorEq, Bool.false_eq_true, Bool.not_eq_true', Bool.not_eq_false'] at h) <;> first | (exfalso; omega) | skip)
    | refine AW.skip ?_
    | refine AW.seq ?_
    | refine AW.block ?_
    | (refine AW.exit ?_; simp only [go_sem, ↓reduceIte, reduceCtorEq, Nat.reduceLT, Nat.reduceEqDiff, Nat.reduceBEq, Nat.reduceAdd, Nat.reduceSub, Nat.reduceMul, Nat.reduceLeDiff, Int.reduceLE, Int.reduceLT, Int.reduceNeg, Int.reduceEq, Int.reduceBEq, Int.reduceBNe, Int.reduceToNat])
    | (refine ite_on (fun h => ?_) (fun h => ?_) <;> (try simp only [decide_eq_true_eq, decide_eq_false_iff_not, bne_iff_ne, beq_iff_eq, bne_eq_false_iff_eq, beq_eq_false_iff_ne, ne_eq, ge_iff_le, gt_iff_lt, Bool.not_eq_true, Bool.not_eq_false, Bool.not_not, Bool.not_true, Bool.not_false, Int.not_le, Int.not_lt, not_true_eq_false, not_false_eq_true, reduceCtorEq, Bool.false_eq_true, Bool.not_eq_true', Bool.not_eq_false'] at h) <;> first | (exfalso; omega) | skip)
    | rw [thenN]
    | rw [blockN]
    | rw [scopeN]
    | refine AW.scope ?_
    | refine AW.label ?_
    | refine And.intro ?_ ?_
    | refine lcons rfl ?_
    | exact lGram _
    | exact lSeen _
    | exact lWord _
    | exact lSealed _
    | exact lRun _
    | exact lPerson _
    | exact lEvent _
    | exact lLeak _
    | exact lNum _
    | exact lOprn _
    | exact in64 (by omega) (by omega)
    | exact in32 (by omega) (by omega)
    | omega)
    all_goals trace "W#10"
def putWF (F : List Fld) : List Int × Int := if F.all fldB = false then ([], 2) else if 8 < F.length ∨ 64 < (flatF F).length then ([], 3) else (flatF F, 0)
theorem allF_next {l : List Fld} {k : Nat} {x : Fld} (ht : (l.take k).all fldB = true) (hx : l[k]? = some x) (hp : fldB x = true) : (l.take (k + 1)).all fldB = true := by
  rw [List.take_add_one, hx]; simp only [Option.toList_some, List.all_append, ht, List.all_cons, hp, List.all_nil, Bool.and_true]
theorem p02_put (F : List Fld) (hl : F.length ≤ 1000) : ACalls Tryz.prog 123 [.one (eFlds F)] (.tup [.one (eWords (putWF F).1), .one (i64 (putWF F).2)]) := by
  refine ACalls.intro (fn := Tryz.f123) Tryz.func123 rfl rfl (by simp [Tryz.f123]) ?_
  have hm := p02_may
  unfold Tryz.f123
  simp only [eFlds, eWords, rB] at *
  repeat' (first
    | (refine hK _ _ ?_; clear hK hC; clear K C)
    | (refine hK _ _ rfl ?_; clear hK hC; clear K C)
    | (refine hK _ _ (by simp only [crs, crsI, alfO, alfL, Nat.reduceLT]; rfl) ?_; clear hK hC; clear K C)
    | (refine AW.seqR fun K C hK hC => ?_; simp only [go_sem, ↓reduceIte, reduceCtorEq, Nat.reduceLT, Nat.reduceEqDiff, Nat.reduceBEq, Nat.reduceAdd, Nat.reduceSub, Nat.reduceMul, Nat.reduceLeDiff, Int.reduceLE, Int.reduceLT, Int.reduceNeg, Int.reduceEq, Int.reduceBEq, Int.reduceBNe, Int.reduceToNat])
    | (refine AW.seqD rfl fun K C hK hC => ?_; simp only [go_sem, ↓reduceIte, reduceCtorEq, Nat.reduceLT, Nat.reduceEqDiff, Nat.reduceBEq, Nat.reduceAdd, Nat.reduceSub, Nat.reduceMul, Nat.reduceLeDiff, Int.reduceLE, Int.reduceLT, Int.reduceNeg, Int.reduceEq, Int.reduceBEq, Int.reduceBNe, Int.reduceToNat])
    | (refine AW.reg fun K C hK hC => ?_; simp only [go_sem, ↓reduceIte, reduceCtorEq, Nat.reduceLT, Nat.reduceEqDiff, Nat.reduceBEq, Nat.reduceAdd, Nat.reduceSub, Nat.reduceMul, Nat.reduceLeDiff, Int.reduceLE, Int.reduceLT, Int.reduceNeg, Int.reduceEq, Int.reduceBEq, Int.reduceBNe, Int.reduceToNat])
    | (refine AW.regD rfl fun K C hK hC => ?_; simp only [go_sem, ↓reduceIte, reduceCtorEq, Nat.reduceLT, Nat.reduceEqDiff, Nat.reduceBEq, Nat.reduceAdd, Nat.reduceSub, Nat.reduceMul, Nat.reduceLeDiff, Int.reduceLE, Int.reduceLT, Int.reduceNeg, Int.reduceEq, Int.reduceBEq, Int.reduceBNe, Int.reduceToNat])
    | refine AW.seqS ?_
    | (refine AW.ret ?_; simp only [go_sem, ↓reduceIte, reduceCtorEq, Nat.reduceLT, Nat.reduceEqDiff, Nat.reduceBEq, Nat.reduceAdd, Nat.reduceSub, Nat.reduceMul, Nat.reduceLeDiff, Int.reduceLE, Int.reduceLT, Int.reduceNeg, Int.reduceEq, Int.reduceBEq, Int.reduceBNe, Int.reduceToNat])
    | (refine AW.cond rfl (fun h => ?_) (fun h => ?_) <;> (try simp only [decide_eq_true_eq, decide_eq_false_iff_not, bne_iff_ne, beq_iff_eq, bne_eq_false_iff_eq, beq_eq_false_iff_ne, ne_eq, ge_iff_le, gt_iff_lt, Bool.not_eq_true, Bool.not_eq_false, Bool.not_not, Bool.not_true, Bool.not_false, Int.not_le, Int.not_lt, not_true_eq_false, not_false_eq_true, reduceCtorEq, Bool.false_eq_true, Bool.not_eq_true', Bool.not_eq_false'] at h) <;> first | (exfalso; omega) | skip)
    | refine AW.skip ?_
    | refine AW.seq ?_
    | refine AW.block ?_
    | (refine AW.exit ?_; simp only [go_sem, ↓reduceIte, reduceCtorEq, Nat.reduceLT, Nat.reduceEqDiff, Nat.reduceBEq, Nat.reduceAdd, Nat.reduceSub, Nat.reduceMul, Nat.reduceLeDiff, Int.reduceLE, Int.reduceLT, Int.reduceNeg, Int.reduceEq, Int.reduceBEq, Int.reduceBNe, Int.reduceToNat])
    | (refine ite_on (fun h => ?_) (fun h => ?_) <;> (try simp only [decide_eq_true_eq, decide_eq_false_iff_not, bne_iff_ne, beq_iff_eq, bne_eq_false_iff_eq, beq_eq_false_iff_ne, ne_eq, ge_iff_le, gt_iff_lt, Bool.not_eq_true, Bool.not_eq_false, Bool.not_not, Bool.not_true, Bool.not_false, Int.not_le, Int.not_lt, not_true_eq_false, not_false_eq_true, reduceCtorEq, Bool.false_eq_true, Bool.not_eq_true', Bool.not_eq_false'] at h) <;> first | (exfalso; omega) | skip)
    | rw [thenN]
    | rw [blockN]
    | rw [scopeN]
    | refine AW.scope ?_
    | refine AW.label ?_
    | refine And.intro ?_ ?_
    | refine lcons rfl ?_
    | exact lGram _
    | exact lSeen _
    | exact lWord _
    | exact lSealed _
    | exact lRun _
    | exact lPerson _
    | exact lEvent _
    | exact lLeak _
    | exact lNum _
    | exact lOprn _
    | exact in64 (by omega) (by omega)
    | exact in32 (by omega) (by omega)
    | omega)
  all_goals trace "W#11"
  refine AW.loopW (fun n σ => ∃ k : Nat, n = F.length - k ∧ k ≤ F.length ∧ (F.take k).all fldB = true ∧ σ = ⟨24, (upd (upd (upd (upd (fun _ => .junk) 0 (.one (.c (.row (F.map eFld))))) 6 (.one (.c (.row (F.map eFld))))) 7 (.one (.c (i64 F.length)))) 8 (.one (.c (i64 k)))), (fun _ => none)⟩) (n := F.length) _ ⟨0, rfl, Nat.zero_le _, rfl, rfl⟩ (by (refine ⟨rfl, ?_, ?_, ?_⟩ <;> repeat' (first | exact LeT.junk | exact LeM.none | exact LiveM.none | refine LeT.nil0 (by simp only [go_sem, ↓reduceIte, reduceCtorEq, Nat.reduceLT, Nat.reduceEqDiff, Nat.reduceBEq, Nat.reduceAdd, Nat.reduceSub, Nat.reduceMul, Nat.reduceLeDiff, Int.reduceLE, Int.reduceLT, Int.reduceNeg, Int.reduceEq, Int.reduceBEq, Int.reduceBNe, Int.reduceToNat]; done) ?_ | refine LeT.same ?_ ?_ ?_ | refine LeM.same ?_ ?_ | refine LiveM.upd ?_ ?_ | trivial | (simp only [go_sem, ↓reduceIte, reduceCtorEq, Nat.reduceLT, Nat.reduceEqDiff, Nat.reduceBEq, Nat.reduceAdd, Nat.reduceSub, Nat.reduceMul, Nat.reduceLeDiff, Int.reduceLE, Int.reduceLT, Int.reduceNeg, Int.reduceEq, Int.reduceBEq, Int.reduceBNe, Int.reduceToNat]; done) | rfl))) ?_
  rintro n σ ⟨k, rfl, hk, ht, rfl⟩
  by_cases hlt : k < F.length
  · obtain ⟨x, hx⟩ : ∃ x, F[k]? = some x := ⟨_, List.getElem?_eq_getElem hlt⟩
    have hs := wrapI (x := (k : Int) + 1) (by omega) (by omega)
    have hq := hm x
    cases hb : fldB x
    · rw [hb] at hq
      have e : putWF F = ([], 2) := by
        unfold putWF
        rw [if_pos]
        rw [List.all_eq_false]
        exact ⟨x, List.mem_of_getElem? hx, by simp [hb]⟩
      rw [e]
      simp only [eFld, eWords] at hq
      repeat' (first
    | (refine hC ?_ ?_ ?_ ?_ ?_
       rotate_left
       · rfl
       · simp only [go_sem, ↓reduceIte, reduceCtorEq, Nat.reduceLT, Nat.reduceEqDiff, Nat.reduceBEq, Nat.reduceAdd, Nat.reduceSub, Nat.reduceMul, Nat.reduceLeDiff, Int.reduceLE, Int.reduceLT, Int.reduceNeg, Int.reduceEq, Int.reduceBEq, Int.reduceBNe, Int.reduceToNat, hx, hlt, eFld, eWords]
       · simp only [go_sem, ↓reduceIte, reduceCtorEq, Nat.reduceLT, Nat.reduceEqDiff, Nat.reduceBEq, Nat.reduceAdd, Nat.reduceSub, Nat.reduceMul, Nat.reduceLeDiff, Int.reduceLE, Int.reduceLT, Int.reduceNeg, Int.reduceEq, Int.reduceBEq, Int.reduceBNe, Int.reduceToNat, hx, hlt, eFld, eWords]
         first | (refine And.intro ?_ ?_; exact hq; first | exact trivial | (simp only [go_sem, ↓reduceIte, reduceCtorEq, Nat.reduceLT, Nat.reduceEqDiff, Nat.reduceBEq, Nat.reduceAdd, Nat.reduceSub, Nat.reduceMul, Nat.reduceLeDiff, Int.reduceLE, Int.reduceLT, Int.reduceNeg, Int.reduceEq, Int.reduceBEq, Int.reduceBNe, Int.reduceToNat, hx, hlt, eFld, eWords]; done)) | (refine And.intro (ACalls.args (k := ?_) ?_ ?_) ?_; rotate_left; exact hq; repeat' (first | exact trivial | exact Or.inl ⟨rfl, rfl⟩ | exact Or.inr rfl | apply And.intro))
       simp only [go_sem, ↓reduceIte, reduceCtorEq, Nat.reduceLT, Nat.reduceEqDiff, Nat.reduceBEq, Nat.reduceAdd, Nat.reduceSub, Nat.reduceMul, Nat.reduceLeDiff, Int.reduceLE, Int.reduceLT, Int.reduceNeg, Int.reduceEq, Int.reduceBEq, Int.reduceBNe, Int.reduceToNat, hx, hlt, eFld, eWords])
    | (refine hK _ _ ?_; clear hK hC; clear K C)
    | (refine hK _ _ rfl ?_; clear hK hC; clear K C)
    | (refine hK _ _ (by simp only [crs, crsI, alfO, alfL, Nat.reduceLT]; rfl) ?_; clear hK hC; clear K C)
    | (refine AW.seqR fun K C hK hC => ?_; simp only [go_sem, ↓reduceIte, reduceCtorEq, Nat.reduceLT, Nat.reduceEqDiff, Nat.reduceBEq, Nat.reduceAdd, Nat.reduceSub, Nat.reduceMul, Nat.reduceLeDiff, Int.reduceLE, Int.reduceLT, Int.reduceNeg, Int.reduceEq, Int.reduceBEq, Int.reduceBNe, Int.reduceToNat, hx, hlt, eFld, eWords])
    | (refine AW.seqD rfl fun K C hK hC => ?_; simp only [go_sem, ↓reduceIte, reduceCtorEq, Nat.reduceLT, Nat.reduceEqDiff, Nat.reduceBEq, Nat.reduceAdd, Nat.reduceSub, Nat.reduceMul, Nat.reduceLeDiff, Int.reduceLE, Int.reduceLT, Int.reduceNeg, Int.reduceEq, Int.reduceBEq, Int.reduceBNe, Int.reduceToNat, hx, hlt, eFld, eWords])
    | (refine AW.reg fun K C hK hC => ?_; simp only [go_sem, ↓reduceIte, reduceCtorEq, Nat.reduceLT, Nat.reduceEqDiff, Nat.reduceBEq, Nat.reduceAdd, Nat.reduceSub, Nat.reduceMul, Nat.reduceLeDiff, Int.reduceLE, Int.reduceLT, Int.reduceNeg, Int.reduceEq, Int.reduceBEq, Int.reduceBNe, Int.reduceToNat, hx, hlt, eFld, eWords])
    | (refine AW.regD rfl fun K C hK hC => ?_; simp only [go_sem, ↓reduceIte, reduceCtorEq, Nat.reduceLT, Nat.reduceEqDiff, Nat.reduceBEq, Nat.reduceAdd, Nat.reduceSub, Nat.reduceMul, Nat.reduceLeDiff, Int.reduceLE, Int.reduceLT, Int.reduceNeg, Int.reduceEq, Int.reduceBEq, Int.reduceBNe, Int.reduceToNat, hx, hlt, eFld, eWords])
    | refine AW.seqS ?_
    | (refine AW.ret ?_; simp only [go_sem, ↓reduceIte, reduceCtorEq, Nat.reduceLT, Nat.reduceEqDiff, Nat.reduceBEq, Nat.reduceAdd, Nat.reduceSub, Nat.reduceMul, Nat.reduceLeDiff, Int.reduceLE, Int.reduceLT, Int.reduceNeg, Int.reduceEq, Int.reduceBEq, Int.reduceBNe, Int.reduceToNat, hx, hlt, eFld, eWords])
    | (refine AW.cond rfl (fun h => ?_) (fun h => ?_) <;> (try simp only [decide_eq_true_eq, decide_eq_false_iff_not, bne_iff_ne, beq_iff_eq, bne_eq_false_iff_eq, beq_eq_false_iff_ne, ne_eq, ge_iff_le, gt_iff_lt, Bool.not_eq_true, Bool.not_eq_false, Bool.not_not, Bool.not_true, Bool.not_false, Int.not_le, Int.not_lt, not_true_eq_false, not_false_eq_true, reduceCtorEq, Bool.false_eq_true, Bool.not_eq_true', Bool.not_eq_false'] at h) <;> first | (exfalso; omega) | skip)
    | refine AW.skip ?_
    | refine AW.seq ?_
    | refine AW.block ?_
    | (refine AW.exit ?_; simp only [go_sem, ↓reduceIte, reduceCtorEq, Nat.reduceLT, Nat.reduceEqDiff, Nat.reduceBEq, Nat.reduceAdd, Nat.reduceSub, Nat.reduceMul, Nat.reduceLeDiff, Int.reduceLE, Int.reduceLT, Int.reduceNeg, Int.reduceEq, Int.reduceBEq, Int.reduceBNe, Int.reduceToNat, hx, hlt, eFld, eWords])
    | (refine ite_on (fun h => ?_) (fun h => ?_) <;> (try simp only [decide_eq_true_eq, decide_eq_false_iff_not, bne_iff_ne, beq_iff_eq, bne_eq_false_iff_eq, beq_eq_false_iff_ne, ne_eq, ge_iff_le, gt_iff_lt, Bool.not_eq_true, Bool.not_eq_false, Bool.not_not, Bool.not_true, Bool.not_false, Int.not_le, Int.not_lt, not_true_eq_false, not_false_eq_true, reduceCtorEq, Bool.false_eq_true, Bool.not_eq_true', Bool.not_eq_false'] at h) <;> first | (exfalso; omega) | skip)
    | rw [thenN]
    | rw [blockN]
    | rw [scopeN]
    | refine AW.scope ?_
    | refine AW.label ?_
    | refine And.intro ?_ ?_
    | refine lcons rfl ?_
    | exact lGram _
    | exact lSeen _
    | exact lWord _
    | exact lSealed _
    | exact lRun _
    | exact lPerson _
    | exact lEvent _
    | exact lLeak _
    | exact lNum _
    | exact lOprn _
    | exact in64 (by omega) (by omega)
    | exact in32 (by omega) (by omega)
    | omega)
      all_goals trace "W#12"
    · rw [hb] at hq
      simp only [eFld, eWords] at hq
      repeat' (first
    | (refine hC ?_ ?_ ?_ ?_ ?_
       rotate_left
       · rfl
       · simp only [go_sem, ↓reduceIte, reduceCtorEq, Nat.reduceLT, Nat.reduceEqDiff, Nat.reduceBEq, Nat.reduceAdd, Nat.reduceSub, Nat.reduceMul, Nat.reduceLeDiff, Int.reduceLE, Int.reduceLT, Int.reduceNeg, Int.reduceEq, Int.reduceBEq, Int.reduceBNe, Int.reduceToNat, hx, hlt, hs, eFld, eWords]
       · simp only [go_sem, ↓reduceIte, reduceCtorEq, Nat.reduceLT, Nat.reduceEqDiff, Nat.reduceBEq, Nat.reduceAdd, Nat.reduceSub, Nat.reduceMul, Nat.reduceLeDiff, Int.reduceLE, Int.reduceLT, Int.reduceNeg, Int.reduceEq, Int.reduceBEq, Int.reduceBNe, Int.reduceToNat, hx, hlt, hs, eFld, eWords]
         first | (refine And.intro ?_ ?_; exact hq; first | exact trivial | (simp only [go_sem, ↓reduceIte, reduceCtorEq, Nat.reduceLT, Nat.reduceEqDiff, Nat.reduceBEq, Nat.reduceAdd, Nat.reduceSub, Nat.reduceMul, Nat.reduceLeDiff, Int.reduceLE, Int.reduceLT, Int.reduceNeg, Int.reduceEq, Int.reduceBEq, Int.reduceBNe, Int.reduceToNat, hx, hlt, hs, eFld, eWords]; done)) | (refine And.intro (ACalls.args (k := ?_) ?_ ?_) ?_; rotate_left; exact hq; repeat' (first | exact trivial | exact Or.inl ⟨rfl, rfl⟩ | exact Or.inr rfl | apply And.intro))
       simp only [go_sem, ↓reduceIte, reduceCtorEq, Nat.reduceLT, Nat.reduceEqDiff, Nat.reduceBEq, Nat.reduceAdd, Nat.reduceSub, Nat.reduceMul, Nat.reduceLeDiff, Int.reduceLE, Int.reduceLT, Int.reduceNeg, Int.reduceEq, Int.reduceBEq, Int.reduceBNe, Int.reduceToNat, hx, hlt, hs, eFld, eWords])
    | (refine hK _ _ ?_; clear hK hC; clear K C)
    | (refine hK _ _ rfl ?_; clear hK hC; clear K C)
    | (refine hK _ _ (by simp only [crs, crsI, alfO, alfL, Nat.reduceLT]; rfl) ?_; clear hK hC; clear K C)
    | (refine AW.seqR fun K C hK hC => ?_; simp only [go_sem, ↓reduceIte, reduceCtorEq, Nat.reduceLT, Nat.reduceEqDiff, Nat.reduceBEq, Nat.reduceAdd, Nat.reduceSub, Nat.reduceMul, Nat.reduceLeDiff, Int.reduceLE, Int.reduceLT, Int.reduceNeg, Int.reduceEq, Int.reduceBEq, Int.reduceBNe, Int.reduceToNat, hx, hlt, hs, eFld, eWords])
    | (refine AW.seqD rfl fun K C hK hC => ?_; simp only [go_sem, ↓reduceIte, reduceCtorEq, Nat.reduceLT, Nat.reduceEqDiff, Nat.reduceBEq, Nat.reduceAdd, Nat.reduceSub, Nat.reduceMul, Nat.reduceLeDiff, Int.reduceLE, Int.reduceLT, Int.reduceNeg, Int.reduceEq, Int.reduceBEq, Int.reduceBNe, Int.reduceToNat, hx, hlt, hs, eFld, eWords])
    | (refine AW.reg fun K C hK hC => ?_; simp only [go_sem, ↓reduceIte, reduceCtorEq, Nat.reduceLT, Nat.reduceEqDiff, Nat.reduceBEq, Nat.reduceAdd, Nat.reduceSub, Nat.reduceMul, Nat.reduceLeDiff, Int.reduceLE, Int.reduceLT, Int.reduceNeg, Int.reduceEq, Int.reduceBEq, Int.reduceBNe, Int.reduceToNat, hx, hlt, hs, eFld, eWords])
    | (refine AW.regD rfl fun K C hK hC => ?_; simp only [go_sem, ↓reduceIte, reduceCtorEq, Nat.reduceLT, Nat.reduceEqDiff, Nat.reduceBEq, Nat.reduceAdd, Nat.reduceSub, Nat.reduceMul, Nat.reduceLeDiff, Int.reduceLE, Int.reduceLT, Int.reduceNeg, Int.reduceEq, Int.reduceBEq, Int.reduceBNe, Int.reduceToNat, hx, hlt, hs, eFld, eWords])
    | refine AW.seqS ?_
    | (refine AW.ret ?_; simp only [go_sem, ↓reduceIte, reduceCtorEq, Nat.reduceLT, Nat.reduceEqDiff, Nat.reduceBEq, Nat.reduceAdd, Nat.reduceSub, Nat.reduceMul, Nat.reduceLeDiff, Int.reduceLE, Int.reduceLT, Int.reduceNeg, Int.reduceEq, Int.reduceBEq, Int.reduceBNe, Int.reduceToNat, hx, hlt, hs, eFld, eWords])
    | (refine AW.cond rfl (fun h => ?_) (fun h => ?_) <;> (try simp only [decide_eq_true_eq, decide_eq_false_iff_not, bne_iff_ne, beq_iff_eq, bne_eq_false_iff_eq, beq_eq_false_iff_ne, ne_eq, ge_iff_le, gt_iff_lt, Bool.not_eq_true, Bool.not_eq_false, Bool.not_not, Bool.not_true, Bool.not_false, Int.not_le, Int.not_lt, not_true_eq_false, not_false_eq_true, reduceCtorEq, Bool.false_eq_true, Bool.not_eq_true', Bool.not_eq_false'] at h) <;> first | (exfalso; omega) | skip)
    | refine AW.skip ?_
    | refine AW.seq ?_
    | refine AW.block ?_
    | (refine AW.exit ?_; simp only [go_sem, ↓reduceIte, reduceCtorEq, Nat.reduceLT, Nat.reduceEqDiff, Nat.reduceBEq, Nat.reduceAdd, Nat.reduceSub, Nat.reduceMul, Nat.reduceLeDiff, Int.reduceLE, Int.reduceLT, Int.reduceNeg, Int.reduceEq, Int.reduceBEq, Int.reduceBNe, Int.reduceToNat, hx, hlt, hs, eFld, eWords])
    | (refine ite_on (fun h => ?_) (fun h => ?_) <;> (try simp only [decide_eq_true_eq, decide_eq_false_iff_not, bne_iff_ne, beq_iff_eq, bne_eq_false_iff_eq, beq_eq_false_iff_ne, ne_eq, ge_iff_le, gt_iff_lt, Bool.not_eq_true, Bool.not_eq_false, Bool.not_not, Bool.not_true, Bool.not_false, Int.not_le, Int.not_lt, not_true_eq_false, not_false_eq_true, reduceCtorEq, Bool.false_eq_true, Bool.not_eq_true', Bool.not_eq_false'] at h) <;> first | (exfalso; omega) | skip)
    | rw [thenN]
    | rw [blockN]
    | rw [scopeN]
    | refine AW.scope ?_
    | refine AW.label ?_
    | refine And.intro ?_ ?_
    | refine lcons rfl ?_
    | exact lGram _
    | exact lSeen _
    | exact lWord _
    | exact lSealed _
    | exact lRun _
    | exact lPerson _
    | exact lEvent _
    | exact lLeak _
    | exact lNum _
    | exact lOprn _
    | exact in64 (by omega) (by omega)
    | exact in32 (by omega) (by omega)
    | omega)
      all_goals trace "W#13"
      refine ⟨F.length - (k + 1), by omega, _, ⟨k + 1, rfl, by omega, allF_next ht hx hb, rfl⟩, ?_⟩
      (refine ⟨rfl, ?_, ?_, ?_⟩ <;> repeat' (first | exact LeT.junk | exact LeM.none | exact LiveM.none | refine LeT.nil0 (by simp only [go_sem, ↓reduceIte, reduceCtorEq, Nat.reduceLT, Nat.reduceEqDiff, Nat.reduceBEq, Nat.reduceAdd, Nat.reduceSub, Nat.reduceMul, Nat.reduceLeDiff, Int.reduceLE, Int.reduceLT, Int.reduceNeg, Int.reduceEq, Int.reduceBEq, Int.reduceBNe, Int.reduceToNat]; done) ?_ | refine LeT.same ?_ ?_ ?_ | refine LeM.same ?_ ?_ | refine LiveM.upd ?_ ?_ | trivial | (simp only [go_sem, ↓reduceIte, reduceCtorEq, Nat.reduceLT, Nat.reduceEqDiff, Nat.reduceBEq, Nat.reduceAdd, Nat.reduceSub, Nat.reduceMul, Nat.reduceLeDiff, Int.reduceLE, Int.reduceLT, Int.reduceNeg, Int.reduceEq, Int.reduceBEq, Int.reduceBNe, Int.reduceToNat]; done) | rfl))
  · obtain rfl : k = F.length := by omega
    rw [List.take_length] at ht
    have hd : ∀ f ∈ F, f.2.length ≤ 16 := fun f hf => by
      have := List.all_eq_true.1 ht f hf
      unfold fldB at this
      rw [Bool.and_eq_true, decide_eq_true_eq] at this
      omega
    have hw := p02_words F hl hd
    have hla := p02_laid F hl hd
    simp only [eFlds, eWords, rI] at hw hla
    unfold putWF
    rw [ht, if_neg (by decide)]
    by_cases h8 : (8 : Int) < (F.length : Int)
    · rw [if_pos (.inl (by omega))]
      repeat' (first
    | (refine hK _ _ ?_; clear hK hC; clear K C)
    | (refine hK _ _ rfl ?_; clear hK hC; clear K C)
    | (refine hK _ _ (by simp only [crs, crsI, alfO, alfL, Nat.reduceLT]; rfl) ?_; clear hK hC; clear K C)
    | (refine AW.seqR fun K C hK hC => ?_; simp only [go_sem, ↓reduceIte, reduceCtorEq, Nat.reduceLT, Nat.reduceEqDiff, Nat.reduceBEq, Nat.reduceAdd, Nat.reduceSub, Nat.reduceMul, Nat.reduceLeDiff, Int.reduceLE, Int.reduceLT, Int.reduceNeg, Int.reduceEq, Int.reduceBEq, Int.reduceBNe, Int.reduceToNat, h8])
    | (refine AW.seqD rfl fun K C hK hC => ?_; simp only [go_sem, ↓reduceIte, reduceCtorEq, Nat.reduceLT, Nat.reduceEqDiff, Nat.reduceBEq, Nat.reduceAdd, Nat.reduceSub, Nat.reduceMul, Nat.reduceLeDiff, Int.reduceLE, Int.reduceLT, Int.reduceNeg, Int.reduceEq, Int.reduceBEq, Int.reduceBNe, Int.reduceToNat, h8])
    | (refine AW.reg fun K C hK hC => ?_; simp only [go_sem, ↓reduceIte, reduceCtorEq, Nat.reduceLT, Nat.reduceEqDiff, Nat.reduceBEq, Nat.reduceAdd, Nat.reduceSub, Nat.reduceMul, Nat.reduceLeDiff, Int.reduceLE, Int.reduceLT, Int.reduceNeg, Int.reduceEq, Int.reduceBEq, Int.reduceBNe, Int.reduceToNat, h8])
    | (refine AW.regD rfl fun K C hK hC => ?_; simp only [go_sem, ↓reduceIte, reduceCtorEq, Nat.reduceLT, Nat.reduceEqDiff, Nat.reduceBEq, Nat.reduceAdd, Nat.reduceSub, Nat.reduceMul, Nat.reduceLeDiff, Int.reduceLE, Int.reduceLT, Int.reduceNeg, Int.reduceEq, Int.reduceBEq, Int.reduceBNe, Int.reduceToNat, h8])
    | refine AW.seqS ?_
    | (refine AW.ret ?_; simp only [go_sem, ↓reduceIte, reduceCtorEq, Nat.reduceLT, Nat.reduceEqDiff, Nat.reduceBEq, Nat.reduceAdd, Nat.reduceSub, Nat.reduceMul, Nat.reduceLeDiff, Int.reduceLE, Int.reduceLT, Int.reduceNeg, Int.reduceEq, Int.reduceBEq, Int.reduceBNe, Int.reduceToNat, h8])
    | (refine AW.cond rfl (fun h => ?_) (fun h => ?_) <;> (try simp only [decide_eq_true_eq, decide_eq_false_iff_not, bne_iff_ne, beq_iff_eq, bne_eq_false_iff_eq, beq_eq_false_iff_ne, ne_eq, ge_iff_le, gt_iff_lt, Bool.not_eq_true, Bool.not_eq_false, Bool.not_not, Bool.not_true, Bool.not_false, Int.not_le, Int.not_lt, not_true_eq_false, not_false_eq_true, reduceCtorEq, Bool.false_eq_true, Bool.not_eq_true', Bool.not_eq_false'] at h) <;> first | (exfalso; omega) | skip)
    | refine AW.skip ?_
    | refine AW.seq ?_
    | refine AW.block ?_
    | (refine AW.exit ?_; simp only [go_sem, ↓reduceIte, reduceCtorEq, Nat.reduceLT, Nat.reduceEqDiff, Nat.reduceBEq, Nat.reduceAdd, Nat.reduceSub, Nat.reduceMul, Nat.reduceLeDiff, Int.reduceLE, Int.reduceLT, Int.reduceNeg, Int.reduceEq, Int.reduceBEq, Int.reduceBNe, Int.reduceToNat, h8])
    | (refine ite_on (fun h => ?_) (fun h => ?_) <;> (try simp only [decide_eq_true_eq, decide_eq_false_iff_not, bne_iff_ne, beq_iff_eq, bne_eq_false_iff_eq, beq_eq_false_iff_ne, ne_eq, ge_iff_le, gt_iff_lt, Bool.not_eq_true, Bool.not_eq_false, Bool.not_not, Bool.not_true, Bool.not_false, Int.not_le, Int.not_lt, not_true_eq_false, not_false_eq_true, reduceCtorEq, Bool.false_eq_true, Bool.not_eq_true', Bool.not_eq_false'] at h) <;> first | (exfalso; omega) | skip)
    | rw [thenN]
    | rw [blockN]
    | rw [scopeN]
    | refine AW.scope ?_
    | refine AW.label ?_
    | refine And.intro ?_ ?_
    | refine lcons rfl ?_
    | exact lGram _
    | exact lSeen _
    | exact lWord _
    | exact lSealed _
    | exact lRun _
    | exact lPerson _
    | exact lEvent _
    | exact lLeak _
    | exact lNum _
    | exact lOprn _
    | exact in64 (by omega) (by omega)
    | exact in32 (by omega) (by omega)
    | omega)
      all_goals trace "W#14"
    · by_cases h64 : (64 : Int) < (((flatF F).length : Nat) : Int)
      · rw [if_pos (.inr (by omega))]
        repeat' (first
    | (refine hC ?_ ?_ ?_ ?_ ?_
       rotate_left
       · rfl
       · simp only [go_sem, ↓reduceIte, reduceCtorEq, Nat.reduceLT, Nat.reduceEqDiff, Nat.reduceBEq, Nat.reduceAdd, Nat.reduceSub, Nat.reduceMul, Nat.reduceLeDiff, Int.reduceLE, Int.reduceLT, Int.reduceNeg, Int.reduceEq, Int.reduceBEq, Int.reduceBNe, Int.reduceToNat, h8, h64]
       · simp only [go_sem, ↓reduceIte, reduceCtorEq, Nat.reduceLT, Nat.reduceEqDiff, Nat.reduceBEq, Nat.reduceAdd, Nat.reduceSub, Nat.reduceMul, Nat.reduceLeDiff, Int.reduceLE, Int.reduceLT, Int.reduceNeg, Int.reduceEq, Int.reduceBEq, Int.reduceBNe, Int.reduceToNat, h8, h64]
         first | (refine And.intro ?_ ?_; exact hw; first | exact trivial | (simp only [go_sem, ↓reduceIte, reduceCtorEq, Nat.reduceLT, Nat.reduceEqDiff, Nat.reduceBEq, Nat.reduceAdd, Nat.reduceSub, Nat.reduceMul, Nat.reduceLeDiff, Int.reduceLE, Int.reduceLT, Int.reduceNeg, Int.reduceEq, Int.reduceBEq, Int.reduceBNe, Int.reduceToNat, h8, h64]; done)) | (refine And.intro (ACalls.args (k := ?_) ?_ ?_) ?_; rotate_left; exact hw; repeat' (first | exact trivial | exact Or.inl ⟨rfl, rfl⟩ | exact Or.inr rfl | apply And.intro))
       simp only [go_sem, ↓reduceIte, reduceCtorEq, Nat.reduceLT, Nat.reduceEqDiff, Nat.reduceBEq, Nat.reduceAdd, Nat.reduceSub, Nat.reduceMul, Nat.reduceLeDiff, Int.reduceLE, Int.reduceLT, Int.reduceNeg, Int.reduceEq, Int.reduceBEq, Int.reduceBNe, Int.reduceToNat, h8, h64])
    | (refine hK _ _ ?_; clear hK hC; clear K C)
    | (refine hK _ _ rfl ?_; clear hK hC; clear K C)
    | (refine hK _ _ (by simp only [crs, crsI, alfO, alfL, Nat.reduceLT]; rfl) ?_; clear hK hC; clear K C)
    | (refine AW.seqR fun K C hK hC => ?_; simp only [go_sem, ↓reduceIte, reduceCtorEq, Nat.reduceLT, Nat.reduceEqDiff, Nat.reduceBEq, Nat.reduceAdd, Nat.reduceSub, Nat.reduceMul, Nat.reduceLeDiff, Int.reduceLE, Int.reduceLT, Int.reduceNeg, Int.reduceEq, Int.reduceBEq, Int.reduceBNe, Int.reduceToNat, h8, h64])
    | (refine AW.seqD rfl fun K C hK hC => ?_; simp only [go_sem, ↓reduceIte, reduceCtorEq, Nat.reduceLT, Nat.reduceEqDiff, Nat.reduceBEq, Nat.reduceAdd, Nat.reduceSub, Nat.reduceMul, Nat.reduceLeDiff, Int.reduceLE, Int.reduceLT, Int.reduceNeg, Int.reduceEq, Int.reduceBEq, Int.reduceBNe, Int.reduceToNat, h8, h64])
    | (refine AW.reg fun K C hK hC => ?_; simp only [go_sem, ↓reduceIte, reduceCtorEq, Nat.reduceLT, Nat.reduceEqDiff, Nat.reduceBEq, Nat.reduceAdd, Nat.reduceSub, Nat.reduceMul, Nat.reduceLeDiff, Int.reduceLE, Int.reduceLT, Int.reduceNeg, Int.reduceEq, Int.reduceBEq, Int.reduceBNe, Int.reduceToNat, h8, h64])
    | (refine AW.regD rfl fun K C hK hC => ?_; simp only [go_sem, ↓reduceIte, reduceCtorEq, Nat.reduceLT, Nat.reduceEqDiff, Nat.reduceBEq, Nat.reduceAdd, Nat.reduceSub, Nat.reduceMul, Nat.reduceLeDiff, Int.reduceLE, Int.reduceLT, Int.reduceNeg, Int.reduceEq, Int.reduceBEq, Int.reduceBNe, Int.reduceToNat, h8, h64])
    | refine AW.seqS ?_
    | (refine AW.ret ?_; simp only [go_sem, ↓reduceIte, reduceCtorEq, Nat.reduceLT, Nat.reduceEqDiff, Nat.reduceBEq, Nat.reduceAdd, Nat.reduceSub, Nat.reduceMul, Nat.reduceLeDiff, Int.reduceLE, Int.reduceLT, Int.reduceNeg, Int.reduceEq, Int.reduceBEq, Int.reduceBNe, Int.reduceToNat, h8, h64])
    | (refine AW.cond rfl (fun h => ?_) (fun h => ?_) <;> (try simp only [decide_eq_true_eq, decide_eq_false_iff_not, bne_iff_ne, beq_iff_eq, bne_eq_false_iff_eq, beq_eq_false_iff_ne, ne_eq, ge_iff_le, gt_iff_lt, Bool.not_eq_true, Bool.not_eq_false, Bool.not_not, Bool.not_true, Bool.not_false, Int.not_le, Int.not_lt, not_true_eq_false, not_false_eq_true, reduceCtorEq, Bool.false_eq_true, Bool.not_eq_true', Bool.not_eq_false'] at h) <;> first | (exfalso; omega) | skip)
    | refine AW.skip ?_
    | refine AW.seq ?_
    | refine AW.block ?_
    | (refine AW.exit ?_; simp only [go_sem, ↓reduceIte, reduceCtorEq, Nat.reduceLT, Nat.reduceEqDiff, Nat.reduceBEq, Nat.reduceAdd, Nat.reduceSub, Nat.reduceMul, Nat.reduceLeDiff, Int.reduceLE, Int.reduceLT, Int.reduceNeg, Int.reduceEq, Int.reduceBEq, Int.reduceBNe, Int.reduceToNat, h8, h64])
    | (refine ite_on (fun h => ?_) (fun h => ?_) <;> (try simp only [decide_eq_true_eq, decide_eq_false_iff_not, bne_iff_ne, beq_iff_eq, bne_eq_false_iff_eq, beq_eq_false_iff_ne, ne_eq, ge_iff_le, gt_iff_lt, Bool.not_eq_true, Bool.not_eq_false, Bool.not_not, Bool.not_true, Bool.not_false, Int.not_le, Int.not_lt, not_true_eq_false, not_false_eq_true, reduceCtorEq, Bool.false_eq_true, Bool.not_eq_true', Bool.not_eq_false'] at h) <;> first | (exfalso; omega) | skip)
    | rw [thenN]
    | rw [blockN]
    | rw [scopeN]
    | refine AW.scope ?_
    | refine AW.label ?_
    | refine And.intro ?_ ?_
    | refine lcons rfl ?_
    | exact lGram _
    | exact lSeen _
    | exact lWord _
    | exact lSealed _
    | exact lRun _
    | exact lPerson _
    | exact lEvent _
    | exact lLeak _
    | exact lNum _
    | exact lOprn _
    | exact in64 (by omega) (by omega)
    | exact in32 (by omega) (by omega)
    | omega)
        all_goals trace "W#15"
      · rw [if_neg (by omega)]
        repeat' (first
    | (refine hC ?_ ?_ ?_ ?_ ?_
       rotate_left
       · rfl
       · simp only [go_sem, ↓reduceIte, reduceCtorEq, Nat.reduceLT, Nat.reduceEqDiff, Nat.reduceBEq, Nat.reduceAdd, Nat.reduceSub, Nat.reduceMul, Nat.reduceLeDiff, Int.reduceLE, Int.reduceLT, Int.reduceNeg, Int.reduceEq, Int.reduceBEq, Int.reduceBNe, Int.reduceToNat, h8, h64]
       · simp only [go_sem, ↓reduceIte, reduceCtorEq, Nat.reduceLT, Nat.reduceEqDiff, Nat.reduceBEq, Nat.reduceAdd, Nat.reduceSub, Nat.reduceMul, Nat.reduceLeDiff, Int.reduceLE, Int.reduceLT, Int.reduceNeg, Int.reduceEq, Int.reduceBEq, Int.reduceBNe, Int.reduceToNat, h8, h64]
         first | (refine And.intro ?_ ?_; exact hw; first | exact trivial | (simp only [go_sem, ↓reduceIte, reduceCtorEq, Nat.reduceLT, Nat.reduceEqDiff, Nat.reduceBEq, Nat.reduceAdd, Nat.reduceSub, Nat.reduceMul, Nat.reduceLeDiff, Int.reduceLE, Int.reduceLT, Int.reduceNeg, Int.reduceEq, Int.reduceBEq, Int.reduceBNe, Int.reduceToNat, h8, h64]; done)) | (refine And.intro (ACalls.args (k := ?_) ?_ ?_) ?_; rotate_left; exact hw; repeat' (first | exact trivial | exact Or.inl ⟨rfl, rfl⟩ | exact Or.inr rfl | apply And.intro))
       simp only [go_sem, ↓reduceIte, reduceCtorEq, Nat.reduceLT, Nat.reduceEqDiff, Nat.reduceBEq, Nat.reduceAdd, Nat.reduceSub, Nat.reduceMul, Nat.reduceLeDiff, Int.reduceLE, Int.reduceLT, Int.reduceNeg, Int.reduceEq, Int.reduceBEq, Int.reduceBNe, Int.reduceToNat, h8, h64])
    | (refine hC ?_ ?_ ?_ ?_ ?_
       rotate_left
       · rfl
       · simp only [go_sem, ↓reduceIte, reduceCtorEq, Nat.reduceLT, Nat.reduceEqDiff, Nat.reduceBEq, Nat.reduceAdd, Nat.reduceSub, Nat.reduceMul, Nat.reduceLeDiff, Int.reduceLE, Int.reduceLT, Int.reduceNeg, Int.reduceEq, Int.reduceBEq, Int.reduceBNe, Int.reduceToNat, h8, h64]
       · simp only [go_sem, ↓reduceIte, reduceCtorEq, Nat.reduceLT, Nat.reduceEqDiff, Nat.reduceBEq, Nat.reduceAdd, Nat.reduceSub, Nat.reduceMul, Nat.reduceLeDiff, Int.reduceLE, Int.reduceLT, Int.reduceNeg, Int.reduceEq, Int.reduceBEq, Int.reduceBNe, Int.reduceToNat, h8, h64]
         first | (refine And.intro ?_ ?_; exact hla; first | exact trivial | (simp only [go_sem, ↓reduceIte, reduceCtorEq, Nat.reduceLT, Nat.reduceEqDiff, Nat.reduceBEq, Nat.reduceAdd, Nat.reduceSub, Nat.reduceMul, Nat.reduceLeDiff, Int.reduceLE, Int.reduceLT, Int.reduceNeg, Int.reduceEq, Int.reduceBEq, Int.reduceBNe, Int.reduceToNat, h8, h64]; done)) | (refine And.intro (ACalls.args (k := ?_) ?_ ?_) ?_; rotate_left; exact hla; repeat' (first | exact trivial | exact Or.inl ⟨rfl, rfl⟩ | exact Or.inr rfl | apply And.intro))
       simp only [go_sem, ↓reduceIte, reduceCtorEq, Nat.reduceLT, Nat.reduceEqDiff, Nat.reduceBEq, Nat.reduceAdd, Nat.reduceSub, Nat.reduceMul, Nat.reduceLeDiff, Int.reduceLE, Int.reduceLT, Int.reduceNeg, Int.reduceEq, Int.reduceBEq, Int.reduceBNe, Int.reduceToNat, h8, h64])
    | (refine hK _ _ ?_; clear hK hC; clear K C)
    | (refine hK _ _ rfl ?_; clear hK hC; clear K C)
    | (refine hK _ _ (by simp only [crs, crsI, alfO, alfL, Nat.reduceLT]; rfl) ?_; clear hK hC; clear K C)
    | (refine AW.seqR fun K C hK hC => ?_; simp only [go_sem, ↓reduceIte, reduceCtorEq, Nat.reduceLT, Nat.reduceEqDiff, Nat.reduceBEq, Nat.reduceAdd, Nat.reduceSub, Nat.reduceMul, Nat.reduceLeDiff, Int.reduceLE, Int.reduceLT, Int.reduceNeg, Int.reduceEq, Int.reduceBEq, Int.reduceBNe, Int.reduceToNat, h8, h64])
    | (refine AW.seqD rfl fun K C hK hC => ?_; simp only [go_sem, ↓reduceIte, reduceCtorEq, Nat.reduceLT, Nat.reduceEqDiff, Nat.reduceBEq, Nat.reduceAdd, Nat.reduceSub, Nat.reduceMul, Nat.reduceLeDiff, Int.reduceLE, Int.reduceLT, Int.reduceNeg, Int.reduceEq, Int.reduceBEq, Int.reduceBNe, Int.reduceToNat, h8, h64])
    | (refine AW.reg fun K C hK hC => ?_; simp only [go_sem, ↓reduceIte, reduceCtorEq, Nat.reduceLT, Nat.reduceEqDiff, Nat.reduceBEq, Nat.reduceAdd, Nat.reduceSub, Nat.reduceMul, Nat.reduceLeDiff, Int.reduceLE, Int.reduceLT, Int.reduceNeg, Int.reduceEq, Int.reduceBEq, Int.reduceBNe, Int.reduceToNat, h8, h64])
    | (refine AW.regD rfl fun K C hK hC => ?_; simp only [go_sem, ↓reduceIte, reduceCtorEq, Nat.reduceLT, Nat.reduceEqDiff, Nat.reduceBEq, Nat.reduceAdd, Nat.reduceSub, Nat.reduceMul, Nat.reduceLeDiff, Int.reduceLE, Int.reduceLT, Int.reduceNeg, Int.reduceEq, Int.reduceBEq, Int.reduceBNe, Int.reduceToNat, h8, h64])
    | refine AW.seqS ?_
    | (refine AW.ret ?_; simp only [go_sem, ↓reduceIte, reduceCtorEq, Nat.reduceLT, Nat.reduceEqDiff, Nat.reduceBEq, Nat.reduceAdd, Nat.reduceSub, Nat.reduceMul, Nat.reduceLeDiff, Int.reduceLE, Int.reduceLT, Int.reduceNeg, Int.reduceEq, Int.reduceBEq, Int.reduceBNe, Int.reduceToNat, h8, h64])
    | (refine AW.cond rfl (fun h => ?_) (fun h => ?_) <;> (try simp only [decide_eq_true_eq, decide_eq_false_iff_not, bne_iff_ne, beq_iff_eq, bne_eq_false_iff_eq, beq_eq_false_iff_ne, ne_eq, ge_iff_le, gt_iff_lt, Bool.not_eq_true, Bool.not_eq_false, Bool.not_not, Bool.not_true, Bool.not_false, Int.not_le, Int.not_lt, not_true_eq_false, not_false_eq_true, reduceCtorEq, Bool.false_eq_true, Bool.not_eq_true', Bool.not_eq_false'] at h) <;> first | (exfalso; omega) | skip)
    | refine AW.skip ?_
    | refine AW.seq ?_
    | refine AW.block ?_
    | (refine AW.exit ?_; simp only [go_sem, ↓reduceIte, reduceCtorEq, Nat.reduceLT, Nat.reduceEqDiff, Nat.reduceBEq, Nat.reduceAdd, Nat.reduceSub, Nat.reduceMul, Nat.reduceLeDiff, Int.reduceLE, Int.reduceLT, Int.reduceNeg, Int.reduceEq, Int.reduceBEq, Int.reduceBNe, Int.reduceToNat, h8, h64])
    | (refine ite_on (fun h => ?_) (fun h => ?_) <;> (try simp only [decide_eq_true_eq, decide_eq_false_iff_not, bne_iff_ne, beq_iff_eq, bne_eq_false_iff_eq, beq_eq_false_iff_ne, ne_eq, ge_iff_le, gt_iff_lt, Bool.not_eq_true, Bool.not_eq_false, Bool.not_not, Bool.not_true, Bool.not_false, Int.not_le, Int.not_lt, not_true_eq_false, not_false_eq_true, reduceCtorEq, Bool.false_eq_true, Bool.not_eq_true', Bool.not_eq_false'] at h) <;> first | (exfalso; omega) | skip)
    | rw [thenN]
    | rw [blockN]
    | rw [scopeN]
    | refine AW.scope ?_
    | refine AW.label ?_
    | refine And.intro ?_ ?_
    | refine lcons rfl ?_
    | exact lGram _
    | exact lSeen _
    | exact lWord _
    | exact lSealed _
    | exact lRun _
    | exact lPerson _
    | exact lEvent _
    | exact lLeak _
    | exact lNum _
    | exact lOprn _
    | exact in64 (by omega) (by omega)
    | exact in32 (by omega) (by omega)
    | omega)
        all_goals trace "W#16"
end Go.Proofs.YtokifenilhlgbaaGreatDoor.Abs
end

