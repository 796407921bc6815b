/- Texts that were merged: AbsN, Q12k, L15, M2, Q03c. -/
import Derived.Test.YtpbgmfgmnnclaaaGreatDoorZ3
import Derived.Test.YtpbgmfgmnnclaaaGreatDoorZ9
import Derived.Test.YtpbgmfgmnnclaaaGreatDoorZ4
import Derived.Test.YtpbgmfgmnnclaaaGreatDoorZ11
import Derived.Test.YtpbgmfgmnnclaaaGreatDoorZ10
import Derived.Test.YtpbgmfgmnnclaaaGreatDoorZ5
import Derived.Test.YtpbgmfgmnnclaaaGreatDoorZ8
section
/- A struct's fields that are nothing become empty rows. -/
set_option linter.unusedSimpArgs false
set_option linter.unusedVariables false
set_option maxRecDepth 100000
namespace Go.Proofs.YtpbgmfgmnnclaaaGreatDoor.Abs
open Go.RowKit
section
variable {P : Program}
/-- Nothing is an empty row. -/
def sealA : A → A
  | .nil => .c (.row [])
  | a => a
theorem VA.sealA {c : Ctx} {w : World} {m : Mem} {a : A} {v : Value} (h : VA c w m a v) : VA c w m (sealA a) v := by
  cases a with
  | nil => cases h; exact R.nil
  | _ => exact h
theorem Goes.nils {c : Ctx} {w : World} {m : Mem} {id : Nat} {cs cs' : List A} (hm : m id = some (.box cs)) : Goes c w m c w (upd m id (some (.box cs'))) := by
  refine ⟨fun _ _ h => h, fun _ _ _ => rfl, fun i h => ⟨rfl, ?_⟩, fun i L h => ?_⟩
  · by_cases e : i = id
    · subst e; exact .inl ⟨_, upd_same ..⟩
    · exact (isBox_upd_ne e).2 h
  · by_cases e : i = id
    · subst e; simp [rowLen, hm] at h
    · exact ⟨L, by rw [rowLen_upd_ne m _ e]; exact h, Nat.le_refl _, fun _ => ⟨rfl, fun ty sz xs hx => ⟨xs, by rw [← hx]; exact (rowsOf_upd_ne e).symm⟩⟩⟩
theorem AW.nils {c : Code} {σ : St} {Q : Exit → St → Prop} (id : Nat) {cs : List A} (hm : σ.m id = some (.box cs))
    (h : AW P c ⟨σ.n, σ.t, upd σ.m id (some (.box (cs.map sealA)))⟩ Q) : AW P c σ Q := fun base S0 w0 df a w hG => by
  refine h base S0 w0 df a w ?_
  obtain ⟨cc, h1, h2, h3⟩ := hG
  have g : Goes cc w σ.m cc w (upd σ.m id (some (.box (cs.map sealA)))) := Goes.nils hm
  refine ⟨cc, ⟨h1.1, fun q hq => (h1.2 q hq).goes g, h1.3⟩, ⟨fun i b hb => ?_, fun i i' b e1 e2 => ?_, h2.lt, h2.old, h2.new, h2.below, h2.rok, h2.size, h2.s0⟩, h3⟩
  · by_cases e : i = id
    · subst e
      simp only [upd_same, Option.some.injEq] at hb
      subst hb
      obtain ⟨q1, q2, vs, T, q3, q4⟩ := h2.blk i _ hm
      exact ⟨q1, q2, vs, T, q3, F2.map_left.mpr (q4.mono fun x y _ hx => (hx.goes g).sealA)⟩
    · have hu : upd σ.m id (some (.box (cs.map sealA))) i = σ.m i := upd_ne _ _ e
      have h4 := h2.blk i b (by rw [← hu]; exact hb)
      cases b with
      | box xs =>
        obtain ⟨q1, q2, vs, T, q3, q4⟩ := h4
        exact ⟨q1, q2, vs, T, q3, q4.mono fun x y _ hx => hx.goes g⟩
      | rows ty sz xs => exact h4
      | froz xs => exact h4
      | gone L => exact h4
      | lent j e sz xs => exact h4
      | fbox cs => exact h4
      | obox cs => exact h4
      | orec r => exact h4
      | mapb a ks xs => exact h4
      | fmap a ks xs => exact h4
  · have hb : ∀ i b, blockOf cc (upd σ.m id (some (.box (cs.map sealA)))) i = some b → blockOf cc σ.m i = some b := fun i b hb => by
      unfold blockOf at hb ⊢
      by_cases e : i = id
      · subst e; rw [upd_same] at hb; rw [hm]; exact hb
      · rw [upd_ne _ _ e] at hb; exact hb
    exact h2.inj i i' b (hb _ _ e1) (hb _ _ e2)
/-- A box of the call's own has other cells, that stand for what is in it. -/
theorem box_cells {base : Nat} {S0 : Sh} {w0 : W0} {cc : Ctx} {m : Mem} {w : World} {id : Nat} {cs cs' : List A} (h2 : WR base S0 w0 cc m w) (hm : m id = some (.box cs)) (hF : ∀ vs, F2 (VA cc w m) cs vs → F2 (VA cc w m) cs' vs) :
    Goes cc w m cc w (upd m id (some (.box cs'))) ∧ WR base S0 w0 cc (upd m id (some (.box cs'))) w := by
  have g : Goes cc w m cc w (upd m id (some (.box cs'))) := Goes.nils hm
  refine ⟨g, fun i b hb => ?_, fun i i' b e1 e2 => ?_, h2.lt, h2.old, h2.new, h2.below, h2.rok, h2.size, h2.s0⟩
  · by_cases e : i = id
    · subst e
      simp only [upd_same, Option.some.injEq] at hb
      subst hb
      obtain ⟨q1, q2, vs, T, q3, q4⟩ := h2.blk i _ hm
      exact ⟨q1, q2, vs, T, q3, (hF vs q4).mono fun x y _ hx => hx.goes g⟩
    · have hu : upd m id (some (.box cs')) i = m i := upd_ne _ _ e
      have h4 := h2.blk i b (by rw [← hu]; exact hb)
      cases b with
      | box xs =>
        obtain ⟨q1, q2, vs, T, q3, q4⟩ := h4
        exact ⟨q1, q2, vs, T, q3, q4.mono fun x y _ hx => hx.goes g⟩
      | rows ty sz xs => exact h4
      | froz xs => exact h4
      | gone L => exact h4
      | lent j e sz xs => exact h4
      | fbox cs => exact h4
      | obox cs => exact h4
      | orec r => exact h4
      | mapb a ks xs => exact h4
      | fmap a ks xs => exact h4
  · have hb : ∀ i b, blockOf cc (upd m id (some (.box cs'))) i = some b → blockOf cc m i = some b := fun i b hb => by
      unfold blockOf at hb ⊢
      by_cases e : i = id
      · subst e; rw [upd_same] at hb; rw [hm]; exact hb
      · rw [upd_ne _ _ e] at hb; exact hb
    exact h2.inj i i' b (hb _ _ e1) (hb _ _ e2)
/-- A box's cell that is nothing becomes an own row. -/
theorem AW.freshB {c : Code} {σ : St} {Q : Exit → St → Prop} (bid j id : Nat) (e : TypeId) (sz : Nat) (hs : 0 < sz) {cs : List A} (hb : σ.m bid = some (.box cs)) (hj : cs[j]? = some .nil) (hm : σ.m id = none)
    (h : AW P c ⟨σ.n, σ.t, upd (upd σ.m id (some (.rows e sz []))) bid (some (.box (cs.set j (.own id 0))))⟩ Q) : AW P c σ Q := fun base S0 w0 df a w hG => by
  refine h base S0 w0 df a w ?_
  obtain ⟨cc, h1, h2, h3⟩ := hG
  have hne : bid ≠ id := fun e => by rw [e, hm] at hb; simp at hb
  obtain ⟨g, r, hv⟩ := h2.rows hm (e := e) (sz := sz) (xs := []) (v := .slice none 0 0) (Below.refl _ w) (by simp) hs (by simp) (vss := []) F2.nil (World.ownsRow_nil _ _ _ _)
  have hb1 : upd σ.m id (some (.rows e sz [])) bid = some (.box cs) := by rw [upd_ne _ _ hne]; exact hb
  obtain ⟨g2, r2⟩ := box_cells (cs' := cs.set j (.own id 0)) r hb1 fun vs hF => ⟨by rw [List.length_set]; exact hF.1, fun i x y hx hy => by
    rw [List.getElem?_set] at hx
    split at hx
    · rename_i hij
      subst hij
      split at hx
      · cases hx
        have hn := hF.2 j _ y hj hy
        rw [show y = .slice none 0 0 from hn]
        exact hv
      · simp at hx
    · exact hF.2 i x y hx hy⟩
  have g3 := g.trans g2
  exact ⟨_, ⟨h1.1, fun q hq => (h1.2 q hq).goes g3, h1.3.mono (g3.S 0) (g3.heap 0)⟩, r2, h3.goes g3⟩
end
end Go.Proofs.YtpbgmfgmnnclaaaGreatDoor.Abs
end
section
/- The reference of layer desk, over values without addresses: Copied. -/
set_option linter.unusedSimpArgs false
set_option linter.unusedVariables false
set_option maxRecDepth 100000
namespace Go.Proofs.YtpbgmfgmnnclaaaGreatDoor.Abs
open Go.RowKit
/-- A world's lists are short, and what is in them. -/
structure Tiny (w : Wld) : Prop where
  dl : w.draws.list.length ≤ 1000
  en : w.box.entries.length ≤ 70
  pl : ∀ s ∈ w.box.entries, s.plain.length ≤ 100
  gr : w.net.grams.length ≤ 64
  gw : ∀ g ∈ w.net.grams, g.words.length ≤ 100
  se : w.net.seen.length ≤ 300
  sw : ∀ s ∈ w.net.seen, s.length ≤ 100
  pp : w.people.length ≤ 10
  pu : ∀ p ∈ w.people, p.used.length ≤ 100 ∧ p.runs.length ≤ 100
  lg : w.log.length ≤ 300
  rg : w.regs.length ≤ 10
  rw : ∀ r ∈ w.regs, r.length ≤ 100
  lk : w.leaks.length ≤ 300
theorem tiny_of {w : Wld} (h : fewW w = true) : Tiny w := by
  unfold fewW fewT at h
  simp only [Bool.and_eq_true, decide_eq_true_eq] at h
  obtain ⟨h0, h1, h2, h3, h4⟩ := h
  obtain ⟨p1, p2⟩ := of_decide_eq_true h1
  obtain ⟨q1, q2, q3, q4⟩ := of_decide_eq_true h2
  obtain ⟨r1, r2⟩ := fewPl_iff h3
  refine ⟨by omega, by omega, fun s hs => ?_, by omega, fun s hs => ?_, by omega, fun s hs => ?_, r1, r2, by omega, by omega, fun s hs => ?_, by omega⟩
  · have := p1 s (by rw [List.take_of_length_le (by omega)]; exact hs); omega
  · have := q1 s (by rw [List.take_of_length_le (by omega)]; exact hs); omega
  · have := q2 s (by rw [List.take_of_length_le (by omega)]; exact hs); omega
  · have := h0 s (by rw [List.take_of_length_le (by omega)]; exact hs); omega
set_option maxHeartbeats 32000000 in
theorem q12_copied (w : Wld) (h : Tiny w) : ACalls Tryz.prog 22 [.agg (eWld w)] (.one (.agg (eWld w))) := by
  refine ACalls.intro (fn := Tryz.f22) Tryz.func22 rfl rfl (by simp [Tryz.f22]) ?_
  obtain ⟨dl, en, pl, gr, gw, se, sw, pp, pu, lg, rg, rw', lk⟩ := h
  unfold Tryz.f22
  simp only [eWld, eSealeds, eGrams, ePeople, eEvents, eRows, eWords, eLeaks, List.map_cons, List.map_nil]
  refine wkx1 trivial trivial trivial _ ?_
  all_goals (repeat intro h)
  all_goals refine ⟨?_⟩
  refine AW.freshB 3 10 45 119 4 (by decide) rfl rfl rfl ?_
  refine AW.loopW (fun z σ => ∃ k : Nat, z = w.box.entries.length - k ∧ k ≤ w.box.entries.length ∧ σ = ⟨167, (upd (upd (upd (upd (fun _ => .junk) 1 (.one (.ptr 1 0))) 2 (.one (.ptr 2 0))) 3 (.one (.ptr 3 0))) 4 (.one (.c (i64 k)))), (upd (upd (upd (upd (upd (fun _ => none) 1 (some (.box ((eWld w).map .c)))) 2 (some (.box [.c (u32 0), .c (i64 0), .c (i64 0), .c (i64 0), .c (i64 0), .c (i64 0), .c (i64 0), .nil, .c (i64 0), .c (i64 0), .nil, .c (i64 0), .nil, .nil, .nil, .nil, .nil, .nil]))) 12 (some (.rows 22 1 (w.draws.list.map eWord)))) 45 (some (.rows 119 4 ((w.box.entries.take k).map eSealed)))) 3 (some (.box [.c (u32 w.conf.window), .c (i64 w.conf.people), .c (i64 w.conf.box), .c (i64 w.conf.used), .c (i64 w.conf.runs), .c (i64 w.conf.net), .c (i64 w.conf.regs), .own 12 w.draws.list.length, .c (i64 w.draws.next), .c (i64 w.box.room), .own 45 k, .c (i64 w.net.room), .c (.row (w.net.grams.map eGram)), .c (.row (w.net.seen.map eSeen)), .c (.row (w.people.map ePerson)), .c (.row (w.log.map eEvent)), .c (.row (w.regs.map eSeen)), .c (.row (w.leaks.map eLeak))])))⟩) (n := w.box.entries.length) _ ⟨0, rfl, Nat.zero_le _, rfl⟩ (by simp only [eWld, eSealeds, eGrams, ePeople, eEvents, eRows, eWords, eLeaks, List.map_cons, List.map_nil, List.take_zero, List.map_nil]; exact lz trivial) ?_
  rintro z σ ⟨k, rfl, hk, rfl⟩
  simp only [eWld, eSealeds, eGrams, ePeople, eEvents, eRows, eWords, eLeaks, List.map_cons, List.map_nil]
  have hkl : (w.box.entries.take k).length = k := by rw [List.length_take]; omega
  by_cases hlt : k < w.box.entries.length
  · obtain ⟨x, hx⟩ : ∃ x, w.box.entries[k]? = some x := ⟨_, List.getElem?_eq_getElem hlt⟩
    have hxl := pl x (List.mem_of_getElem? hx)
    have hs := wrapI (x := (k : Int) + 1) (by omega) (by omega)
    have hst : (w.box.entries.take (k + 1)).map eSealed = (w.box.entries.take k).map eSealed ++ [eSealed x] := by rw [List.take_add_one, hx]; simp
    refine wkx1 (And.intro hx (And.intro hlt (And.intro hs (And.intro hkl (And.intro eSealed.eq_1 (And.intro eWords.eq_1 eRuns.eq_1)))))) trivial trivial _ ?_
    all_goals (repeat intro h)
    all_goals refine ⟨?_⟩
    refine ⟨w.box.entries.length - (k + 1), by omega, _, ⟨k + 1, rfl, by omega, rfl⟩, ?_⟩
    rw [hst]
    simp only [eWld, eSealeds, eGrams, ePeople, eEvents, eRows, eWords, eLeaks, List.map_cons, List.map_nil, eSealed, eRuns]
    exact lz trivial
  obtain rfl : k = w.box.entries.length := by omega
  rw [List.take_length]
  refine wkx1 hkl trivial trivial _ ?_
  all_goals (repeat intro h)
  all_goals refine ⟨?_⟩
  clear hlt hk hkl
  refine AW.freshB 3 12 79 63 2 (by decide) rfl rfl rfl ?_
  refine AW.loopW (fun z σ => ∃ k : Nat, z = w.net.grams.length - k ∧ k ≤ w.net.grams.length ∧ σ = ⟨167, (upd (upd (upd (upd (fun _ => .junk) 1 (.one (.ptr 1 0))) 2 (.one (.ptr 2 0))) 3 (.one (.ptr 3 0))) 6 (.one (.c (i64 k)))), (upd (upd (upd (upd (upd (upd (fun _ => none) 1 (some (.box ((eWld w).map .c)))) 2 (some (.box [.c (u32 0), .c (i64 0), .c (i64 0), .c (i64 0), .c (i64 0), .c (i64 0), .c (i64 0), .nil, .c (i64 0), .c (i64 0), .nil, .c (i64 0), .nil, .nil, .nil, .nil, .nil, .nil]))) 12 (some (.rows 22 1 (w.draws.list.map eWord)))) 45 (some (.rows 119 4 (w.box.entries.map eSealed)))) 79 (some (.rows 63 2 ((w.net.grams.take k).map eGram)))) 3 (some (.box [.c (u32 w.conf.window), .c (i64 w.conf.people), .c (i64 w.conf.box), .c (i64 w.conf.used), .c (i64 w.conf.runs), .c (i64 w.conf.net), .c (i64 w.conf.regs), .own 12 w.draws.list.length, .c (i64 w.draws.next), .c (i64 w.box.room), .own 45 w.box.entries.length, .c (i64 w.net.room), .own 79 k, .c (.row (w.net.seen.map eSeen)), .c (.row (w.people.map ePerson)), .c (.row (w.log.map eEvent)), .c (.row (w.regs.map eSeen)), .c (.row (w.leaks.map eLeak))])))⟩) (n := w.net.grams.length) _ ⟨0, rfl, Nat.zero_le _, rfl⟩ (by simp only [eWld, eSealeds, eGrams, ePeople, eEvents, eRows, eWords, eLeaks, List.map_cons, List.map_nil, List.take_zero, List.map_nil]; exact lz trivial) ?_
  rintro z σ ⟨k, rfl, hk, rfl⟩
  simp only [eWld, eSealeds, eGrams, ePeople, eEvents, eRows, eWords, eLeaks, List.map_cons, List.map_nil]
  have hkl : (w.net.grams.take k).length = k := by rw [List.length_take]; omega
  by_cases hlt : k < w.net.grams.length
  · obtain ⟨x, hx⟩ : ∃ x, w.net.grams[k]? = some x := ⟨_, List.getElem?_eq_getElem hlt⟩
    have hxl := gw x (List.mem_of_getElem? hx)
    have hs := wrapI (x := (k : Int) + 1) (by omega) (by omega)
    have hst : (w.net.grams.take (k + 1)).map eGram = (w.net.grams.take k).map eGram ++ [eGram x] := by rw [List.take_add_one, hx]; simp
    refine wkx1 (And.intro hx (And.intro hlt (And.intro hs (And.intro hkl (And.intro eGram.eq_1 (And.intro eWords.eq_1 eRuns.eq_1)))))) trivial trivial _ ?_
    all_goals (repeat intro h)
    all_goals refine ⟨?_⟩
    refine ⟨w.net.grams.length - (k + 1), by omega, _, ⟨k + 1, rfl, by omega, rfl⟩, ?_⟩
    rw [hst]
    simp only [eWld, eSealeds, eGrams, ePeople, eEvents, eRows, eWords, eLeaks, List.map_cons, List.map_nil, eGram, eRuns]
    exact lz trivial
  obtain rfl : k = w.net.grams.length := by omega
  rw [List.take_length]
  refine wkx1 hkl trivial trivial _ ?_
  all_goals (repeat intro h)
  all_goals refine ⟨?_⟩
  clear hlt hk hkl
  refine AW.freshB 3 13 104 25 1 (by decide) rfl rfl rfl ?_
  refine AW.loopW (fun z σ => ∃ k : Nat, z = w.net.seen.length - k ∧ k ≤ w.net.seen.length ∧ σ = ⟨167, (upd (upd (upd (upd (fun _ => .junk) 1 (.one (.ptr 1 0))) 2 (.one (.ptr 2 0))) 3 (.one (.ptr 3 0))) 7 (.one (.c (i64 k)))), (upd (upd (upd (upd (upd (upd (upd (fun _ => none) 1 (some (.box ((eWld w).map .c)))) 2 (some (.box [.c (u32 0), .c (i64 0), .c (i64 0), .c (i64 0), .c (i64 0), .c (i64 0), .c (i64 0), .nil, .c (i64 0), .c (i64 0), .nil, .c (i64 0), .nil, .nil, .nil, .nil, .nil, .nil]))) 12 (some (.rows 22 1 (w.draws.list.map eWord)))) 45 (some (.rows 119 4 (w.box.entries.map eSealed)))) 79 (some (.rows 63 2 (w.net.grams.map eGram)))) 104 (some (.rows 25 1 ((w.net.seen.take k).map eSeen)))) 3 (some (.box [.c (u32 w.conf.window), .c (i64 w.conf.people), .c (i64 w.conf.box), .c (i64 w.conf.used), .c (i64 w.conf.runs), .c (i64 w.conf.net), .c (i64 w.conf.regs), .own 12 w.draws.list.length, .c (i64 w.draws.next), .c (i64 w.box.room), .own 45 w.box.entries.length, .c (i64 w.net.room), .own 79 w.net.grams.length, .own 104 k, .c (.row (w.people.map ePerson)), .c (.row (w.log.map eEvent)), .c (.row (w.regs.map eSeen)), .c (.row (w.leaks.map eLeak))])))⟩) (n := w.net.seen.length) _ ⟨0, rfl, Nat.zero_le _, rfl⟩ (by simp only [eWld, eSealeds, eGrams, ePeople, eEvents, eRows, eWords, eLeaks, List.map_cons, List.map_nil, List.take_zero, List.map_nil]; exact lz trivial) ?_
  rintro z σ ⟨k, rfl, hk, rfl⟩
  simp only [eWld, eSealeds, eGrams, ePeople, eEvents, eRows, eWords, eLeaks, List.map_cons, List.map_nil]
  have hkl : (w.net.seen.take k).length = k := by rw [List.length_take]; omega
  by_cases hlt : k < w.net.seen.length
  · obtain ⟨x, hx⟩ : ∃ x, w.net.seen[k]? = some x := ⟨_, List.getElem?_eq_getElem hlt⟩
    have hxl := sw x (List.mem_of_getElem? hx)
    have hs := wrapI (x := (k : Int) + 1) (by omega) (by omega)
    have hst : (w.net.seen.take (k + 1)).map eSeen = (w.net.seen.take k).map eSeen ++ [eSeen x] := by rw [List.take_add_one, hx]; simp
    refine wkx1 (And.intro hx (And.intro hlt (And.intro hs (And.intro hkl (And.intro eSeen.eq_1 (And.intro eWords.eq_1 eRuns.eq_1)))))) trivial trivial _ ?_
    all_goals (repeat intro h)
    all_goals refine ⟨?_⟩
    refine ⟨w.net.seen.length - (k + 1), by omega, _, ⟨k + 1, rfl, by omega, rfl⟩, ?_⟩
    rw [hst]
    simp only [eWld, eSealeds, eGrams, ePeople, eEvents, eRows, eWords, eLeaks, List.map_cons, List.map_nil, eSeen, eRuns]
    exact lz trivial
  obtain rfl : k = w.net.seen.length := by omega
  rw [List.take_length]
  refine wkx1 hkl trivial trivial _ ?_
  all_goals (repeat intro h)
  all_goals refine ⟨?_⟩
  clear hlt hk hkl
  refine AW.freshB 3 14 134 57 6 (by decide) rfl rfl rfl ?_
  refine AW.loopW (fun z σ => ∃ k : Nat, z = w.people.length - k ∧ k ≤ w.people.length ∧ σ = ⟨167, (upd (upd (upd (upd (fun _ => .junk) 1 (.one (.ptr 1 0))) 2 (.one (.ptr 2 0))) 3 (.one (.ptr 3 0))) 8 (.one (.c (i64 k)))), (upd (upd (upd (upd (upd (upd (upd (upd (fun _ => none) 1 (some (.box ((eWld w).map .c)))) 2 (some (.box [.c (u32 0), .c (i64 0), .c (i64 0), .c (i64 0), .c (i64 0), .c (i64 0), .c (i64 0), .nil, .c (i64 0), .c (i64 0), .nil, .c (i64 0), .nil, .nil, .nil, .nil, .nil, .nil]))) 12 (some (.rows 22 1 (w.draws.list.map eWord)))) 45 (some (.rows 119 4 (w.box.entries.map eSealed)))) 79 (some (.rows 63 2 (w.net.grams.map eGram)))) 104 (some (.rows 25 1 (w.net.seen.map eSeen)))) 134 (some (.rows 57 6 ((w.people.take k).map ePerson)))) 3 (some (.box [.c (u32 w.conf.window), .c (i64 w.conf.people), .c (i64 w.conf.box), .c (i64 w.conf.used), .c (i64 w.conf.runs), .c (i64 w.conf.net), .c (i64 w.conf.regs), .own 12 w.draws.list.length, .c (i64 w.draws.next), .c (i64 w.box.room), .own 45 w.box.entries.length, .c (i64 w.net.room), .own 79 w.net.grams.length, .own 104 w.net.seen.length, .own 134 k, .c (.row (w.log.map eEvent)), .c (.row (w.regs.map eSeen)), .c (.row (w.leaks.map eLeak))])))⟩) (n := w.people.length) _ ⟨0, rfl, Nat.zero_le _, rfl⟩ (by simp only [eWld, eSealeds, eGrams, ePeople, eEvents, eRows, eWords, eLeaks, List.map_cons, List.map_nil, List.take_zero, List.map_nil]; exact lz trivial) ?_
  rintro z σ ⟨k, rfl, hk, rfl⟩
  simp only [eWld, eSealeds, eGrams, ePeople, eEvents, eRows, eWords, eLeaks, List.map_cons, List.map_nil]
  have hkl : (w.people.take k).length = k := by rw [List.length_take]; omega
  by_cases hlt : k < w.people.length
  · obtain ⟨x, hx⟩ : ∃ x, w.people[k]? = some x := ⟨_, List.getElem?_eq_getElem hlt⟩
    have hxl := pu x (List.mem_of_getElem? hx)
    have hs := wrapI (x := (k : Int) + 1) (by omega) (by omega)
    have hst : (w.people.take (k + 1)).map ePerson = (w.people.take k).map ePerson ++ [ePerson x] := by rw [List.take_add_one, hx]; simp
    refine wkx1 (And.intro hx (And.intro hlt (And.intro hs (And.intro hkl (And.intro ePerson.eq_1 (And.intro eWords.eq_1 eRuns.eq_1)))))) trivial trivial _ ?_
    all_goals (repeat intro h)
    all_goals refine ⟨?_⟩
    refine ⟨w.people.length - (k + 1), by omega, _, ⟨k + 1, rfl, by omega, rfl⟩, ?_⟩
    rw [hst]
    simp only [eWld, eSealeds, eGrams, ePeople, eEvents, eRows, eWords, eLeaks, List.map_cons, List.map_nil, ePerson, eRuns]
    exact lz trivial
  obtain rfl : k = w.people.length := by omega
  rw [List.take_length]
  refine wkx1 hkl trivial trivial _ ?_
  all_goals (repeat intro h)
  all_goals refine ⟨?_⟩
  clear hlt hk hkl
  refine AW.freshB 3 16 159 25 1 (by decide) rfl rfl rfl ?_
  refine AW.loopW (fun z σ => ∃ k : Nat, z = w.regs.length - k ∧ k ≤ w.regs.length ∧ σ = ⟨167, (upd (upd (upd (upd (fun _ => .junk) 1 (.one (.ptr 1 0))) 2 (.one (.ptr 2 0))) 3 (.one (.ptr 3 0))) 10 (.one (.c (i64 k)))), (upd (upd (upd (upd (upd (upd (upd (upd (upd (upd (fun _ => none) 1 (some (.box ((eWld w).map .c)))) 2 (some (.box [.c (u32 0), .c (i64 0), .c (i64 0), .c (i64 0), .c (i64 0), .c (i64 0), .c (i64 0), .nil, .c (i64 0), .c (i64 0), .nil, .c (i64 0), .nil, .nil, .nil, .nil, .nil, .nil]))) 12 (some (.rows 22 1 (w.draws.list.map eWord)))) 45 (some (.rows 119 4 (w.box.entries.map eSealed)))) 79 (some (.rows 63 2 (w.net.grams.map eGram)))) 104 (some (.rows 25 1 (w.net.seen.map eSeen)))) 134 (some (.rows 57 6 (w.people.map ePerson)))) 136 (some (.rows 75 10 (w.log.map eEvent)))) 159 (some (.rows 25 1 ((w.regs.take k).map eSeen)))) 3 (some (.box [.c (u32 w.conf.window), .c (i64 w.conf.people), .c (i64 w.conf.box), .c (i64 w.conf.used), .c (i64 w.conf.runs), .c (i64 w.conf.net), .c (i64 w.conf.regs), .own 12 w.draws.list.length, .c (i64 w.draws.next), .c (i64 w.box.room), .own 45 w.box.entries.length, .c (i64 w.net.room), .own 79 w.net.grams.length, .own 104 w.net.seen.length, .own 134 w.people.length, .own 136 w.log.length, .own 159 k, .c (.row (w.leaks.map eLeak))])))⟩) (n := w.regs.length) _ ⟨0, rfl, Nat.zero_le _, rfl⟩ (by simp only [eWld, eSealeds, eGrams, ePeople, eEvents, eRows, eWords, eLeaks, List.map_cons, List.map_nil, List.take_zero, List.map_nil]; exact lz trivial) ?_
  rintro z σ ⟨k, rfl, hk, rfl⟩
  simp only [eWld, eSealeds, eGrams, ePeople, eEvents, eRows, eWords, eLeaks, List.map_cons, List.map_nil]
  have hkl : (w.regs.take k).length = k := by rw [List.length_take]; omega
  by_cases hlt : k < w.regs.length
  · obtain ⟨x, hx⟩ : ∃ x, w.regs[k]? = some x := ⟨_, List.getElem?_eq_getElem hlt⟩
    have hxl := rw' x (List.mem_of_getElem? hx)
    have hs := wrapI (x := (k : Int) + 1) (by omega) (by omega)
    have hst : (w.regs.take (k + 1)).map eSeen = (w.regs.take k).map eSeen ++ [eSeen x] := by rw [List.take_add_one, hx]; simp
    refine wkx1 (And.intro hx (And.intro hlt (And.intro hs (And.intro hkl (And.intro eSeen.eq_1 (And.intro eWords.eq_1 eRuns.eq_1)))))) trivial trivial _ ?_
    all_goals (repeat intro h)
    all_goals refine ⟨?_⟩
    refine ⟨w.regs.length - (k + 1), by omega, _, ⟨k + 1, rfl, by omega, rfl⟩, ?_⟩
    rw [hst]
    simp only [eWld, eSealeds, eGrams, ePeople, eEvents, eRows, eWords, eLeaks, List.map_cons, List.map_nil, eSeen, eRuns]
    exact lz trivial
  obtain rfl : k = w.regs.length := by omega
  rw [List.take_length]
  refine wkx0 hkl trivial trivial
end Go.Proofs.YtpbgmfgmnnclaaaGreatDoor.Abs
end
section
/- The laws of layer nsa, over values without addresses: what the document fixes; NsaStarts, NsaGrants, NsaEchoes, NsaKeeps. -/
set_option linter.unusedSimpArgs false
set_option linter.unusedVariables false
set_option maxRecDepth 100000
namespace Go.Proofs.YtpbgmfgmnnclaaaGreatDoor.Abs
open Go.RowKit
def conf9 : Conf := ⟨5, 2, 9, 4, 4, 9, 2⟩
def W15 : Wld := newW conf9 [11, 12, 13, 14, 15, 16, 17] 2 2
theorem l15_small : ACalls Tryz.prog 23 [] (.one (.agg (eWld W15))) := by
  refine ACalls.intro (fn := Tryz.f23) Tryz.func23 rfl rfl (by simp [Tryz.f23]) ?_
  have hq := q12_new conf9 [11, 12, 13, 14, 15, 16, 17] 2 2 rfl (by decide) rfl (by decide)
  rw [show newW conf9 [11, 12, 13, 14, 15, 16, 17] 2 2 = W15 from rfl] at hq
  generalize W15 = W at *
  unfold Tryz.f23
  simp only [conf9, eConf, eWld, eSealeds, eGrams, ePeople, eEvents, eRows, eWords, eLeaks, eWord, List.map_cons, List.map_nil] at *
  refine wk0 trivial hq trivial
def A15 : Wld := (startNW W15 1 2).1
def g15 : Prt := ⟨2147483661, 0, 0, 2, 70, 3, 9⟩
def G15 : Wld × Int × Int := sealW A15 2147483659 2 g15
def mG15 : Mssg := ⟨2, 0, 0, 0, 0, G15.2.1, 0⟩
def B15 : Wld := (grantNW G15.1 1 mG15).1
def C15 : Wld × Int × Int := sealW B15 70 4 ⟨80, 0, 0, 0, 0, 0, 0⟩
def mC15 : Mssg := ⟨4, 0, 0, 0, 0, C15.2.1, 0⟩
def D15 : Wld := (echoNW C15.1 1 mC15).1
def ev15 : Event := ⟨4, 1, 1, 1, 2, 70, 3, 0, 80, 0⟩
theorem w15_few : fewW W15 = true ∧ fewW A15 = true ∧ fewW G15.1 = true ∧ fewW B15 = true ∧ fewW C15.1 = true ∧ fewW D15 = true := by decide +kernel
theorem w15_form : formW W15 = true ∧ formW G15.1 = true ∧ formW B15 = true ∧ formW C15.1 = true ∧ formW D15 = true := by decide +kernel
theorem w15_e : (startNW W15 1 2).2 = 0 ∧ (startNW W15 1 0).2 = 5 ∧ (grantNW G15.1 1 mG15).2 = 0 ∧ (grantNW G15.1 2 mG15).2 = 6 ∧ (grantNW B15 1 mG15).2 = 9 ∧ (echoNW C15.1 1 mC15).2 = 0 ∧ (echoNW D15 1 mC15).2 = 6 := by decide +kernel
theorem w15_d : D15.log.length = 3 ∧ D15.log[2]? = some ev15 ∧ W15.people[1]? = some ⟨1, 2147483659, 0, [], [], false⟩ := by decide +kernel
theorem w15_len : W15.people.length = 3 ∧ G15.1.people.length = 3 ∧ B15.people.length = 3 ∧ C15.1.people.length = 3 ∧ D15.people.length = 3 := by decide +kernel
theorem w15_sm : Small A15 ∧ Small B15 := by
  obtain ⟨_, f2, _, f4, _⟩ := w15_few
  obtain ⟨_, _, g2, _⟩ := w15_form
  exact ⟨small_of f2 (by decide +kernel), small_of f4 g2⟩
theorem w15_may : mayM mG15 = true ∧ mayM mC15 = true := by decide +kernel
set_option maxHeartbeats 32000000 in
theorem l15_awake : ACalls Tryz.prog 8 [] (rB true) := by
  refine ACalls.intro (fn := Tryz.f8) Tryz.func8 rfl rfl (by simp [Tryz.f8]) ?_
  obtain ⟨f1, f2, f3, f4, f5, f6⟩ := w15_few
  obtain ⟨g1, g2, g3, g4, g5⟩ := w15_form
  obtain ⟨e1, e2, e3, e4, e5, e6, e7⟩ := w15_e
  obtain ⟨d1, d2, d3⟩ := w15_d
  obtain ⟨n1, n2, n3, n4, n5⟩ := w15_len
  obtain ⟨s1, s2⟩ := w15_sm
  obtain ⟨m1, m2⟩ := w15_may
  have c0 := l15_small
  have c1 := p15_start W15 1 2 g1 (smallN_of (by decide) f1 g1)
  have c2 := p15_start W15 1 0 g1 (smallN_of (by decide) f1 g1)
  have c3 := q12_seal A15 2147483659 2 g15 s1
  have c4 := p15_grant G15.1 1 mG15 g2 (smallN_of (by decide) f3 g2) (by omega) (by omega) rfl m1
  have c5 := p15_grant G15.1 2 mG15 g2 (smallN_of (by decide) f3 g2) (by omega) (by omega) rfl m1
  have c6 := p15_grant B15 1 mG15 g3 (smallN_of (by decide) f4 g3) (by omega) (by omega) rfl m1
  have c7 := q12_seal B15 70 4 ⟨80, 0, 0, 0, 0, 0, 0⟩ s2
  have c8 := p15_echo C15.1 1 mC15 g4 (smallN_of (by decide) f5 g4) (by omega) (by omega) rfl m2
  have c9 := p15_echo D15 1 mC15 g5 (smallN_of (by decide) f6 g5) (by omega) (by omega) rfl m2
  rw [e1, show (startNW W15 1 2).1 = A15 from rfl] at c1
  rw [e2] at c2
  rw [show sealW A15 2147483659 2 g15 = G15 from rfl] at c3
  rw [e3, show (grantNW G15.1 1 mG15).1 = B15 from rfl] at c4
  rw [e4] at c5
  rw [e5] at c6
  rw [show sealW B15 70 4 ⟨80, 0, 0, 0, 0, 0, 0⟩ = C15 from rfl] at c7
  rw [e6, show (echoNW C15.1 1 mC15).1 = D15 from rfl] at c8
  rw [e7] at c9
  have heq := eqok_event
  clear f1 f2 f3 f4 f5 f6 g1 g2 g3 g4 g5 e1 e2 e3 e4 e5 e6 e7 n2 n3 n4 n5 s1 s2 m1 m2
  generalize (echoNW D15 1 mC15).1 = Z1 at *
  generalize (grantNW B15 1 mG15).1 = Z2 at *
  generalize (grantNW G15.1 2 mG15).1 = Z3 at *
  generalize (startNW W15 1 0).1 = Z4 at *
  generalize D15 = D at *
  unfold mC15 mG15 at *
  generalize C15 = C at *
  generalize B15 = B at *
  generalize G15 = G at *
  generalize A15 = A at *
  generalize W15 = W at *
  obtain ⟨C, ch, ce⟩ := C
  obtain ⟨G, gh, ge⟩ := G
  have l1 : (D.log.length : Int) = 3 := by omega
  have l2 : 2 < D.log.length := by omega
  have l3 : 1 < W.people.length := by omega
  clear d1 n1
  unfold Tryz.f8
  simp only [eWld, g15, eMssg, ePrt, eSealeds, eGrams, ePeople, eEvents, eRows, eWords, eLeaks, rB, ev15] at *
  refine wkx0 (And.intro l1 (And.intro l2 (And.intro l3 (And.intro d2 (And.intro d3 (And.intro ePerson.eq_1 (And.intro eWords.eq_1 (And.intro eRuns.eq_1 (And.intro eEvent.eq_1 heq))))))))) (And.intro c0 (And.intro c1 (And.intro c2 (And.intro c3 (And.intro c4 (And.intro c5 (And.intro c6 (And.intro c7 (And.intro c8 c9))))))))) trivial
def fitsP (w : Wld) (me : Int) (m : Mssg) (k : Int) : Bool := fewW w && (formW w && (decide (1 ≤ me) && (decide (me < (w.people.length : Int)) && (m.kind == k && mayM m))))
set_option maxHeartbeats 8000000 in
theorem l15_fits (w : Wld) (me : Int) (m : Mssg) (k : Int) : ACalls Tryz.prog 14 [.agg (eWld w), .one (u32 me), .agg (eMssg m), .one (u32 k)] (rB (fitsP w me m k)) := by
  refine ACalls.introF (fn := Tryz.f14) Tryz.func14 rfl rfl (by simp [Tryz.f14]) fun hf => ?_
  have hme := in_u32 (Fine.int (hf (.one (u32 me)) (by simp)))
  have hpl : w.people.length ≤ 9223372036854775807 := Fine.rowC (f := ePerson) (k := 0) ((hf (.agg (eWld w)) (by simp) : FineCA (.agg (eWld w))) (ePeople w.people) (by simp [eWld]))
  clear hf
  have c1 := q12_few w
  have c2 := q12_form w
  have c3 := q03_may m
  have w1 : IntKind.u64.wrap me = me := by rw [IntKind.wrap_u64]; omega
  have w2 : IntKind.u64.wrap (w.people.length : Int) = (w.people.length : Int) := by rw [IntKind.wrap_u64]; omega
  unfold Tryz.f14
  unfold fitsP
  generalize fewW w = b1 at *
  generalize formW w = b2 at *
  generalize mayM m = b3 at *
  simp only [eWld, eMssg, eSealeds, eGrams, ePeople, eEvents, eRows, eWords, eLeaks, rB] at *
  cases b1
  · refine wk0 trivial (And.intro c1 (And.intro c2 c3)) trivial
  cases b2
  · refine wk0 trivial (And.intro c1 (And.intro c2 c3)) trivial
  by_cases g1 : 1 ≤ me
  rotate_left
  · rw [decide_eq_false g1]
    refine wk0 (And.intro g1 (And.intro w1 w2)) (And.intro c1 (And.intro c2 c3)) trivial
  rw [decide_eq_true g1]
  by_cases g2 : me < (w.people.length : Int)
  rotate_left
  · rw [decide_eq_false g2]
    refine wk0 (And.intro g1 (And.intro g2 (And.intro w1 w2))) (And.intro c1 (And.intro c2 c3)) trivial
  rw [decide_eq_true g2]
  cases hk : (m.kind == k) <;> cases b3
  all_goals repeat' (first
    | (refine hC ?_ ?_ ?_ ?_ ?_
       rotate_left
       · rfl
       · simp only [go_sem, ↓reduceIte, reduceCtorEq, Nat.reduceLT, Nat.reduceEqDiff, Nat.reduceBEq, Nat.reduceAdd, Nat.reduceSub, Nat.reduceMul, Nat.reduceLeDiff, Int.reduceLE, Int.reduceLT, Int.reduceNeg, Int.reduceEq, Int.reduceBEq, Int.reduceBNe, Int.reduceToNat, g1, g2, w1, w2, hk]
       · simp only [go_sem, ↓reduceIte, reduceCtorEq, Nat.reduceLT, Nat.reduceEqDiff, Nat.reduceBEq, Nat.reduceAdd, Nat.reduceSub, Nat.reduceMul, Nat.reduceLeDiff, Int.reduceLE, Int.reduceLT, Int.reduceNeg, Int.reduceEq, Int.reduceBEq, Int.reduceBNe, Int.reduceToNat, g1, g2, w1, w2, hk]
         first | (refine And.intro ?_ ?_; exact c1; first | exact trivial | (simp only [go_sem, ↓reduceIte, reduceCtorEq, Nat.reduceLT, Nat.reduceEqDiff, Nat.reduceBEq, Nat.reduceAdd, Nat.reduceSub, Nat.reduceMul, Nat.reduceLeDiff, Int.reduceLE, Int.reduceLT, Int.reduceNeg, Int.reduceEq, Int.reduceBEq, Int.reduceBNe, Int.reduceToNat, g1, g2, w1, w2, hk]; done)) | (refine And.intro (ACalls.args (k := ?_) ?_ ?_) ?_; rotate_left; exact c1; repeat' (first | exact trivial | exact Or.inl ⟨rfl, rfl⟩ | exact Or.inr rfl | apply And.intro))
       simp only [go_sem, ↓reduceIte, reduceCtorEq, Nat.reduceLT, Nat.reduceEqDiff, Nat.reduceBEq, Nat.reduceAdd, Nat.reduceSub, Nat.reduceMul, Nat.reduceLeDiff, Int.reduceLE, Int.reduceLT, Int.reduceNeg, Int.reduceEq, Int.reduceBEq, Int.reduceBNe, Int.reduceToNat, g1, g2, w1, w2, hk])
    | (refine hC ?_ ?_ ?_ ?_ ?_
       rotate_left
       · rfl
       · simp only [go_sem, ↓reduceIte, reduceCtorEq, Nat.reduceLT, Nat.reduceEqDiff, Nat.reduceBEq, Nat.reduceAdd, Nat.reduceSub, Nat.reduceMul, Nat.reduceLeDiff, Int.reduceLE, Int.reduceLT, Int.reduceNeg, Int.reduceEq, Int.reduceBEq, Int.reduceBNe, Int.reduceToNat, g1, g2, w1, w2, hk]
       · simp only [go_sem, ↓reduceIte, reduceCtorEq, Nat.reduceLT, Nat.reduceEqDiff, Nat.reduceBEq, Nat.reduceAdd, Nat.reduceSub, Nat.reduceMul, Nat.reduceLeDiff, Int.reduceLE, Int.reduceLT, Int.reduceNeg, Int.reduceEq, Int.reduceBEq, Int.reduceBNe, Int.reduceToNat, g1, g2, w1, w2, hk]
         first | (refine And.intro ?_ ?_; exact c2; first | exact trivial | (simp only [go_sem, ↓reduceIte, reduceCtorEq, Nat.reduceLT, Nat.reduceEqDiff, Nat.reduceBEq, Nat.reduceAdd, Nat.reduceSub, Nat.reduceMul, Nat.reduceLeDiff, Int.reduceLE, Int.reduceLT, Int.reduceNeg, Int.reduceEq, Int.reduceBEq, Int.reduceBNe, Int.reduceToNat, g1, g2, w1, w2, hk]; done)) | (refine And.intro (ACalls.args (k := ?_) ?_ ?_) ?_; rotate_left; exact c2; repeat' (first | exact trivial | exact Or.inl ⟨rfl, rfl⟩ | exact Or.inr rfl | apply And.intro))
       simp only [go_sem, ↓reduceIte, reduceCtorEq, Nat.reduceLT, Nat.reduceEqDiff, Nat.reduceBEq, Nat.reduceAdd, Nat.reduceSub, Nat.reduceMul, Nat.reduceLeDiff, Int.reduceLE, Int.reduceLT, Int.reduceNeg, Int.reduceEq, Int.reduceBEq, Int.reduceBNe, Int.reduceToNat, g1, g2, w1, w2, hk])
    | (refine hC ?_ ?_ ?_ ?_ ?_
       rotate_left
       · rfl
       · simp only [go_sem, ↓reduceIte, reduceCtorEq, Nat.reduceLT, Nat.reduceEqDiff, Nat.reduceBEq, Nat.reduceAdd, Nat.reduceSub, Nat.reduceMul, Nat.reduceLeDiff, Int.reduceLE, Int.reduceLT, Int.reduceNeg, Int.reduceEq, Int.reduceBEq, Int.reduceBNe, Int.reduceToNat, g1, g2, w1, w2, hk]
       · simp only [go_sem, ↓reduceIte, reduceCtorEq, Nat.reduceLT, Nat.reduceEqDiff, Nat.reduceBEq, Nat.reduceAdd, Nat.reduceSub, Nat.reduceMul, Nat.reduceLeDiff, Int.reduceLE, Int.reduceLT, Int.reduceNeg, Int.reduceEq, Int.reduceBEq, Int.reduceBNe, Int.reduceToNat, g1, g2, w1, w2, hk]
         first | (refine And.intro ?_ ?_; exact c3; first | exact trivial | (simp only [go_sem, ↓reduceIte, reduceCtorEq, Nat.reduceLT, Nat.reduceEqDiff, Nat.reduceBEq, Nat.reduceAdd, Nat.reduceSub, Nat.reduceMul, Nat.reduceLeDiff, Int.reduceLE, Int.reduceLT, Int.reduceNeg, Int.reduceEq, Int.reduceBEq, Int.reduceBNe, Int.reduceToNat, g1, g2, w1, w2, hk]; done)) | (refine And.intro (ACalls.args (k := ?_) ?_ ?_) ?_; rotate_left; exact c3; repeat' (first | exact trivial | exact Or.inl ⟨rfl, rfl⟩ | exact Or.inr rfl | apply And.intro))
       simp only [go_sem, ↓reduceIte, reduceCtorEq, Nat.reduceLT, Nat.reduceEqDiff, Nat.reduceBEq, Nat.reduceAdd, Nat.reduceSub, Nat.reduceMul, Nat.reduceLeDiff, Int.reduceLE, Int.reduceLT, Int.reduceNeg, Int.reduceEq, Int.reduceBEq, Int.reduceBNe, Int.reduceToNat, g1, g2, w1, w2, hk])
    | (refine hK _ _ ?_; clear hK hC; clear K C)
    | (refine hK _ _ rfl ?_; clear hK hC; clear K C)
    | (refine hK _ _ (by simp only [crs, crsI, alfO, alfL, Nat.reduceLT]; rfl) ?_; clear hK hC; clear K C)
    | (refine AW.seqR fun K C hK hC => ?_; simp only [go_sem, ↓reduceIte, reduceCtorEq, Nat.reduceLT, Nat.reduceEqDiff, Nat.reduceBEq, Nat.reduceAdd, Nat.reduceSub, Nat.reduceMul, Nat.reduceLeDiff, Int.reduceLE, Int.reduceLT, Int.reduceNeg, Int.reduceEq, Int.reduceBEq, Int.reduceBNe, Int.reduceToNat, g1, g2, w1, w2, hk])
    | (refine AW.seqD rfl fun K C hK hC => ?_; simp only [go_sem, ↓reduceIte, reduceCtorEq, Nat.reduceLT, Nat.reduceEqDiff, Nat.reduceBEq, Nat.reduceAdd, Nat.reduceSub, Nat.reduceMul, Nat.reduceLeDiff, Int.reduceLE, Int.reduceLT, Int.reduceNeg, Int.reduceEq, Int.reduceBEq, Int.reduceBNe, Int.reduceToNat, g1, g2, w1, w2, hk])
    | (refine AW.reg fun K C hK hC => ?_; simp only [go_sem, ↓reduceIte, reduceCtorEq, Nat.reduceLT, Nat.reduceEqDiff, Nat.reduceBEq, Nat.reduceAdd, Nat.reduceSub, Nat.reduceMul, Nat.reduceLeDiff, Int.reduceLE, Int.reduceLT, Int.reduceNeg, Int.reduceEq, Int.reduceBEq, Int.reduceBNe, Int.reduceToNat, g1, g2, w1, w2, hk])
    | (refine AW.regD rfl fun K C hK hC => ?_; simp only [go_sem, ↓reduceIte, reduceCtorEq, Nat.reduceLT, Nat.reduceEqDiff, Nat.reduceBEq, Nat.reduceAdd, Nat.reduceSub, Nat.reduceMul, Nat.reduceLeDiff, Int.reduceLE, Int.reduceLT, Int.reduceNeg, Int.reduceEq, Int.reduceBEq, Int.reduceBNe, Int.reduceToNat, g1, g2, w1, w2, hk])
    | refine AW.seqS ?_
    | (refine AW.ret ?_; simp only [go_sem, ↓reduceIte, reduceCtorEq, Nat.reduceLT, Nat.reduceEqDiff, Nat.reduceBEq, Nat.reduceAdd, Nat.reduceSub, Nat.reduceMul, Nat.reduceLeDiff, Int.reduceLE, Int.reduceLT, Int.reduceNeg, Int.reduceEq, Int.reduceBEq, Int.reduceBNe, Int.reduceToNat, g1, g2, w1, w2, hk])
    | (refine AW.cond rfl (fun h => ?_) (fun h => ?_) <;> (try simp only [decide_eq_true_eq, decide_eq_false_iff_not, bne_iff_ne, beq_iff_eq, bne_eq_false_iff_eq, beq_eq_false_iff_ne, ne_eq, ge_iff_le, gt_iff_lt, Bool.not_eq_true, Bool.not_eq_false, Bool.not_not, Bool.not_true, Bool.not_false, Int.not_le, Int.not_lt, not_true_eq_false, not_false_eq_true, reduceCtorEq, Bool.false_eq_true, Bool.not_eq_true', Bool.not_eq_false'] at h) <;> first | (exfalso; omega) | skip)
    | refine AW.skip ?_
    | refine AW.seq ?_
    | refine AW.block ?_
    | (refine AW.exit ?_; simp only [go_sem, ↓reduceIte, reduceCtorEq, Nat.reduceLT, Nat.reduceEqDiff, Nat.reduceBEq, Nat.reduceAdd, Nat.reduceSub, Nat.reduceMul, Nat.reduceLeDiff, Int.reduceLE, Int.reduceLT, Int.reduceNeg, Int.reduceEq, Int.reduceBEq, Int.reduceBNe, Int.reduceToNat, g1, g2, w1, w2, hk])
    | (refine ite_on (fun h => ?_) (fun h => ?_) <;> (try simp only [decide_eq_true_eq, decide_eq_false_iff_not, bne_iff_ne, beq_iff_eq, bne_eq_false_iff_eq, beq_eq_false_iff_ne, ne_eq, ge_iff_le, gt_iff_lt, Bool.not_eq_true, Bool.not_eq_false, Bool.not_not, Bool.not_true, Bool.not_false, Int.not_le, Int.not_lt, not_true_eq_false, not_false_eq_true, reduceCtorEq, Bool.false_eq_true, Bool.not_eq_true', Bool.not_eq_false'] at h) <;> first | (exfalso; omega) | skip)
    | rw [thenN]
    | rw [blockN]
    | rw [scopeN]
    | refine AW.scope ?_
    | refine AW.label ?_
    | refine And.intro ?_ ?_
    | refine lcons rfl ?_
    | exact lGram _
    | exact lSeen _
    | exact lWord _
    | exact lSealed _
    | exact lRun _
    | exact lPerson _
    | exact lEvent _
    | exact lLeak _
    | exact lNum _
    | exact lOprn _
    | exact in64 (by omega) (by omega)
    | exact in32 (by omega) (by omega)
    | omega)
theorem fitsP_iff {w : Wld} {me : Int} {m : Mssg} {k : Int} (h : fitsP w me m k = true) : fewW w = true ∧ formW w = true ∧ 1 ≤ me ∧ me < (w.people.length : Int) ∧ m.kind = k ∧ mayM m = true := by
  unfold fitsP at h
  simpa only [Bool.and_eq_true, beq_iff_eq, decide_eq_true_eq] using h
set_option maxHeartbeats 16000000 in
theorem l15_echoes (w : Wld) (me : Int) (m : Mssg) : ACalls Tryz.prog 5 [.agg (eWld w), .one (u32 me), .agg (eMssg m)] (rB true) := by
  refine ACalls.intro (fn := Tryz.f5) Tryz.func5 rfl rfl (by simp [Tryz.f5]) ?_
  have aw := l15_awake
  have ft := l15_fits w me m 4
  unfold Tryz.f5
  cases hF : fitsP w me m 4
  · rw [hF] at ft
    simp only [eWld, eMssg, eSealeds, eGrams, ePeople, eEvents, eRows, eWords, eLeaks, rB] at *
    refine wk0 trivial (And.intro aw ft) trivial
  rw [hF] at ft
  obtain ⟨h1, h2, h3, h4, h5, h6⟩ := fitsP_iff hF
  have sm : SmallN 10 w := smallN_of (by decide) h1 h2
  obtain ⟨_, hb, _, hn, _⟩ := formW_iff h2
  have c1 := p15_echo w me m h2 sm h3 h4 h5 h6
  have d1 := q15_echo w me m sm hb hn (by have := (person_used h2 me).2; omega)
  have s1 := q12_same (echoNW w me m).1 (echoNW w me m).1
  rw [decide_eq_true rfl] at s1
  clear h1 h2 h3 h4 h5 h6 sm hb hn hF
  generalize echoNW w me m = z at *
  simp only [eWld, eMssg, eSealeds, eGrams, ePeople, eEvents, eRows, eWords, eLeaks, rB] at *
  refine wkx0 trivial (And.intro aw (And.intro ft (And.intro c1 (And.intro d1 s1)))) trivial
end Go.Proofs.YtpbgmfgmnnclaaaGreatDoor.Abs
end
section
/- What steps of layers 15 to 18 without an error bring: plain mathematics. -/
set_option linter.unusedSimpArgs false
set_option linter.unusedVariables false
set_option maxRecDepth 100000
namespace Go.Proofs.YtpbgmfgmnnclaaaGreatDoor.Abs
open Go.RowKit
theorem run_at {l : List Run} {p : Run → Bool} {r : Run} (h : l.find? p = some r) : l[l.findIdx p]? = some r ∧ p r = true := by
  rcases idx_or l p with ⟨h1, _⟩ | ⟨i, x, h1, h2, h3, h4, _⟩
  · rw [h] at h1; cases h1
  · rw [h] at h1; cases h1
    rw [h2]
    exact ⟨h3, h4⟩
theorem grantNW_ok {w : Wld} {me : Int} {m : Mssg} (hf : formW w = true) (h1 : 1 ≤ me) (h2 : me < (w.people.length : Int)) (h : (grantNW w me m).2 = 0) : ∃ (i j : Nat) (p : Person) (r : Run) (g : Prt), me = i ∧ w.people[i]? = some p ∧ personW w me = p ∧ p.runs[j]? = some r ∧ waitsN g r = true ∧ openW w p.key 2 m.box = (g, true) ∧
    freshI p.clock g.t w.conf.window = true ∧ roomW w 0 1 = true ∧
    (grantNW w me m).1 = actW w ⟨0, [], i, { p with runs := p.runs.set j { r with k := g.k, t := g.t, state := 2 } }, [⟨3, 1, 1, me, r.peer, g.k, g.t, 0, r.mine, p.clock⟩], [⟨r.peer, putL ⟨3, 0, 0, 0, 0, g.h, 0⟩⟩]⟩ := by
  obtain ⟨_, _, _, _, _, hl, _⟩ := formW_iff hf
  obtain ⟨i, p, e1, e2, e3, e4⟩ := person_at hl (by omega) h2
  revert h
  unfold grantNW grantedW takesN
  rw [e3]
  generalize hG : openW w p.key 2 m.box = G
  obtain ⟨g, ok⟩ := G
  split
  · intro h; cases h
  rename_i g1
  have hok : ok = true := by simpa using g1
  subst hok
  cases hfd : p.runs.find? (waitsN g) with
  | none => intro h; cases h
  | some r =>
    simp only
    obtain ⟨k1, k2⟩ := run_at hfd
    split
    · intro h; cases h
    rename_i g2
    split
    · intro h; cases h
    rename_i g3
    intro _
    have hr : roomW w 0 1 = true := by simpa using g3
    have hr2 := (roomW_iff hr).2
    refine ⟨i, _, p, r, g, e1, e2, rfl, k1, k2, hG, by simpa using g2, hr, ?_⟩
    rw [withR_to rfl hl e2 e4, sentW_ok (by simp [mayM, fitsM, hasT, kindTags, isKindB, M7.word]) (by show ¬ w.net.room ≤ (w.net.grams.length : Int); omega)]
    simp [actW, logW]
end Go.Proofs.YtpbgmfgmnnclaaaGreatDoor.Abs
end
section
/- The reference of layer msg, over values without addresses: Get. -/
set_option linter.unusedSimpArgs false
set_option linter.unusedVariables false
set_option maxRecDepth 100000
namespace Go.Proofs.YtpbgmfgmnnclaaaGreatDoor.Abs
open Go.RowKit
def foldTo (K : Int) (R : List Fld) (j : Nat) : M7 := (R.take j).foldl setF (onlyK K)
theorem foldTo_next {K : Int} {R : List Fld} {j : Nat} {x : Fld} (hx : R[j]? = some x) : foldTo K R (j + 1) = setF (foldTo K R j) x := by
  unfold foldTo
  rw [List.take_add_one, hx]
  simp
theorem foldTo_kind (K : Int) (R : List Fld) (j : Nat) : (foldTo K R j).kind = K := foldl_kind _ _
theorem foldTo_all (K : Int) (R : List Fld) : foldTo K R R.length = foldM K R := by unfold foldTo foldM; rw [List.take_length]
set_option maxHeartbeats 8000000 in
set_option maxRecDepth 100000 in
theorem q03_get (l : List Int) : ACalls Tryz.prog 19 [.one (eWords l)] (.tup [.agg (eMssg (getM l).1), .one (i64 (getM l).2)]) := by
  refine ACalls.introF (fn := Tryz.f19) Tryz.func19 rfl rfl (by simp [Tryz.f19]) fun hf => ?_
  have hr := (fineWords (hf _ (by simp) : FineCA (.one (eWords l)))).2
  clear hf
  have h0 : ∀ x ∈ l, 0 ≤ x := fun x hx => (hr x hx).1
  have hread := getF_read l h0
  have hlen := getF_len h0
  have hq := q02_get l
  unfold Tryz.f19
  generalize hE : (getF l).2 = E at hq hread
  generalize hFF : (getF l).1 = F at hq hread hlen
  simp only [eWords, eFlds, eMssg] at *
  by_cases he : E = 0
  · have hG : getM l = finM F := by rw [getM_ok (by rw [hE, he]), hFF]
    have hflat : flatF F = l := by
      rcases hread with ⟨_, h2, _⟩ | ⟨_, h2⟩ | ⟨_, h2⟩
      · exact h2
      · omega
      · omega
    have he' : (E != 0) = false := by simp [he]
    subst he
    rw [hG]
    clear hG hread hE hFF
    cases hF0 : F with
    | nil =>
      subst hF0
      refine wk1 he' hq trivial _ ?_
      all_goals (repeat intro h)
      all_goals refine ⟨?_⟩
      rfl
    | cons f R =>
      obtain ⟨t, d⟩ := f
      have f0 : F[0]? = some (t, d) := by rw [hF0]; rfl
      have fl : 0 < F.length := by rw [hF0]; simp
      have fl0 : ((F.length : Int) == 0) = false := by rw [beq_eq_false_iff_ne]; omega
      by_cases t1 : t = 1
      · subst t1
        by_cases d1 : (d.length : Int) = 1
        · obtain ⟨K, rfl⟩ : ∃ K, d = [K] := ⟨_, getD_one (by omega)⟩
          by_cases hk : isKindB K = true
          · have hk1 := of_decide_eq_true hk
            have c1 : ¬ K < 1 := by omega
            have c2 : ¬ 9 < K := by omega
            have hFR : ∀ j, F[j + 1]? = R[j]? := fun j => by rw [hF0]; simp
            have hFl : F.length = R.length + 1 := by rw [hF0]; simp
            refine wk1 (And.intro he' (And.intro f0 (And.intro fl (And.intro fl0 (And.intro c1 (And.intro c2 (And.intro eFld.eq_1 (And.intro eWords.eq_1 eWord.eq_1)))))))) hq trivial _ ?_
            all_goals (repeat intro h)
            all_goals refine ⟨?_⟩
            refine AW.loopW (fun n σ => ∃ j : Nat, n = R.length - j ∧ j ≤ R.length ∧ (∀ g ∈ R.take j, hasT K g.1 = true) ∧ σ = ⟨136, (upd (upd (upd (upd (upd (fun _ => .junk) 0 (.one (.c (.row (l.map eWord))))) 2 (.one (.ptr 2 0))) 4 (.one (.c (.row (F.map eFld))))) 6 (.one (.ptr 6 0))) 7 (.one (.c (i64 ((j + 1 : Nat) : Int))))), (upd (upd (fun _ => none) 2 (some (.box [.c (u32 0), .c (u32 0), .c (u32 0), .c (u32 0), .c (u32 0), .c (u32 0), .c (u32 0)]))) 6 (some (.box ((eMssg (foldTo K R j)).map .c))))⟩) (n := R.length) _ ⟨0, rfl, Nat.zero_le _, by simp, rfl⟩ (by simp only [foldTo, List.take_zero, List.foldl_nil, onlyK, eMssg, List.map_cons, List.map_nil]; exact lz trivial) ?_
            rintro n σ ⟨j, rfl, hj, ht, rfl⟩
            have hkd := foldTo_kind K R j
            by_cases hlt : j < R.length
            · obtain ⟨x, hx⟩ : ∃ x, R[j]? = some x := ⟨_, List.getElem?_eq_getElem hlt⟩
              have hfx := (hFR j).trans hx
              have hnx := foldTo_next (K := K) hx
              have hli : ((j + 1 : Nat) : Int) < (F.length : Int) := by omega
              have hlj : j + 1 < F.length := by omega
              have hs := wrapI (x := ((j + 1 : Nat) : Int) + 1) (by omega) (by omega)
              obtain ⟨tt, dd⟩ := x
              have hh := q03_has K tt
              generalize foldTo K R j = M at *
              obtain ⟨mk, m1, m2, m3, m4, m5, m6⟩ := M
              simp only at hkd
              subst hkd
              simp only [eMssg, List.map_cons, List.map_nil]
              by_cases dd1 : (dd.length : Int) = 1
              · obtain ⟨v, rfl⟩ : ∃ v, dd = [v] := ⟨_, getD_one (by omega)⟩
                cases hT : hasT mk tt
                · rw [hT] at hh
                  have e : finM ((1, [mk]) :: R) = (zeroM, 2) := ref_fin_no hk (f := (tt, [v])) (List.mem_of_getElem? hx) (fun h => by rw [hT] at h; simp at h)
                  rw [e]
                  simp only [rB] at hh
                  refine wk1 (And.intro hli (And.intro hlj (And.intro hfx (And.intro eFld.eq_1 (And.intro eWords.eq_1 eWord.eq_1))))) hh trivial _ ?_
                  all_goals (repeat intro h)
                  all_goals refine ⟨?_⟩
                  all_goals rfl
                · rw [hT] at hh
                  have hnext : ∀ g ∈ R.take (j + 1), hasT mk g.1 = true := by
                    intro g hg
                    rw [List.take_add_one, hx] at hg
                    simp only [Option.toList_some, List.mem_append, List.mem_singleton] at hg
                    rcases hg with hg | rfl
                    · exact ht g hg
                    · exact hT
                  have hr7 := kindTags_ok mk tt (of_decide_eq_true hT)
                  simp only [rB] at hh
                  rcases tags hr7 with rfl | rfl | rfl | rfl | rfl | rfl <;> clear hr7
                  all_goals repeat' (first
    | (refine hC ?_ ?_ ?_ ?_ ?_
       rotate_left
       · rfl
       · simp only [go_sem, ↓reduceIte, reduceCtorEq, Nat.reduceLT, Nat.reduceEqDiff, Nat.reduceBEq, Nat.reduceAdd, Nat.reduceSub, Nat.reduceMul, Nat.reduceLeDiff, Int.reduceLE, Int.reduceLT, Int.reduceNeg, Int.reduceEq, Int.reduceBEq, Int.reduceBNe, Int.reduceToNat, hli, hlj, hfx, hs, eFld, eWords, eWord]
       · simp only [go_sem, ↓reduceIte, reduceCtorEq, Nat.reduceLT, Nat.reduceEqDiff, Nat.reduceBEq, Nat.reduceAdd, Nat.reduceSub, Nat.reduceMul, Nat.reduceLeDiff, Int.reduceLE, Int.reduceLT, Int.reduceNeg, Int.reduceEq, Int.reduceBEq, Int.reduceBNe, Int.reduceToNat, hli, hlj, hfx, hs, eFld, eWords, eWord]
         first | (refine And.intro ?_ ?_; exact hh; first | exact trivial | (simp only [go_sem, ↓reduceIte, reduceCtorEq, Nat.reduceLT, Nat.reduceEqDiff, Nat.reduceBEq, Nat.reduceAdd, Nat.reduceSub, Nat.reduceMul, Nat.reduceLeDiff, Int.reduceLE, Int.reduceLT, Int.reduceNeg, Int.reduceEq, Int.reduceBEq, Int.reduceBNe, Int.reduceToNat, hli, hlj, hfx, hs, eFld, eWords, eWord]; done)) | (refine And.intro (ACalls.args (k := ?_) ?_ ?_) ?_; rotate_left; exact hh; repeat' (first | exact trivial | exact Or.inl ⟨rfl, rfl⟩ | exact Or.inr rfl | apply And.intro))
       simp only [go_sem, ↓reduceIte, reduceCtorEq, Nat.reduceLT, Nat.reduceEqDiff, Nat.reduceBEq, Nat.reduceAdd, Nat.reduceSub, Nat.reduceMul, Nat.reduceLeDiff, Int.reduceLE, Int.reduceLT, Int.reduceNeg, Int.reduceEq, Int.reduceBEq, Int.reduceBNe, Int.reduceToNat, hli, hlj, hfx, hs, eFld, eWords, eWord])
    | (refine hK _ _ ?_; clear hK hC; clear K C)
    | (refine hK _ _ rfl ?_; clear hK hC; clear K C)
    | (refine hK _ _ (by simp only [crs, crsI, alfO, alfL, Nat.reduceLT]; rfl) ?_; clear hK hC; clear K C)
    | (refine AW.seqR fun K C hK hC => ?_; simp only [go_sem, ↓reduceIte, reduceCtorEq, Nat.reduceLT, Nat.reduceEqDiff, Nat.reduceBEq, Nat.reduceAdd, Nat.reduceSub, Nat.reduceMul, Nat.reduceLeDiff, Int.reduceLE, Int.reduceLT, Int.reduceNeg, Int.reduceEq, Int.reduceBEq, Int.reduceBNe, Int.reduceToNat, hli, hlj, hfx, hs, eFld, eWords, eWord])
    | (refine AW.seqD rfl fun K C hK hC => ?_; simp only [go_sem, ↓reduceIte, reduceCtorEq, Nat.reduceLT, Nat.reduceEqDiff, Nat.reduceBEq, Nat.reduceAdd, Nat.reduceSub, Nat.reduceMul, Nat.reduceLeDiff, Int.reduceLE, Int.reduceLT, Int.reduceNeg, Int.reduceEq, Int.reduceBEq, Int.reduceBNe, Int.reduceToNat, hli, hlj, hfx, hs, eFld, eWords, eWord])
    | (refine AW.reg fun K C hK hC => ?_; simp only [go_sem, ↓reduceIte, reduceCtorEq, Nat.reduceLT, Nat.reduceEqDiff, Nat.reduceBEq, Nat.reduceAdd, Nat.reduceSub, Nat.reduceMul, Nat.reduceLeDiff, Int.reduceLE, Int.reduceLT, Int.reduceNeg, Int.reduceEq, Int.reduceBEq, Int.reduceBNe, Int.reduceToNat, hli, hlj, hfx, hs, eFld, eWords, eWord])
    | (refine AW.regD rfl fun K C hK hC => ?_; simp only [go_sem, ↓reduceIte, reduceCtorEq, Nat.reduceLT, Nat.reduceEqDiff, Nat.reduceBEq, Nat.reduceAdd, Nat.reduceSub, Nat.reduceMul, Nat.reduceLeDiff, Int.reduceLE, Int.reduceLT, Int.reduceNeg, Int.reduceEq, Int.reduceBEq, Int.reduceBNe, Int.reduceToNat, hli, hlj, hfx, hs, eFld, eWords, eWord])
    | refine AW.seqS ?_
    | (refine AW.ret ?_; simp only [go_sem, ↓reduceIte, reduceCtorEq, Nat.reduceLT, Nat.reduceEqDiff, Nat.reduceBEq, Nat.reduceAdd, Nat.reduceSub, Nat.reduceMul, Nat.reduceLeDiff, Int.reduceLE, Int.reduceLT, Int.reduceNeg, Int.reduceEq, Int.reduceBEq, Int.reduceBNe, Int.reduceToNat, hli, hlj, hfx, hs, eFld, eWords, eWord])
    | (refine AW.cond rfl (fun h => ?_) (fun h => ?_) <;> (try simp only [decide_eq_true_eq, decide_eq_false_iff_not, bne_iff_ne, beq_iff_eq, bne_eq_false_iff_eq, beq_eq_false_iff_ne, ne_eq, ge_iff_le, gt_iff_lt, Bool.not_eq_true, Bool.not_eq_false, Bool.not_not, Bool.not_true, Bool.not_false, Int.not_le, Int.not_lt, not_true_eq_false, not_false_eq_true, reduceCtorEq, Bool.false_eq_true, Bool.not_eq_true', Bool.not_eq_false'] at h) <;> first | (exfalso; omega) | skip)
    | refine AW.skip ?_
    | refine AW.seq ?_
    | refine AW.block ?_
    | (refine AW.exit ?_; simp only [go_sem, ↓reduceIte, reduceCtorEq, Nat.reduceLT, Nat.reduceEqDiff, Nat.reduceBEq, Nat.reduceAdd, Nat.reduceSub, Nat.reduceMul, Nat.reduceLeDiff, Int.reduceLE, Int.reduceLT, Int.reduceNeg, Int.reduceEq, Int.reduceBEq, Int.reduceBNe, Int.reduceToNat, hli, hlj, hfx, hs, eFld, eWords, eWord])
    | (refine ite_on (fun h => ?_) (fun h => ?_) <;> (try simp only [decide_eq_true_eq, decide_eq_false_iff_not, bne_iff_ne, beq_iff_eq, bne_eq_false_iff_eq, beq_eq_false_iff_ne, ne_eq, ge_iff_le, gt_iff_lt, Bool.not_eq_true, Bool.not_eq_false, Bool.not_not, Bool.not_true, Bool.not_false, Int.not_le, Int.not_lt, not_true_eq_false, not_false_eq_true, reduceCtorEq, Bool.false_eq_true, Bool.not_eq_true', Bool.not_eq_false'] at h) <;> first | (exfalso; omega) | skip)
    | rw [thenN]
    | rw [blockN]
    | rw [scopeN]
    | refine AW.scope ?_
    | refine AW.label ?_
    | refine And.intro ?_ ?_
    | refine lcons rfl ?_
    | exact lGram _
    | exact lSeen _
    | exact lWord _
    | exact lSealed _
    | exact lRun _
    | exact lPerson _
    | exact lEvent _
    | exact lLeak _
    | exact lNum _
    | exact lOprn _
    | exact in64 (by omega) (by omega)
    | exact in32 (by omega) (by omega)
    | omega)
                  all_goals refine ⟨R.length - (j + 1), by omega, _, ⟨j + 1, rfl, by omega, hnext, rfl⟩, ?_⟩
                  all_goals rw [hnx]
                  all_goals simp only [setF, M7.set, List.getD_cons_zero, if_true, reduceIte, Int.reduceEq, eMssg, List.map_cons, List.map_nil]
                  all_goals exact lz trivial
              · have dd1' : ((dd.length : Int) != 1) = true := by simpa using dd1
                have e : finM ((1, [mk]) :: R) = (zeroM, 2) := ref_fin_no hk (f := (tt, dd)) (List.mem_of_getElem? hx) (fun h => dd1 (by have := h.1; simp only at this; omega))
                rw [e]
                refine wk1 (And.intro hli (And.intro hlj (And.intro hfx (And.intro dd1' (And.intro eFld.eq_1 (And.intro eWords.eq_1 eWord.eq_1)))))) trivial trivial _ ?_
                all_goals (repeat intro h)
                all_goals refine ⟨?_⟩
                all_goals rfl
            · obtain rfl : j = R.length := by omega
              rw [List.take_length] at ht
              rw [foldTo_all]
              have hli : ¬ ((R.length + 1 : Nat) : Int) < (F.length : Int) := by omega
              have hfin := ref_fin hk ht l (by rw [← hF0]; exact hflat)
              have hp := q03_put (foldM K R)
              have hsm := q01_same (putL (foldM K R)) l
              rw [hfin]
              unfold sameB
              generalize foldM K R = M at *
              generalize putE M = pe at *
              simp only [eWords, eMssg, rB] at *
              by_cases hs : putL M = l
              · rw [decide_eq_true hs] at hsm ⊢
                refine wk0 hli (And.intro hp hsm) trivial
              · rw [decide_eq_false hs] at hsm ⊢
                refine wk1 hli (And.intro hp hsm) trivial _ ?_
                all_goals (repeat intro h)
                all_goals refine ⟨?_⟩
                all_goals rfl
          · have hk' : isKindB K = false := by simpa using hk
            have hn := of_decide_eq_false hk'
            have e : finM ((1, [K]) :: R) = (zeroM, 4) := finM_bad (decide_eq_false fun h => hn (by simpa using h.2.2))
            rw [e]
            by_cases c1 : K < 1
            · refine wk1 (And.intro he' (And.intro f0 (And.intro fl (And.intro fl0 (And.intro c1 (And.intro eFld.eq_1 (And.intro eWords.eq_1 eWord.eq_1))))))) hq trivial _ ?_
              all_goals (repeat intro h)
              all_goals refine ⟨?_⟩
              all_goals rfl
            · have c2 : 9 < K := by omega
              refine wk1 (And.intro he' (And.intro f0 (And.intro fl (And.intro fl0 (And.intro c1 (And.intro c2 (And.intro eFld.eq_1 (And.intro eWords.eq_1 eWord.eq_1)))))))) hq trivial _ ?_
              all_goals (repeat intro h)
              all_goals refine ⟨?_⟩
              all_goals rfl
        · have d1' : ((d.length : Int) != 1) = true := by simpa using d1
          have e : finM ((1, d) :: R) = (zeroM, 4) := finM_bad (decide_eq_false fun h => d1 (by have := h.2.1; simp only at this; omega))
          rw [e]
          refine wk1 (And.intro he' (And.intro f0 (And.intro fl (And.intro fl0 (And.intro d1' (And.intro eFld.eq_1 (And.intro eWords.eq_1 eWord.eq_1))))))) hq trivial _ ?_
          all_goals (repeat intro h)
          all_goals refine ⟨?_⟩
          all_goals rfl
      · have t1' : (t != 1) = true := by simpa using t1
        have e : finM ((t, d) :: R) = (zeroM, 4) := finM_bad (decide_eq_false fun h => t1 h.1)
        rw [e]
        refine wk1 (And.intro he' (And.intro f0 (And.intro fl (And.intro fl0 (And.intro t1' (And.intro eFld.eq_1 (And.intro eWords.eq_1 eWord.eq_1))))))) hq trivial _ ?_
        all_goals (repeat intro h)
        all_goals refine ⟨?_⟩
        all_goals rfl
  · have e : getM l = (zeroM, E) := by rw [getM_err (by rw [hE]; exact he), hE]
    rw [e]
    have he' : (E != 0) = true := by simpa using he
    refine wk1 he' hq trivial _ ?_
    all_goals (repeat intro h)
    all_goals refine ⟨?_⟩
    all_goals rfl
end Go.Proofs.YtpbgmfgmnnclaaaGreatDoor.Abs
end

