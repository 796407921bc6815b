/- Texts that were merged: AbsN, Q12k, L16, Open, OpenNet, OpenBox, OpenWld, LaidN. -/
import Derived.Test.YtokifenilhlgbaaGreatDoorZ3
import Derived.Test.YtokifenilhlgbaaGreatDoorZ9
import Derived.Test.YtokifenilhlgbaaGreatDoorZ4
import Derived.Test.YtokifenilhlgbaaGreatDoorZ11
import Derived.Test.YtokifenilhlgbaaGreatDoorZ10
import Derived.Test.YtokifenilhlgbaaGreatDoorRows
import Derived.OpenShut
import Derived.ShutString
import Derived.ChangeOld
import Derived.ChangeVars
import Derived.JoinedOf
import Derived.RowKit
section
/- A struct's fields that are nothing become empty rows. -/
set_option linter.unusedSimpArgs false
set_option linter.unusedVariables false
set_option maxRecDepth 100000
namespace Go.Proofs.YtokifenilhlgbaaGreatDoor.Abs
open Go.RowKit
section
variable {P : Program}
/-- Nothing is an empty row. -/
def sealA : A → A
  | .nil => .c (.row [])
  | a => a
theorem VA.sealA {c : Ctx} {w : World} {m : Mem} {a : A} {v : Value} (h : VA c w m a v) : VA c w m (sealA a) v := by
  cases a with
  | nil => cases h; exact R.nil
  | _ => exact h
theorem Goes.nils {c : Ctx} {w : World} {m : Mem} {id : Nat} {cs cs' : List A} (hm : m id = some (.box cs)) : Goes c w m c w (upd m id (some (.box cs'))) := by
  refine ⟨fun _ _ h => h, fun _ _ _ => rfl, fun i h => ⟨rfl, ?_⟩, fun i L h => ?_⟩
  · by_cases e : i = id
    · subst e; exact .inl ⟨_, upd_same ..⟩
    · exact (isBox_upd_ne e).2 h
  · by_cases e : i = id
    · subst e; simp [rowLen, hm] at h
    · exact ⟨L, by rw [rowLen_upd_ne m _ e]; exact h, Nat.le_refl _, fun _ => ⟨rfl, fun ty sz xs hx => ⟨xs, by rw [← hx]; exact (rowsOf_upd_ne e).symm⟩⟩⟩
theorem AW.nils {c : Code} {σ : St} {Q : Exit → St → Prop} (id : Nat) {cs : List A} (hm : σ.m id = some (.box cs))
    (h : AW P c ⟨σ.n, σ.t, upd σ.m id (some (.box (cs.map sealA)))⟩ Q) : AW P c σ Q := fun base S0 w0 df a w hG => by
  refine h base S0 w0 df a w ?_
  obtain ⟨cc, h1, h2, h3⟩ := hG
  have g : Goes cc w σ.m cc w (upd σ.m id (some (.box (cs.map sealA)))) := Goes.nils hm
  refine ⟨cc, ⟨h1.1, fun q hq => (h1.2 q hq).goes g, h1.3⟩, ⟨fun i b hb => ?_, fun i i' b e1 e2 => ?_, h2.lt, h2.old, h2.new, h2.below, h2.rok, h2.size, h2.s0⟩, h3⟩
  · by_cases e : i = id
    · subst e
      simp only [upd_same, Option.some.injEq] at hb
      subst hb
      obtain ⟨q1, q2, vs, T, q3, q4⟩ := h2.blk i _ hm
      exact ⟨q1, q2, vs, T, q3, F2.map_left.mpr (q4.mono fun x y _ hx => (hx.goes g).sealA)⟩
    · have hu : upd σ.m id (some (.box (cs.map sealA))) i = σ.m i := upd_ne _ _ e
      have h4 := h2.blk i b (by rw [← hu]; exact hb)
      cases b with
      | box xs =>
        obtain ⟨q1, q2, vs, T, q3, q4⟩ := h4
        exact ⟨q1, q2, vs, T, q3, q4.mono fun x y _ hx => hx.goes g⟩
      | rows ty sz xs => exact h4
      | froz xs => exact h4
      | gone L => exact h4
      | lent j e sz xs => exact h4
      | fbox cs => exact h4
      | obox cs => exact h4
      | orec r => exact h4
      | mapb a ks xs => exact h4
      | fmap a ks xs => exact h4
  · have hb : ∀ i b, blockOf cc (upd σ.m id (some (.box (cs.map sealA)))) i = some b → blockOf cc σ.m i = some b := fun i b hb => by
      unfold blockOf at hb ⊢
      by_cases e : i = id
      · subst e; rw [upd_same] at hb; rw [hm]; exact hb
      · rw [upd_ne _ _ e] at hb; exact hb
    exact h2.inj i i' b (hb _ _ e1) (hb _ _ e2)
/-- A box of the call's own has other cells, that stand for what is in it. -/
theorem box_cells {base : Nat} {S0 : Sh} {w0 : W0} {cc : Ctx} {m : Mem} {w : World} {id : Nat} {cs cs' : List A} (h2 : WR base S0 w0 cc m w) (hm : m id = some (.box cs)) (hF : ∀ vs, F2 (VA cc w m) cs vs → F2 (VA cc w m) cs' vs) :
    Goes cc w m cc w (upd m id (some (.box cs'))) ∧ WR base S0 w0 cc (upd m id (some (.box cs'))) w := by
  have g : Goes cc w m cc w (upd m id (some (.box cs'))) := Goes.nils hm
  refine ⟨g, fun i b hb => ?_, fun i i' b e1 e2 => ?_, h2.lt, h2.old, h2.new, h2.below, h2.rok, h2.size, h2.s0⟩
  · by_cases e : i = id
    · subst e
      simp only [upd_same, Option.some.injEq] at hb
      subst hb
      obtain ⟨q1, q2, vs, T, q3, q4⟩ := h2.blk i _ hm
      exact ⟨q1, q2, vs, T, q3, (hF vs q4).mono fun x y _ hx => hx.goes g⟩
    · have hu : upd m id (some (.box cs')) i = m i := upd_ne _ _ e
      have h4 := h2.blk i b (by rw [← hu]; exact hb)
      cases b with
      | box xs =>
        obtain ⟨q1, q2, vs, T, q3, q4⟩ := h4
        exact ⟨q1, q2, vs, T, q3, q4.mono fun x y _ hx => hx.goes g⟩
      | rows ty sz xs => exact h4
      | froz xs => exact h4
      | gone L => exact h4
      | lent j e sz xs => exact h4
      | fbox cs => exact h4
      | obox cs => exact h4
      | orec r => exact h4
      | mapb a ks xs => exact h4
      | fmap a ks xs => exact h4
  · have hb : ∀ i b, blockOf cc (upd m id (some (.box cs'))) i = some b → blockOf cc m i = some b := fun i b hb => by
      unfold blockOf at hb ⊢
      by_cases e : i = id
      · subst e; rw [upd_same] at hb; rw [hm]; exact hb
      · rw [upd_ne _ _ e] at hb; exact hb
    exact h2.inj i i' b (hb _ _ e1) (hb _ _ e2)
/-- A box's cell that is nothing becomes an own row. -/
theorem AW.freshB {c : Code} {σ : St} {Q : Exit → St → Prop} (bid j id : Nat) (e : TypeId) (sz : Nat) (hs : 0 < sz) {cs : List A} (hb : σ.m bid = some (.box cs)) (hj : cs[j]? = some .nil) (hm : σ.m id = none)
    (h : AW P c ⟨σ.n, σ.t, upd (upd σ.m id (some (.rows e sz []))) bid (some (.box (cs.set j (.own id 0))))⟩ Q) : AW P c σ Q := fun base S0 w0 df a w hG => by
  refine h base S0 w0 df a w ?_
  obtain ⟨cc, h1, h2, h3⟩ := hG
  have hne : bid ≠ id := fun e => by rw [e, hm] at hb; simp at hb
  obtain ⟨g, r, hv⟩ := h2.rows hm (e := e) (sz := sz) (xs := []) (v := .slice none 0 0) (Below.refl _ w) (by simp) hs (by simp) (vss := []) F2.nil (World.ownsRow_nil _ _ _ _)
  have hb1 : upd σ.m id (some (.rows e sz [])) bid = some (.box cs) := by rw [upd_ne _ _ hne]; exact hb
  obtain ⟨g2, r2⟩ := box_cells (cs' := cs.set j (.own id 0)) r hb1 fun vs hF => ⟨by rw [List.length_set]; exact hF.1, fun i x y hx hy => by
    rw [List.getElem?_set] at hx
    split at hx
    · rename_i hij
      subst hij
      split at hx
      · cases hx
        have hn := hF.2 j _ y hj hy
        rw [show y = .slice none 0 0 from hn]
        exact hv
      · simp at hx
    · exact hF.2 i x y hx hy⟩
  have g3 := g.trans g2
  exact ⟨_, ⟨h1.1, fun q hq => (h1.2 q hq).goes g3, h1.3.mono (g3.S 0) (g3.heap 0)⟩, r2, h3.goes g3⟩
end
end Go.Proofs.YtokifenilhlgbaaGreatDoor.Abs
end
section
/- The reference of layer desk, over values without addresses: Copied. -/
set_option linter.unusedSimpArgs false
set_option linter.unusedVariables false
set_option maxRecDepth 100000
namespace Go.Proofs.YtokifenilhlgbaaGreatDoor.Abs
open Go.RowKit
/-- A world's lists are short, and what is in them. -/
structure Tiny (w : Wld) : Prop where
  dl : w.draws.list.length ≤ 1000
  en : w.box.entries.length ≤ 70
  pl : ∀ s ∈ w.box.entries, s.plain.length ≤ 100
  gr : w.net.grams.length ≤ 64
  gw : ∀ g ∈ w.net.grams, g.words.length ≤ 100
  se : w.net.seen.length ≤ 300
  sw : ∀ s ∈ w.net.seen, s.length ≤ 100
  pp : w.people.length ≤ 10
  pu : ∀ p ∈ w.people, p.used.length ≤ 100 ∧ p.runs.length ≤ 100
  lg : w.log.length ≤ 300
  rg : w.regs.length ≤ 10
  rw : ∀ r ∈ w.regs, r.length ≤ 100
  lk : w.leaks.length ≤ 300
theorem tiny_of {w : Wld} (h : fewW w = true) : Tiny w := by
  unfold fewW fewT at h
  simp only [Bool.and_eq_true, decide_eq_true_eq] at h
  obtain ⟨h0, h1, h2, h3, h4⟩ := h
  obtain ⟨p1, p2⟩ := of_decide_eq_true h1
  obtain ⟨q1, q2, q3, q4⟩ := of_decide_eq_true h2
  obtain ⟨r1, r2⟩ := fewPl_iff h3
  refine ⟨by omega, by omega, fun s hs => ?_, by omega, fun s hs => ?_, by omega, fun s hs => ?_, r1, r2, by omega, by omega, fun s hs => ?_, by omega⟩
  · have := p1 s (by rw [List.take_of_length_le (by omega)]; exact hs); omega
  · have := q1 s (by rw [List.take_of_length_le (by omega)]; exact hs); omega
  · have := q2 s (by rw [List.take_of_length_le (by omega)]; exact hs); omega
  · have := h0 s (by rw [List.take_of_length_le (by omega)]; exact hs); omega
set_option maxHeartbeats 32000000 in
theorem q12_copied (w : Wld) (h : Tiny w) : ACalls Tryz.prog 16 [.agg (eWld w)] (.one (.agg (eWld w))) := by
  refine ACalls.intro (fn := Tryz.f16) Tryz.func16 rfl rfl (by simp [Tryz.f16]) ?_
  obtain ⟨dl, en, pl, gr, gw, se, sw, pp, pu, lg, rg, rw', lk⟩ := h
  unfold Tryz.f16
  simp only [eWld, eSealeds, eGrams, ePeople, eEvents, eRows, eWords, eLeaks, List.map_cons, List.map_nil]
  refine wkx1 trivial trivial trivial _ ?_
  all_goals (repeat intro h)
  all_goals refine ⟨?_⟩
  refine AW.freshB 3 10 45 98 4 (by decide) rfl rfl rfl ?_
  refine AW.loopW (fun z σ => ∃ k : Nat, z = w.box.entries.length - k ∧ k ≤ w.box.entries.length ∧ σ = ⟨167, (upd (upd (upd (upd (fun _ => .junk) 1 (.one (.ptr 1 0))) 2 (.one (.ptr 2 0))) 3 (.one (.ptr 3 0))) 4 (.one (.c (i64 k)))), (upd (upd (upd (upd (upd (fun _ => none) 1 (some (.box ((eWld w).map .c)))) 2 (some (.box [.c (u32 0), .c (i64 0), .c (i64 0), .c (i64 0), .c (i64 0), .c (i64 0), .c (i64 0), .nil, .c (i64 0), .c (i64 0), .nil, .c (i64 0), .nil, .nil, .nil, .nil, .nil, .nil]))) 12 (some (.rows 22 1 (w.draws.list.map eWord)))) 45 (some (.rows 98 4 ((w.box.entries.take k).map eSealed)))) 3 (some (.box [.c (u32 w.conf.window), .c (i64 w.conf.people), .c (i64 w.conf.box), .c (i64 w.conf.used), .c (i64 w.conf.runs), .c (i64 w.conf.net), .c (i64 w.conf.regs), .own 12 w.draws.list.length, .c (i64 w.draws.next), .c (i64 w.box.room), .own 45 k, .c (i64 w.net.room), .c (.row (w.net.grams.map eGram)), .c (.row (w.net.seen.map eSeen)), .c (.row (w.people.map ePerson)), .c (.row (w.log.map eEvent)), .c (.row (w.regs.map eSeen)), .c (.row (w.leaks.map eLeak))])))⟩) (n := w.box.entries.length) _ ⟨0, rfl, Nat.zero_le _, rfl⟩ (by simp only [eWld, eSealeds, eGrams, ePeople, eEvents, eRows, eWords, eLeaks, List.map_cons, List.map_nil, List.take_zero, List.map_nil]; exact lz trivial) ?_
  rintro z σ ⟨k, rfl, hk, rfl⟩
  simp only [eWld, eSealeds, eGrams, ePeople, eEvents, eRows, eWords, eLeaks, List.map_cons, List.map_nil]
  have hkl : (w.box.entries.take k).length = k := by rw [List.length_take]; omega
  by_cases hlt : k < w.box.entries.length
  · obtain ⟨x, hx⟩ : ∃ x, w.box.entries[k]? = some x := ⟨_, List.getElem?_eq_getElem hlt⟩
    have hxl := pl x (List.mem_of_getElem? hx)
    have hs := wrapI (x := (k : Int) + 1) (by omega) (by omega)
    have hst : (w.box.entries.take (k + 1)).map eSealed = (w.box.entries.take k).map eSealed ++ [eSealed x] := by rw [List.take_add_one, hx]; simp
    refine wkx1 (And.intro hx (And.intro hlt (And.intro hs (And.intro hkl (And.intro eSealed.eq_1 (And.intro eWords.eq_1 eRuns.eq_1)))))) trivial trivial _ ?_
    all_goals (repeat intro h)
    all_goals refine ⟨?_⟩
    refine ⟨w.box.entries.length - (k + 1), by omega, _, ⟨k + 1, rfl, by omega, rfl⟩, ?_⟩
    rw [hst]
    simp only [eWld, eSealeds, eGrams, ePeople, eEvents, eRows, eWords, eLeaks, List.map_cons, List.map_nil, eSealed, eRuns]
    exact lz trivial
  obtain rfl : k = w.box.entries.length := by omega
  rw [List.take_length]
  refine wkx1 hkl trivial trivial _ ?_
  all_goals (repeat intro h)
  all_goals refine ⟨?_⟩
  clear hlt hk hkl
  refine AW.freshB 3 12 79 68 2 (by decide) rfl rfl rfl ?_
  refine AW.loopW (fun z σ => ∃ k : Nat, z = w.net.grams.length - k ∧ k ≤ w.net.grams.length ∧ σ = ⟨167, (upd (upd (upd (upd (fun _ => .junk) 1 (.one (.ptr 1 0))) 2 (.one (.ptr 2 0))) 3 (.one (.ptr 3 0))) 6 (.one (.c (i64 k)))), (upd (upd (upd (upd (upd (upd (fun _ => none) 1 (some (.box ((eWld w).map .c)))) 2 (some (.box [.c (u32 0), .c (i64 0), .c (i64 0), .c (i64 0), .c (i64 0), .c (i64 0), .c (i64 0), .nil, .c (i64 0), .c (i64 0), .nil, .c (i64 0), .nil, .nil, .nil, .nil, .nil, .nil]))) 12 (some (.rows 22 1 (w.draws.list.map eWord)))) 45 (some (.rows 98 4 (w.box.entries.map eSealed)))) 79 (some (.rows 68 2 ((w.net.grams.take k).map eGram)))) 3 (some (.box [.c (u32 w.conf.window), .c (i64 w.conf.people), .c (i64 w.conf.box), .c (i64 w.conf.used), .c (i64 w.conf.runs), .c (i64 w.conf.net), .c (i64 w.conf.regs), .own 12 w.draws.list.length, .c (i64 w.draws.next), .c (i64 w.box.room), .own 45 w.box.entries.length, .c (i64 w.net.room), .own 79 k, .c (.row (w.net.seen.map eSeen)), .c (.row (w.people.map ePerson)), .c (.row (w.log.map eEvent)), .c (.row (w.regs.map eSeen)), .c (.row (w.leaks.map eLeak))])))⟩) (n := w.net.grams.length) _ ⟨0, rfl, Nat.zero_le _, rfl⟩ (by simp only [eWld, eSealeds, eGrams, ePeople, eEvents, eRows, eWords, eLeaks, List.map_cons, List.map_nil, List.take_zero, List.map_nil]; exact lz trivial) ?_
  rintro z σ ⟨k, rfl, hk, rfl⟩
  simp only [eWld, eSealeds, eGrams, ePeople, eEvents, eRows, eWords, eLeaks, List.map_cons, List.map_nil]
  have hkl : (w.net.grams.take k).length = k := by rw [List.length_take]; omega
  by_cases hlt : k < w.net.grams.length
  · obtain ⟨x, hx⟩ : ∃ x, w.net.grams[k]? = some x := ⟨_, List.getElem?_eq_getElem hlt⟩
    have hxl := gw x (List.mem_of_getElem? hx)
    have hs := wrapI (x := (k : Int) + 1) (by omega) (by omega)
    have hst : (w.net.grams.take (k + 1)).map eGram = (w.net.grams.take k).map eGram ++ [eGram x] := by rw [List.take_add_one, hx]; simp
    refine wkx1 (And.intro hx (And.intro hlt (And.intro hs (And.intro hkl (And.intro eGram.eq_1 (And.intro eWords.eq_1 eRuns.eq_1)))))) trivial trivial _ ?_
    all_goals (repeat intro h)
    all_goals refine ⟨?_⟩
    refine ⟨w.net.grams.length - (k + 1), by omega, _, ⟨k + 1, rfl, by omega, rfl⟩, ?_⟩
    rw [hst]
    simp only [eWld, eSealeds, eGrams, ePeople, eEvents, eRows, eWords, eLeaks, List.map_cons, List.map_nil, eGram, eRuns]
    exact lz trivial
  obtain rfl : k = w.net.grams.length := by omega
  rw [List.take_length]
  refine wkx1 hkl trivial trivial _ ?_
  all_goals (repeat intro h)
  all_goals refine ⟨?_⟩
  clear hlt hk hkl
  refine AW.freshB 3 13 104 25 1 (by decide) rfl rfl rfl ?_
  refine AW.loopW (fun z σ => ∃ k : Nat, z = w.net.seen.length - k ∧ k ≤ w.net.seen.length ∧ σ = ⟨167, (upd (upd (upd (upd (fun _ => .junk) 1 (.one (.ptr 1 0))) 2 (.one (.ptr 2 0))) 3 (.one (.ptr 3 0))) 7 (.one (.c (i64 k)))), (upd (upd (upd (upd (upd (upd (upd (fun _ => none) 1 (some (.box ((eWld w).map .c)))) 2 (some (.box [.c (u32 0), .c (i64 0), .c (i64 0), .c (i64 0), .c (i64 0), .c (i64 0), .c (i64 0), .nil, .c (i64 0), .c (i64 0), .nil, .c (i64 0), .nil, .nil, .nil, .nil, .nil, .nil]))) 12 (some (.rows 22 1 (w.draws.list.map eWord)))) 45 (some (.rows 98 4 (w.box.entries.map eSealed)))) 79 (some (.rows 68 2 (w.net.grams.map eGram)))) 104 (some (.rows 25 1 ((w.net.seen.take k).map eSeen)))) 3 (some (.box [.c (u32 w.conf.window), .c (i64 w.conf.people), .c (i64 w.conf.box), .c (i64 w.conf.used), .c (i64 w.conf.runs), .c (i64 w.conf.net), .c (i64 w.conf.regs), .own 12 w.draws.list.length, .c (i64 w.draws.next), .c (i64 w.box.room), .own 45 w.box.entries.length, .c (i64 w.net.room), .own 79 w.net.grams.length, .own 104 k, .c (.row (w.people.map ePerson)), .c (.row (w.log.map eEvent)), .c (.row (w.regs.map eSeen)), .c (.row (w.leaks.map eLeak))])))⟩) (n := w.net.seen.length) _ ⟨0, rfl, Nat.zero_le _, rfl⟩ (by simp only [eWld, eSealeds, eGrams, ePeople, eEvents, eRows, eWords, eLeaks, List.map_cons, List.map_nil, List.take_zero, List.map_nil]; exact lz trivial) ?_
  rintro z σ ⟨k, rfl, hk, rfl⟩
  simp only [eWld, eSealeds, eGrams, ePeople, eEvents, eRows, eWords, eLeaks, List.map_cons, List.map_nil]
  have hkl : (w.net.seen.take k).length = k := by rw [List.length_take]; omega
  by_cases hlt : k < w.net.seen.length
  · obtain ⟨x, hx⟩ : ∃ x, w.net.seen[k]? = some x := ⟨_, List.getElem?_eq_getElem hlt⟩
    have hxl := sw x (List.mem_of_getElem? hx)
    have hs := wrapI (x := (k : Int) + 1) (by omega) (by omega)
    have hst : (w.net.seen.take (k + 1)).map eSeen = (w.net.seen.take k).map eSeen ++ [eSeen x] := by rw [List.take_add_one, hx]; simp
    refine wkx1 (And.intro hx (And.intro hlt (And.intro hs (And.intro hkl (And.intro eSeen.eq_1 (And.intro eWords.eq_1 eRuns.eq_1)))))) trivial trivial _ ?_
    all_goals (repeat intro h)
    all_goals refine ⟨?_⟩
    refine ⟨w.net.seen.length - (k + 1), by omega, _, ⟨k + 1, rfl, by omega, rfl⟩, ?_⟩
    rw [hst]
    simp only [eWld, eSealeds, eGrams, ePeople, eEvents, eRows, eWords, eLeaks, List.map_cons, List.map_nil, eSeen, eRuns]
    exact lz trivial
  obtain rfl : k = w.net.seen.length := by omega
  rw [List.take_length]
  refine wkx1 hkl trivial trivial _ ?_
  all_goals (repeat intro h)
  all_goals refine ⟨?_⟩
  clear hlt hk hkl
  refine AW.freshB 3 14 134 53 6 (by decide) rfl rfl rfl ?_
  refine AW.loopW (fun z σ => ∃ k : Nat, z = w.people.length - k ∧ k ≤ w.people.length ∧ σ = ⟨167, (upd (upd (upd (upd (fun _ => .junk) 1 (.one (.ptr 1 0))) 2 (.one (.ptr 2 0))) 3 (.one (.ptr 3 0))) 8 (.one (.c (i64 k)))), (upd (upd (upd (upd (upd (upd (upd (upd (fun _ => none) 1 (some (.box ((eWld w).map .c)))) 2 (some (.box [.c (u32 0), .c (i64 0), .c (i64 0), .c (i64 0), .c (i64 0), .c (i64 0), .c (i64 0), .nil, .c (i64 0), .c (i64 0), .nil, .c (i64 0), .nil, .nil, .nil, .nil, .nil, .nil]))) 12 (some (.rows 22 1 (w.draws.list.map eWord)))) 45 (some (.rows 98 4 (w.box.entries.map eSealed)))) 79 (some (.rows 68 2 (w.net.grams.map eGram)))) 104 (some (.rows 25 1 (w.net.seen.map eSeen)))) 134 (some (.rows 53 6 ((w.people.take k).map ePerson)))) 3 (some (.box [.c (u32 w.conf.window), .c (i64 w.conf.people), .c (i64 w.conf.box), .c (i64 w.conf.used), .c (i64 w.conf.runs), .c (i64 w.conf.net), .c (i64 w.conf.regs), .own 12 w.draws.list.length, .c (i64 w.draws.next), .c (i64 w.box.room), .own 45 w.box.entries.length, .c (i64 w.net.room), .own 79 w.net.grams.length, .own 104 w.net.seen.length, .own 134 k, .c (.row (w.log.map eEvent)), .c (.row (w.regs.map eSeen)), .c (.row (w.leaks.map eLeak))])))⟩) (n := w.people.length) _ ⟨0, rfl, Nat.zero_le _, rfl⟩ (by simp only [eWld, eSealeds, eGrams, ePeople, eEvents, eRows, eWords, eLeaks, List.map_cons, List.map_nil, List.take_zero, List.map_nil]; exact lz trivial) ?_
  rintro z σ ⟨k, rfl, hk, rfl⟩
  simp only [eWld, eSealeds, eGrams, ePeople, eEvents, eRows, eWords, eLeaks, List.map_cons, List.map_nil]
  have hkl : (w.people.take k).length = k := by rw [List.length_take]; omega
  by_cases hlt : k < w.people.length
  · obtain ⟨x, hx⟩ : ∃ x, w.people[k]? = some x := ⟨_, List.getElem?_eq_getElem hlt⟩
    have hxl := pu x (List.mem_of_getElem? hx)
    have hs := wrapI (x := (k : Int) + 1) (by omega) (by omega)
    have hst : (w.people.take (k + 1)).map ePerson = (w.people.take k).map ePerson ++ [ePerson x] := by rw [List.take_add_one, hx]; simp
    refine wkx1 (And.intro hx (And.intro hlt (And.intro hs (And.intro hkl (And.intro ePerson.eq_1 (And.intro eWords.eq_1 eRuns.eq_1)))))) trivial trivial _ ?_
    all_goals (repeat intro h)
    all_goals refine ⟨?_⟩
    refine ⟨w.people.length - (k + 1), by omega, _, ⟨k + 1, rfl, by omega, rfl⟩, ?_⟩
    rw [hst]
    simp only [eWld, eSealeds, eGrams, ePeople, eEvents, eRows, eWords, eLeaks, List.map_cons, List.map_nil, ePerson, eRuns]
    exact lz trivial
  obtain rfl : k = w.people.length := by omega
  rw [List.take_length]
  refine wkx1 hkl trivial trivial _ ?_
  all_goals (repeat intro h)
  all_goals refine ⟨?_⟩
  clear hlt hk hkl
  refine AW.freshB 3 16 159 25 1 (by decide) rfl rfl rfl ?_
  refine AW.loopW (fun z σ => ∃ k : Nat, z = w.regs.length - k ∧ k ≤ w.regs.length ∧ σ = ⟨167, (upd (upd (upd (upd (fun _ => .junk) 1 (.one (.ptr 1 0))) 2 (.one (.ptr 2 0))) 3 (.one (.ptr 3 0))) 10 (.one (.c (i64 k)))), (upd (upd (upd (upd (upd (upd (upd (upd (upd (upd (fun _ => none) 1 (some (.box ((eWld w).map .c)))) 2 (some (.box [.c (u32 0), .c (i64 0), .c (i64 0), .c (i64 0), .c (i64 0), .c (i64 0), .c (i64 0), .nil, .c (i64 0), .c (i64 0), .nil, .c (i64 0), .nil, .nil, .nil, .nil, .nil, .nil]))) 12 (some (.rows 22 1 (w.draws.list.map eWord)))) 45 (some (.rows 98 4 (w.box.entries.map eSealed)))) 79 (some (.rows 68 2 (w.net.grams.map eGram)))) 104 (some (.rows 25 1 (w.net.seen.map eSeen)))) 134 (some (.rows 53 6 (w.people.map ePerson)))) 136 (some (.rows 61 10 (w.log.map eEvent)))) 159 (some (.rows 25 1 ((w.regs.take k).map eSeen)))) 3 (some (.box [.c (u32 w.conf.window), .c (i64 w.conf.people), .c (i64 w.conf.box), .c (i64 w.conf.used), .c (i64 w.conf.runs), .c (i64 w.conf.net), .c (i64 w.conf.regs), .own 12 w.draws.list.length, .c (i64 w.draws.next), .c (i64 w.box.room), .own 45 w.box.entries.length, .c (i64 w.net.room), .own 79 w.net.grams.length, .own 104 w.net.seen.length, .own 134 w.people.length, .own 136 w.log.length, .own 159 k, .c (.row (w.leaks.map eLeak))])))⟩) (n := w.regs.length) _ ⟨0, rfl, Nat.zero_le _, rfl⟩ (by simp only [eWld, eSealeds, eGrams, ePeople, eEvents, eRows, eWords, eLeaks, List.map_cons, List.map_nil, List.take_zero, List.map_nil]; exact lz trivial) ?_
  rintro z σ ⟨k, rfl, hk, rfl⟩
  simp only [eWld, eSealeds, eGrams, ePeople, eEvents, eRows, eWords, eLeaks, List.map_cons, List.map_nil]
  have hkl : (w.regs.take k).length = k := by rw [List.length_take]; omega
  by_cases hlt : k < w.regs.length
  · obtain ⟨x, hx⟩ : ∃ x, w.regs[k]? = some x := ⟨_, List.getElem?_eq_getElem hlt⟩
    have hxl := rw' x (List.mem_of_getElem? hx)
    have hs := wrapI (x := (k : Int) + 1) (by omega) (by omega)
    have hst : (w.regs.take (k + 1)).map eSeen = (w.regs.take k).map eSeen ++ [eSeen x] := by rw [List.take_add_one, hx]; simp
    refine wkx1 (And.intro hx (And.intro hlt (And.intro hs (And.intro hkl (And.intro eSeen.eq_1 (And.intro eWords.eq_1 eRuns.eq_1)))))) trivial trivial _ ?_
    all_goals (repeat intro h)
    all_goals refine ⟨?_⟩
    refine ⟨w.regs.length - (k + 1), by omega, _, ⟨k + 1, rfl, by omega, rfl⟩, ?_⟩
    rw [hst]
    simp only [eWld, eSealeds, eGrams, ePeople, eEvents, eRows, eWords, eLeaks, List.map_cons, List.map_nil, eSeen, eRuns]
    exact lz trivial
  obtain rfl : k = w.regs.length := by omega
  rw [List.take_length]
  refine wkx0 hkl trivial trivial
end Go.Proofs.YtokifenilhlgbaaGreatDoor.Abs
end
section
/- The laws of layer nsb, over values without addresses: what the document fixes; NsbTickets, NsbBacks, NsbKeeps. -/
set_option linter.unusedSimpArgs false
set_option linter.unusedVariables false
set_option maxRecDepth 100000
namespace Go.Proofs.YtokifenilhlgbaaGreatDoor.Abs
open Go.RowKit
def conf16 : Conf := ⟨5, 2, 9, 4, 4, 9, 2⟩
def W16 : Wld := newW conf16 [11, 12, 13, 14, 15, 16, 17] 2 2
def X16 : Wld × Int × Int := sealW W16 2147483660 3 ⟨0, 0, 1, 0, 70, 4, 0⟩
def mX16 : Mssg := ⟨3, 0, 0, 0, 0, X16.2.1, 0⟩
def A16 : Wld := (ticketW X16.1 2 mX16).1
def Y16 : Wld × Int × Int := sealW A16 70 5 ⟨2147483662, 0, 0, 0, 0, 0, 0⟩
def mY16 : Mssg := ⟨5, 0, 0, 0, 0, Y16.2.1, 0⟩
def B16 : Wld := (backW Y16.1 2 mY16).1
def ev16 : Event := ⟨4, 1, 2, 1, 2, 70, 4, 0, 2147483662, 0⟩
theorem w16_few : fewW W16 = true ∧ fewW X16.1 = true ∧ fewW A16 = true ∧ fewW Y16.1 = true ∧ fewW B16 = true := by decide +kernel
theorem w16_form : formW W16 = true ∧ formW X16.1 = true ∧ formW A16 = true ∧ formW Y16.1 = true ∧ formW B16 = true := by decide +kernel
theorem w16_e : (ticketW X16.1 2 mX16).2 = 0 ∧ (ticketW A16 2 mX16).2 = 8 ∧ (ticketW X16.1 1 mX16).2 = 6 ∧ (backW Y16.1 2 mY16).2 = 0 ∧ (backW B16 2 mY16).2 = 6 := by decide +kernel
theorem w16_d : B16.log.length = 2 ∧ B16.log[1]? = some ev16 ∧ W16.people[2]? = some ⟨2, 2147483660, 0, [], [], false⟩ ∧ A16.net.grams.length = 1 ∧ (A16.net.grams[0]?.map (·.to)) = some 1 := by decide +kernel
theorem w16_len : W16.people.length = 3 ∧ X16.1.people.length = 3 ∧ A16.people.length = 3 ∧ Y16.1.people.length = 3 ∧ B16.people.length = 3 := by decide +kernel
theorem w16_may : mayM mX16 = true ∧ mayM mY16 = true := by decide +kernel
set_option maxHeartbeats 32000000 in
theorem l16_awake : ACalls Tryz.prog 7 [] (rB true) := by
  refine ACalls.intro (fn := Tryz.f7) Tryz.func7 rfl rfl (by simp [Tryz.f7]) ?_
  obtain ⟨f1, f2, f3, f4, f5⟩ := w16_few
  obtain ⟨g1, g2, g3, g4, g5⟩ := w16_form
  obtain ⟨e1, e2, e3, e4, e5⟩ := w16_e
  obtain ⟨d1, d2, d3, d4, d5⟩ := w16_d
  obtain ⟨n1, n2, n3, n4, n5⟩ := w16_len
  obtain ⟨m1, m2⟩ := w16_may
  have c0 := q12_new conf16 [11, 12, 13, 14, 15, 16, 17] 2 2 rfl (by decide) rfl (by decide)
  rw [show newW conf16 [11, 12, 13, 14, 15, 16, 17] 2 2 = W16 from rfl] at c0
  have c1 := q12_seal W16 2147483660 3 ⟨0, 0, 1, 0, 70, 4, 0⟩ (small_of f1 g1)
  have c2 := p16_ticket X16.1 2 mX16 g2 (smallN_of (by decide) f2 g2) (by omega) (by omega) rfl m1
  have c3 := p16_ticket A16 2 mX16 g3 (smallN_of (by decide) f3 g3) (by omega) (by omega) rfl m1
  have c4 := p16_ticket X16.1 1 mX16 g2 (smallN_of (by decide) f2 g2) (by omega) (by omega) rfl m1
  have c5 := q12_seal A16 70 5 ⟨2147483662, 0, 0, 0, 0, 0, 0⟩ (small_of f3 g3)
  have c6 := p16_back Y16.1 2 mY16 g4 (smallN_of (by decide) f4 g4) (by omega) (by omega) rfl m2
  have c7 := p16_back B16 2 mY16 g5 (smallN_of (by decide) f5 g5) (by omega) (by omega) rfl m2
  rw [show sealW W16 2147483660 3 ⟨0, 0, 1, 0, 70, 4, 0⟩ = X16 from rfl] at c1
  rw [e1, show (ticketW X16.1 2 mX16).1 = A16 from rfl] at c2
  rw [e2] at c3
  rw [e3] at c4
  rw [show sealW A16 70 5 ⟨2147483662, 0, 0, 0, 0, 0, 0⟩ = Y16 from rfl] at c5
  rw [e4, show (backW Y16.1 2 mY16).1 = B16 from rfl] at c6
  rw [e5] at c7
  have heq := eqok_event
  clear f1 f2 f3 f4 f5 g1 g2 g3 g4 g5 e1 e2 e3 e4 e5 n2 n3 n4 n5 m1 m2
  generalize (backW B16 2 mY16).1 = Z1 at *
  generalize (ticketW A16 2 mX16).1 = Z2 at *
  generalize (ticketW X16.1 1 mX16).1 = Z3 at *
  generalize B16 = B at *
  unfold mX16 mY16 at *
  generalize Y16 = Y at *
  generalize A16 = A at *
  generalize X16 = X at *
  generalize W16 = W at *
  obtain ⟨Y, yh, ye⟩ := Y
  obtain ⟨X, xh, xe⟩ := X
  obtain ⟨g, hg⟩ : ∃ g, A.net.grams[0]? = some g := ⟨_, List.getElem?_eq_getElem (by omega)⟩
  rw [hg] at d5
  have d6 : g.to = 1 := by simpa using d5
  have l1 : (B.log.length : Int) = 2 := by omega
  have l2 : 1 < B.log.length := by omega
  have l3 : 2 < W.people.length := by omega
  have l4 : (A.net.grams.length : Int) = 1 := by omega
  have l5 : 0 < A.net.grams.length := by omega
  clear d1 n1 d4 d5
  unfold Tryz.f7
  simp only [eWld, conf16, eConf, eMssg, ePrt, eSealeds, eGrams, ePeople, eEvents, eRows, eWords, eLeaks, eWord, List.map_cons, List.map_nil, rB, ev16] at *
  refine wkx0 (And.intro l1 (And.intro l2 (And.intro l3 (And.intro l4 (And.intro l5 (And.intro d2 (And.intro d3 (And.intro d6 (And.intro hg (And.intro eGram.eq_1 (And.intro ePerson.eq_1 (And.intro eWords.eq_1 (And.intro eRuns.eq_1 (And.intro eEvent.eq_1 heq)))))))))))))) (And.intro c0 (And.intro c1 (And.intro c2 (And.intro c3 (And.intro c4 (And.intro c5 (And.intro c6 c7))))))) trivial
def fitsQ (w : Wld) (me : Int) (m : Mssg) (k : Int) : Bool := fewW w && (formW w && (decide (1 ≤ me) && (decide (me < (w.people.length : Int)) && (m.kind == k && mayM m))))
set_option maxHeartbeats 8000000 in
theorem l16_fits (w : Wld) (me : Int) (m : Mssg) (k : Int) : ACalls Tryz.prog 8 [.agg (eWld w), .one (u32 me), .agg (eMssg m), .one (u32 k)] (rB (fitsQ w me m k)) := by
  refine ACalls.introF (fn := Tryz.f8) Tryz.func8 rfl rfl (by simp [Tryz.f8]) fun hf => ?_
  have hme := in_u32 (Fine.int (hf (.one (u32 me)) (by simp)))
  have hpl : w.people.length ≤ 9223372036854775807 := Fine.rowC (f := ePerson) (k := 0) ((hf (.agg (eWld w)) (by simp) : FineCA (.agg (eWld w))) (ePeople w.people) (by simp [eWld]))
  clear hf
  have c1 := q12_few w
  have c2 := q12_form w
  have c3 := q03_may m
  have w1 : IntKind.u64.wrap me = me := by rw [IntKind.wrap_u64]; omega
  have w2 : IntKind.u64.wrap (w.people.length : Int) = (w.people.length : Int) := by rw [IntKind.wrap_u64]; omega
  unfold Tryz.f8
  unfold fitsQ
  generalize fewW w = b1 at *
  generalize formW w = b2 at *
  generalize mayM m = b3 at *
  simp only [eWld, eMssg, eSealeds, eGrams, ePeople, eEvents, eRows, eWords, eLeaks, rB] at *
  cases b1
  · refine wk0 trivial (And.intro c1 (And.intro c2 c3)) trivial
  cases b2
  · refine wk0 trivial (And.intro c1 (And.intro c2 c3)) trivial
  by_cases g1 : 1 ≤ me
  rotate_left
  · rw [decide_eq_false g1]
    refine wk0 (And.intro g1 (And.intro w1 w2)) (And.intro c1 (And.intro c2 c3)) trivial
  rw [decide_eq_true g1]
  by_cases g2 : me < (w.people.length : Int)
  rotate_left
  · rw [decide_eq_false g2]
    refine wk0 (And.intro g1 (And.intro g2 (And.intro w1 w2))) (And.intro c1 (And.intro c2 c3)) trivial
  rw [decide_eq_true g2]
  cases hk : (m.kind == k) <;> cases b3
  all_goals repeat' (first
    | (refine hC ?_ ?_ ?_ ?_ ?_
       rotate_left
       · rfl
       · simp only [go_sem, ↓reduceIte, reduceCtorEq, Nat.reduceLT, Nat.reduceEqDiff, Nat.reduceBEq, Nat.reduceAdd, Nat.reduceSub, Nat.reduceMul, Nat.reduceLeDiff, Int.reduceLE, Int.reduceLT, Int.reduceNeg, Int.reduceEq, Int.reduceBEq, Int.reduceBNe, Int.reduceToNat, g1, g2, w1, w2, hk]
       · simp only [go_sem, ↓reduceIte, reduceCtorEq, Nat.reduceLT, Nat.reduceEqDiff, Nat.reduceBEq, Nat.reduceAdd, Nat.reduceSub, Nat.reduceMul, Nat.reduceLeDiff, Int.reduceLE, Int.reduceLT, Int.reduceNeg, Int.reduceEq, Int.reduceBEq, Int.reduceBNe, Int.reduceToNat, g1, g2, w1, w2, hk]
         first | (refine And.intro ?_ ?_; exact c1; first | exact trivial | (simp only [go_sem, ↓reduceIte, reduceCtorEq, Nat.reduceLT, Nat.reduceEqDiff, Nat.reduceBEq, Nat.reduceAdd, Nat.reduceSub, Nat.reduceMul, Nat.reduceLeDiff, Int.reduceLE, Int.reduceLT, Int.reduceNeg, Int.reduceEq, Int.reduceBEq, Int.reduceBNe, Int.reduceToNat, g1, g2, w1, w2, hk]; done)) | (refine And.intro (ACalls.args (k := ?_) ?_ ?_) ?_; rotate_left; exact c1; repeat' (first | exact trivial | exact Or.inl ⟨rfl, rfl⟩ | exact Or.inr rfl | apply And.intro))
       simp only [go_sem, ↓reduceIte, reduceCtorEq, Nat.reduceLT, Nat.reduceEqDiff, Nat.reduceBEq, Nat.reduceAdd, Nat.reduceSub, Nat.reduceMul, Nat.reduceLeDiff, Int.reduceLE, Int.reduceLT, Int.reduceNeg, Int.reduceEq, Int.reduceBEq, Int.reduceBNe, Int.reduceToNat, g1, g2, w1, w2, hk])
    | (refine hC ?_ ?_ ?_ ?_ ?_
       rotate_left
       · rfl
       · simp only [go_sem, ↓reduceIte, reduceCtorEq, Nat.reduceLT, Nat.reduceEqDiff, Nat.reduceBEq, Nat.reduceAdd, Nat.reduceSub, Nat.reduceMul, Nat.reduceLeDiff, Int.reduceLE, Int.reduceLT, Int.reduceNeg, Int.reduceEq, Int.reduceBEq, Int.reduceBNe, Int.reduceToNat, g1, g2, w1, w2, hk]
       · simp only [go_sem, ↓reduceIte, reduceCtorEq, Nat.reduceLT, Nat.reduceEqDiff, Nat.reduceBEq, Nat.reduceAdd, Nat.reduceSub, Nat.reduceMul, Nat.reduceLeDiff, Int.reduceLE, Int.reduceLT, Int.reduceNeg, Int.reduceEq, Int.reduceBEq, Int.reduceBNe, Int.reduceToNat, g1, g2, w1, w2, hk]
         first | (refine And.intro ?_ ?_; exact c2; first | exact trivial | (simp only [go_sem, ↓reduceIte, reduceCtorEq, Nat.reduceLT, Nat.reduceEqDiff, Nat.reduceBEq, Nat.reduceAdd, Nat.reduceSub, Nat.reduceMul, Nat.reduceLeDiff, Int.reduceLE, Int.reduceLT, Int.reduceNeg, Int.reduceEq, Int.reduceBEq, Int.reduceBNe, Int.reduceToNat, g1, g2, w1, w2, hk]; done)) | (refine And.intro (ACalls.args (k := ?_) ?_ ?_) ?_; rotate_left; exact c2; repeat' (first | exact trivial | exact Or.inl ⟨rfl, rfl⟩ | exact Or.inr rfl | apply And.intro))
       simp only [go_sem, ↓reduceIte, reduceCtorEq, Nat.reduceLT, Nat.reduceEqDiff, Nat.reduceBEq, Nat.reduceAdd, Nat.reduceSub, Nat.reduceMul, Nat.reduceLeDiff, Int.reduceLE, Int.reduceLT, Int.reduceNeg, Int.reduceEq, Int.reduceBEq, Int.reduceBNe, Int.reduceToNat, g1, g2, w1, w2, hk])
    | (refine hC ?_ ?_ ?_ ?_ ?_
       rotate_left
       · rfl
       · simp only [go_sem, ↓reduceIte, reduceCtorEq, Nat.reduceLT, Nat.reduceEqDiff, Nat.reduceBEq, Nat.reduceAdd, Nat.reduceSub, Nat.reduceMul, Nat.reduceLeDiff, Int.reduceLE, Int.reduceLT, Int.reduceNeg, Int.reduceEq, Int.reduceBEq, Int.reduceBNe, Int.reduceToNat, g1, g2, w1, w2, hk]
       · simp only [go_sem, ↓reduceIte, reduceCtorEq, Nat.reduceLT, Nat.reduceEqDiff, Nat.reduceBEq, Nat.reduceAdd, Nat.reduceSub, Nat.reduceMul, Nat.reduceLeDiff, Int.reduceLE, Int.reduceLT, Int.reduceNeg, Int.reduceEq, Int.reduceBEq, Int.reduceBNe, Int.reduceToNat, g1, g2, w1, w2, hk]
         first | (refine And.intro ?_ ?_; exact c3; first | exact trivial | (simp only [go_sem, ↓reduceIte, reduceCtorEq, Nat.reduceLT, Nat.reduceEqDiff, Nat.reduceBEq, Nat.reduceAdd, Nat.reduceSub, Nat.reduceMul, Nat.reduceLeDiff, Int.reduceLE, Int.reduceLT, Int.reduceNeg, Int.reduceEq, Int.reduceBEq, Int.reduceBNe, Int.reduceToNat, g1, g2, w1, w2, hk]; done)) | (refine And.intro (ACalls.args (k := ?_) ?_ ?_) ?_; rotate_left; exact c3; repeat' (first | exact trivial | exact Or.inl ⟨rfl, rfl⟩ | exact Or.inr rfl | apply And.intro))
       simp only [go_sem, ↓reduceIte, reduceCtorEq, Nat.reduceLT, Nat.reduceEqDiff, Nat.reduceBEq, Nat.reduceAdd, Nat.reduceSub, Nat.reduceMul, Nat.reduceLeDiff, Int.reduceLE, Int.reduceLT, Int.reduceNeg, Int.reduceEq, Int.reduceBEq, Int.reduceBNe, Int.reduceToNat, g1, g2, w1, w2, hk])
    | (refine hK _ _ ?_; clear hK hC; clear K C)
    | (refine hK _ _ rfl ?_; clear hK hC; clear K C)
    | (refine hK _ _ (by simp only [crs, crsI, alfO, alfL, Nat.reduceLT]; rfl) ?_; clear hK hC; clear K C)
    | (refine AW.seqR fun K C hK hC => ?_; simp only [go_sem, ↓reduceIte, reduceCtorEq, Nat.reduceLT, Nat.reduceEqDiff, Nat.reduceBEq, Nat.reduceAdd, Nat.reduceSub, Nat.reduceMul, Nat.reduceLeDiff, Int.reduceLE, Int.reduceLT, Int.reduceNeg, Int.reduceEq, Int.reduceBEq, Int.reduceBNe, Int.reduceToNat, g1, g2, w1, w2, hk])
    | (refine AW.seqD rfl fun K C hK hC => ?_; simp only [go_sem, ↓reduceIte, reduceCtorEq, Nat.reduceLT, Nat.reduceEqDiff, Nat.reduceBEq, Nat.reduceAdd, Nat.reduceSub, Nat.reduceMul, Nat.reduceLeDiff, Int.reduceLE, Int.reduceLT, Int.reduceNeg, Int.reduceEq, Int.reduceBEq, Int.reduceBNe, Int.reduceToNat, g1, g2, w1, w2, hk])
    | (refine AW.reg fun K C hK hC => ?_; simp only [go_sem, ↓reduceIte, reduceCtorEq, Nat.reduceLT, Nat.reduceEqDiff, Nat.reduceBEq, Nat.reduceAdd, Nat.reduceSub, Nat.reduceMul, Nat.reduceLeDiff, Int.reduceLE, Int.reduceLT, Int.reduceNeg, Int.reduceEq, Int.reduceBEq, Int.reduceBNe, Int.reduceToNat, g1, g2, w1, w2, hk])
    | (refine AW.regD rfl fun K C hK hC => ?_; simp only [go_sem, ↓reduceIte, reduceCtorEq, Nat.reduceLT, Nat.reduceEqDiff, Nat.reduceBEq, Nat.reduceAdd, Nat.reduceSub, Nat.reduceMul, Nat.reduceLeDiff, Int.reduceLE, Int.reduceLT, Int.reduceNeg, Int.reduceEq, Int.reduceBEq, Int.reduceBNe, Int.reduceToNat, g1, g2, w1, w2, hk])
    | refine AW.seqS ?_
    | (refine AW.ret ?_; simp only [go_sem, ↓reduceIte, reduceCtorEq, Nat.reduceLT, Nat.reduceEqDiff, Nat.reduceBEq, Nat.reduceAdd, Nat.reduceSub, Nat.reduceMul, Nat.reduceLeDiff, Int.reduceLE, Int.reduceLT, Int.reduceNeg, Int.reduceEq, Int.reduceBEq, Int.reduceBNe, Int.reduceToNat, g1, g2, w1, w2, hk])
    | (refine AW.cond rfl (fun h => ?_) (fun h => ?_) <;> (try simp only [decide_eq_true_eq, decide_eq_false_iff_not, bne_iff_ne, beq_iff_eq, bne_eq_false_iff_eq, beq_eq_false_iff_ne, ne_eq, ge_iff_le, gt_iff_lt, Bool.not_eq_true, Bool.not_eq_false, Bool.not_not, Bool.not_true, Bool.not_false, Int.not_le, Int.not_lt, not_true_eq_false, not_false_eq_true, reduceCtorEq, Bool.false_eq_true, Bool.not_eq_true', Bool.not_eq_false'] at h) <;> first | (exfalso; omega) | skip)
    | refine AW.skip ?_
    | refine AW.seq ?_
    | refine AW.block ?_
    | (refine AW.exit ?_; simp only [go_sem, ↓reduceIte, reduceCtorEq, Nat.reduceLT, Nat.reduceEqDiff, Nat.reduceBEq, Nat.reduceAdd, Nat.reduceSub, Nat.reduceMul, Nat.reduceLeDiff, Int.reduceLE, Int.reduceLT, Int.reduceNeg, Int.reduceEq, Int.reduceBEq, Int.reduceBNe, Int.reduceToNat, g1, g2, w1, w2, hk])
    | (refine ite_on (fun h => ?_) (fun h => ?_) <;> (try simp only [decide_eq_true_eq, decide_eq_false_iff_not, bne_iff_ne, beq_iff_eq, bne_eq_false_iff_eq, beq_eq_false_iff_ne, ne_eq, ge_iff_le, gt_iff_lt, Bool.not_eq_true, Bool.not_eq_false, Bool.not_not, Bool.not_true, Bool.not_false, Int.not_le, Int.not_lt, not_true_eq_false, not_false_eq_true, reduceCtorEq, Bool.false_eq_true, Bool.not_eq_true', Bool.not_eq_false'] at h) <;> first | (exfalso; omega) | skip)
    | rw [thenN]
    | rw [blockN]
    | rw [scopeN]
    | refine AW.scope ?_
    | refine AW.label ?_
    | refine And.intro ?_ ?_
    | refine lcons rfl ?_
    | exact lGram _
    | exact lSeen _
    | exact lWord _
    | exact lSealed _
    | exact lRun _
    | exact lPerson _
    | exact lEvent _
    | exact lLeak _
    | exact lNum _
    | exact lOprn _
    | exact in64 (by omega) (by omega)
    | exact in32 (by omega) (by omega)
    | omega)
theorem fitsQ_iff {w : Wld} {me : Int} {m : Mssg} {k : Int} (h : fitsQ w me m k = true) : fewW w = true ∧ formW w = true ∧ 1 ≤ me ∧ me < (w.people.length : Int) ∧ m.kind = k ∧ mayM m = true := by
  unfold fitsQ at h
  simpa only [Bool.and_eq_true, beq_iff_eq, decide_eq_true_eq] using h
set_option maxHeartbeats 16000000 in
theorem l16_tickets (w : Wld) (me : Int) (m : Mssg) : ACalls Tryz.prog 3 [.agg (eWld w), .one (u32 me), .agg (eMssg m)] (rB true) := by
  refine ACalls.intro (fn := Tryz.f3) Tryz.func3 rfl rfl (by simp [Tryz.f3]) ?_
  have aw := l16_awake
  have ft := l16_fits w me m 3
  unfold Tryz.f3
  cases hF : fitsQ w me m 3
  · rw [hF] at ft
    simp only [eWld, eMssg, eSealeds, eGrams, ePeople, eEvents, eRows, eWords, eLeaks, rB] at *
    refine wk0 trivial (And.intro aw ft) trivial
  rw [hF] at ft
  obtain ⟨h1, h2, h3, h4, h5, h6⟩ := fitsQ_iff hF
  have sm : SmallN 10 w := smallN_of (by decide) h1 h2
  obtain ⟨_, hb, _, hn, _⟩ := formW_iff h2
  have c1 := p16_ticket w me m h2 sm h3 h4 h5 h6
  have d1 := q16_ticket w me m sm hb hn (by have := (person_used h2 me).2; omega) (by have := (person_used h2 me).1; omega)
  have s1 := q12_same (ticketW w me m).1 (ticketW w me m).1
  rw [decide_eq_true rfl] at s1
  clear h1 h2 h3 h4 h5 h6 sm hb hn hF
  generalize ticketW w me m = z at *
  simp only [eWld, eMssg, eSealeds, eGrams, ePeople, eEvents, eRows, eWords, eLeaks, rB] at *
  refine wkx0 trivial (And.intro aw (And.intro ft (And.intro c1 (And.intro d1 s1)))) trivial
set_option maxHeartbeats 16000000 in
theorem l16_backs (w : Wld) (me : Int) (m : Mssg) : ACalls Tryz.prog 4 [.agg (eWld w), .one (u32 me), .agg (eMssg m)] (rB true) := by
  refine ACalls.intro (fn := Tryz.f4) Tryz.func4 rfl rfl (by simp [Tryz.f4]) ?_
  have aw := l16_awake
  have ft := l16_fits w me m 5
  unfold Tryz.f4
  cases hF : fitsQ w me m 5
  · rw [hF] at ft
    simp only [eWld, eMssg, eSealeds, eGrams, ePeople, eEvents, eRows, eWords, eLeaks, rB] at *
    refine wk0 trivial (And.intro aw ft) trivial
  rw [hF] at ft
  obtain ⟨h1, h2, h3, h4, h5, h6⟩ := fitsQ_iff hF
  have sm : SmallN 10 w := smallN_of (by decide) h1 h2
  have c1 := p16_back w me m h2 sm h3 h4 h5 h6
  have d1 := q16_back w me m sm (by have := (person_used h2 me).2; omega)
  have s1 := q12_same (backW w me m).1 (backW w me m).1
  rw [decide_eq_true rfl] at s1
  clear h1 h2 h3 h4 h5 h6 sm hF
  generalize backW w me m = z at *
  simp only [eWld, eMssg, eSealeds, eGrams, ePeople, eEvents, eRows, eWords, eLeaks, rB] at *
  refine wkx0 trivial (And.intro aw (And.intro ft (And.intro c1 (And.intro d1 s1)))) trivial
set_option maxHeartbeats 16000000 in
theorem l16_keeps (w : Wld) (me : Int) (m : Mssg) : ACalls Tryz.prog 6 [.agg (eWld w), .one (u32 me), .agg (eMssg m)] (rB true) := by
  refine ACalls.intro (fn := Tryz.f6) Tryz.func6 rfl rfl (by simp [Tryz.f6]) ?_
  have aw := l16_awake
  have ft := l16_fits w me m m.kind
  unfold Tryz.f6
  cases hF : fitsQ w me m m.kind
  · rw [hF] at ft
    simp only [eWld, eMssg, eSealeds, eGrams, ePeople, eEvents, eRows, eWords, eLeaks, rB] at *
    refine wk0 trivial (And.intro aw ft) trivial
  rw [hF] at ft
  obtain ⟨h1, h2, h3, h4, h5, h6⟩ := fitsQ_iff hF
  have sm : SmallN 10 w := smallN_of (by decide) h1 h2
  have cp := q12_copied w (tiny_of h1)
  have s2 := q12_same w w
  rw [decide_eq_true rfl] at s2
  by_cases k2 : m.kind = 3
  · have c1 := p16_ticket w me m h2 sm h3 h4 k2 h6
    clear h1 h2 h3 h4 h5 h6 sm hF
    have k2' : (m.kind != 3) = false := by simp [k2]
    have k2'' : (m.kind == 3) = true := by simp [k2]
    generalize ticketW w me m = z at *
    simp only [eWld, eMssg, eSealeds, eGrams, ePeople, eEvents, eRows, eWords, eLeaks, rB] at *
    refine wk0 (And.intro k2' k2'') (And.intro aw (And.intro ft (And.intro cp (And.intro c1 s2)))) trivial
  have k2' : (m.kind != 3) = true := by simp [k2]
  have k2'' : (m.kind == 3) = false := by simp [k2]
  by_cases k4 : m.kind = 5
  · have c1 := p16_back w me m h2 sm h3 h4 k4 h6
    clear h1 h2 h3 h4 h5 h6 sm hF
    have k4' : (m.kind != 5) = false := by simp [k4]
    generalize backW w me m = z at *
    simp only [eWld, eMssg, eSealeds, eGrams, ePeople, eEvents, eRows, eWords, eLeaks, rB] at *
    refine wk0 (And.intro k2' (And.intro k2'' k4')) (And.intro aw (And.intro ft (And.intro cp (And.intro c1 s2)))) trivial
  have k4' : (m.kind != 5) = true := by simp [k4]
  simp only [eWld, eMssg, eSealeds, eGrams, ePeople, eEvents, eRows, eWords, eLeaks, rB] at *
  refine wk0 (And.intro k2' (And.intro k2'' k4')) (And.intro aw ft) trivial
end Go.Proofs.YtokifenilhlgbaaGreatDoor.Abs
end
section
/- What is handed in, opened: whatever its type. -/
set_option linter.unusedSimpArgs false
set_option linter.unusedVariables false
set_option maxRecDepth 100000
namespace Go.Proofs.YtokifenilhlgbaaGreatDoor.Abs
open Go.RowKit
/-- A struct that is handed in, by value. -/
theorem open_agg {α : Type} {C : Cod α} {H : Type} {enc : TypeId × Value → H} {P : Program} {W : World} {r : Reach} {b0 : Nat} {t : TypeId} {fs : Array Field} {v : Value} {d : DataW H} {p : List MemPlace} (ho : Cod.Opens P t C) (hs : P.underlying t = some (.struct fs))
    (hv : Value.okWide P W r b0 t v) (h : DataW.Trod enc P W 0 (fun _ => true) true t v d p) : ∃ (vs : List Value) (y : α), v = .agg vs.toArray ∧ C.rep W W.heap.size vs y := by
  obtain ⟨cs, rfl, _⟩ := Go.WideShapes.okWide_struct hs hv
  obtain ⟨fuel, hf⟩ := h
  obtain ⟨y, hy⟩ := ho.2 H enc W fuel cs.toList _ hf
  exact ⟨cs.toList, y, rfl, hy⟩
theorem RC.int {S : Sh} {w : World} {k : IntKind} {n : Int} (h : (Lit.int k n).wf = true) : RC S w (.one (.v (.int k n))) (.int k n) := R.v (inK_wf.trans h)
theorem RC.flag {S : Sh} {w : World} (b : Bool) : RC S w (.one (.v (.bool b))) (.bool b) := R.v rfl
theorem openWords : Cod.Opens Tryz.prog 25 Cod.words := Cod.Opens.row (e := 22) Tryz.underlying25 (by kernel_rfl) (Cod.Opens.num Tryz.underlying22 (by kernel_rfl)) (by decide)
end Go.Proofs.YtokifenilhlgbaaGreatDoor.Abs
end
section
/- What is handed in, opened: nets and frames. -/
set_option linter.unusedSimpArgs false
set_option linter.unusedVariables false
set_option maxRecDepth 100000
namespace Go.Proofs.YtokifenilhlgbaaGreatDoor.Abs
open Go.RowKit
theorem openRows : Cod.Opens Tryz.prog 32 Cod.words.row := Cod.Opens.row (e := 25) Tryz.underlying32 (by kernel_rfl) openWords (by decide)
theorem openGram : Cod.Opens Tryz.prog 68 gramC :=
  (Cod.Opens.struct Tryz.underlying68 (by kernel_rfl) (Cod.OpensAt.cons rfl (Cod.Opens.num Tryz.underlying22 (by kernel_rfl)) (Cod.OpensAt.one rfl openWords))).via _ fun a => ⟨⟨a.1, a.2⟩, rfl⟩
theorem openNet : Cod.Opens Tryz.prog 34 netC :=
  (Cod.Opens.struct Tryz.underlying34 (by kernel_rfl) (Cod.OpensAt.cons rfl (Cod.Opens.num Tryz.underlying3 (by kernel_rfl))
    (Cod.OpensAt.cons rfl (Cod.Opens.row (e := 68) Tryz.underlying31 (by kernel_rfl) openGram (by decide)) (Cod.OpensAt.one rfl openRows)))).via _ fun a => ⟨⟨a.1, a.2.1, a.2.2⟩, rfl⟩
end Go.Proofs.YtokifenilhlgbaaGreatDoor.Abs
end
section
/- What is handed in, opened: boxes and their entries. -/
set_option linter.unusedSimpArgs false
set_option linter.unusedVariables false
set_option maxRecDepth 100000
namespace Go.Proofs.YtokifenilhlgbaaGreatDoor.Abs
open Go.RowKit
theorem openSealed : Cod.Opens Tryz.prog 98 sealedC :=
  (Cod.Opens.struct Tryz.underlying98 (by kernel_rfl) (Cod.OpensAt.cons rfl (Cod.Opens.num Tryz.underlying22 (by kernel_rfl))
    (Cod.OpensAt.cons rfl (Cod.Opens.num Tryz.underlying22 (by kernel_rfl)) (Cod.OpensAt.cons rfl (Cod.Opens.num Tryz.underlying22 (by kernel_rfl)) (Cod.OpensAt.one rfl openWords))))).via _ fun a => ⟨⟨a.1, a.2.1, a.2.2.1, a.2.2.2⟩, rfl⟩
theorem openBox : Cod.Opens Tryz.prog 30 boxC :=
  (Cod.Opens.struct Tryz.underlying30 (by kernel_rfl) (Cod.OpensAt.cons rfl (Cod.Opens.num Tryz.underlying3 (by kernel_rfl))
    (Cod.OpensAt.one rfl (Cod.Opens.row (e := 98) Tryz.underlying28 (by kernel_rfl) openSealed (by decide))))).via _ fun a => ⟨⟨a.1, a.2⟩, rfl⟩
end Go.Proofs.YtokifenilhlgbaaGreatDoor.Abs
end
section
/- What is handed in, opened: runs, people, events, parts, messages, operations, worlds. -/
set_option linter.unusedSimpArgs false
set_option linter.unusedVariables false
set_option maxRecDepth 100000
namespace Go.Proofs.YtokifenilhlgbaaGreatDoor.Abs
open Go.RowKit
theorem openRun : Cod.Opens Tryz.prog 55 runC :=
  (Cod.Opens.struct Tryz.underlying55 (by kernel_rfl) (Cod.OpensAt.cons rfl (Cod.Opens.num Tryz.underlying3 (by kernel_rfl)) (Cod.OpensAt.cons rfl (Cod.Opens.num Tryz.underlying3 (by kernel_rfl)) (Cod.OpensAt.cons rfl (Cod.Opens.num Tryz.underlying22 (by kernel_rfl)) (Cod.OpensAt.cons rfl (Cod.Opens.num Tryz.underlying22 (by kernel_rfl)) (Cod.OpensAt.cons rfl (Cod.Opens.num Tryz.underlying22 (by kernel_rfl)) (Cod.OpensAt.cons rfl (Cod.Opens.num Tryz.underlying22 (by kernel_rfl)) (Cod.OpensAt.cons rfl (Cod.Opens.num Tryz.underlying22 (by kernel_rfl)) (Cod.OpensAt.cons rfl (Cod.Opens.num Tryz.underlying22 (by kernel_rfl)) (Cod.OpensAt.one rfl (Cod.Opens.num Tryz.underlying3 (by kernel_rfl)))))))))))).via _ fun a => ⟨⟨a.1, a.2.1, a.2.2.1, a.2.2.2.1, a.2.2.2.2.1, a.2.2.2.2.2.1, a.2.2.2.2.2.2.1, a.2.2.2.2.2.2.2.1, a.2.2.2.2.2.2.2.2⟩, rfl⟩
theorem openEvent : Cod.Opens Tryz.prog 61 eventC :=
  (Cod.Opens.struct Tryz.underlying61 (by kernel_rfl) (Cod.OpensAt.cons rfl (Cod.Opens.num Tryz.underlying3 (by kernel_rfl)) (Cod.OpensAt.cons rfl (Cod.Opens.num Tryz.underlying3 (by kernel_rfl)) (Cod.OpensAt.cons rfl (Cod.Opens.num Tryz.underlying3 (by kernel_rfl)) (Cod.OpensAt.cons rfl (Cod.Opens.num Tryz.underlying22 (by kernel_rfl)) (Cod.OpensAt.cons rfl (Cod.Opens.num Tryz.underlying22 (by kernel_rfl)) (Cod.OpensAt.cons rfl (Cod.Opens.num Tryz.underlying22 (by kernel_rfl)) (Cod.OpensAt.cons rfl (Cod.Opens.num Tryz.underlying22 (by kernel_rfl)) (Cod.OpensAt.cons rfl (Cod.Opens.num Tryz.underlying22 (by kernel_rfl)) (Cod.OpensAt.cons rfl (Cod.Opens.num Tryz.underlying22 (by kernel_rfl)) (Cod.OpensAt.one rfl (Cod.Opens.num Tryz.underlying22 (by kernel_rfl))))))))))))).via _ fun a => ⟨⟨a.1, a.2.1, a.2.2.1, a.2.2.2.1, a.2.2.2.2.1, a.2.2.2.2.2.1, a.2.2.2.2.2.2.1, a.2.2.2.2.2.2.2.1, a.2.2.2.2.2.2.2.2.1, a.2.2.2.2.2.2.2.2.2⟩, rfl⟩
theorem openLeak : Cod.Opens Tryz.prog 91 leakC :=
  (Cod.Opens.struct Tryz.underlying91 (by kernel_rfl) (Cod.OpensAt.cons rfl (Cod.Opens.num Tryz.underlying22 (by kernel_rfl)) (Cod.OpensAt.one rfl (Cod.Opens.num Tryz.underlying22 (by kernel_rfl))))).via _ fun a => ⟨⟨a.1, a.2⟩, rfl⟩
theorem openConf : Cod.Opens Tryz.prog 24 confC :=
  (Cod.Opens.struct Tryz.underlying24 (by kernel_rfl) (Cod.OpensAt.cons rfl (Cod.Opens.num Tryz.underlying22 (by kernel_rfl)) (Cod.OpensAt.cons rfl (Cod.Opens.num Tryz.underlying3 (by kernel_rfl)) (Cod.OpensAt.cons rfl (Cod.Opens.num Tryz.underlying3 (by kernel_rfl)) (Cod.OpensAt.cons rfl (Cod.Opens.num Tryz.underlying3 (by kernel_rfl)) (Cod.OpensAt.cons rfl (Cod.Opens.num Tryz.underlying3 (by kernel_rfl)) (Cod.OpensAt.cons rfl (Cod.Opens.num Tryz.underlying3 (by kernel_rfl)) (Cod.OpensAt.one rfl (Cod.Opens.num Tryz.underlying3 (by kernel_rfl)))))))))).via _ fun a => ⟨⟨a.1, a.2.1, a.2.2.1, a.2.2.2.1, a.2.2.2.2.1, a.2.2.2.2.2.1, a.2.2.2.2.2.2⟩, rfl⟩
theorem openMsg : Cod.Opens Tryz.prog 41 mssgC :=
  (Cod.Opens.struct Tryz.underlying41 (by kernel_rfl) (Cod.OpensAt.cons rfl (Cod.Opens.num Tryz.underlying22 (by kernel_rfl)) (Cod.OpensAt.cons rfl (Cod.Opens.num Tryz.underlying22 (by kernel_rfl)) (Cod.OpensAt.cons rfl (Cod.Opens.num Tryz.underlying22 (by kernel_rfl)) (Cod.OpensAt.cons rfl (Cod.Opens.num Tryz.underlying22 (by kernel_rfl)) (Cod.OpensAt.cons rfl (Cod.Opens.num Tryz.underlying22 (by kernel_rfl)) (Cod.OpensAt.cons rfl (Cod.Opens.num Tryz.underlying22 (by kernel_rfl)) (Cod.OpensAt.one rfl (Cod.Opens.num Tryz.underlying22 (by kernel_rfl)))))))))).via _ fun a => ⟨⟨a.1, a.2.1, a.2.2.1, a.2.2.2.1, a.2.2.2.2.1, a.2.2.2.2.2.1, a.2.2.2.2.2.2⟩, rfl⟩
theorem openDraws : Cod.Opens Tryz.prog 27 drawsC :=
  (Cod.Opens.struct Tryz.underlying27 (by kernel_rfl) (Cod.OpensAt.cons rfl openWords (Cod.OpensAt.one rfl (Cod.Opens.num Tryz.underlying3 (by kernel_rfl))))).via _ fun a => ⟨⟨a.1, a.2⟩, rfl⟩
theorem openPerson : Cod.Opens Tryz.prog 53 personC :=
  (Cod.Opens.struct Tryz.underlying53 (by kernel_rfl) (Cod.OpensAt.cons rfl (Cod.Opens.num Tryz.underlying22 (by kernel_rfl)) (Cod.OpensAt.cons rfl (Cod.Opens.num Tryz.underlying22 (by kernel_rfl)) (Cod.OpensAt.cons rfl (Cod.Opens.num Tryz.underlying22 (by kernel_rfl)) (Cod.OpensAt.cons rfl openWords (Cod.OpensAt.cons rfl (Cod.Opens.row (e := 55) Tryz.underlying51 (by kernel_rfl) openRun (by decide)) (Cod.OpensAt.one rfl (Cod.Opens.flag Tryz.underlying4 (by kernel_rfl))))))))).via _ fun a => ⟨⟨a.1, a.2.1, a.2.2.1, a.2.2.2.1, a.2.2.2.2.1, a.2.2.2.2.2⟩, rfl⟩
theorem openWorld : Cod.Opens Tryz.prog 39 wldC :=
  (Cod.Opens.struct Tryz.underlying39 (by kernel_rfl) (Cod.OpensAt.cons rfl openConf (Cod.OpensAt.cons rfl openDraws (Cod.OpensAt.cons rfl openBox (Cod.OpensAt.cons rfl openNet (Cod.OpensAt.cons rfl (Cod.Opens.row (e := 53) Tryz.underlying35 (by kernel_rfl) openPerson (by decide)) (Cod.OpensAt.cons rfl (Cod.Opens.row (e := 61) Tryz.underlying36 (by kernel_rfl) openEvent (by decide)) (Cod.OpensAt.cons rfl openRows (Cod.OpensAt.one rfl (Cod.Opens.row (e := 91) Tryz.underlying37 (by kernel_rfl) openLeak (by decide))))))))))).via _ fun a => ⟨⟨a.1, a.2.1, a.2.2.1, a.2.2.2.1, a.2.2.2.2.1, a.2.2.2.2.2.1, a.2.2.2.2.2.2.1, a.2.2.2.2.2.2.2⟩, rfl⟩
end Go.Proofs.YtokifenilhlgbaaGreatDoor.Abs
end
section
/- What a row's condition on the table of masks gives a law of values without addresses; a world that meets it. -/
set_option linter.unusedSimpArgs false
set_option linter.unusedVariables false
set_option maxRecDepth 100000
namespace Go.Proofs.YtokifenilhlgbaaGreatDoor.Abs
open Go.ChangeShapes Go.WideShapes Go.RowKit
theorem own : ownKnob Tryz.prog.godebug = none := by kernel_rfl
theorem laidOut : laidOutB Tryz.prog = true := by kernel_rfl
theorem masksG : Tryz.prog.globalNamed "chamberlain/msg.masks" = some 0 := by kernel_rfl
theorem masksT : (Tryz.prog.globals[0]?).map (·.type) = some 204 := by kernel_rfl
theorem cellsT : Tryz.prog.cellsOf 204 = 10 := by kernel_rfl
theorem cellsU : Tryz.prog.cellsOf 22 = 1 := by kernel_rfl
theorem word_of_trod {H : Type} {enc : TypeId × Value → H} {w : World} {base : Nat} {sp : Nat → Bool} {held : Bool} {fuel : Nat} {c : Value} {y : DataW H × List MemPlace}
    (h : DataW.trod enc Tryz.prog w base sp held fuel 22 [c] = some y) : ∃ n, c = .int .u32 n ∧ y = (.lit (.int .u32 n), []) ∧ (Lit.int .u32 n).wf = true := by
  obtain ⟨n, h1, h2, h3⟩ := DataW.trod_int Tryz.underlying22 h
  simp at h1
  exact ⟨n, h1, h2, h3⟩
def masksC : Array Value := #[.int .u32 0, .int .u32 56, .int .u32 64, .int .u32 64, .int .u32 64, .int .u32 64, .int .u32 92, .int .u32 220, .int .u32 196, .int .u32 68]
theorem gl_of_laid {W : World} (h : laidMet Tryz.prog [("chamberlain/msg.masks", Rows.laid_chamberlain_msg_masks)] W) : Gl (fun k b => k = 0 ∧ b < W.heap.size) W := by
  obtain ⟨ps, ⟨g, t, cs, fuel, p, q, hg, ht, hvar, hd, _, _⟩, _⟩ := h
  obtain rfl := Option.some.inj (masksG.symm.trans hg)
  obtain rfl := Option.some.inj (masksT.symm.trans ht)
  have key : cs = masksC := by
    obtain ⟨l⟩ := cs
    cases fuel with
    | zero => simp [DataW.trod] at hd
    | succ fuel =>
      simp only [DataW.trod, Tryz.underlying204, cellsT, cellsU] at hd
      split at hd
      · rename_i hl
        obtain ⟨c0, c1, c2, c3, c4, c5, c6, c7, c8, c9, rfl⟩ : ∃ c0 c1 c2 c3 c4 c5 c6 c7 c8 c9, l = [c0, c1, c2, c3, c4, c5, c6, c7, c8, c9] := by
          match l, hl with
          | [c0, c1, c2, c3, c4, c5, c6, c7, c8, c9], _ => exact ⟨c0, c1, c2, c3, c4, c5, c6, c7, c8, c9, rfl⟩
        have e : List.range 10 = [0, 1, 2, 3, 4, 5, 6, 7, 8, 9] := rfl
        rw [e] at hd
        simp only [Option.map_eq_some_iff, List.mapM_cons, List.mapM_nil, Option.bind_eq_bind, Option.bind_eq_some_iff, Option.pure_def, Option.some.injEq] at hd
        obtain ⟨xs, ⟨y0, h0, _, ⟨y1, h1, _, ⟨y2, h2, _, ⟨y3, h3, _, ⟨y4, h4, _, ⟨y5, h5, _, ⟨y6, h6, _, ⟨y7, h7, _, ⟨y8, h8, _, ⟨y9, h9, _, rfl, rfl⟩, rfl⟩, rfl⟩, rfl⟩, rfl⟩, rfl⟩, rfl⟩, rfl⟩, rfl⟩, rfl⟩, hx⟩ := hd
        obtain ⟨n0, rfl, rfl, _⟩ := word_of_trod h0
        obtain ⟨n1, rfl, rfl, _⟩ := word_of_trod h1
        obtain ⟨n2, rfl, rfl, _⟩ := word_of_trod h2
        obtain ⟨n3, rfl, rfl, _⟩ := word_of_trod h3
        obtain ⟨n4, rfl, rfl, _⟩ := word_of_trod h4
        obtain ⟨n5, rfl, rfl, _⟩ := word_of_trod h5
        obtain ⟨n6, rfl, rfl, _⟩ := word_of_trod h6
        obtain ⟨n7, rfl, rfl, _⟩ := word_of_trod h7
        obtain ⟨n8, rfl, rfl, _⟩ := word_of_trod h8
        obtain ⟨n9, rfl, rfl, _⟩ := word_of_trod h9
        simp [Rows.laid_chamberlain_msg_masks] at hx
        obtain ⟨⟨rfl, rfl, rfl, rfl, rfl, rfl, rfl, rfl, rfl, rfl⟩, _⟩ := hx
        rfl
      · cases hd
  subst key
  have cell : ∀ (i : Nat) (u : Value), masksC[i]? = some u → W.cell? ⟨0, i, none⟩ = some u := fun i u hu => (World.var?_cell hg hvar i).trans hu
  have hlt : 0 < W.heap.size := lt_of_cell (cell 0 _ rfl)
  intro g vs hgv
  unfold tabsV at hgv
  split at hgv
  · cases hgv
    exact ⟨⟨rfl, hlt⟩, fun j u hj => by rw [Nat.zero_add]; exact cell j u (by unfold masksC; rw [List.getElem?_toArray]; exact hj)⟩
  · cases hgv
/-- A world that meets the condition. -/
noncomputable def laidWorld (os : Os) : World :=
  { World.holding Tryz.prog os ⟨#[], #[], []⟩ with heap := (World.holding Tryz.prog os ⟨#[], #[], []⟩).heap.modify 0 fun
      | .cells _ t frozen => .cells masksC t frozen
      | o => o }
theorem laidWorld_row (os : Os) (args : Array Value) : ((laidWorld os).forCall (fun _ _ => 0) ⟨#[], args, []⟩).memory.heap[0]? = some (.cells masksC 204 (0, 0)) := by kernel_rfl
theorem laidWorld_met (os : Os) (args : Array Value) : laidMet Tryz.prog [("chamberlain/msg.masks", Rows.laid_chamberlain_msg_masks)] ((laidWorld os).forCall (fun _ _ => 0) ⟨#[], args, []⟩).memory := by
  refine ⟨_, ⟨0, 204, masksC, 8, [], [], by kernel_rfl, by kernel_rfl, by kernel_rfl, by kernel_rfl, rfl, rfl⟩, by decide, fun b off h => ?_⟩
  have h' : MemPlace.cell b off ∈ [MemPlace.cell 0 0, .cell 0 1, .cell 0 2, .cell 0 3, .cell 0 4, .cell 0 5, .cell 0 6, .cell 0 7, .cell 0 8, .cell 0 9] := h
  have hb : b = 0 := by simp at h'; omega
  subst hb
  refine ⟨⟨_, _, laidWorld_row os args⟩, fun u v hc => ?_⟩
  simp only [World.cell?, laidWorld_row os args] at hc
  simp at h'
  rcases h' with rfl | rfl | rfl | rfl | rfl | rfl | rfl | rfl | rfl | rfl <;> simp [masksC] at hc
end Go.Proofs.YtokifenilhlgbaaGreatDoor.Abs
end

