/- Texts that were merged: Q17, Q17b, Q12n, Q12b, AbsN, Q12k, L17, M5, S1, L12. -/
import Derived.Test.YtbjkgfppafjmgaaGreatDoorZ10
import Derived.Test.YtbjkgfppafjmgaaGreatDoorZ4
import Derived.Test.YtbjkgfppafjmgaaGreatDoorZ5
import Derived.Test.YtbjkgfppafjmgaaGreatDoorZ7
import Derived.Test.YtbjkgfppafjmgaaGreatDoorZ6
import Derived.Test.YtbjkgfppafjmgaaGreatDoorZ3
import Derived.Test.YtbjkgfppafjmgaaGreatDoorZ8
import Derived.Test.YtbjkgfppafjmgaaGreatDoorZ9
set_option linter.unusedSimpArgs false
set_option linter.unusedVariables false
set_option maxHeartbeats 64000000
set_option maxRecDepth 100000
namespace Go.Proofs.YtbjkgfppafjmgaaGreatDoor.Abs
open Go.RowKit
section
theorem q17_start (w : Wld) (a b : Int) (h : SmallN 10 w) (h1 : rightB w.box = true) (h2 : rightN w.net = true) (hr : (personW w a).runs.length < 1000000) : ACalls Tryz.prog 11 [.agg (eWld w), .one (u32 a), .one (u32 b)] (.tup [.agg (eWld (startOW w a b).1), .one (i64 (startOW w a b).2)]) := by
 refine ACalls.intro (fn := Tryz.f11) Tryz.func11 rfl rfl (by simp [Tryz.f11]) ?_
 have s1 : SmallN 9 (drawW w) := h.draw
 have s2 : SmallN 8 (drawW (drawW w)) := s1.draw
 have s3 : SmallN 7 (frstA w a b).1 := s2.sealS _ _ _
 have s4 : SmallN 7 (withW (frstA w a b).1 (putRun (personW w a) ⟨2, 1, b, drawnW (drawW w), 0, drawnW w, 0, 0, 1⟩)) := s3.with_ _
 have s5 : SmallN 6 (logW (withW (frstA w a b).1 (putRun (personW w a) ⟨2, 1, b, drawnW (drawW w), 0, drawnW w, 0, 0, 1⟩)) ⟨1, 2, 1, a, b, 0, 0, drawnW w, drawnW (drawW w), (personW w a).clock⟩) := s4.log_ _
 have c1 := q12_person w a
 have c2 := q10_pair w.people a b
 have c4 := q12_roomq w 1 1 h1 h2
 have c5 := q12_draw w h.small.next
 have c6 := q12_draw (drawW w) s1.small.next
 have c7 := q12_seal (drawW (drawW w)) (personW w a).key 6 ⟨drawnW (drawW w), drawnW w, a, b, 0, 0, 0⟩ s2.small
 change ACalls _ _ _ (.tup [.agg (eWld (frstA w a b).1), .one (u32 (frstA w a b).2.1), .one (i64 (frstA w a b).2.2)]) at c7
 have c8 := q12_with _ (putRun (personW w a) ⟨2, 1, b, drawnW (drawW w), 0, drawnW w, 0, 0, 1⟩) s3.small.people
 have c9 := q12_log _ ⟨1, 2, 1, a, b, 0, 0, drawnW w, drawnW (drawW w), (personW w a).clock⟩ s4.small.log
 have c10 := q12_send _ b ⟨6, drawnW w, a, b, 0, (frstA w a b).2.1, 0⟩ s5.small.grams s5.small.seen
 clear s1 s2 s3 s4 s5 h h1 h2
 unfold Tryz.f11
 unfold startOW begunO sentW
 generalize frstA w a b = en at *
 obtain ⟨ew, eh, ee⟩ := en
 simp only at *
 generalize drawnW (drawW w) = k2 at *
 generalize drawW (drawW w) = v2 at *
 generalize drawW w = v at *
 generalize drawnW w = k at *
 generalize personW w a = s at *
 generalize sendW (logW (withW ew (putRun s ⟨2, 1, b, k2, 0, k, 0, 0, 1⟩)) ⟨1, 2, 1, a, b, 0, 0, k, k2, s.clock⟩) b ⟨6, k, a, b, 0, eh, 0⟩ = z at *
 generalize logW (withW ew (putRun s ⟨2, 1, b, k2, 0, k, 0, 0, 1⟩)) ⟨1, 2, 1, a, b, 0, 0, k, k2, s.clock⟩ = lw at *
 generalize withW ew (putRun s ⟨2, 1, b, k2, 0, k, 0, 0, 1⟩) = ww at *
 generalize roomW w 1 1 = rm at *
 generalize pairPl w.people a b = pr at *
 simp only [eWld, eMssg, ePrt, eEvent, putRun, ePerson.eq_1 s, ePerson, eSealeds, eGrams, ePeople, eEvents, eRows, eWords, eLeaks, eRuns, eRun, eWord, List.map_append, List.map_cons, List.map_nil, rB, rI] at *
 cases pr
 ·rw [if_pos rfl]
  refine wk T0 c2 T0 T0
 rw [if_neg (by decide)]
 by_cases hc : w.conf.runs ≤ (s.runs.length : Int)
 ·rw [if_pos (.inl hc)]
  refine wk hc (J3 c1 c2 c4) T0 T0
 cases rm
 ·rw [if_pos (.inr rfl)]
  refine wk hc (J3 c1 c2 c4) T0 T0
 rw [if_neg (by simp [hc])]
 by_cases he : ee = 0
 rotate_left
 ·rw [if_pos he]
  have he' : (ee != 0) = true := by simp [he]
  refine wk (J2 hc he') (J6 c1 c2 c4 c5 c6 c7) T0 T0
 rw [if_neg (by simp [he])]
 have he' : (ee != 0) = false := by simp [he]
 refine wkx (J2 hc he') (J9 c1 c2 c4 c5 c6 c7 c8 c9 c10) T0 T0
end
section
theorem q17_share (w : Wld) (me : Int) (m : Mssg) (h : SmallN 10 w) (hr : (personW w me).runs.length < 1000000) : ACalls Tryz.prog 13 [.agg (eWld w), .one (u32 me), .agg (eMssg m)] (.tup [.agg (eWld (shareAW w me m).1), .one (i64 (shareAW w me m).2)]) := by
 refine ACalls.intro (fn := Tryz.f13) Tryz.func13 rfl rfl (by simp [Tryz.f13]) ?_
 have c1 := q12_person w me
 have o1 := q12_open w (personW w me).key 9 m.box h.plain
 unfold Tryz.f13
 unfold shareAW doneA
 generalize personW w me = p at *
 generalize openW w p.key 9 m.box = G at *
 obtain ⟨s, ok⟩ := G
 rcases idx_or p.runs (waitsO 1 m.run) with ⟨hn, ha⟩ | ⟨i, x, hf, hi, hx, hp, ha⟩
 ·simp only [hn]
  clear h hn
  simp only [eWld, eMssg, ePrt, ePerson, eSealeds, eGrams, ePeople, eEvents, eRows, eWords, eLeaks, eRuns] at *
  refine wk T0 c1 T0 (J2 ?_ T0)
  all_goals ((repeat intro h); refine ⟨?_⟩)
  refine AW.loopW (fun n σ => ∃ k : Nat, n = p.runs.length - k ∧ k ≤ p.runs.length ∧ σ = ⟨92, (upd (upd (upd (upd (upd (upd (fun _ => .junk) 1 (.one (.c (u32 me)))) 3 (.one (.ptr 3 0))) 5 (.one (.ptr 5 0))) 6 (.one (.ptr 6 0))) 8 (.one (.ptr 8 0))) 9 (.one (.c (i64 k)))), (upd (upd (upd (upd (fun _ => none) 3 (some (.box (cWld w)))) 5 (some (.box (cMssg m)))) 6 (some (.box zWld))) 8 (some (.box (cPrs p))))⟩) (n := p.runs.length) _ ⟨0, rfl, Nat.zero_le _, rfl⟩ (by exact lz T0) ?_
  rintro n σ ⟨k, rfl, hk, rfl⟩
  by_cases hlt : k < p.runs.length
  ·obtain ⟨y, hy⟩ : ∃ y, p.runs[k]? = some y := ⟨_, List.getElem?_eq_getElem hlt⟩
   have hs := wrapI (x := (k : Int) + 1) (by omega) (by omega)
   have hne : ¬ (y.proto = 2 ∧ y.role = 1 ∧ y.state = 1 ∧ y.m = m.run) := by
    have := ha k y hy
    rintro ⟨a1, a2, a3, a4⟩
    simp [waitsO, a1, a2, a3, a4] at this
   refine wk (J4 hy hlt hs eRun.eq_1) T0 T0 (J5 ?_ ?_ ?_ ?_ T0)
   all_goals ((repeat intro h); refine ⟨?_⟩)
   all_goals refine ⟨p.runs.length - (k + 1), by omega, _, ⟨k + 1, rfl, by omega, rfl⟩, ?_⟩
   all_goals exact lz T0
  ·obtain rfl : k = p.runs.length := by omega
   refine wk T0 T0 T0 T0
 ·simp only [hf, hi]
  have hil : i < p.runs.length := (List.getElem?_eq_some_iff.1 hx).1
  have cw := q15_with w p i { x with k := s.k, state := 3 } hil h.people hr
  have s1 : SmallN 10 (withR w p i { x with k := s.k, state := 3 }) := h.withR _ _ _
  have cl := q12_log _ ⟨4, 2, 1, me, x.peer, s.k, 0, x.m, x.mine, p.clock⟩ s1.small.log
  clear s1 h hf hi
  generalize logW (withR w p i { x with k := s.k, state := 3 }) ⟨4, 2, 1, me, x.peer, s.k, 0, x.m, x.mine, p.clock⟩ = lw at *
  generalize withR w p i { x with k := s.k, state := 3 } = ww at *
  have hpp : x.proto = 2 ∧ x.role = 1 ∧ x.state = 1 ∧ x.m = m.run := by simpa [waitsO] using hp
  have ha' : ∀ (k : Nat) (y : Run), k < i → p.runs[k]? = some y → ¬ (y.proto = 2 ∧ y.role = 1 ∧ y.state = 1 ∧ y.m = m.run) := fun k y hk hy => by
   have := ha k y hk hy
   rintro ⟨a1, a2, a3, a4⟩
   simp [waitsO, a1, a2, a3, a4] at this
  clear ha hp
  simp only [eWld, eMssg, ePrt, ePerson, eEvent, eRun, eSealeds, eGrams, ePeople, eEvents, eRows, eWords, eLeaks, eRuns, rB] at *
  refine wk T0 c1 T0 (J2 ?_ T0)
  all_goals ((repeat intro h); refine ⟨?_⟩)
  refine AW.loopW (fun n σ => ∃ k : Nat, n = i - k ∧ k ≤ i ∧ σ = ⟨92, (upd (upd (upd (upd (upd (upd (fun _ => .junk) 1 (.one (.c (u32 me)))) 3 (.one (.ptr 3 0))) 5 (.one (.ptr 5 0))) 6 (.one (.ptr 6 0))) 8 (.one (.ptr 8 0))) 9 (.one (.c (i64 k)))), (upd (upd (upd (upd (fun _ => none) 3 (some (.box (cWld w)))) 5 (some (.box (cMssg m)))) 6 (some (.box zWld))) 8 (some (.box (cPrs p))))⟩) (n := i) _ ⟨0, rfl, Nat.zero_le _, rfl⟩ (by exact lz T0) ?_
  rintro n σ ⟨k, rfl, hk, rfl⟩
  have hlt : k < p.runs.length := by omega
  have hs := wrapI (x := (k : Int) + 1) (by omega) (by omega)
  by_cases hki : k < i
  ·obtain ⟨y, hy⟩ : ∃ y, p.runs[k]? = some y := ⟨_, List.getElem?_eq_getElem hlt⟩
   have hne := ha' k y hki hy
   clear c1 o1 cw cl hpp hx
   refine wk (J4 hy hlt hs eRun.eq_1) T0 T0 (J5 ?_ ?_ ?_ ?_ T0)
   all_goals ((repeat intro h); refine ⟨?_⟩)
   all_goals refine ⟨i - (k + 1), by omega, _, ⟨k + 1, rfl, by omega, rfl⟩, ?_⟩
   all_goals exact lz T0
  ·obtain rfl : k = i := by omega
   obtain ⟨a1, a2, a3, a4⟩ := hpp
   have t1 : (x.proto != 2) = false := by simp [a1]
   have t2 : (x.role != 1) = false := by simp [a2]
   have t3 : (x.state != 1) = false := by simp [a3]
   have t4 : (x.m != m.run) = false := by simp [a4]
   clear a1 a2 a3 a4 ha' c1
   cases ok
   ·rw [Bool.false_and, if_pos rfl]
    refine wk (J8 hx hlt hs t1 t2 t3 t4 eRun.eq_1) o1 T0 T0
   by_cases hm : s.n = x.mine
   rotate_left
   ·have hm1 : (s.n != x.mine) = true := by simpa using hm
    have hm2 : (s.n == x.mine) = false := by simpa using hm
    rw [Bool.true_and, hm2, if_pos rfl]
    refine wk (J9 hx hlt hs t1 t2 t3 t4 hm1 eRun.eq_1) o1 T0 T0
   have hm1 : (s.n != x.mine) = false := by simpa using hm
   have hm2 : (s.n == x.mine) = true := by simpa using hm
   rw [Bool.true_and, hm2, if_neg (by decide)]
   clear hm hm2
   refine wk (J9 hx hlt hs t1 t2 t3 t4 hm1 eRun.eq_1) (J3 o1 cw cl) T0 T0
end
section
def newW (c : Conf) (l : List Int) (n r : Nat) : Wld := ⟨c, ⟨l, (n : Int)⟩, ⟨c.box, []⟩, ⟨c.net, [], []⟩, newPl l 0 n, [], List.replicate r [], []⟩
theorem map_rep (k : Nat) : (List.replicate k ([] : List Int)).map eSeen = List.replicate k [.row []] := by simp [eSeen, eWords]
theorem q12_new (c : Conf) (l : List Int) (n r : Nat) (h1 : c.people = n) (h2 : n ≤ 100) (h3 : c.regs = r) (h4 : r ≤ 1000) : ACalls Tryz.prog 23 [.agg (eConf c), .one (eWords l)] (.one (.agg (eWld (newW c l n r)))) := by
  refine ACalls.intro (fn := Tryz.f23) Tryz.func23 rfl rfl (by simp [Tryz.f23]) ?_
  have hq := q10_new l 0 n h2 (by omega)
  rw [Nat.zero_add] at hq
  unfold Tryz.f23
  obtain ⟨c1, c2, c3, c4, c5, c6, c7⟩ := c
  simp only at h1 h3
  subst h1 h3
  simp only [newW, eWld, eConf, eDraws, eSealeds, eGrams, ePeople, eEvents, eRows, eWords, eLeaks, map_rep] at *
  generalize newPl l 0 n = ppl at *
  refine wk T0 hq T0 (J2 ?_ T0)
  all_goals ((repeat intro h); refine ⟨?_⟩)
  refine AW.loopW (fun z σ => ∃ k : Nat, z = r - k ∧ k ≤ r ∧ ((k = 0 ∧ σ = ⟨43, (upd (upd (upd (upd (fun _ => .junk) 2 (.one (.ptr 2 0))) 4 (.one (.ptr 4 0))) 5 (.one (.ptr 5 0))) 8 (.one (.c (i64 k)))), (upd (upd (upd (fun _ => none) 2 (some (.box [.c (u32 c1), .c (i64 (n : Int)), .c (i64 c3), .c (i64 c4), .c (i64 c5), .c (i64 c6), .c (i64 (r : Int))]))) 4 (some (.box [.c (u32 0), .c (i64 0), .c (i64 0), .c (i64 0), .c (i64 0), .c (i64 0), .c (i64 0), .nil, .c (i64 0), .c (i64 0), .nil, .c (i64 0), .nil, .nil, .nil, .nil, .nil, .nil]))) 5 (some (.box [.c (u32 c1), .c (i64 (n : Int)), .c (i64 c3), .c (i64 c4), .c (i64 c5), .c (i64 c6), .c (i64 (r : Int)), .c (.row (l.map eWord)), .c (i64 (n : Int)), .c (i64 c3), .nil, .c (i64 c6), .nil, .nil, .c (.row (ppl.map ePerson)), .nil, .nil, .nil])))⟩) ∨
      (0 < k ∧ σ = ⟨43, (upd (upd (upd (upd (fun _ => .junk) 2 (.one (.ptr 2 0))) 4 (.one (.ptr 4 0))) 5 (.one (.ptr 5 0))) 8 (.one (.c (i64 k)))), (upd (upd (upd (upd (fun _ => none) 2 (some (.box [.c (u32 c1), .c (i64 (n : Int)), .c (i64 c3), .c (i64 c4), .c (i64 c5), .c (i64 c6), .c (i64 (r : Int))]))) 4 (some (.box [.c (u32 0), .c (i64 0), .c (i64 0), .c (i64 0), .c (i64 0), .c (i64 0), .c (i64 0), .nil, .c (i64 0), .c (i64 0), .nil, .c (i64 0), .nil, .nil, .nil, .nil, .nil, .nil]))) 40 (some (.rows 25 1 (List.replicate k [.row []])))) 5 (some (.box [.c (u32 c1), .c (i64 (n : Int)), .c (i64 c3), .c (i64 c4), .c (i64 c5), .c (i64 c6), .c (i64 (r : Int)), .c (.row (l.map eWord)), .c (i64 (n : Int)), .c (i64 c3), .nil, .c (i64 c6), .nil, .nil, .c (.row (ppl.map ePerson)), .nil, .own 40 k, .nil])))⟩))) (n := r) _ ⟨0, rfl, Nat.zero_le _, .inl ⟨rfl, rfl⟩⟩ (by exact lz T0) ?_
  rintro z σ ⟨k, rfl, hk, ⟨rfl, rfl⟩ | ⟨hk0, rfl⟩⟩
  · by_cases hlt : (0 : Int) < (r : Int)
    · refine wkx hlt T0 T0 (J2 ?_ T0)
      all_goals ((repeat intro h); refine ⟨?_⟩)
      refine ⟨r - 1, by omega, _, ⟨1, rfl, by omega, .inr ⟨by omega, rfl⟩⟩, ?_⟩
      simp only [List.replicate_succ, List.replicate_zero]
      exact lz T0
    · obtain rfl : r = 0 := by omega
      refine wk hlt T0 T0 (J2 ?_ T0)
      all_goals ((repeat intro h); refine ⟨?_⟩)
      all_goals rfl
  · by_cases hlt : (k : Int) < (r : Int)
    · have hs := wrapI (x := (k : Int) + 1) (by omega) (by omega)
      refine wk (J2 hlt hs) T0 T0 (J2 ?_ T0)
      all_goals ((repeat intro h); refine ⟨?_⟩)
      refine ⟨r - (k + 1), by omega, _, ⟨k + 1, rfl, by omega, .inr ⟨by omega, rfl⟩⟩, ?_⟩
      rw [List.replicate_succ']
      exact lz T0
    · obtain rfl : k = r := by omega
      refine wk hlt T0 T0 T0
end
section
theorem wld_ext {a b : Wld} (h1 : a.conf = b.conf) (h2 : a.draws = b.draws) (h3 : a.box = b.box) (h4 : a.net = b.net) (h5 : a.people = b.people) (h6 : a.log = b.log) (h7 : a.regs = b.regs) (h8 : a.leaks = b.leaks) : a = b := by
 cases a; cases b; simp_all
theorem q12_same (a b : Wld) : ACalls Tryz.prog 14 [.agg (eWld a), .agg (eWld b)] (rB (decide (a = b))) := by
 refine ACalls.introF (fn := Tryz.f14) Tryz.func14 rfl rfl (by simp [Tryz.f14]) fun hf => ?_
 have hl : a.leaks.length ≤ 9223372036854775807 := Fine.rowC (f := eLeak) (k := 0) ((hf (.agg (eWld a)) (by simp) : FineCA (.agg (eWld a))) (eLeaks a.leaks) (by simp [eWld]))
 clear hf
 have hc := eqConfB_dec a.conf b.conf
 have s2 := q04_same a.draws b.draws
 have s3 := q07_same 0 a.box b.box
 have s4 := q06_same a.net b.net
 have s5 := q10_same 0 a.people b.people
 have s6 := q12_events a.log b.log
 have s7 := q01_rows a.regs b.regs
 have heq := eqok_conf
 have hel := eqok_leak
 unfold Tryz.f14
 simp only [eWld, eBoxC, eBox, eNet, eDraws, eSealeds, eGrams, ePeople, eEvents, eRows, eWords, eLeaks, rB, eqConfB] at *
 by_cases h1 : a.conf = b.conf
 rotate_left
 ·rw [decide_eq_false h1] at hc
  rw [decide_eq_false (fun e => h1 (by rw [e]))]
  refine wk (J2 heq hc) T0 T0 T0
 rw [decide_eq_true h1] at hc
 by_cases h2 : a.draws = b.draws
 rotate_left
 ·rw [decide_eq_false h2] at s2
  rw [decide_eq_false (fun e => h2 (by rw [e]))]
  refine wk (J2 heq hc) s2 T0 T0
 rw [decide_eq_true h2] at s2
 by_cases h3 : a.box = b.box
 rotate_left
 ·rw [decide_eq_false h3] at s3
  rw [decide_eq_false (fun e => h3 (by rw [e]))]
  refine wk (J2 heq hc) (J2 s2 s3) T0 T0
 rw [decide_eq_true h3] at s3
 by_cases h4 : a.net = b.net
 rotate_left
 ·rw [decide_eq_false h4] at s4
  rw [decide_eq_false (fun e => h4 (by rw [e]))]
  refine wk (J2 heq hc) (J3 s2 s3 s4) T0 T0
 rw [decide_eq_true h4] at s4
 by_cases h5 : a.people = b.people
 rotate_left
 ·rw [decide_eq_false h5] at s5
  rw [decide_eq_false (fun e => h5 (by rw [e]))]
  refine wk (J2 heq hc) (J4 s2 s3 s4 s5) T0 T0
 rw [decide_eq_true h5] at s5
 by_cases h6 : a.log = b.log
 rotate_left
 ·rw [decide_eq_false h6] at s6
  rw [decide_eq_false (fun e => h6 (by rw [e]))]
  refine wk (J2 heq hc) (J5 s2 s3 s4 s5 s6) T0 T0
 rw [decide_eq_true h6] at s6
 by_cases h7 : a.regs = b.regs
 rotate_left
 ·rw [decide_eq_false h7] at s7
  rw [decide_eq_false (fun e => h7 (by rw [e]))]
  refine wk (J2 heq hc) (J6 s2 s3 s4 s5 s6 s7) T0 T0
 rw [decide_eq_true h7] at s7
 by_cases h8 : a.leaks.length = b.leaks.length
 rotate_left
 ·have hne : ((a.leaks.length : Int) != (b.leaks.length : Int)) = true := by rw [bne_iff_ne]; omega
  rw [decide_eq_false (fun e => h8 (by rw [e]))]
  refine wk (J3 heq hc hne) (J6 s2 s3 s4 s5 s6 s7) T0 T0
 have hli : (a.leaks.length : Int) = (b.leaks.length : Int) := by omega
 refine wkx (J3 heq hc hli) (J6 s2 s3 s4 s5 s6 s7) T0 (J2 ?_ T0)
 all_goals ((repeat intro h); refine ⟨?_⟩)
 refine AW.loopW (fun n σ => ∃ k : Nat, n = a.leaks.length - k ∧ k ≤ a.leaks.length ∧ a.leaks.take k = b.leaks.take k ∧ σ = ⟨86, (upd (upd (upd (fun _ => .junk) 2 (.one (.ptr 2 0))) 3 (.one (.ptr 3 0))) 5 (.one (.c (i64 k)))), (upd (upd (fun _ => none) 2 (some (.box ((eWld a).map .c)))) 3 (some (.box ((eWld b).map .c))))⟩) (n := a.leaks.length) _ ⟨0, rfl, Nat.zero_le _, rfl, rfl⟩ (by simp only [eWld, eSealeds, eGrams, ePeople, eEvents, eRows, eWords, eLeaks, List.map_cons, List.map_nil]; exact lz T0) ?_
 rintro n σ ⟨k, rfl, hk, ht, rfl⟩
 simp only [eWld, eSealeds, eGrams, ePeople, eEvents, eRows, eWords, eLeaks, List.map_cons, List.map_nil]
 by_cases hlt : k < a.leaks.length
 ·obtain ⟨x, hx⟩ : ∃ x, a.leaks[k]? = some x := ⟨_, List.getElem?_eq_getElem hlt⟩
  obtain ⟨y, hy⟩ : ∃ y, b.leaks[k]? = some y := ⟨_, List.getElem?_eq_getElem (by omega)⟩
  have hlt2 : k < b.leaks.length := by omega
  have hs := wrapI (x := (k : Int) + 1) (by omega) (by omega)
  have hd0 := eqLeakB_dec x y
  unfold eqLeakB at hd0
  by_cases hxy : x = y
  ·subst hxy
   refine wkx (J7 hx hy hlt hlt2 hs hel eLeak.eq_1) T0 T0 (J2 ?_ T0)
   all_goals ((repeat intro h); refine ⟨?_⟩)
   refine ⟨a.leaks.length - (k + 1), by omega, _, ⟨k + 1, rfl, by omega, take_more ht hx hy, rfl⟩, ?_⟩
   try simp only [eWld, eSealeds, eGrams, ePeople, eEvents, eRows, eWords, eLeaks, List.map_cons, List.map_nil]
   exact lz T0
  ·rw [decide_eq_false hxy] at hd0
   rw [decide_eq_false (fun e => by subst e; rw [hx] at hy; exact hxy (Option.some.inj hy))]
   refine wk (J8 hx hy hlt hlt2 hs hel hd0 eLeak.eq_1) T0 T0 T0
 ·obtain rfl : k = a.leaks.length := by omega
  have : a = b := wld_ext h1 h2 h3 h4 h5 h6 h7 (take_all h8 ht)
  rw [decide_eq_true this]
  refine wk T0 T0 T0 T0
end
section
section
variable {P : Program}
def sealA : A → A
 | .nil => .c (.row [])
 | a => a
theorem VA.sealA {c : Ctx} {w : World} {m : Mem} {a : A} {v : Value} (h : VA c w m a v) : VA c w m (sealA a) v := by
 cases a with
 | nil => cases h; exact R.nil
 | _ => exact h
theorem Goes.nils {c : Ctx} {w : World} {m : Mem} {id : Nat} {cs cs' : List A} (hm : m id = some (.box cs)) : Goes c w m c w (upd m id (some (.box cs'))) := by
 refine ⟨fun _ _ h => h, fun _ _ _ => rfl, fun i h => ⟨rfl, ?_⟩, fun i L h => ?_⟩
 ·by_cases e : i = id
  ·subst e; exact .inl ⟨_, upd_same ..⟩
  ·exact (isBox_upd_ne e).2 h
 ·by_cases e : i = id
  ·subst e; simp [rowLen, hm] at h
  ·exact ⟨L, by rw [rowLen_upd_ne m _ e]; exact h, Nat.le_refl _, fun _ => ⟨rfl, fun ty sz xs hx => ⟨xs, by rw [← hx]; exact (rowsOf_upd_ne e).symm⟩⟩⟩
theorem AW.nils {c : Code} {σ : St} {Q : Exit → St → Prop} (id : Nat) {cs : List A} (hm : σ.m id = some (.box cs))
    (h : AW P c ⟨σ.n, σ.t, upd σ.m id (some (.box (cs.map sealA)))⟩ Q) : AW P c σ Q := fun base S0 w0 df a w hG => by
  refine h base S0 w0 df a w ?_
  obtain ⟨cc, h1, h2, h3⟩ := hG
  have g : Goes cc w σ.m cc w (upd σ.m id (some (.box (cs.map sealA)))) := Goes.nils hm
  refine ⟨cc, ⟨h1.1, fun q hq => (h1.2 q hq).goes g, h1.3⟩, ⟨fun i b hb => ?_, fun i i' b e1 e2 => ?_, h2.lt, h2.old, h2.new, h2.below, h2.rok, h2.size, h2.s0⟩, h3⟩
  · by_cases e : i = id
    · subst e
      simp only [upd_same, Option.some.injEq] at hb
      subst hb
      obtain ⟨q1, q2, vs, T, q3, q4⟩ := h2.blk i _ hm
      exact ⟨q1, q2, vs, T, q3, F2.map_left.mpr (q4.mono fun x y _ hx => (hx.goes g).sealA)⟩
    · have hu : upd σ.m id (some (.box (cs.map sealA))) i = σ.m i := upd_ne _ _ e
      have h4 := h2.blk i b (by rw [← hu]; exact hb)
      cases b with
      | box xs =>
        obtain ⟨q1, q2, vs, T, q3, q4⟩ := h4
        exact ⟨q1, q2, vs, T, q3, q4.mono fun x y _ hx => hx.goes g⟩
      | rows ty sz xs => exact h4
      | froz xs => exact h4
      | gone L => exact h4
      | lent j e sz xs => exact h4
      | fbox cs => exact h4
      | obox cs => exact h4
      | orec r => exact h4
      | mapb a ks xs => exact h4
      | fmap a ks xs => exact h4
  · have hb : ∀ i b, blockOf cc (upd σ.m id (some (.box (cs.map sealA)))) i = some b → blockOf cc σ.m i = some b := fun i b hb => by
      unfold blockOf at hb ⊢
      by_cases e : i = id
      · subst e; rw [upd_same] at hb; rw [hm]; exact hb
      · rw [upd_ne _ _ e] at hb; exact hb
    exact h2.inj i i' b (hb _ _ e1) (hb _ _ e2)
theorem box_cells {base : Nat} {S0 : Sh} {w0 : W0} {cc : Ctx} {m : Mem} {w : World} {id : Nat} {cs cs' : List A} (h2 : WR base S0 w0 cc m w) (hm : m id = some (.box cs)) (hF : ∀ vs, F2 (VA cc w m) cs vs → F2 (VA cc w m) cs' vs) :
    Goes cc w m cc w (upd m id (some (.box cs'))) ∧ WR base S0 w0 cc (upd m id (some (.box cs'))) w := by
  have g : Goes cc w m cc w (upd m id (some (.box cs'))) := Goes.nils hm
  refine ⟨g, fun i b hb => ?_, fun i i' b e1 e2 => ?_, h2.lt, h2.old, h2.new, h2.below, h2.rok, h2.size, h2.s0⟩
  · by_cases e : i = id
    · subst e
      simp only [upd_same, Option.some.injEq] at hb
      subst hb
      obtain ⟨q1, q2, vs, T, q3, q4⟩ := h2.blk i _ hm
      exact ⟨q1, q2, vs, T, q3, (hF vs q4).mono fun x y _ hx => hx.goes g⟩
    · have hu : upd m id (some (.box cs')) i = m i := upd_ne _ _ e
      have h4 := h2.blk i b (by rw [← hu]; exact hb)
      cases b with
      | box xs =>
        obtain ⟨q1, q2, vs, T, q3, q4⟩ := h4
        exact ⟨q1, q2, vs, T, q3, q4.mono fun x y _ hx => hx.goes g⟩
      | rows ty sz xs => exact h4
      | froz xs => exact h4
      | gone L => exact h4
      | lent j e sz xs => exact h4
      | fbox cs => exact h4
      | obox cs => exact h4
      | orec r => exact h4
      | mapb a ks xs => exact h4
      | fmap a ks xs => exact h4
  · have hb : ∀ i b, blockOf cc (upd m id (some (.box cs'))) i = some b → blockOf cc m i = some b := fun i b hb => by
      unfold blockOf at hb ⊢
      by_cases e : i = id
      · subst e; rw [upd_same] at hb; rw [hm]; exact hb
      · rw [upd_ne _ _ e] at hb; exact hb
    exact h2.inj i i' b (hb _ _ e1) (hb _ _ e2)
theorem AW.freshB {c : Code} {σ : St} {Q : Exit → St → Prop} (bid j id : Nat) (e : TypeId) (sz : Nat) (hs : 0 < sz) {cs : List A} (hb : σ.m bid = some (.box cs)) (hj : cs[j]? = some .nil) (hm : σ.m id = none)
    (h : AW P c ⟨σ.n, σ.t, upd (upd σ.m id (some (.rows e sz []))) bid (some (.box (cs.set j (.own id 0))))⟩ Q) : AW P c σ Q := fun base S0 w0 df a w hG => by
  refine h base S0 w0 df a w ?_
  obtain ⟨cc, h1, h2, h3⟩ := hG
  have hne : bid ≠ id := fun e => by rw [e, hm] at hb; simp at hb
  obtain ⟨g, r, hv⟩ := h2.rows hm (e := e) (sz := sz) (xs := []) (v := .slice none 0 0) (Below.refl _ w) (by simp) hs (by simp) (vss := []) F2.nil (World.ownsRow_nil _ _ _ _)
  have hb1 : upd σ.m id (some (.rows e sz [])) bid = some (.box cs) := by rw [upd_ne _ _ hne]; exact hb
  obtain ⟨g2, r2⟩ := box_cells (cs' := cs.set j (.own id 0)) r hb1 fun vs hF => ⟨by rw [List.length_set]; exact hF.1, fun i x y hx hy => by
    rw [List.getElem?_set] at hx
    split at hx
    · rename_i hij
      subst hij
      split at hx
      · cases hx
        have hn := hF.2 j _ y hj hy
        rw [show y = .slice none 0 0 from hn]
        exact hv
      · simp at hx
    · exact hF.2 i x y hx hy⟩
  have g3 := g.trans g2
  exact ⟨_, ⟨h1.1, fun q hq => (h1.2 q hq).goes g3, h1.3.mono (g3.S 0) (g3.heap 0)⟩, r2, h3.goes g3⟩
end
end
section
structure Tiny (w : Wld) : Prop where
 dl : w.draws.list.length ≤ 1000
 en : w.box.entries.length ≤ 70
 pl : ∀ s ∈ w.box.entries, s.plain.length ≤ 100
 gr : w.net.grams.length ≤ 64
 gw : ∀ g ∈ w.net.grams, g.words.length ≤ 100
 se : w.net.seen.length ≤ 300
 sw : ∀ s ∈ w.net.seen, s.length ≤ 100
 pp : w.people.length ≤ 10
 pu : ∀ p ∈ w.people, p.used.length ≤ 100 ∧ p.runs.length ≤ 100
 lg : w.log.length ≤ 300
 rg : w.regs.length ≤ 10
 rw : ∀ r ∈ w.regs, r.length ≤ 100
 lk : w.leaks.length ≤ 300
theorem tiny_of {w : Wld} (h : fewW w = true) : Tiny w := by
 unfold fewW fewT at h
 simp only [Bool.and_eq_true, decide_eq_true_eq] at h
 obtain ⟨h0, h1, h2, h3, h4⟩ := h
 obtain ⟨p1, p2⟩ := of_decide_eq_true h1
 obtain ⟨q1, q2, q3, q4⟩ := of_decide_eq_true h2
 obtain ⟨r1, r2⟩ := fewPl_iff h3
 refine ⟨by omega, by omega, fun s hs => ?_, by omega, fun s hs => ?_, by omega, fun s hs => ?_, r1, r2, by omega, by omega, fun s hs => ?_, by omega⟩
 ·have := p1 s (by rw [List.take_of_length_le (by omega)]; exact hs); omega
 ·have := q1 s (by rw [List.take_of_length_le (by omega)]; exact hs); omega
 ·have := q2 s (by rw [List.take_of_length_le (by omega)]; exact hs); omega
 ·have := h0 s (by rw [List.take_of_length_le (by omega)]; exact hs); omega
theorem q12_copied (w : Wld) (h : Tiny w) : ACalls Tryz.prog 20 [.agg (eWld w)] (.one (.agg (eWld w))) := by
 refine ACalls.intro (fn := Tryz.f20) Tryz.func20 rfl rfl (by simp [Tryz.f20]) ?_
 obtain ⟨dl, en, pl, gr, gw, se, sw, pp, pu, lg, rg, rw', lk⟩ := h
 unfold Tryz.f20
 simp only [eWld, eSealeds, eGrams, ePeople, eEvents, eRows, eWords, eLeaks, List.map_cons, List.map_nil]
 refine wkx T0 T0 T0 (J2 ?_ T0)
 all_goals ((repeat intro h); refine ⟨?_⟩)
 refine AW.freshB 3 10 45 120 4 (by decide) rfl rfl rfl ?_
 refine AW.loopW (fun z σ => ∃ k : Nat, z = w.box.entries.length - k ∧ k ≤ w.box.entries.length ∧ σ = ⟨167, (upd (upd (upd (upd (fun _ => .junk) 1 (.one (.ptr 1 0))) 2 (.one (.ptr 2 0))) 3 (.one (.ptr 3 0))) 4 (.one (.c (i64 k)))), (upd (upd (upd (upd (upd (fun _ => none) 1 (some (.box ((eWld w).map .c)))) 2 (some (.box [.c (u32 0), .c (i64 0), .c (i64 0), .c (i64 0), .c (i64 0), .c (i64 0), .c (i64 0), .nil, .c (i64 0), .c (i64 0), .nil, .c (i64 0), .nil, .nil, .nil, .nil, .nil, .nil]))) 12 (some (.rows 22 1 (w.draws.list.map eWord)))) 45 (some (.rows 120 4 ((w.box.entries.take k).map eSealed)))) 3 (some (.box [.c (u32 w.conf.window), .c (i64 w.conf.people), .c (i64 w.conf.box), .c (i64 w.conf.used), .c (i64 w.conf.runs), .c (i64 w.conf.net), .c (i64 w.conf.regs), .own 12 w.draws.list.length, .c (i64 w.draws.next), .c (i64 w.box.room), .own 45 k, .c (i64 w.net.room), .c (.row (w.net.grams.map eGram)), .c (.row (w.net.seen.map eSeen)), .c (.row (w.people.map ePerson)), .c (.row (w.log.map eEvent)), .c (.row (w.regs.map eSeen)), .c (.row (w.leaks.map eLeak))])))⟩) (n := w.box.entries.length) _ ⟨0, rfl, Nat.zero_le _, rfl⟩ (by simp only [eWld, eSealeds, eGrams, ePeople, eEvents, eRows, eWords, eLeaks, List.map_cons, List.map_nil, List.take_zero, List.map_nil]; exact lz T0) ?_
 rintro z σ ⟨k, rfl, hk, rfl⟩
 simp only [eWld, eSealeds, eGrams, ePeople, eEvents, eRows, eWords, eLeaks, List.map_cons, List.map_nil]
 have hkl : (w.box.entries.take k).length = k := by rw [List.length_take]; omega
 by_cases hlt : k < w.box.entries.length
 ·obtain ⟨x, hx⟩ : ∃ x, w.box.entries[k]? = some x := ⟨_, List.getElem?_eq_getElem hlt⟩
  have hxl := pl x (List.mem_of_getElem? hx)
  have hs := wrapI (x := (k : Int) + 1) (by omega) (by omega)
  have hst : (w.box.entries.take (k + 1)).map eSealed = (w.box.entries.take k).map eSealed ++ [eSealed x] := by rw [List.take_add_one, hx]; simp
  refine wkx (J7 hx hlt hs hkl eSealed.eq_1 eWords.eq_1 eRuns.eq_1) T0 T0 (J2 ?_ T0)
  all_goals ((repeat intro h); refine ⟨?_⟩)
  refine ⟨w.box.entries.length - (k + 1), by omega, _, ⟨k + 1, rfl, by omega, rfl⟩, ?_⟩
  rw [hst]
  simp only [eWld, eSealeds, eGrams, ePeople, eEvents, eRows, eWords, eLeaks, List.map_cons, List.map_nil, eSealed, eRuns]
  exact lz T0
 obtain rfl : k = w.box.entries.length := by omega
 rw [List.take_length]
 refine wkx hkl T0 T0 (J2 ?_ T0)
 all_goals ((repeat intro h); refine ⟨?_⟩)
 clear hlt hk hkl
 refine AW.freshB 3 12 79 62 2 (by decide) rfl rfl rfl ?_
 refine AW.loopW (fun z σ => ∃ k : Nat, z = w.net.grams.length - k ∧ k ≤ w.net.grams.length ∧ σ = ⟨167, (upd (upd (upd (upd (fun _ => .junk) 1 (.one (.ptr 1 0))) 2 (.one (.ptr 2 0))) 3 (.one (.ptr 3 0))) 6 (.one (.c (i64 k)))), (upd (upd (upd (upd (upd (upd (fun _ => none) 1 (some (.box ((eWld w).map .c)))) 2 (some (.box [.c (u32 0), .c (i64 0), .c (i64 0), .c (i64 0), .c (i64 0), .c (i64 0), .c (i64 0), .nil, .c (i64 0), .c (i64 0), .nil, .c (i64 0), .nil, .nil, .nil, .nil, .nil, .nil]))) 12 (some (.rows 22 1 (w.draws.list.map eWord)))) 45 (some (.rows 120 4 (w.box.entries.map eSealed)))) 79 (some (.rows 62 2 ((w.net.grams.take k).map eGram)))) 3 (some (.box [.c (u32 w.conf.window), .c (i64 w.conf.people), .c (i64 w.conf.box), .c (i64 w.conf.used), .c (i64 w.conf.runs), .c (i64 w.conf.net), .c (i64 w.conf.regs), .own 12 w.draws.list.length, .c (i64 w.draws.next), .c (i64 w.box.room), .own 45 w.box.entries.length, .c (i64 w.net.room), .own 79 k, .c (.row (w.net.seen.map eSeen)), .c (.row (w.people.map ePerson)), .c (.row (w.log.map eEvent)), .c (.row (w.regs.map eSeen)), .c (.row (w.leaks.map eLeak))])))⟩) (n := w.net.grams.length) _ ⟨0, rfl, Nat.zero_le _, rfl⟩ (by simp only [eWld, eSealeds, eGrams, ePeople, eEvents, eRows, eWords, eLeaks, List.map_cons, List.map_nil, List.take_zero, List.map_nil]; exact lz T0) ?_
 rintro z σ ⟨k, rfl, hk, rfl⟩
 simp only [eWld, eSealeds, eGrams, ePeople, eEvents, eRows, eWords, eLeaks, List.map_cons, List.map_nil]
 have hkl : (w.net.grams.take k).length = k := by rw [List.length_take]; omega
 by_cases hlt : k < w.net.grams.length
 ·obtain ⟨x, hx⟩ : ∃ x, w.net.grams[k]? = some x := ⟨_, List.getElem?_eq_getElem hlt⟩
  have hxl := gw x (List.mem_of_getElem? hx)
  have hs := wrapI (x := (k : Int) + 1) (by omega) (by omega)
  have hst : (w.net.grams.take (k + 1)).map eGram = (w.net.grams.take k).map eGram ++ [eGram x] := by rw [List.take_add_one, hx]; simp
  refine wkx (J7 hx hlt hs hkl eGram.eq_1 eWords.eq_1 eRuns.eq_1) T0 T0 (J2 ?_ T0)
  all_goals ((repeat intro h); refine ⟨?_⟩)
  refine ⟨w.net.grams.length - (k + 1), by omega, _, ⟨k + 1, rfl, by omega, rfl⟩, ?_⟩
  rw [hst]
  simp only [eWld, eSealeds, eGrams, ePeople, eEvents, eRows, eWords, eLeaks, List.map_cons, List.map_nil, eGram, eRuns]
  exact lz T0
 obtain rfl : k = w.net.grams.length := by omega
 rw [List.take_length]
 refine wkx hkl T0 T0 (J2 ?_ T0)
 all_goals ((repeat intro h); refine ⟨?_⟩)
 clear hlt hk hkl
 refine AW.freshB 3 13 104 25 1 (by decide) rfl rfl rfl ?_
 refine AW.loopW (fun z σ => ∃ k : Nat, z = w.net.seen.length - k ∧ k ≤ w.net.seen.length ∧ σ = ⟨167, (upd (upd (upd (upd (fun _ => .junk) 1 (.one (.ptr 1 0))) 2 (.one (.ptr 2 0))) 3 (.one (.ptr 3 0))) 7 (.one (.c (i64 k)))), (upd (upd (upd (upd (upd (upd (upd (fun _ => none) 1 (some (.box ((eWld w).map .c)))) 2 (some (.box [.c (u32 0), .c (i64 0), .c (i64 0), .c (i64 0), .c (i64 0), .c (i64 0), .c (i64 0), .nil, .c (i64 0), .c (i64 0), .nil, .c (i64 0), .nil, .nil, .nil, .nil, .nil, .nil]))) 12 (some (.rows 22 1 (w.draws.list.map eWord)))) 45 (some (.rows 120 4 (w.box.entries.map eSealed)))) 79 (some (.rows 62 2 (w.net.grams.map eGram)))) 104 (some (.rows 25 1 ((w.net.seen.take k).map eSeen)))) 3 (some (.box [.c (u32 w.conf.window), .c (i64 w.conf.people), .c (i64 w.conf.box), .c (i64 w.conf.used), .c (i64 w.conf.runs), .c (i64 w.conf.net), .c (i64 w.conf.regs), .own 12 w.draws.list.length, .c (i64 w.draws.next), .c (i64 w.box.room), .own 45 w.box.entries.length, .c (i64 w.net.room), .own 79 w.net.grams.length, .own 104 k, .c (.row (w.people.map ePerson)), .c (.row (w.log.map eEvent)), .c (.row (w.regs.map eSeen)), .c (.row (w.leaks.map eLeak))])))⟩) (n := w.net.seen.length) _ ⟨0, rfl, Nat.zero_le _, rfl⟩ (by simp only [eWld, eSealeds, eGrams, ePeople, eEvents, eRows, eWords, eLeaks, List.map_cons, List.map_nil, List.take_zero, List.map_nil]; exact lz T0) ?_
 rintro z σ ⟨k, rfl, hk, rfl⟩
 simp only [eWld, eSealeds, eGrams, ePeople, eEvents, eRows, eWords, eLeaks, List.map_cons, List.map_nil]
 have hkl : (w.net.seen.take k).length = k := by rw [List.length_take]; omega
 by_cases hlt : k < w.net.seen.length
 ·obtain ⟨x, hx⟩ : ∃ x, w.net.seen[k]? = some x := ⟨_, List.getElem?_eq_getElem hlt⟩
  have hxl := sw x (List.mem_of_getElem? hx)
  have hs := wrapI (x := (k : Int) + 1) (by omega) (by omega)
  have hst : (w.net.seen.take (k + 1)).map eSeen = (w.net.seen.take k).map eSeen ++ [eSeen x] := by rw [List.take_add_one, hx]; simp
  refine wkx (J7 hx hlt hs hkl eSeen.eq_1 eWords.eq_1 eRuns.eq_1) T0 T0 (J2 ?_ T0)
  all_goals ((repeat intro h); refine ⟨?_⟩)
  refine ⟨w.net.seen.length - (k + 1), by omega, _, ⟨k + 1, rfl, by omega, rfl⟩, ?_⟩
  rw [hst]
  simp only [eWld, eSealeds, eGrams, ePeople, eEvents, eRows, eWords, eLeaks, List.map_cons, List.map_nil, eSeen, eRuns]
  exact lz T0
 obtain rfl : k = w.net.seen.length := by omega
 rw [List.take_length]
 refine wkx hkl T0 T0 (J2 ?_ T0)
 all_goals ((repeat intro h); refine ⟨?_⟩)
 clear hlt hk hkl
 refine AW.freshB 3 14 134 56 6 (by decide) rfl rfl rfl ?_
 refine AW.loopW (fun z σ => ∃ k : Nat, z = w.people.length - k ∧ k ≤ w.people.length ∧ σ = ⟨167, (upd (upd (upd (upd (fun _ => .junk) 1 (.one (.ptr 1 0))) 2 (.one (.ptr 2 0))) 3 (.one (.ptr 3 0))) 8 (.one (.c (i64 k)))), (upd (upd (upd (upd (upd (upd (upd (upd (fun _ => none) 1 (some (.box ((eWld w).map .c)))) 2 (some (.box [.c (u32 0), .c (i64 0), .c (i64 0), .c (i64 0), .c (i64 0), .c (i64 0), .c (i64 0), .nil, .c (i64 0), .c (i64 0), .nil, .c (i64 0), .nil, .nil, .nil, .nil, .nil, .nil]))) 12 (some (.rows 22 1 (w.draws.list.map eWord)))) 45 (some (.rows 120 4 (w.box.entries.map eSealed)))) 79 (some (.rows 62 2 (w.net.grams.map eGram)))) 104 (some (.rows 25 1 (w.net.seen.map eSeen)))) 134 (some (.rows 56 6 ((w.people.take k).map ePerson)))) 3 (some (.box [.c (u32 w.conf.window), .c (i64 w.conf.people), .c (i64 w.conf.box), .c (i64 w.conf.used), .c (i64 w.conf.runs), .c (i64 w.conf.net), .c (i64 w.conf.regs), .own 12 w.draws.list.length, .c (i64 w.draws.next), .c (i64 w.box.room), .own 45 w.box.entries.length, .c (i64 w.net.room), .own 79 w.net.grams.length, .own 104 w.net.seen.length, .own 134 k, .c (.row (w.log.map eEvent)), .c (.row (w.regs.map eSeen)), .c (.row (w.leaks.map eLeak))])))⟩) (n := w.people.length) _ ⟨0, rfl, Nat.zero_le _, rfl⟩ (by simp only [eWld, eSealeds, eGrams, ePeople, eEvents, eRows, eWords, eLeaks, List.map_cons, List.map_nil, List.take_zero, List.map_nil]; exact lz T0) ?_
 rintro z σ ⟨k, rfl, hk, rfl⟩
 simp only [eWld, eSealeds, eGrams, ePeople, eEvents, eRows, eWords, eLeaks, List.map_cons, List.map_nil]
 have hkl : (w.people.take k).length = k := by rw [List.length_take]; omega
 by_cases hlt : k < w.people.length
 ·obtain ⟨x, hx⟩ : ∃ x, w.people[k]? = some x := ⟨_, List.getElem?_eq_getElem hlt⟩
  have hxl := pu x (List.mem_of_getElem? hx)
  have hs := wrapI (x := (k : Int) + 1) (by omega) (by omega)
  have hst : (w.people.take (k + 1)).map ePerson = (w.people.take k).map ePerson ++ [ePerson x] := by rw [List.take_add_one, hx]; simp
  refine wkx (J7 hx hlt hs hkl ePerson.eq_1 eWords.eq_1 eRuns.eq_1) T0 T0 (J2 ?_ T0)
  all_goals ((repeat intro h); refine ⟨?_⟩)
  refine ⟨w.people.length - (k + 1), by omega, _, ⟨k + 1, rfl, by omega, rfl⟩, ?_⟩
  rw [hst]
  simp only [eWld, eSealeds, eGrams, ePeople, eEvents, eRows, eWords, eLeaks, List.map_cons, List.map_nil, ePerson, eRuns]
  exact lz T0
 obtain rfl : k = w.people.length := by omega
 rw [List.take_length]
 refine wkx hkl T0 T0 (J2 ?_ T0)
 all_goals ((repeat intro h); refine ⟨?_⟩)
 clear hlt hk hkl
 refine AW.freshB 3 16 159 25 1 (by decide) rfl rfl rfl ?_
 refine AW.loopW (fun z σ => ∃ k : Nat, z = w.regs.length - k ∧ k ≤ w.regs.length ∧ σ = ⟨167, (upd (upd (upd (upd (fun _ => .junk) 1 (.one (.ptr 1 0))) 2 (.one (.ptr 2 0))) 3 (.one (.ptr 3 0))) 10 (.one (.c (i64 k)))), (upd (upd (upd (upd (upd (upd (upd (upd (upd (upd (fun _ => none) 1 (some (.box ((eWld w).map .c)))) 2 (some (.box [.c (u32 0), .c (i64 0), .c (i64 0), .c (i64 0), .c (i64 0), .c (i64 0), .c (i64 0), .nil, .c (i64 0), .c (i64 0), .nil, .c (i64 0), .nil, .nil, .nil, .nil, .nil, .nil]))) 12 (some (.rows 22 1 (w.draws.list.map eWord)))) 45 (some (.rows 120 4 (w.box.entries.map eSealed)))) 79 (some (.rows 62 2 (w.net.grams.map eGram)))) 104 (some (.rows 25 1 (w.net.seen.map eSeen)))) 134 (some (.rows 56 6 (w.people.map ePerson)))) 136 (some (.rows 70 10 (w.log.map eEvent)))) 159 (some (.rows 25 1 ((w.regs.take k).map eSeen)))) 3 (some (.box [.c (u32 w.conf.window), .c (i64 w.conf.people), .c (i64 w.conf.box), .c (i64 w.conf.used), .c (i64 w.conf.runs), .c (i64 w.conf.net), .c (i64 w.conf.regs), .own 12 w.draws.list.length, .c (i64 w.draws.next), .c (i64 w.box.room), .own 45 w.box.entries.length, .c (i64 w.net.room), .own 79 w.net.grams.length, .own 104 w.net.seen.length, .own 134 w.people.length, .own 136 w.log.length, .own 159 k, .c (.row (w.leaks.map eLeak))])))⟩) (n := w.regs.length) _ ⟨0, rfl, Nat.zero_le _, rfl⟩ (by simp only [eWld, eSealeds, eGrams, ePeople, eEvents, eRows, eWords, eLeaks, List.map_cons, List.map_nil, List.take_zero, List.map_nil]; exact lz T0) ?_
 rintro z σ ⟨k, rfl, hk, rfl⟩
 simp only [eWld, eSealeds, eGrams, ePeople, eEvents, eRows, eWords, eLeaks, List.map_cons, List.map_nil]
 have hkl : (w.regs.take k).length = k := by rw [List.length_take]; omega
 by_cases hlt : k < w.regs.length
 ·obtain ⟨x, hx⟩ : ∃ x, w.regs[k]? = some x := ⟨_, List.getElem?_eq_getElem hlt⟩
  have hxl := rw' x (List.mem_of_getElem? hx)
  have hs := wrapI (x := (k : Int) + 1) (by omega) (by omega)
  have hst : (w.regs.take (k + 1)).map eSeen = (w.regs.take k).map eSeen ++ [eSeen x] := by rw [List.take_add_one, hx]; simp
  refine wkx (J7 hx hlt hs hkl eSeen.eq_1 eWords.eq_1 eRuns.eq_1) T0 T0 (J2 ?_ T0)
  all_goals ((repeat intro h); refine ⟨?_⟩)
  refine ⟨w.regs.length - (k + 1), by omega, _, ⟨k + 1, rfl, by omega, rfl⟩, ?_⟩
  rw [hst]
  simp only [eWld, eSealeds, eGrams, ePeople, eEvents, eRows, eWords, eLeaks, List.map_cons, List.map_nil, eSeen, eRuns]
  exact lz T0
 obtain rfl : k = w.regs.length := by omega
 rw [List.take_length]
 refine wkx hkl T0 T0 T0
end
section
def conf17 : Conf := ⟨5, 2, 9, 4, 4, 9, 2⟩
def W17 : Wld := newW conf17 [11, 12, 13, 14, 15, 16, 17] 2 2
def A17 : Wld := (startOW W17 1 2).1
def s17 : Prt := ⟨2147483662, 0, 0, 0, 70, 0, 0⟩
def X17 : Wld × Int × Int := sealW A17 2147483659 9 s17
def m17 (r b : Int) : Mssg := ⟨9, r, 0, 0, 0, b, 0⟩
def B17 : Wld := (shareAW X17.1 1 (m17 2147483661 X17.2.1)).1
def ev17 : Event := ⟨4, 2, 1, 1, 2, 70, 0, 2147483661, 2147483662, 0⟩
theorem w17_few : fewW W17 = true ∧ fewW A17 = true ∧ fewW X17.1 = true ∧ fewW B17 = true := by decide +kernel
theorem w17_form : formW W17 = true ∧ formW A17 = true ∧ formW X17.1 = true ∧ formW B17 = true := by decide +kernel
theorem w17_e : (startOW W17 1 2).2 = 0 ∧ (startOW W17 2 2).2 = 5 ∧ (shareAW X17.1 1 (m17 2147483661 X17.2.1)).2 = 0 ∧ (shareAW X17.1 1 (m17 5 X17.2.1)).2 = 9 ∧ (shareAW X17.1 1 (m17 2147483661 5)).2 = 6 ∧ (shareAW B17 1 (m17 2147483661 X17.2.1)).2 = 9 := by decide +kernel
theorem w17_d : B17.log.length = 2 ∧ B17.log[1]? = some ev17 ∧ W17.people[1]? = some ⟨1, 2147483659, 0, [], [], false⟩ ∧ A17.net.grams.length = 1 ∧ ∃ l, A17.net.grams[0]? = some ⟨2, l⟩ := by
 refine ⟨by decide +kernel, by decide +kernel, by decide +kernel, by decide +kernel, (A17.net.grams.getD 0 ⟨0, []⟩).words, by decide +kernel⟩
theorem w17_len : W17.people.length = 3 ∧ X17.1.people.length = 3 ∧ B17.people.length = 3 := by decide +kernel
theorem w17_may : mayM (m17 2147483661 X17.2.1) = true ∧ mayM (m17 5 X17.2.1) = true ∧ mayM (m17 2147483661 5) = true := by decide +kernel
theorem l17_awake : ACalls Tryz.prog 8 [] (rB true) := by
 refine ACalls.intro (fn := Tryz.f8) Tryz.func8 rfl rfl (by simp [Tryz.f8]) ?_
 obtain ⟨f1, f2, f3, f4⟩ := w17_few
 obtain ⟨g1, g2, g3, g4⟩ := w17_form
 obtain ⟨e1, e2, e3, e4, e5, e6⟩ := w17_e
 obtain ⟨d1, d2, d3, d4, dl, d5⟩ := w17_d
 obtain ⟨n1, n2, n3⟩ := w17_len
 obtain ⟨m1, m2, m3⟩ := w17_may
 have c0 := q12_new conf17 [11, 12, 13, 14, 15, 16, 17] 2 2 rfl (by decide) rfl (by decide)
 rw [show newW conf17 [11, 12, 13, 14, 15, 16, 17] 2 2 = W17 from rfl] at c0
 have c1 := p17_start W17 1 2 g1 (smallN_of (by decide) f1 g1)
 have c2 := p17_start W17 2 2 g1 (smallN_of (by decide) f1 g1)
 have c3 := q12_seal A17 2147483659 9 s17 (small_of f2 g2)
 have c4 := p17_share X17.1 1 (m17 2147483661 X17.2.1) g3 (smallN_of (by decide) f3 g3) (by omega) (by omega) rfl m1
 have c5 := p17_share X17.1 1 (m17 5 X17.2.1) g3 (smallN_of (by decide) f3 g3) (by omega) (by omega) rfl m2
 have c6 := p17_share X17.1 1 (m17 2147483661 5) g3 (smallN_of (by decide) f3 g3) (by omega) (by omega) rfl m3
 have c7 := p17_share B17 1 (m17 2147483661 X17.2.1) g4 (smallN_of (by decide) f4 g4) (by omega) (by omega) rfl m1
 rw [e1, show (startOW W17 1 2).1 = A17 from rfl] at c1
 rw [e2] at c2
 rw [show sealW A17 2147483659 9 s17 = X17 from rfl] at c3
 rw [e3, show (shareAW X17.1 1 (m17 2147483661 X17.2.1)).1 = B17 from rfl] at c4
 rw [e4] at c5
 rw [e5] at c6
 rw [e6] at c7
 have heq := eqok_event
 clear f1 f2 f3 f4 g1 g2 g3 g4 e1 e2 e3 e4 e5 e6 n2 n3 m1 m2 m3
 generalize (shareAW B17 1 (m17 2147483661 X17.2.1)).1 = Z1 at *
 generalize (shareAW X17.1 1 (m17 2147483661 5)).1 = Z2 at *
 generalize (shareAW X17.1 1 (m17 5 X17.2.1)).1 = Z3 at *
 generalize (startOW W17 2 2).1 = Z4 at *
 generalize B17 = B at *
 unfold m17 at *
 generalize X17 = X at *
 generalize A17 = A at *
 generalize W17 = W at *
 obtain ⟨X, xh, xe⟩ := X
 have l1 : (B.log.length : Int) = 2 := by omega
 have l2 : 1 < B.log.length := by omega
 have l3 : 1 < W.people.length := by omega
 have l4 : (A.net.grams.length : Int) = 1 := by omega
 have l5 : 0 < A.net.grams.length := by omega
 clear d1 n1 d4
 unfold Tryz.f8
 simp only [eWld, conf17, eConf, s17, eMssg, ePrt, eSealeds, eGrams, ePeople, eEvents, eRows, eWord, List.map_cons, List.map_nil, eWords, eLeaks, rB, ev17] at *
 refine wkx (J9 l1 l2 l3 l4 l5 d2 d3 d5 (J6 eGram.eq_1 ePerson.eq_1 eWords.eq_1 eRuns.eq_1 eEvent.eq_1 heq)) (J8 c0 c1 c2 c3 c4 c5 c6 c7) T0 T0
def fits17 (w : Wld) (me : Int) (m : Mssg) (k : Int) : Bool := fewW w && (formW w && (decide (1 ≤ me) && (decide (me < (w.people.length : Int)) && (m.kind == k && mayM m))))
theorem l17_fits (w : Wld) (me : Int) (m : Mssg) : ACalls Tryz.prog 9 [.agg (eWld w), .one (u32 me), .agg (eMssg m)] (rB (fits17 w me m 9)) := by
  refine ACalls.introF (fn := Tryz.f9) Tryz.func9 rfl rfl (by simp [Tryz.f9]) fun hf => ?_
  have hme := in_u32 (Fine.int (hf (.one (u32 me)) (by simp)))
  have hpl : w.people.length ≤ 9223372036854775807 := Fine.rowC (f := ePerson) (k := 0) ((hf (.agg (eWld w)) (by simp) : FineCA (.agg (eWld w))) (ePeople w.people) (by simp [eWld]))
  clear hf
  have c1 := q12_few w
  have c2 := q12_form w
  have c3 := q03_may m
  have w1 : IntKind.u64.wrap me = me := by rw [IntKind.wrap_u64]; omega
  have w2 : IntKind.u64.wrap (w.people.length : Int) = (w.people.length : Int) := by rw [IntKind.wrap_u64]; omega
  unfold Tryz.f9
  unfold fits17
  generalize fewW w = b1 at *
  generalize formW w = b2 at *
  generalize mayM m = b3 at *
  simp only [eWld, eMssg, eSealeds, eGrams, ePeople, eEvents, eRows, eWords, eLeaks, rB] at *
  cases b1
  · refine wk T0 (J3 c1 c2 c3) T0 T0
  cases b2
  · refine wk T0 (J3 c1 c2 c3) T0 T0
  by_cases g1 : 1 ≤ me
  rotate_left
  · rw [decide_eq_false g1]
    refine wk (J3 g1 w1 w2) (J3 c1 c2 c3) T0 T0
  rw [decide_eq_true g1]
  by_cases g2 : me < (w.people.length : Int)
  rotate_left
  · rw [decide_eq_false g2]
    refine wk (J4 g1 g2 w1 w2) (J3 c1 c2 c3) T0 T0
  rw [decide_eq_true g2]
  cases hk : (m.kind == 9) <;> cases b3
  all_goals repeat' (first
    | (refine hC ?_ ?_ ?_ ?_ ?_
       rotate_left
       · rfl
       · simp only [go_sem, ↓reduceIte, reduceCtorEq, Nat.reduceLT, Nat.reduceEqDiff, Nat.reduceBEq, Nat.reduceAdd, Nat.reduceSub, Nat.reduceMul, Nat.reduceLeDiff, Int.reduceLE, Int.reduceLT, Int.reduceNeg, Int.reduceEq, Int.reduceBEq, Int.reduceBNe, Int.reduceToNat, g1, g2, w1, w2, hk]
       · simp only [go_sem, ↓reduceIte, reduceCtorEq, Nat.reduceLT, Nat.reduceEqDiff, Nat.reduceBEq, Nat.reduceAdd, Nat.reduceSub, Nat.reduceMul, Nat.reduceLeDiff, Int.reduceLE, Int.reduceLT, Int.reduceNeg, Int.reduceEq, Int.reduceBEq, Int.reduceBNe, Int.reduceToNat, g1, g2, w1, w2, hk]
         first | (refine And.intro ?_ ?_; exact c1; first | exact trivial | (simp only [go_sem, ↓reduceIte, reduceCtorEq, Nat.reduceLT, Nat.reduceEqDiff, Nat.reduceBEq, Nat.reduceAdd, Nat.reduceSub, Nat.reduceMul, Nat.reduceLeDiff, Int.reduceLE, Int.reduceLT, Int.reduceNeg, Int.reduceEq, Int.reduceBEq, Int.reduceBNe, Int.reduceToNat, g1, g2, w1, w2, hk]; done)) | (refine And.intro (ACalls.args (k := ?_) ?_ ?_) ?_; rotate_left; exact c1; repeat' (first | exact trivial | exact Or.inl ⟨rfl, rfl⟩ | exact Or.inr rfl | apply And.intro))
       simp only [go_sem, ↓reduceIte, reduceCtorEq, Nat.reduceLT, Nat.reduceEqDiff, Nat.reduceBEq, Nat.reduceAdd, Nat.reduceSub, Nat.reduceMul, Nat.reduceLeDiff, Int.reduceLE, Int.reduceLT, Int.reduceNeg, Int.reduceEq, Int.reduceBEq, Int.reduceBNe, Int.reduceToNat, g1, g2, w1, w2, hk])
    | (refine hC ?_ ?_ ?_ ?_ ?_
       rotate_left
       · rfl
       · simp only [go_sem, ↓reduceIte, reduceCtorEq, Nat.reduceLT, Nat.reduceEqDiff, Nat.reduceBEq, Nat.reduceAdd, Nat.reduceSub, Nat.reduceMul, Nat.reduceLeDiff, Int.reduceLE, Int.reduceLT, Int.reduceNeg, Int.reduceEq, Int.reduceBEq, Int.reduceBNe, Int.reduceToNat, g1, g2, w1, w2, hk]
       · simp only [go_sem, ↓reduceIte, reduceCtorEq, Nat.reduceLT, Nat.reduceEqDiff, Nat.reduceBEq, Nat.reduceAdd, Nat.reduceSub, Nat.reduceMul, Nat.reduceLeDiff, Int.reduceLE, Int.reduceLT, Int.reduceNeg, Int.reduceEq, Int.reduceBEq, Int.reduceBNe, Int.reduceToNat, g1, g2, w1, w2, hk]
         first | (refine And.intro ?_ ?_; exact c2; first | exact trivial | (simp only [go_sem, ↓reduceIte, reduceCtorEq, Nat.reduceLT, Nat.reduceEqDiff, Nat.reduceBEq, Nat.reduceAdd, Nat.reduceSub, Nat.reduceMul, Nat.reduceLeDiff, Int.reduceLE, Int.reduceLT, Int.reduceNeg, Int.reduceEq, Int.reduceBEq, Int.reduceBNe, Int.reduceToNat, g1, g2, w1, w2, hk]; done)) | (refine And.intro (ACalls.args (k := ?_) ?_ ?_) ?_; rotate_left; exact c2; repeat' (first | exact trivial | exact Or.inl ⟨rfl, rfl⟩ | exact Or.inr rfl | apply And.intro))
       simp only [go_sem, ↓reduceIte, reduceCtorEq, Nat.reduceLT, Nat.reduceEqDiff, Nat.reduceBEq, Nat.reduceAdd, Nat.reduceSub, Nat.reduceMul, Nat.reduceLeDiff, Int.reduceLE, Int.reduceLT, Int.reduceNeg, Int.reduceEq, Int.reduceBEq, Int.reduceBNe, Int.reduceToNat, g1, g2, w1, w2, hk])
    | (refine hC ?_ ?_ ?_ ?_ ?_
       rotate_left
       · rfl
       · simp only [go_sem, ↓reduceIte, reduceCtorEq, Nat.reduceLT, Nat.reduceEqDiff, Nat.reduceBEq, Nat.reduceAdd, Nat.reduceSub, Nat.reduceMul, Nat.reduceLeDiff, Int.reduceLE, Int.reduceLT, Int.reduceNeg, Int.reduceEq, Int.reduceBEq, Int.reduceBNe, Int.reduceToNat, g1, g2, w1, w2, hk]
       · simp only [go_sem, ↓reduceIte, reduceCtorEq, Nat.reduceLT, Nat.reduceEqDiff, Nat.reduceBEq, Nat.reduceAdd, Nat.reduceSub, Nat.reduceMul, Nat.reduceLeDiff, Int.reduceLE, Int.reduceLT, Int.reduceNeg, Int.reduceEq, Int.reduceBEq, Int.reduceBNe, Int.reduceToNat, g1, g2, w1, w2, hk]
         first | (refine And.intro ?_ ?_; exact c3; first | exact trivial | (simp only [go_sem, ↓reduceIte, reduceCtorEq, Nat.reduceLT, Nat.reduceEqDiff, Nat.reduceBEq, Nat.reduceAdd, Nat.reduceSub, Nat.reduceMul, Nat.reduceLeDiff, Int.reduceLE, Int.reduceLT, Int.reduceNeg, Int.reduceEq, Int.reduceBEq, Int.reduceBNe, Int.reduceToNat, g1, g2, w1, w2, hk]; done)) | (refine And.intro (ACalls.args (k := ?_) ?_ ?_) ?_; rotate_left; exact c3; repeat' (first | exact trivial | exact Or.inl ⟨rfl, rfl⟩ | exact Or.inr rfl | apply And.intro))
       simp only [go_sem, ↓reduceIte, reduceCtorEq, Nat.reduceLT, Nat.reduceEqDiff, Nat.reduceBEq, Nat.reduceAdd, Nat.reduceSub, Nat.reduceMul, Nat.reduceLeDiff, Int.reduceLE, Int.reduceLT, Int.reduceNeg, Int.reduceEq, Int.reduceBEq, Int.reduceBNe, Int.reduceToNat, g1, g2, w1, w2, hk])
    | (refine hK _ _ ?_; clear hK hC; clear K C)
    | (refine hK _ _ rfl ?_; clear hK hC; clear K C)
    | (refine hK _ _ (by simp only [crs, crsI, alfO, alfL, Nat.reduceLT]; rfl) ?_; clear hK hC; clear K C)
    | (refine AW.seqR fun K C hK hC => ?_; simp only [go_sem, ↓reduceIte, reduceCtorEq, Nat.reduceLT, Nat.reduceEqDiff, Nat.reduceBEq, Nat.reduceAdd, Nat.reduceSub, Nat.reduceMul, Nat.reduceLeDiff, Int.reduceLE, Int.reduceLT, Int.reduceNeg, Int.reduceEq, Int.reduceBEq, Int.reduceBNe, Int.reduceToNat, g1, g2, w1, w2, hk])
    | (refine AW.seqD rfl fun K C hK hC => ?_; simp only [go_sem, ↓reduceIte, reduceCtorEq, Nat.reduceLT, Nat.reduceEqDiff, Nat.reduceBEq, Nat.reduceAdd, Nat.reduceSub, Nat.reduceMul, Nat.reduceLeDiff, Int.reduceLE, Int.reduceLT, Int.reduceNeg, Int.reduceEq, Int.reduceBEq, Int.reduceBNe, Int.reduceToNat, g1, g2, w1, w2, hk])
    | (refine AW.reg fun K C hK hC => ?_; simp only [go_sem, ↓reduceIte, reduceCtorEq, Nat.reduceLT, Nat.reduceEqDiff, Nat.reduceBEq, Nat.reduceAdd, Nat.reduceSub, Nat.reduceMul, Nat.reduceLeDiff, Int.reduceLE, Int.reduceLT, Int.reduceNeg, Int.reduceEq, Int.reduceBEq, Int.reduceBNe, Int.reduceToNat, g1, g2, w1, w2, hk])
    | (refine AW.regD rfl fun K C hK hC => ?_; simp only [go_sem, ↓reduceIte, reduceCtorEq, Nat.reduceLT, Nat.reduceEqDiff, Nat.reduceBEq, Nat.reduceAdd, Nat.reduceSub, Nat.reduceMul, Nat.reduceLeDiff, Int.reduceLE, Int.reduceLT, Int.reduceNeg, Int.reduceEq, Int.reduceBEq, Int.reduceBNe, Int.reduceToNat, g1, g2, w1, w2, hk])
    | refine AW.seqS ?_
    | (refine AW.ret ?_; simp only [go_sem, ↓reduceIte, reduceCtorEq, Nat.reduceLT, Nat.reduceEqDiff, Nat.reduceBEq, Nat.reduceAdd, Nat.reduceSub, Nat.reduceMul, Nat.reduceLeDiff, Int.reduceLE, Int.reduceLT, Int.reduceNeg, Int.reduceEq, Int.reduceBEq, Int.reduceBNe, Int.reduceToNat, g1, g2, w1, w2, hk])
    | (refine AW.cond rfl (fun h => ?_) (fun h => ?_) <;> (try simp only [decide_eq_true_eq, decide_eq_false_iff_not, bne_iff_ne, beq_iff_eq, bne_eq_false_iff_eq, beq_eq_false_iff_ne, ne_eq, ge_iff_le, gt_iff_lt, Bool.not_eq_true, Bool.not_eq_false, Bool.not_not, Bool.not_true, Bool.not_false, Int.not_le, Int.not_lt, not_true_eq_false, not_false_eq_true, reduceCtorEq, Bool.false_eq_true, Bool.not_eq_true', Bool.not_eq_false'] at h) <;> first | (exfalso; omega) | skip)
    | refine AW.skip ?_
    | refine AW.seq ?_
    | refine AW.block ?_
    | (refine AW.exit ?_; simp only [go_sem, ↓reduceIte, reduceCtorEq, Nat.reduceLT, Nat.reduceEqDiff, Nat.reduceBEq, Nat.reduceAdd, Nat.reduceSub, Nat.reduceMul, Nat.reduceLeDiff, Int.reduceLE, Int.reduceLT, Int.reduceNeg, Int.reduceEq, Int.reduceBEq, Int.reduceBNe, Int.reduceToNat, g1, g2, w1, w2, hk])
    | (refine ite_on (fun h => ?_) (fun h => ?_) <;> (try simp only [decide_eq_true_eq, decide_eq_false_iff_not, bne_iff_ne, beq_iff_eq, bne_eq_false_iff_eq, beq_eq_false_iff_ne, ne_eq, ge_iff_le, gt_iff_lt, Bool.not_eq_true, Bool.not_eq_false, Bool.not_not, Bool.not_true, Bool.not_false, Int.not_le, Int.not_lt, not_true_eq_false, not_false_eq_true, reduceCtorEq, Bool.false_eq_true, Bool.not_eq_true', Bool.not_eq_false'] at h) <;> first | (exfalso; omega) | skip)
    | rw [thenN]
    | rw [blockN]
    | rw [scopeN]
    | refine AW.scope ?_
    | refine AW.label ?_
    | refine And.intro ?_ ?_
    | refine lcons rfl ?_
    | exact lGram _
    | exact lSeen _
    | exact lWord _
    | exact lSealed _
    | exact lRun _
    | exact lPerson _
    | exact lEvent _
    | exact lLeak _
    | exact lNum _
    | exact lOprn _
    | exact in64 (by omega) (by omega)
    | exact in32 (by omega) (by omega)
    | omega)
theorem fits17_iff {w : Wld} {me : Int} {m : Mssg} {k : Int} (h : fits17 w me m k = true) : fewW w = true ∧ formW w = true ∧ 1 ≤ me ∧ me < (w.people.length : Int) ∧ m.kind = k ∧ mayM m = true := by
 unfold fits17 at h
 simpa only [Bool.and_eq_true, beq_iff_eq, decide_eq_true_eq] using h
theorem l17_does (w : Wld) (a b me : Int) (m : Mssg) : ACalls Tryz.prog 3 [.agg (eWld w), .one (u32 a), .one (u32 b), .one (u32 me), .agg (eMssg m)] (rB true) := by
 refine ACalls.intro (fn := Tryz.f3) Tryz.func3 rfl rfl (by simp [Tryz.f3]) ?_
 have aw := l17_awake
 have ft := l17_fits w me m
 unfold Tryz.f3
 cases hF : fits17 w me m 9
 ·rw [hF] at ft
  simp only [eWld, eMssg, eSealeds, eGrams, ePeople, eEvents, eRows, eWords, eLeaks, rB] at *
  refine wk T0 (J2 aw ft) T0 T0
 rw [hF] at ft
 obtain ⟨h1, h2, h3, h4, h5, h6⟩ := fits17_iff hF
 have sm : SmallN 10 w := smallN_of (by decide) h1 h2
 obtain ⟨_, hb, _, hn, _⟩ := formW_iff h2
 have c1 := p17_start w a b h2 sm
 have d1 := q17_start w a b sm hb hn (by have := (person_used h2 a).2; omega)
 have c2 := p17_share w me m h2 sm h3 h4 h5 h6
 have d2 := q17_share w me m sm (by have := (person_used h2 me).2; omega)
 have s1 := q12_same (startOW w a b).1 (startOW w a b).1
 rw [decide_eq_true rfl] at s1
 have s2 := q12_same (shareAW w me m).1 (shareAW w me m).1
 rw [decide_eq_true rfl] at s2
 clear h1 h2 h3 h4 h5 h6 sm hb hn hF
 generalize shareAW w me m = y at *
 generalize startOW w a b = z at *
 simp only [eWld, eMssg, eSealeds, eGrams, ePeople, eEvents, eRows, eWords, eLeaks, rB] at *
 refine wkx T0 (J8 aw ft c1 d1 c2 d2 s1 s2) T0 T0
theorem l17_keeps (w : Wld) (a b me : Int) (m : Mssg) : ACalls Tryz.prog 6 [.agg (eWld w), .one (u32 a), .one (u32 b), .one (u32 me), .agg (eMssg m)] (rB true) := by
 refine ACalls.intro (fn := Tryz.f6) Tryz.func6 rfl rfl (by simp [Tryz.f6]) ?_
 have aw := l17_awake
 have ft := l17_fits w me m
 unfold Tryz.f6
 cases hF : fits17 w me m 9
 ·rw [hF] at ft
  simp only [eWld, eMssg, eSealeds, eGrams, ePeople, eEvents, eRows, eWords, eLeaks, rB] at *
  refine wk T0 (J2 aw ft) T0 T0
 rw [hF] at ft
 obtain ⟨h1, h2, h3, h4, h5, h6⟩ := fits17_iff hF
 have sm : SmallN 10 w := smallN_of (by decide) h1 h2
 have cp := q12_copied w (tiny_of h1)
 have c0 := p17_start w a b h2 sm
 have c1 := p17_share w me m h2 sm h3 h4 h5 h6
 have s2 := q12_same w w
 rw [decide_eq_true rfl] at s2
 clear h1 h2 h3 h4 h5 h6 sm hF
 generalize shareAW w me m = y at *
 generalize startOW w a b = z at *
 simp only [eWld, eMssg, eSealeds, eGrams, ePeople, eEvents, eRows, eWords, eLeaks, rB] at *
 refine wk T0 (J6 aw ft cp c0 c1 s2) T0 T0
end
section
theorem startOW_ok {w : Wld} {a b : Int} (hf : formW w = true) (h : (startOW w a b).2 = 0) : ∃ (i : Nat) (p : Person), a = i ∧ w.people[i]? = some p ∧ personW w a = p ∧ pairPl w.people a b = true ∧ (p.runs.length : Int) < w.conf.runs ∧ roomW w 1 1 = true ∧ thereB w.box.entries (drawnW (drawW (drawW w))) = false ∧
    getP 6 (wordsP 6 ⟨drawnW (drawW w), drawnW w, a, b, 0, 0, 0⟩) = (⟨drawnW (drawW w), drawnW w, a, b, 0, 0, 0⟩, 0) ∧
    (startOW w a b).1 = actW w ⟨3, [⟨drawnW (drawW (drawW w)), p.key, 6, wordsP 6 ⟨drawnW (drawW w), drawnW w, a, b, 0, 0, 0⟩⟩], i, putRun p ⟨2, 1, b, drawnW (drawW w), 0, drawnW w, 0, 0, 1⟩, [⟨1, 2, 1, a, b, 0, 0, drawnW w, drawnW (drawW w), p.clock⟩], [⟨b, putL ⟨6, drawnW w, a, b, 0, drawnW (drawW (drawW w)), 0⟩⟩]⟩ := by
  obtain ⟨_, _, _, _, _, hl, _⟩ := formW_iff hf
  revert h
  unfold startOW begunO
  split
  · intro h; cases h
  rename_i g1
  have hp : pairPl w.people a b = true := by simpa using g1
  obtain ⟨_, q1, _, q2, _⟩ := pairPl_iff hl hp
  obtain ⟨i, p, e1, e2, e3, e4⟩ := person_at hl (by omega) q2
  split
  · intro h; cases h
  rename_i g2
  split
  · rename_i g3; intro h; exact absurd h g3
  rename_i g3
  intro _
  have hr : roomW w 1 1 = true := by cases hr : roomW w 1 1 with
    | true => rfl
    | false => exact absurd (.inr hr) g2
  have hr2 := (roomW_iff hr).2
  have g3' := Classical.not_not.1 g3
  unfold frstA at g3'
  obtain ⟨s1, s2, s3, s4⟩ := sealW_ok g3'
  rw [e3] at s4 g2
  refine ⟨i, p, e1, e2, e3, hp, Int.not_le.1 fun hc => g2 (.inl hc), hr, s2, s1, ?_⟩
  have hF : frstA w a b = ({ drawW (drawW (drawW w)) with box := ⟨w.box.room, w.box.entries ++ [⟨drawnW (drawW (drawW w)), p.key, 6, wordsP 6 ⟨drawnW (drawW w), drawnW w, a, b, 0, 0, 0⟩⟩]⟩ }, drawnW (drawW (drawW w)), 0) := by
    unfold frstA; rw [e3, s4]; rfl
  rw [hF, e3]
  simp only
  rw [withW_to (w := w) (p := putRun p _) ?hv hl e2 e4, sentW_ok (by simp [mayM, fitsM, hasT, kindTags, isKindB, M7.word]) (by show ¬ w.net.room ≤ (w.net.grams.length : Int); omega)]
  case hv => rfl
  simp [actW, logW, drawW, Int.add_assoc]
theorem shareAW_ok {w : Wld} {me : Int} {m : Mssg} (hf : formW w = true) (h1 : 1 ≤ me) (h2 : me < (w.people.length : Int)) (h : (shareAW w me m).2 = 0) : ∃ (i j : Nat) (p : Person) (r : Run) (s : Prt), me = i ∧ w.people[i]? = some p ∧ personW w me = p ∧ p.runs[j]? = some r ∧ r.proto = 2 ∧ r.role = 1 ∧ r.state = 1 ∧ r.m = m.run ∧ openW w p.key 9 m.box = (s, true) ∧ s.n = r.mine ∧
    (shareAW w me m).1 = actW w ⟨0, [], i, { p with runs := p.runs.set j { r with k := s.k, state := 3 } }, [⟨4, 2, 1, me, r.peer, s.k, 0, r.m, r.mine, p.clock⟩], []⟩ := by
  obtain ⟨_, _, _, _, _, hl, _⟩ := formW_iff hf
  obtain ⟨i, p, e1, e2, e3, e4⟩ := person_at hl (by omega) h2
  revert h
  unfold shareAW doneA
  rw [e3]
  cases hfd : p.runs.find? (waitsO 1 m.run) with
  | none => intro h; cases h
  | some r =>
    simp only
    obtain ⟨k1, k2⟩ := run_at hfd
    simp only [waitsO, Bool.and_eq_true, beq_iff_eq] at k2
    generalize hG : openW w p.key 9 m.box = G
    obtain ⟨s, ok⟩ := G
    split
    · intro h; cases h
    rename_i g2
    intro _
    have g2' : ok = true ∧ s.n = r.mine := by simpa using g2
    refine ⟨i, _, p, r, s, e1, e2, rfl, k1, k2.1, k2.2.1, k2.2.2.1, k2.2.2.2, by rw [hG, g2'.1], g2'.2, ?_⟩
    rw [withR_to rfl hl e2 e4]
    simp [actW, logW]
end
section
theorem putL_le (m : Mssg) : ((putL m).length : Int) ≤ 64 := by have := putL_len m; omega
theorem wordsP_le (l : Int) (p : Prt) : (wordsP l p).length ≤ 64 := by have := wordsP_len l p; omega
theorem run_new {c : Conf} {p : Person} (h : personB c p = true) {r : Run} (h1 : r.proto = 1 ∨ r.proto = 2) (h2 : r.role = 1 ∨ r.role = 2) (h3 : r.state = 1 ∨ r.state = 2 ∨ r.state = 3) (hr : (p.runs.length : Int) < c.runs) : personB c (putRun p r) = true := by
 unfold personB runsR putRun at *
 simp only [Bool.and_eq_true, decide_eq_true_eq] at h ⊢
 refine ⟨h.1, ⟨?_, by simp only [List.length_append, List.length_singleton]; omega⟩, h.2.2⟩
 rw [List.all_append, h.2.1.1, Bool.true_and]
 simp only [List.all_cons, List.all_nil, Bool.and_true]
 exact decide_eq_true ⟨h1, h2, h3⟩
section
variable {w : Wld} (hf : formW w = true) (hd : w.draws.next + 3 ≤ 1048576)
include hf hd
theorem startOW_form (a b : Int) : formW (startOW w a b).1 = true := by
 by_cases h : (startOW w a b).2 = 0
 ·obtain ⟨_, a2, _, a4, _, b1, _⟩ := formW_iff hf
  obtain ⟨i, p, e1, e2, e3, e4, e5, e6, e8, e9, e7⟩ := startOW_ok hf h
  have hr := roomW_iff e6
  rw [e7]
  exact act_form hf (by show w.draws.next + ((3 : Nat) : Int) ≤ _; omega) (right_snoc (by simpa using a2) (by omega) (by dsimp only; exact wordsP_le _ _) e8) (by simp; omega) (by simp; exact putL_le _) e2 ((right_names b1).2 i p e2) (run_new (person_form hf e2) (.inr rfl) (.inl rfl) (.inl rfl) e5)
 ·rw [startOW_err h]; exact hf
end
end
section
def p8 : Prt := ⟨8, 0, 0, 0, 0, 0, 0⟩
def m9 : Mssg := ⟨4, 0, 0, 0, 0, 9, 0⟩
end
end Go.Proofs.YtbjkgfppafjmgaaGreatDoor.Abs
