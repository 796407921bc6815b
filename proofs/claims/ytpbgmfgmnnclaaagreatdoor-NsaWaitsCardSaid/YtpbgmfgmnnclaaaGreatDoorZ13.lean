/- Texts that were merged: L15w, Open, OpenNet, OpenBox, OpenWld, LaidN. -/
import Derived.Test.YtpbgmfgmnnclaaaGreatDoorZ12
import Derived.Test.YtpbgmfgmnnclaaaGreatDoorZ4
import Derived.Test.YtpbgmfgmnnclaaaGreatDoorZ5
import Derived.Test.YtpbgmfgmnnclaaaGreatDoorRows
import Derived.Test.YtpbgmfgmnnclaaaGreatDoorZ3
import Derived.OpenShut
import Derived.ShutString
import Derived.ChangeOld
import Derived.ChangeVars
import Derived.JoinedOf
import Derived.RowKit
section
/- The laws of layer nsa, over values without addresses: NsaWaits. -/
set_option linter.unusedSimpArgs false
set_option linter.unusedVariables false
set_option maxRecDepth 100000
namespace Go.Proofs.YtpbgmfgmnnclaaaGreatDoor.Abs
open Go.RowKit
/-- What a run that was begun brings, as the law looks at it. -/
theorem start_seen {w : Wld} {a b : Int} (hf : formW w = true) (hd : ∀ x ∈ w.draws.list, 0 ≤ x) (h : (startNW w a b).2 = 0) : ∃ (i : Nat) (p P : Person) (n : Int), a = i ∧ w.people[i]? = some p ∧ (startNW w a b).1.people[i]? = some P ∧ (startNW w a b).1.people.length = w.people.length ∧ (startNW w a b).1.net.grams.length = w.net.grams.length + 1 ∧ P.runs.length = p.runs.length + 1 ∧
    P.runs[p.runs.length]? = some ⟨1, 1, b, n, 0, 0, 0, 0, 1⟩ ∧ 2147483648 ≤ n ∧ ∃ l, (startNW w a b).1.net.grams[w.net.grams.length]? = some ⟨0, l⟩ ∧ getM l = ((⟨1, 0, a, b, n, 0, 0⟩ : Mssg), 0) := by
  obtain ⟨i, p, e1, e2, e3, e4, e5, e6, e7⟩ := startNW_ok hf h
  have hi := (List.getElem?_eq_some_iff.1 e2).1
  refine ⟨i, p, putRun p ⟨1, 1, b, drawnW w, 0, 0, 0, 0, 1⟩, drawnW w, e1, e2, ?_, ?_, ?_, ?_, ?_, dAt_ge hd _, putL ⟨1, 0, a, b, drawnW w, 0, 0⟩, ?_, ?_⟩
  · rw [e7]; show (w.people.set i _)[i]? = _; rw [List.getElem?_set]; simp [hi]
  · rw [e7]; show (w.people.set i _).length = _; simp
  · rw [e7]; show (w.net.grams ++ _).length = _; simp
  · simp [putRun]
  · simp [putRun]
  · rw [e7]; show (w.net.grams ++ _)[w.net.grams.length]? = _; simp
  · have hm : mayM (⟨1, 0, a, b, drawnW w, 0, 0⟩ : Mssg) = true := by simp [mayM, fitsM, hasT, kindTags, isKindB, M7.word]
    unfold putL; rw [if_pos hm]; exact get_put hm
theorem grant_seen {w : Wld} {me : Int} {m : Mssg} (hf : formW w = true) (h1 : 1 ≤ me) (h2 : me < (w.people.length : Int)) (h : (grantNW w me m).2 = 0) : ∃ (i j : Nat) (p P : Person) (r s : Run) (g : Prt), me = i ∧ w.people[i]? = some p ∧ (grantNW w me m).1.people[i]? = some P ∧ p.runs[j]? = some r ∧ P.runs[j]? = some s ∧
    (∀ (k : Nat) (x : Run), k < j → p.runs[k]? = some x → P.runs[k]? = some x) ∧ P.runs.length = p.runs.length ∧ openW w p.key 2 m.box = (g, true) ∧ r.state = 1 ∧ s.state = 2 ∧ r.mine = g.n ∧ r.peer = g.b ∧ s.k = g.k ∧ s.t = g.t ∧ freshI p.clock g.t w.conf.window = true := by
  obtain ⟨i, j, p, r, g, e1, e2, e3, e4, e5, e6, e7, e8, e9⟩ := grantNW_ok hf h1 h2 h
  have hi := (List.getElem?_eq_some_iff.1 e2).1
  have hj := (List.getElem?_eq_some_iff.1 e4).1
  simp only [waitsN, Bool.and_eq_true, beq_iff_eq] at e5
  refine ⟨i, j, p, { p with runs := p.runs.set j { r with k := g.k, t := g.t, state := 2 } }, r, { r with k := g.k, t := g.t, state := 2 }, g, e1, e2, ?_, e4, ?_, ?_, ?_, e6, e5.2.2.1, rfl, e5.2.2.2.1, e5.2.2.2.2, rfl, rfl, e7⟩
  · rw [e9]; show (w.people.set i _)[i]? = _; rw [List.getElem?_set]; simp [hi]
  · show (p.runs.set j _)[j]? = _; rw [List.getElem?_set]; simp [hj]
  · intro k x hk hx; show (p.runs.set j _)[k]? = _; rw [List.getElem?_set, if_neg (by omega)]; exact hx
  · show (p.runs.set j _).length = _; simp
set_option maxHeartbeats 64000000 in
theorem l15_waits (w : Wld) (a b me : Int) (m : Mssg) : ACalls Tryz.prog 6 [.agg (eWld w), .one (u32 a), .one (u32 b), .one (u32 me), .agg (eMssg m)] (rB true) := by
  refine ACalls.introF (fn := Tryz.f6) Tryz.func6 rfl rfl (by simp [Tryz.f6]) fun hf => ?_
  have hdl : ∀ x ∈ w.draws.list, 0 ≤ x := fun x hx => ((fineWords ((hf (.agg (eWld w)) (by simp) : FineCA (.agg (eWld w))) (eWords w.draws.list) (by simp [eWld]))).2 x hx).1
  clear hf
  have aw := l15_awake
  have ft := l15_fits w me m 2
  unfold Tryz.f6
  cases hF : fitsP w me m 2
  · rw [hF] at ft
    simp only [eWld, eMssg, eSealeds, eGrams, ePeople, eEvents, eRows, eWords, eLeaks, rB] at *
    refine wk0 trivial (And.intro aw ft) trivial
  rw [hF] at ft
  obtain ⟨h1, h2, h3, h4, h5, h6⟩ := fitsP_iff hF
  have sm : SmallN 10 w := smallN_of (by decide) h1 h2
  have c1 := p15_start w a b h2 sm
  have c2 := p15_grant w me m h2 sm h3 h4 h5 h6
  have s1 := q12_same w w
  rw [decide_eq_true rfl] at s1
  have bg := sm.grams
  have hA := fun h => start_seen (a := a) (b := b) h2 hdl h
  have hA' := fun h => startNW_err (w := w) (a := a) (b := b) h
  have hB := fun h => grant_seen (m := m) h2 h3 h4 h
  have hB' := fun h => grantNW_err (w := w) (me := me) (m := m) h
  have bp : ∀ p ∈ w.people, p.runs.length ≤ 100 := by
    unfold fewW fewT at h1
    simp only [Bool.and_eq_true] at h1
    exact fun p hp => ((fewPl_iff h1.2.2.2.1).2 p hp).2
  have oo : ∀ k : Int, ACalls Tryz.prog 20 [.agg (eWld w), .one (u32 k), .one (u32 2), .one (u32 m.box)] (.tup [.agg (ePrt (openW w k 2 m.box).1), .one (bl (openW w k 2 m.box).2)]) := fun k => q12_open w k 2 m.box sm.plain
  clear hF h1 h2 h3 h4 h5 h6 sm hdl
  generalize startNW w a b = X at *
  generalize grantNW w me m = Y at *
  obtain ⟨X, xe⟩ := X
  obtain ⟨Y, ye⟩ := Y
  simp only at hA hA' hB hB' c1 c2
  have hq := fun l : List Int => q03_get l
  have hfr := fun a b c : Int => q05_fresh a b c
  have heq := eqok_run
  simp only [eWld, eMssg, eSealeds, eGrams, ePeople, eEvents, eRows, eWords, eLeaks, rB] at c1 c2 s1 oo hq hfr aw ft ⊢
  refine wk1 trivial (And.intro aw (And.intro ft c1)) (@AW.halt 4) _ ?_
  all_goals (repeat intro h)
  all_goals refine ⟨?_⟩
  refine AWs.mk ?_
  refine AW.cutT ⟨260, (upd (upd (upd (fun _ => .junk) 3 (.one (.c (u32 me)))) 5 (.one (.ptr 5 0))) 9 (.one (.ptr 9 0))), (upd (upd (fun _ => none) 5 (some (.box (cWld w)))) 9 (some (.box (cMssg m))))⟩ ?_ fun K9 hK9 => ?_
  · clear hA hA' c1
    by_cases hy : ye = 0
    rotate_left
    · have hy' : (ye != 0) = true := by simp [hy]
      have := hB' hy
      subst this
      refine wk0 hy' (And.intro c2 s1) trivial
    obtain ⟨i, j, p, P, r, s, g, rfl, g2, g3, g4, g5, g6, g7, g8, g9, g10, g11, g12, g13, g14, g15⟩ := hB hy
    subst hy
    have o1 := oo p.key
    have fr := hfr p.clock g.t w.conf.window
    rw [g8] at o1
    rw [g15] at fr
    have hi := (List.getElem?_eq_some_iff.1 g2).1
    have hi2 := (List.getElem?_eq_some_iff.1 g3).1
    have hj := (List.getElem?_eq_some_iff.1 g4).1
    have hp := bp p (List.mem_of_getElem? g2)
    clear hB hB' oo hfr g8 g15 bp hq
    simp only [ePrt] at o1
    refine wk1 (And.intro g2 (And.intro hi (And.intro ePerson.eq_1 (And.intro eWords.eq_1 eRuns.eq_1)))) (And.intro c2 o1) trivial _ ?_
    all_goals (repeat intro h)
    all_goals refine ⟨?_⟩
    refine AW.loopW (fun n σ => ∃ k : Nat, n = j - k ∧ k ≤ j ∧ σ = ⟨260, (upd (upd (upd (upd (upd (upd (upd (fun _ => .junk) 3 (.one (.c (u32 (i : Int))))) 5 (.one (.ptr 5 0))) 9 (.one (.ptr 9 0))) 16 (.one (.ptr 16 0))) 18 (.one (.ptr 18 0))) 19 (.one (.c (bl true)))) 20 (.one (.c (i64 k)))), (upd (upd (upd (upd (fun _ => none) 5 (some (.box (cWld w)))) 9 (some (.box (cMssg m)))) 16 (some (.box (cWld Y)))) 18 (some (.box (cPrt g))))⟩) (n := j) _ ⟨0, rfl, Nat.zero_le _, rfl⟩ (by exact lz trivial) ?_
    rintro n σ ⟨k, rfl, hk, rfl⟩
    have hs := wrapI (x := (k : Int) + 1) (by omega) (by omega)
    by_cases hkj : k < j
    · obtain ⟨y, hy⟩ : ∃ y, p.runs[k]? = some y := ⟨_, List.getElem?_eq_getElem (show k < p.runs.length by omega)⟩
      have hy2 := g6 k y hkj hy
      have hk1 : k < p.runs.length := by omega
      have hk2 : k < P.runs.length := by omega
      refine wkx1 (And.intro g2 (And.intro g3 (And.intro hi (And.intro hi2 (And.intro hy (And.intro hy2 (And.intro hk1 (And.intro hk2 (And.intro hs (And.intro heq (And.intro eRun.eq_1 (And.intro ePerson.eq_1 (And.intro eWords.eq_1 eRuns.eq_1))))))))))))) trivial trivial _ ?_
      all_goals (repeat intro h)
      all_goals refine ⟨?_⟩
      all_goals refine ⟨j - (k + 1), by omega, _, ⟨k + 1, rfl, by omega, rfl⟩, ?_⟩
      all_goals exact lz trivial
    · obtain rfl : k = j := by omega
      have hk2 : k < P.runs.length := by omega
      have hne : (r.state == s.state) = false := by rw [g9, g10]; rfl
      have t1 : (r.state == 1) = true := by simp [g9]
      have t2 : (s.state == 2) = true := by simp [g10]
      have t3 : (r.mine == g.n) = true := by simp [g11]
      have t4 : (r.peer == g.b) = true := by simp [g12]
      have t5 : (s.k == g.k) = true := by simp [g13]
      have t6 : (s.t == g.t) = true := by simp [g14]
      clear g9 g10 g11 g12 g13 g14 g6 g7
      refine wk0 (And.intro g2 (And.intro g3 (And.intro hi (And.intro hi2 (And.intro g4 (And.intro g5 (And.intro hj (And.intro hk2 (And.intro hs (And.intro heq (And.intro hne (And.intro t1 (And.intro t2 (And.intro t3 (And.intro t4 (And.intro t5 (And.intro t6 (And.intro eRun.eq_1 (And.intro ePerson.eq_1 (And.intro eWords.eq_1 (And.intro eRuns.eq_1 (And.intro @Bool.and_false @Bool.false_and)))))))))))))))))))))) fr trivial
  · clear hB hB' c2 oo hfr
    by_cases hx : xe = 0
    rotate_left
    · have hx' : (xe == 0) = false := by simp [hx]
      have := hA' hx
      subst this
      refine wk1 hx' s1 trivial _ ?_
      all_goals (repeat intro h)
      all_goals refine ⟨?_⟩
      all_goals (refine hK9 _ ?_; exact lz trivial)
    obtain ⟨i, p, P, n, rfl, g2, g3, g4, g5, g6, g7, g8, l, g9, g10⟩ := hA hx
    subst hx
    have q1 := hq l
    rw [g10] at q1
    have hi := (List.getElem?_eq_some_iff.1 g2).1
    have hi2 := (List.getElem?_eq_some_iff.1 g3).1
    have hj := (List.getElem?_eq_some_iff.1 g7).1
    have hg := (List.getElem?_eq_some_iff.1 g9).1
    have hp := bp p (List.mem_of_getElem? g2)
    have d1 : (X.people.length : Int) = (w.people.length : Int) := by omega
    have d2 : (X.net.grams.length : Int) = (w.net.grams.length : Int) + 1 := by omega
    have d3 : (P.runs.length : Int) = (p.runs.length : Int) + 1 := by omega
    have w1 := wrapI (x := (w.net.grams.length : Int) + 1) (by omega) (by omega)
    have w2 := wrapI (x := (p.runs.length : Int) + 1) (by omega) (by omega)
    have hn : ¬ n < 2147483648 := by omega
    clear hA hA' hq g4 g5 g6 g10 bp s1 heq
    simp only [eMssg] at q1
    refine wkx1 (And.intro g2 (And.intro g3 (And.intro hi (And.intro hi2 (And.intro hj (And.intro hg (And.intro d1 (And.intro d2 (And.intro d3 (And.intro w1 (And.intro w2 (And.intro hn (And.intro g7 (And.intro g9 (And.intro eGram.eq_1 (And.intro eRun.eq_1 (And.intro ePerson.eq_1 (And.intro eWords.eq_1 eRuns.eq_1)))))))))))))))))) q1 trivial _ ?_
    all_goals (repeat intro h)
    all_goals refine ⟨?_⟩
    all_goals (refine hK9 _ ?_; exact lz trivial)
end Go.Proofs.YtpbgmfgmnnclaaaGreatDoor.Abs
end
section
/- What is handed in, opened: whatever its type. -/
set_option linter.unusedSimpArgs false
set_option linter.unusedVariables false
set_option maxRecDepth 100000
namespace Go.Proofs.YtpbgmfgmnnclaaaGreatDoor.Abs
open Go.RowKit
/-- A struct that is handed in, by value. -/
theorem open_agg {α : Type} {C : Cod α} {H : Type} {enc : TypeId × Value → H} {P : Program} {W : World} {r : Reach} {b0 : Nat} {t : TypeId} {fs : Array Field} {v : Value} {d : DataW H} {p : List MemPlace} (ho : Cod.Opens P t C) (hs : P.underlying t = some (.struct fs))
    (hv : Value.okWide P W r b0 t v) (h : DataW.Trod enc P W 0 (fun _ => true) true t v d p) : ∃ (vs : List Value) (y : α), v = .agg vs.toArray ∧ C.rep W W.heap.size vs y := by
  obtain ⟨cs, rfl, _⟩ := Go.WideShapes.okWide_struct hs hv
  obtain ⟨fuel, hf⟩ := h
  obtain ⟨y, hy⟩ := ho.2 H enc W fuel cs.toList _ hf
  exact ⟨cs.toList, y, rfl, hy⟩
theorem RC.int {S : Sh} {w : World} {k : IntKind} {n : Int} (h : (Lit.int k n).wf = true) : RC S w (.one (.v (.int k n))) (.int k n) := R.v (inK_wf.trans h)
theorem RC.flag {S : Sh} {w : World} (b : Bool) : RC S w (.one (.v (.bool b))) (.bool b) := R.v rfl
theorem openWords : Cod.Opens Tryz.prog 25 Cod.words := Cod.Opens.row (e := 22) Tryz.underlying25 (by kernel_rfl) (Cod.Opens.num Tryz.underlying22 (by kernel_rfl)) (by decide)
end Go.Proofs.YtpbgmfgmnnclaaaGreatDoor.Abs
end
section
/- What is handed in, opened: nets and frames. -/
set_option linter.unusedSimpArgs false
set_option linter.unusedVariables false
set_option maxRecDepth 100000
namespace Go.Proofs.YtpbgmfgmnnclaaaGreatDoor.Abs
open Go.RowKit
theorem openRows : Cod.Opens Tryz.prog 32 Cod.words.row := Cod.Opens.row (e := 25) Tryz.underlying32 (by kernel_rfl) openWords (by decide)
theorem openGram : Cod.Opens Tryz.prog 63 gramC :=
  (Cod.Opens.struct Tryz.underlying63 (by kernel_rfl) (Cod.OpensAt.cons rfl (Cod.Opens.num Tryz.underlying22 (by kernel_rfl)) (Cod.OpensAt.one rfl openWords))).via _ fun a => ⟨⟨a.1, a.2⟩, rfl⟩
theorem openNet : Cod.Opens Tryz.prog 34 netC :=
  (Cod.Opens.struct Tryz.underlying34 (by kernel_rfl) (Cod.OpensAt.cons rfl (Cod.Opens.num Tryz.underlying3 (by kernel_rfl))
    (Cod.OpensAt.cons rfl (Cod.Opens.row (e := 63) Tryz.underlying31 (by kernel_rfl) openGram (by decide)) (Cod.OpensAt.one rfl openRows)))).via _ fun a => ⟨⟨a.1, a.2.1, a.2.2⟩, rfl⟩
end Go.Proofs.YtpbgmfgmnnclaaaGreatDoor.Abs
end
section
/- What is handed in, opened: boxes and their entries. -/
set_option linter.unusedSimpArgs false
set_option linter.unusedVariables false
set_option maxRecDepth 100000
namespace Go.Proofs.YtpbgmfgmnnclaaaGreatDoor.Abs
open Go.RowKit
theorem openSealed : Cod.Opens Tryz.prog 119 sealedC :=
  (Cod.Opens.struct Tryz.underlying119 (by kernel_rfl) (Cod.OpensAt.cons rfl (Cod.Opens.num Tryz.underlying22 (by kernel_rfl))
    (Cod.OpensAt.cons rfl (Cod.Opens.num Tryz.underlying22 (by kernel_rfl)) (Cod.OpensAt.cons rfl (Cod.Opens.num Tryz.underlying22 (by kernel_rfl)) (Cod.OpensAt.one rfl openWords))))).via _ fun a => ⟨⟨a.1, a.2.1, a.2.2.1, a.2.2.2⟩, rfl⟩
theorem openBox : Cod.Opens Tryz.prog 30 boxC :=
  (Cod.Opens.struct Tryz.underlying30 (by kernel_rfl) (Cod.OpensAt.cons rfl (Cod.Opens.num Tryz.underlying3 (by kernel_rfl))
    (Cod.OpensAt.one rfl (Cod.Opens.row (e := 119) Tryz.underlying28 (by kernel_rfl) openSealed (by decide))))).via _ fun a => ⟨⟨a.1, a.2⟩, rfl⟩
end Go.Proofs.YtpbgmfgmnnclaaaGreatDoor.Abs
end
section
/- What is handed in, opened: runs, people, events, parts, messages, operations, worlds. -/
set_option linter.unusedSimpArgs false
set_option linter.unusedVariables false
set_option maxRecDepth 100000
namespace Go.Proofs.YtpbgmfgmnnclaaaGreatDoor.Abs
open Go.RowKit
theorem openRun : Cod.Opens Tryz.prog 59 runC :=
  (Cod.Opens.struct Tryz.underlying59 (by kernel_rfl) (Cod.OpensAt.cons rfl (Cod.Opens.num Tryz.underlying3 (by kernel_rfl)) (Cod.OpensAt.cons rfl (Cod.Opens.num Tryz.underlying3 (by kernel_rfl)) (Cod.OpensAt.cons rfl (Cod.Opens.num Tryz.underlying22 (by kernel_rfl)) (Cod.OpensAt.cons rfl (Cod.Opens.num Tryz.underlying22 (by kernel_rfl)) (Cod.OpensAt.cons rfl (Cod.Opens.num Tryz.underlying22 (by kernel_rfl)) (Cod.OpensAt.cons rfl (Cod.Opens.num Tryz.underlying22 (by kernel_rfl)) (Cod.OpensAt.cons rfl (Cod.Opens.num Tryz.underlying22 (by kernel_rfl)) (Cod.OpensAt.cons rfl (Cod.Opens.num Tryz.underlying22 (by kernel_rfl)) (Cod.OpensAt.one rfl (Cod.Opens.num Tryz.underlying3 (by kernel_rfl)))))))))))).via _ fun a => ⟨⟨a.1, a.2.1, a.2.2.1, a.2.2.2.1, a.2.2.2.2.1, a.2.2.2.2.2.1, a.2.2.2.2.2.2.1, a.2.2.2.2.2.2.2.1, a.2.2.2.2.2.2.2.2⟩, rfl⟩
theorem openEvent : Cod.Opens Tryz.prog 75 eventC :=
  (Cod.Opens.struct Tryz.underlying75 (by kernel_rfl) (Cod.OpensAt.cons rfl (Cod.Opens.num Tryz.underlying3 (by kernel_rfl)) (Cod.OpensAt.cons rfl (Cod.Opens.num Tryz.underlying3 (by kernel_rfl)) (Cod.OpensAt.cons rfl (Cod.Opens.num Tryz.underlying3 (by kernel_rfl)) (Cod.OpensAt.cons rfl (Cod.Opens.num Tryz.underlying22 (by kernel_rfl)) (Cod.OpensAt.cons rfl (Cod.Opens.num Tryz.underlying22 (by kernel_rfl)) (Cod.OpensAt.cons rfl (Cod.Opens.num Tryz.underlying22 (by kernel_rfl)) (Cod.OpensAt.cons rfl (Cod.Opens.num Tryz.underlying22 (by kernel_rfl)) (Cod.OpensAt.cons rfl (Cod.Opens.num Tryz.underlying22 (by kernel_rfl)) (Cod.OpensAt.cons rfl (Cod.Opens.num Tryz.underlying22 (by kernel_rfl)) (Cod.OpensAt.one rfl (Cod.Opens.num Tryz.underlying22 (by kernel_rfl))))))))))))).via _ fun a => ⟨⟨a.1, a.2.1, a.2.2.1, a.2.2.2.1, a.2.2.2.2.1, a.2.2.2.2.2.1, a.2.2.2.2.2.2.1, a.2.2.2.2.2.2.2.1, a.2.2.2.2.2.2.2.2.1, a.2.2.2.2.2.2.2.2.2⟩, rfl⟩
theorem openLeak : Cod.Opens Tryz.prog 100 leakC :=
  (Cod.Opens.struct Tryz.underlying100 (by kernel_rfl) (Cod.OpensAt.cons rfl (Cod.Opens.num Tryz.underlying22 (by kernel_rfl)) (Cod.OpensAt.one rfl (Cod.Opens.num Tryz.underlying22 (by kernel_rfl))))).via _ fun a => ⟨⟨a.1, a.2⟩, rfl⟩
theorem openConf : Cod.Opens Tryz.prog 24 confC :=
  (Cod.Opens.struct Tryz.underlying24 (by kernel_rfl) (Cod.OpensAt.cons rfl (Cod.Opens.num Tryz.underlying22 (by kernel_rfl)) (Cod.OpensAt.cons rfl (Cod.Opens.num Tryz.underlying3 (by kernel_rfl)) (Cod.OpensAt.cons rfl (Cod.Opens.num Tryz.underlying3 (by kernel_rfl)) (Cod.OpensAt.cons rfl (Cod.Opens.num Tryz.underlying3 (by kernel_rfl)) (Cod.OpensAt.cons rfl (Cod.Opens.num Tryz.underlying3 (by kernel_rfl)) (Cod.OpensAt.cons rfl (Cod.Opens.num Tryz.underlying3 (by kernel_rfl)) (Cod.OpensAt.one rfl (Cod.Opens.num Tryz.underlying3 (by kernel_rfl)))))))))).via _ fun a => ⟨⟨a.1, a.2.1, a.2.2.1, a.2.2.2.1, a.2.2.2.2.1, a.2.2.2.2.2.1, a.2.2.2.2.2.2⟩, rfl⟩
theorem openMsg : Cod.Opens Tryz.prog 50 mssgC :=
  (Cod.Opens.struct Tryz.underlying50 (by kernel_rfl) (Cod.OpensAt.cons rfl (Cod.Opens.num Tryz.underlying22 (by kernel_rfl)) (Cod.OpensAt.cons rfl (Cod.Opens.num Tryz.underlying22 (by kernel_rfl)) (Cod.OpensAt.cons rfl (Cod.Opens.num Tryz.underlying22 (by kernel_rfl)) (Cod.OpensAt.cons rfl (Cod.Opens.num Tryz.underlying22 (by kernel_rfl)) (Cod.OpensAt.cons rfl (Cod.Opens.num Tryz.underlying22 (by kernel_rfl)) (Cod.OpensAt.cons rfl (Cod.Opens.num Tryz.underlying22 (by kernel_rfl)) (Cod.OpensAt.one rfl (Cod.Opens.num Tryz.underlying22 (by kernel_rfl)))))))))).via _ fun a => ⟨⟨a.1, a.2.1, a.2.2.1, a.2.2.2.1, a.2.2.2.2.1, a.2.2.2.2.2.1, a.2.2.2.2.2.2⟩, rfl⟩
theorem openDraws : Cod.Opens Tryz.prog 27 drawsC :=
  (Cod.Opens.struct Tryz.underlying27 (by kernel_rfl) (Cod.OpensAt.cons rfl openWords (Cod.OpensAt.one rfl (Cod.Opens.num Tryz.underlying3 (by kernel_rfl))))).via _ fun a => ⟨⟨a.1, a.2⟩, rfl⟩
theorem openPerson : Cod.Opens Tryz.prog 57 personC :=
  (Cod.Opens.struct Tryz.underlying57 (by kernel_rfl) (Cod.OpensAt.cons rfl (Cod.Opens.num Tryz.underlying22 (by kernel_rfl)) (Cod.OpensAt.cons rfl (Cod.Opens.num Tryz.underlying22 (by kernel_rfl)) (Cod.OpensAt.cons rfl (Cod.Opens.num Tryz.underlying22 (by kernel_rfl)) (Cod.OpensAt.cons rfl openWords (Cod.OpensAt.cons rfl (Cod.Opens.row (e := 59) Tryz.underlying55 (by kernel_rfl) openRun (by decide)) (Cod.OpensAt.one rfl (Cod.Opens.flag Tryz.underlying4 (by kernel_rfl))))))))).via _ fun a => ⟨⟨a.1, a.2.1, a.2.2.1, a.2.2.2.1, a.2.2.2.2.1, a.2.2.2.2.2⟩, rfl⟩
theorem openWorld : Cod.Opens Tryz.prog 39 wldC :=
  (Cod.Opens.struct Tryz.underlying39 (by kernel_rfl) (Cod.OpensAt.cons rfl openConf (Cod.OpensAt.cons rfl openDraws (Cod.OpensAt.cons rfl openBox (Cod.OpensAt.cons rfl openNet (Cod.OpensAt.cons rfl (Cod.Opens.row (e := 57) Tryz.underlying35 (by kernel_rfl) openPerson (by decide)) (Cod.OpensAt.cons rfl (Cod.Opens.row (e := 75) Tryz.underlying36 (by kernel_rfl) openEvent (by decide)) (Cod.OpensAt.cons rfl openRows (Cod.OpensAt.one rfl (Cod.Opens.row (e := 100) Tryz.underlying37 (by kernel_rfl) openLeak (by decide))))))))))).via _ fun a => ⟨⟨a.1, a.2.1, a.2.2.1, a.2.2.2.1, a.2.2.2.2.1, a.2.2.2.2.2.1, a.2.2.2.2.2.2.1, a.2.2.2.2.2.2.2⟩, rfl⟩
end Go.Proofs.YtpbgmfgmnnclaaaGreatDoor.Abs
end
section
/- What a row's condition on the table of masks gives a law of values without addresses; a world that meets it. -/
set_option linter.unusedSimpArgs false
set_option linter.unusedVariables false
set_option maxRecDepth 100000
namespace Go.Proofs.YtpbgmfgmnnclaaaGreatDoor.Abs
open Go.ChangeShapes Go.WideShapes Go.RowKit
theorem own : ownKnob Tryz.prog.godebug = none := by kernel_rfl
theorem laidOut : laidOutB Tryz.prog = true := by kernel_rfl
theorem masksG : Tryz.prog.globalNamed "chamberlain/msg.masks" = some 0 := by kernel_rfl
theorem masksT : (Tryz.prog.globals[0]?).map (·.type) = some 214 := by kernel_rfl
theorem cellsT : Tryz.prog.cellsOf 214 = 10 := by kernel_rfl
theorem cellsU : Tryz.prog.cellsOf 22 = 1 := by kernel_rfl
theorem word_of_trod {H : Type} {enc : TypeId × Value → H} {w : World} {base : Nat} {sp : Nat → Bool} {held : Bool} {fuel : Nat} {c : Value} {y : DataW H × List MemPlace}
    (h : DataW.trod enc Tryz.prog w base sp held fuel 22 [c] = some y) : ∃ n, c = .int .u32 n ∧ y = (.lit (.int .u32 n), []) ∧ (Lit.int .u32 n).wf = true := by
  obtain ⟨n, h1, h2, h3⟩ := DataW.trod_int Tryz.underlying22 h
  simp at h1
  exact ⟨n, h1, h2, h3⟩
def masksC : Array Value := #[.int .u32 0, .int .u32 56, .int .u32 64, .int .u32 64, .int .u32 64, .int .u32 64, .int .u32 92, .int .u32 220, .int .u32 196, .int .u32 68]
theorem gl_of_laid {W : World} (h : laidMet Tryz.prog [("chamberlain/msg.masks", Rows.laid_chamberlain_msg_masks)] W) : Gl (fun k b => k = 0 ∧ b < W.heap.size) W := by
  obtain ⟨ps, ⟨g, t, cs, fuel, p, q, hg, ht, hvar, hd, _, _⟩, _⟩ := h
  obtain rfl := Option.some.inj (masksG.symm.trans hg)
  obtain rfl := Option.some.inj (masksT.symm.trans ht)
  have key : cs = masksC := by
    obtain ⟨l⟩ := cs
    cases fuel with
    | zero => simp [DataW.trod] at hd
    | succ fuel =>
      simp only [DataW.trod, Tryz.underlying214, cellsT, cellsU] at hd
      split at hd
      · rename_i hl
        obtain ⟨c0, c1, c2, c3, c4, c5, c6, c7, c8, c9, rfl⟩ : ∃ c0 c1 c2 c3 c4 c5 c6 c7 c8 c9, l = [c0, c1, c2, c3, c4, c5, c6, c7, c8, c9] := by
          match l, hl with
          | [c0, c1, c2, c3, c4, c5, c6, c7, c8, c9], _ => exact ⟨c0, c1, c2, c3, c4, c5, c6, c7, c8, c9, rfl⟩
        have e : List.range 10 = [0, 1, 2, 3, 4, 5, 6, 7, 8, 9] := rfl
        rw [e] at hd
        simp only [Option.map_eq_some_iff, List.mapM_cons, List.mapM_nil, Option.bind_eq_bind, Option.bind_eq_some_iff, Option.pure_def, Option.some.injEq] at hd
        obtain ⟨xs, ⟨y0, h0, _, ⟨y1, h1, _, ⟨y2, h2, _, ⟨y3, h3, _, ⟨y4, h4, _, ⟨y5, h5, _, ⟨y6, h6, _, ⟨y7, h7, _, ⟨y8, h8, _, ⟨y9, h9, _, rfl, rfl⟩, rfl⟩, rfl⟩, rfl⟩, rfl⟩, rfl⟩, rfl⟩, rfl⟩, rfl⟩, rfl⟩, hx⟩ := hd
        obtain ⟨n0, rfl, rfl, _⟩ := word_of_trod h0
        obtain ⟨n1, rfl, rfl, _⟩ := word_of_trod h1
        obtain ⟨n2, rfl, rfl, _⟩ := word_of_trod h2
        obtain ⟨n3, rfl, rfl, _⟩ := word_of_trod h3
        obtain ⟨n4, rfl, rfl, _⟩ := word_of_trod h4
        obtain ⟨n5, rfl, rfl, _⟩ := word_of_trod h5
        obtain ⟨n6, rfl, rfl, _⟩ := word_of_trod h6
        obtain ⟨n7, rfl, rfl, _⟩ := word_of_trod h7
        obtain ⟨n8, rfl, rfl, _⟩ := word_of_trod h8
        obtain ⟨n9, rfl, rfl, _⟩ := word_of_trod h9
        simp [Rows.laid_chamberlain_msg_masks] at hx
        obtain ⟨⟨rfl, rfl, rfl, rfl, rfl, rfl, rfl, rfl, rfl, rfl⟩, _⟩ := hx
        rfl
      · cases hd
  subst key
  have cell : ∀ (i : Nat) (u : Value), masksC[i]? = some u → W.cell? ⟨0, i, none⟩ = some u := fun i u hu => (World.var?_cell hg hvar i).trans hu
  have hlt : 0 < W.heap.size := lt_of_cell (cell 0 _ rfl)
  intro g vs hgv
  unfold tabsV at hgv
  split at hgv
  · cases hgv
    exact ⟨⟨rfl, hlt⟩, fun j u hj => by rw [Nat.zero_add]; exact cell j u (by unfold masksC; rw [List.getElem?_toArray]; exact hj)⟩
  · cases hgv
/-- A world that meets the condition. -/
noncomputable def laidWorld (os : Os) : World :=
  { World.holding Tryz.prog os ⟨#[], #[], []⟩ with heap := (World.holding Tryz.prog os ⟨#[], #[], []⟩).heap.modify 0 fun
      | .cells _ t frozen => .cells masksC t frozen
      | o => o }
theorem laidWorld_row (os : Os) (args : Array Value) : ((laidWorld os).forCall (fun _ _ => 0) ⟨#[], args, []⟩).memory.heap[0]? = some (.cells masksC 214 (0, 0)) := by kernel_rfl
theorem laidWorld_met (os : Os) (args : Array Value) : laidMet Tryz.prog [("chamberlain/msg.masks", Rows.laid_chamberlain_msg_masks)] ((laidWorld os).forCall (fun _ _ => 0) ⟨#[], args, []⟩).memory := by
  refine ⟨_, ⟨0, 214, masksC, 8, [], [], by kernel_rfl, by kernel_rfl, by kernel_rfl, by kernel_rfl, rfl, rfl⟩, by decide, fun b off h => ?_⟩
  have h' : MemPlace.cell b off ∈ [MemPlace.cell 0 0, .cell 0 1, .cell 0 2, .cell 0 3, .cell 0 4, .cell 0 5, .cell 0 6, .cell 0 7, .cell 0 8, .cell 0 9] := h
  have hb : b = 0 := by simp at h'; omega
  subst hb
  refine ⟨⟨_, _, laidWorld_row os args⟩, fun u v hc => ?_⟩
  simp only [World.cell?, laidWorld_row os args] at hc
  simp at h'
  rcases h' with rfl | rfl | rfl | rfl | rfl | rfl | rfl | rfl | rfl | rfl <;> simp [masksC] at hc
end Go.Proofs.YtpbgmfgmnnclaaaGreatDoor.Abs
end

