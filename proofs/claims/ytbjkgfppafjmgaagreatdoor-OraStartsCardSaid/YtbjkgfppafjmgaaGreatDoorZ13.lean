/- Texts that were merged: L17s, Open, OpenNet, OpenBox, OpenWld, LaidN. -/
import Derived.Test.YtbjkgfppafjmgaaGreatDoorZ11
import Derived.Test.YtbjkgfppafjmgaaGreatDoorZ12
import Derived.Test.YtbjkgfppafjmgaaGreatDoorZ5
import Derived.Test.YtbjkgfppafjmgaaGreatDoorZ4
import Derived.Test.YtbjkgfppafjmgaaGreatDoorRows
import Derived.Test.YtbjkgfppafjmgaaGreatDoorZ3
import Derived.OpenShut
import Derived.ShutString
import Derived.ChangeOld
import Derived.ChangeVars
import Derived.JoinedOf
import Derived.RowKit
set_option linter.unusedSimpArgs false
set_option linter.unusedVariables false
set_option maxHeartbeats 64000000
set_option maxRecDepth 100000
namespace Go.Proofs.YtbjkgfppafjmgaaGreatDoor.Abs
open Go.RowKit
section
theorem l17_starts (w : Wld) (a b key : Int) : ACalls Tryz.prog 4 [.agg (eWld w), .one (u32 a), .one (u32 b), .one (u32 key)] (rB true) := by
 refine ACalls.introF (fn := Tryz.f4) Tryz.func4 rfl rfl (by simp [Tryz.f4]) fun hf => ?_
 have hdl : ∀ x ∈ w.draws.list, 0 ≤ x := fun x hx => ((fineWords ((hf (.agg (eWld w)) (by simp) : FineCA (.agg (eWld w))) (eWords w.draws.list) (by simp [eWld]))).2 x hx).1
 clear hf
 have aw := l17_awake
 have r1 := q12_few w
 have r2 := q12_form w
 unfold Tryz.f4
 cases h1 : fewW w
 ·rw [h1] at r1
  simp only [eWld, eMssg, eSealeds, eGrams, ePeople, eEvents, eRows, eWords, eLeaks, rB] at *
  refine wk T0 (J3 aw r1 r2) T0 T0
 cases h2 : formW w
 ·rw [h1] at r1
  rw [h2] at r2
  simp only [eWld, eMssg, eSealeds, eGrams, ePeople, eEvents, eRows, eWords, eLeaks, rB] at *
  refine wk T0 (J3 aw r1 r2) T0 T0
 rw [h1] at r1
 rw [h2] at r2
 have sm : SmallN 10 w := smallN_of (by decide) h1 h2
 have c1 := p17_start w a b h2 sm
 have s1 := q12_same w w
 rw [decide_eq_true rfl] at s1
 by_cases hx : (startOW w a b).2 = 0
 rotate_left
 ·have hx' : ((startOW w a b).2 != 0) = true := by simp [hx]
  rw [startOW_err hx] at c1
  clear h1 h2 sm hdl
  generalize (startOW w a b).2 = e at *
  simp only [eWld, eMssg, eSealeds, eGrams, ePeople, eEvents, eRows, eWords, eLeaks, rB] at *
  refine wk hx' (J5 aw r1 r2 c1 s1) T0 T0
 obtain ⟨i, p, P, hh, PP, ev, sd, l, rfl, g2, a1, b1, a2, b2, g3, g4, g5, g6, g7, g8, g9, g10, g11, _⟩ := startO_seen h2 hdl hx
 have hi := (List.getElem?_eq_some_iff.1 g2).1
 obtain ⟨V, hV⟩ : ∃ V : Wld, V = (startOW w (i : Int) b).1 := ⟨_, rfl⟩
 rw [hx, ← hV] at c1
 rw [← hV] at g3 g9
 have pl : ∀ s ∈ V.box.entries, s.plain.length < 1000000 := by
  rw [g3]
  intro s hs
  rcases List.mem_append.1 (show s ∈ w.box.entries ++ [sd] from hs) with hs | hs
  ·exact sm.plain s hs
  ·rw [List.mem_singleton.1 hs]; exact g11
 have o1 := q12_open V p.key 6 hh pl
 rw [g9, if_pos rfl] at o1
 have o2 := q12_open V key 6 hh pl
 rw [g9] at o2
 have q1 := q03_get l
 rw [g8] at q1
 generalize drawnW (drawW w) = k2 at *
 generalize drawnW w = k at *
 have ha := q01_has 0 l k2
 have v1 : V.people[i]? = some P := by rw [g3, g4]; simp [hi]
 have v2 : V.people.length = w.people.length := by rw [g3, g4]; simp
 have v3 : P.runs[p.runs.length]? = some ⟨2, 1, b, k2, 0, k, 0, 0, 1⟩ := by rw [g5]; simp [putRun]
 have v4 : P.runs.length = p.runs.length + 1 := by rw [g5]; simp [putRun]
 have v5 : V.net.grams[w.net.grams.length]? = some ⟨b, l⟩ := by rw [g3]; simp
 have v6 : V.net.grams.length = w.net.grams.length + 1 := by rw [g3]; simp
 have v7 : V.log.length = w.log.length + 1 := by rw [g3]; simp
 have pr := (person_used h2 (i : Int)).2
 obtain ⟨_, _, _, _, _, hrl, _⟩ := formW_iff h2
 have hpw : personW w (i : Int) = p := by unfold personW; rw [getPl_at hrl g2]
 rw [hpw] at pr
 have bl1 := sm.log
 have bl2 := sm.grams
 have b7 := (right_names hrl).1
 have heq := eqok_prt
 clear h1 h2 sm hdl hx g3 g4 g5 g8 g9 g11 hV pl hrl hpw s1
 have hi2 : i < V.people.length := by omega
 have hj : p.runs.length < P.runs.length := by omega
 have hg : w.net.grams.length < V.net.grams.length := by omega
 have d1 : (V.people.length : Int) = (w.people.length : Int) := by omega
 have d2 : (P.runs.length : Int) = (p.runs.length : Int) + 1 := by omega
 have d3 : (V.net.grams.length : Int) = (w.net.grams.length : Int) + 1 := by omega
 have d4 : (V.log.length : Int) = (w.log.length : Int) + 1 := by omega
 have w1 := wrapI (x := (w.log.length : Int) + 1) (by omega) (by omega)
 have w2 := wrapI (x := (w.net.grams.length : Int) + 1) (by omega) (by omega)
 have w3 := wrapI (x := (p.runs.length : Int) + 1) (by omega) (by omega)
 have n1 : ¬ k < 2147483648 := by omega
 have n2 : ¬ k2 < 2147483648 := by omega
 clear v2 v4 v6 v7 g6 g7
 by_cases hk : p.key = key
 ·subst hk
  rw [if_pos rfl] at o2
  by_cases e1 : k2 = k
  ·subst e1
   simp only [ePrt, prt0, eWld, eMssg, eSealeds, eGrams, ePeople, eEvents, eRows, eWords, eLeaks, rB] at *
   refine wkx (J9 g2 v1 v3 v5 hi hi2 hj hg (J9 d1 d2 d3 d4 w1 w2 w3 n1 (J7 n2 heq eGram.eq_1 eRun.eq_1 ePerson.eq_1 eWords.eq_1 eRuns.eq_1))) (J8 aw r1 r2 c1 q1 o1 o2 ha) T0 T0
  have e1' : (k2 != k) = true := by simpa using e1
  by_cases e2 : k2 = hh
  ·subst e2
   simp only [ePrt, prt0, eWld, eMssg, eSealeds, eGrams, ePeople, eEvents, eRows, eWords, eLeaks, rB] at *
   refine wkx (J9 g2 v1 v3 v5 hi hi2 hj hg (J9 d1 d2 d3 d4 w1 w2 w3 n1 (J8 n2 e1' heq eGram.eq_1 eRun.eq_1 ePerson.eq_1 eWords.eq_1 eRuns.eq_1))) (J8 aw r1 r2 c1 q1 o1 o2 ha) T0 T0
  have e2' : (k2 != hh) = true := by simpa using e2
  rw [g10 e1 e2] at ha
  simp only [ePrt, prt0, eWld, eMssg, eSealeds, eGrams, ePeople, eEvents, eRows, eWords, eLeaks, rB] at *
  refine wkx (J9 g2 v1 v3 v5 hi hi2 hj hg (J9 d1 d2 d3 d4 w1 w2 w3 n1 (J9 n2 e1' e2' heq eGram.eq_1 eRun.eq_1 ePerson.eq_1 eWords.eq_1 eRuns.eq_1))) (J8 aw r1 r2 c1 q1 o1 o2 ha) T0 T0
 ·rw [if_neg hk] at o2
  by_cases e1 : k2 = k
  ·subst e1
   simp only [ePrt, prt0, eWld, eMssg, eSealeds, eGrams, ePeople, eEvents, eRows, eWords, eLeaks, rB] at *
   refine wkx (J9 g2 v1 v3 v5 hi hi2 hj hg (J9 d1 d2 d3 d4 w1 w2 w3 n1 (J7 n2 heq eGram.eq_1 eRun.eq_1 ePerson.eq_1 eWords.eq_1 eRuns.eq_1))) (J8 aw r1 r2 c1 q1 o1 o2 ha) T0 T0
  have e1' : (k2 != k) = true := by simpa using e1
  by_cases e2 : k2 = hh
  ·subst e2
   simp only [ePrt, prt0, eWld, eMssg, eSealeds, eGrams, ePeople, eEvents, eRows, eWords, eLeaks, rB] at *
   refine wkx (J9 g2 v1 v3 v5 hi hi2 hj hg (J9 d1 d2 d3 d4 w1 w2 w3 n1 (J8 n2 e1' heq eGram.eq_1 eRun.eq_1 ePerson.eq_1 eWords.eq_1 eRuns.eq_1))) (J8 aw r1 r2 c1 q1 o1 o2 ha) T0 T0
  have e2' : (k2 != hh) = true := by simpa using e2
  rw [g10 e1 e2] at ha
  simp only [ePrt, prt0, eWld, eMssg, eSealeds, eGrams, ePeople, eEvents, eRows, eWords, eLeaks, rB] at *
  refine wkx (J9 g2 v1 v3 v5 hi hi2 hj hg (J9 d1 d2 d3 d4 w1 w2 w3 n1 (J9 n2 e1' e2' heq eGram.eq_1 eRun.eq_1 ePerson.eq_1 eWords.eq_1 eRuns.eq_1))) (J8 aw r1 r2 c1 q1 o1 o2 ha) T0 T0
end
section
theorem open_agg {α : Type} {C : Cod α} {H : Type} {enc : TypeId × Value → H} {P : Program} {W : World} {r : Reach} {b0 : Nat} {t : TypeId} {fs : Array Field} {v : Value} {d : DataW H} {p : List MemPlace} (ho : Cod.Opens P t C) (hs : P.underlying t = some (.struct fs))
    (hv : Value.okWide P W r b0 t v) (h : DataW.Trod enc P W 0 (fun _ => true) true t v d p) : ∃ (vs : List Value) (y : α), v = .agg vs.toArray ∧ C.rep W W.heap.size vs y := by
  obtain ⟨cs, rfl, _⟩ := Go.WideShapes.okWide_struct hs hv
  obtain ⟨fuel, hf⟩ := h
  obtain ⟨y, hy⟩ := ho.2 H enc W fuel cs.toList _ hf
  exact ⟨cs.toList, y, rfl, hy⟩
theorem RC.int {S : Sh} {w : World} {k : IntKind} {n : Int} (h : (Lit.int k n).wf = true) : RC S w (.one (.v (.int k n))) (.int k n) := R.v (inK_wf.trans h)
theorem RC.flag {S : Sh} {w : World} (b : Bool) : RC S w (.one (.v (.bool b))) (.bool b) := R.v rfl
theorem RC.str {S : Sh} {w : World} (s : ByteArray) : RC S w (.one (.v (.string s))) (.string s) := R.v rfl
theorem openWords : Cod.Opens Tryz.prog 25 Cod.words := Cod.Opens.row (e := 22) Tryz.underlying25 (by kernel_rfl) (Cod.Opens.num Tryz.underlying22 (by kernel_rfl)) (by decide)
end
section
theorem openRows : Cod.Opens Tryz.prog 32 Cod.words.row := Cod.Opens.row (e := 25) Tryz.underlying32 (by kernel_rfl) openWords (by decide)
theorem openGram : Cod.Opens Tryz.prog 62 gramC :=
 (Cod.Opens.struct Tryz.underlying62 (by kernel_rfl) (Cod.OpensAt.cons rfl (Cod.Opens.num Tryz.underlying22 (by kernel_rfl)) (Cod.OpensAt.one rfl openWords))).via _ fun a => ⟨⟨a.1, a.2⟩, rfl⟩
theorem openNet : Cod.Opens Tryz.prog 34 netC :=
 (Cod.Opens.struct Tryz.underlying34 (by kernel_rfl) (Cod.OpensAt.cons rfl (Cod.Opens.num Tryz.underlying3 (by kernel_rfl))
  (Cod.OpensAt.cons rfl (Cod.Opens.row (e := 62) Tryz.underlying31 (by kernel_rfl) openGram (by decide)) (Cod.OpensAt.one rfl openRows)))).via _ fun a => ⟨⟨a.1, a.2.1, a.2.2⟩, rfl⟩
end
section
theorem openSealed : Cod.Opens Tryz.prog 120 sealedC :=
 (Cod.Opens.struct Tryz.underlying120 (by kernel_rfl) (Cod.OpensAt.cons rfl (Cod.Opens.num Tryz.underlying22 (by kernel_rfl))
  (Cod.OpensAt.cons rfl (Cod.Opens.num Tryz.underlying22 (by kernel_rfl)) (Cod.OpensAt.cons rfl (Cod.Opens.num Tryz.underlying22 (by kernel_rfl)) (Cod.OpensAt.one rfl openWords))))).via _ fun a => ⟨⟨a.1, a.2.1, a.2.2.1, a.2.2.2⟩, rfl⟩
theorem openBox : Cod.Opens Tryz.prog 30 boxC :=
 (Cod.Opens.struct Tryz.underlying30 (by kernel_rfl) (Cod.OpensAt.cons rfl (Cod.Opens.num Tryz.underlying3 (by kernel_rfl))
  (Cod.OpensAt.one rfl (Cod.Opens.row (e := 120) Tryz.underlying28 (by kernel_rfl) openSealed (by decide))))).via _ fun a => ⟨⟨a.1, a.2⟩, rfl⟩
end
section
theorem openRun : Cod.Opens Tryz.prog 58 runC :=
 (Cod.Opens.struct Tryz.underlying58 (by kernel_rfl) (Cod.OpensAt.cons rfl (Cod.Opens.num Tryz.underlying3 (by kernel_rfl)) (Cod.OpensAt.cons rfl (Cod.Opens.num Tryz.underlying3 (by kernel_rfl)) (Cod.OpensAt.cons rfl (Cod.Opens.num Tryz.underlying22 (by kernel_rfl)) (Cod.OpensAt.cons rfl (Cod.Opens.num Tryz.underlying22 (by kernel_rfl)) (Cod.OpensAt.cons rfl (Cod.Opens.num Tryz.underlying22 (by kernel_rfl)) (Cod.OpensAt.cons rfl (Cod.Opens.num Tryz.underlying22 (by kernel_rfl)) (Cod.OpensAt.cons rfl (Cod.Opens.num Tryz.underlying22 (by kernel_rfl)) (Cod.OpensAt.cons rfl (Cod.Opens.num Tryz.underlying22 (by kernel_rfl)) (Cod.OpensAt.one rfl (Cod.Opens.num Tryz.underlying3 (by kernel_rfl)))))))))))).via _ fun a => ⟨⟨a.1, a.2.1, a.2.2.1, a.2.2.2.1, a.2.2.2.2.1, a.2.2.2.2.2.1, a.2.2.2.2.2.2.1, a.2.2.2.2.2.2.2.1, a.2.2.2.2.2.2.2.2⟩, rfl⟩
theorem openEvent : Cod.Opens Tryz.prog 70 eventC :=
 (Cod.Opens.struct Tryz.underlying70 (by kernel_rfl) (Cod.OpensAt.cons rfl (Cod.Opens.num Tryz.underlying3 (by kernel_rfl)) (Cod.OpensAt.cons rfl (Cod.Opens.num Tryz.underlying3 (by kernel_rfl)) (Cod.OpensAt.cons rfl (Cod.Opens.num Tryz.underlying3 (by kernel_rfl)) (Cod.OpensAt.cons rfl (Cod.Opens.num Tryz.underlying22 (by kernel_rfl)) (Cod.OpensAt.cons rfl (Cod.Opens.num Tryz.underlying22 (by kernel_rfl)) (Cod.OpensAt.cons rfl (Cod.Opens.num Tryz.underlying22 (by kernel_rfl)) (Cod.OpensAt.cons rfl (Cod.Opens.num Tryz.underlying22 (by kernel_rfl)) (Cod.OpensAt.cons rfl (Cod.Opens.num Tryz.underlying22 (by kernel_rfl)) (Cod.OpensAt.cons rfl (Cod.Opens.num Tryz.underlying22 (by kernel_rfl)) (Cod.OpensAt.one rfl (Cod.Opens.num Tryz.underlying22 (by kernel_rfl))))))))))))).via _ fun a => ⟨⟨a.1, a.2.1, a.2.2.1, a.2.2.2.1, a.2.2.2.2.1, a.2.2.2.2.2.1, a.2.2.2.2.2.2.1, a.2.2.2.2.2.2.2.1, a.2.2.2.2.2.2.2.2.1, a.2.2.2.2.2.2.2.2.2⟩, rfl⟩
theorem openLeak : Cod.Opens Tryz.prog 100 leakC :=
 (Cod.Opens.struct Tryz.underlying100 (by kernel_rfl) (Cod.OpensAt.cons rfl (Cod.Opens.num Tryz.underlying22 (by kernel_rfl)) (Cod.OpensAt.one rfl (Cod.Opens.num Tryz.underlying22 (by kernel_rfl))))).via _ fun a => ⟨⟨a.1, a.2⟩, rfl⟩
theorem openConf : Cod.Opens Tryz.prog 24 confC :=
 (Cod.Opens.struct Tryz.underlying24 (by kernel_rfl) (Cod.OpensAt.cons rfl (Cod.Opens.num Tryz.underlying22 (by kernel_rfl)) (Cod.OpensAt.cons rfl (Cod.Opens.num Tryz.underlying3 (by kernel_rfl)) (Cod.OpensAt.cons rfl (Cod.Opens.num Tryz.underlying3 (by kernel_rfl)) (Cod.OpensAt.cons rfl (Cod.Opens.num Tryz.underlying3 (by kernel_rfl)) (Cod.OpensAt.cons rfl (Cod.Opens.num Tryz.underlying3 (by kernel_rfl)) (Cod.OpensAt.cons rfl (Cod.Opens.num Tryz.underlying3 (by kernel_rfl)) (Cod.OpensAt.one rfl (Cod.Opens.num Tryz.underlying3 (by kernel_rfl)))))))))).via _ fun a => ⟨⟨a.1, a.2.1, a.2.2.1, a.2.2.2.1, a.2.2.2.2.1, a.2.2.2.2.2.1, a.2.2.2.2.2.2⟩, rfl⟩
theorem openMsg : Cod.Opens Tryz.prog 41 mssgC :=
 (Cod.Opens.struct Tryz.underlying41 (by kernel_rfl) (Cod.OpensAt.cons rfl (Cod.Opens.num Tryz.underlying22 (by kernel_rfl)) (Cod.OpensAt.cons rfl (Cod.Opens.num Tryz.underlying22 (by kernel_rfl)) (Cod.OpensAt.cons rfl (Cod.Opens.num Tryz.underlying22 (by kernel_rfl)) (Cod.OpensAt.cons rfl (Cod.Opens.num Tryz.underlying22 (by kernel_rfl)) (Cod.OpensAt.cons rfl (Cod.Opens.num Tryz.underlying22 (by kernel_rfl)) (Cod.OpensAt.cons rfl (Cod.Opens.num Tryz.underlying22 (by kernel_rfl)) (Cod.OpensAt.one rfl (Cod.Opens.num Tryz.underlying22 (by kernel_rfl)))))))))).via _ fun a => ⟨⟨a.1, a.2.1, a.2.2.1, a.2.2.2.1, a.2.2.2.2.1, a.2.2.2.2.2.1, a.2.2.2.2.2.2⟩, rfl⟩
theorem openDraws : Cod.Opens Tryz.prog 27 drawsC :=
 (Cod.Opens.struct Tryz.underlying27 (by kernel_rfl) (Cod.OpensAt.cons rfl openWords (Cod.OpensAt.one rfl (Cod.Opens.num Tryz.underlying3 (by kernel_rfl))))).via _ fun a => ⟨⟨a.1, a.2⟩, rfl⟩
theorem openPerson : Cod.Opens Tryz.prog 56 personC :=
 (Cod.Opens.struct Tryz.underlying56 (by kernel_rfl) (Cod.OpensAt.cons rfl (Cod.Opens.num Tryz.underlying22 (by kernel_rfl)) (Cod.OpensAt.cons rfl (Cod.Opens.num Tryz.underlying22 (by kernel_rfl)) (Cod.OpensAt.cons rfl (Cod.Opens.num Tryz.underlying22 (by kernel_rfl)) (Cod.OpensAt.cons rfl openWords (Cod.OpensAt.cons rfl (Cod.Opens.row (e := 58) Tryz.underlying54 (by kernel_rfl) openRun (by decide)) (Cod.OpensAt.one rfl (Cod.Opens.flag Tryz.underlying4 (by kernel_rfl))))))))).via _ fun a => ⟨⟨a.1, a.2.1, a.2.2.1, a.2.2.2.1, a.2.2.2.2.1, a.2.2.2.2.2⟩, rfl⟩
theorem openWorld : Cod.Opens Tryz.prog 39 wldC :=
 (Cod.Opens.struct Tryz.underlying39 (by kernel_rfl) (Cod.OpensAt.cons rfl openConf (Cod.OpensAt.cons rfl openDraws (Cod.OpensAt.cons rfl openBox (Cod.OpensAt.cons rfl openNet (Cod.OpensAt.cons rfl (Cod.Opens.row (e := 56) Tryz.underlying35 (by kernel_rfl) openPerson (by decide)) (Cod.OpensAt.cons rfl (Cod.Opens.row (e := 70) Tryz.underlying36 (by kernel_rfl) openEvent (by decide)) (Cod.OpensAt.cons rfl openRows (Cod.OpensAt.one rfl (Cod.Opens.row (e := 100) Tryz.underlying37 (by kernel_rfl) openLeak (by decide))))))))))).via _ fun a => ⟨⟨a.1, a.2.1, a.2.2.1, a.2.2.2.1, a.2.2.2.2.1, a.2.2.2.2.2.1, a.2.2.2.2.2.2.1, a.2.2.2.2.2.2.2⟩, rfl⟩
end
end Go.Proofs.YtbjkgfppafjmgaaGreatDoor.Abs
section
namespace Go.Proofs.YtbjkgfppafjmgaaGreatDoor.Abs
open Go.ChangeShapes Go.WideShapes Go.RowKit
theorem own : ownKnob Tryz.prog.godebug = none := by kernel_rfl
theorem laidOut : laidOutB Tryz.prog = true := by kernel_rfl
theorem masksG : Tryz.prog.globalNamed "chamberlain/msg.masks" = some 0 := by kernel_rfl
theorem masksT : (Tryz.prog.globals[0]?).map (·.type) = some 208 := by kernel_rfl
theorem cellsT : Tryz.prog.cellsOf 208 = 10 := by kernel_rfl
theorem cellsU : Tryz.prog.cellsOf 22 = 1 := by kernel_rfl
theorem word_of_trod {H : Type} {enc : TypeId × Value → H} {w : World} {base : Nat} {sp : Nat → Bool} {held : Bool} {fuel : Nat} {c : Value} {y : DataW H × List MemPlace}
    (h : DataW.trod enc Tryz.prog w base sp held fuel 22 [c] = some y) : ∃ n, c = .int .u32 n ∧ y = (.lit (.int .u32 n), []) ∧ (Lit.int .u32 n).wf = true := by
  obtain ⟨n, h1, h2, h3⟩ := DataW.trod_int Tryz.underlying22 h
  simp at h1
  exact ⟨n, h1, h2, h3⟩
def masksC : Array Value := #[.int .u32 0, .int .u32 56, .int .u32 64, .int .u32 64, .int .u32 64, .int .u32 64, .int .u32 92, .int .u32 220, .int .u32 196, .int .u32 68]
theorem gl_of_laid {W : World} (h : laidMet Tryz.prog [("chamberlain/msg.masks", Rows.laid_chamberlain_msg_masks)] W) : Gl (fun k b => k = 0 ∧ b < W.heap.size) W := by
 obtain ⟨ps, ⟨g, t, cs, fuel, p, q, hg, ht, hvar, hd, _, _⟩, _⟩ := h
 obtain rfl := Option.some.inj (masksG.symm.trans hg)
 obtain rfl := Option.some.inj (masksT.symm.trans ht)
 have key : cs = masksC := by
  obtain ⟨l⟩ := cs
  cases fuel with
  | zero => simp [DataW.trod] at hd
  | succ fuel =>
   simp only [DataW.trod, Tryz.underlying208, cellsT, cellsU] at hd
   split at hd
   ·rename_i hl
    obtain ⟨c0, c1, c2, c3, c4, c5, c6, c7, c8, c9, rfl⟩ : ∃ c0 c1 c2 c3 c4 c5 c6 c7 c8 c9, l = [c0, c1, c2, c3, c4, c5, c6, c7, c8, c9] := by
     match l, hl with
     | [c0, c1, c2, c3, c4, c5, c6, c7, c8, c9], _ => exact ⟨c0, c1, c2, c3, c4, c5, c6, c7, c8, c9, rfl⟩
    have e : List.range 10 = [0, 1, 2, 3, 4, 5, 6, 7, 8, 9] := rfl
    rw [e] at hd
    simp only [Option.map_eq_some_iff, List.mapM_cons, List.mapM_nil, Option.bind_eq_bind, Option.bind_eq_some_iff, Option.pure_def, Option.some.injEq] at hd
    obtain ⟨xs, ⟨y0, h0, _, ⟨y1, h1, _, ⟨y2, h2, _, ⟨y3, h3, _, ⟨y4, h4, _, ⟨y5, h5, _, ⟨y6, h6, _, ⟨y7, h7, _, ⟨y8, h8, _, ⟨y9, h9, _, rfl, rfl⟩, rfl⟩, rfl⟩, rfl⟩, rfl⟩, rfl⟩, rfl⟩, rfl⟩, rfl⟩, rfl⟩, hx⟩ := hd
    obtain ⟨n0, rfl, rfl, _⟩ := word_of_trod h0
    obtain ⟨n1, rfl, rfl, _⟩ := word_of_trod h1
    obtain ⟨n2, rfl, rfl, _⟩ := word_of_trod h2
    obtain ⟨n3, rfl, rfl, _⟩ := word_of_trod h3
    obtain ⟨n4, rfl, rfl, _⟩ := word_of_trod h4
    obtain ⟨n5, rfl, rfl, _⟩ := word_of_trod h5
    obtain ⟨n6, rfl, rfl, _⟩ := word_of_trod h6
    obtain ⟨n7, rfl, rfl, _⟩ := word_of_trod h7
    obtain ⟨n8, rfl, rfl, _⟩ := word_of_trod h8
    obtain ⟨n9, rfl, rfl, _⟩ := word_of_trod h9
    simp [Rows.laid_chamberlain_msg_masks] at hx
    obtain ⟨⟨rfl, rfl, rfl, rfl, rfl, rfl, rfl, rfl, rfl, rfl⟩, _⟩ := hx
    rfl
   ·cases hd
 subst key
 have cell : ∀ (i : Nat) (u : Value), masksC[i]? = some u → W.cell? ⟨0, i, none⟩ = some u := fun i u hu => (World.var?_cell hg hvar i).trans hu
 have hlt : 0 < W.heap.size := lt_of_cell (cell 0 _ rfl)
 intro g vs hgv
 unfold tabsV at hgv
 split at hgv
 ·cases hgv
  exact ⟨⟨rfl, hlt⟩, fun j u hj => by rw [Nat.zero_add]; exact cell j u (by unfold masksC; rw [List.getElem?_toArray]; exact hj)⟩
 ·cases hgv
noncomputable def laidWorld (os : Os) : World :=
  { World.holding Tryz.prog os ⟨#[], #[], []⟩ with heap := (World.holding Tryz.prog os ⟨#[], #[], []⟩).heap.modify 0 fun
      | .cells _ t frozen => .cells masksC t frozen
      | o => o }
theorem laidWorld_row (os : Os) (args : Array Value) : ((laidWorld os).forCall (fun _ _ => 0) ⟨#[], args, []⟩).memory.heap[0]? = some (.cells masksC 208 (0, 0)) := by kernel_rfl
theorem laidWorld_met (os : Os) (args : Array Value) : laidMet Tryz.prog [("chamberlain/msg.masks", Rows.laid_chamberlain_msg_masks)] ((laidWorld os).forCall (fun _ _ => 0) ⟨#[], args, []⟩).memory := by
 refine ⟨_, ⟨0, 208, masksC, 8, [], [], by kernel_rfl, by kernel_rfl, by kernel_rfl, by kernel_rfl, rfl, rfl⟩, by decide, fun b off h => ?_⟩
 have h' : MemPlace.cell b off ∈ [MemPlace.cell 0 0, .cell 0 1, .cell 0 2, .cell 0 3, .cell 0 4, .cell 0 5, .cell 0 6, .cell 0 7, .cell 0 8, .cell 0 9] := h
 have hb : b = 0 := by simp at h'; omega
 subst hb
 refine ⟨⟨_, _, laidWorld_row os args⟩, fun u v hc => ?_⟩
 simp only [World.cell?, laidWorld_row os args] at hc
 simp at h'
 rcases h' with rfl | rfl | rfl | rfl | rfl | rfl | rfl | rfl | rfl | rfl <;> simp [masksC] at hc
end Go.Proofs.YtbjkgfppafjmgaaGreatDoor.Abs
end
