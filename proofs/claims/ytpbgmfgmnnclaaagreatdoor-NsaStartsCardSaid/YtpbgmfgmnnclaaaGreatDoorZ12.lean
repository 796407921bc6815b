/- Texts that were merged: AbsN, Q12k, L15, Open, OpenNet, OpenBox, OpenWld, LaidN. -/
import Derived.Test.YtpbgmfgmnnclaaaGreatDoorZ3
import Derived.Test.YtpbgmfgmnnclaaaGreatDoorZ9
import Derived.Test.YtpbgmfgmnnclaaaGreatDoorZ4
import Derived.Test.YtpbgmfgmnnclaaaGreatDoorZ11
import Derived.Test.YtpbgmfgmnnclaaaGreatDoorZ10
import Derived.Test.YtpbgmfgmnnclaaaGreatDoorRows
import Derived.OpenShut
import Derived.ShutString
import Derived.ChangeOld
import Derived.ChangeVars
import Derived.JoinedOf
import Derived.RowKit
section
/- A struct's fields that are nothing become empty rows. -/
set_option linter.unusedSimpArgs false
set_option linter.unusedVariables false
set_option maxRecDepth 100000
namespace Go.Proofs.YtpbgmfgmnnclaaaGreatDoor.Abs
open Go.RowKit
section
variable {P : Program}
end
end Go.Proofs.YtpbgmfgmnnclaaaGreatDoor.Abs
end
section
/- The reference of layer desk, over values without addresses: Copied. -/
set_option linter.unusedSimpArgs false
set_option linter.unusedVariables false
set_option maxRecDepth 100000
namespace Go.Proofs.YtpbgmfgmnnclaaaGreatDoor.Abs
open Go.RowKit
/-- A world's lists are short, and what is in them. -/
structure Tiny (w : Wld) : Prop where
  dl : w.draws.list.length ≤ 1000
  en : w.box.entries.length ≤ 70
  pl : ∀ s ∈ w.box.entries, s.plain.length ≤ 100
  gr : w.net.grams.length ≤ 64
  gw : ∀ g ∈ w.net.grams, g.words.length ≤ 100
  se : w.net.seen.length ≤ 300
  sw : ∀ s ∈ w.net.seen, s.length ≤ 100
  pp : w.people.length ≤ 10
  pu : ∀ p ∈ w.people, p.used.length ≤ 100 ∧ p.runs.length ≤ 100
  lg : w.log.length ≤ 300
  rg : w.regs.length ≤ 10
  rw : ∀ r ∈ w.regs, r.length ≤ 100
  lk : w.leaks.length ≤ 300
end Go.Proofs.YtpbgmfgmnnclaaaGreatDoor.Abs
end
section
/- The laws of layer nsa, over values without addresses: what the document fixes; NsaStarts, NsaGrants, NsaEchoes, NsaKeeps. -/
set_option linter.unusedSimpArgs false
set_option linter.unusedVariables false
set_option maxRecDepth 100000
namespace Go.Proofs.YtpbgmfgmnnclaaaGreatDoor.Abs
open Go.RowKit
def conf9 : Conf := ⟨5, 2, 9, 4, 4, 9, 2⟩
def W15 : Wld := newW conf9 [11, 12, 13, 14, 15, 16, 17] 2 2
theorem l15_small : ACalls Tryz.prog 23 [] (.one (.agg (eWld W15))) := by
  refine ACalls.intro (fn := Tryz.f23) Tryz.func23 rfl rfl (by simp [Tryz.f23]) ?_
  have hq := q12_new conf9 [11, 12, 13, 14, 15, 16, 17] 2 2 rfl (by decide) rfl (by decide)
  rw [show newW conf9 [11, 12, 13, 14, 15, 16, 17] 2 2 = W15 from rfl] at hq
  generalize W15 = W at *
  unfold Tryz.f23
  simp only [conf9, eConf, eWld, eSealeds, eGrams, ePeople, eEvents, eRows, eWords, eLeaks, eWord, List.map_cons, List.map_nil] at *
  refine wk0 trivial hq trivial
def A15 : Wld := (startNW W15 1 2).1
def g15 : Prt := ⟨2147483661, 0, 0, 2, 70, 3, 9⟩
def G15 : Wld × Int × Int := sealW A15 2147483659 2 g15
def mG15 : Mssg := ⟨2, 0, 0, 0, 0, G15.2.1, 0⟩
def B15 : Wld := (grantNW G15.1 1 mG15).1
def C15 : Wld × Int × Int := sealW B15 70 4 ⟨80, 0, 0, 0, 0, 0, 0⟩
def mC15 : Mssg := ⟨4, 0, 0, 0, 0, C15.2.1, 0⟩
def D15 : Wld := (echoNW C15.1 1 mC15).1
def ev15 : Event := ⟨4, 1, 1, 1, 2, 70, 3, 0, 80, 0⟩
theorem w15_few : fewW W15 = true ∧ fewW A15 = true ∧ fewW G15.1 = true ∧ fewW B15 = true ∧ fewW C15.1 = true ∧ fewW D15 = true := by decide +kernel
theorem w15_form : formW W15 = true ∧ formW G15.1 = true ∧ formW B15 = true ∧ formW C15.1 = true ∧ formW D15 = true := by decide +kernel
theorem w15_e : (startNW W15 1 2).2 = 0 ∧ (startNW W15 1 0).2 = 5 ∧ (grantNW G15.1 1 mG15).2 = 0 ∧ (grantNW G15.1 2 mG15).2 = 6 ∧ (grantNW B15 1 mG15).2 = 9 ∧ (echoNW C15.1 1 mC15).2 = 0 ∧ (echoNW D15 1 mC15).2 = 6 := by decide +kernel
theorem w15_d : D15.log.length = 3 ∧ D15.log[2]? = some ev15 ∧ W15.people[1]? = some ⟨1, 2147483659, 0, [], [], false⟩ := by decide +kernel
theorem w15_len : W15.people.length = 3 ∧ G15.1.people.length = 3 ∧ B15.people.length = 3 ∧ C15.1.people.length = 3 ∧ D15.people.length = 3 := by decide +kernel
theorem w15_sm : Small A15 ∧ Small B15 := by
  obtain ⟨_, f2, _, f4, _⟩ := w15_few
  obtain ⟨_, _, g2, _⟩ := w15_form
  exact ⟨small_of f2 (by decide +kernel), small_of f4 g2⟩
theorem w15_may : mayM mG15 = true ∧ mayM mC15 = true := by decide +kernel
set_option maxHeartbeats 32000000 in
theorem l15_awake : ACalls Tryz.prog 8 [] (rB true) := by
  refine ACalls.intro (fn := Tryz.f8) Tryz.func8 rfl rfl (by simp [Tryz.f8]) ?_
  obtain ⟨f1, f2, f3, f4, f5, f6⟩ := w15_few
  obtain ⟨g1, g2, g3, g4, g5⟩ := w15_form
  obtain ⟨e1, e2, e3, e4, e5, e6, e7⟩ := w15_e
  obtain ⟨d1, d2, d3⟩ := w15_d
  obtain ⟨n1, n2, n3, n4, n5⟩ := w15_len
  obtain ⟨s1, s2⟩ := w15_sm
  obtain ⟨m1, m2⟩ := w15_may
  have c0 := l15_small
  have c1 := p15_start W15 1 2 g1 (smallN_of (by decide) f1 g1)
  have c2 := p15_start W15 1 0 g1 (smallN_of (by decide) f1 g1)
  have c3 := q12_seal A15 2147483659 2 g15 s1
  have c4 := p15_grant G15.1 1 mG15 g2 (smallN_of (by decide) f3 g2) (by omega) (by omega) rfl m1
  have c5 := p15_grant G15.1 2 mG15 g2 (smallN_of (by decide) f3 g2) (by omega) (by omega) rfl m1
  have c6 := p15_grant B15 1 mG15 g3 (smallN_of (by decide) f4 g3) (by omega) (by omega) rfl m1
  have c7 := q12_seal B15 70 4 ⟨80, 0, 0, 0, 0, 0, 0⟩ s2
  have c8 := p15_echo C15.1 1 mC15 g4 (smallN_of (by decide) f5 g4) (by omega) (by omega) rfl m2
  have c9 := p15_echo D15 1 mC15 g5 (smallN_of (by decide) f6 g5) (by omega) (by omega) rfl m2
  rw [e1, show (startNW W15 1 2).1 = A15 from rfl] at c1
  rw [e2] at c2
  rw [show sealW A15 2147483659 2 g15 = G15 from rfl] at c3
  rw [e3, show (grantNW G15.1 1 mG15).1 = B15 from rfl] at c4
  rw [e4] at c5
  rw [e5] at c6
  rw [show sealW B15 70 4 ⟨80, 0, 0, 0, 0, 0, 0⟩ = C15 from rfl] at c7
  rw [e6, show (echoNW C15.1 1 mC15).1 = D15 from rfl] at c8
  rw [e7] at c9
  have heq := eqok_event
  clear f1 f2 f3 f4 f5 f6 g1 g2 g3 g4 g5 e1 e2 e3 e4 e5 e6 e7 n2 n3 n4 n5 s1 s2 m1 m2
  generalize (echoNW D15 1 mC15).1 = Z1 at *
  generalize (grantNW B15 1 mG15).1 = Z2 at *
  generalize (grantNW G15.1 2 mG15).1 = Z3 at *
  generalize (startNW W15 1 0).1 = Z4 at *
  generalize D15 = D at *
  unfold mC15 mG15 at *
  generalize C15 = C at *
  generalize B15 = B at *
  generalize G15 = G at *
  generalize A15 = A at *
  generalize W15 = W at *
  obtain ⟨C, ch, ce⟩ := C
  obtain ⟨G, gh, ge⟩ := G
  have l1 : (D.log.length : Int) = 3 := by omega
  have l2 : 2 < D.log.length := by omega
  have l3 : 1 < W.people.length := by omega
  clear d1 n1
  unfold Tryz.f8
  simp only [eWld, g15, eMssg, ePrt, eSealeds, eGrams, ePeople, eEvents, eRows, eWords, eLeaks, rB, ev15] at *
  refine wkx0 (And.intro l1 (And.intro l2 (And.intro l3 (And.intro d2 (And.intro d3 (And.intro ePerson.eq_1 (And.intro eWords.eq_1 (And.intro eRuns.eq_1 (And.intro eEvent.eq_1 heq))))))))) (And.intro c0 (And.intro c1 (And.intro c2 (And.intro c3 (And.intro c4 (And.intro c5 (And.intro c6 (And.intro c7 (And.intro c8 c9))))))))) trivial
set_option maxHeartbeats 16000000 in
theorem l15_starts (w : Wld) (a b : Int) : ACalls Tryz.prog 3 [.agg (eWld w), .one (u32 a), .one (u32 b)] (rB true) := by
  refine ACalls.intro (fn := Tryz.f3) Tryz.func3 rfl rfl (by simp [Tryz.f3]) ?_
  have aw := l15_awake
  have r1 := q12_few w
  have r2 := q12_form w
  unfold Tryz.f3
  cases h1 : fewW w
  · rw [h1] at r1
    simp only [eWld, eMssg, eSealeds, eGrams, ePeople, eEvents, eRows, eWords, eLeaks, rB] at *
    refine wk0 trivial (And.intro aw (And.intro r1 r2)) trivial
  cases h2 : formW w
  · rw [h1] at r1
    rw [h2] at r2
    simp only [eWld, eMssg, eSealeds, eGrams, ePeople, eEvents, eRows, eWords, eLeaks, rB] at *
    refine wk0 trivial (And.intro aw (And.intro r1 r2)) trivial
  have sm : SmallN 10 w := smallN_of (by decide) h1 h2
  obtain ⟨_, hb, _, hn, _⟩ := formW_iff h2
  have c1 := p15_start w a b h2 sm
  have d1 := q15_start w a b sm hb hn (by have := (person_used h2 a).2; omega)
  have s1 := q12_same (startNW w a b).1 (startNW w a b).1
  rw [decide_eq_true rfl] at s1
  rw [h1] at r1
  rw [h2] at r2
  clear h1 h2 sm hb hn
  generalize startNW w a b = z at *
  simp only [eWld, eMssg, eSealeds, eGrams, ePeople, eEvents, eRows, eWords, eLeaks, rB] at *
  refine wkx0 trivial (And.intro aw (And.intro r1 (And.intro r2 (And.intro c1 (And.intro d1 s1))))) trivial
end Go.Proofs.YtpbgmfgmnnclaaaGreatDoor.Abs
end
section
/- What is handed in, opened: whatever its type. -/
set_option linter.unusedSimpArgs false
set_option linter.unusedVariables false
set_option maxRecDepth 100000
namespace Go.Proofs.YtpbgmfgmnnclaaaGreatDoor.Abs
open Go.RowKit
/-- A struct that is handed in, by value. -/
theorem open_agg {α : Type} {C : Cod α} {H : Type} {enc : TypeId × Value → H} {P : Program} {W : World} {r : Reach} {b0 : Nat} {t : TypeId} {fs : Array Field} {v : Value} {d : DataW H} {p : List MemPlace} (ho : Cod.Opens P t C) (hs : P.underlying t = some (.struct fs))
    (hv : Value.okWide P W r b0 t v) (h : DataW.Trod enc P W 0 (fun _ => true) true t v d p) : ∃ (vs : List Value) (y : α), v = .agg vs.toArray ∧ C.rep W W.heap.size vs y := by
  obtain ⟨cs, rfl, _⟩ := Go.WideShapes.okWide_struct hs hv
  obtain ⟨fuel, hf⟩ := h
  obtain ⟨y, hy⟩ := ho.2 H enc W fuel cs.toList _ hf
  exact ⟨cs.toList, y, rfl, hy⟩
theorem RC.int {S : Sh} {w : World} {k : IntKind} {n : Int} (h : (Lit.int k n).wf = true) : RC S w (.one (.v (.int k n))) (.int k n) := R.v (inK_wf.trans h)
theorem RC.flag {S : Sh} {w : World} (b : Bool) : RC S w (.one (.v (.bool b))) (.bool b) := R.v rfl
theorem openWords : Cod.Opens Tryz.prog 25 Cod.words := Cod.Opens.row (e := 22) Tryz.underlying25 (by kernel_rfl) (Cod.Opens.num Tryz.underlying22 (by kernel_rfl)) (by decide)
end Go.Proofs.YtpbgmfgmnnclaaaGreatDoor.Abs
end
section
/- What is handed in, opened: nets and frames. -/
set_option linter.unusedSimpArgs false
set_option linter.unusedVariables false
set_option maxRecDepth 100000
namespace Go.Proofs.YtpbgmfgmnnclaaaGreatDoor.Abs
open Go.RowKit
theorem openRows : Cod.Opens Tryz.prog 32 Cod.words.row := Cod.Opens.row (e := 25) Tryz.underlying32 (by kernel_rfl) openWords (by decide)
theorem openGram : Cod.Opens Tryz.prog 63 gramC :=
  (Cod.Opens.struct Tryz.underlying63 (by kernel_rfl) (Cod.OpensAt.cons rfl (Cod.Opens.num Tryz.underlying22 (by kernel_rfl)) (Cod.OpensAt.one rfl openWords))).via _ fun a => ⟨⟨a.1, a.2⟩, rfl⟩
theorem openNet : Cod.Opens Tryz.prog 34 netC :=
  (Cod.Opens.struct Tryz.underlying34 (by kernel_rfl) (Cod.OpensAt.cons rfl (Cod.Opens.num Tryz.underlying3 (by kernel_rfl))
    (Cod.OpensAt.cons rfl (Cod.Opens.row (e := 63) Tryz.underlying31 (by kernel_rfl) openGram (by decide)) (Cod.OpensAt.one rfl openRows)))).via _ fun a => ⟨⟨a.1, a.2.1, a.2.2⟩, rfl⟩
end Go.Proofs.YtpbgmfgmnnclaaaGreatDoor.Abs
end
section
/- What is handed in, opened: boxes and their entries. -/
set_option linter.unusedSimpArgs false
set_option linter.unusedVariables false
set_option maxRecDepth 100000
namespace Go.Proofs.YtpbgmfgmnnclaaaGreatDoor.Abs
open Go.RowKit
theorem openSealed : Cod.Opens Tryz.prog 119 sealedC :=
  (Cod.Opens.struct Tryz.underlying119 (by kernel_rfl) (Cod.OpensAt.cons rfl (Cod.Opens.num Tryz.underlying22 (by kernel_rfl))
    (Cod.OpensAt.cons rfl (Cod.Opens.num Tryz.underlying22 (by kernel_rfl)) (Cod.OpensAt.cons rfl (Cod.Opens.num Tryz.underlying22 (by kernel_rfl)) (Cod.OpensAt.one rfl openWords))))).via _ fun a => ⟨⟨a.1, a.2.1, a.2.2.1, a.2.2.2⟩, rfl⟩
theorem openBox : Cod.Opens Tryz.prog 30 boxC :=
  (Cod.Opens.struct Tryz.underlying30 (by kernel_rfl) (Cod.OpensAt.cons rfl (Cod.Opens.num Tryz.underlying3 (by kernel_rfl))
    (Cod.OpensAt.one rfl (Cod.Opens.row (e := 119) Tryz.underlying28 (by kernel_rfl) openSealed (by decide))))).via _ fun a => ⟨⟨a.1, a.2⟩, rfl⟩
end Go.Proofs.YtpbgmfgmnnclaaaGreatDoor.Abs
end
section
/- What is handed in, opened: runs, people, events, parts, messages, operations, worlds. -/
set_option linter.unusedSimpArgs false
set_option linter.unusedVariables false
set_option maxRecDepth 100000
namespace Go.Proofs.YtpbgmfgmnnclaaaGreatDoor.Abs
open Go.RowKit
theorem openRun : Cod.Opens Tryz.prog 59 runC :=
  (Cod.Opens.struct Tryz.underlying59 (by kernel_rfl) (Cod.OpensAt.cons rfl (Cod.Opens.num Tryz.underlying3 (by kernel_rfl)) (Cod.OpensAt.cons rfl (Cod.Opens.num Tryz.underlying3 (by kernel_rfl)) (Cod.OpensAt.cons rfl (Cod.Opens.num Tryz.underlying22 (by kernel_rfl)) (Cod.OpensAt.cons rfl (Cod.Opens.num Tryz.underlying22 (by kernel_rfl)) (Cod.OpensAt.cons rfl (Cod.Opens.num Tryz.underlying22 (by kernel_rfl)) (Cod.OpensAt.cons rfl (Cod.Opens.num Tryz.underlying22 (by kernel_rfl)) (Cod.OpensAt.cons rfl (Cod.Opens.num Tryz.underlying22 (by kernel_rfl)) (Cod.OpensAt.cons rfl (Cod.Opens.num Tryz.underlying22 (by kernel_rfl)) (Cod.OpensAt.one rfl (Cod.Opens.num Tryz.underlying3 (by kernel_rfl)))))))))))).via _ fun a => ⟨⟨a.1, a.2.1, a.2.2.1, a.2.2.2.1, a.2.2.2.2.1, a.2.2.2.2.2.1, a.2.2.2.2.2.2.1, a.2.2.2.2.2.2.2.1, a.2.2.2.2.2.2.2.2⟩, rfl⟩
theorem openEvent : Cod.Opens Tryz.prog 75 eventC :=
  (Cod.Opens.struct Tryz.underlying75 (by kernel_rfl) (Cod.OpensAt.cons rfl (Cod.Opens.num Tryz.underlying3 (by kernel_rfl)) (Cod.OpensAt.cons rfl (Cod.Opens.num Tryz.underlying3 (by kernel_rfl)) (Cod.OpensAt.cons rfl (Cod.Opens.num Tryz.underlying3 (by kernel_rfl)) (Cod.OpensAt.cons rfl (Cod.Opens.num Tryz.underlying22 (by kernel_rfl)) (Cod.OpensAt.cons rfl (Cod.Opens.num Tryz.underlying22 (by kernel_rfl)) (Cod.OpensAt.cons rfl (Cod.Opens.num Tryz.underlying22 (by kernel_rfl)) (Cod.OpensAt.cons rfl (Cod.Opens.num Tryz.underlying22 (by kernel_rfl)) (Cod.OpensAt.cons rfl (Cod.Opens.num Tryz.underlying22 (by kernel_rfl)) (Cod.OpensAt.cons rfl (Cod.Opens.num Tryz.underlying22 (by kernel_rfl)) (Cod.OpensAt.one rfl (Cod.Opens.num Tryz.underlying22 (by kernel_rfl))))))))))))).via _ fun a => ⟨⟨a.1, a.2.1, a.2.2.1, a.2.2.2.1, a.2.2.2.2.1, a.2.2.2.2.2.1, a.2.2.2.2.2.2.1, a.2.2.2.2.2.2.2.1, a.2.2.2.2.2.2.2.2.1, a.2.2.2.2.2.2.2.2.2⟩, rfl⟩
theorem openLeak : Cod.Opens Tryz.prog 100 leakC :=
  (Cod.Opens.struct Tryz.underlying100 (by kernel_rfl) (Cod.OpensAt.cons rfl (Cod.Opens.num Tryz.underlying22 (by kernel_rfl)) (Cod.OpensAt.one rfl (Cod.Opens.num Tryz.underlying22 (by kernel_rfl))))).via _ fun a => ⟨⟨a.1, a.2⟩, rfl⟩
theorem openConf : Cod.Opens Tryz.prog 24 confC :=
  (Cod.Opens.struct Tryz.underlying24 (by kernel_rfl) (Cod.OpensAt.cons rfl (Cod.Opens.num Tryz.underlying22 (by kernel_rfl)) (Cod.OpensAt.cons rfl (Cod.Opens.num Tryz.underlying3 (by kernel_rfl)) (Cod.OpensAt.cons rfl (Cod.Opens.num Tryz.underlying3 (by kernel_rfl)) (Cod.OpensAt.cons rfl (Cod.Opens.num Tryz.underlying3 (by kernel_rfl)) (Cod.OpensAt.cons rfl (Cod.Opens.num Tryz.underlying3 (by kernel_rfl)) (Cod.OpensAt.cons rfl (Cod.Opens.num Tryz.underlying3 (by kernel_rfl)) (Cod.OpensAt.one rfl (Cod.Opens.num Tryz.underlying3 (by kernel_rfl)))))))))).via _ fun a => ⟨⟨a.1, a.2.1, a.2.2.1, a.2.2.2.1, a.2.2.2.2.1, a.2.2.2.2.2.1, a.2.2.2.2.2.2⟩, rfl⟩
theorem openDraws : Cod.Opens Tryz.prog 27 drawsC :=
  (Cod.Opens.struct Tryz.underlying27 (by kernel_rfl) (Cod.OpensAt.cons rfl openWords (Cod.OpensAt.one rfl (Cod.Opens.num Tryz.underlying3 (by kernel_rfl))))).via _ fun a => ⟨⟨a.1, a.2⟩, rfl⟩
theorem openPerson : Cod.Opens Tryz.prog 57 personC :=
  (Cod.Opens.struct Tryz.underlying57 (by kernel_rfl) (Cod.OpensAt.cons rfl (Cod.Opens.num Tryz.underlying22 (by kernel_rfl)) (Cod.OpensAt.cons rfl (Cod.Opens.num Tryz.underlying22 (by kernel_rfl)) (Cod.OpensAt.cons rfl (Cod.Opens.num Tryz.underlying22 (by kernel_rfl)) (Cod.OpensAt.cons rfl openWords (Cod.OpensAt.cons rfl (Cod.Opens.row (e := 59) Tryz.underlying55 (by kernel_rfl) openRun (by decide)) (Cod.OpensAt.one rfl (Cod.Opens.flag Tryz.underlying4 (by kernel_rfl))))))))).via _ fun a => ⟨⟨a.1, a.2.1, a.2.2.1, a.2.2.2.1, a.2.2.2.2.1, a.2.2.2.2.2⟩, rfl⟩
theorem openWorld : Cod.Opens Tryz.prog 39 wldC :=
  (Cod.Opens.struct Tryz.underlying39 (by kernel_rfl) (Cod.OpensAt.cons rfl openConf (Cod.OpensAt.cons rfl openDraws (Cod.OpensAt.cons rfl openBox (Cod.OpensAt.cons rfl openNet (Cod.OpensAt.cons rfl (Cod.Opens.row (e := 57) Tryz.underlying35 (by kernel_rfl) openPerson (by decide)) (Cod.OpensAt.cons rfl (Cod.Opens.row (e := 75) Tryz.underlying36 (by kernel_rfl) openEvent (by decide)) (Cod.OpensAt.cons rfl openRows (Cod.OpensAt.one rfl (Cod.Opens.row (e := 100) Tryz.underlying37 (by kernel_rfl) openLeak (by decide))))))))))).via _ fun a => ⟨⟨a.1, a.2.1, a.2.2.1, a.2.2.2.1, a.2.2.2.2.1, a.2.2.2.2.2.1, a.2.2.2.2.2.2.1, a.2.2.2.2.2.2.2⟩, rfl⟩
end Go.Proofs.YtpbgmfgmnnclaaaGreatDoor.Abs
end
section
/- What a row's condition on the table of masks gives a law of values without addresses; a world that meets it. -/
set_option linter.unusedSimpArgs false
set_option linter.unusedVariables false
set_option maxRecDepth 100000
namespace Go.Proofs.YtpbgmfgmnnclaaaGreatDoor.Abs
open Go.ChangeShapes Go.WideShapes Go.RowKit
theorem own : ownKnob Tryz.prog.godebug = none := by kernel_rfl
theorem laidOut : laidOutB Tryz.prog = true := by kernel_rfl
theorem masksG : Tryz.prog.globalNamed "chamberlain/msg.masks" = some 0 := by kernel_rfl
theorem masksT : (Tryz.prog.globals[0]?).map (·.type) = some 214 := by kernel_rfl
theorem cellsT : Tryz.prog.cellsOf 214 = 10 := by kernel_rfl
theorem cellsU : Tryz.prog.cellsOf 22 = 1 := by kernel_rfl
theorem word_of_trod {H : Type} {enc : TypeId × Value → H} {w : World} {base : Nat} {sp : Nat → Bool} {held : Bool} {fuel : Nat} {c : Value} {y : DataW H × List MemPlace}
    (h : DataW.trod enc Tryz.prog w base sp held fuel 22 [c] = some y) : ∃ n, c = .int .u32 n ∧ y = (.lit (.int .u32 n), []) ∧ (Lit.int .u32 n).wf = true := by
  obtain ⟨n, h1, h2, h3⟩ := DataW.trod_int Tryz.underlying22 h
  simp at h1
  exact ⟨n, h1, h2, h3⟩
def masksC : Array Value := #[.int .u32 0, .int .u32 56, .int .u32 64, .int .u32 64, .int .u32 64, .int .u32 64, .int .u32 92, .int .u32 220, .int .u32 196, .int .u32 68]
theorem gl_of_laid {W : World} (h : laidMet Tryz.prog [("chamberlain/msg.masks", Rows.laid_chamberlain_msg_masks)] W) : Gl (fun k b => k = 0 ∧ b < W.heap.size) W := by
  obtain ⟨ps, ⟨g, t, cs, fuel, p, q, hg, ht, hvar, hd, _, _⟩, _⟩ := h
  obtain rfl := Option.some.inj (masksG.symm.trans hg)
  obtain rfl := Option.some.inj (masksT.symm.trans ht)
  have key : cs = masksC := by
    obtain ⟨l⟩ := cs
    cases fuel with
    | zero => simp [DataW.trod] at hd
    | succ fuel =>
      simp only [DataW.trod, Tryz.underlying214, cellsT, cellsU] at hd
      split at hd
      · rename_i hl
        obtain ⟨c0, c1, c2, c3, c4, c5, c6, c7, c8, c9, rfl⟩ : ∃ c0 c1 c2 c3 c4 c5 c6 c7 c8 c9, l = [c0, c1, c2, c3, c4, c5, c6, c7, c8, c9] := by
          match l, hl with
          | [c0, c1, c2, c3, c4, c5, c6, c7, c8, c9], _ => exact ⟨c0, c1, c2, c3, c4, c5, c6, c7, c8, c9, rfl⟩
        have e : List.range 10 = [0, 1, 2, 3, 4, 5, 6, 7, 8, 9] := rfl
        rw [e] at hd
        simp only [Option.map_eq_some_iff, List.mapM_cons, List.mapM_nil, Option.bind_eq_bind, Option.bind_eq_some_iff, Option.pure_def, Option.some.injEq] at hd
        obtain ⟨xs, ⟨y0, h0, _, ⟨y1, h1, _, ⟨y2, h2, _, ⟨y3, h3, _, ⟨y4, h4, _, ⟨y5, h5, _, ⟨y6, h6, _, ⟨y7, h7, _, ⟨y8, h8, _, ⟨y9, h9, _, rfl, rfl⟩, rfl⟩, rfl⟩, rfl⟩, rfl⟩, rfl⟩, rfl⟩, rfl⟩, rfl⟩, rfl⟩, hx⟩ := hd
        obtain ⟨n0, rfl, rfl, _⟩ := word_of_trod h0
        obtain ⟨n1, rfl, rfl, _⟩ := word_of_trod h1
        obtain ⟨n2, rfl, rfl, _⟩ := word_of_trod h2
        obtain ⟨n3, rfl, rfl, _⟩ := word_of_trod h3
        obtain ⟨n4, rfl, rfl, _⟩ := word_of_trod h4
        obtain ⟨n5, rfl, rfl, _⟩ := word_of_trod h5
        obtain ⟨n6, rfl, rfl, _⟩ := word_of_trod h6
        obtain ⟨n7, rfl, rfl, _⟩ := word_of_trod h7
        obtain ⟨n8, rfl, rfl, _⟩ := word_of_trod h8
        obtain ⟨n9, rfl, rfl, _⟩ := word_of_trod h9
        simp [Rows.laid_chamberlain_msg_masks] at hx
        obtain ⟨⟨rfl, rfl, rfl, rfl, rfl, rfl, rfl, rfl, rfl, rfl⟩, _⟩ := hx
        rfl
      · cases hd
  subst key
  have cell : ∀ (i : Nat) (u : Value), masksC[i]? = some u → W.cell? ⟨0, i, none⟩ = some u := fun i u hu => (World.var?_cell hg hvar i).trans hu
  have hlt : 0 < W.heap.size := lt_of_cell (cell 0 _ rfl)
  intro g vs hgv
  unfold tabsV at hgv
  split at hgv
  · cases hgv
    exact ⟨⟨rfl, hlt⟩, fun j u hj => by rw [Nat.zero_add]; exact cell j u (by unfold masksC; rw [List.getElem?_toArray]; exact hj)⟩
  · cases hgv
/-- A world that meets the condition. -/
noncomputable def laidWorld (os : Os) : World :=
  { World.holding Tryz.prog os ⟨#[], #[], []⟩ with heap := (World.holding Tryz.prog os ⟨#[], #[], []⟩).heap.modify 0 fun
      | .cells _ t frozen => .cells masksC t frozen
      | o => o }
theorem laidWorld_row (os : Os) (args : Array Value) : ((laidWorld os).forCall (fun _ _ => 0) ⟨#[], args, []⟩).memory.heap[0]? = some (.cells masksC 214 (0, 0)) := by kernel_rfl
theorem laidWorld_met (os : Os) (args : Array Value) : laidMet Tryz.prog [("chamberlain/msg.masks", Rows.laid_chamberlain_msg_masks)] ((laidWorld os).forCall (fun _ _ => 0) ⟨#[], args, []⟩).memory := by
  refine ⟨_, ⟨0, 214, masksC, 8, [], [], by kernel_rfl, by kernel_rfl, by kernel_rfl, by kernel_rfl, rfl, rfl⟩, by decide, fun b off h => ?_⟩
  have h' : MemPlace.cell b off ∈ [MemPlace.cell 0 0, .cell 0 1, .cell 0 2, .cell 0 3, .cell 0 4, .cell 0 5, .cell 0 6, .cell 0 7, .cell 0 8, .cell 0 9] := h
  have hb : b = 0 := by simp at h'; omega
  subst hb
  refine ⟨⟨_, _, laidWorld_row os args⟩, fun u v hc => ?_⟩
  simp only [World.cell?, laidWorld_row os args] at hc
  simp at h'
  rcases h' with rfl | rfl | rfl | rfl | rfl | rfl | rfl | rfl | rfl | rfl <;> simp [masksC] at hc
end Go.Proofs.YtpbgmfgmnnclaaaGreatDoor.Abs
end

