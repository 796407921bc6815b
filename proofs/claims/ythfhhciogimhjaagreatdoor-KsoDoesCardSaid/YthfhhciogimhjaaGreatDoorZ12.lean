/- Texts that were merged: OpenNet, OpenBox, OpenWld, LaidN. -/
import Derived.Test.YthfhhciogimhjaaGreatDoorZ11
import Derived.Test.YthfhhciogimhjaaGreatDoorZ3
import Derived.OpenShut
import Derived.ShutString
import Derived.ChangeOld
import Derived.ChangeVars
import Derived.JoinedOf
import Derived.RowKit
section
/- What is handed in, opened: nets and frames. -/
set_option linter.unusedSimpArgs false
set_option linter.unusedVariables false
set_option maxRecDepth 100000
namespace Go.Proofs.YthfhhciogimhjaaGreatDoor.Abs
open Go.RowKit
theorem openRows : Cod.Opens Tryz.prog 32 Cod.words.row := Cod.Opens.row (e := 25) Tryz.underlying32 (by kernel_rfl) openWords (by decide)
theorem openGram : Cod.Opens Tryz.prog 56 gramC :=
  (Cod.Opens.struct Tryz.underlying56 (by kernel_rfl) (Cod.OpensAt.cons rfl (Cod.Opens.num Tryz.underlying22 (by kernel_rfl)) (Cod.OpensAt.one rfl openWords))).via _ fun a => ⟨⟨a.1, a.2⟩, rfl⟩
theorem openNet : Cod.Opens Tryz.prog 34 netC :=
  (Cod.Opens.struct Tryz.underlying34 (by kernel_rfl) (Cod.OpensAt.cons rfl (Cod.Opens.num Tryz.underlying3 (by kernel_rfl))
    (Cod.OpensAt.cons rfl (Cod.Opens.row (e := 56) Tryz.underlying31 (by kernel_rfl) openGram (by decide)) (Cod.OpensAt.one rfl openRows)))).via _ fun a => ⟨⟨a.1, a.2.1, a.2.2⟩, rfl⟩
end Go.Proofs.YthfhhciogimhjaaGreatDoor.Abs
end
section
/- What is handed in, opened: boxes and their entries. -/
set_option linter.unusedSimpArgs false
set_option linter.unusedVariables false
set_option maxRecDepth 100000
namespace Go.Proofs.YthfhhciogimhjaaGreatDoor.Abs
open Go.RowKit
theorem openSealed : Cod.Opens Tryz.prog 92 sealedC :=
  (Cod.Opens.struct Tryz.underlying92 (by kernel_rfl) (Cod.OpensAt.cons rfl (Cod.Opens.num Tryz.underlying22 (by kernel_rfl))
    (Cod.OpensAt.cons rfl (Cod.Opens.num Tryz.underlying22 (by kernel_rfl)) (Cod.OpensAt.cons rfl (Cod.Opens.num Tryz.underlying22 (by kernel_rfl)) (Cod.OpensAt.one rfl openWords))))).via _ fun a => ⟨⟨a.1, a.2.1, a.2.2.1, a.2.2.2⟩, rfl⟩
theorem openBox : Cod.Opens Tryz.prog 30 boxC :=
  (Cod.Opens.struct Tryz.underlying30 (by kernel_rfl) (Cod.OpensAt.cons rfl (Cod.Opens.num Tryz.underlying3 (by kernel_rfl))
    (Cod.OpensAt.one rfl (Cod.Opens.row (e := 92) Tryz.underlying28 (by kernel_rfl) openSealed (by decide))))).via _ fun a => ⟨⟨a.1, a.2⟩, rfl⟩
end Go.Proofs.YthfhhciogimhjaaGreatDoor.Abs
end
section
/- What is handed in, opened: runs, people, events, parts, messages, operations, worlds. -/
set_option linter.unusedSimpArgs false
set_option linter.unusedVariables false
set_option maxRecDepth 100000
namespace Go.Proofs.YthfhhciogimhjaaGreatDoor.Abs
open Go.RowKit
theorem openRun : Cod.Opens Tryz.prog 132 runC :=
  (Cod.Opens.struct Tryz.underlying132 (by kernel_rfl) (Cod.OpensAt.cons rfl (Cod.Opens.num Tryz.underlying3 (by kernel_rfl)) (Cod.OpensAt.cons rfl (Cod.Opens.num Tryz.underlying3 (by kernel_rfl)) (Cod.OpensAt.cons rfl (Cod.Opens.num Tryz.underlying22 (by kernel_rfl)) (Cod.OpensAt.cons rfl (Cod.Opens.num Tryz.underlying22 (by kernel_rfl)) (Cod.OpensAt.cons rfl (Cod.Opens.num Tryz.underlying22 (by kernel_rfl)) (Cod.OpensAt.cons rfl (Cod.Opens.num Tryz.underlying22 (by kernel_rfl)) (Cod.OpensAt.cons rfl (Cod.Opens.num Tryz.underlying22 (by kernel_rfl)) (Cod.OpensAt.cons rfl (Cod.Opens.num Tryz.underlying22 (by kernel_rfl)) (Cod.OpensAt.one rfl (Cod.Opens.num Tryz.underlying3 (by kernel_rfl)))))))))))).via _ fun a => ⟨⟨a.1, a.2.1, a.2.2.1, a.2.2.2.1, a.2.2.2.2.1, a.2.2.2.2.2.1, a.2.2.2.2.2.2.1, a.2.2.2.2.2.2.2.1, a.2.2.2.2.2.2.2.2⟩, rfl⟩
theorem openEvent : Cod.Opens Tryz.prog 54 eventC :=
  (Cod.Opens.struct Tryz.underlying54 (by kernel_rfl) (Cod.OpensAt.cons rfl (Cod.Opens.num Tryz.underlying3 (by kernel_rfl)) (Cod.OpensAt.cons rfl (Cod.Opens.num Tryz.underlying3 (by kernel_rfl)) (Cod.OpensAt.cons rfl (Cod.Opens.num Tryz.underlying3 (by kernel_rfl)) (Cod.OpensAt.cons rfl (Cod.Opens.num Tryz.underlying22 (by kernel_rfl)) (Cod.OpensAt.cons rfl (Cod.Opens.num Tryz.underlying22 (by kernel_rfl)) (Cod.OpensAt.cons rfl (Cod.Opens.num Tryz.underlying22 (by kernel_rfl)) (Cod.OpensAt.cons rfl (Cod.Opens.num Tryz.underlying22 (by kernel_rfl)) (Cod.OpensAt.cons rfl (Cod.Opens.num Tryz.underlying22 (by kernel_rfl)) (Cod.OpensAt.cons rfl (Cod.Opens.num Tryz.underlying22 (by kernel_rfl)) (Cod.OpensAt.one rfl (Cod.Opens.num Tryz.underlying22 (by kernel_rfl))))))))))))).via _ fun a => ⟨⟨a.1, a.2.1, a.2.2.1, a.2.2.2.1, a.2.2.2.2.1, a.2.2.2.2.2.1, a.2.2.2.2.2.2.1, a.2.2.2.2.2.2.2.1, a.2.2.2.2.2.2.2.2.1, a.2.2.2.2.2.2.2.2.2⟩, rfl⟩
theorem openLeak : Cod.Opens Tryz.prog 90 leakC :=
  (Cod.Opens.struct Tryz.underlying90 (by kernel_rfl) (Cod.OpensAt.cons rfl (Cod.Opens.num Tryz.underlying22 (by kernel_rfl)) (Cod.OpensAt.one rfl (Cod.Opens.num Tryz.underlying22 (by kernel_rfl))))).via _ fun a => ⟨⟨a.1, a.2⟩, rfl⟩
theorem openConf : Cod.Opens Tryz.prog 24 confC :=
  (Cod.Opens.struct Tryz.underlying24 (by kernel_rfl) (Cod.OpensAt.cons rfl (Cod.Opens.num Tryz.underlying22 (by kernel_rfl)) (Cod.OpensAt.cons rfl (Cod.Opens.num Tryz.underlying3 (by kernel_rfl)) (Cod.OpensAt.cons rfl (Cod.Opens.num Tryz.underlying3 (by kernel_rfl)) (Cod.OpensAt.cons rfl (Cod.Opens.num Tryz.underlying3 (by kernel_rfl)) (Cod.OpensAt.cons rfl (Cod.Opens.num Tryz.underlying3 (by kernel_rfl)) (Cod.OpensAt.cons rfl (Cod.Opens.num Tryz.underlying3 (by kernel_rfl)) (Cod.OpensAt.one rfl (Cod.Opens.num Tryz.underlying3 (by kernel_rfl)))))))))).via _ fun a => ⟨⟨a.1, a.2.1, a.2.2.1, a.2.2.2.1, a.2.2.2.2.1, a.2.2.2.2.2.1, a.2.2.2.2.2.2⟩, rfl⟩
theorem openMsg : Cod.Opens Tryz.prog 41 mssgC :=
  (Cod.Opens.struct Tryz.underlying41 (by kernel_rfl) (Cod.OpensAt.cons rfl (Cod.Opens.num Tryz.underlying22 (by kernel_rfl)) (Cod.OpensAt.cons rfl (Cod.Opens.num Tryz.underlying22 (by kernel_rfl)) (Cod.OpensAt.cons rfl (Cod.Opens.num Tryz.underlying22 (by kernel_rfl)) (Cod.OpensAt.cons rfl (Cod.Opens.num Tryz.underlying22 (by kernel_rfl)) (Cod.OpensAt.cons rfl (Cod.Opens.num Tryz.underlying22 (by kernel_rfl)) (Cod.OpensAt.cons rfl (Cod.Opens.num Tryz.underlying22 (by kernel_rfl)) (Cod.OpensAt.one rfl (Cod.Opens.num Tryz.underlying22 (by kernel_rfl)))))))))).via _ fun a => ⟨⟨a.1, a.2.1, a.2.2.1, a.2.2.2.1, a.2.2.2.2.1, a.2.2.2.2.2.1, a.2.2.2.2.2.2⟩, rfl⟩
theorem openDraws : Cod.Opens Tryz.prog 27 drawsC :=
  (Cod.Opens.struct Tryz.underlying27 (by kernel_rfl) (Cod.OpensAt.cons rfl openWords (Cod.OpensAt.one rfl (Cod.Opens.num Tryz.underlying3 (by kernel_rfl))))).via _ fun a => ⟨⟨a.1, a.2⟩, rfl⟩
theorem openPerson : Cod.Opens Tryz.prog 68 personC :=
  (Cod.Opens.struct Tryz.underlying68 (by kernel_rfl) (Cod.OpensAt.cons rfl (Cod.Opens.num Tryz.underlying22 (by kernel_rfl)) (Cod.OpensAt.cons rfl (Cod.Opens.num Tryz.underlying22 (by kernel_rfl)) (Cod.OpensAt.cons rfl (Cod.Opens.num Tryz.underlying22 (by kernel_rfl)) (Cod.OpensAt.cons rfl openWords (Cod.OpensAt.cons rfl (Cod.Opens.row (e := 132) Tryz.underlying66 (by kernel_rfl) openRun (by decide)) (Cod.OpensAt.one rfl (Cod.Opens.flag Tryz.underlying4 (by kernel_rfl))))))))).via _ fun a => ⟨⟨a.1, a.2.1, a.2.2.1, a.2.2.2.1, a.2.2.2.2.1, a.2.2.2.2.2⟩, rfl⟩
theorem openWorld : Cod.Opens Tryz.prog 39 wldC :=
  (Cod.Opens.struct Tryz.underlying39 (by kernel_rfl) (Cod.OpensAt.cons rfl openConf (Cod.OpensAt.cons rfl openDraws (Cod.OpensAt.cons rfl openBox (Cod.OpensAt.cons rfl openNet (Cod.OpensAt.cons rfl (Cod.Opens.row (e := 68) Tryz.underlying35 (by kernel_rfl) openPerson (by decide)) (Cod.OpensAt.cons rfl (Cod.Opens.row (e := 54) Tryz.underlying36 (by kernel_rfl) openEvent (by decide)) (Cod.OpensAt.cons rfl openRows (Cod.OpensAt.one rfl (Cod.Opens.row (e := 90) Tryz.underlying37 (by kernel_rfl) openLeak (by decide))))))))))).via _ fun a => ⟨⟨a.1, a.2.1, a.2.2.1, a.2.2.2.1, a.2.2.2.2.1, a.2.2.2.2.2.1, a.2.2.2.2.2.2.1, a.2.2.2.2.2.2.2⟩, rfl⟩
end Go.Proofs.YthfhhciogimhjaaGreatDoor.Abs
end
section
/- What a row's condition on the table of masks gives a law of values without addresses; a world that meets it. -/
set_option linter.unusedSimpArgs false
set_option linter.unusedVariables false
set_option maxRecDepth 100000
namespace Go.Proofs.YthfhhciogimhjaaGreatDoor.Abs
open Go.ChangeShapes Go.WideShapes Go.RowKit
theorem own : ownKnob Tryz.prog.godebug = none := by kernel_rfl
theorem laidOut : laidOutB Tryz.prog = true := by kernel_rfl
theorem masksG : Tryz.prog.globalNamed "chamberlain/msg.masks" = some 0 := by kernel_rfl
theorem masksT : (Tryz.prog.globals[0]?).map (·.type) = some 201 := by kernel_rfl
theorem cellsT : Tryz.prog.cellsOf 201 = 10 := by kernel_rfl
theorem cellsU : Tryz.prog.cellsOf 22 = 1 := by kernel_rfl
theorem word_of_trod {H : Type} {enc : TypeId × Value → H} {w : World} {base : Nat} {sp : Nat → Bool} {held : Bool} {fuel : Nat} {c : Value} {y : DataW H × List MemPlace}
    (h : DataW.trod enc Tryz.prog w base sp held fuel 22 [c] = some y) : ∃ n, c = .int .u32 n ∧ y = (.lit (.int .u32 n), []) ∧ (Lit.int .u32 n).wf = true := by
  obtain ⟨n, h1, h2, h3⟩ := DataW.trod_int Tryz.underlying22 h
  simp at h1
  exact ⟨n, h1, h2, h3⟩
def masksC : Array Value := #[.int .u32 0, .int .u32 56, .int .u32 64, .int .u32 64, .int .u32 64, .int .u32 64, .int .u32 92, .int .u32 220, .int .u32 196, .int .u32 68]
theorem gl_of_laid {W : World} (h : laidMet Tryz.prog [("chamberlain/msg.masks", Rows.laid_chamberlain_msg_masks)] W) : Gl (fun k b => k = 0 ∧ b < W.heap.size) W := by
  obtain ⟨ps, ⟨g, t, cs, fuel, p, q, hg, ht, hvar, hd, _, _⟩, _⟩ := h
  obtain rfl := Option.some.inj (masksG.symm.trans hg)
  obtain rfl := Option.some.inj (masksT.symm.trans ht)
  have key : cs = masksC := by
    obtain ⟨l⟩ := cs
    cases fuel with
    | zero => simp [DataW.trod] at hd
    | succ fuel =>
      simp only [DataW.trod, Tryz.underlying201, cellsT, cellsU] at hd
      split at hd
      · rename_i hl
        obtain ⟨c0, c1, c2, c3, c4, c5, c6, c7, c8, c9, rfl⟩ : ∃ c0 c1 c2 c3 c4 c5 c6 c7 c8 c9, l = [c0, c1, c2, c3, c4, c5, c6, c7, c8, c9] := by
          match l, hl with
          | [c0, c1, c2, c3, c4, c5, c6, c7, c8, c9], _ => exact ⟨c0, c1, c2, c3, c4, c5, c6, c7, c8, c9, rfl⟩
        have e : List.range 10 = [0, 1, 2, 3, 4, 5, 6, 7, 8, 9] := rfl
        rw [e] at hd
        simp only [Option.map_eq_some_iff, List.mapM_cons, List.mapM_nil, Option.bind_eq_bind, Option.bind_eq_some_iff, Option.pure_def, Option.some.injEq] at hd
        obtain ⟨xs, ⟨y0, h0, _, ⟨y1, h1, _, ⟨y2, h2, _, ⟨y3, h3, _, ⟨y4, h4, _, ⟨y5, h5, _, ⟨y6, h6, _, ⟨y7, h7, _, ⟨y8, h8, _, ⟨y9, h9, _, rfl, rfl⟩, rfl⟩, rfl⟩, rfl⟩, rfl⟩, rfl⟩, rfl⟩, rfl⟩, rfl⟩, rfl⟩, hx⟩ := hd
        obtain ⟨n0, rfl, rfl, _⟩ := word_of_trod h0
        obtain ⟨n1, rfl, rfl, _⟩ := word_of_trod h1
        obtain ⟨n2, rfl, rfl, _⟩ := word_of_trod h2
        obtain ⟨n3, rfl, rfl, _⟩ := word_of_trod h3
        obtain ⟨n4, rfl, rfl, _⟩ := word_of_trod h4
        obtain ⟨n5, rfl, rfl, _⟩ := word_of_trod h5
        obtain ⟨n6, rfl, rfl, _⟩ := word_of_trod h6
        obtain ⟨n7, rfl, rfl, _⟩ := word_of_trod h7
        obtain ⟨n8, rfl, rfl, _⟩ := word_of_trod h8
        obtain ⟨n9, rfl, rfl, _⟩ := word_of_trod h9
        simp [Rows.laid_chamberlain_msg_masks] at hx
        obtain ⟨⟨rfl, rfl, rfl, rfl, rfl, rfl, rfl, rfl, rfl, rfl⟩, _⟩ := hx
        rfl
      · cases hd
  subst key
  have cell : ∀ (i : Nat) (u : Value), masksC[i]? = some u → W.cell? ⟨0, i, none⟩ = some u := fun i u hu => (World.var?_cell hg hvar i).trans hu
  have hlt : 0 < W.heap.size := lt_of_cell (cell 0 _ rfl)
  intro g vs hgv
  unfold tabsV at hgv
  split at hgv
  · cases hgv
    exact ⟨⟨rfl, hlt⟩, fun j u hj => by rw [Nat.zero_add]; exact cell j u (by unfold masksC; rw [List.getElem?_toArray]; exact hj)⟩
  · cases hgv
/-- A world that meets the condition. -/
noncomputable def laidWorld (os : Os) : World :=
  { World.holding Tryz.prog os ⟨#[], #[], []⟩ with heap := (World.holding Tryz.prog os ⟨#[], #[], []⟩).heap.modify 0 fun
      | .cells _ t frozen => .cells masksC t frozen
      | o => o }
theorem laidWorld_row (os : Os) (args : Array Value) : ((laidWorld os).forCall (fun _ _ => 0) ⟨#[], args, []⟩).memory.heap[0]? = some (.cells masksC 201 (0, 0)) := by kernel_rfl
theorem laidWorld_met (os : Os) (args : Array Value) : laidMet Tryz.prog [("chamberlain/msg.masks", Rows.laid_chamberlain_msg_masks)] ((laidWorld os).forCall (fun _ _ => 0) ⟨#[], args, []⟩).memory := by
  refine ⟨_, ⟨0, 201, masksC, 8, [], [], by kernel_rfl, by kernel_rfl, by kernel_rfl, by kernel_rfl, rfl, rfl⟩, by decide, fun b off h => ?_⟩
  have h' : MemPlace.cell b off ∈ [MemPlace.cell 0 0, .cell 0 1, .cell 0 2, .cell 0 3, .cell 0 4, .cell 0 5, .cell 0 6, .cell 0 7, .cell 0 8, .cell 0 9] := h
  have hb : b = 0 := by simp at h'; omega
  subst hb
  refine ⟨⟨_, _, laidWorld_row os args⟩, fun u v hc => ?_⟩
  simp only [World.cell?, laidWorld_row os args] at hc
  simp at h'
  rcases h' with rfl | rfl | rfl | rfl | rfl | rfl | rfl | rfl | rfl | rfl <;> simp [masksC] at hc
end Go.Proofs.YthfhhciogimhjaaGreatDoor.Abs
end

