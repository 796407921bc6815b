/- What a row's condition on the table of masks gives a walk; a world that meets it; messages and arrays of six words, opened and shut. -/
import Derived.Test.YthpcnekidlhfpaaDoorMsgEq
import Derived.OpenShut
import Derived.ShutString
import Derived.ChangeOld
import Derived.ChangeVars
import Derived.JoinedOf
import Derived.RowKit
namespace Go.Proofs.YthpcnekidlhfpaaDoor
open Go.ChangeShapes Go.WideShapes Go.RowKit

theorem own : ownKnob Tryd.prog.godebug = none := by kernel_rfl
theorem laidOut : laidOutB Tryd.prog = true := by kernel_rfl
theorem masksG : Tryd.prog.globalNamed "chamberlain/msg.masks" = some 0 := by kernel_rfl
theorem masksT : (Tryd.prog.globals[0]?).map (·.type) = some 67 := by kernel_rfl
theorem cellsT : Tryd.prog.cellsOf 67 = 10 := by kernel_rfl
theorem cellsU : Tryd.prog.cellsOf 22 = 1 := by kernel_rfl
theorem cellsM : Tryd.prog.cellsOf 24 = 7 := by kernel_rfl
theorem cellsA : Tryd.prog.cellsOf 41 = 6 := by kernel_rfl
theorem word_of_trod {H : Type} {enc : TypeId × Value → H} {w : World} {base : Nat} {sp : Nat → Bool} {held : Bool} {fuel : Nat} {c : Value} {y : DataW H × List MemPlace}
    (h : DataW.trod enc Tryd.prog w base sp held fuel 22 [c] = some y) : ∃ n, c = .int .u32 n ∧ y = (.lit (.int .u32 n), []) ∧ (Lit.int .u32 n).wf = true := by
  obtain ⟨n, h1, h2, h3⟩ := DataW.trod_int Tryd.underlying22 h
  simp at h1
  exact ⟨n, h1, h2, h3⟩
def masksC : Array Value := #[.int .u32 0, .int .u32 56, .int .u32 64, .int .u32 64, .int .u32 64, .int .u32 64, .int .u32 92, .int .u32 220, .int .u32 196, .int .u32 68]
theorem masks_of_laid {W : World} (h : laidMet Tryd.prog [("chamberlain/msg.masks", Rows.laid_chamberlain_msg_masks)] W) : Masks W := by
  obtain ⟨ps, ⟨g, t, cs, fuel, p, q, hg, ht, hvar, hd, _, _⟩, _⟩ := h
  obtain rfl := Option.some.inj (masksG.symm.trans hg)
  obtain rfl := Option.some.inj (masksT.symm.trans ht)
  have key : cs = masksC := by
    obtain ⟨l⟩ := cs
    cases fuel with
    | zero => simp [DataW.trod] at hd
    | succ fuel =>
      simp only [DataW.trod, Tryd.underlying67, cellsT, cellsU] at hd
      split at hd
      · rename_i hl
        obtain ⟨c0, c1, c2, c3, c4, c5, c6, c7, c8, c9, rfl⟩ : ∃ c0 c1 c2 c3 c4 c5 c6 c7 c8 c9, l = [c0, c1, c2, c3, c4, c5, c6, c7, c8, c9] := by
          match l, hl with
          | [c0, c1, c2, c3, c4, c5, c6, c7, c8, c9], _ => exact ⟨c0, c1, c2, c3, c4, c5, c6, c7, c8, c9, rfl⟩
        have e : List.range 10 = [0, 1, 2, 3, 4, 5, 6, 7, 8, 9] := rfl
        rw [e] at hd
        simp only [Option.map_eq_some_iff, List.mapM_cons, List.mapM_nil, Option.bind_eq_bind, Option.bind_eq_some_iff, Option.pure_def, Option.some.injEq] at hd
        obtain ⟨xs, ⟨y0, h0, _, ⟨y1, h1, _, ⟨y2, h2, _, ⟨y3, h3, _, ⟨y4, h4, _, ⟨y5, h5, _, ⟨y6, h6, _, ⟨y7, h7, _, ⟨y8, h8, _, ⟨y9, h9, _, rfl, rfl⟩, rfl⟩, rfl⟩, rfl⟩, rfl⟩, rfl⟩, rfl⟩, rfl⟩, rfl⟩, rfl⟩, hx⟩ := hd
        obtain ⟨n0, rfl, rfl, _⟩ := word_of_trod h0
        obtain ⟨n1, rfl, rfl, _⟩ := word_of_trod h1
        obtain ⟨n2, rfl, rfl, _⟩ := word_of_trod h2
        obtain ⟨n3, rfl, rfl, _⟩ := word_of_trod h3
        obtain ⟨n4, rfl, rfl, _⟩ := word_of_trod h4
        obtain ⟨n5, rfl, rfl, _⟩ := word_of_trod h5
        obtain ⟨n6, rfl, rfl, _⟩ := word_of_trod h6
        obtain ⟨n7, rfl, rfl, _⟩ := word_of_trod h7
        obtain ⟨n8, rfl, rfl, _⟩ := word_of_trod h8
        obtain ⟨n9, rfl, rfl, _⟩ := word_of_trod h9
        simp [Rows.laid_chamberlain_msg_masks] at hx
        obtain ⟨⟨rfl, rfl, rfl, rfl, rfl, rfl, rfl, rfl, rfl, rfl⟩, _⟩ := hx
        rfl
      · cases hd
  subst key
  exact ⟨World.var?_cell hg hvar 1, World.var?_cell hg hvar 2, World.var?_cell hg hvar 3, World.var?_cell hg hvar 4, World.var?_cell hg hvar 5, World.var?_cell hg hvar 6, World.var?_cell hg hvar 7, World.var?_cell hg hvar 8, World.var?_cell hg hvar 9⟩
/-- A world that meets the condition. -/
noncomputable def laidWorld (os : Os) : World :=
  { World.holding Tryd.prog os ⟨#[], #[], []⟩ with heap := (World.holding Tryd.prog os ⟨#[], #[], []⟩).heap.modify 0 fun
      | .cells _ t frozen => .cells masksC t frozen
      | o => o }
theorem laidWorld_row (os : Os) (args : Array Value) : ((laidWorld os).forCall (fun _ _ => 0) ⟨#[], args, []⟩).memory.heap[0]? = some (.cells masksC 67 (0, 0)) := by kernel_rfl
theorem laidWorld_met (os : Os) (args : Array Value) : laidMet Tryd.prog [("chamberlain/msg.masks", Rows.laid_chamberlain_msg_masks)] ((laidWorld os).forCall (fun _ _ => 0) ⟨#[], args, []⟩).memory := by
  refine ⟨_, ⟨0, 67, masksC, 8, [], [], by kernel_rfl, by kernel_rfl, by kernel_rfl, by kernel_rfl, rfl, rfl⟩, by decide, fun b off h => ?_⟩
  have h' : MemPlace.cell b off ∈ [MemPlace.cell 0 0, .cell 0 1, .cell 0 2, .cell 0 3, .cell 0 4, .cell 0 5, .cell 0 6, .cell 0 7, .cell 0 8, .cell 0 9] := h
  have hb : b = 0 := by simp at h'; omega
  subst hb
  refine ⟨⟨_, _, laidWorld_row os args⟩, fun u v hc => ?_⟩
  simp only [World.cell?, laidWorld_row os args] at hc
  simp at h'
  rcases h' with rfl | rfl | rfl | rfl | rfl | rfl | rfl | rfl | rfl | rfl <;> simp [masksC] at hc
section
variable {H : Type} {enc : TypeId × Value → H} {w : World} {base : Nat} {spare : Nat → Bool} {held : Bool}
theorem open_msg {v : Value} {d : DataW H} {p : List MemPlace} (h : DataW.Trod enc Tryd.prog w base spare held 24 v d p) :
    ∃ m : M7, v = .agg #[.int .u32 m.kind, .int .u32 m.run, .int .u32 m.a, .int .u32 m.b, .int .u32 m.nonce, .int .u32 m.box, .int .u32 m.more] ∧
      d = .agg [.lit (.int .u32 m.kind), .lit (.int .u32 m.run), .lit (.int .u32 m.a), .lit (.int .u32 m.b), .lit (.int .u32 m.nonce), .lit (.int .u32 m.box), .lit (.int .u32 m.more)] ∧ p = [] ∧
      (Lit.int .u32 m.kind).wf = true ∧ (Lit.int .u32 m.run).wf = true ∧ (Lit.int .u32 m.a).wf = true ∧ (Lit.int .u32 m.b).wf = true ∧ (Lit.int .u32 m.nonce).wf = true ∧ (Lit.int .u32 m.box).wf = true ∧ (Lit.int .u32 m.more).wf = true := by
  obtain ⟨fuel, hf⟩ := h
  obtain ⟨xs, n, _, hx, hl, hlen, hg⟩ := DataW.trod_struct Tryd.underlying24 hf
  rw [cellsM] at hl
  cases v with
  | agg cs =>
    obtain ⟨l⟩ := cs
    simp only [Value.cells] at hl hg
    match l, hl, xs, hlen, hg, hx with
    | [c0, c1, c2, c3, c4, c5, c6], _, [y0, y1, y2, y3, y4, y5, y6], _, hg, hx =>
      have h0 := hg 0 _ rfl
      have h1 := hg 1 _ rfl
      have h2 := hg 2 _ rfl
      have h3 := hg 3 _ rfl
      have h4 := hg 4 _ rfl
      have h5 := hg 5 _ rfl
      have h6 := hg 6 _ rfl
      simp [cellsU] at h0 h1 h2 h3 h4 h5 h6
      obtain ⟨n0, rfl, rfl, w0⟩ := word_of_trod h0
      obtain ⟨n1, rfl, rfl, w1⟩ := word_of_trod h1
      obtain ⟨n2, rfl, rfl, w2⟩ := word_of_trod h2
      obtain ⟨n3, rfl, rfl, w3⟩ := word_of_trod h3
      obtain ⟨n4, rfl, rfl, w4⟩ := word_of_trod h4
      obtain ⟨n5, rfl, rfl, w5⟩ := word_of_trod h5
      obtain ⟨n6, rfl, rfl, w6⟩ := word_of_trod h6
      simp at hx
      exact ⟨⟨n0, n1, n2, n3, n4, n5, n6⟩, rfl, hx.1, hx.2, w0, w1, w2, w3, w4, w5, w6⟩
  | _ => simp [Value.cells] at hl
theorem shut_msg (m : M7) (w0 : (Lit.int .u32 m.kind).wf = true) (w1 : (Lit.int .u32 m.run).wf = true) (w2 : (Lit.int .u32 m.a).wf = true) (w3 : (Lit.int .u32 m.b).wf = true) (w4 : (Lit.int .u32 m.nonce).wf = true) (w5 : (Lit.int .u32 m.box).wf = true) (w6 : (Lit.int .u32 m.more).wf = true) :
    DataW.Trod enc Tryd.prog w base spare held 24 (.agg #[.int .u32 m.kind, .int .u32 m.run, .int .u32 m.a, .int .u32 m.b, .int .u32 m.nonce, .int .u32 m.box, .int .u32 m.more])
      (.agg [.lit (.int .u32 m.kind), .lit (.int .u32 m.run), .lit (.int .u32 m.a), .lit (.int .u32 m.b), .lit (.int .u32 m.nonce), .lit (.int .u32 m.box), .lit (.int .u32 m.more)]) [] := by
  have := trod_struct_mk (enc := enc) (w := w) (base := base) (spare := spare) (held := held) (n := 1) (cs := [.int .u32 m.kind, .int .u32 m.run, .int .u32 m.a, .int .u32 m.b, .int .u32 m.nonce, .int .u32 m.box, .int .u32 m.more])
    (xs := [(.lit (.int .u32 m.kind), []), (.lit (.int .u32 m.run), []), (.lit (.int .u32 m.a), []), (.lit (.int .u32 m.b), []), (.lit (.int .u32 m.nonce), []), (.lit (.int .u32 m.box), []), (.lit (.int .u32 m.more), [])])
    Tryd.underlying24 (by simp [cellsM]) (by simp [cellsU, DataW.trod, Tryd.underlying22, w0, w1, w2, w3, w4, w5, w6])
  exact ⟨2, by simpa [Value.cells] using this⟩
theorem open_six {v : Value} {d : DataW H} {p : List MemPlace} (h : DataW.Trod enc Tryd.prog w base spare held 41 v d p) :
    ∃ n0 n1 n2 n3 n4 n5 : Int, v = .agg #[.int .u32 n0, .int .u32 n1, .int .u32 n2, .int .u32 n3, .int .u32 n4, .int .u32 n5] ∧
      d = .agg [.lit (.int .u32 n0), .lit (.int .u32 n1), .lit (.int .u32 n2), .lit (.int .u32 n3), .lit (.int .u32 n4), .lit (.int .u32 n5)] ∧ p = [] ∧
      (Lit.int .u32 n0).wf = true ∧ (Lit.int .u32 n1).wf = true ∧ (Lit.int .u32 n2).wf = true ∧ (Lit.int .u32 n3).wf = true ∧ (Lit.int .u32 n4).wf = true ∧ (Lit.int .u32 n5).wf = true := by
  obtain ⟨fuel, hf⟩ := h
  obtain ⟨xs, n, _, hx, hl, hlen, hg⟩ := DataW.trod_array Tryd.underlying41 hf
  rw [cellsA] at hl
  cases v with
  | agg cs =>
    obtain ⟨l⟩ := cs
    simp only [Value.cells] at hl hg
    match l, hl, xs, hlen, hg, hx with
    | [c0, c1, c2, c3, c4, c5], _, [y0, y1, y2, y3, y4, y5], _, hg, hx =>
      have h0 := hg 0 (by decide)
      have h1 := hg 1 (by decide)
      have h2 := hg 2 (by decide)
      have h3 := hg 3 (by decide)
      have h4 := hg 4 (by decide)
      have h5 := hg 5 (by decide)
      simp [cellsU] at h0 h1 h2 h3 h4 h5
      obtain ⟨n0, rfl, rfl, w0⟩ := word_of_trod h0
      obtain ⟨n1, rfl, rfl, w1⟩ := word_of_trod h1
      obtain ⟨n2, rfl, rfl, w2⟩ := word_of_trod h2
      obtain ⟨n3, rfl, rfl, w3⟩ := word_of_trod h3
      obtain ⟨n4, rfl, rfl, w4⟩ := word_of_trod h4
      obtain ⟨n5, rfl, rfl, w5⟩ := word_of_trod h5
      simp at hx
      exact ⟨n0, n1, n2, n3, n4, n5, rfl, hx.1, hx.2, w0, w1, w2, w3, w4, w5⟩
  | _ => simp [Value.cells] at hl
theorem shut_six {n0 n1 n2 n3 n4 n5 : Int} (w0 : (Lit.int .u32 n0).wf = true) (w1 : (Lit.int .u32 n1).wf = true) (w2 : (Lit.int .u32 n2).wf = true) (w3 : (Lit.int .u32 n3).wf = true) (w4 : (Lit.int .u32 n4).wf = true) (w5 : (Lit.int .u32 n5).wf = true) :
    DataW.Trod enc Tryd.prog w base spare held 41 (.agg #[.int .u32 n0, .int .u32 n1, .int .u32 n2, .int .u32 n3, .int .u32 n4, .int .u32 n5])
      (.agg [.lit (.int .u32 n0), .lit (.int .u32 n1), .lit (.int .u32 n2), .lit (.int .u32 n3), .lit (.int .u32 n4), .lit (.int .u32 n5)]) [] := by
  refine ⟨2, ?_⟩
  have e : List.range 6 = [0, 1, 2, 3, 4, 5] := rfl
  simp [DataW.trod, Value.cells, Tryd.underlying41, cellsA, cellsU, e, Tryd.underlying22, w0, w1, w2, w3, w4, w5]
end
end Go.Proofs.YthpcnekidlhfpaaDoor
