/- What is handed in, opened: whatever its type. -/
import Derived.Test.YtgkfbikffcmmdaaEnc
import Derived.Test.YtgkfbikffcmmdaaRows
set_option linter.unusedSimpArgs false
set_option linter.unusedVariables false
set_option maxRecDepth 100000
namespace Go.Proofs.Ytgkfbikffcmmdaa.Abs
open Go.RowKit
/-- A struct that is handed in, by value. -/
theorem open_agg {α : Type} {C : Cod α} {H : Type} {enc : TypeId × Value → H} {P : Program} {W : World} {r : Reach} {b0 : Nat} {t : TypeId} {fs : Array Field} {v : Value} {d : DataW H} {p : List MemPlace} (ho : Cod.Opens P t C) (hs : P.underlying t = some (.struct fs))
    (hv : Value.okWide P W r b0 t v) (h : DataW.Trod enc P W 0 (fun _ => true) true t v d p) : ∃ (vs : List Value) (y : α), v = .agg vs.toArray ∧ C.rep W W.heap.size vs y := by
  obtain ⟨cs, rfl, _⟩ := Go.WideShapes.okWide_struct hs hv
  obtain ⟨fuel, hf⟩ := h
  obtain ⟨y, hy⟩ := ho.2 H enc W fuel cs.toList _ hf
  exact ⟨cs.toList, y, rfl, hy⟩
/-- A row that is handed in. -/
theorem open_row {α : Type} {C : Cod α} {H : Type} {enc : TypeId × Value → H} {P : Program} {W : World} {r : Reach} {b0 : Nat} {t e : TypeId} {v : Value} {d : DataW H} {p : List MemPlace} (ho : Cod.Opens P t C.row) (hs : P.underlying t = some (.slice e))
    (hv : Value.okWide P W r b0 t v) (h : DataW.Trod enc P W 0 (fun _ => true) true t v d p) : ∃ y : List α, C.row.rep W W.heap.size [v] y := by
  obtain ⟨a, len, cap, rfl⟩ := Go.WideShapes.okWide_slice hs hv
  obtain ⟨fuel, hf⟩ := h
  exact ho.2 H enc W fuel _ _ hf
theorem RC.int {S : Sh} {w : World} {k : IntKind} {n : Int} (h : (Lit.int k n).wf = true) : RC S w (.one (.v (.int k n))) (.int k n) := R.v (inK_wf.trans h)
theorem RC.flag {S : Sh} {w : World} (b : Bool) : RC S w (.one (.v (.bool b))) (.bool b) := R.v rfl
theorem openWords : Cod.Opens Try.prog 22 Cod.words := Cod.Opens.row (e := 36) Try.underlying22 (by kernel_rfl) (Cod.Opens.num Try.underlying36 (by kernel_rfl)) (by decide)
end Go.Proofs.Ytgkfbikffcmmdaa.Abs
