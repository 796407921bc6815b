/- How Go's values lie in memory, kind by kind: numbers, flags, rows, and structs of these; and that what is handed in lies so. Nothing here names a function of the program. -/
import Derived.Test.YtgkfbikffcmmdaaBase
import Derived.OpenShut
set_option linter.unusedSimpArgs false
set_option linter.unusedVariables false
set_option maxRecDepth 100000
namespace Go.Proofs.Ytgkfbikffcmmdaa
open Go.RowKit

/-- Blocks below a bound lie as they lay. -/
def Kept (B : Nat) (w w' : World) : Prop := ∀ k, k < B → w'.heap[k]? = w.heap[k]?
theorem Kept.refl (B : Nat) (w : World) : Kept B w w := fun _ _ => rfl
theorem Kept.trans {B : Nat} {w w' w'' : World} (h : Kept B w w') (k : Kept B w' w'') : Kept B w w'' := fun i hi => (k i hi).trans (h i hi)
theorem Kept.mono {B B' : Nat} {w w' : World} (h : Kept B w w') (hb : B' ≤ B) : Kept B' w w' := fun i hi => h i (by omega)
theorem Kept.of_below {B : Nat} {w w' : World} (h : Below B w w') : Kept B w w' := h.block
theorem Kept.of_reads {w w' : World} (h : Reads w w') (B : Nat) : Kept B w w' := (h.below B).block
theorem Kept.of_grown {B : Nat} {w w' : World} {g : Nat} (h : w.grownBy w' (some g)) (hB : B ≤ g) (hs : B ≤ w.heap.size) : Kept B w w' := fun i hi => h.block i (by omega) (by simp; omega)
theorem Kept.cell {B : Nat} {w w' : World} (h : Kept B w w') {p : Addr} (hp : p.block < B) : w'.cell? p = w.cell? p := World.cell?_of_block (w := w) (h p.block hp)
/-- How values of a kind lie in cells of a world, what they point to in blocks below a bound. -/
structure Cod (α : Type) where
  size : Nat
  rep : World → Nat → List Value → α → Prop
  len : ∀ {w B vs x}, rep w B vs x → vs.length = size
  mono : ∀ {w B B' vs x}, rep w B vs x → B ≤ B' → rep w B' vs x
  keep : ∀ {w w' B vs x}, rep w B vs x → Kept B w w' → rep w' B vs x
  one : ∀ {w B vs x}, rep w B vs x → ∀ u ∈ vs, u.oneCell' = true
namespace Cod
variable {α β : Type}
def num (k : IntKind) : Cod Int where
  size := 1
  rep := fun _ _ vs x => vs = [.int k x] ∧ (Lit.int k x).wf = true
  len := fun h => by rw [h.1]; rfl
  mono := fun h _ => h
  keep := fun h _ => h
  one := fun h u hu => by rw [h.1] at hu; simp at hu; subst hu; rfl
def flag : Cod Bool where
  size := 1
  rep := fun _ _ vs x => vs = [.bool x]
  len := fun h => by rw [h]; rfl
  mono := fun h _ => h
  keep := fun h _ => h
  one := fun h u hu => by rw [h] at hu; simp at hu; subst hu; rfl
/-- A row's elements lie one behind the other. -/
def Elems (C : Cod α) (w : World) (B b o : Nat) (xs : List α) : Prop := ∀ i x, xs[i]? = some x → ∃ us, C.rep w B us x ∧ ∀ j u, us[j]? = some u → w.cell? ⟨b, o + i * C.size + j, none⟩ = some u
theorem Elems.keep {C : Cod α} {w w' : World} {B b o : Nat} {xs : List α} (h : C.Elems w B b o xs) (hb : b < B) (k : Kept B w w') : C.Elems w' B b o xs := fun i x hx => by
  obtain ⟨us, h1, h2⟩ := h i x hx
  exact ⟨us, C.keep h1 k, fun j u hj => (k.cell (p := ⟨b, _, none⟩) hb).trans (h2 j u hj)⟩
def row (C : Cod α) : Cod (List α) where
  size := 1
  rep := fun w B vs xs => (vs = [.slice none 0 0] ∧ xs = []) ∨ ∃ a c, vs = [.slice (some a) xs.length c] ∧ xs.length ≤ c ∧ c ≤ maxLen ∧ (xs = [] ∨ ∃ b o, a = ⟨b, o, none⟩ ∧ b < B ∧ C.Elems w B b o xs)
  len := fun h => by rcases h with ⟨h, _⟩ | ⟨_, _, h, _⟩ <;> rw [h] <;> rfl
  mono := fun h hB => h.imp id fun ⟨a, c, h1, h2, h3, h4⟩ => ⟨a, c, h1, h2, h3, h4.imp id fun ⟨b, o, h5, h6, h7⟩ => ⟨b, o, h5, by omega, fun i x hx => by
    obtain ⟨us, k1, k2⟩ := h7 i x hx
    exact ⟨us, C.mono k1 hB, k2⟩⟩⟩
  keep := fun h k => h.imp id fun ⟨a, c, h1, h2, h3, h4⟩ => ⟨a, c, h1, h2, h3, h4.imp id fun ⟨b, o, h5, h6, h7⟩ => ⟨b, o, h5, h6, h7.keep h6 k⟩⟩
  one := fun h u hu => by rcases h with ⟨h, _⟩ | ⟨_, _, h, _⟩ <;> (rw [h] at hu; simp at hu; subst hu; rfl)
def prod (C : Cod α) (D : Cod β) : Cod (α × β) where
  size := C.size + D.size
  rep := fun w B vs x => ∃ us ts, vs = us ++ ts ∧ C.rep w B us x.1 ∧ D.rep w B ts x.2
  len := fun ⟨us, ts, h, h1, h2⟩ => by rw [h, List.length_append, C.len h1, D.len h2]
  mono := fun ⟨us, ts, h, h1, h2⟩ hB => ⟨us, ts, h, C.mono h1 hB, D.mono h2 hB⟩
  keep := fun ⟨us, ts, h, h1, h2⟩ k => ⟨us, ts, h, C.keep h1 k, D.keep h2 k⟩
  one := fun ⟨us, ts, h, h1, h2⟩ u hu => by
    rw [h] at hu
    rcases List.mem_append.1 hu with hu | hu
    · exact C.one h1 u hu
    · exact D.one h2 u hu
def via (C : Cod α) (f : β → α) : Cod β where
  size := C.size
  rep := fun w B vs x => C.rep w B vs (f x)
  len := fun h => C.len h
  mono := fun h hB => C.mono h hB
  keep := fun h k => C.keep h k
  one := fun h => C.one h
/-- Rows of words. -/
def words : Cod (List Int) := (num .u32).row
/-- A row's slice: its address open, its length the list's. -/
theorem row_form {C : Cod α} {w : World} {B : Nat} {v : Value} {xs : List α} (h : C.row.rep w B [v] xs) : ∃ a c, v = .slice a xs.length c ∧ xs.length ≤ 9223372036854775807 := by
  rcases h with ⟨h, rfl⟩ | ⟨a, c, h, h1, h2, _⟩
  · simp only [List.cons.injEq, and_true] at h; exact ⟨none, 0, h, by simp⟩
  · simp only [List.cons.injEq, and_true] at h; exact ⟨some a, c, h, by unfold maxLen at h2; omega⟩
/-- A row that isn't empty: where its elements lie. -/
theorem row_cells {C : Cod α} {w : World} {B : Nat} {v : Value} {xs : List α} (h : C.row.rep w B [v] xs) (hz : xs ≠ []) : ∃ b o c, v = .slice (some ⟨b, o, none⟩) xs.length c ∧ xs.length ≤ c ∧ c ≤ maxLen ∧ b < B ∧ C.Elems w B b o xs := by
  rcases h with ⟨_, h⟩ | ⟨a, c, h, h1, h2, h3⟩
  · exact absurd h hz
  · simp only [List.cons.injEq, and_true] at h
    rcases h3 with h3 | ⟨b, o, rfl, h4, h5⟩
    · exact absurd h3 hz
    · exact ⟨b, o, c, h, h1, h2, h4, h5⟩
theorem rep_one {C : Cod α} {w : World} {B : Nat} {vs : List Value} {x : α} (h : C.rep w B vs x) (hs : C.size = 1) : ∃ v, vs = [v] := by
  have := C.len h
  rw [hs] at this
  match vs, this with
  | [v], _ => exact ⟨v, rfl⟩
theorem ints_of_words {w : World} {B : Nat} {v : Value} {xs : List Int} (h : words.rep w B [v] xs) : Ints .u32 w v xs ∧ ∀ x ∈ xs, 0 ≤ x ∧ x < 4294967296 := by
  rcases h with ⟨h1, rfl⟩ | ⟨a, c, h1, h2, h3, h4⟩
  · simp only [List.cons.injEq, and_true] at h1
    subst h1
    exact ⟨Ints.nil _ _, fun x hx => by cases hx⟩
  · simp only [List.cons.injEq, and_true] at h1
    subst h1
    rcases h4 with rfl | ⟨b, o, rfl, _, h5⟩
    · exact ⟨.inr ⟨a, c, rfl, h2, h3, fun i hi => absurd hi (by simp)⟩, fun x hx => by cases hx⟩
    · refine ⟨Ints.row rfl h2 h3 fun i hi => ?_, fun x hx => ?_⟩
      · obtain ⟨us, ⟨rfl, _⟩, k⟩ := h5 i xs[i] (List.getElem?_eq_getElem hi)
        have := k 0 _ rfl
        simpa [num, hi] using this
      · obtain ⟨i, hi, rfl⟩ := List.getElem_of_mem hx
        obtain ⟨us, ⟨_, hw⟩, _⟩ := h5 i xs[i] (List.getElem?_eq_getElem hi)
        have := Go.bounds_u32 hw
        omega
theorem words_of_ints {w : World} {v : Value} {xs : List Int} (h : Ints .u32 w v xs) (hr : ∀ x ∈ xs, 0 ≤ x ∧ x < 4294967296) : words.rep w w.heap.size [v] xs := by
  rcases h with ⟨rfl, rfl⟩ | ⟨a, c, rfl, h2, h3, h4⟩
  · exact .inl ⟨rfl, rfl⟩
  · refine .inr ⟨a, c, rfl, h2, h3, ?_⟩
    by_cases hz : xs = []
    · exact .inl hz
    · have h0 := h4 0 (List.length_pos_iff.2 hz)
      obtain ⟨b, o, spot⟩ := a
      have hs : spot = none := by simpa [Addr.add] using World.cell?_spot h0
      subst hs
      have hb := lt_of_cell h0
      refine .inr ⟨b, o, rfl, by simpa [Addr.add] using hb, fun i x hx => ?_⟩
      obtain ⟨hi, rfl⟩ := List.getElem?_eq_some_iff.1 hx
      refine ⟨[.int .u32 xs[i]], ⟨rfl, ?_⟩, fun j u hj => ?_⟩
      · have := hr _ (List.getElem_mem hi)
        simp [Lit.wf, IntKind.min, IntKind.max, IntKind.signed, IntKind.bits]; omega
      · cases j with
        | zero =>
          simp at hj
          subst hj
          have := h4 i hi
          rw [add_row] at this
          simpa [num, hi] using this
        | succ j => simp at hj

/-! What is handed in. -/
/-- Whatever reads as data of the type lies so. -/
def Opens (P : Program) (t : TypeId) (C : Cod α) : Prop := P.cellsOf t = C.size ∧
  ∀ (H : Type) (enc : TypeId × Value → H) (W : World) (fuel : Nat) (cs : List Value) (x : DataW H × List MemPlace), DataW.trod enc P W 0 (fun _ => true) true fuel t cs = some x → ∃ y, C.rep W W.heap.size cs y
theorem Opens.num {P : Program} {t : TypeId} {k : IntKind} (h : P.underlying t = some (.int k)) (hc : P.cellsOf t = 1) : Opens P t (Cod.num k) := ⟨hc, fun H enc W fuel cs x hx => by
  obtain ⟨n, h1, _, h3⟩ := DataW.trod_int h hx
  exact ⟨n, h1, h3⟩⟩
theorem Opens.flag {P : Program} {t : TypeId} (h : P.underlying t = some .bool) (hc : P.cellsOf t = 1) : Opens P t Cod.flag := ⟨hc, fun H enc W fuel cs x hx => by
  obtain ⟨b, h1, _⟩ := DataW.trod_bool h hx
  exact ⟨b, h1⟩⟩
theorem Opens.via {P : Program} {t : TypeId} {C : Cod α} (h : Opens P t C) (f : β → α) (hf : ∀ a, ∃ b, f b = a) : Opens P t (C.via f) := ⟨h.1, fun H enc W fuel cs x hx => by
  obtain ⟨y, hy⟩ := h.2 H enc W fuel cs x hx
  obtain ⟨b, rfl⟩ := hf y
  exact ⟨b, hy⟩⟩
theorem Opens.row {P : Program} {t e : TypeId} {C : Cod α} (h : P.underlying t = some (.slice e)) (hc : P.cellsOf t = 1) (he : Opens P e C) (hs : 0 < C.size) : Opens P t C.row := ⟨hc, fun H enc W fuel cs x hx => by
  rcases DataW.trod_slice h hx with ⟨h1, _⟩ | ⟨a, len, cap, elems, rest, n, _, rfl, _, _, hl, hm, hlen, hel, _⟩
  · exact ⟨[], .inl ⟨h1, rfl⟩⟩
  · have each : ∀ i, i < len → ∃ us y, C.rep W W.heap.size us y ∧ us.length = C.size ∧ ∀ j, j < C.size → W.cell? ((a.add (i * C.size)).add j) = us[j]? := fun i hi => by
      have h1 := hel i hi
      rw [he.1, List.getElem?_eq_getElem (by omega)] at h1
      obtain ⟨us, h2, h3⟩ := Option.bind_eq_some_iff.1 h1
      obtain ⟨_, h4, h5⟩ := World.cells?_some h2
      obtain ⟨y, hy⟩ := he.2 H enc W n us _ h3
      exact ⟨us, y, hy, h4, h5⟩
    have all : ∀ m, m ≤ len → ∃ ys : List α, ys.length = m ∧ ∀ i y, ys[i]? = some y → ∃ us, C.rep W W.heap.size us y ∧ us.length = C.size ∧ ∀ j, j < C.size → W.cell? ((a.add (i * C.size)).add j) = us[j]? := by
      intro m
      induction m with
      | zero => intro _; exact ⟨[], rfl, fun i y hy => by simp at hy⟩
      | succ m ih =>
        intro hm1
        obtain ⟨ys, hys, hall⟩ := ih (by omega)
        obtain ⟨us, y, h1, h2, h3⟩ := each m (by omega)
        refine ⟨ys ++ [y], by simp [hys], fun i z hz => ?_⟩
        by_cases hi : i < ys.length
        · rw [List.getElem?_append_left hi] at hz
          exact hall i z hz
        · rw [List.getElem?_append_right (by omega)] at hz
          have : i = m := by
            rcases Nat.lt_or_ge (i - ys.length) 1 with h | h
            · omega
            · rw [List.getElem?_eq_none (by simpa using h)] at hz; simp at hz
          subst this
          rw [hys] at hz
          simp at hz
          subst hz
          exact ⟨us, h1, h2, h3⟩
    obtain ⟨ys, hys, hall⟩ := all len (Nat.le_refl _)
    refine ⟨ys, .inr ⟨a, cap, by rw [hys], by omega, hm, ?_⟩⟩
    by_cases hz : ys = []
    · exact .inl hz
    · have hp : 0 < ys.length := List.length_pos_iff.2 hz
      obtain ⟨us, _, hu2, hu3⟩ := hall 0 ys[0] (List.getElem?_eq_getElem hp)
      have h0 := hu3 0 hs
      rw [List.getElem?_eq_getElem (by omega)] at h0
      obtain ⟨b, o, spot⟩ := a
      have hsp : spot = none := by simpa [Addr.add] using World.cell?_spot h0
      subst hsp
      have hb := lt_of_cell h0
      refine .inr ⟨b, o, rfl, by simpa [Addr.add] using hb, fun i y hy => ?_⟩
      obtain ⟨us, h1, h2, h3⟩ := hall i y hy
      refine ⟨us, h1, fun j u hj => ?_⟩
      have hjl : j < C.size := by
        rcases Nat.lt_or_ge j us.length with h | h
        · omega
        · rw [List.getElem?_eq_none h] at hj; simp at hj
      have := h3 j hjl
      rw [hj] at this
      rw [add_row, add_row] at this
      exact this⟩
/-- A struct's fields, from a cell on. -/
def OpensAt (P : Program) (fs : List Field) (off : Nat) (C : Cod α) : Prop :=
  ∀ (H : Type) (enc : TypeId × Value → H) (W : World) (n : Nat) (cs : List Value) (xs : List (DataW H × List MemPlace)), xs.length = fs.length → cs.length = off + C.size →
    (∀ (i : Nat) (f : Field), fs[i]? = some f → DataW.trod enc P W 0 (fun _ => true) true n f.type ((cs.drop f.offset).take (P.cellsOf f.type)) = xs[i]?) → ∃ y, C.rep W W.heap.size (cs.drop off) y
theorem OpensAt.one {P : Program} {f : Field} {off : Nat} {C : Cod α} (ho : f.offset = off) (h : Opens P f.type C) : OpensAt P [f] off C := fun H enc W n cs xs hx hc hf => by
  have h1 := hf 0 f rfl
  match xs, hx with
  | [x], _ =>
    obtain ⟨y, hy⟩ := h.2 H enc W n _ x h1
    refine ⟨y, ?_⟩
    rw [h.1, ho, List.take_of_length_le (by simp; omega)] at hy
    exact hy
theorem OpensAt.cons {P : Program} {f : Field} {fs : List Field} {off : Nat} {C : Cod α} {D : Cod β} (ho : f.offset = off) (h : Opens P f.type C) (k : OpensAt P fs (off + C.size) D) : OpensAt P (f :: fs) off (C.prod D) := fun H enc W n cs xs hx hc hf => by
  have h1 := hf 0 f rfl
  match xs, hx with
  | x :: xs, hx =>
    obtain ⟨y, hy⟩ := h.2 H enc W n _ x h1
    obtain ⟨z, hz⟩ := k H enc W n cs xs (by simpa using hx) (by rw [hc]; show off + (C.size + D.size) = _; omega) (fun i g hg => by have := hf (i + 1) g (by simpa using hg); simpa using this)
    refine ⟨(y, z), _, _, ?_, hy, hz⟩
    rw [h.1, ho, ← List.drop_drop, List.take_append_drop]
theorem Opens.struct {P : Program} {t : TypeId} {fs : Array Field} {C : Cod α} (h : P.underlying t = some (.struct fs)) (hc : P.cellsOf t = C.size) (k : OpensAt P fs.toList 0 C) : Opens P t C := ⟨hc, fun H enc W fuel cs x hx => by
  obtain ⟨xs, n, _, _, hl, hlen, hf⟩ := DataW.trod_struct h hx
  obtain ⟨y, hy⟩ := k H enc W n cs xs (by simpa using hlen) (by rw [hl, hc]; omega) (fun i f hi => hf i f (by simpa using hi))
  exact ⟨y, by simpa using hy⟩⟩
end Cod
end Go.Proofs.Ytgkfbikffcmmdaa
