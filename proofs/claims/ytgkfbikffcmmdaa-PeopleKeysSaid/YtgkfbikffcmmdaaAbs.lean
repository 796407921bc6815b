/- Values without addresses, and how they stand for Go's values in a world: rows that nobody writes any more, and blocks of the call's own. -/
import Derived.Test.YtgkfbikffcmmdaaBase
import Derived.Test.YtgkfbikffcmmdaaTabs
set_option linter.unusedSimpArgs false
set_option linter.unusedVariables false
set_option maxRecDepth 100000
namespace Go.Proofs.Ytgkfbikffcmmdaa.Abs
open Go.RowKit

/-- A cell that nobody writes any more: a value as it is, or a slice by its elements, each by its cells. -/
inductive CV where
  | v (x : Value)
  | rowc (k : Nat) (xs : List (List CV))
  | ptrc (k : Nat) (cs : List CV) (off : Nat)
  | fn (f : FuncId) (agg : Bool) (first caps : List CV)
  | mapc (agg : Bool) (ks : List Value) (xs : List (List CV))
/-- A row of no colour. -/
@[match_pattern] abbrev CV.row (xs : List (List CV)) : CV := .rowc 0 xs
/-- What is handed over. -/
inductive CA where
  | one (x : CV)
  | agg (cs : List CV)
  | nil
/-- A cell of the call's own. -/
inductive A where
  | c (x : CV)
  | ptr (id off : Nat)
  | own (id n : Nat)
  | el (k : Nat) (cs : List CV) (off : Nat)
  | pel (id n i off : Nat)
  | full (k : Nat) (xs : List (List CV))
  | mp (id : Nat)
  | nil
  | bare
  | any
/-- What a slot holds. -/
inductive AV where
  | one (a : A)
  | agg (cs : List A)
  | tup (rs : List CA)
  | tupo (rs : List (Bool × List A))
  | junk
/-- The record of a loop over a function: what its rounds start from, and what they do; the jump that is to come, if a round has left one. -/
structure Rec where
  fn : FuncId
  n : Nat
  t : Nat → AV
  ps : Array Tmp
  assign : Code
  body : Code
  pend : Option Code
/-- What is open: a box, by its cells; a loop's record. -/
inductive OC where
  | cells (cs : List CV)
  | loop (r : Rec)
/-- A block of the call's own. -/
inductive Blk where
  | box (cs : List A)
  | rows (e : TypeId) (sz : Nat) (xs : List (List CV))
  | froz (xs : List (List CV))
  | gone (L : Nat)
  | lent (k : Nat) (e : TypeId) (sz : Nat) (xs : List (List CV))
  | fbox (cs : List CV)
  | obox (cs : List CV)
  | orec (r : Rec)
  | mapb (agg : Bool) (ks : List Value) (xs : List (List CV))
  | fmap (agg : Bool) (ks : List Value) (xs : List (List CV))

/-- A number of its kind. -/
def inK : IntKind → Int → Bool
  | .i8, n => decide (-128 ≤ n) && decide (n ≤ 127)
  | .i16, n => decide (-32768 ≤ n) && decide (n ≤ 32767)
  | .i32, n => decide (-2147483648 ≤ n) && decide (n ≤ 2147483647)
  | .i64, n => decide (-9223372036854775808 ≤ n) && decide (n ≤ 9223372036854775807)
  | .u8, n => decide (0 ≤ n) && decide (n ≤ 255)
  | .u16, n => decide (0 ≤ n) && decide (n ≤ 65535)
  | .u32, n => decide (0 ≤ n) && decide (n ≤ 4294967295)
  | .u64, n => decide (0 ≤ n) && decide (n ≤ 18446744073709551615)
theorem inK_wf {k : IntKind} {n : Int} : inK k n = (Lit.int k n).wf := by cases k <;> rfl
/-- A value of one cell; a number is of its kind. -/
def okV : Value → Bool
  | .int k n => inK k n
  | .agg _ => false
  | .tuple _ => false
  | _ => true
theorem okV_one {x : Value} (h : okV x = true) : x.oneCell' = true := by cases x <;> first | rfl | (simp [okV] at h)
/-- Two lists, place by place. -/
def F2 {α β : Type} (Q : α → β → Prop) (xs : List α) (ys : List β) : Prop := xs.length = ys.length ∧ ∀ (i : Nat) (x : α) (y : β), xs[i]? = some x → ys[i]? = some y → Q x y
section
variable {α β : Type} {Q Q' : α → β → Prop}
theorem F2.nil : F2 Q [] [] := ⟨rfl, fun i x y h => by simp at h⟩
theorem F2.cons {x : α} {y : β} {xs : List α} {ys : List β} (h : Q x y) (k : F2 Q xs ys) : F2 Q (x :: xs) (y :: ys) := ⟨by simp [k.1], fun i a b ha hb => by
  cases i with
  | zero => simp at ha hb; subst ha hb; exact h
  | succ i => exact k.2 i a b (by simpa using ha) (by simpa using hb)⟩
theorem F2.uncons {x : α} {xs : List α} {ys : List β} (h : F2 Q (x :: xs) ys) : ∃ y t, ys = y :: t ∧ Q x y ∧ F2 Q xs t := by
  obtain ⟨h1, h2⟩ := h
  match ys, h1 with
  | y :: t, h1 => exact ⟨y, t, rfl, h2 0 x y rfl rfl, by simpa using h1, fun i a b ha hb => h2 (i + 1) a b (by simpa using ha) (by simpa using hb)⟩
theorem F2.unnil {ys : List β} (h : F2 Q ([] : List α) ys) : ys = [] := List.eq_nil_of_length_eq_zero h.1.symm
theorem F2.mono {xs : List α} {ys : List β} (h : F2 Q xs ys) (k : ∀ x y, x ∈ xs → Q x y → Q' x y) : F2 Q' xs ys := ⟨h.1, fun i x y hx hy => k x y (List.mem_of_getElem? hx) (h.2 i x y hx hy)⟩
theorem F2.take {xs : List α} {ys : List β} (h : F2 Q xs ys) (n : Nat) : F2 Q (xs.take n) (ys.take n) := ⟨by simp [h.1], fun i x y hx hy => by
  rw [List.getElem?_take] at hx hy
  split at hx
  · rename_i hi; rw [if_pos hi] at hy; exact h.2 i x y hx hy
  · simp at hx⟩
theorem F2.drop {xs : List α} {ys : List β} (h : F2 Q xs ys) (n : Nat) : F2 Q (xs.drop n) (ys.drop n) := ⟨by simp [h.1], fun i x y hx hy => h.2 _ x y (by simpa using hx) (by simpa using hy)⟩
theorem F2.append {xs xs' : List α} {ys ys' : List β} (h : F2 Q xs ys) (k : F2 Q xs' ys') : F2 Q (xs ++ xs') (ys ++ ys') := ⟨by simp [h.1, k.1], fun i x y hx hy => by
  by_cases hi : i < xs.length
  · rw [List.getElem?_append_left hi] at hx
    rw [List.getElem?_append_left (h.1 ▸ hi)] at hy
    exact h.2 i x y hx hy
  · rw [List.getElem?_append_right (by omega)] at hx
    rw [List.getElem?_append_right (by have := h.1; omega), ← h.1] at hy
    exact k.2 _ x y hx hy⟩
theorem F2.get {xs : List α} {ys : List β} (h : F2 Q xs ys) {i : Nat} {x : α} (hx : xs[i]? = some x) : ∃ y, ys[i]? = some y ∧ Q x y := by
  have hi : i < ys.length := by rw [← h.1]; exact (List.getElem?_eq_some_iff.1 hx).1
  exact ⟨ys[i], List.getElem?_eq_getElem hi, h.2 i x _ hx (List.getElem?_eq_getElem hi)⟩
theorem F2.get' {xs : List α} {ys : List β} (h : F2 Q xs ys) {i : Nat} {y : β} (hy : ys[i]? = some y) : ∃ x, xs[i]? = some x ∧ Q x y := by
  have hi : i < xs.length := by rw [h.1]; exact (List.getElem?_eq_some_iff.1 hy).1
  exact ⟨xs[i], List.getElem?_eq_getElem hi, h.2 i _ y (List.getElem?_eq_getElem hi) hy⟩
theorem F2.map_left {γ : Type} {f : γ → α} {xs : List γ} {ys : List β} : F2 Q (xs.map f) ys ↔ F2 (fun x y => Q (f x) y) xs ys := by
  unfold F2
  simp only [List.length_map]
  refine and_congr_right fun _ => ⟨fun h i x y hx hy => h i (f x) y (by simp [hx]) hy, fun h i x y hx hy => ?_⟩
  simp only [List.getElem?_map, Option.map_eq_some_iff] at hx
  obtain ⟨z, hz, rfl⟩ := hx
  exact h i z y hz hy
end

/-- Cells at an address hold these values. -/
def Holds (w : World) (b o : Nat) (us : List Value) : Prop := ∀ j u, us[j]? = some u → w.cell? ⟨b, o + j, none⟩ = some u
theorem Holds.mono {w w' : World} {b o : Nat} {us : List Value} (h : Holds w b o us) (k : w'.heap[b]? = w.heap[b]?) : Holds w' b o us := fun j u hj => (World.cell?_of_block (w := w) (a := ⟨b, o + j, none⟩) k).trans (h j u hj)

/-- What a map has at a key, of its cells. -/
def mkV (agg : Bool) (us : List Value) : Value := bif agg then .agg us.toArray else us.headD undef
/-- A map's entries: their keys, and what they have. -/
structure MapIs (w : World) (b : Nat) (agg : Bool) (ks : List Value) (vss : List (List Value)) : Prop where
  at_ : ∃ (es : Array MapEntry) (clock : Nat), w.heap[b]? = some (.map es clock) ∧ es.toList.map (·.key) = ks ∧ es.toList.map (·.val) = vss.map (mkV agg)
  one : agg = false → ∀ vs ∈ vss, vs.length = 1
theorem MapIs.mono {w w' : World} {b : Nat} {agg : Bool} {ks : List Value} {vss : List (List Value)} (h : MapIs w b agg ks vss) (k : w'.heap[b]? = w.heap[b]?) : MapIs w' b agg ks vss := by
  obtain ⟨⟨es, cl, h1, h2⟩, h3⟩ := h
  exact ⟨⟨es, cl, k.trans h1, h2⟩, h3⟩
/-- Which blocks are shown, by colours. -/
abbrev Sh := Nat → Nat → Prop
/-- A cell stands for a value: what it points to lies in blocks of S, of its colour. -/
inductive R (S : Sh) (w : World) : CV → Value → Prop
  | v {x : Value} : okV x = true → R S w (.v x) x
  | nil {k : Nat} : R S w (.rowc k []) (.slice none 0 0)
  | bare {k : Nat} {a : Addr} {cap : Nat} : cap ≤ maxLen → R S w (.rowc k []) (.slice (some a) 0 cap)
  | row {k : Nat} {xs : List (List CV)} {b o cap sz : Nat} (g : Nat → Nat → Value) : xs ≠ [] → xs.length ≤ cap → cap ≤ maxLen → S k b →
      (∀ us ∈ xs, us.length = sz) → (∀ i us, xs[i]? = some us → ∀ j, j < us.length → w.cell? ⟨b, o + i * sz + j, none⟩ = some (g i j)) →
      (∀ i us, xs[i]? = some us → ∀ j u, us[j]? = some u → R S w u (g i j)) → R S w (.rowc k xs) (.slice (some ⟨b, o, none⟩) xs.length cap)
  | ptr {k : Nat} {cs : List CV} {b o off : Nat} {vs : List Value} : S k b → cs.length = vs.length → Holds w b o vs → (∀ (i : Nat) (x : CV) (v : Value), cs[i]? = some x → vs[i]? = some v → R S w x v) → R S w (.ptrc k cs off) (.pointer (some ⟨b, o + off, none⟩))
  | fn {f : FuncId} {first caps : List CV} {us ts : List Value} : first.length = us.length → (∀ (i : Nat) (x : CV) (v : Value), first[i]? = some x → us[i]? = some v → R S w x v) →
      caps.length = ts.length → (∀ (i : Nat) (x : CV) (v : Value), caps[i]? = some x → ts[i]? = some v → R S w x v) → R S w (.fn f false first caps) (.func (.func f) us.toArray ts.toArray)
  | meth {f : FuncId} {first caps : List CV} {us ts : List Value} : first.length = us.length → (∀ (i : Nat) (x : CV) (v : Value), first[i]? = some x → us[i]? = some v → R S w x v) →
      caps.length = ts.length → (∀ (i : Nat) (x : CV) (v : Value), caps[i]? = some x → ts[i]? = some v → R S w x v) → R S w (.fn f true first caps) (.func (.func f) #[.agg us.toArray] ts.toArray)
  | map {agg : Bool} {ks : List Value} {xs : List (List CV)} {b : Nat} {vss : List (List Value)} : S 0 b → MapIs w b agg ks vss → xs.length = vss.length → (∀ (i : Nat) (us : List CV) (vs : List Value), xs[i]? = some us → vss[i]? = some vs → us.length = vs.length) →
      (∀ (i : Nat) (us : List CV) (vs : List Value), xs[i]? = some us → vss[i]? = some vs → ∀ (j : Nat) (x : CV) (v : Value), us[j]? = some x → vs[j]? = some v → R S w x v) → R S w (.mapc agg ks xs) (.map (some b))
theorem R.one {S : Sh} {w : World} {x : CV} {v : Value} (h : R S w x v) : v.oneCell' = true := by cases h <;> first | exact okV_one ‹_› | rfl
theorem R.mono {S S' : Sh} {w w' : World} {x : CV} {v : Value} (h : R S w x v) (hS : ∀ k b, S k b → S' k b) (hw : ∀ k b, S k b → w'.heap[b]? = w.heap[b]?) : R S' w' x v := by
  induction h with
  | v h => exact .v h
  | nil => exact .nil
  | bare h => exact .bare h
  | row g h1 h2 h3 h4 h5 h6 h7 ih => exact .row g h1 h2 h3 (hS _ _ h4) h5 (fun i us hi j hj => (World.cell?_of_block (w := w) (a := ⟨_, _, none⟩) (hw _ _ h4)).trans (h6 i us hi j hj)) ih
  | ptr h1 h2 h3 h4 ih => exact .ptr (hS _ _ h1) h2 (h3.mono (hw _ _ h1)) ih
  | fn h1 h2 h3 h4 ih1 ih2 => exact .fn h1 ih1 h3 ih2
  | meth h1 h2 h3 h4 ih1 ih2 => exact .meth h1 ih1 h3 ih2
  | map h1 h2 h3 h4 h5 ih => exact .map (hS _ _ h1) (h2.mono (hw _ _ h1)) h3 h4 ih
/-- What is known of a cell: numbers are of their kinds, rows no longer than rows may be. -/
inductive Fine : CV → Prop
  | v {x : Value} : okV x = true → Fine (.v x)
  | row {k : Nat} {xs : List (List CV)} : xs.length ≤ maxLen → (∀ us ∈ xs, ∀ u ∈ us, Fine u) → Fine (.rowc k xs)
  | ptr {k : Nat} {cs : List CV} {off : Nat} : (∀ u ∈ cs, Fine u) → Fine (.ptrc k cs off)
  | fn {f : FuncId} {a : Bool} {first caps : List CV} : (∀ u ∈ first, Fine u) → (∀ u ∈ caps, Fine u) → Fine (.fn f a first caps)
  | map {a : Bool} {ks : List Value} {xs : List (List CV)} : (∀ us ∈ xs, ∀ u ∈ us, Fine u) → Fine (.mapc a ks xs)
theorem all_of_get {Q : CV → Prop} {cs : List CV} {vs : List Value} (hl : cs.length = vs.length) (h : ∀ (i : Nat) (x : CV) (v : Value), cs[i]? = some x → vs[i]? = some v → Q x) : ∀ u ∈ cs, Q u := fun u hu => by
  obtain ⟨i, hi, rfl⟩ := List.getElem_of_mem hu
  exact h i _ vs[i] (List.getElem?_eq_getElem hi) (List.getElem?_eq_getElem (hl ▸ hi))
theorem R.fine {S : Sh} {w : World} {x : CV} {v : Value} (h : R S w x v) : Fine x := by
  induction h with
  | v h => exact .v h
  | nil => exact .row (by simp) fun us hu => by simp at hu
  | bare h => exact .row (by simp) fun us hu => by simp at hu
  | row g h1 h2 h3 h4 h5 h6 h7 ih =>
    refine .row (Nat.le_trans h2 h3) fun us hu u hu2 => ?_
    obtain ⟨i, hi, rfl⟩ := List.getElem_of_mem hu
    obtain ⟨j, hj, rfl⟩ := List.getElem_of_mem hu2
    exact ih i _ (List.getElem?_eq_getElem hi) j _ (List.getElem?_eq_getElem hj)
  | ptr h1 h2 h3 h4 ih => exact .ptr (all_of_get h2 ih)
  | fn h1 h2 h3 h4 ih1 ih2 => exact .fn (all_of_get h1 ih1) (all_of_get h3 ih2)
  | meth h1 h2 h3 h4 ih1 ih2 => exact .fn (all_of_get h1 ih1) (all_of_get h3 ih2)
  | map h1 h2 h3 h4 h5 ih =>
    refine .map fun us hu u hu2 => ?_
    obtain ⟨i, hi, rfl⟩ := List.getElem_of_mem hu
    exact all_of_get (h4 i _ _ (List.getElem?_eq_getElem hi) (List.getElem?_eq_getElem (h3 ▸ hi))) (ih i _ _ (List.getElem?_eq_getElem hi) (List.getElem?_eq_getElem (h3 ▸ hi))) u hu2
theorem R.slice {S : Sh} {w : World} {k : Nat} {xs : List (List CV)} {v : Value} (h : R S w (.rowc k xs) v) : ∃ a cap, v = .slice a xs.length cap ∧ xs.length ≤ cap ∧ cap ≤ maxLen := by
  cases h with
  | nil => exact ⟨none, 0, rfl, by simp, by simp⟩
  | bare h => exact ⟨_, _, rfl, by simp, h⟩
  | row g h1 h2 h3 => exact ⟨_, _, rfl, h2, h3⟩
/-- An element of a row: its cells. -/
theorem R.elem {S : Sh} {w : World} {k : Nat} {xs : List (List CV)} {v : Value} (h : R S w (.rowc k xs) v) {i : Nat} {us : List CV} (hi : xs[i]? = some us) :
    ∃ b o cap, v = .slice (some ⟨b, o, none⟩) xs.length cap ∧ S k b ∧ (∀ ts ∈ xs, ts.length = us.length) ∧ ∃ vs, F2 (R S w) us vs ∧ Holds w b (o + i * us.length) vs := by
  cases h with
  | nil => simp at hi
  | bare h => simp at hi
  | row g h1 h2 h3 h4 h5 h6 h7 =>
    rename_i b o cap sz
    have hu : us.length = sz := h5 us (List.mem_of_getElem? hi)
    subst hu
    refine ⟨b, o, cap, rfl, h4, h5, (List.range us.length).map (g i), ⟨by simp, fun j u v hu hv => ?_⟩, fun j v hv => ?_⟩
    · simp only [List.getElem?_map, Option.map_eq_some_iff] at hv
      obtain ⟨k, hk, rfl⟩ := hv
      obtain ⟨hk1, hk2⟩ := List.getElem?_eq_some_iff.1 hk
      simp at hk2
      subst hk2
      exact h7 i us hi j u hu
    · simp only [List.getElem?_map, Option.map_eq_some_iff] at hv
      obtain ⟨k, hk, rfl⟩ := hv
      obtain ⟨hk1, hk2⟩ := List.getElem?_eq_some_iff.1 hk
      simp at hk1 hk2
      subst hk2
      exact h6 i us hi j hk1
/-- A row of its elements. -/
theorem R.mk {S : Sh} {w : World} {k : Nat} {xs : List (List CV)} {vss : List (List Value)} {b o cap sz : Nat} (hS : S k b) (hl : xs.length ≤ cap) (hm : cap ≤ maxLen) (hsz : ∀ us ∈ xs, us.length = sz) (h : F2 (F2 (R S w)) xs vss)
    (hc : ∀ i vs, vss[i]? = some vs → Holds w b (o + i * sz) vs) : R S w (.rowc k xs) (.slice (some ⟨b, o, none⟩) xs.length cap) := by
  by_cases hz : xs = []
  · subst hz; exact .bare hm
  refine .row (sz := sz) (fun i j => (vss.getD i []).getD j undef) hz hl hm hS hsz (fun i us hi j hj => ?_) (fun i us hi j u hu => ?_)
  · obtain ⟨vs, hv, hq⟩ := h.get hi
    have hj' : j < vs.length := hq.1 ▸ hj
    have := hc i vs hv j vs[j] (List.getElem?_eq_getElem hj')
    simpa [List.getD, hv, List.getElem?_eq_getElem hj'] using this
  · obtain ⟨vs, hv, hq⟩ := h.get hi
    obtain ⟨v, hv1, hv2⟩ := hq.get hu
    simpa [List.getD, hv, hv1] using hv2

theorem tabsV_ok : ∀ g vs, tabsV g = some vs → vs.all okV = true := by
  intro g vs h
  unfold tabsV at h
  split at h
  all_goals first | (cases h; decide) | cases h
/-- The package's tables stand as the program's text lays them, and are shown. -/
def Gl (S : Sh) (w : World) : Prop := ∀ g vs, tabsV g = some vs → S 0 g ∧ Holds w g 0 vs
theorem Gl.mono {S S' : Sh} {w w' : World} (h : Gl S w) (hS : ∀ b, S 0 b → S' 0 b) (hw : ∀ b, S 0 b → w'.heap[b]? = w.heap[b]?) : Gl S' w' := fun g vs hg => ⟨hS _ (h g vs hg).1, (h g vs hg).2.mono (hw _ (h g vs hg).1)⟩
theorem Gl.ptr {S : Sh} {w : World} (h : Gl S w) {g : Nat} {vs : List Value} (hg : tabsV g = some vs) : R S w (.ptrc 0 (vs.map .v) 0) (.pointer (some ⟨g, 0, none⟩)) := by
  obtain ⟨h1, h2⟩ := h g vs hg
  refine R.ptr (b := g) (o := 0) (off := 0) h1 (by simp) h2 fun i x v hx hv => ?_
  simp only [List.getElem?_map, Option.map_eq_some_iff] at hx
  obtain ⟨z, hz, rfl⟩ := hx
  rw [hz] at hv
  cases hv
  exact R.v (List.all_eq_true.1 (tabsV_ok g vs hg) _ (List.mem_of_getElem? hz))

/-- Where blocks of the call's own lie, and what nobody writes any more. -/
structure Ctx where
  S : Sh
  φ : Nat → Nat
  ψ : Nat → Value
abbrev Mem := Nat → Option Blk
def rowLen (m : Mem) (id : Nat) : Option Nat := match m id with
  | some (.rows _ _ xs) => some xs.length
  | some (.froz xs) => some xs.length
  | some (.gone L) => some L
  | some (.lent _ _ _ xs) => some xs.length
  | _ => none
def isBox (m : Mem) (id : Nat) : Prop := (∃ cs, m id = some (.box cs)) ∨ (∃ cs, m id = some (.fbox cs)) ∨ (∃ a ks xs, m id = some (.mapb a ks xs)) ∨ (∃ a ks xs, m id = some (.fmap a ks xs)) ∨ (∃ cs, m id = some (.obox cs)) ∨ ∃ r, m id = some (.orec r)
def rowsOf (m : Mem) (id : Nat) : Option (TypeId × Nat × List (List CV)) := match m id with
  | some (.rows e sz xs) => some (e, sz, xs)
  | some (.lent _ e sz xs) => some (e, sz, xs)
  | _ => none
/-- A cell of the call's own stands for a value. -/
def VA (c : Ctx) (w : World) (m : Mem) : A → Value → Prop
  | .c x, v => R c.S w x v
  | .ptr id off, v => isBox m id ∧ v = .pointer (some ⟨c.φ id, off, none⟩)
  | .own id n, v => (∃ a k, v = .slice a n k) ∧ ∃ L, rowLen m id = some L ∧ n ≤ L ∧ (n = L → v = c.ψ id)
  | .el k cs off, v => ∃ b o vs, v = .pointer (some ⟨b, o + off, none⟩) ∧ c.S k b ∧ F2 (R c.S w) cs vs ∧ Holds w b o vs
  | .pel id n i off, v => (∃ a, v = .pointer a) ∧ ∃ L, rowLen m id = some L ∧ n ≤ L ∧ (n = L → ∀ e sz xs, rowsOf m id = some (e, sz, xs) → ∃ g cap, c.ψ id = .slice (some ⟨g, 0, none⟩) n cap ∧ v = .pointer (some ⟨g, i * sz + off, none⟩))
  | .full k xs, v => ∃ a, v = .slice a xs.length xs.length ∧ R c.S w (.rowc k xs) v
  | .mp id, v => isBox m id ∧ v = .map (some (c.φ id))
  | .nil, v => v = .slice none 0 0
  | .bare, v => ∃ a k, v = .slice (some a) 0 k ∧ k ≤ maxLen
  | .any, v => v.oneCell' = true
theorem VA.one {c : Ctx} {w : World} {m : Mem} {a : A} {v : Value} (h : VA c w m a v) : v.oneCell' = true := by
  cases a with
  | c x => exact R.one h
  | ptr id off => rw [h.2]; rfl
  | own id n => obtain ⟨⟨a, k, rfl⟩, _⟩ := h; rfl
  | el k cs off => obtain ⟨b, o, vs, rfl, _⟩ := h; rfl
  | pel id n i off => obtain ⟨⟨a, rfl⟩, _⟩ := h; rfl
  | full k xs => exact R.one h.choose_spec.2
  | mp id => rw [h.2]; rfl
  | nil => cases h; rfl
  | bare => obtain ⟨a, k, rfl, _⟩ := h; rfl
  | any => exact h
def RC (S : Sh) (w : World) : CA → Value → Prop
  | .one x, v => R S w x v
  | .agg cs, v => ∃ vs : List Value, v = .agg vs.toArray ∧ F2 (R S w) cs vs
  | .nil, v => v = .slice none 0 0
/-- One of several results: a struct by its cells, or one cell. -/
def VM (c : Ctx) (w : World) (m : Mem) : Bool × List A → Value → Prop
  | (true, cs), v => ∃ us : List Value, v = .agg us.toArray ∧ F2 (VA c w m) cs us
  | (false, cs), v => ∃ a, cs = [a] ∧ VA c w m a v
/-- What a slot holds stands for a value. -/
def VV (c : Ctx) (w : World) (m : Mem) : AV → Value → Prop
  | .one a, v => VA c w m a v
  | .agg cs, v => ∃ vs : List Value, v = .agg vs.toArray ∧ F2 (VA c w m) cs vs
  | .tup rs, v => ∃ vs : List Value, v = .tuple vs.toArray ∧ F2 (RC c.S w) rs vs
  | .tupo rs, v => ∃ vs : List Value, v = .tuple vs.toArray ∧ F2 (VM c w m) rs vs
  | .junk, _ => True

/-- What is known goes on to be so. -/
structure Goes (c : Ctx) (w : World) (m : Mem) (c' : Ctx) (w' : World) (m' : Mem) : Prop where
  S : ∀ k b, c.S k b → c'.S k b
  heap : ∀ k b, c.S k b → w'.heap[b]? = w.heap[b]?
  box : ∀ id, isBox m id → c'.φ id = c.φ id ∧ isBox m' id
  rows : ∀ id L, rowLen m id = some L → ∃ L', rowLen m' id = some L' ∧ L ≤ L' ∧ (L = L' → c'.ψ id = c.ψ id ∧ ∀ e sz xs, rowsOf m' id = some (e, sz, xs) → ∃ ys, rowsOf m id = some (e, sz, ys))
section
variable {c c' : Ctx} {w w' : World} {m m' : Mem}
theorem VA.goes (g : Goes c w m c' w' m') {a : A} {v : Value} (h : VA c w m a v) : VA c' w' m' a v := by
  cases a with
  | c x => exact R.mono h g.S g.heap
  | ptr id off =>
    obtain ⟨hc, rfl⟩ := h
    obtain ⟨h1, h2⟩ := g.box id hc
    exact ⟨h2, by rw [h1]⟩
  | own id n =>
    obtain ⟨h0, L, h1, h2, h3⟩ := h
    obtain ⟨L', k1, k2, k3⟩ := g.rows id L h1
    refine ⟨h0, L', k1, by omega, fun e => ?_⟩
    have e' : L = L' := by omega
    rw [(k3 e').1]
    exact h3 (by omega)
  | el k cs off =>
    obtain ⟨b, o, vs, h1, h2, h3, h4⟩ := h
    exact ⟨b, o, vs, h1, g.S k b h2, h3.mono fun x y _ h => h.mono g.S g.heap, h4.mono (g.heap k b h2)⟩
  | pel id n i off =>
    obtain ⟨h0, L, h1, h2, h3⟩ := h
    obtain ⟨L', k1, k2, k3⟩ := g.rows id L h1
    refine ⟨h0, L', k1, by omega, fun e ty sz xs hx => ?_⟩
    have e' : L = L' := by omega
    obtain ⟨k4, k5⟩ := k3 e'
    obtain ⟨ys, hy⟩ := k5 ty sz xs hx
    obtain ⟨gg, cap, q1, q2⟩ := h3 (by omega) ty sz ys hy
    exact ⟨gg, cap, by rw [k4]; exact q1, q2⟩
  | full k xs =>
    obtain ⟨a, h1, h2⟩ := h
    exact ⟨a, h1, h2.mono g.S g.heap⟩
  | mp id =>
    obtain ⟨hc, rfl⟩ := h
    obtain ⟨h1, h2⟩ := g.box id hc
    exact ⟨h2, by rw [h1]⟩
  | nil => exact h
  | bare => exact h
  | any => exact h
theorem RC.mono {S S' : Sh} {r : CA} {v : Value} (h : RC S w r v) (hS : ∀ k b, S k b → S' k b) (hw : ∀ k b, S k b → w'.heap[b]? = w.heap[b]?) : RC S' w' r v := by
  cases r with
  | one x => exact R.mono h hS hw
  | agg cs => obtain ⟨vs, h1, h2⟩ := h; exact ⟨vs, h1, h2.mono fun x y _ h => h.mono hS hw⟩
  | nil => exact h
theorem VM.goes (g : Goes c w m c' w' m') {a : Bool × List A} {v : Value} (h : VM c w m a v) : VM c' w' m' a v := by
  obtain ⟨b, cs⟩ := a
  cases b with
  | true => obtain ⟨us, h1, h2⟩ := h; exact ⟨us, h1, h2.mono fun x y _ h => h.goes g⟩
  | false => obtain ⟨a, h1, h2⟩ := h; exact ⟨a, h1, h2.goes g⟩
theorem VV.goes (g : Goes c w m c' w' m') {a : AV} {v : Value} (h : VV c w m a v) : VV c' w' m' a v := by
  cases a with
  | one a => exact VA.goes g h
  | agg cs => obtain ⟨vs, h1, h2⟩ := h; exact ⟨vs, h1, h2.mono fun x y _ h => h.goes g⟩
  | tup rs => obtain ⟨vs, h1, h2⟩ := h; exact ⟨vs, h1, h2.mono fun x y _ h => h.mono g.S g.heap⟩
  | tupo rs => obtain ⟨vs, h1, h2⟩ := h; exact ⟨vs, h1, h2.mono fun x y _ h => VM.goes g h⟩
  | junk => exact h
theorem Goes.refl (c : Ctx) (w : World) (m : Mem) : Goes c w m c w m := ⟨fun _ _ h => h, fun _ _ _ => rfl, fun _ h => ⟨rfl, h⟩, fun _ L h => ⟨L, h, Nat.le_refl _, fun _ => ⟨rfl, fun _ _ xs hx => ⟨xs, hx⟩⟩⟩⟩
end

/-- A loop's record, as the world has it. -/
def RecAt (S : Sh) (w : World) (b : Nat) (r : Rec) : Prop := ∃ R : Loop, w.heap[b]? = some (.loop R) ∧ R.fn = r.fn ∧ R.params = r.ps ∧ R.assign = r.assign ∧ R.body = r.body ∧ R.pending = r.pend ∧ R.state = (if r.pend.isNone then .ready else .done) ∧
  R.tmps.size = r.n ∧ ∀ d, d < r.n → VV ⟨S, fun _ => 0, fun _ => undef⟩ w (fun _ => none) (r.t d) (R.tmps.getD d undef)
theorem RecAt.mono {S S' : Sh} {w w' : World} {b : Nat} {r : Rec} (h : RecAt S w b r) (hb : w'.heap[b]? = w.heap[b]?) (hS : ∀ k b, S k b → S' k b) (hw : ∀ k b, S k b → w'.heap[b]? = w.heap[b]?) : RecAt S' w' b r := by
  obtain ⟨R, h1, h2, h3, h4, h5, h6, h7, h8, h9⟩ := h
  refine ⟨R, hb.trans h1, h2, h3, h4, h5, h6, h7, h8, fun d hd => ?_⟩
  exact VV.goes (c := ⟨S, fun _ => 0, fun _ => undef⟩) (c' := ⟨S', fun _ => 0, fun _ => undef⟩) (m := fun _ => none) (m' := fun _ => none) ⟨hS, hw, fun id h => by simp [isBox] at h, fun id L h => by simp [rowLen] at h⟩ (h9 d hd)
/-- A block of the call's own, as the world has it. -/
def BlkOK (c : Ctx) (w : World) (m : Mem) (base : Nat) (L : Nat → Prop) (id : Nat) : Blk → Prop
  | .box cs => base ≤ c.φ id ∧ (∀ k, ¬ c.S k (c.φ id)) ∧ ∃ (vs : List Value) (T : TypeId), w.heap[c.φ id]? = some (.cells vs.toArray T (0, 0)) ∧ F2 (VA c w m) cs vs
  | .rows e sz xs => (∀ us ∈ xs, us.length = sz) ∧ 0 < sz ∧ xs.length ≤ 1073741824 ∧ (∀ g, (c.ψ id).ownBlock = some g → ∀ k, ¬ c.S k g) ∧ ∃ vss : List (List Value), F2 (F2 (R c.S w)) xs vss ∧ w.ownsRow base e sz (c.ψ id) xs.length vss.flatten
  | .froz xs => R c.S w (.row xs) (c.ψ id)
  | .gone L => L ≤ 1073741825
  | .lent j e sz xs => j ≠ 0 ∧ (∀ us ∈ xs, us.length = sz) ∧ 0 < sz ∧ xs.length ≤ 1073741824 ∧ (∀ g, (c.ψ id).ownBlock = some g → ∀ k, c.S k g ↔ k = j) ∧ ∃ vss : List (List Value), F2 (F2 (R c.S w)) xs vss ∧ w.ownsRow base e sz (c.ψ id) xs.length vss.flatten
  | .fbox cs => c.S 0 (c.φ id) ∧ ∃ vs : List Value, F2 (R c.S w) cs vs ∧ Holds w (c.φ id) 0 vs
  | .obox cs => (base ≤ c.φ id ∨ L (c.φ id)) ∧ (∀ k, ¬ c.S k (c.φ id)) ∧ 1000000 + c.φ id = id ∧ ∃ (vs : List Value) (T : TypeId), w.heap[c.φ id]? = some (.cells vs.toArray T (0, 0)) ∧ F2 (R c.S w) cs vs
  | .orec r => (base ≤ c.φ id ∨ L (c.φ id)) ∧ (∀ k, ¬ c.S k (c.φ id)) ∧ 1000000 + c.φ id = id ∧ RecAt c.S w (c.φ id) r
  | .mapb a ks xs => base ≤ c.φ id ∧ (∀ k, ¬ c.S k (c.φ id)) ∧ ∃ vss : List (List Value), MapIs w (c.φ id) a ks vss ∧ F2 (F2 (R c.S w)) xs vss
  | .fmap a ks xs => c.S 0 (c.φ id) ∧ ∃ vss : List (List Value), MapIs w (c.φ id) a ks vss ∧ F2 (F2 (R c.S w)) xs vss
/-- The block that it lies in, where it may be written. -/
def blockOf (c : Ctx) (m : Mem) (id : Nat) : Option Nat := match m id with
  | some (.box _) => some (c.φ id)
  | some (.obox _) => some (c.φ id)
  | some (.orec _) => some (c.φ id)
  | some (.mapb _ _ _) => some (c.φ id)
  | some (.rows _ _ _) => (c.ψ id).ownBlock
  | some (.lent _ _ _ _) => (c.ψ id).ownBlock
  | _ => none
/-- The world as it was when the call began, and the blocks of others that the call may write. -/
structure W0 where
  w : World
  L : Nat → Prop
  ro : Option Nat
/-- The record of the loop in whose round the call is. -/
def RoOK (base : Nat) (w0 : W0) : Prop := ∀ l, w0.ro = some l → l < base ∧ ¬ w0.L l ∧ ∃ R, w0.w.heap[l]? = some (.loop R)
/-- Below a block's number the world is as it was, but for what may be written. -/
structure BelowX (base : Nat) (L : Nat → Prop) (w w' : World) : Prop where
  os : w'.os = w.os
  tape : w'.tape = w.tape
  output : w'.output = w.output
  size : w.heap.size ≤ w'.heap.size
  block : ∀ k, k < base → ¬ L k → w'.heap[k]? = w.heap[k]?
theorem BelowX.of {base : Nat} {L : Nat → Prop} {w w' : World} (h : Below base w w') : BelowX base L w w' := ⟨h.os, h.tape, h.output, h.size, fun k hk _ => h.block k hk⟩
theorem BelowX.to {base : Nat} {L : Nat → Prop} {w w' : World} (h : BelowX base L w w') (hL : ∀ k, ¬ L k) : Below base w w' := ⟨h.os, h.tape, h.output, h.size, fun k hk => h.block k hk (hL k)⟩
theorem BelowX.trans {base : Nat} {L : Nat → Prop} {a b c : World} (h : BelowX base L a b) (k : BelowX base L b c) : BelowX base L a c :=
  ⟨k.os.trans h.os, k.tape.trans h.tape, k.output.trans h.output, Nat.le_trans h.size k.size, fun i hi hL => (k.block i hi hL).trans (h.block i hi hL)⟩
/-- What is known of the world, since the call began. -/
structure WR (base : Nat) (S0 : Sh) (w0 : W0) (c : Ctx) (m : Mem) (w : World) : Prop where
  blk : ∀ id b, m id = some b → BlkOK c w m base w0.L id b
  inj : ∀ id id' b, blockOf c m id = some b → blockOf c m id' = some b → id = id'
  lt : ∀ k b, c.S k b → b < w.heap.size
  old : ∀ k b, S0 k b → c.S k b
  new : ∀ k b, c.S k b → S0 k b ∨ base ≤ b
  below : BelowX base w0.L w0.w w
  rok : RoOK base w0
  size : base ≤ w.heap.size
  s0 : ∀ k b, S0 k b → b < base
end Go.Proofs.Ytgkfbikffcmmdaa.Abs
