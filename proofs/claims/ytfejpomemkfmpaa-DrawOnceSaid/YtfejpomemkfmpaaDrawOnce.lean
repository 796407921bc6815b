/- The walk of DrawOnce. -/
import Derived.Test.YtfejpomemkfmpaaDrawUnlikes
namespace Go.Proofs.Ytfejpomemkfmpaa.drawLaws
open Go.RowKit

/-- A source in a box of its own, that may be written. -/
def Box2 (w : World) (B : Nat) (x y : Value) : Prop := w.heap[B]? = some (.cells #[x, y] 24 (0, 0))
theorem Box2.lt {w : World} {B : Nat} {x y : Value} (h : Box2 w B x y) : B < w.heap.size := (Array.getElem?_eq_some_iff.1 h).1
theorem Box2.c0 {w : World} {B : Nat} {x y : Value} (h : Box2 w B x y) : w.cell? ⟨B, 0, none⟩ = some x := by simp [World.cell?, show w.heap[B]? = _ from h]
theorem Box2.c1 {w : World} {B : Nat} {x y : Value} (h : Box2 w B x y) : w.cell? ⟨B, 1, none⟩ = some y := by simp [World.cell?, show w.heap[B]? = _ from h]
theorem Box2.f0 {w : World} {B : Nat} {x y : Value} (h : Box2 w B x y) (k : Nat) : w.frozen? ⟨B, k, none⟩ = false := by simp [World.frozen?, show w.heap[B]? = _ from h]
theorem Box2.below {w w' : World} {B : Nat} {x y : Value} (h : Box2 w B x y) (hb : Below w.heap.size w w') : Box2 w' B x y := (hb.block B h.lt).trans h
theorem Box2.new (w : World) (x y : Value) : Box2 (w.alloc (.cells #[x, y] 24)) w.heap.size x y := heap_alloc_new w _
theorem Box2.set0 {w : World} {B : Nat} {x y : Value} (h : Box2 w B x y) (x' : Value) : Box2 (w.setCell ⟨B, 0, none⟩ x') B x' y := by
  obtain ⟨hlt, hk⟩ := Array.getElem?_eq_some_iff.1 h
  show (w.heap.modify B _)[B]? = _
  rw [Array.getElem?_eq_getElem (by rw [Array.size_modify]; exact hlt), Array.getElem_modify_self, hk]
  rfl
theorem Box2.set1 {w : World} {B : Nat} {x y : Value} (h : Box2 w B x y) (y' : Value) : Box2 (w.setCell ⟨B, 1, none⟩ y') B x y' := by
  obtain ⟨hlt, hk⟩ := Array.getElem?_eq_some_iff.1 h
  show (w.heap.modify B _)[B]? = _
  rw [Array.getElem?_eq_getElem (by rw [Array.size_modify]; exact hlt), Array.getElem_modify_self, hk]
  rfl
theorem Box2.set {w : World} {B : Nat} {x y : Value} (h : Box2 w B x y) (x' y' : Value) : Box2 ((w.setCell ⟨B, 0, none⟩ x').setCell ⟨B, 1, none⟩ y') B x' y' := (h.set0 x').set1 y'
theorem drawAt_top (L : List Int) (i : Nat) (hr : ∀ x ∈ L, 0 ≤ x ∧ x < 4294967296) : 2147483648 ≤ drawAt L i := by
  unfold drawAt
  have : ∀ z : Int, 0 ≤ z → 2147483648 ≤ drawN z := fun z hz => by unfold drawN; split <;> omega
  refine this _ ?_
  split
  · rename_i h
    rw [List.getD_eq_getElem?_getD, List.getElem?_eq_getElem h]
    exact (hr _ (List.getElem_mem h)).1
  · omega
theorem drawRow_get (L : List Int) (f n k : Nat) (h : k < n) : (drawRow L f n).getD k 0 = drawAt L (f + k) := by
  simp [drawRow, h]
theorem drawRow_split (L : List Int) (s n : Nat) : drawRow L 0 s ++ drawRow L s n = drawRow L 0 (s + n) := by
  unfold drawRow
  rw [List.range_add, List.map_append, List.map_map]
  simp [Function.comp_def]
/-- Are all words low? -/
def lowB (L : List Int) : Bool := L.all fun x => decide (x < 1073741824)
theorem lowB_next {L : List Int} {k : Nat} (hk : k < L.length) : lowB (L.take (k + 1)) = (lowB (L.take k) && decide (L.getD k 0 < 1073741824)) := by
  unfold lowB
  rw [List.take_succ_eq_append_getElem hk, List.all_append]
  simp [hk]
theorem low_unlike {L : List Int} {n : Nat} (hr : ∀ x ∈ L, 0 ≤ x ∧ x < 4294967296) (hl : lowB L = true) (hu : unlikeB L = true) (hn : n ≤ 1000000) : unlikeB (drawRow L 0 n) = true := by
  have hd : L.Nodup := by simpa [unlikeB] using hu
  have hlow : ∀ i (h : i < L.length), 0 ≤ L[i] ∧ L[i] < 1073741824 := fun i h => by
    refine ⟨(hr _ (List.getElem_mem h)).1, ?_⟩
    have := List.all_eq_true.1 hl _ (List.getElem_mem h)
    simpa using this
  have e1 : ∀ i (h : i < L.length), drawAt L i = L[i] + 2147483648 := fun i h => by
    have := hlow i h
    unfold drawAt drawN
    rw [if_pos h, List.getD_eq_getElem?_getD, List.getElem?_eq_getElem h, Option.getD_some, if_pos (by omega)]
  have e2 : ∀ i, ¬ i < L.length → i < n → drawAt L i = (i : Int) + 3221225472 := fun i h h2 => by
    unfold drawAt drawN
    rw [if_neg h, if_pos (by omega)]; omega
  refine decide_eq_true ?_
  rw [List.nodup_iff_pairwise_ne, List.pairwise_iff_getElem]
  intro i j hi hj hij e
  have li : (drawRow L 0 n).length = n := drawRow_len _ _ _
  have g : ∀ k (h : k < (drawRow L 0 n).length), (drawRow L 0 n)[k] = drawAt L k := fun k h => by
    have := drawRow_get L 0 n k (by omega)
    rw [List.getD_eq_getElem?_getD, List.getElem?_eq_getElem h, Option.getD_some, Nat.zero_add] at this
    exact this
  rw [g i hi, g j hj] at e
  by_cases h1 : i < L.length
  · by_cases h2 : j < L.length
    · rw [e1 i h1, e1 j h2] at e
      rw [List.nodup_iff_pairwise_ne, List.pairwise_iff_getElem] at hd
      exact hd i j h1 h2 hij (by omega)
    · have := hlow i h1
      rw [e1 i h1, e2 j h2 (by omega)] at e; omega
  · rw [e2 i h1 (by omega), e2 j (by omega) (by omega)] at e; omega
set_option maxRecDepth 100000 in
set_option maxHeartbeats 1000000 in
/-- A draw: the source's list stays the very list. -/
theorem take_same (a : Option Addr) (c : Nat) (L : List Int) (n : Nat) (w : World) (hL : Ints .u32 w (.slice a L.length c) L) (hi : n ≤ 1048576) (hr : ∀ x ∈ L, 0 ≤ x ∧ x < 4294967296) :
    Calls Try.prog 9 #[.agg #[.slice a L.length c, .int .i64 n]] w fun e w' => e = .returned (.tuple #[.agg #[.slice a L.length c, .int .i64 ((n : Int) + 1)], .int .u32 (drawAt L n)]) ∧ Below w.heap.size w w' := by
  have HL := Lib.hid hL; clear hL
  have R := Lib.hid (show ∀ wx, Ints .u32 wx (.slice a L.length c) L → Calls Try.prog 18 #[.slice a L.length c, .int .i64 n] wx fun e w' => e = .returned (.int .u32 (drawAt L n)) ∧ w' = wx from fun wx h => (nth_any a c L n wx h (by omega) hr).mono fun e w' h => ⟨h.1, h.2.symm⟩)
  clear hr
  have wn : IntKind.i64.wrap ((n : Int) + 1) = (n : Int) + 1 := IntWalk.i64_in _ (by omega)
  go_enter Try.func9, Try.ntmps9
  go_wp2_with fail
  have I2 := Lib.hid ((HL.out.alloc (.cells #[.slice a L.length c, .int .i64 n] 24)).alloc (.cells #[.slice none 0 0, .int .i64 0] 24))
  obtain ⟨w2, hw2⟩ : ∃ w2, w2 = (w.alloc (.cells #[.slice a L.length c, .int .i64 n] 24)).alloc (.cells #[.slice none 0 0, .int .i64 0] 24) := ⟨_, rfl⟩
  have c0 : w2.cell? ⟨w.heap.size, 0, none⟩ = some (.slice a L.length c) := by rw [hw2]; simp [go_sem]
  have c1 : w2.cell? ⟨w.heap.size, 1, none⟩ = some (.int .i64 n) := by rw [hw2]; simp [go_sem]
  have d0 : w2.cell? ⟨w.heap.size + 1, 0, none⟩ = some (.slice none 0 0) := by rw [hw2]; simp [go_sem]
  have d1 : w2.cell? ⟨w.heap.size + 1, 1, none⟩ = some (.int .i64 0) := by rw [hw2]; simp [go_sem]
  have f0 : w2.frozen? ⟨w.heap.size + 1, 0, none⟩ = false := by rw [hw2]; simp [go_sem]
  have f1 : w2.frozen? ⟨w.heap.size + 1, 1, none⟩ = false := by rw [hw2]; simp [go_sem]
  have b2 : Below w.heap.size w w2 := by rw [hw2]; exact ((Below.refl _ _).alloc (Nat.le_refl _) _).alloc (by simp) _
  rw [← hw2] at I2 ⊢
  have r2 : Reads w2 w2.drew := (Reads.refl _).drew
  clear hw2
  go_still_tail 11, (by kernel_rfl)
  still_call (R.out _ (I2.out.reads r2))
  refine wpStill_nil ?_
  change wpList _ _ _ _ _ w2.drew
  have g0 : w2.drew.cell? ⟨w.heap.size, 0, none⟩ = some (.slice a L.length c) := c0
  have g1 : w2.drew.cell? ⟨w.heap.size, 1, none⟩ = some (.int .i64 n) := c1
  have g2 : w2.drew.cell? ⟨w.heap.size + 1, 0, none⟩ = some (.slice none 0 0) := d0
  have g3 : w2.drew.cell? ⟨w.heap.size + 1, 1, none⟩ = some (.int .i64 0) := d1
  have g4 : w2.drew.frozen? ⟨w.heap.size + 1, 0, none⟩ = false := f0
  have g5 : w2.drew.frozen? ⟨w.heap.size + 1, 1, none⟩ = false := f1
  have b3 : Below w.heap.size w w2.drew := b2.drew
  have I3 := Lib.hid (I2.out.reads r2)
  clear c0 c1 d0 d1 f0 f1 b2 r2 I2
  generalize w2.drew = w3 at g0 g1 g2 g3 g4 g5 b3 I3 ⊢
  go_wp2
  refine bodyPost_ret (v := .tuple #[.agg #[.slice a L.length c, .int .i64 ((n : Int) + 1)], .int .u32 (drawAt L n)]) (by simp [results, Try.results9, go_sem, g2, g3]) rfl ?_
  exact ⟨rfl, (b3.setCell (p := ⟨w.heap.size + 1, 0, none⟩) (by simp) _).setCell (p := ⟨w.heap.size + 1, 1, none⟩) (by simp) _⟩
end Go.Proofs.Ytfejpomemkfmpaa.drawLaws
