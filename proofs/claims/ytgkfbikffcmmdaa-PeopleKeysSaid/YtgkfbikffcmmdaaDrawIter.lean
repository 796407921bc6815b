/- The program's iterator over draws, and the row that is collected of it. -/
import Derived.Test.YtgkfbikffcmmdaaDrawN
import Derived.RangeFuncNested
import Derived.RangeFuncBound
import Derived.RangeFuncCalls
import Derived.RangeFuncBox
import Derived.RangeFuncLeaves
import Derived.Shelf.Abstract
import Derived.Shelf.RegionOpen
import Derived.OwnWalkIn
import Derived.TacticsInMore
import Derived.LoopNIn
import Derived.LoopIn
import Derived.Maps.AppendAt
namespace Go.Proofs.Ytgkfbikffcmmdaa
open Go.RowKit Go.Shelf
attribute [local go_sem] Oper.semAt_some

/-- All blocks below n lie as they lay, but one. -/
def But (n B : Nat) (W W' : World) : Prop := ∀ k, k < n → k ≠ B → W'.heap[k]? = W.heap[k]?
theorem But.refl (n B : Nat) (W : World) : But n B W W := fun _ _ _ => rfl
theorem But.trans {n B : Nat} {X Y Z : World} (h : But n B X Y) (k : But n B Y Z) : But n B X Z := fun i hi hB => (k i hi hB).trans (h i hi hB)
theorem But.cell {n B : Nat} {X Y : World} (h : But n B X Y) {p : Addr} (hp : p.block < n) (hB : p.block ≠ B) : Y.cell? p = X.cell? p := World.cell?_of_block (w := X) (h p.block hp hB)
theorem but_b {n B : Nat} {w : World} (hn : n ≤ w.heap.size) (W : World) (l : Nat) (o o' : Obj) (hl : w.heap.size ≤ l) (h : W.heap[l]? = some o) (_ : o.isCells = false) (_ : o.isWalk = false) : But n B W (W.putObj l o') :=
  fun k hk _ => (grownBy_putObj' W l o').block k (by have := (Array.getElem?_eq_some_iff.1 h).1; omega) (by simp; omega)
theorem But.ints {n B : Nat} {X Y : World} (h : But n B X Y) {k : IntKind} {u : Value} {L : List Int} (hI : Ints k X u L) (hu : ∀ a m c, u = .slice (some a) m c → a.block < n ∧ a.block ≠ B) : Ints k Y u L := by
  rcases hI with h0 | ⟨x, c, rfl, hl, hm, hc⟩
  · exact .inl h0
  · obtain ⟨h1, h2⟩ := hu x _ _ rfl
    refine .inr ⟨x, c, rfl, hl, hm, fun i hi => ?_⟩
    have hxb : (x.add i).block = x.block := by cases x; simp only [Addr.add]; split <;> rfl
    rw [h.cell (by rw [hxb]; exact h1) (by rw [hxb]; exact h2)]; exact hc i hi
/-- What 'l = append(l, x)' leaves, l in a box, the row behind it. -/
theorem collected {W w1 : World} {n B : Nat} {t e : TypeId} {size : Nat} {v v' : Value} {k m : Nat} {xs ys : List Value} {tmp : Obj}
    (hv : Boxed W B t v) (hte : t ≠ e) (hrow : W.ownsRow n e size v k xs) (hn : n ≤ W.heap.size) (hB : B < n)
    (hown' : w1.ownsRow n e size v' m ys) (hgrow : (W.alloc tmp).grownBy w1 v.ownBlock) :
    Boxed w1 B t v ∧ Boxed (w1.setCell ⟨B, 0, none⟩ v') B t v' ∧ (w1.setCell ⟨B, 0, none⟩ v').ownsRow n e size v' m ys ∧ KeepsOthers W (w1.setCell ⟨B, 0, none⟩ v') ∧ But n B W (w1.setCell ⟨B, 0, none⟩ v') ∧ Below B W (w1.setCell ⟨B, 0, none⟩ v') := by
  have hv1 : Boxed w1 B t v := (hv.alloc tmp).kept hgrow (hv.not_row hte hrow)
  have hob : ∀ g, v.ownBlock = some g → n ≤ g := fun g eg => by
    rcases hrow.2 with ⟨rfl, _⟩ | ⟨g', cap, cur, rfl, hb, _, _⟩
    · simp [Value.ownBlock] at eg
    · obtain rfl : g' = g := by simpa [Value.ownBlock] using eg
      exact hb
  refine ⟨hv1, hv1.set v', hown'.kept (grownBy_setCell' w1 B v') (.inr (hv1.not_row hte hown').symm), ?_, ?_, ?_⟩
  · refine ((KeepsOthers.alloc W tmp).trans (KeepsOthers.of_grownBy hgrow fun j o ej hj => ?_)).trans (KeepsOthers.setCell _ _ _)
    rcases (hrow.alloc tmp).2 with ⟨rfl, _⟩ | ⟨g, cap, cur, rfl, _, hgb, _⟩
    · simp [Value.ownBlock] at ej
    · obtain rfl : g = j := by simpa [Value.ownBlock] using ej
      rw [hgb] at hj; cases hj; rfl
  · intro i hi hne
    have h1 : (W.alloc tmp).heap[i]? = W.heap[i]? := Below.heap_alloc W tmp i (by omega)
    have h2 : w1.heap[i]? = (W.alloc tmp).heap[i]? := hgrow.block i (by simp; omega) (fun e => by have := hob i e.symm; omega)
    have h3 : (w1.setCell ⟨B, 0, none⟩ v').heap[i]? = w1.heap[i]? := Below.heap_setCell w1 _ _ i (by simpa using hne)
    rw [h3, h2, h1]
  · refine (((Below.refl B W).alloc (by omega) tmp).grown hgrow (by simp; omega) fun j ej => ?_).setCell (p := ⟨B, 0, none⟩) (Nat.le_refl _) v'
    exact Nat.le_trans (Nat.le_of_lt hB) (hob j ej)

set_option maxRecDepth 100000 in
set_option maxHeartbeats 2000000 in
/-- The iterator: the draws from one place on, ahead of another one. -/
theorem iter_in (n : Nat) (hn : 1 ≤ n) (l Bf Bt Bl n₀ B : Nat) (f t : Nat) (a : Option Addr) (c : Nat) (L : List Int) (hft : f ≤ 2097152) (ht : t ≤ 2097152) (J Jx : List Int → World → Prop)
    (hY : ∀ pre x W, J pre W → pre.length < t - f → YieldAt Fence.wide (n - 1) Try.prog l #[.int .u32 x] W fun e W' =>
      (e = .returned (.bool true) ∧ J (pre ++ [x]) W' ∧ But n₀ B W W') ∨ (e = .returned (.bool false) ∧ Jx (pre ++ [x]) W'))
    (W : World) (hBf : W.cell? ⟨Bf, 0, none⟩ = some (.int .i64 f)) (hBt : W.cell? ⟨Bt, 0, none⟩ = some (.int .i64 t)) (hBl : W.cell? ⟨Bl, 0, none⟩ = some (.slice a L.length c))
    (ft : Bt < n₀ ∧ Bt ≠ B) (fl : Bl < n₀ ∧ Bl ≠ B) (hL : ∀ W', But n₀ B W W' → Ints .u32 W' (.slice a L.length c) L) (hr : ∀ x ∈ L, 0 ≤ x ∧ x < 4294967296) (h0 : J [] W) :
    CallsIn Fence.wide n Try.prog 34 #[.func (.yield l) #[] #[], .pointer (some ⟨Bf, 0, none⟩), .pointer (some ⟨Bt, 0, none⟩), .pointer (some ⟨Bl, 0, none⟩)] W fun e W' => (∃ v, e = .returned v) ∧
      ((∃ ys, ys = drawRow L f (t - f) ∧ J ys W') ∨ (∃ pre, True ∧ Jx pre W')) := by
  refine callsIn_of_wp Try.func34 rfl trivial ?_ rfl
  simp only [Try.ntmps34, List.size_toArray, List.length_cons, List.length_nil, Nat.reduceAdd, Nat.reduceSub, Array.replicate_succ, Array.replicate_zero, List.push_toArray, List.append_toArray, List.nil_append, List.cons_append]
  have HL := Lib.hid hL; have HR := Lib.hid hr; have HY := Lib.hid hY
  clear hL hr hY
  gi_wp2
  gi_loopw [5] (fun i wr => ∃ k : Nat, k ≤ t - f ∧ i = .int .i64 ((f + k : Nat) : Int) ∧ J (drawRow L f k) wr ∧ But n₀ B W wr) (fun i _ => t - (intOf i).toNat)
  case atStart => exact ⟨0, Nat.zero_le _, by simp, h0, But.refl _ _ _⟩
  case round =>
    obtain ⟨k, hk, rfl, hJs, hbt⟩ := hrel
    have b1 : wr.cell? ⟨Bt, 0, none⟩ = some (.int .i64 t) := (hbt.cell (p := ⟨Bt, 0, none⟩) ft.1 ft.2).trans hBt
    have b2 : wr.cell? ⟨Bl, 0, none⟩ = some (.slice a L.length c) := (hbt.cell (p := ⟨Bl, 0, none⟩) fl.1 fl.2).trans hBl
    have IL := Lib.hid (HL.out _ hbt)
    by_cases hlt : f + k < t
    · obtain ⟨fn, tmps, assign, body, hy, hR⟩ := HY.out _ (drawAt L (f + k)) wr hJs (by rw [drawRow_len]; omega)
      have HRR := Lib.hid hR
      clear hR
      gi_wp2
      refine ⟨trivial, ?_⟩
      rw [show ((f : Int) + (k : Int)) = ((f + k : Nat) : Int) from by omega]
      refine (callsIn_wide.2 (nth_any a c L (f + k) _ IL.out (by omega) HR.out)).mono ?_
      rintro e w1 ⟨rfl, rfl⟩
      gi_wp2
      refine HRR.out.mono ?_
      rintro e W3 (⟨rfl, hJ3, hk3⟩ | ⟨rfl, hJx3⟩)
      · gi_wp2
        go_roundw
        case rel => exact ⟨k + 1, by omega, by go_num, by rw [drawRow_next]; exact hJ3, hbt.trans hk3⟩
        case measure => simp [intOf]; omega
      · gi_wp2
        refine bodyPost_ret (results_none rfl _ _ _) rfl ?_
        exact ⟨⟨_, rfl⟩, .inr ⟨_, trivial, hJx3⟩⟩
    · obtain rfl : k = t - f := by omega
      gi_wp2
      go_end0
      exact ⟨⟨_, rfl⟩, .inl ⟨_, rfl, hJs⟩⟩
theorem iter_stops (n : Nat) (hn : 1 ≤ n) (Bf Bt Bl n₀ B : Nat) (f t : Nat) (a : Option Addr) (c : Nat) (L : List Int) (w : World) (hft : f ≤ 2097152) (ht : t ≤ 2097152) (hn₀ : n₀ ≤ w.heap.size) (hbf : Bf < w.heap.size)
    (hBf : w.cell? ⟨Bf, 0, none⟩ = some (.int .i64 f)) (hBt : w.cell? ⟨Bt, 0, none⟩ = some (.int .i64 t)) (hBl : w.cell? ⟨Bl, 0, none⟩ = some (.slice a L.length c))
    (ft : Bt < n₀ ∧ Bt ≠ B) (fl : Bl < n₀ ∧ Bl ≠ B) (hL : ∀ W', But n₀ B w W' → Ints .u32 W' (.slice a L.length c) L) (hr : ∀ x ∈ L, 0 ≤ x ∧ x < 4294967296) :
    SeqStopsK Fence.wide n Try.prog 34 #[.pointer (some ⟨Bf, 0, none⟩), .pointer (some ⟨Bt, 0, none⟩), .pointer (some ⟨Bl, 0, none⟩)] (fun x : Int => #[Value.int .u32 x]) (But n₀ B) (fun ys => ys = drawRow L f (t - f)) (fun _ => True) (t - f) w := fun l J Jx W hW _ _ hY h0 => by
  have hbw : But n₀ B w W := fun k hk _ => hW.block k (by omega)
  exact iter_in n hn l Bf Bt Bl n₀ B f t a c L hft ht J Jx hY W ((hW.cell (p := ⟨Bf, 0, none⟩) hbf).trans hBf) ((hbw.cell (p := ⟨Bt, 0, none⟩) ft.1 ft.2).trans hBt) ((hbw.cell (p := ⟨Bl, 0, none⟩) fl.1 fl.2).trans hBl) ft fl (fun W' h => hL W' (hbw.trans h)) hr h0
set_option maxHeartbeats 1000000 in
theorem draws_in (n : Nat) (a : Option Addr) (l c : Nat) (f t : Int) (w : World) :
    CallsIn Fence.wide n Try.prog 33 #[.slice a l c, .int .i64 f, .int .i64 t] w fun e w' => e = .returned (.func (.func 34) #[] #[.pointer (some ⟨w.heap.size + 1, 0, none⟩), .pointer (some ⟨w.heap.size + 1 + 1, 0, none⟩), .pointer (some ⟨w.heap.size, 0, none⟩)]) ∧
      w' = ((w.alloc (.cells #[.slice a l c] 22)).alloc (.cells #[.int .i64 f] 3)).alloc (.cells #[.int .i64 t] 3) := by
  refine callsIn_of_wp Try.func33 rfl trivial ?_ rfl
  simp only [Try.ntmps33, List.size_toArray, List.length_cons, List.length_nil, Nat.reduceAdd, Nat.reduceSub, Array.replicate_succ, Array.replicate_zero, List.push_toArray, List.append_toArray, List.nil_append, List.cons_append]
  gi_wp2
  go_ret
  exact ⟨rfl, rfl⟩
set_option maxRecDepth 100000 in
set_option maxHeartbeats 2000000 in
theorem row_row (a : Option Addr) (c : Nat) (L : List Int) (f t : Nat) (w : World) (hL : Ints .u32 w (.slice a L.length c) L) (hft : f ≤ t) (ht : t ≤ 2097152) (hr : ∀ x ∈ L, 0 ≤ x ∧ x < 4294967296) :
    Calls Try.prog 32 #[.slice a L.length c, .int .i64 f, .int .i64 t] w (GivesRow (drawRow L f (t - f)) w) := by
  refine (callsIn_wide (n := 3)).1 ?_
  obtain ⟨i0, hi0, hz0, hz1, hz2⟩ := info_parts Try.infoU
  have HL := Lib.hid hL
  refine callsIn_of_wp_marks Try.func32 rfl trivial ?_ rfl
  simp only [Try.ntmps32, List.size_toArray, List.length_cons, List.length_nil, Nat.reduceAdd, Nat.reduceSub, Array.replicate_succ, Array.replicate_zero, List.push_toArray, List.append_toArray, List.nil_append, List.cons_append]
  gi_wp2
  refine ⟨trivial, ?_⟩
  refine (draws_in 2 _ _ _ _ _ _).mono ?_
  rintro e w' ⟨rfl, rfl⟩
  gi_wp2
  have bO := Boxed.new w 22 (.slice none 0 0)
  have bL := Boxed.new (w.alloc (.cells #[.slice none 0 0] 22)) 22 (.slice a L.length c)
  have bF := Boxed.new ((w.alloc (.cells #[.slice none 0 0] 22)).alloc (.cells #[.slice a L.length c] 22)) 3 (.int .i64 f)
  have bT := Boxed.new (((w.alloc (.cells #[.slice none 0 0] 22)).alloc (.cells #[.slice a L.length c] 22)).alloc (.cells #[.int .i64 f] 3)) 3 (.int .i64 t)
  simp only [World.size_alloc] at bL bF bT
  have hB0 : Below w.heap.size w ((((w.alloc (.cells #[.slice none 0 0] 22)).alloc (.cells #[.slice a L.length c] 22)).alloc (.cells #[.int .i64 f] 3)).alloc (.cells #[.int .i64 t] 3)) := ((((Below.refl _ w).alloc (Nat.le_refl _) _).alloc (by simp) _).alloc (by simp; omega) _).alloc (by simp; omega) _
  have hsz : ((((w.alloc (.cells #[.slice none 0 0] 22)).alloc (.cells #[.slice a L.length c] 22)).alloc (.cells #[.int .i64 f] 3)).alloc (.cells #[.int .i64 t] 3)).heap.size = w.heap.size + 4 := by simp
  have hIL := hL.below hB0
  have hub : ∀ x m c', Value.slice a L.length c = .slice (some x) m c' → (x.block < w.heap.size + 4 ∧ x.block ≠ w.heap.size) ∨ L = [] := fun x m c' e => by
    by_cases hz : L = []
    · exact .inr hz
    · obtain ⟨b, o, c'', he, _, _, hc⟩ := hL.cells hz
      simp only [Value.slice.injEq, true_and] at he e
      have := lt_of_cell (hc 0 (List.length_pos_iff.2 hz))
      rw [he.1] at e
      simp only [Option.some.injEq] at e
      rw [← e.1]
      exact .inl ⟨by simp at this ⊢; omega, by simp at this ⊢; omega⟩
  have hLK : ∀ W', But (w.heap.size + 4) w.heap.size ((((w.alloc (.cells #[.slice none 0 0] 22)).alloc (.cells #[.slice a L.length c] 22)).alloc (.cells #[.int .i64 f] 3)).alloc (.cells #[.int .i64 t] 3)) W' → Ints .u32 W' (.slice a L.length c) L := fun W' h => by
    by_cases hz : L = []
    · subst hz
      rcases hL with ⟨e, _⟩ | ⟨x, c', e, hl, hm, hc⟩
      · rw [e]; exact Ints.nil _ _
      · exact .inr ⟨x, c', e, hl, hm, fun i hi => absurd hi (by simp)⟩
    · exact h.ints hIL fun x m c' e => (hub x m c' e).resolve_right hz
  obtain ⟨W0, hW0⟩ : ∃ W0, W0 = ((((w.alloc (.cells #[.slice none 0 0] 22)).alloc (.cells #[.slice a L.length c] 22)).alloc (.cells #[.int .i64 f] 3)).alloc (.cells #[.int .i64 t] 3)) := ⟨_, rfl⟩
  have bO' : Boxed W0 w.heap.size 22 (.slice none 0 0) := by rw [hW0]; exact ((bO.alloc _).alloc _).alloc _
  have bL' : Boxed W0 (w.heap.size + 1) 22 (.slice a L.length c) := by rw [hW0]; exact (bL.alloc _).alloc _
  have bF' : Boxed W0 (w.heap.size + 1 + 1) 3 (.int .i64 f) := by rw [hW0]; exact bF.alloc _
  have bT' : Boxed W0 (w.heap.size + 1 + 1 + 1) 3 (.int .i64 t) := by rw [hW0]; exact bT
  rw [← hW0] at hB0 hLK hsz ⊢
  clear bO bL bF bT hIL hW0
  refine wpIn_rangeFunc_ownG rfl (by omega) (gf := 34) (lb := #[.pointer (some ⟨w.heap.size + 1 + 1, 0, none⟩), .pointer (some ⟨w.heap.size + 1 + 1 + 1, 0, none⟩), .pointer (some ⟨w.heap.size + 1, 0, none⟩)]) rfl trivial (enters_of Try.func34 (by kernel_rfl) rfl)
    (iter_stops 2 (by omega) (w.heap.size + 1 + 1) (w.heap.size + 1 + 1 + 1) (w.heap.size + 1) (w.heap.size + 4) w.heap.size f t a c L W0 (by omega) ht (by omega) (by omega) bF'.cell bT'.cell bL'.cell (by omega) (by omega) hLK hr) But.trans (but_b (by omega)) (Below.refl _ _) (fun _ => rfl)
    (fun (pre : List Int) W => (∃ v, Boxed W w.heap.size 22 v ∧ W.ownsRow (w.heap.size + 4) 36 1 v pre.length (pre.map (Value.int .u32)) ∧ True) ∧ Below w.heap.size W0 W)
    (fun _ _ _ => False)
    (OwnFrom.and (Own.from (holdsRow_own (w.heap.size + 4) w.heap.size 22 36 1 (fun pre : List Int => pre.length) (fun pre => pre.map (Value.int .u32)) (fun _ _ => True)) _) (ownFrom_below (by omega) (by omega)))
    (fun _ _ _ _ _ hs _ _ => hs)
    ⟨⟨_, bO', World.ownsRow_nil _ _ _ _, trivial⟩, Below.refl _ _⟩
    (fun x => { tmps := #[.slice a L.length c, .int .i64 f, .int .i64 t, undef, undef, undef, .slice none 0 0, .pointer (some ⟨w.heap.size, 0, none⟩), .int .u32 x, .slice a L.length c, .int .i64 f, .int .i64 t, .func (.func 34) #[] #[.pointer (some ⟨w.heap.size + 1 + 1, 0, none⟩), .pointer (some ⟨w.heap.size + 1 + 1 + 1, 0, none⟩), .pointer (some ⟨w.heap.size + 1, 0, none⟩)], .int .u32 x, undef, undef, undef, undef, undef], defers := [] }) ?assign ?body ?done ?stop
  case assign =>
    intro l x W K hK
    gi_wp2
    exact hK
  case body =>
    rintro l pre x W ⟨⟨v, hv, hrow, _⟩, hB⟩ hlt
    have hc := hv.cell
    have hsW : w.heap.size + 4 ≤ W.heap.size := by have := hB.size; omega
    gi_wp2_with (gi_at_builtin; refine wpListIn_append_own _ rfl _ _ 22 rfl (w.heap.size + 4) 36 i0 (.int .u32 0) 1 4 Try.underlying22 hi0 hz0 hz1 hz2 rfl (by decide) _ _ _ rfl (hrow.alloc _) ⟨W.heap.size, 0, none⟩ 1 1 [.int .u32 x] rfl rfl (cell_one_new _ _ _) (by simp [Value.oneCell']) (by unfold maxLen; omega) (by omega) (by simp; omega) ?_; intro v' w1 hown' hgrow _; obtain ⟨g', cap', rfl⟩ := ownsRow_succ hown'; obtain ⟨hv1, hv2, hr2, hk2, hb2, hb3⟩ := collected hv (by decide) hrow hsW (by omega) hown' hgrow; have hc1 := hv1.cell; have hf1 := hv1.frozen)
    exact ⟨hk2.from _, hb2, ⟨_, hv2, by simpa using hr2, trivial⟩, hB.trans hb3⟩
  case done =>
    rintro D ys W hD rfl ⟨⟨v, hv, hrow, hnil⟩, hB⟩ hK
    have hc := hv.cell
    gi_wp2
    refine ⟨by simp, .inl ⟨_, _, rfl, run_takeDeferred hK, ?_⟩⟩
    exact ⟨_, results_tmp rfl _ _ _, v, rfl, owns_base (ownsRow_putObj hrow _ hK rfl) (by omega), (hB0.trans hB).trans (belowK_b (w := w) (Nat.le_refl _) W D _ _ (by omega) hK rfl rfl)⟩
  case stop =>
    rintro D c pre W _ _ h _
    exact h.elim
end Go.Proofs.Ytgkfbikffcmmdaa
