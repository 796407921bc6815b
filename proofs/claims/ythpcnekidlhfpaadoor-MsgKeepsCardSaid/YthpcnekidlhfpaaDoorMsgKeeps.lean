/- MsgKeeps: whatever words, the law returns true. -/
import Derived.Test.YthpcnekidlhfpaaDoorMsgH
namespace Go.Proofs.YthpcnekidlhfpaaDoor.msgKeeps
open Go.RowKit

set_option maxHeartbeats 1000000 in
theorem walk_long (w : World) (a1 : Option Addr) (n1 c1 : Nat) (h1 : 200 < n1) (hm : Masks w) :
    Calls Tryd.prog 7 #[.slice a1 n1 c1] w fun e w' => e = .returned (.bool true) ∧ Below w.heap.size w w' := by
  have HM := Lib.hid hm; clear hm
  go_enter Tryd.func7, Tryd.ntmps7
  go_wp2_with fail
  refine (awake_any _ HM.out).mono ?_
  rintro e w1 ⟨rfl, hb1⟩
  have b1 := hb1
  go_wp2_with fail
  refine (awake_any _ (HM.out.below b1)).mono ?_
  rintro e w2 ⟨rfl, hb2⟩
  go_wp2_with fail
  go_ret
  exact ⟨rfl, b1.trans (hb2.mono b1.size)⟩
set_option maxHeartbeats 2000000 in
theorem walk_main (w : World) (v : Value) (A : List Int) (hv : Ints .u32 w v A) (hn : A.length ≤ 200) (hr : ∀ x ∈ A, 0 ≤ x ∧ x < 4294967296) (hm : Masks w) :
    Calls Tryd.prog 7 #[v] w fun e w' => e = .returned (.bool true) ∧ Below w.heap.size w w' := by
  obtain ⟨i0, hi, hz0, hz1, hz2⟩ := info_parts Tryd.infoU
  have HM := Lib.hid hm; have HV := Lib.hid hv; have HR := Lib.hid hr
  obtain ⟨a1, c1, rfl⟩ := hv.form
  clear hm hv hr
  obtain ⟨⟨k, r, a, b, n, x, o⟩, er, hG⟩ : ∃ m er, getM A = (m, er) := ⟨_, _, rfl⟩
  have HG := Lib.hid hG; clear hG
  go_enter Tryd.func7, Tryd.ntmps7
  go_wp2_with fail
  refine (awake_any _ HM.out).mono ?_
  rintro e w1 ⟨rfl, b1⟩
  have s1 := b1.size
  go_wp2_with (at_builtin; refine wpList_append_ints rfl (.tmp 17) (.tmp 18) 26 rfl w.heap.size 22 i0 .u32 0 4 Tryd.underlying26 hi hz0 hz1 hz2 (by decide) _ 0 [] rfl (owns_lit .u32 s1 rfl) _ A rfl ((HV.out.below b1).alloc _) ?c1 ?c2 ?_)
  case c1 => omega
  case c2 => simp; omega
  intro v2 w2 hown hgrow
  have b2 : Below w.heap.size w w2 := (b1.alloc s1 _).grown hgrow (by simp; omega) (fun g hg => by simp [Value.ownBlock] at hg; omega)
  clear hgrow
  have hown2 : w2.ownsRow w.heap.size 22 1 v2 A.length (A.map (Value.int .u32)) := by simpa using hown
  clear hown
  obtain ⟨hI, _, _⟩ := ints_of_owns hown2
  obtain ⟨a2, c2, rfl⟩ := hI.form
  have I2 := Lib.hid hI; have O2 := Lib.hid hown2
  clear hI hown2
  go_wp2_with fail
  refine (mget_at k r a b n x o er _ A _ I2.out HR.out (HM.out.below b2) HG.out).mono ?_
  rintro e w3 ⟨rfl, hb3⟩
  have b3 := b2.trans (hb3.mono b2.size)
  have d3 : Below w.heap.size w (w3.alloc (.cells #[.int .u32 k, .int .u32 r, .int .u32 a, .int .u32 b, .int .u32 n, .int .u32 x, .int .u32 o] 24)) := b3.alloc b3.size _
  have f3 : Below w2.heap.size w2 (w3.alloc (.cells #[.int .u32 k, .int .u32 r, .int .u32 a, .int .u32 b, .int .u32 n, .int .u32 x, .int .u32 o] 24)) := hb3.alloc hb3.size _
  go_wp2_with fail
  refine (mkind_any _ A _ (I2.out.below f3) HR.out (HM.out.below d3)).mono ?_
  rintro e w4 ⟨rfl, hb4⟩
  have hx4 := block_below (heap_alloc_new w3 (.cells #[.int .u32 k, .int .u32 r, .int .u32 a, .int .u32 b, .int .u32 n, .int .u32 x, .int .u32 o] 24 (0, 0))) hb4
  have b4 := d3.trans (hb4.mono d3.size)
  have f4 := f3.trans (hb4.mono f3.size)
  have HX4 := Lib.hid hx4
  have O4 := Lib.hid (owns_below O2.out f4)
  clear hx4 hb4 hb3 O2
  go_wp2_with fail
  refine (rsame_any _ _ A A _ (I2.out.below f4) (HV.out.below b4)).mono ?_
  rintro e w5 ⟨rfl, q5, rfl⟩
  rw [show sameB A A = true from decide_eq_true rfl]
  have b5 := b4.trans ((reads1 w4 q5).below w.heap.size)
  have O5 := Lib.hid (owns_below O4.out ((reads1 w4 q5).below _))
  have HX5 := Lib.hid (block_below HX4.out ((reads1 w4 q5).below _))
  rcases owns_form O5.out with h0 | ⟨g, cap, he, hg1, hg2⟩
  · obtain rfl : A = [] := List.eq_nil_of_length_eq_zero h0
    go_wp2_with fail
    go_loop [6] (fun i => i = .int .i64 0) (fun _ => 0)
    case atStart => rfl
    case round =>
      obtain rfl := hrel
      go_wp2_with fail
      refine (rmget_at k r a b n x o er _ [] _ (HV.out.below b5) HR.out HG.out).mono ?_
      rintro e w8 ⟨rfl, hb8⟩
      obtain ⟨x0, x1, x2, x3, x4, x5, x6⟩ := m7_cell (m := ⟨k, r, a, b, n, x, o⟩) (block_below HX5.out hb8)
      simp only at x0 x1 x2 x3 x4 x5 x6
      have s8 := hb8.size
      have l8 : w3.heap.size < w8.heap.size := block_lt (block_below HX5.out hb8)
      go_wp2_with fail
      go_outline
      go_ret
      exact ⟨rfl, ((b5).trans (hb8.mono (b5).size)).alloc (by have := (b5).size; omega) _⟩
  · simp only [Value.slice.injEq, true_and] at he
    obtain ⟨rfl, rfl⟩ := he
    go_wp2_with fail
    go_loopw [6] (fun i wr => ∃ j : Nat, j ≤ A.length ∧ i = .int .i64 j ∧ Hid (∃ xs, wr.ownsRow w.heap.size 22 1 (.slice (some ⟨g, 0, none⟩) A.length c2) A.length xs) ∧ Below w.heap.size w wr ∧ Hid (wr.heap[w3.heap.size]? = some (.cells #[.int .u32 k, .int .u32 r, .int .u32 a, .int .u32 b, .int .u32 n, .int .u32 x, .int .u32 o] 24 (0, 0)))) (fun i _ => A.length - (intOf i).toNat)
    case atStart => exact ⟨0, Nat.zero_le _, rfl, Lib.hid ⟨_, O5.out⟩, b5, HX5⟩
    case round =>
      obtain ⟨j, hj, rfl, HO, hb, HX⟩ := hrel
      by_cases hlt : j < A.length
      · obtain ⟨xs, hxs⟩ := HO.out
        obtain ⟨y, hy⟩ : ∃ y, wr.cell? ⟨g, j, none⟩ = some y := by
          rw [hxs.cellAt j (by omega), List.getElem?_eq_getElem (by rw [hxs.1]; omega)]
          exact ⟨_, rfl⟩
        have hfz := hxs.frozenAt j
        have hnext := (hxs.stored j (.int .u32 5)).1
        have HN := Lib.hid hnext
        have hne := block_ne HX.out hxs (by decide)
        have hb6 : Below w.heap.size w (wr.setCell ⟨g, j, none⟩ (.int .u32 5)) := hb.setCell (p := ⟨g, j, none⟩) hg1 _
        have HX6 := Lib.hid ((heap_setCell_other wr ⟨g, j, none⟩ w3.heap.size (.int .u32 5) (by simpa [Value.ownBlock] using hne)).trans HX.out)
        clear hxs hnext hne
        go_wp2_with fail
        go_roundw
        case rel => exact ⟨j + 1, by omega, by go_num, Lib.hid ⟨_, HN.out⟩, hb6, HX6⟩
        case measure => simp [intOf]; omega
      · obtain rfl : j = A.length := by omega
        go_wp2_with fail
        refine (rmget_at k r a b n x o er _ A _ (HV.out.below hb) HR.out HG.out).mono ?_
        rintro e w8 ⟨rfl, hb8⟩
        obtain ⟨x0, x1, x2, x3, x4, x5, x6⟩ := m7_cell (m := ⟨k, r, a, b, n, x, o⟩) (block_below HX.out hb8)
        simp only at x0 x1 x2 x3 x4 x5 x6
        have s8 := hb8.size
        have l8 : w3.heap.size < w8.heap.size := block_lt (block_below HX.out hb8)
        go_wp2_with fail
        go_ret
        exact ⟨rfl, ((hb).trans (hb8.mono (hb).size)).alloc (by have := (hb).size; omega) _⟩
theorem walk (w : World) (v1 : Value) (A : List Int) (h1 : Ints .u32 w v1 A) (hw : ∀ n ∈ A, (Lit.int .u32 n).wf = true) (hm : Masks w) :
    Calls Tryd.prog 7 #[v1] w fun e w' => e = .returned (.bool true) ∧ Below w.heap.size w w' := by
  by_cases h : 200 < A.length
  · obtain ⟨a1, c1, rfl⟩ := h1.form
    exact walk_long w a1 _ c1 h hm
  · exact walk_main w v1 A h1 (by omega) (range32 hw) hm
end Go.Proofs.YthpcnekidlhfpaaDoor.msgKeeps
