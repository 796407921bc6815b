/- The walk of DrawUnlikes. -/
import Derived.Test.YtfejpomemkfmpaaDrawTakes
import Derived.Test.YtfejpomemkfmpaaSortM
namespace Go.Proofs.Ytfejpomemkfmpaa.drawLaws
open Go.RowKit

theorem unlike_reverse (L : List Int) : unlikeB L.reverse = unlikeB L := by
  unfold unlikeB
  have : L.reverse.Nodup ↔ L.Nodup := (List.reverse_perm L).nodup_iff
  simp only [this]
theorem unlike_twice (L : List Int) : unlikeB (([3] ++ L) ++ [3]) = false := by
  unfold unlikeB
  refine decide_eq_false ?_
  simp
theorem owns_lit1 {w : World} {base : Nat} {e : TypeId} {g : Nat} (k : IntKind) (z : Int) (hb : base ≤ g) (hg : g = w.heap.size) : (w.alloc (.cells #[.int k z] e)).ownsRow base e 1 (.slice (some ⟨g, 0, none⟩) 1 1) 1 ([z].map (Value.int k)) := by
  subst hg
  refine ⟨rfl, .inr ⟨w.heap.size, 1, #[.int k z], rfl, hb, ?_, Nat.le_refl _, by decide, rfl, rfl⟩⟩
  show (w.heap.push _)[w.heap.size]? = _
  simp
theorem reverse_next {L : List Int} {k : Nat} (hk : k < L.length) : (L.drop (k + 1)).reverse ++ [L.getD k 0] = (L.drop k).reverse := by
  rw [List.drop_eq_getElem_cons hk, List.reverse_cons, List.getD_eq_getElem?_getD, List.getElem?_eq_getElem hk]
  rfl
set_option maxHeartbeats 1000000 in
theorem unlikes_long (w : World) (a : Option Addr) (n c : Nat) (h : 200 < n) :
    Calls Try.prog 4 #[.slice a n c] w fun e w' => e = .returned (.bool true) ∧ Below w.heap.size w w' := by
  go_enter Try.func4, Try.ntmps4
  go_wp2_with fail
  refine (awake_any _).mono ?_
  rintro e w1 ⟨rfl, hb⟩
  go_wp2_with fail
  refine (awake_any _).mono ?_
  rintro e w2 ⟨rfl, hb2⟩
  go_wp2_with fail
  go_ret
  exact ⟨rfl, hb.trans (hb2.mono hb.size)⟩
set_option maxHeartbeats 1000000 in
theorem unlikes (w : World) (v : Value) (L : List Int) (h : Ints .u32 w v L) (hn : L.length ≤ 200) :
    Calls Try.prog 4 #[v] w fun e w' => e = .returned (.bool true) ∧ Below w.heap.size w w' := by
  obtain ⟨i0, hi0, hz0, hz1, hz2⟩ := info_parts Try.infoU
  obtain ⟨a, c, rfl⟩ := h.form
  have H := Lib.hid h; clear h
  go_enter Try.func4, Try.ntmps4
  go_wp2_with fail
  refine (awake_any _).mono ?_
  rintro e w1 ⟨rfl, hb1⟩
  have H1 := Lib.hid (H.out.below hb1)
  clear H
  go_wp2_with fail
  go_loopw [3, 4] (fun out i wr => ∃ k : Nat, ∃ z : Int, ∃ M : List Int, k ≤ L.length ∧ z = (k : Int) - 1 ∧ i = .int .i64 z ∧ Hid (M = (L.drop k).reverse) ∧ Hid (wr.ownsRow w1.heap.size 27 1 out (L.length - k) (M.map (Value.int .u32))) ∧ Below w1.heap.size w1 wr) (fun _ i _ => (intOf i + 1).toNat)
  case atStart => exact ⟨L.length, (L.length : Int) - 1, [], Nat.le_refl _, rfl, rfl, Lib.hid (by simp), Lib.hid (by simp; exact ⟨rfl, .inl ⟨rfl, rfl⟩⟩), Below.refl _ _⟩
  case round =>
    obtain ⟨k, z, M, hk, hz, rfl, HM, HO, hb⟩ := hrel
    by_cases hlt : 0 < k
    · obtain ⟨j, rfl⟩ : ∃ j, k = j + 1 := ⟨k - 1, by omega⟩
      obtain rfl : z = (j : Nat) := by omega
      obtain ⟨b, o, c', he, _, _, hc⟩ := (H1.out.below hb).cells (by intro e; rw [e] at hk; simp at hk)
      simp only [Value.slice.injEq, true_and] at he
      obtain ⟨rfl, rfl⟩ := he
      have e1 := hc j (by omega)
      have HX := Lib.hid (reverse_next (L := L) (k := j) (by omega))
      obtain ⟨x, hx⟩ : ∃ x, L.getD j 0 = x := ⟨_, rfl⟩
      rw [hx] at e1 HX
      clear hx hc hz
      have sr : w1.heap.size ≤ wr.heap.size := hb.size
      go_wp2_with (at_builtin; refine wpList_append_ints rfl (.tmp 20) (.tmp 25) 22 rfl w1.heap.size 27 i0 .u32 0 4 Try.underlying22 hi0 hz0 hz1 hz2 (by decide) _ (L.length - (j + 1)) _ rfl (HO.out.alloc _) _ [x] rfl ?c0 ?c1 ?c2 ?_)
      case c0 => exact ints_new _ rfl rfl rfl (small _ (by simp))
      case c1 => simp; omega
      case c2 => simp; omega
      intro v3 w3 hown3 hgrow3
      have hb3 : Below w1.heap.size w1 w3 := (hb.alloc (by omega) _).grown hgrow3 (by simp; omega) (fun g hg => (HO.out.lt g hg).1)
      have HN := Lib.hid (show w3.ownsRow w1.heap.size 27 1 v3 (L.length - j) ((M ++ [x]).map (Value.int .u32)) by rw [List.map_append, show L.length - j = L.length - (j + 1) + 1 from by omega]; exact hown3)
      clear hown3 hgrow3
      go_wp2_with fail
      go_roundw
      case rel => exact ⟨j, (j : Int) - 1, M ++ [x], by omega, rfl, by go_num, Lib.hid (by rw [HM.out, HX.out]), HN, hb3⟩
      case measure => simp [intOf]
    · obtain rfl : k = 0 := by omega
      have hz0' : z < 0 := by omega
      have hMr : M = L.reverse := by have := HM.out; simpa using this
      subst hMr
      clear hz HM
      go_wp2_with fail
      have hrev : Hid (unlikeB L.reverse = unlikeB L) := Lib.hid (unlike_reverse L)
      obtain ⟨r1, r2, _⟩ := ints_of_owns HO.out
      obtain ⟨M, hM⟩ : ∃ M, L.reverse = M := ⟨_, rfl⟩
      rw [hM] at r1 hrev
      obtain ⟨x, hx⟩ : ∃ x, unlikeB L = x := ⟨_, rfl⟩
      rw [hx] at hrev
      have hMl : M.length ≤ 200 := by rw [← hM]; simpa using hn
      have T := Lib.hid r1
      have I := Lib.hid (H1.out.below hb)
      have B := hb1.trans (hb.mono hb1.size)
      clear r1 r2 HO hM
      refine (unlike_any _ L _ I.out (by omega)).mono ?_
      rintro e w2 ⟨rfl, hb2⟩
      rw [hx]
      replace T := Lib.hid (T.out.below hb2)
      replace I := Lib.hid (I.out.below hb2)
      replace B := B.trans (hb2.mono B.size)
      clear hb2
      go_wp2_with fail
      refine (runlike_any _ L _ I.out (by omega)).mono ?_
      rintro e w3 ⟨rfl, hr3⟩
      rw [hx]
      replace T := Lib.hid (T.out.below (hr3.below _))
      replace I := Lib.hid (I.out.below (hr3.below _))
      replace B := B.trans (hr3.below _)
      clear hr3
      go_wp2_with fail
      refine (unlike_any _ M _ T.out (by omega)).mono ?_
      rintro e w4 ⟨rfl, hb4⟩
      rw [hrev.out]
      replace I := Lib.hid (I.out.below hb4)
      replace B := B.trans (hb4.mono B.size)
      clear hb4 T
      go_wp2_with fail
      refine (runlike_any _ L _ I.out (by omega)).mono ?_
      rintro e w5 ⟨rfl, hr5⟩
      rw [hx]
      replace I := Lib.hid (I.out.below (hr5.below _))
      replace B := B.trans (hr5.below _)
      clear hr5
      go_wp2_with (at_builtin; refine wpList_append_ints rfl (.tmp 40) (.tmp 41) 22 rfl w5.heap.size 27 i0 .u32 0 4 Try.underlying22 hi0 hz0 hz1 hz2 (by decide) _ 1 [3] rfl (owns_lit1 .u32 3 (Nat.le_refl _) rfl) _ L rfl (I.out.alloc _) ?c1 ?c2 ?_)
      case c1 => omega
      case c2 => simp
      intro v6 w6 hown6 hgrow6
      have b6 : Below w5.heap.size w5 w6 := ((Below.refl _ _).alloc (Nat.le_refl _) _).grown hgrow6 (by simp) (fun g hg => by simp [Value.ownBlock] at hg; omega)
      have s6 := b6.size
      obtain ⟨N, hN⟩ : ∃ N, [3] ++ L = N := ⟨_, rfl⟩
      have O6 := Lib.hid (show w6.ownsRow w5.heap.size 27 1 v6 (1 + L.length) (N.map (Value.int .u32)) by rw [← hN]; exact hown6)
      clear hgrow6 hown6
      go_wp2_with (at_builtin; refine wpList_append_ints rfl (.tmp 42) (.tmp 43) 22 rfl w5.heap.size 27 i0 .u32 0 4 Try.underlying22 hi0 hz0 hz1 hz2 (by decide) _ (1 + L.length) N rfl (O6.out.alloc _) _ [3] rfl ?c0 ?c1 ?c2 ?_)
      case c0 => exact ints_new _ rfl rfl rfl (small _ (by simp))
      case c1 => simp; omega
      case c2 => simp; omega
      intro v7 w7 hown7 hgrow7
      replace hown7 : w7.ownsRow w5.heap.size 27 1 v7 (1 + L.length + 1) ((N ++ [3]).map (Value.int .u32)) := by rw [List.map_append]; exact hown7
      have b7 : Below w5.heap.size w5 w7 := (b6.alloc s6 _).grown hgrow7 (by simp; omega) (fun g hg => (O6.out.lt g hg).1)
      obtain ⟨t1, t2, _⟩ := ints_of_owns hown7
      have hl : (N ++ [3]).length ≤ 1000000 := by rw [← hN]; simp; omega
      have hlast := Lib.hid (unlike_twice L)
      rw [hN] at hlast
      have T7 := Lib.hid t1
      replace B := B.trans (b7.mono B.size)
      clear hown7 hgrow7 b7 b6 O6 t1 t2
      go_wp2_with fail
      refine (unlike_any _ (N ++ [3]) _ T7.out hl).mono ?_
      rintro e w8 ⟨rfl, hb8⟩
      rw [hlast.out]
      replace B := B.trans (hb8.mono B.size)
      go_wp2_with fail
      go_ret
      exact ⟨rfl, B⟩
end Go.Proofs.Ytfejpomemkfmpaa.drawLaws
