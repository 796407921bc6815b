/- The walk of DrawOnce, its main way. -/
import Derived.Test.YtfejpomemkfmpaaDrawOnce
namespace Go.Proofs.Ytfejpomemkfmpaa.drawLaws
open Go.RowKit

set_option maxHeartbeats 1000000 in
theorem once_long (w : World) (a : Option Addr) (l c : Nat) (s n : Int) (h : 100 < l) :
    Calls Try.prog 5 #[.slice a l c, .int .u8 s, .int .u8 n] w fun e w' => e = .returned (.bool true) ∧ Below w.heap.size w w' := by
  go_enter Try.func5, Try.ntmps5
  go_wp2_with fail
  refine (awake_any _).mono ?_
  rintro e w1 ⟨rfl, hb⟩
  go_wp2_with fail
  refine (awake_any _).mono ?_
  rintro e w2 ⟨rfl, hb2⟩
  go_wp2_with fail
  go_ret
  exact ⟨rfl, hb.trans (hb2.mono hb.size)⟩
set_option maxRecDepth 100000 in
set_option maxHeartbeats 8000000 in
theorem once (v : Value) (L : List Int) (s n : Nat) (w : World) (h : Ints .u32 w v L) (hr : ∀ x ∈ L, 0 ≤ x ∧ x < 4294967296) (hs : s ≤ 255) (hn : n ≤ 255) (hl : L.length ≤ 100) :
    Calls Try.prog 5 #[v, .int .u8 s, .int .u8 n] w fun e w' => e = .returned (.bool true) ∧ Below w.heap.size w w' := by
  obtain ⟨i0, hi0, hz0, hz1, hz2⟩ := info_parts Try.infoU
  obtain ⟨a, c, rfl⟩ := h.form
  have H := Lib.hid h; clear h
  go_enter Try.func5, Try.ntmps5
  go_wp2_with fail
  refine (awake_any _).mono ?_
  rintro e w1 ⟨rfl, hb1⟩
  have I1 := Lib.hid (H.out.below hb1)
  have HB1 := Lib.hid hb1
  have s1 := hb1.size
  clear hb1 H
  go_wp2_with fail
  have X0 := Lib.hid (Box2.new w1 (.slice a L.length c) (.int .i64 0))
  have B0 := Lib.hid ((Below.refl w1.heap.size w1).alloc (Nat.le_refl _) (.cells #[.slice a L.length c, .int .i64 0] 24))
  go_loopw [8] (fun vi wr => ∃ k : Nat, k ≤ s ∧ vi = .int .i64 k ∧ Hid (Box2 wr w1.heap.size (.slice a L.length c) (.int .i64 k)) ∧ Hid (Below w1.heap.size w1 wr)) (fun vi _ => s - (intOf vi).toNat)
  case atStart => exact ⟨0, Nat.zero_le _, rfl, X0, B0⟩
  case round =>
    obtain ⟨k, hk, rfl, HX, HB⟩ := hrel
    have x0 := HX.out.c0
    have x1 := HX.out.c1
    have z0 := HX.out.f0 0
    have z1 := HX.out.f0 1
    by_cases hlt : k < s
    · go_wp2_with fail
      refine (take_same a c L k _ (I1.out.below HB.out) (by omega) hr).mono ?_
      rintro e w2 ⟨rfl, hb2⟩
      have HX2 := Lib.hid (HX.out.below hb2)
      have HB2 := Lib.hid (HB.out.trans (hb2.mono HB.out.size))
      clear x0 x1 z0 z1 hb2
      have x0 := HX2.out.c0
      have x1 := HX2.out.c1
      have z0 := HX2.out.f0 0
      have z1 := HX2.out.f0 1
      go_wp2_with fail
      go_roundw
      case rel => exact ⟨k + 1, by omega, by go_num, Lib.hid (HX2.out.set _ _), Lib.hid ((HB2.out.setCell (p := ⟨w1.heap.size, 0, none⟩) (Nat.le_refl _) _).setCell (p := ⟨w1.heap.size, 1, none⟩) (Nat.le_refl _) _)⟩
      case measure => simp [intOf]; omega
    · obtain rfl : k = s := by omega
      go_wp2_with fail
      refine (drawn_row a c L k _ (I1.out.below HB.out) (by omega) hr).mono ?_
      rintro e w2 ⟨u2, rfl, hu2, hb2⟩
      have HX2 := Lib.hid (HX.out.below hb2)
      have HB2 := Lib.hid (HB.out.trans (hb2.mono HB.out.size))
      obtain ⟨i2, g2, _⟩ := ints_of_owns hu2
      have hlt2 := HX.out.lt
      have G2 := Lib.hid (g2.mono (show w1.heap.size + 1 ≤ wr.heap.size by omega))
      have U2 := Lib.hid i2
      have hrl : (drawRow L 0 k).length = k := drawRow_len _ _ _
      obtain ⟨R1, hR1⟩ : ∃ R, drawRow L 0 k = R := ⟨_, rfl⟩
      rw [hR1] at U2 hrl
      obtain ⟨a2, c2, rfl⟩ : ∃ a c, u2 = .slice a k c := by
        have := U2.out.form
        rw [hrl] at this
        exact this
      have HR1 := Lib.hid hR1; have HL1 := Lib.hid hrl
      clear hu2 i2 g2 hb2 x0 x1 z0 z1 HX HB hR1 hrl
      have x0 := HX2.out.c0
      have x1 := HX2.out.c1
      go_wp2_with fail
      refine (peek_row a c L k n _ (I1.out.below HB2.out) (by omega) (by omega) hr).mono ?_
      rintro e w3 ⟨u3, rfl, hu3, hb3⟩
      have HX3 := Lib.hid (HX2.out.below hb3)
      have HB3 := Lib.hid (HB2.out.trans (hb3.mono HB2.out.size))
      obtain ⟨i3, g3, _⟩ := ints_of_owns hu3
      have hlt3 := HX2.out.lt
      have G3 := Lib.hid (g3.mono (show w1.heap.size + 1 ≤ w2.heap.size by omega))
      have U3 := Lib.hid i3
      have U23 := Lib.hid (U2.out.below hb3)
      have hrl : (drawRow L k n).length = n := drawRow_len _ _ _
      obtain ⟨R2, hR2⟩ : ∃ R, drawRow L k n = R := ⟨_, rfl⟩
      rw [hR2] at U3 hrl
      obtain ⟨a3, c3, rfl⟩ : ∃ a c, u3 = .slice a n c := by
        have := U3.out.form
        rw [hrl] at this
        exact this
      have HR2 := Lib.hid hR2; have HL2 := Lib.hid hrl
      clear hu3 i3 g3 hb3 x0 x1 HX2 HB2 hR2 hrl U2
      go_wp2_with fail
      go_loopw [11] (fun vi wr => ∃ j m : Nat, j ≤ n ∧ m = k + j ∧ vi = .int .i64 j ∧ Hid (Box2 wr w1.heap.size (.slice a L.length c) (.int .i64 m)) ∧ Hid (Below w1.heap.size w1 wr) ∧ Hid (Ints .u32 wr (.slice a2 k c2) R1) ∧ Hid (Ints .u32 wr (.slice a3 n c3) R2)) (fun vi _ => n - (intOf vi).toNat)
      case atStart => exact ⟨0, k, Nat.zero_le _, rfl, rfl, HX3, HB3, U23, U3⟩
      case round =>
        clear HX3 HB3 U23 U3 hlt2 hlt3 hlt
        obtain ⟨j, m, hj, hm, rfl, HX, HB, UA, UB⟩ := hrel
        have HM := Lib.hid hm
        have hm2 : m ≤ 600 := by omega
        clear hm
        have x0 := HX.out.c0
        have x1 := HX.out.c1
        by_cases hlt : j < n
        · go_wp2_with fail
          refine (take_same a c L m _ (I1.out.below HB.out) (by omega) hr).mono ?_
          rintro e w4 ⟨rfl, hb4⟩
          have HX4 := Lib.hid (HX.out.below hb4)
          have HB4 := Lib.hid (HB.out.trans (hb4.mono HB.out.size))
          have UA4 := Lib.hid (UA.out.below hb4)
          have UB4 := Lib.hid (UB.out.below hb4)
          have hs4 := hb4.size
          have htop := drawAt_top L m hr
          have hget := drawRow_get L k n j hlt
          rw [HR2.out, ← HM.out] at hget
          obtain ⟨y, hy⟩ : ∃ y, drawAt L m = y := ⟨_, rfl⟩
          rw [hy] at htop hget ⊢
          obtain ⟨b3, o3, c3', he, _, _, hcells⟩ := UB4.out.cells (by intro e; have := HL2.out; rw [e] at this; simp at this; omega)
          simp only [Value.slice.injEq] at he
          obtain ⟨rfl, hnl, rfl⟩ := he
          clear hnl
          have e1 := hcells j (by rw [HL2.out]; exact hlt)
          rw [hget] at e1
          have hbB : w1.heap.size < w4.heap.size := by have := HX4.out.lt; exact this
          clear x0 x1 hb4 hcells hget hy HX HB UA UB
          have x0 := HX4.out.c0
          have x1 := HX4.out.c1
          have z0 := HX4.out.f0 0
          have z1 := HX4.out.f0 1
          have l3 := lt_of_cell e1
          simp only at l3
          go_wp2_with fail
          go_roundw
          case rel => exact ⟨j + 1, m + 1, by omega, by have := HM.out; omega, by go_num, Lib.hid ((HX4.out.set _ _).below ((Below.refl _ _).alloc (Nat.le_refl _) _)), Lib.hid (((HB4.out.setCell (p := ⟨w1.heap.size, 0, none⟩) (Nat.le_refl _) _).setCell (p := ⟨w1.heap.size, 1, none⟩) (Nat.le_refl _) _).alloc (by simp; omega) _),
            Lib.hid (((UA4.out.setCell G2.out (by simp) _).setCell G2.out (by simp) _).alloc _), Lib.hid (((UB4.out.setCell G3.out (by simp) _).setCell G3.out (by simp) _).alloc _)⟩
          case measure => simp [intOf]; omega
        · have hjn : j = n := by omega
          have HJ := Lib.hid hjn
          have HMN := Lib.hid (show m = k + n by have := HM.out; omega)
          have hjn2 : (n : Int) ≤ j := by omega
          clear hjn
          go_wp2_with fail
          refine (drawn_row a c L m _ (I1.out.below HB.out) (by omega) hr).mono ?_
          rintro e w5 ⟨u5, rfl, hu5, hb5⟩
          have I5 := Lib.hid ((I1.out.below HB.out).below hb5)
          have HB5 := Lib.hid (HB.out.trans (hb5.mono HB.out.size))
          have UA5 := Lib.hid (UA.out.below hb5)
          have UB5 := Lib.hid (UB.out.below hb5)
          obtain ⟨i5, g5, _⟩ := ints_of_owns hu5
          have hrl5 : (drawRow L 0 m).length = m := drawRow_len _ _ _
          obtain ⟨R5, hR5⟩ : ∃ R, drawRow L 0 m = R := ⟨_, rfl⟩
          rw [hR5] at i5 hrl5
          have U5 := Lib.hid i5
          obtain ⟨a5, c5, rfl⟩ : ∃ a c, u5 = .slice a m c := by
            have := i5.form
            rw [hrl5] at this
            exact this
          have HR5 := Lib.hid hR5; have HL5 := Lib.hid hrl5
          clear hu5 i5 g5 hb5 x0 x1 HX HB UA UB hR5 hrl5
          have HSP := Lib.hid (show R1 ++ R2 = R5 by rw [← HR1.out, ← HR2.out, ← HR5.out, HMN.out]; exact drawRow_split L k n)
          have HLU := Lib.hid (show lowB L = true → unlikeB L = true → unlikeB R5 = true from fun h1 h2 => by rw [← HR5.out]; exact low_unlike hr h1 h2 (by omega))
          go_wp2_with fail
          go_loopw [15, 16] (fun v15 vi wr => ∃ j : Nat, j ≤ L.length ∧ vi = .int .i64 j ∧ v15 = .bool (lowB (L.take j)) ∧ Hid (w5 = wr)) (fun _ vi _ => L.length - (intOf vi).toNat)
          case atStart => exact ⟨0, Nat.zero_le _, rfl, rfl, Lib.hid rfl⟩
          case round =>
            obtain ⟨i, hi, rfl, rfl, HW⟩ := hrel
            obtain rfl := HW.out
            obtain ⟨q, hq⟩ : ∃ q, lowB (L.take i) = q := ⟨_, rfl⟩
            have HQ := Lib.hid hq
            rw [hq]
            clear hq
            by_cases hil : i < L.length
            · have HNX := Lib.hid (lowB_next hil)
              cases q
              · go_wp2_with fail
                go_roundw
                case rel => exact ⟨i + 1, by omega, by go_num, by rw [HNX.out, HQ.out]; rfl, by first | exact Lib.hid rfl | exact Lib.hid trivial⟩
                case measure => simp [intOf]; omega
              · obtain ⟨ba, oa, ca, he, _, _, hcells⟩ := I5.out.cells (by intro e; rw [e] at hil; simp at hil)
                simp only [Value.slice.injEq, true_and] at he
                obtain ⟨rfl, rfl⟩ := he
                have e1 := hcells i hil
                obtain ⟨x, hx⟩ : ∃ x, L.getD i 0 = x := ⟨_, rfl⟩
                rw [hx] at e1 HNX
                clear hcells hx
                go_wp2_with fail
                go_roundw
                case rel => exact ⟨i + 1, by omega, by go_num, by rw [HNX.out, HQ.out]; rfl, by first | exact Lib.hid rfl | exact Lib.hid trivial⟩
                case measure => simp [intOf]; omega
            · have HQL := Lib.hid (show lowB L = q by have := HQ.out; rw [show i = L.length by omega, List.take_length] at this; exact this)
              cases q
              · skip
                go_wp2_with (at_builtin; refine wpList_append_ints rfl (.tmp 113) (.tmp 114) 22 rfl w5.heap.size 27 i0 .u32 0 4 Try.underlying22 hi0 hz0 hz1 hz2 (by decide) _ 0 [] rfl (owns_lit .u32 (Nat.le_refl _) rfl) _ R1 rfl (UA5.out.alloc _) (by rw [HL1.out]; omega) (by simp) ?_)
                intro v7 w7 hown7 hgrow7
                have e7 : Below w5.heap.size w5 w7 := ((Below.refl _ _).alloc (Nat.le_refl _) _).grown hgrow7 (by simp) (fun g hg => by simp [Value.ownBlock] at hg; omega)
                have O7 := Lib.hid (show w7.ownsRow w5.heap.size 27 1 v7 k (R1.map (Value.int .u32)) by have := hown7; rw [HL1.out] at this; simpa using this)
                have UB7 := Lib.hid (UB5.out.below e7)
                have E7 := Lib.hid e7
                have s7 := e7.size
                clear hown7 hgrow7 e7
                go_wp2_with (at_builtin; refine wpList_append_ints rfl (.tmp 115) (.tmp 116) 22 rfl w5.heap.size 27 i0 .u32 0 4 Try.underlying22 hi0 hz0 hz1 hz2 (by decide) _ k R1 rfl O7.out _ R2 rfl UB7.out (by rw [HL2.out]; omega) s7 ?_)
                intro v8 w8 hown8 hgrow8
                replace hown8 : w8.ownsRow w5.heap.size 27 1 v8 (k + R2.length) ((R1 ++ R2).map (Value.int .u32)) := by rw [List.map_append]; exact hown8
                have e8 : Below w5.heap.size w5 w8 := E7.out.grown hgrow8 s7 (fun g hg => (O7.out.lt g hg).1)
                have U8 := Lib.hid (ints_of_owns hown8).1
                have U58 := Lib.hid (U5.out.below e8)
                have HE8 := Lib.hid (HB5.out.trans (e8.mono HB5.out.size))
                clear hown8 hgrow8 e8
                go_wp2_with fail
                refine (rsame_true _ _ R5 _ U58.out (by have := U8.out; rw [HSP.out] at this; exact this)).mono ?_
                rintro e w9 ⟨rfl, hr9⟩
                go_wp2_with fail
                go_ret
                exact ⟨rfl, HB1.out.trans ((HE8.out.trans (hr9.below _)).mono s1)⟩
              · go_wp2_with fail
                refine (runlike_any _ L _ I5.out (by omega)).mono ?_
                rintro e w6 ⟨rfl, hr6⟩
                have UA6 := Lib.hid (UA5.out.reads hr6)
                have UB6 := Lib.hid (UB5.out.reads hr6)
                have U6 := Lib.hid (U5.out.reads hr6)
                have HB6 := Lib.hid (HB5.out.trans (hr6.below _))
                clear hr6
                obtain ⟨p, hp⟩ : ∃ p, unlikeB L = p := ⟨_, rfl⟩
                have HPP := Lib.hid hp
                rw [hp]
                clear hp
                cases p
                · skip
                  go_wp2_with (at_builtin; refine wpList_append_ints rfl (.tmp 113) (.tmp 114) 22 rfl w6.heap.size 27 i0 .u32 0 4 Try.underlying22 hi0 hz0 hz1 hz2 (by decide) _ 0 [] rfl (owns_lit .u32 (Nat.le_refl _) rfl) _ R1 rfl (UA6.out.alloc _) (by rw [HL1.out]; omega) (by simp) ?_)
                  intro v7 w7 hown7 hgrow7
                  have e7 : Below w6.heap.size w6 w7 := ((Below.refl _ _).alloc (Nat.le_refl _) _).grown hgrow7 (by simp) (fun g hg => by simp [Value.ownBlock] at hg; omega)
                  have O7 := Lib.hid (show w7.ownsRow w6.heap.size 27 1 v7 k (R1.map (Value.int .u32)) by have := hown7; rw [HL1.out] at this; simpa using this)
                  have UB7 := Lib.hid (UB6.out.below e7)
                  have E7 := Lib.hid e7
                  have s7 := e7.size
                  clear hown7 hgrow7 e7
                  go_wp2_with (at_builtin; refine wpList_append_ints rfl (.tmp 115) (.tmp 116) 22 rfl w6.heap.size 27 i0 .u32 0 4 Try.underlying22 hi0 hz0 hz1 hz2 (by decide) _ k R1 rfl O7.out _ R2 rfl UB7.out (by rw [HL2.out]; omega) s7 ?_)
                  intro v8 w8 hown8 hgrow8
                  replace hown8 : w8.ownsRow w6.heap.size 27 1 v8 (k + R2.length) ((R1 ++ R2).map (Value.int .u32)) := by rw [List.map_append]; exact hown8
                  have e8 : Below w6.heap.size w6 w8 := E7.out.grown hgrow8 s7 (fun g hg => (O7.out.lt g hg).1)
                  have U8 := Lib.hid (ints_of_owns hown8).1
                  have U58 := Lib.hid (U6.out.below e8)
                  have HE8 := Lib.hid (HB6.out.trans (e8.mono HB6.out.size))
                  clear hown8 hgrow8 e8
                  go_wp2_with fail
                  refine (rsame_true _ _ R5 _ U58.out (by have := U8.out; rw [HSP.out] at this; exact this)).mono ?_
                  rintro e w9 ⟨rfl, hr9⟩
                  go_wp2_with fail
                  go_ret
                  exact ⟨rfl, HB1.out.trans ((HE8.out.trans (hr9.below _)).mono s1)⟩
                · have HUA := Lib.hid (HLU.out HQL.out HPP.out)
                  go_wp2_with fail
                  refine (unlike_any _ R5 _ U6.out (by rw [HL5.out]; omega)).mono ?_
                  rintro e w10 ⟨rfl, hb10⟩
                  rw [HUA.out]
                  have UA10 := Lib.hid (UA6.out.below hb10)
                  have UB10 := Lib.hid (UB6.out.below hb10)
                  have U10 := Lib.hid (U6.out.below hb10)
                  have HB10 := Lib.hid (HB6.out.trans (hb10.mono HB6.out.size))
                  clear hb10
                  go_wp2_with (at_builtin; refine wpList_append_ints rfl (.tmp 113) (.tmp 114) 22 rfl w10.heap.size 27 i0 .u32 0 4 Try.underlying22 hi0 hz0 hz1 hz2 (by decide) _ 0 [] rfl (owns_lit .u32 (Nat.le_refl _) rfl) _ R1 rfl (UA10.out.alloc _) (by rw [HL1.out]; omega) (by simp) ?_)
                  intro v7 w7 hown7 hgrow7
                  have e7 : Below w10.heap.size w10 w7 := ((Below.refl _ _).alloc (Nat.le_refl _) _).grown hgrow7 (by simp) (fun g hg => by simp [Value.ownBlock] at hg; omega)
                  have O7 := Lib.hid (show w7.ownsRow w10.heap.size 27 1 v7 k (R1.map (Value.int .u32)) by have := hown7; rw [HL1.out] at this; simpa using this)
                  have UB7 := Lib.hid (UB10.out.below e7)
                  have E7 := Lib.hid e7
                  have s7 := e7.size
                  clear hown7 hgrow7 e7
                  go_wp2_with (at_builtin; refine wpList_append_ints rfl (.tmp 115) (.tmp 116) 22 rfl w10.heap.size 27 i0 .u32 0 4 Try.underlying22 hi0 hz0 hz1 hz2 (by decide) _ k R1 rfl O7.out _ R2 rfl UB7.out (by rw [HL2.out]; omega) s7 ?_)
                  intro v8 w8 hown8 hgrow8
                  replace hown8 : w8.ownsRow w10.heap.size 27 1 v8 (k + R2.length) ((R1 ++ R2).map (Value.int .u32)) := by rw [List.map_append]; exact hown8
                  have e8 : Below w10.heap.size w10 w8 := E7.out.grown hgrow8 s7 (fun g hg => (O7.out.lt g hg).1)
                  have U8 := Lib.hid (ints_of_owns hown8).1
                  have U58 := Lib.hid (U10.out.below e8)
                  have HE8 := Lib.hid (HB10.out.trans (e8.mono HB10.out.size))
                  clear hown8 hgrow8 e8
                  go_wp2_with fail
                  refine (rsame_true _ _ R5 _ U58.out (by have := U8.out; rw [HSP.out] at this; exact this)).mono ?_
                  rintro e w9 ⟨rfl, hr9⟩
                  go_wp2_with fail
                  go_ret
                  exact ⟨rfl, HB1.out.trans ((HE8.out.trans (hr9.below _)).mono s1)⟩
end Go.Proofs.Ytfejpomemkfmpaa.drawLaws
