/- The library's sort by a heap. -/
import Derived.Test.YtfejpomemkfmpaaSortF
namespace Go.Proofs.Ytfejpomemkfmpaa
open Go.RowKit

set_option maxRecDepth 100000 in
set_option maxHeartbeats 8000000 in
theorem heap_any (a b base g n cap : Nat) (D : List Int) (w : World) (hR : SRow w base g n cap D) (hab : a < b) (hb : b ≤ n) (hn : n ≤ 1000000) :
    Calls Try.prog 30 #[.slice (some ⟨g, 0, none⟩) n cap, .int .i64 a, .int .i64 b] w (Sorts a b base g n cap D w) := by
  have HR := Lib.hid hR; clear hR
  obtain ⟨h, hh⟩ : ∃ h : Nat, ((b : Int) - (a : Int)) = (h : Int) := ⟨b - a, by omega⟩
  have hbh : b = a + h := by omega
  have h0 : 0 < h := by omega
  have SIFT := Lib.hid (show ∀ (k : Nat) (E : List Int) (wx : World), SRow wx base g n cap E → k ≤ h → Heap E a (k + 1) h → Calls Try.prog 40 #[.slice (some ⟨g, 0, none⟩) n cap, .int .i64 k, .int .i64 ((b : Int) - (a : Int)), .int .i64 a] wx (Sifts a k h base g n cap E wx) from fun k E wx h1 h2 h3 => by
    rw [hh]; exact sift_any a k h base g n cap E wx h1 h2 (by omega) hn h3)
  have SIFT2 := Lib.hid (show ∀ (j : Nat) (E : List Int) (wx : World), SRow wx base g n cap E → a + j ≤ n → Heap E a 1 j → Calls Try.prog 40 #[.slice (some ⟨g, 0, none⟩) n cap, .int .i64 0, .int .i64 j, .int .i64 a] wx (Sifts a 0 j base g n cap E wx) from fun j E wx h1 h2 h3 => sift_any a 0 j base g n cap E wx h1 (Nat.zero_le _) h2 hn h3)
  have HHH := Lib.hid hh; have HBH := Lib.hid hbh
  have l1 : 1 ≤ (b : Int) - a := by omega
  have lh : h ≤ 1000000 := by omega
  clear hh hbh
  go_enter Try.func30, Try.ntmps30
  go_wp2_with fail
  go_loopw [9] (fun vi wr => ∃ (k : Nat) (z : Int) (E : List Int), k ≤ h ∧ z = (k : Int) - 1 ∧ vi = .int .i64 z ∧ Hid (To a b base g n cap D E w wr) ∧ Hid (Heap E a k h)) (fun vi _ => (intOf vi + 1).toNat)
  case atStart =>
    refine ⟨(h - 1) / 2 + 1, ((b : Int) - a - 1) / 2, D, by omega, by have := HHH.out; omega, rfl, Lib.hid (To.refl HR.out), Lib.hid (fun i c h1 h2 h3 => ?_)⟩
    rcases h2 with h2 | h2 <;> omega
  case round =>
    obtain ⟨k, z, E, hk, hz, rfl, HT, HH⟩ := hrel
    by_cases hlt : 0 < k
    · obtain ⟨j, rfl⟩ : ∃ j, k = j + 1 := ⟨k - 1, by omega⟩
      obtain rfl : z = (j : Nat) := by omega
      clear hz
      have hjb : (j : Int) ≤ 1000000 := by omega
      go_wp2_with fail
      refine (SIFT.out j E _ HT.out.row (by omega) HH.out).mono ?_
      rintro e w2 ⟨rfl, F, hto, hhp⟩
      have HT4 := Lib.hid (HT.out.trans (hto.mono (a' := a) (b' := b) (by omega) (by have := HBH.out; omega)))
      have HH4 := Lib.hid hhp
      clear hto hhp
      go_wp2_with fail
      go_roundw
      case rel => exact ⟨j, (j : Int) - 1, F, by omega, rfl, by go_num, HT4, HH4⟩
      case measure => simp [intOf]
    · obtain rfl : k = 0 := by omega
      have hz0 : z < 0 := by omega
      have HK0 := Lib.hid (Taken.start HH.out HBH.out)
      clear hz HH
      go_wp2_with fail
      go_loopw [10] (fun vi wr => ∃ (k : Nat) (z : Int) (E : List Int), k ≤ h ∧ z = (k : Int) - 1 ∧ vi = .int .i64 z ∧ Hid (To a b base g n cap D E w wr) ∧ Hid (Taken E a b k)) (fun vi _ => (intOf vi + 1).toNat)
      case atStart => exact ⟨h, (b : Int) - a - 1, E, Nat.le_refl _, by rw [HHH.out], rfl, HT, HK0⟩
      case round =>
        clear HT HK0
        obtain ⟨k, y, E, hk, hy, rfl, HT, HK⟩ := hrel
        by_cases hlt : 0 < k
        · obtain ⟨j, rfl⟩ : ∃ j, k = j + 1 := ⟨k - 1, by omega⟩
          obtain rfl : y = (j : Nat) := by omega
          clear hy
          have hjb : (j : Int) ≤ 1000000 := by omega
          obtain ⟨P, hP⟩ : ∃ P : Nat, P = a + j := ⟨_, rfl⟩
          have bP : a ≤ P ∧ P < b := by have := HBH.out; omega
          have hj : a + j ≤ n := by omega
          have wP : IntKind.i64.wrap ((a : Int) + (j : Int)) = (P : Int) := by rw [IntWalk.i64_in _ (by omega)]; omega
          have HSW := Lib.hid (show Heap (swapped E a P) a 1 j ∧ (∀ k, k < j → at0 (swapped E a P) (a + k) ≤ at0 (swapped E a P) (a + j)) ∧ Asc (swapped E a P) (a + j) b ∧ (∀ k l, k < j → a + j < l → l < b → at0 (swapped E a P) (a + k) ≤ at0 (swapped E a P) l) from by
            rw [hP]; exact HK.out.swap (by omega) (by rw [HT.out.row.len]; exact hb))
          have x1 := HT.out.row.cell a (by omega)
          have x2 := HT.out.row.cell P (by omega)
          have z1 := HT.out.row.frozen a
          have z2 := HT.out.row.frozen P
          obtain ⟨x, hx⟩ : ∃ x, at0 E a = x := ⟨_, rfl⟩
          obtain ⟨y, hy⟩ : ∃ y, at0 E P = y := ⟨_, rfl⟩
          rw [hx] at x1
          rw [hy] at x2
          have HX := Lib.hid hx; have HY := Lib.hid hy; have HP := Lib.hid hP
          clear hx hy hP
          go_wp2_with fail
          by_cases hEq : a = P
          · have hxy : x = y := by rw [← HX.out, ← HY.out, ← hEq]
            subst hxy
            subst hEq
            go_region
            all_goals go_wp2_with fail
            have ht := (HT.out.swap hb (i := a) (j := a) (by omega) (by omega)).reads (reads1 _ 1)
            rw [HX.out] at ht
            have HT3 := Lib.hid ht
            clear ht
            refine (SIFT2.out j (swapped E a a) _ HT3.out.row hj HSW.out.1).mono ?_
            rintro e w2 ⟨rfl, F, hto, hhp⟩
            have HT4 := Lib.hid (HT3.out.trans (hto.mono (a' := a) (b' := b) (by omega) (by have := HBH.out; omega)))
            have HK4 := Lib.hid (Taken.next HSW.out.2.1 HSW.out.2.2.1 HSW.out.2.2.2 hto.turn hhp)
            clear hto hhp
            go_wp2_with fail
            go_roundw
            case rel => exact ⟨j, (j : Int) - 1, F, by omega, rfl, by go_num, HT4, HK4⟩
            case measure => simp [intOf]
          · skip
            go_region
            all_goals go_wp2_with fail
            have ht := (HT.out.swap hb (i := a) (j := P) (by omega) (by omega)).reads (reads1 _ 1)
            rw [HX.out, HY.out] at ht
            have HT3 := Lib.hid ht
            clear ht
            refine (SIFT2.out j (swapped E a P) _ HT3.out.row hj HSW.out.1).mono ?_
            rintro e w2 ⟨rfl, F, hto, hhp⟩
            have HT4 := Lib.hid (HT3.out.trans (hto.mono (a' := a) (b' := b) (by omega) (by have := HBH.out; omega)))
            have HK4 := Lib.hid (Taken.next HSW.out.2.1 HSW.out.2.2.1 HSW.out.2.2.2 hto.turn hhp)
            clear hto hhp
            go_wp2_with fail
            go_roundw
            case rel => exact ⟨j, (j : Int) - 1, F, by omega, rfl, by go_num, HT4, HK4⟩
            case measure => simp [intOf]
        · obtain rfl : k = 0 := by omega
          have hy0 : y < 0 := by omega
          clear hy
          go_wp2_with fail
          go_end0
          exact ⟨rfl, E, HT.out, HK.out.asc⟩
end Go.Proofs.Ytfejpomemkfmpaa
