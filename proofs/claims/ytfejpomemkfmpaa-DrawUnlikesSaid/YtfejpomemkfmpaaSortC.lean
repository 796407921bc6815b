/- The library's sort: the choice of a pivot. -/
import Derived.Test.YtfejpomemkfmpaaSortB
namespace Go.Proofs.Ytfejpomemkfmpaa
open Go.RowKit

theorem SRow.kept {w w' : World} {base g n cap s : Nat} {D : List Int} (h : SRow w base g n cap D) (hg : w.grownBy w' (some s)) (hne : g ≠ s) : SRow w' base g n cap D :=
  World.ownsRow.kept h hg (.inr (by simpa [Value.ownBlock] using hne))
/-- The counter of exchanges: a cell in the block s. -/
structure Cnt (w : World) (s : Nat) (m : Int) : Prop where
  cell : w.cell? ⟨s, 0, none⟩ = some (.int .i64 m)
  frozen : w.frozen? ⟨s, 0, none⟩ = false
theorem Cnt.reads {w w' : World} {s : Nat} {m : Int} (h : Cnt w s m) (r : Reads w w') : Cnt w' s m := by
  obtain ⟨q, rfl⟩ := r
  exact ⟨h.cell, h.frozen⟩
theorem Cnt.set {w : World} {s : Nat} {m : Int} (h : Cnt w s m) (k : Int) : Cnt (w.setCell ⟨s, 0, none⟩ (.int .i64 k)) s k :=
  ⟨World.cell?_setCell_same' _ _ _ (by rw [h.cell]; rfl), by rw [World.frozen?_setCell]; exact h.frozen⟩
theorem grown_set (w : World) (s k : Nat) (x : Value) : w.grownBy (w.setCell ⟨s, k, none⟩ x) (some s) := ⟨rfl, rfl, rfl, by simp, fun i _ hne => Below.heap_setCell w _ _ i (by simpa using hne)⟩
/-- What puts two places in order leaves: two places of the same range; the counter went on by one at most; no other block was written. -/
def Two (lo hi : Nat) (m : Int) (s : Nat) (w : World) (e : Ending) (w' : World) : Prop :=
  ∃ x y : Nat, ∃ k : Int, e = .returned (.tuple #[.int .i64 x, .int .i64 y]) ∧ lo ≤ x ∧ x < hi ∧ lo ≤ y ∧ y < hi ∧ m ≤ k ∧ k ≤ m + 1 ∧ Cnt w' s k ∧ w.grownBy w' (some s)
set_option maxRecDepth 100000 in
set_option maxHeartbeats 2000000 in
theorem order2_any (lo hi a b base g n cap s : Nat) (m : Int) (D : List Int) (w : World) (hR : SRow w base g n cap D) (hC : Cnt w s m) (ha : lo ≤ a ∧ a < hi) (hb : lo ≤ b ∧ b < hi) (hh : hi ≤ n) (hn : n ≤ 1000000) (hm : 0 ≤ m ∧ m ≤ 1000) :
    Calls Try.prog 46 #[.slice (some ⟨g, 0, none⟩) n cap, .int .i64 a, .int .i64 b, .pointer (some ⟨s, 0, none⟩)] w (Two lo hi m s w) := by
  have e1 := hR.cell a (by omega)
  have e2 := hR.cell b (by omega)
  obtain ⟨x, hx⟩ : ∃ x, at0 D a = x := ⟨_, rfl⟩
  obtain ⟨y, hy⟩ : ∃ y, at0 D b = y := ⟨_, rfl⟩
  rw [hx] at e1
  rw [hy] at e2
  have HC := Lib.hid hC
  obtain ⟨c1, c2⟩ := hC
  clear hR hx hy
  go_enter Try.func46, Try.ntmps46
  go_wp2_with fail
  go_quiet ((go_at_call 35; exact Calls.quiet_of_same (less_quiet _ _ _)))
  go_wp2
  · go_ret2
    exact ⟨b, a, m + 1, rfl, by omega, by omega, by omega, by omega, by omega, by omega, (HC.out.reads (reads1 _ _)).set (m + 1), grown_reads (World.grownBy.refl w _) (reads1 _ _) |>.trans (grown_set _ _ _ _)⟩
  · go_ret2
    exact ⟨a, b, m, rfl, by omega, by omega, by omega, by omega, by omega, by omega, HC.out.reads (reads1 _ _), grown_reads (World.grownBy.refl w _) (reads1 _ _)⟩
/-- What a middle leaves. -/
def Mid (lo hi : Nat) (m : Int) (s : Nat) (w : World) (e : Ending) (w' : World) : Prop :=
  ∃ x : Nat, ∃ k : Int, e = .returned (.int .i64 x) ∧ lo ≤ x ∧ x < hi ∧ m ≤ k ∧ k ≤ m + 3 ∧ Cnt w' s k ∧ w.grownBy w' (some s)
set_option maxRecDepth 100000 in
set_option maxHeartbeats 2000000 in
theorem median_any (lo hi a b c base g n cap s : Nat) (m : Int) (D : List Int) (w : World) (hR : SRow w base g n cap D) (hC : Cnt w s m) (ha : lo ≤ a ∧ a < hi) (hb : lo ≤ b ∧ b < hi) (hc : lo ≤ c ∧ c < hi) (hh : hi ≤ n) (hn : n ≤ 1000000) (hm : 0 ≤ m ∧ m ≤ 900) (hs : g ≠ s) :
    Calls Try.prog 44 #[.slice (some ⟨g, 0, none⟩) n cap, .int .i64 a, .int .i64 b, .int .i64 c, .pointer (some ⟨s, 0, none⟩)] w (Mid lo hi m s w) := by
  have HR := Lib.hid hR; have HC := Lib.hid hC
  clear hR hC
  go_enter Try.func44, Try.ntmps44
  go_wp2_with fail
  refine (order2_any lo hi a b base g n cap s m D _ HR.out HC.out ha hb hh hn (by omega)).mono ?_
  rintro e w1 ⟨x1, y1, k1, rfl, i1, i2, i3, i4, i5, i6, c1, g1⟩
  have HR1 := Lib.hid (HR.out.kept g1 hs); have HC1 := Lib.hid c1; have HG1 := Lib.hid g1
  clear c1 g1
  go_wp2_with fail
  refine (order2_any lo hi y1 c base g n cap s k1 D _ HR1.out HC1.out ⟨i3, i4⟩ hc hh hn (by omega)).mono ?_
  rintro e w2 ⟨x2, y2, k2, rfl, j1, j2, j3, j4, j5, j6, c1, g1⟩
  have HR2 := Lib.hid (HR1.out.kept g1 hs); have HC2 := Lib.hid c1; have HG2 := Lib.hid (HG1.out.trans g1)
  clear c1 g1
  go_wp2_with fail
  refine (order2_any lo hi x1 x2 base g n cap s k2 D _ HR2.out HC2.out ⟨i1, i2⟩ ⟨j1, j2⟩ hh hn (by omega)).mono ?_
  rintro e w3 ⟨x3, y3, k3, rfl, l1, l2, l3, l4, l5, l6, c1, g1⟩
  have HC3 := Lib.hid c1; have HG3 := Lib.hid (HG2.out.trans g1)
  clear c1 g1
  go_wp2_with fail
  go_ret
  exact ⟨y3, k3, rfl, l3, l4, by omega, by omega, HC3.out, HG3.out⟩
set_option maxHeartbeats 2000000 in
theorem adjacent_any (lo hi a base g n cap s : Nat) (m : Int) (D : List Int) (w : World) (hR : SRow w base g n cap D) (hC : Cnt w s m) (ha : lo < a ∧ a + 1 < hi) (hh : hi ≤ n) (hn : n ≤ 1000000) (hm : 0 ≤ m ∧ m ≤ 900) (hs : g ≠ s) :
    Calls Try.prog 43 #[.slice (some ⟨g, 0, none⟩) n cap, .int .i64 a, .pointer (some ⟨s, 0, none⟩)] w (Mid lo hi m s w) := by
  have HM := Lib.hid (show Calls Try.prog 44 #[.slice (some ⟨g, 0, none⟩) n cap, .int .i64 ((a : Int) - 1), .int .i64 a, .int .i64 ((a : Int) + 1), .pointer (some ⟨s, 0, none⟩)] w (Mid lo hi m s w) from by
    have := median_any lo hi (a - 1) a (a + 1) base g n cap s m D w hR hC (by omega) (by omega) (by omega) hh hn hm hs
    rw [show ((a : Int) - 1) = ((a - 1 : Nat) : Int) from by omega]
    exact this)
  clear hR hC
  go_enter Try.func43, Try.ntmps43
  go_wp2_with fail
  refine HM.out.mono ?_
  rintro e w1 ⟨x1, k1, rfl, r⟩
  have H := Lib.hid r
  clear r
  go_wp2_with fail
  go_ret
  exact ⟨x1, k1, rfl, H.out⟩
/-- What the choice of a pivot leaves: a place of the range, and a hint; all that was lies as it lay. -/
def Pivots (a b : Nat) (w : World) (e : Ending) (w' : World) : Prop :=
  ∃ x h : Nat, e = .returned (.tuple #[.int .i64 x, .int .i64 h]) ∧ a ≤ x ∧ x < b ∧ h ≤ 2 ∧ Below w.heap.size w w'
set_option maxRecDepth 100000 in
set_option maxHeartbeats 2000000 in
theorem choose_any (a L base g n cap : Nat) (D : List Int) (w : World) (hR : SRow w base g n cap D) (hL : 12 < L) (hb : a + L ≤ n) (hn : n ≤ 1000000) :
    Calls Try.prog 32 #[.slice (some ⟨g, 0, none⟩) n cap, .int .i64 a, .int .i64 ((a + L : Nat) : Int)] w (Pivots a (a + L) w) := by
  have hgs := hR.at_base.2
  have hne : g ≠ w.heap.size := by omega
  have R0 : SRow (w.alloc (.cells #[.int .i64 0] 3)) base g n cap D := owns_below2 hR ((Below.refl _ _).alloc (Nat.le_refl _) _)
  have C0 : Cnt (w.alloc (.cells #[.int .i64 0] 3)) w.heap.size 0 := ⟨by simp [go_sem], by simp [go_sem]⟩
  have B0 : Below w.heap.size w (w.alloc (.cells #[.int .i64 0] 3)) := (Below.refl _ _).alloc (Nat.le_refl _) _
  have hBG : ∀ x y : World, Below w.heap.size w x → x.grownBy y (some w.heap.size) → Below w.heap.size w y := fun x y h k => h.grown k h.size (fun j e => by cases e; exact Nat.le_refl _)
  have HR := Lib.hid R0; have HC := Lib.hid C0; have HB := Lib.hid B0; have HBG := Lib.hid hBG
  obtain ⟨b, hbb⟩ : ∃ b : Nat, b = a + L := ⟨_, rfl⟩
  rw [← hbb] at hb ⊢
  obtain ⟨i, hi⟩ : ∃ i : Nat, ((a : Int) + ((b : Int) - (a : Int)) / 4) = (i : Int) := ⟨a + (b - a) / 4, by omega⟩
  obtain ⟨j, hj⟩ : ∃ j : Nat, ((a : Int) + ((b : Int) - (a : Int)) / 4 * 2) = (j : Int) := ⟨a + (b - a) / 4 * 2, by omega⟩
  obtain ⟨k, hk⟩ : ∃ k : Nat, ((a : Int) + ((b : Int) - (a : Int)) / 4 * 3) = (k : Int) := ⟨a + (b - a) / 4 * 3, by omega⟩
  have bi : a < i ∧ i + 1 < b := by omega
  have bj : a < j ∧ j + 1 < b := by omega
  have bk : a < k ∧ k + 1 < b := by omega
  have A1 := Lib.hid (show ∀ (m : Int) (wx : World), SRow wx base g n cap D → Cnt wx w.heap.size m → 0 ≤ m ∧ m ≤ 900 → Calls Try.prog 43 #[.slice (some ⟨g, 0, none⟩) n cap, .int .i64 ((a : Int) + ((b : Int) - (a : Int)) / 4), .pointer (some ⟨w.heap.size, 0, none⟩)] wx (Mid a b m w.heap.size wx) from fun m wx h1 h2 h3 => by rw [hi]; exact adjacent_any a b i base g n cap _ m D wx h1 h2 bi hb hn h3 hne)
  have A2 := Lib.hid (show ∀ (m : Int) (wx : World), SRow wx base g n cap D → Cnt wx w.heap.size m → 0 ≤ m ∧ m ≤ 900 → Calls Try.prog 43 #[.slice (some ⟨g, 0, none⟩) n cap, .int .i64 ((a : Int) + ((b : Int) - (a : Int)) / 4 * 2), .pointer (some ⟨w.heap.size, 0, none⟩)] wx (Mid a b m w.heap.size wx) from fun m wx h1 h2 h3 => by rw [hj]; exact adjacent_any a b j base g n cap _ m D wx h1 h2 bj hb hn h3 hne)
  have A3 := Lib.hid (show ∀ (m : Int) (wx : World), SRow wx base g n cap D → Cnt wx w.heap.size m → 0 ≤ m ∧ m ≤ 900 → Calls Try.prog 43 #[.slice (some ⟨g, 0, none⟩) n cap, .int .i64 ((a : Int) + ((b : Int) - (a : Int)) / 4 * 3), .pointer (some ⟨w.heap.size, 0, none⟩)] wx (Mid a b m w.heap.size wx) from fun m wx h1 h2 h3 => by rw [hk]; exact adjacent_any a b k base g n cap _ m D wx h1 h2 bk hb hn h3 hne)
  have M1 := Lib.hid (show Calls Try.prog 44 #[.slice (some ⟨g, 0, none⟩) n cap, .int .i64 ((a : Int) + ((b : Int) - (a : Int)) / 4), .int .i64 ((a : Int) + ((b : Int) - (a : Int)) / 4 * 2), .int .i64 ((a : Int) + ((b : Int) - (a : Int)) / 4 * 3), .pointer (some ⟨w.heap.size, 0, none⟩)] (w.alloc (.cells #[.int .i64 0] 3)) (Mid a b 0 w.heap.size (w.alloc (.cells #[.int .i64 0] 3))) from by rw [hi, hj, hk]; exact median_any a b i j k base g n cap _ 0 D _ R0 C0 (by omega) (by omega) (by omega) hb hn (by omega) hne)
  have l13 : 12 < (b : Int) - a := by omega
  clear hR R0 C0 B0 hBG hbb hi hj hk bi bj bk hL
  have END : ∀ (x : Nat) (h : Nat) (w4 : World), a ≤ x → x < b → h ≤ 2 → (w.alloc (.cells #[.int .i64 0] 3)).grownBy w4 (some w.heap.size) → Pivots a b w (.returned (.tuple #[.int .i64 x, .int .i64 h])) w4 := fun x h w4 h1 h2 h3 h4 => ⟨x, h, rfl, h1, h2, h3, HBG.out _ _ HB.out h4⟩
  have HEND := Lib.hid END
  clear END
  by_cases h50 : 50 ≤ (b : Int) - a
  · go_enter Try.func32, Try.ntmps32
    go_wp2_with fail
    refine (A1.out 0 _ HR.out HC.out (by omega)).mono ?_
    rintro e w1 ⟨x1, k1, rfl, i1, i2, i3, i4, c1, g1⟩
    have HR1 := Lib.hid (HR.out.kept g1 hne); have HC1 := Lib.hid c1; have HG1 := Lib.hid g1
    clear c1 g1
    go_wp2_with fail
    refine (A2.out k1 _ HR1.out HC1.out (by omega)).mono ?_
    rintro e w2 ⟨x2, k2, rfl, j1, j2, j3, j4, c1, g1⟩
    have HR2 := Lib.hid (HR1.out.kept g1 hne); have HC2 := Lib.hid c1; have HG2 := Lib.hid (HG1.out.trans g1)
    clear c1 g1
    go_wp2_with fail
    refine (A3.out k2 _ HR2.out HC2.out (by omega)).mono ?_
    rintro e w3 ⟨x3, k3, rfl, l1, l2, l3, l4, c1, g1⟩
    have HR3 := Lib.hid (HR2.out.kept g1 hne); have HC3 := Lib.hid c1; have HG3 := Lib.hid (HG2.out.trans g1)
    clear c1 g1
    go_wp2_with fail
    refine (median_any a b x1 x2 x3 base g n cap _ k3 D _ HR3.out HC3.out ⟨i1, i2⟩ ⟨j1, j2⟩ ⟨l1, l2⟩ hb hn (by omega) hne).mono ?_
    rintro e w4 ⟨x4, k4, rfl, m1, m2, m3, m4, ⟨c1, c2⟩, g1⟩
    have HG4 := Lib.hid (HG3.out.trans g1)
    clear g1
    go_wp2_with fail
    all_goals go_ret2
    · exact HEND.out x4 1 w4 m1 m2 (by omega) HG4.out
    · exact HEND.out x4 2 w4 m1 m2 (by omega) HG4.out
    · exact HEND.out x4 0 w4 m1 m2 (by omega) HG4.out
  · go_enter Try.func32, Try.ntmps32
    go_wp2_with fail
    refine M1.out.mono ?_
    rintro e w4 ⟨x4, k4, rfl, m1, m2, m3, m4, ⟨c1, c2⟩, g1⟩
    have HG4 := Lib.hid g1
    clear g1
    go_wp2_with fail
    all_goals go_ret2
    · exact HEND.out x4 1 w4 m1 m2 (by omega) HG4.out
    · exact HEND.out x4 0 w4 m1 m2 (by omega) HG4.out
set_option maxRecDepth 100000 in
set_option maxHeartbeats 4000000 in
theorem reverse_any (a b base g n cap : Nat) (D : List Int) (w : World) (hR : SRow w base g n cap D) (hab : a < b) (hb : b ≤ n) (hn : n ≤ 1000000) :
    Calls Try.prog 33 #[.slice (some ⟨g, 0, none⟩) n cap, .int .i64 a, .int .i64 b] w fun e w' => e = .returned (.tuple #[]) ∧ ∃ E, To a b base g n cap D E w w' := by
  have HR := Lib.hid hR; clear hR
  go_enter Try.func33, Try.ntmps33
  go_wp2_with fail
  go_loopw [6, 7] (fun vi vj wr => ∃ (i j : Nat) (E : List Int), vi = .int .i64 i ∧ vj = .int .i64 j ∧ a ≤ i ∧ i ≤ b ∧ a ≤ j + 1 ∧ j < b ∧ Hid (To a b base g n cap D E w wr)) (fun vi _ _ => b - (intOf vi).toNat)
  case atStart => exact ⟨a, b - 1, D, rfl, by go_num, by omega, by omega, by omega, by omega, Lib.hid (To.refl HR.out)⟩
  case round =>
    obtain ⟨i, j, E, rfl, rfl, h1, h2, h3, h4, HT⟩ := hrel
    by_cases hlt : i < j
    · have e1 := HT.out.row.cell i (by omega)
      have e2 := HT.out.row.cell j (by omega)
      have f1 := HT.out.row.frozen i
      have f2 := HT.out.row.frozen j
      obtain ⟨x, hx⟩ : ∃ x, at0 E i = x := ⟨_, rfl⟩
      obtain ⟨y, hy⟩ : ∃ y, at0 E j = y := ⟨_, rfl⟩
      rw [hx] at e1
      rw [hy] at e2
      have HX := Lib.hid hx; have HY := Lib.hid hy
      clear hx hy
      go_wp2_with fail
      go_region
      all_goals go_wp2
      go_roundw
      case rel =>
        refine ⟨i + 1, j - 1, swapped E i j, by go_num, by go_num, by omega, by omega, by omega, by omega, Lib.hid ?_⟩
        have ht := (HT.out.swap hb (i := i) (j := j) (by omega) (by omega)).reads (reads1 _ 1)
        rw [HX.out, HY.out] at ht
        exact ht
      case measure => simp [intOf]; omega
    · go_wp2_with fail
      go_end0
      exact ⟨rfl, E, HT.out⟩
end Go.Proofs.Ytfejpomemkfmpaa
