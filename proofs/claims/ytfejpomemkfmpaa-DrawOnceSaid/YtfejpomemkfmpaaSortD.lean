/- The library's sort: patterns are broken up by words at random. -/
import Derived.Test.YtfejpomemkfmpaaSortC
import Derived.Laws.Bits64
import Derived.Laws.Bits64b
import Derived.Maps.Range
namespace Go.Proofs.Ytfejpomemkfmpaa
open Go.RowKit

theorem pow_len_aux : ∀ (f x : Nat), 0 < x → 2 ^ Lib.bitLenAux f x ≤ 2 * x
  | 0, x, h => by simp [Lib.bitLenAux]; omega
  | f + 1, x, h => by
    simp only [Lib.bitLenAux]
    rw [if_neg (by omega)]
    by_cases h2 : x / 2 = 0
    · have e : Lib.bitLenAux f (x / 2) = 0 := by rw [h2]; cases f <;> simp [Lib.bitLenAux]
      rw [e]; omega
    · have := pow_len_aux f (x / 2) (by omega)
      rw [Nat.pow_add]
      omega
theorem pow_len (n : Nat) (h : 0 < n) : 2 ^ Lib.bitLen n ≤ 2 * n := pow_len_aux 64 n h
set_option maxHeartbeats 1000000 in
theorem power_any (L : Nat) (w : World) (h0 : 0 < L) (h1 : L ≤ 1000000) :
    Calls Try.prog 41 #[.int .i64 L] w fun e w' => (∃ M : Nat, 1 ≤ M ∧ M ≤ 2 * L ∧ e = .returned (.int .u64 M)) ∧ w = w' := by
  obtain ⟨M, hM⟩ : ∃ M : Nat, M = 2 ^ Lib.bitLen L := ⟨_, rfl⟩
  have hm := pow_len L h0
  have hm1 : 1 ≤ M := by rw [hM]; exact Nat.two_pow_pos _
  rw [← hM] at hm
  have hk := bitLen_small L h1
  have e1 : (L : Int).toNat = L := by omega
  have hw : IntKind.u64.wrap ((2 : Int) ^ Lib.bitLen L) = (M : Int) := by
    rw [show ((2 : Int) ^ Lib.bitLen L) = ((2 ^ Lib.bitLen L : Nat) : Int) by push_cast; rfl, ← hM, IntKind.wrap_u64]
    omega
  have HP := Lib.hid (show ∀ e : Ending, e = .returned (.int .u64 (M : Int)) → ∃ M : Nat, 1 ≤ M ∧ M ≤ 2 * L ∧ e = .returned (.int .u64 M) from fun e he => ⟨M, hm1, hm, he⟩)
  clear hM hm hm1
  go_enter Try.func41, Try.ntmps41
  go_wp2_with fail
  refine (len_any L _ (by omega) (by omega)).mono ?_
  rintro e w1 ⟨rfl, rfl⟩
  rw [e1]
  obtain ⟨k, hkk⟩ : ∃ k, Lib.bitLen L = k := ⟨_, rfl⟩
  rw [hkk] at hw hk ⊢
  clear hkk e1
  go_wp2_with fail
  go_ret
  exact ⟨HP.out _ rfl, rfl⟩
/-- The cell of the words at random. -/
structure Rnd (w : World) (s : Nat) : Prop where
  cell : ∃ X : Nat, X < 18446744073709551616 ∧ w.cell? ⟨s, 0, none⟩ = some (.int .u64 X)
  frozen : w.frozen? ⟨s, 0, none⟩ = false
  lt : s < w.heap.size
/-- A word at random, in place of the one that was. -/
def Draws (s : Nat) (w : World) (e : Ending) (w' : World) : Prop :=
  ∃ R : Nat, R < 18446744073709551616 ∧ e = .returned (.int .u64 R) ∧ Rnd w' s ∧ w.grownBy w' (some s)
theorem xor_small (X Y : Nat) (hX : X < 18446744073709551616) (hY : Y < 18446744073709551616) : ∃ Z : Nat, Z < 18446744073709551616 ∧ bits .xor .u64 (X : Int) (Y : Int) = (Z : Int) :=
  ⟨X ^^^ Y, Nat.xor_lt_two_pow (n := 64) (by omega) (by omega), bits_xor_u64_nat _ _ hX hY⟩
set_option maxRecDepth 100000 in
set_option maxHeartbeats 4000000 in
theorem next_any (s : Nat) (w : World) (hR : Rnd w s) :
    Calls Try.prog 42 #[.pointer (some ⟨s, 0, none⟩)] w (Draws s w) := by
  obtain ⟨⟨X, hX, c0⟩, f0, lt⟩ := hR
  obtain ⟨A, hA, eA⟩ := xor_small X (X * 8192 % 18446744073709551616) hX (by omega)
  obtain ⟨B, hB, eB⟩ := xor_small A (A / 128) hA (by omega)
  obtain ⟨C, hC, eC⟩ := xor_small B (B * 131072 % 18446744073709551616) hB (by omega)
  have e1 : bits .xor .u64 (X : Int) (IntKind.u64.wrap ((X : Int) * 8192)) = (A : Int) := by
    rw [IntKind.wrap_u64, show ((X : Int) * 8192 % 18446744073709551616) = ((X * 8192 % 18446744073709551616 : Nat) : Int) by omega]; exact eA
  have e2 : bits .xor .u64 (A : Int) ((A : Int) / 128) = (B : Int) := by
    rw [show ((A : Int) / 128) = ((A / 128 : Nat) : Int) by omega]; exact eB
  have e3 : bits .xor .u64 (B : Int) (IntKind.u64.wrap ((B : Int) * 131072)) = (C : Int) := by
    rw [IntKind.wrap_u64, show ((B : Int) * 131072 % 18446744073709551616) = ((B * 131072 % 18446744073709551616 : Nat) : Int) by omega]; exact eC
  clear eA eB eC
  have G := Lib.hid (World.grownBy.refl w (some s))
  go_enter Try.func42, Try.ntmps42
  go_wp2_with fail
  go_region
  have c1 : ((w).setCell ⟨s, 0, none⟩ (.int .u64 (A : Int))).drew.cell? ⟨s, 0, none⟩ = some (.int .u64 A) := World.cell?_setCell_same' w _ _ (by rw [c0]; rfl)
  have f1 : ((w).setCell ⟨s, 0, none⟩ (.int .u64 (A : Int))).drew.frozen? ⟨s, 0, none⟩ = false := (World.frozen?_setCell w _ _ _).trans f0
  have g1 : w.grownBy ((w).setCell ⟨s, 0, none⟩ (.int .u64 (A : Int))).drew (some s) := grown_reads (G.out.trans (grown_set w s 0 _)) (reads1 _ 1)
  generalize ((w).setCell ⟨s, 0, none⟩ (.int .u64 (A : Int))).drew = w2 at c1 f1 g1 ⊢
  clear c0 f0 G
  have c0 := c1; have f0 := f1; have G := Lib.hid g1
  clear c1 f1 g1
  go_wp2_with fail
  go_region
  have c1 : ((w2).setCell ⟨s, 0, none⟩ (.int .u64 (B : Int))).drew.cell? ⟨s, 0, none⟩ = some (.int .u64 B) := World.cell?_setCell_same' w2 _ _ (by rw [c0]; rfl)
  have f1 : ((w2).setCell ⟨s, 0, none⟩ (.int .u64 (B : Int))).drew.frozen? ⟨s, 0, none⟩ = false := (World.frozen?_setCell w2 _ _ _).trans f0
  have g1 : w.grownBy ((w2).setCell ⟨s, 0, none⟩ (.int .u64 (B : Int))).drew (some s) := grown_reads (G.out.trans (grown_set w2 s 0 _)) (reads1 _ 1)
  generalize ((w2).setCell ⟨s, 0, none⟩ (.int .u64 (B : Int))).drew = w3 at c1 f1 g1 ⊢
  clear c0 f0 G
  have c0 := c1; have f0 := f1; have G := Lib.hid g1
  clear c1 f1 g1
  go_wp2_with fail
  go_region
  have c1 : ((w3).setCell ⟨s, 0, none⟩ (.int .u64 (C : Int))).drew.cell? ⟨s, 0, none⟩ = some (.int .u64 C) := World.cell?_setCell_same' w3 _ _ (by rw [c0]; rfl)
  have f1 : ((w3).setCell ⟨s, 0, none⟩ (.int .u64 (C : Int))).drew.frozen? ⟨s, 0, none⟩ = false := (World.frozen?_setCell w3 _ _ _).trans f0
  have g1 : w.grownBy ((w3).setCell ⟨s, 0, none⟩ (.int .u64 (C : Int))).drew (some s) := grown_reads (G.out.trans (grown_set w3 s 0 _)) (reads1 _ 1)
  generalize ((w3).setCell ⟨s, 0, none⟩ (.int .u64 (C : Int))).drew = w4 at c1 f1 g1 ⊢
  clear c0 f0 G
  have c0 := c1; have f0 := f1; have G := Lib.hid g1
  clear c1 f1 g1
  go_wp2_with fail
  go_ret
  exact ⟨C, hC, rfl, ⟨⟨C, hC, c0⟩, f0, Nat.lt_of_lt_of_le lt G.out.size⟩, G.out⟩
theorem To.aside {a b base g n cap s : Nat} {D E : List Int} {w w' w'' : World} (h : To a b base g n cap D E w w') (k : w'.grownBy w'' (some s)) (hs : w.heap.size ≤ s) (hg : g < w.heap.size) : To a b base g n cap D E w w'' :=
  ⟨h.row.kept k (by omega), h.gr.andThen k (fun j e => by cases e; exact .inl hs), h.turn⟩
theorem Rnd.aside {w w' : World} {s g : Nat} (h : Rnd w s) (k : w.grownBy w' (some g)) (hne : s ≠ g) : Rnd w' s := by
  obtain ⟨⟨X, hX, hc⟩, hf, hl⟩ := h
  exact ⟨⟨X, hX, k.cell hc (by simpa using hne)⟩, (World.frozen?_of_block (w := w) (a := ⟨s, 0, none⟩) (k.block s hl (by simpa using hne))).trans hf, Nat.lt_of_lt_of_le hl k.size⟩
/-- The row was turned about. -/
def Turns (a b base g n cap : Nat) (D : List Int) (w : World) (e : Ending) (w' : World) : Prop := e = .returned (.tuple #[]) ∧ ∃ E, To a b base g n cap D E w w'
set_option maxRecDepth 100000 in
set_option maxHeartbeats 8000000 in
theorem break_any (a b base g n cap : Nat) (D : List Int) (w : World) (hR : SRow w base g n cap D) (hab : a + 12 < b) (hb : b ≤ n) (hn : n ≤ 1000000) :
    Calls Try.prog 31 #[.slice (some ⟨g, 0, none⟩) n cap, .int .i64 a, .int .i64 b] w (Turns a b base g n cap D w) := by
  have hgs := hR.at_base.2
  have HPW := Lib.hid (show ∀ wx, Calls Try.prog 41 #[.int .i64 ((b : Int) - a)] wx fun e w' => (∃ M : Nat, 1 ≤ M ∧ M ≤ 2 * (b - a) ∧ e = .returned (.int .u64 M)) ∧ wx = w' from fun wx => by
    rw [show ((b : Int) - a) = ((b - a : Nat) : Int) by omega]; exact power_any (b - a) wx (by omega) (by omega))
  have HR := Lib.hid hR; clear hR
  have l8 : 8 ≤ (b : Int) - a := by omega
  have HT0 := Lib.hid (show To a b base g n cap D D w (w.alloc (.cells #[.int .u64 ((b : Int) - a)] 64)) from ⟨owns_below2 HR.out ((Below.refl _ _).alloc (Nat.le_refl _) _), World.grownBy_alloc _ _ _, Turn.refl _ _ _⟩)
  have HR0 := Lib.hid (show Rnd (w.alloc (.cells #[.int .u64 ((b : Int) - a)] 64)) w.heap.size from ⟨⟨b - a, by omega, by rw [show ((b - a : Nat) : Int) = (b : Int) - a by omega]; simp [go_sem]⟩, by simp [go_sem], by simp⟩)
  go_enter Try.func31, Try.ntmps31
  go_wp2_with fail
  refine (HPW.out _).mono ?_
  rintro e w1 ⟨⟨M, m1, m2, rfl⟩, rfl⟩
  go_wp2_with fail
  obtain ⟨c, hc⟩ : ∃ c : Nat, ((a : Int) + ((b : Int) - (a : Int)) / 4 * 2 - 1) = (c : Int) := ⟨a + (b - a) / 4 * 2 - 1, by omega⟩
  have hcE : ((a : Int) + ((b : Int) - (a : Int)) / 4 * 2 + 1) = (c : Int) + 2 := by omega
  have cb : a ≤ c ∧ c + 2 < b := by omega
  have HC := Lib.hid hc; have HCE := Lib.hid hcE
  clear hc hcE
  go_loopw [9] (fun vi wr => ∃ (i : Nat) (E : List Int), vi = .int .i64 i ∧ c ≤ i ∧ i ≤ c + 3 ∧ Hid (To a b base g n cap D E w wr) ∧ Hid (Rnd wr w.heap.size)) (fun vi _ => c + 3 - (intOf vi).toNat)
  case atStart => exact ⟨c, D, by rw [HC.out], Nat.le_refl _, by omega, HT0, HR0⟩
  case round =>
    obtain ⟨i, E, rfl, i1, i2, HT, HN⟩ := hrel
    by_cases hlt : i ≤ c + 2
    · have t1 : (i : Int) ≤ (a : Int) + ((b : Int) - (a : Int)) / 4 * 2 + 1 := by rw [HCE.out]; omega
      go_wp2_with fail
      refine (next_any w.heap.size _ HN.out).mono ?_
      rintro e w2 ⟨R, hR, rfl, hrn, hgr⟩
      obtain ⟨O, hO, eO⟩ : ∃ O : Nat, O + 1 ≤ M ∧ bits .and .u64 (R : Int) ((M : Int) - 1) = (O : Int) := ⟨R &&& (M - 1), by have : R &&& (M - 1) ≤ M - 1 := Nat.and_le_right; omega, by
        rw [show ((M : Int) - 1) = ((M - 1 : Nat) : Int) by omega]; exact bits_and_u64_nat R (M - 1) hR (by omega)⟩
      have HT2 := Lib.hid (HT.out.aside hgr (Nat.le_refl _) hgs)
      have HN2 := Lib.hid hrn
      clear hrn hgr
      by_cases hO2 : (b : Int) - a ≤ O
      · obtain ⟨P, hP⟩ : ∃ P : Nat, ((O : Int) - ((b : Int) - (a : Int))) = (P : Int) := ⟨O - (b - a), by omega⟩
        have hPb : a + P < b := by omega
        have HP := Lib.hid hP
        clear hP
        go_wp2_with fail
        rw [HP.out]
        have e1 := HT2.out.row.cell i (by omega)
        have e2 := HT2.out.row.cell (a + P) (by omega)
        have f1 := HT2.out.row.frozen i
        have f2 := HT2.out.row.frozen (a + P)
        obtain ⟨x, hx⟩ : ∃ x, at0 E i = x := ⟨_, rfl⟩
        obtain ⟨y, hy⟩ : ∃ y, at0 E (a + P) = y := ⟨_, rfl⟩
        rw [hx] at e1
        rw [hy] at e2
        have HX := Lib.hid hx; have HY := Lib.hid hy
        clear hx hy
        by_cases hEq : i = a + P
        · have hxy : x = y := by rw [← HX.out, ← HY.out, hEq]
          subst hxy
          have HEQ := Lib.hid hEq
          go_region
          all_goals go_wp2
          go_roundw
          case rel =>
            refine ⟨i + 1, swapped E i (a + P), by go_num, by omega, by omega, Lib.hid ?_, Lib.hid ?_⟩
            · have ht := (HT2.out.swap hb (i := i) (j := a + P) (by omega) (by omega)).reads (reads1 _ 1)
              rw [HX.out, HY.out] at ht
              first | exact ht | (rw [HEQ.out] at ht ⊢; exact ht)
            · first
              | exact ((HN2.out.aside (grown_set _ g _ _) (by omega)).aside (grown_set _ g _ _) (by omega)).aside (grown_reads (World.grownBy.refl _ (some g)) (reads1 _ 1)) (by omega)
          case measure => simp [intOf]; omega
        · go_region
          all_goals go_wp2
          go_roundw
          case rel =>
            refine ⟨i + 1, swapped E i (a + P), by go_num, by omega, by omega, Lib.hid ?_, Lib.hid ?_⟩
            · have ht := (HT2.out.swap hb (i := i) (j := a + P) (by omega) (by omega)).reads (reads1 _ 1)
              rw [HX.out, HY.out] at ht
              exact ht
            · exact ((HN2.out.aside (grown_set _ g _ _) (by omega)).aside (grown_set _ g _ _) (by omega)).aside (grown_reads (World.grownBy.refl _ (some g)) (reads1 _ 1)) (by omega)
          case measure => simp [intOf]; omega
      · have hPb : a + O < b := by omega
        go_wp2_with fail
        have e1 := HT2.out.row.cell i (by omega)
        have e2 := HT2.out.row.cell (a + O) (by omega)
        have f1 := HT2.out.row.frozen i
        have f2 := HT2.out.row.frozen (a + O)
        obtain ⟨x, hx⟩ : ∃ x, at0 E i = x := ⟨_, rfl⟩
        obtain ⟨y, hy⟩ : ∃ y, at0 E (a + O) = y := ⟨_, rfl⟩
        rw [hx] at e1
        rw [hy] at e2
        have HX := Lib.hid hx; have HY := Lib.hid hy
        clear hx hy
        by_cases hEq : i = a + O
        · have hxy : x = y := by rw [← HX.out, ← HY.out, hEq]
          subst hxy
          have HEQ := Lib.hid hEq
          go_region
          all_goals go_wp2
          go_roundw
          case rel =>
            refine ⟨i + 1, swapped E i (a + O), by go_num, by omega, by omega, Lib.hid ?_, Lib.hid ?_⟩
            · have ht := (HT2.out.swap hb (i := i) (j := a + O) (by omega) (by omega)).reads (reads1 _ 1)
              rw [HX.out, HY.out] at ht
              first | exact ht | (rw [HEQ.out] at ht ⊢; exact ht)
            · first
              | exact ((HN2.out.aside (grown_set _ g _ _) (by omega)).aside (grown_set _ g _ _) (by omega)).aside (grown_reads (World.grownBy.refl _ (some g)) (reads1 _ 1)) (by omega)
          case measure => simp [intOf]; omega
        · go_region
          all_goals go_wp2
          go_roundw
          case rel =>
            refine ⟨i + 1, swapped E i (a + O), by go_num, by omega, by omega, Lib.hid ?_, Lib.hid ?_⟩
            · have ht := (HT2.out.swap hb (i := i) (j := a + O) (by omega) (by omega)).reads (reads1 _ 1)
              rw [HX.out, HY.out] at ht
              exact ht
            · exact ((HN2.out.aside (grown_set _ g _ _) (by omega)).aside (grown_set _ g _ _) (by omega)).aside (grown_reads (World.grownBy.refl _ (some g)) (reads1 _ 1)) (by omega)
          case measure => simp [intOf]; omega
    · have t1 : (a : Int) + ((b : Int) - (a : Int)) / 4 * 2 + 1 < (i : Int) := by rw [HCE.out]; omega
      go_wp2_with fail
      go_end0
      exact ⟨rfl, E, HT.out⟩
end Go.Proofs.Ytfejpomemkfmpaa
