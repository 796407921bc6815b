/- Contracts of the program's layer draw: Take, Peek, Drawn. -/
import Derived.Test.YtfejpomemkfmpaaDrawIter
import Derived.Deep.RegionHeld3
import Derived.IntWalk
import Derived.Deep.RegionWith
import Derived.StillTailTactics
namespace Go.Proofs.Ytfejpomemkfmpaa
open Go.RowKit
set_option maxHeartbeats 1000000 in
theorem peek_row (a : Option Addr) (c : Nat) (L : List Int) (n m : Nat) (w : World) (hL : Ints .u32 w (.slice a L.length c) L) (hi : n ≤ 1048576) (hm : m ≤ 1048576) (hr : ∀ x ∈ L, 0 ≤ x ∧ x < 4294967296) :
    Calls Try.prog 13 #[.agg #[.slice a L.length c, .int .i64 n], .int .i64 m] w (GivesRow (drawRow L n m) w) := by
  have HL := Lib.hid hL; clear hL
  have R := Lib.hid (show ∀ wx, Ints .u32 wx (.slice a L.length c) L → Calls Try.prog 20 #[.slice a L.length c, .int .i64 n, .int .i64 ((n : Int) + m)] wx (GivesRow (drawRow L n m) wx) from fun wx h => by
    have := row_row a c L n (n + m) wx h (by omega) (by omega) hr
    rw [Nat.add_sub_cancel_left] at this
    rw [show ((n : Int) + (m : Int)) = ((n + m : Nat) : Int) from by omega]
    exact this)
  clear hr
  go_enter Try.func13, Try.ntmps13
  go_wp2_with fail
  refine (R.out _ (HL.out.alloc _)).mono ?_
  rintro e w1 ⟨u, rfl, hu, hb⟩
  have H := Lib.hid hu; clear hu
  go_wp2_with fail
  go_ret
  exact ⟨u, rfl, owns_base H.out (by simp), ((Below.refl _ _).alloc (Nat.le_refl _) _).trans (hb.mono (by simp))⟩
theorem peek_any (a : Option Addr) (c : Nat) (L : List Int) (n m : Nat) (w : World) (hL : Ints .u32 w (.slice a L.length c) L) (hi : n ≤ 1048576) (hm : m ≤ 1048576) (hr : ∀ x ∈ L, 0 ≤ x ∧ x < 4294967296) :
    Calls Try.prog 13 #[.agg #[.slice a L.length c, .int .i64 n], .int .i64 m] w (GivesInts (drawRow L n m) w) :=
  (peek_row a c L n m w hL hi hm hr).mono fun _ _ h => h.ints
set_option maxHeartbeats 1000000 in
theorem drawn_row (a : Option Addr) (c : Nat) (L : List Int) (n : Nat) (w : World) (hL : Ints .u32 w (.slice a L.length c) L) (hi : n ≤ 1048576) (hr : ∀ x ∈ L, 0 ≤ x ∧ x < 4294967296) :
    Calls Try.prog 15 #[.agg #[.slice a L.length c, .int .i64 n]] w (GivesRow (drawRow L 0 n) w) := by
  have HL := Lib.hid hL; clear hL
  have R := Lib.hid (show ∀ wx, Ints .u32 wx (.slice a L.length c) L → Calls Try.prog 20 #[.slice a L.length c, .int .i64 0, .int .i64 n] wx (GivesRow (drawRow L 0 n) wx) from fun wx h => row_row a c L 0 n wx h (by omega) (by omega) hr)
  clear hr
  go_enter Try.func15, Try.ntmps15
  go_wp2_with fail
  refine (R.out _ (HL.out.alloc _)).mono ?_
  rintro e w1 ⟨u, rfl, hu, hb⟩
  have H := Lib.hid hu; clear hu
  go_wp2_with fail
  go_ret
  exact ⟨u, rfl, owns_base H.out (by simp), ((Below.refl _ _).alloc (Nat.le_refl _) _).trans (hb.mono (by simp))⟩
theorem drawn_any (a : Option Addr) (c : Nat) (L : List Int) (n : Nat) (w : World) (hL : Ints .u32 w (.slice a L.length c) L) (hi : n ≤ 1048576) (hr : ∀ x ∈ L, 0 ≤ x ∧ x < 4294967296) :
    Calls Try.prog 15 #[.agg #[.slice a L.length c, .int .i64 n]] w (GivesInts (drawRow L 0 n) w) :=
  (drawn_row a c L n w hL hi hr).mono fun _ _ h => h.ints
set_option maxRecDepth 100000 in
set_option maxHeartbeats 1000000 in
theorem take_any (a : Option Addr) (c : Nat) (L : List Int) (n : Nat) (w : World) (hL : Ints .u32 w (.slice a L.length c) L) (hi : n ≤ 1048576) (hr : ∀ x ∈ L, 0 ≤ x ∧ x < 4294967296) :
    Calls Try.prog 9 #[.agg #[.slice a L.length c, .int .i64 n]] w (TakeGives a c L n w) := by
  have HL := Lib.hid hL; clear hL
  have R := Lib.hid (show ∀ wx, Ints .u32 wx (.slice a L.length c) L → Calls Try.prog 18 #[.slice a L.length c, .int .i64 n] wx fun e w' => e = .returned (.int .u32 (drawAt L n)) ∧ w' = wx from fun wx h => (nth_any a c L n wx h (by omega) hr).mono fun e w' h => ⟨h.1, h.2.symm⟩)
  clear hr
  have wn : IntKind.i64.wrap ((n : Int) + 1) = (n : Int) + 1 := IntWalk.i64_in _ (by omega)
  go_enter Try.func9, Try.ntmps9
  go_wp2_with fail
  have I2 := Lib.hid ((HL.out.alloc (.cells #[.slice a L.length c, .int .i64 n] 24)).alloc (.cells #[.slice none 0 0, .int .i64 0] 24))
  obtain ⟨w2, hw2⟩ : ∃ w2, w2 = (w.alloc (.cells #[.slice a L.length c, .int .i64 n] 24)).alloc (.cells #[.slice none 0 0, .int .i64 0] 24) := ⟨_, rfl⟩
  have c0 : w2.cell? ⟨w.heap.size, 0, none⟩ = some (.slice a L.length c) := by rw [hw2]; simp [go_sem]
  have c1 : w2.cell? ⟨w.heap.size, 1, none⟩ = some (.int .i64 n) := by rw [hw2]; simp [go_sem]
  have d0 : w2.cell? ⟨w.heap.size + 1, 0, none⟩ = some (.slice none 0 0) := by rw [hw2]; simp [go_sem]
  have d1 : w2.cell? ⟨w.heap.size + 1, 1, none⟩ = some (.int .i64 0) := by rw [hw2]; simp [go_sem]
  have f0 : w2.frozen? ⟨w.heap.size + 1, 0, none⟩ = false := by rw [hw2]; simp [go_sem]
  have f1 : w2.frozen? ⟨w.heap.size + 1, 1, none⟩ = false := by rw [hw2]; simp [go_sem]
  have b2 : Below w.heap.size w w2 := by rw [hw2]; exact ((Below.refl _ _).alloc (Nat.le_refl _) _).alloc (by simp) _
  rw [← hw2] at I2 ⊢
  have r2 : Reads w2 w2.drew := (Reads.refl _).drew
  clear hw2
  go_still_tail 11, (by kernel_rfl)
  still_call (R.out _ (I2.out.reads r2))
  refine wpStill_nil ?_
  change wpList _ _ _ _ _ w2.drew
  have g0 : w2.drew.cell? ⟨w.heap.size, 0, none⟩ = some (.slice a L.length c) := c0
  have g1 : w2.drew.cell? ⟨w.heap.size, 1, none⟩ = some (.int .i64 n) := c1
  have g2 : w2.drew.cell? ⟨w.heap.size + 1, 0, none⟩ = some (.slice none 0 0) := d0
  have g3 : w2.drew.cell? ⟨w.heap.size + 1, 1, none⟩ = some (.int .i64 0) := d1
  have g4 : w2.drew.frozen? ⟨w.heap.size + 1, 0, none⟩ = false := f0
  have g5 : w2.drew.frozen? ⟨w.heap.size + 1, 1, none⟩ = false := f1
  have b3 : Below w.heap.size w w2.drew := b2.drew
  have I3 := Lib.hid (I2.out.reads r2)
  clear c0 c1 d0 d1 f0 f1 b2 r2 I2
  generalize w2.drew = w3 at g0 g1 g2 g3 g4 g5 b3 I3 ⊢
  go_wp2
  refine bodyPost_ret (v := .tuple #[.agg #[.slice a L.length c, .int .i64 ((n : Int) + 1)], .int .u32 (drawAt L n)]) (by simp [results, Try.results9, go_sem, g2, g3]) rfl ?_
  exact (fun hbf => ⟨_, rfl, HL.out.below hbf, .inl rfl, hbf⟩) ((b3.setCell (p := ⟨w.heap.size + 1, 0, none⟩) (by simp) _).setCell (p := ⟨w.heap.size + 1, 1, none⟩) (by simp) _)
end Go.Proofs.Ytfejpomemkfmpaa
