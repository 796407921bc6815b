/- The walks of layer draw's statements, out of the contracts take_any, peek_any, drawn_any, unlike_any and the reference's. -/
import Derived.Test.YtfejpomemkfmpaaDrawProg
import Derived.Test.YtfejpomemkfmpaaUnlike
namespace Go.Proofs.Ytfejpomemkfmpaa.drawLaws
open Go.RowKit

def fitsB (nx : Int) (len : Nat) : Bool := decide (0 ≤ nx ∧ nx ≤ 600 ∧ (len : Int) ≤ 600)
theorem fits_any (v : Value) (L : List Int) (nx : Int) (w : World) (h : Ints .u32 w v L) :
    Calls Try.prog 8 #[.agg #[v, .int .i64 nx]] w fun e w' => e = .returned (.bool (fitsB nx L.length)) ∧ Below w.heap.size w w' := by
  have hs := h.len
  obtain ⟨a, c, rfl⟩ := h.form
  clear h
  by_cases h0 : 0 ≤ nx
  · by_cases h1 : nx ≤ 600
    · have H := Lib.hid (show fitsB nx L.length = decide ((L.length : Int) ≤ 600) by simp [fitsB, h0, h1])
      go_enter Try.func8, Try.ntmps8
      go_wp2_with fail
      go_ret
      exact ⟨congrArg (fun b => Ending.returned (.bool b)) H.out.symm, (Below.refl _ _).alloc (Nat.le_refl _) _⟩
    · have H := Lib.hid (show fitsB nx L.length = false by simp [fitsB, h1])
      go_enter Try.func8, Try.ntmps8
      go_wp2_with fail
      go_ret
      exact ⟨congrArg (fun b => Ending.returned (.bool b)) H.out.symm, (Below.refl _ _).alloc (Nat.le_refl _) _⟩
  · have H := Lib.hid (show fitsB nx L.length = false by simp [fitsB, h0])
    go_enter Try.func8, Try.ntmps8
    go_wp2_with fail
    go_ret
    exact ⟨congrArg (fun b => Ending.returned (.bool b)) H.out.symm, (Below.refl _ _).alloc (Nat.le_refl _) _⟩
set_option maxHeartbeats 1000000 in
theorem awake_any (w : World) : Calls Try.prog 7 #[] w fun e w' => e = .returned (.bool true) ∧ Below w.heap.size w w' := by
  go_enter Try.func7, Try.ntmps7
  go_wp2_with fail
  have r7 : ∀ x ∈ ([7] : List Int), 0 ≤ x ∧ x < 4294967296 := by simp
  have H0 : Ints .u32 (w.alloc (.cells #[.int .u32 7] 27)) (.slice (some ⟨w.heap.size, 0, none⟩) 1 1) [7] := ints_new _ rfl rfl rfl (small _ (by simp))
  obtain ⟨w0, hw0⟩ : ∃ w0, w0 = w.alloc (.cells #[.int .u32 7] 27) := ⟨_, rfl⟩
  have s0 : w0.heap.size = w.heap.size + 1 := by rw [hw0]; simp
  have B0 : Below w.heap.size w w0 := by rw [hw0]; exact (Below.refl _ _).alloc (Nat.le_refl _) _
  rw [← hw0] at H0 ⊢
  refine (take_any (some ⟨w.heap.size, 0, none⟩) 1 [7] 0 _ (H0.alloc _) (by omega) r7).mono ?_
  rintro e w1 ⟨lv, rfl, hl, hor, hb1⟩
  rw [show drawAt [7] 0 = 2147483655 from rfl]
  obtain ⟨la, lc, rfl⟩ := hl.form
  have HL := Lib.hid hl
  clear hl hor
  have hd1 : ∀ o, w1.cell? ⟨w.heap.size + 1, o, none⟩ = (w0.alloc (.cells #[.slice (some ⟨w.heap.size, 0, none⟩) 1 1, .int .i64 0] 24)).cell? ⟨w.heap.size + 1, o, none⟩ := fun o => hb1.cell (p := ⟨w.heap.size + 1, o, none⟩) (by simp; omega)
  have D10 : w1.cell? ⟨w.heap.size + 1, 0, none⟩ = some (.slice (some ⟨w.heap.size, 0, none⟩) 1 1) := by rw [hd1, ← s0]; simp [go_sem]
  have D11 : w1.cell? ⟨w.heap.size + 1, 1, none⟩ = some (.int .i64 0) := by rw [hd1, ← s0]; simp [go_sem]
  have H1 := Lib.hid ((H0.alloc _).below hb1)
  have B1 := Lib.hid ((B0.alloc (by omega) _).trans (hb1.mono (by simp; omega)))
  have s1 : w.heap.size + 1 < w1.heap.size := by have := hb1.size; simp at this; omega
  clear hd1 hb1 H0
  go_wp2_with fail
  refine (take_any la lc [7] 1 _ (HL.out.alloc _) (by omega) r7).mono ?_
  rintro e w2 ⟨lv2, rfl, hl, hor, hb2⟩
  rw [show drawAt [7] 1 = 3221225473 from rfl]
  obtain ⟨la2, lc2, rfl⟩ := hl.form
  have H2 := Lib.hid hl
  have b2 : Below (w.heap.size + 2) w1 w2 := ((Below.refl _ _).alloc (by omega) _).trans (hb2.mono (by simp; omega))
  have D20 : w2.cell? ⟨w.heap.size + 1, 0, none⟩ = some (.slice (some ⟨w.heap.size, 0, none⟩) 1 1) := (b2.cell (p := ⟨w.heap.size + 1, 0, none⟩) (by simp)).trans D10
  have D21 : w2.cell? ⟨w.heap.size + 1, 1, none⟩ = some (.int .i64 0) := (b2.cell (p := ⟨w.heap.size + 1, 1, none⟩) (by simp)).trans D11
  have D22 := Lib.hid ((H1.out.alloc (.cells #[.slice la 1 lc, .int .i64 1] 24)).below hb2)
  have B2 := Lib.hid (B1.out.trans (b2.mono (by omega)))
  have s2 : w1.heap.size < w2.heap.size := by have := hb2.size; simp at this; omega
  clear hl hor hb2 b2 H1 B1 D10 D11 HL
  go_wp2_with fail
  refine (drawn_any la2 lc2 [7] 2 _ (H2.out.alloc _) (by omega) r7).mono ?_
  rintro e w3 ⟨u3, rfl, hu3, hf3, hb3⟩
  rw [show drawRow [7] 0 2 = [2147483655, 3221225473] from rfl] at hu3
  have U3 := Lib.hid hu3
  have b3 : Below w2.heap.size w2 w3 := ((Below.refl _ _).alloc (by omega) _).trans (hb3.mono (by simp))
  have D30 : w3.cell? ⟨w.heap.size + 1, 0, none⟩ = some (.slice (some ⟨w.heap.size, 0, none⟩) 1 1) := (b3.cell (p := ⟨w.heap.size + 1, 0, none⟩) (by simp; omega)).trans D20
  have D31 : w3.cell? ⟨w.heap.size + 1, 1, none⟩ = some (.int .i64 0) := (b3.cell (p := ⟨w.heap.size + 1, 1, none⟩) (by simp; omega)).trans D21
  have D32 := Lib.hid (D22.out.below b3)
  have B3 := Lib.hid (B2.out.trans (b3.mono (by omega)))
  have s3 : w2.heap.size < w3.heap.size := by have := hb3.size; simp at this; omega
  clear hu3 hf3 hb3 b3 B2 D20 D21 D22 H2
  go_wp2_with fail
  refine (rsame_any _ _ [2147483655, 3221225473] [2147483655, 3221225473] _ (U3.out.alloc _) (ints_new _ rfl rfl rfl (small _ (by simp)))).mono ?_
  rintro e w4 ⟨rfl, hr4⟩
  rw [show sameB [2147483655, 3221225473] [2147483655, 3221225473] = true from rfl]
  have b4 : Below w3.heap.size w3 w4 := ((Below.refl _ _).alloc (by omega) _).trans (hr4.below _)
  have D40 : w4.cell? ⟨w.heap.size + 1, 0, none⟩ = some (.slice (some ⟨w.heap.size, 0, none⟩) 1 1) := (b4.cell (p := ⟨w.heap.size + 1, 0, none⟩) (by simp; omega)).trans D30
  have D41 : w4.cell? ⟨w.heap.size + 1, 1, none⟩ = some (.int .i64 0) := (b4.cell (p := ⟨w.heap.size + 1, 1, none⟩) (by simp; omega)).trans D31
  have D42 := Lib.hid (D32.out.below b4)
  have B4 := Lib.hid (B3.out.trans (b4.mono (by omega)))
  have s4 : w3.heap.size ≤ w4.heap.size := b4.size
  clear hr4 b4 B3 D30 D31 D32 U3
  go_wp2_with fail
  refine (peek_any (some ⟨w.heap.size, 0, none⟩) 1 [7] 0 2 _ D42.out (by omega) (by omega) r7).mono ?_
  rintro e w5 ⟨u5, rfl, hu5, hf5, b5⟩
  rw [show drawRow [7] 0 2 = [2147483655, 3221225473] from rfl] at hu5
  have U5 := Lib.hid hu5
  have D50 : w5.cell? ⟨w.heap.size + 1, 0, none⟩ = some (.slice (some ⟨w.heap.size, 0, none⟩) 1 1) := (b5.cell (p := ⟨w.heap.size + 1, 0, none⟩) (by simp; omega)).trans D40
  have D51 : w5.cell? ⟨w.heap.size + 1, 1, none⟩ = some (.int .i64 0) := (b5.cell (p := ⟨w.heap.size + 1, 1, none⟩) (by simp; omega)).trans D41
  have D52 := Lib.hid (D42.out.below b5)
  have B5 := Lib.hid (B4.out.trans (b5.mono (by omega)))
  have s5 : w4.heap.size ≤ w5.heap.size := b5.size
  clear hu5 hf5 b5 B4 D40 D41 D42
  go_wp2_with fail
  refine (rsame_any _ _ [2147483655, 3221225473] [2147483655, 3221225473] _ (U5.out.alloc _) (ints_new _ rfl rfl rfl (small _ (by simp)))).mono ?_
  rintro e w6 ⟨rfl, hr6⟩
  rw [show sameB [2147483655, 3221225473] [2147483655, 3221225473] = true from rfl]
  have b6 : Below w5.heap.size w5 w6 := ((Below.refl _ _).alloc (by omega) _).trans (hr6.below _)
  have D60 : w6.cell? ⟨w.heap.size + 1, 0, none⟩ = some (.slice (some ⟨w.heap.size, 0, none⟩) 1 1) := (b6.cell (p := ⟨w.heap.size + 1, 0, none⟩) (by simp; omega)).trans D50
  have D61 : w6.cell? ⟨w.heap.size + 1, 1, none⟩ = some (.int .i64 0) := (b6.cell (p := ⟨w.heap.size + 1, 1, none⟩) (by simp; omega)).trans D51
  have D62 := Lib.hid (D52.out.below b6)
  have B6 := Lib.hid (B5.out.trans (b6.mono (by omega)))
  have s6 : w5.heap.size ≤ w6.heap.size := b6.size
  clear hr6 b6 B5 D50 D51 D52 U5
  go_wp2_with fail
  refine (drawn_any (some ⟨w.heap.size, 0, none⟩) 1 [7] 0 _ D62.out (by omega) r7).mono ?_
  rintro e w7 ⟨u7, rfl, hu7, hf7, b7⟩
  rw [show drawRow [7] 0 0 = ([] : List Int) from rfl] at hu7
  have U7 := Lib.hid hu7
  have D70 : w7.cell? ⟨w.heap.size + 1, 0, none⟩ = some (.slice (some ⟨w.heap.size, 0, none⟩) 1 1) := (b7.cell (p := ⟨w.heap.size + 1, 0, none⟩) (by simp; omega)).trans D60
  have D71 : w7.cell? ⟨w.heap.size + 1, 1, none⟩ = some (.int .i64 0) := (b7.cell (p := ⟨w.heap.size + 1, 1, none⟩) (by simp; omega)).trans D61
  have D72 := Lib.hid (D62.out.below b7)
  have B7 := Lib.hid (B6.out.trans (b7.mono (by omega)))
  have s7 : w6.heap.size ≤ w7.heap.size := b7.size
  clear hf7 b7 B6 D60 D61 D62
  obtain ⟨la7, lc7, rfl⟩ := hu7.form
  clear hu7
  go_wp2_with fail
  refine (unlike_small _ [1, 2] _ (ints_new _ rfl rfl rfl (small _ (by simp))) (by simp)).mono ?_
  rintro e w8 ⟨rfl, hb8⟩
  rw [show unlikeB [1, 2] = true from by decide]
  have B8 := Lib.hid ((B7.out.alloc (by omega) (.cells #[.int .u32 1, .int .u32 2] 27)).trans (hb8.mono (by simp; omega)))
  have s8 : w7.heap.size < w8.heap.size := by have := hb8.size; simp at this; omega
  clear hb8 B7
  go_wp2_with fail
  refine (unlike_small _ [1, 2, 1] _ (ints_new _ rfl rfl rfl (small _ (by simp))) (by simp)).mono ?_
  rintro e w9 ⟨rfl, hb9⟩
  rw [show unlikeB [1, 2, 1] = false from by decide]
  have B9 := Lib.hid ((B8.out.alloc (by omega) (.cells #[.int .u32 1, .int .u32 2, .int .u32 1] 27)).trans (hb9.mono (by simp; omega)))
  clear hb9 B8
  go_wp2_with fail
  go_ret
  exact ⟨rfl, B9.out⟩
end Go.Proofs.Ytfejpomemkfmpaa.drawLaws
