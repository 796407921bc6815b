/- The law's own anchor of layer msg: it is true. -/
import Derived.Test.YthpcnekidlhfpaaDoorMsgF
import Derived.Laws.StructEq
namespace Go.Proofs.YthpcnekidlhfpaaDoor
open Go.RowKit

theorem mget_at (k r a b n x o er : Int) (v : Value) (A : List Int) (w : World) (hv : Ints .u32 w v A) (hr : ∀ x ∈ A, 0 ≤ x ∧ x < 4294967296) (hm : Masks w) (hG : getM A = (⟨k, r, a, b, n, x, o⟩, er)) :
    Calls Tryd.prog 14 #[v] w fun e w' => e = .returned (.tuple #[.agg #[.int .u32 k, .int .u32 r, .int .u32 a, .int .u32 b, .int .u32 n, .int .u32 x, .int .u32 o], .int .i64 er]) ∧ Below w.heap.size w w' := by
  refine (mget_any v A w hv hr hm).mono fun e w' ⟨h1, h2⟩ => ⟨?_, h2⟩
  rw [hG] at h1
  exact h1
theorem mkind_at (k : Int) (v : Value) (A : List Int) (w : World) (hv : Ints .u32 w v A) (hr : ∀ x ∈ A, 0 ≤ x ∧ x < 4294967296) (hm : Masks w) (hG : (getM A).1.kind = k) :
    Calls Tryd.prog 16 #[v] w fun e w' => e = .returned (.int .u32 k) ∧ Below w.heap.size w w' := by
  refine (mkind_any v A w hv hr hm).mono fun e w' ⟨h1, h2⟩ => ⟨?_, h2⟩
  rw [hG] at h1
  exact h1
set_option maxHeartbeats 2000000 in
set_option maxRecDepth 100000 in
theorem awake_any (w : World) (hm : Masks w) : Calls Tryd.prog 8 #[] w fun e w' => e = .returned (.bool true) ∧ Below w.heap.size w w' := by
  have HM := Lib.hid hm; clear hm
  go_enter Tryd.func8, Tryd.ntmps8
  go_wp2_with fail
  refine (mput_any ⟨4, 0, 0, 0, 0, 9, 0⟩ _ (HM.out.alloc _)).mono ?_
  rintro e w1 ⟨u1, rfl, i1, t1, f1, hb1⟩
  rw [show putE ⟨4, 0, 0, 0, 0, 9, 0⟩ = 0 from by kernel_rfl]
  rw [show putL ⟨4, 0, 0, 0, 0, 9, 0⟩ = [1, 1, 4, 6, 1, 9] from by kernel_rfl] at i1
  have b1 : Below w.heap.size w w1 := ((Below.refl _ _).alloc (Nat.le_refl _) _).trans (hb1.mono (by simp))
  have s1 : w.heap.size < w1.heap.size := by have := hb1.size; simp at this; omega
  have hx1 := block_below (heap_alloc_new w (.cells #[.int .u32 4, .int .u32 0, .int .u32 0, .int .u32 0, .int .u32 0, .int .u32 9, .int .u32 0] 24)) hb1
  have HX1 := Lib.hid hx1
  obtain ⟨ua, uc, rfl⟩ := i1.form
  have I1 := Lib.hid i1
  clear hb1 i1 t1 f1 hx1
  go_wp2_with fail
  refine (mget_at 4 0 0 0 0 9 0 0 _ [1, 1, 4, 6, 1, 9] _ I1.out (by decide +kernel) (HM.out.below b1) (by kernel_rfl)).mono ?_
  rintro e w2 ⟨rfl, hb2⟩
  have b2 := b1.trans (hb2.mono b1.size)
  have I2 := Lib.hid (I1.out.below hb2)
  have HX2 := Lib.hid (block_below HX1.out hb2)
  have s2 : w1.heap.size ≤ w2.heap.size := hb2.size
  clear hb2 I1 HX1
  go_wp2_with fail
  have HY2 := Lib.hid (heap_alloc_new w2 (.cells #[.int .u32 4, .int .u32 0, .int .u32 0, .int .u32 0, .int .u32 0, .int .u32 9, .int .u32 0] 24))
  have c3 : Below w2.heap.size w2 ((w2.alloc (.cells #[.int .u32 4, .int .u32 0, .int .u32 0, .int .u32 0, .int .u32 0, .int .u32 9, .int .u32 0] 24)).alloc (.cells #[.int .u32 1, .int .u32 1, .int .u32 10] 22)) := ((Below.refl _ _).alloc (Nat.le_refl _) _).alloc (by simp) _
  refine (mget_at 0 0 0 0 0 0 0 4 _ [1, 1, 10] _ (ints_new _ (by simp) rfl rfl (small _ (by decide))) (by decide +kernel) (HM.out.below (b2.trans (c3.mono b2.size))) (by kernel_rfl)).mono ?_
  rintro e w3 ⟨rfl, hb3⟩
  have hb3' : Below w2.heap.size w2 w3 := c3.trans (hb3.mono (by simp; omega))
  have b3 := b2.trans (hb3'.mono b2.size)
  have I3 := Lib.hid (I2.out.below hb3')
  have HX3 := Lib.hid (block_below HX2.out hb3')
  have HY3 := Lib.hid (block_below ((heap_old _ _ (by simp)).trans HY2.out) hb3)
  have s3 : w2.heap.size < w3.heap.size := by have := hb3.size; simp at this; omega
  clear hb3 hb3' I2 HX2 HY2 c3
  go_wp2_with fail
  have c4 : Below w3.heap.size w3 ((w3.alloc (.cells #[.int .u32 0, .int .u32 0, .int .u32 0, .int .u32 0, .int .u32 0, .int .u32 0, .int .u32 0] 24)).alloc (.cells #[.int .u32 1, .int .u32 1, .int .u32 4] 22)) := ((Below.refl _ _).alloc (Nat.le_refl _) _).alloc (by simp) _
  refine (mget_at 0 0 0 0 0 0 0 2 _ [1, 1, 4] _ (ints_new _ (by simp) rfl rfl (small _ (by decide))) (by decide +kernel) (HM.out.below (b3.trans (c4.mono b3.size))) (by kernel_rfl)).mono ?_
  rintro e w4 ⟨rfl, hb4⟩
  have hb4' : Below w3.heap.size w3 w4 := c4.trans (hb4.mono (by simp; omega))
  have b4 := b3.trans (hb4'.mono b3.size)
  have I4 := Lib.hid (I3.out.below hb4')
  have HX4 := Lib.hid (block_below HX3.out hb4')
  have HY4 := Lib.hid (block_below HY3.out hb4')
  have s4 : w3.heap.size < w4.heap.size := by have := hb4.size; simp at this; omega
  clear hb4 hb4' I3 HX3 HY3 c4
  go_wp2_with fail
  have c5 : Below w4.heap.size w4 (w4.alloc (.cells #[.int .u32 0, .int .u32 0, .int .u32 0, .int .u32 0, .int .u32 0, .int .u32 0, .int .u32 0] 24)) := (Below.refl _ _).alloc (Nat.le_refl _) _
  refine (mput_any ⟨4, 1, 0, 0, 0, 0, 0⟩ _ (HM.out.below (b4.trans (c5.mono b4.size)))).mono ?_
  rintro e w5 ⟨u5, rfl, i5, t5, f5, hb5⟩
  rw [show putE ⟨4, 1, 0, 0, 0, 0, 0⟩ = 1 from by kernel_rfl]
  obtain ⟨va, vc, rfl⟩ := i5.form
  have hb5' : Below w4.heap.size w4 w5 := c5.trans (hb5.mono (by simp))
  have b5 := b4.trans (hb5'.mono b4.size)
  have I5 := Lib.hid (I4.out.below hb5')
  have HX5 := Lib.hid (block_below HX4.out hb5')
  have HY5 := Lib.hid (block_below HY4.out hb5')
  have s5 : w4.heap.size < w5.heap.size := by have := hb5.size; simp at this; omega
  clear hb5 hb5' I4 HX4 HY4 c5 i5 t5 f5
  go_wp2_with fail
  have c6 : Below w5.heap.size w5 (w5.alloc (.cells #[.int .u32 1] 22)) := (Below.refl _ _).alloc (Nat.le_refl _) _
  refine (mget_at 0 0 0 0 0 0 0 2 _ [1] _ (ints_new _ rfl rfl rfl (small _ (by decide))) (by decide +kernel) (HM.out.below (b5.trans (c6.mono b5.size))) (by kernel_rfl)).mono ?_
  rintro e w6 ⟨rfl, hb6⟩
  have hb6' : Below w5.heap.size w5 w6 := c6.trans (hb6.mono (by simp))
  have b6 := b5.trans (hb6'.mono b5.size)
  have I6 := Lib.hid (I5.out.below hb6')
  have HX6 := Lib.hid (block_below HX5.out hb6')
  have HY6 := Lib.hid (block_below HY5.out hb6')
  have s6 : w5.heap.size < w6.heap.size := by have := hb6.size; simp at this; omega
  clear hb6 hb6' I5 HX5 HY5 c6
  go_wp2_with fail
  have c7 : Below w6.heap.size w6 (w6.alloc (.cells #[.int .u32 0, .int .u32 0, .int .u32 0, .int .u32 0, .int .u32 0, .int .u32 0, .int .u32 0] 24)) := (Below.refl _ _).alloc (Nat.le_refl _) _
  refine (mget_at 0 0 0 0 0 0 0 4 _ [] _ (Ints.nil _ _) (by decide +kernel) (HM.out.below (b6.trans (c7.mono b6.size))) (by kernel_rfl)).mono ?_
  rintro e w7 ⟨rfl, hb7⟩
  have hb7' : Below w6.heap.size w6 w7 := c7.trans (hb7.mono (by simp))
  have b7 := b6.trans (hb7'.mono b6.size)
  have I7 := Lib.hid (I6.out.below hb7')
  have HX7 := Lib.hid (block_below HX6.out hb7')
  have HY7 := Lib.hid (block_below HY6.out hb7')
  have s7 : w6.heap.size < w7.heap.size := by have := hb7.size; simp at this; omega
  clear hb7 hb7' I6 HX6 HY6 c7
  go_wp2_with fail
  have hXX := HX7.out
  have hYY := HY7.out
  have x0 : w7.cell? ⟨w.heap.size, 0, none⟩ = some (.int .u32 4) := by simp [World.cell?, hXX]
  have x1 : w7.cell? ⟨w.heap.size, 1, none⟩ = some (.int .u32 0) := by simp [World.cell?, hXX]
  have x2 : w7.cell? ⟨w.heap.size, 2, none⟩ = some (.int .u32 0) := by simp [World.cell?, hXX]
  have x3 : w7.cell? ⟨w.heap.size, 3, none⟩ = some (.int .u32 0) := by simp [World.cell?, hXX]
  have x4 : w7.cell? ⟨w.heap.size, 4, none⟩ = some (.int .u32 0) := by simp [World.cell?, hXX]
  have x5 : w7.cell? ⟨w.heap.size, 5, none⟩ = some (.int .u32 9) := by simp [World.cell?, hXX]
  have x6 : w7.cell? ⟨w.heap.size, 6, none⟩ = some (.int .u32 0) := by simp [World.cell?, hXX]
  have y0 : w7.cell? ⟨w2.heap.size, 0, none⟩ = some (.int .u32 4) := by simp [World.cell?, hYY]
  have y1 : w7.cell? ⟨w2.heap.size, 1, none⟩ = some (.int .u32 0) := by simp [World.cell?, hYY]
  have y2 : w7.cell? ⟨w2.heap.size, 2, none⟩ = some (.int .u32 0) := by simp [World.cell?, hYY]
  have y3 : w7.cell? ⟨w2.heap.size, 3, none⟩ = some (.int .u32 0) := by simp [World.cell?, hYY]
  have y4 : w7.cell? ⟨w2.heap.size, 4, none⟩ = some (.int .u32 0) := by simp [World.cell?, hYY]
  have y5 : w7.cell? ⟨w2.heap.size, 5, none⟩ = some (.int .u32 9) := by simp [World.cell?, hYY]
  have y6 : w7.cell? ⟨w2.heap.size, 6, none⟩ = some (.int .u32 0) := by simp [World.cell?, hYY]
  have z1 : w.heap.size < w7.heap.size := by omega
  have z2 : w2.heap.size < w7.heap.size := by omega
  clear hXX hYY
  have c8 : Below w7.heap.size w7 ((w7.alloc (.cells #[.int .u32 0, .int .u32 0, .int .u32 0, .int .u32 0, .int .u32 0, .int .u32 0, .int .u32 0] 24)).alloc (.cells #[.int .u32 1, .int .u32 1, .int .u32 4, .int .u32 6, .int .u32 1, .int .u32 9] 22)) := ((Below.refl _ _).alloc (Nat.le_refl _) _).alloc (by simp) _
  refine (rsame_any _ _ [1, 1, 4, 6, 1, 9] [1, 1, 4, 6, 1, 9] _ (I7.out.below c8) (ints_new _ (by simp) rfl rfl (small _ (by decide)))).mono ?_
  rintro e w8 ⟨rfl, q8, rfl⟩
  rw [show sameB [1, 1, 4, 6, 1, 9] [1, 1, 4, 6, 1, 9] = true from by decide +kernel]
  have b8 := b7.trans ((c8.mono b7.size).trans (((Reads.refl _).drewN q8).below _))
  have I8 := Lib.hid ((I7.out.below c8).reads (reads1 _ q8))
  clear I7 c8
  go_wp2_with fail
  refine (mkind_at 4 _ [1, 1, 4, 6, 1, 9] _ I8.out (by decide +kernel) (HM.out.below b8) (by kernel_rfl)).mono ?_
  rintro e w9 ⟨rfl, hb9⟩
  have b9 := b8.trans (hb9.mono b8.size)
  have e9 : Below w7.heap.size w7 w9 := (((Below.refl _ _).alloc (Nat.le_refl _) (.cells #[.int .u32 0, .int .u32 0, .int .u32 0, .int .u32 0, .int .u32 0, .int .u32 0, .int .u32 0] 24)).alloc (by simp) (.cells #[.int .u32 1, .int .u32 1, .int .u32 4, .int .u32 6, .int .u32 1, .int .u32 9] 22)).trans ((((Reads.refl _).drewN q8).below _).trans (hb9.mono (by simp; omega)))
  go_wp2_with fail
  refine (mkind_at 0 _ [] _ (Ints.nil _ _) (by decide +kernel) (HM.out.below b9) (by kernel_rfl)).mono ?_
  rintro e w10 ⟨rfl, hb10⟩
  have b10 := b9.trans (hb10.mono b9.size)
  obtain ⟨hc10, _⟩ := bcell (e9.trans (hb10.mono e9.size))
  go_wp2_with fail
  refine (mmay_any ⟨4, 0, 0, 0, 0, 9, 0⟩ _ (HM.out.below b10)).mono ?_
  rintro e w11 ⟨rfl, hb11⟩
  rw [show mayM ⟨4, 0, 0, 0, 0, 9, 0⟩ = true from by kernel_rfl]
  have b11 := b10.trans (hb11.mono b10.size)
  go_wp2_with fail
  refine (mmay_any ⟨0, 0, 0, 0, 0, 0, 0⟩ _ (HM.out.below b11)).mono ?_
  rintro e w12 ⟨rfl, hb12⟩
  rw [show mayM ⟨0, 0, 0, 0, 0, 0, 0⟩ = false from by kernel_rfl]
  have b12 := b11.trans (hb12.mono b11.size)
  go_wp2_with fail
  go_ret
  exact ⟨rfl, b12⟩
end Go.Proofs.YthpcnekidlhfpaaDoor
