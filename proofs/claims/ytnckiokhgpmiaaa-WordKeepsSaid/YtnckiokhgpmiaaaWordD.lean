/- The law's own anchor of layer word: it is true. -/
import Derived.Test.YtnckiokhgpmiaaaWordC
namespace Go.Proofs.Ytnckiokhgpmiaaa
open Go.RowKit

set_option maxHeartbeats 1000000 in
set_option maxRecDepth 100000 in
theorem awake_any (w : World) : Calls Try.prog 8 #[] w fun e w' => e = .returned (.bool true) ∧ Below w.heap.size w w' := by
  go_enter Try.func8, Try.ntmps8
  go_wp2_with fail
  refine (find_any _ _ [1, 2, 3, 2] [2] _ (Ints.alloc (ints_new _ rfl rfl rfl (small _ (by decide))) _) (ints_new _ (by simp) rfl rfl (small _ (by decide))) (by decide) (by decide)).mono ?_
  rintro e w1 ⟨rfl, hr1⟩
  have l1 : Ints .u32 w1 (.slice (some ⟨w.heap.size, 0, none⟩) 4 4) [1, 2, 3, 2] := Ints.reads (Ints.alloc (ints_new _ rfl rfl rfl (small _ (by decide))) _) hr1
  have b1 : Below w.heap.size w w1 := (((Below.refl _ _).alloc (Nat.le_refl _) _).alloc (by simp) _).trans (hr1.below _)
  clear hr1
  rw [show findN [1, 2, 3, 2] [2] = 1 from by decide +kernel, show findOk [1, 2, 3, 2] [2] = true from by decide +kernel]
  go_wp2_with fail
  refine (find_any _ _ [1, 2, 3, 2] [3, 3] _ (l1.alloc _) (ints_new _ (by simp) rfl rfl (small _ (by decide))) (by decide) (by decide)).mono ?_
  rintro e w2 ⟨rfl, hr2⟩
  have l2 := (l1.alloc (.cells #[.int .u32 3, .int .u32 3] 22)).reads hr2
  have b2 : Below w.heap.size w w2 := (b1.alloc b1.size _).trans (hr2.below _)
  clear hr2 l1 b1
  rw [show findN [1, 2, 3, 2] [3, 3] = 0 from by decide +kernel, show findOk [1, 2, 3, 2] [3, 3] = false from by decide +kernel]
  go_wp2_with fail
  refine (cut_any _ _ _ [1, 2, 3, 2] _ l2 (by decide)).mono ?_
  rintro e w3 ⟨u3, rfl, c3, _, b3'⟩
  rw [show cutL [1, 2, 3, 2] 1 3 = [2, 3] from by decide +kernel] at c3
  have l3 := l2.below b3'
  have b3 : Below w.heap.size w w3 := b2.trans (b3'.mono b2.size)
  clear b3' b2 l2
  rw [show cutOk [1, 2, 3, 2] 1 3 = true from by decide +kernel]
  go_wp2_with fail
  refine (cut_any _ _ _ [1, 2, 3, 2] _ l3 (by decide)).mono ?_
  rintro e w4 ⟨u4, rfl, _, _, b4'⟩
  have l4 := l3.below b4'
  have c4 := c3.below b4'
  have b4 : Below w.heap.size w w4 := b3.trans (b4'.mono b3.size)
  clear b4' b3 l3 c3
  rw [show cutOk [1, 2, 3, 2] 3 5 = false from by decide +kernel]
  go_wp2_with fail
  refine (same_any _ _ [2, 3] [2, 3] _ (c4.alloc _) (ints_new _ rfl rfl rfl (small _ (by decide)))).mono ?_
  rintro e w5 ⟨rfl, hr5⟩
  have l5 := (l4.alloc (.cells #[.int .u32 2, .int .u32 3] 22)).reads hr5
  have c5 := (c4.alloc (.cells #[.int .u32 2, .int .u32 3] 22)).reads hr5
  have b5 : Below w.heap.size w w5 := (b4.alloc b4.size _).trans (hr5.below _)
  clear hr5 l4 c4 b4
  rw [show sameB [2, 3] [2, 3] = true from by decide +kernel]
  go_wp2_with fail
  refine (isDraw_any 2147483648 _ (by decide) (by decide)).mono ?_
  rintro e _ ⟨rfl, rfl⟩
  rw [show isDrawB 2147483648 = true from by decide +kernel]
  go_wp2_with fail
  refine (isDraw_any 7 _ (by decide) (by decide)).mono ?_
  rintro e _ ⟨rfl, rfl⟩
  rw [show isDrawB 7 = false from by decide +kernel]
  go_wp2_with fail
  refine (draw_any 7 _ (by decide) (by decide)).mono ?_
  rintro e _ ⟨rfl, rfl⟩
  rw [show drawN 7 = 2147483655 from by decide +kernel]
  go_wp2_with fail
  refine (has_any _ 3 [1, 2, 3, 2] _ l5).mono ?_
  rintro e _ ⟨rfl, rfl⟩
  rw [show hasB [1, 2, 3, 2] 3 = true from by decide +kernel]
  go_wp2_with fail
  refine (has_any _ 4 [1, 2, 3, 2] _ l5).mono ?_
  rintro e _ ⟨rfl, rfl⟩
  rw [show hasB [1, 2, 3, 2] 4 = false from by decide +kernel]
  go_wp2_with fail
  refine (same_any _ _ [1, 2, 3, 2] [2, 3] _ l5 c5).mono ?_
  rintro e w6 ⟨rfl, hr6⟩
  have b6 : Below w.heap.size w w6 := b5.trans (hr6.below _)
  clear hr6 l5 c5 b5
  rw [show sameB [1, 2, 3, 2] [2, 3] = false from by decide +kernel]
  go_wp2_with fail
  go_ret
  exact ⟨rfl, b6⟩
end Go.Proofs.Ytnckiokhgpmiaaa
