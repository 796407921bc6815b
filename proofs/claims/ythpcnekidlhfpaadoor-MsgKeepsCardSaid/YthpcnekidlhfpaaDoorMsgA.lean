/- Contracts of the small functions of layer msg, and of its reference: isKind, has, isOneWord, wordsOf, message; Has, word. -/
import Derived.Test.YthpcnekidlhfpaaDoorWireC
namespace Go.Proofs.YthpcnekidlhfpaaDoor
open Go.RowKit

/-- The package's table of masks. -/
structure Masks (w : World) : Prop where
  m1 : w.cell? ⟨0, 1, none⟩ = some (.int .u32 56)
  m2 : w.cell? ⟨0, 2, none⟩ = some (.int .u32 64)
  m3 : w.cell? ⟨0, 3, none⟩ = some (.int .u32 64)
  m4 : w.cell? ⟨0, 4, none⟩ = some (.int .u32 64)
  m5 : w.cell? ⟨0, 5, none⟩ = some (.int .u32 64)
  m6 : w.cell? ⟨0, 6, none⟩ = some (.int .u32 92)
  m7 : w.cell? ⟨0, 7, none⟩ = some (.int .u32 220)
  m8 : w.cell? ⟨0, 8, none⟩ = some (.int .u32 196)
  m9 : w.cell? ⟨0, 9, none⟩ = some (.int .u32 68)
theorem Masks.below {w w' : World} (h : Masks w) (hb : Below w.heap.size w w') : Masks w' :=
  have key : ∀ {i : Nat} {v : Value}, w.cell? ⟨0, i, none⟩ = some v → w'.cell? ⟨0, i, none⟩ = some v := fun {i} {_} e => (hb.cell (p := ⟨0, i, none⟩) (lt_of_cell e)).trans e
  ⟨key h.m1, key h.m2, key h.m3, key h.m4, key h.m5, key h.m6, key h.m7, key h.m8, key h.m9⟩
theorem Masks.alloc {w : World} (h : Masks w) (o : Obj) : Masks (w.alloc o) := h.below ((Below.refl _ _).alloc (Nat.le_refl _) o)
theorem Masks.reads {w w' : World} (h : Masks w) (hr : Reads w w') : Masks w' := h.below (hr.below _)
theorem tags {t : Int} (h : 2 ≤ t ∧ t ≤ 7) : t = 2 ∨ t = 3 ∨ t = 4 ∨ t = 5 ∨ t = 6 ∨ t = 7 := by omega

set_option maxHeartbeats 4000000 in
theorem has_any (k t : Int) (w : World) (hk : isKindB k = true) (ht : 2 ≤ t ∧ t ≤ 7) (hm : Masks w) :
    Calls Tryd.prog 24 #[.int .u32 k, .int .u32 t] w fun e w' => e = .returned (.bool (hasT k t)) ∧ w = w' := by
  obtain ⟨m1, m2, m3, m4, m5, m6, m7, m8, m9⟩ := hm
  rcases kinds hk with rfl | rfl | rfl | rfl | rfl | rfl | rfl | rfl | rfl <;> rcases tags ht with rfl | rfl | rfl | rfl | rfl | rfl <;> clear hk ht
  all_goals
    go_enter Tryd.func24, Tryd.ntmps24
    go_wp2_with fail
    go_ret
    exact ⟨ret_bool (by decide), rfl⟩
set_option maxHeartbeats 400000 in
theorem isKind_any (k : Int) (w : World) :
    Calls Tryd.prog 22 #[.int .u32 k] w fun e w' => e = .returned (.bool (isKindB k)) ∧ w = w' := by
  by_cases h1 : 1 ≤ k
  · by_cases h2 : k ≤ 9
    · have HB := Lib.hid (show isKindB k = true from decide_eq_true ⟨h1, h2⟩)
      go_enter Tryd.func22, Tryd.ntmps22
      go_wp2_with fail
      go_ret
      exact ⟨ret_bool HB.out.symm, rfl⟩
    · have HB := Lib.hid (show isKindB k = false from decide_eq_false (by omega))
      go_enter Tryd.func22, Tryd.ntmps22
      go_wp2_with fail
      go_ret
      exact ⟨ret_bool HB.out.symm, rfl⟩
  · have HB := Lib.hid (show isKindB k = false from decide_eq_false (by omega))
    go_enter Tryd.func22, Tryd.ntmps22
    go_wp2_with fail
    go_ret
    exact ⟨ret_bool HB.out.symm, rfl⟩
set_option maxHeartbeats 400000 in
theorem isOneWord_any (x t : Int) (a : Option Addr) (n c : Nat) (w : World) :
    Calls Tryd.prog 26 #[.agg #[.int .u32 x, .slice a n c], .int .u32 t] w fun e w' => e = .returned (.bool (decide (x = t ∧ n = 1))) ∧ Below w.heap.size w w' := by
  by_cases h1 : (x == t) = true
  · by_cases h2 : ((n : Int) == 1) = true
    · have HB := Lib.hid (show decide (x = t ∧ n = 1) = true from decide_eq_true ⟨by simpa using h1, by simp at h2; omega⟩)
      go_enter Tryd.func26, Tryd.ntmps26
      go_wp2_with fail
      go_ret
      exact ⟨ret_bool HB.out.symm, (Below.refl _ _).alloc (Nat.le_refl _) _⟩
    · have h2' : ((n : Int) == 1) = false := by simpa using h2
      have HB := Lib.hid (show decide (x = t ∧ n = 1) = false from decide_eq_false (by rintro ⟨_, rfl⟩; simp at h2))
      clear h2
      go_enter Tryd.func26, Tryd.ntmps26
      go_wp2_with fail
      go_ret
      exact ⟨ret_bool HB.out.symm, (Below.refl _ _).alloc (Nat.le_refl _) _⟩
  · have h1' : (x == t) = false := by simpa using h1
    have HB := Lib.hid (show decide (x = t ∧ n = 1) = false from decide_eq_false (by rintro ⟨rfl, _⟩; simp at h1))
    clear h1
    go_enter Tryd.func26, Tryd.ntmps26
    go_wp2_with fail
    go_ret
    exact ⟨ret_bool HB.out.symm, (Below.refl _ _).alloc (Nat.le_refl _) _⟩
set_option maxHeartbeats 400000 in
theorem mwordsOf_any (k r a b n x o : Int) (w : World) :
    Calls Tryd.prog 23 #[.agg #[.int .u32 k, .int .u32 r, .int .u32 a, .int .u32 b, .int .u32 n, .int .u32 x, .int .u32 o]] w fun e w' =>
      e = .returned (.agg #[.int .u32 0, .int .u32 0, .int .u32 r, .int .u32 a, .int .u32 b, .int .u32 n, .int .u32 x, .int .u32 o]) ∧ Below w.heap.size w w' := by
  go_enter Tryd.func23, Tryd.ntmps23
  go_wp2_with fail
  refine bodyPost_ret (v := .agg #[.int .u32 0, .int .u32 0, .int .u32 r, .int .u32 a, .int .u32 b, .int .u32 n, .int .u32 x, .int .u32 o]) (by simp [results, Tryd.results23, go_sem]) rfl ⟨rfl, ?_⟩
  exact ((Below.refl _ _).alloc (Nat.le_refl _) _).alloc (by simp) _
set_option maxHeartbeats 400000 in
theorem message_any (k z0 z1 r a b n x o : Int) (w : World) :
    Calls Tryd.prog 28 #[.int .u32 k, .agg #[.int .u32 z0, .int .u32 z1, .int .u32 r, .int .u32 a, .int .u32 b, .int .u32 n, .int .u32 x, .int .u32 o]] w fun e w' =>
      e = .returned (.agg #[.int .u32 k, .int .u32 r, .int .u32 a, .int .u32 b, .int .u32 n, .int .u32 x, .int .u32 o]) ∧ Below w.heap.size w w' := by
  go_enter Tryd.func28, Tryd.ntmps28
  go_wp2_with fail
  refine bodyPost_ret (v := .agg #[.int .u32 k, .int .u32 r, .int .u32 a, .int .u32 b, .int .u32 n, .int .u32 x, .int .u32 o]) (by simp [results, Tryd.results28, go_sem]) rfl ⟨rfl, ?_⟩
  exact ((Below.refl _ _).alloc (Nat.le_refl _) _).alloc (by simp) _
end Go.Proofs.YthpcnekidlhfpaaDoor
