/- WordCuts: whatever the row and places, the law returns true. -/
import Derived.Test.YtnckiokhgpmiaaaWordKeeps
namespace Go.Proofs.Ytnckiokhgpmiaaa.wordCuts
open Go.RowKit

theorem cutL_cast {A : List Int} {f t : Nat} (h1 : f ≤ t) (h2 : t ≤ A.length) : cutOk A f t = true ∧ cutL A f t = (A.drop f).take (t - f) := ⟨cutOk_yes ⟨h1, h2⟩, cutL_yes ⟨h1, h2⟩⟩
set_option maxHeartbeats 1000000 in
theorem walk_long (w : World) (a1 : Option Addr) (n1 c1 : Nat) (f t : Int) (h1 : 200 < n1) :
    Calls Try.prog 6 #[.slice a1 n1 c1, .int .u8 f, .int .u8 t] w fun e w' => e = .returned (.bool true) ∧ Below w.heap.size w w' := by
  go_enter Try.func6, Try.ntmps6
  go_wp2_with fail
  refine (awake_any _).mono ?_
  rintro e w1 ⟨rfl, hb⟩
  go_wp2_with fail
  refine (awake_any _).mono ?_
  rintro e w2 ⟨rfl, hb2⟩
  go_wp2_with fail
  go_ret
  exact ⟨rfl, hb.trans (hb2.mono hb.size)⟩
set_option maxHeartbeats 2000000 in
theorem walk_main (w : World) (v1 : Value) (A : List Int) (f t : Int) (p q : Nat) (hA : Ints .u32 w v1 A) (h1 : A.length ≤ 200) (f0 : 0 ≤ f) (f1 : f ≤ 255) (t0 : 0 ≤ t) (t1 : t ≤ 255)
    (hpA : p ≤ A.length) (hqA : p + q ≤ A.length) (hp : f % ((A.length : Int) + 1) = (p : Int)) (hq : t % ((A.length : Int) - (p : Int) + 1) = (q : Int)) :
    Calls Try.prog 6 #[v1, .int .u8 f, .int .u8 t] w fun e w' => e = .returned (.bool true) ∧ Below w.heap.size w w' := by
  obtain ⟨i0, hi, hz0, hz1, hz2⟩ := info_parts Try.infoU
  obtain ⟨a1, c1, rfl⟩ := hA.form
  have h200 : (A.length : Int) ≤ 200 := by omega
  have x0 : 0 ≤ f % ((A.length : Int) + 1) := by rw [hp]; omega
  have x1 : f % ((A.length : Int) + 1) ≤ A.length := by rw [hp]; omega
  have y0 : 0 ≤ t % ((A.length : Int) - f % ((A.length : Int) + 1) + 1) := by rw [hp, hq]; omega
  have y1 : f % ((A.length : Int) + 1) + t % ((A.length : Int) - f % ((A.length : Int) + 1) + 1) ≤ A.length := by rw [hp, hq]; omega
  have Hp := Lib.hid hp; have Hq := Lib.hid hq
  clear hp hq
  have e1 : cutOk A 0 p = true ∧ cutL A 0 p = (A.drop 0).take (p - 0) := cutL_cast (A := A) (f := 0) (t := p) (Nat.zero_le _) hpA
  have e2 := cutL_cast (A := A) (f := p) (t := p + q) (Nat.le_add_right _ _) hqA
  have e3 := cutL_cast (A := A) (f := p + q) (t := A.length) hqA (Nat.le_refl _)
  have e4 := cutL_cast (A := A) (f := p) (t := A.length) hpA (Nat.le_refl _)
  rw [Int.natCast_add] at e2 e3
  have E1 := Lib.hid e1; have E2 := Lib.hid e2; have E3 := Lib.hid e3; have E4 := Lib.hid e4
  clear e1 e2 e3 e4
  have hjoin : (cutL A 0 p ++ cutL A p ((p : Int) + q)) ++ cutL A ((p : Int) + q) A.length = A := by
    rw [E1.out.2, E2.out.2, E3.out.2, List.drop_zero, Nat.sub_zero, Nat.add_sub_cancel_left, List.take_of_length_le (l := A.drop (p + q)) (by simp), ← List.drop_drop, List.append_assoc, List.take_append_drop, List.take_append_drop]
  have hpart : cutL (cutL A p A.length) 0 q = cutL A p ((p : Int) + q) := by
    have hl : (cutL A p A.length).length = A.length - p := by rw [E4.out.2]; simp
    have : cutL (cutL A p A.length) 0 q = ((cutL A p A.length).drop 0).take (q - 0) := (cutL_cast (A := cutL A p A.length) (f := 0) (t := q) (Nat.zero_le _) (by rw [hl]; omega)).2
    rw [this, E4.out.2, E2.out.2, List.drop_zero, Nat.sub_zero, Nat.add_sub_cancel_left, List.take_take, Nat.min_eq_left (by omega)]
  have hpok : cutOk (cutL A p A.length) 0 q = true := by
    have hl : (cutL A p A.length).length = A.length - p := by rw [E4.out.2]; simp
    exact (cutL_cast (A := cutL A p A.length) (f := 0) (t := q) (Nat.zero_le _) (by rw [hl]; omega)).1
  have HP := Lib.hid hpart; have HK := Lib.hid hpok; clear hpart hpok
  have HJ := Lib.hid hjoin; clear hjoin
  go_enter Try.func6, Try.ntmps6
  go_wp2_with fail
  refine (awake_any _).mono ?_
  rintro e w1 ⟨rfl, hb1⟩
  go_wp2_with fail
  rw [Hp.out, Hq.out]
  clear x0 x1 y0 y1
  refine (cut_any _ 0 p A _ (hA.below hb1) (by omega)).mono ?_
  rintro e w2 ⟨x, rfl, hx, _, hb⟩
  have hb2 := hb1.trans (hb.mono hb1.size)
  clear hb hb1
  rw [E1.out.1]
  have X := hx
  clear hx
  go_wp2_with fail
  refine (cut_any _ p (p + q) A _ (hA.below hb2) (by omega)).mono ?_
  rintro e w3 ⟨y, rfl, hy, _, hb⟩
  have hb3 := hb2.trans (hb.mono hb2.size)
  replace X := X.below hb
  clear hb hb2
  rw [E2.out.1]
  have Y := hy
  clear hy
  go_wp2_with fail
  refine (cut_any _ (p + q) A.length A _ (hA.below hb3) (by omega)).mono ?_
  rintro e w4 ⟨z, rfl, hz, _, hb⟩
  have hb4 := hb3.trans (hb.mono hb3.size)
  replace X := X.below hb
  replace Y := Y.below hb
  clear hb hb3
  rw [E3.out.1]
  have Z := hz
  clear hz
  have s4 := hb4.size
  have lx := cutL_length A 0 p
  have ly := cutL_length A p ((p : Int) + q)
  have lz := cutL_length A ((p : Int) + q) A.length
  have Lx : Hid _ := lx; have Ly : Hid _ := ly; have Lz : Hid _ := lz
  clear lx ly lz
  go_wp2_with (at_builtin; refine wpList_append_ints rfl (.tmp 75) (.tmp 76) 26 rfl w4.heap.size 22 i0 .u32 0 4 Try.underlying26 hi hz0 hz1 hz2 (by decide) _ 0 [] rfl (owns_lit .u32 (Nat.le_refl _) rfl) _ _ rfl (X.alloc _) ?c1 ?c2 ?_)
  case c1 => have := Lx.out; omega
  case c2 => simp
  intro v5 w5 hown5 hgrow5
  have b5 : Below w4.heap.size w4 w5 := ((Below.refl _ _).alloc (Nat.le_refl _) _).grown hgrow5 (by simp) (fun g hg => by simp [Value.ownBlock] at hg; omega)
  have Y5 := Y.below b5
  have s5 := b5.size
  clear hgrow5
  go_wp2_with (at_builtin; refine wpList_append_ints rfl (.tmp 77) (.tmp 78) 26 rfl w4.heap.size 22 i0 .u32 0 4 Try.underlying26 hi hz0 hz1 hz2 (by decide) _ (cutL A 0 p).length (cutL A 0 p) rfl hown5 _ _ rfl Y5 ?c1 ?c2 ?_)
  case c1 => have := Lx.out; have := Ly.out; omega
  case c2 => exact s5
  intro v6 w6 hown6 hgrow6
  rw [← List.map_append] at hown6
  have b6 : Below w4.heap.size w4 w6 := b5.grown hgrow6 s5 (fun g hg => (hown5.lt g hg).1)
  have Z6 := Z.below b6
  have s6 := b6.size
  clear hgrow6 hown5 Y5
  go_wp2_with (at_builtin; refine wpList_append_ints rfl (.tmp 79) (.tmp 80) 26 rfl w4.heap.size 22 i0 .u32 0 4 Try.underlying26 hi hz0 hz1 hz2 (by decide) _ ((cutL A 0 p).length + (cutL A p ((p : Int) + q)).length) _ rfl hown6 _ _ rfl Z6 ?c1 ?c2 ?_)
  case c1 => have := Lx.out; have := Ly.out; have := Lz.out; omega
  case c2 => exact s6
  intro v7 w7 hown7 hgrow7
  rw [← List.map_append, ← List.map_append, ← List.append_assoc] at hown7
  have b7 : Below w4.heap.size w4 w7 := b6.grown hgrow7 s6 (fun g hg => (hown6.lt g hg).1)
  have hb7 : Below w.heap.size w w7 := hb4.trans (b7.mono s4)
  have I7 := (ints_of_owns hown7).1
  rw [HJ.out] at I7
  replace Y := Y.below b7
  clear hgrow7 hown6 Z6 hown7 b5 b6 b7 s5 s6 X Z
  go_wp2_with fail
  refine (wordKeeps.rsame_yes _ _ A _ I7 (hA.below hb7)).mono ?_
  rintro e w8 ⟨rfl, hr⟩
  have hb8 := hb7.trans (hr.below _)
  replace Y := Y.reads hr
  clear hr hb7 hb4 I7
  go_wp2_with fail
  refine (cut_any _ p A.length A _ (hA.below hb8) (by omega)).mono ?_
  rintro e w9 ⟨u, rfl, hu, _, hb⟩
  have hb9 := hb8.trans (hb.mono hb8.size)
  replace Y := Y.below hb
  clear hb hb8
  rw [E4.out.1]
  go_wp2_with fail
  have hql : (cutL A p A.length).length ≤ 1073741824 := by have := cutL_length A p A.length; omega
  rw [show ((p : Int) + q - p) = q from by omega]
  refine (cut_any _ 0 q (cutL A p A.length) _ hu hql).mono ?_
  rintro e w10 ⟨v, rfl, hv, _, hb⟩
  have hb10 := hb9.trans (hb.mono hb9.size)
  replace Y := Y.below hb
  clear hb hb9 hql
  rw [HK.out]
  rw [HP.out] at hv
  go_wp2_with fail
  refine (wordKeeps.rsame_yes _ _ _ _ hv Y).mono ?_
  rintro e w11 ⟨rfl, hr⟩
  have hb11 := hb10.trans (hr.below _)
  go_wp2_with fail
  go_ret
  exact ⟨rfl, hb11⟩
theorem walk (w : World) (v1 : Value) (A : List Int) (h1 : Ints .u32 w v1 A) (_ : ∀ n ∈ A, (Lit.int .u32 n).wf = true) (f : Int) (hf : (Lit.int .u8 f).wf = true) (t : Int) (ht : (Lit.int .u8 t).wf = true) :
    Calls Try.prog 6 #[v1, .int .u8 f, .int .u8 t] w fun e w' => e = .returned (.bool true) ∧ Below w.heap.size w w' := by
  by_cases h : 200 < A.length
  · obtain ⟨a1, c1, rfl⟩ := h1.form
    exact walk_long w a1 _ c1 f t h
  · have bf := Go.bounds_u8 hf
    have bt := Go.bounds_u8 ht
    have p0 := Int.emod_nonneg f (show (A.length : Int) + 1 ≠ 0 from by omega)
    have p1 := Int.emod_lt_of_pos f (show (0 : Int) < (A.length : Int) + 1 from by omega)
    obtain ⟨p, hp⟩ := Int.eq_ofNat_of_zero_le p0
    have hpA : p ≤ A.length := by omega
    have q0 := Int.emod_nonneg t (show (A.length : Int) - p + 1 ≠ 0 from by omega)
    have q1 := Int.emod_lt_of_pos t (show (0 : Int) < (A.length : Int) - p + 1 from by omega)
    obtain ⟨q, hq⟩ := Int.eq_ofNat_of_zero_le q0
    exact walk_main w v1 A f t p q h1 (by omega) bf.1 bf.2 bt.1 bt.2 hpA (by omega) hp hq
end Go.Proofs.Ytnckiokhgpmiaaa.wordCuts
