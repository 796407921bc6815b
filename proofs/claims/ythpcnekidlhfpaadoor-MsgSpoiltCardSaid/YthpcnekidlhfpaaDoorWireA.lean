/- Contracts of the small functions of layer wire: mayTag, copied, One, startsField, May. -/
import Derived.Test.YthpcnekidlhfpaaDoorSame
import Derived.Test.YthpcnekidlhfpaaDoorFrames
namespace Go.Proofs.YthpcnekidlhfpaaDoor
open Go.RowKit

def mayTagB (t : Int) : Bool := decide (1 ≤ t ∧ t ≤ 255)
set_option maxHeartbeats 400000 in
theorem mayTag_any (t : Int) (w : World) :
    Calls Tryd.prog 35 #[.int .u32 t] w fun e w' => e = .returned (.bool (mayTagB t)) ∧ w = w' := by
  by_cases h1 : 1 ≤ t
  · by_cases h2 : t ≤ 255
    · have hb : mayTagB t = true := decide_eq_true ⟨h1, h2⟩
      have HB := Lib.hid hb; clear hb
      go_enter Tryd.func35, Tryd.ntmps35
      go_wp2_with fail
      go_ret
      exact ⟨ret_bool HB.out.symm, rfl⟩
    · have hb : mayTagB t = false := decide_eq_false (by omega)
      have HB := Lib.hid hb; clear hb
      go_enter Tryd.func35, Tryd.ntmps35
      go_wp2_with fail
      go_ret
      exact ⟨ret_bool HB.out.symm, rfl⟩
  · have hb : mayTagB t = false := decide_eq_false (by omega)
    have HB := Lib.hid hb; clear hb
    go_enter Tryd.func35, Tryd.ntmps35
    go_wp2_with fail
    go_ret
    exact ⟨ret_bool HB.out.symm, rfl⟩

theorem Tryd.infoU : (Tryd.prog.info? 22).map (fun i => (i.zero, i.size, i.bytes)) = some (some (.int .u32 0), 1, 4) := by kernel_rfl
/-- What a copy gives. -/
def CopyGives (A : List Int) (w : World) (e : Ending) (w' : World) : Prop :=
  ∃ u, e = .returned u ∧ Ints .u32 w' u A ∧ Typed 22 w' u ∧ From w.heap.size u ∧ Below w.heap.size w w'
theorem owns_block {w : World} {base : Nat} {e : TypeId} {g n cap : Nat} {xs : List Value} (h : w.ownsRow base e 1 (.slice (some ⟨g, 0, none⟩) n cap) n xs) :
    ∃ cur : List Value, w.heap[g]? = some (.cells cur.toArray e (0, 0)) ∧ cur.length = cap ∧ cur.take n = xs ∧ base ≤ g := by
  rcases h.2 with ⟨h', _⟩ | ⟨g', cap', cur, h', hb, hg, _, _, hcs, htake⟩
  · simp at h'
  · simp only [Value.slice.injEq, Option.some.injEq, Addr.mk.injEq, and_true, true_and] at h'
    obtain ⟨rfl, rfl⟩ := h'
    exact ⟨cur.toList, by simpa using hg, by simpa using hcs, by simpa using htake, hb⟩
theorem ints_of_block {k : IntKind} {w : World} {g c : Nat} {arr : Array Value} {e : TypeId} {zs : List Int} (h : w.heap[g]? = some (.cells arr e (0, 0))) (hl : zs.length ≤ c) (hm : c ≤ maxLen) (hz : ∀ i, i < zs.length → arr[i]? = some (.int k (zs.getD i 0))) :
    Ints k w (.slice (some ⟨g, 0, none⟩) zs.length c) zs :=
  Ints.row rfl hl hm fun i hi => by simpa [World.cell?, h] using hz i hi
def numV (A : List Int) : List Value := A.map (Value.int .u32)
theorem numV_length (A : List Int) : (numV A).length = A.length := by simp [numV]
theorem numV_at {A : List Int} {i : Nat} {v : Value} (hv : (numV A)[i]? = some v) : i < A.length ∧ v = .int .u32 (A.getD i 0) := by
  unfold numV at hv
  rw [List.getElem?_map] at hv
  have hi : i < A.length := by
    rcases Nat.lt_or_ge i A.length with h1 | h1
    · exact h1
    · rw [List.getElem?_eq_none h1] at hv; simp at hv
  simp [hi] at hv
  exact ⟨hi, by simp [hi, hv]⟩
theorem numV_one (A : List Int) : ∀ v ∈ numV A, v.oneCell' = true := by
  intro v hv; unfold numV at hv; rw [List.mem_map] at hv; obtain ⟨z, _, rfl⟩ := hv; rfl
set_option maxHeartbeats 400000 in
theorem copied_some (b o n c : Nat) (A : List Int) (w : World) (hA : A.length = n) (hn0 : 0 < n) (hm : n ≤ 1073741824)
    (h1 : ∀ i, i < n → w.cell? ⟨b, o + i, none⟩ = some (.int .u32 (A.getD i 0))) :
    Calls Tryd.prog 36 #[.slice (some ⟨b, o, none⟩) n c] w (CopyGives A w) := by
  obtain ⟨i0, hi, hz0, hz1, hz2⟩ := info_parts Tryd.infoU
  have H1 := Lib.hid h1; have HA := Lib.hid hA; clear h1 hA
  have hm' : n ≤ maxLen := by unfold maxLen; omega
  go_enter Tryd.func36, Tryd.ntmps36
  go_wp2_with (at_make; refine wpList_make_full _ rfl _ _ 26 rfl w.heap.size 22 i0 (.int .u32 0) 1 Tryd.underlying26 hi hz0 hz1 _ _ _ _ n rfl rfl ?b0 ?b1 ?b2 hm' (Nat.le_refl _) ?_)
  case b0 => omega
  case b1 => omega
  case b2 => rw [hz2]; omega
  intro w1 hown hgrow
  have hb1 := (Below.refl w.heap.size w).grown hgrow (Nat.le_refl _) (fun k h => by cases h)
  have hold : ∀ i, i < n → w1.cell? ⟨b, o + i, none⟩ = some (.int .u32 (A.getD i 0)) := fun i hi' => (hb1.cell (p := ⟨b, o + i, none⟩) (lt_of_cell (H1.out i hi'))).trans (H1.out i hi')
  have HO := Lib.hid hold; clear hold
  obtain ⟨cur, hblk, hcl, _, _⟩ := owns_block hown
  have HC := Lib.hid hcl
  have HB := Lib.hid hblk
  clear hown hgrow hcl hblk
  have HS := Lib.hid ((numV_length A).trans HA.out)
  go_wp2_with (with_reducible refine wpList_copy_splice rfl (.tmp 7) (.tmp 8) 26 26 rfl 22 Tryd.underlying26 (by rw [hi]; simp [hz1]) _ _ _ _ _ _ rfl rfl w.heap.size 0 cur _ HB.out (numV A) ?c1 ?c2 ?c3 (numV_one A) w.heap.size w hb1 (Nat.le_refl _) ?_)
  case c1 => rw [HS.out]; exact (Nat.min_self _).symm
  case c2 =>
    intro _
    (first | refine ⟨rfl, _, rfl, ?_⟩ | skip)
    intro j v hj
    obtain ⟨hlt, rfl⟩ := numV_at hj
    have := HO.out j (by rw [← HA.out]; exact hlt)
    simpa [Addr.add] using this
  case c3 => rw [HS.out, HC.out]; omega
  intro w2 hw2 hb2
  go_wp2_with fail
  go_ret
  refine ⟨.slice (some ⟨w.heap.size, 0, none⟩) n n, rfl, ?_, Typed.new hw2.out, From.some (Nat.le_refl _), hb2⟩
  have := ints_of_block (k := .u32) (c := n) (zs := A) hw2.out (by rw [HA.out]; exact Nat.le_refl _) hm' (fun i hi' => by
    simp only [splice, List.take_zero, List.nil_append, List.getElem?_toArray]
    rw [List.getElem?_append_left (by rw [HS.out, ← HA.out]; exact hi'), numV, List.getElem?_map, List.getElem?_eq_getElem hi']
    simp [hi'])
  rw [HA.out] at this
  exact this
set_option maxHeartbeats 400000 in
theorem copied_none (a : Option Addr) (c : Nat) (w : World) :
    Calls Tryd.prog 36 #[.slice a 0 c] w (CopyGives [] w) := by
  obtain ⟨i0, hi, hz0, hz1, hz2⟩ := info_parts Tryd.infoU
  go_enter Tryd.func36, Tryd.ntmps36
  go_wp2_with (at_make; refine wpList_make_full _ rfl _ _ 26 rfl w.heap.size 22 i0 (.int .u32 0) 1 Tryd.underlying26 hi hz0 hz1 _ _ _ _ 0 rfl rfl rfl rfl ?b2 ?b3 (Nat.le_refl _) ?_)
  case b2 => rw [hz2]; omega
  case b3 => unfold maxLen; omega
  intro w1 hown hgrow
  have hb1 := (Below.refl w.heap.size w).grown hgrow (Nat.le_refl _) (fun k h => by cases h)
  obtain ⟨cur, hblk, _, _, _⟩ := owns_block hown
  have HB := Lib.hid hblk
  clear hown hgrow hblk
  go_wp2_with (with_reducible refine wpList_copy_nothing rfl (.tmp 7) (.tmp 8) 26 26 rfl 22 Tryd.underlying26 (by rw [hi]; simp [hz1]) _ _ _ _ _ _ rfl rfl ?c1 ?_)
  case c1 => rfl
  all_goals
    go_ret
    exact ⟨.slice (some ⟨w.heap.size, 0, none⟩) 0 0, rfl, Ints.none (Nat.zero_le _), Typed.new HB.out, From.some (Nat.le_refl _), hb1⟩
theorem copied_any (v : Value) (A : List Int) (w : World) (h : Ints .u32 w v A) (hA : A.length ≤ 1073741824) :
    Calls Tryd.prog 36 #[v] w (CopyGives A w) := by
  by_cases hz : A = []
  · subst hz
    obtain ⟨a, c, rfl⟩ := h.form
    exact copied_none a c w
  · obtain ⟨b, o, c, rfl, _, _, hc⟩ := h.cells hz
    exact copied_some b o _ c A w rfl (List.length_pos_iff.2 hz) hA hc
/-- What One gives. -/
def OneGives (t : Int) (A : List Int) (w : World) (e : Ending) (w' : World) : Prop :=
  ∃ u, e = .returned (.agg #[.int .u32 t, u]) ∧ Ints .u32 w' u A ∧ Typed 22 w' u ∧ From w.heap.size u ∧ Below w.heap.size w w'
set_option maxHeartbeats 400000 in
theorem one_any (t : Int) (v : Value) (A : List Int) (w : World) (h : Ints .u32 w v A) (hA : A.length ≤ 1073741824) :
    Calls Tryd.prog 33 #[.int .u32 t, v] w (OneGives t A w) := by
  go_enter Tryd.func33, Tryd.ntmps33
  go_wp2_with fail
  refine (copied_any _ A _ (h.alloc _) hA).mono ?_
  rintro e w1 ⟨u, rfl, hu, ht, hf, hb⟩
  obtain ⟨ua, uc, rfl⟩ := hu.form
  have Ht := Lib.hid ht; clear ht
  have Hu := Lib.hid hu; clear hu
  have Hf := Lib.hid hf; clear hf
  obtain ⟨hc, hz⟩ := bcell hb
  have hsz : w.heap.size < w1.heap.size := by have := hb.size; simp at this; omega
  go_wp2_with fail
  refine bodyPost_ret (v := .agg #[.int .u32 t, .slice ua A.length uc]) (by simp [results, Tryd.results33, go_sem, hc]) rfl ?_
  have b0 : Below w.heap.size w w1 := ((Below.refl _ _).alloc (Nat.le_refl _) _).trans (hb.mono (by simp))
  refine ⟨_, rfl, (Hu.out.setCell (B := w.heap.size + 1) ?_ ?_ _).setCell (B := w.heap.size + 1) ?_ ?_ _, (Ht.out.setCell (B := w.heap.size + 1) ?_ ?_ _).setCell (B := w.heap.size + 1) ?_ ?_ _, Hf.out.mono (by simp), (b0.setCell ?_ _).setCell ?_ _⟩
  all_goals first | exact Hf.out.mono (by simp) | simp
theorem starts_no {l : List Int} (h : ¬ (2 ≤ l.length ∧ 1 ≤ l.getD 0 0 ∧ l.getD 0 0 ≤ 255 ∧ l.getD 1 0 ≤ 16 ∧ l.getD 1 0 ≤ (l.length : Int) - 2)) : starts l = false := decide_eq_false h
set_option maxHeartbeats 400000 in
theorem startsField_short (a : Option Addr) (n c : Nat) (w : World) (h : n < 2) :
    Calls Tryd.prog 34 #[.slice a n c] w fun e w' => e = .returned (.bool false) ∧ w = w' := by
  go_enter Tryd.func34, Tryd.ntmps34
  go_wp2_with fail
  go_ret
  exact ⟨rfl, rfl⟩
set_option maxHeartbeats 400000 in
theorem startsField_long (b o n c : Nat) (x0 x1 : Int) (w : World) (h : 2 ≤ n) (hn : n ≤ 1073741824) (h0 : 0 ≤ x1) (h1 : x1 < 4294967296)
    (e0 : w.cell? ⟨b, o, none⟩ = some (.int .u32 x0)) (e1 : w.cell? ⟨b, o + 1, none⟩ = some (.int .u32 x1)) :
    Calls Tryd.prog 34 #[.slice (some ⟨b, o, none⟩) n c] w fun e w' => e = .returned (.bool (decide (1 ≤ x0 ∧ x0 ≤ 255 ∧ x1 ≤ 16 ∧ x1 ≤ (n : Int) - 2))) ∧ w = w' := by
  by_cases ht : mayTagB x0 = true
  · have ht' := of_decide_eq_true ht
    have HT := Lib.hid ht; clear ht
    by_cases h16 : x1 ≤ 16
    · by_cases hl : x1 ≤ (n : Int) - 2
      · have hr : decide (1 ≤ x0 ∧ x0 ≤ 255 ∧ x1 ≤ 16 ∧ x1 ≤ (n : Int) - 2) = true := decide_eq_true ⟨ht'.1, ht'.2, h16, hl⟩
        have HR := Lib.hid hr; clear hr
        go_enter Tryd.func34, Tryd.ntmps34
        go_wp2_with fail
        refine (mayTag_any x0 _).mono ?_
        rintro e w1 ⟨rfl, rfl⟩
        rw [HT.out]
        go_wp2_with fail
        go_ret
        exact ⟨ret_bool HR.out.symm, rfl⟩
      · have hr : decide (1 ≤ x0 ∧ x0 ≤ 255 ∧ x1 ≤ 16 ∧ x1 ≤ (n : Int) - 2) = false := decide_eq_false (by omega)
        have HR := Lib.hid hr; clear hr
        go_enter Tryd.func34, Tryd.ntmps34
        go_wp2_with fail
        refine (mayTag_any x0 _).mono ?_
        rintro e w1 ⟨rfl, rfl⟩
        rw [HT.out]
        go_wp2_with fail
        go_ret
        exact ⟨ret_bool ((decide_eq_false (by omega)).trans HR.out.symm), rfl⟩
    · have hr : decide (1 ≤ x0 ∧ x0 ≤ 255 ∧ x1 ≤ 16 ∧ x1 ≤ (n : Int) - 2) = false := decide_eq_false (by omega)
      have HR := Lib.hid hr; clear hr
      have d16 : decide (x1 ≤ 16) = false := by simpa using h16
      go_enter Tryd.func34, Tryd.ntmps34
      go_wp2_with fail
      refine (mayTag_any x0 _).mono ?_
      rintro e w1 ⟨rfl, rfl⟩
      rw [HT.out]
      go_wp2_with fail
      go_ret
      exact ⟨ret_bool HR.out.symm, rfl⟩
  · have ht' := of_decide_eq_false (by simpa using ht : mayTagB x0 = false)
    have ht2 : mayTagB x0 = false := by simpa using ht
    have HT := Lib.hid ht2; clear ht ht2
    have hr : decide (1 ≤ x0 ∧ x0 ≤ 255 ∧ x1 ≤ 16 ∧ x1 ≤ (n : Int) - 2) = false := decide_eq_false (by omega)
    have HR := Lib.hid hr; clear hr
    have HT' := Lib.hid ht'; clear ht'
    go_enter Tryd.func34, Tryd.ntmps34
    go_wp2_with fail
    refine (mayTag_any x0 _).mono ?_
    rintro e w1 ⟨rfl, rfl⟩
    rw [HT.out]
    go_wp2_with fail
    go_ret
    exact ⟨ret_bool HR.out.symm, rfl⟩
theorem startsField_any (v : Value) (l : List Int) (w : World) (hv : Ints .u32 w v l) (hl : l.length ≤ 1073741824) (hr : ∀ x ∈ l, 0 ≤ x ∧ x < 4294967296) :
    Calls Tryd.prog 34 #[v] w fun e w' => e = .returned (.bool (starts l)) ∧ w = w' := by
  by_cases h : l.length < 2
  · obtain ⟨a, c, rfl⟩ := hv.form
    rw [starts_no (by omega)]
    exact startsField_short a _ c w h
  · obtain ⟨b, o, c, rfl, _, _, hc⟩ := hv.cells (by intro e; rw [e] at h; simp at h)
    obtain ⟨x0, x1, r, rfl⟩ : ∃ x0 x1 r, l = x0 :: x1 :: r := by
      match l, h with
      | x0 :: x1 :: r, _ => exact ⟨x0, x1, r, rfl⟩
      | [_], h => simp at h
      | [], h => simp at h
    have e0 := hc 0 (by simp)
    have e1 := hc 1 (by simp)
    have hx1 := hr x1 (by simp)
    refine (startsField_long b o _ c x0 x1 w (by simp) hl hx1.1 hx1.2 (by simpa using e0) (by simpa using e1)).mono fun e w' ⟨he, hw⟩ => ⟨?_, hw⟩
    rw [he]; unfold starts; simp
set_option maxHeartbeats 400000 in
/-- A field that may be, may be. -/
theorem wmay_yes (t : Int) (a : Option Addr) (n c : Nat) (w : World) (h1 : 1 ≤ t) (h2 : t ≤ 255) (hn : n ≤ 16) :
    Calls Tryd.prog 30 #[.agg #[.int .u32 t, .slice a n c]] w fun e w' => e = .returned (.bool true) ∧ Below w.heap.size w w' := by
  have ht : mayTagB t = true := decide_eq_true ⟨h1, h2⟩
  have HT := Lib.hid ht; clear ht
  go_enter Tryd.func30, Tryd.ntmps30
  go_wp2_with fail
  refine (mayTag_any t _).mono ?_
  rintro e w1 ⟨rfl, rfl⟩
  rw [HT.out]
  go_wp2_with fail
  go_ret
  exact ⟨ret_bool (decide_eq_true (by omega)), (Below.refl _ _).alloc (Nat.le_refl _) _⟩
end Go.Proofs.YthpcnekidlhfpaaDoor
