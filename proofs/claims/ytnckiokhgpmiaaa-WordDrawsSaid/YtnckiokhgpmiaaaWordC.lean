/- Contracts of the two Cuts: of layer word and of its reference: what is cut out lies in new memory. -/
import Derived.Test.YtnckiokhgpmiaaaWordB
namespace Go.Proofs.Ytnckiokhgpmiaaa
open Go.RowKit

def cutOk (A : List Int) (f t : Int) : Bool := decide (0 ≤ f ∧ f ≤ t ∧ t ≤ A.length)
def cutL (A : List Int) (f t : Int) : List Int := if cutOk A f t then (A.drop f.toNat).take (t.toNat - f.toNat) else []
theorem ret_cut {u : Value} {a b : Bool} (h : a = b) : Ending.returned (.tuple #[u, .bool a]) = .returned (.tuple #[u, .bool b]) := by rw [h]
/-- What a cut gives. -/
def CutGives (A : List Int) (f t : Int) (w : World) (e : Ending) (w' : World) : Prop :=
  ∃ u, e = .returned (.tuple #[u, .bool (cutOk A f t)]) ∧ Ints .u32 w' u (cutL A f t) ∧ From w.heap.size u ∧ Below w.heap.size w w'
theorem cutOk_not {A : List Int} {f t : Int} (h : ¬ (0 ≤ f ∧ f ≤ t ∧ t ≤ A.length)) : cutOk A f t = false := decide_eq_false h
theorem cutOk_yes {A : List Int} {f t : Nat} (h : f ≤ t ∧ t ≤ A.length) : cutOk A f t = true := decide_eq_true ⟨by omega, by omega, by omega⟩
theorem cutL_yes {A : List Int} {f t : Nat} (h : f ≤ t ∧ t ≤ A.length) : cutL A f t = (A.drop f).take (t - f) := by
  unfold cutL; rw [cutOk_yes h]; simp
theorem cutL_length (A : List Int) (f t : Int) : (cutL A f t).length ≤ A.length := by
  unfold cutL; split
  · simp; omega
  · simp
theorem cutGives_no {A : List Int} {f t : Int} {w w' : World} (h : ¬ (0 ≤ f ∧ f ≤ t ∧ t ≤ A.length)) (hr : Below w.heap.size w w') : CutGives A f t w (.returned (.tuple #[.slice none 0 0, .bool false])) w' := by
  refine ⟨_, by rw [cutOk_not h], ?_, From.nil _ _ _, hr⟩
  unfold cutL; rw [cutOk_not h]; exact Ints.nil _ _

theorem Try.infoU : (Try.prog.info? 22).map (fun i => (i.zero, i.size, i.bytes)) = some (some (.int .u32 0), 1, 4) := by kernel_rfl

theorem owns_block {w : World} {base : Nat} {e : TypeId} {g n cap : Nat} {xs : List Value} (h : w.ownsRow base e 1 (.slice (some ⟨g, 0, none⟩) n cap) n xs) :
    ∃ cur : List Value, w.heap[g]? = some (.cells cur.toArray e (0, 0)) ∧ cur.length = cap ∧ cur.take n = xs ∧ base ≤ g := by
  rcases h.2 with ⟨h', _⟩ | ⟨g', cap', cur, h', hb, hg, _, _, hcs, htake⟩
  · simp at h'
  · simp only [Value.slice.injEq, Option.some.injEq, Addr.mk.injEq, and_true, true_and] at h'
    obtain ⟨rfl, rfl⟩ := h'
    exact ⟨cur.toList, by simpa using hg, by simpa using hcs, by simpa using htake, hb⟩
theorem ints_of_block {k : IntKind} {w : World} {g c : Nat} {arr : Array Value} {e : TypeId} {zs : List Int} (h : w.heap[g]? = some (.cells arr e (0, 0))) (hl : zs.length ≤ c) (hm : c ≤ maxLen) (hz : ∀ i, i < zs.length → arr[i]? = some (.int k (zs.getD i 0))) :
    Ints k w (.slice (some ⟨g, 0, none⟩) zs.length c) zs :=
  Ints.row rfl hl hm fun i hi => by simpa [World.cell?, h] using hz i hi
theorem cut_length {A : List Int} {f t : Nat} (h : t ≤ A.length) : ((A.drop f).take (t - f)).length = t - f := by simp; omega
def cutV (A : List Int) (f t : Nat) : List Value := ((A.drop f).take (t - f)).map (Value.int .u32)
theorem cutV_length {A : List Int} {f t : Nat} (h : t ≤ A.length) : (cutV A f t).length = t - f := by unfold cutV; rw [List.length_map, cut_length h]
theorem cutV_at {A : List Int} {f t i : Nat} {v : Value} (h : t ≤ A.length) (hv : (cutV A f t)[i]? = some v) : i < t - f ∧ v = .int .u32 (A.getD (f + i) 0) := by
  have hi : i < t - f := by
    rcases Nat.lt_or_ge i (t - f) with h1 | h1
    · exact h1
    · rw [List.getElem?_eq_none (by rw [cutV_length h]; exact h1)] at hv
      simp at hv
  refine ⟨hi, ?_⟩
  have h2 : f + i < A.length := by omega
  unfold cutV at hv
  simp [hi, h2] at hv
  simp [h2, hv]
theorem cutV_one {A : List Int} {f t : Nat} : ∀ v ∈ cutV A f t, v.oneCell' = true := by
  intro v hv; unfold cutV at hv; rw [List.mem_map] at hv; obtain ⟨z, _, rfl⟩ := hv; rfl
theorem cut_at {A : List Int} {f t i : Nat} (hi : i < t - f) : ((A.drop f).take (t - f))[i]? = A[f + i]? := by
  simp [hi]

set_option maxHeartbeats 400000 in
theorem cut_no (a : Option Addr) (n c : Nat) (f t : Int) (A : List Int) (w : World) (hA : A.length = n) (h : ¬ (0 ≤ f ∧ f ≤ t ∧ t ≤ (n : Int))) :
    Calls Try.prog 14 #[.slice a n c, .int .i64 f, .int .i64 t] w (CutGives A f t w) := by
  have hh : ¬ (0 ≤ f ∧ f ≤ t ∧ t ≤ A.length) := by rw [hA]; exact h
  have HH := Lib.hid hh; clear hh hA
  by_cases h1 : f < 0
  · go_enter Try.func14, Try.ntmps14
    go_wp2_with fail
    go_ret2
    exact cutGives_no HH.out (Below.refl _ _)
  · by_cases h2 : t < f
    · go_enter Try.func14, Try.ntmps14
      go_wp2_with fail
      go_ret2
      exact cutGives_no HH.out (Below.refl _ _)
    · have h3 : (n : Int) < t := by omega
      go_enter Try.func14, Try.ntmps14
      go_wp2_with fail
      go_ret2
      exact cutGives_no HH.out (Below.refl _ _)
set_option maxHeartbeats 400000 in
theorem cut_yes (b o n c f t : Nat) (A : List Int) (w : World) (hA : A.length = n) (hl : n ≤ c) (hm : c ≤ maxLen) (hn : n ≤ 1073741824) (hft : f < t) (htn : t ≤ n)
    (h1 : ∀ i, i < n → w.cell? ⟨b, o + i, none⟩ = some (.int .u32 (A.getD i 0))) :
    Calls Try.prog 14 #[.slice (some ⟨b, o, none⟩) n c, .int .i64 f, .int .i64 t] w (CutGives A f t w) := by
  obtain ⟨i0, hi, hz0, hz1, hz2⟩ := info_parts Try.infoU
  have H1 := Lib.hid h1; have HA := Lib.hid hA; clear h1 hA
  have k1 : c ≤ 9223372036854775807 := by unfold maxLen at hm; omega
  have hm' : t - f ≤ maxLen := by omega
  clear hm
  go_enter Try.func14, Try.ntmps14
  go_wp2_with (at_make; refine wpList_make_full _ rfl _ _ 26 rfl w.heap.size 22 i0 (.int .u32 0) 1 Try.underlying26 hi hz0 hz1 _ _ _ _ (t - f) rfl rfl ?b0 ?b1 ?b2 hm' (Nat.le_refl _) ?_)
  case b0 => omega
  case b1 => omega
  case b2 => rw [hz2]; omega
  intro w1 hown hgrow
  have hb1 := (Below.refl w.heap.size w).grown hgrow (Nat.le_refl _) (fun k h => by cases h)
  have hold : ∀ i, i < n → w1.cell? ⟨b, o + i, none⟩ = some (.int .u32 (A.getD i 0)) := fun i hi' => (hb1.cell (p := ⟨b, o + i, none⟩) (lt_of_cell (H1.out i hi'))).trans (H1.out i hi')
  have HO := Lib.hid hold; clear hold
  obtain ⟨cur, hblk, hcl, _, _⟩ := owns_block hown
  have HC := Lib.hid hcl
  have HB := Lib.hid hblk
  clear hown hgrow hcl hblk
  have hsl : (cutV A f t).length = t - f := cutV_length (by rw [HA.out]; exact htn)
  have HS := Lib.hid hsl
  clear hsl
  go_wp2_with (with_reducible refine wpList_copy_splice rfl (.tmp 26) (.tmp 30) 26 26 rfl 22 Try.underlying26 (by rw [hi]; simp [hz1]) _ _ _ _ _ _ rfl rfl w.heap.size 0 cur _ HB.out (cutV A f t) ?c1 ?c2 ?c3 cutV_one w.heap.size w hb1 (Nat.le_refl _) ?_)
  case c1 => rw [HS.out]; exact (Nat.min_self _).symm
  case c2 =>
    intro _
    (first | refine ⟨rfl, _, rfl, ?_⟩ | skip)
    intro j v hj
    obtain ⟨hlt, rfl⟩ := cutV_at (by rw [HA.out]; exact htn) hj
    have := HO.out (f + j) (by omega)
    simpa [Addr.add, Nat.add_assoc] using this
  case c3 => rw [HS.out, HC.out]; omega
  intro w2 hw2 hb2
  go_wp2_with fail
  go_ret2
  have hok : cutOk A f t = true := cutOk_yes ⟨by omega, by rw [HA.out]; exact htn⟩
  refine ⟨.slice (some ⟨w.heap.size, 0, none⟩) (t - f) (t - f), ret_cut hok.symm, ?_, From.some (Nat.le_refl _), hb2⟩
  rw [cutL_yes ⟨by omega, by rw [HA.out]; exact htn⟩]
  have hlen : ((A.drop f).take (t - f)).length = t - f := cut_length (by rw [HA.out]; exact htn)
  have := ints_of_block (k := .u32) (c := t - f) (zs := (A.drop f).take (t - f)) hw2.out (by rw [hlen]; exact Nat.le_refl _) hm' (fun i hi' => by
    have h2 : i < t - f := by rw [hlen] at hi'; exact hi'
    simp only [splice, List.take_zero, List.nil_append, List.getElem?_toArray]
    rw [List.getElem?_append_left (by rw [HS.out]; exact h2), cutV, List.getElem?_map, List.getElem?_eq_getElem hi']
    have h3 : f + i < A.length := by rw [HA.out]; omega
    simp [h2, h3])
  rw [hlen] at this
  exact this
set_option maxHeartbeats 400000 in
/-- An empty cut. -/
theorem cut_none (x : Addr) (n c f : Nat) (A : List Int) (w : World) (hA : A.length = n) (hl : n ≤ c) (hm : c ≤ maxLen) (htn : f ≤ n) :
    Calls Try.prog 14 #[.slice (some x) n c, .int .i64 f, .int .i64 f] w (CutGives A f f w) := by
  obtain ⟨i0, hi, hz0, hz1, hz2⟩ := info_parts Try.infoU
  have HA := Lib.hid hA; clear hA
  have k1 : c ≤ 9223372036854775807 := by unfold maxLen at hm; omega
  clear hm
  go_enter Try.func14, Try.ntmps14
  go_wp2_with (at_make; refine wpList_make_full _ rfl _ _ 26 rfl w.heap.size 22 i0 (.int .u32 0) 1 Try.underlying26 hi hz0 hz1 _ _ _ _ 0 rfl rfl ?b0 ?b1 ?b2 ?b3 (Nat.le_refl _) ?_)
  case b0 => omega
  case b1 => omega
  case b2 => rw [hz2]; omega
  case b3 => unfold maxLen; omega
  intro w1 hown hgrow
  have hb1 := (Below.refl w.heap.size w).grown hgrow (Nat.le_refl _) (fun k h => by cases h)
  clear hown hgrow
  go_wp2_with (with_reducible refine wpList_copy_nothing rfl (.tmp 26) (.tmp 30) 26 26 rfl 22 Try.underlying26 (by rw [hi]; simp [hz1]) _ _ _ _ _ _ rfl rfl ?c1 ?_)
  case c1 => rfl
  all_goals
    go_ret2
    have hok : cutOk A f f = true := cutOk_yes ⟨Nat.le_refl _, by rw [HA.out]; exact htn⟩
    refine ⟨.slice (some ⟨w.heap.size, 0, none⟩) 0 0, ret_cut hok.symm, ?_, From.some (Nat.le_refl _), hb1⟩
    rw [cutL_yes ⟨Nat.le_refl _, by rw [HA.out]; exact htn⟩, Nat.sub_self, List.take_zero]
    exact Ints.none (Nat.zero_le _)
set_option maxHeartbeats 400000 in
theorem cut_nil (w : World) :
    Calls Try.prog 14 #[.slice none 0 0, .int .i64 0, .int .i64 0] w (CutGives [] 0 0 w) := by
  obtain ⟨i0, hi, hz0, hz1, hz2⟩ := info_parts Try.infoU
  go_enter Try.func14, Try.ntmps14
  go_wp2_with (at_make; refine wpList_make_full _ rfl _ _ 26 rfl w.heap.size 22 i0 (.int .u32 0) 1 Try.underlying26 hi hz0 hz1 _ _ _ _ 0 rfl rfl rfl rfl ?b2 ?b3 (Nat.le_refl _) ?_)
  case b2 => rw [hz2]; omega
  case b3 => unfold maxLen; omega
  intro w1 hown hgrow
  have hb1 := (Below.refl w.heap.size w).grown hgrow (Nat.le_refl _) (fun k h => by cases h)
  clear hown hgrow
  go_wp2_with (with_reducible refine wpList_copy_nothing rfl (.tmp 26) (.tmp 30) 26 26 rfl 22 Try.underlying26 (by rw [hi]; simp [hz1]) _ _ _ _ _ _ rfl rfl ?c1 ?_)
  case c1 => rfl
  go_ret2
  refine ⟨.slice (some ⟨w.heap.size, 0, none⟩) 0 0, rfl, ?_, From.some (Nat.le_refl _), hb1⟩
  exact Ints.none (Nat.zero_le _)
/-- Of whatever row and places: what is cut out. -/
theorem cut_any (v : Value) (f t : Int) (A : List Int) (w : World) (h : Ints .u32 w v A) (hA : A.length ≤ 1073741824) :
    Calls Try.prog 14 #[v, .int .i64 f, .int .i64 t] w (CutGives A f t w) := by
  by_cases hc : 0 ≤ f ∧ f ≤ t ∧ t ≤ (A.length : Int)
  · obtain ⟨g, rfl⟩ := Int.eq_ofNat_of_zero_le hc.1
    obtain ⟨u, rfl⟩ := Int.eq_ofNat_of_zero_le (Int.le_trans hc.1 hc.2.1)
    by_cases hgu : g = u
    · subst hgu
      rcases h.addr with ⟨rfl, rfl⟩ | ⟨x, c, rfl, hl, hm⟩
      · have hg : g = 0 := by have := hc.2.2; simp at this; exact this
        subst hg
        exact cut_nil w
      · exact cut_none x _ c g A w rfl hl hm (by omega)
    · obtain ⟨b, o, c, rfl, hl, hm, h1⟩ := h.cells (by intro e; subst e; simp at hc; omega)
      exact cut_yes b o _ c g u A w rfl hl hm hA (by omega) (by omega) h1
  · obtain ⟨a, c, rfl⟩ := h.form
    exact cut_no a _ c f t A w rfl hc

set_option maxHeartbeats 400000 in
theorem rcut_no (a : Option Addr) (n c : Nat) (f t : Int) (A : List Int) (w : World) (hA : A.length = n) (h : ¬ (0 ≤ f ∧ f ≤ t ∧ t ≤ (n : Int))) :
    Calls Try.prog 15 #[.slice a n c, .int .i64 f, .int .i64 t] w (CutGives A f t w) := by
  have hh : ¬ (0 ≤ f ∧ f ≤ t ∧ t ≤ A.length) := by rw [hA]; exact h
  have HH := Lib.hid hh; clear hh hA
  by_cases h1 : f < 0
  · go_enter Try.func15, Try.ntmps15
    go_wp2_with fail
    go_ret2
    exact cutGives_no HH.out (Below.refl _ _)
  · by_cases h2 : t < f
    · go_enter Try.func15, Try.ntmps15
      go_wp2_with fail
      go_ret2
      exact cutGives_no HH.out (Below.refl _ _)
    · have h3 : (n : Int) < t := by omega
      go_enter Try.func15, Try.ntmps15
      go_wp2_with fail
      go_ret2
      exact cutGives_no HH.out (Below.refl _ _)
theorem cutV_nil (A : List Int) (f : Nat) : cutV A f f = [] := by unfold cutV; simp
theorem cutV_snoc {A : List Int} {f k : Nat} (hf : f ≤ k) (hk : k < A.length) : cutV A f k ++ [.int .u32 (A.getD k 0)] = cutV A f (k + 1) := by
  unfold cutV
  rw [show k + 1 - f = (k - f) + 1 from by omega, List.take_succ_eq_append_getElem (by simp; omega)]
  have : f + (k - f) = k := by omega
  simp [this, hk]
set_option maxHeartbeats 1000000 in
theorem rcut_yes (b o n c f t : Nat) (A : List Int) (w : World) (hA : A.length = n) (hn : n ≤ 1073741824) (hft : f ≤ t) (htn : t ≤ n)
    (h1 : ∀ i, i < n → w.cell? ⟨b, o + i, none⟩ = some (.int .u32 (A.getD i 0))) :
    Calls Try.prog 15 #[.slice (some ⟨b, o, none⟩) n c, .int .i64 f, .int .i64 t] w (CutGives A f t w) := by
  obtain ⟨i0, hi, hz0, hz1, hz2⟩ := info_parts Try.infoU
  have H1 := Lib.hid h1; have HA := Lib.hid hA; clear h1 hA
  have d1 : decide ((f : Int) < 0) = false := by simp
  have d2 : decide (t < f) = false := by simp; omega
  have d3 : decide (n < t) = false := by simp; omega
  go_enter Try.func15, Try.ntmps15
  go_wp2_with fail
  go_loopw [8, 9] (fun out i wr => ∃ k : Nat, f ≤ k ∧ k ≤ t ∧ i = .int .i64 k ∧ wr.ownsRow w.heap.size 22 1 out (k - f) (cutV A f k) ∧ Below w.heap.size w wr) (fun _ i _ => t - (intOf i).toNat)
  case atStart => exact ⟨f, Nat.le_refl _, hft, rfl, by rw [cutV_nil, Nat.sub_self]; exact ⟨rfl, .inl ⟨rfl, rfl⟩⟩, Below.refl _ _⟩
  case round =>
    obtain ⟨k, hfk, hkt, rfl, hown, hb⟩ := hrel
    by_cases hlt : k < t
    · have e1 : wr.cell? ⟨b, o + k, none⟩ = some (.int .u32 (A.getD k 0)) := (hb.cell (p := ⟨b, o + k, none⟩) (lt_of_cell (H1.out k (by omega)))).trans (H1.out k (by omega))
      have hkA : k < A.length := by rw [HA.out]; omega
      go_wp2_with (at_builtin; refine wpList_append_own _ rfl _ _ 26 rfl w.heap.size 22 i0 (.int .u32 0) 1 4 Try.underlying26 hi hz0 hz1 hz2 rfl (by decide) _ _ _ rfl (hown.alloc _) ⟨wr.heap.size, 0, none⟩ 1 1 [.int .u32 (A.getD k 0)] rfl rfl ?c1 ?c2 ?c3 ?c4 ?c5 ?_)
      case c1 =>
        intro j u hj
        match j, hj with
        | 0, hj => simp at hj; subst hj; simp [Addr.add, hkA]
      case c2 => intro u hu; simp at hu; subst hu; rfl
      case c3 => unfold maxLen; omega
      case c4 => omega
      case c5 => simp; have := hb.size; omega
      intro v' w1 hown1 hgrow1 _
      have hn1 : (cutV A f k ++ [Value.int .u32 A[k]]) = cutV A f (k + 1) := by rw [← cutV_snoc hfk hkA]; simp [hkA]
      rw [hn1, show k - f + 1 = k + 1 - f from by omega] at hown1
      have hb1 : Below w.heap.size w w1 := (hb.alloc hb.size _).grown hgrow1 (by simp; have := hb.size; omega) (fun g hg => (hown.lt g hg).1)
      clear hn1 hgrow1 e1
      go_wp2_with fail
      go_roundw
      case rel => first | exact ⟨k + 1, by omega, by omega, by go_num, hown1, hb1⟩ | ((repeat apply Exists.intro); exact ⟨⟨k + 1, by omega, by omega, by go_num, hown1, hb1⟩, rfl⟩)
      case measure => simp [intOf]; omega
    · obtain rfl : k = t := by omega
      go_wp2_with fail
      go_ret2
      have hok : cutOk A f k = true := cutOk_yes ⟨hfk, by rw [HA.out]; exact htn⟩
      have hv : cutV A f k = (cutL A f k).map (Value.int .u32) := by rw [cutL_yes ⟨hfk, by rw [HA.out]; exact htn⟩]; rfl
      rw [hv] at hown
      obtain ⟨hi1, hi2, _⟩ := ints_of_owns hown
      exact ⟨_, ret_cut hok.symm, hi1, hi2, hb⟩
set_option maxHeartbeats 400000 in
theorem rcut_nil (a : Option Addr) (c : Nat) (w : World) :
    Calls Try.prog 15 #[.slice a 0 c, .int .i64 0, .int .i64 0] w (CutGives [] 0 0 w) := by
  go_enter Try.func15, Try.ntmps15
  go_wp2_with fail
  go_loop [8, 9] (fun out i => out = .slice none 0 0 ∧ i = .int .i64 0) (fun _ _ => 0)
  case atStart => exact ⟨rfl, rfl⟩
  case round =>
    obtain ⟨rfl, rfl⟩ := hrel
    go_wp2_with fail
    go_ret2
    exact ⟨_, rfl, Ints.nil _ _, From.nil _ _ _, Below.refl _ _⟩
theorem rcut_any (v : Value) (f t : Int) (A : List Int) (w : World) (h : Ints .u32 w v A) (hA : A.length ≤ 1073741824) :
    Calls Try.prog 15 #[v, .int .i64 f, .int .i64 t] w (CutGives A f t w) := by
  by_cases hc : 0 ≤ f ∧ f ≤ t ∧ t ≤ (A.length : Int)
  · obtain ⟨g, rfl⟩ := Int.eq_ofNat_of_zero_le hc.1
    obtain ⟨u, rfl⟩ := Int.eq_ofNat_of_zero_le (Int.le_trans hc.1 hc.2.1)
    by_cases hz : A = []
    · subst hz
      have hu : u = 0 := by have := hc.2.2; simp at this; exact this
      have hg : g = 0 := by have := hc.2.1; omega
      subst hu hg
      obtain ⟨a, c, rfl⟩ := h.form
      exact rcut_nil a c w
    · obtain ⟨b, o, c, rfl, hl, hm, h1⟩ := h.cells hz
      exact rcut_yes b o _ c g u A w rfl hA (by omega) (by omega) h1
  · obtain ⟨a, c, rfl⟩ := h.form
    exact rcut_no a _ c f t A w rfl hc
end Go.Proofs.Ytnckiokhgpmiaaa
