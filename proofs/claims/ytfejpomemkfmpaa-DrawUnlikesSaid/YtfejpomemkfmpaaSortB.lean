/- bits.Len, and the sort of at most twelve words; a copy of a row; Unlike of at most twelve words. -/
import Derived.Test.YtfejpomemkfmpaaSortA
import Derived.Test.YtfejpomemkfmpaaDrawUnlike
import Derived.Lib.BitFns
import Derived.Lib.Small
import Derived.Lib.Walk
import Derived.IntWalk
namespace Go.Proofs.Ytfejpomemkfmpaa
open Go.RowKit

/-- A number's bits are those of it cut by k, and k. -/
theorem len_cut (k : Nat) (x y : Int) (hk : k ≤ 56) (hy : y = x / ((2 ^ k : Nat) : Int)) (h0 : 0 ≤ y) (h1 : y ≤ 255) (hx0 : ((2 ^ k : Nat) : Int) ≤ x ∨ k = 0) (hx : 0 ≤ x) (hx1 : x ≤ 18446744073709551615) :
    (k : Int) + Lib.len8 y = (Lib.bitLen x.toNat : Int) ∧ 0 ≤ Lib.len8 y ∧ Lib.len8 y ≤ 8 := by
  rw [Lib.len8_of y h0 h1]
  have l := Lib.bitLen_le8' y h0 h1
  refine ⟨?_, by omega, by omega⟩
  have e : y.toNat = x.toNat / 2 ^ k := by
    obtain ⟨X, rfl⟩ := Int.eq_ofNat_of_zero_le hx
    rw [hy]; exact Int.toNat_natCast (X / 2 ^ k)
  rw [e]
  rcases hx0 with h | rfl
  · rw [Lib.bitLen_shift k x.toNat (by omega) (by omega)]; omega
  · simp
theorem tab_at (y : Int) (h : y.toNat < Lib.len8tab.size) : ((Lib.len8tab[y.toNat]'h).toNat : Int) = Lib.len8 y := by
  unfold Lib.len8
  rw [getElem?_pos Lib.len8tab y.toNat h]
  rfl
theorem wrap2 (k a : Int) (h : 0 ≤ k ∧ k ≤ 56) (ha : 0 ≤ a ∧ a ≤ 8) : wrap64 (k + wrap64 a) = k + a := by unfold wrap64; omega
theorem wrap1 (a : Int) (ha : 0 ≤ a ∧ a ≤ 8) : wrap64 (wrap64 a) = a := by unfold wrap64; omega
theorem wrap0 (a : Int) (ha : 0 ≤ a ∧ a ≤ 8) : wrap64 a = a := by unfold wrap64; omega
set_option maxHeartbeats 4000000 in
set_option maxRecDepth 100000 in
theorem len64_any (x : Int) (w : World) (x0 : 0 ≤ x) (x1 : x ≤ 1000000) :
    Calls Try.prog 39 #[.int .u64 x] w fun e w' => e = .returned (.int .i64 (Lib.bitLen x.toNat)) ∧ w = w' := by
  have hs : (Lib.len8tab.size : Int) = 256 := by have := Lib.len8tab_size; omega
  have HS := Lib.hid hs
  clear hs
  go_enter Try.func39, Try.ntmps39
  go_wp2
  all_goals first
    | (go_ret; refine ⟨ret_int ?_, rfl⟩)
    | (exfalso; have := HS.out; omega)
  · rw [tab_at]
    obtain ⟨h1, h2, h3⟩ := len_cut 16 x (x / 65536) (by decide) (by omega) (by omega) (by omega) (.inl (by omega)) x0 (by omega)
    first | rw [wrap2 _ _ (by omega) ⟨h2, h3⟩] | rw [wrap0 _ ⟨h2, h3⟩]
    exact h1
  · rw [tab_at]
    obtain ⟨h1, h2, h3⟩ := len_cut 8 x (x / 256) (by decide) (by omega) (by omega) (by omega) (.inl (by omega)) x0 (by omega)
    rw [wrap2 _ _ (by omega) ⟨h2, h3⟩]
    exact h1
  · rw [tab_at]
    obtain ⟨h1, h2, h3⟩ := len_cut 0 x x (by decide) (by simp) (by omega) (by omega) (.inr rfl) x0 (by omega)
    rw [wrap1 _ ⟨h2, h3⟩]
    simpa using h1
theorem len_any (x : Int) (w : World) (x0 : 0 ≤ x) (x1 : x ≤ 1000000) :
    Calls Try.prog 27 #[.int .u64 x] w fun e w' => e = .returned (.int .i64 (Lib.bitLen x.toNat)) ∧ w = w' := by
  go_enter Try.func27, Try.ntmps27
  go_wp2_with fail
  refine (len64_any x _ x0 x1).mono ?_
  rintro e w1 ⟨rfl, rfl⟩
  go_wp2_with fail
  go_ret
  exact ⟨rfl, rfl⟩
theorem bitLen_small (n : Nat) (h : n ≤ 1000000) : Lib.bitLen n ≤ 20 := Lib.bitLenAux_le 64 n 20 (by omega)
set_option maxRecDepth 100000 in
set_option maxHeartbeats 4000000 in
theorem pdq_small (a b base g n cap : Nat) (m : Int) (D : List Int) (w : World) (hR : SRow w base g n cap D) (hab : a ≤ b) (hb : b ≤ n) (hn : n ≤ 1000000) (h12 : b ≤ a + 12) :
    Calls Try.prog 26 #[.slice (some ⟨g, 0, none⟩) n cap, .int .i64 a, .int .i64 b, .int .i64 m] w (Sorts a b base g n cap D w) := by
  have HR := Lib.hid hR; clear hR
  have h12' : (b : Int) - a ≤ 12 := by omega
  go_enter Try.func26, Try.ntmps26
  go_wp2_with fail
  go_loopw [1, 2] (fun va vb wr => va = .int .i64 a ∧ vb = .int .i64 b ∧ Hid (wr = w)) (fun _ _ _ => 0)
  case atStart => exact ⟨rfl, rfl, Lib.hid rfl⟩
  case round =>
    obtain ⟨rfl, rfl, HW⟩ := hrel
    obtain rfl := HW.out
    go_wp2_with fail
    refine (insertion a b base g n cap D _ HR.out hab hb hn).mono ?_
    rintro e w1 ⟨rfl, hs⟩
    have HS := Lib.hid hs; clear hs
    go_wp2_with fail
    go_end0
    exact ⟨rfl, HS.out⟩
set_option maxHeartbeats 1000000 in
/-- The library's sort, out of its inner one. -/
theorem sort_of (base g n cap : Nat) (D : List Int) (w : World) (hn : n ≤ 1000000)
    (hP : ∀ m : Nat, Calls Try.prog 26 #[.slice (some ⟨g, 0, none⟩) n cap, .int .i64 0, .int .i64 n, .int .i64 m] w (Sorts 0 n base g n cap D w)) :
    Calls Try.prog 22 #[.slice (some ⟨g, 0, none⟩) n cap] w (Sorts 0 n base g n cap D w) := by
  have HP := Lib.hid hP; clear hP
  go_enter Try.func22, Try.ntmps22
  go_wp2_with fail
  refine (len_any n _ (by omega) (by omega)).mono ?_
  rintro e w1 ⟨rfl, rfl⟩
  go_wp2_with fail
  refine (HP.out _).mono ?_
  rintro e w1 ⟨rfl, hs⟩
  have HS := Lib.hid hs; clear hs
  go_wp2_with fail
  go_end0
  exact ⟨rfl, HS.out⟩
theorem sort_small (base g n cap : Nat) (D : List Int) (w : World) (hR : SRow w base g n cap D) (hn : n ≤ 12) :
    Calls Try.prog 22 #[.slice (some ⟨g, 0, none⟩) n cap] w (Sorts 0 n base g n cap D w) :=
  sort_of base g n cap D w (by omega) fun m => pdq_small 0 n base g n cap m D w hR (Nat.zero_le _) (Nat.le_refl _) (by omega) (by omega)
/-- A copy: of a row that isn't nil one of the call's own. -/
def Copies (L : List Int) (w : World) (e : Ending) (w' : World) : Prop :=
  ∃ u, e = .returned u ∧ w'.ownsRow w.heap.size 27 1 u L.length (L.map (Value.int .u32)) ∧ Below w.heap.size w w'
set_option maxHeartbeats 1000000 in
theorem clone_any (v : Value) (L : List Int) (w : World) (h : Ints .u32 w v L) (hn : L.length ≤ 1000000) :
    Calls Try.prog 21 #[v] w (Copies L w) := by
  obtain ⟨i0, hi0, hz0, hz1, hz2⟩ := info_parts Try.infoU
  have H := Lib.hid h
  have q : ∀ (w : World) (a : Option Addr) (n c n' c' : Nat), (binOp .eql 22 (.slice a n c) (.slice none n' c')).run Try.prog w = .ok (.bool a.isNone) w := fun w a n c n' c' => Lib.run_eql_slice_nil w _ _ a n c n' c' Try.underlying22
  rcases h.addr with ⟨rfl, rfl⟩ | ⟨x, c, rfl, _, _⟩
  · clear h
    go_enter Try.func21, Try.ntmps21
    go_wp2_with fail
    go_ret
    exact ⟨_, rfl, World.ownsRow_nil _ _ _ _, Below.refl _ _⟩
  · clear h
    go_enter Try.func21, Try.ntmps21
    go_wp2_with (at_builtin; refine wpList_append_ints rfl (.tmp 5) (.tmp 6) 22 rfl w.heap.size 27 i0 .u32 0 4 Try.underlying22 hi0 hz0 hz1 hz2 (by decide) _ 0 [] rfl (owns_lit .u32 (Nat.le_refl _) rfl) _ L rfl (H.out.alloc _) ?c1 ?c2 ?_)
    case c1 => omega
    case c2 => simp
    intro v3 w3 hown3 hgrow3
    have e3 : Below w.heap.size w w3 := ((Below.refl _ _).alloc (Nat.le_refl _) _).grown hgrow3 (by simp) (fun g hg => by simp [Value.ownBlock] at hg; omega)
    have HO := Lib.hid hown3
    clear hgrow3 hown3
    go_wp2_with fail
    go_ret
    exact ⟨v3, rfl, by simpa using HO.out, e3⟩
end Go.Proofs.Ytfejpomemkfmpaa
