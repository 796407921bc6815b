/- The program's word.Draw, and the i-th draw of a list. -/
import Derived.Test.YtgkfbikffcmmdaaDrawRef
namespace Go.Proofs.Ytgkfbikffcmmdaa
open Go.RowKit

theorem or_top (n : Int) (h0 : 0 ≤ n) (h1 : n < 4294967296) : bits .or .u32 n 2147483648 = drawN n := by
  rw [u32_or n 2147483648 h0 h1 (by omega) (by omega)]
  have e : (2147483648 : Int).toNat = 2 ^ 31 := by decide
  rw [e]
  have join : ∀ b : Nat, b < 2 ^ 31 → 2 ^ 31 ||| b = 2 ^ 31 + b := fun b hb => by
    have := Nat.two_pow_add_eq_or_of_lt hb 1
    simpa using this.symm
  unfold drawN
  by_cases h : n < 2147483648
  · rw [if_pos h, Nat.or_comm, join _ (by omega)]
    omega
  · rw [if_neg h]
    have h2 : n.toNat = 2 ^ 31 ||| (n.toNat - 2 ^ 31) := by
      rw [join _ (by omega)]; omega
    have h3 : n.toNat ||| 2 ^ 31 = n.toNat := by
      conv => lhs; rw [h2]
      rw [Nat.or_comm, ← Nat.or_assoc, Nat.or_self]
      exact h2.symm
    rw [h3]; omega
set_option maxHeartbeats 400000 in
theorem wdraw_any (n : Int) (w : World) (h0 : 0 ≤ n) (h1 : n < 4294967296) :
    Calls Try.prog 36 #[.int .u32 n] w fun e w' => e = .returned (.int .u32 (drawN n)) ∧ w = w' := by
  go_enter Try.func36, Try.ntmps36
  go_wp2_with fail
  go_ret
  exact ⟨ret_int (or_top n h0 h1), rfl⟩
set_option maxRecDepth 100000 in
set_option maxHeartbeats 1000000 in
theorem nth_any (a : Option Addr) (c : Nat) (L : List Int) (i : Nat) (w : World) (hL : Ints .u32 w (.slice a L.length c) L) (hi : i ≤ 2097152) (hr : ∀ x ∈ L, 0 ≤ x ∧ x < 4294967296) :
    Calls Try.prog 35 #[.slice a L.length c, .int .i64 i] w fun e w' => e = .returned (.int .u32 (drawAt L i)) ∧ w = w' := by
  have hlen := hL.len
  have hbo := bits_or_top i (by omega) (by omega)
  obtain ⟨y, hy⟩ : ∃ y, (1073741824 + (i : Int)) = y := ⟨_, rfl⟩
  rw [hy] at hbo
  have y0 : 0 ≤ y := by omega
  have y1 : y < 2147483648 := by omega
  by_cases hlt : i < L.length
  · obtain ⟨b, o, c', he, _, _, hc⟩ := hL.cells (by intro e; rw [e] at hlt; simp at hlt)
    simp only [Value.slice.injEq, true_and] at he
    obtain ⟨rfl, rfl⟩ := he
    have e1 := hc i hlt
    obtain ⟨x, hx⟩ : ∃ x, L.getD i 0 = x := ⟨_, rfl⟩
    have hmem : L.getD i 0 ∈ L := by rw [List.getD_eq_getElem?_getD, List.getElem?_eq_getElem hlt]; exact List.getElem_mem hlt
    have hxr := hr _ hmem
    rw [hx] at e1 hxr
    obtain ⟨x0, x1⟩ := hxr
    have hD := Lib.hid (show drawAt L i = drawN x by unfold drawAt; rw [if_pos hlt, hx])
    clear hx hmem hc hL hy hbo hr
    go_enter Try.func35, Try.ntmps35
    go_wp2_with fail
    refine (wdraw_any x _ x0 x1).mono ?_
    rintro e w1 ⟨rfl, rfl⟩
    go_wp2_with fail
    go_ret
    exact ⟨ret_int hD.out.symm, rfl⟩
  · have hD := Lib.hid (show drawAt L i = drawN y by unfold drawAt; rw [if_neg hlt, hy])
    clear hL hy hr
    go_enter Try.func35, Try.ntmps35
    go_wp2_with fail
    refine (wdraw_any y _ y0 (by omega)).mono ?_
    rintro e w1 ⟨rfl, rfl⟩
    go_wp2_with fail
    go_ret
    exact ⟨ret_int hD.out.symm, rfl⟩
end Go.Proofs.Ytgkfbikffcmmdaa
