/- Contracts of the reference of layer draw. -/
import Derived.Test.YtgkfbikffcmmdaaRefHas
import Derived.OpenShut
import Derived.Deep.RegionHeld3
namespace Go.Proofs.Ytgkfbikffcmmdaa
open Go.RowKit

def drawAt (L : List Int) (i : Nat) : Int := drawN (if i < L.length then L.getD i 0 else 1073741824 + i)
def drawRow (L : List Int) (f n : Nat) : List Int := (List.range n).map fun i => drawAt L (f + i)
theorem drawRow_next (L : List Int) (f n : Nat) : drawRow L f (n + 1) = drawRow L f n ++ [drawAt L (f + n)] := by simp [drawRow, List.range_succ]
theorem drawRow_len (L : List Int) (f n : Nat) : (drawRow L f n).length = n := by simp [drawRow]
theorem bits_or_top (i : Int) (h0 : 0 ≤ i) (h1 : i < 1073741824) : bits .or .u32 1073741824 i = 1073741824 + i := by
  rw [u32_or 1073741824 i (by omega) (by omega) h0 (by omega)]
  have e : (1073741824 : Int).toNat = 2 ^ 30 := by decide
  rw [e]
  have := Nat.two_pow_add_eq_or_of_lt (show i.toNat < 2 ^ 30 by omega) 1
  simp only [Nat.mul_one] at this
  rw [← this]
  omega
/-- A source of draws in a world. -/
def Src (w : World) (v : Value) (L : List Int) (nx : Int) : Prop := ∃ lv, v = .agg #[lv, .int .i64 nx] ∧ Ints .u32 w lv L
set_option maxRecDepth 100000 in
set_option maxHeartbeats 1000000 in
theorem rat_any (a : Option Addr) (c : Nat) (L : List Int) (nx : Int) (i : Nat) (w : World) (hL : Ints .u32 w (.slice a L.length c) L) (hi : i ≤ 2097152) (hr : ∀ x ∈ L, 0 ≤ x ∧ x < 4294967296) :
    Calls Try.prog 23 #[.agg #[.slice a L.length c, .int .i64 nx], .int .i64 i] w fun e w' => e = .returned (.int .u32 (drawAt L i)) ∧ Below w.heap.size w w' := by
  have hlen := hL.len
  have hbo := bits_or_top i (by omega) (by omega)
  obtain ⟨y, hy⟩ : ∃ y, (1073741824 + (i : Int)) = y := ⟨_, rfl⟩
  rw [hy] at hbo
  have y0 : 0 ≤ y := by omega
  have y1 : y < 2147483648 := by omega
  by_cases hlt : i < L.length
  · obtain ⟨b, o, c', he, _, _, hc⟩ := hL.cells (by intro e; rw [e] at hlt; simp at hlt)
    simp only [Value.slice.injEq, true_and] at he
    obtain ⟨rfl, rfl⟩ := he
    have e1 := hc i hlt
    obtain ⟨x, hx⟩ : ∃ x, L.getD i 0 = x := ⟨_, rfl⟩
    have hmem : L.getD i 0 ∈ L := by rw [List.getD_eq_getElem?_getD, List.getElem?_eq_getElem hlt]; exact List.getElem_mem hlt
    have hxr := hr _ hmem
    rw [hx] at e1 hxr
    obtain ⟨x0, x1⟩ := hxr
    have l1 := lt_of_cell e1
    simp only at l1
    have hD := Lib.hid (show drawAt L i = drawN x by unfold drawAt; rw [if_pos hlt, hx])
    clear hx hmem hc hL hy
    by_cases hd : x < 2147483648
    · have HN := Lib.hid (show drawN x = x + 2147483648 by unfold drawN; rw [if_pos hd])
      go_enter Try.func23, Try.ntmps23
      go_wp2_with fail
      go_ret
      exact ⟨ret_int (by rw [hD.out, HN.out]), (Below.refl _ _).alloc (Nat.le_refl _) _⟩
    · have HN := Lib.hid (show drawN x = x by unfold drawN; rw [if_neg hd])
      go_enter Try.func23, Try.ntmps23
      go_wp2_with fail
      go_ret
      exact ⟨ret_int (by rw [hD.out, HN.out]), (Below.refl _ _).alloc (Nat.le_refl _) _⟩
  · have hD := Lib.hid (show drawAt L i = y + 2147483648 by unfold drawAt drawN; rw [if_neg hlt, hy, if_pos (by omega)])
    clear hL hy
    go_enter Try.func23, Try.ntmps23
    go_wp2_with fail
    go_ret
    exact ⟨ret_int (by rw [hD.out]), (Below.refl _ _).alloc (Nat.le_refl _) _⟩
/-- What a take gives. -/
def TakeGives (a : Option Addr) (c : Nat) (L : List Int) (n : Nat) (w : World) (e : Ending) (w' : World) : Prop :=
  ∃ lv, e = .returned (.tuple #[.agg #[lv, .int .i64 ((n : Int) + 1)], .int .u32 (drawAt L n)]) ∧ Ints .u32 w' lv L ∧ (lv = .slice a L.length c ∨ From w.heap.size lv) ∧ Below w.heap.size w w'
/-- What is a row gives. -/
def GivesInts (A : List Int) (w : World) (e : Ending) (w' : World) : Prop :=
  ∃ u, e = .returned u ∧ Ints .u32 w' u A ∧ From w.heap.size u ∧ Below w.heap.size w w'
set_option maxHeartbeats 1000000 in
theorem rtake_any (a : Option Addr) (c : Nat) (L : List Int) (n : Nat) (w : World) (hL : Ints .u32 w (.slice a L.length c) L) (hi : n ≤ 1048576) (hr : ∀ x ∈ L, 0 ≤ x ∧ x < 4294967296) :
    Calls Try.prog 27 #[.agg #[.slice a L.length c, .int .i64 n]] w (TakeGives a c L n w) := by
  have HL := Lib.hid hL; clear hL
  go_enter Try.func27, Try.ntmps27
  go_wp2_with fail
  refine (rat_any a c L n n _ ((HL.out.alloc _).alloc _) (by omega) hr).mono ?_
  rintro e w1 ⟨rfl, hb1⟩
  have hc : ∀ o, w1.cell? ⟨w.heap.size, o, none⟩ = ((w.alloc (.cells #[.slice a L.length c, .int .i64 n] 24)).alloc (.cells #[.slice none 0 0, .int .i64 0] 24)).cell? ⟨w.heap.size, o, none⟩ := fun o => hb1.cell (p := ⟨w.heap.size, o, none⟩) (by simp; omega)
  have hz : ∀ o, w1.frozen? ⟨w.heap.size, o, none⟩ = ((w.alloc (.cells #[.slice a L.length c, .int .i64 n] 24)).alloc (.cells #[.slice none 0 0, .int .i64 0] 24)).frozen? ⟨w.heap.size, o, none⟩ := fun o => hb1.frozen (p := ⟨w.heap.size, o, none⟩) (by simp; omega)
  have hc' : ∀ o, w1.cell? ⟨w.heap.size + 1, o, none⟩ = ((w.alloc (.cells #[.slice a L.length c, .int .i64 n] 24)).alloc (.cells #[.slice none 0 0, .int .i64 0] 24)).cell? ⟨w.heap.size + 1, o, none⟩ := fun o => hb1.cell (p := ⟨w.heap.size + 1, o, none⟩) (by simp)
  have hz' : ∀ o, w1.frozen? ⟨w.heap.size + 1, o, none⟩ = ((w.alloc (.cells #[.slice a L.length c, .int .i64 n] 24)).alloc (.cells #[.slice none 0 0, .int .i64 0] 24)).frozen? ⟨w.heap.size + 1, o, none⟩ := fun o => hb1.frozen (p := ⟨w.heap.size + 1, o, none⟩) (by simp)
  have hsz : w.heap.size + 1 < w1.heap.size := by have := hb1.size; simp at this; omega
  have b0 : Below w.heap.size w w1 := (((Below.refl _ _).alloc (Nat.le_refl _) _).alloc (by simp) _).trans (hb1.mono (by simp; omega))
  go_wp2_with fail
  refine bodyPost_ret (v := .tuple #[.agg #[.slice a L.length c, .int .i64 ((n : Int) + 1)], .int .u32 (drawAt L n)]) (by simp [results, Try.results27, go_sem, hc']) rfl ?_
  exact (fun hbf => ⟨_, rfl, HL.out.below hbf, .inl rfl, hbf⟩) (((b0.setCell (p := ⟨w.heap.size, 1, none⟩) (by simp) _).setCell (p := ⟨w.heap.size + 1, 0, none⟩) (by simp) _).setCell (p := ⟨w.heap.size + 1, 1, none⟩) (by simp) _)
theorem owns_base {w : World} {base base' : Nat} {e : TypeId} {size : Nat} {v : Value} {n : Nat} {xs : List Value} (h : w.ownsRow base e size v n xs) (hb : base' ≤ base) : w.ownsRow base' e size v n xs := by
  refine ⟨h.1, ?_⟩
  rcases h.2 with h0 | ⟨g, cap, cur, rfl, hg, r⟩
  · exact .inl h0
  · exact .inr ⟨g, cap, cur, rfl, Nat.le_trans hb hg, r⟩
/-- What is a row of the call's own gives: it may be written. -/
def GivesRow (A : List Int) (w : World) (e : Ending) (w' : World) : Prop :=
  ∃ u, e = .returned u ∧ w'.ownsRow w.heap.size 36 1 u A.length (A.map (Value.int .u32)) ∧ Below w.heap.size w w'
theorem GivesRow.ints {A : List Int} {w w' : World} {e : Ending} (h : GivesRow A w e w') : GivesInts A w e w' := by
  obtain ⟨u, he, ho, hb⟩ := h
  obtain ⟨r1, r2, _⟩ := ints_of_owns ho
  exact ⟨u, he, r1, r2, hb⟩
/-- The same sources? -/
theorem rsrc_same (v1 v2 : Value) (A B : List Int) (n : Int) (w : World) (h1 : Ints .u32 w v1 A) (h2 : Ints .u32 w v2 B) :
    Calls Try.prog 13 #[.agg #[v1, .int .i64 n], .agg #[v2, .int .i64 n]] w fun e w' => e = .returned (.bool (sameB A B)) ∧ Below w.heap.size w w' := by
  have H1 := Lib.hid h1; have H2 := Lib.hid h2
  obtain ⟨a1, c1, rfl⟩ := h1.form
  obtain ⟨a2, c2, rfl⟩ := h2.form
  clear h1 h2
  go_enter Try.func13, Try.ntmps13
  go_wp2_with fail
  refine (rsame_any _ _ A B _ ((H1.out.alloc _).alloc _) ((H2.out.alloc _).alloc _)).mono ?_
  rintro e w1 ⟨rfl, hr⟩
  go_wp2_with fail
  go_ret
  exact ⟨rfl, (((Below.refl _ _).alloc (Nat.le_refl _) _).alloc (by simp) _).trans (hr.below _)⟩
end Go.Proofs.Ytgkfbikffcmmdaa
