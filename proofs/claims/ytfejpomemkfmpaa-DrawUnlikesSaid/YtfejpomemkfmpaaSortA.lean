/- The library's sort of words, its smallest part: Less, and rows of at most twelve words. -/
import Derived.Test.YtfejpomemkfmpaaSortMath
import Derived.Test.YtfejpomemkfmpaaDrawRef
import Derived.Deep.QuietTactic
import Derived.BigRegion
import Derived.Maps.AppendAt
namespace Go.Proofs.Ytfejpomemkfmpaa
open Go.RowKit

/-- A row of words of the call's own, in the block g. -/
def SRow (w : World) (base g n cap : Nat) (D : List Int) : Prop := w.ownsRow base 27 1 (.slice (some ⟨g, 0, none⟩) n cap) n (D.map (Value.int .u32))
theorem SRow.len {w : World} {base g n cap : Nat} {D : List Int} (h : SRow w base g n cap D) : D.length = n := by have := h.1; simpa using this
theorem SRow.cell {w : World} {base g n cap : Nat} {D : List Int} (h : SRow w base g n cap D) (k : Nat) (hk : k < n) : w.cell? ⟨g, k, none⟩ = some (.int .u32 (at0 D k)) := by
  have hl := h.len
  have e := World.ownsRow.cellAt h k (by omega)
  rw [e]
  unfold at0
  simp [show k < D.length from by omega]
theorem SRow.frozen {w : World} {base g n cap : Nat} {D : List Int} (h : SRow w base g n cap D) (k : Nat) : w.frozen? ⟨g, k, none⟩ = false := World.ownsRow.frozenAt h k
theorem SRow.reads {w w' : World} {base g n cap : Nat} {D : List Int} (h : SRow w base g n cap D) (r : Reads w w') : SRow w' base g n cap D := owns_below2 h (r.below _)
theorem SRow.set {w : World} {base g n cap : Nat} {D : List Int} (h : SRow w base g n cap D) (k : Nat) (x : Int) : SRow (w.setCell ⟨g, k, none⟩ (.int .u32 x)) base g n cap (D.set k x) := by
  have := (World.ownsRow.stored h k (.int .u32 x)).1
  unfold SRow
  rw [List.map_set]
  exact this
theorem SRow.at_base {w : World} {base g n cap : Nat} {D : List Int} (h : SRow w base g n cap D) : base ≤ g ∧ g < w.heap.size := World.ownsRow.lt h g (by simp [Value.ownBlock])
theorem grown_reads {w w' w'' : World} {g : Option Nat} (h : w.grownBy w' g) (r : Reads w' w'') : w.grownBy w'' g := by
  obtain ⟨q, rfl⟩ := r
  exact ⟨h.os, h.tape, h.output, h.size, h.block⟩
/-- The row was D, and is E: what stands from a on, ahead of b, was turned about; no other block was written. -/
structure To (a b base g n cap : Nat) (D E : List Int) (w w' : World) : Prop where
  row : SRow w' base g n cap E
  gr : w.grownBy w' (some g)
  turn : Turn a b D E
theorem To.refl {a b base g n cap : Nat} {D : List Int} {w : World} (h : SRow w base g n cap D) : To a b base g n cap D D w w := ⟨h, World.grownBy.refl _ _, Turn.refl _ _ _⟩
theorem To.trans {a b base g n cap : Nat} {D E F : List Int} {w w' w'' : World} (h : To a b base g n cap D E w w') (k : To a b base g n cap E F w' w'') : To a b base g n cap D F w w'' := ⟨k.row, h.gr.trans k.gr, h.turn.trans k.turn⟩
theorem To.mono {a b a' b' base g n cap : Nat} {D E : List Int} {w w' : World} (h : To a b base g n cap D E w w') (ha : a' ≤ a) (hb : b ≤ b') : To a' b' base g n cap D E w w' := ⟨h.row, h.gr, h.turn.mono ha hb⟩
theorem To.reads {a b base g n cap : Nat} {D E : List Int} {w w' w'' : World} (h : To a b base g n cap D E w w') (r : Reads w' w'') : To a b base g n cap D E w w'' := ⟨h.row.reads r, grown_reads h.gr r, h.turn⟩
theorem To.swap {a b base g n cap : Nat} {D E : List Int} {w w' : World} (h : To a b base g n cap D E w w') {i j : Nat} (hb : b ≤ n) (hi : a ≤ i ∧ i < b) (hj : a ≤ j ∧ j < b) :
    To a b base g n cap D (swapped E i j) w ((w'.setCell ⟨g, i, none⟩ (.int .u32 (at0 E j))).setCell ⟨g, j, none⟩ (.int .u32 (at0 E i))) :=
  ⟨(h.row.set i _).set j _, by
    have e : ∀ (X : World) (k : Nat) (x : Value), X.grownBy (X.setCell ⟨g, k, none⟩ x) (some g) := fun X k x => ⟨rfl, rfl, rfl, by simp, fun i _ hne => Below.heap_setCell X _ _ i (by simpa using hne)⟩
    exact (h.gr.trans (e _ _ _)).trans (e _ _ _), h.turn.trans (Turn.swap E (by rw [h.row.len]; exact hb) hi hj)⟩

set_option maxHeartbeats 400000 in
theorem isNaN_any (x : Int) (w : World) : Calls Try.prog 45 #[.int .u32 x] w fun e w' => e = .returned (.bool false) ∧ w = w' := by
  go_enter Try.func45, Try.ntmps45
  go_wp2_with fail
  go_ret
  exact ⟨by simp, rfl⟩
set_option maxHeartbeats 400000 in
theorem less_any (x y : Int) (w : World) : Calls Try.prog 35 #[.int .u32 x, .int .u32 y] w fun e w' => e = .returned (.bool (decide (x < y))) ∧ w = w' := by
  go_enter Try.func35, Try.ntmps35
  go_wp2_with fail
  refine (isNaN_any _ _).mono ?_
  rintro e w1 ⟨rfl, rfl⟩
  go_wp2_with fail
  go_ret
  exact ⟨rfl, rfl⟩
theorem less_quiet (x y : Int) (w : World) : Calls Try.prog 35 #[.int .u32 x, .int .u32 y] w fun e w' => e = .returned (.bool (decide (x < y))) ∧ w' = w := (less_any x y w).mono fun _ _ h => ⟨h.1, h.2.symm⟩
/-- What a part of the sort leaves: the row in order from a on, ahead of b. -/
def Sorts (a b base g n cap : Nat) (D : List Int) (w : World) (e : Ending) (w' : World) : Prop := e = .returned (.tuple #[]) ∧ ∃ E, To a b base g n cap D E w w' ∧ Asc E a b
set_option maxRecDepth 100000 in
set_option maxHeartbeats 4000000 in
theorem insertion (a b base g n cap : Nat) (D : List Int) (w : World) (hR : SRow w base g n cap D) (hab : a ≤ b) (hb : b ≤ n) (hn : n ≤ 1000000) :
    Calls Try.prog 29 #[.slice (some ⟨g, 0, none⟩) n cap, .int .i64 a, .int .i64 b] w (Sorts a b base g n cap D w) := by
  have HR := Lib.hid hR; clear hR
  go_enter Try.func29, Try.ntmps29
  go_wp2_with fail
  go_loopw [6] (fun vi wr => ∃ (i : Nat) (E : List Int), vi = .int .i64 i ∧ a < i ∧ i ≤ b + 1 ∧ Hid (To a b base g n cap D E w wr) ∧ Hid (Asc E a i)) (fun vi _ => b + 1 - (intOf vi).toNat)
  case atStart => exact ⟨a + 1, D, by go_num, by omega, by omega, Lib.hid (To.refl HR.out), Lib.hid (Asc.short _ _ _ (Nat.le_refl _))⟩
  case round =>
    obtain ⟨i, E, rfl, hai, hib, HT, HA⟩ := hrel
    by_cases hlt : i < b
    · go_wp2_with fail
      go_loopw [7] (fun vj wr2 => ∃ (j : Nat) (F : List Int), vj = .int .i64 j ∧ a ≤ j ∧ j ≤ i ∧ Hid (To a b base g n cap D F w wr2) ∧ Hid (Sift F a i j)) (fun vj _ => (intOf vj).toNat)
      case atStart => exact ⟨i, E, rfl, by omega, Nat.le_refl _, HT, Lib.hid (Sift.start HA.out)⟩
      case round =>
        obtain ⟨j, F, rfl, haj, hji, HF, HS⟩ := hrel
        have OUT := Lib.hid (show (j = a ∨ at0 F (j - 1) ≤ at0 F j) → ∀ q, ∃ (i' : Nat) (E' : List Int), Value.int .i64 ((i : Int) + 1) = .int .i64 i' ∧ a < i' ∧ i' ≤ b + 1 ∧ Hid (To a b base g n cap D E' w (wr.drewN q)) ∧ Hid (Asc E' a i') from fun hs q => ⟨i + 1, F, by go_num, by omega, by omega, Lib.hid (HF.out.reads (reads1 _ q)), Lib.hid (HS.out.done haj hji hs)⟩)
        by_cases hja : a < j
        · have e1 := HF.out.row.cell j (by omega)
          have e2 := HF.out.row.cell (j - 1) (by omega)
          have f1 := HF.out.row.frozen j
          have f2 := HF.out.row.frozen (j - 1)
          have HL := Lib.hid HF.out.row.len
          obtain ⟨x, hx⟩ : ∃ x, at0 F j = x := ⟨_, rfl⟩
          obtain ⟨y, hy⟩ : ∃ y, at0 F (j - 1) = y := ⟨_, rfl⟩
          rw [hx] at e1
          rw [hy] at e2
          have HX := Lib.hid hx; have HY := Lib.hid hy
          clear hx hy
          go_wp2_with fail
          go_quiet ((go_at_call 35; exact Calls.quiet_of_same (less_quiet _ _ _)))
          go_wp2
          · have hl : x < y := by assumption
            go_region
            all_goals go_wp2
            go_roundw
            case rel =>
              refine ⟨j - 1, swapped F j (j - 1), by go_num, by omega, by omega, Lib.hid ?_, Lib.hid (HS.out.step hja hji (by rw [HL.out]; omega) (by rw [HX.out, HY.out]; exact hl))⟩
              have ht := (HF.out.swap hb (i := j) (j := j - 1) (by omega) (by omega)).reads (reads1 _ (nq + 1))
              rw [HX.out, HY.out] at ht
              exact ht
            case measure => simp [intOf]; omega
          · have hl : y ≤ x := by assumption
            go_roundw
            case rel => exact OUT.out (.inr (by rw [HX.out, HY.out]; exact hl)) nq
            case measure => simp [intOf]; omega
        · have hd : decide ((a : Int) < (j : Int)) = false := by simpa using hja
          go_wp2_with fail
          go_quiet ((go_at_call 35; exact Calls.quiet_of_same (less_quiet _ _ _)))
          go_wp2
          go_roundw
          case rel => exact OUT.out (.inl (by omega)) nq
          case measure => simp [intOf]; omega
    · go_wp2_with fail
      go_end0
      exact ⟨rfl, E, HT.out, HA.out.mono (Nat.le_refl _) (by omega)⟩
end Go.Proofs.Ytfejpomemkfmpaa
