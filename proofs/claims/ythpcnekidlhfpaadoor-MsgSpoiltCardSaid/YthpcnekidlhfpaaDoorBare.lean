/- The contract of the reference's Bare. -/
import Derived.Test.YthpcnekidlhfpaaDoorMsgEq
namespace Go.Proofs.YthpcnekidlhfpaaDoor
open Go.RowKit

def stepZ (m : M7) (t : Int) : M7 := if hasT m.kind t then m else m.set t 0
def zeroTo (m : M7) : Nat → M7
  | 0 => m
  | n + 1 => stepZ (zeroTo m n) (2 + n)
theorem stepZ_kind (m : M7) (t : Int) : (stepZ m t).kind = m.kind := by unfold stepZ; split; rfl; exact set_kind m _ _
theorem zeroTo_kind (m : M7) : ∀ n, (zeroTo m n).kind = m.kind := by
  intro n
  induction n with
  | zero => rfl
  | succ n ih => rw [zeroTo, stepZ_kind, ih]
theorem stepZ_word (m : M7) {s t : Int} (hs : 2 ≤ s ∧ s ≤ 7) (ht : 2 ≤ t ∧ t ≤ 7) : (stepZ m s).word t = if s = t ∧ hasT m.kind s = false then 0 else m.word t := by
  unfold stepZ
  by_cases h : hasT m.kind s = true
  · rw [if_pos h, if_neg (by rintro ⟨_, h'⟩; rw [h] at h'; cases h')]
  · rw [if_neg h, set_word hs ht]
    by_cases e : s = t
    · rw [if_pos e, if_pos ⟨e, by simpa using h⟩]
    · rw [if_neg e, if_neg (fun h' => e h'.1)]
theorem zeroTo_fits (m : M7) : ∀ n : Nat, n ≤ 6 → ∀ t : Int, 2 ≤ t → t < 2 + n → fitsM (zeroTo m n) t = true := by
  intro n
  induction n with
  | zero => intro _ t h1 h2; omega
  | succ n ih =>
    intro hn t h1 h2
    have hs : 2 ≤ (2 + (n : Int)) ∧ (2 + (n : Int)) ≤ 7 := by omega
    have ht : 2 ≤ t ∧ t ≤ 7 := by omega
    by_cases hh : hasT m.kind t = true
    · exact fits_has (by rw [zeroTo_kind]; exact hh)
    · refine fits_zero ?_
      rw [zeroTo, stepZ_word _ hs ht]
      by_cases e : 2 + (n : Int) = t
      · rw [if_pos ⟨e, by rw [zeroTo_kind, e]; simpa using hh⟩]
      · rw [if_neg (fun h => e h.1)]
        have := ih (by omega) t h1 (by omega)
        unfold fitsM at this
        rw [zeroTo_kind] at this
        simp [hh] at this
        exact this
theorem bare_may (m : M7) (hk : isKindB m.kind = true) : mayM (zeroTo m 6) = true :=
  mayM_yes (by rw [zeroTo_kind]; exact hk) fun t h2 h8 => zeroTo_fits m 6 (Nat.le_refl _) t h2 (by omega)
theorem set_range {m : M7} (h : RangeM m) (t : Int) : RangeM (m.set t 0) := by
  have z : (0 : Int) ≤ 0 ∧ (0 : Int) < 4294967296 := by omega
  unfold M7.set
  repeat' split
  · exact ⟨h.kind, z, h.a, h.b, h.nonce, h.box, h.more⟩
  · exact ⟨h.kind, h.run, z, h.b, h.nonce, h.box, h.more⟩
  · exact ⟨h.kind, h.run, h.a, z, h.nonce, h.box, h.more⟩
  · exact ⟨h.kind, h.run, h.a, h.b, z, h.box, h.more⟩
  · exact ⟨h.kind, h.run, h.a, h.b, h.nonce, z, h.more⟩
  · exact ⟨h.kind, h.run, h.a, h.b, h.nonce, h.box, z⟩
theorem bare_range {m : M7} (h : RangeM m) : ∀ n, RangeM (zeroTo m n) := by
  intro n
  induction n with
  | zero => exact h
  | succ n ih => rw [zeroTo]; unfold stepZ; split; exact ih; exact set_range ih _
theorem zeroTo_skip {m : M7} {n : Nat} (h : hasT m.kind (2 + n) = true) : zeroTo m (n + 1) = zeroTo m n := by rw [zeroTo]; unfold stepZ; rw [if_pos (by rw [zeroTo_kind]; exact h)]
theorem zeroTo_set {m : M7} {n : Nat} (h : hasT m.kind (2 + n) = false) : zeroTo m (n + 1) = (zeroTo m n).set (2 + n) 0 := by rw [zeroTo]; unfold stepZ; rw [if_neg (by rw [zeroTo_kind, h]; decide)]
set_option maxHeartbeats 4000000 in
theorem bare_any (m : M7) (w : World) (hk : isKindB m.kind = true) :
    Calls Tryd.prog 17 #[.int .u32 m.kind, .agg #[.int .u32 m.run, .int .u32 m.a, .int .u32 m.b, .int .u32 m.nonce, .int .u32 m.box, .int .u32 m.more]] w fun e w' =>
      e = .returned (.agg #[.int .u32 (zeroTo m 6).kind, .int .u32 (zeroTo m 6).run, .int .u32 (zeroTo m 6).a, .int .u32 (zeroTo m 6).b, .int .u32 (zeroTo m 6).nonce, .int .u32 (zeroTo m 6).box, .int .u32 (zeroTo m 6).more]) ∧ Below w.heap.size w w' := by
  have HK := Lib.hid hk; clear hk
  go_enter Tryd.func17, Tryd.ntmps17
  go_wp2_with fail
  go_loopw [6] (fun t wr => ∃ n : Nat, n ≤ 6 ∧ t = .int .u32 (2 + n) ∧ Hid (wr.heap[w.heap.size + 1 + 1]? = some (.cells (zeroTo m n).cells 24 (0, 0))) ∧
      Below (w.heap.size + 1 + 1) ((w.alloc (.cells #[.int .u32 m.run, .int .u32 m.a, .int .u32 m.b, .int .u32 m.nonce, .int .u32 m.box, .int .u32 m.more] 41)).alloc (.cells #[.int .u32 0, .int .u32 0, .int .u32 0, .int .u32 0, .int .u32 0, .int .u32 0, .int .u32 0] 24)) wr) (fun t _ => (8 - intOf t).toNat)
  case atStart => exact ⟨0, by omega, rfl, Lib.hid (heap_new_at _ (.cells m.cells 24 (0, 0)) (by simp)), (Below.refl _ _).alloc (by simp) _⟩
  case round =>
    obtain ⟨n, hn, rfl, HX, hb⟩ := hrel
    have hfz : ∀ i, wr.frozen? ⟨w.heap.size + 1 + 1, i, none⟩ = false := fun i => frozen_of_row _ _ _ _ _ HX.out
    obtain ⟨y0, y1, y2, y3, y4, y5, y6⟩ := m7_cell HX.out
    by_cases hlt : n < 6
    · by_cases hh : hasT m.kind (2 + n) = true
      · have HH := Lib.hid hh; clear hh
        go_wp2_with fail
        refine (rhas_kt m.kind (2 + n) _ HK.out).mono ?_
        rintro e w2 ⟨rfl, rfl⟩
        rw [HH.out]
        go_wp2_with fail
        go_roundw
        case rel => exact ⟨n + 1, by omega, by go_num, Lib.hid (by rw [zeroTo_skip HH.out]; exact HX.out), hb⟩
        case measure => simp [intOf]; omega
      · have HH := Lib.hid (show hasT m.kind (2 + n) = false by simpa using hh); clear hh
        have HNX := Lib.hid (show (zeroTo m n).cells.setIfInBounds ((2 + (n : Int)).toNat - 1) (.int .u32 0) = (zeroTo m (n + 1)).cells by rw [zeroTo_set HH.out]; exact set_cells (zeroTo m n) (by omega))
        have hcase : n = 0 ∨ n = 1 ∨ n = 2 ∨ n = 3 ∨ n = 4 ∨ n = 5 := by omega
        clear hn hlt
        rcases hcase with rfl | rfl | rfl | rfl | rfl | rfl
        · go_wp2_with fail
          refine (rhas_kt m.kind 2 _ HK.out).mono ?_
          rintro e w2 ⟨rfl, rfl⟩
          rw [show hasT m.kind 2 = false from HH.out]
          go_wp2_with fail
          go_roundw
          case rel => exact ⟨1, by omega, rfl, Lib.hid ((heap_setCell_same _ (w.heap.size + 1 + 1) _ _ _ _ HX.out).trans (congrArg (fun z => some (Obj.cells z 24 (0, 0))) HNX.out)), hb.setCell (Nat.le_refl _) _⟩
          case measure => simp [intOf]
        · go_wp2_with fail
          refine (rhas_kt m.kind 3 _ HK.out).mono ?_
          rintro e w2 ⟨rfl, rfl⟩
          rw [show hasT m.kind 3 = false from HH.out]
          go_wp2_with fail
          go_roundw
          case rel => exact ⟨2, by omega, rfl, Lib.hid ((heap_setCell_same _ (w.heap.size + 1 + 1) _ _ _ _ HX.out).trans (congrArg (fun z => some (Obj.cells z 24 (0, 0))) HNX.out)), hb.setCell (Nat.le_refl _) _⟩
          case measure => simp [intOf]
        · go_wp2_with fail
          refine (rhas_kt m.kind 4 _ HK.out).mono ?_
          rintro e w2 ⟨rfl, rfl⟩
          rw [show hasT m.kind 4 = false from HH.out]
          go_wp2_with fail
          go_roundw
          case rel => exact ⟨3, by omega, rfl, Lib.hid ((heap_setCell_same _ (w.heap.size + 1 + 1) _ _ _ _ HX.out).trans (congrArg (fun z => some (Obj.cells z 24 (0, 0))) HNX.out)), hb.setCell (Nat.le_refl _) _⟩
          case measure => simp [intOf]
        · go_wp2_with fail
          refine (rhas_kt m.kind 5 _ HK.out).mono ?_
          rintro e w2 ⟨rfl, rfl⟩
          rw [show hasT m.kind 5 = false from HH.out]
          go_wp2_with fail
          go_roundw
          case rel => exact ⟨4, by omega, rfl, Lib.hid ((heap_setCell_same _ (w.heap.size + 1 + 1) _ _ _ _ HX.out).trans (congrArg (fun z => some (Obj.cells z 24 (0, 0))) HNX.out)), hb.setCell (Nat.le_refl _) _⟩
          case measure => simp [intOf]
        · go_wp2_with fail
          refine (rhas_kt m.kind 6 _ HK.out).mono ?_
          rintro e w2 ⟨rfl, rfl⟩
          rw [show hasT m.kind 6 = false from HH.out]
          go_wp2_with fail
          go_roundw
          case rel => exact ⟨5, by omega, rfl, Lib.hid ((heap_setCell_same _ (w.heap.size + 1 + 1) _ _ _ _ HX.out).trans (congrArg (fun z => some (Obj.cells z 24 (0, 0))) HNX.out)), hb.setCell (Nat.le_refl _) _⟩
          case measure => simp [intOf]
        · go_wp2_with fail
          refine (rhas_kt m.kind 7 _ HK.out).mono ?_
          rintro e w2 ⟨rfl, rfl⟩
          rw [show hasT m.kind 7 = false from HH.out]
          go_wp2_with fail
          go_roundw
          case rel => exact ⟨6, by omega, rfl, Lib.hid ((heap_setCell_same _ (w.heap.size + 1 + 1) _ _ _ _ HX.out).trans (congrArg (fun z => some (Obj.cells z 24 (0, 0))) HNX.out)), hb.setCell (Nat.le_refl _) _⟩
          case measure => simp [intOf]
    · obtain rfl : n = 6 := by omega
      have hc : ∀ o, wr.cell? ⟨w.heap.size + 1, o, none⟩ = ((w.alloc (.cells #[.int .u32 m.run, .int .u32 m.a, .int .u32 m.b, .int .u32 m.nonce, .int .u32 m.box, .int .u32 m.more] 41)).alloc (.cells #[.int .u32 0, .int .u32 0, .int .u32 0, .int .u32 0, .int .u32 0, .int .u32 0, .int .u32 0] 24)).cell? ⟨w.heap.size + 1, o, none⟩ := fun o => hb.cell (p := ⟨w.heap.size + 1, o, none⟩) (by simp)
      have hz : ∀ o, wr.frozen? ⟨w.heap.size + 1, o, none⟩ = ((w.alloc (.cells #[.int .u32 m.run, .int .u32 m.a, .int .u32 m.b, .int .u32 m.nonce, .int .u32 m.box, .int .u32 m.more] 41)).alloc (.cells #[.int .u32 0, .int .u32 0, .int .u32 0, .int .u32 0, .int .u32 0, .int .u32 0, .int .u32 0] 24)).frozen? ⟨w.heap.size + 1, o, none⟩ := fun o => hb.frozen (p := ⟨w.heap.size + 1, o, none⟩) (by simp)
      obtain ⟨mm, hmm⟩ : ∃ mm, zeroTo m 6 = mm := ⟨_, rfl⟩
      rw [hmm] at y0 y1 y2 y3 y4 y5 y6
      have HMM := Lib.hid hmm; clear hmm
      go_wp2_with fail
      refine bodyPost_ret (v := .agg #[.int .u32 mm.kind, .int .u32 mm.run, .int .u32 mm.a, .int .u32 mm.b, .int .u32 mm.nonce, .int .u32 mm.box, .int .u32 mm.more]) (by simp [results, Tryd.results17, go_sem, hc]) rfl ?_
      refine ⟨by rw [HMM.out], ?_⟩
      (iterate 7 (refine Below.setCell ?_ (by simp) _))
      exact (((Below.refl _ _).alloc (Nat.le_refl _) _).alloc (by simp) _).trans (hb.mono (by omega))
end Go.Proofs.YthpcnekidlhfpaaDoor
