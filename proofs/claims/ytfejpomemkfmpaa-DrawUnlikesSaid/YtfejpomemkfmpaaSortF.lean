/- The library's sort: a heap made, and taken down. -/
import Derived.Test.YtfejpomemkfmpaaSortE
namespace Go.Proofs.Ytfejpomemkfmpaa
open Go.RowKit

theorem not_less {x y : Int} (h : (!decide (x < y)) = true) : y ≤ x := by simpa using h
theorem is_less {x y : Int} (h : (!decide (x < y)) = false) : x < y := by simpa using h
/-- What sifting down leaves: a heap from the place on. -/
def Sifts (f lo hi base g n cap : Nat) (D : List Int) (w : World) (e : Ending) (w' : World) : Prop := e = .returned (.tuple #[]) ∧ ∃ E, To (f + lo) (f + hi) base g n cap D E w w' ∧ Heap E f lo hi
set_option maxRecDepth 100000 in
set_option maxHeartbeats 8000000 in
theorem sift_any (f lo hi base g n cap : Nat) (D : List Int) (w : World) (hR : SRow w base g n cap D) (hlo : lo ≤ hi) (hb : f + hi ≤ n) (hn : n ≤ 1000000) (hH : Heap D f (lo + 1) hi) :
    Calls Try.prog 40 #[.slice (some ⟨g, 0, none⟩) n cap, .int .i64 lo, .int .i64 hi, .int .i64 f] w (Sifts f lo hi base g n cap D w) := by
  have HR := Lib.hid hR; have HH0 := Lib.hid hH; clear hR hH
  go_enter Try.func40, Try.ntmps40
  go_wp2_with fail
  go_loopw [8] (fun vr wr => ∃ (r : Nat) (E : List Int), vr = .int .i64 r ∧ lo ≤ r ∧ r ≤ hi ∧ Hid (To (f + lo) (f + hi) base g n cap D E w wr) ∧ Hid (Hole E f lo hi r)) (fun vr _ => hi - (intOf vr).toNat)
  case atStart => exact ⟨lo, D, rfl, Nat.le_refl _, hlo, Lib.hid (To.refl HR.out), Lib.hid (Hole.start HH0.out)⟩
  case round =>
    obtain ⟨r, E, rfl, hr, hrh, HT, HH⟩ := hrel
    by_cases h1 : (hi : Int) ≤ 2 * (r : Int) + 1
    · go_wp2_with fail
      go_end0
      exact ⟨rfl, E, HT.out, HH.out.done (fun c h2 h3 => by rcases h2 with h2 | h2 <;> omega)⟩
    · have h1' : 2 * (r : Int) + 1 < hi := by omega
      clear h1
      obtain ⟨c, hc⟩ : ∃ c : Nat, 2 * (r : Int) + 1 = (c : Int) := ⟨2 * r + 1, by omega⟩
      have hcr : c = 2 * r + 1 := by omega
      have HC := Lib.hid hc; have HCR := Lib.hid hcr
      have hrc : r < c := by omega
      clear hc hcr
      go_wp2_with fail
      rw [HC.out]
      have hch : c < hi := by have := HC.out; omega
      clear h1'
      obtain ⟨d, hd⟩ : ∃ d : Nat, d = c + 1 := ⟨_, rfl⟩
      obtain ⟨PC, hPC⟩ : ∃ P, P = f + c := ⟨_, rfl⟩
      have wc1 : IntKind.i64.wrap ((c : Int) + 1) = (d : Int) := by rw [IntWalk.i64_in _ (by omega)]; omega
      have wc2 : IntKind.i64.wrap ((f : Int) + (c : Int)) = (PC : Int) := by rw [IntWalk.i64_in _ (by omega)]; omega
      by_cases h2 : d < hi
      · obtain ⟨PE, hPE⟩ : ∃ P, P = f + d := ⟨_, rfl⟩
        have wc3 : IntKind.i64.wrap ((PC : Int) + 1) = (PE : Int) := by rw [IntWalk.i64_in _ (by omega)]; omega
        have b1 : PC < n := by omega
        have b2 : PE < n := by omega
        have x1 := HT.out.row.cell PC b1
        have x2 := HT.out.row.cell PE b2
        obtain ⟨p, hp⟩ : ∃ p, at0 E PC = p := ⟨_, rfl⟩
        obtain ⟨q, hq⟩ : ∃ q, at0 E PE = q := ⟨_, rfl⟩
        rw [hp] at x1
        rw [hq] at x2
        have hdr : r < d := by omega
        have HP := Lib.hid hp; have HQ := Lib.hid hq; have HD := Lib.hid hd; have HPC := Lib.hid hPC; have HPE := Lib.hid hPE
        clear hp hq hd hPC hPE
        go_quiet ((go_at_call 35; exact Calls.quiet_of_same (less_quiet _ _ _)))
        go_wp2_with fail
        · have hl : p < q := by assumption
          have HCH := Lib.hid (show Child d r from .inr (by have := HD.out; have := HCR.out; omega))
          have hdh := h2
          have HBIG := Lib.hid (show ∀ o, Child o r → o < hi → at0 E (f + o) ≤ at0 E (f + d) from fun o h3 _ => by
            have e1 := HD.out
            have e2 := HCR.out
            rcases h3 with h3 | h3
            · obtain rfl : o = c := by omega
              rw [← HPC.out, ← HPE.out, HP.out, HQ.out]; omega
            · obtain rfl : o = d := by omega
              exact Int.le_refl _)
          have HW1 := Lib.hid wc1
          clear hl x1 x2 wc2 wc3 b1 b2 wc1
          have ht0 := HT.out.reads (reads1 _ nq)
          clear HT
          have HT := Lib.hid ht0
          clear ht0
          generalize wr.drewN nq = wr at HT ⊢
          obtain ⟨PR, hPR⟩ : ∃ P, P = f + r := ⟨_, rfl⟩
          obtain ⟨PD, hPD⟩ : ∃ P, P = f + d := ⟨_, rfl⟩
          have wr1 : IntKind.i64.wrap ((f : Int) + (r : Int)) = (PR : Int) := by rw [IntWalk.i64_in _ (by omega)]; omega
          have wr2 : IntKind.i64.wrap ((f : Int) + (d : Int)) = (PD : Int) := by rw [IntWalk.i64_in _ (by omega)]; omega
          have b1 : PR < n := by omega
          have b2 : PD < n := by omega
          have x1 := HT.out.row.cell PR b1
          have x2 := HT.out.row.cell PD b2
          have z1 := HT.out.row.frozen PR
          have z2 := HT.out.row.frozen PD
          have hne : PR ≠ PD := by omega
          have HLEN := Lib.hid HT.out.row.len
          obtain ⟨x, hx⟩ : ∃ x, at0 E PR = x := ⟨_, rfl⟩
          obtain ⟨y, hy⟩ : ∃ y, at0 E PD = y := ⟨_, rfl⟩
          rw [hx] at x1
          rw [hy] at x2
          have HX := Lib.hid hx; have HY := Lib.hid hy; have HPR := Lib.hid hPR; have HPD := Lib.hid hPD
          clear hx hy hPR hPD
          go_quiet ((go_at_call 35; exact Calls.quiet_of_same (less_quiet _ _ _)))
          go_wp2_with fail
          · have hl : y ≤ x := not_less (by assumption)
            go_end0
            exact ⟨rfl, E, HT.out.reads (reads1 _ _), HH.out.done (fun o h1 h2 => by
              have h3 := HBIG.out o h1 h2
              rw [← HPD.out, HY.out] at h3
              rw [← HPR.out, HX.out]; omega)⟩
          · have hl : x < y := is_less (by assumption)
            go_region
            all_goals go_wp2
            go_roundw
            case rel =>
              have e1 := HPR.out
              have e2 := HPD.out
              have ht := (HT.out.swap hb (i := PR) (j := PD) (by omega) (by omega)).reads (reads1 _ (nq + 1))
              have hs := HH.out.step hr HCH.out hdh (by rw [HLEN.out]; exact hb) HBIG.out (by rw [← e1, ← e2, HX.out, HY.out]; exact hl)
              rw [← e1, ← e2] at hs
              rw [HX.out, HY.out] at ht
              exact ⟨d, swapped E PR PD, rfl, by omega, by omega, Lib.hid ht, Lib.hid hs⟩
            case measure => simp [intOf]; omega
        · have hl : q ≤ p := by assumption
          have hdh := hch
          have HCH := Lib.hid (show Child c r from .inl HCR.out)
          have HBIG := Lib.hid (show ∀ o, Child o r → o < hi → at0 E (f + o) ≤ at0 E (f + c) from fun o h3 _ => by
            have e1 := HD.out
            have e2 := HCR.out
            rcases h3 with h3 | h3
            · obtain rfl : o = c := by omega
              exact Int.le_refl _
            · obtain rfl : o = d := by omega
              rw [← HPC.out, ← HPE.out, HP.out, HQ.out]; exact hl)
          clear hl x1 x2 wc1 wc2 wc3 b1 b2
          have ht0 := HT.out.reads (reads1 _ nq)
          clear HT
          have HT := Lib.hid ht0
          clear ht0
          generalize wr.drewN nq = wr at HT ⊢
          obtain ⟨PR, hPR⟩ : ∃ P, P = f + r := ⟨_, rfl⟩
          obtain ⟨PD, hPD⟩ : ∃ P, P = f + c := ⟨_, rfl⟩
          have wr1 : IntKind.i64.wrap ((f : Int) + (r : Int)) = (PR : Int) := by rw [IntWalk.i64_in _ (by omega)]; omega
          have wr2 : IntKind.i64.wrap ((f : Int) + (c : Int)) = (PD : Int) := by rw [IntWalk.i64_in _ (by omega)]; omega
          have b1 : PR < n := by omega
          have b2 : PD < n := by omega
          have x1 := HT.out.row.cell PR b1
          have x2 := HT.out.row.cell PD b2
          have z1 := HT.out.row.frozen PR
          have z2 := HT.out.row.frozen PD
          have hne : PR ≠ PD := by omega
          have HLEN := Lib.hid HT.out.row.len
          obtain ⟨x, hx⟩ : ∃ x, at0 E PR = x := ⟨_, rfl⟩
          obtain ⟨y, hy⟩ : ∃ y, at0 E PD = y := ⟨_, rfl⟩
          rw [hx] at x1
          rw [hy] at x2
          have HX := Lib.hid hx; have HY := Lib.hid hy; have HPR := Lib.hid hPR; have HPD := Lib.hid hPD
          clear hx hy hPR hPD
          go_quiet ((go_at_call 35; exact Calls.quiet_of_same (less_quiet _ _ _)))
          go_wp2_with fail
          · have hl : y ≤ x := not_less (by assumption)
            go_end0
            exact ⟨rfl, E, HT.out.reads (reads1 _ _), HH.out.done (fun o h1 h2 => by
              have h3 := HBIG.out o h1 h2
              rw [← HPD.out, HY.out] at h3
              rw [← HPR.out, HX.out]; omega)⟩
          · have hl : x < y := is_less (by assumption)
            go_region
            all_goals go_wp2
            go_roundw
            case rel =>
              have e1 := HPR.out
              have e2 := HPD.out
              have ht := (HT.out.swap hb (i := PR) (j := PD) (by omega) (by omega)).reads (reads1 _ (nq + 1))
              have hs := HH.out.step hr HCH.out hdh (by rw [HLEN.out]; exact hb) HBIG.out (by rw [← e1, ← e2, HX.out, HY.out]; exact hl)
              rw [← e1, ← e2] at hs
              rw [HX.out, HY.out] at ht
              exact ⟨c, swapped E PR PD, rfl, by omega, by omega, Lib.hid ht, Lib.hid hs⟩
            case measure => simp [intOf]; omega
      · have h2' : ¬ (d : Int) < hi := by omega
        have h2d : decide ((d : Int) < hi) = false := by simpa using h2
        have HD := Lib.hid hd; have HPC := Lib.hid hPC
        clear hd hPC
        go_quiet ((go_at_call 35; exact Calls.quiet_of_same (less_quiet _ _ _)))
        go_wp2_with fail
        have hdh := hch
        have HCH := Lib.hid (show Child c r from .inl HCR.out)
        have HBIG := Lib.hid (show ∀ o, Child o r → o < hi → at0 E (f + o) ≤ at0 E (f + c) from fun o h3 h4 => by
          have e1 := HD.out
          have e2 := HCR.out
          rcases h3 with h3 | h3
          · obtain rfl : o = c := by omega
            exact Int.le_refl _
          · omega)
        clear wc1 wc2 h2' h2d h2
        have ht0 := HT.out.reads (reads1 _ nq)
        clear HT
        have HT := Lib.hid ht0
        clear ht0
        generalize wr.drewN nq = wr at HT ⊢
        obtain ⟨PR, hPR⟩ : ∃ P, P = f + r := ⟨_, rfl⟩
        obtain ⟨PD, hPD⟩ : ∃ P, P = f + c := ⟨_, rfl⟩
        have wr1 : IntKind.i64.wrap ((f : Int) + (r : Int)) = (PR : Int) := by rw [IntWalk.i64_in _ (by omega)]; omega
        have wr2 : IntKind.i64.wrap ((f : Int) + (c : Int)) = (PD : Int) := by rw [IntWalk.i64_in _ (by omega)]; omega
        have b1 : PR < n := by omega
        have b2 : PD < n := by omega
        have x1 := HT.out.row.cell PR b1
        have x2 := HT.out.row.cell PD b2
        have z1 := HT.out.row.frozen PR
        have z2 := HT.out.row.frozen PD
        have hne : PR ≠ PD := by omega
        have HLEN := Lib.hid HT.out.row.len
        obtain ⟨x, hx⟩ : ∃ x, at0 E PR = x := ⟨_, rfl⟩
        obtain ⟨y, hy⟩ : ∃ y, at0 E PD = y := ⟨_, rfl⟩
        rw [hx] at x1
        rw [hy] at x2
        have HX := Lib.hid hx; have HY := Lib.hid hy; have HPR := Lib.hid hPR; have HPD := Lib.hid hPD
        clear hx hy hPR hPD
        go_quiet ((go_at_call 35; exact Calls.quiet_of_same (less_quiet _ _ _)))
        go_wp2_with fail
        · have hl : y ≤ x := not_less (by assumption)
          go_end0
          exact ⟨rfl, E, HT.out.reads (reads1 _ _), HH.out.done (fun o h1 h2 => by
            have h3 := HBIG.out o h1 h2
            rw [← HPD.out, HY.out] at h3
            rw [← HPR.out, HX.out]; omega)⟩
        · have hl : x < y := is_less (by assumption)
          go_region
          all_goals go_wp2
          go_roundw
          case rel =>
            have e1 := HPR.out
            have e2 := HPD.out
            have ht := (HT.out.swap hb (i := PR) (j := PD) (by omega) (by omega)).reads (reads1 _ (nq + 1))
            have hs := HH.out.step hr HCH.out hdh (by rw [HLEN.out]; exact hb) HBIG.out (by rw [← e1, ← e2, HX.out, HY.out]; exact hl)
            rw [← e1, ← e2] at hs
            rw [HX.out, HY.out] at ht
            exact ⟨c, swapped E PR PD, rfl, by omega, by omega, Lib.hid ht, Lib.hid hs⟩
          case measure => simp [intOf]; omega
end Go.Proofs.Ytfejpomemkfmpaa
