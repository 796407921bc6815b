/- The library's sort: a row that is nearly in order. -/
import Derived.Test.YtfejpomemkfmpaaSortI
namespace Go.Proofs.Ytfejpomemkfmpaa
open Go.RowKit

/-- What stands ahead of the range is above nothing of it. -/
def Floor (D : List Int) (a b : Nat) : Prop := 0 < a → ∀ k, a ≤ k → k < b → at0 D (a - 1) ≤ at0 D k
theorem Floor.turn {D E : List Int} {a b : Nat} (h : Floor D a b) (t : Turn a b D E) : Floor E a b := fun h0 k h1 h2 => by
  obtain ⟨l, l1, l2, e⟩ := t.src k h1 h2
  rw [e, t.out (a - 1) (by omega)]
  exact h h0 l l1 l2
theorem Asc.snoc {D : List Int} {a i : Nat} (h : Asc D a i) (hi : a < i) (hl : at0 D (i - 1) ≤ at0 D i) : Asc D a (i + 1) := fun p q h1 h2 h3 => by
  by_cases hq : q = i
  · subst hq
    by_cases hp : p = q
    · subst hp; exact Int.le_refl _
    · exact Int.le_trans (h p (q - 1) h1 (by omega) (by omega)) hl
  · exact h p q h1 h2 (by omega)
theorem Sift.begin {D : List Int} {a i : Nat} (h : Asc D a i) (hi : a < i) (hl : i < D.length) : Sift (swapped D i (i - 1)) a (i - 1) (i - 1) := by
  have e : ∀ k, at0 (swapped D i (i - 1)) k = if k = i - 1 then at0 D i else if k = i then at0 D (i - 1) else at0 D k := at0_swapped D (by omega) (by omega)
  refine ⟨fun p q h1 h2 h3 h4 h5 => ?_, fun q h1 h2 => by omega⟩
  rw [e p, e q, if_neg h4, if_neg h5, if_neg (by omega), if_neg (by omega)]
  exact h p q h1 h2 (by omega)
/-- What a first try leaves: the row turned about, and, where it answers true, in order. -/
def Tries (a b base g n cap : Nat) (D : List Int) (w : World) (e : Ending) (w' : World) : Prop :=
  ∃ (q : Bool) (E : List Int), e = .returned (.bool q) ∧ To a b base g n cap D E w w' ∧ (q = true → Asc E a b)
set_option maxRecDepth 100000 in
set_option maxHeartbeats 16000000 in
theorem try_any (a b base g n cap : Nat) (D : List Int) (w : World) (hR : SRow w base g n cap D) (hab : a < b) (hb : b ≤ n) (hn : n ≤ 1000000) (hF : Floor D a b) :
    Calls Try.prog 34 #[.slice (some ⟨g, 0, none⟩) n cap, .int .i64 a, .int .i64 b] w (Tries a b base g n cap D w) := by
  have HR := Lib.hid hR; have HF := Lib.hid hF
  clear hR hF
  go_enter Try.func34, Try.ntmps34
  go_wp2_with fail
  go_loopw [7, 8] (fun vi vc wx => ∃ (i c : Nat) (E : List Int), vi = .int .i64 i ∧ vc = .int .i64 c ∧ a < i ∧ i ≤ b ∧ c ≤ 5 ∧ Hid (To a b base g n cap D E w wx) ∧ Hid (Asc E a i)) (fun _ vc _ => 5 - (intOf vc).toNat)
  case atStart => exact ⟨a + 1, 0, D, by go_num, rfl, by omega, by omega, by omega, Lib.hid (To.refl HR.out), Lib.hid (Asc.short _ _ _ (Nat.le_refl _))⟩
  case round =>
    obtain ⟨i, c, E, rfl, rfl, hi, hib, hc, HT, HA⟩ := hrel
    by_cases hc5 : (c : Int) < 5
    · have t5 : decide ((c : Int) < 5) = true := by simpa using hc5
      go_upto_block 2 with fail
      go_cut [7] from 17 to 34 (fun v wx => ∃ i2 : Nat, v = .int .i64 i2 ∧ a < i2 ∧ i2 ≤ b ∧ Hid (To a b base g n cap D E w wx) ∧ Hid (Asc E a i2))
      case first =>
        go_wp2_with fail
        go_loopw [7] (fun v wx => ∃ i2 : Nat, v = .int .i64 i2 ∧ a < i2 ∧ i2 ≤ b ∧ Hid (To a b base g n cap D E w wx) ∧ Hid (Asc E a i2)) (fun v _ => b - (intOf v).toNat)
        case atStart => exact ⟨i, rfl, hi, hib, HT, HA⟩
        case round =>
          clear HT HA
          obtain ⟨i2, rfl, hi2, hib2, HT, HA⟩ := hrel
          by_cases hle : i2 < b
          · skip
            have x1 := HT.out.row.cell i2 (by omega)
            have x2 := HT.out.row.cell (i2 - 1) (by omega)
            have z1 := HT.out.row.frozen i2
            have z2 := HT.out.row.frozen (i2 - 1)
            have bn1 : i2 < n := by omega
            have bn2 : i2 - 1 < n := by omega
            obtain ⟨x, hx⟩ : ∃ x, at0 E i2 = x := ⟨_, rfl⟩
            obtain ⟨y, hy⟩ : ∃ y, at0 E (i2 - 1) = y := ⟨_, rfl⟩
            rw [hx] at x1
            rw [hy] at x2
            have HX := Lib.hid hx; have HY := Lib.hid hy
            clear hx hy
            go_wp2_with fail
            go_quiet ((go_at_call 35; exact Calls.quiet_of_same (less_quiet _ _ _)))
            go_wp2
            · have hl : y ≤ x := not_less (by assumption)
              go_roundw
              case rel => exact ⟨i2 + 1, by go_num, by omega, by omega, Lib.hid (HT.out.reads (reads1 _ _)), Lib.hid (HA.out.snoc hi2 (by rw [HX.out, HY.out]; exact hl))⟩
              case measure => simp [intOf]; omega
            · go_meet
              exact ⟨i2, rfl, hi2, hib2, Lib.hid (HT.out.reads (reads1 _ _)), HA⟩
          · have hd : decide ((i2 : Int) < (b : Int)) = false := by simpa using hle
            go_wp2_with fail
            go_quiet ((go_at_call 35; exact Calls.quiet_of_same (less_quiet _ _ _)))
            go_wp2
            go_meet
            exact ⟨i2, rfl, hi2, hib2, Lib.hid (HT.out.reads (reads1 _ _)), HA⟩
      case rest =>
        clear HT HA hi hib
        obtain ⟨i, rfl, hi, hib, HT, HA⟩ := hcut
        by_cases hie : i = b
        · have hbe : ((i : Int) == (b : Int)) = true := by simp [hie]
          have HIE := Lib.hid hie
          clear hie
          go_wp2_with fail
          go_ret
          exact ⟨true, E, rfl, HT.out, fun _ => by have := HA.out; rw [HIE.out] at this; exact this⟩
        · have hbe : ((i : Int) == (b : Int)) = false := by simpa using fun h => hie (by omega)
          have hib3 : i < b := by omega
          clear hie
          by_cases h50 : (b : Int) - (a : Int) < 50
          · go_wp2_with fail
            go_ret
            exact ⟨false, E, rfl, HT.out, fun h => by cases h⟩
          · go_upto_region 11 with fail
            go_cut [] from 42 to 57 (fun wx => Hid (To a b base g n cap D (swapped E i (i - 1)) w wx))
            case first =>
              have x1 := HT.out.row.cell i (by omega)
              have x2 := HT.out.row.cell (i - 1) (by omega)
              have z1 := HT.out.row.frozen i
              have z2 := HT.out.row.frozen (i - 1)
              have bn1 : i < n := by omega
              have bn2 : i - 1 < n := by omega
              obtain ⟨x, hx⟩ : ∃ x, at0 E i = x := ⟨_, rfl⟩
              obtain ⟨y, hy⟩ : ∃ y, at0 E (i - 1) = y := ⟨_, rfl⟩
              rw [hx] at x1
              rw [hy] at x2
              have HX := Lib.hid hx; have HY := Lib.hid hy
              clear hx hy
              go_region
              all_goals go_wp2
              go_meet
              have ht := (HT.out.swap hb (i := i) (j := i - 1) (by omega) (by omega)).reads (reads1 _ 1)
              rw [HX.out, HY.out] at ht
              exact Lib.hid ht
            case rest =>
              have HS := Lib.hid (Sift.begin HA.out hi (by rw [HT.out.row.len]; omega))
              clear HT
              have HT := hcut
              clear hcut
              obtain ⟨E1, hE1⟩ : ∃ E1, swapped E i (i - 1) = E1 := ⟨_, rfl⟩
              rw [hE1] at HT HS
              clear hE1
              go_upto_if 61 with fail
              go_cut [9] from 61 to 94 (fun _ wx => ∃ F, Hid (To a b base g n cap D F w wx) ∧ Hid (Asc F a i))
              case first =>
                by_cases h2 : 2 ≤ (i : Int) - (a : Int)
                · go_wp2_with fail
                  go_loopw [9] (fun vj wx => ∃ (j : Nat) (F : List Int), vj = .int .i64 j ∧ a ≤ j ∧ j ≤ i - 1 ∧ Hid (To a b base g n cap D F w wx) ∧ Hid (Sift F a (i - 1) j)) (fun vj _ => (intOf vj).toNat)
                  case atStart => exact ⟨i - 1, E1, by go_num, by omega, Nat.le_refl _, HT, HS⟩
                  case round =>
                    clear HT HS
                    obtain ⟨j, F, rfl, haj, hji, HT, HS⟩ := hrel
                    have OUT := Lib.hid (show (j = a ∨ at0 F (j - 1) ≤ at0 F j) → ∀ q, ∃ F, Hid (To a b base g n cap D F w (wr.drewN q)) ∧ Hid (Asc F a i) from fun hs q => ⟨F, Lib.hid (HT.out.reads (reads1 _ q)), Lib.hid (by
                      have := HS.out.done haj hji hs
                      rw [show i - 1 + 1 = i by omega] at this
                      exact this)⟩)
                    by_cases hj1 : 1 ≤ j
                    · have HFL := Lib.hid (HF.out.turn HT.out.turn)
                      have HLEN := Lib.hid HT.out.row.len
                      have x1 := HT.out.row.cell j (by omega)
                      have x2 := HT.out.row.cell (j - 1) (by omega)
                      have z1 := HT.out.row.frozen j
                      have z2 := HT.out.row.frozen (j - 1)
                      have bn1 : j < n := by omega
                      have bn2 : j - 1 < n := by omega
                      obtain ⟨x, hx⟩ : ∃ x, at0 F j = x := ⟨_, rfl⟩
                      obtain ⟨y, hy⟩ : ∃ y, at0 F (j - 1) = y := ⟨_, rfl⟩
                      rw [hx] at x1
                      rw [hy] at x2
                      have HX := Lib.hid hx; have HY := Lib.hid hy
                      clear hx hy
                      go_wp2_with fail
                      go_quiet ((go_at_call 35; exact Calls.quiet_of_same (less_quiet _ _ _)))
                      go_wp2_with fail
                      · have hl : y ≤ x := not_less (by assumption)
                        go_meet
                        exact OUT.out (.inr (by rw [HX.out, HY.out]; exact hl)) nq
                      · have hl : x < y := is_less (by assumption)
                        have haj2 : a < j := by
                          rcases Nat.lt_or_ge a j with h | h
                          · exact h
                          · exfalso
                            obtain rfl : j = a := by omega
                            have := HFL.out (by omega) j (Nat.le_refl _) (by omega)
                            rw [HX.out, HY.out] at this
                            omega
                        have HS2 := Lib.hid (HS.out.step haj2 hji (by rw [HLEN.out]; omega) (by rw [HX.out, HY.out]; exact hl))
                        have ht0 := HT.out.reads (reads1 _ nq)
                        have HT0 := Lib.hid ht0
                        clear ht0 OUT HFL HT HS
                        go_region
                        all_goals go_wp2
                        go_roundw
                        case rel =>
                          have ht := (HT0.out.swap hb (i := j) (j := j - 1) (by omega) (by omega)).reads (reads1 _ 1)
                          rw [HX.out, HY.out] at ht
                          exact ⟨j - 1, swapped F j (j - 1), by go_num, by omega, by omega, Lib.hid ht, HS2⟩
                        case measure => simp [intOf]; omega
                    · have hj0 : (j : Int) < 1 := by omega
                      go_wp2_with fail
                      go_meet
                      exact OUT.out (.inl (by omega)) 0
                · go_wp2_with fail
                  go_meet
                  exact ⟨E1, HT, Lib.hid (Asc.short _ _ _ (by omega))⟩
              case rest =>
                clear HT HS HA
                obtain ⟨F, HT, HA⟩ := hcut
                by_cases h2 : 2 ≤ (b : Int) - (i : Int)
                · go_wp2_with fail
                  go_loopw [10] (fun vj wx => ∃ (j : Nat) (F : List Int), vj = .int .i64 j ∧ i < j ∧ j ≤ b ∧ Hid (To a b base g n cap D F w wx) ∧ Hid (Asc F a i)) (fun vj _ => b - (intOf vj).toNat)
                  case atStart => exact ⟨i + 1, F, by go_num, by omega, by omega, HT, HA⟩
                  case round =>
                    clear HT HA
                    obtain ⟨j, F, rfl, hij, hjb, HT, HA⟩ := hrel
                    by_cases hj1 : j < b
                    · have HLEN := Lib.hid HT.out.row.len
                      have x1 := HT.out.row.cell j (by omega)
                      have x2 := HT.out.row.cell (j - 1) (by omega)
                      have z1 := HT.out.row.frozen j
                      have z2 := HT.out.row.frozen (j - 1)
                      have bn1 : j < n := by omega
                      have bn2 : j - 1 < n := by omega
                      obtain ⟨x, hx⟩ : ∃ x, at0 F j = x := ⟨_, rfl⟩
                      obtain ⟨y, hy⟩ : ∃ y, at0 F (j - 1) = y := ⟨_, rfl⟩
                      rw [hx] at x1
                      rw [hy] at x2
                      have HX := Lib.hid hx; have HY := Lib.hid hy
                      clear hx hy
                      go_wp2_with fail
                      go_quiet ((go_at_call 35; exact Calls.quiet_of_same (less_quiet _ _ _)))
                      go_wp2_with fail
                      · go_roundw
                        case rel => exact ⟨i, c + 1, F, rfl, by go_num, hi, hib, by omega, Lib.hid (HT.out.reads (reads1 _ _)), HA⟩
                        case measure => simp [intOf]; omega
                      · have HA2 := Lib.hid (HA.out.out (Turn.swap (a := i) (b := b) F (by rw [HLEN.out]; exact hb) (i := j) (j := j - 1) (by omega) (by omega)) (.inl (Nat.le_refl _)))
                        have ht0 := HT.out.reads (reads1 _ nq)
                        have HT0 := Lib.hid ht0
                        clear ht0 HT HA
                        go_region
                        all_goals go_wp2
                        go_roundw
                        case rel =>
                          have ht := (HT0.out.swap hb (i := j) (j := j - 1) (by omega) (by omega)).reads (reads1 _ 1)
                          rw [HX.out, HY.out] at ht
                          exact ⟨j + 1, swapped F j (j - 1), by go_num, by omega, by omega, Lib.hid ht, HA2⟩
                        case measure => simp [intOf]; omega
                    · go_wp2_with fail
                      go_roundw
                      case rel => exact ⟨i, c + 1, F, rfl, by go_num, hi, hib, by omega, HT, HA⟩
                      case measure => simp [intOf]; omega
                · go_wp2_with fail
                  go_roundw
                  case rel => exact ⟨i, c + 1, F, rfl, by go_num, hi, hib, by omega, HT, HA⟩
                  case measure => simp [intOf]; omega
    · go_wp2_with fail
      go_ret
      exact ⟨false, E, rfl, HT.out, fun h => by cases h⟩
end Go.Proofs.Ytfejpomemkfmpaa
