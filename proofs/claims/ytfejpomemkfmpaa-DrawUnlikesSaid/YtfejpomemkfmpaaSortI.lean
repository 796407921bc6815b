/- The library's sort: words that are a pivot's put ahead. -/
import Derived.Test.YtfejpomemkfmpaaSortH
namespace Go.Proofs.Ytfejpomemkfmpaa
open Go.RowKit

/-- Words not above the pivot, which stands at a, ahead of i; words above it behind j. -/
structure PartedE (D : List Int) (a b i j : Nat) : Prop where
  low : ∀ k, a < k → k < i → at0 D k ≤ at0 D a
  high : ∀ k, j < k → k < b → at0 D a < at0 D k
theorem PartedE.start (D : List Int) (a b : Nat) : PartedE D a b (a + 1) (b - 1) := ⟨fun k h1 h2 => by omega, fun k h1 h2 => by omega⟩
theorem PartedE.up {D : List Int} {a b i j : Nat} (h : PartedE D a b i j) (hl : at0 D i ≤ at0 D a) : PartedE D a b (i + 1) j := ⟨fun k h1 h2 => by
  by_cases e : k = i
  · subst e; exact hl
  · exact h.low k h1 (by omega), h.high⟩
theorem PartedE.down {D : List Int} {a b i j : Nat} (h : PartedE D a b i j) (hl : at0 D a < at0 D j) : PartedE D a b i (j - 1) := ⟨h.low, fun k h1 h2 => by
  by_cases e : k = j
  · subst e; exact hl
  · exact h.high k (by omega) h2⟩
theorem PartedE.swap {D : List Int} {a b i j : Nat} (h : PartedE D a b i j) (hi : a < i) (hij : i < j) (hj : j < b) (hb : b ≤ D.length) (h1 : at0 D a < at0 D i) (h2 : at0 D j ≤ at0 D a) : PartedE (swapped D i j) a b (i + 1) (j - 1) := by
  have e : ∀ k, at0 (swapped D i j) k = if k = j then at0 D i else if k = i then at0 D j else at0 D k := at0_swapped D (by omega) (by omega)
  refine ⟨fun k k1 k2 => ?_, fun k k1 k2 => ?_⟩
  · rw [e k, e a, if_neg (by omega), if_neg (show ¬ a = j by omega), if_neg (show ¬ a = i by omega)]
    by_cases hk : k = i
    · rw [if_pos hk]; exact h2
    · rw [if_neg hk]; exact h.low k k1 (by omega)
  · rw [e k, e a, if_neg (show ¬ a = j by omega), if_neg (show ¬ a = i by omega)]
    by_cases hk : k = j
    · rw [if_pos hk]; exact h1
    · rw [if_neg hk, if_neg (by omega)]; exact h.high k (by omega) k2
/-- What is left: a place behind all that are not above. -/
def Equals (a b p base g n cap : Nat) (D : List Int) (w : World) (e : Ending) (w' : World) : Prop :=
  ∃ (m : Nat) (E : List Int), e = .returned (.int .i64 m) ∧ a < m ∧ m ≤ b ∧ To a b base g n cap D E w w' ∧ at0 E a = at0 D p ∧ (∀ k, a ≤ k → k < m → at0 E k ≤ at0 E a) ∧ ∀ k, m ≤ k → k < b → at0 E a < at0 E k
set_option maxRecDepth 100000 in
set_option maxHeartbeats 16000000 in
theorem equal_any (a b p base g n cap : Nat) (D : List Int) (w : World) (hR : SRow w base g n cap D) (hp : a ≤ p ∧ p < b) (hb : b ≤ n) (hn : n ≤ 1000000) :
    Calls Try.prog 36 #[.slice (some ⟨g, 0, none⟩) n cap, .int .i64 a, .int .i64 b, .int .i64 p] w (Equals a b p base g n cap D w) := by
  have HR := Lib.hid hR
  have x1 := hR.cell a (by omega)
  have x2 := hR.cell p (by omega)
  have z1 := hR.frozen a
  have z2 := hR.frozen p
  obtain ⟨x, hx⟩ : ∃ x, at0 D a = x := ⟨_, rfl⟩
  obtain ⟨y, hy⟩ : ∃ y, at0 D p = y := ⟨_, rfl⟩
  rw [hx] at x1
  rw [hy] at x2
  have HX := Lib.hid hx; have HY := Lib.hid hy
  clear hR hx hy
  have hap : a < b := by omega
  go_enter Try.func36, Try.ntmps36
  go_wp2_with fail
  go_cut [] from 11 to 24 (fun wx => ∃ E, Hid (To a b base g n cap D E w wx) ∧ Hid (at0 E a = at0 D p))
  case first =>
    by_cases hEq : a = p
    · subst hEq
      have hxy : x = y := by rw [← HX.out, ← HY.out]
      subst hxy
      go_region
      all_goals go_wp2
      go_meet
      have ht := ((To.refl HR.out).swap (a := a) (b := b) hb (i := a) (j := a) (by omega) (by omega)).reads (reads1 _ 1)
      rw [HX.out] at ht
      exact ⟨_, Lib.hid ht, Lib.hid (by rw [at0_swapped D (by rw [HR.out.len]; omega) (by rw [HR.out.len]; omega), if_pos rfl])⟩
    · go_region
      all_goals go_wp2
      go_meet
      have ht := ((To.refl HR.out).swap (a := a) (b := b) hb (i := a) (j := p) (by omega) (by omega)).reads (reads1 _ 1)
      rw [HX.out, HY.out] at ht
      exact ⟨_, Lib.hid ht, Lib.hid (by rw [at0_swapped D (by rw [HR.out.len]; omega) (by rw [HR.out.len]; omega), if_neg hEq, if_pos rfl])⟩
  case rest =>
    obtain ⟨E, HT, HA0⟩ := hcut
    clear x1 x2 z1 z2 HX HY
    obtain ⟨i, hia⟩ : ∃ i : Nat, ((a : Int) + 1) = (i : Int) := ⟨a + 1, by omega⟩
    obtain ⟨j, hjb1⟩ : ∃ j : Nat, ((b : Int) - 1) = (j : Int) := ⟨b - 1, by omega⟩
    have hi : a < i := by omega
    have hij : i ≤ j + 1 := by omega
    have haj : a ≤ j := by omega
    have hjb : j < b := by omega
    have HP := Lib.hid (show PartedE E a b i j from by
      have e1 : i = a + 1 := by omega
      have e2 : j = b - 1 := by omega
      rw [e1, e2]; exact PartedE.start E a b)
    have HIA := Lib.hid hia; have HJB := Lib.hid hjb1
    clear hia hjb1
    go_upto_block 0 with fail
    rw [HIA.out, HJB.out]
    clear HIA HJB
    go_wp2_with fail
    go_loopw [9, 10] (fun vi vj wx => ∃ (i j : Nat) (E : List Int), vi = .int .i64 i ∧ vj = .int .i64 j ∧ a < i ∧ i ≤ j + 1 ∧ a ≤ j ∧ j < b ∧ Hid (To a b base g n cap D E w wx) ∧ Hid (PartedE E a b i j) ∧ Hid (at0 E a = at0 D p)) (fun vi vj _ => (intOf vj).toNat + 1 - (intOf vi).toNat)
    case atStart => exact ⟨i, j, E, rfl, rfl, hi, hij, haj, hjb, HT, HP, HA0⟩
    case round =>
      clear HT HP hi hij haj hjb HA0
      obtain ⟨i, j, E, rfl, rfl, hi, hij, haj, hjb, HT, HP, HA0⟩ := hrel
      go_upto_block 2 with fail
      go_cut [9] from 29 to 45 (fun v wx => ∃ i2 : Nat, v = .int .i64 i2 ∧ a < i2 ∧ i2 ≤ j + 1 ∧ i ≤ i2 ∧ Hid (To a b base g n cap D E w wx) ∧ Hid (PartedE E a b i2 j) ∧ Hid (j < i2 ∨ at0 E a < at0 E i2))
      case first =>
        go_wp2_with fail
        go_loopw [9] (fun v wx => ∃ i2 : Nat, v = .int .i64 i2 ∧ a < i2 ∧ i2 ≤ j + 1 ∧ i ≤ i2 ∧ Hid (To a b base g n cap D E w wx) ∧ Hid (PartedE E a b i2 j)) (fun v _ => j + 1 - (intOf v).toNat)
        case atStart => exact ⟨i, rfl, hi, hij, Nat.le_refl _, HT, HP⟩
        case round =>
          clear HT HP
          obtain ⟨i2, rfl, hi2, hij2, hii2, HT, HP⟩ := hrel
          by_cases hle : i2 ≤ j
          · have x1 := HT.out.row.cell i2 (by omega)
            have x2 := HT.out.row.cell a (by omega)
            have bn1 : i2 < n := by omega
            have bn2 : a < n := by omega
            obtain ⟨x, hx⟩ : ∃ x, at0 E i2 = x := ⟨_, rfl⟩
            obtain ⟨y, hy⟩ : ∃ y, at0 E a = y := ⟨_, rfl⟩
            rw [hx] at x1
            rw [hy] at x2
            have HX := Lib.hid hx; have HY := Lib.hid hy
            clear hx hy
            go_wp2_with fail
            go_quiet ((go_at_call 35; exact Calls.quiet_of_same (less_quiet _ _ _)))
            go_wp2
            · have hl : x ≤ y := not_less (by assumption)
              go_roundw
              case rel => exact ⟨i2 + 1, by go_num, by omega, by omega, by omega, Lib.hid (HT.out.reads (reads1 _ _)), Lib.hid (HP.out.up (by rw [HX.out, HY.out]; exact hl))⟩
              case measure => simp [intOf]; omega
            · have hl : y < x := is_less (by assumption)
              go_meet
              exact ⟨i2, rfl, hi2, hij2, hii2, Lib.hid (HT.out.reads (reads1 _ _)), HP, Lib.hid (.inr (by rw [HX.out, HY.out]; exact hl))⟩
          · have hd : decide ((i2 : Int) ≤ (j : Int)) = false := by simpa using hle
            go_wp2_with fail
            go_quiet ((go_at_call 35; exact Calls.quiet_of_same (less_quiet _ _ _)))
            go_wp2
            go_meet
            exact ⟨i2, rfl, hi2, hij2, hii2, Lib.hid (HT.out.reads (reads1 _ _)), HP, Lib.hid (.inl (by omega))⟩
      case rest =>
        clear HT HP hi hij
        obtain ⟨i, rfl, hi, hij, hii, HT, HP, HE1⟩ := hcut
        go_upto_block 4 with fail
        go_cut [10] from 46 to 61 (fun v wx => ∃ j2 : Nat, v = .int .i64 j2 ∧ a ≤ j2 ∧ j2 < b ∧ i ≤ j2 + 1 ∧ j2 ≤ j ∧ Hid (To a b base g n cap D E w wx) ∧ Hid (PartedE E a b i j2) ∧ Hid (j2 < i ∨ at0 E j2 ≤ at0 E a))
        case first =>
          go_wp2_with fail
          go_loopw [10] (fun v wx => ∃ j2 : Nat, v = .int .i64 j2 ∧ a ≤ j2 ∧ j2 < b ∧ i ≤ j2 + 1 ∧ j2 ≤ j ∧ Hid (To a b base g n cap D E w wx) ∧ Hid (PartedE E a b i j2)) (fun v _ => (intOf v).toNat)
          case atStart => exact ⟨j, rfl, haj, hjb, hij, Nat.le_refl _, HT, HP⟩
          case round =>
            clear HT HP
            obtain ⟨j2, rfl, haj2, hjb2, hij2, hjj2, HT, HP⟩ := hrel
            by_cases hle : i ≤ j2
            · have x1 := HT.out.row.cell j2 (by omega)
              have x2 := HT.out.row.cell a (by omega)
              have bn1 : j2 < n := by omega
              have bn2 : a < n := by omega
              obtain ⟨x, hx⟩ : ∃ x, at0 E j2 = x := ⟨_, rfl⟩
              obtain ⟨y, hy⟩ : ∃ y, at0 E a = y := ⟨_, rfl⟩
              rw [hx] at x1
              rw [hy] at x2
              have HX := Lib.hid hx; have HY := Lib.hid hy
              clear hx hy
              go_wp2_with fail
              go_quiet ((go_at_call 35; exact Calls.quiet_of_same (less_quiet _ _ _)))
              go_wp2
              · have hl : y < x := by assumption
                go_roundw
                case rel => exact ⟨j2 - 1, by go_num, by omega, by omega, by omega, by omega, Lib.hid (HT.out.reads (reads1 _ _)), Lib.hid (HP.out.down (by rw [HX.out, HY.out]; exact hl))⟩
                case measure => simp [intOf]; omega
              · have hl : x ≤ y := by assumption
                go_meet
                exact ⟨j2, rfl, haj2, hjb2, hij2, hjj2, Lib.hid (HT.out.reads (reads1 _ _)), HP, Lib.hid (.inr (by rw [HX.out, HY.out]; exact hl))⟩
            · have hd : decide ((i : Int) ≤ (j2 : Int)) = false := by simpa using hle
              go_wp2_with fail
              go_quiet ((go_at_call 35; exact Calls.quiet_of_same (less_quiet _ _ _)))
              go_wp2
              go_meet
              exact ⟨j2, rfl, haj2, hjb2, hij2, hjj2, Lib.hid (HT.out.reads (reads1 _ _)), HP, Lib.hid (.inl (by omega))⟩
        case rest =>
          clear HT HP haj hjb hij
          obtain ⟨j, rfl, haj, hjb, hij, hjj, HT, HP, HE2⟩ := hcut
          by_cases hgt : j < i
          · have hij1 : i = j + 1 := by omega
            have hgt' : (j : Int) < (i : Int) := by omega
            go_wp2_with fail
            go_ret
            exact ⟨i, E, rfl, hi, by omega, HT.out, HA0.out, fun k k1 k2 => by
              by_cases hk : k = a
              · subst hk; exact Int.le_refl _
              · exact HP.out.low k (by omega) k2, fun k k1 k2 => HP.out.high k (by omega) k2⟩
          · have HQ1 := Lib.hid (show at0 E a < at0 E i from HE1.out.resolve_left (by omega))
            have HQ2 := Lib.hid (show at0 E j ≤ at0 E a from HE2.out.resolve_left (by omega))
            have hne : i ≠ j := by intro e; subst e; have := HQ1.out; have := HQ2.out; omega
            have hlt : i < j := by omega
            have hle : (i : Int) ≤ (j : Int) := by omega
            clear HE1 HE2
            go_upto_region 8 with fail
            have x1 := HT.out.row.cell i (by omega)
            have x2 := HT.out.row.cell j (by omega)
            have z1 := HT.out.row.frozen i
            have z2 := HT.out.row.frozen j
            have bn1 : i < n := by omega
            have bn2 : j < n := by omega
            obtain ⟨x, hx⟩ : ∃ x, at0 E i = x := ⟨_, rfl⟩
            obtain ⟨y, hy⟩ : ∃ y, at0 E j = y := ⟨_, rfl⟩
            rw [hx] at x1
            rw [hy] at x2
            have HX := Lib.hid hx; have HY := Lib.hid hy
            clear hx hy
            have HA2 := Lib.hid (show at0 (swapped E i j) a = at0 D p from by rw [at0_swapped E (by rw [HT.out.row.len]; omega) (by rw [HT.out.row.len]; omega), if_neg (by omega), if_neg (by omega)]; exact HA0.out)
            have HP2 := Lib.hid (HP.out.swap hi hlt hjb (by rw [HT.out.row.len]; exact hb) HQ1.out HQ2.out)
            go_region
            all_goals go_wp2
            go_roundw
            case rel =>
              have ht := (HT.out.swap hb (i := i) (j := j) (by omega) (by omega)).reads (reads1 _ 1)
              rw [HX.out, HY.out] at ht
              exact ⟨i + 1, j - 1, swapped E i j, by go_num, by go_num, by omega, by omega, by omega, by omega, Lib.hid ht, HP2, HA2⟩
            case measure => simp [intOf]; omega
end Go.Proofs.Ytfejpomemkfmpaa
