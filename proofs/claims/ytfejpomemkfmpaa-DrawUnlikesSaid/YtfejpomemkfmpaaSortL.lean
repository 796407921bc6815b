/- The library's sort, its inner function: by induction on the range. -/
import Derived.Test.YtfejpomemkfmpaaSortK
namespace Go.Proofs.Ytfejpomemkfmpaa
open Go.RowKit

theorem To.below {s t base g n cap : Nat} {D E : List Int} {w w1 w2 : World} (h : To s t base g n cap D E w w1) (k : Below w1.heap.size w1 w2) : To s t base g n cap D E w w2 :=
  ⟨owns_below2 h.row k, ⟨k.os.trans h.gr.os, k.tape.trans h.gr.tape, k.output.trans h.gr.output, Nat.le_trans h.gr.size k.size, fun i hi hne => (k.block i (Nat.lt_of_lt_of_le hi h.gr.size)).trans (h.gr.block i hi hne)⟩, h.turn⟩
theorem To.lift {s t a b base g n cap : Nat} {D E F : List Int} {w w1 w2 : World} (h : To s t base g n cap D E w w1) (k : To a b base g n cap E F w1 w2) (h1 : s ≤ a) (h2 : b ≤ t) : To s t base g n cap D F w w2 := h.trans (k.mono h1 h2)
set_option maxRecDepth 100000 in
set_option maxHeartbeats 32000000 in
theorem pdq_any (base g n cap : Nat) (hn : n ≤ 1000000) : ∀ (N s t : Nat) (m : Int) (D : List Int) (w : World), t - s < N → SRow w base g n cap D → s ≤ t → t ≤ n → 0 ≤ m ∧ m ≤ 1000 → Floor D s t →
    Calls Try.prog 26 #[.slice (some ⟨g, 0, none⟩) n cap, .int .i64 s, .int .i64 t, .int .i64 m] w (Sorts s t base g n cap D w) := by
  intro N
  induction N with
  | zero => intro s t m D w h; omega
  | succ N ih =>
    intro s t m0 D w hN hR hst htn hm0 hFL
    have HR := Lib.hid hR; have HFL := Lib.hid hFL
    have IH := Lib.hid ih
    clear hR hFL ih
    go_enter Try.func26, Try.ntmps26
    go_wp2_with fail
    go_loopw [1, 2, 3, 8, 9] (fun va vb vm v8 v9 wx => ∃ (a b : Nat) (m : Int) (q8 q9 : Bool) (E : List Int), va = .int .i64 a ∧ vb = .int .i64 b ∧ vm = .int .i64 m ∧ v8 = .bool q8 ∧ v9 = .bool q9 ∧ s ≤ a ∧ a ≤ b ∧ b ≤ t ∧ 0 ≤ m ∧ m ≤ 1000 ∧ Hid (To s t base g n cap D E w wx) ∧ Hid (Frame E s a b t)) (fun va vb _ _ _ _ => (intOf vb).toNat - (intOf va).toNat)
    case atStart => exact ⟨s, t, m0, true, true, D, rfl, rfl, rfl, rfl, rfl, Nat.le_refl _, hst, Nat.le_refl _, hm0.1, hm0.2, Lib.hid (To.refl HR.out), Lib.hid (Frame.start D s t)⟩
    case round =>
      obtain ⟨a, b, m, q8, q9, E, rfl, rfl, rfl, rfl, rfl, hsa, hab, hbt, hm1, hm2, HT, HFR⟩ := hrel
      have hbn : b ≤ n := by omega
      by_cases h12 : (b : Int) - (a : Int) ≤ 12
      · go_wp2_with fail
        refine (insertion a b base g n cap E _ HT.out.row hab hbn hn).mono ?_
        rintro e w2 ⟨rfl, F, hto, has⟩
        have HT2 := Lib.hid (HT.out.lift hto hsa hbt)
        have HA2 := Lib.hid ((HFR.out.turn hsa hab hbt hto.turn).done hsa hab hbt has)
        clear hto has
        go_wp2_with fail
        go_end0
        exact ⟨rfl, F, HT2.out, HA2.out⟩
      · have h13 : (12 : Int) < (b : Int) - (a : Int) := by omega
        have hab2 : a < b := by omega
        have t13 : decide ((b : Int) - (a : Int) ≤ 12) = false := by simpa using h12
        clear h12
        by_cases hm : m = 0
        · have hmt : (m == 0) = true := by simp [hm]
          have HM := Lib.hid hm
          clear hm
          go_wp2_with fail
          refine (heap_any a b base g n cap E _ HT.out.row hab2 hbn hn).mono ?_
          rintro e w2 ⟨rfl, F, hto, has⟩
          have HT2 := Lib.hid (HT.out.lift hto hsa hbt)
          have HA2 := Lib.hid ((HFR.out.turn hsa hab hbt hto.turn).done hsa hab hbt has)
          clear hto has
          go_wp2_with fail
          go_end0
          exact ⟨rfl, F, HT2.out, HA2.out⟩
        · have hmt : (m == 0) = false := by simpa using hm
          have hmp : 1 ≤ m := by omega
          clear hm
          go_upto_if 35 with fail
          go_cut [3] from 35 to 41 (fun v wx => ∃ (m' : Int) (F : List Int), v = .int .i64 m' ∧ 0 ≤ m' ∧ m' ≤ 1000 ∧ Hid (To s t base g n cap D F w wx) ∧ Hid (Frame F s a b t))
          case first =>
            cases q8
            · go_wp2_with fail
              refine (break_any a b base g n cap E _ HT.out.row (by omega) hbn hn).mono ?_
              rintro e w2 ⟨rfl, F, hto⟩
              have HT2 := Lib.hid (HT.out.lift hto hsa hbt)
              have HF2 := Lib.hid (HFR.out.turn hsa hab hbt hto.turn)
              clear hto
              go_wp2_with fail
              go_meet
              exact ⟨m - 1, F, rfl, by omega, by omega, HT2, HF2⟩
            · go_wp2_with fail
              go_meet
              exact ⟨m, E, rfl, hm1, hm2, HT, HFR⟩
          case rest =>
            clear HT HFR hm1 hm2 hmp hmt
            obtain ⟨m, E, rfl, hm1, hm2, HT, HFR⟩ := hcut
            have HPV := Lib.hid (show ∀ wx, SRow wx base g n cap E → Calls Try.prog 32 #[.slice (some ⟨g, 0, none⟩) n cap, .int .i64 a, .int .i64 b] wx (Pivots a b wx) from fun wx h => by
              have := choose_any a (b - a) base g n cap E wx h (by omega) (by omega) hn
              rw [show a + (b - a) = b by omega] at this
              exact this)
            go_wp2_with fail
            refine (HPV.out _ HT.out.row).mono ?_
            rintro e w2 ⟨p, h, rfl, hap, hpb, hh, hbl⟩
            have HT2 := Lib.hid (HT.out.below hbl)
            clear HT hbl HPV
            have HT := HT2
            clear HT2
            go_upto_if 50 with fail
            go_cut [11, 12] from 50 to 60 (fun v11 v12 wx => ∃ (p h : Nat) (F : List Int), v11 = .int .i64 p ∧ v12 = .int .i64 h ∧ a ≤ p ∧ p < b ∧ h ≤ 2 ∧ Hid (To s t base g n cap D F w wx) ∧ Hid (Frame F s a b t))
            case first =>
              by_cases hh2 : h = 2
              · have hb2 : ((h : Int) == 2) = true := by simp [hh2]
                clear hh2
                go_wp2_with fail
                refine (reverse_any a b base g n cap E _ HT.out.row hab2 hbn hn).mono ?_
                rintro e w3 ⟨rfl, F, hto⟩
                have HT2 := Lib.hid (HT.out.lift hto hsa hbt)
                have HF2 := Lib.hid (HFR.out.turn hsa hab hbt hto.turn)
                clear hto
                go_wp2_with fail
                go_meet
                exact ⟨b - 1 - (p - a), 1, F, int_cell (by omega), rfl, by omega, by omega, by omega, HT2, HF2⟩
              · have hb2 : ((h : Int) == 2) = false := by simpa using fun e => hh2 (by omega)
                clear hh2
                go_wp2_with fail
                go_meet
                exact ⟨p, h, E, rfl, rfl, hap, hpb, hh, HT, HFR⟩
            case rest =>
              clear HT HFR hap hpb hh
              obtain ⟨p, h, E, rfl, rfl, hap, hpb, hh, HT, HFR⟩ := hcut
              go_upto_region 15 with fail
              go_cut [68] from 61 to 67 (fun v wx => ∃ q : Bool, v = .bool q ∧ Hid (To s t base g n cap D E w wx))
              case first =>
                cases q8
                · go_wp2_with fail
                  go_meet
                  exact ⟨_, rfl, HT⟩
                · cases q9
                  · go_wp2_with fail
                    go_meet
                    exact ⟨_, rfl, HT⟩
                  · go_wp2_with fail
                    go_meet
                    exact ⟨_, rfl, HT⟩
              case rest =>
                clear HT
                obtain ⟨q15, rfl, HT⟩ := hcut
                go_upto_if 68 with fail
                go_cut [] from 68 to 72 (fun wx => ∃ F, Hid (To s t base g n cap D F w wx) ∧ Hid (Frame F s a b t))
                case first =>
                  cases q15
                  · go_wp2_with fail
                    go_meet
                    exact ⟨E, HT, HFR⟩
                  · go_wp2_with fail
                    refine (try_any a b base g n cap E _ HT.out.row hab2 hbn hn (HFR.out.floor hsa hbt (HFL.out.turn HT.out.turn))).mono ?_
                    rintro e w3 ⟨q, F, rfl, hto, has⟩
                    have HT2 := Lib.hid (HT.out.lift hto hsa hbt)
                    have HF2 := Lib.hid (HFR.out.turn hsa hab hbt hto.turn)
                    have HA2 := Lib.hid has
                    clear hto has
                    cases q
                    · go_wp2_with fail
                      go_meet
                      exact ⟨F, HT2, HF2⟩
                    · go_wp2_with fail
                      go_end0
                      exact ⟨rfl, F, HT2.out, HF2.out.done hsa hab hbt (HA2.out trivial)⟩
                case rest =>
                  clear HT HFR
                  obtain ⟨E, HT, HFR⟩ := hcut
                  go_upto_region 17 with fail
                  go_cut [87] from 73 to 86 (fun v wx => ∃ q : Bool, v = .bool q ∧ Hid (To s t base g n cap D E w wx) ∧ Hid (q = true → 0 < a ∧ at0 E p ≤ at0 E (a - 1)))
                  case first =>
                    by_cases ha0 : 0 < a
                    · have x1 := HT.out.row.cell (a - 1) (by omega)
                      have x2 := HT.out.row.cell p (by omega)
                      have bn1 : a - 1 < n := by omega
                      have bn2 : p < n := by omega
                      have ta : (0 : Int) < (a : Int) := by omega
                      have wa : IntKind.i64.wrap ((a : Int) - 1) = ((a - 1 : Nat) : Int) := by rw [IntWalk.i64_in _ (by omega)]; omega
                      obtain ⟨c, hc⟩ : ∃ c, a - 1 = c := ⟨_, rfl⟩
                      rw [hc] at x1 bn1 wa
                      have HC := Lib.hid hc
                      obtain ⟨x, hx⟩ : ∃ x, at0 E c = x := ⟨_, rfl⟩
                      clear hc
                      obtain ⟨y, hy⟩ : ∃ y, at0 E p = y := ⟨_, rfl⟩
                      rw [hx] at x1
                      rw [hy] at x2
                      have HX := Lib.hid hx; have HY := Lib.hid hy
                      clear hx hy
                      go_quiet ((go_at_call 35; exact Calls.quiet_of_same (less_quiet _ _ _)))
                      go_wp2_with fail
                      go_meet
                      exact ⟨!decide (x < y), rfl, Lib.hid (HT.out.reads (reads1 _ _)), Lib.hid (fun hq => ⟨ha0, by rw [HC.out, HX.out, HY.out]; exact not_less hq⟩)⟩
                    · have ta : decide (0 < a) = false := by simpa using ha0
                      clear ha0
                      go_quiet ((go_at_call 35; exact Calls.quiet_of_same (less_quiet _ _ _)))
                      go_wp2_with fail
                      go_meet
                      exact ⟨false, rfl, Lib.hid (HT.out.reads (reads1 _ _)), Lib.hid (fun hq => by cases hq)⟩
                  case rest =>
                    clear HT
                    obtain ⟨q17, rfl, HT, HQ⟩ := hcut
                    cases q17
                    · go_wp2_with fail
                      refine (part_any a b p base g n cap E _ HT.out.row ⟨hap, hpb⟩ hbn hn).mono ?_
                      rintro e w3 ⟨k, q, F, rfl, hak, hkb, hto, hsp⟩
                      have HT2 := Lib.hid (HT.out.lift hto hsa hbt)
                      have HF2 := Lib.hid (HFR.out.turn hsa hab hbt hto.turn)
                      have HS2 := Lib.hid hsp
                      have HFL2 := Lib.hid (HF2.out.floor hsa hbt (HFL.out.turn HT2.out.turn))
                      clear hto hsp HT HFR HQ
                      by_cases hlr : (k : Int) - (a : Int) < (b : Int) - (k : Int)
                      · go_wp2_with fail
                        refine (IH.out a k m F _ (by omega) HT2.out.row hak (by omega) ⟨hm1, hm2⟩ (HFL2.out.cut (by omega))).mono ?_
                        rintro e w4 ⟨rfl, G, hto, has⟩
                        have HT3 := Lib.hid (HT2.out.lift hto hsa (by omega))
                        have HF3 := Lib.hid (split_left HF2.out hsa hak hkb hbt HS2.out hto.turn has)
                        clear hto has
                        go_wp2_with fail
                        go_roundw
                        case rel => exact ⟨k + 1, b, m, _, q, G, by go_num, rfl, rfl, rfl, rfl, by omega, by omega, hbt, hm1, hm2, HT3, HF3⟩
                        case measure => simp [intOf]; omega
                      · have IH2 := Lib.hid (show ∀ wx, SRow wx base g n cap F → Calls Try.prog 26 #[.slice (some ⟨g, 0, none⟩) n cap, .int .i64 ((k : Int) + 1), .int .i64 b, .int .i64 m] wx (Sorts (k + 1) b base g n cap F wx) from fun wx h => by
                          have := IH.out (k + 1) b m F wx (by omega) h (by omega) hbn ⟨hm1, hm2⟩ HS2.out.floor
                          rw [show ((k : Int) + 1) = ((k + 1 : Nat) : Int) by omega]
                          exact this)
                        go_wp2_with fail
                        refine (IH2.out _ HT2.out.row).mono ?_
                        rintro e w4 ⟨rfl, G, hto, has⟩
                        have HT3 := Lib.hid (HT2.out.lift hto (by omega) hbt)
                        have HF3 := Lib.hid (split_right HF2.out hsa hak hkb hbt HS2.out hto.turn has)
                        clear hto has
                        go_wp2_with fail
                        go_roundw
                        case rel => exact ⟨a, k, m, _, q, G, rfl, rfl, rfl, rfl, rfl, hsa, hak, by omega, hm1, hm2, HT3, HF3⟩
                        case measure => simp [intOf]; omega
                    · have HQ2 := Lib.hid (HQ.out rfl)
                      clear HQ
                      go_wp2_with fail
                      refine (equal_any a b p base g n cap E _ HT.out.row ⟨hap, hpb⟩ hbn hn).mono ?_
                      rintro e w3 ⟨k, F, rfl, hak, hkb, hto, hp0, l1, l2⟩
                      have HT2 := Lib.hid (HT.out.lift hto hsa hbt)
                      have HF2 := Lib.hid (show Frame F s k b t from by
                        have h1 := HFR.out.turn hsa hab hbt hto.turn
                        have h2 := h1.floor hsa hbt (HFL.out.turn HT2.out.turn)
                        have h3 := HQ2.out
                        exact equals_next h1 hsa hak hkb hbt h2 h3.1 (by rw [hp0, hto.turn.out (a - 1) (.inl (by have := h3.1; omega))]; exact h3.2) l1 l2)
                      clear hto hp0 l1 l2 HT HFR HQ2
                      go_wp2_with fail
                      go_roundw
                      case rel => exact ⟨k, b, m, q8, q9, F, rfl, rfl, rfl, rfl, rfl, by omega, hkb, hbt, hm1, hm2, HT2, HF2⟩
                      case measure => simp [intOf]; omega
end Go.Proofs.Ytfejpomemkfmpaa
