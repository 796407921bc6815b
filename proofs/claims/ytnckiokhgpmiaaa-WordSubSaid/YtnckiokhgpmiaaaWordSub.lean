/- WordSub: whatever rows, the law returns true. -/
import Derived.Test.YtnckiokhgpmiaaaWordKeeps
namespace Go.Proofs.Ytnckiokhgpmiaaa.wordSub
open Go.RowKit

theorem matchAt_laid (X P Y : List Int) : matchAt (X ++ P ++ Y) P X.length = true := by
  unfold matchAt
  have : ((X ++ P ++ Y).drop X.length).take P.length = P := by
    rw [List.append_assoc, List.drop_append_of_le_length (Nat.le_refl _), List.drop_length, List.nil_append, List.take_append_of_le_length (Nat.le_refl _), List.take_length]
  rw [this]; exact wordKeeps.same_self P
theorem find_spec (X P Y : List Int) : ∃ k : Nat, k ≤ X.length ∧ findN (X ++ P ++ Y) P = k ∧ findOk (X ++ P ++ Y) P = true ∧ matchAt (X ++ P ++ Y) P k = true ∧ ∀ j, j < k → matchAt (X ++ P ++ Y) P j = false := by
  have hlt : X.length < (X ++ P ++ Y).length + 1 - P.length := by simp; omega
  cases h : findO (X ++ P ++ Y) P with
  | none =>
    unfold findO at h
    rw [List.find?_range_eq_none] at h
    have := h X.length hlt
    rw [matchAt_laid] at this
    simp at this
  | some k =>
    have h' := h
    unfold findO at h
    rw [List.find?_range_eq_some] at h
    have hk : k ≤ X.length := by
      rcases Nat.lt_or_ge X.length k with h1 | h1
      · have := h.2.2 X.length h1
        rw [matchAt_laid] at this
        simp at this
      · exact h1
    exact ⟨k, hk, by unfold findN; rw [h']; rfl, by unfold findOk; rw [h']; rfl, h.1, fun j hj => by simpa using h.2.2 j hj⟩
theorem matchAt_take {L P : List Int} {k : Nat} (h : matchAt L P k = true) : (L.drop k).take P.length = P := of_decide_eq_true h
theorem matchAt_iff_prefix {L P : List Int} {i : Nat} (H : ∀ j, j < P.length → L.getD (i + j) 0 = P.getD j 0) (hn : i + P.length ≤ L.length) : matchAt L P i = true := matchAt_of hn H
theorem matchAt_elem {L P : List Int} {i j : Nat} (h : matchAt L P i = true) (hA : i + j < L.length) (hj : j < P.length) : (L[i + j] == P[j]) = true := by
  have := matchAt_take h
  have h2 : ((L.drop i).take P.length)[j]? = P[j]? := by rw [this]
  simp [hj, hA] at h2
  simp [h2]

set_option maxHeartbeats 1000000 in
theorem walk_long (w : World) (a1 a2 a3 : Option Addr) (n1 c1 n2 c2 n3 c3 : Nat) (h : 100 < n1 ∨ 100 < n2 ∨ 100 < n3) :
    Calls Try.prog 5 #[.slice a1 n1 c1, .slice a2 n2 c2, .slice a3 n3 c3] w fun e w' => e = .returned (.bool true) ∧ Below w.heap.size w w' := by
  have H := Lib.hid h; clear h
  by_cases h1 : 100 < n1
  · go_enter Try.func5, Try.ntmps5
    go_wp2_with fail
    refine (awake_any _).mono ?_
    rintro e w1 ⟨rfl, hb⟩
    go_wp2_with fail
    refine (awake_any _).mono ?_
    rintro e w2 ⟨rfl, hb2⟩
    go_wp2_with fail
    go_ret
    exact ⟨rfl, hb.trans (hb2.mono hb.size)⟩
  · by_cases h2 : 100 < n2
    · go_enter Try.func5, Try.ntmps5
      go_wp2_with fail
      refine (awake_any _).mono ?_
      rintro e w1 ⟨rfl, hb⟩
      go_wp2_with fail
      refine (awake_any _).mono ?_
      rintro e w2 ⟨rfl, hb2⟩
      go_wp2_with fail
      go_ret
      exact ⟨rfl, hb.trans (hb2.mono hb.size)⟩
    · have h3 : 100 < n3 := by have := H.out; omega
      go_enter Try.func5, Try.ntmps5
      go_wp2_with fail
      refine (awake_any _).mono ?_
      rintro e w1 ⟨rfl, hb⟩
      go_wp2_with fail
      refine (awake_any _).mono ?_
      rintro e w2 ⟨rfl, hb2⟩
      go_wp2_with fail
      go_ret
      exact ⟨rfl, hb.trans (hb2.mono hb.size)⟩
set_option maxHeartbeats 4000000 in
theorem walk_main (w : World) (v1 v2 v3 : Value) (X P Y : List Int) (hX : Ints .u32 w v1 X) (hP : Ints .u32 w v2 P) (hY : Ints .u32 w v3 Y) (h1 : X.length ≤ 100) (h2 : P.length ≤ 100) (h3 : Y.length ≤ 100) :
    Calls Try.prog 5 #[v1, v2, v3] w fun e w' => e = .returned (.bool true) ∧ Below w.heap.size w w' := by
  obtain ⟨i0, hi, hz0, hz1, hz2⟩ := info_parts Try.infoU
  have HX := Lib.hid hX; have HP := Lib.hid hP; have HY := Lib.hid hY
  obtain ⟨a1, c1, rfl⟩ := hX.form
  obtain ⟨a2, c2, rfl⟩ := hP.form
  obtain ⟨a3, c3, rfl⟩ := hY.form
  clear hX hP hY
  have g1 : (X.length : Int) ≤ 100 := by omega
  have g2 : (P.length : Int) ≤ 100 := by omega
  have g3 : (Y.length : Int) ≤ 100 := by omega
  go_enter Try.func5, Try.ntmps5
  go_wp2_with fail
  refine (awake_any _).mono ?_
  rintro e w4 ⟨rfl, hb4⟩
  have s4 := hb4.size
  go_wp2_with (at_builtin; refine wpList_append_ints rfl (.tmp 32) (.tmp 33) 26 rfl w4.heap.size 22 i0 .u32 0 4 Try.underlying26 hi hz0 hz1 hz2 (by decide) _ 0 [] rfl (owns_lit .u32 (Nat.le_refl _) rfl) _ X rfl ((HX.out.below hb4).alloc _) ?c1 ?c2 ?_)
  case c1 => omega
  case c2 => simp
  intro v5 w5 hown5 hgrow5
  have b5 : Below w4.heap.size w4 w5 := ((Below.refl _ _).alloc (Nat.le_refl _) _).grown hgrow5 (by simp) (fun g hg => by simp [Value.ownBlock] at hg; omega)
  have hb5 := hb4.trans (b5.mono s4)
  have s5 := b5.size
  clear hgrow5
  go_wp2_with (at_builtin; refine wpList_append_ints rfl (.tmp 34) (.tmp 35) 26 rfl w4.heap.size 22 i0 .u32 0 4 Try.underlying26 hi hz0 hz1 hz2 (by decide) _ X.length X rfl hown5 _ P rfl (HP.out.below hb5) ?c1 ?c2 ?_)
  case c1 => omega
  case c2 => exact s5
  intro v6 w6 hown6 hgrow6
  rw [← List.map_append] at hown6
  have b6 : Below w4.heap.size w4 w6 := b5.grown hgrow6 s5 (fun g hg => (hown5.lt g hg).1)
  have hb6 := hb4.trans (b6.mono s4)
  have s6 := b6.size
  clear hgrow6 hown5
  go_wp2_with (at_builtin; refine wpList_append_ints rfl (.tmp 36) (.tmp 37) 26 rfl w4.heap.size 22 i0 .u32 0 4 Try.underlying26 hi hz0 hz1 hz2 (by decide) _ (X.length + P.length) (X ++ P) rfl hown6 _ Y rfl (HY.out.below hb6) ?c1 ?c2 ?_)
  case c1 => omega
  case c2 => exact s6
  intro v7 w7 hown7 hgrow7
  rw [← List.map_append, ← List.map_append, ← List.append_assoc] at hown7
  have b7 : Below w4.heap.size w4 w7 := b6.grown hgrow7 s6 (fun g hg => (hown6.lt g hg).1)
  have hb7 : Below w.heap.size w w7 := hb4.trans (b7.mono s4)
  have I7 := (ints_of_owns hown7).1
  have hlen : (X ++ P ++ Y).length = X.length + P.length + Y.length := by simp; omega
  obtain ⟨k, hk, hN, hO, hM, hno⟩ := find_spec X P Y
  obtain ⟨L, hL⟩ : ∃ L, L = X ++ P ++ Y := ⟨_, rfl⟩
  rw [← hL] at I7 hlen hN hO hM hno
  clear hgrow7 hown6 hown7 b5 b6 b7 s5 s6 s4 hb5 hb6 hb4 hL
  have hkL : k + P.length ≤ L.length := by omega
  have hL3 : L.length ≤ 300 := by omega
  have HN := Lib.hid hN; have HO := Lib.hid hO; have HM := Lib.hid hM; have HNO := Lib.hid hno; have HL := Lib.hid hlen
  clear hN hO hM hno hlen
  obtain ⟨a7, c7, rfl⟩ := I7.form
  have I7' := Lib.hid I7; clear I7
  go_wp2_with fail
  refine (find_any _ _ L P _ I7'.out (HP.out.below hb7) (by omega) (by omega)).mono ?_
  rintro e w8 ⟨rfl, hr⟩
  rw [HN.out, HO.out]
  have I8 := Lib.hid (I7'.out.reads hr)
  have hb8 := hb7.trans (hr.below _)
  have P8 := Lib.hid (HP.out.below hb8)
  clear hb7 hr I7'
  have hkx : (k : Int) ≤ X.length := by omega
  by_cases hz : P = []
  · subst hz
    have hb : decide ((0 : Int) < ((0 : Nat) : Int)) = false := by simp
    have hb2 : decide ((0 : Int) < (0 : Int)) = false := by simp
    obtain rfl : k = 0 := by
      rcases Nat.eq_zero_or_pos k with h | h
      · exact h
      · have := HNO.out 0 h
        rw [matchAt_nil] at this; simp at this
    go_wp2_with fail
    go_loopw [10] (fun i wr => ((i = .int .i64 0) ∨ (i = .int .i64 1)) ∧ Reads w8 wr) (fun i _ => 2 - (intOf i).toNat)
    case atStart => exact ⟨.inl rfl, Reads.refl _⟩
    case round =>
      obtain ⟨h01, q, rfl⟩ := hrel
      rcases h01 with rfl | rfl
      · go_wp2_with fail
        go_loopw [11] (fun i wr => i = .int .i64 0 ∧ Reads w8 wr) (fun _ _ => 0)
        case atStart => exact ⟨rfl, reads1 _ _⟩
        case round =>
          obtain ⟨rfl, q2, rfl⟩ := hrel
          go_wp2_with fail
          go_quiet (fail)
          go_wp2_with fail
          go_roundw
          case rel => exact ⟨.inr rfl, by first | exact reads1 _ _ | exact reads2 _ _ _⟩
          case measure => simp [intOf]
      · go_wp2_with fail
        have I9 := I8.out.reads (reads1 w8 q)
        refine (cut_any _ 0 0 L _ I9 (by omega)).mono ?_
        rintro e w9 ⟨u, rfl, hu, _, hb9⟩
        have hok : cutOk L 0 0 = true := decide_eq_true ⟨by omega, by omega, by omega⟩
        have hlt : cutL L 0 0 = [] := by unfold cutL; rw [hok]; simp
        rw [hok]
        rw [hlt] at hu
        go_wp2_with fail
        refine (wordKeeps.rsame_yes _ _ [] _ hu ((P8.out.reads (reads1 w8 q)).below hb9)).mono ?_
        rintro e w10 ⟨rfl, hr⟩
        have hbq : Below w.heap.size w (w8.drewN q) := hb8.trans ((reads1 w8 q).below _)
        have hb10 := (hbq.trans (hb9.mono hbq.size)).trans (hr.below _)
        go_wp2_with fail
        go_ret
        exact ⟨rfl, hb10⟩
  · have hm0 : 0 < P.length := List.length_pos_iff.2 hz
    obtain ⟨b1, o1, c1', he1, hl1, hm1, hc1⟩ := I8.out.cells (by intro e; rw [e] at hkL; simp at hkL; exact hz hkL.2)
    obtain ⟨b2, o2, c2', he2, hl2, hm2, hc2⟩ := P8.out.cells hz
    simp only [Value.slice.injEq, true_and] at he1 he2
    obtain ⟨rfl, rfl⟩ := he1
    obtain ⟨rfl, rfl⟩ := he2
    have H1 := Lib.hid hc1; have H2 := Lib.hid hc2
    clear hc1 hc2
    go_wp2_with fail
    go_loopw [10] (fun i wr => ∃ n : Nat, n ≤ k + 1 ∧ i = .int .i64 n ∧ Reads w8 wr) (fun i _ => k + 1 - (intOf i).toNat)
    case atStart => exact ⟨0, Nat.zero_le _, rfl, Reads.refl _⟩
    case round =>
      obtain ⟨n, hn, rfl, q, rfl⟩ := hrel
      by_cases hnk : n ≤ k
      · go_wp2_with fail
        go_loopw [11] (fun i wr => ∃ j : Nat, j ≤ P.length ∧ i = .int .i64 j ∧ (∀ i, i < j → L.getD (n + i) 0 = P.getD i 0) ∧ Reads w8 wr) (fun i _ => P.length - (intOf i).toNat)
        case atStart => exact ⟨0, Nat.zero_le _, rfl, fun j hj => absurd hj (by omega), reads1 _ _⟩
        case round =>
          obtain ⟨j, hj, rfl, hpre, q2, rfl⟩ := hrel
          have HH := Lib.hid hpre; clear hpre
          by_cases hjm : j < P.length
          · have hb : decide ((j : Int) < (P.length : Int)) = true := by simp; omega
            have e1 := H1.out (n + j) (by omega)
            have e2 := H2.out j hjm
            have hkA : n + j < L.length := by omega
            have hjne : ((j : Int) == (P.length : Int)) = false := by rw [beq_eq_false_iff_ne]; omega
            by_cases hnk2 : n = k
            · have hmm : (L[n + j] == P[j]) = true := matchAt_elem (by rw [hnk2]; exact HM.out) hkA hjm
              have Hnk := Lib.hid hnk2; clear hnk2
              go_wp2_with fail
              go_quiet (fail)
              go_wp2_with fail
              go_roundw
              case rel => exact ⟨j + 1, by omega, by go_num, prefix_next HH.out hkA hjm hmm, by first | exact reads1 _ _ | exact reads2 _ _ _⟩
              case measure => simp [intOf]; omega
            · have hne : ((n : Int) == (k : Int)) = false := by rw [beq_eq_false_iff_ne]; omega
              have Hnk := Lib.hid hnk2; clear hnk2
              go_wp2_with fail
              go_quiet (fail)
              go_wp2_with fail
              · have ht : (L[n + j] == P[j]) = true := by assumption
                go_roundw
                case rel => exact ⟨j + 1, by omega, by go_num, prefix_next HH.out hkA hjm ht, by first | exact reads1 _ _ | exact reads2 _ _ _⟩
                case measure => simp [intOf]; omega
              · have ht : (L[n + j] == P[j]) = false := by assumption
                go_roundw
                case rel => exact ⟨n + 1, by omega, by go_num, by first | exact reads1 _ _ | exact reads2 _ _ _⟩
                case measure => simp [intOf]; omega
          · obtain rfl : j = P.length := by omega
            have hb : decide ((P.length : Int) < (P.length : Int)) = false := by simp
            have hmn : matchAt L P n = true := matchAt_iff_prefix HH.out (by omega)
            obtain rfl : n = k := by
              rcases Nat.lt_or_ge n k with h | h
              · have := HNO.out n h
                rw [hmn] at this; simp at this
              · omega
            clear hmn
            go_wp2_with fail
            go_quiet (fail)
            go_wp2_with fail
            go_roundw
            case rel => exact ⟨n + 1, by omega, by go_num, by first | exact reads1 _ _ | exact reads2 _ _ _⟩
            case measure => simp [intOf]
      · obtain rfl : n = k + 1 := by omega
        go_wp2_with fail
        have I9 := I8.out.reads (reads1 w8 q)
        refine (cut_any _ k ((k : Int) + P.length) L _ I9 (by omega)).mono ?_
        rintro e w9 ⟨u, rfl, hu, _, hb9⟩
        have hok : cutOk L k ((k : Int) + P.length) = true := by rw [← Int.natCast_add]; exact cutOk_yes ⟨by omega, hkL⟩
        have hcl : cutL L k ((k : Int) + P.length) = P := by rw [← Int.natCast_add, cutL_yes ⟨by omega, hkL⟩, Nat.add_sub_cancel_left]; exact matchAt_take HM.out
        rw [hok]
        rw [hcl] at hu
        clear hok hcl
        go_wp2_with fail
        refine (wordKeeps.rsame_yes _ _ P _ hu ((P8.out.reads (reads1 w8 q)).below hb9)).mono ?_
        rintro e w10 ⟨rfl, hr⟩
        have hbq : Below w.heap.size w (w8.drewN q) := hb8.trans ((reads1 w8 q).below _)
        have hb10 := (hbq.trans (hb9.mono hbq.size)).trans (hr.below _)
        go_wp2_with fail
        go_ret
        exact ⟨rfl, hb10⟩
theorem walk (w : World) (v1 : Value) (X : List Int) (h1 : Ints .u32 w v1 X) (_ : ∀ n ∈ X, (Lit.int .u32 n).wf = true) (v2 : Value) (P : List Int) (h2 : Ints .u32 w v2 P) (_ : ∀ n ∈ P, (Lit.int .u32 n).wf = true) (v3 : Value) (Y : List Int) (h3 : Ints .u32 w v3 Y) (_ : ∀ n ∈ Y, (Lit.int .u32 n).wf = true) :
    Calls Try.prog 5 #[v1, v2, v3] w fun e w' => e = .returned (.bool true) ∧ Below w.heap.size w w' := by
  by_cases h : 100 < X.length ∨ 100 < P.length ∨ 100 < Y.length
  · obtain ⟨a1, c1, rfl⟩ := h1.form
    obtain ⟨a2, c2, rfl⟩ := h2.form
    obtain ⟨a3, c3, rfl⟩ := h3.form
    exact walk_long w a1 a2 a3 _ c1 _ c2 _ c3 h
  · exact walk_main w v1 v2 v3 X P Y h1 h2 h3 (by omega) (by omega) (by omega)
end Go.Proofs.Ytnckiokhgpmiaaa.wordSub
