/- The walk of DrawKeeps. -/
import Derived.Test.YtfejpomemkfmpaaDrawTakes
namespace Go.Proofs.Ytfejpomemkfmpaa.drawLaws
open Go.RowKit

set_option maxHeartbeats 1000000 in
theorem keeps_not (v : Value) (L : List Int) (nx n : Int) (w : World) (h : Ints .u32 w v L) (hf : fitsB nx L.length = false) :
    Calls Try.prog 6 #[.agg #[v, .int .i64 nx], .int .u8 n] w fun e w' => e = .returned (.bool true) ∧ Below w.heap.size w w' := by
  obtain ⟨a, c, rfl⟩ := h.form
  have H := Lib.hid h; clear h
  go_enter Try.func6, Try.ntmps6
  go_wp2_with fail
  refine (awake_any _).mono ?_
  rintro e w1 ⟨rfl, hb1⟩
  obtain ⟨c0, c1, lt⟩ := (SrcAt.new w a c L nx 24).below hb1
  have I := Lib.hid ((H.out.alloc (.cells #[.slice a L.length c, .int .i64 nx] 24)).below hb1)
  have b1 := ((Below.refl _ _).alloc (Nat.le_refl _) (.cells #[.slice a L.length c, .int .i64 nx] 24)).trans (hb1.mono (by simp))
  clear hb1 H
  go_wp2_with fail
  refine (fits_any _ L nx _ I.out).mono ?_
  rintro e w2 ⟨rfl, hb2⟩
  rw [hf]
  go_wp2_with fail
  refine (awake_any _).mono ?_
  rintro e w3 ⟨rfl, hb3⟩
  go_wp2_with fail
  go_ret
  exact ⟨rfl, (b1.trans (hb2.mono (by omega))).trans (hb3.mono (by have := hb2.size; omega))⟩
set_option maxHeartbeats 1000000 in
theorem keeps (v : Value) (L : List Int) (nx : Nat) (n : Nat) (w : World) (h : Ints .u32 w v L) (hr : ∀ x ∈ L, 0 ≤ x ∧ x < 4294967296) (hn : n ≤ 255) (hf : fitsB nx L.length = true) :
    Calls Try.prog 6 #[.agg #[v, .int .i64 nx], .int .u8 n] w fun e w' => e = .returned (.bool true) ∧ Below w.heap.size w w' := by
  obtain ⟨i0, hi0, hz0, hz1, hz2⟩ := info_parts Try.infoU
  obtain ⟨a, c, rfl⟩ := h.form
  have H := Lib.hid h; clear h
  have hnx : nx ≤ 600 ∧ L.length ≤ 600 := by simp [fitsB] at hf; omega
  obtain ⟨hnx, hlen⟩ := hnx
  go_enter Try.func6, Try.ntmps6
  go_wp2_with fail
  refine (awake_any _).mono ?_
  rintro e w1 ⟨rfl, hb1⟩
  have S1 := Lib.hid ((SrcAt.new w a c L nx 24).below hb1)
  obtain ⟨c0, c1, lt⟩ := S1.out
  have I1 := Lib.hid ((H.out.alloc (.cells #[.slice a L.length c, .int .i64 nx] 24)).below hb1)
  have b1 := ((Below.refl _ _).alloc (Nat.le_refl _) (.cells #[.slice a L.length c, .int .i64 nx] 24)).trans (hb1.mono (by simp))
  clear hb1 H
  go_wp2_with fail
  refine (fits_any _ L nx _ I1.out).mono ?_
  rintro e w2 ⟨rfl, hb2⟩
  rw [hf]
  have S2 := Lib.hid (S1.out.below hb2)
  have I2 := Lib.hid (I1.out.below hb2)
  have b2 := b1.trans (hb2.mono (by omega))
  clear c0 c1 lt hb2 S1 I1 b1
  obtain ⟨c0, c1, lt⟩ := S2.out
  go_wp2_with (at_builtin; refine wpList_append_ints rfl (.tmp 17) (.tmp 19) 22 rfl w2.heap.size 27 i0 .u32 0 4 Try.underlying22 hi0 hz0 hz1 hz2 (by decide) _ 0 [] rfl (owns_lit .u32 (Nat.le_refl _) rfl) _ L rfl (I2.out.alloc _) ?c1 ?c2 ?_)
  case c1 => omega
  case c2 => simp
  intro v3 w3 hown3 hgrow3
  have e3 : Below w2.heap.size w2 w3 := ((Below.refl _ _).alloc (Nat.le_refl _) _).grown hgrow3 (by simp) (fun g hg => by simp [Value.ownBlock] at hg; omega)
  clear hgrow3
  have hown3' : w3.ownsRow w2.heap.size 27 1 v3 L.length (L.map (Value.int .u32)) := by simpa using hown3
  clear hown3
  obtain ⟨hI3, hF3, _⟩ := ints_of_owns hown3'
  obtain ⟨oa, oc, rfl⟩ := hI3.form
  have O3 := Lib.hid hI3
  have S3 := Lib.hid (S2.out.below e3)
  have I3 := Lib.hid (I2.out.below e3)
  have b3 := b2.trans (e3.mono (by omega))
  clear c0 c1 lt e3 S2 I2 b2 hI3 hF3 hown3'
  obtain ⟨c0, c1, lt⟩ := S3.out
  have q1 : n ≤ 1048576 := by omega
  have q2 : nx ≤ 1048576 := by omega
  have q3 : nx + 1 ≤ 1048576 := by omega
  have q4 : nx + n ≤ 2097152 := by omega
  go_wp2_with fail
  refine (peek_row oa oc L nx n _ (O3.out.alloc _) q2 q1 hr).mono ?_
  rintro e w4 ⟨u4, rfl, hu4, hb4⟩
  have X4 := Lib.hid ((SrcAt.new w3 oa oc L nx 24).below hb4)
  have e4 : Below w3.heap.size w3 w4 := ((Below.refl _ _).alloc (Nat.le_refl _) (.cells #[.slice oa L.length oc, .int .i64 nx] 24)).trans (hb4.mono (by simp))
  have O4 := Lib.hid (O3.out.below e4)
  have S4 := Lib.hid (S3.out.below e4)
  have I4 := Lib.hid (I3.out.below e4)
  have U4 := Lib.hid (owns_base hu4 (base' := w3.heap.size + 1) (by simp))
  have b4 := b3.trans (e4.mono (by omega))
  have s4 : w3.heap.size + 1 ≤ w4.heap.size := by have := hb4.size; simp at this; omega
  have s30 := lt
  clear c0 c1 lt hb4 b3 hu4
  obtain ⟨c0, c1, lt⟩ := X4.out
  go_wp2_with fail
  refine (take_any oa oc L nx _ O4.out q2 hr).mono ?_
  rintro e w5 ⟨lv5, rfl, _, _, hb5⟩
  have X5 := Lib.hid (X4.out.below hb5)
  have O5 := Lib.hid (O4.out.below hb5)
  have U5 := Lib.hid (owns_below U4.out hb5)
  have b5 := b4.trans (hb5.mono (by omega))
  have e5 := e4.trans (hb5.mono (by omega))
  have s5 := hb5.size
  clear c0 c1 lt hb5 X4 O4 S4 I4 U4 b4 e4
  obtain ⟨c0, c1, lt⟩ := X5.out
  go_wp2_with fail
  refine (drawn_any oa oc L nx _ O5.out q2 hr).mono ?_
  rintro e w6 ⟨u6, rfl, _, _, hb6⟩
  have X6 := Lib.hid (X5.out.below hb6)
  have U6 := Lib.hid (owns_below U5.out hb6)
  have b6 := b5.trans (hb6.mono (by omega))
  have e6 := e5.trans (hb6.mono (by omega))
  have s6 := hb6.size
  have sb := b6.size
  clear c0 c1 lt hb6 X5 O5 U5 b5 e5
  obtain ⟨c0, c1, lt⟩ := X6.out
  -- behind the loop
  have TAIL := Lib.hid (show ∀ wr, Below (w3.heap.size + 1) w6 wr → SrcAt wr w3.heap.size oa oc L nx ∧ SrcAt wr w.heap.size a c L nx ∧ Ints .u32 wr (.slice oa L.length oc) L ∧ Ints .u32 wr (.slice a L.length c) L ∧ Below w.heap.size w wr from fun wr hb =>
    have e7 := e6.trans (hb.mono (by omega))
    ⟨⟨(hb.cell (p := ⟨w3.heap.size, 0, none⟩) (by simp)).trans X6.out.c0, (hb.cell (p := ⟨w3.heap.size, 1, none⟩) (by simp)).trans X6.out.c1, by have := hb.size; omega⟩, S3.out.below e7, O3.out.below e7, I3.out.below e7, b6.trans (hb.mono (by omega))⟩)
  have hlenR : (drawRow L nx n).length = n := drawRow_len _ _ _
  obtain ⟨R, hRR⟩ : ∃ R, drawRow L nx n = R := ⟨_, rfl⟩
  have HPK := Lib.hid (show ∀ wx, Ints .u32 wx (.slice oa L.length oc) L → Calls Try.prog 13 #[.agg #[.slice oa L.length oc, .int .i64 nx], .int .i64 n] wx (GivesInts R wx) from fun wx h => by rw [← hRR]; exact peek_any oa oc L nx n wx h q2 q1 hr)
  have HRW := Lib.hid (show ∀ wx, Ints .u32 wx (.slice a L.length c) L → Calls Try.prog 14 #[.agg #[.slice a L.length c, .int .i64 nx], .int .i64 nx, .int .i64 n] wx (GivesInts R wx) from fun wx h => by rw [← hRR]; exact rrow_any a c L nx nx n wx h q4 hr)
  rw [hRR] at hlenR U6
  have HLR := Lib.hid hlenR
  have hform := owns_form U6.out
  rw [hlenR] at hform
  clear hRR hlenR
  rcases hform with h0 | ⟨g, cap, rfl, hg1, hg2⟩
  · have hu6 := (ints_of_owns U6.out).1
    obtain ⟨ua, uc, rfl⟩ : ∃ a c, u4 = .slice a n c := by
      have := hu6.form
      rw [HLR.out] at this
      exact this
    have hn0 : (n : Int) ≤ 0 := by omega
    clear hu6 U6 h0
    go_wp2_with fail
    go_loop [8] (fun i => i = .int .i64 0) (fun _ => 0)
    case atStart => rfl
    case round =>
      obtain rfl := hrel
      go_wp2_with fail
      obtain ⟨XT, ST, OT, IT, BT⟩ := TAIL.out w6 (Below.refl _ _)
      have k0 : ∀ w', Below w6.heap.size w6 w' → w'.cell? ⟨w.heap.size, 0, none⟩ = some (.slice a L.length c) := fun w' h => (ST.below h).c0
      have k1 : ∀ w', Below w6.heap.size w6 w' → w'.cell? ⟨w.heap.size, 1, none⟩ = some (.int .i64 nx) := fun w' h => (ST.below h).c1
      have k2 : ∀ w', Below w6.heap.size w6 w' → w'.cell? ⟨w3.heap.size, 0, none⟩ = some (.slice oa L.length oc) := fun w' h => (XT.below h).c0
      have k3 : ∀ w', Below w6.heap.size w6 w' → w'.cell? ⟨w3.heap.size, 1, none⟩ = some (.int .i64 nx) := fun w' h => (XT.below h).c1
      have HO : ∀ w', Below w6.heap.size w6 w' → Ints .u32 w' (.slice oa L.length oc) L := fun w' h => OT.below h
      have HI : ∀ w', Below w6.heap.size w6 w' → Ints .u32 w' (.slice a L.length c) L := fun w' h => IT.below h
      have HS0 : Below w6.heap.size w6 w6 ∧ Ints .u32 w6 (.slice oa L.length oc) L ∧ Ints .u32 w6 (.slice a L.length c) L := ⟨Below.refl _ _, OT, IT⟩
      have wn : IntKind.i64.wrap (n : Int) = n := IntWalk.i64_in _ (by omega)
      clear XT ST OT IT c0 c1 hnx hlen hf
      go_wp2_with fail
      go_region_held3 (fun w' => Below w6.heap.size w6 w' ∧ Ints .u32 w' (.slice oa L.length oc) L ∧ Ints .u32 w' (.slice a L.length c) L)
        (first | exact ⟨(Reads.refl _).drew.below _, HO _ ((Reads.refl _).drew.below _), HI _ ((Reads.refl _).drew.below _)⟩ | (go_split_ands; exact (fun hz => ⟨hz, HO _ hz, HI _ hz⟩) (Below.trans (by assumption) (hbA.mono (Below.size (by assumption))))) | (go_split_ands; exact (fun hz => ⟨hz, HO _ hz, HI _ hz⟩) (Below.trans (by assumption) (hrA.below _))))
        (first
          | (go_at_call 13; go_split_ands; refine (HPK.out _ (HO _ (by assumption))).mono ?_; rintro e wA ⟨uA, rfl, hA, hfA, hbA⟩)
          | (go_at_call 14; go_split_ands; refine (HRW.out _ (HI _ (by assumption))).mono ?_; rintro e wA ⟨uA, rfl, hA, hfA, hbA⟩)
          | (go_at_call 12; go_split_ands; refine (rsame_true _ _ _ _ (by first | assumption | exact Ints.below (by assumption) (by assumption)) (by first | assumption | exact Ints.below (by assumption) (by assumption))).mono ?_; rintro e wA ⟨rfl, hrA⟩))
      clear wn
      go_wp2_with fail
      go_ret
      go_split_ands
      exact ⟨rfl, BT.trans (Below.mono (by assumption) BT.size)⟩
  · have U := Lib.hid (show w6.ownsRow (w3.heap.size + 1) 27 1 (.slice (some ⟨g, 0, none⟩) n cap) n (R.map (Value.int .u32)) by have := U6.out; rw [HLR.out] at this; exact this)
    clear U6
    go_wp2_with fail
    go_loopw [8] (fun i wr => ∃ k : Nat, k ≤ n ∧ i = .int .i64 k ∧ (∃ xs, Hid (wr.ownsRow (w3.heap.size + 1) 27 1 (.slice (some ⟨g, 0, none⟩) n cap) n xs)) ∧ Below (w3.heap.size + 1) w6 wr) (fun i _ => n - (intOf i).toNat)
    case atStart => exact ⟨0, Nat.zero_le _, rfl, ⟨_, U⟩, Below.refl _ _⟩
    case round =>
      obtain ⟨k, hk, rfl, ⟨xs, HX⟩, hbk⟩ := hrel
      by_cases hlt : k < n
      · obtain ⟨y, hy⟩ : ∃ y, wr.cell? ⟨g, k, none⟩ = some y := by
          rw [HX.out.cellAt k (by omega), List.getElem?_eq_getElem (by rw [HX.out.1]; omega)]
          exact ⟨_, rfl⟩
        have hfz := HX.out.frozenAt k
        have HN := Lib.hid (HX.out.stored k (.int .u32 0)).1
        have hb7 : Below (w3.heap.size + 1) w6 (wr.setCell ⟨g, k, none⟩ (.int .u32 0)) := hbk.setCell (p := ⟨g, k, none⟩) hg1 _
        go_wp2_with fail
        go_roundw
        case rel => exact ⟨k + 1, by omega, by go_num, ⟨_, HN⟩, hb7⟩
        case measure => simp [intOf]; omega
      · obtain rfl : n = k := by omega
        obtain ⟨XT, ST, OT, IT, BT⟩ := TAIL.out wr hbk
        have k0 : ∀ w', Below wr.heap.size wr w' → w'.cell? ⟨w.heap.size, 0, none⟩ = some (.slice a L.length c) := fun w' h => (ST.below h).c0
        have k1 : ∀ w', Below wr.heap.size wr w' → w'.cell? ⟨w.heap.size, 1, none⟩ = some (.int .i64 nx) := fun w' h => (ST.below h).c1
        have k2 : ∀ w', Below wr.heap.size wr w' → w'.cell? ⟨w3.heap.size, 0, none⟩ = some (.slice oa L.length oc) := fun w' h => (XT.below h).c0
        have k3 : ∀ w', Below wr.heap.size wr w' → w'.cell? ⟨w3.heap.size, 1, none⟩ = some (.int .i64 nx) := fun w' h => (XT.below h).c1
        have HO : ∀ w', Below wr.heap.size wr w' → Ints .u32 w' (.slice oa L.length oc) L := fun w' h => OT.below h
        have HI : ∀ w', Below wr.heap.size wr w' → Ints .u32 w' (.slice a L.length c) L := fun w' h => IT.below h
        have HS0 : Below wr.heap.size wr wr ∧ Ints .u32 wr (.slice oa L.length oc) L ∧ Ints .u32 wr (.slice a L.length c) L := ⟨Below.refl _ _, OT, IT⟩
        have wn : IntKind.i64.wrap (n : Int) = n := IntWalk.i64_in _ (by omega)
        clear XT ST OT IT c0 c1 hnx hlen hf
        go_wp2_with fail
        go_region_held3 (fun w' => Below wr.heap.size wr w' ∧ Ints .u32 w' (.slice oa L.length oc) L ∧ Ints .u32 w' (.slice a L.length c) L)
          (first | exact ⟨(Reads.refl _).drew.below _, HO _ ((Reads.refl _).drew.below _), HI _ ((Reads.refl _).drew.below _)⟩ | (go_split_ands; exact (fun hz => ⟨hz, HO _ hz, HI _ hz⟩) (Below.trans (by assumption) (hbA.mono (Below.size (by assumption))))) | (go_split_ands; exact (fun hz => ⟨hz, HO _ hz, HI _ hz⟩) (Below.trans (by assumption) (hrA.below _))))
          (first
            | (go_at_call 13; go_split_ands; refine (HPK.out _ (HO _ (by assumption))).mono ?_; rintro e wA ⟨uA, rfl, hA, hfA, hbA⟩)
            | (go_at_call 14; go_split_ands; refine (HRW.out _ (HI _ (by assumption))).mono ?_; rintro e wA ⟨uA, rfl, hA, hfA, hbA⟩)
            | (go_at_call 12; go_split_ands; refine (rsame_true _ _ _ _ (by first | assumption | exact Ints.below (by assumption) (by assumption)) (by first | assumption | exact Ints.below (by assumption) (by assumption))).mono ?_; rintro e wA ⟨rfl, hrA⟩))
        clear wn
        go_wp2_with fail
        go_ret
        go_split_ands
        exact ⟨rfl, BT.trans (Below.mono (by assumption) BT.size)⟩
end Go.Proofs.Ytfejpomemkfmpaa.drawLaws
