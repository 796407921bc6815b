/- The walk of DrawTakes. -/
import Derived.Test.YtfejpomemkfmpaaDrawLaws
import Derived.IntWalk
namespace Go.Proofs.Ytfejpomemkfmpaa.drawLaws
open Go.RowKit

/-- A source that lies in a block of its own. -/
structure SrcAt (w : World) (b : Nat) (a : Option Addr) (c : Nat) (L : List Int) (nx : Int) : Prop where
  c0 : w.cell? ⟨b, 0, none⟩ = some (.slice a L.length c)
  c1 : w.cell? ⟨b, 1, none⟩ = some (.int .i64 nx)
  lt : b < w.heap.size
theorem SrcAt.below {w w' : World} {b : Nat} {a : Option Addr} {c : Nat} {L : List Int} {nx : Int} (h : SrcAt w b a c L nx) (hb : Below w.heap.size w w') : SrcAt w' b a c L nx :=
  ⟨(hb.cell (p := ⟨b, 0, none⟩) h.lt).trans h.c0, (hb.cell (p := ⟨b, 1, none⟩) h.lt).trans h.c1, Nat.lt_of_lt_of_le h.lt hb.size⟩
theorem SrcAt.new (w : World) (a : Option Addr) (c : Nat) (L : List Int) (nx : Int) (t : TypeId) : SrcAt (w.alloc (.cells #[.slice a L.length c, .int .i64 nx] t)) w.heap.size a c L nx :=
  ⟨by simp [go_sem], by simp [go_sem], by simp⟩
theorem same_self (A : List Int) : sameB A A = true := decide_eq_true rfl
theorem rsrc_true (v1 v2 : Value) (A : List Int) (n : Int) (w : World) (h1 : Ints .u32 w v1 A) (h2 : Ints .u32 w v2 A) :
    Calls Try.prog 11 #[.agg #[v1, .int .i64 n], .agg #[v2, .int .i64 n]] w fun e w' => e = .returned (.bool true) ∧ Below w.heap.size w w' :=
  (rsrc_same v1 v2 A A n w h1 h2).mono fun e w' h => by rw [same_self] at h; exact h
theorem rsame_true (v1 v2 : Value) (A : List Int) (w : World) (h1 : Ints .u32 w v1 A) (h2 : Ints .u32 w v2 A) :
    Calls Try.prog 12 #[v1, v2] w fun e w' => e = .returned (.bool true) ∧ Reads w w' :=
  (rsame_any v1 v2 A A w h1 h2).mono fun e w' h => by rw [same_self] at h; exact h
theorem rrow_int (a : Option Addr) (c : Nat) (L : List Int) (nx F M : Int) (w : World) (hL : Ints .u32 w (.slice a L.length c) L) (hF : 0 ≤ F) (hM : 0 ≤ M) (hi : F + M ≤ 2097152) (hr : ∀ x ∈ L, 0 ≤ x ∧ x < 4294967296) :
    Calls Try.prog 14 #[.agg #[.slice a L.length c, .int .i64 nx], .int .i64 F, .int .i64 M] w (GivesInts (drawRow L F.toNat M.toNat) w) := by
  obtain ⟨f, rfl⟩ := Int.eq_ofNat_of_zero_le hF
  obtain ⟨m, rfl⟩ := Int.eq_ofNat_of_zero_le hM
  exact rrow_any a c L nx f m w hL (by omega) hr
theorem peek_int (a : Option Addr) (c : Nat) (L : List Int) (n m : Nat) (w : World) (hL : Ints .u32 w (.slice a L.length c) L) (hi : n ≤ 1048576) (hm : m ≤ 1048576) (hr : ∀ x ∈ L, 0 ≤ x ∧ x < 4294967296) :
    Calls Try.prog 13 #[.agg #[.slice a L.length c, .int .i64 n], .int .i64 m] w (GivesInts (drawRow L (n : Int).toNat (m : Int).toNat) w) := peek_any a c L n m w hL hi hm hr
theorem drawn_int (a : Option Addr) (c : Nat) (L : List Int) (n : Nat) (w : World) (hL : Ints .u32 w (.slice a L.length c) L) (hi : n ≤ 1048576) (hr : ∀ x ∈ L, 0 ≤ x ∧ x < 4294967296) :
    Calls Try.prog 15 #[.agg #[.slice a L.length c, .int .i64 n]] w (GivesInts (drawRow L (0 : Int).toNat (n : Int).toNat) w) := drawn_any a c L n w hL hi hr
set_option maxHeartbeats 1000000 in
theorem takes_not (v : Value) (L : List Int) (nx n : Int) (w : World) (h : Ints .u32 w v L) (hf : fitsB nx L.length = false) :
    Calls Try.prog 3 #[.agg #[v, .int .i64 nx], .int .u8 n] w fun e w' => e = .returned (.bool true) ∧ Below w.heap.size w w' := by
  obtain ⟨a, c, rfl⟩ := h.form
  have H := Lib.hid h; clear h
  go_enter Try.func3, Try.ntmps3
  go_wp2_with fail
  refine (awake_any _).mono ?_
  rintro e w1 ⟨rfl, hb1⟩
  obtain ⟨c0, c1, lt⟩ := (SrcAt.new w a c L nx 24).below hb1
  have I := Lib.hid ((H.out.alloc (.cells #[.slice a L.length c, .int .i64 nx] 24)).below hb1)
  have b1 := ((Below.refl _ _).alloc (Nat.le_refl _) (.cells #[.slice a L.length c, .int .i64 nx] 24)).trans (hb1.mono (by simp))
  clear hb1 H
  go_wp2_with fail
  refine (fits_any _ L nx _ I.out).mono ?_
  rintro e w2 ⟨rfl, hb2⟩
  rw [hf]
  go_wp2_with fail
  refine (awake_any _).mono ?_
  rintro e w3 ⟨rfl, hb3⟩
  go_wp2_with fail
  go_ret
  exact ⟨rfl, (b1.trans (hb2.mono (by omega))).trans (hb3.mono (by have := hb2.size; omega))⟩
set_option maxHeartbeats 1000000 in
theorem takes (v : Value) (L : List Int) (nx : Nat) (n : Nat) (w : World) (h : Ints .u32 w v L) (hr : ∀ x ∈ L, 0 ≤ x ∧ x < 4294967296) (hn : n ≤ 255) (hf : fitsB nx L.length = true) :
    Calls Try.prog 3 #[.agg #[v, .int .i64 nx], .int .u8 n] w fun e w' => e = .returned (.bool true) ∧ Below w.heap.size w w' := by
  obtain ⟨a, c, rfl⟩ := h.form
  have H := Lib.hid h; clear h
  have hnx : nx ≤ 600 := by simp [fitsB] at hf; omega
  go_enter Try.func3, Try.ntmps3
  go_wp2_with fail
  refine (awake_any _).mono ?_
  rintro e w1 ⟨rfl, hb1⟩
  have S1 := Lib.hid ((SrcAt.new w a c L nx 24).below hb1)
  obtain ⟨c0, c1, lt⟩ := S1.out
  have I1 := Lib.hid ((H.out.alloc (.cells #[.slice a L.length c, .int .i64 nx] 24)).below hb1)
  have b1 := ((Below.refl _ _).alloc (Nat.le_refl _) (.cells #[.slice a L.length c, .int .i64 nx] 24)).trans (hb1.mono (by simp))
  clear hb1 H
  go_wp2_with fail
  refine (fits_any _ L nx _ I1.out).mono ?_
  rintro e w2 ⟨rfl, hb2⟩
  rw [hf]
  have S2 := Lib.hid (S1.out.below hb2)
  have I2 := Lib.hid (I1.out.below hb2)
  have b2 := b1.trans (hb2.mono (by omega))
  clear c0 c1 lt hb2 S1 I1 b1
  obtain ⟨c0, c1, lt⟩ := S2.out
  go_wp2_with fail
  refine (take_any a c L nx _ I2.out (by omega) hr).mono ?_
  rintro e w3 ⟨lv, rfl, hl, hor, hb3⟩
  obtain ⟨la, lc, rfl⟩ := hl.form
  have A3 := Lib.hid hl
  have S3 := Lib.hid (S2.out.below hb3)
  have I3 := Lib.hid (I2.out.below hb3)
  have b3 := b2.trans (hb3.mono (by omega))
  clear c0 c1 lt hb3 S2 I2 b2 hl hor
  obtain ⟨c0, c1, lt⟩ := S3.out
  go_wp2_with fail
  refine (rtake_any a c L nx _ (I3.out.alloc _) (by omega) hr).mono ?_
  rintro e w4 ⟨lv, rfl, hl, hor, hb4⟩
  obtain ⟨lb, lbc, rfl⟩ := hl.form
  have e3 : Below w3.heap.size w3 w4 := ((Below.refl _ _).alloc (Nat.le_refl _) (.cells #[.slice la L.length lc, .int .i64 ((nx : Int) + 1)] 24)).trans (hb4.mono (by simp))
  have N4 := Lib.hid hl
  have T4 := Lib.hid ((SrcAt.new w3 la lc L ((nx : Int) + 1) 24).below hb4)
  have S4 := Lib.hid (S3.out.below e3)
  have I4 := Lib.hid (I3.out.below e3)
  have A4 := Lib.hid (A3.out.below e3)
  have b4 := b3.trans (e3.mono (by omega))
  have s4 := e3.size
  clear c0 c1 hb4 S3 I3 b3 hl hor A3 e3
  go_wp2_with fail
  obtain ⟨w5, hw5⟩ : ∃ w5, w5 = w4.alloc (.cells #[.slice lb L.length lbc, .int .i64 ((nx : Int) + 1)] 24) := ⟨_, rfl⟩
  rw [← hw5]
  have e4 : Below w4.heap.size w4 w5 := by rw [hw5]; exact (Below.refl _ _).alloc (Nat.le_refl _) _
  have R5 := Lib.hid (show SrcAt w5 w4.heap.size lb lbc L ((nx : Int) + 1) by rw [hw5]; exact SrcAt.new w4 lb lbc L ((nx : Int) + 1) _)
  have T5 := Lib.hid (T4.out.below e4)
  have S5 := Lib.hid (S4.out.below e4)
  have I5 := Lib.hid (I4.out.below e4)
  have A5 := Lib.hid (A4.out.below e4)
  have N5 := Lib.hid (N4.out.below e4)
  have b5 := b4.trans (e4.mono (by omega))
  have k0 : ∀ w', Below w5.heap.size w5 w' → w'.cell? ⟨w.heap.size, 0, none⟩ = some (.slice a L.length c) := fun w' h => (S5.out.below h).c0
  have k1 : ∀ w', Below w5.heap.size w5 w' → w'.cell? ⟨w.heap.size, 1, none⟩ = some (.int .i64 nx) := fun w' h => (S5.out.below h).c1
  have k2 : ∀ w', Below w5.heap.size w5 w' → w'.cell? ⟨w3.heap.size, 0, none⟩ = some (.slice la L.length lc) := fun w' h => (T5.out.below h).c0
  have k3 : ∀ w', Below w5.heap.size w5 w' → w'.cell? ⟨w3.heap.size, 1, none⟩ = some (.int .i64 ((nx : Int) + 1)) := fun w' h => (T5.out.below h).c1
  have k4 : ∀ w', Below w5.heap.size w5 w' → w'.cell? ⟨w4.heap.size, 0, none⟩ = some (.slice lb L.length lbc) := fun w' h => (R5.out.below h).c0
  have k5 : ∀ w', Below w5.heap.size w5 w' → w'.cell? ⟨w4.heap.size, 1, none⟩ = some (.int .i64 ((nx : Int) + 1)) := fun w' h => (R5.out.below h).c1
  have HI : ∀ w', Below w5.heap.size w5 w' → Ints .u32 w' (.slice a L.length c) L := fun w' h => I5.out.below h
  have HS0 : Below w5.heap.size w5 w5 := Below.refl _ _
  obtain ⟨x, hx⟩ : ∃ x, drawAt L nx = x := ⟨_, rfl⟩
  rw [hx]
  clear hw5 e4 S4 I4 A4 N4 T4 lt s4 b4 hx
  have q1 : n ≤ 1048576 := by omega
  have q2 : nx ≤ 1048576 := by omega
  have q3 : (nx : Int) + n ≤ 2097152 := by omega
  have q4 : (0 : Int) + nx ≤ 2097152 := by omega
  have q5 : (0 : Int) ≤ nx := by omega
  have q6 : (0 : Int) ≤ n := by omega
  have q7 : (0 : Int) ≤ 0 := by omega
  have wn : IntKind.i64.wrap (n : Int) = n := IntWalk.i64_in _ (by omega)
  go_region_held3 (fun w' => Below w5.heap.size w5 w')
    (first | exact (Reads.refl _).drew.below _ | (go_split_ands; exact Below.trans (by assumption) (hbA.mono (Below.size (by assumption)))) | (go_split_ands; exact Below.trans (by assumption) (hrA.below _)))
    (first
      | (go_at_call 13; refine (peek_int a c L nx n _ (HI _ (by assumption)) q2 q1 hr).mono ?_; rintro e wA ⟨uA, rfl, hA, hfA, hbA⟩)
      | (go_at_call 15; refine (drawn_int a c L nx _ (HI _ (by assumption)) q2 hr).mono ?_; rintro e wA ⟨uA, rfl, hA, hfA, hbA⟩)
      | (go_at_call 14; refine (rrow_int a c L nx _ _ _ (HI _ (by assumption)) (by assumption) (by assumption) (by assumption) hr).mono ?_; rintro e wA ⟨uA, rfl, hA, hfA, hbA⟩)
      | (go_at_call 11; refine (rsrc_true _ _ L _ _ (A5.out.below (by assumption)) (N5.out.below (by assumption))).mono ?_; rintro e wA ⟨rfl, hbA⟩)
      | (go_at_call 12; refine (rsame_true _ _ _ _ (Ints.below (by assumption) (by assumption)) (by assumption)).mono ?_; rintro e wA ⟨rfl, hrA⟩))
  clear wn
  go_wp2_with fail
  go_ret
  exact ⟨rfl, b5.trans (Below.mono (by assumption) b5.size)⟩
end Go.Proofs.Ytfejpomemkfmpaa.drawLaws
