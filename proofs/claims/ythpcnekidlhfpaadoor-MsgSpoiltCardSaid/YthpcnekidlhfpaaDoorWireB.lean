/- Contracts of layer wire: wordsOf, laid, and Put of fields that may be. -/
import Derived.Test.YthpcnekidlhfpaaDoorFields
namespace Go.Proofs.YthpcnekidlhfpaaDoor
open Go.RowKit

theorem flat_next {F : List Fld} {k : Nat} {f : Fld} (hf : F[k]? = some f) : flatF (F.take (k + 1)) = flatF (F.take k) ++ wordsF1 f := by
  have hk : k < F.length := by
    rcases Nat.lt_or_ge k F.length with h | h
    · exact h
    · rw [List.getElem?_eq_none h] at hf; simp at hf
  rw [List.take_succ_eq_append_getElem hk, flatF_snoc]
  have : F[k] = f := by rw [List.getElem?_eq_getElem hk] at hf; exact Option.some.inj hf
  rw [this]
theorem flat_next_len {F : List Fld} {k : Nat} {f : Fld} (hf : F[k]? = some f) : (flatF (F.take (k + 1))).length = (flatF (F.take k)).length + (2 + f.2.length) := by
  rw [flat_next hf, List.length_append]; simp [wordsF1]; omega
theorem flat_le (F : List Fld) (k : Nat) : (flatF (F.take k)).length ≤ (flatF F).length := by
  have h : F = F.take k ++ F.drop k := (List.take_append_drop k F).symm
  conv => rhs; rw [h, flatF_append, List.length_append]
  omega
theorem ret_int {k : IntKind} {a b : Int} (h : a = b) : Ending.returned (.int k a) = .returned (.int k b) := by rw [h]
theorem int_cell {a b : Int} (h : a = b) : Value.int .i64 a = .int .i64 b := by rw [h]
set_option maxHeartbeats 400000 in
theorem wwordsOf_some (b o n c : Nat) (F : List Fld) (w : World) (hF : F.length = n) (hn : n ≤ 1000) (hs : (flatF F).length ≤ 1000000)
    (h1 : ∀ i f, F[i]? = some f → FldAt w b (o + i * 2) f) :
    Calls Tryd.prog 31 #[.slice (some ⟨b, o, none⟩) n c] w fun e w' => e = .returned (.int .i64 ((flatF F).length : Nat)) ∧ Below w.heap.size w w' := by
  have H1 := Lib.hid h1; have HF := Lib.hid hF; clear h1 hF
  go_enter Tryd.func31, Tryd.ntmps31
  go_wp2_with fail
  go_loopw [3, 8] (fun s i wr => ∃ k : Nat, k ≤ n ∧ i = .int .i64 k ∧ s = .int .i64 ((flatF (F.take k)).length : Nat) ∧ Below w.heap.size w wr) (fun _ i _ => n - (intOf i).toNat)
  case atStart => exact ⟨0, Nat.zero_le _, rfl, rfl, Below.refl _ _⟩
  case round =>
    obtain ⟨k, hk, rfl, rfl, hb⟩ := hrel
    by_cases hlt : k < n
    · obtain ⟨f, hf⟩ : ∃ f, F[k]? = some f := ⟨_, List.getElem?_eq_getElem (by rw [HF.out]; exact hlt)⟩
      obtain ⟨a, d, e1, e2, _⟩ := (H1.out k f hf).below hb
      have hl := flat_next_len hf
      have hle := flat_le F (k + 1)
      have b1 : (flatF (F.take k)).length ≤ 1000000 := by omega
      have b2 : f.2.length ≤ 1000000 := by omega
      have HL := Lib.hid hl
      have HH := Lib.hid hf
      clear hl hf hle
      go_wp2_with fail
      go_roundw
      case rel => exact ⟨k + 1, by omega, by go_num, int_cell (by rw [HL.out]; omega), hb.alloc hb.size _⟩
      case measure => simp [intOf]; omega
    · obtain rfl : k = n := by omega
      have HT := Lib.hid (show F.take k = F by rw [← HF.out, List.take_length])
      go_wp2_with fail
      go_ret
      exact ⟨ret_int (by rw [HT.out]), hb⟩
set_option maxHeartbeats 400000 in
theorem wwordsOf_none (a : Option Addr) (c : Nat) (w : World) :
    Calls Tryd.prog 31 #[.slice a 0 c] w fun e w' => e = .returned (.int .i64 0) ∧ Below w.heap.size w w' := by
  go_enter Tryd.func31, Tryd.ntmps31
  go_wp2_with fail
  go_loop [3, 8] (fun s i => s = .int .i64 0 ∧ i = .int .i64 0) (fun _ _ => 0)
  case atStart => exact ⟨rfl, rfl⟩
  case round =>
    obtain ⟨rfl, rfl⟩ := hrel
    go_wp2_with fail
    go_ret
    exact ⟨rfl, Below.refl _ _⟩
/-- How many words have fields? -/
theorem wwordsOf_any (v : Value) (F : List Fld) (w : World) (h : Flds w v F) (hn : F.length ≤ 1000) (hs : (flatF F).length ≤ 1000000) :
    Calls Tryd.prog 31 #[v] w fun e w' => e = .returned (.int .i64 ((flatF F).length : Nat)) ∧ Below w.heap.size w w' := by
  by_cases hz : F = []
  · subst hz
    obtain ⟨a, c, rfl, _⟩ := h
    exact wwordsOf_none a c w
  · obtain ⟨b, o, c, rfl, _, _, hc⟩ := h.cells hz
    exact wwordsOf_some b o _ c F w rfl hn hs hc
set_option maxHeartbeats 1000000 in
theorem laid_some (b o n c : Nat) (F : List Fld) (w : World) (hF : F.length = n) (h0 : 0 < n) (hn : n ≤ 1000) (hs : (flatF F).length ≤ 1000000) (hl : n ≤ c) (hm : c ≤ maxLen)
    (h1 : ∀ i f, F[i]? = some f → FldAt w b (o + i * 2) f) :
    Calls Tryd.prog 32 #[.slice (some ⟨b, o, none⟩) n c] w (CopyGives (flatF F) w) := by
  obtain ⟨i0, hi, hz0, hz1, hz2⟩ := info_parts Tryd.infoU
  have hfl : Flds w (.slice (some ⟨b, o, none⟩) n c) F := ⟨_, c, by rw [hF], by omega, hm, .inr ⟨b, o, rfl, h1⟩⟩
  have H1 := Lib.hid h1; have HF := Lib.hid hF; clear h1 hF
  have HFL := Lib.hid hfl; clear hfl hm
  go_enter Tryd.func32, Tryd.ntmps32
  go_wp2_with fail
  refine (wwordsOf_any _ F _ HFL.out (by rw [HF.out]; exact hn) hs).mono ?_
  rintro e w1 ⟨rfl, hb1⟩
  have s1 := hb1.size
  go_wp2_with (at_make; refine wpList_make_own _ rfl _ _ 26 rfl w.heap.size 22 i0 (.int .u32 0) 1 Tryd.underlying26 hi hz0 hz1 _ _ _ (flatF F).length rfl rfl ?b0 ?b1 ?b2 s1 ?_)
  case b0 => rfl
  case b1 => rw [hz2]; omega
  case b2 => unfold maxLen; omega
  intro w2 hown2 hgrow2
  have hb2 : Below w.heap.size w w2 := hb1.grown hgrow2 s1 (fun k h => by cases h)
  clear hb1 hgrow2
  go_wp2_with fail
  go_loopw [3, 11] (fun out i wr => ∃ k : Nat, k ≤ n ∧ i = .int .i64 k ∧ wr.ownsRow w.heap.size 22 1 out (flatF (F.take k)).length ((flatF (F.take k)).map (Value.int .u32)) ∧ Below w.heap.size w wr) (fun _ i _ => n - (intOf i).toNat)
  case atStart => exact ⟨0, Nat.zero_le _, rfl, hown2, hb2⟩
  case round =>
    obtain ⟨k, hk, rfl, hown, hb⟩ := hrel
    by_cases hlt : k < n
    · obtain ⟨f, hf⟩ : ∃ f, F[k]? = some f := ⟨_, List.getElem?_eq_getElem (by rw [HF.out]; exact hlt)⟩
      obtain ⟨a, d, e1', e2', hd⟩ := H1.out k f hf
      have e1 := (hb.cell (p := ⟨b, o + k * 2, none⟩) (lt_of_cell e1')).trans e1'
      have e2 := (hb.cell (p := ⟨b, o + k * 2 + 1, none⟩) (lt_of_cell e2')).trans e2'
      have hl2 := flat_next_len hf
      have hle := flat_le F (k + 1)
      have bs1 : (flatF (F.take k)).length ≤ 1000000 := by omega
      have bs2 : f.2.length ≤ 1000000 := by omega
      have bs3 : (flatF (F.take k)).length + (2 + f.2.length) ≤ 1000000 := by omega
      have HL := Lib.hid hl2
      have HH := Lib.hid hf
      have HD := Lib.hid hd
      have sr := hb.size
      clear hl2 hf hle hd e1' e2'
      have HO := Lib.hid hown; clear hown
      go_wp2_with (at_builtin; refine wpList_append_ints rfl (.tmp 15) (.tmp 22) 26 rfl w.heap.size 22 i0 .u32 0 4 Tryd.underlying26 hi hz0 hz1 hz2 (by decide) _ _ _ rfl ((HO.out.alloc _).alloc _) _ [f.1, (f.2.length : Int)] rfl ?c0 ?c1 ?c2 ?_)
      case c0 => exact ints_new _ (by simp) rfl rfl (small _ (by decide))
      case c1 => simp; omega
      case c2 => simp; omega
      intro v' w3 hown3 hgrow3
      have hb3 : Below w.heap.size w w3 := ((hb.alloc sr _).alloc (by simp; omega) _).grown hgrow3 (by simp; omega) (fun g hg => (HO.out.lt g hg).1)
      have hbox : w3.cell? ⟨wr.heap.size, 1, none⟩ = some (.slice a f.2.length d) := hgrow3.cell (a := ⟨wr.heap.size, 1, none⟩) (by simp) (fun e => by have := (HO.out.lt _ e.symm).2; simp at this)
      have s3 := hb3.size
      have HO3 := Lib.hid (show w3.ownsRow w.heap.size 22 1 v' ((flatF (F.take k)).length + 2) ((flatF (F.take k) ++ [f.1, (f.2.length : Int)]).map (Value.int .u32)) by rw [List.map_append]; exact hown3)
      clear hown3 hgrow3 e1 e2
      go_wp2_with (at_builtin; refine wpList_append_ints rfl (.tmp 24) (.tmp 26) 26 rfl w.heap.size 22 i0 .u32 0 4 Tryd.underlying26 hi hz0 hz1 hz2 (by decide) _ _ _ rfl HO3.out _ f.2 rfl ?c0 ?c1 s3 ?_)
      case c0 => exact HD.out.below hb3
      case c1 => omega
      intro v2 w4 hown4 hgrow4
      have hb4 : Below w.heap.size w w4 := hb3.grown hgrow4 s3 (fun g hg => (HO3.out.lt g hg).1)
      have hnew : w4.ownsRow w.heap.size 22 1 v2 (flatF (F.take (k + 1))).length ((flatF (F.take (k + 1))).map (Value.int .u32)) := by
        rw [HL.out, flat_next HH.out, ← Nat.add_assoc]
        simpa [wordsF1] using hown4
      clear hown4 hgrow4 hbox
      go_wp2_with fail
      go_roundw
      case rel => exact ⟨k + 1, by omega, by go_num, hnew, hb4⟩
      case measure => simp [intOf]; omega
    · obtain rfl : k = n := by omega
      have HT := Lib.hid (show F.take k = F by rw [← HF.out, List.take_length])
      rw [HT.out] at hown
      have HO := Lib.hid hown; clear hown
      go_wp2_with fail
      go_ret
      obtain ⟨r1, r2, _⟩ := ints_of_owns HO.out
      exact ⟨_, rfl, r1, Typed.owns HO.out, r2, hb⟩
/-- What a put gives: a row of numbers, and an error. -/
def RowGives (A : List Int) (er : Int) (w : World) (e : Ending) (w' : World) : Prop :=
  ∃ u, e = .returned (.tuple #[u, .int .i64 er]) ∧ Ints .u32 w' u A ∧ Typed 22 w' u ∧ From w.heap.size u ∧ Below w.heap.size w w'
set_option maxHeartbeats 1000000 in
theorem wput_ok (b o n c : Nat) (F : List Fld) (w : World) (hF : F.length = n) (h0 : 0 < n) (hn : n ≤ 8) (hs : (flatF F).length ≤ 64) (hl : n ≤ c) (hm : c ≤ maxLen) (hok : ∀ f ∈ F, okF f)
    (h1 : ∀ i f, F[i]? = some f → FldAt w b (o + i * 2) f) :
    Calls Tryd.prog 18 #[.slice (some ⟨b, o, none⟩) n c] w (RowGives (flatF F) 0 w) := by
  have hfl : Flds w (.slice (some ⟨b, o, none⟩) n c) F := ⟨_, c, by rw [hF], by omega, hm, .inr ⟨b, o, rfl, h1⟩⟩
  have H1 := Lib.hid h1; have HF := Lib.hid hF; have HM := Lib.hid hm; have HK := Lib.hid hok; clear h1 hF hm hok
  have HFL := Lib.hid hfl; clear hfl
  go_enter Tryd.func18, Tryd.ntmps18
  go_wp2_with fail
  go_loopw [8] (fun i wr => ∃ k : Nat, k ≤ n ∧ i = .int .i64 k ∧ Below w.heap.size w wr) (fun i _ => n - (intOf i).toNat)
  case atStart => exact ⟨0, Nat.zero_le _, rfl, Below.refl _ _⟩
  case round =>
    obtain ⟨k, hk, rfl, hb⟩ := hrel
    by_cases hlt : k < n
    · obtain ⟨f, hf⟩ : ∃ f, F[k]? = some f := ⟨_, List.getElem?_eq_getElem (by rw [HF.out]; exact hlt)⟩
      obtain ⟨a, d, e1, e2, _⟩ := (H1.out k f hf).below hb
      obtain ⟨t1, t2, t3⟩ := HK.out f (List.mem_of_getElem? hf)
      have HH := Lib.hid hf
      have sr := hb.size
      clear hf
      go_wp2_with fail
      refine (wmay_yes f.1 a f.2.length d _ t1 t2 t3).mono ?_
      rintro e w1 ⟨rfl, hb1⟩
      have hb2 : Below w.heap.size w w1 := (hb.alloc sr _).trans (hb1.mono (by simp; omega))
      clear hb1
      go_wp2_with fail
      go_roundw
      case rel => exact ⟨k + 1, by omega, by go_num, hb2⟩
      case measure => simp [intOf]; omega
    · obtain rfl : k = n := by omega
      go_wp2_with fail
      refine (wwordsOf_any _ F _ (HFL.out.below hb) (by rw [HF.out]; omega) (by omega)).mono ?_
      rintro e w1 ⟨rfl, hb1⟩
      have hb2 : Below w.heap.size w w1 := hb.trans (hb1.mono hb.size)
      clear hb1
      go_wp2_with fail
      refine (laid_some b o _ c F _ HF.out h0 (by omega) (by omega) hl HM.out (fun i f hf => (H1.out i f hf).below hb2)).mono ?_
      rintro e w2 ⟨u, rfl, g1, g2, g3, g4⟩
      have G1 := Lib.hid g1; have G2 := Lib.hid g2; have G3 := Lib.hid g3; have G4 := Lib.hid g4
      clear g1 g2 g3 g4
      go_wp2_with fail
      go_ret2
      exact ⟨u, rfl, G1.out, G2.out, G3.out.mono hb2.size, hb2.trans (G4.out.mono hb2.size)⟩
theorem wput_any (v : Value) (F : List Fld) (w : World) (h : Flds w v F) (h0 : F ≠ []) (hn : F.length ≤ 8) (hs : (flatF F).length ≤ 64) (hok : ∀ f ∈ F, okF f) :
    Calls Tryd.prog 18 #[v] w (RowGives (flatF F) 0 w) := by
  obtain ⟨b, o, c, rfl, hl, hm, hc⟩ := h.cells h0
  exact wput_ok b o _ c F w rfl (List.length_pos_iff.2 h0) hn hs hl hm hok hc
end Go.Proofs.YthpcnekidlhfpaaDoor
