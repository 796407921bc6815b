/- The contract of layer msg's fieldsOf. -/
import Derived.Test.YthpcnekidlhfpaaDoorMsgB
namespace Go.Proofs.YthpcnekidlhfpaaDoor
open Go.RowKit

def uptoM (m : M7) (t : Int) : List Fld := (1, [m.kind]) :: ((kindTags m.kind).filter fun s => decide (s < t)).map fun s => (s, [m.word s])
theorem uptoM_start (m : M7) : uptoM m 2 = [(1, [m.kind])] := by
  unfold uptoM
  have : ((kindTags m.kind).filter fun s => decide (s < 2)) = [] := by
    rw [List.filter_eq_nil_iff]
    intro t ht
    have := kindTags_ok _ t ht
    simp; omega
  rw [this]; rfl
theorem uptoM_end (m : M7) : uptoM m 8 = fieldsM m := by
  unfold uptoM fieldsM tagFields
  have : ((kindTags m.kind).filter fun s => decide (s < 8)) = kindTags m.kind := by
    rw [List.filter_eq_self]
    intro t ht
    have := kindTags_ok _ t ht
    simp; omega
  rw [this]
theorem filter_yes {k t : Int} (hk : isKindB k = true) (ht : 2 ≤ t ∧ t ≤ 7) (h : hasT k t = true) : ((kindTags k).filter fun s => decide (s < t + 1)) = ((kindTags k).filter fun s => decide (s < t)) ++ [t] := by
  rcases kinds hk with rfl | rfl | rfl | rfl | rfl | rfl | rfl | rfl | rfl <;> rcases tags ht with rfl | rfl | rfl | rfl | rfl | rfl <;> clear hk ht <;> first | (exfalso; revert h; decide) | decide
theorem filter_no {k t : Int} (hk : isKindB k = true) (ht : 2 ≤ t ∧ t ≤ 7) (h : hasT k t = false) : ((kindTags k).filter fun s => decide (s < t + 1)) = ((kindTags k).filter fun s => decide (s < t)) := by
  rcases kinds hk with rfl | rfl | rfl | rfl | rfl | rfl | rfl | rfl | rfl <;> rcases tags ht with rfl | rfl | rfl | rfl | rfl | rfl <;> clear hk ht <;> first | (exfalso; revert h; decide) | decide
theorem uptoM_yes {m : M7} {t : Int} (hk : isKindB m.kind = true) (ht : 2 ≤ t ∧ t ≤ 7) (h : hasT m.kind t = true) : uptoM m (t + 1) = uptoM m t ++ [(t, [m.word t])] := by
  unfold uptoM; rw [filter_yes hk ht h]; simp
theorem uptoM_no {m : M7} {t : Int} (hk : isKindB m.kind = true) (ht : 2 ≤ t ∧ t ≤ 7) (h : hasT m.kind t = false) : uptoM m (t + 1) = uptoM m t := by
  unfold uptoM; rw [filter_no hk ht h]
theorem uptoM_len (m : M7) (t : Int) : (uptoM m t).length ≤ 6 := by
  have h1 := kindTags_len m.kind
  have h2 := List.length_filter_le (fun s => decide (s < t)) (kindTags m.kind)
  simp only [uptoM, List.length_cons, List.length_map]; omega
theorem OwnsF.alloc {base : Nat} {w : World} {v : Value} {F : List Fld} (h : OwnsF base w v F) (o : Obj) : OwnsF base (w.alloc o) v F := h.below ((Below.refl _ _).alloc (Nat.le_refl _) o)
theorem heap_old (w : World) (o : Obj) {k : Nat} (hk : k < w.heap.size) : (w.alloc o).heap[k]? = w.heap[k]? := ((Below.refl _ _).alloc (Nat.le_refl _) o).block k hk
theorem block_ne {w : World} {g : Nat} {arr : Array Value} {T E : TypeId} {fz : Nat × Nat} {base size n : Nat} {v : Value} {xs : List Value} (h : w.heap[g]? = some (.cells arr T fz)) (ho : w.ownsRow base E size v n xs) (hTE : T ≠ E) : some g ≠ v.ownBlock := by
  intro e
  rcases ho.2 with ⟨rfl, _⟩ | ⟨g', cap, cur, rfl, _, hg, _⟩
  · simp [Value.ownBlock] at e
  · simp [Value.ownBlock] at e
    subst e
    rw [h] at hg
    simp at hg
    exact hTE hg.2.1
theorem block_lt {w : World} {g : Nat} {o : Obj} (h : w.heap[g]? = some o) : g < w.heap.size := (Array.getElem?_eq_some_iff.1 h).1
theorem block_below {w w' : World} {g : Nat} {o : Obj} (h : w.heap[g]? = some o) (hb : Below w.heap.size w w') : w'.heap[g]? = some o := by rw [hb.block g (block_lt h)]; exact h
/-- A row of one field that was laid just now. -/
theorem OwnsF.one {base : Nat} {w : World} {t : Int} {u : Value} {A : List Int} (hb : base ≤ w.heap.size) (hI : Ints .u32 w u A) (hT : Typed 22 w u) :
    OwnsF base (w.alloc (.cells #[.int .u32 t, u] 57)) (.slice (some ⟨w.heap.size, 0, none⟩) 1 1) [(t, A)] := by
  refine ⟨[((t, A), u)], rfl, ⟨rfl, .inr ⟨w.heap.size, 1, #[.int .u32 t, u], rfl, hb, heap_alloc_new w _, Nat.le_refl _, by decide, rfl, rfl⟩⟩, ?_⟩
  intro p hp
  rcases List.mem_singleton.1 hp with rfl
  exact ⟨hI.alloc _, hT.below ((Below.refl _ _).alloc (Nat.le_refl _) _)⟩
set_option maxHeartbeats 8000000 in
theorem fieldsOf_any (m : M7) (w : World) (hk : isKindB m.kind = true) (hm : Masks w) :
    Calls Tryd.prog 19 #[.agg #[.int .u32 m.kind, .int .u32 m.run, .int .u32 m.a, .int .u32 m.b, .int .u32 m.nonce, .int .u32 m.box, .int .u32 m.more]] w fun e w' => ∃ u, e = .returned u ∧ OwnsF w.heap.size w' u (fieldsM m) ∧ Below w.heap.size w w' := by
  have HK := Lib.hid hk; have HM := Lib.hid hm; clear hk hm
  obtain ⟨i0, hi0, hz0, hz1, hz2⟩ := info_parts Tryd.infoF
  go_enter Tryd.func19, Tryd.ntmps19
  go_wp2_with fail
  refine (one_any 1 _ [m.kind] _ (ints_new _ (by simp) rfl rfl (small _ (by simp))) (by simp)).mono ?_
  rintro e w1 ⟨u, rfl, hu, ht, hf, hb1⟩
  obtain ⟨ua, uc, rfl⟩ := hu.form
  have hbx : w1.heap[w.heap.size]? = some (.cells #[.int .u32 m.kind, .int .u32 m.run, .int .u32 m.a, .int .u32 m.b, .int .u32 m.nonce, .int .u32 m.box, .int .u32 m.more] 24 (0, 0)) :=
    block_below ((heap_old _ _ (by simp)).trans (heap_alloc_new w _)) hb1
  have hb1' : Below w.heap.size w w1 := (((Below.refl _ _).alloc (Nat.le_refl _) _).alloc (by simp) _).trans (hb1.mono (by simp; omega))
  have hown := OwnsF.one (base := w.heap.size) (t := 1) hb1'.size hu ht
  have hsz : w.heap.size + 1 < w1.heap.size := by have := hb1.size; simp at this; omega
  have hsz' : w.heap.size < w1.heap.size := by omega
  have c0 : w1.cell? ⟨w.heap.size, 0, none⟩ = some (.int .u32 m.kind) := by simp [World.cell?, hbx]
  have c1 : w1.cell? ⟨w.heap.size, 1, none⟩ = some (.int .u32 m.run) := by simp [World.cell?, hbx]
  have c2 : w1.cell? ⟨w.heap.size, 2, none⟩ = some (.int .u32 m.a) := by simp [World.cell?, hbx]
  have c3 : w1.cell? ⟨w.heap.size, 3, none⟩ = some (.int .u32 m.b) := by simp [World.cell?, hbx]
  have c4 : w1.cell? ⟨w.heap.size, 4, none⟩ = some (.int .u32 m.nonce) := by simp [World.cell?, hbx]
  have c5 : w1.cell? ⟨w.heap.size, 5, none⟩ = some (.int .u32 m.box) := by simp [World.cell?, hbx]
  have c6 : w1.cell? ⟨w.heap.size, 6, none⟩ = some (.int .u32 m.more) := by simp [World.cell?, hbx]
  have HBX := Lib.hid hbx; have HO := Lib.hid hown
  clear hbx hown hu ht hf
  go_wp2_with fail
  refine (mwordsOf_any _ _ _ _ _ _ _ _).mono ?_
  rintro e w2 ⟨rfl, hb2⟩
  have hb2' : Below w.heap.size w (w2.alloc (.cells #[.int .u32 0, .int .u32 0, .int .u32 m.run, .int .u32 m.a, .int .u32 m.b, .int .u32 m.nonce, .int .u32 m.box, .int .u32 m.more] 51)) :=
    ((hb1'.alloc hb1'.size _).trans (hb2.mono (by simp; omega))).alloc (by have := hb2.size; simp at this; omega) _
  have hb12 : Below w1.heap.size w1 (w2.alloc (.cells #[.int .u32 0, .int .u32 0, .int .u32 m.run, .int .u32 m.a, .int .u32 m.b, .int .u32 m.nonce, .int .u32 m.box, .int .u32 m.more] 51)) :=
    (((Below.refl _ _).alloc (Nat.le_refl _) _).trans (hb2.mono (by simp))).alloc (by have := hb2.size; simp at this; omega) _
  have HB2 := Lib.hid hb2'
  have HX1 := Lib.hid (block_below HBX.out hb12)
  have HO1 := Lib.hid ((HO.out.below hb2).alloc (.cells #[.int .u32 0, .int .u32 0, .int .u32 m.run, .int .u32 m.a, .int .u32 m.b, .int .u32 m.nonce, .int .u32 m.box, .int .u32 m.more] 51))
  have HW1 := Lib.hid (heap_alloc_new w2 (.cells #[.int .u32 0, .int .u32 0, .int .u32 m.run, .int .u32 m.a, .int .u32 m.b, .int .u32 m.nonce, .int .u32 m.box, .int .u32 m.more] 51))
  obtain ⟨hc2, hz2'⟩ := bcell hb2
  have hsz2 : w1.heap.size < w2.heap.size := by have := hb2.size; simp at this; omega
  clear hb2' hb12 HBX HO
  go_wp2_with fail
  go_loopw [3, 5] (fun fv t wr => ∃ j : Int, 2 ≤ j ∧ j ≤ 8 ∧ t = .int .u32 j ∧ Hid (OwnsF w.heap.size wr fv (uptoM m j)) ∧
      Hid (wr.heap[w.heap.size]? = some (.cells #[.int .u32 m.kind, .int .u32 m.run, .int .u32 m.a, .int .u32 m.b, .int .u32 m.nonce, .int .u32 m.box, .int .u32 m.more] 24 (0, 0))) ∧
      Hid (wr.heap[w2.heap.size]? = some (.cells #[.int .u32 0, .int .u32 0, .int .u32 m.run, .int .u32 m.a, .int .u32 m.b, .int .u32 m.nonce, .int .u32 m.box, .int .u32 m.more] 51 (0, 0))) ∧
      Below w.heap.size w wr) (fun _ t _ => (8 - intOf t).toNat)
  case atStart => exact ⟨2, by omega, by omega, rfl, Lib.hid (by rw [uptoM_start]; exact HO1.out), HX1, HW1, HB2.out⟩
  case round =>
    obtain ⟨j, h2, h8, rfl, HO, HX, HW, hb⟩ := hrel
    have e4 : wr.cell? ⟨w.heap.size, 0, none⟩ = some (.int .u32 m.kind) := by simp [World.cell?, HX.out]
    have sr := hb.size
    by_cases hlt : j < 8
    · rcases tags ⟨h2, by omega⟩ with rfl | rfl | rfl | rfl | rfl | rfl
      · have e5 : wr.cell? ⟨w2.heap.size, 2, none⟩ = some (.int .u32 m.run) := by simp [World.cell?, HW.out]
        by_cases hh : hasT m.kind 2 = true
        · have HH := Lib.hid hh; clear hh
          go_wp2_with fail
          refine (has_any m.kind 2 _ HK.out (by omega) (HM.out.below hb)).mono ?_
          rintro e w3 ⟨rfl, rfl⟩
          rw [HH.out]
          go_wp2_with fail
          refine (one_any 2 _ [m.run] _ (ints_new _ rfl rfl rfl (small _ (by simp))) (by simp)).mono ?_
          rintro e w3 ⟨u3, rfl, hu3, ht3, hf3, hb3⟩
          obtain ⟨ua3, uc3, rfl⟩ := hu3.form
          obtain ⟨E, hE, hown, hall⟩ := HO.out
          have HE := Lib.hid hE; have HA := Lib.hid hall; have HU := Lib.hid hu3; have HT := Lib.hid ht3; have HL := Lib.hid (show E.length = (uptoM m 2).length by rw [← HE.out]; simp)
          have hl6 := uptoM_len m 2
          have hb3' : Below wr.heap.size wr w3 := ((Below.refl _ _).alloc (Nat.le_refl _) _).trans (hb3.mono (by simp))
          have s3 := hb3'.size
          clear hE hall hu3 ht3 hf3
          go_wp2_with (at_builtin; refine wpList_append_own _ rfl (.tmp 21) (.tmp 28) 45 rfl w.heap.size 57 i0 _ 2 32 Tryd.underlying45 hi0 hz0 hz1 hz2 rfl (by decide) _ (uptoM m 2).length (cellsE E) rfl ((owns_below2 hown hb3').alloc _) ⟨w3.heap.size, 0, none⟩ 1 1 [.int .u32 2, .slice ua3 1 uc3] rfl rfl ?c1 ?c2 ?c3 ?c4 ?c5 ?_)
          case c1 => exact World.news_of_block (cs := #[.int .u32 2, .slice ua3 1 uc3]) (t := 57) (fr := (0, 0)) (heap_alloc_new _ _)
          case c2 => simp [Value.oneCell']
          case c3 => unfold maxLen; omega
          case c4 => omega
          case c5 => simp; omega
          intro v4 w4 hown4 hgrow4 _
          have hba : Below wr.heap.size wr (w3.alloc (.cells #[.int .u32 2, .slice ua3 1 uc3] 57)) := hb3'.alloc s3 _
          have hnew : OwnsF w.heap.size w4 v4 (uptoM m 3) := by
            have := OwnsF.snoc (E := E) (p := ((2, [m.run]), .slice ua3 1 uc3)) (base := w.heap.size)
              (fun p hp => ⟨(HA.out p hp).1.below hba, (HA.out p hp).2.below hba⟩) ⟨HU.out.alloc _, HT.out.below ((Below.refl _ _).alloc (Nat.le_refl _) _)⟩
              (by rw [HL.out]; exact owns_below2 hown hba) (by rw [HL.out]; exact hown4) hgrow4
            rw [HE.out] at this
            exact (uptoM_yes HK.out (by omega) HH.out).symm ▸ this
          have hx4 : w4.heap[w.heap.size]? = some (.cells #[.int .u32 m.kind, .int .u32 m.run, .int .u32 m.a, .int .u32 m.b, .int .u32 m.nonce, .int .u32 m.box, .int .u32 m.more] 24 (0, 0)) :=
            (hgrow4.block _ (block_lt (block_below HX.out hba)) (block_ne (block_below HX.out hba) (owns_below2 hown hba) (by decide))).trans (block_below HX.out hba)
          have hw4 : w4.heap[w2.heap.size]? = some (.cells #[.int .u32 0, .int .u32 0, .int .u32 m.run, .int .u32 m.a, .int .u32 m.b, .int .u32 m.nonce, .int .u32 m.box, .int .u32 m.more] 51 (0, 0)) :=
            (hgrow4.block _ (block_lt (block_below HW.out hba)) (block_ne (block_below HW.out hba) (owns_below2 hown hba) (by decide))).trans (block_below HW.out hba)
          have hb4 : Below w.heap.size w w4 := (hb.trans (hba.mono hb.size)).grown hgrow4 (by simp; omega) (fun k hk => (hown.lt k hk).1)
          have HN := Lib.hid hnew; have HX4 := Lib.hid hx4; have HW4 := Lib.hid hw4
          clear hnew hx4 hw4 hown hown4 hgrow4 hba hb3 hb3'
          go_wp2_with fail
          go_roundw
          case rel => exact ⟨3, by omega, by omega, rfl, HN, HX4, HW4, hb4⟩
          case measure => simp [intOf]
        · have HH := Lib.hid (show hasT m.kind 2 = false by simpa using hh); clear hh
          go_wp2_with fail
          refine (has_any m.kind 2 _ HK.out (by omega) (HM.out.below hb)).mono ?_
          rintro e w3 ⟨rfl, rfl⟩
          rw [HH.out]
          go_wp2_with fail
          go_roundw
          case rel => exact ⟨3, by omega, by omega, rfl, Lib.hid ((uptoM_no HK.out (by omega) HH.out).symm ▸ HO.out), HX, HW, hb⟩
          case measure => simp [intOf]
      · have e5 : wr.cell? ⟨w2.heap.size, 3, none⟩ = some (.int .u32 m.a) := by simp [World.cell?, HW.out]
        by_cases hh : hasT m.kind 3 = true
        · have HH := Lib.hid hh; clear hh
          go_wp2_with fail
          refine (has_any m.kind 3 _ HK.out (by omega) (HM.out.below hb)).mono ?_
          rintro e w3 ⟨rfl, rfl⟩
          rw [HH.out]
          go_wp2_with fail
          refine (one_any 3 _ [m.a] _ (ints_new _ rfl rfl rfl (small _ (by simp))) (by simp)).mono ?_
          rintro e w3 ⟨u3, rfl, hu3, ht3, hf3, hb3⟩
          obtain ⟨ua3, uc3, rfl⟩ := hu3.form
          obtain ⟨E, hE, hown, hall⟩ := HO.out
          have HE := Lib.hid hE; have HA := Lib.hid hall; have HU := Lib.hid hu3; have HT := Lib.hid ht3; have HL := Lib.hid (show E.length = (uptoM m 3).length by rw [← HE.out]; simp)
          have hl6 := uptoM_len m 3
          have hb3' : Below wr.heap.size wr w3 := ((Below.refl _ _).alloc (Nat.le_refl _) _).trans (hb3.mono (by simp))
          have s3 := hb3'.size
          clear hE hall hu3 ht3 hf3
          go_wp2_with (at_builtin; refine wpList_append_own _ rfl (.tmp 21) (.tmp 28) 45 rfl w.heap.size 57 i0 _ 2 32 Tryd.underlying45 hi0 hz0 hz1 hz2 rfl (by decide) _ (uptoM m 3).length (cellsE E) rfl ((owns_below2 hown hb3').alloc _) ⟨w3.heap.size, 0, none⟩ 1 1 [.int .u32 3, .slice ua3 1 uc3] rfl rfl ?c1 ?c2 ?c3 ?c4 ?c5 ?_)
          case c1 => exact World.news_of_block (cs := #[.int .u32 3, .slice ua3 1 uc3]) (t := 57) (fr := (0, 0)) (heap_alloc_new _ _)
          case c2 => simp [Value.oneCell']
          case c3 => unfold maxLen; omega
          case c4 => omega
          case c5 => simp; omega
          intro v4 w4 hown4 hgrow4 _
          have hba : Below wr.heap.size wr (w3.alloc (.cells #[.int .u32 3, .slice ua3 1 uc3] 57)) := hb3'.alloc s3 _
          have hnew : OwnsF w.heap.size w4 v4 (uptoM m 4) := by
            have := OwnsF.snoc (E := E) (p := ((3, [m.a]), .slice ua3 1 uc3)) (base := w.heap.size)
              (fun p hp => ⟨(HA.out p hp).1.below hba, (HA.out p hp).2.below hba⟩) ⟨HU.out.alloc _, HT.out.below ((Below.refl _ _).alloc (Nat.le_refl _) _)⟩
              (by rw [HL.out]; exact owns_below2 hown hba) (by rw [HL.out]; exact hown4) hgrow4
            rw [HE.out] at this
            exact (uptoM_yes HK.out (by omega) HH.out).symm ▸ this
          have hx4 : w4.heap[w.heap.size]? = some (.cells #[.int .u32 m.kind, .int .u32 m.run, .int .u32 m.a, .int .u32 m.b, .int .u32 m.nonce, .int .u32 m.box, .int .u32 m.more] 24 (0, 0)) :=
            (hgrow4.block _ (block_lt (block_below HX.out hba)) (block_ne (block_below HX.out hba) (owns_below2 hown hba) (by decide))).trans (block_below HX.out hba)
          have hw4 : w4.heap[w2.heap.size]? = some (.cells #[.int .u32 0, .int .u32 0, .int .u32 m.run, .int .u32 m.a, .int .u32 m.b, .int .u32 m.nonce, .int .u32 m.box, .int .u32 m.more] 51 (0, 0)) :=
            (hgrow4.block _ (block_lt (block_below HW.out hba)) (block_ne (block_below HW.out hba) (owns_below2 hown hba) (by decide))).trans (block_below HW.out hba)
          have hb4 : Below w.heap.size w w4 := (hb.trans (hba.mono hb.size)).grown hgrow4 (by simp; omega) (fun k hk => (hown.lt k hk).1)
          have HN := Lib.hid hnew; have HX4 := Lib.hid hx4; have HW4 := Lib.hid hw4
          clear hnew hx4 hw4 hown hown4 hgrow4 hba hb3 hb3'
          go_wp2_with fail
          go_roundw
          case rel => exact ⟨4, by omega, by omega, rfl, HN, HX4, HW4, hb4⟩
          case measure => simp [intOf]
        · have HH := Lib.hid (show hasT m.kind 3 = false by simpa using hh); clear hh
          go_wp2_with fail
          refine (has_any m.kind 3 _ HK.out (by omega) (HM.out.below hb)).mono ?_
          rintro e w3 ⟨rfl, rfl⟩
          rw [HH.out]
          go_wp2_with fail
          go_roundw
          case rel => exact ⟨4, by omega, by omega, rfl, Lib.hid ((uptoM_no HK.out (by omega) HH.out).symm ▸ HO.out), HX, HW, hb⟩
          case measure => simp [intOf]
      · have e5 : wr.cell? ⟨w2.heap.size, 4, none⟩ = some (.int .u32 m.b) := by simp [World.cell?, HW.out]
        by_cases hh : hasT m.kind 4 = true
        · have HH := Lib.hid hh; clear hh
          go_wp2_with fail
          refine (has_any m.kind 4 _ HK.out (by omega) (HM.out.below hb)).mono ?_
          rintro e w3 ⟨rfl, rfl⟩
          rw [HH.out]
          go_wp2_with fail
          refine (one_any 4 _ [m.b] _ (ints_new _ rfl rfl rfl (small _ (by simp))) (by simp)).mono ?_
          rintro e w3 ⟨u3, rfl, hu3, ht3, hf3, hb3⟩
          obtain ⟨ua3, uc3, rfl⟩ := hu3.form
          obtain ⟨E, hE, hown, hall⟩ := HO.out
          have HE := Lib.hid hE; have HA := Lib.hid hall; have HU := Lib.hid hu3; have HT := Lib.hid ht3; have HL := Lib.hid (show E.length = (uptoM m 4).length by rw [← HE.out]; simp)
          have hl6 := uptoM_len m 4
          have hb3' : Below wr.heap.size wr w3 := ((Below.refl _ _).alloc (Nat.le_refl _) _).trans (hb3.mono (by simp))
          have s3 := hb3'.size
          clear hE hall hu3 ht3 hf3
          go_wp2_with (at_builtin; refine wpList_append_own _ rfl (.tmp 21) (.tmp 28) 45 rfl w.heap.size 57 i0 _ 2 32 Tryd.underlying45 hi0 hz0 hz1 hz2 rfl (by decide) _ (uptoM m 4).length (cellsE E) rfl ((owns_below2 hown hb3').alloc _) ⟨w3.heap.size, 0, none⟩ 1 1 [.int .u32 4, .slice ua3 1 uc3] rfl rfl ?c1 ?c2 ?c3 ?c4 ?c5 ?_)
          case c1 => exact World.news_of_block (cs := #[.int .u32 4, .slice ua3 1 uc3]) (t := 57) (fr := (0, 0)) (heap_alloc_new _ _)
          case c2 => simp [Value.oneCell']
          case c3 => unfold maxLen; omega
          case c4 => omega
          case c5 => simp; omega
          intro v4 w4 hown4 hgrow4 _
          have hba : Below wr.heap.size wr (w3.alloc (.cells #[.int .u32 4, .slice ua3 1 uc3] 57)) := hb3'.alloc s3 _
          have hnew : OwnsF w.heap.size w4 v4 (uptoM m 5) := by
            have := OwnsF.snoc (E := E) (p := ((4, [m.b]), .slice ua3 1 uc3)) (base := w.heap.size)
              (fun p hp => ⟨(HA.out p hp).1.below hba, (HA.out p hp).2.below hba⟩) ⟨HU.out.alloc _, HT.out.below ((Below.refl _ _).alloc (Nat.le_refl _) _)⟩
              (by rw [HL.out]; exact owns_below2 hown hba) (by rw [HL.out]; exact hown4) hgrow4
            rw [HE.out] at this
            exact (uptoM_yes HK.out (by omega) HH.out).symm ▸ this
          have hx4 : w4.heap[w.heap.size]? = some (.cells #[.int .u32 m.kind, .int .u32 m.run, .int .u32 m.a, .int .u32 m.b, .int .u32 m.nonce, .int .u32 m.box, .int .u32 m.more] 24 (0, 0)) :=
            (hgrow4.block _ (block_lt (block_below HX.out hba)) (block_ne (block_below HX.out hba) (owns_below2 hown hba) (by decide))).trans (block_below HX.out hba)
          have hw4 : w4.heap[w2.heap.size]? = some (.cells #[.int .u32 0, .int .u32 0, .int .u32 m.run, .int .u32 m.a, .int .u32 m.b, .int .u32 m.nonce, .int .u32 m.box, .int .u32 m.more] 51 (0, 0)) :=
            (hgrow4.block _ (block_lt (block_below HW.out hba)) (block_ne (block_below HW.out hba) (owns_below2 hown hba) (by decide))).trans (block_below HW.out hba)
          have hb4 : Below w.heap.size w w4 := (hb.trans (hba.mono hb.size)).grown hgrow4 (by simp; omega) (fun k hk => (hown.lt k hk).1)
          have HN := Lib.hid hnew; have HX4 := Lib.hid hx4; have HW4 := Lib.hid hw4
          clear hnew hx4 hw4 hown hown4 hgrow4 hba hb3 hb3'
          go_wp2_with fail
          go_roundw
          case rel => exact ⟨5, by omega, by omega, rfl, HN, HX4, HW4, hb4⟩
          case measure => simp [intOf]
        · have HH := Lib.hid (show hasT m.kind 4 = false by simpa using hh); clear hh
          go_wp2_with fail
          refine (has_any m.kind 4 _ HK.out (by omega) (HM.out.below hb)).mono ?_
          rintro e w3 ⟨rfl, rfl⟩
          rw [HH.out]
          go_wp2_with fail
          go_roundw
          case rel => exact ⟨5, by omega, by omega, rfl, Lib.hid ((uptoM_no HK.out (by omega) HH.out).symm ▸ HO.out), HX, HW, hb⟩
          case measure => simp [intOf]
      · have e5 : wr.cell? ⟨w2.heap.size, 5, none⟩ = some (.int .u32 m.nonce) := by simp [World.cell?, HW.out]
        by_cases hh : hasT m.kind 5 = true
        · have HH := Lib.hid hh; clear hh
          go_wp2_with fail
          refine (has_any m.kind 5 _ HK.out (by omega) (HM.out.below hb)).mono ?_
          rintro e w3 ⟨rfl, rfl⟩
          rw [HH.out]
          go_wp2_with fail
          refine (one_any 5 _ [m.nonce] _ (ints_new _ rfl rfl rfl (small _ (by simp))) (by simp)).mono ?_
          rintro e w3 ⟨u3, rfl, hu3, ht3, hf3, hb3⟩
          obtain ⟨ua3, uc3, rfl⟩ := hu3.form
          obtain ⟨E, hE, hown, hall⟩ := HO.out
          have HE := Lib.hid hE; have HA := Lib.hid hall; have HU := Lib.hid hu3; have HT := Lib.hid ht3; have HL := Lib.hid (show E.length = (uptoM m 5).length by rw [← HE.out]; simp)
          have hl6 := uptoM_len m 5
          have hb3' : Below wr.heap.size wr w3 := ((Below.refl _ _).alloc (Nat.le_refl _) _).trans (hb3.mono (by simp))
          have s3 := hb3'.size
          clear hE hall hu3 ht3 hf3
          go_wp2_with (at_builtin; refine wpList_append_own _ rfl (.tmp 21) (.tmp 28) 45 rfl w.heap.size 57 i0 _ 2 32 Tryd.underlying45 hi0 hz0 hz1 hz2 rfl (by decide) _ (uptoM m 5).length (cellsE E) rfl ((owns_below2 hown hb3').alloc _) ⟨w3.heap.size, 0, none⟩ 1 1 [.int .u32 5, .slice ua3 1 uc3] rfl rfl ?c1 ?c2 ?c3 ?c4 ?c5 ?_)
          case c1 => exact World.news_of_block (cs := #[.int .u32 5, .slice ua3 1 uc3]) (t := 57) (fr := (0, 0)) (heap_alloc_new _ _)
          case c2 => simp [Value.oneCell']
          case c3 => unfold maxLen; omega
          case c4 => omega
          case c5 => simp; omega
          intro v4 w4 hown4 hgrow4 _
          have hba : Below wr.heap.size wr (w3.alloc (.cells #[.int .u32 5, .slice ua3 1 uc3] 57)) := hb3'.alloc s3 _
          have hnew : OwnsF w.heap.size w4 v4 (uptoM m 6) := by
            have := OwnsF.snoc (E := E) (p := ((5, [m.nonce]), .slice ua3 1 uc3)) (base := w.heap.size)
              (fun p hp => ⟨(HA.out p hp).1.below hba, (HA.out p hp).2.below hba⟩) ⟨HU.out.alloc _, HT.out.below ((Below.refl _ _).alloc (Nat.le_refl _) _)⟩
              (by rw [HL.out]; exact owns_below2 hown hba) (by rw [HL.out]; exact hown4) hgrow4
            rw [HE.out] at this
            exact (uptoM_yes HK.out (by omega) HH.out).symm ▸ this
          have hx4 : w4.heap[w.heap.size]? = some (.cells #[.int .u32 m.kind, .int .u32 m.run, .int .u32 m.a, .int .u32 m.b, .int .u32 m.nonce, .int .u32 m.box, .int .u32 m.more] 24 (0, 0)) :=
            (hgrow4.block _ (block_lt (block_below HX.out hba)) (block_ne (block_below HX.out hba) (owns_below2 hown hba) (by decide))).trans (block_below HX.out hba)
          have hw4 : w4.heap[w2.heap.size]? = some (.cells #[.int .u32 0, .int .u32 0, .int .u32 m.run, .int .u32 m.a, .int .u32 m.b, .int .u32 m.nonce, .int .u32 m.box, .int .u32 m.more] 51 (0, 0)) :=
            (hgrow4.block _ (block_lt (block_below HW.out hba)) (block_ne (block_below HW.out hba) (owns_below2 hown hba) (by decide))).trans (block_below HW.out hba)
          have hb4 : Below w.heap.size w w4 := (hb.trans (hba.mono hb.size)).grown hgrow4 (by simp; omega) (fun k hk => (hown.lt k hk).1)
          have HN := Lib.hid hnew; have HX4 := Lib.hid hx4; have HW4 := Lib.hid hw4
          clear hnew hx4 hw4 hown hown4 hgrow4 hba hb3 hb3'
          go_wp2_with fail
          go_roundw
          case rel => exact ⟨6, by omega, by omega, rfl, HN, HX4, HW4, hb4⟩
          case measure => simp [intOf]
        · have HH := Lib.hid (show hasT m.kind 5 = false by simpa using hh); clear hh
          go_wp2_with fail
          refine (has_any m.kind 5 _ HK.out (by omega) (HM.out.below hb)).mono ?_
          rintro e w3 ⟨rfl, rfl⟩
          rw [HH.out]
          go_wp2_with fail
          go_roundw
          case rel => exact ⟨6, by omega, by omega, rfl, Lib.hid ((uptoM_no HK.out (by omega) HH.out).symm ▸ HO.out), HX, HW, hb⟩
          case measure => simp [intOf]
      · have e5 : wr.cell? ⟨w2.heap.size, 6, none⟩ = some (.int .u32 m.box) := by simp [World.cell?, HW.out]
        by_cases hh : hasT m.kind 6 = true
        · have HH := Lib.hid hh; clear hh
          go_wp2_with fail
          refine (has_any m.kind 6 _ HK.out (by omega) (HM.out.below hb)).mono ?_
          rintro e w3 ⟨rfl, rfl⟩
          rw [HH.out]
          go_wp2_with fail
          refine (one_any 6 _ [m.box] _ (ints_new _ rfl rfl rfl (small _ (by simp))) (by simp)).mono ?_
          rintro e w3 ⟨u3, rfl, hu3, ht3, hf3, hb3⟩
          obtain ⟨ua3, uc3, rfl⟩ := hu3.form
          obtain ⟨E, hE, hown, hall⟩ := HO.out
          have HE := Lib.hid hE; have HA := Lib.hid hall; have HU := Lib.hid hu3; have HT := Lib.hid ht3; have HL := Lib.hid (show E.length = (uptoM m 6).length by rw [← HE.out]; simp)
          have hl6 := uptoM_len m 6
          have hb3' : Below wr.heap.size wr w3 := ((Below.refl _ _).alloc (Nat.le_refl _) _).trans (hb3.mono (by simp))
          have s3 := hb3'.size
          clear hE hall hu3 ht3 hf3
          go_wp2_with (at_builtin; refine wpList_append_own _ rfl (.tmp 21) (.tmp 28) 45 rfl w.heap.size 57 i0 _ 2 32 Tryd.underlying45 hi0 hz0 hz1 hz2 rfl (by decide) _ (uptoM m 6).length (cellsE E) rfl ((owns_below2 hown hb3').alloc _) ⟨w3.heap.size, 0, none⟩ 1 1 [.int .u32 6, .slice ua3 1 uc3] rfl rfl ?c1 ?c2 ?c3 ?c4 ?c5 ?_)
          case c1 => exact World.news_of_block (cs := #[.int .u32 6, .slice ua3 1 uc3]) (t := 57) (fr := (0, 0)) (heap_alloc_new _ _)
          case c2 => simp [Value.oneCell']
          case c3 => unfold maxLen; omega
          case c4 => omega
          case c5 => simp; omega
          intro v4 w4 hown4 hgrow4 _
          have hba : Below wr.heap.size wr (w3.alloc (.cells #[.int .u32 6, .slice ua3 1 uc3] 57)) := hb3'.alloc s3 _
          have hnew : OwnsF w.heap.size w4 v4 (uptoM m 7) := by
            have := OwnsF.snoc (E := E) (p := ((6, [m.box]), .slice ua3 1 uc3)) (base := w.heap.size)
              (fun p hp => ⟨(HA.out p hp).1.below hba, (HA.out p hp).2.below hba⟩) ⟨HU.out.alloc _, HT.out.below ((Below.refl _ _).alloc (Nat.le_refl _) _)⟩
              (by rw [HL.out]; exact owns_below2 hown hba) (by rw [HL.out]; exact hown4) hgrow4
            rw [HE.out] at this
            exact (uptoM_yes HK.out (by omega) HH.out).symm ▸ this
          have hx4 : w4.heap[w.heap.size]? = some (.cells #[.int .u32 m.kind, .int .u32 m.run, .int .u32 m.a, .int .u32 m.b, .int .u32 m.nonce, .int .u32 m.box, .int .u32 m.more] 24 (0, 0)) :=
            (hgrow4.block _ (block_lt (block_below HX.out hba)) (block_ne (block_below HX.out hba) (owns_below2 hown hba) (by decide))).trans (block_below HX.out hba)
          have hw4 : w4.heap[w2.heap.size]? = some (.cells #[.int .u32 0, .int .u32 0, .int .u32 m.run, .int .u32 m.a, .int .u32 m.b, .int .u32 m.nonce, .int .u32 m.box, .int .u32 m.more] 51 (0, 0)) :=
            (hgrow4.block _ (block_lt (block_below HW.out hba)) (block_ne (block_below HW.out hba) (owns_below2 hown hba) (by decide))).trans (block_below HW.out hba)
          have hb4 : Below w.heap.size w w4 := (hb.trans (hba.mono hb.size)).grown hgrow4 (by simp; omega) (fun k hk => (hown.lt k hk).1)
          have HN := Lib.hid hnew; have HX4 := Lib.hid hx4; have HW4 := Lib.hid hw4
          clear hnew hx4 hw4 hown hown4 hgrow4 hba hb3 hb3'
          go_wp2_with fail
          go_roundw
          case rel => exact ⟨7, by omega, by omega, rfl, HN, HX4, HW4, hb4⟩
          case measure => simp [intOf]
        · have HH := Lib.hid (show hasT m.kind 6 = false by simpa using hh); clear hh
          go_wp2_with fail
          refine (has_any m.kind 6 _ HK.out (by omega) (HM.out.below hb)).mono ?_
          rintro e w3 ⟨rfl, rfl⟩
          rw [HH.out]
          go_wp2_with fail
          go_roundw
          case rel => exact ⟨7, by omega, by omega, rfl, Lib.hid ((uptoM_no HK.out (by omega) HH.out).symm ▸ HO.out), HX, HW, hb⟩
          case measure => simp [intOf]
      · have e5 : wr.cell? ⟨w2.heap.size, 7, none⟩ = some (.int .u32 m.more) := by simp [World.cell?, HW.out]
        by_cases hh : hasT m.kind 7 = true
        · have HH := Lib.hid hh; clear hh
          go_wp2_with fail
          refine (has_any m.kind 7 _ HK.out (by omega) (HM.out.below hb)).mono ?_
          rintro e w3 ⟨rfl, rfl⟩
          rw [HH.out]
          go_wp2_with fail
          refine (one_any 7 _ [m.more] _ (ints_new _ rfl rfl rfl (small _ (by simp))) (by simp)).mono ?_
          rintro e w3 ⟨u3, rfl, hu3, ht3, hf3, hb3⟩
          obtain ⟨ua3, uc3, rfl⟩ := hu3.form
          obtain ⟨E, hE, hown, hall⟩ := HO.out
          have HE := Lib.hid hE; have HA := Lib.hid hall; have HU := Lib.hid hu3; have HT := Lib.hid ht3; have HL := Lib.hid (show E.length = (uptoM m 7).length by rw [← HE.out]; simp)
          have hl6 := uptoM_len m 7
          have hb3' : Below wr.heap.size wr w3 := ((Below.refl _ _).alloc (Nat.le_refl _) _).trans (hb3.mono (by simp))
          have s3 := hb3'.size
          clear hE hall hu3 ht3 hf3
          go_wp2_with (at_builtin; refine wpList_append_own _ rfl (.tmp 21) (.tmp 28) 45 rfl w.heap.size 57 i0 _ 2 32 Tryd.underlying45 hi0 hz0 hz1 hz2 rfl (by decide) _ (uptoM m 7).length (cellsE E) rfl ((owns_below2 hown hb3').alloc _) ⟨w3.heap.size, 0, none⟩ 1 1 [.int .u32 7, .slice ua3 1 uc3] rfl rfl ?c1 ?c2 ?c3 ?c4 ?c5 ?_)
          case c1 => exact World.news_of_block (cs := #[.int .u32 7, .slice ua3 1 uc3]) (t := 57) (fr := (0, 0)) (heap_alloc_new _ _)
          case c2 => simp [Value.oneCell']
          case c3 => unfold maxLen; omega
          case c4 => omega
          case c5 => simp; omega
          intro v4 w4 hown4 hgrow4 _
          have hba : Below wr.heap.size wr (w3.alloc (.cells #[.int .u32 7, .slice ua3 1 uc3] 57)) := hb3'.alloc s3 _
          have hnew : OwnsF w.heap.size w4 v4 (uptoM m 8) := by
            have := OwnsF.snoc (E := E) (p := ((7, [m.more]), .slice ua3 1 uc3)) (base := w.heap.size)
              (fun p hp => ⟨(HA.out p hp).1.below hba, (HA.out p hp).2.below hba⟩) ⟨HU.out.alloc _, HT.out.below ((Below.refl _ _).alloc (Nat.le_refl _) _)⟩
              (by rw [HL.out]; exact owns_below2 hown hba) (by rw [HL.out]; exact hown4) hgrow4
            rw [HE.out] at this
            exact (uptoM_yes HK.out (by omega) HH.out).symm ▸ this
          have hx4 : w4.heap[w.heap.size]? = some (.cells #[.int .u32 m.kind, .int .u32 m.run, .int .u32 m.a, .int .u32 m.b, .int .u32 m.nonce, .int .u32 m.box, .int .u32 m.more] 24 (0, 0)) :=
            (hgrow4.block _ (block_lt (block_below HX.out hba)) (block_ne (block_below HX.out hba) (owns_below2 hown hba) (by decide))).trans (block_below HX.out hba)
          have hw4 : w4.heap[w2.heap.size]? = some (.cells #[.int .u32 0, .int .u32 0, .int .u32 m.run, .int .u32 m.a, .int .u32 m.b, .int .u32 m.nonce, .int .u32 m.box, .int .u32 m.more] 51 (0, 0)) :=
            (hgrow4.block _ (block_lt (block_below HW.out hba)) (block_ne (block_below HW.out hba) (owns_below2 hown hba) (by decide))).trans (block_below HW.out hba)
          have hb4 : Below w.heap.size w w4 := (hb.trans (hba.mono hb.size)).grown hgrow4 (by simp; omega) (fun k hk => (hown.lt k hk).1)
          have HN := Lib.hid hnew; have HX4 := Lib.hid hx4; have HW4 := Lib.hid hw4
          clear hnew hx4 hw4 hown hown4 hgrow4 hba hb3 hb3'
          go_wp2_with fail
          go_roundw
          case rel => exact ⟨8, by omega, by omega, rfl, HN, HX4, HW4, hb4⟩
          case measure => simp [intOf]
        · have HH := Lib.hid (show hasT m.kind 7 = false by simpa using hh); clear hh
          go_wp2_with fail
          refine (has_any m.kind 7 _ HK.out (by omega) (HM.out.below hb)).mono ?_
          rintro e w3 ⟨rfl, rfl⟩
          rw [HH.out]
          go_wp2_with fail
          go_roundw
          case rel => exact ⟨8, by omega, by omega, rfl, Lib.hid ((uptoM_no HK.out (by omega) HH.out).symm ▸ HO.out), HX, HW, hb⟩
          case measure => simp [intOf]
    · obtain rfl : j = 8 := by omega
      rw [uptoM_end] at HO
      go_wp2_with fail
      go_ret
      exact ⟨_, rfl, HO.out, hb⟩
end Go.Proofs.YthpcnekidlhfpaaDoor
