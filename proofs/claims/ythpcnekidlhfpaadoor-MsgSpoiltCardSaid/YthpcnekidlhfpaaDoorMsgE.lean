/- The contract of layer msg's wordsIn. -/
import Derived.Test.YthpcnekidlhfpaaDoorMsgD
namespace Go.Proofs.YthpcnekidlhfpaaDoor
open Go.RowKit

def zeros8 : List Int := [0, 0, 0, 0, 0, 0, 0, 0]
def stepsW (k : Int) : Nat → Int → List Int → List Fld → Option (List Int)
  | 0, _, ws, R => if R = [] then some ws else none
  | n + 1, t, ws, R => if hasT k t then (match R with
      | [] => none
      | f :: R' => if f.1 = t ∧ f.2.length = 1 then stepsW k n (t + 1) (ws.set t.toNat (f.2.getD 0 0)) R' else none) else stepsW k n (t + 1) ws R
theorem steps_skip {k t : Int} {n : Nat} {ws : List Int} {R : List Fld} (h : hasT k t = false) : stepsW k (n + 1) t ws R = stepsW k n (t + 1) ws R := by simp only [stepsW]; rw [if_neg (by simp [h])]
theorem steps_nil {k t : Int} {n : Nat} {ws : List Int} (h : hasT k t = true) : stepsW k (n + 1) t ws [] = none := by simp only [stepsW]; rw [if_pos h]
theorem steps_bad {k t : Int} {n : Nat} {ws : List Int} {f : Fld} {R : List Fld} (h : hasT k t = true) (hf : ¬ (f.1 = t ∧ f.2.length = 1)) : stepsW k (n + 1) t ws (f :: R) = none := by simp only [stepsW]; rw [if_pos h, if_neg hf]
theorem steps_take {k t : Int} {n : Nat} {ws : List Int} {f : Fld} {R : List Fld} (h : hasT k t = true) (hf : f.1 = t ∧ f.2.length = 1) : stepsW k (n + 1) t ws (f :: R) = stepsW k n (t + 1) (ws.set t.toNat (f.2.getD 0 0)) R := by simp only [stepsW]; rw [if_pos h, if_pos hf]
def tagsFrom (k : Int) : Nat → Int → List Int
  | 0, _ => []
  | n + 1, t => if hasT k t then t :: tagsFrom k n (t + 1) else tagsFrom k n (t + 1)
theorem steps_some (k : Int) : ∀ (n : Nat) (t : Int) (ws : List Int) (R : List Fld) (x : List Int), stepsW k n t ws R = some x → R.map (·.1) = tagsFrom k n t ∧ ∀ f ∈ R, f.2.length = 1 := by
  intro n
  induction n with
  | zero =>
    intro t ws R x h
    simp only [stepsW] at h
    split at h
    · rename_i h0; subst h0; exact ⟨rfl, by simp⟩
    · cases h
  | succ n ih =>
    intro t ws R x h
    by_cases hh : hasT k t = true
    · cases R with
      | nil => rw [steps_nil hh] at h; cases h
      | cons f R =>
        by_cases hf : f.1 = t ∧ f.2.length = 1
        · rw [steps_take hh hf] at h
          obtain ⟨h1, h2⟩ := ih _ _ _ _ h
          refine ⟨?_, ?_⟩
          · simp only [tagsFrom]; rw [if_pos hh, List.map_cons, h1, hf.1]
          · intro g hg
            rcases List.mem_cons.1 hg with rfl | hg
            · exact hf.2
            · exact h2 g hg
        · rw [steps_bad hh hf] at h; cases h
    · rw [steps_skip (by simpa using hh)] at h
      obtain ⟨h1, h2⟩ := ih _ _ _ _ h
      exact ⟨by simp only [tagsFrom]; rw [if_neg hh, h1], h2⟩
theorem tagsFrom_all {k : Int} (hk : isKindB k = true) : tagsFrom k 6 2 = kindTags k := by
  rcases kinds hk with rfl | rfl | rfl | rfl | rfl | rfl | rfl | rfl | rfl <;> decide
def wordsL (R : List Fld) : List Int := [0, 0, wordOf R 2, wordOf R 3, wordOf R 4, wordOf R 5, wordOf R 6, wordOf R 7]
theorem steps_tagFields (m : M7) (h : mayM m = true) : stepsW m.kind 6 2 zeros8 (tagFields m) = some [0, 0, m.run, m.a, m.b, m.nonce, m.box, m.more] := by
  obtain ⟨f2, f3, f4, f5, f6, f7⟩ := mayM_fits h
  have hk := kinds (mayM_kind h)
  obtain ⟨k, r, a, b, n, x, o⟩ := m
  simp only at hk
  rcases hk with rfl | rfl | rfl | rfl | rfl | rfl | rfl | rfl | rfl <;>
    simp [fitsM, hasT, kindTags, M7.word] at f2 f3 f4 f5 f6 f7 <;> simp [stepsW, tagFields, kindTags, hasT, M7.word, zeros8, *]
/-- What the steps come to. -/
theorem steps_all {k : Int} (hk : isKindB k = true) (R : List Fld) : stepsW k 6 2 zeros8 R = if okW k R then some (wordsL R) else none := by
  by_cases h : okW k R = true
  · rw [if_pos h]
    obtain ⟨h1, h2⟩ := okW_fields hk h
    have := steps_tagFields (msgOf k R) h2
    rw [h1] at this
    exact this
  · rw [if_neg h]
    cases hs : stepsW k 6 2 zeros8 R with
    | none => rfl
    | some x =>
      obtain ⟨h1, h2⟩ := steps_some k 6 2 zeros8 R x hs
      exact absurd (decide_eq_true ⟨by rw [h1, tagsFrom_all hk], h2⟩) h

/-- 's[1:]' of a row of fields, its address under a name. -/
theorem flds_l {P : Program} {t : TypeId} (ht : P.underlying t = some (.slice (P.elem t))) (hz : ∀ wx, (sizeOf (P.elem t)).run P wx = .ok 2 wx) {w : World} {b o m c : Nat} {f : Fld} {F : List Fld} (hm : (f :: F).length = m) (hl : m ≤ c) (hcm : c ≤ maxLen)
    (hc : ∀ i g, (f :: F)[i]? = some g → FldAt w b (o + i * 2) g) :
    ∃ ad, Flds w (.slice ad (m - 1) (c - 1)) F ∧ ∀ wx : World, (Instr.slice t (.slice (some ⟨b, o, none⟩) m c) (some (.int .i64 1)) none none).run P wx = .ok (.slice ad (m - 1) (c - 1)) wx := by
  have hml : F.length = m - 1 := by simp at hm; omega
  refine ⟨if c = 1 then some ⟨b, o, none⟩ else some ⟨b, o + 2, none⟩, ?_, fun wx => ?_⟩
  · refine ⟨_, c - 1, by rw [hml], by omega, by omega, ?_⟩
    by_cases hc1 : c = 1
    · exact .inl (List.eq_nil_of_length_eq_zero (by simp at hm; omega))
    · refine .inr ⟨b, o + 2, by rw [if_neg hc1], fun i g hg => ?_⟩
      have := hc (i + 1) g (by simpa using hg)
      rw [show o + (i + 1) * 2 = o + 2 + i * 2 from by omega] at this
      exact this
  · rw [run_slice_l (w := wx) t (some ⟨b, o, none⟩) m c ht .i64 1 (by omega) (by simp at hm; omega), hz wx]
    simp only [Result.andThen, sliced, Option.map_some, add_row]
    rfl
theorem heap_new_at (w : World) (o : Obj) {g : Nat} (h : g = w.heap.size) : (w.alloc o).heap[g]? = some o := by subst h; exact heap_alloc_new w o
def agg8 (ws : List Int) : Value := .agg (ws.map (Value.int .u32)).toArray
/-- What reading the words gives. -/
def WordsGive (o : Option (List Int)) (w : World) (e : Ending) (w' : World) : Prop := e = .returned (.tuple #[agg8 (o.getD zeros8), .bool o.isSome]) ∧ Below w.heap.size w w'
theorem list8 {l : List Int} (h : l.length = 8) : ∃ a b c d e f g i, l = [a, b, c, d, e, f, g, i] := by
  match l, h with
  | [a, b, c, d, e, f, g, i], _ => exact ⟨a, b, c, d, e, f, g, i, rfl⟩
set_option maxHeartbeats 8000000 in
theorem wordsIn_any (k : Int) (v : Value) (F : List Fld) (w : World) (hk : isKindB k = true) (hm : Masks w) (hF : Flds w v F) (hn : F.length ≤ 1000) :
    Calls Tryd.prog 27 #[.int .u32 k, v] w (WordsGive (stepsW k 6 2 zeros8 F) w) := by
  have HK := Lib.hid hk; have HM := Lib.hid hm; have HFF := Lib.hid hF
  obtain ⟨fa, fc, rfl, _⟩ := hF
  clear hk hm
  go_enter Tryd.func27, Tryd.ntmps27
  go_wp2_with fail
  go_loopw [1, 7] (fun fv t wr => ∃ (j : Nat) (ws : List Int) (R : List Fld), 2 ≤ j ∧ j ≤ 8 ∧ t = .int .u32 j ∧ Hid (Flds w fv R) ∧ R.length ≤ 1000 ∧ Hid (ws.length = 8) ∧ Hid (stepsW k (8 - j) j ws R = stepsW k 6 2 zeros8 F) ∧
      Hid (wr.heap[w.heap.size + 1]? = some (.cells (ws.map (Value.int .u32)).toArray 51 (0, 0))) ∧
      Below (w.heap.size + 1) (w.alloc (.cells #[.int .u32 0, .int .u32 0, .int .u32 0, .int .u32 0, .int .u32 0, .int .u32 0, .int .u32 0, .int .u32 0] 51)) wr) (fun _ t _ => (8 - intOf t).toNat)
  case atStart => exact ⟨2, zeros8, F, by omega, by omega, rfl, HFF, hn, rfl, rfl, Lib.hid (heap_new_at (w.alloc _) (.cells (zeros8.map (Value.int .u32)).toArray 51 (0, 0)) (by simp)), (Below.refl _ _).alloc (by simp) _⟩
  case round =>
    obtain ⟨j, ws, R, h2, h8, rfl, HR, hn, HL, HS, HW, hb⟩ := hrel
    have hbw : Below w.heap.size w wr := ((Below.refl _ _).alloc (Nat.le_refl _) _).trans (hb.mono (by omega))
    have hc : ∀ o, wr.cell? ⟨w.heap.size, o, none⟩ = (w.alloc (.cells #[.int .u32 0, .int .u32 0, .int .u32 0, .int .u32 0, .int .u32 0, .int .u32 0, .int .u32 0, .int .u32 0] 51)).cell? ⟨w.heap.size, o, none⟩ := fun o => hb.cell (p := ⟨w.heap.size, o, none⟩) (by simp)
    have hz : ∀ o, wr.frozen? ⟨w.heap.size, o, none⟩ = (w.alloc (.cells #[.int .u32 0, .int .u32 0, .int .u32 0, .int .u32 0, .int .u32 0, .int .u32 0, .int .u32 0, .int .u32 0] 51)).frozen? ⟨w.heap.size, o, none⟩ := fun o => hb.frozen (p := ⟨w.heap.size, o, none⟩) (by simp)
    by_cases hlt : j < 8
    · have hnx : 8 - j = (8 - (j + 1)) + 1 := by omega
      have hcast : (((j + 1 : Nat)) : Int) = (j : Int) + 1 := by omega
      have HC := Lib.hid hcast; clear hcast
      have HS' := Lib.hid (show stepsW k ((8 - (j + 1)) + 1) j ws R = stepsW k 6 2 zeros8 F by rw [← hnx]; exact HS.out)
      clear hnx HS
      by_cases hh : hasT k j = true
      · have HH := Lib.hid hh; clear hh
        cases R with
        | nil =>
          obtain ⟨ra, rc, rfl, _⟩ := HR.out
          have HE := Lib.hid (show stepsW k 6 2 zeros8 F = none by rw [← HS'.out]; exact steps_nil HH.out)
          go_wp2_with fail
          refine (has_any k j _ HK.out (by omega) (HM.out.below hbw)).mono ?_
          rintro e w3 ⟨rfl, rfl⟩
          rw [HH.out]
          go_wp2_with fail
          refine bodyPost_ret (v := .tuple #[.agg #[.int .u32 0, .int .u32 0, .int .u32 0, .int .u32 0, .int .u32 0, .int .u32 0, .int .u32 0, .int .u32 0], .bool false]) (by simp [results, Tryd.results27, go_sem, hc]) rfl ?_
          refine ⟨by rw [HE.out]; rfl, ?_⟩
          (repeat (refine Below.setCell ?_ (by simp) _)); exact hbw
        | cons f R =>
          obtain ⟨b2, o2, c2, rfl, hl2, hm2, hcell⟩ := HR.out.cells (by simp)
          obtain ⟨m, hmm⟩ : ∃ m, (f :: R).length = m := ⟨_, rfl⟩
          obtain ⟨da, dc, d1, d2, d3⟩ := hcell 0 f rfl
          simp only [Nat.zero_mul, Nat.add_zero] at d1 d2
          have e1 := (hbw.cell (p := ⟨b2, o2, none⟩) (lt_of_cell d1)).trans d1
          have e2 := (hbw.cell (p := ⟨b2, o2 + 1, none⟩) (lt_of_cell d2)).trans d2
          have hD := Lib.hid d3
          rw [hmm] at hl2 hn
          obtain ⟨ad, hR, hsl⟩ := flds_l (P := Tryd.prog) (t := 45) (by kernel_rfl) (fun _ => by kernel_rfl) hmm hl2 hm2 hcell
          have hm0 : 0 < m := by simp at hmm; omega
          have hm1 : (1 : Int) ≤ (m : Int) := by omega
          have ez : ((m : Int) == 0) = false := by rw [beq_eq_false_iff_ne]; omega
          have HR2 := Lib.hid hR; have HMM := Lib.hid hmm; have HCC := Lib.hid hcell
          clear hR hmm hcell d1 d2 d3 HR
          rw [HMM.out]
          by_cases hf : f.1 = (j : Int) ∧ f.2.length = 1
          · obtain ⟨x, rfl⟩ : ∃ x, f = ((j : Int), [x]) := ⟨f.2.getD 0 0, Prod.ext hf.1 (getD_one hf.2)⟩
            have HN := Lib.hid (show stepsW k (8 - (j + 1)) (j + 1) (ws.set j x) R = stepsW k 6 2 zeros8 F by rw [← HS'.out, steps_take HH.out ⟨rfl, rfl⟩]; simp)
            obtain ⟨b3, o3, c3, h3, _, _, hx⟩ := hD.out.cells (by simp)
            simp only [List.length_singleton, Value.slice.injEq, true_and] at h3 e2
            obtain ⟨rfl, rfl⟩ := h3
            have hx0 := hx 0 (by simp)
            simp only [Nat.add_zero, List.getD_cons_zero] at hx0
            have ex := (hbw.cell (p := ⟨b3, o3, none⟩) (lt_of_cell hx0)).trans hx0
            have l1 := lt_of_cell e1
            have l2 := lt_of_cell e2
            have l3 := lt_of_cell ex
            simp only at l1 l2 l3 e1
            clear hf hx hx0
            go_wp2_with fail
            refine (has_any k j _ HK.out (by omega) (HM.out.below hbw)).mono ?_
            rintro e w3 ⟨rfl, rfl⟩
            rw [HH.out]
            go_wp2_with fail
            refine (isOneWord_any j j _ 1 dc _).mono ?_
            rintro e w3 ⟨rfl, hb3⟩
            rw [show decide ((j : Int) = (j : Int) ∧ 1 = 1) = true by simp]
            obtain ⟨hc3, hz3⟩ := bcell hb3
            have hg3 := block_below HW.out hb3
            have hjw : j < ws.length := by rw [HL.out]; exact hlt
            have hcj : w3.cell? ⟨w.heap.size + 1, j, none⟩ = some (.int .u32 (ws.getD j 0)) := by simp [World.cell?, hg3, hjw]
            have hfj : w3.frozen? ⟨w.heap.size + 1, j, none⟩ = false := frozen_of_row w3 _ _ _ _ hg3
            have HG3 := Lib.hid hg3
            clear hg3 hjw
            have hj8 : (j : Int) < 8 := by omega
            go_wp2_with fail
            go_roundw
            case rel =>
              refine ⟨j + 1, ws.set j x, R, by omega, by omega, by go_num, HR2, by have := HMM.out; simp at this; omega, Lib.hid (by rw [List.length_set]; exact HL.out), Lib.hid (by rw [HC.out]; exact HN.out), ?_, ?_⟩
              · refine Lib.hid ((heap_setCell_same w3 (w.heap.size + 1) j _ _ _ HG3.out).trans ?_)
                simp [List.map_set]
              · exact (hb.trans (hb3.mono (by have := hb.size; simp at this; omega))).setCell (by simp) _
            case measure => simp [intOf]; omega
          · have HE := Lib.hid (show stepsW k 6 2 zeros8 F = none by rw [← HS'.out]; exact steps_bad HH.out hf)
            have HB := Lib.hid (show decide (f.1 = (j : Int) ∧ f.2.length = 1) = false from decide_eq_false hf)
            clear hf
            go_wp2_with fail
            refine (has_any k j _ HK.out (by omega) (HM.out.below hbw)).mono ?_
            rintro e w3 ⟨rfl, rfl⟩
            rw [HH.out]
            go_wp2_with fail
            refine (isOneWord_any f.1 j da f.2.length dc _).mono ?_
            rintro e w3 ⟨rfl, hb3⟩
            rw [HB.out]
            obtain ⟨hc3, hz3⟩ := bcell hb3
            have hsz : w.heap.size < wr.heap.size := by have := hb.size; simp at this; omega
            go_wp2_with fail
            refine bodyPost_ret (v := .tuple #[.agg #[.int .u32 0, .int .u32 0, .int .u32 0, .int .u32 0, .int .u32 0, .int .u32 0, .int .u32 0, .int .u32 0], .bool false]) (by simp [results, Tryd.results27, go_sem, hc, hc3, hsz]) rfl ?_
            refine ⟨by rw [HE.out]; rfl, ?_⟩
            (repeat (refine Below.setCell ?_ (by simp) _)); exact hbw.trans (hb3.mono hbw.size)
      · have HH := Lib.hid (show hasT k j = false by simpa using hh); clear hh
        go_wp2_with fail
        refine (has_any k j _ HK.out (by omega) (HM.out.below hbw)).mono ?_
        rintro e w3 ⟨rfl, rfl⟩
        rw [HH.out]
        go_wp2_with fail
        go_roundw
        case rel => exact ⟨j + 1, ws, R, by omega, by omega, by go_num, HR, hn, HL, Lib.hid (by rw [HC.out, ← HS'.out]; exact (steps_skip HH.out).symm), HW, hb⟩
        case measure => simp [intOf]; omega
    · obtain rfl : j = 8 := by omega
      have hs0 : (if R = [] then some ws else none) = stepsW k 6 2 zeros8 F := HS.out
      have HS0 := Lib.hid hs0; clear hs0 HS
      by_cases hR0 : R = []
      · subst hR0
        obtain ⟨ra, rc, rfl, _⟩ := HR.out
        obtain ⟨a0, a1, a2, a3, a4, a5, a6, a7, rfl⟩ := list8 HL.out
        have HE := Lib.hid (show stepsW k 6 2 zeros8 F = some [a0, a1, a2, a3, a4, a5, a6, a7] by rw [← HS0.out]; rfl)
        have g0 : wr.cell? ⟨w.heap.size + 1, 0, none⟩ = some (.int .u32 a0) := by simp [World.cell?, HW.out]
        have g1 : wr.cell? ⟨w.heap.size + 1, 1, none⟩ = some (.int .u32 a1) := by simp [World.cell?, HW.out]
        have g2 : wr.cell? ⟨w.heap.size + 1, 2, none⟩ = some (.int .u32 a2) := by simp [World.cell?, HW.out]
        have g3 : wr.cell? ⟨w.heap.size + 1, 3, none⟩ = some (.int .u32 a3) := by simp [World.cell?, HW.out]
        have g4 : wr.cell? ⟨w.heap.size + 1, 4, none⟩ = some (.int .u32 a4) := by simp [World.cell?, HW.out]
        have g5 : wr.cell? ⟨w.heap.size + 1, 5, none⟩ = some (.int .u32 a5) := by simp [World.cell?, HW.out]
        have g6 : wr.cell? ⟨w.heap.size + 1, 6, none⟩ = some (.int .u32 a6) := by simp [World.cell?, HW.out]
        have g7 : wr.cell? ⟨w.heap.size + 1, 7, none⟩ = some (.int .u32 a7) := by simp [World.cell?, HW.out]
        go_wp2_with fail
        refine bodyPost_ret (v := .tuple #[.agg #[.int .u32 a0, .int .u32 a1, .int .u32 a2, .int .u32 a3, .int .u32 a4, .int .u32 a5, .int .u32 a6, .int .u32 a7], .bool true]) (by simp [results, Tryd.results27, go_sem, hc]) rfl ?_
        refine ⟨by rw [HE.out]; rfl, ?_⟩
        (repeat (refine Below.setCell ?_ (by simp) _)); exact hbw
      · have HE := Lib.hid (show stepsW k 6 2 zeros8 F = none by rw [← HS0.out, if_neg hR0])
        have hrl := List.length_pos_iff.2 hR0
        obtain ⟨ra, rc, rfl, _⟩ := HR.out
        have ez : ((R.length : Int) != 0) = true := by rw [bne_iff_ne]; omega
        clear hR0
        go_wp2_with fail
        refine bodyPost_ret (v := .tuple #[.agg #[.int .u32 0, .int .u32 0, .int .u32 0, .int .u32 0, .int .u32 0, .int .u32 0, .int .u32 0, .int .u32 0], .bool false]) (by simp [results, Tryd.results27, go_sem, hc]) rfl ?_
        refine ⟨by rw [HE.out]; rfl, ?_⟩
        (repeat (refine Below.setCell ?_ (by simp) _)); exact hbw
end Go.Proofs.YthpcnekidlhfpaaDoor
