/- Each operation does what was said: literals of slices, what is put behind, parts. -/
import Derived.Test.YtgkfbikffcmmdaaAbsS4
set_option linter.unusedSimpArgs false
set_option linter.unusedVariables false
set_option maxRecDepth 100000
namespace Go.Proofs.Ytgkfbikffcmmdaa.Abs
open Go.RowKit
section
variable {P : Program} {c : Ctx} {w : World} {σ : St} {a : Act} {base : Nat} {S0 : Sh} {w0 : W0}

theorem rowsOK_cons {m : Mem} {esz : Nat} {p : Nat × AV} {l : List (Nat × AV)} : rowsOK m esz (p :: l) ↔ (p.2.cells.length = esz ∧ cloAll m p.2.cells) ∧ rowsOK m esz l := by
  cases l with
  | nil => simp [rowsOK]
  | cons y l => simp [rowsOK]
theorem idx_zip : ∀ {ps : List (Nat × Operand)} {k : Nat} {g : Operand → AV} {h : Operand → Value}, idxOK (partsA g ps) k = true → (ps.map fun p => (p.1, h p.2)) = ((ps.map fun p => h p.2).zipIdx k).map fun x => (x.2, x.1) := by
  intro ps
  induction ps with
  | nil => intro k g h _; rfl
  | cons p ps ih =>
    intro k g h e
    simp only [partsA, List.map_cons, idxOK, Bool.and_eq_true] at e
    have e1 : p.1 = k := by simpa using e.1
    simp only [List.map_cons, List.zipIdx_cons]
    rw [ih e.2, e1]
theorem toLists {S : Sh} : ∀ {xss : List (List CV)} {vs : List Value}, F2 (fun (us : List CV) (v : Value) => F2 (R S w) us v.cells.toList) xss vs → F2 (F2 (R S w)) xss (vs.map fun v => v.cells.toList) := fun h => ⟨by simp [h.1], fun i x y hx hy => by
  simp only [List.getElem?_map, Option.map_eq_some_iff] at hy
  obtain ⟨v, hv, rfl⟩ := hy
  exact h.2 i x v hx hv⟩
theorem buildSlice_ok {o : Oper} {T : TypeId} {len : Nat} {ps : Array (Nat × Operand)} (ho : o.op = .buildSlice T len ps) : OpOK P o σ (rBuildSlice P o.dst T len (partsA (ev σ) ps.toList)) := by
  unfold rBuildSlice
  split
  · rename_i s1 s2 s3 s4 e esz ht
    obtain ⟨hd, ie, z, hie, hz, hsz, hby, hzs, hpos, hz1⟩ := slice_shape ht
    split
    · rename_i d hdst
      intro ro base S0 w0 c a w K Q h1 h2 h3 h4
      simp only [Req.eff, Req.mem, cond_true] at h3 h4
      generalize hids : ownIds ((partsA (ev σ) ps.toList).map fun p => p.2.cells).flatten = ids at h3 h4
      cases hm : σ.m d with
      | some b => simp only [only_in (List.mem_cons_self ..), hm] at h3
      | none =>
        simp only [only_in (List.mem_cons_self ..), hm, only_cons hm] at h3 h4
        obtain ⟨e1, e2, e3, e4, e5⟩ := h3
        obtain ⟨c1, g1, r1⟩ := freezes ids h2
        have hd1 : mrg ids (frz σ.m) σ.m d = none := by
          unfold mrg
          cases hasN ids d
          · exact hm
          · show frzB (σ.m d) = none
            rw [hm]; rfl
        -- the parts, shown
        have hparts : ∀ (l : List (Nat × Operand)), allFlat (partsA (ev σ) l) = true → rowsOK (only ids σ.m) esz (partsA (ev σ) l) → (∀ i ∈ ownIds ((partsA (ev σ) l).map fun p => p.2.cells).flatten, i ∈ ids) →
            F2 (fun (us : List CV) (v : Value) => F2 (R c1.S w) us v.cells.toList) ((partsA (ev σ) l).map fun p => p.2.cells.map (clo (only ids σ.m))) (l.map fun p => a.eval p.2) ∧ ∀ us ∈ (partsA (ev σ) l).map fun p => p.2.cells.map (clo (only ids σ.m)), us.length = esz := by
          intro l
          induction l with
          | nil => intro _ _ _; exact ⟨F2.nil, fun us hu => by simp [partsA] at hu⟩
          | cons p l ih =>
            intro f1 f2 f3
            simp only [partsA, List.map_cons, allFlat, Bool.and_eq_true] at f1
            simp only [partsA, List.map_cons] at f2 f3 ⊢
            obtain ⟨⟨p1, p2⟩, p3⟩ := rowsOK_cons.1 f2
            simp only [List.flatten_cons, ownIds_append, List.mem_append] at f3
            obtain ⟨q1, q2⟩ := ih f1.2 p3 fun i hi => f3 i (.inr hi)
            have hv := (ev_ok h1 p.2).goes g1
            obtain ⟨vs, hvs, hcv⟩ := cellsOf_ok hv f1.1
            refine ⟨F2.cons ?_ q1, fun us hu => ?_⟩
            · rw [hvs]
              exact cloCells_ok r1 hcv p2 fun i hi => f3 i (.inl hi)
            · rcases List.mem_cons.1 hu with rfl | hu
              · simpa using p1
              · exact q2 us hu
        obtain ⟨q1, q2⟩ := hparts ps.toList e1 e5 (fun i hi => by rw [← hids]; exact hi)
        have hlen : (ps.toList.map fun p => a.eval p.2).length = len := by rw [← e3]; simp [partsA]
        -- the cells
        have hcells : ∀ v ∈ ps.toList.map fun p => a.eval p.2, v.cells.size = esz := fun v hv => by
          obtain ⟨i, hi, rfl⟩ := List.getElem_of_mem hv
          obtain ⟨us, hu, hq⟩ := q1.get' (List.getElem?_eq_getElem hi)
          have := hq.1
          rw [q2 us (List.mem_of_getElem? hu)] at this
          simpa using this.symm
        have hrun : (execOp a.eval o).run P w = .ok (.value (.slice (some ⟨w.heap.size, 0, none⟩) len len)) (w.alloc (.cells (((ps.toList.map fun p => a.eval p.2).map fun v => v.cells.toList).flatten).toArray e)) := by
          have hpv : (ps.map fun (i, x) => (i, a.eval x)).toList = ((ps.toList.map fun p => a.eval p.2).zipIdx 0).map fun x => (x.2, x.1) := by
            rw [← idx_zip (g := ev σ) (h := a.eval) e2]
            simp
          by_cases hl0 : len = 0
          · subst hl0
            have hnil : ps.toList = [] := List.eq_nil_of_length_eq_zero (by simpa using hlen)
            have hps : ps = #[] := by simpa using hnil
            subst hps
            simp [execOp, ho, Instr.buildSlice, run_underlying hd, run_sizeOf hie, Instr.fill, newRow_run]
            rw [show Array.map (fun (_ : Nat) => (default : Value)) (Array.range 0) = #[] by apply Array.eq_empty_of_size_eq_zero; simp]
          · have hp : ¬ len * ie.size = 0 := by rw [hsz]; exact fun e => by rcases Nat.mul_eq_zero.1 e with h | h <;> omega
            have hs : ¬ len * ie.size > 2 ^ 24 := by rw [hsz]; omega
            have hfill := Great.fill_whole hpos (ps.toList.map fun p => a.eval p.2) ((Array.range (len * ie.size)).map (z.cells[· % z.cells.size]!)) hcells (by rw [hlen]; simp [hsz])
            rw [← hsz] at hfill
            have := run_buildSlice (P := P) w T e len (ps.map fun (i, x) => (i, a.eval x)) _ ie z hd hie hz hs hp (by rw [hpv]; exact hfill)
            rw [List.flatMap_def] at this
            simp [execOp, ho, this]
        refine wpo_run (hrun) rfl ?_
        have hrl := toLists q1
        have hlen2 : ((partsA (ev σ) ps.toList).map fun p => p.2.cells.map (clo (only ids σ.m))).length = len := by rw [← e3]; simp
        have hle : len ≤ 1073741824 := by
          have := Nat.mul_le_mul_left len hpos
          rw [Nat.mul_one] at this
          omega
        have hflat : (((ps.toList.map fun p => a.eval p.2).map fun v => v.cells.toList).flatten).length = len * esz := by
          rw [← hlen]
          generalize (ps.toList.map fun p => a.eval p.2) = vs at hcells
          clear hrl hlen
          induction vs with
          | nil => simp
          | cons v vs ih =>
            simp only [List.map_cons, List.flatten_cons, List.length_append, List.length_cons]
            rw [ih (fun u hu => hcells u (by simp [hu]))]
            have := hcells v (by simp)
            simp only [Array.length_toList, this]
            rw [Nat.succ_mul]; omega
        have hown : (w.alloc (.cells (((ps.toList.map fun p => a.eval p.2).map fun v => v.cells.toList).flatten).toArray e)).ownsRow w.heap.size e esz (.slice (some ⟨w.heap.size, 0, none⟩) len len) len ((ps.toList.map fun p => a.eval p.2).map fun v => v.cells.toList).flatten := by
          refine ⟨hflat, .inr ⟨w.heap.size, len, _, rfl, Nat.le_refl _, heap_alloc_new w _, Nat.le_refl _, small len hle, by simpa using hflat, by rw [← hflat]; exact List.take_length⟩⟩
        obtain ⟨g2, r2, v2⟩ := r1.rows hd1 (e := e) (sz := esz) (xs := (partsA (ev σ) ps.toList).map fun p => p.2.cells.map (clo (only ids σ.m))) (v := .slice (some ⟨w.heap.size, 0, none⟩) len len) ((Below.refl _ _).alloc (Nat.le_refl _) _) q2 hpos (by rw [hlen2]; exact hle) hrl (by rw [hlen2]; exact hown)
        have hmm : mrg (d :: ids) (fun i => bif i == d then some (.rows e esz ((partsA (ev σ) ps.toList).map fun p => p.2.cells.map (clo (only ids σ.m)))) else frz (only ids σ.m) i) σ.m = upd (mrg ids (frz σ.m) σ.m) d (some (.rows e esz ((partsA (ev σ) ps.toList).map fun p => p.2.cells.map (clo (only ids σ.m))))) := by
          rw [← only_cons (ids := ids) hm]
          exact mrg_cons
        rw [hmm] at h4
        rw [hlen2] at v2
        exact h4 _ _ _ (g1.trans g2) r2 v2
    · exact OpOK.bad
  · exact OpOK.bad

/-! What is put behind. -/
theorem flat_ok {S : Sh} {ys : List (List CV)} {vss : List (List Value)} {sz : Nat} (h : F2 (F2 (R S w)) ys vss) (hsz : ∀ us ∈ ys, us.length = sz) : (∀ u ∈ vss, u.length = sz) ∧ vss.flatten.length = ys.length * sz ∧ ∀ u ∈ vss.flatten, u.oneCell' = true := by
  have h1 : ∀ u ∈ vss, u.length = sz := fun u hu => by
    obtain ⟨i, hi, rfl⟩ := List.getElem_of_mem hu
    obtain ⟨x, hx, hq⟩ := h.get' (List.getElem?_eq_getElem hi)
    rw [← hq.1]
    exact hsz x (List.mem_of_getElem? hx)
  refine ⟨h1, ?_, fun u hu => ?_⟩
  · rw [h.1]
    clear h hsz
    induction vss with
    | nil => simp
    | cons v vs ih =>
      simp only [List.flatten_cons, List.length_append, List.length_cons]
      rw [ih (fun u hu => h1 u (by simp [hu])), h1 v (by simp), Nat.succ_mul]; omega
  · obtain ⟨t, ht, hut⟩ := List.mem_flatten.1 hu
    obtain ⟨i, hi, rfl⟩ := List.getElem_of_mem ht
    obtain ⟨x, hx, hq⟩ := h.get' (List.getElem?_eq_getElem hi)
    obtain ⟨j, hj, rfl⟩ := List.getElem_of_mem hut
    obtain ⟨y, _, hy⟩ := hq.get' (List.getElem?_eq_getElem hj)
    exact R.one hy
theorem holds_parts {b o sz : Nat} : ∀ {vss : List (List Value)}, (∀ u ∈ vss, u.length = sz) → (∀ i vs, vss[i]? = some vs → Holds w b (o + i * sz) vs) → Holds w b o vss.flatten := by
  intro vss
  induction vss generalizing o with
  | nil => intro _ _ j u h; simp at h
  | cons v vss ih =>
    intro h1 h2 j u hj
    rw [List.flatten_cons] at hj
    have hv := h1 v (by simp)
    by_cases hjl : j < v.length
    · rw [List.getElem?_append_left hjl] at hj
      have := h2 0 v rfl j u hj
      simpa using this
    · rw [List.getElem?_append_right (by omega)] at hj
      have := ih (o := o + sz) (fun u hu => h1 u (by simp [hu])) (fun i vs hi => by
        have := h2 (i + 1) vs (by simpa using hi)
        rw [show o + sz + i * sz = o + (i + 1) * sz by rw [Nat.succ_mul]; omega]
        exact this) (j - v.length) u hj
      rw [hv] at this
      rwa [show o + sz + (j - sz) = o + j by omega] at this
theorem R.flat {S : Sh} {k : Nat} {ys : List (List CV)} {v : Value} {sz : Nat} (h : R S w (.rowc k ys) v) (hsz : ∀ us ∈ ys, us.length = sz) :
    (v = .slice none 0 0 ∧ ys = []) ∨ ∃ ad cap vss, v = .slice (some ad) ys.length cap ∧ F2 (F2 (R S w)) ys vss ∧ ∀ j u, vss.flatten[j]? = some u → w.cell? (ad.add j) = some u := by
  by_cases hz : ys = []
  · subst hz
    cases h with
    | nil => exact .inl ⟨rfl, rfl⟩
    | bare h => exact .inr ⟨_, _, [], rfl, F2.nil, fun j u hj => by simp at hj⟩
    | row g h1 => exact absurd rfl h1
  · obtain ⟨b, o, cap, he, _⟩ := h.elem (List.getElem?_eq_getElem (List.length_pos_iff.2 hz))
    have each : ∀ i us, ys[i]? = some us → ∃ vs, F2 (R S w) us vs ∧ Holds w b (o + i * sz) vs := fun i us hi => by
      obtain ⟨b2, o2, cap2, he2, _, _, vs, k1, k2⟩ := h.elem hi
      rw [he] at he2
      simp at he2
      obtain ⟨⟨rfl, rfl⟩, _⟩ := he2
      rw [hsz us (List.mem_of_getElem? hi)] at k2
      exact ⟨vs, k1, k2⟩
    have all : ∀ n, n ≤ ys.length → ∃ vss : List (List Value), vss.length = n ∧ ∀ i us vs, ys[i]? = some us → vss[i]? = some vs → F2 (R S w) us vs ∧ Holds w b (o + i * sz) vs := by
      intro n
      induction n with
      | zero => intro _; exact ⟨[], rfl, fun i us vs _ h => by simp at h⟩
      | succ n ih =>
        intro hn
        obtain ⟨vss, h1, h2⟩ := ih (by omega)
        obtain ⟨vs, k1, k2⟩ := each n ys[n] (List.getElem?_eq_getElem (by omega))
        refine ⟨vss ++ [vs], by simp [h1], fun i us us2 hi hj => ?_⟩
        by_cases hin : i < vss.length
        · rw [List.getElem?_append_left hin] at hj
          exact h2 i us us2 hi hj
        · rw [List.getElem?_append_right (by omega)] at hj
          have : i = n := by
            rcases Nat.lt_or_ge (i - vss.length) 1 with h | h
            · omega
            · rw [List.getElem?_eq_none (by simpa using h)] at hj; simp at hj
          subst this
          rw [h1] at hj
          simp at hj
          subst hj
          rw [List.getElem?_eq_getElem (by omega)] at hi
          cases hi
          exact ⟨k1, k2⟩
    obtain ⟨vss, h1, h2⟩ := all _ (Nat.le_refl _)
    have hF : F2 (F2 (R S w)) ys vss := ⟨h1.symm, fun i us vs hi hj => (h2 i us vs hi hj).1⟩
    refine .inr ⟨⟨b, o, none⟩, cap, vss, he, hF, fun j u hj => ?_⟩
    rw [add_row]
    refine holds_parts (flat_ok hF hsz).1 (fun i vs hi => ?_) j u hj
    have hil : i < ys.length := by rw [← h1]; exact (List.getElem?_eq_some_iff.1 hi).1
    exact (h2 i ys[i] vs (List.getElem?_eq_getElem hil) hi).2
theorem own_flat {base : Nat} {e : TypeId} {sz n : Nat} {v : Value} {xs : List Value} (h : w.ownsRow base e sz v n xs) : (v = .slice none 0 0 ∧ n = 0) ∨ ∃ ad cap, v = .slice (some ad) n cap ∧ ∀ j u, xs[j]? = some u → w.cell? (ad.add j) = some u := by
  have hown := h
  rcases h.2 with h0 | ⟨g, cap, cur, rfl, _⟩
  · exact .inl h0
  · refine .inr ⟨⟨g, 0, none⟩, cap, rfl, fun j u hj => ?_⟩
    have hjl : j < n * sz := by rw [← h.1]; exact (List.getElem?_eq_some_iff.1 hj).1
    rw [add_row, Nat.zero_add, hown.cellAt j hjl]
    exact hj
theorem src_ok {m : Mem} {c : Ctx} {x : AV} {v : Value} {ys : List (List CV)} {sz : Nat} (h : WR base S0 w0 c m w) (hv : VV c w m x v) (hx : srcOf m x = some ys) (hok : srcOK m x) (hsz : ∀ us ∈ ys, us.length = sz) :
    (v = .slice none 0 0 ∧ ys = []) ∨ ∃ ad cap vss, v = .slice (some ad) ys.length cap ∧ F2 (F2 (R c.S w)) ys vss ∧ ∀ j u, vss.flatten[j]? = some u → w.cell? (ad.add j) = some u := by
  unfold srcOf at hx
  split at hx
  · cases hx; exact R.flat hv hsz
  · cases hx; obtain ⟨_, _, hv⟩ := hv; exact R.flat hv hsz
  · cases hx; exact .inl ⟨hv, rfl⟩
  · cases hx
    obtain ⟨a, k, h1, _⟩ := hv
    exact .inr ⟨a, k, [], h1, F2.nil, fun j u hj => by simp at hj⟩
  · rename_i id n
    obtain ⟨_, L, hL, hn, hq⟩ := hv
    simp only [srcOK] at hok
    split at hx
    · rename_i e sz2 zs hm
      cases hx
      simp only [hm] at hok
      have hL' : ys.length = L := by simpa [rowLen, hm] using hL
      obtain ⟨_, _, _, _, vss, p5, p6⟩ := h.blk id _ hm
      rw [hq (by omega)]
      rcases own_flat p6 with ⟨f1, f2⟩ | ⟨ad, cap, f1, f2⟩
      · exact .inl ⟨f1, List.eq_nil_of_length_eq_zero f2⟩
      · exact .inr ⟨ad, cap, vss, f1, p5, f2⟩
    · rename_i zs hm
      cases hx
      simp only [hm] at hok
      have hL' : ys.length = L := by simpa [rowLen, hm] using hL
      rw [hq (by omega)]
      exact R.flat (h.blk id _ hm) hsz
    · rename_i j e sz2 zs hm
      cases hx
      simp only [hm] at hok
      have hL' : ys.length = L := by simpa [rowLen, hm] using hL
      obtain ⟨_, _, _, _, _, vss, p5, p6⟩ := h.blk id _ hm
      rw [hq (by omega)]
      rcases own_flat p6 with ⟨f1, f2⟩ | ⟨ad, cap, f1, f2⟩
      · exact .inl ⟨f1, List.eq_nil_of_length_eq_zero f2⟩
      · exact .inr ⟨ad, cap, vss, f1, p5, f2⟩
    · simp at hx
  · simp at hx
end
end Go.Proofs.Ytgkfbikffcmmdaa.Abs
