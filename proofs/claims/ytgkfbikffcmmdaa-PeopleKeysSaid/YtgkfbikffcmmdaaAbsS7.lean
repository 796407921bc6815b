/- Each operation does what was said: all of them; and what stands by itself: places in rows. -/
import Derived.Test.YtgkfbikffcmmdaaAbsS6
set_option linter.unusedSimpArgs false
set_option linter.unusedVariables false
set_option maxRecDepth 100000
namespace Go.Proofs.Ytgkfbikffcmmdaa.Abs
open Go.RowKit
section
variable {P : Program} {c : Ctx} {w : World} {σ : St} {a : Act} {base : Nat} {S0 : Sh} {w0 : W0}

theorem R.part {S : Sh} {kc : Nat} {xs : List (List CV)} {v : Value} {esz : Nat} (h : R S w (.rowc kc xs) v) (hsz : ∀ us ∈ xs, us.length = esz) (l k : Nat) (hl : l + k ≤ xs.length) :
    ∃ ad cap, v = .slice ad xs.length cap ∧ cap ≤ maxLen ∧ xs.length ≤ cap ∧ R S w (.rowc kc ((xs.drop l).take k)) (.slice (if cap = l then ad else ad.map (·.add (l * esz))) k (cap - l)) := by
  have hlen : ((xs.drop l).take k).length = k := by simp; omega
  cases h with
  | nil =>
    have : l = 0 := by simp at hl; omega
    have hk : k = 0 := by simp at hl; omega
    subst this hk
    exact ⟨none, 0, rfl, by simp, by simp, by simpa using R.nil⟩
  | bare h =>
    rename_i ad cap
    have : l = 0 := by simp at hl; omega
    have hk : k = 0 := by simp at hl; omega
    subst this hk
    refine ⟨some ad, cap, rfl, h, by simp, ?_⟩
    simp only [List.drop_zero, List.take_zero, Nat.zero_mul, Nat.sub_zero]
    split
    · exact R.bare h
    · exact R.bare h
  | row g h1 h2 h3 h4 h5 h6 h7 =>
    rename_i b o cap sz
    have hs : sz = esz := by
      obtain ⟨us, hus⟩ := List.exists_mem_of_ne_nil xs h1
      rw [← h5 us hus, hsz us hus]
    subst hs
    refine ⟨some ⟨b, o, none⟩, cap, rfl, h3, h2, ?_⟩
    by_cases hk : k = 0
    · subst hk
      rw [List.take_zero]
      split
      · exact R.bare (by omega)
      · exact R.bare (by omega)
    · have hcl : ¬ cap = l := by omega
      rw [if_neg hcl]
      have hadd : (some (⟨b, o, none⟩ : Addr)).map (·.add (l * sz)) = some ⟨b, o + l * sz, none⟩ := by simp [add_row]
      rw [hadd]
      have hrow : ∀ (ys : List (List CV)), ys = (xs.drop l).take k → ys.length = k → R S w (.rowc kc ys) (.slice (some ⟨b, o + l * sz, none⟩) ys.length (cap - l)) := fun ys e hk' => by
        have hget : ∀ i us, ys[i]? = some us → xs[l + i]? = some us := fun i us hi => by
          rw [e, List.getElem?_take] at hi
          split at hi
          · simpa using hi
          · simp at hi
        refine R.row (sz := sz) (fun i j => g (l + i) j) (fun e => by rw [e] at hk'; simp at hk'; omega) (by omega) (by omega) h4 (fun us hu => ?_) (fun i us hi j hj => ?_) (fun i us hi j u hu => ?_)
        · obtain ⟨i, hi, rfl⟩ := List.getElem_of_mem hu
          exact h5 _ (List.mem_of_getElem? (hget i _ (List.getElem?_eq_getElem hi)))
        · rw [show o + l * sz + i * sz = o + (l + i) * sz by rw [Nat.add_mul]; omega]
          exact h6 (l + i) us (hget i us hi) j hj
        · exact h7 (l + i) us (hget i us hi) j u hu
      have := hrow _ rfl hlen
      rwa [hlen] at this
theorem bound_run {k : IntKind} {i : Int} {y : Nat} {code : BoundsCode} (h0 : 0 ≤ i) (h1 : i ≤ (y : Int)) : (Instr.sliceBound (.int k i) y code).run P w = .ok i.toNat w := by
  simp [Instr.sliceBound, asIntOf, h0, h1]
theorem bnd_ok (h1 : Tm c w σ a) {lo : Option Operand} {d : Nat} {l : Int} (h : bndOf (lo.map (ev σ)) d = some l) : (lo.map a.eval = none ∧ l = d) ∨ ∃ k, lo.map a.eval = some (.int k l) := by
  cases lo with
  | none => simp [bndOf] at h; exact .inl ⟨rfl, h.symm⟩
  | some y =>
    right
    simp only [Option.map_some] at h ⊢
    have hvy := ev_ok h1 y
    generalize ev σ y = q at h hvy
    unfold bndOf at h
    split at h
    · simp at *
    · rename_i k i heq
      cases heq
      cases h
      exact ⟨k, by rw [R.val hvy]⟩
    · simp at h
theorem slice_run {T e : TypeId} {ie : TypeInfo} {esz : Nat} (hd : P.underlying T = some (.slice e)) (hie : P.info? e = some ie) (hsz : ie.size = esz) {S : Sh} {kc : Nat} {xs : List (List CV)} {v : Value} (hv : R S w (.rowc kc xs) v) (e4 : ∀ us ∈ xs, us.length = esz) {l h : Int} {vl vh : Option Value}
    (hlo : (vl = none ∧ l = ((0 : Nat) : Int)) ∨ ∃ k, vl = some (.int k l)) (hhi : (vh = none ∧ h = (xs.length : Int)) ∨ ∃ k, vh = some (.int k h)) (e1 : 0 ≤ l) (e2 : l ≤ h) (e3 : h ≤ (xs.length : Int)) :
    ∃ u, (Instr.sliceAt T v vl vh none).run P w = .ok u w ∧ R S w (.rowc kc (partOf xs l h)) u := by
  obtain ⟨ad, cap, f1, f2, f3, f4⟩ := R.part hv e4 l.toNat (h.toNat - l.toNat) (by omega)
  have hb1 : l ≤ (h.toNat : Int) := by omega
  have hb2 : h ≤ (cap : Int) := by omega
  have h0 : 0 ≤ h := by omega
  have key : (Instr.sliceBounds true xs.length cap vl vh none).run P w = .ok (l.toNat, h.toNat, cap) w := by
    rcases hlo with ⟨q1, q2⟩ | ⟨k1, q1⟩ <;> rcases hhi with ⟨q3, q4⟩ | ⟨k2, q3⟩
    · subst q2 q4; simp [Instr.sliceBounds, q1, q3]
    · subst q2; simp [Instr.sliceBounds, q1, q3, bound_run h0 hb2]
    · subst q4; simp [Instr.sliceBounds, q1, q3, bound_run e1 e2]
    · simp [Instr.sliceBounds, q1, q3, bound_run h0 hb2, bound_run e1 hb1]
  have hrun : (Instr.sliceAt T v vl vh none).run P w = .ok (.slice (if cap = l.toNat then ad else ad.map (·.add (l.toNat * esz))) (h.toNat - l.toNat) (cap - l.toNat)) w := by
    have := run_sizeOf (P := P) (w := w) hie
    simp [Instr.sliceAt, Instr.slice, run_underlying hd, f1, key, this, hsz]
  exact ⟨_, hrun, f4⟩
theorem slice3_run {T e : TypeId} {ie : TypeInfo} {esz : Nat} (hd : P.underlying T = some (.slice e)) (hie : P.info? e = some ie) (hsz : ie.size = esz) {S : Sh} {kc : Nat} {xs : List (List CV)} {v : Value} (hv : R S w (.rowc kc xs) v) (e4 : ∀ us ∈ xs, us.length = esz) {l h : Int} {vl : Option Value} {k2 k3 : IntKind}
    (hlo : (vl = none ∧ l = ((0 : Nat) : Int)) ∨ ∃ k, vl = some (.int k l)) (e1 : 0 ≤ l) (e2 : l ≤ h) (e3 : h ≤ (xs.length : Int)) :
    ∃ ad, (Instr.sliceAt T v vl (some (.int k2 h)) (some (.int k3 h))).run P w = .ok (.slice ad (partOf xs l h).length (partOf xs l h).length) w ∧ R S w (.rowc kc (partOf xs l h)) (.slice ad (partOf xs l h).length (partOf xs l h).length) := by
  obtain ⟨ad, cap, f1, f2, f3, f4⟩ := R.part hv e4 l.toNat (h.toNat - l.toNat) (by omega)
  have hb1 : l ≤ (h.toNat : Int) := by omega
  have hb2 : h ≤ (cap : Int) := by omega
  have hb3 : h ≤ (h.toNat : Int) := by omega
  have h0 : 0 ≤ h := by omega
  have key : (Instr.sliceBounds true xs.length cap vl (some (.int k2 h)) (some (.int k3 h))).run P w = .ok (l.toNat, h.toNat, h.toNat) w := by
    rcases hlo with ⟨q1, q2⟩ | ⟨k1, q1⟩
    · subst q2; simp [Instr.sliceBounds, q1, bound_run h0 hb2, bound_run h0 hb3]
    · simp [Instr.sliceBounds, q1, bound_run h0 hb2, bound_run h0 hb3, bound_run e1 hb1]
  have hlen : (partOf xs l h).length = h.toNat - l.toNat := by simp [partOf]; omega
  have hrun : (Instr.sliceAt T v vl (some (.int k2 h)) (some (.int k3 h))).run P w = .ok (.slice (if h.toNat = l.toNat then ad else ad.map (·.add (l.toNat * esz))) (h.toNat - l.toNat) (h.toNat - l.toNat)) w := by
    have := run_sizeOf (P := P) (w := w) hie
    simp [Instr.sliceAt, Instr.slice, run_underlying hd, f1, key, this, hsz]
  refine ⟨_, by rw [hlen]; exact hrun, ?_⟩
  -- the same cells, with no room behind them
  change R S w (.rowc kc (partOf xs l h)) _ at f4
  by_cases hz : h.toNat = l.toNat
  · have hnil : partOf xs l h = [] := List.eq_nil_of_length_eq_zero (by rw [hlen]; omega)
    rw [hnil, hz, if_pos rfl]
    cases ad with
    | none => exact R.nil
    | some p => exact R.bare (by simp)
  · rw [if_neg hz]
    have hne : partOf xs l h ≠ [] := fun e => by rw [e] at hlen; simp at hlen; omega
    have hcl : ¬ cap = l.toNat := by omega
    rw [if_neg hcl, ← hlen] at f4
    have hle : (partOf xs l h).length ≤ maxLen := by omega
    generalize partOf xs l h = ys at *
    generalize (ad.map (·.add (l.toNat * esz))) = ad2 at *
    generalize cap - l.toNat = cc at f4
    cases f4 with
    | nil => exact absurd rfl hne
    | bare h => exact absurd rfl hne
    | row g h1 h2 h3 h4 h5 h6 h7 => exact R.row g h1 (Nat.le_refl _) hle h4 h5 h6 h7
theorem fieldV_ok {o : Oper} {T : TypeId} {x : Operand} {f : Nat} (ho : o.op = .field T x f) : OpOK P o σ (rFieldV P T (ev σ x) f) := by
  unfold rFieldV
  split
  · rename_i s1 s2 s3 s4 fs ht
    obtain ⟨fields, hd, rfl, hall⟩ := field_shape ht
    split
    · rename_i off sz ag cs hf hx
      simp only [List.getElem?_map, Option.map_eq_some_iff] at hf
      obtain ⟨fd, hf1, hf2⟩ := hf
      simp only [fldOf, Prod.mk.injEq] at hf2
      obtain ⟨rfl, rfl, hag⟩ := hf2
      have hf1' : fields[f]? = some fd := by simpa using hf1
      obtain ⟨ie, hie⟩ := Option.isSome_iff_exists.1 (hall fd (List.mem_of_getElem? hf1)).1
      obtain ⟨d, hu⟩ := Option.isSome_iff_exists.1 (hall fd (List.mem_of_getElem? hf1)).2
      have hsz : P.cellsOf fd.type = ie.size := by simp [Program.cellsOf, hie]
      simp only [hu] at hag
      subst hag
      · cases hb : isAggD d with
        | true =>
          refine OpOK.val fun base S0 w0 c a w h1 h2 h3 => ?_
          have hv := ev_ok h1 x
          rw [hx] at hv
          obtain ⟨vs, e1, e2⟩ := hv
          refine ⟨.agg ((vs.drop fd.offset).take ie.size).toArray, ?_, _, rfl, by rw [hsz]; exact (e2.drop _).take _⟩
          have hex : vs.toArray.extract fd.offset (fd.offset + ie.size) = ((vs.drop fd.offset).take ie.size).toArray := by
            simp [List.extract_toArray, List.extract]
          simp [execOp, ho, Instr.field, run_underlying hd, hf1', e1, asAgg, Go.part, run_agg hu, hb, run_sizeOf hie, hex]
        | false =>
          simp only [cond_false]
          split
          · rename_i y hy
            refine OpOK.val fun base S0 w0 c a w h1 h2 h3 => ?_
            have hv := ev_ok h1 x
            rw [hx] at hv
            obtain ⟨vs, e1, e2⟩ := hv
            obtain ⟨v, hv1, hv2⟩ := e2.get hy
            exact ⟨v, by simp [execOp, ho, Instr.field, run_underlying hd, hf1', e1, asAgg, Go.part, run_agg hu, hb, hv1], hv2⟩
          · exact OpOK.bad
    · exact OpOK.bad
  · exact OpOK.bad
theorem part_ok {m : Mem} {T : TypeId} {ti : TI} (ht : TIs P T ti) {cs : List A} {vs : List Value} {off : Nat} (hcs : F2 (VA c w m) cs vs) (hok : (rd ti cs off).1) :
    ∃ v, (Go.part T vs.toArray off).run P w = .ok v w ∧ VV c w m (rd ti cs off).2 v := by
  obtain ⟨i, d, z, hi, hd, hz, _, rfl⟩ := ht
  unfold rd at hok ⊢
  cases hagg : isAggD d with
  | true =>
    simp only [hagg, cond_true] at hok ⊢
    refine ⟨.agg ((vs.drop off).take i.size).toArray, ?_, _, rfl, (hcs.drop off).take _⟩
    have hex : vs.toArray.extract off (off + i.size) = ((vs.drop off).take i.size).toArray := by
      simp [List.extract_toArray, List.extract]
    simp [Go.part, run_agg hd, hagg, run_sizeOf hi, hex]
  | false =>
    simp only [hagg, cond_false] at hok ⊢
    cases hx : cs[off]? with
    | none => rw [hx] at hok; exact hok.elim
    | some x =>
      obtain ⟨v, hv1, hv2⟩ := hcs.get hx
      exact ⟨v, by simp [Go.part, run_agg hd, hagg, hv1], hv2⟩
theorem indexV_ok {o : Oper} {T : TypeId} {x i : Operand} (ho : o.op = .index T x i) : OpOK P o σ (rIndexV P T (ev σ x) (ev σ i)) := by
  unfold rIndexV
  split
  · rename_i s1 s2 s3 s4 len e esz ht
    obtain ⟨hd, hc⟩ := arr_shape ht
    split
    · rename_i ti hte
      split
      · rename_i cs k j hx hi
        refine OpOK.val fun base S0 w0 c a w h1 h2 h3 => ?_
        have hv := ev_ok h1 x
        rw [hx] at hv
        have hj := ev_ok h1 i
        rw [hi] at hj
        have hj : a.eval i = .int k j := R.val hj
        obtain ⟨vs, e1, e2⟩ := hv
        obtain ⟨p1, p2, p3, p4⟩ := h3
        obtain ⟨v, q1, q2⟩ := part_ok (P := P) (tinfo_is hte) e2 p4
        obtain ⟨ie, de, ze, hie, _, _, _, hti⟩ := tinfo_is hte
        have hsz : ie.size = esz := by rw [← p3, hti]
        have hlt : j < (len : Int) := by omega
        refine ⟨v, ?_, q2⟩
        simp only [execOp, ho]
        simp [Instr.index, asIntOf, run_underlying hd, e1, hj, p1, hlt, run_sizeOf hie, hsz, q1]
      · exact OpOK.bad
    · exact OpOK.bad
  · exact OpOK.bad
end
end Go.Proofs.Ytgkfbikffcmmdaa.Abs
