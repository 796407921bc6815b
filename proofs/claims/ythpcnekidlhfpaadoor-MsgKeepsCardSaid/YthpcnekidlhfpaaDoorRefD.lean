/- The contract of the reference's Get of layer msg. -/
import Derived.Test.YthpcnekidlhfpaaDoorRefC
namespace Go.Proofs.YthpcnekidlhfpaaDoor
open Go.RowKit

def setF (m : M7) (f : Fld) : M7 := m.set f.1 (f.2.getD 0 0)
def onlyK (k : Int) : M7 := ⟨k, 0, 0, 0, 0, 0, 0⟩
def foldM (k : Int) (R : List Fld) : M7 := R.foldl setF (onlyK k)
theorem set_kind (m : M7) (t v : Int) : (m.set t v).kind = m.kind := by
  unfold M7.set; repeat' split
  all_goals rfl
theorem foldl_kind (R : List Fld) : ∀ m : M7, (R.foldl setF m).kind = m.kind := by
  induction R with
  | nil => intro m; rfl
  | cons f R ih => intro m; rw [List.foldl_cons, ih]; exact set_kind m _ _
theorem foldM_kind (k : Int) (R : List Fld) : (foldM k R).kind = k := foldl_kind R _
theorem set_word {m : M7} {s t v : Int} (hs : 2 ≤ s ∧ s ≤ 7) (ht : 2 ≤ t ∧ t ≤ 7) : (m.set s v).word t = if s = t then v else m.word t := by
  rcases tags hs with rfl | rfl | rfl | rfl | rfl | rfl <;> rcases tags ht with rfl | rfl | rfl | rfl | rfl | rfl <;> simp [M7.set, M7.word]
theorem foldl_fits {k t : Int} (ht : 2 ≤ t ∧ t ≤ 7) (hn : hasT k t = false) (R : List Fld) : ∀ m : M7, (∀ f ∈ R, hasT k f.1 = true) → m.word t = 0 → (R.foldl setF m).word t = 0 := by
  induction R with
  | nil => intro m _ h; exact h
  | cons f R ih =>
    intro m h h0
    rw [List.foldl_cons]
    refine ih _ (fun g hg => h g (by simp [hg])) ?_
    have hf := h f (by simp)
    have hr : 2 ≤ f.1 ∧ f.1 ≤ 7 := kindTags_ok k f.1 (of_decide_eq_true hf)
    unfold setF
    rw [set_word hr ht, if_neg (fun e => by rw [e, hn] at hf; cases hf)]
    exact h0
theorem foldM_may {k : Int} {R : List Fld} (hk : isKindB k = true) (h : ∀ f ∈ R, hasT k f.1 = true) : mayM (foldM k R) = true := by
  refine mayM_yes (by rw [foldM_kind]; exact hk) fun t h2 h8 => ?_
  by_cases hh : hasT k t = true
  · exact fits_has (by rw [foldM_kind]; exact hh)
  · refine fits_zero (foldl_fits ⟨h2, by omega⟩ (by simpa using hh) R _ h ?_)
    rcases tags (show 2 ≤ t ∧ t ≤ 7 by omega) with rfl | rfl | rfl | rfl | rfl | rfl <;> rfl
theorem fold_tagFields {m : M7} (h : mayM m = true) : foldM m.kind (tagFields m) = m := by
  obtain ⟨f2, f3, f4, f5, f6, f7⟩ := mayM_fits h
  have hk := kinds (mayM_kind h)
  obtain ⟨k, r, a, b, n, x, o⟩ := m
  simp only at hk
  rcases hk with rfl | rfl | rfl | rfl | rfl | rfl | rfl | rfl | rfl <;>
    simp [fitsM, hasT, kindTags, M7.word] at f2 f3 f4 f5 f6 f7 <;> simp [foldM, onlyK, setF, M7.set, tagFields, kindTags, M7.word, *]
theorem okW_has {k : Int} {R : List Fld} (h : okW k R = true) : ∀ f ∈ R, f.2.length = 1 ∧ hasT k f.1 = true := by
  obtain ⟨h1, h2⟩ := of_decide_eq_true h
  intro f hf
  refine ⟨h2 f hf, decide_eq_true ?_⟩
  rw [← h1]
  exact List.mem_map_of_mem hf
/-- What the reference makes of the fields behind a head that is right. -/
theorem ref_fin {k : Int} {R : List Fld} (hk : isKindB k = true) (h : ∀ f ∈ R, hasT k f.1 = true) (l : List Int) (hl : flatF ((1, [k]) :: R) = l) :
    finM ((1, [k]) :: R) = if sameB (putL (foldM k R)) l then (foldM k R, 0) else (zeroM, 2) := by
  have hmay := foldM_may hk h
  have hput : putL (foldM k R) = flatF ((1, [k]) :: tagFields (foldM k R)) := by
    unfold putL; rw [if_pos hmay]; unfold putM fieldsM; rw [foldM_kind]
  by_cases ho : okW k R = true
  · obtain ⟨h1, h2⟩ := okW_fields hk ho
    have hf : foldM k R = msgOf k R := by
      have := fold_tagFields h2
      rw [h1] at this
      exact this
    have hs : sameB (putL (foldM k R)) l = true := decide_eq_true (by rw [hput, hf, h1, hl])
    rw [if_pos hs, finM_yes (headOk_kind hk) ho, hf]; rfl
  · have hs : sameB (putL (foldM k R)) l = false := by
      refine decide_eq_false fun e => ho ?_
      rw [hput, ← hl] at e
      have e2 := (List.cons.inj (flatF_inj _ _ e)).2
      have := okW_tagFields (foldM k R)
      rw [foldM_kind, e2] at this
      exact this
    rw [finM_no (headOk_kind hk) (by simpa using ho), hs]; rfl
theorem ref_fin_no {k : Int} {R : List Fld} (hk : isKindB k = true) {f : Fld} (hf : f ∈ R) (h : ¬ (f.2.length = 1 ∧ hasT k f.1 = true)) : finM ((1, [k]) :: R) = (zeroM, 2) := by
  refine finM_no (headOk_kind hk) ?_
  cases ho : okW k R with
  | false => exact ho
  | true => exact absurd (okW_has ho f hf) h
def M7.cells (m : M7) : Array Value := #[.int .u32 m.kind, .int .u32 m.run, .int .u32 m.a, .int .u32 m.b, .int .u32 m.nonce, .int .u32 m.box, .int .u32 m.more]
theorem set_cells (m : M7) {t : Int} {v : Int} (ht : 2 ≤ t ∧ t ≤ 7) : m.cells.setIfInBounds (t.toNat - 1) (.int .u32 v) = (m.set t v).cells := by
  rcases tags ht with rfl | rfl | rfl | rfl | rfl | rfl <;> rfl
theorem foldM_next {k : Int} {R : List Fld} {j : Nat} {f : Fld} (hf : R[j]? = some f) : foldM k (R.take (j + 1)) = (foldM k (R.take j)).set f.1 (f.2.getD 0 0) := by
  have hj : j < R.length := by
    rcases Nat.lt_or_ge j R.length with h | h
    · exact h
    · rw [List.getElem?_eq_none h] at hf; simp at hf
  have : R[j] = f := by rw [List.getElem?_eq_getElem hj] at hf; exact Option.some.inj hf
  unfold foldM
  rw [List.take_succ_eq_append_getElem hj, List.foldl_append, this]
  rfl
end Go.Proofs.YthpcnekidlhfpaaDoor
