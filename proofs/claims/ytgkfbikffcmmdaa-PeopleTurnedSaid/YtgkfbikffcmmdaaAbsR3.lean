/- Regions: walked in the order of the text; where the order is drawn, what isn't ordered is apart. -/
import Derived.Test.YtgkfbikffcmmdaaAbsR2
set_option linter.unusedSimpArgs false
set_option linter.unusedVariables false
set_option maxRecDepth 100000
namespace Go.Proofs.Ytgkfbikffcmmdaa.Abs
open Go.RowKit
section
variable {P : Program} {base : Nat} {S0 : Sh} {w0 : W0}

abbrev Trace := List (List Nat × Bool)
def reqR (P : Program) (r : RV) (σ : St) (o : Oper) : Req := areq P o.dst r (ev σ) o.op
/-- A region's operations, in the order of the text. -/
def RunP (P : Program) (ops : Array Oper) : List Oper → St → Trace → (St → Trace → Prop) → Prop
  | [], σ, tr, K => K σ tr
  | o :: rest, σ, tr, K => ∃ r, dstOK σ.n o.dst ∧ match wantd ops σ o with
    | some true => ((reqR P r σ o).eff σ.m).ok ∧ RunP P ops rest (stepSt σ o.dst ((reqR P r σ o).eff σ.m).val ((reqR P r σ o).mem σ.m)) (tr ++ [((reqR P r σ o).ids, (reqR P r σ o).wr)]) K
    | some false => RunP P ops rest (stepSt σ o.dst (.tup []) σ.m) (tr ++ [([], false)]) K
    | none => False
def okF (P : Program) (ops : Array Oper) (cs : Nat → RV) (F : Nat → List Nat × Bool) (i : Nat) (σ : St) : Prop := okI P ops cs i σ ∧ fpI P ops cs i σ = F i
theorem run_of {ops : Array Oper} {K : St → Trace → Prop} : ∀ (l : List Oper) (k : Nat) (σ : St) (tr : Trace), (∀ j, l[j]? = ops[k + j]?) → tr.length = k → RunP P ops l σ tr K →
    ∃ (rs : List RV) (fl : Trace), fl.length = k + l.length ∧ (∀ j, j < k → fl[j]? = tr[j]?) ∧ ∀ (cs : Nat → RV) (F : Nat → List Nat × Bool), (∀ j, j < l.length → cs (k + j) = rs.getD j (.tup [])) → (∀ j, j < fl.length → F j = fl.getD j ([], false)) →
      runOK (okF P ops cs F) (stepI P ops cs) (List.range' k l.length) σ ∧ K (runEnd (stepI P ops cs) (List.range' k l.length) σ) fl := by
  intro l
  induction l with
  | nil =>
    intro k σ tr _ hk h
    exact ⟨[], tr, by simp [hk], fun _ _ => rfl, fun cs F _ _ => ⟨trivial, h⟩⟩
  | cons o rest ih =>
    intro k σ tr hl hk h
    have ho : ops[k]? = some o := by simpa using (hl 0).symm
    have hl' : ∀ j, rest[j]? = ops[k + 1 + j]? := fun j => by have := hl (j + 1); simpa [Nat.add_assoc, Nat.add_comm 1 j] using this
    obtain ⟨r, hd, h⟩ := h
    have finish : ∀ (σ' : St) (e : List Nat × Bool), (∀ cs : Nat → RV, cs k = r → okI P ops cs k σ ∧ fpI P ops cs k σ = e ∧ stepI P ops cs k σ = σ') → RunP P ops rest σ' (tr ++ [e]) K →
        ∃ (rs : List RV) (fl : Trace), fl.length = k + (o :: rest).length ∧ (∀ j, j < k → fl[j]? = tr[j]?) ∧ ∀ (cs : Nat → RV) (F : Nat → List Nat × Bool), (∀ j, j < (o :: rest).length → cs (k + j) = rs.getD j (.tup [])) → (∀ j, j < fl.length → F j = fl.getD j ([], false)) →
          runOK (okF P ops cs F) (stepI P ops cs) (List.range' k (o :: rest).length) σ ∧ K (runEnd (stepI P ops cs) (List.range' k (o :: rest).length) σ) fl := fun σ' e hs hr => by
      obtain ⟨rs, fl, f1, f2, f3⟩ := ih (k + 1) σ' (tr ++ [e]) hl' (by simp [hk]) hr
      refine ⟨r :: rs, fl, by rw [f1, List.length_cons]; omega, fun j hj => by rw [f2 j (by omega), List.getElem?_append_left (by omega)], fun cs F h1 h2 => ?_⟩
      obtain ⟨s1, s2, s3⟩ := hs cs (by simpa using h1 0 (by simp))
      have hF : F k = e := by
        have hk' : k < fl.length := by rw [f1]; omega
        rw [h2 k hk']
        have := f2 k (by omega)
        rw [List.getElem?_append_right (by omega), hk] at this
        simp [List.getD, this]
      obtain ⟨g1, g2⟩ := f3 cs F (fun j hj => by
        have := h1 (j + 1) (by simp only [List.length_cons]; omega)
        rw [show k + 1 + j = k + (j + 1) by omega, this]
        rfl) h2
      rw [List.length_cons, List.range'_succ]
      refine ⟨⟨⟨s1, by rw [s2, hF]⟩, by rw [s3]; exact g1⟩, ?_⟩
      show K (runEnd _ (List.range' (k + 1) rest.length) (stepI P ops cs k σ)) fl
      rw [s3]
      exact g2
    cases hw : wantd ops σ o with
    | none => simp only [hw] at h
    | some b =>
      simp only [hw] at h
      cases b with
      | false => exact finish _ _ (fun cs hc => ⟨by simp only [okI, ho, hw]; exact ⟨hd, trivial⟩, by simp only [fpI, ho, hw], by simp only [stepI, ho, hw]⟩) h
      | true => exact finish _ _ (fun cs hc => ⟨by simp only [okI, ho, hw, reqI, hc]; exact ⟨hd, h.1⟩, by simp only [fpI, ho, hw, reqI, hc]; rfl, by simp only [stepI, ho, hw, reqI, hc]; rfl⟩) h.2
/-- The whole region, from its first operation. -/
theorem run_all {ops : Array Oper} {K : St → Trace → Prop} {σ : St} (h : RunP P ops ops.toList σ [] K) :
    ∃ (cs : Nat → RV) (fl : Trace), fl.length = ops.size ∧ runOK (okF P ops cs (fun j => fl.getD j ([], false))) (stepI P ops cs) (List.range' 0 ops.size) σ ∧ K (runEnd (stepI P ops cs) (List.range' 0 ops.size) σ) fl := by
  obtain ⟨rs, fl, f1, _, f3⟩ := run_of ops.toList 0 σ [] (fun j => by simp) rfl h
  obtain ⟨g1, g2⟩ := f3 (fun j => rs.getD j (.tup [])) (fun j => fl.getD j ([], false)) (fun j _ => by simp) (fun j _ => rfl)
  rw [Array.length_toList] at g1 g2
  exact ⟨_, fl, by simpa using f1, g1, g2⟩
theorem region_ok {ro : Option Nat} {ops : Array Oper} {id : Nat} {σ : St} {K : St → Trace → Prop} {df : List Deferred} {a : Act} {w : World} {Q : Exit → Act → World → Prop} (h : RunP P ops ops.toList σ [] K) (hG : Gm base S0 w0 df σ a w)
    (hK : ∀ σ' tr a' w', K σ' tr → Gm base S0 w0 df σ' a' w' → Q .normal a' w') : (Code.region id ops false).wpIn (Fw ro) 0 P Q a w := by
  obtain ⟨cs, fl, f1, f2, f3⟩ := run_all h
  refine wpIn_region ?_
  rw [List.range_eq_range']
  have key : ∀ (l : List Nat) (σ : St) (a : Act) (w : World), runOK (okF P ops cs (fun j => fl.getD j ([], false))) (stepI P ops cs) l σ → Gm base S0 w0 df σ a w → (∀ a' w', Gm base S0 w0 df (runEnd (stepI P ops cs) l σ) a' w' → Q .normal a' w') → wpOpsIn (Fw ro) 0 P ops Q l a w := by
    intro l
    induction l with
    | nil => intro σ a w _ hG hQ; exact hQ a w hG
    | cons i l ih =>
      intro σ a w hr hG hQ
      rw [wpOpsIn_cons]
      exact opI_ok hr.1.1 hG fun a' w' hG' => ih _ a' w' hr.2 hG' hQ
  exact key _ σ a w f2 hG fun a' w' hG' => hK _ fl a' w' f3 hG'

/-! Where the order is drawn. -/
def maskOf (acc : List Nat) : List Edge → Nat → Nat
  | [], m => m
  | e :: l, m => maskOf acc l (bif Region.binds .any e then m ||| 2 ^ e.on ||| acc.getD e.on 0 else m)
def masks : List Oper → List Nat → List Nat
  | [], acc => acc
  | o :: l, acc => masks l (acc ++ [maskOf acc o.after.toList 0])
theorem maskOf_bit {acc : List Nat} {k : Nat} : ∀ {l : List Edge} {m : Nat}, (maskOf acc l m).testBit k = true → m.testBit k = true ∨ ∃ e ∈ l, Region.binds .any e = true ∧ (k = e.on ∨ (acc.getD e.on 0).testBit k = true) := by
  intro l
  induction l with
  | nil => intro m h; exact .inl h
  | cons e l ih =>
    intro m h
    rcases ih h with h | ⟨e', h1, h2⟩
    · cases hb : Region.binds .any e with
      | false => rw [hb] at h; exact .inl h
      | true =>
        rw [hb] at h
        simp only [cond_true, Nat.testBit_or, Nat.testBit_two_pow, Bool.or_eq_true, decide_eq_true_eq] at h
        rcases h with (h | h) | h
        · exact .inl h
        · exact .inr ⟨e, by simp, hb, .inl h.symm⟩
        · exact .inr ⟨e, by simp, hb, .inr h⟩
    · exact .inr ⟨e', by simp [h1], h2⟩
theorem masks_closed {ops : Array Oper} (L : List Nat) (hL : ∀ i ∈ L, ∀ o, ops[i]? = some o → ∀ e ∈ o.after.toList, Region.binds .any e = true → e.on ∈ L) :
    ∀ (l : List Oper) (acc : List Nat), (∀ j, l[j]? = ops[acc.length + j]?) → (∀ i ∈ L, ∀ k, (acc.getD i 0).testBit k = true → k ∈ L) → ∀ i ∈ L, ∀ k, ((masks l acc).getD i 0).testBit k = true → k ∈ L := by
  intro l
  induction l with
  | nil => intro acc _ h; exact h
  | cons o l ih =>
    intro acc hl h
    refine ih _ (fun j => ?_) (fun i hi k hk => ?_)
    · have := hl (j + 1)
      simp only [List.getElem?_cons_succ] at this
      rw [this, List.length_append, List.length_singleton, Nat.add_assoc, Nat.add_comm 1 j]
    · by_cases h1 : i < acc.length
      · rw [List.getD_eq_getElem?_getD, List.getElem?_append_left h1, ← List.getD_eq_getElem?_getD] at hk
        exact h i hi k hk
      · by_cases h2 : i = acc.length
        · subst h2
          rw [List.getD_eq_getElem?_getD, List.getElem?_append_right (Nat.le_refl _), Nat.sub_self] at hk
          simp only [List.getElem?_cons_zero, Option.getD_some] at hk
          rcases maskOf_bit hk with hk | ⟨e, he, hb, hk⟩
          · simp at hk
          · have hon := hL acc.length hi o (by have := hl 0; simpa using this.symm) e he hb
            rcases hk with rfl | hk
            · exact hon
            · exact h e.on hon k hk
        · rw [List.getD_eq_getElem?_getD, List.getElem?_eq_none (by simp; omega)] at hk
          simp at hk
def disj : List Nat → List Nat → Bool
  | [], _ => true
  | k :: l, r => !hasN r k && disj l r
theorem disj_ok {l r : List Nat} (h : disj l r = true) : ∀ k ∈ l, k ∉ r := by
  induction l with
  | nil => intro k hk; simp at hk
  | cons x l ih =>
    simp only [disj, Bool.and_eq_true, Bool.not_eq_true'] at h
    intro k hk
    rcases List.mem_cons.1 hk with rfl | hk
    · intro hr; rw [hasN_iff.2 hr] at h; simp at h
    · exact ih h.2 k hk
def pairB (ops : Array Oper) (fl : Trace) (ms : List Nat) (j : Nat) (y : Oper) (i : Nat) : Bool :=
  (ms.getD j 0).testBit i || match ops[i]? with
    | none => false
    | some x => x.apart ops y && ((!(fl.getD i ([], false)).2 && !(fl.getD j ([], false)).2) || disj (fl.getD i ([], false)).1 (fl.getD j ([], false)).1)
def checkB (ops : Array Oper) (fl : Trace) : Bool :=
  (List.range ops.size).all fun j => match ops[j]? with
    | none => false
    | some y => (y.after.toList.all fun e => !Region.binds .any e || decide (e.on < j)) && (List.range j).all (pairB ops fl (masks ops.toList []) j y)
/-- All open boxes as one. -/
def alf (n : Nat) : Nat := if n < 1000000 then n else 1000000
theorem alfO {b : Nat} : alf (1000000 + b) = 1000000 := by unfold alf; rw [if_neg (by omega)]
theorem alfL {n : Nat} (h : n < 1000000) : alf n = n := by unfold alf; rw [if_pos h]
def crsI : List Nat → List Nat
  | [] => []
  | n :: l => alf n :: crsI l
def crs : Trace → Trace
  | [] => []
  | (l, w) :: tr => (crsI l, w) :: crs tr
theorem crsI_eq (l : List Nat) : crsI l = l.map alf := by
  induction l with
  | nil => rfl
  | cons n l ih => simp [crsI, ih]
theorem crs_get (tr : Trace) (i : Nat) : (crs tr).getD i ([], false) = (crsI (tr.getD i ([], false)).1, (tr.getD i ([], false)).2) := by
  induction tr generalizing i with
  | nil => rfl
  | cons e tr ih =>
    obtain ⟨l, w⟩ := e
    cases i with
    | zero => rfl
    | succ i => simpa [crs] using ih i
theorem disj_crs {l r : List Nat} (h : disj (crsI l) (crsI r) = true) : disj l r = true := by
  have key : ∀ (l r : List Nat), (∀ k ∈ l, k ∉ r) → disj l r = true := by
    intro l r
    induction l with
    | nil => intro _; rfl
    | cons x l ih =>
      intro hh
      simp only [disj, Bool.and_eq_true, Bool.not_eq_true']
      refine ⟨?_, ih fun k hk => hh k (by simp [hk])⟩
      cases hx : hasN r x with
      | false => rfl
      | true => exact absurd (hasN_iff.1 hx) (hh x (by simp))
  refine key l r fun k hk hr => ?_
  have := disj_ok h
  rw [crsI_eq, crsI_eq] at this
  exact this (alf k) (List.mem_map_of_mem hk) (List.mem_map_of_mem hr)
theorem checkB_crs {ops : Array Oper} {tr : Trace} (h : checkB ops (crs tr) = true) : checkB ops tr = true := by
  unfold checkB at h ⊢
  refine List.all_eq_true.2 fun j hj => ?_
  have h1 := List.all_eq_true.1 h j hj
  cases hy : ops[j]? with
  | none => rw [hy] at h1; exact h1
  | some y =>
    rw [hy] at h1
    simp only [Bool.and_eq_true] at h1 ⊢
    refine ⟨h1.1, List.all_eq_true.2 fun i hi => ?_⟩
    have h2 := List.all_eq_true.1 h1.2 i hi
    unfold pairB at h2 ⊢
    cases hx : ops[i]? with
    | none => rw [hx] at h2; exact h2
    | some x =>
      rw [hx] at h2
      simp only [crs_get, Bool.or_eq_true, Bool.and_eq_true] at h2 ⊢
      rcases h2 with h2 | ⟨h2, h3⟩
      · exact .inl h2
      · exact .inr ⟨h2, h3.imp (fun h => h) disj_crs⟩
theorem draw_ok {ro : Option Nat} {ops : Array Oper} {id : Nat} {σ : St} {K : St → Trace → Prop} {df : List Deferred} {a : Act} {w : World} {Q : Exit → Act → World → Prop} (hm : P.follows .mixedOrders = true) (h : RunP P ops ops.toList σ [] K) (hG : Gm base S0 w0 df σ a w)
    (hK : ∀ σ' tr a' w', K σ' tr → checkB ops tr = true ∧ (Gm base S0 w0 df σ' a' w' → Q .normal a' w')) : (Code.region id ops true).wpIn (Fw ro) 0 P Q a w := by
  obtain ⟨cs, fl, f1, f2, f3⟩ := run_all h
  have hcheck : checkB ops fl = true := (hK _ fl a w f3).1
  have hpair : ∀ i j, i < j → j < ops.size → ((masks ops.toList []).getD j 0).testBit i = true ∨ indI ops (fun j => fl.getD j ([], false)) i j := fun i j hij hj => by
    have h1 := List.all_eq_true.1 hcheck j (List.mem_range.2 hj)
    rw [Array.getElem?_eq_getElem hj] at h1
    simp only [Bool.and_eq_true] at h1
    have h2 := List.all_eq_true.1 h1.2 i (List.mem_range.2 hij)
    unfold pairB at h2
    rw [Array.getElem?_eq_getElem (show i < ops.size by omega)] at h2
    simp only [Bool.or_eq_true, Bool.and_eq_true, Bool.not_eq_true'] at h2
    rcases h2 with h2 | ⟨h2, h3⟩
    · exact .inl h2
    · refine .inr ⟨ops[i], ops[j], Array.getElem?_eq_getElem _, Array.getElem?_eq_getElem hj, h2, ?_⟩
      rcases h3 with h3 | h3
      · exact .inl h3
      · exact .inr (disj_ok h3)
  have hback : ∀ j o, ops[j]? = some o → ∀ e ∈ o.after.toList, Region.binds .any e = true → e.on < j := fun j o ho e he hb => by
    have hj : j < ops.size := (Array.getElem?_eq_some_iff.1 ho).1
    have h1 := List.all_eq_true.1 hcheck j (List.mem_range.2 hj)
    rw [ho] at h1
    simp only [Bool.and_eq_true] at h1
    have h2 := List.all_eq_true.1 h1.1 e he
    simpa [hb] using h2
  refine wpIn_region_any hm ?_
  -- whatever has been done
  have key : ∀ (fuel : Nat) (listed : Array Bool) (L : List Nat) (a : Act) (w : World), fuel + L.length = ops.size → listed.size = ops.size → L.Nodup → (∀ i ∈ L, i < ops.size) → (∀ i, i < ops.size → (listed.getD i true = true ↔ i ∈ L)) →
      (∀ i ∈ L, ∀ o, ops[i]? = some o → ∀ e ∈ o.after.toList, Region.binds .any e = true → e.on ∈ L) → L.Pairwise (fun a b => b < a → indI ops (fun j => fl.getD j ([], false)) b a) → Gm base S0 w0 df (runEnd (stepI P ops cs) L σ) a w → wpAnyIn (Fw ro) 0 P .any ops Q fuel listed a w := by
    have whole : ∀ (L : List Nat), L.Perm (List.range' 0 ops.size) → L.Pairwise (fun a b => b < a → indI ops (fun j => fl.getD j ([], false)) b a) → runOK (okF P ops cs (fun j => fl.getD j ([], false))) (stepI P ops cs) L σ ∧ runEnd (stepI P ops cs) L σ = runEnd (stepI P ops cs) (List.range' 0 ops.size) σ :=
      fun L hp hw => any_order _ _ (indI ops (fun j => fl.getD j ([], false))) (fun i j s hi h1 h2 => swapI i j s hi h1 h2) ops.size 0 L σ hp hw f2
    have hready : ∀ (listed : Array Bool) (L : List Nat), (∀ i, i < ops.size → (listed.getD i true = true ↔ i ∈ L)) → Region.ready .any ops listed = [] → ∀ n, ∀ i, i < n → i < ops.size → i ∈ L := fun listed L h2 hr n => by
      induction n with
      | zero => intro i h; omega
      | succ n ih =>
        intro i hi hin
        by_cases hL : i ∈ L
        · exact hL
        · exfalso
          have : i ∈ Region.ready .any ops listed := by
            unfold Region.ready
            refine List.mem_filter.2 ⟨List.mem_range.2 hin, ?_⟩
            have hl : listed.getD i true = false := by
              cases hh : listed.getD i true with
              | false => rfl
              | true => exact absurd ((h2 i hin).1 hh) hL
            rw [hl, Array.getElem?_eq_getElem hin]
            simp only [Bool.not_false, Bool.true_and, Option.map_some, Option.getD_some]
            rw [← Array.all_toList]
            refine List.all_eq_true.2 fun e he => ?_
            cases hb : Region.binds .any e with
            | false => rfl
            | true =>
              have hon := hback i ops[i] (Array.getElem?_eq_getElem hin) e he hb
              have hm' := (h2 e.on (by omega)).2 (ih e.on (by omega) (by omega))
              have : e.on < listed.size := by
                rcases Nat.lt_or_ge e.on listed.size with h | h
                · exact h
                · exfalso
                  have := (h2 i hin)
                  have hsz : listed.size ≤ i := by omega
                  have : listed.getD i true = true := by simp [Array.getD, Nat.not_lt.2 hsz]
                  rw [hl] at this
                  simp at this
              simp only [Bool.not_true, Bool.false_or]
              simpa [Array.getD, this] using hm'
          rw [hr] at this
          simp at this
    have hperm : ∀ (L : List Nat), L.Nodup → (∀ i ∈ L, i < ops.size) → (∀ i, i < ops.size → i ∈ L) → L.Perm (List.range' 0 ops.size) := fun L h1 h2 h3 => by
      rw [← List.range_eq_range']
      exact (List.perm_ext_iff_of_nodup h1 List.nodup_range).2 fun i => ⟨fun hi => List.mem_range.2 (h2 i hi), fun hi => h3 i (List.mem_range.1 hi)⟩
    intro fuel
    induction fuel with
    | zero =>
      intro listed L a w hf hsz hn hlt hlist hcl hpw hG
      have hall : ∀ i, i < ops.size → i ∈ L := fun i hi => by
        let rest := (List.range ops.size).filter fun k => decide (k ∉ L)
        have hp : (L ++ rest).Perm (List.range' 0 ops.size) := hperm _ (List.nodup_append.2 ⟨hn, List.nodup_range.filter _, fun p hp q hq e => by
            have := (List.mem_filter.1 hq).2
            simp only [decide_eq_true_eq] at this
            exact this (e ▸ hp)⟩) (fun k hk => by
            rcases List.mem_append.1 hk with hk | hk
            · exact hlt k hk
            · exact List.mem_range.1 (List.mem_filter.1 hk).1) (fun k hk => by
            by_cases hkL : k ∈ L
            · exact List.mem_append.2 (.inl hkL)
            · exact List.mem_append.2 (.inr (List.mem_filter.2 ⟨List.mem_range.2 hk, by simpa using hkL⟩)))
        have hlen := hp.length_eq
        rw [List.length_append, List.length_range'] at hlen
        have h0 : rest.length = 0 := by omega
        have hnil : rest = [] := List.eq_nil_of_length_eq_zero h0
        have : i ∈ L ++ rest := hp.mem_iff.2 (List.mem_range'_1.2 (by omega))
        rw [hnil, List.append_nil] at this
        exact this
      have hr : Region.ready .any ops listed = [] := by
        unfold Region.ready
        refine List.filter_eq_nil_iff.2 fun i hi => ?_
        have := (hlist i (List.mem_range.1 hi)).2 (hall i (List.mem_range.1 hi))
        simp [this]
      obtain ⟨_, e2⟩ := whole L (hperm L hn hlt hall) hpw
      rw [e2] at hG
      exact ⟨hr, (hK _ fl a w f3).2 hG⟩
    | succ fuel ih =>
      intro listed L a w hf hsz hn hlt hlist hcl hpw hG
      refine ⟨fun hr => ?_, fun i hi => ?_⟩
      · have hall := fun i hi => hready listed L hlist hr (i + 1) i (by omega) hi
        obtain ⟨_, e2⟩ := whole L (hperm L hn hlt hall) hpw
        rw [e2] at hG
        exact (hK _ fl a w f3).2 hG
      · unfold Region.ready at hi
        obtain ⟨h1, h2⟩ := List.mem_filter.1 hi
        have hin := List.mem_range.1 h1
        simp only [Bool.and_eq_true, Bool.not_eq_true'] at h2
        have hiL : i ∉ L := fun hL => by
          have := (hlist i hin).2 hL
          rw [this] at h2
          simp at h2
        rw [Array.getElem?_eq_getElem hin] at h2
        simp only [Option.map_some, Option.getD_some] at h2
        have hpre : ∀ e ∈ (ops[i]).after.toList, Region.binds .any e = true → e.on ∈ L := fun e he hb => by
          have h3 := h2.2
          rw [← Array.all_toList] at h3
          have := List.all_eq_true.1 h3 e he
          rw [hb] at this
          simp only [Bool.not_true, Bool.false_or] at this
          have hon := hback i ops[i] (Array.getElem?_eq_getElem hin) e he hb
          have hlt2 : e.on < listed.size := by omega
          exact (hlist e.on (by omega)).1 (by simpa [Array.getD, hlt2] using this)
        have hcl2 : ∀ k ∈ L ++ [i], ∀ o, ops[k]? = some o → ∀ e ∈ o.after.toList, Region.binds .any e = true → e.on ∈ L ++ [i] := fun k hk o ho e he hb => by
          rcases List.mem_append.1 hk with hk | hk
          · exact List.mem_append.2 (.inl (hcl k hk o ho e he hb))
          · have : k = i := by simpa using hk
            subst this
            rw [Array.getElem?_eq_getElem hin] at ho
            cases ho
            exact List.mem_append.2 (.inl (hpre e he hb))
        have hanc : ∀ (M : List Nat), (∀ k ∈ M, ∀ o, ops[k]? = some o → ∀ e ∈ o.after.toList, Region.binds .any e = true → e.on ∈ M) → ∀ k ∈ M, ∀ q, ((masks ops.toList []).getD k 0).testBit q = true → q ∈ M :=
          fun M hM => masks_closed M hM ops.toList [] (fun j => by simp) (fun i _ k hk => by simp at hk)
        have hpw2 : (L ++ [i]).Pairwise (fun a b => b < a → indI ops (fun j => fl.getD j ([], false)) b a) := by
          refine List.pairwise_append.2 ⟨hpw, List.pairwise_singleton _ _, fun p hp b hb hlt' => ?_⟩
          have : b = i := by simpa using hb
          subst this
          rcases hpair b p hlt' (hlt p hp) with h | h
          · exact absurd (hanc L hcl p hp b h) hiL
          · exact h
        have hn2 : (L ++ [i]).Nodup := List.nodup_append.2 ⟨hn, by simp, fun p hp q hq => by
          have : q = i := by simpa using hq
          subst this
          exact fun e => hiL (e ▸ hp)⟩
        have hlt3 : ∀ k ∈ L ++ [i], k < ops.size := fun k hk => by
          rcases List.mem_append.1 hk with hk | hk
          · exact hlt k hk
          · have : k = i := by simpa using hk
            omega
        -- what is left, in the order of the text
        have hok : okF P ops cs (fun j => fl.getD j ([], false)) i (runEnd (stepI P ops cs) L σ) := by
          let rest := (List.range ops.size).filter fun k => decide (k ∉ L ++ [i])
          have hfull : ((L ++ [i]) ++ rest).Perm (List.range' 0 ops.size) := hperm _ (List.nodup_append.2 ⟨hn2, List.nodup_range.filter _, fun p hp q hq e => by
              have := (List.mem_filter.1 hq).2
              simp only [decide_eq_true_eq] at this
              exact this (e ▸ hp)⟩) (fun k hk => by
              rcases List.mem_append.1 hk with hk | hk
              · exact hlt3 k hk
              · exact List.mem_range.1 (List.mem_filter.1 hk).1) (fun k hk => by
              by_cases hkL : k ∈ L ++ [i]
              · exact List.mem_append.2 (.inl hkL)
              · exact List.mem_append.2 (.inr (List.mem_filter.2 ⟨List.mem_range.2 hk, by simpa using hkL⟩)))
          have hpf : ((L ++ [i]) ++ rest).Pairwise (fun a b => b < a → indI ops (fun j => fl.getD j ([], false)) b a) := by
            refine List.pairwise_append.2 ⟨hpw2, ?_, fun p hp q hq hlt' => ?_⟩
            · refine (List.Pairwise.filter _ (List.pairwise_lt_range)).imp ?_
              intro a b hab hba
              omega
            · have hq2 := (List.mem_filter.1 hq).2
              simp only [decide_eq_true_eq] at hq2
              rcases hpair q p hlt' (hlt3 p hp) with h | h
              · exact absurd (hanc (L ++ [i]) hcl2 p hp q h) hq2
              · exact h
          have := (whole _ hfull hpf).1
          rw [List.append_assoc] at this
          exact ((runOK_append _ _ _ _ _).1 this).2.1
        refine opI_ok hok.1 hG fun a' w' hG' => ?_
        refine ih (listed.setIfInBounds i true) (L ++ [i]) a' w' (by simp; omega) (by simp [hsz]) hn2 hlt3 (fun k hk => ?_) hcl2 hpw2 (by rw [runEnd_append]; exact hG')
        by_cases hki : k = i
        · subst hki
          have : k < listed.size := by omega
          simp [Array.getD, this]
        · have : (listed.setIfInBounds i true).getD k true = listed.getD k true := by
            simp [Ne.symm hki]
          rw [this, hlist k hk]
          simp [hki]
  obtain ⟨c, h1, h2, h3⟩ := hG
  have hbelow : Below w.heap.size w { w with drawn := w.drawn + 1 } := ⟨rfl, rfl, rfl, Nat.le_refl _, fun _ _ => rfl⟩
  obtain ⟨g, r⟩ := h2.calls hbelow (fun _ _ => False) (fun _ b hb => hb.elim)
  exact key ops.size (Array.replicate ops.size false) [] a _ (by simp) (by simp) List.nodup_nil (fun i hi => by simp at hi) (fun i hi => by simp [Array.getD, hi]) (fun i hi => by simp at hi) List.Pairwise.nil
    ⟨_, ⟨h1.1, fun d hd => (h1.2 d hd).goes g, h1.3.mono (g.S 0) (g.heap 0)⟩, r, h3.goes g⟩
end
end Go.Proofs.Ytgkfbikffcmmdaa.Abs
