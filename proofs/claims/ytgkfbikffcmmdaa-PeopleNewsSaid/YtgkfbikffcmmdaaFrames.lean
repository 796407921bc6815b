/- Plain words on frames of fields, and on messages: laid, read, and what follows of both. Nothing here names a function of the program. -/
import Derived.Test.YtgkfbikffcmmdaaBase
namespace Go.Proofs.Ytgkfbikffcmmdaa
open Go.RowKit

abbrev Fld := Int × List Int
def okF (f : Fld) : Prop := 1 ≤ f.1 ∧ f.1 ≤ 255 ∧ f.2.length ≤ 16
def wordsF1 (f : Fld) : List Int := f.1 :: (f.2.length : Int) :: f.2
def flatF (F : List Fld) : List Int := F.flatMap wordsF1
theorem flatF_nil : flatF [] = [] := rfl
theorem flatF_cons (f : Fld) (F : List Fld) : flatF (f :: F) = f.1 :: (f.2.length : Int) :: (f.2 ++ flatF F) := by simp [flatF, wordsF1]
theorem flatF_append (F G : List Fld) : flatF (F ++ G) = flatF F ++ flatF G := by simp [flatF]
theorem flatF_snoc (F : List Fld) (f : Fld) : flatF (F ++ [f]) = flatF F ++ wordsF1 f := by simp [flatF]
def starts (l : List Int) : Bool := decide (2 ≤ l.length ∧ 1 ≤ l.getD 0 0 ∧ l.getD 0 0 ≤ 255 ∧ l.getD 1 0 ≤ 16 ∧ l.getD 1 0 ≤ (l.length : Int) - 2)
def firstF (l : List Int) : Fld := (l.getD 0 0, (l.drop 2).take (l.getD 1 0).toNat)
def restF (l : List Int) : List Int := l.drop (2 + (l.getD 1 0).toNat)
def goF : Nat → List Fld → List Int → List Fld × Int
  | 0, _, _ => ([], 3)
  | n + 1, acc, l => if l.length = 0 then (acc, 0) else if acc.length = 8 then ([], 3) else if starts l then goF n (acc ++ [firstF l]) (restF l) else ([], 2)
def getF (l : List Int) : List Fld × Int := if 64 < l.length then ([], 3) else goF 9 [] l
theorem goF_end {n : Nat} {acc : List Fld} {l : List Int} (h : l.length = 0) : goF (n + 1) acc l = (acc, 0) := by simp only [goF]; rw [if_pos h]
theorem goF_full {n : Nat} {acc : List Fld} {l : List Int} (h : l.length ≠ 0) (h8 : acc.length = 8) : goF (n + 1) acc l = ([], 3) := by simp only [goF]; rw [if_neg h, if_pos h8]
theorem goF_bad {n : Nat} {acc : List Fld} {l : List Int} (h : l.length ≠ 0) (h8 : acc.length ≠ 8) (hs : starts l = false) : goF (n + 1) acc l = ([], 2) := by simp only [goF]; rw [if_neg h, if_neg h8, hs]; rfl
theorem goF_next {n : Nat} {acc : List Fld} {l : List Int} (h : l.length ≠ 0) (h8 : acc.length ≠ 8) (hs : starts l = true) : goF (n + 1) acc l = goF n (acc ++ [firstF l]) (restF l) := by simp only [goF]; rw [if_neg h, if_neg h8, hs]; rfl

theorem firstF_rest {l : List Int} (hs : starts l = true) (h0 : ∀ n ∈ l, 0 ≤ n) : okF (firstF l) ∧ wordsF1 (firstF l) ++ restF l = l ∧ (restF l).length < l.length := by
  have h := of_decide_eq_true hs
  obtain ⟨h1, h2, h3, h4, h5⟩ := h
  match l, h1 with
  | a :: b :: r, _ =>
    have hb : 0 ≤ b := h0 b (by simp)
    simp at h2 h3 h4 h5
    have hl : (r.take b.toNat).length = b.toNat := by simp; omega
    refine ⟨⟨by simpa [firstF] using h2, by simpa [firstF] using h3, by simp [firstF]; omega⟩, ?_, by simp [restF]; omega⟩
    have e : 2 + b.toNat = b.toNat + 2 := by omega
    simp only [wordsF1, firstF, restF, List.getD_cons_zero, List.getD_cons_succ, List.drop_succ_cons, List.drop_zero, hl, e]
    have : ((b.toNat : Nat) : Int) = b := by omega
    simp [this]
theorem goF_read : ∀ (n : Nat) (acc : List Fld) (l : List Int), (∀ x ∈ l, 0 ≤ x) →
    (((goF n acc l).2 = 0 ∧ ∃ G, (goF n acc l).1 = acc ++ G ∧ flatF G = l ∧ ∀ g ∈ G, okF g) ∨ ((goF n acc l).1 = [] ∧ (goF n acc l).2 = 2) ∨ ((goF n acc l).1 = [] ∧ (goF n acc l).2 = 3)) := by
  intro n
  induction n with
  | zero => intro acc l _; exact .inr (.inr ⟨rfl, rfl⟩)
  | succ n ih =>
    intro acc l h0
    by_cases h : l.length = 0
    · rw [goF_end h]; exact .inl ⟨rfl, [], by simp, by rw [List.eq_nil_of_length_eq_zero h]; rfl, by simp⟩
    · by_cases h8 : acc.length = 8
      · rw [goF_full h h8]; exact .inr (.inr ⟨rfl, rfl⟩)
      · by_cases hs : starts l = true
        · rw [goF_next h h8 hs]
          obtain ⟨hk, he, _⟩ := firstF_rest hs h0
          have hr : ∀ x ∈ restF l, 0 ≤ x := fun x hx => h0 x (List.mem_of_mem_drop hx)
          rcases ih (acc ++ [firstF l]) (restF l) hr with ⟨h1, G, hG, hf, hok⟩ | h1
          · refine .inl ⟨h1, firstF l :: G, by rw [hG]; simp, ?_, ?_⟩
            · rw [flatF_cons, hf]; exact he
            · intro g hg
              rcases List.mem_cons.1 hg with rfl | hg
              · exact hk
              · exact hok g hg
          · exact .inr h1
        · rw [goF_bad h h8 (by simpa using hs)]; exact .inr (.inl ⟨rfl, rfl⟩)
theorem starts_flat {f : Fld} (hf : okF f) (r : List Int) : starts (wordsF1 f ++ r) = true ∧ firstF (wordsF1 f ++ r) = f ∧ restF (wordsF1 f ++ r) = r := by
  obtain ⟨t, d⟩ := f
  obtain ⟨h1, h2, h3⟩ := hf
  refine ⟨decide_eq_true ?_, ?_, ?_⟩
  · simp [wordsF1] at h1 h2 h3 ⊢; omega
  · simp [wordsF1, firstF]
  · simp [wordsF1, restF, Nat.add_comm 2]
theorem goF_flat : ∀ (G : List Fld) (n : Nat) (acc : List Fld), (∀ g ∈ G, okF g) → acc.length + G.length ≤ 8 → G.length < n → goF n acc (flatF G) = (acc ++ G, 0) := by
  intro G
  induction G with
  | nil =>
    intro n acc _ _ hn
    obtain ⟨n, rfl⟩ : ∃ m, n = m + 1 := ⟨n - 1, by simp at hn; omega⟩
    rw [goF_end (by simp [flatF_nil])]; simp
  | cons g G ih =>
    intro n acc hok h8 hn
    obtain ⟨n, rfl⟩ : ∃ m, n = m + 1 := ⟨n - 1, by simp at hn; omega⟩
    have e : flatF (g :: G) = wordsF1 g ++ flatF G := by simp [flatF]
    obtain ⟨h1, h2, h3⟩ := starts_flat (hok g (by simp)) (flatF G)
    rw [e, goF_next (by simp [wordsF1]) (by simp at h8; omega) h1, h2, h3, ih n (acc ++ [g]) (fun x hx => hok x (by simp [hx])) (by simp at h8 ⊢; omega) (by simp at hn; omega)]
    simp
theorem flatF_inj : ∀ (F G : List Fld), flatF F = flatF G → F = G := by
  intro F
  induction F with
  | nil =>
    intro G h
    cases G with
    | nil => rfl
    | cons g G => rw [flatF_cons] at h; simp [flatF_nil] at h
  | cons f F ih =>
    intro G h
    cases G with
    | nil => rw [flatF_cons] at h; simp [flatF_nil] at h
    | cons g G =>
      rw [flatF_cons, flatF_cons] at h
      simp only [List.cons.injEq] at h
      obtain ⟨h1, h2, h3⟩ := h
      have hl : f.2.length = g.2.length := by omega
      obtain ⟨h4, h5⟩ := List.append_inj h3 hl
      rw [ih G h5, Prod.ext h1 h4]
theorem getF_read (l : List Int) (h0 : ∀ x ∈ l, 0 ≤ x) : ((getF l).2 = 0 ∧ flatF (getF l).1 = l ∧ ∀ g ∈ (getF l).1, okF g) ∨ ((getF l).1 = [] ∧ (getF l).2 = 2) ∨ ((getF l).1 = [] ∧ (getF l).2 = 3) := by
  unfold getF
  split
  · exact .inr (.inr ⟨rfl, rfl⟩)
  · rcases goF_read 9 [] l h0 with ⟨h1, G, hG, hf, hok⟩ | h
    · rw [List.nil_append] at hG
      rw [hG]; exact .inl ⟨h1, hf, hok⟩
    · exact .inr h
theorem getF_flat (G : List Fld) (hok : ∀ g ∈ G, okF g) (h8 : G.length ≤ 8) (h64 : (flatF G).length ≤ 64) : getF (flatF G) = (G, 0) := by
  unfold getF
  rw [if_neg (by omega), goF_flat G 9 [] hok (by simpa using h8) (by omega)]
  simp

/-- A message. -/
structure M7 where
  kind : Int
  run : Int
  a : Int
  b : Int
  nonce : Int
  box : Int
  more : Int
  deriving DecidableEq
theorem M7.ext' {m n : M7} (h1 : m.kind = n.kind) (h2 : m.run = n.run) (h3 : m.a = n.a) (h4 : m.b = n.b) (h5 : m.nonce = n.nonce) (h6 : m.box = n.box) (h7 : m.more = n.more) : m = n := by
  cases m; cases n; simp_all
def zeroM : M7 := ⟨0, 0, 0, 0, 0, 0, 0⟩
def kindTags (k : Int) : List Int :=
  if k = 1 then [3, 4, 5] else if k = 2 then [6] else if k = 3 then [6] else if k = 4 then [6] else if k = 5 then [6] else if k = 6 then [2, 3, 4, 6] else if k = 7 then [2, 3, 4, 6, 7] else if k = 8 then [2, 6, 7] else if k = 9 then [2, 6] else []
def hasT (k t : Int) : Bool := decide (t ∈ kindTags k)
def isKindB (k : Int) : Bool := decide (1 ≤ k ∧ k ≤ 9)
def M7.word (m : M7) (t : Int) : Int := if t = 2 then m.run else if t = 3 then m.a else if t = 4 then m.b else if t = 5 then m.nonce else if t = 6 then m.box else m.more
def M7.set (m : M7) (t v : Int) : M7 :=
  if t = 2 then { m with run := v } else if t = 3 then { m with a := v } else if t = 4 then { m with b := v } else if t = 5 then { m with nonce := v } else if t = 6 then { m with box := v } else { m with more := v }
def fitsM (m : M7) (t : Int) : Bool := hasT m.kind t || m.word t == 0
def mayM (m : M7) : Bool := isKindB m.kind && (fitsM m 2 && fitsM m 3 && fitsM m 4 && fitsM m 5 && fitsM m 6 && fitsM m 7)
def tagFields (m : M7) : List Fld := (kindTags m.kind).map fun t => (t, [m.word t])
def fieldsM (m : M7) : List Fld := (1, [m.kind]) :: tagFields m
def putM (m : M7) : List Int := flatF (fieldsM m)
def wordOf (R : List Fld) (t : Int) : Int := ((R.find? fun f => f.1 == t).map fun f => f.2.getD 0 0).getD 0
def okW (k : Int) (R : List Fld) : Bool := decide (R.map (·.1) = kindTags k ∧ ∀ f ∈ R, f.2.length = 1)
def msgOf (k : Int) (R : List Fld) : M7 := ⟨k, wordOf R 2, wordOf R 3, wordOf R 4, wordOf R 5, wordOf R 6, wordOf R 7⟩
def headOk (f : Fld) : Bool := decide (f.1 = 1 ∧ f.2.length = 1 ∧ 1 ≤ f.2.getD 0 0 ∧ f.2.getD 0 0 ≤ 9)
def finM : List Fld → M7 × Int
  | [] => (zeroM, 4)
  | f :: R => if headOk f then (if okW (f.2.getD 0 0) R then (msgOf (f.2.getD 0 0) R, 0) else (zeroM, 2)) else (zeroM, 4)
def getM (l : List Int) : M7 × Int := if (getF l).2 = 0 then finM (getF l).1 else (zeroM, (getF l).2)

theorem kinds {k : Int} (h : isKindB k = true) : k = 1 ∨ k = 2 ∨ k = 3 ∨ k = 4 ∨ k = 5 ∨ k = 6 ∨ k = 7 ∨ k = 8 ∨ k = 9 := by
  have := of_decide_eq_true h; omega
theorem kindTags_ok (k : Int) : ∀ t ∈ kindTags k, 2 ≤ t ∧ t ≤ 7 := by
  intro t ht
  unfold kindTags at ht
  repeat' split at ht
  all_goals simp at ht
  all_goals omega
theorem kindTags_len (k : Int) : (kindTags k).length ≤ 5 := by
  unfold kindTags
  repeat' split
  all_goals simp
theorem mayM_kind {m : M7} (h : mayM m = true) : isKindB m.kind = true := by unfold mayM at h; simp at h; exact h.1
theorem mayM_fits {m : M7} (h : mayM m = true) : fitsM m 2 = true ∧ fitsM m 3 = true ∧ fitsM m 4 = true ∧ fitsM m 5 = true ∧ fitsM m 6 = true ∧ fitsM m 7 = true := by
  unfold mayM at h; simp only [Bool.and_eq_true] at h
  exact ⟨h.2.1.1.1.1.1, h.2.1.1.1.1.2, h.2.1.1.1.2, h.2.1.1.2, h.2.1.2, h.2.2⟩
theorem okF_tagFields (m : M7) : ∀ f ∈ tagFields m, okF f := by
  intro f hf
  unfold tagFields at hf
  rw [List.mem_map] at hf
  obtain ⟨t, ht, rfl⟩ := hf
  have := kindTags_ok _ t ht
  exact ⟨by simp; omega, by simp; omega, by simp⟩
theorem okF_fieldsM (m : M7) : ∀ f ∈ fieldsM m, okF f := by
  intro f hf
  rcases List.mem_cons.1 hf with rfl | hf
  · exact ⟨by simp, by simp, by simp⟩
  · exact okF_tagFields m f hf
theorem flatF_ones (T : List Int) (g : Int → Int) : (flatF (T.map fun t => (t, [g t]))).length = 3 * T.length := by
  induction T with
  | nil => rfl
  | cons t T ih => rw [List.map_cons, flatF_cons]; simp [ih]; omega
theorem putM_length (m : M7) : (putM m).length = 3 + 3 * (kindTags m.kind).length := by
  unfold putM fieldsM
  rw [flatF_cons]
  have := flatF_ones (kindTags m.kind) m.word
  unfold tagFields
  simp only [List.length_cons, List.length_append, this]
  simp
  omega
theorem fieldsM_len (m : M7) : (fieldsM m).length ≤ 6 := by
  have := kindTags_len m.kind
  simp [fieldsM, tagFields]; omega
theorem okW_tagFields (m : M7) : okW m.kind (tagFields m) = true := by
  unfold okW tagFields
  apply decide_eq_true
  refine ⟨by rw [List.map_map]; exact (List.map_id' _), ?_⟩
  intro f hf
  rw [List.mem_map] at hf
  obtain ⟨t, _, rfl⟩ := hf
  rfl
theorem msgOf_tagFields {m : M7} (h : mayM m = true) : msgOf m.kind (tagFields m) = m := by
  obtain ⟨f2, f3, f4, f5, f6, f7⟩ := mayM_fits h
  have hk := kinds (mayM_kind h)
  obtain ⟨k, r, a, b, n, x, o⟩ := m
  simp only at hk
  rcases hk with rfl | rfl | rfl | rfl | rfl | rfl | rfl | rfl | rfl <;>
    simp [fitsM, hasT, kindTags, M7.word] at f2 f3 f4 f5 f6 f7 <;> simp [msgOf, tagFields, kindTags, wordOf, M7.word, *]
theorem headOk_kind {k : Int} (h : isKindB k = true) : headOk (1, [k]) = true := by
  have := of_decide_eq_true h
  exact decide_eq_true ⟨rfl, rfl, by simpa using this.1, by simpa using this.2⟩
/-- What is put is read as it was. -/
theorem get_put {m : M7} (h : mayM m = true) : getM (putM m) = (m, 0) := by
  have hl := putM_length m
  have hk := kindTags_len m.kind
  have h1 := getF_flat (fieldsM m) (okF_fieldsM m) (by have := fieldsM_len m; omega) (by show (putM m).length ≤ 64; omega)
  have h2 : finM (fieldsM m) = (m, 0) := by
    show (if headOk (1, [m.kind]) then (if okW m.kind (tagFields m) then (msgOf m.kind (tagFields m), 0) else (zeroM, 2)) else (zeroM, 4)) = (m, (0 : Int))
    rw [if_pos (headOk_kind (mayM_kind h)), if_pos (okW_tagFields m), msgOf_tagFields h]
  unfold getM putM
  rw [h1, if_pos rfl, h2]
theorem getD_one {d : List Int} (h : d.length = 1) : d = [d.getD 0 0] := by
  match d, h with
  | [x], _ => rfl
/-- The fields of a kind are those of the message that they make, which may be. -/
theorem okW_fields {k : Int} {R : List Fld} (hk : isKindB k = true) (h : okW k R = true) : tagFields (msgOf k R) = R ∧ mayM (msgOf k R) = true := by
  obtain ⟨h1, h2⟩ := of_decide_eq_true h
  have key : ∀ f ∈ R, ∃ x, f.2 = [x] := fun f hf => ⟨_, getD_one (h2 f hf)⟩
  clear h2 h
  rcases kinds hk with rfl | rfl | rfl | rfl | rfl | rfl | rfl | rfl | rfl <;>
    simp only [kindTags, if_true, reduceIte, Int.reduceEq, List.map_eq_cons_iff, List.map_eq_nil_iff] at h1
  all_goals
    first
      | (obtain ⟨⟨t1, d1⟩, r1, rfl, rfl, ⟨t2, d2⟩, r2, rfl, rfl, ⟨t3, d3⟩, r3, rfl, rfl, ⟨t4, d4⟩, r4, rfl, rfl, ⟨t5, d5⟩, r5, rfl, rfl, rfl⟩ := h1
         obtain ⟨x1, rfl⟩ := key (_, d1) (List.Mem.head _)
         obtain ⟨x2, rfl⟩ := key (_, d2) (List.Mem.tail _ (List.Mem.head _))
         obtain ⟨x3, rfl⟩ := key (_, d3) (List.Mem.tail _ (List.Mem.tail _ (List.Mem.head _)))
         obtain ⟨x4, rfl⟩ := key (_, d4) (List.Mem.tail _ (List.Mem.tail _ (List.Mem.tail _ (List.Mem.head _))))
         obtain ⟨x5, rfl⟩ := key (_, d5) (List.Mem.tail _ (List.Mem.tail _ (List.Mem.tail _ (List.Mem.tail _ (List.Mem.head _))))))
      | (obtain ⟨⟨t1, d1⟩, r1, rfl, rfl, ⟨t2, d2⟩, r2, rfl, rfl, ⟨t3, d3⟩, r3, rfl, rfl, ⟨t4, d4⟩, r4, rfl, rfl, rfl⟩ := h1
         obtain ⟨x1, rfl⟩ := key (_, d1) (List.Mem.head _)
         obtain ⟨x2, rfl⟩ := key (_, d2) (List.Mem.tail _ (List.Mem.head _))
         obtain ⟨x3, rfl⟩ := key (_, d3) (List.Mem.tail _ (List.Mem.tail _ (List.Mem.head _)))
         obtain ⟨x4, rfl⟩ := key (_, d4) (List.Mem.tail _ (List.Mem.tail _ (List.Mem.tail _ (List.Mem.head _)))))
      | (obtain ⟨⟨t1, d1⟩, r1, rfl, rfl, ⟨t2, d2⟩, r2, rfl, rfl, ⟨t3, d3⟩, r3, rfl, rfl, rfl⟩ := h1
         obtain ⟨x1, rfl⟩ := key (_, d1) (List.Mem.head _)
         obtain ⟨x2, rfl⟩ := key (_, d2) (List.Mem.tail _ (List.Mem.head _))
         obtain ⟨x3, rfl⟩ := key (_, d3) (List.Mem.tail _ (List.Mem.tail _ (List.Mem.head _))))
      | (obtain ⟨⟨t1, d1⟩, r1, rfl, rfl, ⟨t2, d2⟩, r2, rfl, rfl, rfl⟩ := h1
         obtain ⟨x1, rfl⟩ := key (_, d1) (List.Mem.head _)
         obtain ⟨x2, rfl⟩ := key (_, d2) (List.Mem.tail _ (List.Mem.head _)))
      | (obtain ⟨⟨t1, d1⟩, r1, rfl, rfl, rfl⟩ := h1
         obtain ⟨x1, rfl⟩ := key (_, d1) (List.Mem.head _))
    exact ⟨by simp [tagFields, msgOf, kindTags, M7.word, wordOf], by simp [mayM, fitsM, hasT, msgOf, kindTags, M7.word, wordOf, isKindB]⟩
/-- What is read is a message that may be, and put as it was. -/
theorem put_get {l : List Int} (h0 : ∀ x ∈ l, 0 ≤ x) (h : (getM l).2 = 0) : mayM (getM l).1 = true ∧ putM (getM l).1 = l := by
  rcases getF_read l h0 with ⟨h1, h2, h3⟩ | ⟨_, h2⟩ | ⟨_, h2⟩
  · unfold getM at h ⊢
    rw [if_pos h1] at h ⊢
    cases hF : (getF l).1 with
    | nil => rw [hF] at h; simp [finM] at h
    | cons f R =>
      rw [hF] at h h2
      by_cases hh : headOk f = true
      · by_cases hw : okW (f.2.getD 0 0) R = true
        · have e : finM (f :: R) = (msgOf (f.2.getD 0 0) R, 0) := by simp only [finM]; rw [if_pos hh, if_pos hw]
          obtain ⟨g1, g2, g3, g4⟩ := of_decide_eq_true hh
          obtain ⟨w1, w2⟩ := okW_fields (decide_eq_true ⟨g3, g4⟩) hw
          rw [e]
          refine ⟨w2, ?_⟩
          rw [← h2]
          show flatF ((1, [f.2.getD 0 0]) :: tagFields (msgOf (f.2.getD 0 0) R)) = flatF (f :: R)
          rw [w1, ← getD_one g2, ← g1]
        · simp only [finM] at h; rw [if_pos hh, if_neg hw] at h; simp at h
      · simp only [finM] at h; rw [if_neg hh] at h; simp at h
  · unfold getM at h; rw [h2] at h; simp at h
  · unfold getM at h; rw [h2] at h; simp at h
/-- Beside an error stands a message of zeros. -/
theorem get_zero (l : List Int) (h : (getM l).2 ≠ 0) : (getM l).1 = zeroM := by
  unfold getM at h ⊢
  split
  · rename_i h1
    rw [if_pos h1] at h
    cases hF : (getF l).1 with
    | nil => rfl
    | cons f R =>
      rw [hF] at h
      simp only [finM] at h ⊢
      by_cases hh : headOk f = true
      · rw [if_pos hh] at h ⊢
        by_cases hw : okW (f.2.getD 0 0) R = true
        · rw [if_pos hw] at h; simp at h
        · rw [if_neg hw]
      · rw [if_neg hh]
  · rfl
theorem put_inj {m n : M7} (hm : mayM m = true) (hn : mayM n = true) (h : putM m = putM n) : m = n := by
  have h1 := get_put hm
  rw [h, get_put hn] at h1
  exact (Prod.mk.inj h1).1.symm
end Go.Proofs.Ytgkfbikffcmmdaa
