/- Plain words on rows of fields that a world holds. Nothing here names a function of the program. -/
import Derived.Test.YthpcnekidlhfpaaDoorWireA
namespace Go.Proofs.YthpcnekidlhfpaaDoor
open Go.RowKit

/-- A field in two cells. -/
def FldAt (w : World) (b o : Nat) (f : Fld) : Prop := ∃ a c, w.cell? ⟨b, o, none⟩ = some (.int .u32 f.1) ∧ w.cell? ⟨b, o + 1, none⟩ = some (.slice a f.2.length c) ∧ Ints .u32 w (.slice a f.2.length c) f.2
theorem FldAt.below {w w' : World} {b o : Nat} {f : Fld} (h : FldAt w b o f) (hb : Below w.heap.size w w') : FldAt w' b o f := by
  obtain ⟨a, c, h1, h2, h3⟩ := h
  exact ⟨a, c, (hb.cell (p := ⟨b, o, none⟩) (lt_of_cell h1)).trans h1, (hb.cell (p := ⟨b, o + 1, none⟩) (lt_of_cell h2)).trans h2, h3.below hb⟩
/-- A slice of fields. -/
def Flds (w : World) (v : Value) (F : List Fld) : Prop :=
  ∃ a c, v = .slice a F.length c ∧ F.length ≤ c ∧ c ≤ maxLen ∧ (F = [] ∨ ∃ b o, a = some ⟨b, o, none⟩ ∧ ∀ i f, F[i]? = some f → FldAt w b (o + i * 2) f)
theorem Flds.below {w w' : World} {v : Value} {F : List Fld} (h : Flds w v F) (hb : Below w.heap.size w w') : Flds w' v F := by
  obtain ⟨a, c, h1, h2, h3, h4⟩ := h
  refine ⟨a, c, h1, h2, h3, ?_⟩
  rcases h4 with h4 | ⟨b, o, h4, h5⟩
  · exact .inl h4
  · exact .inr ⟨b, o, h4, fun i f hf => (h5 i f hf).below hb⟩
theorem Flds.reads {w w' : World} {v : Value} {F : List Fld} (h : Flds w v F) (hr : Reads w w') : Flds w' v F := h.below (hr.below _)
theorem Flds.cells {w : World} {v : Value} {F : List Fld} (h : Flds w v F) (hz : F ≠ []) :
    ∃ b o c, v = .slice (some ⟨b, o, none⟩) F.length c ∧ F.length ≤ c ∧ c ≤ maxLen ∧ ∀ i f, F[i]? = some f → FldAt w b (o + i * 2) f := by
  obtain ⟨a, c, h1, h2, h3, h4⟩ := h
  rcases h4 with h4 | ⟨b, o, rfl, h5⟩
  · exact absurd h4 hz
  · exact ⟨b, o, c, h1, h2, h3, h5⟩

/-- The cells of fields, their words by their slices. -/
def cellsE (E : List (Fld × Value)) : List Value := E.flatMap fun p => [.int .u32 p.1.1, p.2]
theorem cellsE_snoc (E : List (Fld × Value)) (p : Fld × Value) : cellsE E ++ [.int .u32 p.1.1, p.2] = cellsE (E ++ [p]) := by simp [cellsE]
theorem cellsE_at : ∀ (E : List (Fld × Value)) (i : Nat) (p : Fld × Value), E[i]? = some p → (cellsE E)[i * 2]? = some (.int .u32 p.1.1) ∧ (cellsE E)[i * 2 + 1]? = some p.2 := by
  intro E
  induction E with
  | nil => intro i p h; simp at h
  | cons q E ih =>
    intro i p h
    cases i with
    | zero => simp at h; subst h; simp [cellsE]
    | succ i =>
      have := ih i p (by simpa using h)
      have e : cellsE (q :: E) = .int .u32 q.1.1 :: q.2 :: cellsE E := by simp [cellsE]
      rw [e, show (i + 1) * 2 = i * 2 + 1 + 1 from by omega, show i * 2 + 1 + 1 + 1 = i * 2 + 1 + 1 + 1 from rfl]
      simpa using this
/-- What the call owns: a row of fields, the words of each in a row of numbers. -/
def OwnsF (base : Nat) (w : World) (v : Value) (F : List Fld) : Prop :=
  ∃ E : List (Fld × Value), E.map (·.1) = F ∧ w.ownsRow base 57 2 v F.length (cellsE E) ∧ ∀ p ∈ E, Ints .u32 w p.2 p.1.2 ∧ Typed 22 w p.2
theorem OwnsF.nil (base : Nat) (w : World) : OwnsF base w (.slice none 0 0) [] := ⟨[], rfl, ⟨rfl, .inl ⟨rfl, rfl⟩⟩, fun p hp => by cases hp⟩
theorem owns_below2 {w w' : World} {base : Nat} {e : TypeId} {size : Nat} {v : Value} {n : Nat} {xs : List Value} (h : w.ownsRow base e size v n xs) (hb : Below w.heap.size w w') : w'.ownsRow base e size v n xs := by
  refine ⟨h.1, ?_⟩
  rcases h.2 with h0 | ⟨g, cap, cur, rfl, hg, hh, r⟩
  · exact .inl h0
  · refine .inr ⟨g, cap, cur, rfl, hg, ?_, r⟩
    rw [hb.block g (Array.getElem?_eq_some_iff.1 hh).1]; exact hh
theorem OwnsF.below {base : Nat} {w w' : World} {v : Value} {F : List Fld} (h : OwnsF base w v F) (hb : Below w.heap.size w w') : OwnsF base w' v F := by
  obtain ⟨E, h1, h2, h3⟩ := h
  exact ⟨E, h1, owns_below2 h2 hb, fun p hp => ⟨(h3 p hp).1.below hb, (h3 p hp).2.below hb⟩⟩
theorem OwnsF.flds {base : Nat} {w : World} {v : Value} {F : List Fld} (h : OwnsF base w v F) : Flds w v F := by
  obtain ⟨E, rfl, h2, h3⟩ := h
  have hown := h2
  obtain ⟨hl, h4⟩ := h2
  rcases h4 with ⟨rfl, h0⟩ | ⟨g, cap, cur, rfl, hb, hg, hnc, hcm, hcs, ht⟩
  · have : E = [] := by simpa using h0
    subst this
    exact ⟨none, 0, rfl, Nat.le_refl _, Nat.zero_le _, .inl rfl⟩
  · refine ⟨some ⟨g, 0, none⟩, cap, rfl, hnc, hcm, .inr ⟨g, 0, rfl, fun i f hf => ?_⟩⟩
    rw [List.getElem?_map] at hf
    obtain ⟨p, hp, rfl⟩ := Option.map_eq_some_iff.1 hf
    obtain ⟨c1, c2⟩ := cellsE_at E i p hp
    have hi : i < E.length := by
      rcases Nat.lt_or_ge i E.length with h1 | h1
      · exact h1
      · rw [List.getElem?_eq_none h1] at hp; simp at hp
    obtain ⟨i1, _⟩ := h3 p (List.mem_of_getElem? hp)
    obtain ⟨a, c, hpc⟩ := i1.form
    have k1 := hown.cellAt (i * 2) (by simp; omega)
    have k2 := hown.cellAt (i * 2 + 1) (by simp; omega)
    have hx : cellsE E = cur.toList.take ((List.map (fun x => x.1) E).length * 2) := ht.symm
    refine ⟨a, c, ?_, ?_, by rw [← hpc]; exact i1⟩
    · rw [Nat.zero_add, k1]; first | exact c1 | (simp [c1])
    · rw [Nat.zero_add, k2, ← hpc]; first | exact c2 | (simp [c2])
/-- A field is put behind those that the call owns. -/
theorem OwnsF.snoc {base : Nat} {w w' : World} {v v' : Value} {E : List (Fld × Value)} {p : Fld × Value} (hall : ∀ q ∈ E, Ints .u32 w q.2 q.1.2 ∧ Typed 22 w q.2) (hp : Ints .u32 w p.2 p.1.2 ∧ Typed 22 w p.2)
    (ho : w.ownsRow base 57 2 v E.length (cellsE E)) (ho' : w'.ownsRow base 57 2 v' (E.length + 1) (cellsE E ++ [.int .u32 p.1.1, p.2])) (hg : w.grownBy w' v.ownBlock) :
    OwnsF base w' v' (E.map (·.1) ++ [p.1]) := by
  refine ⟨E ++ [p], by simp, ?_, ?_⟩
  · rw [← cellsE_snoc]; simpa using ho'
  · intro q hq
    have hq' : Ints .u32 w q.2 q.1.2 ∧ Typed 22 w q.2 := by
      rcases List.mem_append.1 hq with h | h
      · exact hall q h
      · simp at h; subst h; exact hp
    have hne := hq'.2.ne ho (by decide)
    exact ⟨hq'.1.grown hg hne, hq'.2.grown hg hne⟩
end Go.Proofs.YthpcnekidlhfpaaDoor
