/- Plain words on worlds, and on slices of numbers that a world holds. Nothing here names a function of the program. -/
import Derived.Test.YtgkfbikffcmmdaaRows
import Derived.WalkKit
import Derived.ProofKit
import Derived.Below
import Derived.BigQuiet
import Derived.Deep.QuietTactic
import Derived.Lib.Hide
import Derived.Outline
import Derived.WalkSmall
import Derived.Deep.Draws
import Derived.Laws.CopyOwn
import Derived.WalkSpells
import Derived.Laws.AppendOwnNone
namespace Go.Proofs.Ytgkfbikffcmmdaa
open Go.RowKit

/-- The world is as it was, but for draws. -/
def Reads (w w' : World) : Prop := ∃ q, w' = w.drewN q
theorem Reads.refl (w : World) : Reads w w := ⟨0, rfl⟩
theorem Reads.drewN {w w' : World} (h : Reads w w') (n : Nat) : Reads w (w'.drewN n) := by
  obtain ⟨q, rfl⟩ := h
  exact ⟨q + n, World.drewN_drewN _ _ _⟩
theorem reads1 (w : World) (q : Nat) : Reads w (w.drewN q) := ⟨q, rfl⟩
theorem reads2 (w : World) (q n : Nat) : Reads w ((w.drewN q).drewN n) := ⟨q + n, World.drewN_drewN _ _ _⟩
theorem Reads.drew {w w' : World} (h : Reads w w') : Reads w w'.drew := h.drewN 1
theorem Reads.trans {w w' w'' : World} (h : Reads w w') (k : Reads w' w'') : Reads w w'' := by
  obtain ⟨q, rfl⟩ := k
  exact h.drewN q
theorem Reads.below {w w' : World} (h : Reads w w') (B : Nat) : Below B w w' := by
  obtain ⟨q, rfl⟩ := h
  exact below_drewN (Below.refl _ _) q
theorem Reads.of_eq {w w' : World} (h : w = w') : Reads w w' := h ▸ Reads.refl _

theorem lt_of_cell {w : World} {p : Addr} {v : Value} (h : w.cell? p = some v) : p.block < w.heap.size := World.block_lt_of_cell? (w := w) (a := p) h

theorem add_row (b off i : Nat) : (⟨b, off, none⟩ : Addr).add i = ⟨b, off + i, none⟩ := by simp [Addr.add]
/-- A slice of numbers: nil and empty, or its cells hold the numbers of the list. -/
def Ints (k : IntKind) (w : World) (v : Value) (zs : List Int) : Prop :=
  (v = .slice none 0 0 ∧ zs = []) ∨ ∃ x c, v = .slice (some x) zs.length c ∧ zs.length ≤ c ∧ c ≤ maxLen ∧ ∀ i, i < zs.length → w.cell? (x.add i) = some (.int k (zs.getD i 0))
theorem Ints.nil (k : IntKind) (w : World) : Ints k w (.slice none 0 0) [] := .inl ⟨rfl, rfl⟩
theorem Ints.row {k : IntKind} {w : World} {b off n c : Nat} {zs : List Int} (hn : zs.length = n) (hl : n ≤ c) (hm : c ≤ maxLen) (hc : ∀ i, i < n → w.cell? ⟨b, off + i, none⟩ = some (.int k (zs.getD i 0))) : Ints k w (.slice (some ⟨b, off, none⟩) n c) zs := by
  subst hn
  exact .inr ⟨⟨b, off, none⟩, c, rfl, hl, hm, fun i hi => by rw [add_row]; exact hc i hi⟩
theorem Ints.none {k : IntKind} {w : World} {x : Addr} {c : Nat} (hm : c ≤ maxLen) : Ints k w (.slice (some x) 0 c) [] := .inr ⟨x, c, rfl, Nat.zero_le _, hm, fun _ hi => absurd hi (Nat.not_lt_zero _)⟩
theorem Ints.form {k : IntKind} {w : World} {v : Value} {zs : List Int} (h : Ints k w v zs) : ∃ a c, v = .slice a zs.length c := by
  rcases h with ⟨rfl, rfl⟩ | ⟨x, c, rfl, _⟩
  · exact ⟨_, 0, rfl⟩
  · exact ⟨_, c, rfl⟩
theorem Ints.addr {k : IntKind} {w : World} {v : Value} {zs : List Int} (h : Ints k w v zs) : (v = .slice .none 0 0 ∧ zs = []) ∨ ∃ x c, v = .slice (some x) zs.length c ∧ zs.length ≤ c ∧ c ≤ maxLen := by
  rcases h with h | ⟨x, c, rfl, hl, hm, _⟩
  · exact .inl h
  · exact .inr ⟨x, c, rfl, hl, hm⟩
theorem Ints.cells {k : IntKind} {w : World} {v : Value} {zs : List Int} (h : Ints k w v zs) (hz : zs ≠ []) :
    ∃ b off c, v = .slice (some ⟨b, off, .none⟩) zs.length c ∧ zs.length ≤ c ∧ c ≤ maxLen ∧ ∀ i, i < zs.length → w.cell? ⟨b, off + i, .none⟩ = some (.int k (zs.getD i 0)) := by
  rcases h with ⟨rfl, rfl⟩ | ⟨x, c, rfl, hl, hm, hc⟩
  · exact absurd rfl hz
  · have h0 := hc 0 (List.length_pos_iff.2 hz)
    obtain ⟨b, off, spot⟩ := x
    have hspot : spot = .none := by simpa [Addr.add] using World.cell?_spot h0
    subst hspot
    exact ⟨b, off, c, rfl, hl, hm, fun i hi => by rw [← add_row]; exact hc i hi⟩
theorem Ints.len {k : IntKind} {w : World} {v : Value} {zs : List Int} (h : Ints k w v zs) : zs.length ≤ 9223372036854775807 := by
  rcases h with ⟨rfl, rfl⟩ | ⟨x, c, rfl, hl, hm, _⟩
  · simp
  · unfold maxLen at hm; omega
theorem Ints.reads {k : IntKind} {w w' : World} {v : Value} {zs : List Int} (h : Ints k w v zs) (r : Reads w w') : Ints k w' v zs := by
  obtain ⟨q, rfl⟩ := r
  exact h
theorem Ints.below {k : IntKind} {w w' : World} {v : Value} {zs : List Int} (h : Ints k w v zs) (hb : Below w.heap.size w w') : Ints k w' v zs := by
  rcases h with h | ⟨x, c, rfl, hl, hm, hc⟩
  · exact .inl h
  · exact .inr ⟨x, c, rfl, hl, hm, fun i hi => (hb.cell (p := x.add i) (lt_of_cell (hc i hi))).trans (hc i hi)⟩
theorem ints_new {k : IntKind} {w : World} {e : TypeId} {arr : Array Value} {g n : Nat} (zs : List Int) (hg : g = w.heap.size) (h : arr = (zs.map (Value.int k)).toArray) (hn : n = zs.length) (hm : n ≤ maxLen) :
    Ints k (w.alloc (.cells arr e)) (.slice (some ⟨g, 0, none⟩) n n) zs := by
  subst h hg hn
  refine Ints.row rfl (Nat.le_refl _) hm fun i hi => ?_
  rw [Nat.zero_add, World.cell?_alloc_new]
  simp [hi]
theorem Ints.alloc {k : IntKind} {w : World} {v : Value} {zs : List Int} (h : Ints k w v zs) (o : Obj) : Ints k (w.alloc o) v zs := h.below ((Below.refl _ _).alloc (Nat.le_refl _) o)
theorem small (n : Nat) (h : n ≤ 1073741824) : n ≤ maxLen := by unfold maxLen; omega

theorem ints_of_open {k : IntKind} {w : World} {x : Addr} {l c : Nat} {zs : List Int} (hl : l ≤ c) (hm : c ≤ maxLen) (hz : zs.length = c) (hc : ∀ i, i < zs.length → w.cell? (x.add i) = some (.int k (zs.getD i 0))) : Ints k w (.slice (some x) l c) (zs.take l) := by
  have hlen : (zs.take l).length = l := by simp; omega
  refine .inr ⟨x, c, by rw [hlen], by omega, hm, fun i hi => ?_⟩
  rw [hc i (by omega)]
  have h1 : i < l := by omega
  simp [h1]
/-- A slice that lies in memory from block B on, or in none. -/
def From (B : Nat) (v : Value) : Prop := ∀ a n c, v = .slice (some a) n c → B ≤ a.block
theorem From.mono {B B' : Nat} {v : Value} (h : From B v) (hB : B' ≤ B) : From B' v := fun a n c e => Nat.le_trans hB (h a n c e)
theorem From.nil (B : Nat) (n c : Nat) : From B (.slice none n c) := fun a n c e => by simp at e
theorem From.some {B g off : Nat} {n c : Nat} (h : B ≤ g) : From B (.slice (some ⟨g, off, none⟩) n c) := fun a n c e => by
  simp at e; rw [← e.1]; exact h

/-- What the call owns reads as a slice of numbers. -/
theorem ints_of_owns {k : IntKind} {w : World} {base : Nat} {e : TypeId} {v : Value} {n : Nat} {zs : List Int} (h : w.ownsRow base e 1 v n (zs.map (Value.int k))) : Ints k w v zs ∧ From base v ∧ zs.length = n := by
  obtain ⟨h1, h2⟩ := h
  have hn : zs.length = n := by simpa using h1
  subst hn
  rcases h2 with ⟨rfl, h0⟩ | ⟨g, cap, cur, rfl, hb, hg, hnc, hcm, hcs, ht⟩
  · exact ⟨.inl ⟨rfl, List.eq_nil_of_length_eq_zero h0⟩, From.nil _ _ _, rfl⟩
  · refine ⟨Ints.row rfl hnc hcm fun i hi => ?_, From.some hb, rfl⟩
    have hown : w.ownsRow base e 1 (.slice (some ⟨g, 0, none⟩) zs.length cap) zs.length (zs.map (Value.int k)) := ⟨h1, .inr ⟨g, cap, cur, rfl, hb, hg, hnc, hcm, hcs, ht⟩⟩
    have := hown.cellAt i (by omega)
    rw [Nat.zero_add, this]
    simp [hi]

theorem wpList_wanted {P : Program} {ops : Array Oper} {Q : Exit → Act → World → Prop} {a : Act} {w : World} {rest : List Oper} {o : Oper} (hg : Region.wanted o (yielded ops a.tmps) = true)
    (h : ∀ K : Act → World → Prop, (∀ a w, wpList P ops Q rest a w → K a w) → o.wp P a w K Q) : wpList P ops Q (o :: rest) a w :=
  wpList_step fun K hK => by simp only [hg, if_true]; exact h K hK
/-- 'append(v, u...)', v the call's own, u any slice of numbers. -/
theorem wpList_append_ints {P : Program} {w : World} {ops : Array Oper} {rest : List Oper} {o : Oper} {a : Act} {Q : Exit → Act → World → Prop} (hgd : Region.wanted o (yielded ops a.tmps) = true) (s x : Operand) (t : TypeId)
    (ho : o.op = .call { callee := .builtin .append, args := #[s, x], argTypes := #[t, t] })
    (base : Nat) (e : TypeId) (i : TypeInfo) (k : IntKind) (z : Int) (bytes : Nat) (ht : P.underlying t = some (.slice e)) (hi : P.info? e = some i) (hz : i.zero = some (.int k z))
    (hsize : i.size = 1) (hby : i.bytes = bytes) (hb8 : bytes ≤ 8)
    (v : Value) (n : Nat) (xs : List Int) (hs : a.eval s = v) (hown : w.ownsRow base e 1 v n (xs.map (Value.int k)))
    (u : Value) (B : List Int) (hx : a.eval x = u) (hB : Ints k w u B) (hsum : n + B.length ≤ 1073741824) (hbase : base ≤ w.heap.size)
    (h : ∀ v' w', w'.ownsRow base e 1 v' (n + B.length) ((xs ++ B).map (Value.int k)) → w.grownBy w' v.ownBlock → wpList P ops Q rest (a.put o.dst v') w') : wpList P ops Q (o :: rest) a w := by
  rcases hB with ⟨rfl, rfl⟩ | ⟨ad, c, rfl, _, _, hc⟩
  · refine wpList_wanted hgd fun K hK => ?_
    have hrun := run_append_owned_none (P := P) (w := w) base t o.type e i 1 ht hi v n _ hown
    unfold Oper.wp
    simp [execOp, ho, resolve, invoke, builtin, hs, hx, hrun, Result.andThen]
    exact hK _ _ (h v w (by simpa using hown) (World.grownBy.refl _ _))
  · have hmul : (n + B.length) * bytes ≤ (n + B.length) * 8 := Nat.mul_le_mul_left _ hb8
    refine wpList_wanted hgd fun K hK => wp_append_own w s x t ho base e i (.int k z) 1 bytes ht hi hz hsize hby rfl (by decide) v n _ hs hown ad B.length c (B.map (Value.int k)) hx (by simp) ?_ ?_ (by unfold maxLen; omega) (by omega) hbase ?_
    · intro j y hj
      rw [List.getElem?_map] at hj
      have hjl : j < B.length := by
        rcases Nat.lt_or_ge j B.length with h1 | h1
        · exact h1
        · rw [List.getElem?_eq_none h1] at hj; simp at hj
      rw [hc j hjl]
      simpa [hjl] using hj
    · intro y hy
      rw [List.mem_map] at hy
      obtain ⟨q, _, rfl⟩ := hy
      rfl
    · intro v' w' h1 h2 _
      rw [← List.map_append] at h1
      exact hK _ _ (h v' w' h1 h2)
/-- An empty literal of the call's own. -/
theorem owns_lit {w : World} {base : Nat} {e : TypeId} {g : Nat} (k : IntKind) (hb : base ≤ g) (hg : g = w.heap.size) : (w.alloc (.cells #[] e)).ownsRow base e 1 (.slice (some ⟨g, 0, none⟩) 0 0) 0 (([] : List Int).map (Value.int k)) := by
  subst hg
  refine ⟨rfl, .inr ⟨w.heap.size, 0, #[], rfl, hb, ?_, Nat.le_refl _, Nat.zero_le _, rfl, rfl⟩⟩
  show (w.heap.push _)[w.heap.size]? = _
  simp
theorem owns_below {w w' : World} {base : Nat} {e : TypeId} {v : Value} {n : Nat} {xs : List Value} (h : w.ownsRow base e 1 v n xs) (hb : Below w.heap.size w w') : w'.ownsRow base e 1 v n xs := by
  refine ⟨h.1, ?_⟩
  rcases h.2 with h0 | ⟨g, cap, cur, rfl, hg, hh, r⟩
  · exact .inl h0
  · refine .inr ⟨g, cap, cur, rfl, hg, ?_, r⟩
    rw [hb.block g ?_]
    · exact hh
    · rcases Nat.lt_or_ge g w.heap.size with h1 | h1
      · exact h1
      · rw [Array.getElem?_eq_none h1] at hh; simp at hh
theorem owns_form {w : World} {base : Nat} {e : TypeId} {v : Value} {n : Nat} {xs : List Value} (h : w.ownsRow base e 1 v n xs) : n = 0 ∨ ∃ g cap, v = .slice (some ⟨g, 0, none⟩) n cap ∧ base ≤ g ∧ g < w.heap.size := by
  rcases h.2 with ⟨_, h0⟩ | ⟨g, cap, cur, rfl, hb, hg, _⟩
  · exact .inl h0
  · refine .inr ⟨g, cap, rfl, hb, ?_⟩
    rcases Nat.lt_or_ge g w.heap.size with h1 | h1
    · exact h1
    · rw [Array.getElem?_eq_none h1] at hg; simp at hg
theorem Ints.setCell {k : IntKind} {w : World} {v : Value} {zs : List Int} {B : Nat} {p : Addr} (h : Ints k w v zs) (hf : From B v) (hp : p.block < B) (u : Value) : Ints k (w.setCell p u) v zs := by
  rcases h with h | ⟨x, c, rfl, hl, hm, hc⟩
  · exact .inl h
  · refine .inr ⟨x, c, rfl, hl, hm, fun i hi => ?_⟩
    have hxb : (x.add i).block = x.block := by cases x; simp only [Addr.add]; split <;> rfl
    have hx : B ≤ (x.add i).block := by rw [hxb]; exact hf x _ _ rfl
    rw [World.cell?_of_block (w := w) (Below.heap_setCell w p u _ (by omega))]
    exact hc i hi
theorem bcell {W w1 : World} (hb : Below W.heap.size W w1) : (∀ b o, b < W.heap.size → w1.cell? ⟨b, o, none⟩ = W.cell? ⟨b, o, none⟩) ∧ (∀ b o, b < W.heap.size → w1.frozen? ⟨b, o, none⟩ = W.frozen? ⟨b, o, none⟩) :=
  ⟨fun b o h => hb.cell (p := ⟨b, o, none⟩) h, fun b o h => hb.frozen (p := ⟨b, o, none⟩) h⟩
theorem ints_part {k : IntKind} {w : World} {b o c : Nat} {A : List Int} (hl : A.length ≤ c) (hm : c ≤ maxLen) (hc : ∀ i, i < A.length → w.cell? ⟨b, o + i, none⟩ = some (.int k (A.getD i 0))) {i n : Nat} (hi : i + n ≤ A.length) :
    Ints k w (.slice (some ⟨b, o + i, none⟩) n (c - i)) ((A.drop i).take n) := by
  have hlen : ((A.drop i).take n).length = n := by simp; omega
  refine Ints.row hlen (by omega) (by omega) fun j hj => ?_
  rw [Nat.add_assoc, hc (i + j) (by omega)]
  have h1 : i + j < A.length := by omega
  simp [hj]

/-- A part of a slice, cut off at its end it may keep the old address. -/
theorem ints_part_if {k : IntKind} {w : World} {b o c : Nat} {A : List Int} (hl : A.length ≤ c) (hm : c ≤ maxLen) (hc : ∀ i, i < A.length → w.cell? ⟨b, o + i, none⟩ = some (.int k (A.getD i 0))) {i n : Nat} (hi : i + n ≤ A.length) :
    Ints k w (.slice (if c = i then some ⟨b, o, none⟩ else some ⟨b, o + i, none⟩) n (c - i)) ((A.drop i).take n) := by
  split
  · rename_i h
    obtain rfl : n = 0 := by omega
    rw [List.take_zero]
    exact Ints.none (by omega)
  · exact ints_part hl hm hc hi
/-- 's[i:j]' of a row of numbers, its address under a name. -/
theorem slice_lh {P : Program} {t : TypeId} (ht : P.underlying t = some (.slice (P.elem t))) (hz : ∀ wx, (sizeOf (P.elem t)).run P wx = .ok 1 wx) {k : IntKind} {w : World} {b o m c : Nat} {A : List Int} (hm : A.length = m) (hl : m ≤ c) (hcm : c ≤ maxLen)
    (hc : ∀ i, i < m → w.cell? ⟨b, o + i, none⟩ = some (.int k (A.getD i 0))) (i j : Int) (h0 : 0 ≤ i) (hij : i ≤ j) (hj : j ≤ m) :
    ∃ ad, Ints k w (.slice ad (j.toNat - i.toNat) (c - i.toNat)) ((A.drop i.toNat).take (j.toNat - i.toNat)) ∧
      ∀ wx : World, (Instr.slice t (.slice (some ⟨b, o, none⟩) m c) (some (.int .i64 i)) (some (.int .i64 j)) none).run P wx = .ok (.slice ad (j.toNat - i.toNat) (c - i.toNat)) wx := by
  subst hm
  refine ⟨_, ints_part_if hl hcm hc (by omega), fun wx => ?_⟩
  rw [run_slice_lh (w := wx) t (some ⟨b, o, none⟩) A.length c ht .i64 .i64 i j h0 hij (by omega), hz wx]
  simp only [Result.andThen, sliced, Option.map_some, Nat.mul_one, add_row]
/-- 's[i:]' of a row of numbers, its address under a name. -/
theorem slice_l {P : Program} {t : TypeId} (ht : P.underlying t = some (.slice (P.elem t))) (hz : ∀ wx, (sizeOf (P.elem t)).run P wx = .ok 1 wx) {k : IntKind} {w : World} {b o m c : Nat} {A : List Int} (hm : A.length = m) (hl : m ≤ c) (hcm : c ≤ maxLen)
    (hc : ∀ i, i < m → w.cell? ⟨b, o + i, none⟩ = some (.int k (A.getD i 0))) (i : Int) (h0 : 0 ≤ i) (hij : i ≤ m) :
    ∃ ad, Ints k w (.slice ad (m - i.toNat) (c - i.toNat)) (A.drop i.toNat) ∧
      ∀ wx : World, (Instr.slice t (.slice (some ⟨b, o, none⟩) m c) (some (.int .i64 i)) none none).run P wx = .ok (.slice ad (m - i.toNat) (c - i.toNat)) wx := by
  subst hm
  have h := ints_part_if (i := i.toNat) (n := A.length - i.toNat) hl hcm hc (by omega)
  rw [List.take_of_length_le (by simp)] at h
  refine ⟨_, h, fun wx => ?_⟩
  rw [run_slice_l (w := wx) t (some ⟨b, o, none⟩) A.length c ht .i64 i h0 hij, hz wx]
  simp only [Result.andThen, sliced, Option.map_some, Nat.mul_one, add_row]
/-- A slice's block holds elements of the type. -/
def Typed (T : TypeId) (w : World) (u : Value) : Prop := ∀ a n c, u = .slice (some a) n c → ∃ arr fz, w.heap[a.block]? = some (.cells arr T fz)
theorem Typed.nil (T : TypeId) (w : World) (n c : Nat) : Typed T w (.slice none n c) := fun a n' c' e => by simp at e
theorem Typed.below {T : TypeId} {w w' : World} {u : Value} (h : Typed T w u) (hb : Below w.heap.size w w') : Typed T w' u := by
  intro a n c e
  obtain ⟨arr, fz, hh⟩ := h a n c e
  refine ⟨arr, fz, ?_⟩
  rw [hb.block a.block (Array.getElem?_eq_some_iff.1 hh).1]; exact hh
theorem Typed.reads {T : TypeId} {w w' : World} {u : Value} (h : Typed T w u) (hr : Reads w w') : Typed T w' u := h.below (hr.below _)
theorem Typed.new {T : TypeId} {w : World} {arr : Array Value} {fz : Nat × Nat} {g n c : Nat} (h : w.heap[g]? = some (.cells arr T fz)) : Typed T w (.slice (some ⟨g, 0, none⟩) n c) := by
  intro a n' c' e
  simp at e
  obtain ⟨rfl, _⟩ := e
  exact ⟨arr, fz, h⟩
theorem Typed.owns {T : TypeId} {w : World} {v : Value} {base size n : Nat} {xs : List Value} (h : w.ownsRow base T size v n xs) : Typed T w v := by
  rcases h.2 with ⟨rfl, _⟩ | ⟨g, cap, cur, rfl, _, hg, _⟩
  · exact Typed.nil _ _ _ _
  · exact Typed.new hg
theorem Typed.ne {T E : TypeId} {w : World} {u v : Value} {base size n : Nat} {xs : List Value} (h : Typed T w u) (ho : w.ownsRow base E size v n xs) (hTE : T ≠ E) :
    ∀ a m c, u = .slice (some a) m c → some a.block ≠ v.ownBlock := by
  intro a m c e he
  obtain ⟨arr, fz, hh⟩ := h a m c e
  rcases ho.2 with ⟨rfl, _⟩ | ⟨g, cap, cur, rfl, _, hg, _⟩
  · simp [Value.ownBlock] at he
  · simp [Value.ownBlock] at he
    subst he
    rw [hh] at hg
    simp at hg
    exact hTE hg.2.1
theorem Typed.grown {T : TypeId} {w w' : World} {u : Value} {row : Option Nat} (h : Typed T w u) (hg : w.grownBy w' row) (hne : ∀ a m c, u = .slice (some a) m c → some a.block ≠ row) : Typed T w' u := by
  intro a n c e
  obtain ⟨arr, fz, hh⟩ := h a n c e
  refine ⟨arr, fz, ?_⟩
  rw [hg.block a.block (Array.getElem?_eq_some_iff.1 hh).1 (hne a n c e)]; exact hh
theorem Ints.grown {k : IntKind} {w w' : World} {u : Value} {A : List Int} {row : Option Nat} (h : Ints k w u A) (hg : w.grownBy w' row) (hne : ∀ a m c, u = .slice (some a) m c → some a.block ≠ row) : Ints k w' u A := by
  rcases h with h | ⟨x, c, rfl, hl, hm, hc⟩
  · exact .inl h
  · refine .inr ⟨x, c, rfl, hl, hm, fun i hi => ?_⟩
    have hxb : (x.add i).block = x.block := by cases x; simp only [Addr.add]; split <;> rfl
    exact hg.cell (hc i hi) (by rw [hxb]; exact hne x _ _ rfl)

theorem Typed.setCell {T : TypeId} {w : World} {u : Value} {B : Nat} {p : Addr} (h : Typed T w u) (hf : From B u) (hp : p.block < B) (x : Value) : Typed T (w.setCell p x) u := by
  intro a n c e
  obtain ⟨arr, fz, hh⟩ := h a n c e
  refine ⟨arr, fz, ?_⟩
  rw [Below.heap_setCell w p x _ (by have := hf a n c e; omega)]; exact hh
theorem ret_bool {a b : Bool} (h : a = b) : Ending.returned (.bool a) = .returned (.bool b) := by rw [h]
theorem Try.infoU : (Try.prog.info? 36).map (fun i => (i.zero, i.size, i.bytes)) = some (some (.int .u32 0), 1, 4) := by kernel_rfl
theorem owns_block {w : World} {base : Nat} {e : TypeId} {g n cap : Nat} {xs : List Value} (h : w.ownsRow base e 1 (.slice (some ⟨g, 0, none⟩) n cap) n xs) :
    ∃ cur : List Value, w.heap[g]? = some (.cells cur.toArray e (0, 0)) ∧ cur.length = cap ∧ cur.take n = xs ∧ base ≤ g := by
  rcases h.2 with ⟨h', _⟩ | ⟨g', cap', cur, h', hb, hg, _, _, hcs, htake⟩
  · simp at h'
  · simp only [Value.slice.injEq, Option.some.injEq, Addr.mk.injEq, and_true, true_and] at h'
    obtain ⟨rfl, rfl⟩ := h'
    exact ⟨cur.toList, by simpa using hg, by simpa using hcs, by simpa using htake, hb⟩
theorem ints_of_block {k : IntKind} {w : World} {g c : Nat} {arr : Array Value} {e : TypeId} {zs : List Int} (h : w.heap[g]? = some (.cells arr e (0, 0))) (hl : zs.length ≤ c) (hm : c ≤ maxLen) (hz : ∀ i, i < zs.length → arr[i]? = some (.int k (zs.getD i 0))) :
    Ints k w (.slice (some ⟨g, 0, none⟩) zs.length c) zs :=
  Ints.row rfl hl hm fun i hi => by simpa [World.cell?, h] using hz i hi
theorem ret_int {k : IntKind} {a b : Int} (h : a = b) : Ending.returned (.int k a) = .returned (.int k b) := by rw [h]
theorem int_cell {a b : Int} (h : a = b) : Value.int .i64 a = .int .i64 b := by rw [h]
theorem heap_old (w : World) (o : Obj) {k : Nat} (hk : k < w.heap.size) : (w.alloc o).heap[k]? = w.heap[k]? := ((Below.refl _ _).alloc (Nat.le_refl _) o).block k hk
theorem block_ne {w : World} {g : Nat} {arr : Array Value} {T E : TypeId} {fz : Nat × Nat} {base size n : Nat} {v : Value} {xs : List Value} (h : w.heap[g]? = some (.cells arr T fz)) (ho : w.ownsRow base E size v n xs) (hTE : T ≠ E) : some g ≠ v.ownBlock := by
  intro e
  rcases ho.2 with ⟨rfl, _⟩ | ⟨g', cap, cur, rfl, _, hg, _⟩
  · simp [Value.ownBlock] at e
  · simp [Value.ownBlock] at e
    subst e
    rw [h] at hg
    simp at hg
    exact hTE hg.2.1
theorem block_lt {w : World} {g : Nat} {o : Obj} (h : w.heap[g]? = some o) : g < w.heap.size := (Array.getElem?_eq_some_iff.1 h).1
theorem block_below {w w' : World} {g : Nat} {o : Obj} (h : w.heap[g]? = some o) (hb : Below w.heap.size w w') : w'.heap[g]? = some o := by rw [hb.block g (block_lt h)]; exact h
theorem heap_new_at (w : World) (o : Obj) {g : Nat} (h : g = w.heap.size) : (w.alloc o).heap[g]? = some o := by subst h; exact heap_alloc_new w o
theorem owns_below2 {w w' : World} {base : Nat} {e : TypeId} {size : Nat} {v : Value} {n : Nat} {xs : List Value} (h : w.ownsRow base e size v n xs) (hb : Below w.heap.size w w') : w'.ownsRow base e size v n xs := by
  refine ⟨h.1, ?_⟩
  rcases h.2 with h0 | ⟨g, cap, cur, rfl, hg, hh, r⟩
  · exact .inl h0
  · refine .inr ⟨g, cap, cur, rfl, hg, ?_, r⟩
    rw [hb.block g (Array.getElem?_eq_some_iff.1 hh).1]; exact hh
/-- 'append(v, u...)' at a step of a region that draws, v the call's own, u any slice of numbers. -/
theorem step_append_ints {P : Program} {w : World} {ops : Array Oper} {o : Oper} {a : Act} {K : Act → World → Prop} {Q : Exit → Act → World → Prop} {E : Prop} (hgd : o.guard = none) (s x : Operand) (t : TypeId)
    (ho : o.op = .call { callee := .builtin .append, args := #[s, x], argTypes := #[t, t] })
    (base : Nat) (e : TypeId) (i : TypeInfo) (k : IntKind) (z : Int) (bytes : Nat) (ht : P.underlying t = some (.slice e)) (hi : P.info? e = some i) (hz : i.zero = some (.int k z))
    (hsize : i.size = 1) (hby : i.bytes = bytes) (hb8 : bytes ≤ 8)
    (v : Value) (n : Nat) (xs : List Int) (hs : a.eval s = v) (hown : w.ownsRow base e 1 v n (xs.map (Value.int k)))
    (u : Value) (B : List Int) (hx : a.eval x = u) (hB : Ints k w u B) (hsum : n + B.length ≤ 1073741824) (hbase : base ≤ w.heap.size)
    (h : ∀ v' w', w'.ownsRow base e 1 v' (n + B.length) ((xs ++ B).map (Value.int k)) → w.grownBy w' v.ownBlock → K (a.put o.dst v') w') :
    if Region.wanted o (yielded ops a.tmps) = true then Oper.wp P o a w K Q else E := by
  have hw : Region.wanted o (yielded ops a.tmps) = true := by simp [Region.wanted, hgd]
  rw [if_pos hw]
  rcases hB with ⟨rfl, rfl⟩ | ⟨ad, c, rfl, _, _, hc⟩
  · have hrun := run_append_owned_none (P := P) w base t o.type e i 1 ht hi v n _ hown
    unfold Oper.wp
    simp [execOp, ho, resolve, invoke, builtin, hs, hx, hrun, Result.andThen]
    exact h v w (by simpa using hown) (World.grownBy.refl _ _)
  · have hmul : (n + B.length) * bytes ≤ (n + B.length) * 8 := Nat.mul_le_mul_left _ hb8
    refine wp_append_own w s x t ho base e i (.int k z) 1 bytes ht hi hz hsize hby rfl (by decide) v n _ hs hown ad B.length c (B.map (Value.int k)) hx (by simp) ?_ ?_ (by unfold maxLen; omega) (by omega) hbase ?_
    · intro j y hj
      rw [List.getElem?_map] at hj
      have hjl : j < B.length := by
        rcases Nat.lt_or_ge j B.length with h1 | h1
        · exact h1
        · rw [List.getElem?_eq_none h1] at hj; simp at hj
      rw [hc j hjl]
      simpa [hjl] using hj
    · intro y hy
      rw [List.mem_map] at hy
      obtain ⟨q, _, rfl⟩ := hy
      rfl
    · intro v' w' h1 h2 _
      rw [← List.map_append] at h1
      exact h v' w' h1 h2
theorem below_lit {w w' : World} {o : Obj} (h : (w.alloc o).grownBy w' (Value.slice (some ⟨w.heap.size, 0, none⟩) 0 0).ownBlock) : Below w.heap.size w w' :=
  ((Below.refl _ _).alloc (Nat.le_refl _) o).grown h (by simp) (fun g hg => by simp [Value.ownBlock] at hg; omega)
theorem below_lit2 {w w' : World} {o : Obj} (h : (w.alloc o).drew.grownBy w' (Value.slice (some ⟨w.heap.size, 0, none⟩) 0 0).ownBlock) : Below w.heap.size w w' :=
  (((Below.refl _ _).alloc (Nat.le_refl _) o).drew).grown h (by rw [heap_drew]; simp) (fun g hg => by simp [Value.ownBlock] at hg; omega)
theorem slice_h {P : Program} {t : TypeId} (ht : P.underlying t = some (.slice (P.elem t))) (hz : ∀ wx, (sizeOf (P.elem t)).run P wx = .ok 1 wx) {k : IntKind} {w : World} {b o m c : Nat} {A : List Int} (hm : A.length = m) (hl : m ≤ c) (hcm : c ≤ maxLen)
    (hc : ∀ i, i < m → w.cell? ⟨b, o + i, none⟩ = some (.int k (A.getD i 0))) (j : Int) (h0 : 0 ≤ j) (hj : j ≤ m) :
    ∃ ad, Ints k w (.slice ad j.toNat c) (A.take j.toNat) ∧
      ∀ wx : World, (Instr.slice t (.slice (some ⟨b, o, none⟩) m c) none (some (.int .i64 j)) none).run P wx = .ok (.slice ad j.toNat c) wx := by
  subst hm
  have h := ints_part_if (i := 0) (n := j.toNat) hl hcm hc (by omega)
  rw [List.drop_zero, Nat.sub_zero] at h
  refine ⟨_, h, fun wx => ?_⟩
  rw [run_slice_h (w := wx) t (some ⟨b, o, none⟩) A.length c ht .i64 j h0 (by omega), hz wx]
  simp only [Result.andThen, sliced, Option.map_some, Nat.mul_one, add_row, Nat.sub_zero]
theorem owns_set {w : World} {base g n c : Nat} {T : TypeId} {L : List Int} {i : Nat} {o : Int} (h : w.ownsRow base T 1 (.slice (some ⟨g, 0, none⟩) n c) n (L.map (Value.int .u32))) :
    (w.setCell ⟨g, i, none⟩ (.int .u32 o)).ownsRow base T 1 (.slice (some ⟨g, 0, none⟩) n c) n ((L.set i o).map (Value.int .u32)) := by
  have h1 := (h.stored i (.int .u32 o)).1
  rw [List.map_set]
  exact h1
end Go.Proofs.Ytgkfbikffcmmdaa
