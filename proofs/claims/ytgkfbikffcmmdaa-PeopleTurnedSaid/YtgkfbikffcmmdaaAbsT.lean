/- How what is known of a world goes on: a block is made, written, put behind, shown to others; a call has been. -/
import Derived.Test.YtgkfbikffcmmdaaAbs
set_option linter.unusedSimpArgs false
set_option linter.unusedVariables false
set_option maxRecDepth 100000
namespace Go.Proofs.Ytgkfbikffcmmdaa.Abs
open Go.RowKit

def upd {α : Type} (f : Nat → α) (d : Nat) (x : α) : Nat → α := fun e => if e = d then x else f e
theorem upd_same {α : Type} (f : Nat → α) (d : Nat) (x : α) : upd f d x d = x := by simp [upd]
theorem upd_ne {α : Type} (f : Nat → α) {d e : Nat} (x : α) (h : e ≠ d) : upd f d x e = f e := by simp [upd, h]
theorem rowLen_upd_ne (m : Mem) {d e : Nat} (b : Option Blk) (h : e ≠ d) : rowLen (upd m d b) e = rowLen m e := by simp [rowLen, upd_ne m b h]
/-- What is open, by its address, and what is in it. -/
def BoxAt (S : Sh) (w : World) (p : Nat × OC) : Prop := (∀ k, ¬ S k p.1) ∧ match p.2 with
  | .cells cs => ∃ (vs : List Value) (T : TypeId), w.heap[p.1]? = some (.cells vs.toArray T (0, 0)) ∧ F2 (R S w) cs vs
  | .loop r => RecAt S w p.1 r
def OC.blk : OC → Blk
  | .cells cs => .obox cs
  | .loop r => .orec r
def opnIds : List (Nat × OC) → List Nat
  | [] => []
  | (b, _) :: l => (1000000 + b) :: opnIds l
/-- What is open is that. -/
def insAt (m : Mem) : List (Nat × OC) → Prop
  | [] => True
  | (b, .cells cs) :: l => (match m (1000000 + b) with
    | some (.obox ds) => ds = cs
    | _ => False) ∧ insAt m l
  | (b, .loop r) :: l => (match m (1000000 + b) with
    | some (.orec q) => q = r
    | _ => False) ∧ insAt m l
def sameBs : List (Nat × OC) → List (Nat × OC) → Prop
  | [], [] => True
  | (b, _) :: l, (c, _) :: k => b = c ∧ sameBs l k
  | _, _ => False
def setBs (m : Mem) : List (Nat × OC) → Mem
  | [] => m
  | (b, oc) :: l => upd (setBs m l) (1000000 + b) (some oc.blk)
section
variable {c c' : Ctx} {w w' : World} {m m' : Mem} {base : Nat} {S0 : Sh} {w0 : W0}

theorem isBox_upd_ne {m : Mem} {d e : Nat} {b : Option Blk} (h : e ≠ d) : isBox (upd m d b) e ↔ isBox m e := by simp [isBox, upd_ne m b h]
theorem rowsOf_upd_ne {m : Mem} {d e : Nat} {b : Option Blk} (h : e ≠ d) : rowsOf (upd m d b) e = rowsOf m e := by simp [rowsOf, upd_ne m b h]
theorem BlkOK.goes {L : Nat → Prop} {id : Nat} {b : Blk} (h : BlkOK c w m base L id b) (hm : m id = some b) (g : Goes c w m c' w' m') (hφ : c'.φ id = c.φ id) (hψ : c'.ψ id = c.ψ id)
    (hk : ∀ k, blockOf c m id = some k → w'.heap[k]? = w.heap[k]? ∧ ∀ j, c'.S j k ↔ c.S j k) : BlkOK c' w' m' base L id b := by
  have owns : ∀ {e sz n xs}, (∀ gg, (c.ψ id).ownBlock = some gg → blockOf c m id = some gg) → w.ownsRow base e sz (c.ψ id) n xs → w'.ownsRow base e sz (c.ψ id) n xs := fun {e sz n xs} hb h6 => by
    refine ⟨h6.1, ?_⟩
    rcases h6.2 with h7 | ⟨gg, cap, cur, e1, e2, e3, r⟩
    · exact .inl h7
    · refine .inr ⟨gg, cap, cur, e1, e2, ?_, r⟩
      rw [(hk gg (hb gg (by rw [e1]; rfl))).1]
      exact e3
  cases b with
  | box cs =>
    obtain ⟨h1, h2, vs, T, h3, h4⟩ := h
    obtain ⟨k1, k2⟩ := hk (c.φ id) (by simp [blockOf, hm])
    exact ⟨by rw [hφ]; exact h1, by rw [hφ]; exact fun k hs => h2 k ((k2 k).1 hs), vs, T, by rw [hφ, k1]; exact h3, h4.mono fun x y _ h => h.goes g⟩
  | rows e sz xs =>
    obtain ⟨h1, h2, h3, h4, vss, h5, h6⟩ := h
    have hb : ∀ gg, (c.ψ id).ownBlock = some gg → blockOf c m id = some gg := fun gg hg => by simp [blockOf, hm, hg]
    refine ⟨h1, h2, h3, ?_, vss, h5.mono fun x y _ h => h.mono fun x y _ h => h.mono g.S g.heap, by rw [hψ]; exact owns hb h6⟩
    rw [hψ]
    intro k hk' j hs
    exact h4 k hk' j (((hk k (hb k hk')).2 j).1 hs)
  | lent j e sz xs =>
    obtain ⟨h0, h1, h2, h3, h4, vss, h5, h6⟩ := h
    have hb : ∀ gg, (c.ψ id).ownBlock = some gg → blockOf c m id = some gg := fun gg hg => by simp [blockOf, hm, hg]
    refine ⟨h0, h1, h2, h3, ?_, vss, h5.mono fun x y _ h => h.mono fun x y _ h => h.mono g.S g.heap, by rw [hψ]; exact owns hb h6⟩
    rw [hψ]
    intro k hk' i
    rw [(hk k (hb k hk')).2 i]
    exact h4 k hk' i
  | gone L => exact h
  | froz xs =>
    have h' : R c.S w (.row xs) (c.ψ id) := h
    show R c'.S w' (.row xs) (c'.ψ id)
    rw [hψ]
    exact R.mono h' g.S g.heap
  | fbox cs =>
    obtain ⟨h1, vs, h2, h3⟩ := h
    refine ⟨by rw [hφ]; exact g.S _ _ h1, vs, h2.mono fun x y _ h => h.mono g.S g.heap, by rw [hφ]; exact h3.mono (g.heap _ _ h1)⟩
  | obox cs =>
    obtain ⟨h1, h2, h5, vs, T, h3, h4⟩ := h
    obtain ⟨k1, k2⟩ := hk (c.φ id) (by simp [blockOf, hm])
    exact ⟨by rw [hφ]; exact h1, by rw [hφ]; exact fun k hs => h2 k ((k2 k).1 hs), by rw [hφ]; exact h5, vs, T, by rw [hφ, k1]; exact h3, h4.mono fun x y _ h => h.mono g.S g.heap⟩
  | orec r =>
    obtain ⟨h1, h2, h5, h3⟩ := h
    obtain ⟨k1, k2⟩ := hk (c.φ id) (by simp [blockOf, hm])
    exact ⟨by rw [hφ]; exact h1, by rw [hφ]; exact fun k hs => h2 k ((k2 k).1 hs), by rw [hφ]; exact h5, by rw [hφ]; exact h3.mono k1 g.S g.heap⟩
  | mapb a ks xs =>
    obtain ⟨h1, h2, vss, h3, h4⟩ := h
    obtain ⟨k1, k2⟩ := hk (c.φ id) (by simp [blockOf, hm])
    exact ⟨by rw [hφ]; exact h1, by rw [hφ]; exact fun k hs => h2 k ((k2 k).1 hs), vss, by rw [hφ]; exact h3.mono k1, h4.mono fun x y _ h => h.mono fun x y _ h => h.mono g.S g.heap⟩
  | fmap a ks xs =>
    obtain ⟨h1, vss, h3, h4⟩ := h
    exact ⟨by rw [hφ]; exact g.S _ _ h1, vss, by rw [hφ]; exact h3.mono (g.heap _ _ h1), h4.mono fun x y _ h => h.mono fun x y _ h => h.mono g.S g.heap⟩
theorem WR.step (h : WR base S0 w0 c m w) (g : Goes c w m c' w' m') (hS : ∀ k b, c'.S k b → c.S k b ∨ base ≤ b) (hlt : ∀ k b, c'.S k b → b < w'.heap.size) (hb : BelowX base w0.L w w')
    (hblk : ∀ id b, m' id = some b → (m id = some b ∧ c'.φ id = c.φ id ∧ c'.ψ id = c.ψ id ∧ ∀ k, blockOf c m id = some k → w'.heap[k]? = w.heap[k]? ∧ ∀ j, c'.S j k ↔ c.S j k) ∨ BlkOK c' w' m' base w0.L id b)
    (hinj : ∀ id id' b, blockOf c' m' id = some b → blockOf c' m' id' = some b → id = id') : WR base S0 w0 c' m' w' where
  blk := fun id b hm => by
    rcases hblk id b hm with ⟨h1, h2, h3, h4⟩ | h1
    · exact (h.blk id b h1).goes h1 g h2 h3 h4
    · exact h1
  inj := hinj
  lt := hlt
  old := fun k b hb => g.S k b (h.old k b hb)
  new := fun k b hb => by
    rcases hS k b hb with h1 | h1
    · exact h.new k b h1
    · exact .inr h1
  below := h.below.trans hb
  rok := h.rok
  size := Nat.le_trans h.size hb.size
  s0 := h.s0

/-- The block of what is of the call's own is new. -/
theorem WR.apart (h : WR base S0 w0 c m w) {id k : Nat} (hk : blockOf c m id = some k) : (base ≤ k ∨ w0.L k) ∧ k < w.heap.size := by
  unfold blockOf at hk
  split at hk
  · rename_i cs hm
    obtain ⟨h1, h2, vs, T, h3, h4⟩ := h.blk id _ hm
    cases hk
    exact ⟨.inl h1, block_lt h3⟩
  · rename_i cs hm
    obtain ⟨h1, h2, h5, vs, T, h3, h4⟩ := h.blk id _ hm
    cases hk
    exact ⟨h1, block_lt h3⟩
  · rename_i r hm
    obtain ⟨h1, h2, h5, R, h3, _⟩ := h.blk id _ hm
    cases hk
    exact ⟨h1, (Array.getElem?_eq_some_iff.1 h3).1⟩
  · rename_i a ks xs hm
    obtain ⟨h1, h2, vss, ⟨⟨es, cl, h3, _⟩, _⟩, h4⟩ := h.blk id _ hm
    cases hk
    exact ⟨.inl h1, (Array.getElem?_eq_some_iff.1 h3).1⟩
  · rename_i e sz xs hm
    obtain ⟨_, _, _, h4, vss, _, h6⟩ := h.blk id _ hm
    exact ⟨.inl (h6.lt k hk).1, (h6.lt k hk).2⟩
  · rename_i j e sz xs hm
    obtain ⟨_, _, _, _, h4, vss, _, h6⟩ := h.blk id _ hm
    exact ⟨.inl (h6.lt k hk).1, (h6.lt k hk).2⟩
  · simp at hk
theorem alloc_size (w : World) (o : Obj) : (w.alloc o).heap.size = w.heap.size + 1 := by simp
/-- A box is made. -/
theorem WR.box (h : WR base S0 w0 c m w) {d : Nat} (hd : m d = none) {cs : List A} {vs : List Value} (T : TypeId) (hcs : F2 (VA c w m) cs vs) :
    let c' : Ctx := { c with φ := upd c.φ d w.heap.size }
    let m' := upd m d (some (.box cs))
    let w' := w.alloc (.cells vs.toArray T)
    Goes c w m c' w' m' ∧ WR base S0 w0 c' m' w' ∧ VA c' w' m' (.ptr d 0) (.pointer (some ⟨w.heap.size, 0, none⟩)) := by
  intro c' m' w'
  have hne : ∀ id b, m id = some b → id ≠ d := fun id b hm e => by rw [e, hd] at hm; simp at hm
  have hneL : ∀ id L, rowLen m id = some L → id ≠ d := fun id L hm e => by rw [e] at hm; simp [rowLen, hd] at hm
  have hneB : ∀ id, isBox m id → id ≠ d := fun id hm e => by rw [e] at hm; simp [isBox, hd] at hm
  have hold : ∀ k, k < w.heap.size → w'.heap[k]? = w.heap[k]? := fun k hk => heap_old w _ hk
  have g : Goes c w m c' w' m' := by
    refine ⟨fun _ _ h => h, fun k b hb => hold b (h.lt k b hb), fun id hm => ⟨upd_ne _ _ (hneB id hm), (isBox_upd_ne (hneB id hm)).2 hm⟩, fun id L hL => ⟨L, ?_, Nat.le_refl _, fun _ => ⟨rfl, fun e sz xs hx => ⟨xs, ?_⟩⟩⟩⟩
    · rw [← hL]; exact rowLen_upd_ne m _ (hneL id L hL)
    · rw [← hx]; exact (rowsOf_upd_ne (hneL id L hL)).symm
  have hbo : ∀ id k, id ≠ d → blockOf c' m' id = some k → blockOf c m id = some k := fun id k hne hk => by
    simpa [blockOf, m', c', upd_ne _ _ hne] using hk
  have hbd : ∀ k, blockOf c' m' d = some k → k = w.heap.size := fun k hk => by simpa [blockOf, m', c', upd_same] using hk.symm
  refine ⟨g, ?_, .inl ⟨cs, upd_same _ _ _⟩, by simp [c', upd_same]⟩
  refine h.step g (fun _ b hb => .inl hb) (fun k b hb => Nat.lt_trans (h.lt k b hb) (by rw [alloc_size]; omega)) (.of ((Below.refl _ _).alloc h.size _)) (fun id b hm => ?_) (fun id id' b h1 h2 => ?_)
  · by_cases e : id = d
    · right
      subst e
      have : b = .box cs := by simpa [m', upd_same] using hm.symm
      subst this
      refine ⟨by simp [c', upd_same]; exact h.size, fun k hs => ?_, vs, T, by simp only [c', upd_same]; exact heap_alloc_new w _, hcs.mono fun x y _ h => h.goes g⟩
      have := h.lt _ _ hs
      simp [c', upd_same] at this
    · left
      refine ⟨by rw [← hm]; exact (upd_ne m _ e).symm, upd_ne _ _ e, rfl, fun k hk => ?_⟩
      exact ⟨hold k (h.apart hk).2, fun _ => Iff.rfl⟩
  · by_cases e : id = d
    · by_cases e' : id' = d
      · rw [e, e']
      · subst e
        have q1 := hbd b h1
        obtain ⟨_, q2⟩ := h.apart (hbo id' b e' h2)
        omega
    · by_cases e' : id' = d
      · subst e'
        have q1 := hbd b h2
        obtain ⟨_, q2⟩ := h.apart (hbo id b e h1)
        omega
      · exact h.inj id id' b (hbo id b e h1) (hbo id' b e' h2)
/-- A row of the call's own is made. -/
theorem WR.rows (h : WR base S0 w0 c m w) {d : Nat} (hd : m d = none) {e : TypeId} {sz : Nat} {xs : List (List CV)} {v : Value} (hm' : Below w.heap.size w w') (h1 : ∀ us ∈ xs, us.length = sz) (h2 : 0 < sz) (h3 : xs.length ≤ 1073741824)
    {vss : List (List Value)} (h5 : F2 (F2 (R c.S w)) xs vss) (h6 : w'.ownsRow w.heap.size e sz v xs.length vss.flatten) :
    let c' : Ctx := { c with ψ := upd c.ψ d v }
    let m' := upd m d (some (.rows e sz xs))
    Goes c w m c' w' m' ∧ WR base S0 w0 c' m' w' ∧ VA c' w' m' (.own d xs.length) v := by
  intro c' m'
  have hne : ∀ id b, m id = some b → id ≠ d := fun id b hm e => by rw [e, hd] at hm; simp at hm
  have hneL : ∀ id L, rowLen m id = some L → id ≠ d := fun id L hm e => by rw [e] at hm; simp [rowLen, hd] at hm
  have hneB : ∀ id, isBox m id → id ≠ d := fun id hm e => by rw [e] at hm; simp [isBox, hd] at hm
  have g : Goes c w m c' w' m' := by
    refine ⟨fun _ _ h => h, fun k b hb => hm'.block b (h.lt k b hb), fun id hm => ⟨rfl, (isBox_upd_ne (hneB id hm)).2 hm⟩, fun id L hL => ⟨L, ?_, Nat.le_refl _, fun _ => ⟨upd_ne _ _ (hneL id L hL), fun e sz xs hx => ⟨xs, ?_⟩⟩⟩⟩
    · rw [← hL]; exact rowLen_upd_ne m _ (hneL id L hL)
    · rw [← hx]; exact (rowsOf_upd_ne (hneL id L hL)).symm
  have hbo : ∀ id k, id ≠ d → blockOf c' m' id = some k → blockOf c m id = some k := fun id k hne hk => by
    simpa [blockOf, m', c', upd_ne _ _ hne] using hk
  have hown : ∀ k, v.ownBlock = some k → w.heap.size ≤ k := fun k hk => (h6.lt k hk).1
  have hbd : ∀ k, blockOf c' m' d = some k → w.heap.size ≤ k := fun k hk => hown k (by simpa [blockOf, m', c', upd_same] using hk)
  refine ⟨g, ?_, ?_⟩
  · refine h.step g (fun _ b hb => .inl hb) (fun k b hb => Nat.lt_of_lt_of_le (h.lt k b hb) hm'.size) (.of (hm'.mono h.size)) (fun id b hm => ?_) (fun id id' b h1 h2 => ?_)
    · by_cases e' : id = d
      · right
        subst e'
        have : b = .rows e sz xs := by simpa [m', upd_same] using hm.symm
        subst this
        refine ⟨h1, h2, h3, fun k hk j hs => ?_, vss, h5.mono fun x y _ h => h.mono fun x y _ h => h.mono g.S g.heap, ?_⟩
        · have q1 := hown k (by simpa [c', upd_same] using hk)
          have q2 := h.lt j k hs
          omega
        · have : c'.ψ id = v := upd_same _ _ _
          rw [this]
          refine ⟨h6.1, h6.2.imp (fun h => h) fun ⟨gg, cap, cur, e1, e2, r⟩ => ⟨gg, cap, cur, e1, Nat.le_trans h.size e2, r⟩⟩
      · left
        refine ⟨by rw [← hm]; exact (upd_ne m _ e').symm, rfl, upd_ne _ _ e', fun k hk => ?_⟩
        exact ⟨hm'.block k (h.apart hk).2, fun _ => Iff.rfl⟩
    · by_cases e : id = d
      · by_cases e' : id' = d
        · rw [e, e']
        · subst e
          have q1 := hbd b h1
          obtain ⟨_, q2⟩ := h.apart (hbo id' b e' h2)
          omega
      · by_cases e' : id' = d
        · subst e'
          have q1 := hbd b h2
          obtain ⟨_, q2⟩ := h.apart (hbo id b e h1)
          omega
        · exact h.inj id id' b (hbo id b e h1) (hbo id' b e' h2)
  · refine ⟨?_, xs.length, by simp [rowLen, m', upd_same], Nat.le_refl _, fun _ => (upd_same _ _ _).symm⟩
    rcases h6.2 with ⟨rfl, e0⟩ | ⟨gg, cap, cur, rfl, _⟩
    · exact ⟨none, 0, by rw [e0]⟩
    · exact ⟨_, _, rfl⟩
/-- A call has been, or others did something: nothing that was is written; of what is new some may be shown. -/
theorem WR.calls (h : WR base S0 w0 c m w) (hw : Below w.heap.size w w') (T : Sh) (hT : ∀ k b, T k b → c.S k b ∨ (w.heap.size ≤ b ∧ b < w'.heap.size)) :
    let c' : Ctx := { c with S := fun k b => c.S k b ∨ T k b }
    Goes c w m c' w' m ∧ WR base S0 w0 c' m w' := by
  intro c'
  have hS : ∀ k b, c'.S k b → c.S k b ∨ (w.heap.size ≤ b ∧ b < w'.heap.size) := fun k b hb => by
    rcases hb with hb | hb
    · exact .inl hb
    · exact hT k b hb
  have g : Goes c w m c' w' m := ⟨fun _ _ h => .inl h, fun k b hb => hw.block b (h.lt k b hb), fun id h => ⟨rfl, h⟩, fun _ L h => ⟨L, h, Nat.le_refl _, fun _ => ⟨rfl, fun _ _ xs hx => ⟨xs, hx⟩⟩⟩⟩
  refine ⟨g, h.step g (fun k b hb => ?_) (fun k b hb => ?_) (.of (hw.mono h.size)) (fun id b hm => .inl ⟨hm, rfl, rfl, fun k hk => ?_⟩) (fun id id' b h1 h2 => h.inj id id' b h1 h2)⟩
  · rcases hS k b hb with hb | hb
    · exact .inl hb
    · exact .inr (Nat.le_trans h.size hb.1)
  · rcases hS k b hb with hb | hb
    · exact Nat.lt_of_lt_of_le (h.lt k b hb) hw.size
    · exact hb.2
  · have q2 := (h.apart hk).2
    refine ⟨hw.block k q2, fun j => ⟨fun hs => ?_, .inl⟩⟩
    rcases hS j k hs with hb | hb
    · exact hb
    · omega
/-- A box is written. -/
theorem WR.setBox (h : WR base S0 w0 c m w) {id : Nat} {cs cs' : List A} (hm : m id = some (.box cs)) {vs : List Value} (hcs : F2 (VA c w m) cs' vs) :
    let w' := w.setRow (c.φ id) vs.toArray
    let m' := upd m id (some (.box cs'))
    Goes c w m c w' m' ∧ WR base S0 w0 c m' w' := by
  intro w' m'
  obtain ⟨h1, h2, us, T, h3, h4⟩ := h.blk id _ hm
  have hoth : ∀ k, k ≠ c.φ id → w'.heap[k]? = w.heap[k]? := fun k hk => setRow_other w _ k _ hk
  have hbof : blockOf c m id = some (c.φ id) := by simp [blockOf, hm]
  have g : Goes c w m c w' m' := by
    refine ⟨fun _ _ h => h, fun k b hb => hoth b fun e => h2 k (e ▸ hb), fun i hi => ⟨rfl, ?_⟩, fun i L hL => ⟨L, ?_, Nat.le_refl _, fun _ => ⟨rfl, fun e sz xs hx => ⟨xs, ?_⟩⟩⟩⟩
    · by_cases e : i = id
      · subst e; exact .inl ⟨cs', upd_same _ _ _⟩
      · exact (isBox_upd_ne e).2 hi
    · have e : i ≠ id := fun e => by rw [e] at hL; simp [rowLen, hm] at hL
      rw [← hL]; exact rowLen_upd_ne m _ e
    · have e : i ≠ id := fun e => by rw [e] at hL; simp [rowLen, hm] at hL
      rw [← hx]; exact (rowsOf_upd_ne e).symm
  have hbo : ∀ i, blockOf c m' i = blockOf c m i := fun i => by
    by_cases e : i = id
    · subst e; simp [blockOf, hm, m', upd_same]
    · simp [blockOf, m', upd_ne _ _ e]
  refine ⟨g, h.step g (fun _ b hb => .inl hb) (fun k b hb => by rw [setRow_size]; exact h.lt k b hb) ⟨rfl, rfl, rfl, by rw [setRow_size]; exact Nat.le_refl _, fun k hk _ => hoth k (by omega)⟩ (fun i b hi => ?_) (fun i i' b q1 q2 => h.inj i i' b (by rw [← hbo]; exact q1) (by rw [← hbo]; exact q2))⟩
  by_cases e : i = id
  · right
    subst e
    have : b = .box cs' := by simpa [m', upd_same] using hi.symm
    subst this
    exact ⟨h1, h2, vs, T, setRow_heap w _ _ _ T _ h3, hcs.mono fun x y _ h => h.goes g⟩
  · left
    refine ⟨by rw [← hi]; exact (upd_ne m _ e).symm, rfl, rfl, fun k hk => ⟨hoth k fun e' => ?_, fun _ => Iff.rfl⟩⟩
    subst e'
    exact e (h.inj i id _ hk hbof)
/-- A row of the call's own becomes another one, its length no less; its block, if it has one, is the old one, or new. -/
theorem WR.turn (h : WR base S0 w0 c m w) {id : Nat} {e : TypeId} {sz : Nat} {xs ys : List (List CV)} (hm : m id = some (.rows e sz xs)) {v : Value} (hg : w.grownBy w' (c.ψ id).ownBlock) (hv : ∀ k, v.ownBlock = some k → (c.ψ id).ownBlock = some k ∨ w.heap.size ≤ k)
    (hl : xs.length ≤ ys.length) (hlv : xs.length = ys.length → v = c.ψ id) (h1 : ∀ us ∈ ys, us.length = sz) (h3 : ys.length ≤ 1073741824) {vss : List (List Value)} (h5 : F2 (F2 (R c.S w)) ys vss) (h6 : w'.ownsRow base e sz v ys.length vss.flatten) :
    let c' : Ctx := { c with ψ := upd c.ψ id v }
    let m' := upd m id (some (.rows e sz ys))
    Goes c w m c' w' m' ∧ WR base S0 w0 c' m' w' ∧ VA c' w' m' (.own id ys.length) v := by
  intro c' m'
  obtain ⟨q1, q2, q3, q4, us, q5, q6⟩ := h.blk id _ hm
  have hbof : blockOf c m id = (c.ψ id).ownBlock := by simp [blockOf, hm]
  have hbnew : blockOf c' m' id = v.ownBlock := by simp [blockOf, m', c', upd_same]
  have hoth : ∀ k, k < w.heap.size → (∀ g, (c.ψ id).ownBlock = some g → k ≠ g) → w'.heap[k]? = w.heap[k]? := fun k hk hne => hg.block k hk fun e => hne k e.symm rfl
  have g : Goes c w m c' w' m' := by
    refine ⟨fun _ _ h => h, fun k b hb => hoth b (h.lt k b hb) fun g hg e => q4 g hg k (e ▸ hb), fun i hi => ⟨rfl, ?_⟩, fun i L hL => ?_⟩
    · have e : i ≠ id := fun e => by rw [e] at hi; simp [isBox, hm] at hi
      exact (isBox_upd_ne e).2 hi
    · by_cases e9 : i = id
      · subst e9
        have hL' : L = xs.length := by simpa [rowLen, hm] using hL.symm
        subst hL'
        refine ⟨ys.length, by simp [rowLen, m', upd_same], hl, fun e8 => ⟨by simp [c', upd_same, hlv e8], fun e2 sz2 xs2 hx => ?_⟩⟩
        have hx' : rowsOf m' i = some (e, sz, ys) := by simp only [rowsOf, m', upd_same]
        rw [hx'] at hx
        simp at hx
        obtain ⟨rfl, rfl, _⟩ := hx
        exact ⟨xs, by simp [rowsOf, hm]⟩
      · refine ⟨L, by rw [← hL]; exact rowLen_upd_ne m _ e9, Nat.le_refl _, fun _ => ⟨upd_ne _ _ e9, fun e2 sz2 xs2 hx => ⟨xs2, by rw [← hx]; exact (rowsOf_upd_ne e9).symm⟩⟩⟩
  have hbo : ∀ i, i ≠ id → blockOf c' m' i = blockOf c m i := fun i e => by simp [blockOf, m', c', upd_ne _ _ e]
  have hB : Below base w w' := ⟨hg.os, hg.tape, hg.output, hg.size, fun k hk => hoth k (Nat.lt_of_lt_of_le hk h.size) fun g hg e => by have := (q6.lt g hg).1; omega⟩
  refine ⟨g, h.step g (fun _ b hb => .inl hb) (fun k b hb => Nat.lt_of_lt_of_le (h.lt k b hb) hg.size) (.of hB) (fun i b hi => ?_) (fun i i' b p1 p2 => ?_), ?_⟩
  · by_cases e' : i = id
    · right
      subst e'
      have : b = .rows e sz ys := by simpa [m', upd_same] using hi.symm
      subst this
      have hc' : c'.ψ i = v := upd_same _ _ _
      refine ⟨h1, q2, h3, fun k hk j hs => ?_, vss, h5.mono fun x y _ h => h.mono fun x y _ h => h.mono g.S g.heap, by rw [hc']; exact h6⟩
      rw [hc'] at hk
      rcases hv k hk with hv | hv
      · exact q4 k hv j hs
      · have := h.lt j k hs; omega
    · left
      refine ⟨by rw [← hi]; exact (upd_ne m _ e').symm, rfl, upd_ne _ _ e', fun k hk => ?_⟩
      exact ⟨hoth k (h.apart hk).2 fun gg hgg ek => e' (h.inj i id k hk (by rw [hbof, ek]; exact hgg)), fun _ => Iff.rfl⟩
  · by_cases e : i = id
    · by_cases e' : i' = id
      · rw [e, e']
      · subst e
        rw [hbnew] at p1
        rw [hbo i' e'] at p2
        rcases hv b p1 with hv | hv
        · exact h.inj _ _ b (hbof.trans hv) p2
        · have := (h.apart p2).2; omega
    · by_cases e' : i' = id
      · subst e'
        rw [hbnew] at p2
        rw [hbo i e] at p1
        rcases hv b p2 with hv | hv
        · exact h.inj _ _ b p1 (hbof.trans hv)
        · have := (h.apart p1).2; omega
      · rw [hbo i e] at p1
        rw [hbo i' e'] at p2
        exact h.inj _ _ b p1 p2
  · refine ⟨?_, ys.length, by simp [rowLen, m', upd_same], Nat.le_refl _, fun _ => (upd_same _ _ _).symm⟩
    rcases h6.2 with ⟨rfl, e0⟩ | ⟨gg, cap, cur, rfl, _⟩
    · exact ⟨none, 0, by rw [e0]⟩
    · exact ⟨_, _, rfl⟩
theorem holds_flat {w : World} {base : Nat} {e : TypeId} {sz n : Nat} {v : Value} {vss : List (List Value)} (h : w.ownsRow base e sz v n vss.flatten) (hsz : ∀ u ∈ vss, u.length = sz) (hn : vss.length = n) :
    ∀ i vs, vss[i]? = some vs → ∃ g cap, v = .slice (some ⟨g, 0, none⟩) n cap ∧ n ≤ cap ∧ cap ≤ maxLen ∧ Holds w g (i * sz) vs := by
  intro i vs hi
  have hlt : i < vss.length := (List.getElem?_eq_some_iff.1 hi).1
  have hown := h
  rcases h.2 with ⟨_, h0⟩ | ⟨gg, cap, cur, rfl, e2, e3, e4, e5, r⟩
  · omega
  · refine ⟨gg, cap, rfl, e4, e5, fun j u hj => ?_⟩
    have hjl : j < vs.length := (List.getElem?_eq_some_iff.1 hj).1
    have hvs : vs.length = sz := hsz vs (List.mem_of_getElem? hi)
    have hlt2 : i * sz + j < n * sz := by
      have := Nat.mul_le_mul_right sz (show i + 1 ≤ n by omega)
      rw [Nat.succ_mul] at this
      omega
    rw [hown.cellAt (i * sz + j) hlt2]
    rw [← hj]
    have flat : ∀ (l : List (List Value)), (∀ u ∈ l, u.length = sz) → ∀ i vs, l[i]? = some vs → l.flatten[i * sz + j]? = vs[j]? := by
      intro l
      induction l with
      | nil => intro _ i vs h; simp at h
      | cons t l ih =>
        intro hl i vs h
        have ht := hl t (by simp)
        rw [List.flatten_cons]
        cases i with
        | zero => simp at h; subst h; rw [Nat.zero_mul, Nat.zero_add, List.getElem?_append_left (by omega)]
        | succ i =>
          rw [List.getElem?_append_right (by rw [ht, Nat.succ_mul]; omega), ht, show (i + 1) * sz + j - sz = i * sz + j by rw [Nat.succ_mul]; omega]
          exact ih (fun u hu => hl u (by simp [hu])) i vs (by simpa using h)
    exact flat vss hsz i vs hi
/-- A row as it is shown: in whatever colour. -/
theorem row_shown {e : TypeId} {sz : Nat} {xs : List (List CV)} {v : Value} {vss : List (List Value)} {S : Sh} (j : Nat) (q1 : ∀ us ∈ xs, us.length = sz) (q5 : F2 (F2 (R S w)) xs vss) (q6 : w.ownsRow base e sz v xs.length vss.flatten) (hS : ∀ g, v.ownBlock = some g → S j g) : R S w (.rowc j xs) v := by
  have hlen : vss.length = xs.length := q5.1.symm
  have hszv : ∀ u ∈ vss, u.length = sz := fun u hu => by
    obtain ⟨i, hi, rfl⟩ := List.getElem_of_mem hu
    obtain ⟨x, hx, hq⟩ := q5.get' (List.getElem?_eq_getElem hi)
    rw [← hq.1]
    exact q1 x (List.mem_of_getElem? hx)
  by_cases hz : xs = []
  · subst hz
    rcases q6.2 with ⟨e1, _⟩ | ⟨gg, cap, cur, e1, e2, e3, e4, e5, r⟩
    · rw [e1]; exact .nil
    · rw [e1]; exact .bare e5
  · have hp : 0 < vss.length := by rw [hlen]; exact List.length_pos_iff.2 hz
    obtain ⟨gg, cap, e1, e4, e5, _⟩ := holds_flat q6 hszv hlen 0 _ (List.getElem?_eq_getElem hp)
    rw [e1]
    refine R.mk (sz := sz) (vss := vss) (hS gg (by rw [e1]; rfl)) e4 e5 q1 q5 fun i vs hi => ?_
    obtain ⟨g2, cap2, f1, _, _, f2⟩ := holds_flat q6 hszv hlen i vs hi
    rw [e1] at f1
    simp at f1
    obtain ⟨rfl, _⟩ := f1
    rw [Nat.zero_add]
    exact f2
/-- What is of the call's own is shown in a colour: so that nobody writes it any more, or as something lent. -/
theorem WR.show (h : WR base S0 w0 c m w) {id : Nat} {e : TypeId} {sz : Nat} {xs : List (List CV)} (hm : m id = some (.rows e sz xs)) (j : Nat) (b' : Blk) (hb' : (j = 0 ∧ b' = .froz xs) ∨ (j ≠ 0 ∧ b' = .lent j e sz xs)) :
    let c' : Ctx := { c with S := fun k b => c.S k b ∨ (k = j ∧ (c.ψ id).ownBlock = some b) }
    let m' := upd m id (some b')
    Goes c w m c' w m' ∧ WR base S0 w0 c' m' w ∧ R c'.S w (.rowc j xs) (c.ψ id) := by
  intro c' m'
  obtain ⟨q1, q2, q3, q4, vss, q5, q6⟩ := h.blk id _ hm
  have hbof : blockOf c m id = (c.ψ id).ownBlock := by simp [blockOf, hm]
  have hl' : rowLen m' id = some xs.length := by
    rcases hb' with ⟨_, rfl⟩ | ⟨_, rfl⟩ <;> simp [rowLen, m', upd_same]
  have g : Goes c w m c' w m' := by
    refine ⟨fun _ _ h => .inl h, fun k b _ => rfl, fun i hi => ⟨rfl, ?_⟩, fun i L hL => ⟨L, ?_, Nat.le_refl _, fun _ => ⟨rfl, fun e2 sz2 xs2 hx => ?_⟩⟩⟩
    · have e : i ≠ id := fun e => by rw [e] at hi; simp [isBox, hm] at hi
      exact (isBox_upd_ne e).2 hi
    · by_cases e : i = id
      · subst e
        rw [hl', ← hL]; simp [rowLen, hm]
      · rw [← hL]; exact rowLen_upd_ne m _ e
    · by_cases e' : i = id
      · subst e'
        rcases hb' with ⟨_, rfl⟩ | ⟨_, rfl⟩
        · simp [rowsOf, m', upd_same] at hx
        · simp [rowsOf, m', upd_same] at hx
          obtain ⟨rfl, rfl, rfl⟩ := hx
          exact ⟨xs, by simp only [rowsOf, hm]⟩
      · exact ⟨xs2, by rw [← hx]; exact (rowsOf_upd_ne e').symm⟩
  have q5' : F2 (F2 (R c'.S w)) xs vss := q5.mono fun x y _ h => h.mono fun x y _ h => h.mono (fun k b hb => .inl hb) fun _ _ _ => rfl
  have hr : R c'.S w (.rowc j xs) (c.ψ id) := row_shown j q1 q5' q6 fun g hg => .inr ⟨rfl, hg⟩
  refine ⟨g, h.step g (fun k b hb => ?_) (fun k b hb => ?_) (.of (Below.refl _ _)) (fun i b hi => ?_) (fun i i' b p1 p2 => ?_), hr⟩
  · rcases hb with hb | ⟨_, hb⟩
    · exact .inl hb
    · exact .inr (q6.lt b hb).1
  · rcases hb with hb | ⟨_, hb⟩
    · exact h.lt k b hb
    · exact (h.apart (hbof.trans hb)).2
  · by_cases e' : i = id
    · right
      subst e'
      have hbb : b = b' := by simpa [m', upd_same] using hi.symm
      subst hbb
      rcases hb' with ⟨rfl, rfl⟩ | ⟨hj, rfl⟩
      · exact hr
      · exact ⟨hj, q1, q2, q3, fun g hg k => ⟨fun hs => hs.elim (fun hs => absurd hs (q4 g hg k)) (·.1), fun e => .inr ⟨e, hg⟩⟩, vss, q5', q6⟩
    · left
      refine ⟨by rw [← hi]; exact (upd_ne m _ e').symm, rfl, rfl, fun k hk => ⟨rfl, fun j' => ⟨fun hs => ?_, .inl⟩⟩⟩
      rcases hs with hs | ⟨_, hs⟩
      · exact hs
      · exact absurd (h.inj i id k hk (hbof.trans hs)) e'
  · have hbo : ∀ i k, blockOf c' m' i = some k → blockOf c m i = some k := fun i k hk => by
      by_cases e : i = id
      · subst e
        rcases hb' with ⟨_, rfl⟩ | ⟨_, rfl⟩
        · simp [blockOf, m', upd_same] at hk
        · rw [hbof]; simpa [blockOf, m', upd_same, c'] using hk
      · simpa [blockOf, m', c', upd_ne _ _ e] using hk
    exact h.inj i i' b (hbo i b p1) (hbo i' b p2)
theorem WR.freeze (h : WR base S0 w0 c m w) {id : Nat} {e : TypeId} {sz : Nat} {xs : List (List CV)} (hm : m id = some (.rows e sz xs)) :
    let c' : Ctx := { c with S := fun k b => c.S k b ∨ (k = 0 ∧ (c.ψ id).ownBlock = some b) }
    let m' := upd m id (some (.froz xs))
    Goes c w m c' w m' ∧ WR base S0 w0 c' m' w ∧ R c'.S w (.row xs) (c.ψ id) := h.show hm 0 _ (.inl ⟨rfl, rfl⟩)
/-- A box is shown, and nobody writes it any more: its cells are of no call's own. -/
theorem WR.shut (h : WR base S0 w0 c m w) {id : Nat} {cs : List A} (hm : m id = some (.box cs)) {ds : List CV} (hd : ∀ (c' : Ctx) (vs : List Value), (∀ k b, c.S k b → c'.S k b) → (∀ k b, c.S k b → w.heap[b]? = w.heap[b]?) → F2 (VA c w m) cs vs → F2 (R c'.S w) ds vs) :
    let c' : Ctx := { c with S := fun k b => c.S k b ∨ (k = 0 ∧ b = c.φ id) }
    let m' := upd m id (some (.fbox ds))
    Goes c w m c' w m' ∧ WR base S0 w0 c' m' w ∧ R c'.S w (.ptrc 0 ds 0) (.pointer (some ⟨c.φ id, 0, none⟩)) := by
  intro c' m'
  obtain ⟨h1, h2, vs, T, h3, h4⟩ := h.blk id _ hm
  have hbof : blockOf c m id = some (c.φ id) := by simp [blockOf, hm]
  have hF : F2 (R c'.S w) ds vs := hd c' vs (fun k b hb => .inl hb) (fun _ _ _ => rfl) h4
  have hH : Holds w (c.φ id) 0 vs := fun j u hj => by rw [Nat.zero_add]; simpa [World.cell?, h3] using hj
  have g : Goes c w m c' w m' := by
    refine ⟨fun _ _ h => .inl h, fun k b _ => rfl, fun i hi => ⟨rfl, ?_⟩, fun i L hL => ⟨L, ?_, Nat.le_refl _, fun _ => ⟨rfl, fun e2 sz2 xs2 hx => ⟨xs2, ?_⟩⟩⟩⟩
    · by_cases e : i = id
      · subst e; exact .inr (.inl ⟨ds, upd_same _ _ _⟩)
      · exact (isBox_upd_ne e).2 hi
    · have e : i ≠ id := fun e => by rw [e] at hL; simp [rowLen, hm] at hL
      rw [← hL]; exact rowLen_upd_ne m _ e
    · have e : i ≠ id := fun e => by rw [e] at hL; simp [rowLen, hm] at hL
      rw [← hx]; exact (rowsOf_upd_ne e).symm
  refine ⟨g, h.step g (fun k b hb => ?_) (fun k b hb => ?_) (.of (Below.refl _ _)) (fun i b hi => ?_) (fun i i' b p1 p2 => ?_), R.ptr (.inr ⟨rfl, rfl⟩) hF.1 hH hF.2⟩
  · rcases hb with hb | ⟨_, rfl⟩
    · exact .inl hb
    · exact .inr h1
  · rcases hb with hb | ⟨_, rfl⟩
    · exact h.lt k b hb
    · exact (h.apart hbof).2
  · by_cases e' : i = id
    · right
      subst e'
      have hbb : b = .fbox ds := by simpa [m', upd_same] using hi.symm
      subst hbb
      exact ⟨.inr ⟨rfl, rfl⟩, vs, hF, hH⟩
    · left
      refine ⟨by rw [← hi]; exact (upd_ne m _ e').symm, rfl, rfl, fun k hk => ⟨rfl, fun j' => ⟨fun hs => ?_, .inl⟩⟩⟩
      rcases hs with hs | ⟨_, rfl⟩
      · exact hs
      · exact absurd (h.inj i id _ hk hbof) e'
  · have hbo : ∀ i k, blockOf c' m' i = some k → blockOf c m i = some k := fun i k hk => by
      by_cases e : i = id
      · subst e; simp [blockOf, m', upd_same] at hk
      · simpa [blockOf, m', c', upd_ne _ _ e] using hk
    exact h.inj i i' b (hbo i b p1) (hbo i' b p2)
/-- A block is made. -/
theorem WR.newBlk (h : WR base S0 w0 c m w) {d : Nat} (hd : m d = none) (o : Obj) (bk : Blk) (hb : ∀ k, blockOf { c with φ := upd c.φ d w.heap.size } (upd m d (some bk)) d = some k → k = w.heap.size)
    (hbk : Goes c w m { c with φ := upd c.φ d w.heap.size } (w.alloc o) (upd m d (some bk)) → BlkOK { c with φ := upd c.φ d w.heap.size } (w.alloc o) (upd m d (some bk)) base w0.L d bk) :
    let c' : Ctx := { c with φ := upd c.φ d w.heap.size }
    let m' := upd m d (some bk)
    let w' := w.alloc o
    Goes c w m c' w' m' ∧ WR base S0 w0 c' m' w' := by
  intro c' m' w'
  have hneL : ∀ id L, rowLen m id = some L → id ≠ d := fun id L hm e => by rw [e] at hm; simp [rowLen, hd] at hm
  have hneB : ∀ id, isBox m id → id ≠ d := fun id hm e => by rw [e] at hm; simp [isBox, hd] at hm
  have hold : ∀ k, k < w.heap.size → w'.heap[k]? = w.heap[k]? := fun k hk => heap_old w _ hk
  have g : Goes c w m c' w' m' := by
    refine ⟨fun _ _ h => h, fun k b hb => hold b (h.lt k b hb), fun id hm => ⟨upd_ne _ _ (hneB id hm), (isBox_upd_ne (hneB id hm)).2 hm⟩, fun id L hL => ⟨L, ?_, Nat.le_refl _, fun _ => ⟨rfl, fun e sz xs hx => ⟨xs, ?_⟩⟩⟩⟩
    · rw [← hL]; exact rowLen_upd_ne m _ (hneL id L hL)
    · rw [← hx]; exact (rowsOf_upd_ne (hneL id L hL)).symm
  have hbo : ∀ id k, id ≠ d → blockOf c' m' id = some k → blockOf c m id = some k := fun id k hne hk => by
    simpa [blockOf, m', c', upd_ne _ _ hne] using hk
  refine ⟨g, ?_⟩
  refine h.step g (fun _ b hb => .inl hb) (fun k b hb => Nat.lt_trans (h.lt k b hb) (by rw [alloc_size]; omega)) (.of ((Below.refl _ _).alloc h.size _)) (fun id b hm => ?_) (fun id id' b h1 h2 => ?_)
  · by_cases e : id = d
    · right
      subst e
      have : b = bk := by simpa [m', upd_same] using hm.symm
      subst this
      exact hbk g
    · left
      refine ⟨by rw [← hm]; exact (upd_ne m _ e).symm, upd_ne _ _ e, rfl, fun k hk => ?_⟩
      exact ⟨hold k (h.apart hk).2, fun _ => Iff.rfl⟩
  · by_cases e : id = d
    · by_cases e' : id' = d
      · rw [e, e']
      · subst e
        have q1 := hb b h1
        obtain ⟨_, q2⟩ := h.apart (hbo id' b e' h2)
        omega
    · by_cases e' : id' = d
      · subst e'
        have q1 := hb b h2
        obtain ⟨_, q2⟩ := h.apart (hbo id b e h1)
        omega
      · exact h.inj id id' b (hbo id b e h1) (hbo id' b e' h2)
/-- A block that may be written is written. -/
theorem WR.setBlk (h : WR base S0 w0 c m w) {id : Nat} {bk bk' : Blk} (hm : m id = some bk) (hb1 : blockOf c m id = some (c.φ id)) (hb2 : blockOf c (upd m id (some bk')) id = some (c.φ id)) (hx2 : isBox (upd m id (some bk')) id) (hrl : rowLen m id = none)
    (hS : ∀ k, ¬ c.S k (c.φ id)) (hL : base ≤ c.φ id ∨ w0.L (c.φ id)) (hos : w'.os = w.os) (htape : w'.tape = w.tape) (hout : w'.output = w.output) (hsz : w'.heap.size = w.heap.size) (hoth : ∀ k, k ≠ c.φ id → w'.heap[k]? = w.heap[k]?)
    (hbk : Goes c w m c w' (upd m id (some bk')) → BlkOK c w' (upd m id (some bk')) base w0.L id bk') :
    let m' := upd m id (some bk')
    Goes c w m c w' m' ∧ WR base S0 w0 c m' w' := by
  intro m'
  have g : Goes c w m c w' m' := by
    refine ⟨fun _ _ h => h, fun k b hb => hoth b fun e => hS k (e ▸ hb), fun i hi => ⟨rfl, ?_⟩, fun i L hL => ⟨L, ?_, Nat.le_refl _, fun _ => ⟨rfl, fun e sz xs hx => ⟨xs, ?_⟩⟩⟩⟩
    · by_cases e : i = id
      · subst e; exact hx2
      · exact (isBox_upd_ne e).2 hi
    · have e : i ≠ id := fun e => by rw [e, hrl] at hL; simp at hL
      rw [← hL]; exact rowLen_upd_ne m _ e
    · have e : i ≠ id := fun e => by rw [e, hrl] at hL; simp at hL
      rw [← hx]; exact (rowsOf_upd_ne e).symm
  have hbo : ∀ i, blockOf c m' i = blockOf c m i := fun i => by
    by_cases e : i = id
    · subst e; rw [hb1]; exact hb2
    · simp [blockOf, m', upd_ne _ _ e]
  refine ⟨g, h.step g (fun _ b hb => .inl hb) (fun k b hb => by rw [hsz]; exact h.lt k b hb) ⟨hos, htape, hout, by rw [hsz]; exact Nat.le_refl _, fun k hk hnl => hoth k fun e => by subst e; exact hL.elim (by omega) hnl⟩ (fun i b hi => ?_) (fun i i' b q1 q2 => h.inj i i' b (by rw [← hbo]; exact q1) (by rw [← hbo]; exact q2))⟩
  by_cases e : i = id
  · right
    subst e
    have : b = bk' := by simpa [m', upd_same] using hi.symm
    subst this
    exact hbk g
  · left
    refine ⟨by rw [← hi]; exact (upd_ne m _ e).symm, rfl, rfl, fun k hk => ⟨hoth k fun e' => ?_, fun _ => Iff.rfl⟩⟩
    subst e'
    exact e (h.inj i id _ hk hb1)
/-- An open box is written. -/
theorem WR.setOpen (h : WR base S0 w0 c m w) {id : Nat} {cs cs' : List CV} (hm : m id = some (.obox cs)) {vs : List Value} (hcs : F2 (R c.S w) cs' vs) :
    let w' := w.setRow (c.φ id) vs.toArray
    let m' := upd m id (some (.obox cs'))
    Goes c w m c w' m' ∧ WR base S0 w0 c m' w' := by
  intro w' m'
  obtain ⟨h1, h2, h5, us, T, h3, h4⟩ := h.blk id _ hm
  exact h.setBlk hm (by simp [blockOf, hm]) (by simp [blockOf, upd_same]) (.inr (.inr (.inr (.inr (.inl ⟨cs', upd_same _ _ _⟩))))) (by simp [rowLen, hm]) h2 h1 rfl rfl rfl (setRow_size _ _ _) (fun k hk => setRow_other w _ k _ hk)
    fun g => ⟨h1, h2, h5, vs, T, setRow_heap w _ _ _ T _ h3, hcs.mono fun x y _ h => h.mono g.S g.heap⟩
/-- A map is made: nothing is in it. -/
theorem WR.mkMap (h : WR base S0 w0 c m w) {d : Nat} (hd : m d = none) (agg : Bool) :
    let c' : Ctx := { c with φ := upd c.φ d w.heap.size }
    let m' := upd m d (some (.mapb agg [] []))
    let w' := w.alloc (.map #[] 0)
    Goes c w m c' w' m' ∧ WR base S0 w0 c' m' w' ∧ VA c' w' m' (.mp d) (.map (some w.heap.size)) := by
  intro c' m' w'
  obtain ⟨g, r⟩ := h.newBlk hd (.map #[] 0) (.mapb agg [] []) (fun k hk => by simpa [blockOf, upd_same] using hk.symm) fun g =>
    ⟨by simp [upd_same]; exact h.size, fun k hs => by have := h.lt _ _ hs; simp [upd_same] at this, [], ⟨⟨#[], 0, by simp only [upd_same]; exact heap_alloc_new w _, rfl, rfl⟩, fun _ vs h => by simp at h⟩, F2.nil⟩
  exact ⟨g, r, .inr (.inr (.inl ⟨_, _, _, upd_same _ _ _⟩)), by simp [c', upd_same]⟩
theorem setIf_size (w : World) (r : Nat) (o : Obj) : ({ w with heap := w.heap.setIfInBounds r o } : World).heap.size = w.heap.size := by simp
theorem setIf_other (w : World) (r k : Nat) (o : Obj) (h : k ≠ r) : ({ w with heap := w.heap.setIfInBounds r o } : World).heap[k]? = w.heap[k]? := by
  simp only
  rw [Array.getElem?_setIfInBounds_ne (Ne.symm h)]
theorem setIf_same (w : World) (r : Nat) (o : Obj) (h : r < w.heap.size) : ({ w with heap := w.heap.setIfInBounds r o } : World).heap[r]? = some o := by
  simp only
  rw [Array.getElem?_setIfInBounds_self_of_lt h]
/-- A map of the call's own is written. -/
theorem WR.setMap (h : WR base S0 w0 c m w) {id : Nat} {agg : Bool} {ks ks' : List Value} {xs xs' : List (List CV)} (hm : m id = some (.mapb agg ks xs)) {es : Array MapEntry} {cl : Nat} {vss : List (List Value)}
    (hk : es.toList.map (·.key) = ks') (hv : es.toList.map (·.val) = vss.map (mkV agg)) (h1 : agg = false → ∀ vs ∈ vss, vs.length = 1) (hF : F2 (F2 (R c.S w)) xs' vss) :
    let w' : World := { w with heap := w.heap.setIfInBounds (c.φ id) (.map es cl) }
    let m' := upd m id (some (.mapb agg ks' xs'))
    Goes c w m c w' m' ∧ WR base S0 w0 c m' w' := by
  intro w' m'
  obtain ⟨q1, q2, vs0, ⟨⟨es0, cl0, q3, _⟩, _⟩, q5⟩ := h.blk id _ hm
  have hlt : c.φ id < w.heap.size := (Array.getElem?_eq_some_iff.1 q3).1
  exact h.setBlk hm (by simp [blockOf, hm]) (by simp [blockOf, upd_same]) (.inr (.inr (.inl ⟨_, _, _, upd_same _ _ _⟩))) (by simp [rowLen, hm]) q2 (.inl q1) rfl rfl rfl (setIf_size ..) (fun k hk => setIf_other w _ k _ hk)
    fun g => ⟨q1, q2, vss, ⟨⟨es, cl, setIf_same w _ _ hlt, hk, hv⟩, h1⟩, hF.mono fun us vs _ h => h.mono fun x y _ h => h.mono g.S g.heap⟩
/-- A map is shown, and nobody writes it any more. -/
theorem WR.showMap (h : WR base S0 w0 c m w) {id : Nat} {agg : Bool} {ks : List Value} {xs : List (List CV)} (hm : m id = some (.mapb agg ks xs)) :
    let c' : Ctx := { c with S := fun k b => c.S k b ∨ (k = 0 ∧ b = c.φ id) }
    let m' := upd m id (some (.fmap agg ks xs))
    Goes c w m c' w m' ∧ WR base S0 w0 c' m' w := by
  intro c' m'
  obtain ⟨h1, h2, vss, h3, h4⟩ := h.blk id _ hm
  have hbof : blockOf c m id = some (c.φ id) := by simp [blockOf, hm]
  have hF : F2 (F2 (R c'.S w)) xs vss := h4.mono fun us vs _ h => h.mono fun x y _ h => h.mono (fun k b hb => .inl hb) fun _ _ _ => rfl
  have g : Goes c w m c' w m' := by
    refine ⟨fun _ _ h => .inl h, fun k b _ => rfl, fun i hi => ⟨rfl, ?_⟩, fun i L hL => ⟨L, ?_, Nat.le_refl _, fun _ => ⟨rfl, fun e2 sz2 xs2 hx => ⟨xs2, ?_⟩⟩⟩⟩
    · by_cases e : i = id
      · subst e; exact .inr (.inr (.inr (.inl ⟨_, _, _, upd_same _ _ _⟩)))
      · exact (isBox_upd_ne e).2 hi
    · have e : i ≠ id := fun e => by rw [e] at hL; simp [rowLen, hm] at hL
      rw [← hL]; exact rowLen_upd_ne m _ e
    · have e : i ≠ id := fun e => by rw [e] at hL; simp [rowLen, hm] at hL
      rw [← hx]; exact (rowsOf_upd_ne e).symm
  refine ⟨g, h.step g (fun k b hb => ?_) (fun k b hb => ?_) (.of (Below.refl _ _)) (fun i b hi => ?_) (fun i i' b p1 p2 => ?_)⟩
  · rcases hb with hb | ⟨_, rfl⟩
    · exact .inl hb
    · exact .inr h1
  · rcases hb with hb | ⟨_, rfl⟩
    · exact h.lt k b hb
    · exact (h.apart hbof).2
  · by_cases e' : i = id
    · right
      subst e'
      have hbb : b = .fmap agg ks xs := by simpa [m', upd_same] using hi.symm
      subst hbb
      exact ⟨.inr ⟨rfl, rfl⟩, vss, h3, hF⟩
    · left
      refine ⟨by rw [← hi]; exact (upd_ne m _ e').symm, rfl, rfl, fun k hk => ⟨rfl, fun j' => ⟨fun hs => ?_, .inl⟩⟩⟩
      rcases hs with hs | ⟨_, rfl⟩
      · exact hs
      · exact absurd (h.inj i id _ hk hbof) e'
  · have hbo : ∀ i k, blockOf c' m' i = some k → blockOf c m i = some k := fun i k hk => by
      by_cases e : i = id
      · subst e; simp [blockOf, m', upd_same] at hk
      · simpa [blockOf, m', c', upd_ne _ _ e] using hk
    exact h.inj i i' b (hbo i b p1) (hbo i' b p2)
theorem setBs_not {m : Mem} : ∀ {l : List (Nat × OC)} {i : Nat}, i ∉ opnIds l → setBs m l i = m i := by
  intro l
  induction l with
  | nil => intro i _; rfl
  | cons p l ih =>
    intro i h
    obtain ⟨b, cs⟩ := p
    simp only [opnIds, List.mem_cons, not_or] at h
    show upd (setBs m l) (1000000 + b) (some cs.blk) i = m i
    rw [upd_ne _ _ h.1, ih h.2]
theorem setBs_in {m : Mem} : ∀ {l : List (Nat × OC)} {i : Nat}, i ∈ opnIds l → ∃ b cs, i = 1000000 + b ∧ (b, cs) ∈ l ∧ setBs m l i = some cs.blk := by
  intro l
  induction l with
  | nil => intro i h; simp [opnIds] at h
  | cons p l ih =>
    intro i h
    obtain ⟨b, cs⟩ := p
    by_cases e : i = 1000000 + b
    · subst e
      exact ⟨b, cs, rfl, by simp, upd_same _ _ _⟩
    · have h' : i ∈ opnIds l := by simpa [opnIds, e] using h
      obtain ⟨b', cs', e1, e2, e3⟩ := ih h'
      exact ⟨b', cs', e1, by simp [e2], by show upd (setBs m l) (1000000 + b) (some cs.blk) i = _; rw [upd_ne _ _ e]; exact e3⟩
theorem opnIds_mem {l : List (Nat × OC)} {b : Nat} {cs : OC} (h : (b, cs) ∈ l) : 1000000 + b ∈ opnIds l := by
  induction l with
  | nil => simp at h
  | cons p l ih =>
    obtain ⟨b', cs'⟩ := p
    simp only [opnIds, List.mem_cons]
    rcases List.mem_cons.1 h with h | h
    · cases h; exact .inl rfl
    · exact .inr (ih h)
theorem insAt_mem {m : Mem} : ∀ {l : List (Nat × OC)}, insAt m l → ∀ p ∈ l, m (1000000 + p.1) = some p.2.blk := by
  intro l
  induction l with
  | nil => intro _ p hp; simp at hp
  | cons q l ih =>
    intro h p hp
    obtain ⟨b, oc⟩ := q
    cases oc with
    | cells cs =>
      obtain ⟨h1, h2⟩ := h
      rcases List.mem_cons.1 hp with rfl | hp
      · show m (1000000 + b) = some (.obox cs)
        split at h1
        · rename_i ds hm; rw [hm, h1]
        · exact h1.elim
      · exact ih h2 p hp
    | loop r =>
      obtain ⟨h1, h2⟩ := h
      rcases List.mem_cons.1 hp with rfl | hp
      · show m (1000000 + b) = some (.orec r)
        split at h1
        · rename_i ds hm; rw [hm, h1]
        · exact h1.elim
      · exact ih h2 p hp
theorem insAt_of {m : Mem} : ∀ {l : List (Nat × OC)}, (∀ p ∈ l, m (1000000 + p.1) = some p.2.blk) → insAt m l := by
  intro l
  induction l with
  | nil => intro _; trivial
  | cons p l ih =>
    intro h
    obtain ⟨b, oc⟩ := p
    have h1 := h (b, oc) (List.mem_cons_self ..)
    have h2 := ih fun q hq => h q (List.mem_cons_of_mem _ hq)
    cases oc with
    | cells cs => exact ⟨by rw [show m (1000000 + b) = some (.obox cs) from h1], h2⟩
    | loop r => exact ⟨by rw [show m (1000000 + b) = some (.orec r) from h1], h2⟩
theorem sameBs_ids : ∀ {l k : List (Nat × OC)}, sameBs l k → opnIds l = opnIds k := by
  intro l
  induction l with
  | nil => intro k h; cases k with
    | nil => rfl
    | cons q k => exact h.elim
  | cons p l ih =>
    intro k h
    cases k with
    | nil => exact h.elim
    | cons q k =>
      obtain ⟨b, cs⟩ := p
      obtain ⟨b', cs'⟩ := q
      obtain ⟨rfl, h⟩ := h
      simp only [opnIds, ih h]
/-- A call has been that was lent boxes: what is in them is another. -/
theorem WR.callsX (h : WR base S0 w0 c m w) {ins outs : List (Nat × OC)} (hin : insAt m ins) (hsame : sameBs ins outs) (hw : BelowX w.heap.size (fun b => ∃ cs, (b, cs) ∈ ins) w w') (T : Sh) (hT : ∀ k b, T k b → c.S k b ∨ (w.heap.size ≤ b ∧ b < w'.heap.size))
    (hout : ∀ p ∈ outs, BoxAt (fun k b => c.S k b ∨ T k b) w' p) :
    let c' : Ctx := { c with S := fun k b => c.S k b ∨ T k b }
    let m' := setBs m outs
    Goes c w m c' w' m' ∧ WR base S0 w0 c' m' w' ∧ ∀ i, blockOf c' m' i = blockOf c m i := by
  intro c' m'
  have hids := sameBs_ids hsame
  have hS : ∀ k b, c'.S k b → c.S k b ∨ (w.heap.size ≤ b ∧ b < w'.heap.size) := fun k b hb => by
    rcases hb with hb | hb
    · exact .inl hb
    · exact hT k b hb
  -- what is lent is an open box
  have hop : ∀ b cs, (b, cs) ∈ ins → m (1000000 + b) = some cs.blk ∧ c.φ (1000000 + b) = b ∧ (∀ k, ¬ c.S k b) ∧ (base ≤ b ∨ w0.L b) := fun b cs hb => by
    have hm := insAt_mem hin _ hb
    have hB := h.blk _ _ hm
    cases cs with
    | cells ds =>
      obtain ⟨q1, q2, q3, _⟩ := hB
      have q3 : c.φ (1000000 + b) = b := Nat.add_left_cancel q3
      rw [q3] at q1 q2
      exact ⟨hm, q3, q2, q1⟩
    | loop r =>
      obtain ⟨q1, q2, q3, _⟩ := hB
      have q3 : c.φ (1000000 + b) = b := Nat.add_left_cancel q3
      rw [q3] at q1 q2
      exact ⟨hm, q3, q2, q1⟩
  have hobox : ∀ i, i ∈ opnIds outs → ∃ b cs, i = 1000000 + b ∧ (b, cs) ∈ ins ∧ m i = some cs.blk ∧ c.φ i = b := fun i hi => by
    rw [← hids] at hi
    obtain ⟨b, cs, rfl, h2, _⟩ := setBs_in (m := m) hi
    obtain ⟨k1, k2, _⟩ := hop b cs h2
    exact ⟨b, cs, rfl, h2, k1, k2⟩
  have hnl : ∀ k b, c.S k b → ¬ ∃ cs, (b, cs) ∈ ins := fun k b hb ⟨cs, hc⟩ => (hop b cs hc).2.2.1 k hb
  have g : Goes c w m c' w' m' := by
    refine ⟨fun _ _ h => .inl h, fun k b hb => hw.block b (h.lt k b hb) (hnl k b hb), fun i hi => ⟨rfl, ?_⟩, fun i L hL => ?_⟩
    · by_cases e : i ∈ opnIds outs
      · obtain ⟨b, cs, _, _, e3⟩ := setBs_in (m := m) e
        cases cs with
        | cells ds => exact .inr (.inr (.inr (.inr (.inl ⟨ds, e3⟩))))
        | loop r => exact .inr (.inr (.inr (.inr (.inr ⟨r, e3⟩))))
      · have : m' i = m i := setBs_not e
        unfold isBox at hi ⊢
        rw [this]; exact hi
    · have e : i ∉ opnIds outs := fun e => by
        obtain ⟨b, cs, _, _, hm, _⟩ := hobox i e
        cases cs <;> simp [rowLen, hm, OC.blk] at hL
      have : m' i = m i := setBs_not e
      refine ⟨L, by unfold rowLen at hL ⊢; rw [this]; exact hL, Nat.le_refl _, fun _ => ⟨rfl, fun e2 sz xs hx => ⟨xs, by unfold rowsOf at hx ⊢; rw [this] at hx; exact hx⟩⟩⟩
  have hbo : ∀ i, blockOf c' m' i = blockOf c m i := fun i => by
    by_cases e : i ∈ opnIds outs
    · obtain ⟨b, cs, _, _, e3⟩ := setBs_in (m := m) e
      obtain ⟨b', cs', _, _, hm, _⟩ := hobox i e
      have e3 : m' i = some cs.blk := e3
      cases cs <;> cases cs' <;> simp [blockOf, e3, hm, c', OC.blk]
    · have : m' i = m i := setBs_not e
      unfold blockOf
      rw [this]
  refine ⟨g, ?_, hbo⟩
  refine h.step g (fun k b hb => ?_) (fun k b hb => ?_) ⟨hw.os, hw.tape, hw.output, hw.size, fun k hk hnL => hw.block k (Nat.lt_of_lt_of_le hk h.size) fun ⟨cs, hc⟩ => (hop k cs hc).2.2.2.elim (by omega) hnL⟩ (fun i b hi => ?_) (fun i i' b p1 p2 => h.inj i i' b (by rw [← hbo]; exact p1) (by rw [← hbo]; exact p2))
  · rcases hS k b hb with hb | hb
    · exact .inl hb
    · exact .inr (Nat.le_trans h.size hb.1)
  · rcases hS k b hb with hb | hb
    · exact Nat.lt_of_lt_of_le (h.lt k b hb) hw.size
    · exact hb.2
  · by_cases e : i ∈ opnIds outs
    · right
      obtain ⟨b1, cs, e1, e2, e3⟩ := setBs_in (m := m) e
      obtain ⟨b', cs', e1', k2, _, k3⟩ := hobox i e
      have : b = cs.blk := by have hi : setBs m outs i = some b := hi; rw [e3] at hi; exact (Option.some.inj hi).symm
      subst this
      have hb1 : b' = b1 := Nat.add_left_cancel (e1'.symm.trans e1)
      subst hb1
      have hφ : c'.φ i = b' := k3
      have hO := hout _ e2
      cases cs with
      | cells ds =>
        obtain ⟨q1, vs, TT, q2, q3⟩ := hO
        exact ⟨by rw [hφ]; exact (hop b' cs' k2).2.2.2, by rw [hφ]; exact q1, by rw [hφ]; exact e1'.symm, vs, TT, by rw [hφ]; exact q2, q3⟩
      | loop r =>
        obtain ⟨q1, q2⟩ := hO
        exact ⟨by rw [hφ]; exact (hop b' cs' k2).2.2.2, by rw [hφ]; exact q1, by rw [hφ]; exact e1'.symm, by rw [hφ]; exact q2⟩
    · left
      have hmi : m' i = m i := setBs_not e
      refine ⟨by rw [← hmi]; exact hi, rfl, rfl, fun k hk => ?_⟩
      have q2 := (h.apart hk).2
      refine ⟨hw.block k q2 fun ⟨cs, hc⟩ => ?_, fun j => ⟨fun hs => ?_, .inl⟩⟩
      · obtain ⟨k1, k2, _⟩ := hop k cs hc
        have := h.inj i (1000000 + k) k hk (by cases cs <;> (simp only [blockOf, k1, OC.blk]; rw [k2]))
        subst this
        exact e (hids ▸ opnIds_mem hc)
      · rcases hS j k hs with hb | hb
        · exact hb
        · omega
/-- A shown map, by its block. -/
theorem map_shown {S : Sh} {b : Nat} {agg : Bool} {ks : List Value} {xs : List (List CV)} {vss : List (List Value)} (hS : S 0 b) (h : MapIs w b agg ks vss) (hF : F2 (F2 (R S w)) xs vss) : R S w (.mapc agg ks xs) (.map (some b)) :=
  .map hS h hF.1 (fun i us vs hu hv => (hF.2 i us vs hu hv).1) fun i us vs hu hv => (hF.2 i us vs hu hv).2
end
end Go.Proofs.Ytgkfbikffcmmdaa.Abs
