/- What is handed in, and values without addresses. -/
import Derived.Test.YtgkfbikffcmmdaaAbsE
import Derived.Test.YtgkfbikffcmmdaaCod
set_option linter.unusedSimpArgs false
set_option linter.unusedVariables false
set_option maxRecDepth 100000
namespace Go.Proofs.Ytgkfbikffcmmdaa.Abs
open Go.RowKit
/-- What lies as the kind says stands for these cells. -/
def Enc {α : Type} (C : Cod α) (e : α → List CV) : Prop := ∀ (w : World) (B : Nat) (vs : List Value) (x : α), C.rep w B vs x → F2 (R (fun k b => k = 0 ∧ b < B) w) (e x) vs
theorem Enc.num (k : IntKind) : Enc (Cod.num k) (fun x => [.v (.int k x)]) := fun w B vs x h => by
  obtain ⟨rfl, h2⟩ := h
  exact F2.cons (R.v (inK_wf.trans h2)) F2.nil
theorem Enc.flag : Enc Cod.flag (fun x => [.v (.bool x)]) := fun w B vs x h => by
  have h : vs = [.bool x] := h
  subst h
  exact F2.cons (R.v rfl) F2.nil
theorem Enc.prod {α β : Type} {C : Cod α} {D : Cod β} {e : α → List CV} {g : β → List CV} (h : Enc C e) (k : Enc D g) : Enc (C.prod D) (fun x => e x.1 ++ g x.2) := fun w B vs x ⟨us, ts, hv, h1, h2⟩ => by
  rw [hv]
  exact (h w B us x.1 h1).append (k w B ts x.2 h2)
theorem Enc.via {α β : Type} {C : Cod α} {e : α → List CV} (h : Enc C e) (f : β → α) : Enc (C.via f) (fun x => e (f x)) := fun w B vs x hx => h w B vs (f x) hx
theorem Enc.row {α : Type} {C : Cod α} {e : α → List CV} (h : Enc C e) (hs : 0 < C.size) : Enc C.row (fun xs => [.row (xs.map e)]) := fun w B vs xs hx => by
  rcases hx with ⟨rfl, rfl⟩ | ⟨a, c, rfl, h1, h2, h3⟩
  · exact F2.cons R.nil F2.nil
  · refine F2.cons ?_ F2.nil
    by_cases hz : xs = []
    · subst hz; exact R.bare h2
    · rcases h3 with h3 | ⟨b, o, rfl, hb, hel⟩
      · exact absurd h3 hz
      · have hsz : ∀ us ∈ xs.map e, us.length = C.size := fun us hu => by
          obtain ⟨x, hx, rfl⟩ := List.mem_map.1 hu
          obtain ⟨i, hi, rfl⟩ := List.getElem_of_mem hx
          obtain ⟨ts, k1, _⟩ := hel i _ (List.getElem?_eq_getElem hi)
          rw [(h w B ts _ k1).1, C.len k1]
        have each : ∀ n, n ≤ xs.length → ∃ vss : List (List Value), vss.length = n ∧ ∀ i x vs, xs[i]? = some x → vss[i]? = some vs → F2 (R (fun k b => k = 0 ∧ b < B) w) (e x) vs ∧ Holds w b (o + i * C.size) vs := by
          intro n
          induction n with
          | zero => intro _; exact ⟨[], rfl, fun i x vs _ h => by simp at h⟩
          | succ n ih =>
            intro hn
            obtain ⟨vss, q1, q2⟩ := ih (by omega)
            obtain ⟨ts, k1, k2⟩ := hel n xs[n] (List.getElem?_eq_getElem (by omega))
            refine ⟨vss ++ [ts], by simp [q1], fun i x vs hi hj => ?_⟩
            by_cases hin : i < vss.length
            · rw [List.getElem?_append_left hin] at hj
              exact q2 i x vs hi hj
            · rw [List.getElem?_append_right (by omega)] at hj
              have : i = n := by
                rcases Nat.lt_or_ge (i - vss.length) 1 with h | h
                · omega
                · rw [List.getElem?_eq_none (by simpa using h)] at hj; simp at hj
              subst this
              rw [q1] at hj
              simp at hj
              subst hj
              rw [List.getElem?_eq_getElem (by omega)] at hi
              cases hi
              exact ⟨h w B ts _ k1, k2⟩
        obtain ⟨vss, q1, q2⟩ := each _ (Nat.le_refl _)
        have := R.mk (S := fun k b => k = 0 ∧ b < B) (w := w) (xs := xs.map e) (vss := vss) (b := b) (o := o) (cap := c) (sz := C.size) (k := 0) ⟨rfl, hb⟩ (by simpa using h1) h2 hsz ⟨by simp [q1], fun i us vs hi hj => by
          simp only [List.getElem?_map, Option.map_eq_some_iff] at hi
          obtain ⟨x, hx, rfl⟩ := hi
          exact (q2 i x vs hx hj).1⟩ (fun i vs hj => by
          have hil : i < xs.length := by rw [← q1]; exact (List.getElem?_eq_some_iff.1 hj).1
          exact (q2 i xs[i] vs (List.getElem?_eq_getElem hil) hj).2)
        rw [List.length_map] at this
        exact this
theorem Enc.one {α : Type} {C : Cod α} {e : α → CV} (h : Enc C fun x => [e x]) {w : World} {B : Nat} {v : Value} {x : α} (hx : C.rep w B [v] x) : RC (fun k b => k = 0 ∧ b < B) w (.one (e x)) v := by
  obtain ⟨v', t, hv, h1, _⟩ := (h w B [v] x hx).uncons
  cases hv
  exact h1
theorem Enc.agg {α : Type} {C : Cod α} {e : α → List CV} (h : Enc C e) {w : World} {B : Nat} {vs : List Value} {x : α} (hx : C.rep w B vs x) : RC (fun k b => k = 0 ∧ b < B) w (.agg (e x)) (.agg vs.toArray) := ⟨vs, rfl, h w B vs x hx⟩
end Go.Proofs.Ytgkfbikffcmmdaa.Abs
