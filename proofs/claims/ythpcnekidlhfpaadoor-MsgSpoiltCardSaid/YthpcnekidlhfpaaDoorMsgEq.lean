/- Are two messages the same? The run of '==' on them. -/
import Derived.Test.YthpcnekidlhfpaaDoorMsgH
namespace Go.Proofs.YthpcnekidlhfpaaDoor
open Go.RowKit

def eqM (m n : M7) : Bool := (m.kind == n.kind) && ((m.run == n.run) && ((m.a == n.a) && ((m.b == n.b) && ((m.nonce == n.nonce) && ((m.box == n.box) && (m.more == n.more))))))
theorem eqM_iff (m n : M7) : eqM m n = true ↔ m = n := by
  constructor
  · intro h
    simp [eqM] at h
    exact M7.ext' h.1 h.2.1 h.2.2.1 h.2.2.2.1 h.2.2.2.2.1 h.2.2.2.2.2.1 h.2.2.2.2.2.2
  · rintro rfl; simp [eqM]
theorem eqM_self (m : M7) : eqM m m = true := (eqM_iff m m).2 rfl
theorem eqM_ne {m n : M7} (h : m ≠ n) : eqM m n = false := by
  cases e : eqM m n with
  | false => rfl
  | true => exact absurd ((eqM_iff m n).1 e) h
set_option maxHeartbeats 2000000 in
set_option maxRecDepth 100000 in
theorem eq_run (m n : M7) (w : World) :
    (Op.equalIn 10000 24 (.agg #[.int .u32 m.kind, .int .u32 m.run, .int .u32 m.a, .int .u32 m.b, .int .u32 m.nonce, .int .u32 m.box, .int .u32 m.more]) (.agg #[.int .u32 n.kind, .int .u32 n.run, .int .u32 n.a, .int .u32 n.b, .int .u32 n.nonce, .int .u32 n.box, .int .u32 n.more])).run Tryd.prog w = .ok (eqM m n) w := by
  obtain ⟨k, r, a, b, c, x, o⟩ := m
  obtain ⟨k', r', a', b', c', x', o'⟩ := n
  show (Op.equalIn 10000 24 (.agg #[.int .u32 k, .int .u32 r, .int .u32 a, .int .u32 b, .int .u32 c, .int .u32 x, .int .u32 o]) (.agg #[.int .u32 k', .int .u32 r', .int .u32 a', .int .u32 b', .int .u32 c', .int .u32 x', .int .u32 o'])).run Tryd.prog w = _
  cases h1 : (k == k') with
  | false => go_simp; simp [eqM, h1]
  | true =>
    cases h2 : (r == r') with
    | false => go_simp; simp [eqM, h2]
    | true =>
      cases h3 : (a == a') with
      | false => go_simp; simp [eqM, h3]
      | true =>
        cases h4 : (b == b') with
        | false => go_simp; simp [eqM, h4]
        | true =>
          cases h5 : (c == c') with
          | false => go_simp; simp [eqM, h5]
          | true =>
            cases h6 : (x == x') with
            | false => go_simp; simp [eqM, h6]
            | true =>
              cases h7 : (o == o') with
              | false => go_simp; simp [eqM, h7]
              | true =>
                go_simp; simp [eqM, h1, h2, h3, h4, h5, h6, h7]
/-- A message of words of 32 bits. -/
structure RangeM (m : M7) : Prop where
  kind : 0 ≤ m.kind ∧ m.kind < 4294967296
  run : 0 ≤ m.run ∧ m.run < 4294967296
  a : 0 ≤ m.a ∧ m.a < 4294967296
  b : 0 ≤ m.b ∧ m.b < 4294967296
  nonce : 0 ≤ m.nonce ∧ m.nonce < 4294967296
  box : 0 ≤ m.box ∧ m.box < 4294967296
  more : 0 ≤ m.more ∧ m.more < 4294967296
theorem RangeM.word {m : M7} (h : RangeM m) (t : Int) : 0 ≤ m.word t ∧ m.word t < 4294967296 := by
  unfold M7.word
  repeat' split
  · exact h.run
  · exact h.a
  · exact h.b
  · exact h.nonce
  · exact h.box
  · exact h.more
theorem putM_range {m : M7} (h : RangeM m) : ∀ x ∈ putM m, 0 ≤ x ∧ x < 4294967296 := by
  intro x hx
  unfold putM flatF at hx
  rw [List.mem_flatMap] at hx
  obtain ⟨f, hf, hx⟩ := hx
  have key : ∃ y, f.2 = [y] ∧ (0 ≤ y ∧ y < 4294967296) ∧ 0 ≤ f.1 ∧ f.1 ≤ 255 := by
    rcases List.mem_cons.1 hf with rfl | hf
    · exact ⟨_, rfl, h.kind, by simp, by simp⟩
    · unfold tagFields at hf
      rw [List.mem_map] at hf
      obtain ⟨t, ht, rfl⟩ := hf
      have := kindTags_ok _ t ht
      exact ⟨_, rfl, h.word t, by simp; omega, by simp; omega⟩
  obtain ⟨y, hy, h1, h2, h3⟩ := key
  unfold wordsF1 at hx
  rw [hy] at hx
  simp at hx
  rcases hx with rfl | rfl | rfl
  · omega
  · omega
  · exact h1
end Go.Proofs.YthpcnekidlhfpaaDoor
