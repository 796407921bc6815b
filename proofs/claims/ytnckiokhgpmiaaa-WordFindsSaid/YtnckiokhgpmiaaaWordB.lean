/- Contracts of the functions of layer word, and of its reference, that only read: Find, IsDraw, Draw. -/
import Derived.Test.YtnckiokhgpmiaaaWordA
namespace Go.Proofs.Ytnckiokhgpmiaaa
open Go.RowKit

def matchAt (A P : List Int) (k : Nat) : Bool := sameB ((A.drop k).take P.length) P
def findO (A P : List Int) : Option Nat := (List.range (A.length + 1 - P.length)).find? (matchAt A P)
def findN (A P : List Int) : Int := ((findO A P).getD 0 : Nat)
def findOk (A P : List Int) : Bool := (findO A P).isSome
theorem find_hit {A P : List Int} {k : Nat} (hk : k < A.length + 1 - P.length) (h : ∀ j, j < k → matchAt A P j = false) (hm : matchAt A P k = true) : findN A P = k ∧ findOk A P = true := by
  have : findO A P = some k := by
    unfold findO
    rw [List.find?_range_eq_some]
    exact ⟨hm, by simpa using hk, fun j hj => by simp [h j hj]⟩
  simp [findN, findOk, this]
theorem find_miss {A P : List Int} (h : ∀ j, j < A.length + 1 - P.length → matchAt A P j = false) : findN A P = 0 ∧ findOk A P = false := by
  have : findO A P = none := by
    unfold findO
    rw [List.find?_range_eq_none]
    exact fun j hj => by simp [h j hj]
  simp [findN, findOk, this]
theorem find_short {A P : List Int} (h : A.length < P.length) : findN A P = 0 ∧ findOk A P = false := find_miss fun j hj => by omega
theorem matchAt_nil (A : List Int) (k : Nat) : matchAt A [] k = true := by simp [matchAt, sameB]
theorem find_nil (A : List Int) : findN A [] = 0 ∧ findOk A [] = true := find_hit (k := 0) (by simp) (fun j hj => by omega) (matchAt_nil A 0)
theorem ret_found {n m : Int} {a b : Bool} (h : n = m ∧ a = b) : Ending.returned (.tuple #[.int .i64 m, .bool b]) = .returned (.tuple #[.int .i64 n, .bool a]) := by rw [h.1, h.2]
theorem hits {A P : List Int} {k : Nat} (H : ∀ j, j < k → matchAt A P j = false) (hm : matchAt A P k = false) : ∀ j, j < k + 1 → matchAt A P j = false := by
  intro j hj
  rcases Nat.lt_succ_iff_lt_or_eq.1 hj with h1 | h1
  · exact H j h1
  · subst h1; exact hm

theorem ints_part {k : IntKind} {w : World} {b o c : Nat} {A : List Int} (hl : A.length ≤ c) (hm : c ≤ maxLen) (hc : ∀ i, i < A.length → w.cell? ⟨b, o + i, none⟩ = some (.int k (A.getD i 0))) {i n : Nat} (hi : i + n ≤ A.length) :
    Ints k w (.slice (some ⟨b, o + i, none⟩) n (c - i)) ((A.drop i).take n) := by
  have hlen : ((A.drop i).take n).length = n := by simp; omega
  refine Ints.row hlen (by omega) (by omega) fun j hj => ?_
  rw [Nat.add_assoc, hc (i + j) (by omega)]
  have h1 : i + j < A.length := by omega
  simp [hj]

set_option maxHeartbeats 400000 in
theorem find_cells (b1 o1 c1 b2 o2 c2 n m : Nat) (A P : List Int) (w : World) (hA : A.length = n) (hP : P.length = m) (hl1 : n ≤ c1) (hm1 : c1 ≤ maxLen) (hl2 : m ≤ c2) (hm2 : c2 ≤ maxLen) (h0 : 1 ≤ m) (hmn : m ≤ n)
    (h1 : ∀ i, i < n → w.cell? ⟨b1, o1 + i, none⟩ = some (.int .u32 (A.getD i 0))) (h2 : ∀ i, i < m → w.cell? ⟨b2, o2 + i, none⟩ = some (.int .u32 (P.getD i 0))) :
    Calls Try.prog 12 #[.slice (some ⟨b1, o1, none⟩) n c1, .slice (some ⟨b2, o2, none⟩) m c2] w fun e w' => e = .returned (.tuple #[.int .i64 (findN A P), .bool (findOk A P)]) ∧ Reads w w' := by
  have k1 : c1 ≤ 9223372036854775807 := by unfold maxLen at hm1; omega
  have H1 := Lib.hid h1; have H2 := Lib.hid h2; clear h1 h2
  have HA := Lib.hid hA; have HP := Lib.hid hP; clear hA hP
  go_enter Try.func12, Try.ntmps12
  go_wp2_with fail
  go_loopw [13] (fun i wr => ∃ k : Nat, k ≤ n - m + 1 ∧ i = .int .i64 k ∧ (∀ j, j < k → matchAt A P j = false) ∧ Reads w wr) (fun i _ => n - m + 1 - (intOf i).toNat)
  case atStart => exact ⟨0, Nat.zero_le _, rfl, fun j hj => absurd hj (by omega), Reads.refl _⟩
  case round =>
    obtain ⟨k, hk, rfl, hall, q, rfl⟩ := hrel
    have H := Lib.hid hall; clear hall
    by_cases hlt : k < n - m + 1
    · go_wp2_with fail
      refine (same_any _ _ ((A.drop k).take P.length) P _ ?_ ?_).mono ?_
      · rw [HP.out]
        exact Ints.reads (ints_part (by rw [HA.out]; exact hl1) hm1 (by rw [HA.out]; exact H1.out) (by rw [HA.out]; omega)) (reads1 _ _)
      · exact Ints.reads (Ints.row HP.out hl2 hm2 H2.out) (reads1 _ _)
      rintro e w1 ⟨rfl, q1, rfl⟩
      have hmk : matchAt A P k = sameB ((A.drop k).take P.length) P := rfl
      rw [← hmk]
      clear hmk
      by_cases hm : matchAt A P k = true
      · go_wp2_with fail
        go_ret2
        exact ⟨ret_found (find_hit (by rw [HA.out, HP.out]; omega) H.out hm), (by first | exact reads1 _ _ | exact reads2 _ _ _)⟩
      · have hm' : matchAt A P k = false := by simpa using hm
        go_wp2_with fail
        go_roundw
        case rel => exact ⟨k + 1, by omega, by go_num, hits H.out hm', (by first | exact reads1 _ _ | exact reads2 _ _ _)⟩
        case measure => simp [intOf]; omega
    · obtain rfl : k = n - m + 1 := by omega
      go_wp2_with fail
      go_ret2
      exact ⟨ret_found (find_miss (by rw [HA.out, HP.out]; intro j hj; exact H.out j (by omega))), (by first | exact reads1 _ _ | exact reads2 _ _ _)⟩
set_option maxHeartbeats 400000 in
theorem find_few (a1 a2 : Option Addr) (c1 c2 n m : Nat) (w : World) (hn : n ≤ 9223372036854775807) (hm : m ≤ 9223372036854775807) (hmn : n < m) :
    Calls Try.prog 12 #[.slice a1 n c1, .slice a2 m c2] w fun e w' => e = .returned (.tuple #[.int .i64 0, .bool false]) ∧ w = w' := by
  go_enter Try.func12, Try.ntmps12
  go_wp2_with fail
  go_loop [13] (fun i => i = .int .i64 0) (fun _ => 0)
  case atStart => rfl
  case round =>
    obtain rfl := hrel
    go_wp2_with fail
    go_ret2
    exact ⟨rfl, rfl⟩
set_option maxHeartbeats 400000 in
theorem find_empty (x : Addr) (c n : Nat) (v : Value) (w : World) (hm : c ≤ maxLen) (hn : n ≤ 1073741824) (hv : Ints .u32 w v []) :
    Calls Try.prog 12 #[.slice (some x) n c, v] w fun e w' => e = .returned (.tuple #[.int .i64 0, .bool true]) ∧ Reads w w' := by
  obtain ⟨a2, c2, rfl⟩ := hv.form
  have k1 : c ≤ 9223372036854775807 := by unfold maxLen at hm; omega
  have h0 : 0 ≤ c := Nat.zero_le _
  go_enter Try.func12, Try.ntmps12
  go_wp2_with fail
  go_loopw [13] (fun i wr => i = .int .i64 0 ∧ Reads w wr) (fun _ _ => 0)
  case atStart => exact ⟨rfl, Reads.refl _⟩
  case round =>
    obtain ⟨rfl, q, rfl⟩ := hrel
    go_wp2_with fail
    refine (same_any _ _ [] [] _ (Ints.none hm) (hv.reads (reads1 _ _))).mono ?_
    rintro e w1 ⟨rfl, q1, rfl⟩
    have hb : sameB [] [] = true := by simp [sameB]
    rw [hb]
    clear hb
    go_wp2_with fail
    go_ret2
    exact ⟨rfl, (by first | exact reads1 _ _ | exact reads2 _ _ _)⟩
set_option maxHeartbeats 400000 in
theorem find_nils (a2 : Option Addr) (c2 : Nat) (w : World) (hv : Ints .u32 w (.slice a2 0 c2) []) :
    Calls Try.prog 12 #[.slice none 0 0, .slice a2 0 c2] w fun e w' => e = .returned (.tuple #[.int .i64 0, .bool true]) ∧ Reads w w' := by
  go_enter Try.func12, Try.ntmps12
  go_wp2_with fail
  go_loopw [13] (fun i wr => i = .int .i64 0 ∧ Reads w wr) (fun _ _ => 0)
  case atStart => exact ⟨rfl, Reads.refl _⟩
  case round =>
    obtain ⟨rfl, q, rfl⟩ := hrel
    go_wp2_with fail
    refine (same_any _ _ [] [] _ (Ints.nil _ _) (hv.reads (reads1 _ _))).mono ?_
    rintro e w1 ⟨rfl, q1, rfl⟩
    have hb : sameB [] [] = true := by simp [sameB]
    rw [hb]
    clear hb
    go_wp2_with fail
    go_ret2
    exact ⟨rfl, (by first | exact reads1 _ _ | exact reads2 _ _ _)⟩
/-- Where is the part found first? -/
theorem find_any (v1 v2 : Value) (A P : List Int) (w : World) (h1 : Ints .u32 w v1 A) (h2 : Ints .u32 w v2 P) (hA : A.length ≤ 1073741824) (hP : P.length ≤ 1073741824) :
    Calls Try.prog 12 #[v1, v2] w fun e w' => e = .returned (.tuple #[.int .i64 (findN A P), .bool (findOk A P)]) ∧ Reads w w' := by
  by_cases hs : A.length < P.length
  · obtain ⟨a1, c1, rfl⟩ := h1.form
    obtain ⟨a2, c2, rfl⟩ := h2.form
    exact (find_few a1 a2 c1 c2 _ _ w (by omega) (by omega) hs).mono fun e w' ⟨he, hw⟩ => ⟨he.trans (ret_found (find_short hs)), Reads.of_eq hw⟩
  · by_cases h0 : P.length = 0
    · obtain rfl : P = [] := List.eq_nil_of_length_eq_zero h0
      rcases h1.addr with ⟨rfl, rfl⟩ | ⟨x1, c1, rfl, _, hm1⟩
      · obtain ⟨a2, c2, rfl⟩ := h2.form
        exact (find_nils a2 c2 w h2).mono fun e w' ⟨he, hw⟩ => ⟨he.trans (ret_found (find_nil _)), hw⟩
      · exact (find_empty x1 c1 _ v2 w hm1 hA h2).mono fun e w' ⟨he, hw⟩ => ⟨he.trans (ret_found (find_nil _)), hw⟩
    · obtain ⟨b1, o1, c1, rfl, hl1, hm1, hc1⟩ := h1.cells (by intro e; subst e; exact absurd (Nat.le_zero.1 (Nat.le_of_not_lt hs)) h0)
      obtain ⟨b2, o2, c2, rfl, hl2, hm2, hc2⟩ := h2.cells (by intro e; subst e; exact h0 rfl)
      exact find_cells b1 o1 c1 b2 o2 c2 _ _ A P w rfl rfl hl1 hm1 hl2 hm2 (by omega) (by omega) hc1 hc2

theorem prefix_next {A P : List Int} {at0 j : Nat} (H : ∀ i, i < j → A.getD (at0 + i) 0 = P.getD i 0) (hA : at0 + j < A.length) (hP : j < P.length) (h : (A[at0 + j] == P[j]) = true) : ∀ i, i < j + 1 → A.getD (at0 + i) 0 = P.getD i 0 := by
  intro i hi
  rcases Nat.lt_succ_iff_lt_or_eq.1 hi with h1 | h1
  · exact H i h1
  · subst h1; simpa [hA, hP] using h
theorem matchAt_of {A P : List Int} {at0 : Nat} (hn : at0 + P.length ≤ A.length) (H : ∀ i, i < P.length → A.getD (at0 + i) 0 = P.getD i 0) : matchAt A P at0 = true := by
  unfold matchAt
  refine (sameB_eq (n := P.length) (by simp; omega) rfl fun j hj => ?_).symm
  have := H j hj
  simpa [hj] using this
theorem matchAt_not {A P : List Int} {at0 j : Nat} (hA : at0 + j < A.length) (hP : j < P.length) (h : (A[at0 + j] == P[j]) = false) : matchAt A P at0 = false := by
  unfold matchAt sameB
  apply decide_eq_false
  intro e
  have : ((A.drop at0).take P.length)[j]? = P[j]? := by rw [e]
  simp [hP, hA] at this
  simp [this] at h
set_option maxHeartbeats 1000000 in
theorem rfind_cells (b1 o1 c1 b2 o2 c2 n m : Nat) (A P : List Int) (w : World) (hA : A.length = n) (hP : P.length = m) (hn : n ≤ 1073741824) (hmn : m ≤ n)
    (h1 : ∀ i, i < n → w.cell? ⟨b1, o1 + i, none⟩ = some (.int .u32 (A.getD i 0))) (h2 : ∀ i, i < m → w.cell? ⟨b2, o2 + i, none⟩ = some (.int .u32 (P.getD i 0))) :
    Calls Try.prog 13 #[.slice (some ⟨b1, o1, none⟩) n c1, .slice (some ⟨b2, o2, none⟩) m c2] w fun e w' => e = .returned (.tuple #[.int .i64 (findN A P), .bool (findOk A P)]) ∧ Reads w w' := by
  have H1 := Lib.hid h1; have H2 := Lib.hid h2; clear h1 h2
  have HA := Lib.hid hA; have HP := Lib.hid hP; clear hA hP
  go_enter Try.func13, Try.ntmps13
  go_wp2_with fail
  go_loopw [6] (fun i wr => ∃ k : Nat, k ≤ n - m + 1 ∧ i = .int .i64 k ∧ (∀ j, j < k → matchAt A P j = false) ∧ Reads w wr) (fun i _ => n - m + 1 - (intOf i).toNat)
  case atStart => exact ⟨0, Nat.zero_le _, rfl, fun j hj => absurd hj (by omega), Reads.refl _⟩
  case round =>
    obtain ⟨k, hk, rfl, hall, q, rfl⟩ := hrel
    have H := Lib.hid hall; clear hall
    by_cases hlt : k < n - m + 1
    · have hle : k + m ≤ n := by omega
      go_wp2_with fail
      go_loopw [7] (fun i wr => ∃ j : Nat, j ≤ m ∧ i = .int .i64 j ∧ (∀ i, i < j → A.getD (k + i) 0 = P.getD i 0) ∧ Reads w wr) (fun i _ => m - (intOf i).toNat)
      case atStart => exact ⟨0, Nat.zero_le _, rfl, fun j hj => absurd hj (by omega), (by first | exact reads1 _ _ | exact reads2 _ _ _)⟩
      case round =>
        obtain ⟨j, hj, rfl, hpre, q2, rfl⟩ := hrel
        have HH := Lib.hid hpre; clear hpre
        by_cases hjm : j < m
        · have hb : decide ((j : Int) < (m : Int)) = true := by simp; omega
          have e1 := H1.out (k + j) (by omega)
          have e2 := H2.out j hjm
          have hkA : k + j < A.length := by rw [HA.out]; omega
          have hkP : j < P.length := by rw [HP.out]; omega
          go_wp2_with fail
          go_quiet (fail)
          go_wp2_with fail
          · have ht : (A[k + j] == P[j]) = true := by assumption
            go_roundw
            case rel => exact ⟨j + 1, by omega, by go_num, prefix_next HH.out hkA hkP ht, (by first | exact reads1 _ _ | exact reads2 _ _ _)⟩
            case measure => simp [intOf]; omega
          · have ht : (A[k + j] == P[j]) = false := by assumption
            go_roundw
            case rel => exact ⟨k + 1, by omega, by go_num, hits H.out (matchAt_not hkA hkP ht), (by first | exact reads1 _ _ | exact reads2 _ _ _)⟩
            case measure => simp [intOf]; omega
        · obtain rfl : j = m := by omega
          have hb : decide ((j : Int) < (j : Int)) = false := by simp
          go_wp2_with fail
          go_quiet (fail)
          go_wp2_with fail
          go_ret2
          exact ⟨ret_found (find_hit (by rw [HA.out, HP.out]; omega) H.out (matchAt_of (by rw [HA.out, HP.out]; omega) (by rw [HP.out]; exact HH.out))), (by first | exact reads1 _ _ | exact reads2 _ _ _)⟩
    · obtain rfl : k = n - m + 1 := by omega
      go_wp2_with fail
      go_ret2
      exact ⟨ret_found (find_miss (by rw [HA.out, HP.out]; intro j hj; exact H.out j (by omega))), (by first | exact reads1 _ _ | exact reads2 _ _ _)⟩
set_option maxHeartbeats 400000 in
theorem rfind_few (a1 a2 : Option Addr) (c1 c2 n m : Nat) (w : World) (hm : m ≤ 9223372036854775807) (hmn : n < m) :
    Calls Try.prog 13 #[.slice a1 n c1, .slice a2 m c2] w fun e w' => e = .returned (.tuple #[.int .i64 0, .bool false]) ∧ w = w' := by
  go_enter Try.func13, Try.ntmps13
  go_wp2_with fail
  go_loop [6] (fun i => i = .int .i64 0) (fun _ => 0)
  case atStart => rfl
  case round =>
    obtain rfl := hrel
    go_wp2_with fail
    go_ret2
    exact ⟨rfl, rfl⟩
set_option maxHeartbeats 400000 in
theorem rfind_none (a1 a2 : Option Addr) (c1 c2 n : Nat) (w : World) :
    Calls Try.prog 13 #[.slice a1 n c1, .slice a2 0 c2] w fun e w' => e = .returned (.tuple #[.int .i64 0, .bool true]) ∧ Reads w w' := by
  have hb : decide ((0 : Int) < ((0 : Nat) : Int)) = false := by simp
  have hb2 : decide ((0 : Int) < (0 : Int)) = false := by simp
  go_enter Try.func13, Try.ntmps13
  go_wp2_with fail
  go_loopw [6] (fun i wr => i = .int .i64 0 ∧ Reads w wr) (fun _ _ => 0)
  case atStart => exact ⟨rfl, Reads.refl _⟩
  case round =>
    obtain ⟨rfl, q, rfl⟩ := hrel
    go_wp2_with fail
    go_loopw [7] (fun i wr => i = .int .i64 0 ∧ Reads w wr) (fun _ _ => 0)
    case atStart => exact ⟨rfl, (by first | exact reads1 _ _ | exact reads2 _ _ _)⟩
    case round =>
      obtain ⟨rfl, q2, rfl⟩ := hrel
      go_wp2_with fail
      go_quiet (fail)
      go_wp2_with fail
      go_ret2
      exact ⟨rfl, (by first | exact reads1 _ _ | exact reads2 _ _ _)⟩
theorem rfind_any (v1 v2 : Value) (A P : List Int) (w : World) (h1 : Ints .u32 w v1 A) (h2 : Ints .u32 w v2 P) (hA : A.length ≤ 1073741824) (hP : P.length ≤ 1073741824) :
    Calls Try.prog 13 #[v1, v2] w fun e w' => e = .returned (.tuple #[.int .i64 (findN A P), .bool (findOk A P)]) ∧ Reads w w' := by
  by_cases hs : A.length < P.length
  · obtain ⟨a1, c1, rfl⟩ := h1.form
    obtain ⟨a2, c2, rfl⟩ := h2.form
    exact (rfind_few a1 a2 c1 c2 _ _ w (by omega) hs).mono fun e w' ⟨he, hw⟩ => ⟨he.trans (ret_found (find_short hs)), Reads.of_eq hw⟩
  · by_cases h0 : P.length = 0
    · obtain rfl : P = [] := List.eq_nil_of_length_eq_zero h0
      obtain ⟨a1, c1, rfl⟩ := h1.form
      obtain ⟨a2, c2, rfl⟩ := h2.form
      exact (rfind_none a1 a2 c1 c2 _ w).mono fun e w' ⟨he, hw⟩ => ⟨he.trans (ret_found (find_nil _)), hw⟩
    · obtain ⟨b1, o1, c1, rfl, hl1, hm1, hc1⟩ := h1.cells (by intro e; subst e; exact absurd (Nat.le_zero.1 (Nat.le_of_not_lt hs)) h0)
      obtain ⟨b2, o2, c2, rfl, hl2, hm2, hc2⟩ := h2.cells (by intro e; subst e; exact h0 rfl)
      exact rfind_cells b1 o1 c1 b2 o2 c2 _ _ A P w rfl rfl hA (by omega) hc1 hc2

/-- Words: is it a draw's, and it as one. -/
def drawN (n : Int) : Int := if n < 2147483648 then n + 2147483648 else n
def isDrawB (n : Int) : Bool := decide (2147483648 ≤ n)
theorem and_pow (n i : Nat) : n &&& 2 ^ i = if n.testBit i then 2 ^ i else 0 := by
  apply Nat.eq_of_testBit_eq
  intro j
  rw [Nat.testBit_and, Nat.testBit_two_pow]
  by_cases h : i = j
  · subst h
    by_cases hb : n.testBit i = true <;> simp [hb]
  · by_cases hb : n.testBit i = true <;> simp [hb, h]
theorem and_top (n : Int) (h0 : 0 ≤ n) (h1 : n < 4294967296) : bits .and .u32 n 2147483648 = if n < 2147483648 then 0 else 2147483648 := by
  rw [u32_and n 2147483648 h0 h1 (by omega) (by omega)]
  have e : (2147483648 : Int).toNat = 2 ^ 31 := by decide
  rw [e, and_pow, Nat.testBit_eq_decide_div_mod_eq]
  by_cases h : n < 2147483648
  · have : n.toNat / 2 ^ 31 % 2 = 0 := by
      rw [Nat.div_eq_of_lt (by omega)]
    simp [this, h]
  · have : n.toNat / 2 ^ 31 % 2 = 1 := by
      have : n.toNat / 2 ^ 31 = 1 := by omega
      rw [this]
    simp [this, h]
theorem or_top (n : Int) (h0 : 0 ≤ n) (h1 : n < 4294967296) : bits .or .u32 n 2147483648 = drawN n := by
  rw [u32_or n 2147483648 h0 h1 (by omega) (by omega)]
  have e : (2147483648 : Int).toNat = 2 ^ 31 := by decide
  rw [e]
  have join : ∀ b : Nat, b < 2 ^ 31 → 2 ^ 31 ||| b = 2 ^ 31 + b := fun b hb => by
    have := Nat.two_pow_add_eq_or_of_lt hb 1
    simpa using this.symm
  unfold drawN
  by_cases h : n < 2147483648
  · rw [if_pos h, Nat.or_comm, join _ (by omega)]
    omega
  · rw [if_neg h]
    have h2 : n.toNat = 2 ^ 31 ||| (n.toNat - 2 ^ 31) := by
      rw [join _ (by omega)]; omega
    have h3 : n.toNat ||| 2 ^ 31 = n.toNat := by
      conv => lhs; rw [h2]
      rw [Nat.or_comm, ← Nat.or_assoc, Nat.or_self]
      exact h2.symm
    rw [h3]; omega
theorem isDraw_test (n : Int) (h0 : 0 ≤ n) (h1 : n < 4294967296) : (bits .and .u32 n 2147483648 != 0) = isDrawB n := by
  rw [and_top n h0 h1]
  unfold isDrawB
  by_cases h : n < 2147483648
  · rw [if_pos h]; simp; omega
  · rw [if_neg h]; simp; omega
theorem ret_u32 {a b : Int} (h : a = b) : Ending.returned (.int .u32 a) = .returned (.int .u32 b) := by rw [h]
set_option maxHeartbeats 400000 in
theorem isDraw_any (n : Int) (w : World) (h0 : 0 ≤ n) (h1 : n < 4294967296) :
    Calls Try.prog 10 #[.int .u32 n] w fun e w' => e = .returned (.bool (isDrawB n)) ∧ w = w' := by
  go_enter Try.func10, Try.ntmps10
  go_wp2_with fail
  go_ret
  exact ⟨ret_bool (isDraw_test n h0 h1), rfl⟩
set_option maxHeartbeats 400000 in
theorem risDraw_any (n : Int) (w : World) :
    Calls Try.prog 11 #[.int .u32 n] w fun e w' => e = .returned (.bool (isDrawB n)) ∧ w = w' := by
  go_enter Try.func11, Try.ntmps11
  go_wp2_with fail
  go_ret
  exact ⟨rfl, rfl⟩
set_option maxHeartbeats 400000 in
theorem draw_any (n : Int) (w : World) (h0 : 0 ≤ n) (h1 : n < 4294967296) :
    Calls Try.prog 9 #[.int .u32 n] w fun e w' => e = .returned (.int .u32 (drawN n)) ∧ w = w' := by
  go_enter Try.func9, Try.ntmps9
  go_wp2_with fail
  go_ret
  exact ⟨ret_u32 (or_top n h0 h1), rfl⟩
end Go.Proofs.Ytnckiokhgpmiaaa
