/- Runs, held against one another. -/
import Derived.Test.YtgkfbikffcmmdaaEqB
set_option linter.unusedSimpArgs false
set_option linter.unusedVariables false
set_option maxRecDepth 100000
namespace Go.Proofs.Ytgkfbikffcmmdaa.Abs
open Go.RowKit
set_option maxHeartbeats 4000000 in
set_option maxRecDepth 100000 in
theorem eqr_run (a0 a1 a2 a3 a4 a5 a6 a7 a8 b0 b1 b2 b3 b4 b5 b6 b7 b8 : Int) (w : World) : (Op.equal 65 (.agg #[.int .i64 a0, .int .i64 a1, .int .u32 a2, .int .u32 a3, .int .u32 a4, .int .u32 a5, .int .u32 a6, .int .u32 a7, .int .i64 a8]) (.agg #[.int .i64 b0, .int .i64 b1, .int .u32 b2, .int .u32 b3, .int .u32 b4, .int .u32 b5, .int .u32 b6, .int .u32 b7, .int .i64 b8])).run Try.prog w = .ok ((a0 == b0) && ((a1 == b1) && ((a2 == b2) && ((a3 == b3) && ((a4 == b4) && ((a5 == b5) && ((a6 == b6) && ((a7 == b7) && ((a8 == b8)))))))))) w := by
  show (Op.equalIn 10000 65 (.agg #[.int .i64 a0, .int .i64 a1, .int .u32 a2, .int .u32 a3, .int .u32 a4, .int .u32 a5, .int .u32 a6, .int .u32 a7, .int .i64 a8]) (.agg #[.int .i64 b0, .int .i64 b1, .int .u32 b2, .int .u32 b3, .int .u32 b4, .int .u32 b5, .int .u32 b6, .int .u32 b7, .int .i64 b8])).run Try.prog w = _
  cases h0 : (a0 == b0) with
  | false => go_simp <;> simp [h0]
  | true =>
    cases h1 : (a1 == b1) with
    | false => go_simp <;> simp [h0, h1]
    | true =>
      cases h2 : (a2 == b2) with
      | false => go_simp <;> simp [h0, h1, h2]
      | true =>
        cases h3 : (a3 == b3) with
        | false => go_simp <;> simp [h0, h1, h2, h3]
        | true =>
          cases h4 : (a4 == b4) with
          | false => go_simp <;> simp [h0, h1, h2, h3, h4]
          | true =>
            cases h5 : (a5 == b5) with
            | false => go_simp <;> simp [h0, h1, h2, h3, h4, h5]
            | true =>
              cases h6 : (a6 == b6) with
              | false => go_simp <;> simp [h0, h1, h2, h3, h4, h5, h6]
              | true =>
                cases h7 : (a7 == b7) with
                | false => go_simp <;> simp [h0, h1, h2, h3, h4, h5, h6, h7]
                | true =>
                  cases h8 : (a8 == b8) with
                  | false => go_simp <;> simp [h0, h1, h2, h3, h4, h5, h6, h7, h8]
                  | true =>
                    go_simp <;> simp [h0, h1, h2, h3, h4, h5, h6, h7, h8]
theorem eqok_run : EqOK Try.prog 65 [some (some .i64), some (some .i64), some (some .u32), some (some .u32), some (some .u32), some (some .u32), some (some .u32), some (some .u32), some (some .i64)] := by
  refine ⟨by kernel_rfl, fun us0 vs0 w p0 q0 => ?_⟩
  obtain ⟨a0, us1, rfl, p1⟩ := sh_int p0
  obtain ⟨b0, vs1, rfl, q1⟩ := sh_int q0
  obtain ⟨a1, us2, rfl, p2⟩ := sh_int p1
  obtain ⟨b1, vs2, rfl, q2⟩ := sh_int q1
  obtain ⟨a2, us3, rfl, p3⟩ := sh_int p2
  obtain ⟨b2, vs3, rfl, q3⟩ := sh_int q2
  obtain ⟨a3, us4, rfl, p4⟩ := sh_int p3
  obtain ⟨b3, vs4, rfl, q4⟩ := sh_int q3
  obtain ⟨a4, us5, rfl, p5⟩ := sh_int p4
  obtain ⟨b4, vs5, rfl, q5⟩ := sh_int q4
  obtain ⟨a5, us6, rfl, p6⟩ := sh_int p5
  obtain ⟨b5, vs6, rfl, q6⟩ := sh_int q5
  obtain ⟨a6, us7, rfl, p7⟩ := sh_int p6
  obtain ⟨b6, vs7, rfl, q7⟩ := sh_int q6
  obtain ⟨a7, us8, rfl, p8⟩ := sh_int p7
  obtain ⟨b7, vs8, rfl, q8⟩ := sh_int q7
  obtain ⟨a8, us9, rfl, p9⟩ := sh_int p8
  obtain ⟨b8, vs9, rfl, q9⟩ := sh_int q8
  obtain rfl := sh_nil p9
  obtain rfl := sh_nil q9
  rw [eqr_run]
  simp [eqVs, eqV]
end Go.Proofs.Ytgkfbikffcmmdaa.Abs
