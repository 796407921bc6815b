/- The statement MsgPuts: the walk of MsgPuts carried to the given row, and the card closed by the given tie. No condition is added; what the row lists of msg.masks the card ties to the text of the program. -/
import Derived.Test.YthpcnekidlhfpaaDoorMsgPuts
import Derived.Test.YthpcnekidlhfpaaDoorLaid
import Derived.Test.YthpcnekidlhfpaaDoorCards
import Derived.Test.YthpcnekidlhfpaaDoorTie
import Derived.SevenTiedAt
namespace Go.Proofs.YthpcnekidlhfpaaDoor.msgPuts
open Go.ChangeShapes Go.WideShapes Go.ChangeAt Go.RowKit
set_option linter.unusedVariables false
set_option maxRecDepth 100000 in
theorem lifted (os : Os) (started : os.Started) (H : Type) (enc : TypeId × Value → H) :
    ReturnsInHanded {} Tryd.checked os 3 .any (fun w args => (Rows.msgPutsSpec.pre enc Tryd.prog Tryd.f3 Rows.msgPutsRow.domain false w args ∧ laidMet Tryd.prog [("chamberlain/msg.masks", Rows.laid_chamberlain_msg_masks)] w) ∧ sizedMet enc Tryd.prog Tryd.f3 (OpenSpec.ofChange Rows.msgPutsSpec) false w args)
      (Rows.msgPutsSpec.post enc Tryd.prog Tryd.f3 false true false false) := by
  refine returnsInHanded_of_change_and (C := Tryd.checked) (X := (fun w _ => laidMet Tryd.prog [("chamberlain/msg.masks", Rows.laid_chamberlain_msg_masks)] w)) (fun _ _ _ hh h => h.of_heap hh) own started (by kernel_rfl) Tryd.func3
    (ChangeSpec.witness_at (enc := enc) (C := Tryd.checked) (os := os) (X := (fun w _ => laidMet Tryd.prog [("chamberlain/msg.masks", Rows.laid_chamberlain_msg_masks)] w)) false (laidWorld os) #[.agg #[.int .u32 0, .int .u32 0, .int .u32 0, .int .u32 0, .int .u32 0, .int .u32 0, .int .u32 0]] 8 rfl (by kernel_rfl) (by kernel_rfl) (by kernel_rfl) (by kernel_rfl) (by kernel_rfl) (laidWorld_met os _)) ?_
  intro W base args ds gs before hval0 hW hcnd _ hL _
  have hMK := masks_of_laid hL
  have hval : ∀ (j : Nat) t v, Tryd.f3.params[j]? = some t → args[j]? = some v → Value.okWide Tryd.prog W .any base t v := hval0
  have hW' := hW
  obtain ⟨p, q, hA0, hV, rfl, hfz, hnd⟩ := hW
  have hA : DataW.TrodAll enc Tryd.prog W 0 (fun _ => true) true Tryd.f3.params.toList args.toList ds p := hA0
  rw [Tryd.params3] at hA hval
  obtain ⟨v0, vs0, d0, ds0, p0, q0, hargs, rfl, rfl, h0, r0⟩ := trodAll_cons hA
  obtain ⟨rfl, rfl, rfl⟩ := trodAll_nil r0
  obtain rfl : args = #[v0] := by cases args; simp_all
  obtain ⟨rfl, rfl⟩ := trodVars_none hV
  obtain ⟨m0, rfl, rfl, rfl, w0_0, w0_1, w0_2, w0_3, w0_4, w0_5, w0_6⟩ := open_msg h0
  clear hA0 hval0
  refine (walk W m0 w0_0 w0_1 w0_2 w0_3 w0_4 w0_5 w0_6 hMK).mono fun e W' ⟨he, bel⟩ => ?_
  subst he
  exact ⟨_, rfl, _, _, _, [], _, [], hW', trodAll_mk1 (shut_bool Tryd.underlying4 _), (trodAll_cons_mk (shut_msg m0 w0_0 w0_1 w0_2 w0_3 w0_4 w0_5 w0_6) trodAll_mk0), rfl, bel.frame _, fun h => by cases h⟩

theorem over : Rows.MsgPutsSaid :=
  OpenClaim.holds_of_wide 3 Tryd.f3 rfl rfl rfl rfl rfl rfl rfl ⟨rfl, rfl, rfl, rfl, rfl⟩ rfl rfl rfl rfl rfl (by kernel_rfl) Tryd.func3 (by kernel_rfl)
    (of_decide_eq_true (by kernel_rfl)) (by unfold Func.isWrapper; first | (rw [if_pos (by decide +kernel)]; kernel_rfl) | (rw [if_neg (by decide +kernel)]; exact ⟨rfl, rfl⟩))
    (fun os started H enc _ => lifted os started H enc)

theorem proved : Rows.MsgPutsCardSaid :=
  Claim7.holds_tied_plain_at .later [] [.data] true Rows.msgPutsCard.stood.harness false
    over (fun _ h => by cases h) (by kernel_rfl) (fun _ h => by cases h) msgPuts_row_tie rfl ⟨rfl, rfl⟩ (by kernel_rfl) rfl
    (fun f fn hf hfn => by
      obtain rfl : f = 3 := Option.some.inj ((show Tryd.prog.funcNamed "chamberlain/chamberlainlaw03.MsgPuts" = some 3 by kernel_rfl).symm.trans hf) |>.symm
      obtain rfl : fn = Tryd.f3 := (Option.some.inj (Tryd.func3.symm.trans hfn)).symm
      exact ⟨by kernel_rfl, fun j t ht => by
        rw [Tryd.params3] at ht
        have h3 : Tryd.prog.wantsStandIn t = false := by
          (rcases j with _ | _ | _ | _ | _ | _ | j) <;> simp at ht <;> (try subst ht) <;> (first | kernel_rfl | (exfalso; exact ht) | skip)
        exact h3⟩)
    (by kernel_rfl)
#print axioms proved
end Go.Proofs.YthpcnekidlhfpaaDoor.msgPuts
