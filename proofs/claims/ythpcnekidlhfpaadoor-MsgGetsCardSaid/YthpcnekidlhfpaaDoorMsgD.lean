/- The contracts of layer msg's Put and May. -/
import Derived.Test.YthpcnekidlhfpaaDoorMsgC
namespace Go.Proofs.YthpcnekidlhfpaaDoor
open Go.RowKit

def putL (m : M7) : List Int := if mayM m then putM m else []
def putE (m : M7) : Int := if mayM m then 0 else 1
theorem nil_row (w : World) : Ints .u32 w (.slice none 0 0) [] ∧ Typed 22 w (.slice none 0 0) ∧ From w.heap.size (.slice none 0 0) := ⟨Ints.nil _ _, Typed.nil _ _ _ _, From.nil _ _ _⟩
theorem mmay_any (m : M7) (w : World) (hm : Masks w) :
    Calls Tryd.prog 11 #[.agg #[.int .u32 m.kind, .int .u32 m.run, .int .u32 m.a, .int .u32 m.b, .int .u32 m.nonce, .int .u32 m.box, .int .u32 m.more]] w fun e w' => e = .returned (.bool (mayM m)) ∧ Below w.heap.size w w' := by
  by_cases hk : isKindB m.kind = true
  · exact mmay_kind m w hk hm
  · have hk' : isKindB m.kind = false := by simpa using hk
    rw [mayM_noKind hk']
    exact mmay_noKind m w hk'
set_option maxHeartbeats 1000000 in
theorem mput_no (m : M7) (w : World) (hm : Masks w) (h : mayM m = false) :
    Calls Tryd.prog 9 #[.agg #[.int .u32 m.kind, .int .u32 m.run, .int .u32 m.a, .int .u32 m.b, .int .u32 m.nonce, .int .u32 m.box, .int .u32 m.more]] w (RowGives [] 1 w) := by
  have H := Lib.hid h; have HM := Lib.hid hm; clear h hm
  go_enter Tryd.func9, Tryd.ntmps9
  go_wp2_with fail
  refine (mmay_any m _ (HM.out.alloc _)).mono ?_
  rintro e w1 ⟨rfl, hb1⟩
  rw [H.out]
  have hb : Below w.heap.size w w1 := ((Below.refl _ _).alloc (Nat.le_refl _) _).trans (hb1.mono (by simp))
  go_wp2_with fail
  go_ret2
  exact ⟨_, rfl, (nil_row _).1, (nil_row _).2.1, From.nil _ _ _, hb⟩
set_option maxHeartbeats 1000000 in
theorem mput_yes (m : M7) (w : World) (hm : Masks w) (h : mayM m = true) :
    Calls Tryd.prog 9 #[.agg #[.int .u32 m.kind, .int .u32 m.run, .int .u32 m.a, .int .u32 m.b, .int .u32 m.nonce, .int .u32 m.box, .int .u32 m.more]] w (RowGives (putM m) 0 w) := by
  have H := Lib.hid h; have HM := Lib.hid hm; clear h hm
  go_enter Tryd.func9, Tryd.ntmps9
  go_wp2_with fail
  refine (mmay_any m _ (HM.out.alloc _)).mono ?_
  rintro e w1 ⟨rfl, hb1⟩
  rw [H.out]
  have hb : Below w.heap.size w w1 := ((Below.refl _ _).alloc (Nat.le_refl _) _).trans (hb1.mono (by simp))
  obtain ⟨hc, hz⟩ := bcell hb1
  have hsz : w.heap.size < w1.heap.size := by have := hb1.size; simp at this; omega
  go_wp2_with fail
  refine (fieldsOf_any m _ (mayM_kind H.out) (HM.out.below hb)).mono ?_
  rintro e w2 ⟨u, rfl, hu, hb2⟩
  have hlen := putM_length m
  have hkt := kindTags_len m.kind
  have hfl := fieldsM_len m
  have hw : (flatF (fieldsM m)).length ≤ 64 := by show (putM m).length ≤ 64; omega
  have HF := Lib.hid hu.flds
  have HW := Lib.hid hw
  have hb' : Below w.heap.size w w2 := hb.trans (hb2.mono hb.size)
  clear hu hlen hkt hw
  go_wp2_with fail
  refine (wput_any _ (fieldsM m) _ HF.out (by simp [fieldsM]) (by omega) HW.out (okF_fieldsM m)).mono ?_
  rintro e w3 ⟨u3, rfl, h1, h2, h3, h4⟩
  have H1 := Lib.hid h1; have H2 := Lib.hid h2; have H3 := Lib.hid h3; have H4 := Lib.hid h4
  clear h1 h2 h3 h4
  go_wp2_with fail
  go_ret2
  exact ⟨u3, rfl, H1.out, H2.out, H3.out.mono hb'.size, hb'.trans (H4.out.mono hb'.size)⟩
/-- What Put answers of whatever message. -/
theorem mput_any (m : M7) (w : World) (hm : Masks w) :
    Calls Tryd.prog 9 #[.agg #[.int .u32 m.kind, .int .u32 m.run, .int .u32 m.a, .int .u32 m.b, .int .u32 m.nonce, .int .u32 m.box, .int .u32 m.more]] w (RowGives (putL m) (putE m) w) := by
  by_cases h : mayM m = true
  · unfold putL putE; rw [if_pos h, if_pos h]; exact mput_yes m w hm h
  · unfold putL putE; rw [if_neg h, if_neg h]; exact mput_no m w hm (by simpa using h)
end Go.Proofs.YthpcnekidlhfpaaDoor
