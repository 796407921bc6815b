/-
  NARROWER THAN 'FOR EVERY INPUT', by the rows' own cells (each row's printed sentence says how): NsaStarts: laid · NsaGrants: laid · NsaEchoes: laid · NsaWaits: laid · NsaKeeps: laid.
  DERIVED. THE GIVEN ROWS OF THIS SEAT. 5 by the template 'for every input the law returns true; each argument reads behind the call as it read before'; 0 by the template 'total and deterministic' (their statements: YtpbgmfgmnnclaaaGreatDoorTotals.lean).
  GIVEN WITH THE SEED: the statements are not yours to turn. If you find one false, say at which input.
  Laid BY PROGRAM, IN A SANDBOX (cutbox-rows.mjs): the forced cells as the released guide's own fill.sh prints them over the translation 43c6c3c1293037ce… (all of the seat's roots in one cut). By AI agents, Wed Nov 11 2026. No macro, syntax, notation, axiom, sorry.
-/
import Derived.Test.YtpbgmfgmnnclaaaGreatDoorChecked
import GoSem.Claim
import GoSem.ClaimJoined
import GoSem.ClaimMapViews
import Derived.JoinedTies
import Derived.KernelRfl
namespace Go.Proofs.YtpbgmfgmnnclaaaGreatDoor
/- THE CELL 'sum', in the pinned program and in every row, IS THE sha256 OF THE DUMP (.gsa) THAT YtpbgmfgmnnclaaaGreatDoorProg.lean LOADS. Nothing in Lean hashes anything: it is a label: what it is worth is what the hold of that sum in a sandbox is worth. -/
noncomputable def Tryz.pinned : Pinned := { name := "ytpbgmfgmnnclaaagreatdoor", sum := "43c6c3c1293037cea4bf1cb3d75277a065407999e55390bbd986fdf016bb137c", checked := Tryz.checked }
namespace Rows
def none {H : Type} : Left H := { results := [], args := [] }

/- WHAT THE LISTED PACKAGE-LEVEL VARIABLES READ AS WHEN THE CALL BEGINS. Each datum BY PROGRAM (the guide's laid-datum.mjs) off the statement by which the dump's own 'gosem.cut.vars' lays the variable. In a bare row this is a premise. The card (YtpbgmfgmnnclaaaGreatDoorCards.lean) ties it to the program's text. -/
def laid_chamberlain_msg_masks {H : Type} : DataW H := .agg [.lit (.int .u32 0), .lit (.int .u32 56), .lit (.int .u32 64), .lit (.int .u32 64), .lit (.int .u32 64), .lit (.int .u32 64), .lit (.int .u32 92), .lit (.int .u32 220), .lit (.int .u32 196), .lit (.int .u32 68)]

/-- 'chamberlainlaw15.NsaStarts': WHATEVER THE INPUT: true; the input reads as it did. -/
def nsaStartsSpec : ChangeSpec := { name := "nsaStarts", fn := fun _ => fun
  | [d1, d2, d3] => { results := [.lit (.bool true)], args := [d1, d2, d3] }
  | _ => none }
def nsaStartsRow : OpenClaim := { program := "ytpbgmfgmnnclaaagreatdoor", sum := "43c6c3c1293037cea4bf1cb3d75277a065407999e55390bbd986fdf016bb137c", func := "chamberlain/chamberlainlaw15.NsaStarts", spec := "nsaStarts", unfollowed := true, recurses := true, named := ["chamberlain/msg.masks"], apart := false, laid := [("chamberlain/msg.masks", laid_chamberlain_msg_masks)] }
def NsaStartsSaid : Prop := nsaStartsRow.holds Tryz.pinned (OpenSpec.ofChange nsaStartsSpec)

/-- ITS FALSE NEIGHBOUR: 'it returns false'. Refute it at one input. -/
def nsaStartsWrong : ChangeSpec := { name := "nsaStarts", fn := fun _ => fun
  | [d1, d2, d3] => { results := [.lit (.bool false)], args := [d1, d2, d3] }
  | _ => none }
def NsaStartsWrongFalsely : Prop := nsaStartsRow.holds Tryz.pinned (OpenSpec.ofChange nsaStartsWrong)

/-- 'chamberlainlaw15.NsaGrants': WHATEVER THE INPUT: true; the input reads as it did. -/
def nsaGrantsSpec : ChangeSpec := { name := "nsaGrants", fn := fun _ => fun
  | [d1, d2, d3] => { results := [.lit (.bool true)], args := [d1, d2, d3] }
  | _ => none }
def nsaGrantsRow : OpenClaim := { program := "ytpbgmfgmnnclaaagreatdoor", sum := "43c6c3c1293037cea4bf1cb3d75277a065407999e55390bbd986fdf016bb137c", func := "chamberlain/chamberlainlaw15.NsaGrants", spec := "nsaGrants", unfollowed := true, recurses := true, named := ["chamberlain/msg.masks"], apart := false, laid := [("chamberlain/msg.masks", laid_chamberlain_msg_masks)] }
def NsaGrantsSaid : Prop := nsaGrantsRow.holds Tryz.pinned (OpenSpec.ofChange nsaGrantsSpec)

/-- ITS FALSE NEIGHBOUR: 'it returns false'. Refute it at one input. -/
def nsaGrantsWrong : ChangeSpec := { name := "nsaGrants", fn := fun _ => fun
  | [d1, d2, d3] => { results := [.lit (.bool false)], args := [d1, d2, d3] }
  | _ => none }
def NsaGrantsWrongFalsely : Prop := nsaGrantsRow.holds Tryz.pinned (OpenSpec.ofChange nsaGrantsWrong)

/-- 'chamberlainlaw15.NsaEchoes': WHATEVER THE INPUT: true; the input reads as it did. -/
def nsaEchoesSpec : ChangeSpec := { name := "nsaEchoes", fn := fun _ => fun
  | [d1, d2, d3] => { results := [.lit (.bool true)], args := [d1, d2, d3] }
  | _ => none }
def nsaEchoesRow : OpenClaim := { program := "ytpbgmfgmnnclaaagreatdoor", sum := "43c6c3c1293037cea4bf1cb3d75277a065407999e55390bbd986fdf016bb137c", func := "chamberlain/chamberlainlaw15.NsaEchoes", spec := "nsaEchoes", unfollowed := true, recurses := true, named := ["chamberlain/msg.masks"], apart := false, laid := [("chamberlain/msg.masks", laid_chamberlain_msg_masks)] }
def NsaEchoesSaid : Prop := nsaEchoesRow.holds Tryz.pinned (OpenSpec.ofChange nsaEchoesSpec)

/-- ITS FALSE NEIGHBOUR: 'it returns false'. Refute it at one input. -/
def nsaEchoesWrong : ChangeSpec := { name := "nsaEchoes", fn := fun _ => fun
  | [d1, d2, d3] => { results := [.lit (.bool false)], args := [d1, d2, d3] }
  | _ => none }
def NsaEchoesWrongFalsely : Prop := nsaEchoesRow.holds Tryz.pinned (OpenSpec.ofChange nsaEchoesWrong)

/-- 'chamberlainlaw15.NsaWaits': WHATEVER THE INPUT: true; the input reads as it did. -/
def nsaWaitsSpec : ChangeSpec := { name := "nsaWaits", fn := fun _ => fun
  | [d1, d2, d3, d4, d5] => { results := [.lit (.bool true)], args := [d1, d2, d3, d4, d5] }
  | _ => none }
def nsaWaitsRow : OpenClaim := { program := "ytpbgmfgmnnclaaagreatdoor", sum := "43c6c3c1293037cea4bf1cb3d75277a065407999e55390bbd986fdf016bb137c", func := "chamberlain/chamberlainlaw15.NsaWaits", spec := "nsaWaits", unfollowed := true, recurses := true, named := ["chamberlain/msg.masks"], apart := false, laid := [("chamberlain/msg.masks", laid_chamberlain_msg_masks)] }
def NsaWaitsSaid : Prop := nsaWaitsRow.holds Tryz.pinned (OpenSpec.ofChange nsaWaitsSpec)

/-- ITS FALSE NEIGHBOUR: 'it returns false'. Refute it at one input. -/
def nsaWaitsWrong : ChangeSpec := { name := "nsaWaits", fn := fun _ => fun
  | [d1, d2, d3, d4, d5] => { results := [.lit (.bool false)], args := [d1, d2, d3, d4, d5] }
  | _ => none }
def NsaWaitsWrongFalsely : Prop := nsaWaitsRow.holds Tryz.pinned (OpenSpec.ofChange nsaWaitsWrong)

/-- 'chamberlainlaw15.NsaKeeps': WHATEVER THE INPUT: true; the input reads as it did. -/
def nsaKeepsSpec : ChangeSpec := { name := "nsaKeeps", fn := fun _ => fun
  | [d1, d2, d3, d4, d5] => { results := [.lit (.bool true)], args := [d1, d2, d3, d4, d5] }
  | _ => none }
def nsaKeepsRow : OpenClaim := { program := "ytpbgmfgmnnclaaagreatdoor", sum := "43c6c3c1293037cea4bf1cb3d75277a065407999e55390bbd986fdf016bb137c", func := "chamberlain/chamberlainlaw15.NsaKeeps", spec := "nsaKeeps", unfollowed := true, recurses := true, named := ["chamberlain/msg.masks"], apart := false, laid := [("chamberlain/msg.masks", laid_chamberlain_msg_masks)] }
def NsaKeepsSaid : Prop := nsaKeepsRow.holds Tryz.pinned (OpenSpec.ofChange nsaKeepsSpec)

/-- ITS FALSE NEIGHBOUR: 'it returns false'. Refute it at one input. -/
def nsaKeepsWrong : ChangeSpec := { name := "nsaKeeps", fn := fun _ => fun
  | [d1, d2, d3, d4, d5] => { results := [.lit (.bool false)], args := [d1, d2, d3, d4, d5] }
  | _ => none }
def NsaKeepsWrongFalsely : Prop := nsaKeepsRow.holds Tryz.pinned (OpenSpec.ofChange nsaKeepsWrong)

/- THE SECOND FORM. 'bulk': how many values and letters a reading holds, each counted each time it is reached (what is shared counts as often as it is met; a slice's spare places count too). A statement '..UptoSaid' is the law's where the arguments, and the package variables that the reading takes, are together of bulk at most 1048576: NARROWER than '..Said'. Prove '..Said' where nothing that the law and all that it calls make is longer than what came in: it says more and counts as full. Else prove '..UptoSaid'. A law counts once. -/
mutual
def uptoBulk {H : Type} : DataW H → Nat
  | .lit (.string bytes) => bytes.length + 1
  | .lit _ => 1
  | .nil => 1
  | .ptr d => uptoBulk d + 1
  | .slice elems spare => uptoBulkAll elems + uptoBulkAll spare + 1
  | .agg parts => uptoBulkAll parts + 1
  | .iface _ d => uptoBulk d + 1
  | .map entries => uptoBulkEntries entries + 1
  | .held _ => 1
def uptoBulkAll {H : Type} : List (DataW H) → Nat
  | [] => 0
  | d :: r => uptoBulk d + uptoBulkAll r
def uptoBulkEntries {H : Type} : List (Lit × DataW H) → Nat
  | [] => 0
  | x :: r => uptoBulkEntry x + uptoBulkEntries r
def uptoBulkEntry {H : Type} : Lit × DataW H → Nat
  | (.string bytes, d) => bytes.length + uptoBulk d + 1
  | (_, d) => uptoBulk d + 1
 end
def uptoSmall : (H : Type) → List (DataW H) → Bool := fun _ ds => decide (uptoBulkAll ds ≤ 1048576)
def OpenSpec.upto (s : _root_.Go.ChangeSpec) : _root_.Go.OpenSpec := { _root_.Go.OpenSpec.ofChange s with cond := some uptoSmall }

/-- 'chamberlainlaw15.NsaStarts', WHERE WHAT IT READS IS OF BULK AT MOST 1048576: true; the input reads as it did. -/
def nsaStartsUptoRow : OpenClaim := { program := "ytpbgmfgmnnclaaagreatdoor", sum := "43c6c3c1293037cea4bf1cb3d75277a065407999e55390bbd986fdf016bb137c", func := "chamberlain/chamberlainlaw15.NsaStarts", spec := "nsaStarts", unfollowed := true, recurses := true, named := ["chamberlain/msg.masks"], apart := false, laid := [("chamberlain/msg.masks", laid_chamberlain_msg_masks)], narrowed := true }
def NsaStartsUptoSaid : Prop := nsaStartsUptoRow.holds Tryz.pinned (OpenSpec.upto nsaStartsSpec)

/-- 'chamberlainlaw15.NsaGrants', WHERE WHAT IT READS IS OF BULK AT MOST 1048576: true; the input reads as it did. -/
def nsaGrantsUptoRow : OpenClaim := { program := "ytpbgmfgmnnclaaagreatdoor", sum := "43c6c3c1293037cea4bf1cb3d75277a065407999e55390bbd986fdf016bb137c", func := "chamberlain/chamberlainlaw15.NsaGrants", spec := "nsaGrants", unfollowed := true, recurses := true, named := ["chamberlain/msg.masks"], apart := false, laid := [("chamberlain/msg.masks", laid_chamberlain_msg_masks)], narrowed := true }
def NsaGrantsUptoSaid : Prop := nsaGrantsUptoRow.holds Tryz.pinned (OpenSpec.upto nsaGrantsSpec)

/-- 'chamberlainlaw15.NsaEchoes', WHERE WHAT IT READS IS OF BULK AT MOST 1048576: true; the input reads as it did. -/
def nsaEchoesUptoRow : OpenClaim := { program := "ytpbgmfgmnnclaaagreatdoor", sum := "43c6c3c1293037cea4bf1cb3d75277a065407999e55390bbd986fdf016bb137c", func := "chamberlain/chamberlainlaw15.NsaEchoes", spec := "nsaEchoes", unfollowed := true, recurses := true, named := ["chamberlain/msg.masks"], apart := false, laid := [("chamberlain/msg.masks", laid_chamberlain_msg_masks)], narrowed := true }
def NsaEchoesUptoSaid : Prop := nsaEchoesUptoRow.holds Tryz.pinned (OpenSpec.upto nsaEchoesSpec)

/-- 'chamberlainlaw15.NsaWaits', WHERE WHAT IT READS IS OF BULK AT MOST 1048576: true; the input reads as it did. -/
def nsaWaitsUptoRow : OpenClaim := { program := "ytpbgmfgmnnclaaagreatdoor", sum := "43c6c3c1293037cea4bf1cb3d75277a065407999e55390bbd986fdf016bb137c", func := "chamberlain/chamberlainlaw15.NsaWaits", spec := "nsaWaits", unfollowed := true, recurses := true, named := ["chamberlain/msg.masks"], apart := false, laid := [("chamberlain/msg.masks", laid_chamberlain_msg_masks)], narrowed := true }
def NsaWaitsUptoSaid : Prop := nsaWaitsUptoRow.holds Tryz.pinned (OpenSpec.upto nsaWaitsSpec)

/-- 'chamberlainlaw15.NsaKeeps', WHERE WHAT IT READS IS OF BULK AT MOST 1048576: true; the input reads as it did. -/
def nsaKeepsUptoRow : OpenClaim := { program := "ytpbgmfgmnnclaaagreatdoor", sum := "43c6c3c1293037cea4bf1cb3d75277a065407999e55390bbd986fdf016bb137c", func := "chamberlain/chamberlainlaw15.NsaKeeps", spec := "nsaKeeps", unfollowed := true, recurses := true, named := ["chamberlain/msg.masks"], apart := false, laid := [("chamberlain/msg.masks", laid_chamberlain_msg_masks)], narrowed := true }
def NsaKeepsUptoSaid : Prop := nsaKeepsUptoRow.holds Tryz.pinned (OpenSpec.upto nsaKeepsSpec)

end Rows
end Go.Proofs.YtpbgmfgmnnclaaaGreatDoor
