/-
  NARROWER THAN 'FOR EVERY INPUT', by the rows' own cells (each row's printed sentence says how): KsoDoes: laid · KsoKeeps: laid.
  DERIVED. THE GIVEN ROWS OF THIS SEAT. 2 by the template 'for every input the law returns true; each argument reads behind the call as it read before'; 0 by the template 'total and deterministic' (their statements: YthfhhciogimhjaaGreatDoorTotals.lean).
  GIVEN WITH THE SEED: the statements are not yours to turn. If you find one false, say at which input.
  Laid BY PROGRAM, IN A SANDBOX (cutbox-rows.mjs): the forced cells as the released guide's own fill.sh prints them over the translation 4c026f9c40c6fccf… (all of the seat's roots in one cut). By AI agents, Wed Nov 11 2026. No macro, syntax, notation, axiom, sorry.
-/
import Derived.Test.YthfhhciogimhjaaGreatDoorChecked
import GoSem.Claim
import GoSem.ClaimJoined
import GoSem.ClaimMapViews
import Derived.JoinedTies
import Derived.KernelRfl
namespace Go.Proofs.YthfhhciogimhjaaGreatDoor
/- THE CELL 'sum', in the pinned program and in every row, IS THE sha256 OF THE DUMP (.gsa) THAT YthfhhciogimhjaaGreatDoorProg.lean LOADS. Nothing in Lean hashes anything: it is a label: what it is worth is what the hold of that sum in a sandbox is worth. -/
noncomputable def Tryz.pinned : Pinned := { name := "ythfhhciogimhjaagreatdoor", sum := "4c026f9c40c6fccf976e63b83644af571f3dc83efb7ad7989fdd586bb3e64f41", checked := Tryz.checked }
namespace Rows
def none {H : Type} : Left H := { results := [], args := [] }

/- WHAT THE LISTED PACKAGE-LEVEL VARIABLES READ AS WHEN THE CALL BEGINS. Each datum BY PROGRAM (the guide's laid-datum.mjs) off the statement by which the dump's own 'gosem.cut.vars' lays the variable. In a bare row this is a premise. The card (YthfhhciogimhjaaGreatDoorCards.lean) ties it to the program's text. -/
def laid_chamberlain_msg_masks {H : Type} : DataW H := .agg [.lit (.int .u32 0), .lit (.int .u32 56), .lit (.int .u32 64), .lit (.int .u32 64), .lit (.int .u32 64), .lit (.int .u32 64), .lit (.int .u32 92), .lit (.int .u32 220), .lit (.int .u32 196), .lit (.int .u32 68)]

/-- 'chamberlainlaw14.KsoDoes': WHATEVER THE INPUT: true; the input reads as it did. -/
def ksoDoesSpec : ChangeSpec := { name := "ksoDoes", fn := fun _ => fun
  | [d1, d2] => { results := [.lit (.bool true)], args := [d1, d2] }
  | _ => none }
def ksoDoesRow : OpenClaim := { program := "ythfhhciogimhjaagreatdoor", sum := "4c026f9c40c6fccf976e63b83644af571f3dc83efb7ad7989fdd586bb3e64f41", func := "chamberlain/chamberlainlaw14.KsoDoes", spec := "ksoDoes", unfollowed := true, recurses := true, named := ["chamberlain/msg.masks"], apart := false, laid := [("chamberlain/msg.masks", laid_chamberlain_msg_masks)] }
def KsoDoesSaid : Prop := ksoDoesRow.holds Tryz.pinned (OpenSpec.ofChange ksoDoesSpec)

/-- ITS FALSE NEIGHBOUR: 'it returns false'. Refute it at one input. -/
def ksoDoesWrong : ChangeSpec := { name := "ksoDoes", fn := fun _ => fun
  | [d1, d2] => { results := [.lit (.bool false)], args := [d1, d2] }
  | _ => none }
def KsoDoesWrongFalsely : Prop := ksoDoesRow.holds Tryz.pinned (OpenSpec.ofChange ksoDoesWrong)

/-- 'chamberlainlaw14.KsoKeeps': WHATEVER THE INPUT: true; the input reads as it did. -/
def ksoKeepsSpec : ChangeSpec := { name := "ksoKeeps", fn := fun _ => fun
  | [d1, d2] => { results := [.lit (.bool true)], args := [d1, d2] }
  | _ => none }
def ksoKeepsRow : OpenClaim := { program := "ythfhhciogimhjaagreatdoor", sum := "4c026f9c40c6fccf976e63b83644af571f3dc83efb7ad7989fdd586bb3e64f41", func := "chamberlain/chamberlainlaw14.KsoKeeps", spec := "ksoKeeps", unfollowed := true, recurses := true, named := ["chamberlain/msg.masks"], apart := false, laid := [("chamberlain/msg.masks", laid_chamberlain_msg_masks)] }
def KsoKeepsSaid : Prop := ksoKeepsRow.holds Tryz.pinned (OpenSpec.ofChange ksoKeepsSpec)

/-- ITS FALSE NEIGHBOUR: 'it returns false'. Refute it at one input. -/
def ksoKeepsWrong : ChangeSpec := { name := "ksoKeeps", fn := fun _ => fun
  | [d1, d2] => { results := [.lit (.bool false)], args := [d1, d2] }
  | _ => none }
def KsoKeepsWrongFalsely : Prop := ksoKeepsRow.holds Tryz.pinned (OpenSpec.ofChange ksoKeepsWrong)

/- THE SECOND FORM. 'bulk': how many values and letters a reading holds, each counted each time it is reached (what is shared counts as often as it is met; a slice's spare places count too). A statement '..UptoSaid' is the law's where the arguments, and the package variables that the reading takes, are together of bulk at most 1048576: NARROWER than '..Said'. Prove '..Said' where nothing that the law and all that it calls make is longer than what came in: it says more and counts as full. Else prove '..UptoSaid'. A law counts once. -/
mutual
def uptoBulk {H : Type} : DataW H → Nat
  | .lit (.string bytes) => bytes.length + 1
  | .lit _ => 1
  | .nil => 1
  | .ptr d => uptoBulk d + 1
  | .slice elems spare => uptoBulkAll elems + uptoBulkAll spare + 1
  | .agg parts => uptoBulkAll parts + 1
  | .iface _ d => uptoBulk d + 1
  | .map entries => uptoBulkEntries entries + 1
  | .held _ => 1
def uptoBulkAll {H : Type} : List (DataW H) → Nat
  | [] => 0
  | d :: r => uptoBulk d + uptoBulkAll r
def uptoBulkEntries {H : Type} : List (Lit × DataW H) → Nat
  | [] => 0
  | x :: r => uptoBulkEntry x + uptoBulkEntries r
def uptoBulkEntry {H : Type} : Lit × DataW H → Nat
  | (.string bytes, d) => bytes.length + uptoBulk d + 1
  | (_, d) => uptoBulk d + 1
 end
def uptoSmall : (H : Type) → List (DataW H) → Bool := fun _ ds => decide (uptoBulkAll ds ≤ 1048576)
def OpenSpec.upto (s : _root_.Go.ChangeSpec) : _root_.Go.OpenSpec := { _root_.Go.OpenSpec.ofChange s with cond := some uptoSmall }

/-- 'chamberlainlaw14.KsoDoes', WHERE WHAT IT READS IS OF BULK AT MOST 1048576: true; the input reads as it did. -/
def ksoDoesUptoRow : OpenClaim := { program := "ythfhhciogimhjaagreatdoor", sum := "4c026f9c40c6fccf976e63b83644af571f3dc83efb7ad7989fdd586bb3e64f41", func := "chamberlain/chamberlainlaw14.KsoDoes", spec := "ksoDoes", unfollowed := true, recurses := true, named := ["chamberlain/msg.masks"], apart := false, laid := [("chamberlain/msg.masks", laid_chamberlain_msg_masks)], narrowed := true }
def KsoDoesUptoSaid : Prop := ksoDoesUptoRow.holds Tryz.pinned (OpenSpec.upto ksoDoesSpec)

/-- 'chamberlainlaw14.KsoKeeps', WHERE WHAT IT READS IS OF BULK AT MOST 1048576: true; the input reads as it did. -/
def ksoKeepsUptoRow : OpenClaim := { program := "ythfhhciogimhjaagreatdoor", sum := "4c026f9c40c6fccf976e63b83644af571f3dc83efb7ad7989fdd586bb3e64f41", func := "chamberlain/chamberlainlaw14.KsoKeeps", spec := "ksoKeeps", unfollowed := true, recurses := true, named := ["chamberlain/msg.masks"], apart := false, laid := [("chamberlain/msg.masks", laid_chamberlain_msg_masks)], narrowed := true }
def KsoKeepsUptoSaid : Prop := ksoKeepsUptoRow.holds Tryz.pinned (OpenSpec.upto ksoKeepsSpec)

end Rows
end Go.Proofs.YthfhhciogimhjaaGreatDoor
