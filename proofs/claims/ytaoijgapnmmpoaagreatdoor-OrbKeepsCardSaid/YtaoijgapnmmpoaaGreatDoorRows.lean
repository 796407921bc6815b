/-
  NARROWER THAN 'FOR EVERY INPUT', by the rows' own cells (each row's printed sentence says how): OrbFirsts: laid · OrbShares: laid · OrbCommits: laid · OrbKeeps: laid.
  DERIVED. THE GIVEN ROWS OF THIS SEAT. 4 by the template 'for every input the law returns true; each argument reads behind the call as it read before'; 0 by the template 'total and deterministic' (their statements: YtaoijgapnmmpoaaGreatDoorTotals.lean).
  GIVEN WITH THE SEED: the statements are not yours to turn. If you find one false, say at which input.
  Laid BY PROGRAM, IN A SANDBOX (cutbox-rows.mjs): the forced cells as the released guide's own fill.sh prints them over the translation 81ba495caf25723c… (all of the seat's roots in one cut). By AI agents, Wed Nov 11 2026. No macro, syntax, notation, axiom, sorry.
-/
import Derived.Test.YtaoijgapnmmpoaaGreatDoorChecked
import GoSem.Claim
import GoSem.ClaimJoined
import GoSem.ClaimMapViews
import Derived.JoinedTies
import Derived.KernelRfl
namespace Go.Proofs.YtaoijgapnmmpoaaGreatDoor
/- THE CELL 'sum', in the pinned program and in every row, IS THE sha256 OF THE DUMP (.gsa) THAT YtaoijgapnmmpoaaGreatDoorProg.lean LOADS. Nothing in Lean hashes anything: it is a label: what it is worth is what the hold of that sum in a sandbox is worth. -/
noncomputable def Tryz.pinned : Pinned := { name := "ytaoijgapnmmpoaagreatdoor", sum := "81ba495caf25723cbde2b128c33024dcb8920fab2003a622b410508e147c9074", checked := Tryz.checked }
namespace Rows
def none {H : Type} : Left H := { results := [], args := [] }

/- WHAT THE LISTED PACKAGE-LEVEL VARIABLES READ AS WHEN THE CALL BEGINS. Each datum BY PROGRAM (the guide's laid-datum.mjs) off the statement by which the dump's own 'gosem.cut.vars' lays the variable. In a bare row this is a premise. The card (YtaoijgapnmmpoaaGreatDoorCards.lean) ties it to the program's text. -/
def laid_chamberlain_msg_masks {H : Type} : DataW H := .agg [.lit (.int .u32 0), .lit (.int .u32 56), .lit (.int .u32 64), .lit (.int .u32 64), .lit (.int .u32 64), .lit (.int .u32 64), .lit (.int .u32 92), .lit (.int .u32 220), .lit (.int .u32 196), .lit (.int .u32 68)]

/-- 'chamberlainlaw18.OrbFirsts': WHATEVER THE INPUT: true; the input reads as it did. -/
def orbFirstsSpec : ChangeSpec := { name := "orbFirsts", fn := fun _ => fun
  | [d1, d2, d3] => { results := [.lit (.bool true)], args := [d1, d2, d3] }
  | _ => none }
def orbFirstsRow : OpenClaim := { program := "ytaoijgapnmmpoaagreatdoor", sum := "81ba495caf25723cbde2b128c33024dcb8920fab2003a622b410508e147c9074", func := "chamberlain/chamberlainlaw18.OrbFirsts", spec := "orbFirsts", unfollowed := true, recurses := true, named := ["chamberlain/msg.masks"], apart := false, laid := [("chamberlain/msg.masks", laid_chamberlain_msg_masks)] }
def OrbFirstsSaid : Prop := orbFirstsRow.holds Tryz.pinned (OpenSpec.ofChange orbFirstsSpec)

/-- ITS FALSE NEIGHBOUR: 'it returns false'. Refute it at one input. -/
def orbFirstsWrong : ChangeSpec := { name := "orbFirsts", fn := fun _ => fun
  | [d1, d2, d3] => { results := [.lit (.bool false)], args := [d1, d2, d3] }
  | _ => none }
def OrbFirstsWrongFalsely : Prop := orbFirstsRow.holds Tryz.pinned (OpenSpec.ofChange orbFirstsWrong)

/-- 'chamberlainlaw18.OrbShares': WHATEVER THE INPUT: true; the input reads as it did. -/
def orbSharesSpec : ChangeSpec := { name := "orbShares", fn := fun _ => fun
  | [d1, d2, d3] => { results := [.lit (.bool true)], args := [d1, d2, d3] }
  | _ => none }
def orbSharesRow : OpenClaim := { program := "ytaoijgapnmmpoaagreatdoor", sum := "81ba495caf25723cbde2b128c33024dcb8920fab2003a622b410508e147c9074", func := "chamberlain/chamberlainlaw18.OrbShares", spec := "orbShares", unfollowed := true, recurses := true, named := ["chamberlain/msg.masks"], apart := false, laid := [("chamberlain/msg.masks", laid_chamberlain_msg_masks)] }
def OrbSharesSaid : Prop := orbSharesRow.holds Tryz.pinned (OpenSpec.ofChange orbSharesSpec)

/-- ITS FALSE NEIGHBOUR: 'it returns false'. Refute it at one input. -/
def orbSharesWrong : ChangeSpec := { name := "orbShares", fn := fun _ => fun
  | [d1, d2, d3] => { results := [.lit (.bool false)], args := [d1, d2, d3] }
  | _ => none }
def OrbSharesWrongFalsely : Prop := orbSharesRow.holds Tryz.pinned (OpenSpec.ofChange orbSharesWrong)

/-- 'chamberlainlaw18.OrbCommits': WHATEVER THE INPUT: true; the input reads as it did. -/
def orbCommitsSpec : ChangeSpec := { name := "orbCommits", fn := fun _ => fun
  | [d1, d2, d3] => { results := [.lit (.bool true)], args := [d1, d2, d3] }
  | _ => none }
def orbCommitsRow : OpenClaim := { program := "ytaoijgapnmmpoaagreatdoor", sum := "81ba495caf25723cbde2b128c33024dcb8920fab2003a622b410508e147c9074", func := "chamberlain/chamberlainlaw18.OrbCommits", spec := "orbCommits", unfollowed := true, recurses := true, named := ["chamberlain/msg.masks"], apart := false, laid := [("chamberlain/msg.masks", laid_chamberlain_msg_masks)] }
def OrbCommitsSaid : Prop := orbCommitsRow.holds Tryz.pinned (OpenSpec.ofChange orbCommitsSpec)

/-- ITS FALSE NEIGHBOUR: 'it returns false'. Refute it at one input. -/
def orbCommitsWrong : ChangeSpec := { name := "orbCommits", fn := fun _ => fun
  | [d1, d2, d3] => { results := [.lit (.bool false)], args := [d1, d2, d3] }
  | _ => none }
def OrbCommitsWrongFalsely : Prop := orbCommitsRow.holds Tryz.pinned (OpenSpec.ofChange orbCommitsWrong)

/-- 'chamberlainlaw18.OrbKeeps': WHATEVER THE INPUT: true; the input reads as it did. -/
def orbKeepsSpec : ChangeSpec := { name := "orbKeeps", fn := fun _ => fun
  | [d1, d2, d3] => { results := [.lit (.bool true)], args := [d1, d2, d3] }
  | _ => none }
def orbKeepsRow : OpenClaim := { program := "ytaoijgapnmmpoaagreatdoor", sum := "81ba495caf25723cbde2b128c33024dcb8920fab2003a622b410508e147c9074", func := "chamberlain/chamberlainlaw18.OrbKeeps", spec := "orbKeeps", unfollowed := true, recurses := true, named := ["chamberlain/msg.masks"], apart := false, laid := [("chamberlain/msg.masks", laid_chamberlain_msg_masks)] }
def OrbKeepsSaid : Prop := orbKeepsRow.holds Tryz.pinned (OpenSpec.ofChange orbKeepsSpec)

/-- ITS FALSE NEIGHBOUR: 'it returns false'. Refute it at one input. -/
def orbKeepsWrong : ChangeSpec := { name := "orbKeeps", fn := fun _ => fun
  | [d1, d2, d3] => { results := [.lit (.bool false)], args := [d1, d2, d3] }
  | _ => none }
def OrbKeepsWrongFalsely : Prop := orbKeepsRow.holds Tryz.pinned (OpenSpec.ofChange orbKeepsWrong)

/- THE SECOND FORM. 'bulk': how many values and letters a reading holds, each counted each time it is reached (what is shared counts as often as it is met; a slice's spare places count too). A statement '..UptoSaid' is the law's where the arguments, and the package variables that the reading takes, are together of bulk at most 1048576: NARROWER than '..Said'. Prove '..Said' where nothing that the law and all that it calls make is longer than what came in: it says more and counts as full. Else prove '..UptoSaid'. A law counts once. -/
mutual
def uptoBulk {H : Type} : DataW H → Nat
  | .lit (.string bytes) => bytes.length + 1
  | .lit _ => 1
  | .nil => 1
  | .ptr d => uptoBulk d + 1
  | .slice elems spare => uptoBulkAll elems + uptoBulkAll spare + 1
  | .agg parts => uptoBulkAll parts + 1
  | .iface _ d => uptoBulk d + 1
  | .map entries => uptoBulkEntries entries + 1
  | .held _ => 1
def uptoBulkAll {H : Type} : List (DataW H) → Nat
  | [] => 0
  | d :: r => uptoBulk d + uptoBulkAll r
def uptoBulkEntries {H : Type} : List (Lit × DataW H) → Nat
  | [] => 0
  | x :: r => uptoBulkEntry x + uptoBulkEntries r
def uptoBulkEntry {H : Type} : Lit × DataW H → Nat
  | (.string bytes, d) => bytes.length + uptoBulk d + 1
  | (_, d) => uptoBulk d + 1
 end
def uptoSmall : (H : Type) → List (DataW H) → Bool := fun _ ds => decide (uptoBulkAll ds ≤ 1048576)
def OpenSpec.upto (s : _root_.Go.ChangeSpec) : _root_.Go.OpenSpec := { _root_.Go.OpenSpec.ofChange s with cond := some uptoSmall }

/-- 'chamberlainlaw18.OrbFirsts', WHERE WHAT IT READS IS OF BULK AT MOST 1048576: true; the input reads as it did. -/
def orbFirstsUptoRow : OpenClaim := { program := "ytaoijgapnmmpoaagreatdoor", sum := "81ba495caf25723cbde2b128c33024dcb8920fab2003a622b410508e147c9074", func := "chamberlain/chamberlainlaw18.OrbFirsts", spec := "orbFirsts", unfollowed := true, recurses := true, named := ["chamberlain/msg.masks"], apart := false, laid := [("chamberlain/msg.masks", laid_chamberlain_msg_masks)], narrowed := true }
def OrbFirstsUptoSaid : Prop := orbFirstsUptoRow.holds Tryz.pinned (OpenSpec.upto orbFirstsSpec)

/-- 'chamberlainlaw18.OrbShares', WHERE WHAT IT READS IS OF BULK AT MOST 1048576: true; the input reads as it did. -/
def orbSharesUptoRow : OpenClaim := { program := "ytaoijgapnmmpoaagreatdoor", sum := "81ba495caf25723cbde2b128c33024dcb8920fab2003a622b410508e147c9074", func := "chamberlain/chamberlainlaw18.OrbShares", spec := "orbShares", unfollowed := true, recurses := true, named := ["chamberlain/msg.masks"], apart := false, laid := [("chamberlain/msg.masks", laid_chamberlain_msg_masks)], narrowed := true }
def OrbSharesUptoSaid : Prop := orbSharesUptoRow.holds Tryz.pinned (OpenSpec.upto orbSharesSpec)

/-- 'chamberlainlaw18.OrbCommits', WHERE WHAT IT READS IS OF BULK AT MOST 1048576: true; the input reads as it did. -/
def orbCommitsUptoRow : OpenClaim := { program := "ytaoijgapnmmpoaagreatdoor", sum := "81ba495caf25723cbde2b128c33024dcb8920fab2003a622b410508e147c9074", func := "chamberlain/chamberlainlaw18.OrbCommits", spec := "orbCommits", unfollowed := true, recurses := true, named := ["chamberlain/msg.masks"], apart := false, laid := [("chamberlain/msg.masks", laid_chamberlain_msg_masks)], narrowed := true }
def OrbCommitsUptoSaid : Prop := orbCommitsUptoRow.holds Tryz.pinned (OpenSpec.upto orbCommitsSpec)

/-- 'chamberlainlaw18.OrbKeeps', WHERE WHAT IT READS IS OF BULK AT MOST 1048576: true; the input reads as it did. -/
def orbKeepsUptoRow : OpenClaim := { program := "ytaoijgapnmmpoaagreatdoor", sum := "81ba495caf25723cbde2b128c33024dcb8920fab2003a622b410508e147c9074", func := "chamberlain/chamberlainlaw18.OrbKeeps", spec := "orbKeeps", unfollowed := true, recurses := true, named := ["chamberlain/msg.masks"], apart := false, laid := [("chamberlain/msg.masks", laid_chamberlain_msg_masks)], narrowed := true }
def OrbKeepsUptoSaid : Prop := orbKeepsUptoRow.holds Tryz.pinned (OpenSpec.upto orbKeepsSpec)

end Rows
end Go.Proofs.YtaoijgapnmmpoaaGreatDoor
