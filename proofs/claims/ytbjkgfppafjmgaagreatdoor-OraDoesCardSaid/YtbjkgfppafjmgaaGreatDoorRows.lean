/-
  NARROWER THAN 'FOR EVERY INPUT', by the rows' own cells (each row's printed sentence says how): OraDoes: laid · OraStarts: laid · OraCommits: laid · OraKeeps: laid · OraTwice: laid.
  DERIVED. THE GIVEN ROWS OF THIS SEAT. 5 by the template 'for every input the law returns true; each argument reads behind the call as it read before'; 0 by the template 'total and deterministic' (their statements: YtbjkgfppafjmgaaGreatDoorTotals.lean).
  GIVEN WITH THE SEED: the statements are not yours to turn. If you find one false, say at which input.
  Laid BY PROGRAM, IN A SANDBOX (cutbox-rows.mjs): the forced cells as the released guide's own fill.sh prints them over the translation fc49ac31cdd33c0a… (all of the seat's roots in one cut). By AI agents, Wed Nov 11 2026. No macro, syntax, notation, axiom, sorry.
-/
import Derived.Test.YtbjkgfppafjmgaaGreatDoorChecked
import GoSem.Claim
import GoSem.ClaimJoined
import GoSem.ClaimMapViews
import Derived.JoinedTies
import Derived.KernelRfl
namespace Go.Proofs.YtbjkgfppafjmgaaGreatDoor
/- THE CELL 'sum', in the pinned program and in every row, IS THE sha256 OF THE DUMP (.gsa) THAT YtbjkgfppafjmgaaGreatDoorProg.lean LOADS. Nothing in Lean hashes anything: it is a label: what it is worth is what the hold of that sum in a sandbox is worth. -/
noncomputable def Tryz.pinned : Pinned := { name := "ytbjkgfppafjmgaagreatdoor", sum := "fc49ac31cdd33c0a7d0261ceadec321cc309f68d326e53e0c4d0b95d3b6ba1c8", checked := Tryz.checked }
namespace Rows
def none {H : Type} : Left H := { results := [], args := [] }

/- WHAT THE LISTED PACKAGE-LEVEL VARIABLES READ AS WHEN THE CALL BEGINS. Each datum BY PROGRAM (the guide's laid-datum.mjs) off the statement by which the dump's own 'gosem.cut.vars' lays the variable. In a bare row this is a premise. The card (YtbjkgfppafjmgaaGreatDoorCards.lean) ties it to the program's text. -/
def laid_chamberlain_msg_masks {H : Type} : DataW H := .agg [.lit (.int .u32 0), .lit (.int .u32 56), .lit (.int .u32 64), .lit (.int .u32 64), .lit (.int .u32 64), .lit (.int .u32 64), .lit (.int .u32 92), .lit (.int .u32 220), .lit (.int .u32 196), .lit (.int .u32 68)]

/-- 'chamberlainlaw17.OraDoes': WHATEVER THE INPUT: true; the input reads as it did. -/
def oraDoesSpec : ChangeSpec := { name := "oraDoes", fn := fun _ => fun
  | [d1, d2, d3, d4, d5] => { results := [.lit (.bool true)], args := [d1, d2, d3, d4, d5] }
  | _ => none }
def oraDoesRow : OpenClaim := { program := "ytbjkgfppafjmgaagreatdoor", sum := "fc49ac31cdd33c0a7d0261ceadec321cc309f68d326e53e0c4d0b95d3b6ba1c8", func := "chamberlain/chamberlainlaw17.OraDoes", spec := "oraDoes", unfollowed := true, recurses := true, named := ["chamberlain/msg.masks"], apart := false, laid := [("chamberlain/msg.masks", laid_chamberlain_msg_masks)] }
def OraDoesSaid : Prop := oraDoesRow.holds Tryz.pinned (OpenSpec.ofChange oraDoesSpec)

/-- ITS FALSE NEIGHBOUR: 'it returns false'. Refute it at one input. -/
def oraDoesWrong : ChangeSpec := { name := "oraDoes", fn := fun _ => fun
  | [d1, d2, d3, d4, d5] => { results := [.lit (.bool false)], args := [d1, d2, d3, d4, d5] }
  | _ => none }
def OraDoesWrongFalsely : Prop := oraDoesRow.holds Tryz.pinned (OpenSpec.ofChange oraDoesWrong)

/-- 'chamberlainlaw17.OraStarts': WHATEVER THE INPUT: true; the input reads as it did. -/
def oraStartsSpec : ChangeSpec := { name := "oraStarts", fn := fun _ => fun
  | [d1, d2, d3, d4] => { results := [.lit (.bool true)], args := [d1, d2, d3, d4] }
  | _ => none }
def oraStartsRow : OpenClaim := { program := "ytbjkgfppafjmgaagreatdoor", sum := "fc49ac31cdd33c0a7d0261ceadec321cc309f68d326e53e0c4d0b95d3b6ba1c8", func := "chamberlain/chamberlainlaw17.OraStarts", spec := "oraStarts", unfollowed := true, recurses := true, named := ["chamberlain/msg.masks"], apart := false, laid := [("chamberlain/msg.masks", laid_chamberlain_msg_masks)] }
def OraStartsSaid : Prop := oraStartsRow.holds Tryz.pinned (OpenSpec.ofChange oraStartsSpec)

/-- ITS FALSE NEIGHBOUR: 'it returns false'. Refute it at one input. -/
def oraStartsWrong : ChangeSpec := { name := "oraStarts", fn := fun _ => fun
  | [d1, d2, d3, d4] => { results := [.lit (.bool false)], args := [d1, d2, d3, d4] }
  | _ => none }
def OraStartsWrongFalsely : Prop := oraStartsRow.holds Tryz.pinned (OpenSpec.ofChange oraStartsWrong)

/-- 'chamberlainlaw17.OraCommits': WHATEVER THE INPUT: true; the input reads as it did. -/
def oraCommitsSpec : ChangeSpec := { name := "oraCommits", fn := fun _ => fun
  | [d1, d2, d3] => { results := [.lit (.bool true)], args := [d1, d2, d3] }
  | _ => none }
def oraCommitsRow : OpenClaim := { program := "ytbjkgfppafjmgaagreatdoor", sum := "fc49ac31cdd33c0a7d0261ceadec321cc309f68d326e53e0c4d0b95d3b6ba1c8", func := "chamberlain/chamberlainlaw17.OraCommits", spec := "oraCommits", unfollowed := true, recurses := true, named := ["chamberlain/msg.masks"], apart := false, laid := [("chamberlain/msg.masks", laid_chamberlain_msg_masks)] }
def OraCommitsSaid : Prop := oraCommitsRow.holds Tryz.pinned (OpenSpec.ofChange oraCommitsSpec)

/-- ITS FALSE NEIGHBOUR: 'it returns false'. Refute it at one input. -/
def oraCommitsWrong : ChangeSpec := { name := "oraCommits", fn := fun _ => fun
  | [d1, d2, d3] => { results := [.lit (.bool false)], args := [d1, d2, d3] }
  | _ => none }
def OraCommitsWrongFalsely : Prop := oraCommitsRow.holds Tryz.pinned (OpenSpec.ofChange oraCommitsWrong)

/-- 'chamberlainlaw17.OraKeeps': WHATEVER THE INPUT: true; the input reads as it did. -/
def oraKeepsSpec : ChangeSpec := { name := "oraKeeps", fn := fun _ => fun
  | [d1, d2, d3, d4, d5] => { results := [.lit (.bool true)], args := [d1, d2, d3, d4, d5] }
  | _ => none }
def oraKeepsRow : OpenClaim := { program := "ytbjkgfppafjmgaagreatdoor", sum := "fc49ac31cdd33c0a7d0261ceadec321cc309f68d326e53e0c4d0b95d3b6ba1c8", func := "chamberlain/chamberlainlaw17.OraKeeps", spec := "oraKeeps", unfollowed := true, recurses := true, named := ["chamberlain/msg.masks"], apart := false, laid := [("chamberlain/msg.masks", laid_chamberlain_msg_masks)] }
def OraKeepsSaid : Prop := oraKeepsRow.holds Tryz.pinned (OpenSpec.ofChange oraKeepsSpec)

/-- ITS FALSE NEIGHBOUR: 'it returns false'. Refute it at one input. -/
def oraKeepsWrong : ChangeSpec := { name := "oraKeeps", fn := fun _ => fun
  | [d1, d2, d3, d4, d5] => { results := [.lit (.bool false)], args := [d1, d2, d3, d4, d5] }
  | _ => none }
def OraKeepsWrongFalsely : Prop := oraKeepsRow.holds Tryz.pinned (OpenSpec.ofChange oraKeepsWrong)

/-- 'chamberlainlaw17.OraTwice': WHATEVER THE INPUT: true; the input reads as it did. -/
def oraTwiceSpec : ChangeSpec := { name := "oraTwice", fn := fun _ => fun
  | [d1, d2, d3] => { results := [.lit (.bool true)], args := [d1, d2, d3] }
  | _ => none }
def oraTwiceRow : OpenClaim := { program := "ytbjkgfppafjmgaagreatdoor", sum := "fc49ac31cdd33c0a7d0261ceadec321cc309f68d326e53e0c4d0b95d3b6ba1c8", func := "chamberlain/chamberlainlaw17.OraTwice", spec := "oraTwice", unfollowed := true, recurses := true, named := ["chamberlain/msg.masks"], apart := false, laid := [("chamberlain/msg.masks", laid_chamberlain_msg_masks)] }
def OraTwiceSaid : Prop := oraTwiceRow.holds Tryz.pinned (OpenSpec.ofChange oraTwiceSpec)

/-- ITS FALSE NEIGHBOUR: 'it returns false'. Refute it at one input. -/
def oraTwiceWrong : ChangeSpec := { name := "oraTwice", fn := fun _ => fun
  | [d1, d2, d3] => { results := [.lit (.bool false)], args := [d1, d2, d3] }
  | _ => none }
def OraTwiceWrongFalsely : Prop := oraTwiceRow.holds Tryz.pinned (OpenSpec.ofChange oraTwiceWrong)

/- THE SECOND FORM. 'bulk': how many values and letters a reading holds, each counted each time it is reached (what is shared counts as often as it is met; a slice's spare places count too). A statement '..UptoSaid' is the law's where the arguments, and the package variables that the reading takes, are together of bulk at most 1048576: NARROWER than '..Said'. Prove '..Said' where nothing that the law and all that it calls make is longer than what came in: it says more and counts as full. Else prove '..UptoSaid'. A law counts once. -/
mutual
def uptoBulk {H : Type} : DataW H → Nat
  | .lit (.string bytes) => bytes.length + 1
  | .lit _ => 1
  | .nil => 1
  | .ptr d => uptoBulk d + 1
  | .slice elems spare => uptoBulkAll elems + uptoBulkAll spare + 1
  | .agg parts => uptoBulkAll parts + 1
  | .iface _ d => uptoBulk d + 1
  | .map entries => uptoBulkEntries entries + 1
  | .held _ => 1
def uptoBulkAll {H : Type} : List (DataW H) → Nat
  | [] => 0
  | d :: r => uptoBulk d + uptoBulkAll r
def uptoBulkEntries {H : Type} : List (Lit × DataW H) → Nat
  | [] => 0
  | x :: r => uptoBulkEntry x + uptoBulkEntries r
def uptoBulkEntry {H : Type} : Lit × DataW H → Nat
  | (.string bytes, d) => bytes.length + uptoBulk d + 1
  | (_, d) => uptoBulk d + 1
 end
def uptoSmall : (H : Type) → List (DataW H) → Bool := fun _ ds => decide (uptoBulkAll ds ≤ 1048576)
def OpenSpec.upto (s : _root_.Go.ChangeSpec) : _root_.Go.OpenSpec := { _root_.Go.OpenSpec.ofChange s with cond := some uptoSmall }

/-- 'chamberlainlaw17.OraDoes', WHERE WHAT IT READS IS OF BULK AT MOST 1048576: true; the input reads as it did. -/
def oraDoesUptoRow : OpenClaim := { program := "ytbjkgfppafjmgaagreatdoor", sum := "fc49ac31cdd33c0a7d0261ceadec321cc309f68d326e53e0c4d0b95d3b6ba1c8", func := "chamberlain/chamberlainlaw17.OraDoes", spec := "oraDoes", unfollowed := true, recurses := true, named := ["chamberlain/msg.masks"], apart := false, laid := [("chamberlain/msg.masks", laid_chamberlain_msg_masks)], narrowed := true }
def OraDoesUptoSaid : Prop := oraDoesUptoRow.holds Tryz.pinned (OpenSpec.upto oraDoesSpec)

/-- 'chamberlainlaw17.OraStarts', WHERE WHAT IT READS IS OF BULK AT MOST 1048576: true; the input reads as it did. -/
def oraStartsUptoRow : OpenClaim := { program := "ytbjkgfppafjmgaagreatdoor", sum := "fc49ac31cdd33c0a7d0261ceadec321cc309f68d326e53e0c4d0b95d3b6ba1c8", func := "chamberlain/chamberlainlaw17.OraStarts", spec := "oraStarts", unfollowed := true, recurses := true, named := ["chamberlain/msg.masks"], apart := false, laid := [("chamberlain/msg.masks", laid_chamberlain_msg_masks)], narrowed := true }
def OraStartsUptoSaid : Prop := oraStartsUptoRow.holds Tryz.pinned (OpenSpec.upto oraStartsSpec)

/-- 'chamberlainlaw17.OraCommits', WHERE WHAT IT READS IS OF BULK AT MOST 1048576: true; the input reads as it did. -/
def oraCommitsUptoRow : OpenClaim := { program := "ytbjkgfppafjmgaagreatdoor", sum := "fc49ac31cdd33c0a7d0261ceadec321cc309f68d326e53e0c4d0b95d3b6ba1c8", func := "chamberlain/chamberlainlaw17.OraCommits", spec := "oraCommits", unfollowed := true, recurses := true, named := ["chamberlain/msg.masks"], apart := false, laid := [("chamberlain/msg.masks", laid_chamberlain_msg_masks)], narrowed := true }
def OraCommitsUptoSaid : Prop := oraCommitsUptoRow.holds Tryz.pinned (OpenSpec.upto oraCommitsSpec)

/-- 'chamberlainlaw17.OraKeeps', WHERE WHAT IT READS IS OF BULK AT MOST 1048576: true; the input reads as it did. -/
def oraKeepsUptoRow : OpenClaim := { program := "ytbjkgfppafjmgaagreatdoor", sum := "fc49ac31cdd33c0a7d0261ceadec321cc309f68d326e53e0c4d0b95d3b6ba1c8", func := "chamberlain/chamberlainlaw17.OraKeeps", spec := "oraKeeps", unfollowed := true, recurses := true, named := ["chamberlain/msg.masks"], apart := false, laid := [("chamberlain/msg.masks", laid_chamberlain_msg_masks)], narrowed := true }
def OraKeepsUptoSaid : Prop := oraKeepsUptoRow.holds Tryz.pinned (OpenSpec.upto oraKeepsSpec)

/-- 'chamberlainlaw17.OraTwice', WHERE WHAT IT READS IS OF BULK AT MOST 1048576: true; the input reads as it did. -/
def oraTwiceUptoRow : OpenClaim := { program := "ytbjkgfppafjmgaagreatdoor", sum := "fc49ac31cdd33c0a7d0261ceadec321cc309f68d326e53e0c4d0b95d3b6ba1c8", func := "chamberlain/chamberlainlaw17.OraTwice", spec := "oraTwice", unfollowed := true, recurses := true, named := ["chamberlain/msg.masks"], apart := false, laid := [("chamberlain/msg.masks", laid_chamberlain_msg_masks)], narrowed := true }
def OraTwiceUptoSaid : Prop := oraTwiceUptoRow.holds Tryz.pinned (OpenSpec.upto oraTwiceSpec)

end Rows
end Go.Proofs.YtbjkgfppafjmgaaGreatDoor
