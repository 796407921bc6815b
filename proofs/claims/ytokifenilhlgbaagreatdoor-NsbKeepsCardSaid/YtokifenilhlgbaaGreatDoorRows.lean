/-
  NARROWER THAN 'FOR EVERY INPUT', by the rows' own cells (each row's printed sentence says how): NsbTickets: laid · NsbBacks: laid · NsbCommits: laid · NsbKeeps: laid.
  DERIVED. THE GIVEN ROWS OF THIS SEAT. 4 by the template 'for every input the law returns true; each argument reads behind the call as it read before'; 0 by the template 'total and deterministic' (their statements: YtokifenilhlgbaaGreatDoorTotals.lean).
  GIVEN WITH THE SEED: the statements are not yours to turn. If you find one false, say at which input.
  Laid BY PROGRAM, IN A SANDBOX (cutbox-rows.mjs): the forced cells as the released guide's own fill.sh prints them over the translation 5d8f4895f651ca51… (all of the seat's roots in one cut). By AI agents, Wed Nov 11 2026. No macro, syntax, notation, axiom, sorry.
-/
import Derived.Test.YtokifenilhlgbaaGreatDoorChecked
import GoSem.Claim
import GoSem.ClaimJoined
import GoSem.ClaimMapViews
import Derived.JoinedTies
import Derived.KernelRfl
namespace Go.Proofs.YtokifenilhlgbaaGreatDoor
/- THE CELL 'sum', in the pinned program and in every row, IS THE sha256 OF THE DUMP (.gsa) THAT YtokifenilhlgbaaGreatDoorProg.lean LOADS. Nothing in Lean hashes anything: it is a label: what it is worth is what the hold of that sum in a sandbox is worth. -/
noncomputable def Tryz.pinned : Pinned := { name := "ytokifenilhlgbaagreatdoor", sum := "5d8f4895f651ca51b32d8460b706f5640832bcfb300fa38c3f474b99f0f3c150", checked := Tryz.checked }
namespace Rows
def none {H : Type} : Left H := { results := [], args := [] }

/- WHAT THE LISTED PACKAGE-LEVEL VARIABLES READ AS WHEN THE CALL BEGINS. Each datum BY PROGRAM (the guide's laid-datum.mjs) off the statement by which the dump's own 'gosem.cut.vars' lays the variable. In a bare row this is a premise. The card (YtokifenilhlgbaaGreatDoorCards.lean) ties it to the program's text. -/
def laid_chamberlain_msg_masks {H : Type} : DataW H := .agg [.lit (.int .u32 0), .lit (.int .u32 56), .lit (.int .u32 64), .lit (.int .u32 64), .lit (.int .u32 64), .lit (.int .u32 64), .lit (.int .u32 92), .lit (.int .u32 220), .lit (.int .u32 196), .lit (.int .u32 68)]

/-- 'chamberlainlaw16.NsbTickets': WHATEVER THE INPUT: true; the input reads as it did. -/
def nsbTicketsSpec : ChangeSpec := { name := "nsbTickets", fn := fun _ => fun
  | [d1, d2, d3] => { results := [.lit (.bool true)], args := [d1, d2, d3] }
  | _ => none }
def nsbTicketsRow : OpenClaim := { program := "ytokifenilhlgbaagreatdoor", sum := "5d8f4895f651ca51b32d8460b706f5640832bcfb300fa38c3f474b99f0f3c150", func := "chamberlain/chamberlainlaw16.NsbTickets", spec := "nsbTickets", unfollowed := true, recurses := true, named := ["chamberlain/msg.masks"], apart := false, laid := [("chamberlain/msg.masks", laid_chamberlain_msg_masks)] }
def NsbTicketsSaid : Prop := nsbTicketsRow.holds Tryz.pinned (OpenSpec.ofChange nsbTicketsSpec)

/-- ITS FALSE NEIGHBOUR: 'it returns false'. Refute it at one input. -/
def nsbTicketsWrong : ChangeSpec := { name := "nsbTickets", fn := fun _ => fun
  | [d1, d2, d3] => { results := [.lit (.bool false)], args := [d1, d2, d3] }
  | _ => none }
def NsbTicketsWrongFalsely : Prop := nsbTicketsRow.holds Tryz.pinned (OpenSpec.ofChange nsbTicketsWrong)

/-- 'chamberlainlaw16.NsbBacks': WHATEVER THE INPUT: true; the input reads as it did. -/
def nsbBacksSpec : ChangeSpec := { name := "nsbBacks", fn := fun _ => fun
  | [d1, d2, d3] => { results := [.lit (.bool true)], args := [d1, d2, d3] }
  | _ => none }
def nsbBacksRow : OpenClaim := { program := "ytokifenilhlgbaagreatdoor", sum := "5d8f4895f651ca51b32d8460b706f5640832bcfb300fa38c3f474b99f0f3c150", func := "chamberlain/chamberlainlaw16.NsbBacks", spec := "nsbBacks", unfollowed := true, recurses := true, named := ["chamberlain/msg.masks"], apart := false, laid := [("chamberlain/msg.masks", laid_chamberlain_msg_masks)] }
def NsbBacksSaid : Prop := nsbBacksRow.holds Tryz.pinned (OpenSpec.ofChange nsbBacksSpec)

/-- ITS FALSE NEIGHBOUR: 'it returns false'. Refute it at one input. -/
def nsbBacksWrong : ChangeSpec := { name := "nsbBacks", fn := fun _ => fun
  | [d1, d2, d3] => { results := [.lit (.bool false)], args := [d1, d2, d3] }
  | _ => none }
def NsbBacksWrongFalsely : Prop := nsbBacksRow.holds Tryz.pinned (OpenSpec.ofChange nsbBacksWrong)

/-- 'chamberlainlaw16.NsbCommits': WHATEVER THE INPUT: true; the input reads as it did. -/
def nsbCommitsSpec : ChangeSpec := { name := "nsbCommits", fn := fun _ => fun
  | [d1, d2, d3] => { results := [.lit (.bool true)], args := [d1, d2, d3] }
  | _ => none }
def nsbCommitsRow : OpenClaim := { program := "ytokifenilhlgbaagreatdoor", sum := "5d8f4895f651ca51b32d8460b706f5640832bcfb300fa38c3f474b99f0f3c150", func := "chamberlain/chamberlainlaw16.NsbCommits", spec := "nsbCommits", unfollowed := true, recurses := true, named := ["chamberlain/msg.masks"], apart := false, laid := [("chamberlain/msg.masks", laid_chamberlain_msg_masks)] }
def NsbCommitsSaid : Prop := nsbCommitsRow.holds Tryz.pinned (OpenSpec.ofChange nsbCommitsSpec)

/-- ITS FALSE NEIGHBOUR: 'it returns false'. Refute it at one input. -/
def nsbCommitsWrong : ChangeSpec := { name := "nsbCommits", fn := fun _ => fun
  | [d1, d2, d3] => { results := [.lit (.bool false)], args := [d1, d2, d3] }
  | _ => none }
def NsbCommitsWrongFalsely : Prop := nsbCommitsRow.holds Tryz.pinned (OpenSpec.ofChange nsbCommitsWrong)

/-- 'chamberlainlaw16.NsbKeeps': WHATEVER THE INPUT: true; the input reads as it did. -/
def nsbKeepsSpec : ChangeSpec := { name := "nsbKeeps", fn := fun _ => fun
  | [d1, d2, d3] => { results := [.lit (.bool true)], args := [d1, d2, d3] }
  | _ => none }
def nsbKeepsRow : OpenClaim := { program := "ytokifenilhlgbaagreatdoor", sum := "5d8f4895f651ca51b32d8460b706f5640832bcfb300fa38c3f474b99f0f3c150", func := "chamberlain/chamberlainlaw16.NsbKeeps", spec := "nsbKeeps", unfollowed := true, recurses := true, named := ["chamberlain/msg.masks"], apart := false, laid := [("chamberlain/msg.masks", laid_chamberlain_msg_masks)] }
def NsbKeepsSaid : Prop := nsbKeepsRow.holds Tryz.pinned (OpenSpec.ofChange nsbKeepsSpec)

/-- ITS FALSE NEIGHBOUR: 'it returns false'. Refute it at one input. -/
def nsbKeepsWrong : ChangeSpec := { name := "nsbKeeps", fn := fun _ => fun
  | [d1, d2, d3] => { results := [.lit (.bool false)], args := [d1, d2, d3] }
  | _ => none }
def NsbKeepsWrongFalsely : Prop := nsbKeepsRow.holds Tryz.pinned (OpenSpec.ofChange nsbKeepsWrong)

/- THE SECOND FORM. 'bulk': how many values and letters a reading holds, each counted each time it is reached (what is shared counts as often as it is met; a slice's spare places count too). A statement '..UptoSaid' is the law's where the arguments, and the package variables that the reading takes, are together of bulk at most 1048576: NARROWER than '..Said'. Prove '..Said' where nothing that the law and all that it calls make is longer than what came in: it says more and counts as full. Else prove '..UptoSaid'. A law counts once. -/
mutual
def uptoBulk {H : Type} : DataW H → Nat
  | .lit (.string bytes) => bytes.length + 1
  | .lit _ => 1
  | .nil => 1
  | .ptr d => uptoBulk d + 1
  | .slice elems spare => uptoBulkAll elems + uptoBulkAll spare + 1
  | .agg parts => uptoBulkAll parts + 1
  | .iface _ d => uptoBulk d + 1
  | .map entries => uptoBulkEntries entries + 1
  | .held _ => 1
def uptoBulkAll {H : Type} : List (DataW H) → Nat
  | [] => 0
  | d :: r => uptoBulk d + uptoBulkAll r
def uptoBulkEntries {H : Type} : List (Lit × DataW H) → Nat
  | [] => 0
  | x :: r => uptoBulkEntry x + uptoBulkEntries r
def uptoBulkEntry {H : Type} : Lit × DataW H → Nat
  | (.string bytes, d) => bytes.length + uptoBulk d + 1
  | (_, d) => uptoBulk d + 1
 end
def uptoSmall : (H : Type) → List (DataW H) → Bool := fun _ ds => decide (uptoBulkAll ds ≤ 1048576)
def OpenSpec.upto (s : _root_.Go.ChangeSpec) : _root_.Go.OpenSpec := { _root_.Go.OpenSpec.ofChange s with cond := some uptoSmall }

/-- 'chamberlainlaw16.NsbTickets', WHERE WHAT IT READS IS OF BULK AT MOST 1048576: true; the input reads as it did. -/
def nsbTicketsUptoRow : OpenClaim := { program := "ytokifenilhlgbaagreatdoor", sum := "5d8f4895f651ca51b32d8460b706f5640832bcfb300fa38c3f474b99f0f3c150", func := "chamberlain/chamberlainlaw16.NsbTickets", spec := "nsbTickets", unfollowed := true, recurses := true, named := ["chamberlain/msg.masks"], apart := false, laid := [("chamberlain/msg.masks", laid_chamberlain_msg_masks)], narrowed := true }
def NsbTicketsUptoSaid : Prop := nsbTicketsUptoRow.holds Tryz.pinned (OpenSpec.upto nsbTicketsSpec)

/-- 'chamberlainlaw16.NsbBacks', WHERE WHAT IT READS IS OF BULK AT MOST 1048576: true; the input reads as it did. -/
def nsbBacksUptoRow : OpenClaim := { program := "ytokifenilhlgbaagreatdoor", sum := "5d8f4895f651ca51b32d8460b706f5640832bcfb300fa38c3f474b99f0f3c150", func := "chamberlain/chamberlainlaw16.NsbBacks", spec := "nsbBacks", unfollowed := true, recurses := true, named := ["chamberlain/msg.masks"], apart := false, laid := [("chamberlain/msg.masks", laid_chamberlain_msg_masks)], narrowed := true }
def NsbBacksUptoSaid : Prop := nsbBacksUptoRow.holds Tryz.pinned (OpenSpec.upto nsbBacksSpec)

/-- 'chamberlainlaw16.NsbCommits', WHERE WHAT IT READS IS OF BULK AT MOST 1048576: true; the input reads as it did. -/
def nsbCommitsUptoRow : OpenClaim := { program := "ytokifenilhlgbaagreatdoor", sum := "5d8f4895f651ca51b32d8460b706f5640832bcfb300fa38c3f474b99f0f3c150", func := "chamberlain/chamberlainlaw16.NsbCommits", spec := "nsbCommits", unfollowed := true, recurses := true, named := ["chamberlain/msg.masks"], apart := false, laid := [("chamberlain/msg.masks", laid_chamberlain_msg_masks)], narrowed := true }
def NsbCommitsUptoSaid : Prop := nsbCommitsUptoRow.holds Tryz.pinned (OpenSpec.upto nsbCommitsSpec)

/-- 'chamberlainlaw16.NsbKeeps', WHERE WHAT IT READS IS OF BULK AT MOST 1048576: true; the input reads as it did. -/
def nsbKeepsUptoRow : OpenClaim := { program := "ytokifenilhlgbaagreatdoor", sum := "5d8f4895f651ca51b32d8460b706f5640832bcfb300fa38c3f474b99f0f3c150", func := "chamberlain/chamberlainlaw16.NsbKeeps", spec := "nsbKeeps", unfollowed := true, recurses := true, named := ["chamberlain/msg.masks"], apart := false, laid := [("chamberlain/msg.masks", laid_chamberlain_msg_masks)], narrowed := true }
def NsbKeepsUptoSaid : Prop := nsbKeepsUptoRow.holds Tryz.pinned (OpenSpec.upto nsbKeepsSpec)

end Rows
end Go.Proofs.YtokifenilhlgbaaGreatDoor
