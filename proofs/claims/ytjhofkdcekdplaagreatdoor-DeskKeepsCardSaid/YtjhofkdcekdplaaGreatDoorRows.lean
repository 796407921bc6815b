/-
  NARROWER THAN 'FOR EVERY INPUT', by the rows' own cells (each row's printed sentence says how): DeskForms: laid · DeskSeals: laid · DeskSends: laid · DeskOpens: laid · DeskSent: laid · DeskKeeps: laid.
  DERIVED. THE GIVEN ROWS OF THIS SEAT. 6 by the template 'for every input the law returns true; each argument reads behind the call as it read before'; 0 by the template 'total and deterministic' (their statements: YtjhofkdcekdplaaGreatDoorTotals.lean).
  GIVEN WITH THE SEED: the statements are not yours to turn. If you find one false, say at which input.
  Laid BY PROGRAM, IN A SANDBOX (cutbox-rows.mjs): the forced cells as the released guide's own fill.sh prints them over the translation dd731bf5c24e4cbb… (all of the seat's roots in one cut). By AI agents, Wed Nov 11 2026. No macro, syntax, notation, axiom, sorry.
-/
import Derived.Test.YtjhofkdcekdplaaGreatDoorChecked
import GoSem.Claim
import GoSem.ClaimJoined
import GoSem.ClaimMapViews
import Derived.JoinedTies
import Derived.KernelRfl
namespace Go.Proofs.YtjhofkdcekdplaaGreatDoor
/- THE CELL 'sum', in the pinned program and in every row, IS THE sha256 OF THE DUMP (.gsa) THAT YtjhofkdcekdplaaGreatDoorProg.lean LOADS. Nothing in Lean hashes anything: it is a label: what it is worth is what the hold of that sum in a sandbox is worth. -/
noncomputable def Tryz.pinned : Pinned := { name := "ytjhofkdcekdplaagreatdoor", sum := "dd731bf5c24e4cbb787118bbc2b1463c1b0e43fda86e01fbf390b3b90f4fbcbe", checked := Tryz.checked }
namespace Rows
def none {H : Type} : Left H := { results := [], args := [] }

/- WHAT THE LISTED PACKAGE-LEVEL VARIABLES READ AS WHEN THE CALL BEGINS. Each datum BY PROGRAM (the guide's laid-datum.mjs) off the statement by which the dump's own 'gosem.cut.vars' lays the variable. In a bare row this is a premise. The card (YtjhofkdcekdplaaGreatDoorCards.lean) ties it to the program's text. -/
def laid_chamberlain_msg_masks {H : Type} : DataW H := .agg [.lit (.int .u32 0), .lit (.int .u32 56), .lit (.int .u32 64), .lit (.int .u32 64), .lit (.int .u32 64), .lit (.int .u32 64), .lit (.int .u32 92), .lit (.int .u32 220), .lit (.int .u32 196), .lit (.int .u32 68)]

/-- 'chamberlainlaw12.DeskForms': WHATEVER THE INPUT: true; the input reads as it did. -/
def deskFormsSpec : ChangeSpec := { name := "deskForms", fn := fun _ => fun
  | [d1, d2, d3] => { results := [.lit (.bool true)], args := [d1, d2, d3] }
  | _ => none }
def deskFormsRow : OpenClaim := { program := "ytjhofkdcekdplaagreatdoor", sum := "dd731bf5c24e4cbb787118bbc2b1463c1b0e43fda86e01fbf390b3b90f4fbcbe", func := "chamberlain/chamberlainlaw12.DeskForms", spec := "deskForms", unfollowed := true, recurses := true, named := ["chamberlain/msg.masks"], apart := false, laid := [("chamberlain/msg.masks", laid_chamberlain_msg_masks)] }
def DeskFormsSaid : Prop := deskFormsRow.holds Tryz.pinned (OpenSpec.ofChange deskFormsSpec)

/-- ITS FALSE NEIGHBOUR: 'it returns false'. Refute it at one input. -/
def deskFormsWrong : ChangeSpec := { name := "deskForms", fn := fun _ => fun
  | [d1, d2, d3] => { results := [.lit (.bool false)], args := [d1, d2, d3] }
  | _ => none }
def DeskFormsWrongFalsely : Prop := deskFormsRow.holds Tryz.pinned (OpenSpec.ofChange deskFormsWrong)

/-- 'chamberlainlaw12.DeskSeals': WHATEVER THE INPUT: true; the input reads as it did. -/
def deskSealsSpec : ChangeSpec := { name := "deskSeals", fn := fun _ => fun
  | [d1, d2, d3, d4, d5] => { results := [.lit (.bool true)], args := [d1, d2, d3, d4, d5] }
  | _ => none }
def deskSealsRow : OpenClaim := { program := "ytjhofkdcekdplaagreatdoor", sum := "dd731bf5c24e4cbb787118bbc2b1463c1b0e43fda86e01fbf390b3b90f4fbcbe", func := "chamberlain/chamberlainlaw12.DeskSeals", spec := "deskSeals", unfollowed := true, recurses := true, named := ["chamberlain/msg.masks"], apart := false, laid := [("chamberlain/msg.masks", laid_chamberlain_msg_masks)] }
def DeskSealsSaid : Prop := deskSealsRow.holds Tryz.pinned (OpenSpec.ofChange deskSealsSpec)

/-- ITS FALSE NEIGHBOUR: 'it returns false'. Refute it at one input. -/
def deskSealsWrong : ChangeSpec := { name := "deskSeals", fn := fun _ => fun
  | [d1, d2, d3, d4, d5] => { results := [.lit (.bool false)], args := [d1, d2, d3, d4, d5] }
  | _ => none }
def DeskSealsWrongFalsely : Prop := deskSealsRow.holds Tryz.pinned (OpenSpec.ofChange deskSealsWrong)

/-- 'chamberlainlaw12.DeskSends': WHATEVER THE INPUT: true; the input reads as it did. -/
def deskSendsSpec : ChangeSpec := { name := "deskSends", fn := fun _ => fun
  | [d1, d2, d3, d4, d5] => { results := [.lit (.bool true)], args := [d1, d2, d3, d4, d5] }
  | _ => none }
def deskSendsRow : OpenClaim := { program := "ytjhofkdcekdplaagreatdoor", sum := "dd731bf5c24e4cbb787118bbc2b1463c1b0e43fda86e01fbf390b3b90f4fbcbe", func := "chamberlain/chamberlainlaw12.DeskSends", spec := "deskSends", unfollowed := true, recurses := true, named := ["chamberlain/msg.masks"], apart := false, laid := [("chamberlain/msg.masks", laid_chamberlain_msg_masks)] }
def DeskSendsSaid : Prop := deskSendsRow.holds Tryz.pinned (OpenSpec.ofChange deskSendsSpec)

/-- ITS FALSE NEIGHBOUR: 'it returns false'. Refute it at one input. -/
def deskSendsWrong : ChangeSpec := { name := "deskSends", fn := fun _ => fun
  | [d1, d2, d3, d4, d5] => { results := [.lit (.bool false)], args := [d1, d2, d3, d4, d5] }
  | _ => none }
def DeskSendsWrongFalsely : Prop := deskSendsRow.holds Tryz.pinned (OpenSpec.ofChange deskSendsWrong)

/-- 'chamberlainlaw12.DeskOpens': WHATEVER THE INPUT: true; the input reads as it did. -/
def deskOpensSpec : ChangeSpec := { name := "deskOpens", fn := fun _ => fun
  | [d1, d2, d3, d4, d5, d6, d7] => { results := [.lit (.bool true)], args := [d1, d2, d3, d4, d5, d6, d7] }
  | _ => none }
def deskOpensRow : OpenClaim := { program := "ytjhofkdcekdplaagreatdoor", sum := "dd731bf5c24e4cbb787118bbc2b1463c1b0e43fda86e01fbf390b3b90f4fbcbe", func := "chamberlain/chamberlainlaw12.DeskOpens", spec := "deskOpens", unfollowed := true, recurses := true, named := ["chamberlain/msg.masks"], apart := false, laid := [("chamberlain/msg.masks", laid_chamberlain_msg_masks)] }
def DeskOpensSaid : Prop := deskOpensRow.holds Tryz.pinned (OpenSpec.ofChange deskOpensSpec)

/-- ITS FALSE NEIGHBOUR: 'it returns false'. Refute it at one input. -/
def deskOpensWrong : ChangeSpec := { name := "deskOpens", fn := fun _ => fun
  | [d1, d2, d3, d4, d5, d6, d7] => { results := [.lit (.bool false)], args := [d1, d2, d3, d4, d5, d6, d7] }
  | _ => none }
def DeskOpensWrongFalsely : Prop := deskOpensRow.holds Tryz.pinned (OpenSpec.ofChange deskOpensWrong)

/-- 'chamberlainlaw12.DeskSent': WHATEVER THE INPUT: true; the input reads as it did. -/
def deskSentSpec : ChangeSpec := { name := "deskSent", fn := fun _ => fun
  | [d1, d2, d3] => { results := [.lit (.bool true)], args := [d1, d2, d3] }
  | _ => none }
def deskSentRow : OpenClaim := { program := "ytjhofkdcekdplaagreatdoor", sum := "dd731bf5c24e4cbb787118bbc2b1463c1b0e43fda86e01fbf390b3b90f4fbcbe", func := "chamberlain/chamberlainlaw12.DeskSent", spec := "deskSent", unfollowed := true, recurses := true, named := ["chamberlain/msg.masks"], apart := false, laid := [("chamberlain/msg.masks", laid_chamberlain_msg_masks)] }
def DeskSentSaid : Prop := deskSentRow.holds Tryz.pinned (OpenSpec.ofChange deskSentSpec)

/-- ITS FALSE NEIGHBOUR: 'it returns false'. Refute it at one input. -/
def deskSentWrong : ChangeSpec := { name := "deskSent", fn := fun _ => fun
  | [d1, d2, d3] => { results := [.lit (.bool false)], args := [d1, d2, d3] }
  | _ => none }
def DeskSentWrongFalsely : Prop := deskSentRow.holds Tryz.pinned (OpenSpec.ofChange deskSentWrong)

/-- 'chamberlainlaw12.DeskKeeps': WHATEVER THE INPUT: true; the input reads as it did. -/
def deskKeepsSpec : ChangeSpec := { name := "deskKeeps", fn := fun _ => fun
  | [d1, d2, d3, d4, d5, d6] => { results := [.lit (.bool true)], args := [d1, d2, d3, d4, d5, d6] }
  | _ => none }
def deskKeepsRow : OpenClaim := { program := "ytjhofkdcekdplaagreatdoor", sum := "dd731bf5c24e4cbb787118bbc2b1463c1b0e43fda86e01fbf390b3b90f4fbcbe", func := "chamberlain/chamberlainlaw12.DeskKeeps", spec := "deskKeeps", unfollowed := true, recurses := true, named := ["chamberlain/msg.masks"], apart := false, laid := [("chamberlain/msg.masks", laid_chamberlain_msg_masks)] }
def DeskKeepsSaid : Prop := deskKeepsRow.holds Tryz.pinned (OpenSpec.ofChange deskKeepsSpec)

/-- ITS FALSE NEIGHBOUR: 'it returns false'. Refute it at one input. -/
def deskKeepsWrong : ChangeSpec := { name := "deskKeeps", fn := fun _ => fun
  | [d1, d2, d3, d4, d5, d6] => { results := [.lit (.bool false)], args := [d1, d2, d3, d4, d5, d6] }
  | _ => none }
def DeskKeepsWrongFalsely : Prop := deskKeepsRow.holds Tryz.pinned (OpenSpec.ofChange deskKeepsWrong)

/- THE SECOND FORM. 'bulk': how many values and letters a reading holds, each counted each time it is reached (what is shared counts as often as it is met; a slice's spare places count too). A statement '..UptoSaid' is the law's where the arguments, and the package variables that the reading takes, are together of bulk at most 1048576: NARROWER than '..Said'. Prove '..Said' where nothing that the law and all that it calls make is longer than what came in: it says more and counts as full. Else prove '..UptoSaid'. A law counts once. -/
mutual
def uptoBulk {H : Type} : DataW H → Nat
  | .lit (.string bytes) => bytes.length + 1
  | .lit _ => 1
  | .nil => 1
  | .ptr d => uptoBulk d + 1
  | .slice elems spare => uptoBulkAll elems + uptoBulkAll spare + 1
  | .agg parts => uptoBulkAll parts + 1
  | .iface _ d => uptoBulk d + 1
  | .map entries => uptoBulkEntries entries + 1
  | .held _ => 1
def uptoBulkAll {H : Type} : List (DataW H) → Nat
  | [] => 0
  | d :: r => uptoBulk d + uptoBulkAll r
def uptoBulkEntries {H : Type} : List (Lit × DataW H) → Nat
  | [] => 0
  | x :: r => uptoBulkEntry x + uptoBulkEntries r
def uptoBulkEntry {H : Type} : Lit × DataW H → Nat
  | (.string bytes, d) => bytes.length + uptoBulk d + 1
  | (_, d) => uptoBulk d + 1
 end
def uptoSmall : (H : Type) → List (DataW H) → Bool := fun _ ds => decide (uptoBulkAll ds ≤ 1048576)
def OpenSpec.upto (s : _root_.Go.ChangeSpec) : _root_.Go.OpenSpec := { _root_.Go.OpenSpec.ofChange s with cond := some uptoSmall }

/-- 'chamberlainlaw12.DeskForms', WHERE WHAT IT READS IS OF BULK AT MOST 1048576: true; the input reads as it did. -/
def deskFormsUptoRow : OpenClaim := { program := "ytjhofkdcekdplaagreatdoor", sum := "dd731bf5c24e4cbb787118bbc2b1463c1b0e43fda86e01fbf390b3b90f4fbcbe", func := "chamberlain/chamberlainlaw12.DeskForms", spec := "deskForms", unfollowed := true, recurses := true, named := ["chamberlain/msg.masks"], apart := false, laid := [("chamberlain/msg.masks", laid_chamberlain_msg_masks)], narrowed := true }
def DeskFormsUptoSaid : Prop := deskFormsUptoRow.holds Tryz.pinned (OpenSpec.upto deskFormsSpec)

/-- 'chamberlainlaw12.DeskSeals', WHERE WHAT IT READS IS OF BULK AT MOST 1048576: true; the input reads as it did. -/
def deskSealsUptoRow : OpenClaim := { program := "ytjhofkdcekdplaagreatdoor", sum := "dd731bf5c24e4cbb787118bbc2b1463c1b0e43fda86e01fbf390b3b90f4fbcbe", func := "chamberlain/chamberlainlaw12.DeskSeals", spec := "deskSeals", unfollowed := true, recurses := true, named := ["chamberlain/msg.masks"], apart := false, laid := [("chamberlain/msg.masks", laid_chamberlain_msg_masks)], narrowed := true }
def DeskSealsUptoSaid : Prop := deskSealsUptoRow.holds Tryz.pinned (OpenSpec.upto deskSealsSpec)

/-- 'chamberlainlaw12.DeskSends', WHERE WHAT IT READS IS OF BULK AT MOST 1048576: true; the input reads as it did. -/
def deskSendsUptoRow : OpenClaim := { program := "ytjhofkdcekdplaagreatdoor", sum := "dd731bf5c24e4cbb787118bbc2b1463c1b0e43fda86e01fbf390b3b90f4fbcbe", func := "chamberlain/chamberlainlaw12.DeskSends", spec := "deskSends", unfollowed := true, recurses := true, named := ["chamberlain/msg.masks"], apart := false, laid := [("chamberlain/msg.masks", laid_chamberlain_msg_masks)], narrowed := true }
def DeskSendsUptoSaid : Prop := deskSendsUptoRow.holds Tryz.pinned (OpenSpec.upto deskSendsSpec)

/-- 'chamberlainlaw12.DeskOpens', WHERE WHAT IT READS IS OF BULK AT MOST 1048576: true; the input reads as it did. -/
def deskOpensUptoRow : OpenClaim := { program := "ytjhofkdcekdplaagreatdoor", sum := "dd731bf5c24e4cbb787118bbc2b1463c1b0e43fda86e01fbf390b3b90f4fbcbe", func := "chamberlain/chamberlainlaw12.DeskOpens", spec := "deskOpens", unfollowed := true, recurses := true, named := ["chamberlain/msg.masks"], apart := false, laid := [("chamberlain/msg.masks", laid_chamberlain_msg_masks)], narrowed := true }
def DeskOpensUptoSaid : Prop := deskOpensUptoRow.holds Tryz.pinned (OpenSpec.upto deskOpensSpec)

/-- 'chamberlainlaw12.DeskSent', WHERE WHAT IT READS IS OF BULK AT MOST 1048576: true; the input reads as it did. -/
def deskSentUptoRow : OpenClaim := { program := "ytjhofkdcekdplaagreatdoor", sum := "dd731bf5c24e4cbb787118bbc2b1463c1b0e43fda86e01fbf390b3b90f4fbcbe", func := "chamberlain/chamberlainlaw12.DeskSent", spec := "deskSent", unfollowed := true, recurses := true, named := ["chamberlain/msg.masks"], apart := false, laid := [("chamberlain/msg.masks", laid_chamberlain_msg_masks)], narrowed := true }
def DeskSentUptoSaid : Prop := deskSentUptoRow.holds Tryz.pinned (OpenSpec.upto deskSentSpec)

/-- 'chamberlainlaw12.DeskKeeps', WHERE WHAT IT READS IS OF BULK AT MOST 1048576: true; the input reads as it did. -/
def deskKeepsUptoRow : OpenClaim := { program := "ytjhofkdcekdplaagreatdoor", sum := "dd731bf5c24e4cbb787118bbc2b1463c1b0e43fda86e01fbf390b3b90f4fbcbe", func := "chamberlain/chamberlainlaw12.DeskKeeps", spec := "deskKeeps", unfollowed := true, recurses := true, named := ["chamberlain/msg.masks"], apart := false, laid := [("chamberlain/msg.masks", laid_chamberlain_msg_masks)], narrowed := true }
def DeskKeepsUptoSaid : Prop := deskKeepsUptoRow.holds Tryz.pinned (OpenSpec.upto deskKeepsSpec)

end Rows
end Go.Proofs.YtjhofkdcekdplaaGreatDoor
