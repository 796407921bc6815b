/-
  NARROWER THAN 'FOR EVERY INPUT', by the rows' own cells (each row's printed sentence says how): KsnGrants: laid · KsnKeeps: laid · KsnClock: laid.
  DERIVED. THE GIVEN ROWS OF THIS SEAT. 3 by the template 'for every input the law returns true; each argument reads behind the call as it read before'; 0 by the template 'total and deterministic' (their statements: YtagccdebelheoaaGreatDoorTotals.lean).
  GIVEN WITH THE SEED: the statements are not yours to turn. If you find one false, say at which input.
  Laid BY PROGRAM, IN A SANDBOX (cutbox-rows.mjs): the forced cells as the released guide's own fill.sh prints them over the translation 19546331d687efa6… (all of the seat's roots in one cut). By AI agents, Wed Nov 11 2026. No macro, syntax, notation, axiom, sorry.
-/
import Derived.Test.YtagccdebelheoaaGreatDoorChecked
import GoSem.Claim
import GoSem.ClaimJoined
import GoSem.ClaimMapViews
import Derived.JoinedTies
import Derived.KernelRfl
namespace Go.Proofs.YtagccdebelheoaaGreatDoor
/- THE CELL 'sum', in the pinned program and in every row, IS THE sha256 OF THE DUMP (.gsa) THAT YtagccdebelheoaaGreatDoorProg.lean LOADS. Nothing in Lean hashes anything: it is a label: what it is worth is what the hold of that sum in a sandbox is worth. -/
noncomputable def Tryz.pinned : Pinned := { name := "ytagccdebelheoaagreatdoor", sum := "19546331d687efa6336961cae5c757e46cd7bd3ae64df48c82672e7f720e97eb", checked := Tryz.checked }
namespace Rows
def none {H : Type} : Left H := { results := [], args := [] }

/- WHAT THE LISTED PACKAGE-LEVEL VARIABLES READ AS WHEN THE CALL BEGINS. Each datum BY PROGRAM (the guide's laid-datum.mjs) off the statement by which the dump's own 'gosem.cut.vars' lays the variable. In a bare row this is a premise. The card (YtagccdebelheoaaGreatDoorCards.lean) ties it to the program's text. -/
def laid_chamberlain_msg_masks {H : Type} : DataW H := .agg [.lit (.int .u32 0), .lit (.int .u32 56), .lit (.int .u32 64), .lit (.int .u32 64), .lit (.int .u32 64), .lit (.int .u32 64), .lit (.int .u32 92), .lit (.int .u32 220), .lit (.int .u32 196), .lit (.int .u32 68)]

/-- 'chamberlainlaw13.KsnGrants': WHATEVER THE INPUT: true; the input reads as it did. -/
def ksnGrantsSpec : ChangeSpec := { name := "ksnGrants", fn := fun _ => fun
  | [d1, d2] => { results := [.lit (.bool true)], args := [d1, d2] }
  | _ => none }
def ksnGrantsRow : OpenClaim := { program := "ytagccdebelheoaagreatdoor", sum := "19546331d687efa6336961cae5c757e46cd7bd3ae64df48c82672e7f720e97eb", func := "chamberlain/chamberlainlaw13.KsnGrants", spec := "ksnGrants", unfollowed := true, recurses := true, named := ["chamberlain/msg.masks"], apart := false, laid := [("chamberlain/msg.masks", laid_chamberlain_msg_masks)] }
def KsnGrantsSaid : Prop := ksnGrantsRow.holds Tryz.pinned (OpenSpec.ofChange ksnGrantsSpec)

/-- ITS FALSE NEIGHBOUR: 'it returns false'. Refute it at one input. -/
def ksnGrantsWrong : ChangeSpec := { name := "ksnGrants", fn := fun _ => fun
  | [d1, d2] => { results := [.lit (.bool false)], args := [d1, d2] }
  | _ => none }
def KsnGrantsWrongFalsely : Prop := ksnGrantsRow.holds Tryz.pinned (OpenSpec.ofChange ksnGrantsWrong)

/-- 'chamberlainlaw13.KsnKeeps': WHATEVER THE INPUT: true; the input reads as it did. -/
def ksnKeepsSpec : ChangeSpec := { name := "ksnKeeps", fn := fun _ => fun
  | [d1, d2] => { results := [.lit (.bool true)], args := [d1, d2] }
  | _ => none }
def ksnKeepsRow : OpenClaim := { program := "ytagccdebelheoaagreatdoor", sum := "19546331d687efa6336961cae5c757e46cd7bd3ae64df48c82672e7f720e97eb", func := "chamberlain/chamberlainlaw13.KsnKeeps", spec := "ksnKeeps", unfollowed := true, recurses := true, named := ["chamberlain/msg.masks"], apart := false, laid := [("chamberlain/msg.masks", laid_chamberlain_msg_masks)] }
def KsnKeepsSaid : Prop := ksnKeepsRow.holds Tryz.pinned (OpenSpec.ofChange ksnKeepsSpec)

/-- ITS FALSE NEIGHBOUR: 'it returns false'. Refute it at one input. -/
def ksnKeepsWrong : ChangeSpec := { name := "ksnKeeps", fn := fun _ => fun
  | [d1, d2] => { results := [.lit (.bool false)], args := [d1, d2] }
  | _ => none }
def KsnKeepsWrongFalsely : Prop := ksnKeepsRow.holds Tryz.pinned (OpenSpec.ofChange ksnKeepsWrong)

/-- 'chamberlainlaw13.KsnClock': WHATEVER THE INPUT: true; the input reads as it did. -/
def ksnClockSpec : ChangeSpec := { name := "ksnClock", fn := fun _ => fun
  | [d1, d2, d3] => { results := [.lit (.bool true)], args := [d1, d2, d3] }
  | _ => none }
def ksnClockRow : OpenClaim := { program := "ytagccdebelheoaagreatdoor", sum := "19546331d687efa6336961cae5c757e46cd7bd3ae64df48c82672e7f720e97eb", func := "chamberlain/chamberlainlaw13.KsnClock", spec := "ksnClock", unfollowed := true, recurses := true, named := ["chamberlain/msg.masks"], apart := false, laid := [("chamberlain/msg.masks", laid_chamberlain_msg_masks)] }
def KsnClockSaid : Prop := ksnClockRow.holds Tryz.pinned (OpenSpec.ofChange ksnClockSpec)

/-- ITS FALSE NEIGHBOUR: 'it returns false'. Refute it at one input. -/
def ksnClockWrong : ChangeSpec := { name := "ksnClock", fn := fun _ => fun
  | [d1, d2, d3] => { results := [.lit (.bool false)], args := [d1, d2, d3] }
  | _ => none }
def KsnClockWrongFalsely : Prop := ksnClockRow.holds Tryz.pinned (OpenSpec.ofChange ksnClockWrong)

/- THE SECOND FORM. 'bulk': how many values and letters a reading holds, each counted each time it is reached (what is shared counts as often as it is met; a slice's spare places count too). A statement '..UptoSaid' is the law's where the arguments, and the package variables that the reading takes, are together of bulk at most 1048576: NARROWER than '..Said'. Prove '..Said' where nothing that the law and all that it calls make is longer than what came in: it says more and counts as full. Else prove '..UptoSaid'. A law counts once. -/
mutual
def uptoBulk {H : Type} : DataW H → Nat
  | .lit (.string bytes) => bytes.length + 1
  | .lit _ => 1
  | .nil => 1
  | .ptr d => uptoBulk d + 1
  | .slice elems spare => uptoBulkAll elems + uptoBulkAll spare + 1
  | .agg parts => uptoBulkAll parts + 1
  | .iface _ d => uptoBulk d + 1
  | .map entries => uptoBulkEntries entries + 1
  | .held _ => 1
def uptoBulkAll {H : Type} : List (DataW H) → Nat
  | [] => 0
  | d :: r => uptoBulk d + uptoBulkAll r
def uptoBulkEntries {H : Type} : List (Lit × DataW H) → Nat
  | [] => 0
  | x :: r => uptoBulkEntry x + uptoBulkEntries r
def uptoBulkEntry {H : Type} : Lit × DataW H → Nat
  | (.string bytes, d) => bytes.length + uptoBulk d + 1
  | (_, d) => uptoBulk d + 1
 end
def uptoSmall : (H : Type) → List (DataW H) → Bool := fun _ ds => decide (uptoBulkAll ds ≤ 1048576)
def OpenSpec.upto (s : _root_.Go.ChangeSpec) : _root_.Go.OpenSpec := { _root_.Go.OpenSpec.ofChange s with cond := some uptoSmall }

/-- 'chamberlainlaw13.KsnGrants', WHERE WHAT IT READS IS OF BULK AT MOST 1048576: true; the input reads as it did. -/
def ksnGrantsUptoRow : OpenClaim := { program := "ytagccdebelheoaagreatdoor", sum := "19546331d687efa6336961cae5c757e46cd7bd3ae64df48c82672e7f720e97eb", func := "chamberlain/chamberlainlaw13.KsnGrants", spec := "ksnGrants", unfollowed := true, recurses := true, named := ["chamberlain/msg.masks"], apart := false, laid := [("chamberlain/msg.masks", laid_chamberlain_msg_masks)], narrowed := true }
def KsnGrantsUptoSaid : Prop := ksnGrantsUptoRow.holds Tryz.pinned (OpenSpec.upto ksnGrantsSpec)

/-- 'chamberlainlaw13.KsnKeeps', WHERE WHAT IT READS IS OF BULK AT MOST 1048576: true; the input reads as it did. -/
def ksnKeepsUptoRow : OpenClaim := { program := "ytagccdebelheoaagreatdoor", sum := "19546331d687efa6336961cae5c757e46cd7bd3ae64df48c82672e7f720e97eb", func := "chamberlain/chamberlainlaw13.KsnKeeps", spec := "ksnKeeps", unfollowed := true, recurses := true, named := ["chamberlain/msg.masks"], apart := false, laid := [("chamberlain/msg.masks", laid_chamberlain_msg_masks)], narrowed := true }
def KsnKeepsUptoSaid : Prop := ksnKeepsUptoRow.holds Tryz.pinned (OpenSpec.upto ksnKeepsSpec)

/-- 'chamberlainlaw13.KsnClock', WHERE WHAT IT READS IS OF BULK AT MOST 1048576: true; the input reads as it did. -/
def ksnClockUptoRow : OpenClaim := { program := "ytagccdebelheoaagreatdoor", sum := "19546331d687efa6336961cae5c757e46cd7bd3ae64df48c82672e7f720e97eb", func := "chamberlain/chamberlainlaw13.KsnClock", spec := "ksnClock", unfollowed := true, recurses := true, named := ["chamberlain/msg.masks"], apart := false, laid := [("chamberlain/msg.masks", laid_chamberlain_msg_masks)], narrowed := true }
def KsnClockUptoSaid : Prop := ksnClockUptoRow.holds Tryz.pinned (OpenSpec.upto ksnClockSpec)

end Rows
end Go.Proofs.YtagccdebelheoaaGreatDoor
