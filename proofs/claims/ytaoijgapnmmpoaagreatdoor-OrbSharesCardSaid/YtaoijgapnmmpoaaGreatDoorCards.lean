/-
  DERIVED. GIVEN WITH THE SEED: THE CARDS: each row of YtaoijgapnmmpoaaGreatDoorRows.lean that lists a variable, with what it lists TIED to the program's text (the seventh form; the later family's looks); each row that meets fmt, with fmt's text TOLD by the authors' own Lean function (tested against real Go, not proved from fmt's source: count such statements apart). THE CARD IS WHAT COUNTS. Prove the row's statement (the work); the ties are given (YtaoijgapnmmpoaaGreatDoorTie.lean); close each card by the builder's one call (the guide's Derived/Test/ToyasCard.lean, 'card_holds'). Laid BY PROGRAM, IN A SANDBOX (cutbox-door.mjs). By AI agents, Wed Nov 11 2026. No macro, syntax, notation, axiom, sorry.
-/
import Derived.Test.YtaoijgapnmmpoaaGreatDoorRows
import GoSem.ClaimSeven
namespace Go.Proofs.YtaoijgapnmmpoaaGreatDoor
namespace Rows

/-- THE TIED CARD OF 'chamberlainlaw18.OrbFirsts'. -/
def orbFirstsCard : Claim7 := { stood := { row := orbFirstsRow, standIns := [], harness := (true, "5f7a81ac71d540bf18fc80422c8898542d903dfb1d545c34df50138147dc0544"), looks := false }, kinds := [], alts := [], laidByText := true, laidKinds := [.data], laidTests := true, laidLooks := .later }
def OrbFirstsCardSaid : Prop := Claim7.holds Tryz.pinned (.plain (OpenSpec.ofChange orbFirstsSpec)) orbFirstsCard

/-- THE TIED CARD OF 'chamberlainlaw18.OrbShares'. -/
def orbSharesCard : Claim7 := { stood := { row := orbSharesRow, standIns := [], harness := (true, "5f7a81ac71d540bf18fc80422c8898542d903dfb1d545c34df50138147dc0544"), looks := false }, kinds := [], alts := [], laidByText := true, laidKinds := [.data], laidTests := true, laidLooks := .later }
def OrbSharesCardSaid : Prop := Claim7.holds Tryz.pinned (.plain (OpenSpec.ofChange orbSharesSpec)) orbSharesCard

/-- THE TIED CARD OF 'chamberlainlaw18.OrbCommits'. -/
def orbCommitsCard : Claim7 := { stood := { row := orbCommitsRow, standIns := [], harness := (true, "5f7a81ac71d540bf18fc80422c8898542d903dfb1d545c34df50138147dc0544"), looks := false }, kinds := [], alts := [], laidByText := true, laidKinds := [.data], laidTests := true, laidLooks := .later }
def OrbCommitsCardSaid : Prop := Claim7.holds Tryz.pinned (.plain (OpenSpec.ofChange orbCommitsSpec)) orbCommitsCard

/-- THE TIED CARD OF 'chamberlainlaw18.OrbKeeps'. -/
def orbKeepsCard : Claim7 := { stood := { row := orbKeepsRow, standIns := [], harness := (true, "5f7a81ac71d540bf18fc80422c8898542d903dfb1d545c34df50138147dc0544"), looks := false }, kinds := [], alts := [], laidByText := true, laidKinds := [.data], laidTests := true, laidLooks := .later }
def OrbKeepsCardSaid : Prop := Claim7.holds Tryz.pinned (.plain (OpenSpec.ofChange orbKeepsSpec)) orbKeepsCard

/-- THE SECOND FORM's CARD OF 'chamberlainlaw18.OrbFirsts'. -/
def orbFirstsUptoCard : Claim7 := { stood := { row := orbFirstsUptoRow, standIns := [], harness := (true, "5f7a81ac71d540bf18fc80422c8898542d903dfb1d545c34df50138147dc0544"), looks := false }, kinds := [], alts := [], laidByText := true, laidKinds := [.data], laidTests := true, laidLooks := .later }
def OrbFirstsUptoCardSaid : Prop := Claim7.holds Tryz.pinned (.plain (OpenSpec.upto orbFirstsSpec)) orbFirstsUptoCard

/-- THE SECOND FORM's CARD OF 'chamberlainlaw18.OrbShares'. -/
def orbSharesUptoCard : Claim7 := { stood := { row := orbSharesUptoRow, standIns := [], harness := (true, "5f7a81ac71d540bf18fc80422c8898542d903dfb1d545c34df50138147dc0544"), looks := false }, kinds := [], alts := [], laidByText := true, laidKinds := [.data], laidTests := true, laidLooks := .later }
def OrbSharesUptoCardSaid : Prop := Claim7.holds Tryz.pinned (.plain (OpenSpec.upto orbSharesSpec)) orbSharesUptoCard

/-- THE SECOND FORM's CARD OF 'chamberlainlaw18.OrbCommits'. -/
def orbCommitsUptoCard : Claim7 := { stood := { row := orbCommitsUptoRow, standIns := [], harness := (true, "5f7a81ac71d540bf18fc80422c8898542d903dfb1d545c34df50138147dc0544"), looks := false }, kinds := [], alts := [], laidByText := true, laidKinds := [.data], laidTests := true, laidLooks := .later }
def OrbCommitsUptoCardSaid : Prop := Claim7.holds Tryz.pinned (.plain (OpenSpec.upto orbCommitsSpec)) orbCommitsUptoCard

/-- THE SECOND FORM's CARD OF 'chamberlainlaw18.OrbKeeps'. -/
def orbKeepsUptoCard : Claim7 := { stood := { row := orbKeepsUptoRow, standIns := [], harness := (true, "5f7a81ac71d540bf18fc80422c8898542d903dfb1d545c34df50138147dc0544"), looks := false }, kinds := [], alts := [], laidByText := true, laidKinds := [.data], laidTests := true, laidLooks := .later }
def OrbKeepsUptoCardSaid : Prop := Claim7.holds Tryz.pinned (.plain (OpenSpec.upto orbKeepsSpec)) orbKeepsUptoCard
end Rows
end Go.Proofs.YtaoijgapnmmpoaaGreatDoor
