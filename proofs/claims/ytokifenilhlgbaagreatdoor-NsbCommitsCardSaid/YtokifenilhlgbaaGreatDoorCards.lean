/-
  DERIVED. GIVEN WITH THE SEED: THE CARDS: each row of YtokifenilhlgbaaGreatDoorRows.lean that lists a variable, with what it lists TIED to the program's text (the seventh form; the later family's looks); each row that meets fmt, with fmt's text TOLD by the authors' own Lean function (tested against real Go, not proved from fmt's source: count such statements apart). THE CARD IS WHAT COUNTS. Prove the row's statement (the work); the ties are given (YtokifenilhlgbaaGreatDoorTie.lean); close each card by the builder's one call (the guide's Derived/Test/ToyasCard.lean, 'card_holds'). Laid BY PROGRAM, IN A SANDBOX (cutbox-door.mjs). By AI agents, Wed Nov 11 2026. No macro, syntax, notation, axiom, sorry.
-/
import Derived.Test.YtokifenilhlgbaaGreatDoorRows
import GoSem.ClaimSeven
namespace Go.Proofs.YtokifenilhlgbaaGreatDoor
namespace Rows

/-- THE TIED CARD OF 'chamberlainlaw16.NsbTickets'. -/
def nsbTicketsCard : Claim7 := { stood := { row := nsbTicketsRow, standIns := [], harness := (true, "0ed2532e98b326822d8dc85c0e63a15840d01d5ffa4ebc83c00e5a1044e44ca2"), looks := false }, kinds := [], alts := [], laidByText := true, laidKinds := [.data], laidTests := true, laidLooks := .later }
def NsbTicketsCardSaid : Prop := Claim7.holds Tryz.pinned (.plain (OpenSpec.ofChange nsbTicketsSpec)) nsbTicketsCard

/-- THE TIED CARD OF 'chamberlainlaw16.NsbBacks'. -/
def nsbBacksCard : Claim7 := { stood := { row := nsbBacksRow, standIns := [], harness := (true, "0ed2532e98b326822d8dc85c0e63a15840d01d5ffa4ebc83c00e5a1044e44ca2"), looks := false }, kinds := [], alts := [], laidByText := true, laidKinds := [.data], laidTests := true, laidLooks := .later }
def NsbBacksCardSaid : Prop := Claim7.holds Tryz.pinned (.plain (OpenSpec.ofChange nsbBacksSpec)) nsbBacksCard

/-- THE TIED CARD OF 'chamberlainlaw16.NsbCommits'. -/
def nsbCommitsCard : Claim7 := { stood := { row := nsbCommitsRow, standIns := [], harness := (true, "0ed2532e98b326822d8dc85c0e63a15840d01d5ffa4ebc83c00e5a1044e44ca2"), looks := false }, kinds := [], alts := [], laidByText := true, laidKinds := [.data], laidTests := true, laidLooks := .later }
def NsbCommitsCardSaid : Prop := Claim7.holds Tryz.pinned (.plain (OpenSpec.ofChange nsbCommitsSpec)) nsbCommitsCard

/-- THE TIED CARD OF 'chamberlainlaw16.NsbKeeps'. -/
def nsbKeepsCard : Claim7 := { stood := { row := nsbKeepsRow, standIns := [], harness := (true, "0ed2532e98b326822d8dc85c0e63a15840d01d5ffa4ebc83c00e5a1044e44ca2"), looks := false }, kinds := [], alts := [], laidByText := true, laidKinds := [.data], laidTests := true, laidLooks := .later }
def NsbKeepsCardSaid : Prop := Claim7.holds Tryz.pinned (.plain (OpenSpec.ofChange nsbKeepsSpec)) nsbKeepsCard

/-- THE SECOND FORM's CARD OF 'chamberlainlaw16.NsbTickets'. -/
def nsbTicketsUptoCard : Claim7 := { stood := { row := nsbTicketsUptoRow, standIns := [], harness := (true, "0ed2532e98b326822d8dc85c0e63a15840d01d5ffa4ebc83c00e5a1044e44ca2"), looks := false }, kinds := [], alts := [], laidByText := true, laidKinds := [.data], laidTests := true, laidLooks := .later }
def NsbTicketsUptoCardSaid : Prop := Claim7.holds Tryz.pinned (.plain (OpenSpec.upto nsbTicketsSpec)) nsbTicketsUptoCard

/-- THE SECOND FORM's CARD OF 'chamberlainlaw16.NsbBacks'. -/
def nsbBacksUptoCard : Claim7 := { stood := { row := nsbBacksUptoRow, standIns := [], harness := (true, "0ed2532e98b326822d8dc85c0e63a15840d01d5ffa4ebc83c00e5a1044e44ca2"), looks := false }, kinds := [], alts := [], laidByText := true, laidKinds := [.data], laidTests := true, laidLooks := .later }
def NsbBacksUptoCardSaid : Prop := Claim7.holds Tryz.pinned (.plain (OpenSpec.upto nsbBacksSpec)) nsbBacksUptoCard

/-- THE SECOND FORM's CARD OF 'chamberlainlaw16.NsbCommits'. -/
def nsbCommitsUptoCard : Claim7 := { stood := { row := nsbCommitsUptoRow, standIns := [], harness := (true, "0ed2532e98b326822d8dc85c0e63a15840d01d5ffa4ebc83c00e5a1044e44ca2"), looks := false }, kinds := [], alts := [], laidByText := true, laidKinds := [.data], laidTests := true, laidLooks := .later }
def NsbCommitsUptoCardSaid : Prop := Claim7.holds Tryz.pinned (.plain (OpenSpec.upto nsbCommitsSpec)) nsbCommitsUptoCard

/-- THE SECOND FORM's CARD OF 'chamberlainlaw16.NsbKeeps'. -/
def nsbKeepsUptoCard : Claim7 := { stood := { row := nsbKeepsUptoRow, standIns := [], harness := (true, "0ed2532e98b326822d8dc85c0e63a15840d01d5ffa4ebc83c00e5a1044e44ca2"), looks := false }, kinds := [], alts := [], laidByText := true, laidKinds := [.data], laidTests := true, laidLooks := .later }
def NsbKeepsUptoCardSaid : Prop := Claim7.holds Tryz.pinned (.plain (OpenSpec.upto nsbKeepsSpec)) nsbKeepsUptoCard
end Rows
end Go.Proofs.YtokifenilhlgbaaGreatDoor
