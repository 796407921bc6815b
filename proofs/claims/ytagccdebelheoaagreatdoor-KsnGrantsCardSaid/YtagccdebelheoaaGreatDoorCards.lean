/-
  DERIVED. GIVEN WITH THE SEED: THE CARDS: each row of YtagccdebelheoaaGreatDoorRows.lean that lists a variable, with what it lists TIED to the program's text (the seventh form; the later family's looks); each row that meets fmt, with fmt's text TOLD by the authors' own Lean function (tested against real Go, not proved from fmt's source: count such statements apart). THE CARD IS WHAT COUNTS. Prove the row's statement (the work); the ties are given (YtagccdebelheoaaGreatDoorTie.lean); close each card by the builder's one call (the guide's Derived/Test/ToyasCard.lean, 'card_holds'). Laid BY PROGRAM, IN A SANDBOX (cutbox-door.mjs). By AI agents, Wed Nov 11 2026. No macro, syntax, notation, axiom, sorry.
-/
import Derived.Test.YtagccdebelheoaaGreatDoorRows
import GoSem.ClaimSeven
namespace Go.Proofs.YtagccdebelheoaaGreatDoor
namespace Rows

/-- THE TIED CARD OF 'chamberlainlaw13.KsnGrants'. -/
def ksnGrantsCard : Claim7 := { stood := { row := ksnGrantsRow, standIns := [], harness := (true, "b110b37147bdcb7a0f8cb77ee7a241f6578adf2f2437f20f2b390cb210573ed3"), looks := false }, kinds := [], alts := [], laidByText := true, laidKinds := [.data], laidTests := true, laidLooks := .later }
def KsnGrantsCardSaid : Prop := Claim7.holds Tryz.pinned (.plain (OpenSpec.ofChange ksnGrantsSpec)) ksnGrantsCard

/-- THE TIED CARD OF 'chamberlainlaw13.KsnKeeps'. -/
def ksnKeepsCard : Claim7 := { stood := { row := ksnKeepsRow, standIns := [], harness := (true, "b110b37147bdcb7a0f8cb77ee7a241f6578adf2f2437f20f2b390cb210573ed3"), looks := false }, kinds := [], alts := [], laidByText := true, laidKinds := [.data], laidTests := true, laidLooks := .later }
def KsnKeepsCardSaid : Prop := Claim7.holds Tryz.pinned (.plain (OpenSpec.ofChange ksnKeepsSpec)) ksnKeepsCard

/-- THE TIED CARD OF 'chamberlainlaw13.KsnClock'. -/
def ksnClockCard : Claim7 := { stood := { row := ksnClockRow, standIns := [], harness := (true, "b110b37147bdcb7a0f8cb77ee7a241f6578adf2f2437f20f2b390cb210573ed3"), looks := false }, kinds := [], alts := [], laidByText := true, laidKinds := [.data], laidTests := true, laidLooks := .later }
def KsnClockCardSaid : Prop := Claim7.holds Tryz.pinned (.plain (OpenSpec.ofChange ksnClockSpec)) ksnClockCard

/-- THE SECOND FORM's CARD OF 'chamberlainlaw13.KsnGrants'. -/
def ksnGrantsUptoCard : Claim7 := { stood := { row := ksnGrantsUptoRow, standIns := [], harness := (true, "b110b37147bdcb7a0f8cb77ee7a241f6578adf2f2437f20f2b390cb210573ed3"), looks := false }, kinds := [], alts := [], laidByText := true, laidKinds := [.data], laidTests := true, laidLooks := .later }
def KsnGrantsUptoCardSaid : Prop := Claim7.holds Tryz.pinned (.plain (OpenSpec.upto ksnGrantsSpec)) ksnGrantsUptoCard

/-- THE SECOND FORM's CARD OF 'chamberlainlaw13.KsnKeeps'. -/
def ksnKeepsUptoCard : Claim7 := { stood := { row := ksnKeepsUptoRow, standIns := [], harness := (true, "b110b37147bdcb7a0f8cb77ee7a241f6578adf2f2437f20f2b390cb210573ed3"), looks := false }, kinds := [], alts := [], laidByText := true, laidKinds := [.data], laidTests := true, laidLooks := .later }
def KsnKeepsUptoCardSaid : Prop := Claim7.holds Tryz.pinned (.plain (OpenSpec.upto ksnKeepsSpec)) ksnKeepsUptoCard

/-- THE SECOND FORM's CARD OF 'chamberlainlaw13.KsnClock'. -/
def ksnClockUptoCard : Claim7 := { stood := { row := ksnClockUptoRow, standIns := [], harness := (true, "b110b37147bdcb7a0f8cb77ee7a241f6578adf2f2437f20f2b390cb210573ed3"), looks := false }, kinds := [], alts := [], laidByText := true, laidKinds := [.data], laidTests := true, laidLooks := .later }
def KsnClockUptoCardSaid : Prop := Claim7.holds Tryz.pinned (.plain (OpenSpec.upto ksnClockSpec)) ksnClockUptoCard
end Rows
end Go.Proofs.YtagccdebelheoaaGreatDoor
