/-
  DERIVED. GIVEN WITH THE SEED: THE CARDS: each row of YthfhhciogimhjaaGreatDoorRows.lean that lists a variable, with what it lists TIED to the program's text (the seventh form; the later family's looks); each row that meets fmt, with fmt's text TOLD by the authors' own Lean function (tested against real Go, not proved from fmt's source: count such statements apart). THE CARD IS WHAT COUNTS. Prove the row's statement (the work); the ties are given (YthfhhciogimhjaaGreatDoorTie.lean); close each card by the builder's one call (the guide's Derived/Test/ToyasCard.lean, 'card_holds'). Laid BY PROGRAM, IN A SANDBOX (cutbox-door.mjs). By AI agents, Wed Nov 11 2026. No macro, syntax, notation, axiom, sorry.
-/
import Derived.Test.YthfhhciogimhjaaGreatDoorRows
import GoSem.ClaimSeven
namespace Go.Proofs.YthfhhciogimhjaaGreatDoor
namespace Rows

/-- THE TIED CARD OF 'chamberlainlaw14.KsoDoes'. -/
def ksoDoesCard : Claim7 := { stood := { row := ksoDoesRow, standIns := [], harness := (true, "9f3be4000ca55064d561109cf97c58ed6738027efad7dfa16d1ca2d488d9b90e"), looks := false }, kinds := [], alts := [], laidByText := true, laidKinds := [.data], laidTests := true, laidLooks := .later }
def KsoDoesCardSaid : Prop := Claim7.holds Tryz.pinned (.plain (OpenSpec.ofChange ksoDoesSpec)) ksoDoesCard

/-- THE TIED CARD OF 'chamberlainlaw14.KsoKeeps'. -/
def ksoKeepsCard : Claim7 := { stood := { row := ksoKeepsRow, standIns := [], harness := (true, "9f3be4000ca55064d561109cf97c58ed6738027efad7dfa16d1ca2d488d9b90e"), looks := false }, kinds := [], alts := [], laidByText := true, laidKinds := [.data], laidTests := true, laidLooks := .later }
def KsoKeepsCardSaid : Prop := Claim7.holds Tryz.pinned (.plain (OpenSpec.ofChange ksoKeepsSpec)) ksoKeepsCard

/-- THE SECOND FORM's CARD OF 'chamberlainlaw14.KsoDoes'. -/
def ksoDoesUptoCard : Claim7 := { stood := { row := ksoDoesUptoRow, standIns := [], harness := (true, "9f3be4000ca55064d561109cf97c58ed6738027efad7dfa16d1ca2d488d9b90e"), looks := false }, kinds := [], alts := [], laidByText := true, laidKinds := [.data], laidTests := true, laidLooks := .later }
def KsoDoesUptoCardSaid : Prop := Claim7.holds Tryz.pinned (.plain (OpenSpec.upto ksoDoesSpec)) ksoDoesUptoCard

/-- THE SECOND FORM's CARD OF 'chamberlainlaw14.KsoKeeps'. -/
def ksoKeepsUptoCard : Claim7 := { stood := { row := ksoKeepsUptoRow, standIns := [], harness := (true, "9f3be4000ca55064d561109cf97c58ed6738027efad7dfa16d1ca2d488d9b90e"), looks := false }, kinds := [], alts := [], laidByText := true, laidKinds := [.data], laidTests := true, laidLooks := .later }
def KsoKeepsUptoCardSaid : Prop := Claim7.holds Tryz.pinned (.plain (OpenSpec.upto ksoKeepsSpec)) ksoKeepsUptoCard
end Rows
end Go.Proofs.YthfhhciogimhjaaGreatDoor
