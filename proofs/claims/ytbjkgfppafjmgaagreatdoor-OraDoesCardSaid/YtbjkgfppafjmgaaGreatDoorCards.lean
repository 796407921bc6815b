/-
  DERIVED. GIVEN WITH THE SEED: THE CARDS: each row of YtbjkgfppafjmgaaGreatDoorRows.lean that lists a variable, with what it lists TIED to the program's text (the seventh form; the later family's looks); each row that meets fmt, with fmt's text TOLD by the authors' own Lean function (tested against real Go, not proved from fmt's source: count such statements apart). THE CARD IS WHAT COUNTS. Prove the row's statement (the work); the ties are given (YtbjkgfppafjmgaaGreatDoorTie.lean); close each card by the builder's one call (the guide's Derived/Test/ToyasCard.lean, 'card_holds'). Laid BY PROGRAM, IN A SANDBOX (cutbox-door.mjs). By AI agents, Wed Nov 11 2026. No macro, syntax, notation, axiom, sorry.
-/
import Derived.Test.YtbjkgfppafjmgaaGreatDoorRows
import GoSem.ClaimSeven
namespace Go.Proofs.YtbjkgfppafjmgaaGreatDoor
namespace Rows

/-- THE TIED CARD OF 'chamberlainlaw17.OraDoes'. -/
def oraDoesCard : Claim7 := { stood := { row := oraDoesRow, standIns := [], harness := (true, "7a5ee97ab6e66079e1d4b2ba9aaca6437c5cc839d1bcad1439f52a0324535416"), looks := false }, kinds := [], alts := [], laidByText := true, laidKinds := [.data], laidTests := true, laidLooks := .later }
def OraDoesCardSaid : Prop := Claim7.holds Tryz.pinned (.plain (OpenSpec.ofChange oraDoesSpec)) oraDoesCard

/-- THE TIED CARD OF 'chamberlainlaw17.OraStarts'. -/
def oraStartsCard : Claim7 := { stood := { row := oraStartsRow, standIns := [], harness := (true, "7a5ee97ab6e66079e1d4b2ba9aaca6437c5cc839d1bcad1439f52a0324535416"), looks := false }, kinds := [], alts := [], laidByText := true, laidKinds := [.data], laidTests := true, laidLooks := .later }
def OraStartsCardSaid : Prop := Claim7.holds Tryz.pinned (.plain (OpenSpec.ofChange oraStartsSpec)) oraStartsCard

/-- THE TIED CARD OF 'chamberlainlaw17.OraCommits'. -/
def oraCommitsCard : Claim7 := { stood := { row := oraCommitsRow, standIns := [], harness := (true, "7a5ee97ab6e66079e1d4b2ba9aaca6437c5cc839d1bcad1439f52a0324535416"), looks := false }, kinds := [], alts := [], laidByText := true, laidKinds := [.data], laidTests := true, laidLooks := .later }
def OraCommitsCardSaid : Prop := Claim7.holds Tryz.pinned (.plain (OpenSpec.ofChange oraCommitsSpec)) oraCommitsCard

/-- THE TIED CARD OF 'chamberlainlaw17.OraKeeps'. -/
def oraKeepsCard : Claim7 := { stood := { row := oraKeepsRow, standIns := [], harness := (true, "7a5ee97ab6e66079e1d4b2ba9aaca6437c5cc839d1bcad1439f52a0324535416"), looks := false }, kinds := [], alts := [], laidByText := true, laidKinds := [.data], laidTests := true, laidLooks := .later }
def OraKeepsCardSaid : Prop := Claim7.holds Tryz.pinned (.plain (OpenSpec.ofChange oraKeepsSpec)) oraKeepsCard

/-- THE TIED CARD OF 'chamberlainlaw17.OraTwice'. -/
def oraTwiceCard : Claim7 := { stood := { row := oraTwiceRow, standIns := [], harness := (true, "7a5ee97ab6e66079e1d4b2ba9aaca6437c5cc839d1bcad1439f52a0324535416"), looks := false }, kinds := [], alts := [], laidByText := true, laidKinds := [.data], laidTests := true, laidLooks := .later }
def OraTwiceCardSaid : Prop := Claim7.holds Tryz.pinned (.plain (OpenSpec.ofChange oraTwiceSpec)) oraTwiceCard

/-- THE SECOND FORM's CARD OF 'chamberlainlaw17.OraDoes'. -/
def oraDoesUptoCard : Claim7 := { stood := { row := oraDoesUptoRow, standIns := [], harness := (true, "7a5ee97ab6e66079e1d4b2ba9aaca6437c5cc839d1bcad1439f52a0324535416"), looks := false }, kinds := [], alts := [], laidByText := true, laidKinds := [.data], laidTests := true, laidLooks := .later }
def OraDoesUptoCardSaid : Prop := Claim7.holds Tryz.pinned (.plain (OpenSpec.upto oraDoesSpec)) oraDoesUptoCard

/-- THE SECOND FORM's CARD OF 'chamberlainlaw17.OraStarts'. -/
def oraStartsUptoCard : Claim7 := { stood := { row := oraStartsUptoRow, standIns := [], harness := (true, "7a5ee97ab6e66079e1d4b2ba9aaca6437c5cc839d1bcad1439f52a0324535416"), looks := false }, kinds := [], alts := [], laidByText := true, laidKinds := [.data], laidTests := true, laidLooks := .later }
def OraStartsUptoCardSaid : Prop := Claim7.holds Tryz.pinned (.plain (OpenSpec.upto oraStartsSpec)) oraStartsUptoCard

/-- THE SECOND FORM's CARD OF 'chamberlainlaw17.OraCommits'. -/
def oraCommitsUptoCard : Claim7 := { stood := { row := oraCommitsUptoRow, standIns := [], harness := (true, "7a5ee97ab6e66079e1d4b2ba9aaca6437c5cc839d1bcad1439f52a0324535416"), looks := false }, kinds := [], alts := [], laidByText := true, laidKinds := [.data], laidTests := true, laidLooks := .later }
def OraCommitsUptoCardSaid : Prop := Claim7.holds Tryz.pinned (.plain (OpenSpec.upto oraCommitsSpec)) oraCommitsUptoCard

/-- THE SECOND FORM's CARD OF 'chamberlainlaw17.OraKeeps'. -/
def oraKeepsUptoCard : Claim7 := { stood := { row := oraKeepsUptoRow, standIns := [], harness := (true, "7a5ee97ab6e66079e1d4b2ba9aaca6437c5cc839d1bcad1439f52a0324535416"), looks := false }, kinds := [], alts := [], laidByText := true, laidKinds := [.data], laidTests := true, laidLooks := .later }
def OraKeepsUptoCardSaid : Prop := Claim7.holds Tryz.pinned (.plain (OpenSpec.upto oraKeepsSpec)) oraKeepsUptoCard

/-- THE SECOND FORM's CARD OF 'chamberlainlaw17.OraTwice'. -/
def oraTwiceUptoCard : Claim7 := { stood := { row := oraTwiceUptoRow, standIns := [], harness := (true, "7a5ee97ab6e66079e1d4b2ba9aaca6437c5cc839d1bcad1439f52a0324535416"), looks := false }, kinds := [], alts := [], laidByText := true, laidKinds := [.data], laidTests := true, laidLooks := .later }
def OraTwiceUptoCardSaid : Prop := Claim7.holds Tryz.pinned (.plain (OpenSpec.upto oraTwiceSpec)) oraTwiceUptoCard
end Rows
end Go.Proofs.YtbjkgfppafjmgaaGreatDoor
