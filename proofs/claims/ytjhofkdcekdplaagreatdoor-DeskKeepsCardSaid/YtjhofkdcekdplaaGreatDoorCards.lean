/-
  DERIVED. GIVEN WITH THE SEED: THE CARDS: each row of YtjhofkdcekdplaaGreatDoorRows.lean that lists a variable, with what it lists TIED to the program's text (the seventh form; the later family's looks); each row that meets fmt, with fmt's text TOLD by the authors' own Lean function (tested against real Go, not proved from fmt's source: count such statements apart). THE CARD IS WHAT COUNTS. Prove the row's statement (the work); the ties are given (YtjhofkdcekdplaaGreatDoorTie.lean); close each card by the builder's one call (the guide's Derived/Test/ToyasCard.lean, 'card_holds'). Laid BY PROGRAM, IN A SANDBOX (cutbox-door.mjs). By AI agents, Wed Nov 11 2026. No macro, syntax, notation, axiom, sorry.
-/
import Derived.Test.YtjhofkdcekdplaaGreatDoorRows
import GoSem.ClaimSeven
namespace Go.Proofs.YtjhofkdcekdplaaGreatDoor
namespace Rows

/-- THE TIED CARD OF 'chamberlainlaw12.DeskForms'. -/
def deskFormsCard : Claim7 := { stood := { row := deskFormsRow, standIns := [], harness := (true, "6780281cbed259f982ccfa037b899fc5f396b7c6d3f90fb5b4749b27e1afe852"), looks := false }, kinds := [], alts := [], laidByText := true, laidKinds := [.data], laidTests := true, laidLooks := .later }
def DeskFormsCardSaid : Prop := Claim7.holds Tryz.pinned (.plain (OpenSpec.ofChange deskFormsSpec)) deskFormsCard

/-- THE TIED CARD OF 'chamberlainlaw12.DeskSeals'. -/
def deskSealsCard : Claim7 := { stood := { row := deskSealsRow, standIns := [], harness := (true, "6780281cbed259f982ccfa037b899fc5f396b7c6d3f90fb5b4749b27e1afe852"), looks := false }, kinds := [], alts := [], laidByText := true, laidKinds := [.data], laidTests := true, laidLooks := .later }
def DeskSealsCardSaid : Prop := Claim7.holds Tryz.pinned (.plain (OpenSpec.ofChange deskSealsSpec)) deskSealsCard

/-- THE TIED CARD OF 'chamberlainlaw12.DeskSends'. -/
def deskSendsCard : Claim7 := { stood := { row := deskSendsRow, standIns := [], harness := (true, "6780281cbed259f982ccfa037b899fc5f396b7c6d3f90fb5b4749b27e1afe852"), looks := false }, kinds := [], alts := [], laidByText := true, laidKinds := [.data], laidTests := true, laidLooks := .later }
def DeskSendsCardSaid : Prop := Claim7.holds Tryz.pinned (.plain (OpenSpec.ofChange deskSendsSpec)) deskSendsCard

/-- THE TIED CARD OF 'chamberlainlaw12.DeskOpens'. -/
def deskOpensCard : Claim7 := { stood := { row := deskOpensRow, standIns := [], harness := (true, "6780281cbed259f982ccfa037b899fc5f396b7c6d3f90fb5b4749b27e1afe852"), looks := false }, kinds := [], alts := [], laidByText := true, laidKinds := [.data], laidTests := true, laidLooks := .later }
def DeskOpensCardSaid : Prop := Claim7.holds Tryz.pinned (.plain (OpenSpec.ofChange deskOpensSpec)) deskOpensCard

/-- THE TIED CARD OF 'chamberlainlaw12.DeskSent'. -/
def deskSentCard : Claim7 := { stood := { row := deskSentRow, standIns := [], harness := (true, "6780281cbed259f982ccfa037b899fc5f396b7c6d3f90fb5b4749b27e1afe852"), looks := false }, kinds := [], alts := [], laidByText := true, laidKinds := [.data], laidTests := true, laidLooks := .later }
def DeskSentCardSaid : Prop := Claim7.holds Tryz.pinned (.plain (OpenSpec.ofChange deskSentSpec)) deskSentCard

/-- THE TIED CARD OF 'chamberlainlaw12.DeskKeeps'. -/
def deskKeepsCard : Claim7 := { stood := { row := deskKeepsRow, standIns := [], harness := (true, "6780281cbed259f982ccfa037b899fc5f396b7c6d3f90fb5b4749b27e1afe852"), looks := false }, kinds := [], alts := [], laidByText := true, laidKinds := [.data], laidTests := true, laidLooks := .later }
def DeskKeepsCardSaid : Prop := Claim7.holds Tryz.pinned (.plain (OpenSpec.ofChange deskKeepsSpec)) deskKeepsCard

/-- THE SECOND FORM's CARD OF 'chamberlainlaw12.DeskForms'. -/
def deskFormsUptoCard : Claim7 := { stood := { row := deskFormsUptoRow, standIns := [], harness := (true, "6780281cbed259f982ccfa037b899fc5f396b7c6d3f90fb5b4749b27e1afe852"), looks := false }, kinds := [], alts := [], laidByText := true, laidKinds := [.data], laidTests := true, laidLooks := .later }
def DeskFormsUptoCardSaid : Prop := Claim7.holds Tryz.pinned (.plain (OpenSpec.upto deskFormsSpec)) deskFormsUptoCard

/-- THE SECOND FORM's CARD OF 'chamberlainlaw12.DeskSeals'. -/
def deskSealsUptoCard : Claim7 := { stood := { row := deskSealsUptoRow, standIns := [], harness := (true, "6780281cbed259f982ccfa037b899fc5f396b7c6d3f90fb5b4749b27e1afe852"), looks := false }, kinds := [], alts := [], laidByText := true, laidKinds := [.data], laidTests := true, laidLooks := .later }
def DeskSealsUptoCardSaid : Prop := Claim7.holds Tryz.pinned (.plain (OpenSpec.upto deskSealsSpec)) deskSealsUptoCard

/-- THE SECOND FORM's CARD OF 'chamberlainlaw12.DeskSends'. -/
def deskSendsUptoCard : Claim7 := { stood := { row := deskSendsUptoRow, standIns := [], harness := (true, "6780281cbed259f982ccfa037b899fc5f396b7c6d3f90fb5b4749b27e1afe852"), looks := false }, kinds := [], alts := [], laidByText := true, laidKinds := [.data], laidTests := true, laidLooks := .later }
def DeskSendsUptoCardSaid : Prop := Claim7.holds Tryz.pinned (.plain (OpenSpec.upto deskSendsSpec)) deskSendsUptoCard

/-- THE SECOND FORM's CARD OF 'chamberlainlaw12.DeskOpens'. -/
def deskOpensUptoCard : Claim7 := { stood := { row := deskOpensUptoRow, standIns := [], harness := (true, "6780281cbed259f982ccfa037b899fc5f396b7c6d3f90fb5b4749b27e1afe852"), looks := false }, kinds := [], alts := [], laidByText := true, laidKinds := [.data], laidTests := true, laidLooks := .later }
def DeskOpensUptoCardSaid : Prop := Claim7.holds Tryz.pinned (.plain (OpenSpec.upto deskOpensSpec)) deskOpensUptoCard

/-- THE SECOND FORM's CARD OF 'chamberlainlaw12.DeskSent'. -/
def deskSentUptoCard : Claim7 := { stood := { row := deskSentUptoRow, standIns := [], harness := (true, "6780281cbed259f982ccfa037b899fc5f396b7c6d3f90fb5b4749b27e1afe852"), looks := false }, kinds := [], alts := [], laidByText := true, laidKinds := [.data], laidTests := true, laidLooks := .later }
def DeskSentUptoCardSaid : Prop := Claim7.holds Tryz.pinned (.plain (OpenSpec.upto deskSentSpec)) deskSentUptoCard

/-- THE SECOND FORM's CARD OF 'chamberlainlaw12.DeskKeeps'. -/
def deskKeepsUptoCard : Claim7 := { stood := { row := deskKeepsUptoRow, standIns := [], harness := (true, "6780281cbed259f982ccfa037b899fc5f396b7c6d3f90fb5b4749b27e1afe852"), looks := false }, kinds := [], alts := [], laidByText := true, laidKinds := [.data], laidTests := true, laidLooks := .later }
def DeskKeepsUptoCardSaid : Prop := Claim7.holds Tryz.pinned (.plain (OpenSpec.upto deskKeepsSpec)) deskKeepsUptoCard
end Rows
end Go.Proofs.YtjhofkdcekdplaaGreatDoor
