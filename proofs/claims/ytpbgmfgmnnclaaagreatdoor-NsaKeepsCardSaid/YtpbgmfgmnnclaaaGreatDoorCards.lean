/-
  DERIVED. GIVEN WITH THE SEED: THE CARDS: each row of YtpbgmfgmnnclaaaGreatDoorRows.lean that lists a variable, with what it lists TIED to the program's text (the seventh form; the later family's looks); each row that meets fmt, with fmt's text TOLD by the authors' own Lean function (tested against real Go, not proved from fmt's source: count such statements apart). THE CARD IS WHAT COUNTS. Prove the row's statement (the work); the ties are given (YtpbgmfgmnnclaaaGreatDoorTie.lean); close each card by the builder's one call (the guide's Derived/Test/ToyasCard.lean, 'card_holds'). Laid BY PROGRAM, IN A SANDBOX (cutbox-door.mjs). By AI agents, Wed Nov 11 2026. No macro, syntax, notation, axiom, sorry.
-/
import Derived.Test.YtpbgmfgmnnclaaaGreatDoorRows
import GoSem.ClaimSeven
namespace Go.Proofs.YtpbgmfgmnnclaaaGreatDoor
namespace Rows

/-- THE TIED CARD OF 'chamberlainlaw15.NsaStarts'. -/
def nsaStartsCard : Claim7 := { stood := { row := nsaStartsRow, standIns := [], harness := (true, "87658fc5dce1419767548f1990a68a0a222477a04e3b1129c0eeedd29b0b334c"), looks := false }, kinds := [], alts := [], laidByText := true, laidKinds := [.data], laidTests := true, laidLooks := .later }
def NsaStartsCardSaid : Prop := Claim7.holds Tryz.pinned (.plain (OpenSpec.ofChange nsaStartsSpec)) nsaStartsCard

/-- THE TIED CARD OF 'chamberlainlaw15.NsaGrants'. -/
def nsaGrantsCard : Claim7 := { stood := { row := nsaGrantsRow, standIns := [], harness := (true, "87658fc5dce1419767548f1990a68a0a222477a04e3b1129c0eeedd29b0b334c"), looks := false }, kinds := [], alts := [], laidByText := true, laidKinds := [.data], laidTests := true, laidLooks := .later }
def NsaGrantsCardSaid : Prop := Claim7.holds Tryz.pinned (.plain (OpenSpec.ofChange nsaGrantsSpec)) nsaGrantsCard

/-- THE TIED CARD OF 'chamberlainlaw15.NsaEchoes'. -/
def nsaEchoesCard : Claim7 := { stood := { row := nsaEchoesRow, standIns := [], harness := (true, "87658fc5dce1419767548f1990a68a0a222477a04e3b1129c0eeedd29b0b334c"), looks := false }, kinds := [], alts := [], laidByText := true, laidKinds := [.data], laidTests := true, laidLooks := .later }
def NsaEchoesCardSaid : Prop := Claim7.holds Tryz.pinned (.plain (OpenSpec.ofChange nsaEchoesSpec)) nsaEchoesCard

/-- THE TIED CARD OF 'chamberlainlaw15.NsaWaits'. -/
def nsaWaitsCard : Claim7 := { stood := { row := nsaWaitsRow, standIns := [], harness := (true, "87658fc5dce1419767548f1990a68a0a222477a04e3b1129c0eeedd29b0b334c"), looks := false }, kinds := [], alts := [], laidByText := true, laidKinds := [.data], laidTests := true, laidLooks := .later }
def NsaWaitsCardSaid : Prop := Claim7.holds Tryz.pinned (.plain (OpenSpec.ofChange nsaWaitsSpec)) nsaWaitsCard

/-- THE TIED CARD OF 'chamberlainlaw15.NsaKeeps'. -/
def nsaKeepsCard : Claim7 := { stood := { row := nsaKeepsRow, standIns := [], harness := (true, "87658fc5dce1419767548f1990a68a0a222477a04e3b1129c0eeedd29b0b334c"), looks := false }, kinds := [], alts := [], laidByText := true, laidKinds := [.data], laidTests := true, laidLooks := .later }
def NsaKeepsCardSaid : Prop := Claim7.holds Tryz.pinned (.plain (OpenSpec.ofChange nsaKeepsSpec)) nsaKeepsCard

/-- THE SECOND FORM's CARD OF 'chamberlainlaw15.NsaStarts'. -/
def nsaStartsUptoCard : Claim7 := { stood := { row := nsaStartsUptoRow, standIns := [], harness := (true, "87658fc5dce1419767548f1990a68a0a222477a04e3b1129c0eeedd29b0b334c"), looks := false }, kinds := [], alts := [], laidByText := true, laidKinds := [.data], laidTests := true, laidLooks := .later }
def NsaStartsUptoCardSaid : Prop := Claim7.holds Tryz.pinned (.plain (OpenSpec.upto nsaStartsSpec)) nsaStartsUptoCard

/-- THE SECOND FORM's CARD OF 'chamberlainlaw15.NsaGrants'. -/
def nsaGrantsUptoCard : Claim7 := { stood := { row := nsaGrantsUptoRow, standIns := [], harness := (true, "87658fc5dce1419767548f1990a68a0a222477a04e3b1129c0eeedd29b0b334c"), looks := false }, kinds := [], alts := [], laidByText := true, laidKinds := [.data], laidTests := true, laidLooks := .later }
def NsaGrantsUptoCardSaid : Prop := Claim7.holds Tryz.pinned (.plain (OpenSpec.upto nsaGrantsSpec)) nsaGrantsUptoCard

/-- THE SECOND FORM's CARD OF 'chamberlainlaw15.NsaEchoes'. -/
def nsaEchoesUptoCard : Claim7 := { stood := { row := nsaEchoesUptoRow, standIns := [], harness := (true, "87658fc5dce1419767548f1990a68a0a222477a04e3b1129c0eeedd29b0b334c"), looks := false }, kinds := [], alts := [], laidByText := true, laidKinds := [.data], laidTests := true, laidLooks := .later }
def NsaEchoesUptoCardSaid : Prop := Claim7.holds Tryz.pinned (.plain (OpenSpec.upto nsaEchoesSpec)) nsaEchoesUptoCard

/-- THE SECOND FORM's CARD OF 'chamberlainlaw15.NsaWaits'. -/
def nsaWaitsUptoCard : Claim7 := { stood := { row := nsaWaitsUptoRow, standIns := [], harness := (true, "87658fc5dce1419767548f1990a68a0a222477a04e3b1129c0eeedd29b0b334c"), looks := false }, kinds := [], alts := [], laidByText := true, laidKinds := [.data], laidTests := true, laidLooks := .later }
def NsaWaitsUptoCardSaid : Prop := Claim7.holds Tryz.pinned (.plain (OpenSpec.upto nsaWaitsSpec)) nsaWaitsUptoCard

/-- THE SECOND FORM's CARD OF 'chamberlainlaw15.NsaKeeps'. -/
def nsaKeepsUptoCard : Claim7 := { stood := { row := nsaKeepsUptoRow, standIns := [], harness := (true, "87658fc5dce1419767548f1990a68a0a222477a04e3b1129c0eeedd29b0b334c"), looks := false }, kinds := [], alts := [], laidByText := true, laidKinds := [.data], laidTests := true, laidLooks := .later }
def NsaKeepsUptoCardSaid : Prop := Claim7.holds Tryz.pinned (.plain (OpenSpec.upto nsaKeepsSpec)) nsaKeepsUptoCard
end Rows
end Go.Proofs.YtpbgmfgmnnclaaaGreatDoor
