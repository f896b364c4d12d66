/-
  DERIVED. GIVEN WITH THE SEED: THE CARDS: each row of YtbainiblffcjgaaDoorRows.lean that lists a variable, with what it lists TIED to the program's text (the seventh form; the later family's looks); each row that meets fmt, with fmt's text TOLD by the authors' own Lean function (tested against real Go, not proved from fmt's source: count such statements apart). THE CARD IS WHAT COUNTS. Prove the row's statement (the work); the ties are given (YtbainiblffcjgaaDoorTie.lean); close each card by the builder's one call (the guide's Derived/Test/ToyasCard.lean, 'card_holds'). Laid BY PROGRAM, IN A SANDBOX (cutbox-door.mjs). By AI agents, Wed Nov 11 2026. No macro, syntax, notation, axiom, sorry.
-/
import Derived.Test.YtbainiblffcjgaaDoorRows
import GoSem.ClaimSeven
namespace Go.Proofs.YtbainiblffcjgaaDoor
namespace Rows

/-- THE TIED CARD OF 'coffretlaw08.GcmSeals'. -/
def gcmSealsCard : Claim7 := { stood := { row := gcmSealsRow, standIns := [], harness := (true, "40dbe4f96102c923ccb8ae5813a54e013912648dc37848cc3db62191cc928c1f"), looks := false }, kinds := [], alts := [], laidByText := true, laidKinds := [.data], laidTests := true, laidLooks := .later }
def GcmSealsCardSaid : Prop := Claim7.holds Tryd.pinned (.plain (OpenSpec.ofChange gcmSealsSpec)) gcmSealsCard

/-- THE TIED CARD OF 'coffretlaw08.GcmOpens'. -/
def gcmOpensCard : Claim7 := { stood := { row := gcmOpensRow, standIns := [], harness := (true, "40dbe4f96102c923ccb8ae5813a54e013912648dc37848cc3db62191cc928c1f"), looks := false }, kinds := [], alts := [], laidByText := true, laidKinds := [.data], laidTests := true, laidLooks := .later }
def GcmOpensCardSaid : Prop := Claim7.holds Tryd.pinned (.plain (OpenSpec.ofChange gcmOpensSpec)) gcmOpensCard

/-- THE TIED CARD OF 'coffretlaw08.GcmBack'. -/
def gcmBackCard : Claim7 := { stood := { row := gcmBackRow, standIns := [], harness := (true, "40dbe4f96102c923ccb8ae5813a54e013912648dc37848cc3db62191cc928c1f"), looks := false }, kinds := [], alts := [], laidByText := true, laidKinds := [.data], laidTests := true, laidLooks := .later }
def GcmBackCardSaid : Prop := Claim7.holds Tryd.pinned (.plain (OpenSpec.ofChange gcmBackSpec)) gcmBackCard

/-- THE TIED CARD OF 'coffretlaw08.GcmLong'. -/
def gcmLongCard : Claim7 := { stood := { row := gcmLongRow, standIns := [], harness := (true, "40dbe4f96102c923ccb8ae5813a54e013912648dc37848cc3db62191cc928c1f"), looks := false }, kinds := [], alts := [], laidByText := true, laidKinds := [.data], laidTests := true, laidLooks := .later }
def GcmLongCardSaid : Prop := Claim7.holds Tryd.pinned (.plain (OpenSpec.ofChange gcmLongSpec)) gcmLongCard

/-- THE TIED CARD OF 'coffretlaw08.GcmKeeps'. -/
def gcmKeepsCard : Claim7 := { stood := { row := gcmKeepsRow, standIns := [], harness := (true, "40dbe4f96102c923ccb8ae5813a54e013912648dc37848cc3db62191cc928c1f"), looks := false }, kinds := [], alts := [], laidByText := true, laidKinds := [.data], laidTests := true, laidLooks := .later }
def GcmKeepsCardSaid : Prop := Claim7.holds Tryd.pinned (.plain (OpenSpec.ofChange gcmKeepsSpec)) gcmKeepsCard

/-- THE TIED CARD OF 'coffretlaw08.GcmBegins'. -/
def gcmBeginsCard : Claim7 := { stood := { row := gcmBeginsRow, standIns := [], harness := (true, "40dbe4f96102c923ccb8ae5813a54e013912648dc37848cc3db62191cc928c1f"), looks := false }, kinds := [], alts := [], laidByText := true, laidKinds := [.data], laidTests := true, laidLooks := .later }
def GcmBeginsCardSaid : Prop := Claim7.holds Tryd.pinned (.plain (OpenSpec.ofChange gcmBeginsSpec)) gcmBeginsCard

/-- THE SECOND FORM's CARD OF 'coffretlaw08.GcmSeals'. -/
def gcmSealsUptoCard : Claim7 := { stood := { row := gcmSealsUptoRow, standIns := [], harness := (true, "40dbe4f96102c923ccb8ae5813a54e013912648dc37848cc3db62191cc928c1f"), looks := false }, kinds := [], alts := [], laidByText := true, laidKinds := [.data], laidTests := true, laidLooks := .later }
def GcmSealsUptoCardSaid : Prop := Claim7.holds Tryd.pinned (.plain (OpenSpec.upto gcmSealsSpec)) gcmSealsUptoCard

/-- THE SECOND FORM's CARD OF 'coffretlaw08.GcmOpens'. -/
def gcmOpensUptoCard : Claim7 := { stood := { row := gcmOpensUptoRow, standIns := [], harness := (true, "40dbe4f96102c923ccb8ae5813a54e013912648dc37848cc3db62191cc928c1f"), looks := false }, kinds := [], alts := [], laidByText := true, laidKinds := [.data], laidTests := true, laidLooks := .later }
def GcmOpensUptoCardSaid : Prop := Claim7.holds Tryd.pinned (.plain (OpenSpec.upto gcmOpensSpec)) gcmOpensUptoCard

/-- THE SECOND FORM's CARD OF 'coffretlaw08.GcmBack'. -/
def gcmBackUptoCard : Claim7 := { stood := { row := gcmBackUptoRow, standIns := [], harness := (true, "40dbe4f96102c923ccb8ae5813a54e013912648dc37848cc3db62191cc928c1f"), looks := false }, kinds := [], alts := [], laidByText := true, laidKinds := [.data], laidTests := true, laidLooks := .later }
def GcmBackUptoCardSaid : Prop := Claim7.holds Tryd.pinned (.plain (OpenSpec.upto gcmBackSpec)) gcmBackUptoCard

/-- THE SECOND FORM's CARD OF 'coffretlaw08.GcmLong'. -/
def gcmLongUptoCard : Claim7 := { stood := { row := gcmLongUptoRow, standIns := [], harness := (true, "40dbe4f96102c923ccb8ae5813a54e013912648dc37848cc3db62191cc928c1f"), looks := false }, kinds := [], alts := [], laidByText := true, laidKinds := [.data], laidTests := true, laidLooks := .later }
def GcmLongUptoCardSaid : Prop := Claim7.holds Tryd.pinned (.plain (OpenSpec.upto gcmLongSpec)) gcmLongUptoCard

/-- THE SECOND FORM's CARD OF 'coffretlaw08.GcmKeeps'. -/
def gcmKeepsUptoCard : Claim7 := { stood := { row := gcmKeepsUptoRow, standIns := [], harness := (true, "40dbe4f96102c923ccb8ae5813a54e013912648dc37848cc3db62191cc928c1f"), looks := false }, kinds := [], alts := [], laidByText := true, laidKinds := [.data], laidTests := true, laidLooks := .later }
def GcmKeepsUptoCardSaid : Prop := Claim7.holds Tryd.pinned (.plain (OpenSpec.upto gcmKeepsSpec)) gcmKeepsUptoCard

/-- THE SECOND FORM's CARD OF 'coffretlaw08.GcmBegins'. -/
def gcmBeginsUptoCard : Claim7 := { stood := { row := gcmBeginsUptoRow, standIns := [], harness := (true, "40dbe4f96102c923ccb8ae5813a54e013912648dc37848cc3db62191cc928c1f"), looks := false }, kinds := [], alts := [], laidByText := true, laidKinds := [.data], laidTests := true, laidLooks := .later }
def GcmBeginsUptoCardSaid : Prop := Claim7.holds Tryd.pinned (.plain (OpenSpec.upto gcmBeginsSpec)) gcmBeginsUptoCard
end Rows
end Go.Proofs.YtbainiblffcjgaaDoor
