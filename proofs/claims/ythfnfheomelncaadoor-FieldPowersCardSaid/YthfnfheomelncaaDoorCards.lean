/-
  DERIVED. GIVEN WITH THE SEED: THE CARDS: each row of YthfnfheomelncaaDoorRows.lean that lists a variable, with what it lists TIED to the program's text (the seventh form; the later family's looks); each row that meets fmt, with fmt's text TOLD by the authors' own Lean function (tested against real Go, not proved from fmt's source: count such statements apart). THE CARD IS WHAT COUNTS. Prove the row's statement (the work); the ties are given (YthfnfheomelncaaDoorTie.lean); close each card by the builder's one call (the guide's Derived/Test/ToyasCard.lean, 'card_holds'). Laid BY PROGRAM, IN A SANDBOX (cutbox-door.mjs). By AI agents, Wed Nov 11 2026. No macro, syntax, notation, axiom, sorry.
-/
import Derived.Test.YthfnfheomelncaaDoorRows
import GoSem.ClaimSeven
namespace Go.Proofs.YthfnfheomelncaaDoor
namespace Rows

/-- THE TIED CARD OF 'coffretlaw05.FieldTimes'. -/
def fieldTimesCard : Claim7 := { stood := { row := fieldTimesRow, standIns := [], harness := (true, "90f31a57c0bac8f945e35d6c612cc6f50f67347422fa495c68cbbab3608ba588"), looks := false }, kinds := [], alts := [], laidByText := true, laidKinds := [.data], laidTests := true, laidLooks := .later }
def FieldTimesCardSaid : Prop := Claim7.holds Tryd.pinned (.plain (OpenSpec.ofChange fieldTimesSpec)) fieldTimesCard

/-- THE TIED CARD OF 'coffretlaw05.FieldInverts'. -/
def fieldInvertsCard : Claim7 := { stood := { row := fieldInvertsRow, standIns := [], harness := (true, "90f31a57c0bac8f945e35d6c612cc6f50f67347422fa495c68cbbab3608ba588"), looks := false }, kinds := [], alts := [], laidByText := true, laidKinds := [.data], laidTests := true, laidLooks := .later }
def FieldInvertsCardSaid : Prop := Claim7.holds Tryd.pinned (.plain (OpenSpec.ofChange fieldInvertsSpec)) fieldInvertsCard

/-- THE TIED CARD OF 'coffretlaw05.FieldOrders'. -/
def fieldOrdersCard : Claim7 := { stood := { row := fieldOrdersRow, standIns := [], harness := (true, "90f31a57c0bac8f945e35d6c612cc6f50f67347422fa495c68cbbab3608ba588"), looks := false }, kinds := [], alts := [], laidByText := true, laidKinds := [.data], laidTests := true, laidLooks := .later }
def FieldOrdersCardSaid : Prop := Claim7.holds Tryd.pinned (.plain (OpenSpec.ofChange fieldOrdersSpec)) fieldOrdersCard

/-- THE TIED CARD OF 'coffretlaw05.FieldBoxes'. -/
def fieldBoxesCard : Claim7 := { stood := { row := fieldBoxesRow, standIns := [], harness := (true, "90f31a57c0bac8f945e35d6c612cc6f50f67347422fa495c68cbbab3608ba588"), looks := false }, kinds := [], alts := [], laidByText := true, laidKinds := [.data], laidTests := true, laidLooks := .later }
def FieldBoxesCardSaid : Prop := Claim7.holds Tryd.pinned (.plain (OpenSpec.ofChange fieldBoxesSpec)) fieldBoxesCard

/-- THE TIED CARD OF 'coffretlaw05.FieldPowers'. -/
def fieldPowersCard : Claim7 := { stood := { row := fieldPowersRow, standIns := [], harness := (true, "90f31a57c0bac8f945e35d6c612cc6f50f67347422fa495c68cbbab3608ba588"), looks := false }, kinds := [], alts := [], laidByText := true, laidKinds := [.data], laidTests := true, laidLooks := .later }
def FieldPowersCardSaid : Prop := Claim7.holds Tryd.pinned (.plain (OpenSpec.ofChange fieldPowersSpec)) fieldPowersCard

/-- THE SECOND FORM's CARD OF 'coffretlaw05.FieldTimes'. -/
def fieldTimesUptoCard : Claim7 := { stood := { row := fieldTimesUptoRow, standIns := [], harness := (true, "90f31a57c0bac8f945e35d6c612cc6f50f67347422fa495c68cbbab3608ba588"), looks := false }, kinds := [], alts := [], laidByText := true, laidKinds := [.data], laidTests := true, laidLooks := .later }
def FieldTimesUptoCardSaid : Prop := Claim7.holds Tryd.pinned (.plain (OpenSpec.upto fieldTimesSpec)) fieldTimesUptoCard

/-- THE SECOND FORM's CARD OF 'coffretlaw05.FieldInverts'. -/
def fieldInvertsUptoCard : Claim7 := { stood := { row := fieldInvertsUptoRow, standIns := [], harness := (true, "90f31a57c0bac8f945e35d6c612cc6f50f67347422fa495c68cbbab3608ba588"), looks := false }, kinds := [], alts := [], laidByText := true, laidKinds := [.data], laidTests := true, laidLooks := .later }
def FieldInvertsUptoCardSaid : Prop := Claim7.holds Tryd.pinned (.plain (OpenSpec.upto fieldInvertsSpec)) fieldInvertsUptoCard

/-- THE SECOND FORM's CARD OF 'coffretlaw05.FieldOrders'. -/
def fieldOrdersUptoCard : Claim7 := { stood := { row := fieldOrdersUptoRow, standIns := [], harness := (true, "90f31a57c0bac8f945e35d6c612cc6f50f67347422fa495c68cbbab3608ba588"), looks := false }, kinds := [], alts := [], laidByText := true, laidKinds := [.data], laidTests := true, laidLooks := .later }
def FieldOrdersUptoCardSaid : Prop := Claim7.holds Tryd.pinned (.plain (OpenSpec.upto fieldOrdersSpec)) fieldOrdersUptoCard

/-- THE SECOND FORM's CARD OF 'coffretlaw05.FieldBoxes'. -/
def fieldBoxesUptoCard : Claim7 := { stood := { row := fieldBoxesUptoRow, standIns := [], harness := (true, "90f31a57c0bac8f945e35d6c612cc6f50f67347422fa495c68cbbab3608ba588"), looks := false }, kinds := [], alts := [], laidByText := true, laidKinds := [.data], laidTests := true, laidLooks := .later }
def FieldBoxesUptoCardSaid : Prop := Claim7.holds Tryd.pinned (.plain (OpenSpec.upto fieldBoxesSpec)) fieldBoxesUptoCard

/-- THE SECOND FORM's CARD OF 'coffretlaw05.FieldPowers'. -/
def fieldPowersUptoCard : Claim7 := { stood := { row := fieldPowersUptoRow, standIns := [], harness := (true, "90f31a57c0bac8f945e35d6c612cc6f50f67347422fa495c68cbbab3608ba588"), looks := false }, kinds := [], alts := [], laidByText := true, laidKinds := [.data], laidTests := true, laidLooks := .later }
def FieldPowersUptoCardSaid : Prop := Claim7.holds Tryd.pinned (.plain (OpenSpec.upto fieldPowersSpec)) fieldPowersUptoCard
end Rows
end Go.Proofs.YthfnfheomelncaaDoor
