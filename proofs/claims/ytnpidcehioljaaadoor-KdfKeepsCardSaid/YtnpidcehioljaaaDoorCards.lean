/-
  DERIVED. GIVEN WITH THE SEED: THE CARDS: each row of YtnpidcehioljaaaDoorRows.lean that lists a variable, with what it lists TIED to the program's text (the seventh form; the later family's looks); each row that meets fmt, with fmt's text TOLD by the authors' own Lean function (tested against real Go, not proved from fmt's source: count such statements apart). THE CARD IS WHAT COUNTS. Prove the row's statement (the work); the ties are given (YtnpidcehioljaaaDoorTie.lean); close each card by the builder's one call (the guide's Derived/Test/ToyasCard.lean, 'card_holds'). Laid BY PROGRAM, IN A SANDBOX (cutbox-door.mjs). By AI agents, Wed Nov 11 2026. No macro, syntax, notation, axiom, sorry.
-/
import Derived.Test.YtnpidcehioljaaaDoorRows
import GoSem.ClaimSeven
namespace Go.Proofs.YtnpidcehioljaaaDoor
namespace Rows

/-- THE TIED CARD OF 'coffretlaw04.KdfExpands'. -/
def kdfExpandsCard : Claim7 := { stood := { row := kdfExpandsRow, standIns := [], harness := (true, "6e28621b6a5faf818d6b9fab7f2860d1e7f06c1099d664d0ea119d6efd6608d3"), looks := false }, kinds := [], alts := [], laidByText := true, laidKinds := [.data, .data], laidTests := true, laidLooks := .later }
def KdfExpandsCardSaid : Prop := Claim7.holds Tryd.pinned (.plain (OpenSpec.ofChange kdfExpandsSpec)) kdfExpandsCard

/-- THE TIED CARD OF 'coffretlaw04.KdfBegins'. -/
def kdfBeginsCard : Claim7 := { stood := { row := kdfBeginsRow, standIns := [], harness := (true, "6e28621b6a5faf818d6b9fab7f2860d1e7f06c1099d664d0ea119d6efd6608d3"), looks := false }, kinds := [], alts := [], laidByText := true, laidKinds := [.data, .data], laidTests := true, laidLooks := .later }
def KdfBeginsCardSaid : Prop := Claim7.holds Tryd.pinned (.plain (OpenSpec.ofChange kdfBeginsSpec)) kdfBeginsCard

/-- THE TIED CARD OF 'coffretlaw04.KdfCuts'. -/
def kdfCutsCard : Claim7 := { stood := { row := kdfCutsRow, standIns := [], harness := (true, "6e28621b6a5faf818d6b9fab7f2860d1e7f06c1099d664d0ea119d6efd6608d3"), looks := false }, kinds := [], alts := [], laidByText := true, laidKinds := [.data, .data], laidTests := true, laidLooks := .later }
def KdfCutsCardSaid : Prop := Claim7.holds Tryd.pinned (.plain (OpenSpec.ofChange kdfCutsSpec)) kdfCutsCard

/-- THE TIED CARD OF 'coffretlaw04.KdfKeeps'. -/
def kdfKeepsCard : Claim7 := { stood := { row := kdfKeepsRow, standIns := [], harness := (true, "6e28621b6a5faf818d6b9fab7f2860d1e7f06c1099d664d0ea119d6efd6608d3"), looks := false }, kinds := [], alts := [], laidByText := true, laidKinds := [.data, .data], laidTests := true, laidLooks := .later }
def KdfKeepsCardSaid : Prop := Claim7.holds Tryd.pinned (.plain (OpenSpec.ofChange kdfKeepsSpec)) kdfKeepsCard

/-- THE SECOND FORM's CARD OF 'coffretlaw04.KdfExpands'. -/
def kdfExpandsUptoCard : Claim7 := { stood := { row := kdfExpandsUptoRow, standIns := [], harness := (true, "6e28621b6a5faf818d6b9fab7f2860d1e7f06c1099d664d0ea119d6efd6608d3"), looks := false }, kinds := [], alts := [], laidByText := true, laidKinds := [.data, .data], laidTests := true, laidLooks := .later }
def KdfExpandsUptoCardSaid : Prop := Claim7.holds Tryd.pinned (.plain (OpenSpec.upto kdfExpandsSpec)) kdfExpandsUptoCard

/-- THE SECOND FORM's CARD OF 'coffretlaw04.KdfBegins'. -/
def kdfBeginsUptoCard : Claim7 := { stood := { row := kdfBeginsUptoRow, standIns := [], harness := (true, "6e28621b6a5faf818d6b9fab7f2860d1e7f06c1099d664d0ea119d6efd6608d3"), looks := false }, kinds := [], alts := [], laidByText := true, laidKinds := [.data, .data], laidTests := true, laidLooks := .later }
def KdfBeginsUptoCardSaid : Prop := Claim7.holds Tryd.pinned (.plain (OpenSpec.upto kdfBeginsSpec)) kdfBeginsUptoCard

/-- THE SECOND FORM's CARD OF 'coffretlaw04.KdfCuts'. -/
def kdfCutsUptoCard : Claim7 := { stood := { row := kdfCutsUptoRow, standIns := [], harness := (true, "6e28621b6a5faf818d6b9fab7f2860d1e7f06c1099d664d0ea119d6efd6608d3"), looks := false }, kinds := [], alts := [], laidByText := true, laidKinds := [.data, .data], laidTests := true, laidLooks := .later }
def KdfCutsUptoCardSaid : Prop := Claim7.holds Tryd.pinned (.plain (OpenSpec.upto kdfCutsSpec)) kdfCutsUptoCard

/-- THE SECOND FORM's CARD OF 'coffretlaw04.KdfKeeps'. -/
def kdfKeepsUptoCard : Claim7 := { stood := { row := kdfKeepsUptoRow, standIns := [], harness := (true, "6e28621b6a5faf818d6b9fab7f2860d1e7f06c1099d664d0ea119d6efd6608d3"), looks := false }, kinds := [], alts := [], laidByText := true, laidKinds := [.data, .data], laidTests := true, laidLooks := .later }
def KdfKeepsUptoCardSaid : Prop := Claim7.holds Tryd.pinned (.plain (OpenSpec.upto kdfKeepsSpec)) kdfKeepsUptoCard
end Rows
end Go.Proofs.YtnpidcehioljaaaDoor
