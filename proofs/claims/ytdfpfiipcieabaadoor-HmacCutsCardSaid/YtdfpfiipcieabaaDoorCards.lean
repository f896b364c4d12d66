/-
  DERIVED. GIVEN WITH THE SEED: THE CARDS: each row of YtdfpfiipcieabaaDoorRows.lean that lists a variable, with what it lists TIED to the program's text (the seventh form; the later family's looks); each row that meets fmt, with fmt's text TOLD by the authors' own Lean function (tested against real Go, not proved from fmt's source: count such statements apart). THE CARD IS WHAT COUNTS. Prove the row's statement (the work); the ties are given (YtdfpfiipcieabaaDoorTie.lean); close each card by the builder's one call (the guide's Derived/Test/ToyasCard.lean, 'card_holds'). Laid BY PROGRAM, IN A SANDBOX (cutbox-door.mjs). By AI agents, Wed Nov 11 2026. No macro, syntax, notation, axiom, sorry.
-/
import Derived.Test.YtdfpfiipcieabaaDoorRows
import GoSem.ClaimSeven
namespace Go.Proofs.YtdfpfiipcieabaaDoor
namespace Rows

/-- THE TIED CARD OF 'coffretlaw03.HmacIs'. -/
def hmacIsCard : Claim7 := { stood := { row := hmacIsRow, standIns := [], harness := (true, "56a0b6ac4c509d20db4db6362f81bc0782c35fd9397a7ac537be2ac713d2fe5a"), looks := false }, kinds := [], alts := [], laidByText := true, laidKinds := [.data, .data], laidTests := true, laidLooks := .later }
def HmacIsCardSaid : Prop := Claim7.holds Tryd.pinned (.plain (OpenSpec.ofChange hmacIsSpec)) hmacIsCard

/-- THE TIED CARD OF 'coffretlaw03.HmacGoes'. -/
def hmacGoesCard : Claim7 := { stood := { row := hmacGoesRow, standIns := [], harness := (true, "56a0b6ac4c509d20db4db6362f81bc0782c35fd9397a7ac537be2ac713d2fe5a"), looks := false }, kinds := [], alts := [], laidByText := true, laidKinds := [.data, .data], laidTests := true, laidLooks := .later }
def HmacGoesCardSaid : Prop := Claim7.holds Tryd.pinned (.plain (OpenSpec.ofChange hmacGoesSpec)) hmacGoesCard

/-- THE TIED CARD OF 'coffretlaw03.HmacKeys'. -/
def hmacKeysCard : Claim7 := { stood := { row := hmacKeysRow, standIns := [], harness := (true, "56a0b6ac4c509d20db4db6362f81bc0782c35fd9397a7ac537be2ac713d2fe5a"), looks := false }, kinds := [], alts := [], laidByText := true, laidKinds := [.data, .data], laidTests := true, laidLooks := .later }
def HmacKeysCardSaid : Prop := Claim7.holds Tryd.pinned (.plain (OpenSpec.ofChange hmacKeysSpec)) hmacKeysCard

/-- THE TIED CARD OF 'coffretlaw03.HmacSame'. -/
def hmacSameCard : Claim7 := { stood := { row := hmacSameRow, standIns := [], harness := (true, "56a0b6ac4c509d20db4db6362f81bc0782c35fd9397a7ac537be2ac713d2fe5a"), looks := false }, kinds := [], alts := [], laidByText := true, laidKinds := [.data, .data], laidTests := true, laidLooks := .later }
def HmacSameCardSaid : Prop := Claim7.holds Tryd.pinned (.plain (OpenSpec.ofChange hmacSameSpec)) hmacSameCard

/-- THE TIED CARD OF 'coffretlaw03.HmacKeeps'. -/
def hmacKeepsCard : Claim7 := { stood := { row := hmacKeepsRow, standIns := [], harness := (true, "56a0b6ac4c509d20db4db6362f81bc0782c35fd9397a7ac537be2ac713d2fe5a"), looks := false }, kinds := [], alts := [], laidByText := true, laidKinds := [.data, .data], laidTests := true, laidLooks := .later }
def HmacKeepsCardSaid : Prop := Claim7.holds Tryd.pinned (.plain (OpenSpec.ofChange hmacKeepsSpec)) hmacKeepsCard

/-- THE TIED CARD OF 'coffretlaw03.HmacCuts'. -/
def hmacCutsCard : Claim7 := { stood := { row := hmacCutsRow, standIns := [], harness := (true, "56a0b6ac4c509d20db4db6362f81bc0782c35fd9397a7ac537be2ac713d2fe5a"), looks := false }, kinds := [], alts := [], laidByText := true, laidKinds := [.data, .data], laidTests := true, laidLooks := .later }
def HmacCutsCardSaid : Prop := Claim7.holds Tryd.pinned (.plain (OpenSpec.ofChange hmacCutsSpec)) hmacCutsCard

/-- THE SECOND FORM's CARD OF 'coffretlaw03.HmacIs'. -/
def hmacIsUptoCard : Claim7 := { stood := { row := hmacIsUptoRow, standIns := [], harness := (true, "56a0b6ac4c509d20db4db6362f81bc0782c35fd9397a7ac537be2ac713d2fe5a"), looks := false }, kinds := [], alts := [], laidByText := true, laidKinds := [.data, .data], laidTests := true, laidLooks := .later }
def HmacIsUptoCardSaid : Prop := Claim7.holds Tryd.pinned (.plain (OpenSpec.upto hmacIsSpec)) hmacIsUptoCard

/-- THE SECOND FORM's CARD OF 'coffretlaw03.HmacGoes'. -/
def hmacGoesUptoCard : Claim7 := { stood := { row := hmacGoesUptoRow, standIns := [], harness := (true, "56a0b6ac4c509d20db4db6362f81bc0782c35fd9397a7ac537be2ac713d2fe5a"), looks := false }, kinds := [], alts := [], laidByText := true, laidKinds := [.data, .data], laidTests := true, laidLooks := .later }
def HmacGoesUptoCardSaid : Prop := Claim7.holds Tryd.pinned (.plain (OpenSpec.upto hmacGoesSpec)) hmacGoesUptoCard

/-- THE SECOND FORM's CARD OF 'coffretlaw03.HmacKeys'. -/
def hmacKeysUptoCard : Claim7 := { stood := { row := hmacKeysUptoRow, standIns := [], harness := (true, "56a0b6ac4c509d20db4db6362f81bc0782c35fd9397a7ac537be2ac713d2fe5a"), looks := false }, kinds := [], alts := [], laidByText := true, laidKinds := [.data, .data], laidTests := true, laidLooks := .later }
def HmacKeysUptoCardSaid : Prop := Claim7.holds Tryd.pinned (.plain (OpenSpec.upto hmacKeysSpec)) hmacKeysUptoCard

/-- THE SECOND FORM's CARD OF 'coffretlaw03.HmacSame'. -/
def hmacSameUptoCard : Claim7 := { stood := { row := hmacSameUptoRow, standIns := [], harness := (true, "56a0b6ac4c509d20db4db6362f81bc0782c35fd9397a7ac537be2ac713d2fe5a"), looks := false }, kinds := [], alts := [], laidByText := true, laidKinds := [.data, .data], laidTests := true, laidLooks := .later }
def HmacSameUptoCardSaid : Prop := Claim7.holds Tryd.pinned (.plain (OpenSpec.upto hmacSameSpec)) hmacSameUptoCard

/-- THE SECOND FORM's CARD OF 'coffretlaw03.HmacKeeps'. -/
def hmacKeepsUptoCard : Claim7 := { stood := { row := hmacKeepsUptoRow, standIns := [], harness := (true, "56a0b6ac4c509d20db4db6362f81bc0782c35fd9397a7ac537be2ac713d2fe5a"), looks := false }, kinds := [], alts := [], laidByText := true, laidKinds := [.data, .data], laidTests := true, laidLooks := .later }
def HmacKeepsUptoCardSaid : Prop := Claim7.holds Tryd.pinned (.plain (OpenSpec.upto hmacKeepsSpec)) hmacKeepsUptoCard

/-- THE SECOND FORM's CARD OF 'coffretlaw03.HmacCuts'. -/
def hmacCutsUptoCard : Claim7 := { stood := { row := hmacCutsUptoRow, standIns := [], harness := (true, "56a0b6ac4c509d20db4db6362f81bc0782c35fd9397a7ac537be2ac713d2fe5a"), looks := false }, kinds := [], alts := [], laidByText := true, laidKinds := [.data, .data], laidTests := true, laidLooks := .later }
def HmacCutsUptoCardSaid : Prop := Claim7.holds Tryd.pinned (.plain (OpenSpec.upto hmacCutsSpec)) hmacCutsUptoCard
end Rows
end Go.Proofs.YtdfpfiipcieabaaDoor
