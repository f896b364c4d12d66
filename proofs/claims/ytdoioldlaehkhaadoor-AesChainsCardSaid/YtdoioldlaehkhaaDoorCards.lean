/-
  DERIVED. GIVEN WITH THE SEED: THE CARDS: each row of YtdoioldlaehkhaaDoorRows.lean that lists a variable, with what it lists TIED to the program's text (the seventh form; the later family's looks); each row that meets fmt, with fmt's text TOLD by the authors' own Lean function (tested against real Go, not proved from fmt's source: count such statements apart). THE CARD IS WHAT COUNTS. Prove the row's statement (the work); the ties are given (YtdoioldlaehkhaaDoorTie.lean); close each card by the builder's one call (the guide's Derived/Test/ToyasCard.lean, 'card_holds'). Laid BY PROGRAM, IN A SANDBOX (cutbox-door.mjs). By AI agents, Wed Nov 11 2026. No macro, syntax, notation, axiom, sorry.
-/
import Derived.Test.YtdoioldlaehkhaaDoorRows
import GoSem.ClaimSeven
namespace Go.Proofs.YtdoioldlaehkhaaDoor
namespace Rows

/-- THE TIED CARD OF 'coffretlaw06.AesSeals'. -/
def aesSealsCard : Claim7 := { stood := { row := aesSealsRow, standIns := [], harness := (true, "2e9db9464ea031d60e13d7e8986dfcba77ac1f7f5beb77980b41ad4d2d0a004e"), looks := false }, kinds := [], alts := [], laidByText := true, laidKinds := [.data], laidTests := true, laidLooks := .later }
def AesSealsCardSaid : Prop := Claim7.holds Tryd.pinned (.plain (OpenSpec.ofChange aesSealsSpec)) aesSealsCard

/-- THE TIED CARD OF 'coffretlaw06.AesOpens'. -/
def aesOpensCard : Claim7 := { stood := { row := aesOpensRow, standIns := [], harness := (true, "2e9db9464ea031d60e13d7e8986dfcba77ac1f7f5beb77980b41ad4d2d0a004e"), looks := false }, kinds := [], alts := [], laidByText := true, laidKinds := [.data], laidTests := true, laidLooks := .later }
def AesOpensCardSaid : Prop := Claim7.holds Tryd.pinned (.plain (OpenSpec.ofChange aesOpensSpec)) aesOpensCard

/-- THE TIED CARD OF 'coffretlaw06.AesKeeps'. -/
def aesKeepsCard : Claim7 := { stood := { row := aesKeepsRow, standIns := [], harness := (true, "2e9db9464ea031d60e13d7e8986dfcba77ac1f7f5beb77980b41ad4d2d0a004e"), looks := false }, kinds := [], alts := [], laidByText := true, laidKinds := [.data], laidTests := true, laidLooks := .later }
def AesKeepsCardSaid : Prop := Claim7.holds Tryd.pinned (.plain (OpenSpec.ofChange aesKeepsSpec)) aesKeepsCard

/-- THE TIED CARD OF 'coffretlaw06.AesChains'. -/
def aesChainsCard : Claim7 := { stood := { row := aesChainsRow, standIns := [], harness := (true, "2e9db9464ea031d60e13d7e8986dfcba77ac1f7f5beb77980b41ad4d2d0a004e"), looks := false }, kinds := [], alts := [], laidByText := true, laidKinds := [.data], laidTests := true, laidLooks := .later }
def AesChainsCardSaid : Prop := Claim7.holds Tryd.pinned (.plain (OpenSpec.ofChange aesChainsSpec)) aesChainsCard

/-- THE SECOND FORM's CARD OF 'coffretlaw06.AesSeals'. -/
def aesSealsUptoCard : Claim7 := { stood := { row := aesSealsUptoRow, standIns := [], harness := (true, "2e9db9464ea031d60e13d7e8986dfcba77ac1f7f5beb77980b41ad4d2d0a004e"), looks := false }, kinds := [], alts := [], laidByText := true, laidKinds := [.data], laidTests := true, laidLooks := .later }
def AesSealsUptoCardSaid : Prop := Claim7.holds Tryd.pinned (.plain (OpenSpec.upto aesSealsSpec)) aesSealsUptoCard

/-- THE SECOND FORM's CARD OF 'coffretlaw06.AesOpens'. -/
def aesOpensUptoCard : Claim7 := { stood := { row := aesOpensUptoRow, standIns := [], harness := (true, "2e9db9464ea031d60e13d7e8986dfcba77ac1f7f5beb77980b41ad4d2d0a004e"), looks := false }, kinds := [], alts := [], laidByText := true, laidKinds := [.data], laidTests := true, laidLooks := .later }
def AesOpensUptoCardSaid : Prop := Claim7.holds Tryd.pinned (.plain (OpenSpec.upto aesOpensSpec)) aesOpensUptoCard

/-- THE SECOND FORM's CARD OF 'coffretlaw06.AesKeeps'. -/
def aesKeepsUptoCard : Claim7 := { stood := { row := aesKeepsUptoRow, standIns := [], harness := (true, "2e9db9464ea031d60e13d7e8986dfcba77ac1f7f5beb77980b41ad4d2d0a004e"), looks := false }, kinds := [], alts := [], laidByText := true, laidKinds := [.data], laidTests := true, laidLooks := .later }
def AesKeepsUptoCardSaid : Prop := Claim7.holds Tryd.pinned (.plain (OpenSpec.upto aesKeepsSpec)) aesKeepsUptoCard

/-- THE SECOND FORM's CARD OF 'coffretlaw06.AesChains'. -/
def aesChainsUptoCard : Claim7 := { stood := { row := aesChainsUptoRow, standIns := [], harness := (true, "2e9db9464ea031d60e13d7e8986dfcba77ac1f7f5beb77980b41ad4d2d0a004e"), looks := false }, kinds := [], alts := [], laidByText := true, laidKinds := [.data], laidTests := true, laidLooks := .later }
def AesChainsUptoCardSaid : Prop := Claim7.holds Tryd.pinned (.plain (OpenSpec.upto aesChainsSpec)) aesChainsUptoCard
end Rows
end Go.Proofs.YtdoioldlaehkhaaDoor
