/-
  NARROWER THAN 'FOR EVERY INPUT', by the rows' own cells (each row's printed sentence says how): AesSeals: laid · AesOpens: laid · AesKeeps: laid · AesChains: laid.
  DERIVED. THE GIVEN ROWS OF THIS SEAT. 4 by the template 'for every input the law returns true; each argument reads behind the call as it read before'; 0 by the template 'total and deterministic' (their statements: YtdoioldlaehkhaaDoorTotals.lean).
  GIVEN WITH THE SEED: the statements are not yours to turn. If you find one false, say at which input.
  Laid BY PROGRAM, IN A SANDBOX (cutbox-rows.mjs): the forced cells as the released guide's own fill.sh prints them over the translation 4260b20fcb5c4a70… (all of the seat's roots in one cut). By AI agents, Wed Nov 11 2026. No macro, syntax, notation, axiom, sorry.
-/
import Derived.Test.YtdoioldlaehkhaaDoorChecked
import GoSem.Claim
import GoSem.ClaimJoined
import GoSem.ClaimMapViews
import Derived.JoinedTies
import Derived.KernelRfl
namespace Go.Proofs.YtdoioldlaehkhaaDoor
/- THE CELL 'sum', in the pinned program and in every row, IS THE sha256 OF THE DUMP (.gsa) THAT YtdoioldlaehkhaaDoorProg.lean LOADS. Nothing in Lean hashes anything: it is a label: what it is worth is what the hold of that sum in a sandbox is worth. -/
noncomputable def Tryd.pinned : Pinned := { name := "ytdoioldlaehkhaadoor", sum := "4260b20fcb5c4a704cd8c7c7883be50eec125511ab2b134929d1e22e12b461ae", checked := Tryd.checked }
namespace Rows
def none {H : Type} : Left H := { results := [], args := [] }

/- WHAT THE LISTED PACKAGE-LEVEL VARIABLES READ AS WHEN THE CALL BEGINS. Each datum BY PROGRAM (the guide's laid-datum.mjs) off the statement by which the dump's own 'gosem.cut.vars' lays the variable. In a bare row this is a premise. The card (YtdoioldlaehkhaaDoorCards.lean) ties it to the program's text. -/
def laid_coffret_field_squares {H : Type} : DataW H := .agg [.lit (.int .u8 1), .lit (.int .u8 4), .lit (.int .u8 16), .lit (.int .u8 64), .lit (.int .u8 27), .lit (.int .u8 108), .lit (.int .u8 171), .lit (.int .u8 154)]

/-- 'coffretlaw06.AesSeals': WHATEVER THE INPUT: true; the input reads as it did. -/
def aesSealsSpec : ChangeSpec := { name := "aesSeals", fn := fun _ => fun
  | [d1, d2] => { results := [.lit (.bool true)], args := [d1, d2] }
  | _ => none }
def aesSealsRow : OpenClaim := { program := "ytdoioldlaehkhaadoor", sum := "4260b20fcb5c4a704cd8c7c7883be50eec125511ab2b134929d1e22e12b461ae", func := "coffret/coffretlaw06.AesSeals", spec := "aesSeals", named := ["coffret/field.squares"], apart := false, laid := [("coffret/field.squares", laid_coffret_field_squares)] }
def AesSealsSaid : Prop := aesSealsRow.holds Tryd.pinned (OpenSpec.ofChange aesSealsSpec)

/-- ITS FALSE NEIGHBOUR: 'it returns false'. Refute it at one input. -/
def aesSealsWrong : ChangeSpec := { name := "aesSeals", fn := fun _ => fun
  | [d1, d2] => { results := [.lit (.bool false)], args := [d1, d2] }
  | _ => none }
def AesSealsWrongFalsely : Prop := aesSealsRow.holds Tryd.pinned (OpenSpec.ofChange aesSealsWrong)

/-- 'coffretlaw06.AesOpens': WHATEVER THE INPUT: true; the input reads as it did. -/
def aesOpensSpec : ChangeSpec := { name := "aesOpens", fn := fun _ => fun
  | [d1, d2, d3, d4] => { results := [.lit (.bool true)], args := [d1, d2, d3, d4] }
  | _ => none }
def aesOpensRow : OpenClaim := { program := "ytdoioldlaehkhaadoor", sum := "4260b20fcb5c4a704cd8c7c7883be50eec125511ab2b134929d1e22e12b461ae", func := "coffret/coffretlaw06.AesOpens", spec := "aesOpens", named := ["coffret/field.squares"], apart := false, laid := [("coffret/field.squares", laid_coffret_field_squares)] }
def AesOpensSaid : Prop := aesOpensRow.holds Tryd.pinned (OpenSpec.ofChange aesOpensSpec)

/-- ITS FALSE NEIGHBOUR: 'it returns false'. Refute it at one input. -/
def aesOpensWrong : ChangeSpec := { name := "aesOpens", fn := fun _ => fun
  | [d1, d2, d3, d4] => { results := [.lit (.bool false)], args := [d1, d2, d3, d4] }
  | _ => none }
def AesOpensWrongFalsely : Prop := aesOpensRow.holds Tryd.pinned (OpenSpec.ofChange aesOpensWrong)

/-- 'coffretlaw06.AesKeeps': WHATEVER THE INPUT: true; the input reads as it did. -/
def aesKeepsSpec : ChangeSpec := { name := "aesKeeps", fn := fun _ => fun
  | [d1, d2] => { results := [.lit (.bool true)], args := [d1, d2] }
  | _ => none }
def aesKeepsRow : OpenClaim := { program := "ytdoioldlaehkhaadoor", sum := "4260b20fcb5c4a704cd8c7c7883be50eec125511ab2b134929d1e22e12b461ae", func := "coffret/coffretlaw06.AesKeeps", spec := "aesKeeps", named := ["coffret/field.squares"], apart := false, laid := [("coffret/field.squares", laid_coffret_field_squares)] }
def AesKeepsSaid : Prop := aesKeepsRow.holds Tryd.pinned (OpenSpec.ofChange aesKeepsSpec)

/-- ITS FALSE NEIGHBOUR: 'it returns false'. Refute it at one input. -/
def aesKeepsWrong : ChangeSpec := { name := "aesKeeps", fn := fun _ => fun
  | [d1, d2] => { results := [.lit (.bool false)], args := [d1, d2] }
  | _ => none }
def AesKeepsWrongFalsely : Prop := aesKeepsRow.holds Tryd.pinned (OpenSpec.ofChange aesKeepsWrong)

/-- 'coffretlaw06.AesChains': WHATEVER THE INPUT: true; the input reads as it did. -/
def aesChainsSpec : ChangeSpec := { name := "aesChains", fn := fun _ => fun
  | [d1, d2, d3, d4] => { results := [.lit (.bool true)], args := [d1, d2, d3, d4] }
  | _ => none }
def aesChainsRow : OpenClaim := { program := "ytdoioldlaehkhaadoor", sum := "4260b20fcb5c4a704cd8c7c7883be50eec125511ab2b134929d1e22e12b461ae", func := "coffret/coffretlaw06.AesChains", spec := "aesChains", named := ["coffret/field.squares"], apart := false, laid := [("coffret/field.squares", laid_coffret_field_squares)] }
def AesChainsSaid : Prop := aesChainsRow.holds Tryd.pinned (OpenSpec.ofChange aesChainsSpec)

/-- ITS FALSE NEIGHBOUR: 'it returns false'. Refute it at one input. -/
def aesChainsWrong : ChangeSpec := { name := "aesChains", fn := fun _ => fun
  | [d1, d2, d3, d4] => { results := [.lit (.bool false)], args := [d1, d2, d3, d4] }
  | _ => none }
def AesChainsWrongFalsely : Prop := aesChainsRow.holds Tryd.pinned (OpenSpec.ofChange aesChainsWrong)

/- THE SECOND FORM. 'bulk': how many values and letters a reading holds, each counted each time it is reached (what is shared counts as often as it is met; a slice's spare places count too). A statement '..UptoSaid' is the law's where the arguments, and the package variables that the reading takes, are together of bulk at most 1048576: NARROWER than '..Said'. Prove '..Said' where nothing that the law and all that it calls make is longer than what came in: it says more and counts as full. Else prove '..UptoSaid'. A law counts once. -/
mutual
def uptoBulk {H : Type} : DataW H → Nat
  | .lit (.string bytes) => bytes.length + 1
  | .lit _ => 1
  | .nil => 1
  | .ptr d => uptoBulk d + 1
  | .slice elems spare => uptoBulkAll elems + uptoBulkAll spare + 1
  | .agg parts => uptoBulkAll parts + 1
  | .iface _ d => uptoBulk d + 1
  | .map entries => uptoBulkEntries entries + 1
  | .held _ => 1
def uptoBulkAll {H : Type} : List (DataW H) → Nat
  | [] => 0
  | d :: r => uptoBulk d + uptoBulkAll r
def uptoBulkEntries {H : Type} : List (Lit × DataW H) → Nat
  | [] => 0
  | x :: r => uptoBulkEntry x + uptoBulkEntries r
def uptoBulkEntry {H : Type} : Lit × DataW H → Nat
  | (.string bytes, d) => bytes.length + uptoBulk d + 1
  | (_, d) => uptoBulk d + 1
 end
def uptoSmall : (H : Type) → List (DataW H) → Bool := fun _ ds => decide (uptoBulkAll ds ≤ 1048576)
def OpenSpec.upto (s : _root_.Go.ChangeSpec) : _root_.Go.OpenSpec := { _root_.Go.OpenSpec.ofChange s with cond := some uptoSmall }

/-- 'coffretlaw06.AesSeals', WHERE WHAT IT READS IS OF BULK AT MOST 1048576: true; the input reads as it did. -/
def aesSealsUptoRow : OpenClaim := { program := "ytdoioldlaehkhaadoor", sum := "4260b20fcb5c4a704cd8c7c7883be50eec125511ab2b134929d1e22e12b461ae", func := "coffret/coffretlaw06.AesSeals", spec := "aesSeals", named := ["coffret/field.squares"], apart := false, laid := [("coffret/field.squares", laid_coffret_field_squares)], narrowed := true }
def AesSealsUptoSaid : Prop := aesSealsUptoRow.holds Tryd.pinned (OpenSpec.upto aesSealsSpec)

/-- 'coffretlaw06.AesOpens', WHERE WHAT IT READS IS OF BULK AT MOST 1048576: true; the input reads as it did. -/
def aesOpensUptoRow : OpenClaim := { program := "ytdoioldlaehkhaadoor", sum := "4260b20fcb5c4a704cd8c7c7883be50eec125511ab2b134929d1e22e12b461ae", func := "coffret/coffretlaw06.AesOpens", spec := "aesOpens", named := ["coffret/field.squares"], apart := false, laid := [("coffret/field.squares", laid_coffret_field_squares)], narrowed := true }
def AesOpensUptoSaid : Prop := aesOpensUptoRow.holds Tryd.pinned (OpenSpec.upto aesOpensSpec)

/-- 'coffretlaw06.AesKeeps', WHERE WHAT IT READS IS OF BULK AT MOST 1048576: true; the input reads as it did. -/
def aesKeepsUptoRow : OpenClaim := { program := "ytdoioldlaehkhaadoor", sum := "4260b20fcb5c4a704cd8c7c7883be50eec125511ab2b134929d1e22e12b461ae", func := "coffret/coffretlaw06.AesKeeps", spec := "aesKeeps", named := ["coffret/field.squares"], apart := false, laid := [("coffret/field.squares", laid_coffret_field_squares)], narrowed := true }
def AesKeepsUptoSaid : Prop := aesKeepsUptoRow.holds Tryd.pinned (OpenSpec.upto aesKeepsSpec)

/-- 'coffretlaw06.AesChains', WHERE WHAT IT READS IS OF BULK AT MOST 1048576: true; the input reads as it did. -/
def aesChainsUptoRow : OpenClaim := { program := "ytdoioldlaehkhaadoor", sum := "4260b20fcb5c4a704cd8c7c7883be50eec125511ab2b134929d1e22e12b461ae", func := "coffret/coffretlaw06.AesChains", spec := "aesChains", named := ["coffret/field.squares"], apart := false, laid := [("coffret/field.squares", laid_coffret_field_squares)], narrowed := true }
def AesChainsUptoSaid : Prop := aesChainsUptoRow.holds Tryd.pinned (OpenSpec.upto aesChainsSpec)

end Rows
end Go.Proofs.YtdoioldlaehkhaaDoor
