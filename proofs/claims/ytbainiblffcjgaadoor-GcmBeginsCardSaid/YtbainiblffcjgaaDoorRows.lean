/-
  NARROWER THAN 'FOR EVERY INPUT', by the rows' own cells (each row's printed sentence says how): GcmSeals: laid · GcmOpens: laid · GcmBack: laid · GcmLong: laid · GcmKeeps: laid · GcmBegins: laid.
  DERIVED. THE GIVEN ROWS OF THIS SEAT. 6 by the template 'for every input the law returns true; each argument reads behind the call as it read before'; 0 by the template 'total and deterministic' (their statements: YtbainiblffcjgaaDoorTotals.lean).
  GIVEN WITH THE SEED: the statements are not yours to turn. If you find one false, say at which input.
  Laid BY PROGRAM, IN A SANDBOX (cutbox-rows.mjs): the forced cells as the released guide's own fill.sh prints them over the translation cf9719bee8eaedd1… (all of the seat's roots in one cut). By AI agents, Wed Nov 11 2026. No macro, syntax, notation, axiom, sorry.
-/
import Derived.Test.YtbainiblffcjgaaDoorChecked
import GoSem.Claim
import GoSem.ClaimJoined
import GoSem.ClaimMapViews
import Derived.JoinedTies
import Derived.KernelRfl
namespace Go.Proofs.YtbainiblffcjgaaDoor
/- THE CELL 'sum', in the pinned program and in every row, IS THE sha256 OF THE DUMP (.gsa) THAT YtbainiblffcjgaaDoorProg.lean LOADS. Nothing in Lean hashes anything: it is a label: what it is worth is what the hold of that sum in a sandbox is worth. -/
noncomputable def Tryd.pinned : Pinned := { name := "ytbainiblffcjgaadoor", sum := "cf9719bee8eaedd16278f12200bce0c71a1aa82bb14653811a2924ebb802f232", checked := Tryd.checked }
namespace Rows
def none {H : Type} : Left H := { results := [], args := [] }

/- WHAT THE LISTED PACKAGE-LEVEL VARIABLES READ AS WHEN THE CALL BEGINS. Each datum BY PROGRAM (the guide's laid-datum.mjs) off the statement by which the dump's own 'gosem.cut.vars' lays the variable. In a bare row this is a premise. The card (YtbainiblffcjgaaDoorCards.lean) ties it to the program's text. -/
def laid_coffret_field_squares {H : Type} : DataW H := .agg [.lit (.int .u8 1), .lit (.int .u8 4), .lit (.int .u8 16), .lit (.int .u8 64), .lit (.int .u8 27), .lit (.int .u8 108), .lit (.int .u8 171), .lit (.int .u8 154)]

/-- 'coffretlaw08.GcmSeals': WHATEVER THE INPUT: true; the input reads as it did. -/
def gcmSealsSpec : ChangeSpec := { name := "gcmSeals", fn := fun _ => fun
  | [d1, d2, d3, d4, d5] => { results := [.lit (.bool true)], args := [d1, d2, d3, d4, d5] }
  | _ => none }
def gcmSealsRow : OpenClaim := { program := "ytbainiblffcjgaadoor", sum := "cf9719bee8eaedd16278f12200bce0c71a1aa82bb14653811a2924ebb802f232", func := "coffret/coffretlaw08.GcmSeals", spec := "gcmSeals", unfollowed := true, recurses := true, named := ["coffret/field.squares"], apart := false, laid := [("coffret/field.squares", laid_coffret_field_squares)] }
def GcmSealsSaid : Prop := gcmSealsRow.holds Tryd.pinned (OpenSpec.ofChange gcmSealsSpec)

/-- ITS FALSE NEIGHBOUR: 'it returns false'. Refute it at one input. -/
def gcmSealsWrong : ChangeSpec := { name := "gcmSeals", fn := fun _ => fun
  | [d1, d2, d3, d4, d5] => { results := [.lit (.bool false)], args := [d1, d2, d3, d4, d5] }
  | _ => none }
def GcmSealsWrongFalsely : Prop := gcmSealsRow.holds Tryd.pinned (OpenSpec.ofChange gcmSealsWrong)

/-- 'coffretlaw08.GcmOpens': WHATEVER THE INPUT: true; the input reads as it did. -/
def gcmOpensSpec : ChangeSpec := { name := "gcmOpens", fn := fun _ => fun
  | [d1, d2, d3, d4, d5] => { results := [.lit (.bool true)], args := [d1, d2, d3, d4, d5] }
  | _ => none }
def gcmOpensRow : OpenClaim := { program := "ytbainiblffcjgaadoor", sum := "cf9719bee8eaedd16278f12200bce0c71a1aa82bb14653811a2924ebb802f232", func := "coffret/coffretlaw08.GcmOpens", spec := "gcmOpens", unfollowed := true, recurses := true, named := ["coffret/field.squares"], apart := false, laid := [("coffret/field.squares", laid_coffret_field_squares)] }
def GcmOpensSaid : Prop := gcmOpensRow.holds Tryd.pinned (OpenSpec.ofChange gcmOpensSpec)

/-- ITS FALSE NEIGHBOUR: 'it returns false'. Refute it at one input. -/
def gcmOpensWrong : ChangeSpec := { name := "gcmOpens", fn := fun _ => fun
  | [d1, d2, d3, d4, d5] => { results := [.lit (.bool false)], args := [d1, d2, d3, d4, d5] }
  | _ => none }
def GcmOpensWrongFalsely : Prop := gcmOpensRow.holds Tryd.pinned (OpenSpec.ofChange gcmOpensWrong)

/-- 'coffretlaw08.GcmBack': WHATEVER THE INPUT: true; the input reads as it did. -/
def gcmBackSpec : ChangeSpec := { name := "gcmBack", fn := fun _ => fun
  | [d1, d2, d3, d4, d5, d6] => { results := [.lit (.bool true)], args := [d1, d2, d3, d4, d5, d6] }
  | _ => none }
def gcmBackRow : OpenClaim := { program := "ytbainiblffcjgaadoor", sum := "cf9719bee8eaedd16278f12200bce0c71a1aa82bb14653811a2924ebb802f232", func := "coffret/coffretlaw08.GcmBack", spec := "gcmBack", unfollowed := true, recurses := true, named := ["coffret/field.squares"], apart := false, laid := [("coffret/field.squares", laid_coffret_field_squares)] }
def GcmBackSaid : Prop := gcmBackRow.holds Tryd.pinned (OpenSpec.ofChange gcmBackSpec)

/-- ITS FALSE NEIGHBOUR: 'it returns false'. Refute it at one input. -/
def gcmBackWrong : ChangeSpec := { name := "gcmBack", fn := fun _ => fun
  | [d1, d2, d3, d4, d5, d6] => { results := [.lit (.bool false)], args := [d1, d2, d3, d4, d5, d6] }
  | _ => none }
def GcmBackWrongFalsely : Prop := gcmBackRow.holds Tryd.pinned (OpenSpec.ofChange gcmBackWrong)

/-- 'coffretlaw08.GcmLong': WHATEVER THE INPUT: true; the input reads as it did. -/
def gcmLongSpec : ChangeSpec := { name := "gcmLong", fn := fun _ => fun
  | [d] => { results := [.lit (.bool true)], args := [d] }
  | _ => none }
def gcmLongRow : OpenClaim := { program := "ytbainiblffcjgaadoor", sum := "cf9719bee8eaedd16278f12200bce0c71a1aa82bb14653811a2924ebb802f232", func := "coffret/coffretlaw08.GcmLong", spec := "gcmLong", unfollowed := true, recurses := true, named := ["coffret/field.squares"], apart := false, laid := [("coffret/field.squares", laid_coffret_field_squares)] }
def GcmLongSaid : Prop := gcmLongRow.holds Tryd.pinned (OpenSpec.ofChange gcmLongSpec)

/-- ITS FALSE NEIGHBOUR: 'it returns false'. Refute it at one input. -/
def gcmLongWrong : ChangeSpec := { name := "gcmLong", fn := fun _ => fun
  | [d] => { results := [.lit (.bool false)], args := [d] }
  | _ => none }
def GcmLongWrongFalsely : Prop := gcmLongRow.holds Tryd.pinned (OpenSpec.ofChange gcmLongWrong)

/-- 'coffretlaw08.GcmKeeps': WHATEVER THE INPUT: true; the input reads as it did. -/
def gcmKeepsSpec : ChangeSpec := { name := "gcmKeeps", fn := fun _ => fun
  | [d1, d2, d3, d4] => { results := [.lit (.bool true)], args := [d1, d2, d3, d4] }
  | _ => none }
def gcmKeepsRow : OpenClaim := { program := "ytbainiblffcjgaadoor", sum := "cf9719bee8eaedd16278f12200bce0c71a1aa82bb14653811a2924ebb802f232", func := "coffret/coffretlaw08.GcmKeeps", spec := "gcmKeeps", unfollowed := true, recurses := true, named := ["coffret/field.squares"], apart := false, laid := [("coffret/field.squares", laid_coffret_field_squares)] }
def GcmKeepsSaid : Prop := gcmKeepsRow.holds Tryd.pinned (OpenSpec.ofChange gcmKeepsSpec)

/-- ITS FALSE NEIGHBOUR: 'it returns false'. Refute it at one input. -/
def gcmKeepsWrong : ChangeSpec := { name := "gcmKeeps", fn := fun _ => fun
  | [d1, d2, d3, d4] => { results := [.lit (.bool false)], args := [d1, d2, d3, d4] }
  | _ => none }
def GcmKeepsWrongFalsely : Prop := gcmKeepsRow.holds Tryd.pinned (OpenSpec.ofChange gcmKeepsWrong)

/-- 'coffretlaw08.GcmBegins': WHATEVER THE INPUT: true; the input reads as it did. -/
def gcmBeginsSpec : ChangeSpec := { name := "gcmBegins", fn := fun _ => fun
  | [d1, d2, d3, d4, d5] => { results := [.lit (.bool true)], args := [d1, d2, d3, d4, d5] }
  | _ => none }
def gcmBeginsRow : OpenClaim := { program := "ytbainiblffcjgaadoor", sum := "cf9719bee8eaedd16278f12200bce0c71a1aa82bb14653811a2924ebb802f232", func := "coffret/coffretlaw08.GcmBegins", spec := "gcmBegins", unfollowed := true, recurses := true, named := ["coffret/field.squares"], apart := false, laid := [("coffret/field.squares", laid_coffret_field_squares)] }
def GcmBeginsSaid : Prop := gcmBeginsRow.holds Tryd.pinned (OpenSpec.ofChange gcmBeginsSpec)

/-- ITS FALSE NEIGHBOUR: 'it returns false'. Refute it at one input. -/
def gcmBeginsWrong : ChangeSpec := { name := "gcmBegins", fn := fun _ => fun
  | [d1, d2, d3, d4, d5] => { results := [.lit (.bool false)], args := [d1, d2, d3, d4, d5] }
  | _ => none }
def GcmBeginsWrongFalsely : Prop := gcmBeginsRow.holds Tryd.pinned (OpenSpec.ofChange gcmBeginsWrong)

/- THE SECOND FORM. 'bulk': how many values and letters a reading holds, each counted each time it is reached (what is shared counts as often as it is met; a slice's spare places count too). A statement '..UptoSaid' is the law's where the arguments, and the package variables that the reading takes, are together of bulk at most 1048576: NARROWER than '..Said'. Prove '..Said' where nothing that the law and all that it calls make is longer than what came in: it says more and counts as full. Else prove '..UptoSaid'. A law counts once. -/
mutual
def uptoBulk {H : Type} : DataW H → Nat
  | .lit (.string bytes) => bytes.length + 1
  | .lit _ => 1
  | .nil => 1
  | .ptr d => uptoBulk d + 1
  | .slice elems spare => uptoBulkAll elems + uptoBulkAll spare + 1
  | .agg parts => uptoBulkAll parts + 1
  | .iface _ d => uptoBulk d + 1
  | .map entries => uptoBulkEntries entries + 1
  | .held _ => 1
def uptoBulkAll {H : Type} : List (DataW H) → Nat
  | [] => 0
  | d :: r => uptoBulk d + uptoBulkAll r
def uptoBulkEntries {H : Type} : List (Lit × DataW H) → Nat
  | [] => 0
  | x :: r => uptoBulkEntry x + uptoBulkEntries r
def uptoBulkEntry {H : Type} : Lit × DataW H → Nat
  | (.string bytes, d) => bytes.length + uptoBulk d + 1
  | (_, d) => uptoBulk d + 1
 end
def uptoSmall : (H : Type) → List (DataW H) → Bool := fun _ ds => decide (uptoBulkAll ds ≤ 1048576)
def OpenSpec.upto (s : _root_.Go.ChangeSpec) : _root_.Go.OpenSpec := { _root_.Go.OpenSpec.ofChange s with cond := some uptoSmall }

/-- 'coffretlaw08.GcmSeals', WHERE WHAT IT READS IS OF BULK AT MOST 1048576: true; the input reads as it did. -/
def gcmSealsUptoRow : OpenClaim := { program := "ytbainiblffcjgaadoor", sum := "cf9719bee8eaedd16278f12200bce0c71a1aa82bb14653811a2924ebb802f232", func := "coffret/coffretlaw08.GcmSeals", spec := "gcmSeals", unfollowed := true, recurses := true, named := ["coffret/field.squares"], apart := false, laid := [("coffret/field.squares", laid_coffret_field_squares)], narrowed := true }
def GcmSealsUptoSaid : Prop := gcmSealsUptoRow.holds Tryd.pinned (OpenSpec.upto gcmSealsSpec)

/-- 'coffretlaw08.GcmOpens', WHERE WHAT IT READS IS OF BULK AT MOST 1048576: true; the input reads as it did. -/
def gcmOpensUptoRow : OpenClaim := { program := "ytbainiblffcjgaadoor", sum := "cf9719bee8eaedd16278f12200bce0c71a1aa82bb14653811a2924ebb802f232", func := "coffret/coffretlaw08.GcmOpens", spec := "gcmOpens", unfollowed := true, recurses := true, named := ["coffret/field.squares"], apart := false, laid := [("coffret/field.squares", laid_coffret_field_squares)], narrowed := true }
def GcmOpensUptoSaid : Prop := gcmOpensUptoRow.holds Tryd.pinned (OpenSpec.upto gcmOpensSpec)

/-- 'coffretlaw08.GcmBack', WHERE WHAT IT READS IS OF BULK AT MOST 1048576: true; the input reads as it did. -/
def gcmBackUptoRow : OpenClaim := { program := "ytbainiblffcjgaadoor", sum := "cf9719bee8eaedd16278f12200bce0c71a1aa82bb14653811a2924ebb802f232", func := "coffret/coffretlaw08.GcmBack", spec := "gcmBack", unfollowed := true, recurses := true, named := ["coffret/field.squares"], apart := false, laid := [("coffret/field.squares", laid_coffret_field_squares)], narrowed := true }
def GcmBackUptoSaid : Prop := gcmBackUptoRow.holds Tryd.pinned (OpenSpec.upto gcmBackSpec)

/-- 'coffretlaw08.GcmLong', WHERE WHAT IT READS IS OF BULK AT MOST 1048576: true; the input reads as it did. -/
def gcmLongUptoRow : OpenClaim := { program := "ytbainiblffcjgaadoor", sum := "cf9719bee8eaedd16278f12200bce0c71a1aa82bb14653811a2924ebb802f232", func := "coffret/coffretlaw08.GcmLong", spec := "gcmLong", unfollowed := true, recurses := true, named := ["coffret/field.squares"], apart := false, laid := [("coffret/field.squares", laid_coffret_field_squares)], narrowed := true }
def GcmLongUptoSaid : Prop := gcmLongUptoRow.holds Tryd.pinned (OpenSpec.upto gcmLongSpec)

/-- 'coffretlaw08.GcmKeeps', WHERE WHAT IT READS IS OF BULK AT MOST 1048576: true; the input reads as it did. -/
def gcmKeepsUptoRow : OpenClaim := { program := "ytbainiblffcjgaadoor", sum := "cf9719bee8eaedd16278f12200bce0c71a1aa82bb14653811a2924ebb802f232", func := "coffret/coffretlaw08.GcmKeeps", spec := "gcmKeeps", unfollowed := true, recurses := true, named := ["coffret/field.squares"], apart := false, laid := [("coffret/field.squares", laid_coffret_field_squares)], narrowed := true }
def GcmKeepsUptoSaid : Prop := gcmKeepsUptoRow.holds Tryd.pinned (OpenSpec.upto gcmKeepsSpec)

/-- 'coffretlaw08.GcmBegins', WHERE WHAT IT READS IS OF BULK AT MOST 1048576: true; the input reads as it did. -/
def gcmBeginsUptoRow : OpenClaim := { program := "ytbainiblffcjgaadoor", sum := "cf9719bee8eaedd16278f12200bce0c71a1aa82bb14653811a2924ebb802f232", func := "coffret/coffretlaw08.GcmBegins", spec := "gcmBegins", unfollowed := true, recurses := true, named := ["coffret/field.squares"], apart := false, laid := [("coffret/field.squares", laid_coffret_field_squares)], narrowed := true }
def GcmBeginsUptoSaid : Prop := gcmBeginsUptoRow.holds Tryd.pinned (OpenSpec.upto gcmBeginsSpec)

end Rows
end Go.Proofs.YtbainiblffcjgaaDoor
