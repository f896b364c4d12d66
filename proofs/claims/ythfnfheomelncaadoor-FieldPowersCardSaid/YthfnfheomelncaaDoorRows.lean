/-
  NARROWER THAN 'FOR EVERY INPUT', by the rows' own cells (each row's printed sentence says how): FieldTimes: laid · FieldInverts: laid · FieldOrders: laid · FieldBoxes: laid · FieldPowers: laid.
  DERIVED. THE GIVEN ROWS OF THIS SEAT. 5 by the template 'for every input the law returns true; each argument reads behind the call as it read before'; 0 by the template 'total and deterministic' (their statements: YthfnfheomelncaaDoorTotals.lean).
  GIVEN WITH THE SEED: the statements are not yours to turn. If you find one false, say at which input.
  Laid BY PROGRAM, IN A SANDBOX (cutbox-rows.mjs): the forced cells as the released guide's own fill.sh prints them over the translation 785300cc0cd97b65… (all of the seat's roots in one cut). By AI agents, Wed Nov 11 2026. No macro, syntax, notation, axiom, sorry.
-/
import Derived.Test.YthfnfheomelncaaDoorChecked
import GoSem.Claim
import GoSem.ClaimJoined
import GoSem.ClaimMapViews
import Derived.JoinedTies
import Derived.KernelRfl
namespace Go.Proofs.YthfnfheomelncaaDoor
/- THE CELL 'sum', in the pinned program and in every row, IS THE sha256 OF THE DUMP (.gsa) THAT YthfnfheomelncaaDoorProg.lean LOADS. Nothing in Lean hashes anything: it is a label: what it is worth is what the hold of that sum in a sandbox is worth. -/
noncomputable def Tryd.pinned : Pinned := { name := "ythfnfheomelncaadoor", sum := "785300cc0cd97b652ed14e75fd80c3fddff16a6c215da70b06b4c90df61edd67", checked := Tryd.checked }
namespace Rows
def none {H : Type} : Left H := { results := [], args := [] }

/- WHAT THE LISTED PACKAGE-LEVEL VARIABLES READ AS WHEN THE CALL BEGINS. Each datum BY PROGRAM (the guide's laid-datum.mjs) off the statement by which the dump's own 'gosem.cut.vars' lays the variable. In a bare row this is a premise. The card (YthfnfheomelncaaDoorCards.lean) ties it to the program's text. -/
def laid_coffret_field_squares {H : Type} : DataW H := .agg [.lit (.int .u8 1), .lit (.int .u8 4), .lit (.int .u8 16), .lit (.int .u8 64), .lit (.int .u8 27), .lit (.int .u8 108), .lit (.int .u8 171), .lit (.int .u8 154)]

/-- 'coffretlaw05.FieldTimes': WHATEVER THE INPUT: true; the input reads as it did. -/
def fieldTimesSpec : ChangeSpec := { name := "fieldTimes", fn := fun _ => fun
  | [d1, d2] => { results := [.lit (.bool true)], args := [d1, d2] }
  | _ => none }
def fieldTimesRow : OpenClaim := { program := "ythfnfheomelncaadoor", sum := "785300cc0cd97b652ed14e75fd80c3fddff16a6c215da70b06b4c90df61edd67", func := "coffret/coffretlaw05.FieldTimes", spec := "fieldTimes", named := ["coffret/field.squares"], apart := false, laid := [("coffret/field.squares", laid_coffret_field_squares)] }
def FieldTimesSaid : Prop := fieldTimesRow.holds Tryd.pinned (OpenSpec.ofChange fieldTimesSpec)

/-- ITS FALSE NEIGHBOUR: 'it returns false'. Refute it at one input. -/
def fieldTimesWrong : ChangeSpec := { name := "fieldTimes", fn := fun _ => fun
  | [d1, d2] => { results := [.lit (.bool false)], args := [d1, d2] }
  | _ => none }
def FieldTimesWrongFalsely : Prop := fieldTimesRow.holds Tryd.pinned (OpenSpec.ofChange fieldTimesWrong)

/-- 'coffretlaw05.FieldInverts': WHATEVER THE INPUT: true; the input reads as it did. -/
def fieldInvertsSpec : ChangeSpec := { name := "fieldInverts", fn := fun _ => fun
  | [d] => { results := [.lit (.bool true)], args := [d] }
  | _ => none }
def fieldInvertsRow : OpenClaim := { program := "ythfnfheomelncaadoor", sum := "785300cc0cd97b652ed14e75fd80c3fddff16a6c215da70b06b4c90df61edd67", func := "coffret/coffretlaw05.FieldInverts", spec := "fieldInverts", named := ["coffret/field.squares"], apart := false, laid := [("coffret/field.squares", laid_coffret_field_squares)] }
def FieldInvertsSaid : Prop := fieldInvertsRow.holds Tryd.pinned (OpenSpec.ofChange fieldInvertsSpec)

/-- ITS FALSE NEIGHBOUR: 'it returns false'. Refute it at one input. -/
def fieldInvertsWrong : ChangeSpec := { name := "fieldInverts", fn := fun _ => fun
  | [d] => { results := [.lit (.bool false)], args := [d] }
  | _ => none }
def FieldInvertsWrongFalsely : Prop := fieldInvertsRow.holds Tryd.pinned (OpenSpec.ofChange fieldInvertsWrong)

/-- 'coffretlaw05.FieldOrders': WHATEVER THE INPUT: true; the input reads as it did. -/
def fieldOrdersSpec : ChangeSpec := { name := "fieldOrders", fn := fun _ => fun
  | [d1, d2, d3] => { results := [.lit (.bool true)], args := [d1, d2, d3] }
  | _ => none }
def fieldOrdersRow : OpenClaim := { program := "ythfnfheomelncaadoor", sum := "785300cc0cd97b652ed14e75fd80c3fddff16a6c215da70b06b4c90df61edd67", func := "coffret/coffretlaw05.FieldOrders", spec := "fieldOrders", named := ["coffret/field.squares"], apart := false, laid := [("coffret/field.squares", laid_coffret_field_squares)] }
def FieldOrdersSaid : Prop := fieldOrdersRow.holds Tryd.pinned (OpenSpec.ofChange fieldOrdersSpec)

/-- ITS FALSE NEIGHBOUR: 'it returns false'. Refute it at one input. -/
def fieldOrdersWrong : ChangeSpec := { name := "fieldOrders", fn := fun _ => fun
  | [d1, d2, d3] => { results := [.lit (.bool false)], args := [d1, d2, d3] }
  | _ => none }
def FieldOrdersWrongFalsely : Prop := fieldOrdersRow.holds Tryd.pinned (OpenSpec.ofChange fieldOrdersWrong)

/-- 'coffretlaw05.FieldBoxes': WHATEVER THE INPUT: true; the input reads as it did. -/
def fieldBoxesSpec : ChangeSpec := { name := "fieldBoxes", fn := fun _ => fun
  | [d1, d2] => { results := [.lit (.bool true)], args := [d1, d2] }
  | _ => none }
def fieldBoxesRow : OpenClaim := { program := "ythfnfheomelncaadoor", sum := "785300cc0cd97b652ed14e75fd80c3fddff16a6c215da70b06b4c90df61edd67", func := "coffret/coffretlaw05.FieldBoxes", spec := "fieldBoxes", named := ["coffret/field.squares"], apart := false, laid := [("coffret/field.squares", laid_coffret_field_squares)] }
def FieldBoxesSaid : Prop := fieldBoxesRow.holds Tryd.pinned (OpenSpec.ofChange fieldBoxesSpec)

/-- ITS FALSE NEIGHBOUR: 'it returns false'. Refute it at one input. -/
def fieldBoxesWrong : ChangeSpec := { name := "fieldBoxes", fn := fun _ => fun
  | [d1, d2] => { results := [.lit (.bool false)], args := [d1, d2] }
  | _ => none }
def FieldBoxesWrongFalsely : Prop := fieldBoxesRow.holds Tryd.pinned (OpenSpec.ofChange fieldBoxesWrong)

/-- 'coffretlaw05.FieldPowers': WHATEVER THE INPUT: true; the input reads as it did. -/
def fieldPowersSpec : ChangeSpec := { name := "fieldPowers", fn := fun _ => fun
  | [d1, d2] => { results := [.lit (.bool true)], args := [d1, d2] }
  | _ => none }
def fieldPowersRow : OpenClaim := { program := "ythfnfheomelncaadoor", sum := "785300cc0cd97b652ed14e75fd80c3fddff16a6c215da70b06b4c90df61edd67", func := "coffret/coffretlaw05.FieldPowers", spec := "fieldPowers", named := ["coffret/field.squares"], apart := false, laid := [("coffret/field.squares", laid_coffret_field_squares)] }
def FieldPowersSaid : Prop := fieldPowersRow.holds Tryd.pinned (OpenSpec.ofChange fieldPowersSpec)

/-- ITS FALSE NEIGHBOUR: 'it returns false'. Refute it at one input. -/
def fieldPowersWrong : ChangeSpec := { name := "fieldPowers", fn := fun _ => fun
  | [d1, d2] => { results := [.lit (.bool false)], args := [d1, d2] }
  | _ => none }
def FieldPowersWrongFalsely : Prop := fieldPowersRow.holds Tryd.pinned (OpenSpec.ofChange fieldPowersWrong)

/- THE SECOND FORM. 'bulk': how many values and letters a reading holds, each counted each time it is reached (what is shared counts as often as it is met; a slice's spare places count too). A statement '..UptoSaid' is the law's where the arguments, and the package variables that the reading takes, are together of bulk at most 1048576: NARROWER than '..Said'. Prove '..Said' where nothing that the law and all that it calls make is longer than what came in: it says more and counts as full. Else prove '..UptoSaid'. A law counts once. -/
mutual
def uptoBulk {H : Type} : DataW H → Nat
  | .lit (.string bytes) => bytes.length + 1
  | .lit _ => 1
  | .nil => 1
  | .ptr d => uptoBulk d + 1
  | .slice elems spare => uptoBulkAll elems + uptoBulkAll spare + 1
  | .agg parts => uptoBulkAll parts + 1
  | .iface _ d => uptoBulk d + 1
  | .map entries => uptoBulkEntries entries + 1
  | .held _ => 1
def uptoBulkAll {H : Type} : List (DataW H) → Nat
  | [] => 0
  | d :: r => uptoBulk d + uptoBulkAll r
def uptoBulkEntries {H : Type} : List (Lit × DataW H) → Nat
  | [] => 0
  | x :: r => uptoBulkEntry x + uptoBulkEntries r
def uptoBulkEntry {H : Type} : Lit × DataW H → Nat
  | (.string bytes, d) => bytes.length + uptoBulk d + 1
  | (_, d) => uptoBulk d + 1
 end
def uptoSmall : (H : Type) → List (DataW H) → Bool := fun _ ds => decide (uptoBulkAll ds ≤ 1048576)
def OpenSpec.upto (s : _root_.Go.ChangeSpec) : _root_.Go.OpenSpec := { _root_.Go.OpenSpec.ofChange s with cond := some uptoSmall }

/-- 'coffretlaw05.FieldTimes', WHERE WHAT IT READS IS OF BULK AT MOST 1048576: true; the input reads as it did. -/
def fieldTimesUptoRow : OpenClaim := { program := "ythfnfheomelncaadoor", sum := "785300cc0cd97b652ed14e75fd80c3fddff16a6c215da70b06b4c90df61edd67", func := "coffret/coffretlaw05.FieldTimes", spec := "fieldTimes", named := ["coffret/field.squares"], apart := false, laid := [("coffret/field.squares", laid_coffret_field_squares)], narrowed := true }
def FieldTimesUptoSaid : Prop := fieldTimesUptoRow.holds Tryd.pinned (OpenSpec.upto fieldTimesSpec)

/-- 'coffretlaw05.FieldInverts', WHERE WHAT IT READS IS OF BULK AT MOST 1048576: true; the input reads as it did. -/
def fieldInvertsUptoRow : OpenClaim := { program := "ythfnfheomelncaadoor", sum := "785300cc0cd97b652ed14e75fd80c3fddff16a6c215da70b06b4c90df61edd67", func := "coffret/coffretlaw05.FieldInverts", spec := "fieldInverts", named := ["coffret/field.squares"], apart := false, laid := [("coffret/field.squares", laid_coffret_field_squares)], narrowed := true }
def FieldInvertsUptoSaid : Prop := fieldInvertsUptoRow.holds Tryd.pinned (OpenSpec.upto fieldInvertsSpec)

/-- 'coffretlaw05.FieldOrders', WHERE WHAT IT READS IS OF BULK AT MOST 1048576: true; the input reads as it did. -/
def fieldOrdersUptoRow : OpenClaim := { program := "ythfnfheomelncaadoor", sum := "785300cc0cd97b652ed14e75fd80c3fddff16a6c215da70b06b4c90df61edd67", func := "coffret/coffretlaw05.FieldOrders", spec := "fieldOrders", named := ["coffret/field.squares"], apart := false, laid := [("coffret/field.squares", laid_coffret_field_squares)], narrowed := true }
def FieldOrdersUptoSaid : Prop := fieldOrdersUptoRow.holds Tryd.pinned (OpenSpec.upto fieldOrdersSpec)

/-- 'coffretlaw05.FieldBoxes', WHERE WHAT IT READS IS OF BULK AT MOST 1048576: true; the input reads as it did. -/
def fieldBoxesUptoRow : OpenClaim := { program := "ythfnfheomelncaadoor", sum := "785300cc0cd97b652ed14e75fd80c3fddff16a6c215da70b06b4c90df61edd67", func := "coffret/coffretlaw05.FieldBoxes", spec := "fieldBoxes", named := ["coffret/field.squares"], apart := false, laid := [("coffret/field.squares", laid_coffret_field_squares)], narrowed := true }
def FieldBoxesUptoSaid : Prop := fieldBoxesUptoRow.holds Tryd.pinned (OpenSpec.upto fieldBoxesSpec)

/-- 'coffretlaw05.FieldPowers', WHERE WHAT IT READS IS OF BULK AT MOST 1048576: true; the input reads as it did. -/
def fieldPowersUptoRow : OpenClaim := { program := "ythfnfheomelncaadoor", sum := "785300cc0cd97b652ed14e75fd80c3fddff16a6c215da70b06b4c90df61edd67", func := "coffret/coffretlaw05.FieldPowers", spec := "fieldPowers", named := ["coffret/field.squares"], apart := false, laid := [("coffret/field.squares", laid_coffret_field_squares)], narrowed := true }
def FieldPowersUptoSaid : Prop := fieldPowersUptoRow.holds Tryd.pinned (OpenSpec.upto fieldPowersSpec)

end Rows
end Go.Proofs.YthfnfheomelncaaDoor
