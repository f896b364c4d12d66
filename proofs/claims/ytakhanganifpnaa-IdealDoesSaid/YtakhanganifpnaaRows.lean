/-
  No cell of these rows narrows 'for every input' (looked for: loops, veiled, ifaces, maps, wideKeys, modest, calm, conditions, laid).
  DERIVED. THE GIVEN ROWS OF THIS SEAT. 5 by the template 'for every input the law returns true; each argument reads behind the call as it read before'; 0 by the template 'total and deterministic' (their statements: YtakhanganifpnaaTotals.lean).
  GIVEN WITH THE SEED: the statements are not yours to turn. If you find one false, say at which input.
  Laid BY PROGRAM, IN A SANDBOX (cutbox-rows.mjs): the forced cells as the released guide's own fill.sh prints them over the translation 1f4d3628839d9fd5… (all of the seat's roots in one cut). By AI agents, Wed Nov 11 2026. No macro, syntax, notation, axiom, sorry.
-/
import Derived.Test.YtakhanganifpnaaChecked
import GoSem.Claim
import GoSem.ClaimJoined
import GoSem.ClaimMapViews
import Derived.JoinedTies
import Derived.KernelRfl
namespace Go.Proofs.Ytakhanganifpnaa
/- THE CELL 'sum', in the pinned program and in every row, IS THE sha256 OF THE DUMP (.gsa) THAT YtakhanganifpnaaProg.lean LOADS. Nothing in Lean hashes anything: it is a label: what it is worth is what the hold of that sum in a sandbox is worth. -/
noncomputable def Try.pinned : Pinned := { name := "ytakhanganifpnaa", sum := "1f4d3628839d9fd5b0175cd6cdcf271b85539f3207a8458360143d2323e6382a", checked := Try.checked }
namespace Rows
def none {H : Type} : Left H := { results := [], args := [] }

/-- 'coffretlaw09.IdealDoes': WHATEVER THE INPUT: true; the input reads as it did. -/
def idealDoesSpec : ChangeSpec := { name := "idealDoes", fn := fun _ => fun
  | [d] => { results := [.lit (.bool true)], args := [d] }
  | _ => none }
def idealDoesRow : OpenClaim := { program := "ytakhanganifpnaa", sum := "1f4d3628839d9fd5b0175cd6cdcf271b85539f3207a8458360143d2323e6382a", func := "coffret/coffretlaw09.IdealDoes", spec := "idealDoes", inPlace := ["internal/bytealg.MakeNoZero"], plainKeys := false, apart := false }
def IdealDoesSaid : Prop := idealDoesRow.holds Try.pinned (OpenSpec.ofChange idealDoesSpec)

/-- ITS FALSE NEIGHBOUR: 'it returns false'. Refute it at one input. -/
def idealDoesWrong : ChangeSpec := { name := "idealDoes", fn := fun _ => fun
  | [d] => { results := [.lit (.bool false)], args := [d] }
  | _ => none }
def IdealDoesWrongFalsely : Prop := idealDoesRow.holds Try.pinned (OpenSpec.ofChange idealDoesWrong)

/-- 'coffretlaw09.IdealParts': WHATEVER THE INPUT: true; the input reads as it did. -/
def idealPartsSpec : ChangeSpec := { name := "idealParts", fn := fun _ => fun
  | [d1, d2, d3] => { results := [.lit (.bool true)], args := [d1, d2, d3] }
  | _ => none }
def idealPartsRow : OpenClaim := { program := "ytakhanganifpnaa", sum := "1f4d3628839d9fd5b0175cd6cdcf271b85539f3207a8458360143d2323e6382a", func := "coffret/coffretlaw09.IdealParts", spec := "idealParts", inPlace := ["internal/bytealg.MakeNoZero"], plainKeys := false, apart := false }
def IdealPartsSaid : Prop := idealPartsRow.holds Try.pinned (OpenSpec.ofChange idealPartsSpec)

/-- ITS FALSE NEIGHBOUR: 'it returns false'. Refute it at one input. -/
def idealPartsWrong : ChangeSpec := { name := "idealParts", fn := fun _ => fun
  | [d1, d2, d3] => { results := [.lit (.bool false)], args := [d1, d2, d3] }
  | _ => none }
def IdealPartsWrongFalsely : Prop := idealPartsRow.holds Try.pinned (OpenSpec.ofChange idealPartsWrong)

/-- 'coffretlaw09.IdealHides': WHATEVER THE INPUT: true; the input reads as it did. -/
def idealHidesSpec : ChangeSpec := { name := "idealHides", fn := fun _ => fun
  | [d1, d2] => { results := [.lit (.bool true)], args := [d1, d2] }
  | _ => none }
def idealHidesRow : OpenClaim := { program := "ytakhanganifpnaa", sum := "1f4d3628839d9fd5b0175cd6cdcf271b85539f3207a8458360143d2323e6382a", func := "coffret/coffretlaw09.IdealHides", spec := "idealHides", inPlace := ["internal/bytealg.MakeNoZero"], plainKeys := false, apart := false }
def IdealHidesSaid : Prop := idealHidesRow.holds Try.pinned (OpenSpec.ofChange idealHidesSpec)

/-- ITS FALSE NEIGHBOUR: 'it returns false'. Refute it at one input. -/
def idealHidesWrong : ChangeSpec := { name := "idealHides", fn := fun _ => fun
  | [d1, d2] => { results := [.lit (.bool false)], args := [d1, d2] }
  | _ => none }
def IdealHidesWrongFalsely : Prop := idealHidesRow.holds Try.pinned (OpenSpec.ofChange idealHidesWrong)

/-- 'coffretlaw09.IdealTurned': WHATEVER THE INPUT: true; the input reads as it did. -/
def idealTurnedSpec : ChangeSpec := { name := "idealTurned", fn := fun _ => fun
  | [d1, d2, d3] => { results := [.lit (.bool true)], args := [d1, d2, d3] }
  | _ => none }
def idealTurnedRow : OpenClaim := { program := "ytakhanganifpnaa", sum := "1f4d3628839d9fd5b0175cd6cdcf271b85539f3207a8458360143d2323e6382a", func := "coffret/coffretlaw09.IdealTurned", spec := "idealTurned", inPlace := ["internal/bytealg.MakeNoZero"], plainKeys := false, apart := false }
def IdealTurnedSaid : Prop := idealTurnedRow.holds Try.pinned (OpenSpec.ofChange idealTurnedSpec)

/-- ITS FALSE NEIGHBOUR: 'it returns false'. Refute it at one input. -/
def idealTurnedWrong : ChangeSpec := { name := "idealTurned", fn := fun _ => fun
  | [d1, d2, d3] => { results := [.lit (.bool false)], args := [d1, d2, d3] }
  | _ => none }
def IdealTurnedWrongFalsely : Prop := idealTurnedRow.holds Try.pinned (OpenSpec.ofChange idealTurnedWrong)

/-- 'coffretlaw09.IdealNumbers': WHATEVER THE INPUT: true; the input reads as it did. -/
def idealNumbersSpec : ChangeSpec := { name := "idealNumbers", fn := fun _ => fun
  | [d] => { results := [.lit (.bool true)], args := [d] }
  | _ => none }
def idealNumbersRow : OpenClaim := { program := "ytakhanganifpnaa", sum := "1f4d3628839d9fd5b0175cd6cdcf271b85539f3207a8458360143d2323e6382a", func := "coffret/coffretlaw09.IdealNumbers", spec := "idealNumbers", inPlace := ["internal/bytealg.MakeNoZero"], plainKeys := false, apart := false }
def IdealNumbersSaid : Prop := idealNumbersRow.holds Try.pinned (OpenSpec.ofChange idealNumbersSpec)

/-- ITS FALSE NEIGHBOUR: 'it returns false'. Refute it at one input. -/
def idealNumbersWrong : ChangeSpec := { name := "idealNumbers", fn := fun _ => fun
  | [d] => { results := [.lit (.bool false)], args := [d] }
  | _ => none }
def IdealNumbersWrongFalsely : Prop := idealNumbersRow.holds Try.pinned (OpenSpec.ofChange idealNumbersWrong)

/- THE SECOND FORM. 'bulk': how many values and letters a reading holds, each counted each time it is reached (what is shared counts as often as it is met; a slice's spare places count too). A statement '..UptoSaid' is the law's where the arguments, and the package variables that the reading takes, are together of bulk at most 1048576: NARROWER than '..Said'. Prove '..Said' where nothing that the law and all that it calls make is longer than what came in: it says more and counts as full. Else prove '..UptoSaid'. A law counts once. -/
mutual
def uptoBulk {H : Type} : DataW H → Nat
  | .lit (.string bytes) => bytes.length + 1
  | .lit _ => 1
  | .nil => 1
  | .ptr d => uptoBulk d + 1
  | .slice elems spare => uptoBulkAll elems + uptoBulkAll spare + 1
  | .agg parts => uptoBulkAll parts + 1
  | .iface _ d => uptoBulk d + 1
  | .map entries => uptoBulkEntries entries + 1
  | .held _ => 1
def uptoBulkAll {H : Type} : List (DataW H) → Nat
  | [] => 0
  | d :: r => uptoBulk d + uptoBulkAll r
def uptoBulkEntries {H : Type} : List (Lit × DataW H) → Nat
  | [] => 0
  | x :: r => uptoBulkEntry x + uptoBulkEntries r
def uptoBulkEntry {H : Type} : Lit × DataW H → Nat
  | (.string bytes, d) => bytes.length + uptoBulk d + 1
  | (_, d) => uptoBulk d + 1
 end
def uptoSmall : (H : Type) → List (DataW H) → Bool := fun _ ds => decide (uptoBulkAll ds ≤ 1048576)
def OpenSpec.upto (s : _root_.Go.ChangeSpec) : _root_.Go.OpenSpec := { _root_.Go.OpenSpec.ofChange s with cond := some uptoSmall }

/-- 'coffretlaw09.IdealDoes', WHERE WHAT IT READS IS OF BULK AT MOST 1048576: true; the input reads as it did. -/
def idealDoesUptoRow : OpenClaim := { program := "ytakhanganifpnaa", sum := "1f4d3628839d9fd5b0175cd6cdcf271b85539f3207a8458360143d2323e6382a", func := "coffret/coffretlaw09.IdealDoes", spec := "idealDoes", inPlace := ["internal/bytealg.MakeNoZero"], plainKeys := false, apart := false, narrowed := true }
def IdealDoesUptoSaid : Prop := idealDoesUptoRow.holds Try.pinned (OpenSpec.upto idealDoesSpec)

/-- 'coffretlaw09.IdealParts', WHERE WHAT IT READS IS OF BULK AT MOST 1048576: true; the input reads as it did. -/
def idealPartsUptoRow : OpenClaim := { program := "ytakhanganifpnaa", sum := "1f4d3628839d9fd5b0175cd6cdcf271b85539f3207a8458360143d2323e6382a", func := "coffret/coffretlaw09.IdealParts", spec := "idealParts", inPlace := ["internal/bytealg.MakeNoZero"], plainKeys := false, apart := false, narrowed := true }
def IdealPartsUptoSaid : Prop := idealPartsUptoRow.holds Try.pinned (OpenSpec.upto idealPartsSpec)

/-- 'coffretlaw09.IdealHides', WHERE WHAT IT READS IS OF BULK AT MOST 1048576: true; the input reads as it did. -/
def idealHidesUptoRow : OpenClaim := { program := "ytakhanganifpnaa", sum := "1f4d3628839d9fd5b0175cd6cdcf271b85539f3207a8458360143d2323e6382a", func := "coffret/coffretlaw09.IdealHides", spec := "idealHides", inPlace := ["internal/bytealg.MakeNoZero"], plainKeys := false, apart := false, narrowed := true }
def IdealHidesUptoSaid : Prop := idealHidesUptoRow.holds Try.pinned (OpenSpec.upto idealHidesSpec)

/-- 'coffretlaw09.IdealTurned', WHERE WHAT IT READS IS OF BULK AT MOST 1048576: true; the input reads as it did. -/
def idealTurnedUptoRow : OpenClaim := { program := "ytakhanganifpnaa", sum := "1f4d3628839d9fd5b0175cd6cdcf271b85539f3207a8458360143d2323e6382a", func := "coffret/coffretlaw09.IdealTurned", spec := "idealTurned", inPlace := ["internal/bytealg.MakeNoZero"], plainKeys := false, apart := false, narrowed := true }
def IdealTurnedUptoSaid : Prop := idealTurnedUptoRow.holds Try.pinned (OpenSpec.upto idealTurnedSpec)

/-- 'coffretlaw09.IdealNumbers', WHERE WHAT IT READS IS OF BULK AT MOST 1048576: true; the input reads as it did. -/
def idealNumbersUptoRow : OpenClaim := { program := "ytakhanganifpnaa", sum := "1f4d3628839d9fd5b0175cd6cdcf271b85539f3207a8458360143d2323e6382a", func := "coffret/coffretlaw09.IdealNumbers", spec := "idealNumbers", inPlace := ["internal/bytealg.MakeNoZero"], plainKeys := false, apart := false, narrowed := true }
def IdealNumbersUptoSaid : Prop := idealNumbersUptoRow.holds Try.pinned (OpenSpec.upto idealNumbersSpec)

end Rows
end Go.Proofs.Ytakhanganifpnaa
