/-
  No cell of these rows narrows 'for every input' (looked for: loops, veiled, ifaces, maps, wideKeys, modest, calm, conditions, laid).
  DERIVED. THE GIVEN ROWS OF THIS SEAT. 6 by the template 'for every input the law returns true; each argument reads behind the call as it read before'; 0 by the template 'total and deterministic' (their statements: YtefpdnfogdioeaaTotals.lean).
  GIVEN WITH THE SEED: the statements are not yours to turn. If you find one false, say at which input.
  Laid BY PROGRAM, IN A SANDBOX (cutbox-rows.mjs): the forced cells as the released guide's own fill.sh prints them over the translation 7bc7e7b95e5c0b69… (all of the seat's roots in one cut). By AI agents, Wed Nov 11 2026. No macro, syntax, notation, axiom, sorry.
-/
import Derived.Test.YtefpdnfogdioeaaChecked
import GoSem.Claim
import GoSem.ClaimJoined
import GoSem.ClaimMapViews
import Derived.JoinedTies
import Derived.KernelRfl
namespace Go.Proofs.Ytefpdnfogdioeaa
/- THE CELL 'sum', in the pinned program and in every row, IS THE sha256 OF THE DUMP (.gsa) THAT YtefpdnfogdioeaaProg.lean LOADS. Nothing in Lean hashes anything: it is a label: what it is worth is what the hold of that sum in a sandbox is worth. -/
noncomputable def Try.pinned : Pinned := { name := "ytefpdnfogdioeaa", sum := "7bc7e7b95e5c0b697b86974e8f04f68398c0663557ecf7b3041b4fa5903e2a61", checked := Try.checked }
namespace Rows
def none {H : Type} : Left H := { results := [], args := [] }

/-- 'coffretlaw07.GhashTimes': WHATEVER THE INPUT: true; the input reads as it did. -/
def ghashTimesSpec : ChangeSpec := { name := "ghashTimes", fn := fun _ => fun
  | [d1, d2] => { results := [.lit (.bool true)], args := [d1, d2] }
  | _ => none }
def ghashTimesRow : OpenClaim := { program := "ytefpdnfogdioeaa", sum := "7bc7e7b95e5c0b697b86974e8f04f68398c0663557ecf7b3041b4fa5903e2a61", func := "coffret/coffretlaw07.GhashTimes", spec := "ghashTimes", apart := false }
def GhashTimesSaid : Prop := ghashTimesRow.holds Try.pinned (OpenSpec.ofChange ghashTimesSpec)

/-- ITS FALSE NEIGHBOUR: 'it returns false'. Refute it at one input. -/
def ghashTimesWrong : ChangeSpec := { name := "ghashTimes", fn := fun _ => fun
  | [d1, d2] => { results := [.lit (.bool false)], args := [d1, d2] }
  | _ => none }
def GhashTimesWrongFalsely : Prop := ghashTimesRow.holds Try.pinned (OpenSpec.ofChange ghashTimesWrong)

/-- 'coffretlaw07.GhashOrders': WHATEVER THE INPUT: true; the input reads as it did. -/
def ghashOrdersSpec : ChangeSpec := { name := "ghashOrders", fn := fun _ => fun
  | [d1, d2, d3] => { results := [.lit (.bool true)], args := [d1, d2, d3] }
  | _ => none }
def ghashOrdersRow : OpenClaim := { program := "ytefpdnfogdioeaa", sum := "7bc7e7b95e5c0b697b86974e8f04f68398c0663557ecf7b3041b4fa5903e2a61", func := "coffret/coffretlaw07.GhashOrders", spec := "ghashOrders", apart := false }
def GhashOrdersSaid : Prop := ghashOrdersRow.holds Try.pinned (OpenSpec.ofChange ghashOrdersSpec)

/-- ITS FALSE NEIGHBOUR: 'it returns false'. Refute it at one input. -/
def ghashOrdersWrong : ChangeSpec := { name := "ghashOrders", fn := fun _ => fun
  | [d1, d2, d3] => { results := [.lit (.bool false)], args := [d1, d2, d3] }
  | _ => none }
def GhashOrdersWrongFalsely : Prop := ghashOrdersRow.holds Try.pinned (OpenSpec.ofChange ghashOrdersWrong)

/-- 'coffretlaw07.GhashSums': WHATEVER THE INPUT: true; the input reads as it did. -/
def ghashSumsSpec : ChangeSpec := { name := "ghashSums", fn := fun _ => fun
  | [d1, d2, d3] => { results := [.lit (.bool true)], args := [d1, d2, d3] }
  | _ => none }
def ghashSumsRow : OpenClaim := { program := "ytefpdnfogdioeaa", sum := "7bc7e7b95e5c0b697b86974e8f04f68398c0663557ecf7b3041b4fa5903e2a61", func := "coffret/coffretlaw07.GhashSums", spec := "ghashSums", apart := false }
def GhashSumsSaid : Prop := ghashSumsRow.holds Try.pinned (OpenSpec.ofChange ghashSumsSpec)

/-- ITS FALSE NEIGHBOUR: 'it returns false'. Refute it at one input. -/
def ghashSumsWrong : ChangeSpec := { name := "ghashSums", fn := fun _ => fun
  | [d1, d2, d3] => { results := [.lit (.bool false)], args := [d1, d2, d3] }
  | _ => none }
def GhashSumsWrongFalsely : Prop := ghashSumsRow.holds Try.pinned (OpenSpec.ofChange ghashSumsWrong)

/-- 'coffretlaw07.GhashParts': WHATEVER THE INPUT: true; the input reads as it did. -/
def ghashPartsSpec : ChangeSpec := { name := "ghashParts", fn := fun _ => fun
  | [d1, d2, d3, d4] => { results := [.lit (.bool true)], args := [d1, d2, d3, d4] }
  | _ => none }
def ghashPartsRow : OpenClaim := { program := "ytefpdnfogdioeaa", sum := "7bc7e7b95e5c0b697b86974e8f04f68398c0663557ecf7b3041b4fa5903e2a61", func := "coffret/coffretlaw07.GhashParts", spec := "ghashParts", apart := false }
def GhashPartsSaid : Prop := ghashPartsRow.holds Try.pinned (OpenSpec.ofChange ghashPartsSpec)

/-- ITS FALSE NEIGHBOUR: 'it returns false'. Refute it at one input. -/
def ghashPartsWrong : ChangeSpec := { name := "ghashParts", fn := fun _ => fun
  | [d1, d2, d3, d4] => { results := [.lit (.bool false)], args := [d1, d2, d3, d4] }
  | _ => none }
def GhashPartsWrongFalsely : Prop := ghashPartsRow.holds Try.pinned (OpenSpec.ofChange ghashPartsWrong)

/-- 'coffretlaw07.GhashKeeps': WHATEVER THE INPUT: true; the input reads as it did. -/
def ghashKeepsSpec : ChangeSpec := { name := "ghashKeeps", fn := fun _ => fun
  | [d1, d2] => { results := [.lit (.bool true)], args := [d1, d2] }
  | _ => none }
def ghashKeepsRow : OpenClaim := { program := "ytefpdnfogdioeaa", sum := "7bc7e7b95e5c0b697b86974e8f04f68398c0663557ecf7b3041b4fa5903e2a61", func := "coffret/coffretlaw07.GhashKeeps", spec := "ghashKeeps", apart := false }
def GhashKeepsSaid : Prop := ghashKeepsRow.holds Try.pinned (OpenSpec.ofChange ghashKeepsSpec)

/-- ITS FALSE NEIGHBOUR: 'it returns false'. Refute it at one input. -/
def ghashKeepsWrong : ChangeSpec := { name := "ghashKeeps", fn := fun _ => fun
  | [d1, d2] => { results := [.lit (.bool false)], args := [d1, d2] }
  | _ => none }
def GhashKeepsWrongFalsely : Prop := ghashKeepsRow.holds Try.pinned (OpenSpec.ofChange ghashKeepsWrong)

/-- 'coffretlaw07.GhashShifts': WHATEVER THE INPUT: true; the input reads as it did. -/
def ghashShiftsSpec : ChangeSpec := { name := "ghashShifts", fn := fun _ => fun
  | [d1, d2] => { results := [.lit (.bool true)], args := [d1, d2] }
  | _ => none }
def ghashShiftsRow : OpenClaim := { program := "ytefpdnfogdioeaa", sum := "7bc7e7b95e5c0b697b86974e8f04f68398c0663557ecf7b3041b4fa5903e2a61", func := "coffret/coffretlaw07.GhashShifts", spec := "ghashShifts", apart := false }
def GhashShiftsSaid : Prop := ghashShiftsRow.holds Try.pinned (OpenSpec.ofChange ghashShiftsSpec)

/-- ITS FALSE NEIGHBOUR: 'it returns false'. Refute it at one input. -/
def ghashShiftsWrong : ChangeSpec := { name := "ghashShifts", fn := fun _ => fun
  | [d1, d2] => { results := [.lit (.bool false)], args := [d1, d2] }
  | _ => none }
def GhashShiftsWrongFalsely : Prop := ghashShiftsRow.holds Try.pinned (OpenSpec.ofChange ghashShiftsWrong)

/- THE SECOND FORM. 'bulk': how many values and letters a reading holds, each counted each time it is reached (what is shared counts as often as it is met; a slice's spare places count too). A statement '..UptoSaid' is the law's where the arguments, and the package variables that the reading takes, are together of bulk at most 1048576: NARROWER than '..Said'. Prove '..Said' where nothing that the law and all that it calls make is longer than what came in: it says more and counts as full. Else prove '..UptoSaid'. A law counts once. -/
mutual
def uptoBulk {H : Type} : DataW H → Nat
  | .lit (.string bytes) => bytes.length + 1
  | .lit _ => 1
  | .nil => 1
  | .ptr d => uptoBulk d + 1
  | .slice elems spare => uptoBulkAll elems + uptoBulkAll spare + 1
  | .agg parts => uptoBulkAll parts + 1
  | .iface _ d => uptoBulk d + 1
  | .map entries => uptoBulkEntries entries + 1
  | .held _ => 1
def uptoBulkAll {H : Type} : List (DataW H) → Nat
  | [] => 0
  | d :: r => uptoBulk d + uptoBulkAll r
def uptoBulkEntries {H : Type} : List (Lit × DataW H) → Nat
  | [] => 0
  | x :: r => uptoBulkEntry x + uptoBulkEntries r
def uptoBulkEntry {H : Type} : Lit × DataW H → Nat
  | (.string bytes, d) => bytes.length + uptoBulk d + 1
  | (_, d) => uptoBulk d + 1
 end
def uptoSmall : (H : Type) → List (DataW H) → Bool := fun _ ds => decide (uptoBulkAll ds ≤ 1048576)
def OpenSpec.upto (s : _root_.Go.ChangeSpec) : _root_.Go.OpenSpec := { _root_.Go.OpenSpec.ofChange s with cond := some uptoSmall }

/-- 'coffretlaw07.GhashTimes', WHERE WHAT IT READS IS OF BULK AT MOST 1048576: true; the input reads as it did. -/
def ghashTimesUptoRow : OpenClaim := { program := "ytefpdnfogdioeaa", sum := "7bc7e7b95e5c0b697b86974e8f04f68398c0663557ecf7b3041b4fa5903e2a61", func := "coffret/coffretlaw07.GhashTimes", spec := "ghashTimes", apart := false, narrowed := true }
def GhashTimesUptoSaid : Prop := ghashTimesUptoRow.holds Try.pinned (OpenSpec.upto ghashTimesSpec)

/-- 'coffretlaw07.GhashOrders', WHERE WHAT IT READS IS OF BULK AT MOST 1048576: true; the input reads as it did. -/
def ghashOrdersUptoRow : OpenClaim := { program := "ytefpdnfogdioeaa", sum := "7bc7e7b95e5c0b697b86974e8f04f68398c0663557ecf7b3041b4fa5903e2a61", func := "coffret/coffretlaw07.GhashOrders", spec := "ghashOrders", apart := false, narrowed := true }
def GhashOrdersUptoSaid : Prop := ghashOrdersUptoRow.holds Try.pinned (OpenSpec.upto ghashOrdersSpec)

/-- 'coffretlaw07.GhashSums', WHERE WHAT IT READS IS OF BULK AT MOST 1048576: true; the input reads as it did. -/
def ghashSumsUptoRow : OpenClaim := { program := "ytefpdnfogdioeaa", sum := "7bc7e7b95e5c0b697b86974e8f04f68398c0663557ecf7b3041b4fa5903e2a61", func := "coffret/coffretlaw07.GhashSums", spec := "ghashSums", apart := false, narrowed := true }
def GhashSumsUptoSaid : Prop := ghashSumsUptoRow.holds Try.pinned (OpenSpec.upto ghashSumsSpec)

/-- 'coffretlaw07.GhashParts', WHERE WHAT IT READS IS OF BULK AT MOST 1048576: true; the input reads as it did. -/
def ghashPartsUptoRow : OpenClaim := { program := "ytefpdnfogdioeaa", sum := "7bc7e7b95e5c0b697b86974e8f04f68398c0663557ecf7b3041b4fa5903e2a61", func := "coffret/coffretlaw07.GhashParts", spec := "ghashParts", apart := false, narrowed := true }
def GhashPartsUptoSaid : Prop := ghashPartsUptoRow.holds Try.pinned (OpenSpec.upto ghashPartsSpec)

/-- 'coffretlaw07.GhashKeeps', WHERE WHAT IT READS IS OF BULK AT MOST 1048576: true; the input reads as it did. -/
def ghashKeepsUptoRow : OpenClaim := { program := "ytefpdnfogdioeaa", sum := "7bc7e7b95e5c0b697b86974e8f04f68398c0663557ecf7b3041b4fa5903e2a61", func := "coffret/coffretlaw07.GhashKeeps", spec := "ghashKeeps", apart := false, narrowed := true }
def GhashKeepsUptoSaid : Prop := ghashKeepsUptoRow.holds Try.pinned (OpenSpec.upto ghashKeepsSpec)

/-- 'coffretlaw07.GhashShifts', WHERE WHAT IT READS IS OF BULK AT MOST 1048576: true; the input reads as it did. -/
def ghashShiftsUptoRow : OpenClaim := { program := "ytefpdnfogdioeaa", sum := "7bc7e7b95e5c0b697b86974e8f04f68398c0663557ecf7b3041b4fa5903e2a61", func := "coffret/coffretlaw07.GhashShifts", spec := "ghashShifts", apart := false, narrowed := true }
def GhashShiftsUptoSaid : Prop := ghashShiftsUptoRow.holds Try.pinned (OpenSpec.upto ghashShiftsSpec)

end Rows
end Go.Proofs.Ytefpdnfogdioeaa
