/-
  No cell of these rows narrows 'for every input' (looked for: loops, veiled, ifaces, maps, wideKeys, modest, calm, conditions, laid).
  DERIVED. THE GIVEN ROWS OF THIS SEAT. 5 by the template 'for every input the law returns true; each argument reads behind the call as it read before'; 0 by the template 'total and deterministic' (their statements: YtigdlnfgdjfdoaaGreatTotals.lean).
  GIVEN WITH THE SEED: the statements are not yours to turn. If you find one false, say at which input.
  Laid BY PROGRAM, IN A SANDBOX (cutbox-rows.mjs): the forced cells as the released guide's own fill.sh prints them over the translation e5fa8325b3cbbe84… (all of the seat's roots in one cut). By AI agents, Wed Nov 11 2026. No macro, syntax, notation, axiom, sorry.
-/
import Derived.Test.YtigdlnfgdjfdoaaGreatChecked
import GoSem.Claim
import GoSem.ClaimJoined
import GoSem.ClaimMapViews
import Derived.JoinedTies
import Derived.KernelRfl
namespace Go.Proofs.YtigdlnfgdjfdoaaGreat
/- THE CELL 'sum', in the pinned program and in every row, IS THE sha256 OF THE DUMP (.gsa) THAT YtigdlnfgdjfdoaaGreatProg.lean LOADS. Nothing in Lean hashes anything: it is a label: what it is worth is what the hold of that sum in a sandbox is worth. -/
noncomputable def Tryz.pinned : Pinned := { name := "ytigdlnfgdjfdoaagreat", sum := "e5fa8325b3cbbe84571c734f0b94718d4d6b9b7744952a825bc42395f24ae230", checked := Tryz.checked }
namespace Rows
def none {H : Type} : Left H := { results := [], args := [] }

/-- 'coffretlaw17.CommitLoses': WHATEVER THE INPUT: true; the input reads as it did. -/
def commitLosesSpec : ChangeSpec := { name := "commitLoses", fn := fun _ => fun
  | [d1, d2] => { results := [.lit (.bool true)], args := [d1, d2] }
  | _ => none }
def commitLosesRow : OpenClaim := { program := "ytigdlnfgdjfdoaagreat", sum := "e5fa8325b3cbbe84571c734f0b94718d4d6b9b7744952a825bc42395f24ae230", func := "coffret/coffretlaw17.CommitLoses", spec := "commitLoses", unfollowed := true, recurses := true, plainKeys := false, apart := false }
def CommitLosesSaid : Prop := commitLosesRow.holds Tryz.pinned (OpenSpec.ofChange commitLosesSpec)

/-- ITS FALSE NEIGHBOUR: 'it returns false'. Refute it at one input. -/
def commitLosesWrong : ChangeSpec := { name := "commitLoses", fn := fun _ => fun
  | [d1, d2] => { results := [.lit (.bool false)], args := [d1, d2] }
  | _ => none }
def CommitLosesWrongFalsely : Prop := commitLosesRow.holds Tryz.pinned (OpenSpec.ofChange commitLosesWrong)

/-- 'coffretlaw17.CommitForged': WHATEVER THE INPUT: true; the input reads as it did. -/
def commitForgedSpec : ChangeSpec := { name := "commitForged", fn := fun _ => fun
  | [d1, d2, d3, d4] => { results := [.lit (.bool true)], args := [d1, d2, d3, d4] }
  | _ => none }
def commitForgedRow : OpenClaim := { program := "ytigdlnfgdjfdoaagreat", sum := "e5fa8325b3cbbe84571c734f0b94718d4d6b9b7744952a825bc42395f24ae230", func := "coffret/coffretlaw17.CommitForged", spec := "commitForged", unfollowed := true, recurses := true, plainKeys := false, apart := false }
def CommitForgedSaid : Prop := commitForgedRow.holds Tryz.pinned (OpenSpec.ofChange commitForgedSpec)

/-- ITS FALSE NEIGHBOUR: 'it returns false'. Refute it at one input. -/
def commitForgedWrong : ChangeSpec := { name := "commitForged", fn := fun _ => fun
  | [d1, d2, d3, d4] => { results := [.lit (.bool false)], args := [d1, d2, d3, d4] }
  | _ => none }
def CommitForgedWrongFalsely : Prop := commitForgedRow.holds Tryz.pinned (OpenSpec.ofChange commitForgedWrong)

/-- 'coffretlaw17.CommitOnce': WHATEVER THE INPUT: true; the input reads as it did. -/
def commitOnceSpec : ChangeSpec := { name := "commitOnce", fn := fun _ => fun
  | [d1, d2] => { results := [.lit (.bool true)], args := [d1, d2] }
  | _ => none }
def commitOnceRow : OpenClaim := { program := "ytigdlnfgdjfdoaagreat", sum := "e5fa8325b3cbbe84571c734f0b94718d4d6b9b7744952a825bc42395f24ae230", func := "coffret/coffretlaw17.CommitOnce", spec := "commitOnce", unfollowed := true, recurses := true, plainKeys := false, apart := false }
def CommitOnceSaid : Prop := commitOnceRow.holds Tryz.pinned (OpenSpec.ofChange commitOnceSpec)

/-- ITS FALSE NEIGHBOUR: 'it returns false'. Refute it at one input. -/
def commitOnceWrong : ChangeSpec := { name := "commitOnce", fn := fun _ => fun
  | [d1, d2] => { results := [.lit (.bool false)], args := [d1, d2] }
  | _ => none }
def CommitOnceWrongFalsely : Prop := commitOnceRow.holds Tryz.pinned (OpenSpec.ofChange commitOnceWrong)

/-- 'coffretlaw17.CommitHides': WHATEVER THE INPUT: true; the input reads as it did. -/
def commitHidesSpec : ChangeSpec := { name := "commitHides", fn := fun _ => fun
  | [d1, d2, d3] => { results := [.lit (.bool true)], args := [d1, d2, d3] }
  | _ => none }
def commitHidesRow : OpenClaim := { program := "ytigdlnfgdjfdoaagreat", sum := "e5fa8325b3cbbe84571c734f0b94718d4d6b9b7744952a825bc42395f24ae230", func := "coffret/coffretlaw17.CommitHides", spec := "commitHides", unfollowed := true, recurses := true, plainKeys := false, apart := false }
def CommitHidesSaid : Prop := commitHidesRow.holds Tryz.pinned (OpenSpec.ofChange commitHidesSpec)

/-- ITS FALSE NEIGHBOUR: 'it returns false'. Refute it at one input. -/
def commitHidesWrong : ChangeSpec := { name := "commitHides", fn := fun _ => fun
  | [d1, d2, d3] => { results := [.lit (.bool false)], args := [d1, d2, d3] }
  | _ => none }
def CommitHidesWrongFalsely : Prop := commitHidesRow.holds Tryz.pinned (OpenSpec.ofChange commitHidesWrong)

/-- 'coffretlaw17.CommitEpochs': WHATEVER THE INPUT: true; the input reads as it did. -/
def commitEpochsSpec : ChangeSpec := { name := "commitEpochs", fn := fun _ => fun
  | [d1, d2] => { results := [.lit (.bool true)], args := [d1, d2] }
  | _ => none }
def commitEpochsRow : OpenClaim := { program := "ytigdlnfgdjfdoaagreat", sum := "e5fa8325b3cbbe84571c734f0b94718d4d6b9b7744952a825bc42395f24ae230", func := "coffret/coffretlaw17.CommitEpochs", spec := "commitEpochs", unfollowed := true, recurses := true, plainKeys := false, apart := false }
def CommitEpochsSaid : Prop := commitEpochsRow.holds Tryz.pinned (OpenSpec.ofChange commitEpochsSpec)

/-- ITS FALSE NEIGHBOUR: 'it returns false'. Refute it at one input. -/
def commitEpochsWrong : ChangeSpec := { name := "commitEpochs", fn := fun _ => fun
  | [d1, d2] => { results := [.lit (.bool false)], args := [d1, d2] }
  | _ => none }
def CommitEpochsWrongFalsely : Prop := commitEpochsRow.holds Tryz.pinned (OpenSpec.ofChange commitEpochsWrong)

/- THE SECOND FORM. 'bulk': how many values and letters a reading holds, each counted each time it is reached (what is shared counts as often as it is met; a slice's spare places count too). A statement '..UptoSaid' is the law's where the arguments, and the package variables that the reading takes, are together of bulk at most 1048576: NARROWER than '..Said'. Prove '..Said' where nothing that the law and all that it calls make is longer than what came in: it says more and counts as full. Else prove '..UptoSaid'. A law counts once. -/
mutual
def uptoBulk {H : Type} : DataW H → Nat
  | .lit (.string bytes) => bytes.length + 1
  | .lit _ => 1
  | .nil => 1
  | .ptr d => uptoBulk d + 1
  | .slice elems spare => uptoBulkAll elems + uptoBulkAll spare + 1
  | .agg parts => uptoBulkAll parts + 1
  | .iface _ d => uptoBulk d + 1
  | .map entries => uptoBulkEntries entries + 1
  | .held _ => 1
def uptoBulkAll {H : Type} : List (DataW H) → Nat
  | [] => 0
  | d :: r => uptoBulk d + uptoBulkAll r
def uptoBulkEntries {H : Type} : List (Lit × DataW H) → Nat
  | [] => 0
  | x :: r => uptoBulkEntry x + uptoBulkEntries r
def uptoBulkEntry {H : Type} : Lit × DataW H → Nat
  | (.string bytes, d) => bytes.length + uptoBulk d + 1
  | (_, d) => uptoBulk d + 1
 end
def uptoSmall : (H : Type) → List (DataW H) → Bool := fun _ ds => decide (uptoBulkAll ds ≤ 1048576)
def OpenSpec.upto (s : _root_.Go.ChangeSpec) : _root_.Go.OpenSpec := { _root_.Go.OpenSpec.ofChange s with cond := some uptoSmall }

/-- 'coffretlaw17.CommitLoses', WHERE WHAT IT READS IS OF BULK AT MOST 1048576: true; the input reads as it did. -/
def commitLosesUptoRow : OpenClaim := { program := "ytigdlnfgdjfdoaagreat", sum := "e5fa8325b3cbbe84571c734f0b94718d4d6b9b7744952a825bc42395f24ae230", func := "coffret/coffretlaw17.CommitLoses", spec := "commitLoses", unfollowed := true, recurses := true, plainKeys := false, apart := false, narrowed := true }
def CommitLosesUptoSaid : Prop := commitLosesUptoRow.holds Tryz.pinned (OpenSpec.upto commitLosesSpec)

/-- 'coffretlaw17.CommitForged', WHERE WHAT IT READS IS OF BULK AT MOST 1048576: true; the input reads as it did. -/
def commitForgedUptoRow : OpenClaim := { program := "ytigdlnfgdjfdoaagreat", sum := "e5fa8325b3cbbe84571c734f0b94718d4d6b9b7744952a825bc42395f24ae230", func := "coffret/coffretlaw17.CommitForged", spec := "commitForged", unfollowed := true, recurses := true, plainKeys := false, apart := false, narrowed := true }
def CommitForgedUptoSaid : Prop := commitForgedUptoRow.holds Tryz.pinned (OpenSpec.upto commitForgedSpec)

/-- 'coffretlaw17.CommitOnce', WHERE WHAT IT READS IS OF BULK AT MOST 1048576: true; the input reads as it did. -/
def commitOnceUptoRow : OpenClaim := { program := "ytigdlnfgdjfdoaagreat", sum := "e5fa8325b3cbbe84571c734f0b94718d4d6b9b7744952a825bc42395f24ae230", func := "coffret/coffretlaw17.CommitOnce", spec := "commitOnce", unfollowed := true, recurses := true, plainKeys := false, apart := false, narrowed := true }
def CommitOnceUptoSaid : Prop := commitOnceUptoRow.holds Tryz.pinned (OpenSpec.upto commitOnceSpec)

/-- 'coffretlaw17.CommitHides', WHERE WHAT IT READS IS OF BULK AT MOST 1048576: true; the input reads as it did. -/
def commitHidesUptoRow : OpenClaim := { program := "ytigdlnfgdjfdoaagreat", sum := "e5fa8325b3cbbe84571c734f0b94718d4d6b9b7744952a825bc42395f24ae230", func := "coffret/coffretlaw17.CommitHides", spec := "commitHides", unfollowed := true, recurses := true, plainKeys := false, apart := false, narrowed := true }
def CommitHidesUptoSaid : Prop := commitHidesUptoRow.holds Tryz.pinned (OpenSpec.upto commitHidesSpec)

/-- 'coffretlaw17.CommitEpochs', WHERE WHAT IT READS IS OF BULK AT MOST 1048576: true; the input reads as it did. -/
def commitEpochsUptoRow : OpenClaim := { program := "ytigdlnfgdjfdoaagreat", sum := "e5fa8325b3cbbe84571c734f0b94718d4d6b9b7744952a825bc42395f24ae230", func := "coffret/coffretlaw17.CommitEpochs", spec := "commitEpochs", unfollowed := true, recurses := true, plainKeys := false, apart := false, narrowed := true }
def CommitEpochsUptoSaid : Prop := commitEpochsUptoRow.holds Tryz.pinned (OpenSpec.upto commitEpochsSpec)

end Rows
end Go.Proofs.YtigdlnfgdjfdoaaGreat
