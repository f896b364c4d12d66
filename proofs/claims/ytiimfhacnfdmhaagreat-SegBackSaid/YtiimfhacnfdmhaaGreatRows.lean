/-
  No cell of these rows narrows 'for every input' (looked for: loops, veiled, ifaces, maps, wideKeys, modest, calm, conditions, laid).
  DERIVED. THE GIVEN ROWS OF THIS SEAT. 6 by the template 'for every input the law returns true; each argument reads behind the call as it read before'; 0 by the template 'total and deterministic' (their statements: YtiimfhacnfdmhaaGreatTotals.lean).
  GIVEN WITH THE SEED: the statements are not yours to turn. If you find one false, say at which input.
  Laid BY PROGRAM, IN A SANDBOX (cutbox-rows.mjs): the forced cells as the released guide's own fill.sh prints them over the translation b4b887c7a0278bcd… (all of the seat's roots in one cut). By AI agents, Wed Nov 11 2026. No macro, syntax, notation, axiom, sorry.
-/
import Derived.Test.YtiimfhacnfdmhaaGreatChecked
import GoSem.Claim
import GoSem.ClaimJoined
import GoSem.ClaimMapViews
import Derived.JoinedTies
import Derived.KernelRfl
namespace Go.Proofs.YtiimfhacnfdmhaaGreat
/- THE CELL 'sum', in the pinned program and in every row, IS THE sha256 OF THE DUMP (.gsa) THAT YtiimfhacnfdmhaaGreatProg.lean LOADS. Nothing in Lean hashes anything: it is a label: what it is worth is what the hold of that sum in a sandbox is worth. -/
noncomputable def Tryz.pinned : Pinned := { name := "ytiimfhacnfdmhaagreat", sum := "b4b887c7a0278bcd3538a22b0735362691f4ea5f707965ff641e7cfd8e4f8ef7", checked := Tryz.checked }
namespace Rows
def none {H : Type} : Left H := { results := [], args := [] }

/-- 'coffretlaw15.SegSizes': WHATEVER THE INPUT: true; the input reads as it did. -/
def segSizesSpec : ChangeSpec := { name := "segSizes", fn := fun _ => fun
  | [d] => { results := [.lit (.bool true)], args := [d] }
  | _ => none }
def segSizesRow : OpenClaim := { program := "ytiimfhacnfdmhaagreat", sum := "b4b887c7a0278bcd3538a22b0735362691f4ea5f707965ff641e7cfd8e4f8ef7", func := "coffret/coffretlaw15.SegSizes", spec := "segSizes", unfollowed := true, recurses := true, plainKeys := false, apart := false }
def SegSizesSaid : Prop := segSizesRow.holds Tryz.pinned (OpenSpec.ofChange segSizesSpec)

/-- ITS FALSE NEIGHBOUR: 'it returns false'. Refute it at one input. -/
def segSizesWrong : ChangeSpec := { name := "segSizes", fn := fun _ => fun
  | [d] => { results := [.lit (.bool false)], args := [d] }
  | _ => none }
def SegSizesWrongFalsely : Prop := segSizesRow.holds Tryz.pinned (OpenSpec.ofChange segSizesWrong)

/-- 'coffretlaw15.SegPacks': WHATEVER THE INPUT: true; the input reads as it did. -/
def segPacksSpec : ChangeSpec := { name := "segPacks", fn := fun _ => fun
  | [d1, d2, d3, d4, d5] => { results := [.lit (.bool true)], args := [d1, d2, d3, d4, d5] }
  | _ => none }
def segPacksRow : OpenClaim := { program := "ytiimfhacnfdmhaagreat", sum := "b4b887c7a0278bcd3538a22b0735362691f4ea5f707965ff641e7cfd8e4f8ef7", func := "coffret/coffretlaw15.SegPacks", spec := "segPacks", unfollowed := true, recurses := true, plainKeys := false, apart := false }
def SegPacksSaid : Prop := segPacksRow.holds Tryz.pinned (OpenSpec.ofChange segPacksSpec)

/-- ITS FALSE NEIGHBOUR: 'it returns false'. Refute it at one input. -/
def segPacksWrong : ChangeSpec := { name := "segPacks", fn := fun _ => fun
  | [d1, d2, d3, d4, d5] => { results := [.lit (.bool false)], args := [d1, d2, d3, d4, d5] }
  | _ => none }
def SegPacksWrongFalsely : Prop := segPacksRow.holds Tryz.pinned (OpenSpec.ofChange segPacksWrong)

/-- 'coffretlaw15.SegBack': WHATEVER THE INPUT: true; the input reads as it did. -/
def segBackSpec : ChangeSpec := { name := "segBack", fn := fun _ => fun
  | [d1, d2, d3, d4, d5] => { results := [.lit (.bool true)], args := [d1, d2, d3, d4, d5] }
  | _ => none }
def segBackRow : OpenClaim := { program := "ytiimfhacnfdmhaagreat", sum := "b4b887c7a0278bcd3538a22b0735362691f4ea5f707965ff641e7cfd8e4f8ef7", func := "coffret/coffretlaw15.SegBack", spec := "segBack", unfollowed := true, recurses := true, plainKeys := false, apart := false }
def SegBackSaid : Prop := segBackRow.holds Tryz.pinned (OpenSpec.ofChange segBackSpec)

/-- ITS FALSE NEIGHBOUR: 'it returns false'. Refute it at one input. -/
def segBackWrong : ChangeSpec := { name := "segBack", fn := fun _ => fun
  | [d1, d2, d3, d4, d5] => { results := [.lit (.bool false)], args := [d1, d2, d3, d4, d5] }
  | _ => none }
def SegBackWrongFalsely : Prop := segBackRow.holds Tryz.pinned (OpenSpec.ofChange segBackWrong)

/-- 'coffretlaw15.SegErrors': WHATEVER THE INPUT: true; the input reads as it did. -/
def segErrorsSpec : ChangeSpec := { name := "segErrors", fn := fun _ => fun
  | [d1, d2, d3, d4] => { results := [.lit (.bool true)], args := [d1, d2, d3, d4] }
  | _ => none }
def segErrorsRow : OpenClaim := { program := "ytiimfhacnfdmhaagreat", sum := "b4b887c7a0278bcd3538a22b0735362691f4ea5f707965ff641e7cfd8e4f8ef7", func := "coffret/coffretlaw15.SegErrors", spec := "segErrors", unfollowed := true, recurses := true, plainKeys := false, apart := false }
def SegErrorsSaid : Prop := segErrorsRow.holds Tryz.pinned (OpenSpec.ofChange segErrorsSpec)

/-- ITS FALSE NEIGHBOUR: 'it returns false'. Refute it at one input. -/
def segErrorsWrong : ChangeSpec := { name := "segErrors", fn := fun _ => fun
  | [d1, d2, d3, d4] => { results := [.lit (.bool false)], args := [d1, d2, d3, d4] }
  | _ => none }
def SegErrorsWrongFalsely : Prop := segErrorsRow.holds Tryz.pinned (OpenSpec.ofChange segErrorsWrong)

/-- 'coffretlaw15.SegHides': WHATEVER THE INPUT: true; the input reads as it did. -/
def segHidesSpec : ChangeSpec := { name := "segHides", fn := fun _ => fun
  | [d1, d2] => { results := [.lit (.bool true)], args := [d1, d2] }
  | _ => none }
def segHidesRow : OpenClaim := { program := "ytiimfhacnfdmhaagreat", sum := "b4b887c7a0278bcd3538a22b0735362691f4ea5f707965ff641e7cfd8e4f8ef7", func := "coffret/coffretlaw15.SegHides", spec := "segHides", unfollowed := true, recurses := true, plainKeys := false, apart := false }
def SegHidesSaid : Prop := segHidesRow.holds Tryz.pinned (OpenSpec.ofChange segHidesSpec)

/-- ITS FALSE NEIGHBOUR: 'it returns false'. Refute it at one input. -/
def segHidesWrong : ChangeSpec := { name := "segHides", fn := fun _ => fun
  | [d1, d2] => { results := [.lit (.bool false)], args := [d1, d2] }
  | _ => none }
def SegHidesWrongFalsely : Prop := segHidesRow.holds Tryz.pinned (OpenSpec.ofChange segHidesWrong)

/-- 'coffretlaw15.SegForms': WHATEVER THE INPUT: true; the input reads as it did. -/
def segFormsSpec : ChangeSpec := { name := "segForms", fn := fun _ => fun
  | [d1, d2, d3, d4] => { results := [.lit (.bool true)], args := [d1, d2, d3, d4] }
  | _ => none }
def segFormsRow : OpenClaim := { program := "ytiimfhacnfdmhaagreat", sum := "b4b887c7a0278bcd3538a22b0735362691f4ea5f707965ff641e7cfd8e4f8ef7", func := "coffret/coffretlaw15.SegForms", spec := "segForms", unfollowed := true, recurses := true, plainKeys := false, apart := false }
def SegFormsSaid : Prop := segFormsRow.holds Tryz.pinned (OpenSpec.ofChange segFormsSpec)

/-- ITS FALSE NEIGHBOUR: 'it returns false'. Refute it at one input. -/
def segFormsWrong : ChangeSpec := { name := "segForms", fn := fun _ => fun
  | [d1, d2, d3, d4] => { results := [.lit (.bool false)], args := [d1, d2, d3, d4] }
  | _ => none }
def SegFormsWrongFalsely : Prop := segFormsRow.holds Tryz.pinned (OpenSpec.ofChange segFormsWrong)

/- THE SECOND FORM. 'bulk': how many values and letters a reading holds, each counted each time it is reached (what is shared counts as often as it is met; a slice's spare places count too). A statement '..UptoSaid' is the law's where the arguments, and the package variables that the reading takes, are together of bulk at most 1048576: NARROWER than '..Said'. Prove '..Said' where nothing that the law and all that it calls make is longer than what came in: it says more and counts as full. Else prove '..UptoSaid'. A law counts once. -/
mutual
def uptoBulk {H : Type} : DataW H → Nat
  | .lit (.string bytes) => bytes.length + 1
  | .lit _ => 1
  | .nil => 1
  | .ptr d => uptoBulk d + 1
  | .slice elems spare => uptoBulkAll elems + uptoBulkAll spare + 1
  | .agg parts => uptoBulkAll parts + 1
  | .iface _ d => uptoBulk d + 1
  | .map entries => uptoBulkEntries entries + 1
  | .held _ => 1
def uptoBulkAll {H : Type} : List (DataW H) → Nat
  | [] => 0
  | d :: r => uptoBulk d + uptoBulkAll r
def uptoBulkEntries {H : Type} : List (Lit × DataW H) → Nat
  | [] => 0
  | x :: r => uptoBulkEntry x + uptoBulkEntries r
def uptoBulkEntry {H : Type} : Lit × DataW H → Nat
  | (.string bytes, d) => bytes.length + uptoBulk d + 1
  | (_, d) => uptoBulk d + 1
 end
def uptoSmall : (H : Type) → List (DataW H) → Bool := fun _ ds => decide (uptoBulkAll ds ≤ 1048576)
def OpenSpec.upto (s : _root_.Go.ChangeSpec) : _root_.Go.OpenSpec := { _root_.Go.OpenSpec.ofChange s with cond := some uptoSmall }

/-- 'coffretlaw15.SegSizes', WHERE WHAT IT READS IS OF BULK AT MOST 1048576: true; the input reads as it did. -/
def segSizesUptoRow : OpenClaim := { program := "ytiimfhacnfdmhaagreat", sum := "b4b887c7a0278bcd3538a22b0735362691f4ea5f707965ff641e7cfd8e4f8ef7", func := "coffret/coffretlaw15.SegSizes", spec := "segSizes", unfollowed := true, recurses := true, plainKeys := false, apart := false, narrowed := true }
def SegSizesUptoSaid : Prop := segSizesUptoRow.holds Tryz.pinned (OpenSpec.upto segSizesSpec)

/-- 'coffretlaw15.SegPacks', WHERE WHAT IT READS IS OF BULK AT MOST 1048576: true; the input reads as it did. -/
def segPacksUptoRow : OpenClaim := { program := "ytiimfhacnfdmhaagreat", sum := "b4b887c7a0278bcd3538a22b0735362691f4ea5f707965ff641e7cfd8e4f8ef7", func := "coffret/coffretlaw15.SegPacks", spec := "segPacks", unfollowed := true, recurses := true, plainKeys := false, apart := false, narrowed := true }
def SegPacksUptoSaid : Prop := segPacksUptoRow.holds Tryz.pinned (OpenSpec.upto segPacksSpec)

/-- 'coffretlaw15.SegBack', WHERE WHAT IT READS IS OF BULK AT MOST 1048576: true; the input reads as it did. -/
def segBackUptoRow : OpenClaim := { program := "ytiimfhacnfdmhaagreat", sum := "b4b887c7a0278bcd3538a22b0735362691f4ea5f707965ff641e7cfd8e4f8ef7", func := "coffret/coffretlaw15.SegBack", spec := "segBack", unfollowed := true, recurses := true, plainKeys := false, apart := false, narrowed := true }
def SegBackUptoSaid : Prop := segBackUptoRow.holds Tryz.pinned (OpenSpec.upto segBackSpec)

/-- 'coffretlaw15.SegErrors', WHERE WHAT IT READS IS OF BULK AT MOST 1048576: true; the input reads as it did. -/
def segErrorsUptoRow : OpenClaim := { program := "ytiimfhacnfdmhaagreat", sum := "b4b887c7a0278bcd3538a22b0735362691f4ea5f707965ff641e7cfd8e4f8ef7", func := "coffret/coffretlaw15.SegErrors", spec := "segErrors", unfollowed := true, recurses := true, plainKeys := false, apart := false, narrowed := true }
def SegErrorsUptoSaid : Prop := segErrorsUptoRow.holds Tryz.pinned (OpenSpec.upto segErrorsSpec)

/-- 'coffretlaw15.SegHides', WHERE WHAT IT READS IS OF BULK AT MOST 1048576: true; the input reads as it did. -/
def segHidesUptoRow : OpenClaim := { program := "ytiimfhacnfdmhaagreat", sum := "b4b887c7a0278bcd3538a22b0735362691f4ea5f707965ff641e7cfd8e4f8ef7", func := "coffret/coffretlaw15.SegHides", spec := "segHides", unfollowed := true, recurses := true, plainKeys := false, apart := false, narrowed := true }
def SegHidesUptoSaid : Prop := segHidesUptoRow.holds Tryz.pinned (OpenSpec.upto segHidesSpec)

/-- 'coffretlaw15.SegForms', WHERE WHAT IT READS IS OF BULK AT MOST 1048576: true; the input reads as it did. -/
def segFormsUptoRow : OpenClaim := { program := "ytiimfhacnfdmhaagreat", sum := "b4b887c7a0278bcd3538a22b0735362691f4ea5f707965ff641e7cfd8e4f8ef7", func := "coffret/coffretlaw15.SegForms", spec := "segForms", unfollowed := true, recurses := true, plainKeys := false, apart := false, narrowed := true }
def SegFormsUptoSaid : Prop := segFormsUptoRow.holds Tryz.pinned (OpenSpec.upto segFormsSpec)

end Rows
end Go.Proofs.YtiimfhacnfdmhaaGreat
