/- From the rows' condition on the package's table to the contracts' fact; a start that meets it. -/
import Derived.Test.YtbainiblffcjgaaDoorZFieldA
import Derived.Test.YtbainiblffcjgaaDoorTie
import Derived.ProofKit
import Derived.LaidMore
import Derived.MakeChecks
import Derived.Lib.LaidTab
import Derived.Stop.Joined
import Derived.Stop.LaidErr
import Derived.OpenShut
import Derived.ShutString
import Derived.ChangeOld
import Derived.Below
import Derived.SevenTiedAt
namespace Go.Proofs.YtbainiblffcjgaaDoor.Field
set_option linter.unusedVariables false
set_option linter.unusedSimpArgs false
open Go Go.ChangeShapes Go.WideShapes Go.ChangeAt Go.RowKit Kit

def laidF : List (String × DataW Unit) := [("coffret/field.squares", Rows.laid_coffret_field_squares)]
theorem own : ownKnob Tryd.prog.godebug = none := by kernel_rfl
theorem laidOut : laidOutB Tryd.prog = true := by kernel_rfl
theorem gSquares : Tryd.prog.globalNamed "coffret/field.squares" = some 0 := by kernel_rfl
theorem tSquares : (Tryd.prog.globals[0]?).map (·.type) = some 113 := by kernel_rfl

/-- The door's own heap meets the condition. -/
theorem door_met (os : Os) (args : Array Value) : laidMetH Tryd.prog laidF ((World.doorLaid Tryd.prog 400 os).forCall (fun _ _ => 0) ⟨#[], args, []⟩).memory :=
  laidMetH_of_parts3 (fuel := 8) (laidMet_of_run' 8 (by kernel_rfl) (by kernel_rfl)) (by kernel_rfl) (by kernel_rfl)

theorem squares_tab : laidF[0]? = some ("coffret/field.squares", Lib.tabData .u8 (SQ.map cb)) := by kernel_rfl
theorem laidF_eq : laidF = [("coffret/field.squares", Lib.tabData .u8 (SQ.map cb))] := by
  have h1 := squares_tab
  simp only [laidF, List.getElem?_cons_zero, Option.some.injEq] at h1
  rw [laidF, h1]
theorem range_of_tab {W : World} {name : String} {g : Nat} {l : List UInt8} (h : Lib.TabIs Tryd.prog W name .u8 (l.map cb)) (hg : Tryd.prog.globalNamed name = some g) : W.rangeAt g 0 (bvs l) := fun j v hv => by
  have hj : j < l.length := by simpa using (List.getElem?_eq_some_iff.1 hv).1
  have := h.cell hg j (by simpa using hj)
  rw [Nat.zero_add, this]
  rw [bvs, List.getElem?_map, List.getElem?_eq_getElem hj] at hv
  rw [← hv]
  simp [List.getD, List.getElem?_eq_getElem hj, bv, cb]
/-- WHAT THE CONDITION GIVES THE WALKS. -/
theorem sq_of_laid {W : World} (h : laidMetH Tryd.prog laidF W) : Sq W := by
  rw [MakeChecks.laidMetH_plain _ _ _ (by kernel_rfl)] at h
  rw [laidF_eq] at h
  exact range_of_tab (Lib.tabIs_of_head gSquares tSquares arrS (by kernel_rfl) (by kernel_rfl) (by kernel_rfl) h) gSquares
end Go.Proofs.YtbainiblffcjgaaDoor.Field
