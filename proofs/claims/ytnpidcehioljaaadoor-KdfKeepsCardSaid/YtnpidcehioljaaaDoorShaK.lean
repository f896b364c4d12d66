/- From the rows' condition on the package's two tables to the contracts' fact; a start that meets it. -/
import Derived.Test.YtnpidcehioljaaaDoorShaM
import Derived.Test.YtnpidcehioljaaaDoorTie
import Derived.ProofKit
import Derived.LaidMore
import Derived.MakeChecks
import Derived.Lib.LaidTab
import Derived.Stop.Joined
import Derived.Stop.LaidErr
import Derived.OpenShut
import Derived.ShutString
import Derived.ChangeOld
import Derived.Below
import Derived.SevenTiedAt
namespace Go.Proofs.YtnpidcehioljaaaDoor.Sha
open Go Go.ChangeShapes Go.WideShapes Go.ChangeAt Go.RowKit Kit

def laid2 : List (String × DataW Unit) := [("coffret/sha.start", Rows.laid_coffret_sha_start), ("coffret/sha.rounds", Rows.laid_coffret_sha_rounds)]
theorem own : ownKnob Tryd.prog.godebug = none := by kernel_rfl
theorem laidOut : laidOutB Tryd.prog = true := by kernel_rfl
theorem gStart : Tryd.prog.globalNamed "coffret/sha.start" = some 0 := by kernel_rfl
theorem gRounds : Tryd.prog.globalNamed "coffret/sha.rounds" = some 1 := by kernel_rfl
theorem tStart : (Tryd.prog.globals[0]?).map (·.type) = some 53 := by kernel_rfl
theorem tRounds : (Tryd.prog.globals[1]?).map (·.type) = some 55 := by kernel_rfl

/-- The door's own heap meets the condition. -/
theorem door_met (os : Os) (args : Array Value) : laidMetH Tryd.prog laid2 ((World.doorLaid Tryd.prog 400 os).forCall (fun _ _ => 0) ⟨#[], args, []⟩).memory :=
  laidMetH_of_parts3 (fuel := 8) (laidMet_of_run' 8 (by kernel_rfl) (by kernel_rfl)) (by kernel_rfl) (by kernel_rfl)

theorem start_tab : laid2[0]? = some ("coffret/sha.start", Lib.tabData .u32 (H0.list.map cw)) := by kernel_rfl
theorem rounds_tab : laid2[1]? = some ("coffret/sha.rounds", Lib.tabData .u32 (Ks.map cw)) := by kernel_rfl
theorem laid2_eq : laid2 = [("coffret/sha.start", Lib.tabData .u32 (H0.list.map cw)), ("coffret/sha.rounds", Lib.tabData .u32 (Ks.map cw))] := by
  have h1 := start_tab; have h2 := rounds_tab
  simp only [laid2, List.getElem?_cons_zero, List.getElem?_cons_succ, Option.some.injEq] at h1 h2
  rw [laid2, h1, h2]
theorem range_of_tab {W : World} {name : String} {g : Nat} {l : List UInt32} (h : Lib.TabIs Tryd.prog W name .u32 (l.map cw)) (hg : Tryd.prog.globalNamed name = some g) : W.rangeAt g 0 (uvs l) := fun j v hv => by
  have hj : j < l.length := by simpa using (List.getElem?_eq_some_iff.1 hv).1
  have := h.cell hg j (by simpa using hj)
  rw [Nat.zero_add, this]
  rw [uvs, List.getElem?_map, List.getElem?_eq_getElem hj] at hv
  rw [← hv]
  simp [List.getD, List.getElem?_eq_getElem hj, uv]
/-- WHAT THE CONDITION GIVES THE WALKS. -/
theorem tabs_of_laid {W : World} (h : laidMetH Tryd.prog laid2 W) : Tabs W := by
  rw [MakeChecks.laidMetH_plain _ _ _ (by kernel_rfl)] at h
  rw [laid2_eq] at h
  have h1 := Lib.tabIs_of_head gStart tStart arr8u (by kernel_rfl) (by kernel_rfl) (by kernel_rfl) h
  have h2 := Lib.tabIs_of_head gRounds tRounds arr32 (by kernel_rfl) (by kernel_rfl) (by kernel_rfl) (laidMet.tail h)
  exact ⟨range_of_tab h1 gStart, range_of_tab h2 gRounds⟩
end Go.Proofs.YtnpidcehioljaaaDoor.Sha
