/- The disk: the writes of a sector taken out of those that wait. -/
import Derived.Test.YtfbdjjcnibgjnaaDskG
namespace Go.Proofs.Ytfbdjjcnibgjnaa.Disk
set_option linter.unusedVariables false
set_option linter.unusedSimpArgs false
open Go Go.RowKit Kit

theorem pred_any (x : Nat × List UInt8) (gi i : Nat) (w : World) (hi : w.cell? ⟨gi, 0, none⟩ = some (.int .i64 (i : Int))) (hl : gi < w.heap.size) :
    Calls Try.prog 29 #[.agg (wcell x).toArray, .pointer (some ⟨gi, 0, none⟩)] w fun e w' => e = .returned (.bool (decide (x.1 = i))) ∧ Kp nob w w' := by
  have h1 : (w.alloc (.cells (wcell x).toArray 60)).cell? ⟨w.heap.size, 0, none⟩ = some (.int .i64 (x.1 : Int)) := by rw [(Blk.new w 60 (wcell x)).cell]; rfl
  have h2 : (w.alloc (.cells (wcell x).toArray 60)).cell? ⟨gi, 0, none⟩ = some (.int .i64 (i : Int)) := by rw [((Kp.refl nob w).alloc _).cell hl (fun e => e)]; exact hi
  have HE := Lib.hid (show ((x.1 : Int) == (i : Int)) = decide (x.1 = i) by rw [Bool.eq_iff_iff, beq_iff_eq, decide_eq_true_iff]; omega)
  have K := Lib.hid ((Kp.refl nob w).alloc (.cells (wcell x).toArray 60))
  go_enter Try.func29, Try.ntmps29
  go_wp2
  go_ret
  rw [← HE.out]
  exact ⟨rfl, K.out⟩
end Go.Proofs.Ytfbdjjcnibgjnaa.Disk
