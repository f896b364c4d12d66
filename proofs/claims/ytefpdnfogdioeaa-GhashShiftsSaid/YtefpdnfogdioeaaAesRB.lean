/- A byte of a block known whole; arrays of sixteen bytes. -/
import Derived.Test.YtefpdnfogdioeaaFieldW
import Derived.Test.YtefpdnfogdioeaaAesT
import Derived.Test.YtefpdnfogdioeaaBlkC
namespace Go.Proofs.Ytefpdnfogdioeaa.Aes
set_option linter.unusedVariables false
set_option linter.unusedSimpArgs false
open Go Go.RowKit Kit
open Field (cb cb_inj)

theorem arr16 : Try.prog.underlying 22 = some (.array 16 5) := by kernel_rfl
theorem blk_byte {w : World} {g : Nat} {t : TypeId} {b : List UInt8} (h : Blk w g t (bvs b)) (i : Nat) (hi : i < b.length) : w.cell? ⟨g, i, none⟩ = some (.int .u8 (cb (gb b i))) := by rw [h.cell, gb_get b i hi]

end Go.Proofs.Ytefpdnfogdioeaa.Aes
