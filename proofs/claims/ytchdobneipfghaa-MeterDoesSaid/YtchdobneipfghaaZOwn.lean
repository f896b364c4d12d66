/- What a frame of a plain row asks of the program. -/
import Derived.Test.YtchdobneipfghaaRows
import Derived.ProofKit
import Derived.OpenShut
namespace Go.Proofs.Ytchdobneipfghaa
open Go
theorem own : ownKnob Try.prog.godebug = none := by kernel_rfl
theorem laidOut : laidOutB Try.prog = true := by kernel_rfl
end Go.Proofs.Ytchdobneipfghaa
