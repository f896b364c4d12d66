/- coffretlaw16.ChainRoom, over the code's own area. -/
import Derived.Test.YtndkmfflpphoiaaZChainRoom
import Derived.Test.YtndkmfflpphoiaaZG11
set_option linter.unusedVariables false
set_option linter.unusedSimpArgs false
namespace Go.Proofs.Ytndkmfflpphoiaa.Disk
open Go Go.RowKit Kit
theorem room_any (n epoch size : Int) (w : World) (hn : (Lit.int .i64 n).wf = true) (he : (Lit.int .i64 epoch).wf = true) (hs : (Lit.int .i64 size).wf = true) :
    Calls Try.prog 5 #[.int .i64 n, .int .i64 epoch, .int .i64 size] w fun e w' => e = .returned (.bool true) ∧ Kp nob w w' :=
  room_walk areaP half_c left_c add_c n epoch size w hn he hs
end Go.Proofs.Ytndkmfflpphoiaa.Disk
