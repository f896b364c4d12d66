/- CommitOnce for all arguments, over the code's own functions. -/
import Derived.Test.YtigdlnfgdjfdoaaGreatZCommitOnce
set_option maxHeartbeats 4000000
set_option maxRecDepth 100000
set_option linter.unusedVariables false
set_option linter.unusedSimpArgs false
namespace Go.Proofs.YtigdlnfgdjfdoaaGreat
namespace Com
open Go Go.RowKit Kit
theorem once_any (n : Int) (A : Option Addr) (m c : Nat) (ss : List Stp) (w : World) (hn : (Lit.int .i64 n).wf = true) (hl : ss.length = m) (hA : A = none → c = 0) (hr : Row w A (ss.flatMap Stp.cells)) (hc : m ≤ c) (hm : c ≤ maxLen) (hw : ∀ s ∈ ss, StpOk w s) :
    Calls Tryz.prog 5 #[.int .i64 n, .slice A m c] w fun e w' => e = .returned (.bool true) ∧ Kp nob w w' :=
 once_walk n A m c ss w hl hr hc hm hw
end Com
end Go.Proofs.YtigdlnfgdjfdoaaGreat
