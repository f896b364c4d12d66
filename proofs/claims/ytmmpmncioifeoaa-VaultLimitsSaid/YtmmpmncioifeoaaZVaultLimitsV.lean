/- coffretlaw10.VaultLimits as the frame asks for it. -/
import Derived.Test.YtmmpmncioifeoaaZG18
namespace Go.Proofs.Ytmmpmncioifeoaa.Vault
set_option linter.unusedVariables false
open Go Go.RowKit Kit
theorem limits_v (limit epoch seq : Int) (w : World) (_ : (Lit.int .i64 limit).wf = true) (_ : (Lit.int .i64 epoch).wf = true) (_ : (Lit.int .i64 seq).wf = true) :
    Calls Try.prog 3 #[.int .i64 limit, .int .i64 epoch, .int .i64 seq] w fun e w' => e = .returned (.bool true) ∧ Kp nob w w' :=
  limits_walk dift (fun _ => True) note_any limit epoch seq w (fun _ _ => trivial)
end Go.Proofs.Ytmmpmncioifeoaa.Vault
