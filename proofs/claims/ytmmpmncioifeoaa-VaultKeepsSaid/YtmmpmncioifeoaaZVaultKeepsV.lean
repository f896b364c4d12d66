/- coffretlaw10.VaultKeeps as the frame asks for it. -/
import Derived.Test.YtmmpmncioifeoaaZG41
import Derived.Test.YtmmpmncioifeoaaZG18
namespace Go.Proofs.Ytmmpmncioifeoaa.Vault
set_option linter.unusedVariables false
open Go Go.RowKit Kit
theorem keeps_v (r : Bool) (A : Option Addr) (n c : Nat) (x : List UInt8) (B : Option Addr) (m d : Nat) (o : List UInt8) (w : World) (hsh : w.ShapedOpen Try.prog)
    (h1 : x.length = n) (h2 : A = none → c = 0) (h3 : Row w A (bvs x)) (h4 : n ≤ c) (h5 : c ≤ maxLen) (g1 : o.length = m) (g2 : B = none → d = 0) (g3 : Row w B (bvs o)) (g4 : m ≤ d) (g5 : d ≤ maxLen) :
    Calls Try.prog 5 #[.bool r, .slice A n c, .slice B m d] w fun e w' => e = .returned (.bool true) ∧ Kp nob w w' :=
  keeps_walk dift (fun _ => True) note_any r A n c x B m d o w (fun _ _ => trivial) hsh h1 h2 h3 h4 h5 g1 g2 g3 g4 g5
end Go.Proofs.Ytmmpmncioifeoaa.Vault
