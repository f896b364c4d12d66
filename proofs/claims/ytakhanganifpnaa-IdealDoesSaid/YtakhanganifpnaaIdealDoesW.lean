/- IdealDoes: every script. -/
import Derived.Test.YtakhanganifpnaaIdealDoes
import Derived.Test.YtakhanganifpnaaIdealDoesG
namespace Go.Proofs.Ytakhanganifpnaa.Ideal
open Go Go.RowKit Kit

theorem does_walk (A : Option Addr) (n cA : Nat) (cs : List CallI) (w : World) (hl : cs.length = n) (hn : A = none → cA = 0) (hr : Row w A (cs.flatMap CallI.cells)) (hc : n ≤ cA) (hm : cA ≤ maxLen) (hok : ∀ c ∈ cs, c.ok) :
    Calls Try.prog 3 #[.slice A n cA] w fun e w' => e = .returned (.bool true) ∧ Kp nob w w' := by
  unfold maxLen at hm
  by_cases hy : tot cs ≤ 4096 ∧ n ≤ 40
  · exact does_yes A n cA cs w hl hr hok hy.1 hy.2
  · exact does_great A n cA cs w hl hr hok hy (by omega)
end Go.Proofs.Ytakhanganifpnaa.Ideal
