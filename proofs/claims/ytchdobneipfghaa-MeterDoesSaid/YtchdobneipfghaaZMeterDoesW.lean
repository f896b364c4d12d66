/- MeterDoes, of scripts of any length. -/
import Derived.Test.YtchdobneipfghaaZMeterDoes
namespace Go.Proofs.Ytchdobneipfghaa.Meter
set_option linter.unusedVariables false
set_option linter.unusedSimpArgs false
open Go Go.RowKit Kit Disk

set_option maxHeartbeats 2000000 in
set_option maxRecDepth 100000 in
theorem does_walk (mo : Int) (A : Option Addr) (n c : Nat) (cs : List Mc) (w : World) (w0 : (Lit.int .i64 mo).wf = true) (hn : cs.length = n) (hn0 : A = none → c = 0) (hr : Row w A (cs.flatMap Mc.cells)) (hc : n ≤ c) (hm : c ≤ maxLen) (hw : ∀ c ∈ cs, McOk c) :
    Calls Try.prog 3 #[.int .i64 mo, .slice A n c] w fun e w' => e = .returned (.bool true) ∧ Kp nob w w' := by
  by_cases h : 80 < n
  · have d1 : decide ((80 : Int) < (n : Int)) = true := decide_eq_true (by omega)
    clear hn hr hw hc hm hn0 w0 h
    go_enter Try.func3, Try.ntmps3
    go_wp2_with fail
    refine (alive_yes w).mono ?_
    rintro e w1 ⟨rfl, k1⟩
    go_wp2
    go_ret
    exact ⟨rfl, k1⟩
  · exact does_yes mo A n c cs w hn hr hw (by omega)
end Go.Proofs.Ytchdobneipfghaa.Meter
