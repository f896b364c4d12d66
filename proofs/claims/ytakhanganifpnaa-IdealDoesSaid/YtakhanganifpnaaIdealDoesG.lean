/- IdealDoes: a script that is too great. -/
import Derived.Test.YtakhanganifpnaaIdealK
namespace Go.Proofs.Ytakhanganifpnaa.Ideal
set_option linter.unusedVariables false
set_option linter.unusedSimpArgs false
open Go Go.RowKit Kit

set_option maxRecDepth 100000 in
theorem does_great (A : Option Addr) (n cA : Nat) (cs : List CallI) (w : World) (hl : cs.length = n) (hr : Row w A (cs.flatMap CallI.cells)) (hok : ∀ c ∈ cs, c.ok) (hy : ¬ (tot cs ≤ 4096 ∧ n ≤ 40)) (hm : n ≤ 9223372036854775807) :
    Calls Try.prog 3 #[.slice A n cA] w fun e w' => e = .returned (.bool true) ∧ Kp nob w w' := by
  have hgr : (decide (4096 < tot cs) || decide (40 < n)) = true := by simp; omega
  have HR := Lib.hid hr; have HOK := Lib.hid hok; have HL := Lib.hid hl; have HG := Lib.hid hgr; have HN := Lib.hid hm
  clear hr hok hl hy hgr hm
  go_enter Try.func3, Try.ntmps3
  go_wp2_with fail
  refine (alive_yes _).mono ?_
  rintro e w1 ⟨rfl, k1⟩
  have HK1 := Lib.hid k1; clear k1
  go_wp2_with fail
  refine (great_any A n cA cs w1 HL.out (HR.out.keep0 HK1.out) HOK.out HN.out).mono ?_
  rintro e w2 ⟨rfl, k2⟩
  rw [HG.out]
  have HK2 := Lib.hid (HK1.out.trans k2 (fun _ e => e.elim))
  clear k2 HK1
  go_wp2
  go_ret
  exact ⟨rfl, HK2.out⟩
end Go.Proofs.Ytakhanganifpnaa.Ideal
