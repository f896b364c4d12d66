/- DiskLoses for all arguments. -/
import Derived.Test.YtfbdjjcnibgjnaaDiskLoses
import Derived.Test.YtfbdjjcnibgjnaaOwn
import Derived.Test.YtfbdjjcnibgjnaaScrD
namespace Go.Proofs.Ytfbdjjcnibgjnaa.Disk
set_option linter.unusedVariables false
open Go Go.RowKit Kit
set_option maxHeartbeats 2000000 in
set_option maxRecDepth 100000 in
theorem loses_walk (A : Option Addr) (n c : Nat) (zs : List Int) (T : Option Addr) (m d : Nat) (ps : List Sha.Pc) (Y : Option Addr) (r s : Nat) (bs : List Bool) (fu : Int) (K : Int) (w : World)
    (h1 : zs.length = n) (_ : A = none → c = 0) (hr1 : Row w A (zs.map fun z => .int .i64 z)) (hc1 : n ≤ c) (hm1 : c ≤ maxLen) (_ : ∀ z ∈ zs, (Lit.int .i64 z).wf = true)
    (h2 : ps.length = m) (hr2 : Row w T (ps.map Sha.Pc.v)) (hm2 : m ≤ maxLen) (hp2 : Sha.PcsOk w nob ps) (_ : ∀ p ∈ ps, p.A = none → p.c = 0) (_ : ∀ p ∈ ps, p.n ≤ 140737488355328)
    (h3 : bs.length = r) (_ : Y = none → s = 0) (hr3 : Row w Y (bs.map Value.bool)) (hc3 : r ≤ s) (hm3 : s ≤ maxLen) (_ : True) (hwf : (Lit.int .i64 fu).wf = true) (hwK : (Lit.int .u64 K).wf = true) :
    Calls Try.prog 3 #[.slice A n c, .slice T m d, .slice Y r s, .int .i64 fu, .int .u64 K] w fun e w' => e = .returned (.bool true) ∧ Kp nob w w' := by
  have hK : 0 ≤ K ∧ K < 18446744073709551616 := by
    simp [Lit.wf, IntKind.min, IntKind.max, IntKind.signed, IntKind.bits] at hwK
    omega
  have hfu : fu ≤ 9223372036854775807 := by
    simp [Lit.wf, IntKind.min, IntKind.max, IntKind.signed, IntKind.bits] at hwf
    omega
  have hn : n ≤ 9223372036854775807 := by simp only [maxLen] at hm1; omega
  have hm : m ≤ 9223372036854775807 := by simp only [maxLen] at hm2; omega
  have hr : r ≤ 9223372036854775807 := by simp only [maxLen] at hm3; omega
  by_cases c1 : 40 < n
  · have d1 : decide ((40 : Int) < (n : Int)) = true := by simp; omega
    clear c1
    clear h1 hr1 hc1 hm1 h2 hr2 hm2 hp2 h3 hr3 hc3 hm3 hwf hwK hK hfu
    go_enter Try.func3, Try.ntmps3
    go_wp2_with fail
    refine (alive_yes w).mono ?_
    rintro e w1 ⟨rfl, k1⟩
    have K1 := Lib.hid k1
    clear k1
    go_wp2
    go_ret
    exact ⟨rfl, K1.out⟩
  by_cases c2 : m < n
  · have d1 : decide ((40 : Int) < (n : Int)) = false := by simp; omega
    have d2 : decide (m < n) = true := decide_eq_true c2
    clear c1
    clear h1 hr1 hc1 hm1 h2 hr2 hm2 hp2 h3 hr3 hc3 hm3 hwf hwK hK hfu
    go_enter Try.func3, Try.ntmps3
    go_wp2_with fail
    refine (alive_yes w).mono ?_
    rintro e w1 ⟨rfl, k1⟩
    have K1 := Lib.hid k1
    clear k1
    go_wp2
    go_ret
    exact ⟨rfl, K1.out⟩
  by_cases c3 : r < n
  · have d1 : decide ((40 : Int) < (n : Int)) = false := by simp; omega
    have d2 : decide (m < n) = false := decide_eq_false c2
    have d3 : decide (r < n) = true := decide_eq_true c3
    clear c1
    clear h1 hr1 hc1 hm1 h2 hr2 hm2 hp2 h3 hr3 hc3 hm3 hwf hwK hK hfu
    go_enter Try.func3, Try.ntmps3
    go_wp2_with fail
    refine (alive_yes w).mono ?_
    rintro e w1 ⟨rfl, k1⟩
    have K1 := Lib.hid k1
    clear k1
    go_wp2
    go_ret
    exact ⟨rfl, K1.out⟩
  obtain ⟨K, rfl⟩ : ∃ q : Nat, K = (q : Int) := ⟨K.toNat, by omega⟩
  exact loses_yes A n c zs T m d ps Y r s bs fu K w h1 hr1 h2 hr2 hp2 h3 hr3 (by omega) (by omega) (by omega) hfu (by omega)
end Go.Proofs.Ytfbdjjcnibgjnaa.Disk
