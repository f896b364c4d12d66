/- DiskForges for all arguments. -/
import Derived.Test.YtfbdjjcnibgjnaaDiskForges
import Derived.Test.YtfbdjjcnibgjnaaOwn
import Derived.Test.YtfbdjjcnibgjnaaScrD
namespace Go.Proofs.Ytfbdjjcnibgjnaa.Disk
set_option linter.unusedVariables false
open Go Go.RowKit Kit
set_option maxHeartbeats 2000000 in
set_option maxRecDepth 100000 in
theorem forges_walk (nn : Int) (A : Option Addr) (n c : Nat) (cs : List Cc) (p : Int) (B : Option Addr) (m d : Nat) (bl : List UInt8) (K : Int) (w : World) (_ : (Lit.int .i64 nn).wf = true) (hn : cs.length = n) (hA : A = none → c = 0) (hr : Row w A (cs.flatMap Cc.cells)) (h4 : n ≤ c) (h5 : c ≤ maxLen) (hx : ∀ x ∈ cs, CcOk w x ∧ x.i ≤ 9223372036854775807)
    (hwp : (Lit.int .i64 p).wf = true) (hbl : bl.length = m) (_ : B = none → d = 0) (hrb : Row w B (bvs bl)) (h6 : m ≤ d) (h7 : d ≤ maxLen) (hwK : (Lit.int .u64 K).wf = true) :
    Calls Try.prog 4 #[.int .i64 nn, .slice A n c, .int .i64 p, .slice B m d, .int .u64 K] w fun e w' => e = .returned (.bool true) ∧ Kp nob w w' := by
  have hm : n ≤ maxLen := Nat.le_trans h4 h5
  have hmd : m ≤ maxLen := Nat.le_trans h6 h7
  have hK : 0 ≤ K ∧ K < 18446744073709551616 := by
    simp [Lit.wf, IntKind.min, IntKind.max, IntKind.signed, IntKind.bits] at hwK
    omega
  have hpb : -9223372036854775808 ≤ p ∧ p ≤ 9223372036854775807 := by
    simp [Lit.wf, IntKind.min, IntKind.max, IntKind.signed, IntKind.bits] at hwp
    omega
  have HGR := Lib.hid (fun (w' : World) (k : Kp nob w w') => great_any A n c cs w' hn (hr.keep0 k) (fun x h => (hx x h).1.n) hm)
  cases hg : greatB cs with
  | true =>
    rw [hg] at HGR
    clear hn hA hr h4 h5 hx hm hg
    go_enter Try.func4, Try.ntmps4
    go_wp2_with fail
    refine (alive_yes w).mono ?_
    rintro e w1 ⟨rfl, k1⟩
    have K1 := Lib.hid k1
    go_wp2_with fail
    refine (HGR.out w1 K1.out).mono ?_
    rintro e w2 ⟨rfl, k2⟩
    clear k1
    go_wp2
    go_ret
    exact ⟨rfl, K1.out.trans k2 (fun _ e => e.elim)⟩
  | false =>
    by_cases c1 : nn < 1
    · have d1 : decide (nn < 1) = true := decide_eq_true c1
      rw [hg] at HGR
      clear hn hA hr h4 h5 hx hm hg
      go_enter Try.func4, Try.ntmps4
      go_wp2_with fail
      refine (alive_yes w).mono ?_
      rintro e w1 ⟨rfl, k1⟩
      have K1 := Lib.hid k1
      go_wp2_with fail
      refine (HGR.out w1 K1.out).mono ?_
      rintro e w2 ⟨rfl, k2⟩
      clear k1
      go_wp2
      go_ret
      exact ⟨rfl, K1.out.trans k2 (fun _ e => e.elim)⟩
    by_cases c2 : (20 : Int) < nn
    · have d1 : decide (nn < 1) = false := decide_eq_false c1
      have d2 : decide ((20 : Int) < nn) = true := decide_eq_true c2
      rw [hg] at HGR
      clear hn hA hr h4 h5 hx hm hg
      go_enter Try.func4, Try.ntmps4
      go_wp2_with fail
      refine (alive_yes w).mono ?_
      rintro e w1 ⟨rfl, k1⟩
      have K1 := Lib.hid k1
      go_wp2_with fail
      refine (HGR.out w1 K1.out).mono ?_
      rintro e w2 ⟨rfl, k2⟩
      clear k1
      go_wp2
      go_ret
      exact ⟨rfl, K1.out.trans k2 (fun _ e => e.elim)⟩
    by_cases c3 : p < 0
    · have d1 : decide (nn < 1) = false := decide_eq_false c1
      have d2 : decide ((20 : Int) < nn) = false := decide_eq_false c2
      have d3 : decide (p < 0) = true := decide_eq_true c3
      rw [hg] at HGR
      clear hn hA hr h4 h5 hx hm hg
      go_enter Try.func4, Try.ntmps4
      go_wp2_with fail
      refine (alive_yes w).mono ?_
      rintro e w1 ⟨rfl, k1⟩
      have K1 := Lib.hid k1
      go_wp2_with fail
      refine (HGR.out w1 K1.out).mono ?_
      rintro e w2 ⟨rfl, k2⟩
      clear k1
      go_wp2
      go_ret
      exact ⟨rfl, K1.out.trans k2 (fun _ e => e.elim)⟩
    by_cases c4 : nn ≤ p
    · have d1 : decide (nn < 1) = false := decide_eq_false c1
      have d2 : decide ((20 : Int) < nn) = false := decide_eq_false c2
      have d3 : decide (p < 0) = false := decide_eq_false c3
      have d4 : decide (nn ≤ p) = true := decide_eq_true c4
      rw [hg] at HGR
      clear hn hA hr h4 h5 hx hm hg
      go_enter Try.func4, Try.ntmps4
      go_wp2_with fail
      refine (alive_yes w).mono ?_
      rintro e w1 ⟨rfl, k1⟩
      have K1 := Lib.hid k1
      go_wp2_with fail
      refine (HGR.out w1 K1.out).mono ?_
      rintro e w2 ⟨rfl, k2⟩
      clear k1
      go_wp2
      go_ret
      exact ⟨rfl, K1.out.trans k2 (fun _ e => e.elim)⟩
    by_cases c5 : 256 < m
    · have d1 : decide (nn < 1) = false := decide_eq_false c1
      have d2 : decide ((20 : Int) < nn) = false := decide_eq_false c2
      have d3 : decide (p < 0) = false := decide_eq_false c3
      have d4 : decide (nn ≤ p) = false := decide_eq_false c4
      have d5 : decide ((256 : Int) < (m : Int)) = true := by simp; omega
      rw [hg] at HGR
      clear hn hA hr h4 h5 hx hm hg
      go_enter Try.func4, Try.ntmps4
      go_wp2_with fail
      refine (alive_yes w).mono ?_
      rintro e w1 ⟨rfl, k1⟩
      have K1 := Lib.hid k1
      go_wp2_with fail
      refine (HGR.out w1 K1.out).mono ?_
      rintro e w2 ⟨rfl, k2⟩
      clear k1
      go_wp2
      go_ret
      exact ⟨rfl, K1.out.trans k2 (fun _ e => e.elim)⟩
    obtain ⟨q, rfl⟩ : ∃ q : Nat, p = (q : Int) := ⟨p.toNat, by omega⟩
    obtain ⟨K, rfl⟩ : ∃ q : Nat, K = (q : Int) := ⟨K.toNat, by omega⟩
    exact forges_yes nn A n c cs q B m d bl K w hn hr hx hm hg (by omega) (by omega) (by omega) hbl hrb (by omega) (by omega)
end Go.Proofs.Ytfbdjjcnibgjnaa.Disk
