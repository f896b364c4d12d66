/- DiskTwins for all arguments. -/
import Derived.Test.YtfbdjjcnibgjnaaDiskTwins
import Derived.Test.YtfbdjjcnibgjnaaOwn
import Derived.Test.YtfbdjjcnibgjnaaScrD
namespace Go.Proofs.Ytfbdjjcnibgjnaa.Disk
set_option linter.unusedVariables false
open Go Go.RowKit Kit
set_option maxHeartbeats 2000000 in
set_option maxRecDepth 100000 in
theorem twins_walk (nn : Int) (A : Option Addr) (n c : Nat) (cs : List Cc) (w : World) (_ : (Lit.int .i64 nn).wf = true) (hn : cs.length = n) (hA : A = none → c = 0) (hr : Row w A (cs.flatMap Cc.cells)) (h4 : n ≤ c) (h5 : c ≤ maxLen) (hx : ∀ x ∈ cs, CcOk w x ∧ x.i ≤ 9223372036854775807) :
    Calls Try.prog 7 #[.int .i64 nn, .slice A n c] w fun e w' => e = .returned (.bool true) ∧ Kp nob w w' := by
  have hm : n ≤ maxLen := Nat.le_trans h4 h5
  have HGR := Lib.hid (fun (w' : World) (k : Kp nob w w') => great_any A n c cs w' hn (hr.keep0 k) (fun x h => (hx x h).1.n) hm)
  cases hg : greatB cs with
  | true =>
    rw [hg] at HGR
    clear hn hA hr h4 h5 hx hm hg
    go_enter Try.func7, Try.ntmps7
    go_wp2_with fail
    refine (alive_yes w).mono ?_
    rintro e w1 ⟨rfl, k1⟩
    have K1 := Lib.hid k1
    go_wp2_with fail
    refine (HGR.out w1 K1.out).mono ?_
    rintro e w2 ⟨rfl, k2⟩
    clear k1
    go_wp2
    go_ret
    exact ⟨rfl, K1.out.trans k2 (fun _ e => e.elim)⟩
  | false =>
    by_cases h20 : nn ≤ 20
    · exact twins_yes nn A n c cs w hn hr hx hm hg h20
    · rw [hg] at HGR
      have d1 : decide ((20 : Int) < nn) = true := decide_eq_true (by omega)
      clear hn hA hr h4 h5 hx hm hg h20
      go_enter Try.func7, Try.ntmps7
      go_wp2_with fail
      refine (alive_yes w).mono ?_
      rintro e w1 ⟨rfl, k1⟩
      have K1 := Lib.hid k1
      go_wp2_with fail
      refine (HGR.out w1 K1.out).mono ?_
      rintro e w2 ⟨rfl, k2⟩
      clear k1
      go_wp2
      go_ret
      exact ⟨rfl, K1.out.trans k2 (fun _ e => e.elim)⟩
end Go.Proofs.Ytfbdjjcnibgjnaa.Disk
