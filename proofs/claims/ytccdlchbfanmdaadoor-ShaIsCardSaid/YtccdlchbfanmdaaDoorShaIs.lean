/- ShaIs: Of answers the digest that the document defines, of any pieces. -/
import Derived.Test.YtccdlchbfanmdaaDoorShaL
namespace Go.Proofs.YtccdlchbfanmdaaDoor.Sha
open Go Go.RowKit Kit

set_option maxHeartbeats 1000000 in
theorem is_many (A : Option Addr) (m c : Nat) (w : World) (ht : Tabs w) (hm2 : 200 < m) (hmm : m ≤ maxLen) :
    Calls Tryd.prog 3 #[.slice A m c] w fun e w' => e = .returned (.bool true) ∧ Kp nob w w' := by
  go_enter Tryd.func3, Tryd.ntmps3
  go_wp2_with fail
  refine (alive_yes _ ht).mono ?_
  rintro e w1 ⟨rfl, k1⟩
  go_wp2_with fail
  refine (joined_many A m c _ hm2 hmm).mono ?_
  rintro e w2 ⟨rfl, k2⟩
  go_wp2
  go_ret
  exact ⟨rfl, k1.trans k2 (fun _ e => e.elim)⟩
set_option maxHeartbeats 1000000 in
theorem is_long (A : Option Addr) (m c : Nat) (ps : List Pc) (w : World) (ht : Tabs w) (hm : ps.length = m) (hr : Row w A (ps.map Pc.v)) (hp : PcsOk w nob ps) (hA : ∀ p ∈ ps, p.A = none → p.c = 0) (hn : ∀ p ∈ ps, p.n ≤ 140737488355328) (hm2 : m ≤ 200) (hl : 8192 < (catP ps).length) :
    Calls Tryd.prog 3 #[.slice A m c] w fun e w' => e = .returned (.bool true) ∧ Kp nob w w' := by
  go_enter Tryd.func3, Tryd.ntmps3
  go_wp2_with fail
  refine (alive_yes _ ht).mono ?_
  rintro e w1 ⟨rfl, k1⟩
  go_wp2_with fail
  refine (joined_long A m c ps _ hm (hr.keep0 k1) (hp.keep0 k1) hA hn hm2 hl).mono ?_
  rintro e w2 ⟨rfl, k2⟩
  go_wp2
  go_ret
  exact ⟨rfl, k1.trans k2 (fun _ e => e.elim)⟩
set_option maxHeartbeats 1000000 in
theorem is_yes (A : Option Addr) (m c : Nat) (ps : List Pc) (w : World) (ht : Tabs w) (hm : ps.length = m) (hr : Row w A (ps.map Pc.v)) (hp : PcsOk w nob ps) (hA : ∀ p ∈ ps, p.A = none → p.c = 0) (hm2 : m ≤ 200) (hl : (catP ps).length ≤ 8192) :
    Calls Tryd.prog 3 #[.slice A m c] w fun e w' => e = .returned (.bool true) ∧ Kp nob w w' := by
  have hq := eq_same (catP ps)
  go_enter Tryd.func3, Tryd.ntmps3
  go_wp2_with fail
  refine (alive_yes _ ht).mono ?_
  rintro e w1 ⟨rfl, k1⟩
  go_wp2_with fail
  refine (joined_yes A m c ps _ hm (hr.keep0 k1) (hp.keep0 k1) hA hm2 hl).mono ?_
  rintro e w2 ⟨B, cB, rfl, hB, k2, g2⟩
  have K2 := k1.trans k2 (fun _ e => e.elim)
  go_wp2_with fail
  refine (of_any A m c ps _ (ht.keep0 K2) hm (hr.keep0 K2) (hp.keep0 K2) (by omega) (by omega)).mono ?_
  rintro e w3 ⟨rfl, k3⟩
  have K3 := K2.trans k3 (fun _ e => e.elim)
  go_wp2_with fail
  refine (fOf B _ cB (catP ps) _ rfl (by omega) (own_none hB) (hB.row.keep0 k3)).mono ?_
  rintro e w4 ⟨rfl, k4⟩
  go_wp2
  go_ret
  exact ⟨rfl, K3.trans k4 (fun _ e => e.elim)⟩
theorem is_any (A : Option Addr) (m c : Nat) (ps : List Pc) (w : World) (ht : Tabs w) (hm : ps.length = m) (hr : Row w A (ps.map Pc.v)) (hmm : m ≤ maxLen) (hp : PcsOk w nob ps) (hA : ∀ p ∈ ps, p.A = none → p.c = 0) (hn : ∀ p ∈ ps, p.n ≤ 140737488355328) :
    Calls Tryd.prog 3 #[.slice A m c] w fun e w' => e = .returned (.bool true) ∧ Kp nob w w' := by
  by_cases h1 : m ≤ 200
  · by_cases h2 : (catP ps).length ≤ 8192
    · exact is_yes A m c ps w ht hm hr hp hA h1 h2
    · exact is_long A m c ps w ht hm hr hp hA hn h1 (by omega)
  · exact is_many A m c w ht (by omega) hmm
end Go.Proofs.YtccdlchbfanmdaaDoor.Sha
