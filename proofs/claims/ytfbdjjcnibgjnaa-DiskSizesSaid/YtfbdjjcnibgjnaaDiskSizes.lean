/- DiskSizes: a disk has as many sectors as are asked for, from none to the most that may be. -/
import Derived.Test.YtfbdjjcnibgjnaaDskL
namespace Go.Proofs.Ytfbdjjcnibgjnaa.Disk
set_option linter.unusedVariables false
set_option linter.unusedSimpArgs false
open Go Go.RowKit Kit

theorem new_length (m : Nat) : (new m).now.length = m := List.length_replicate
theorem new_at (m p : Nat) (h : p < m) : (new m).now[p]? = some (full []) := by
  show (List.replicate m (full []))[p]? = _
  rw [List.getElem?_replicate, if_pos h]
theorem may_new (m : Nat) (i : Int) (h : i < 0 ∨ (m : Int) ≤ i) : may E8 (new m) i = 1 := by
  rw [may, show (new m).off = false from rfl, if_neg (show ¬ (false = true) by decide), if_pos (by rw [new_length]; exact h)]; rfl
/-- What Read answers of a new disk. -/
theorem read_new (m : Nat) (i V : Int) (hV : V = (m : Int)) (g N S : Nat) (w : World) (h : Cd w g N S none 0 (new m)) :
    Calls Try.prog 16 #[.pointer (some ⟨g, 0, none⟩), .int .i64 i] w fun e w' => ∃ x, e = .returned (.tuple #[x, .int .i64 (if 0 ≤ i ∧ i < V then 0 else 1)]) ∧ Kp nob w w' := by
  by_cases hi : 0 ≤ i ∧ i < V
  · rw [if_pos hi]
    obtain ⟨p, rfl⟩ : ∃ p : Nat, i = p := ⟨i.toNat, by omega⟩
    refine (read_yes (new m) p (full []) g N S none 0 w h rfl (new_at m p (by omega))).mono ?_
    rintro e w' ⟨k, rfl, _, k1, _⟩
    exact ⟨_, rfl, k1⟩
  · rw [if_neg hi]
    have hm := may_new m i (by omega)
    refine (read_no (new m) i g N S none 0 w h (by rw [hm]; decide)).mono ?_
    rintro e w' ⟨rfl, k1⟩
    rw [hm]
    exact ⟨_, rfl, k1⟩
set_option maxHeartbeats 4000000 in
set_option maxRecDepth 100000 in
theorem sizes_walk (n i : Int) (w : World) (_ : (Lit.int .i64 n).wf = true) (_ : (Lit.int .i64 i).wf = true) :
    Calls Try.prog 5 #[.int .i64 n, .int .i64 i] w fun e w' => e = .returned (.bool true) ∧ Kp nob w w' := by
  obtain ⟨m, hm⟩ : ∃ m, m = clamp n := ⟨_, rfl⟩
  have hm1 : m ≤ 4096 := by rw [hm]; exact Nat.min_le_right _ _
  have HN := Lib.hid (fun w => new_any n w)
  rw [← hm] at HN
  obtain ⟨q, hq⟩ : ∃ q, q = m * 256 := ⟨_, rfl⟩
  have HIM := Lib.hid (fun (g N S : Nat) (w : World) (h : Cd w g N S none 0 (new m)) => image_any (new m) g N S none 0 w h)
  rw [new_length, ← hq] at HIM
  by_cases hn : n < 0
  · have hV : (m : Int) = 0 := by unfold clamp at hm; omega
    have HSZ := Lib.hid (fun (g N S : Nat) (w : World) (h : Cd w g N S none 0 (new m)) => size_any (new m) g N S none 0 w h)
    rw [new_length, hV] at HSZ
    have HRD := Lib.hid (fun (g N S : Nat) (w : World) (h : Cd w g N S none 0 (new m)) => read_new m i (0) hV.symm g N S w h)
    have e1 : IntKind.i64.wrap (256 * (0)) = (q : Int) := by rw [IntWalk.i64_in _ (by omega)]; omega
    obtain rfl : q = 0 := by omega
    by_cases h1 : 0 ≤ i
    · by_cases h2 : i < 0
      · omega
      · have d1 : decide (0 ≤ i) = true := decide_eq_true h1
        have d2 : decide (i < 0) = false := decide_eq_false h2
        rw [if_neg (fun e => h2 e.2)] at HRD
        clear hm hm1 hq hV
        go_enter Try.func5, Try.ntmps5
        go_wp2_with fail
        refine (alive_yes w).mono ?_
        rintro e w1 ⟨rfl, k1⟩
        have K1 := Lib.hid k1
        clear k1
        go_wp2_with fail
        refine (HN.out w1).mono ?_
        rintro e w2 ⟨g, N, S, rfl, h2', k2, n2⟩
        have H2 := Lib.hid h2'; have K2 := Lib.hid (K1.out.trans k2 (fun _ e => e.elim))
        clear h2' k2 n2
        go_wp2_with fail
        refine (HRD.out g N S w2 H2.out).mono ?_
        rintro e w3 ⟨x, rfl, k3⟩
        have H3 := Lib.hid (H2.out.keep0 k3); have K3 := Lib.hid (K2.out.trans k3 (fun _ e => e.elim))
        clear k3
        go_wp2_with fail
        refine (HSZ.out g N S w3 H3.out).mono ?_
        rintro e w4 ⟨rfl, rfl⟩
        go_wp2_with fail
        refine (HIM.out g N S w3 H3.out).mono ?_
        rintro e w5 ⟨A, c, rfl, o5, k5, n5⟩
        have K5 := Lib.hid (K3.out.trans k5 (fun _ e => e.elim))
        clear o5 k5 n5
        go_wp2
        go_ret
        exact ⟨rfl, K5.out⟩
    · have d1 : decide (0 ≤ i) = false := decide_eq_false h1
      rw [if_neg (fun e => h1 e.1)] at HRD
      clear hm hm1 hq hV
      go_enter Try.func5, Try.ntmps5
      go_wp2_with fail
      refine (alive_yes w).mono ?_
      rintro e w1 ⟨rfl, k1⟩
      have K1 := Lib.hid k1
      clear k1
      go_wp2_with fail
      refine (HN.out w1).mono ?_
      rintro e w2 ⟨g, N, S, rfl, h2', k2, n2⟩
      have H2 := Lib.hid h2'; have K2 := Lib.hid (K1.out.trans k2 (fun _ e => e.elim))
      clear h2' k2 n2
      go_wp2_with fail
      refine (HRD.out g N S w2 H2.out).mono ?_
      rintro e w3 ⟨x, rfl, k3⟩
      have H3 := Lib.hid (H2.out.keep0 k3); have K3 := Lib.hid (K2.out.trans k3 (fun _ e => e.elim))
      clear k3
      go_wp2_with fail
      refine (HSZ.out g N S w3 H3.out).mono ?_
      rintro e w4 ⟨rfl, rfl⟩
      go_wp2_with fail
      refine (HIM.out g N S w3 H3.out).mono ?_
      rintro e w5 ⟨A, c, rfl, o5, k5, n5⟩
      have K5 := Lib.hid (K3.out.trans k5 (fun _ e => e.elim))
      clear o5 k5 n5
      go_wp2
      go_ret
      exact ⟨rfl, K5.out⟩
  · by_cases hb : 4096 < n
    · have hV : (m : Int) = 4096 := by unfold clamp at hm; omega
      have h0 : 0 ≤ n := by omega
      have HSZ := Lib.hid (fun (g N S : Nat) (w : World) (h : Cd w g N S none 0 (new m)) => size_any (new m) g N S none 0 w h)
      rw [new_length, hV] at HSZ
      have HRD := Lib.hid (fun (g N S : Nat) (w : World) (h : Cd w g N S none 0 (new m)) => read_new m i (4096) hV.symm g N S w h)
      have e1 : IntKind.i64.wrap (256 * (4096)) = (q : Int) := by rw [IntWalk.i64_in _ (by omega)]; omega
      obtain rfl : q = 1048576 := by omega
      by_cases h1 : 0 ≤ i
      · by_cases h2 : i < 4096
        · have d1 : decide (0 ≤ i) = true := decide_eq_true h1
          have d2 : decide (i < 4096) = true := decide_eq_true h2
          rw [if_pos ⟨h1, h2⟩] at HRD
          clear hm hm1 hq hV
          go_enter Try.func5, Try.ntmps5
          go_wp2_with fail
          refine (alive_yes w).mono ?_
          rintro e w1 ⟨rfl, k1⟩
          have K1 := Lib.hid k1
          clear k1
          go_wp2_with fail
          refine (HN.out w1).mono ?_
          rintro e w2 ⟨g, N, S, rfl, h2', k2, n2⟩
          have H2 := Lib.hid h2'; have K2 := Lib.hid (K1.out.trans k2 (fun _ e => e.elim))
          clear h2' k2 n2
          go_wp2_with fail
          refine (HRD.out g N S w2 H2.out).mono ?_
          rintro e w3 ⟨x, rfl, k3⟩
          have H3 := Lib.hid (H2.out.keep0 k3); have K3 := Lib.hid (K2.out.trans k3 (fun _ e => e.elim))
          clear k3
          go_wp2_with fail
          refine (HSZ.out g N S w3 H3.out).mono ?_
          rintro e w4 ⟨rfl, rfl⟩
          go_wp2_with fail
          refine (HIM.out g N S w3 H3.out).mono ?_
          rintro e w5 ⟨A, c, rfl, o5, k5, n5⟩
          have K5 := Lib.hid (K3.out.trans k5 (fun _ e => e.elim))
          clear o5 k5 n5
          go_wp2
          go_ret
          exact ⟨rfl, K5.out⟩
        · have d1 : decide (0 ≤ i) = true := decide_eq_true h1
          have d2 : decide (i < 4096) = false := decide_eq_false h2
          rw [if_neg (fun e => h2 e.2)] at HRD
          clear hm hm1 hq hV
          go_enter Try.func5, Try.ntmps5
          go_wp2_with fail
          refine (alive_yes w).mono ?_
          rintro e w1 ⟨rfl, k1⟩
          have K1 := Lib.hid k1
          clear k1
          go_wp2_with fail
          refine (HN.out w1).mono ?_
          rintro e w2 ⟨g, N, S, rfl, h2', k2, n2⟩
          have H2 := Lib.hid h2'; have K2 := Lib.hid (K1.out.trans k2 (fun _ e => e.elim))
          clear h2' k2 n2
          go_wp2_with fail
          refine (HRD.out g N S w2 H2.out).mono ?_
          rintro e w3 ⟨x, rfl, k3⟩
          have H3 := Lib.hid (H2.out.keep0 k3); have K3 := Lib.hid (K2.out.trans k3 (fun _ e => e.elim))
          clear k3
          go_wp2_with fail
          refine (HSZ.out g N S w3 H3.out).mono ?_
          rintro e w4 ⟨rfl, rfl⟩
          go_wp2_with fail
          refine (HIM.out g N S w3 H3.out).mono ?_
          rintro e w5 ⟨A, c, rfl, o5, k5, n5⟩
          have K5 := Lib.hid (K3.out.trans k5 (fun _ e => e.elim))
          clear o5 k5 n5
          go_wp2
          go_ret
          exact ⟨rfl, K5.out⟩
      · have d1 : decide (0 ≤ i) = false := decide_eq_false h1
        rw [if_neg (fun e => h1 e.1)] at HRD
        clear hm hm1 hq hV
        go_enter Try.func5, Try.ntmps5
        go_wp2_with fail
        refine (alive_yes w).mono ?_
        rintro e w1 ⟨rfl, k1⟩
        have K1 := Lib.hid k1
        clear k1
        go_wp2_with fail
        refine (HN.out w1).mono ?_
        rintro e w2 ⟨g, N, S, rfl, h2', k2, n2⟩
        have H2 := Lib.hid h2'; have K2 := Lib.hid (K1.out.trans k2 (fun _ e => e.elim))
        clear h2' k2 n2
        go_wp2_with fail
        refine (HRD.out g N S w2 H2.out).mono ?_
        rintro e w3 ⟨x, rfl, k3⟩
        have H3 := Lib.hid (H2.out.keep0 k3); have K3 := Lib.hid (K2.out.trans k3 (fun _ e => e.elim))
        clear k3
        go_wp2_with fail
        refine (HSZ.out g N S w3 H3.out).mono ?_
        rintro e w4 ⟨rfl, rfl⟩
        go_wp2_with fail
        refine (HIM.out g N S w3 H3.out).mono ?_
        rintro e w5 ⟨A, c, rfl, o5, k5, n5⟩
        have K5 := Lib.hid (K3.out.trans k5 (fun _ e => e.elim))
        clear o5 k5 n5
        go_wp2
        go_ret
        exact ⟨rfl, K5.out⟩
    · have hV : (m : Int) = n := by unfold clamp at hm; omega
      have h0 : 0 ≤ n := by omega
      have hb' : n ≤ 4096 := by omega
      have HSZ := Lib.hid (fun (g N S : Nat) (w : World) (h : Cd w g N S none 0 (new m)) => size_any (new m) g N S none 0 w h)
      rw [new_length, hV] at HSZ
      have HRD := Lib.hid (fun (g N S : Nat) (w : World) (h : Cd w g N S none 0 (new m)) => read_new m i (n) hV.symm g N S w h)
      have e1 : IntKind.i64.wrap (256 * (n)) = (q : Int) := by rw [IntWalk.i64_in _ (by omega)]; omega
      by_cases h1 : 0 ≤ i
      · by_cases h2 : i < n
        · have d1 : decide (0 ≤ i) = true := decide_eq_true h1
          have d2 : decide (i < n) = true := decide_eq_true h2
          rw [if_pos ⟨h1, h2⟩] at HRD
          clear hm hm1 hq hV
          go_enter Try.func5, Try.ntmps5
          go_wp2_with fail
          refine (alive_yes w).mono ?_
          rintro e w1 ⟨rfl, k1⟩
          have K1 := Lib.hid k1
          clear k1
          go_wp2_with fail
          refine (HN.out w1).mono ?_
          rintro e w2 ⟨g, N, S, rfl, h2', k2, n2⟩
          have H2 := Lib.hid h2'; have K2 := Lib.hid (K1.out.trans k2 (fun _ e => e.elim))
          clear h2' k2 n2
          go_wp2_with fail
          refine (HRD.out g N S w2 H2.out).mono ?_
          rintro e w3 ⟨x, rfl, k3⟩
          have H3 := Lib.hid (H2.out.keep0 k3); have K3 := Lib.hid (K2.out.trans k3 (fun _ e => e.elim))
          clear k3
          go_wp2_with fail
          refine (HSZ.out g N S w3 H3.out).mono ?_
          rintro e w4 ⟨rfl, rfl⟩
          go_wp2_with fail
          refine (HIM.out g N S w3 H3.out).mono ?_
          rintro e w5 ⟨A, c, rfl, o5, k5, n5⟩
          have K5 := Lib.hid (K3.out.trans k5 (fun _ e => e.elim))
          clear o5 k5 n5
          go_wp2
          go_ret
          exact ⟨rfl, K5.out⟩
        · have d1 : decide (0 ≤ i) = true := decide_eq_true h1
          have d2 : decide (i < n) = false := decide_eq_false h2
          rw [if_neg (fun e => h2 e.2)] at HRD
          clear hm hm1 hq hV
          go_enter Try.func5, Try.ntmps5
          go_wp2_with fail
          refine (alive_yes w).mono ?_
          rintro e w1 ⟨rfl, k1⟩
          have K1 := Lib.hid k1
          clear k1
          go_wp2_with fail
          refine (HN.out w1).mono ?_
          rintro e w2 ⟨g, N, S, rfl, h2', k2, n2⟩
          have H2 := Lib.hid h2'; have K2 := Lib.hid (K1.out.trans k2 (fun _ e => e.elim))
          clear h2' k2 n2
          go_wp2_with fail
          refine (HRD.out g N S w2 H2.out).mono ?_
          rintro e w3 ⟨x, rfl, k3⟩
          have H3 := Lib.hid (H2.out.keep0 k3); have K3 := Lib.hid (K2.out.trans k3 (fun _ e => e.elim))
          clear k3
          go_wp2_with fail
          refine (HSZ.out g N S w3 H3.out).mono ?_
          rintro e w4 ⟨rfl, rfl⟩
          go_wp2_with fail
          refine (HIM.out g N S w3 H3.out).mono ?_
          rintro e w5 ⟨A, c, rfl, o5, k5, n5⟩
          have K5 := Lib.hid (K3.out.trans k5 (fun _ e => e.elim))
          clear o5 k5 n5
          go_wp2
          go_ret
          exact ⟨rfl, K5.out⟩
      · have d1 : decide (0 ≤ i) = false := decide_eq_false h1
        rw [if_neg (fun e => h1 e.1)] at HRD
        clear hm hm1 hq hV
        go_enter Try.func5, Try.ntmps5
        go_wp2_with fail
        refine (alive_yes w).mono ?_
        rintro e w1 ⟨rfl, k1⟩
        have K1 := Lib.hid k1
        clear k1
        go_wp2_with fail
        refine (HN.out w1).mono ?_
        rintro e w2 ⟨g, N, S, rfl, h2', k2, n2⟩
        have H2 := Lib.hid h2'; have K2 := Lib.hid (K1.out.trans k2 (fun _ e => e.elim))
        clear h2' k2 n2
        go_wp2_with fail
        refine (HRD.out g N S w2 H2.out).mono ?_
        rintro e w3 ⟨x, rfl, k3⟩
        have H3 := Lib.hid (H2.out.keep0 k3); have K3 := Lib.hid (K2.out.trans k3 (fun _ e => e.elim))
        clear k3
        go_wp2_with fail
        refine (HSZ.out g N S w3 H3.out).mono ?_
        rintro e w4 ⟨rfl, rfl⟩
        go_wp2_with fail
        refine (HIM.out g N S w3 H3.out).mono ?_
        rintro e w5 ⟨A, c, rfl, o5, k5, n5⟩
        have K5 := Lib.hid (K3.out.trans k5 (fun _ e => e.elim))
        clear o5 k5 n5
        go_wp2
        go_ret
        exact ⟨rfl, K5.out⟩
end Go.Proofs.Ytfbdjjcnibgjnaa.Disk
