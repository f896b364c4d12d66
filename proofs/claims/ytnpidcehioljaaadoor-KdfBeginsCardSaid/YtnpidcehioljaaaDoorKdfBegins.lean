/- KdfBegins: fewer bytes are the beginning of more; to the very last byte that may be. -/
import Derived.Test.YtnpidcehioljaaaDoorKdfG
namespace Go.Proofs.YtnpidcehioljaaaDoor.Kdf
open Go Go.RowKit Kit
open Sha (Tabs Far Has Pc PcsOk catP u8s_under arr32b u8s_info row_marked u8_string conv_row slice_to)
open Hmac (mac mac_length ik ik_length MacIs)

set_option maxHeartbeats 1000000 in
theorem begins_no (A : Option Addr) (n c : Nat) (i j : Int) (B : Option Addr) (m d : Nat) (w : World) (ht : Tabs w) (hn : n ≤ maxLen) (hm : m ≤ maxLen) (h : 1024 < n ∨ 1024 < m ∨ i < 0 ∨ j < i ∨ 8160 < j) :
    Calls Tryd.prog 4 #[.slice A n c, .int .i64 i, .int .i64 j, .slice B m d] w fun e w' => e = .returned (.bool true) ∧ Kp nob w w' := by
  unfold maxLen at hm hn
  have fin : ∀ d1 d2 d3 d4 d5 : Bool, decide ((1024 : Int) < (n : Int)) = d1 → decide ((1024 : Int) < (m : Int)) = d2 → decide (i < 0) = d3 → decide (j < i) = d4 → decide (8160 < j) = d5 → (d1 || d2 || d3 || d4 || d5) = true →
    Calls Tryd.prog 4 #[.slice A n c, .int .i64 i, .int .i64 j, .slice B m d] w fun e w' => e = .returned (.bool true) ∧ Kp nob w w' := by
    intro d1 d2 d3 d4 d5 e1 e2 e3 e4 e5 hd
    cases d1 <;> cases d2 <;> cases d3 <;> cases d4 <;> cases d5 <;> first | (exfalso; simp at hd; done) |
      (clear hd
       go_enter Tryd.func4, Tryd.ntmps4
       go_wp2_with fail
       refine (alive_yes _ ht).mono ?_
       rintro e w1 ⟨rfl, k1⟩
       go_wp2
       go_ret
       exact ⟨rfl, k1⟩)
  refine fin _ _ _ _ _ rfl rfl rfl rfl rfl ?_
  simp only [Bool.or_eq_true, decide_eq_true_eq]
  omega

set_option maxHeartbeats 2000000 in
theorem begins_yes (A : Option Addr) (n c : Nat) (key : List UInt8) (x y : Nat) (B : Option Addr) (m d : Nat) (pur : List UInt8) (w : World) (ht : Tabs w)
    (hk : key.length = n) (hr : Row w A (bvs key)) (hc : n ≤ c) (hcm : c ≤ maxLen) (hb : pur.length = m) (hrb : Row w B (bvs pur)) (hd : m ≤ d) (hdm : d ≤ maxLen) (hn1 : n ≤ 1024) (hm1 : m ≤ 1024) (hxy : x ≤ y) (hy : y ≤ 8160) :
    Calls Tryd.prog 4 #[.slice A n c, .int .i64 (x : Int), .int .i64 (y : Int), .slice B m d] w fun e w' => e = .returned (.bool true) ∧ Kp nob w w' := by
  have d1 : decide ((1024 : Int) < (n : Int)) = false := by simp; omega
  have d2 : decide ((1024 : Int) < (m : Int)) = false := by simp; omega
  have d3 : decide ((x : Int) < 0) = false := by simp
  have d4 : decide ((y : Int) < (x : Int)) = false := by simp; omega
  have d5 : decide (8160 < (y : Int)) = false := by simp; omega
  have HCM := Lib.hid hcm; have HDM := Lib.hid hdm
  have HK := Lib.hid hk; have HB := Lib.hid hb
  obtain ⟨O1, hO1⟩ : ∃ O, O = expand key pur x := ⟨_, rfl⟩
  obtain ⟨O2, hO2⟩ : ∃ O, O = expand key pur y := ⟨_, rfl⟩
  have HO1 := Lib.hid hO1; have HO2 := Lib.hid hO2
  have L1 : Hid (O1.length = x) := Lib.hid (by rw [hO1, expand_length])
  have L2 : Hid (O2.length = y) := Lib.hid (by rw [hO2, expand_length])
  have HT : Hid (O2.take x = O1) := Lib.hid (by rw [hO1, hO2, expand_take _ _ _ _ hxy])
  clear hk hb hcm hdm hO1 hO2
  go_enter Tryd.func4, Tryd.ntmps4
  go_wp2_with fail
  refine (alive_yes _ ht).mono ?_
  rintro e w1 ⟨rfl, k1⟩
  go_wp2_with fail
  refine (expand_one A n c key x ⟨B, m, d, pur⟩ w1 _ _ rfl (ht.keep0 k1) (by omega) HK.out (hr.keep0 k1) hc HCM.out (by omega) (Sha.pcs_one HB.out (hrb.keep0 k1) (.inr (fun _ _ e => e)) hd HDM.out) (by show pur.length ≤ _; rw [HB.out]; omega)).mono ?_
  rintro e w2 ⟨X, cX, rfl, hX, _, k2⟩
  rw [show expand key (Pc.l ⟨B, m, d, pur⟩) x = O1 from HO1.out.symm] at hX
  have K2 := k1.trans k2 (fun _ e => e.elim)
  have HX := Lib.hid hX
  clear hX k2
  go_wp2_with fail
  refine (expand_one A n c key y ⟨B, m, d, pur⟩ w2 _ _ rfl (ht.keep0 K2) hy HK.out (hr.keep0 K2) hc HCM.out (by omega) (Sha.pcs_one HB.out (hrb.keep0 K2) (.inr (fun _ _ e => e)) hd HDM.out) (by show pur.length ≤ _; rw [HB.out]; omega)).mono ?_
  rintro e w3 ⟨Y, cY, rfl, hY, _, k3⟩
  rw [show expand key (Pc.l ⟨B, m, d, pur⟩) y = O2 from HO2.out.symm] at hY
  have K3 := K2.trans k3 (fun _ e => e.elim)
  have cpY := hY.cap
  have q1 := fun j => conv_row (w3.drewN j) X x cX O1 L1.out ((HX.out.row.keep0 k3).keep0 ((Kp.refl nob w3).drewN j))
  have q2 := fun j => conv_row (w3.drewN j) Y x cY O1 L1.out (by
    have := row_take (hY.row.keep0 ((Kp.refl nob w3).drewN j)) x
    rwa [HT.out] at this)
  have s1 := fun wx => slice_to Y y cY x (by omega) wx
  clear k3 hY
  go_wp2
  go_quiet (fail)
  go_wp2
  go_ret
  exact ⟨rfl, K3.drewN _⟩

theorem begins_walk (A : Option Addr) (n c : Nat) (key : List UInt8) (i j : Int) (B : Option Addr) (m d : Nat) (pur : List UInt8) (w : World) (ht : Tabs w)
    (hk : key.length = n) (_ : A = none → c = 0) (hr : Row w A (bvs key)) (hc : n ≤ c) (hcm : c ≤ maxLen) (_ : (Lit.int .i64 i).wf = true) (_ : (Lit.int .i64 j).wf = true) (hb : pur.length = m) (_ : B = none → d = 0) (hrb : Row w B (bvs pur)) (hd : m ≤ d) (hdm : d ≤ maxLen) :
    Calls Tryd.prog 4 #[.slice A n c, .int .i64 i, .int .i64 j, .slice B m d] w fun e w' => e = .returned (.bool true) ∧ Kp nob w w' := by
  by_cases h : 1024 < n ∨ 1024 < m ∨ i < 0 ∨ j < i ∨ 8160 < j
  · exact begins_no A n c i j B m d w ht (by omega) (by omega) h
  · obtain ⟨x, rfl⟩ : ∃ x : Nat, i = x := ⟨i.toNat, by omega⟩
    obtain ⟨y, rfl⟩ : ∃ y : Nat, j = y := ⟨j.toNat, by omega⟩
    exact begins_yes A n c key x y B m d pur w ht hk hr hc hcm hb hrb hd hdm (by omega) (by omega) (by omega) (by omega)
end Go.Proofs.YtnpidcehioljaaaDoor.Kdf
