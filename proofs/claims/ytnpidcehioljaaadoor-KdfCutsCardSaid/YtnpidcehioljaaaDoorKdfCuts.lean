/- KdfCuts: it doesn't matter how a purpose is cut into pieces. -/
import Derived.Test.YtnpidcehioljaaaDoorKdfG
namespace Go.Proofs.YtnpidcehioljaaaDoor.Kdf
open Go Go.RowKit Kit
open Sha (Tabs Far Has Pc PcsOk catP u8s_under arr32b u8s_info row_marked u8_string conv_row slice_to)
open Hmac (mac mac_length ik ik_length MacIs pcs_cons)

set_option maxHeartbeats 1000000 in
theorem cuts_no (A : Option Addr) (n c : Nat) (i : Int) (B : Option Addr) (m d : Nat) (j : Int) (w : World) (ht : Tabs w) (hn : n ≤ maxLen) (hm : m ≤ maxLen) (h : 1024 < n ∨ 1024 < m ∨ i < 0 ∨ 200 < i ∨ j < 0 ∨ (m : Int) < j) :
    Calls Tryd.prog 5 #[.slice A n c, .int .i64 i, .slice B m d, .int .i64 j] w fun e w' => e = .returned (.bool true) ∧ Kp nob w w' := by
  unfold maxLen at hm hn
  have fin : ∀ d1 d2 d3 d4 d5 d6 : Bool, decide ((1024 : Int) < (n : Int)) = d1 → decide ((1024 : Int) < (m : Int)) = d2 → decide (i < 0) = d3 → decide (200 < i) = d4 → decide (j < 0) = d5 → decide ((m : Int) < j) = d6 → (d1 || d2 || d3 || d4 || d5 || d6) = true →
    Calls Tryd.prog 5 #[.slice A n c, .int .i64 i, .slice B m d, .int .i64 j] w fun e w' => e = .returned (.bool true) ∧ Kp nob w w' := by
    intro d1 d2 d3 d4 d5 d6 e1 e2 e3 e4 e5 e6 hd
    go_enter Tryd.func5, Tryd.ntmps5
    go_wp2_with fail
    refine (alive_yes _ ht).mono ?_
    rintro e w1 ⟨rfl, k1⟩
    cases d1
    case' false =>
      cases d2
      case' false =>
        cases d3
        case' false =>
          cases d4
          case' false =>
            cases d5
            case' false =>
              cases d6
              case' false => exfalso; simp at hd; done
    all_goals
      clear hd
      go_wp2
      go_ret
      exact ⟨rfl, k1⟩
  refine fin _ _ _ _ _ _ rfl rfl rfl rfl rfl rfl ?_
  simp only [Bool.or_eq_true, decide_eq_true_eq]
  omega

set_option maxHeartbeats 2000000 in
theorem cuts_yes (A : Option Addr) (n c : Nat) (key : List UInt8) (x : Nat) (B : Option Addr) (m d : Nat) (pur : List UInt8) (i : Nat) (w : World) (ht : Tabs w)
    (hk : key.length = n) (hr : Row w A (bvs key)) (hc : n ≤ c) (hcm : c ≤ maxLen) (hb : pur.length = m) (hrb : Row w B (bvs pur)) (hd : m ≤ d) (hdm : d ≤ maxLen) (hn1 : n ≤ 1024) (hm1 : m ≤ 1024) (hx : x ≤ 200) (hi : i ≤ m) :
    Calls Tryd.prog 5 #[.slice A n c, .int .i64 (x : Int), .slice B m d, .int .i64 (i : Int)] w fun e w' => e = .returned (.bool true) ∧ Kp nob w w' := by
  have d1 : decide ((1024 : Int) < (n : Int)) = false := by simp; omega
  have d2 : decide ((1024 : Int) < (m : Int)) = false := by simp; omega
  have d3 : decide ((x : Int) < 0) = false := by simp
  have d4 : decide (200 < (x : Int)) = false := by simp; omega
  have d5 : decide ((i : Int) < 0) = false := by simp
  have d6 : decide ((m : Int) < (i : Int)) = false := by simp; omega
  have s1 := fun wx => slice_to B m d i (by omega) wx
  have s2 := fun wx => run_slice_from (P := Tryd.prog) _ _ u8s_under (fun _ => by kernel_rfl) B m d i hi wx
  have HCM := Lib.hid hcm; have HDM := Lib.hid hdm
  have HK := Lib.hid hk; have HB := Lib.hid hb
  obtain ⟨O, hO⟩ : ∃ O, O = expand key pur x := ⟨_, rfl⟩
  have HO := Lib.hid hO
  have L1 : Hid (O.length = x) := Lib.hid (by rw [hO, expand_length])
  have C1 : Hid (pur.take i ++ [] ++ pur.drop i = pur) := Lib.hid (by rw [List.append_nil, List.take_append_drop])
  have LT : Hid ((pur.take i).length = i) := Lib.hid (by rw [List.length_take, hb]; omega)
  have LD : Hid ((pur.drop i).length = m - i) := Lib.hid (by rw [List.length_drop, hb])
  clear hk hb hcm hdm hO
  go_enter Tryd.func5, Tryd.ntmps5
  go_wp2_with fail
  refine (alive_yes _ ht).mono ?_
  rintro e w1 ⟨rfl, k1⟩
  go_wp2_with fail
  refine (expand_one A n c key x ⟨B, m, d, pur⟩ w1 _ _ rfl (ht.keep0 k1) (by omega) HK.out (hr.keep0 k1) hc HCM.out (by omega) (Sha.pcs_one HB.out (hrb.keep0 k1) (.inr (fun _ _ e => e)) hd HDM.out) (by show pur.length ≤ _; rw [HB.out]; omega)).mono ?_
  rintro e w2 ⟨X, cX, rfl, hX, _, k2⟩
  rw [show expand key (Pc.l ⟨B, m, d, pur⟩) x = O from HO.out.symm] at hX
  have K2 := k1.trans k2 (fun _ e => e.elim)
  have HX := Lib.hid hX
  clear hX k2
  have kd : Kp nob w w2.drew := K2.drew
  have kd2 : Kp nob w2 w2.drew := (Kp.refl nob w2).drew
  have ka1 : ∀ o, Kp nob w (w2.alloc o).drew := fun o => (K2.alloc o).drew
  have ka2 : ∀ o, Kp nob w2 (w2.alloc o).drew := fun o => ((Kp.refl nob w2).alloc o).drew
  go_wp2
  go_region_held3 (fun w' => Kp nob w w' ∧ Kp nob w2 w')
    ((refine ⟨?_, ?_⟩ <;> first | assumption | exact ka1 _ | exact ka2 _))
    ((go_at_call 9
      refine (expand_three A n c key x ⟨B, i, d, pur.take i⟩ ⟨none, 0, 0, []⟩ ⟨cutA B d i, m - i, d - i, pur.drop i⟩ w2.drew _ _ (by simp) (ht.keep0 kd) (by omega) HK.out (hr.keep0 kd) hc HCM.out (by omega)
        (pcs_cons (Sha.pcs_one LT.out ((row_take hrb i).keep0 kd) (.inr (fun _ _ e => e)) (by show i ≤ d; omega) HDM.out) (pcs_cons (Sha.pcs_one rfl (Row.nil _ _) (.inl rfl) (Nat.le_refl _) (Nat.zero_le _)) (Sha.pcs_one LD.out ((row_cut hrb (by rw [HB.out]; exact hd)).keep0 kd) (.inr (fun _ _ e => e)) (by show m - i ≤ d - i; omega) (Nat.le_trans (Nat.sub_le _ _) HDM.out))))
        (by show (pur.take i ++ [] ++ pur.drop i).length ≤ _; rw [C1.out, HB.out]; omega)).mono ?_
      rintro e w3 ⟨Y, cY, rfl, hY, _, k3⟩
      rw [show Pc.l ⟨B, i, d, pur.take i⟩ ++ Pc.l ⟨none, 0, 0, []⟩ ++ Pc.l ⟨cutA B d i, m - i, d - i, pur.drop i⟩ = pur from C1.out, ← HO.out] at hY
      have K3 := kd.trans k3 (fun _ e => e.elim)
      have K23 := kd2.trans k3 (fun _ e => e.elim)))
  have q1 := conv_row w3 X x cX O L1.out (HX.out.row.keep0 K23)
  have q2 := conv_row w3 Y x cY O L1.out hY.row
  clear s1 s2
  go_wp2
  go_ret
  exact ⟨rfl, K3⟩

theorem cuts_walk (A : Option Addr) (n c : Nat) (key : List UInt8) (i : Int) (B : Option Addr) (m d : Nat) (pur : List UInt8) (j : Int) (w : World) (ht : Tabs w)
    (hk : key.length = n) (_ : A = none → c = 0) (hr : Row w A (bvs key)) (hc : n ≤ c) (hcm : c ≤ maxLen) (_ : (Lit.int .i64 i).wf = true) (hb : pur.length = m) (_ : B = none → d = 0) (hrb : Row w B (bvs pur)) (hd : m ≤ d) (hdm : d ≤ maxLen) (_ : (Lit.int .i64 j).wf = true) :
    Calls Tryd.prog 5 #[.slice A n c, .int .i64 i, .slice B m d, .int .i64 j] w fun e w' => e = .returned (.bool true) ∧ Kp nob w w' := by
  by_cases h : 1024 < n ∨ 1024 < m ∨ i < 0 ∨ 200 < i ∨ j < 0 ∨ (m : Int) < j
  · exact cuts_no A n c i B m d j w ht (by omega) (by omega) h
  · obtain ⟨x, rfl⟩ : ∃ x : Nat, i = x := ⟨i.toNat, by omega⟩
    obtain ⟨y, rfl⟩ : ∃ y : Nat, j = y := ⟨j.toNat, by omega⟩
    exact cuts_yes A n c key x B m d pur y w ht hk hr hc hcm hb hrb hd hdm (by omega) (by omega) (by omega) (by omega)
end Go.Proofs.YtnpidcehioljaaaDoor.Kdf
