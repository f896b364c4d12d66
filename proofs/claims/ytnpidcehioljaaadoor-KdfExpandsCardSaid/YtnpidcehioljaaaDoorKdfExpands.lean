/- KdfExpands: Extract, Expand and Derive answer what the document says, of all bytes and numbers. -/
import Derived.Test.YtnpidcehioljaaaDoorKdfL
namespace Go.Proofs.YtnpidcehioljaaaDoor.Kdf
open Go Go.RowKit Kit
open Sha (Tabs Far Has Pc PcsOk catP u8s_under arr32b u8s_info row_marked u8_string conv_row)
open Hmac (mac mac_length ik ik_length MacIs)

set_option maxHeartbeats 2000000 in
theorem expands_any (A : Option Addr) (n c : Nat) (salt : List UInt8) (B : Option Addr) (m d : Nat) (sec : List UInt8) (N : Int) (G : Option Addr) (u v : Nat) (ps : List Pc) (w : World) (ht : Tabs w)
    (hk : salt.length = n) (hr : Row w A (bvs salt)) (hc : n ≤ c) (hcm : c ≤ maxLen) (hb : sec.length = m) (hrb : Row w B (bvs sec)) (hd : m ≤ d) (hdm : d ≤ maxLen)
    (hps : ps.length = u) (hrp : Row w G (ps.map Pc.v)) (huu : u ≤ maxLen) (hp : PcsOk w nob ps) (hn : ∀ p ∈ ps, p.n ≤ 140737488355328) :
    Calls Tryd.prog 3 #[.slice A n c, .slice B m d, .int .i64 N, .slice G u v] w fun e w' => e = .returned (.bool true) ∧ Kp nob w w' := by
  unfold maxLen at huu
  have hcm2 : c ≤ 9223372036854775807 := hcm
  have hdm2 : d ≤ 9223372036854775807 := hdm
  have HCM := Lib.hid hcm; have HDM := Lib.hid hdm
  have HK := Lib.hid hk; have HB := Lib.hid hb; have HPS := Lib.hid hps
  clear hk hb hps hcm hdm
  go_enter Tryd.func3, Tryd.ntmps3
  go_wp2_with fail
  refine (alive_yes _ ht).mono ?_
  rintro e w1 ⟨rfl, k1⟩
  go_wp2_with fail
  refine (joined_any G u v ps w1 HPS.out (hrp.keep0 k1) (by unfold maxLen; omega) (hp.keep0 k1) hn).mono ?_
  rintro e w' ⟨⟨b, s, rfl, hj⟩, rfl⟩
  cases b with
  | false =>
    clear hj
    go_wp2
    go_ret
    exact ⟨rfl, k1⟩
  | true =>
    obtain ⟨hs, hsl, hu⟩ := hj rfl
    have HS := Lib.hid hs
    clear hj hs
    by_cases hn1 : n ≤ 1024
    · by_cases hm1 : m ≤ 1024
      · obtain ⟨O1, hO1⟩ : ∃ O, O = out sec s N := ⟨_, rfl⟩
        obtain ⟨O2, hO2⟩ : ∃ O, O = out (mac salt sec) s N := ⟨_, rfl⟩
        obtain ⟨E, hE⟩ : ∃ E, E = err N := ⟨_, rfl⟩
        have HO1 := Lib.hid hO1; have HO2 := Lib.hid hO2; have HE := Lib.hid hE
        clear hO1 hO2 hE
        go_wp2_with fail
        refine (expand_any B m d sec N G u v ps w1 (ht.keep0 k1) HB.out (hrb.keep0 k1) hd HDM.out (by omega) HPS.out (hrp.keep0 k1) (hp.keep0 k1) (by omega) (by rw [← HS.out]; omega)).mono ?_
        rintro e w2 ⟨⟨X, lX, cX, rfl, hX1, hX2⟩, k2⟩
        rw [← HS.out, ← HO1.out] at hX1 hX2
        rw [← HE.out]
        have K2 := k1.trans k2 (fun _ e => e.elim)
        have q1 := conv_row w2 B m d sec HB.out (hrb.keep0 K2)
        have HX1 := Lib.hid hX1; have HX2 := Lib.hid hX2
        clear hX1 hX2 k2
        go_wp2_with fail
        refine (fexpand_any sec s N w2 (by rw [HB.out]; omega) (by omega)).mono ?_
        rintro e w3 ⟨rfl, k3⟩
        rw [← HO1.out, ← HE.out]
        have K3 := K2.trans k3 (fun _ e => e.elim)
        have HX3 := Lib.hid (HX2.out.keep0 k3)
        clear q1 k3 HX2
        go_wp2_with fail
        refine (derive_any A n c salt B m d sec N G u v ps w3 (ht.keep0 K3) HK.out (hr.keep0 K3) hc HCM.out (by omega) HB.out (hrb.keep0 K3) hd HDM.out (by omega) HPS.out (hrp.keep0 K3) (hp.keep0 K3) (by omega) (by rw [← HS.out]; omega)).mono ?_
        rintro e w4 ⟨⟨Z, lZ, cZ, rfl, hZ1, hZ2⟩, k4⟩
        rw [← HS.out, ← HO2.out] at hZ1 hZ2
        rw [← HE.out]
        have K4 := K3.trans k4 (fun _ e => e.elim)
        have HX4 := Lib.hid (HX3.out.keep0 k4)
        have q1 := conv_row w4 A n c salt HK.out (hr.keep0 K4)
        have q2 := conv_row w4 B m d sec HB.out (hrb.keep0 K4)
        have HZ1 := Lib.hid hZ1; have HZ4 := Lib.hid hZ2
        clear hZ1 hZ2 k4 HX3
        go_wp2_with fail
        refine (fderive_any salt sec s N w4 (by rw [HK.out]; omega) (by rw [HB.out]; omega) (by omega)).mono ?_
        rintro e w5 ⟨rfl, k5⟩
        rw [← HO2.out, ← HE.out]
        have K5 := K4.trans k5 (fun _ e => e.elim)
        have HX5 := Lib.hid (HX4.out.keep0 k5)
        have HZ5 := Lib.hid (HZ4.out.keep0 k5)
        clear q1 q2 k5 HX4 HZ4
        have hq := Hmac.eq_same salt sec
        have kd : Kp nob w w5.drew := K5.drew
        have kd5 : Kp nob w5 w5.drew := (Kp.refl nob w5).drew
        have q1 := conv_row w5.drew A n c salt HK.out (hr.keep0 kd)
        have q2 := conv_row w5.drew B m d sec HB.out (hrb.keep0 kd)
        have q3 := conv_row w5.drew X lX cX O1 HX1.out (HX5.out.keep0 kd5)
        have q4 := conv_row w5.drew Z lZ cZ O2 HZ1.out (HZ5.out.keep0 kd5)
        go_wp2
        go_region_held3 (fun w' => (convert 22 9 (.slice A n c)).run Tryd.prog w' = .ok (.string (str salt)) w' ∧ (convert 22 9 (.slice B m d)).run Tryd.prog w' = .ok (.string (str sec)) w' ∧ (convert 22 9 (.slice X lX cX)).run Tryd.prog w' = .ok (.string (str O1)) w' ∧ (convert 22 9 (.slice Z lZ cZ)).run Tryd.prog w' = .ok (.string (str O2)) w' ∧ Kp nob w w' ∧ Kp nob w5 w')
          ((refine ⟨?_, ?_, ?_, ?_, ?_, ?_⟩ <;> first | assumption))
          (first
            | (go_at_call 13
               obtain ⟨_, _, _, _, ka, kb⟩ := ‹_ ∧ _ ∧ _ ∧ _ ∧ Kp nob w _ ∧ Kp nob w5 _›
               refine (extract_any A n c salt B m d sec _ (ht.keep0 ka) HK.out (hr.keep0 ka) hc HCM.out (by omega) HB.out (hrb.keep0 ka) hd HDM.out (by omega)).mono ?_
               rintro e w8 ⟨rfl, k8⟩
               have KK : Kp nob w w8 := ka.trans k8 (fun _ e => e.elim)
               have KL : Kp nob w5 w8 := kb.trans k8 (fun _ e => e.elim)
               have p1 := conv_row w8 A n c salt HK.out (hr.keep0 KK)
               have p2 := conv_row w8 B m d sec HB.out (hrb.keep0 KK)
               have p3 := conv_row w8 X lX cX O1 HX1.out (HX5.out.keep0 KL)
               have p4 := conv_row w8 Z lZ cZ O2 HZ1.out (HZ5.out.keep0 KL))
            | (go_at_call 14
               obtain ⟨_, _, _, _, ka, kb⟩ := ‹_ ∧ _ ∧ _ ∧ _ ∧ Kp nob w _ ∧ Kp nob w5 _›
               refine (Hmac.fMac (str salt) (str sec) _ (by rw [str_size, HK.out]; omega) (by rw [str_size, HB.out]; omega)).mono ?_
               rintro e w8 ⟨rfl, k8⟩
               rw [sl_str, sl_str]
               have KK : Kp nob w w8 := ka.trans k8 (fun _ e => e.elim)
               have KL : Kp nob w5 w8 := kb.trans k8 (fun _ e => e.elim)
               have p1 := conv_row w8 A n c salt HK.out (hr.keep0 KK)
               have p2 := conv_row w8 B m d sec HB.out (hrb.keep0 KK)
               have p3 := conv_row w8 X lX cX O1 HX1.out (HX5.out.keep0 KL)
               have p4 := conv_row w8 Z lZ cZ O2 HZ1.out (HZ5.out.keep0 KL)))
        all_goals
          go_wp2
          go_ret
          exact ⟨rfl, KK⟩
      · go_wp2
        go_ret
        exact ⟨rfl, k1⟩
    · go_wp2
      go_ret
      exact ⟨rfl, k1⟩

theorem expands_walk (A : Option Addr) (n c : Nat) (salt : List UInt8) (B : Option Addr) (m d : Nat) (sec : List UInt8) (N : Int) (G : Option Addr) (u v : Nat) (ps : List Pc) (w : World) (ht : Tabs w)
    (hk : salt.length = n) (_ : A = none → c = 0) (hr : Row w A (bvs salt)) (hc : n ≤ c) (hcm : c ≤ maxLen) (hb : sec.length = m) (_ : B = none → d = 0) (hrb : Row w B (bvs sec)) (hd : m ≤ d) (hdm : d ≤ maxLen) (_ : (Lit.int .i64 N).wf = true)
    (hps : ps.length = u) (hrp : Row w G (ps.map Pc.v)) (huu : u ≤ maxLen) (hp : PcsOk w nob ps) (_ : ∀ p ∈ ps, p.A = none → p.c = 0) (hn : ∀ p ∈ ps, p.n ≤ 140737488355328) :
    Calls Tryd.prog 3 #[.slice A n c, .slice B m d, .int .i64 N, .slice G u v] w fun e w' => e = .returned (.bool true) ∧ Kp nob w w' :=
  expands_any A n c salt B m d sec N G u v ps w ht hk hr hc hcm hb hrb hd hdm hps hrp huu hp hn
end Go.Proofs.YtnpidcehioljaaaDoor.Kdf
