/- KdfKeeps: what is handed in stays; what is answered is new memory. -/
import Derived.Test.YtnpidcehioljaaaDoorKdfG
namespace Go.Proofs.YtnpidcehioljaaaDoor.Kdf
open Go Go.RowKit Kit
open Sha (Tabs Far Has Pc PcsOk catP u8s_under arr32b u8s_info row_marked u8_string conv_row slice_to)
open Hmac (mac mac_length ik ik_length MacIs)

set_option maxHeartbeats 1000000 in
theorem keeps_long (A : Option Addr) (n c : Nat) (B : Option Addr) (m d : Nat) (w : World) (ht : Tabs w) (hn : n ≤ maxLen) (hm : m ≤ maxLen) (h : 1024 < n ∨ 1024 < m) :
    Calls Tryd.prog 6 #[.slice A n c, .slice B m d] w fun e w' => e = .returned (.bool true) ∧ Kp nob w w' := by
  unfold maxLen at hm hn
  by_cases h1 : 1024 < n
  · have d1 : decide ((1024 : Int) < (n : Int)) = true := by simp; omega
    go_enter Tryd.func6, Tryd.ntmps6
    go_wp2_with fail
    refine (alive_yes _ ht).mono ?_
    rintro e w1 ⟨rfl, k1⟩
    go_wp2
    go_ret
    exact ⟨rfl, k1⟩
  · have d1 : decide ((1024 : Int) < (n : Int)) = false := by simp; omega
    have d2 : decide ((1024 : Int) < (m : Int)) = true := by simp; omega
    go_enter Tryd.func6, Tryd.ntmps6
    go_wp2_with fail
    refine (alive_yes _ ht).mono ?_
    rintro e w1 ⟨rfl, k1⟩
    go_wp2
    go_ret
    exact ⟨rfl, k1⟩

/-- A copy of a row, made by append onto an empty one. -/
theorem own_empty (w : World) : Own 5 (w.alloc (.cells #[] 5)) (some ⟨w.heap.size, 0, none⟩) 0 0 [] := World.ownsRow_made w #[] 0 (Nat.zero_le _) (by simp [maxLen]) rfl

set_option maxHeartbeats 2000000 in
theorem keeps_short (A : Option Addr) (n c : Nat) (key : List UInt8) (B : Option Addr) (m d : Nat) (bl : List UInt8) (w : World) (ht : Tabs w) (hk : key.length = n) (hA : A = none → c = 0) (hr : Row w A (bvs key)) (hb : bl.length = m) (hB : B = none → d = 0) (hrb : Row w B (bvs bl)) (hn : n ≤ 1024) (hm : m ≤ 1024) :
    Calls Tryd.prog 6 #[.slice A n c, .slice B m d] w fun e w' => e = .returned (.bool true) ∧ Kp nob w w' := by
  obtain ⟨i0, hi, hz0, hz1, hz2⟩ := info_parts u8s_info
  have d1 : decide ((1024 : Int) < (n : Int)) = false := by simp; omega
  have d2 : decide ((1024 : Int) < (m : Int)) = false := by simp; omega
  have HK := Lib.hid hk; have HB := Lib.hid hb
  have HKL : Hid ((bvs key).length = n) := Lib.hid (by rw [bvs_length, hk])
  have HBL : Hid ((bvs bl).length = m) := Lib.hid (by rw [bvs_length, hb])
  obtain ⟨O, hO⟩ : ∃ O, O = expand key bl 40 := ⟨_, rfl⟩
  have HO := Lib.hid hO
  have L1 : Hid (O.length = 40) := Lib.hid (by rw [hO, expand_length])
  clear hk hb hO
  go_enter Tryd.func6, Tryd.ntmps6
  go_wp2_with fail
  refine (alive_yes _ ht).mono ?_
  rintro e w1 ⟨rfl, s1⟩
  go_wp2_with (first
    | (at_builtin
       refine wpList_appR _ rfl (.tmp 24) (.tmp 25) 22 rfl 5 i0 (.int .u8 0) 1 u8s_under hi hz0 hz1 hz2 rfl _ 0 0 [] rfl (own_empty w1) A n c (bvs key) rfl hA HKL.out ((hr.keep0 s1).alloc _) (bvs_one key) (by omega) (by omega) ?_
       intro M cM w2 hM hgM habM
       have s2 : Kp nob w w2 := (s1.alloc _).grown hgM (fun k e => .inr (by cases e; exact s1.size))
       have HM : Hid (Own 5 w2 M n cM (bvs key)) := Lib.hid (by simpa using hM)
       have ltM := hM.lt
       clear hgM habM hM)
    | (at_builtin
       refine wpList_appR _ rfl (.tmp 27) (.tmp 28) 22 rfl 5 i0 (.int .u8 0) 1 u8s_under hi hz0 hz1 hz2 rfl _ 0 0 [] rfl (own_empty w2) B m d (bvs bl) rfl hB HBL.out ((hrb.keep0 s2).alloc _) (bvs_one bl) (by omega) (by omega) ?_
       intro X cX w3 hX hgX habX
       have k3 : Kp nob w2 w3 := ((Kp.refl nob w2).alloc _).grown hgX (fun k e => .inr (by cases e; exact Nat.le_refl _))
       have s3 : Kp nob w w3 := s2.trans k3 (fun _ e => e.elim)
       have HX : Hid (Own 5 w3 X m cX (bvs bl)) := Lib.hid (by simpa using hX)
       have HM3 : Hid (Own 5 w3 M n cM (bvs key)) := Lib.hid (HM.out.keep k3 (fun _ _ e => e))
       have ltX := hX.lt
       clear hgX habX hX))
  have cpM := HM3.out.cap; have cpX := HX.out.cap
  refine (expand_one M n cM key 40 ⟨X, m, cX, bl⟩ w3 _ _ rfl (ht.keep0 s3) (by omega) HK.out HM3.out.row cpM.1 cpM.2 (by omega) (Sha.pcs_one HB.out HX.out.row (.inr (fun _ _ e => e)) cpX.1 cpX.2) (by show bl.length ≤ _; rw [HB.out]; omega)).mono ?_
  rintro e w4 ⟨R, cR, rfl, hR, gR, k4⟩
  rw [show expand key (Pc.l ⟨X, m, cX, bl⟩) 40 = O from HO.out.symm] at hR
  have s4 := s3.trans k4 (fun _ e => e.elim)
  have M4 := Lib.hid (HM3.out.keep k4 (fun _ _ e => e)); have X4 := Lib.hid (HX.out.keep k4 (fun _ _ e => e))
  have HR := Lib.hid hR
  have ltR := hR.lt
  have z3 := k3.size; have z4 := k4.size; have z0 := s3.size
  clear k4 hR HM3 HX HM
  go_wp2_with fail
  refine (expand_one M n cM key 40 ⟨X, m, cX, bl⟩ w4 _ _ rfl (ht.keep0 s4) (by omega) HK.out M4.out.row cpM.1 cpM.2 (by omega) (Sha.pcs_one HB.out X4.out.row (.inr (fun _ _ e => e)) cpX.1 cpX.2) (by show bl.length ≤ _; rw [HB.out]; omega)).mono ?_
  rintro e w5 ⟨Y, cY, rfl, hY, gY, k5⟩
  rw [show expand key (Pc.l ⟨X, m, cX, bl⟩) 40 = O from HO.out.symm] at hY
  have s5 := s4.trans k5 (fun _ e => e.elim)
  have M5 := Lib.hid (M4.out.keep k5 (fun _ _ e => e)); have X5 := Lib.hid (X4.out.keep k5 (fun _ _ e => e))
  have R5 := Lib.hid (HR.out.keep k5 (fun _ _ e => e))
  have HY := Lib.hid hY
  clear k5 hY M4 X4 HR
  go_wp2
  go_loopw [46] (fun i wr => ∃ (k : Nat) (lm : List UInt8), k ≤ 40 ∧ i = .int .i64 k ∧ Own 5 wr R 40 cR (bvs lm) ∧ Kp (rowF R) w5 wr)
    (fun i _ => 40 - (intOf i).toNat)
  case atStart => exact ⟨0, O, Nat.zero_le _, rfl, R5.out, Kp.refl _ _⟩
  case round =>
    obtain ⟨k, lm, hk, rfl, oM, kr⟩ := hrel
    by_cases hlt : k < 40
    · obtain ⟨bm, rfl, hbm, hcm, hfm, hsm⟩ := oM.at_ hlt
      have hml : lm.length = 40 := by simpa using oM.len
      obtain ⟨xm, hxm⟩ : ∃ x, x = lm[k]'(by omega) := ⟨_, rfl⟩
      have hcm' : wr.cell? ⟨bm, k, none⟩ = some (.int .u8 xm.toNat) := by rw [hcm, hxm]; simp [bvs, bv]
      have hb1 := xm.toNat_lt
      clear hcm hxm hml
      go_wp2
      go_roundw
      case rel =>
        refine ⟨k + 1, lm.set k (UInt8.ofNat (xm.toNat + 1)), by omega, by go_num, ?_, ?_⟩
        · rw [← bvs_set]
          exact oM.set k _
        · exact kr.setCell (p := ⟨bm, k, none⟩) (.inl rfl) _
      case measure => simp [intOf]; omega
    · have s6 := s5.since kr (fun k e => by have := gR k e; omega)
      have M6 := Lib.hid (M5.out.keep kr (fun k e e' => by have h1 := gR k e'; have h2 := ltM k e; omega))
      have X6 := Lib.hid (X5.out.keep kr (fun k e e' => by have h1 := gR k e'; have h2 := ltX k e; omega))
      have Y6 := Lib.hid (HY.out.keep kr (fun k e e' => by have h1 := gY k e; have h2 := ltR k e'; omega))
      clear oM kr M5 X5 HY R5
      go_wp2_with fail
      refine (expand_one M n cM key 40 ⟨X, m, cX, bl⟩ wr _ _ rfl (ht.keep0 s6) (by omega) HK.out M6.out.row cpM.1 cpM.2 (by omega) (Sha.pcs_one HB.out X6.out.row (.inr (fun _ _ e => e)) cpX.1 cpX.2) (by show bl.length ≤ _; rw [HB.out]; omega)).mono ?_
      rintro e w7 ⟨Z, cZ, rfl, hZ, _, k7⟩
      rw [show expand key (Pc.l ⟨X, m, cX, bl⟩) 40 = O from HO.out.symm] at hZ
      have s7 := s6.trans k7 (fun _ e => e.elim)
      have q1 := conv_row w7 M n cM key HK.out (M6.out.row.keep0 k7)
      have q2 := conv_row w7 A n c key HK.out (hr.keep0 s7)
      have q3 := conv_row w7 X m cX bl HB.out (X6.out.row.keep0 k7)
      have q4 := conv_row w7 B m d bl HB.out (hrb.keep0 s7)
      have q5 := conv_row w7 Y 40 cY O L1.out (Y6.out.row.keep0 k7)
      have q6 := conv_row w7 Z 40 cZ O L1.out hZ.row
      clear hZ k7
      go_wp2
      go_ret
      exact ⟨rfl, s7⟩

theorem keeps_walk (A : Option Addr) (n c : Nat) (key : List UInt8) (B : Option Addr) (m d : Nat) (bl : List UInt8) (w : World) (ht : Tabs w) (hk : key.length = n) (hA : A = none → c = 0) (hr : Row w A (bvs key)) (hc : n ≤ c) (hcm : c ≤ maxLen)
    (hb : bl.length = m) (hB : B = none → d = 0) (hrb : Row w B (bvs bl)) (hd : m ≤ d) (hdm : d ≤ maxLen) :
    Calls Tryd.prog 6 #[.slice A n c, .slice B m d] w fun e w' => e = .returned (.bool true) ∧ Kp nob w w' := by
  by_cases h : 1024 < n ∨ 1024 < m
  · exact keeps_long A n c B m d w ht (by omega) (by omega) h
  · exact keeps_short A n c key B m d bl w ht hk hA hr hb hB hrb (by omega) (by omega)
end Go.Proofs.YtnpidcehioljaaaDoor.Kdf
