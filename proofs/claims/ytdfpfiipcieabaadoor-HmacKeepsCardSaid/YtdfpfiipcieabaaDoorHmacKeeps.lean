/- HmacKeeps: what is handed in stays, and isn't kept: the keyed digest's state is its own. -/
import Derived.Test.YtdfpfiipcieabaaDoorHmacL
namespace Go.Proofs.YtdfpfiipcieabaaDoor.Hmac
open Go Go.RowKit Kit
open Sha (Tabs Far Has Pc PcsOk catP u8s_under arr32b u8s_info own_new own_one own_none u8_string row_marked eq32 conv_row)

set_option maxHeartbeats 1000000 in
theorem keeps_long (A : Option Addr) (n c : Nat) (B : Option Addr) (m d : Nat) (w : World) (ht : Tabs w) (hn : n ≤ maxLen) (hm : m ≤ maxLen) (h : 2048 < n ∨ 2048 < m) :
    Calls Tryd.prog 7 #[.slice A n c, .slice B m d] w fun e w' => e = .returned (.bool true) ∧ Kp nob w w' := by
  unfold maxLen at hm hn
  by_cases h1 : 2048 < n
  · have d1 : decide ((2048 : Int) < (n : Int)) = true := by simp; omega
    go_enter Tryd.func7, Tryd.ntmps7
    go_wp2_with fail
    refine (alive_yes _ ht).mono ?_
    rintro e w1 ⟨rfl, k1⟩
    go_wp2
    go_ret
    exact ⟨rfl, k1⟩
  · have d1 : decide ((2048 : Int) < (n : Int)) = false := by simp; omega
    have d2 : decide ((2048 : Int) < (m : Int)) = true := by simp; omega
    go_enter Tryd.func7, Tryd.ntmps7
    go_wp2_with fail
    refine (alive_yes _ ht).mono ?_
    rintro e w1 ⟨rfl, k1⟩
    go_wp2
    go_ret
    exact ⟨rfl, k1⟩

/-- A copy of a row, made by append onto an empty one. -/
theorem own_empty (w : World) : Own 5 (w.alloc (.cells #[] 5)) (some ⟨w.heap.size, 0, none⟩) 0 0 [] := World.ownsRow_made w #[] 0 (Nat.zero_le _) (by simp [maxLen]) rfl

set_option maxHeartbeats 2000000 in
theorem keeps_short (A : Option Addr) (n c : Nat) (key : List UInt8) (B : Option Addr) (m d : Nat) (bl : List UInt8) (w : World) (ht : Tabs w) (hk : key.length = n) (hA : A = none → c = 0) (hr : Row w A (bvs key)) (hb : bl.length = m) (hB : B = none → d = 0) (hrb : Row w B (bvs bl)) (hn : n ≤ 2048) (hm : m ≤ 2048) :
    Calls Tryd.prog 7 #[.slice A n c, .slice B m d] w fun e w' => e = .returned (.bool true) ∧ Kp nob w w' := by
  obtain ⟨i0, hi, hz0, hz1, hz2⟩ := info_parts u8s_info
  have d1 : decide ((2048 : Int) < (n : Int)) = false := by simp; omega
  have d2 : decide ((2048 : Int) < (m : Int)) = false := by simp; omega
  have HK := Lib.hid hk; have HB := Lib.hid hb
  have HKL : Hid ((bvs key).length = n) := Lib.hid (by rw [bvs_length, hk])
  have HBL : Hid ((bvs bl).length = m) := Lib.hid (by rw [bvs_length, hb])
  clear hk hb
  go_enter Tryd.func7, Tryd.ntmps7
  go_wp2_with fail
  refine (alive_yes _ ht).mono ?_
  rintro e w1 ⟨rfl, s1⟩
  go_wp2_with (first
    | (at_builtin
       refine wpList_appR _ rfl (.tmp 20) (.tmp 21) 22 rfl 5 i0 (.int .u8 0) 1 u8s_under hi hz0 hz1 hz2 rfl _ 0 0 [] rfl (own_empty w1) A n c (bvs key) rfl hA HKL.out ((hr.keep0 s1).alloc _) (bvs_one key) (by omega) (by omega) ?_
       intro M cM w2 hM hgM habM
       have s2 : Kp nob w w2 := (s1.alloc _).grown hgM (fun k e => .inr (by cases e; exact s1.size))
       have nM : ∀ k, ab M = some k → w.heap.size ≤ k := fun k e => by
         rcases habM with h | h <;> rw [h] at e <;> cases e
         · exact s1.size
         · have := s1.size; simp; omega
       have HM : Hid (Own 5 w2 M n cM (bvs key)) := Lib.hid (by simpa using hM)
       have ltM := hM.lt
       clear hgM habM hM)
    | (at_builtin
       refine wpList_appR _ rfl (.tmp 23) (.tmp 24) 22 rfl 5 i0 (.int .u8 0) 1 u8s_under hi hz0 hz1 hz2 rfl _ 0 0 [] rfl (own_empty w2) B m d (bvs bl) rfl hB HBL.out ((hrb.keep0 s2).alloc _) (bvs_one bl) (by omega) (by omega) ?_
       intro X cX w3 hX hgX habX
       have k3 : Kp nob w2 w3 := ((Kp.refl nob w2).alloc _).grown hgX (fun k e => .inr (by cases e; exact Nat.le_refl _))
       have s3 : Kp nob w w3 := s2.trans k3 (fun _ e => e.elim)
       have nX : ∀ k, ab X = some k → w2.heap.size ≤ k := fun k e => by
         rcases habX with h | h <;> rw [h] at e <;> cases e
         · exact Nat.le_refl _
         · simp
       have HX : Hid (Own 5 w3 X m cX (bvs bl)) := Lib.hid (by simpa using hX)
       have HM3 : Hid (Own 5 w3 M n cM (bvs key)) := Lib.hid (HM.out.keep k3 (fun _ _ e => e))
       have ltX := hX.lt
       clear hgX habX hX))
  have cpM := HM3.out.cap; have cpX := HX.out.cap
  refine (new_any M n cM key w3 (ht.keep0 s3) HK.out HM3.out.row cpM.1 cpM.2 (by omega)).mono ?_
  rintro e w4 ⟨b, h, rfl, hMac, hH, k4, nb, nh⟩
  have s4 := s3.trans k4 (fun _ e => e.elim)
  have M4 := Lib.hid (HM3.out.keep k4 (fun _ _ e => e)); have X4 := Lib.hid (HX.out.keep k4 (fun _ _ e => e))
  have hc0 := hMac.hash
  have fX : ∀ k, ab X = some k → k ≠ h ∧ k ≠ b := fun k e => by have := ltX k e; omega
  have fM : ∀ k, ab M = some k → k ≠ h ∧ k ≠ b := fun k e => by have := ltM k e; have := k3.size; omega
  have sw3 := s3.size
  go_wp2_with fail
  refine (Sha.write_one h (ik key) ⟨X, m, cX, bl⟩ w4 _ _ rfl hH (ht.keep0 s4) hMac.far (Sha.pcs_one HB.out X4.out.row (.inr (fun k e => (fX k e).1)) cpX.1 cpX.2) (by show (ik key).length + bl.length ≤ _; rw [ik_length, HB.out]; omega)).mono ?_
  rintro e w5 ⟨rfl, hH5, k5⟩
  have s5 := s4.since k5 (fun k e => by unfold oneB at e; omega)
  have M5 := Lib.hid (M4.out.keep k5 (fun k e e' => (fM k e).1 e')); have X5 := Lib.hid (X4.out.keep k5 (fun k e e' => (fX k e).1 e'))
  have hMac5 := hMac.keep k5 (fun e => hMac.ne e.symm)
  have q1 := conv_row w5 M n cM key HK.out M5.out.row
  have q2 := conv_row w5 A n c key HK.out (hr.keep0 s5)
  have q3 := conv_row w5 X m cX bl HB.out X5.out.row
  have q4 := conv_row w5 B m d bl HB.out (hrb.keep0 s5)
  have gX : ∀ k, ab X = some k → w.heap.size ≤ k := fun k e => by have := nX k e; have := s2.size; omega
  have XM : ∀ k, ab M = some k → ab X ≠ some k := fun k e e' => by have := nX k e'; have := ltM k e; omega
  clear k3 k4 k5 hc0
  go_wp2
  go_loopw [49] (fun i wr => ∃ (k : Nat) (lm : List UInt8), k ≤ n ∧ i = .int .i64 k ∧ Own 5 wr M n cM (bvs lm) ∧ Kp (rowF M) w5 wr)
    (fun i _ => n - (intOf i).toNat)
  case atStart => exact ⟨0, key, Nat.zero_le _, rfl, M5.out, Kp.refl _ _⟩
  case round =>
    obtain ⟨k, lm, hk, rfl, oM, kr⟩ := hrel
    clear q1 q2 q3 q4
    by_cases hlt : k < n
    · obtain ⟨bm, rfl, hbm, hcm, hfm, hsm⟩ := oM.at_ hlt
      have hml : lm.length = n := by simpa using oM.len
      obtain ⟨xm, hxm⟩ : ∃ x, x = lm[k]'(by omega) := ⟨_, rfl⟩
      have hcm' : wr.cell? ⟨bm, k, none⟩ = some (.int .u8 xm.toNat) := by rw [hcm, hxm]; simp [bvs, bv]
      have hb1 := xm.toNat_lt
      clear hcm hxm hml
      go_wp2
      go_roundw
      case rel =>
        refine ⟨k + 1, lm.set k (UInt8.ofNat (xm.toNat + 1)), by omega, by go_num, ?_, ?_⟩
        · rw [← bvs_set]
          exact oM.set k _
        · exact kr.setCell (p := ⟨bm, k, none⟩) (.inl rfl) _
      case measure => simp [intOf]; omega
    · have hMac6 := hMac5.keep kr (fun e => (fM _ e).2 rfl)
      have hH6 := hH5.keep kr (fun e => (fM _ e).1 rfl)
      have s6 := s5.since kr (fun k e => nM k e)
      have X6 := Lib.hid (X5.out.keep kr (fun k e e' => XM k e' e))
      clear hMac5 hH5 M5 X5 oM hMac hH M4 X4
      go_wp2
      go_loopw [61] (fun i wq => ∃ (k : Nat) (lx : List UInt8), k ≤ m ∧ i = .int .i64 k ∧ Own 5 wq X m cX (bvs lx) ∧ Kp (rowF X) wr wq)
        (fun i _ => m - (intOf i).toNat)
      case atStart => exact ⟨0, bl, Nat.zero_le _, rfl, X6.out, Kp.refl _ _⟩
      case round =>
        obtain ⟨k2, lx, hk2, rfl, oX, kq⟩ := hrel
        by_cases hlt2 : k2 < m
        · obtain ⟨bx, rfl, hbx, hcx, hfx, hsx⟩ := oX.at_ hlt2
          have hxl : lx.length = m := by simpa using oX.len
          obtain ⟨xx, hxx⟩ : ∃ x, x = lx[k2]'(by omega) := ⟨_, rfl⟩
          have hcx' : wr.cell? ⟨bx, k2, none⟩ = some (.int .u8 xx.toNat) := by rw [hcx, hxx]; simp [bvs, bv]
          have hb2 := xx.toNat_lt
          clear hcx hxx hxl
          go_wp2
          go_roundw
          case rel =>
            refine ⟨k2 + 1, lx.set k2 (UInt8.ofNat (xx.toNat + 1)), by omega, by go_num, ?_, ?_⟩
            · rw [← bvs_set]
              exact oX.set k2 _
            · exact kq.setCell (p := ⟨bx, k2, none⟩) (.inl rfl) _
          case measure => simp [intOf]; omega
        · have hMac7 := hMac6.keep kq (fun e => (fX _ e).2 rfl)
          have hH7 := hH6.keep kq (fun e => (fX _ e).1 rfl)
          have s7 := s6.since kq (fun k e => gX k e)
          have hq := eq_same key bl
          have kd : Kp nob w wr.drew := s7.drew
          have kd2 : Kp nob wr wr.drew := (Kp.refl nob wr).drew
          have q2 := conv_row wr.drew A n c key HK.out (hr.keep0 kd)
          have q4 := conv_row wr.drew B m d bl HB.out (hrb.keep0 kd)
          clear hMac6 hH6 X6 oX
          go_wp2
          go_region_held3 (fun w' => (convert 22 9 (.slice A n c)).run Tryd.prog w' = .ok (.string (str key)) w' ∧ (convert 22 9 (.slice B m d)).run Tryd.prog w' = .ok (.string (str bl)) w' ∧ Kp nob w w' ∧ Kp nob wr w')
            ((refine ⟨?_, ?_, ?_, ?_⟩ <;> first | assumption))
            (first
              | (go_at_call 14
                 obtain ⟨_, _, ka, kb⟩ := ‹_ ∧ _ ∧ Kp nob w _ ∧ Kp nob wr _›
                 refine (sum_any b h key bl _ (hMac7.keep kb (fun e => e)) (hH7.keep kb (fun e => e)) (ht.keep0 ka) (by rw [HB.out]; omega)).mono ?_
                 rintro e w8 ⟨rfl, k8⟩
                 have KK : Kp nob w w8 := ka.trans k8 (fun _ e => e.elim)
                 have K2 : Kp nob wr w8 := kb.trans k8 (fun _ e => e.elim)
                 have hcv5 := conv_row w8 A n c key HK.out (hr.keep0 KK)
                 have hcv6 := conv_row w8 B m d bl HB.out (hrb.keep0 KK))
              | (go_at_call 11
                 obtain ⟨_, _, ka, kb⟩ := ‹_ ∧ _ ∧ Kp nob w _ ∧ Kp nob wr _›
                 refine (fMac (str key) (str bl) _ (by rw [str_size, HK.out]; omega) (by rw [str_size, HB.out]; omega)).mono ?_
                 rintro e w8 ⟨rfl, k8⟩
                 rw [sl_str, sl_str]
                 have KK : Kp nob w w8 := ka.trans k8 (fun _ e => e.elim)
                 have K2 : Kp nob wr w8 := kb.trans k8 (fun _ e => e.elim)
                 have hcv5 := conv_row w8 A n c key HK.out (hr.keep0 KK)
                 have hcv6 := conv_row w8 B m d bl HB.out (hrb.keep0 KK)))
          all_goals
            go_wp2
            go_ret
            exact ⟨rfl, KK⟩

theorem keeps_walk (A : Option Addr) (n c : Nat) (key : List UInt8) (B : Option Addr) (m d : Nat) (bl : List UInt8) (w : World) (ht : Tabs w) (hk : key.length = n) (hA : A = none → c = 0) (hr : Row w A (bvs key)) (hc : n ≤ c) (hcm : c ≤ maxLen)
    (hb : bl.length = m) (hB : B = none → d = 0) (hrb : Row w B (bvs bl)) (hd : m ≤ d) (hdm : d ≤ maxLen) :
    Calls Tryd.prog 7 #[.slice A n c, .slice B m d] w fun e w' => e = .returned (.bool true) ∧ Kp nob w w' := by
  by_cases h : 2048 < n ∨ 2048 < m
  · exact keeps_long A n c B m d w ht (by omega) (by omega) h
  · exact keeps_short A n c key B m d bl w ht hk hA hr hb hB hrb (by omega) (by omega)
end Go.Proofs.YtdfpfiipcieabaaDoor.Hmac
