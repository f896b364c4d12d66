/- DiskKeeps: what is handed in stays, and isn't kept; what is answered is new memory. -/
import Derived.Test.YtfbdjjcnibgjnaaDskL
namespace Go.Proofs.Ytfbdjjcnibgjnaa.Disk
set_option linter.unusedVariables false
set_option linter.unusedSimpArgs false
open Go Go.RowKit Kit

theorem own_empty (w : World) : Own 5 (w.alloc (.cells #[] 5)) (some ⟨w.heap.size, 0, none⟩) 0 0 [] := World.ownsRow_made w #[] 0 (Nat.zero_le _) (by simp [maxLen]) rfl
theorem kp_write (b : List UInt8) (h : b.length ≤ 256) : write E8 (new 2) ((0 : Nat) : Int) b = (wrote { new 2 with acts := 1 } 0 b, 0) := by
  rw [write, show (new 2).off = false from rfl, if_neg (show ¬ (false = true) by decide), if_neg (by decide), if_neg (by omega)]; rfl
/-- The disk of this law, behind its write and its forgery. -/
def K2 (b : List UInt8) : Dk := forged (wrote { new 2 with acts := 1 } 0 b) 1 b
theorem k2_0 (b : List UInt8) : (K2 b).now[0]? = some (full b) := rfl
theorem k2_1 (b : List UInt8) : (K2 b).now[1]? = some (full b) := rfl
theorem beq_self (l : List UInt8) : ((str l).toList == (str l).toList) = true := by simp
set_option maxHeartbeats 4000000 in
set_option maxRecDepth 100000 in
theorem keeps_yes (A : Option Addr) (n c : Nat) (b : List UInt8) (w : World) (hb : b.length = n) (hA : A = none → c = 0) (hr : Row w A (bvs b)) (hn : n ≤ 256) :
    Calls Try.prog 6 #[.slice A n c] w fun e w' => e = .returned (.bool true) ∧ Kp nob w w' := by
  obtain ⟨i0, hi, hz0, hz1, hz2⟩ := info_parts3 u8s_info
  have HI := Lib.hid (And.intro hi (And.intro hz0 (And.intro hz1 hz2)))
  have d1 : decide ((256 : Int) < (n : Int)) = false := by simp; omega
  have HB := Lib.hid hb; have HR := Lib.hid hr; have HN := Lib.hid hn
  have HBL := Lib.hid (show (bvs b).length = n by rw [bvs_length, hb])
  have HFB := Lib.hid (full_length b (by omega))
  clear hi hz0 hz1 hz2 hb hr hn
  go_enter Try.func6, Try.ntmps6
  go_wp2_with fail
  refine (alive_yes w).mono ?_
  rintro e w1 ⟨rfl, k1⟩
  have K1 := Lib.hid k1
  clear k1
  go_wp2_with (at_builtin
               refine wpList_appR _ rfl (.tmp 20) (.tmp 21) 32 rfl 5 i0 (.int .u8 0) 1 u8s_under HI.out.1 HI.out.2.1 HI.out.2.2.1 HI.out.2.2.2 rfl _ 0 0 [] rfl (own_empty w1) A n c (bvs b) rfl hA HBL.out ((HR.out.keep0 K1.out).alloc _) (bvs_one b) (by have := HN.out; omega) (by have := HN.out; omega) ?_
               intro M cM w2 hM hgM habM
               have K2' := Lib.hid ((K1.out.alloc _).grown hgM (fun k e => .inr (by cases e; exact K1.out.size)))
               have HM := Lib.hid (show Own 5 w2 M n cM (bvs b) by simpa using hM)
               have HMN : Hid (∀ k, ab M = some k → w.heap.size ≤ k) := Lib.hid (fun k e => by
                 rcases habM with h | h
                 · rw [h] at e; cases e; exact K1.out.size
                 · rw [h] at e; cases e; exact Nat.le_trans K1.out.size (by simp))
               clear hM hgM habM)
  refine (new_any 2 w2).mono ?_
  rintro e w3 ⟨g, N, S, rfl, h3, k3, n3⟩
  rw [show clamp 2 = 2 from rfl] at h3
  have H3 := Lib.hid h3; have K3 := Lib.hid (K2'.out.trans k3 (fun _ e => e.elim)); have N3 := Lib.hid n3
  have HM3 := Lib.hid (HM.out.keep k3 (fun _ _ e => e))
  have HML := Lib.hid HM.out.lt
  have HZ2 := Lib.hid K2'.out.size
  clear h3 k3 n3
  go_wp2_with fail
  have q1 := write_yes (new 2) 0 M n cM b g N S none 0 w3 H3.out HB.out HM3.out.row rfl (by decide) (by rw [HB.out]; exact HN.out) (by decide) (by decide) (by decide) (by decide)
  rw [kp_write b (by rw [HB.out]; exact HN.out)] at q1
  refine q1.mono ?_
  rintro e w4 ⟨rfl, W4, c4, h4, k4, n4⟩
  have H4 := Lib.hid h4
  have N4 : Hid (∀ k, dF g N S W4 k → w2.heap.size ≤ k) := Lib.hid (fun k e => by
    rcases Dz.df (w := w3) (w2 := w4) n4 k e with h | h
    · exact N3.out k h
    · have h5 : w2.heap.size ≤ g := N3.out g (.inl rfl)
      have h6 := H3.out.lt g (.inl rfl)
      omega)
  have HM4 := Lib.hid (HM3.out.keep k4 (fun k e e2 => by have := HML.out k e; have := N3.out k e2; omega))
  have K4 := Lib.hid (K3.out.since k4 (fun k e => Nat.le_trans HZ2.out (N3.out k e)))
  clear h4 k4 n4 q1
  go_wp2_with fail
  have q2 := forge_yes _ 1 M n cM b g N S W4 c4 w4 H4.out HB.out HM4.out.row (by show 1 < (List.set _ _ _).length; rw [List.length_set]; decide) (by rw [HB.out]; exact HN.out) (by show ([] ++ [((0 : Nat), full b)]).length ≤ 100000; simp)
  refine q2.mono ?_
  rintro e w5 ⟨rfl, W5, c5, h5, k5, n5⟩
  have H5 := Lib.hid (show Cd w5 g N S W5 c5 (K2 b) from h5)
  have N5 : Hid (∀ k, dF g N S W5 k → w2.heap.size ≤ k) := Lib.hid (fun k e => by
    rcases Dz.df (w := w4) (w2 := w5) n5 k e with h | h
    · exact N4.out k h
    · have h5 : w2.heap.size ≤ g := N4.out g (.inl rfl)
      have h6 := H4.out.lt g (.inl rfl)
      omega)
  have HM5 := Lib.hid (HM4.out.keep k5 (fun k e e2 => by have := HML.out k e; have := N4.out k e2; omega))
  have K5 := Lib.hid (K4.out.since k5 (fun k e => Nat.le_trans HZ2.out (N4.out k e)))
  clear h5 k5 n5 q2
  have c1 := conv_row w5 M n cM b HB.out HM5.out.row
  have c2 := conv_row w5 A n c b HB.out (HR.out.keep0 K5.out)
  have e1 := beq_self b
  go_wp2
  clear c1 c2 e1
  -- mine is turned
  go_loopw [5, 37] (fun _ vi wr => ∃ (k : Nat) (lm : List UInt8), k ≤ n ∧ vi = .int .i64 k ∧ Own 5 wr M n cM (bvs lm) ∧ Kp (rowF M) w5 wr)
    (fun _ vi _ => n - (intOf vi).toNat)
  case atStart => exact ⟨0, b, Nat.zero_le _, rfl, HM5.out, Kp.refl _ _⟩
  case round =>
    obtain ⟨k, lm, hk, rfl, oM, kr⟩ := hrel
    by_cases hlt : k < n
    · obtain ⟨bm, rfl, hbm, hcm, hfm, hsm⟩ := oM.at_ hlt
      have hml : lm.length = n := by simpa using oM.len
      obtain ⟨xm, hxm⟩ : ∃ x, x = lm[k]'(by omega) := ⟨_, rfl⟩
      have hcm' : wr.cell? ⟨bm, k, none⟩ = some (.int .u8 xm.toNat) := by rw [hcm, hxm]; simp [bvs, bv]
      have hb1 := xm.toNat_lt
      have hn' := HN.out
      clear hcm hxm hml
      go_wp2
      refine ⟨⟨k + 1, lm.set k (UInt8.ofNat (xm.toNat + 1)), hlt, by go_num, ?_, kr.setCell (p := ⟨bm, k, none⟩) (.inl rfl) _⟩, by simp [intOf]; omega⟩
      rw [← bvs_set]
      exact oM.set k _
    · obtain rfl : k = n := by omega
      have H6 := Lib.hid (H5.out.keep kr (fun k e e2 => by have h1 := N5.out k e; have h2 := HML.out k e2; omega))
      have K6 := Lib.hid (K5.out.since kr (fun k e => HMN.out k e))
      clear oM kr hlt hk H5
      rename World => wo
      go_wp2_with fail
      refine (read_yes (K2 b) 0 (full b) g N S W5 c5 wo H6.out rfl (k2_0 b)).mono ?_
      rintro e w7 ⟨x7, rfl, h7, k7, n7⟩
      have H7 := Lib.hid (H6.out.keep0 k7); have K7 := Lib.hid (K6.out.trans k7 (fun _ e => e.elim))
      have HX7 := Lib.hid h7
      have HNX := Lib.hid (show ¬ dF g N S W5 x7 from fun e => by have := H6.out.lt x7 e; omega)
      have HWX := Lib.hid (show w.heap.size ≤ x7 from Nat.le_trans K6.out.size n7)
      clear h7 k7 n7 H6
      go_wp2
      go_loopw [8, 54] (fun _ vi wr => ∃ (k : Nat) (lm : List UInt8), k ≤ 256 ∧ vi = .int .i64 k ∧ lm.length = 256 ∧ Blk wr x7 56 (bvs lm) ∧ Kp (oneB x7) w7 wr)
        (fun _ vi _ => 256 - (intOf vi).toNat)
      case atStart => exact ⟨0, full b, Nat.zero_le _, rfl, HFB.out, HX7.out, Kp.refl _ _⟩
      case round =>
        obtain ⟨k, lm, hk, rfl, hml, oM, kr⟩ := hrel
        by_cases hlt : k < 256
        · obtain ⟨xm, hxm⟩ : ∃ x, x = lm[k]'(by omega) := ⟨_, rfl⟩
          have hcm' : wr.cell? ⟨x7, k, none⟩ = some (.int .u8 xm.toNat) := by rw [oM.cell, hxm]; simp [bvs, bv, hml, hlt]
          have hfm := oM.frozen k
          have hb1 := xm.toNat_lt
          have HML' := Lib.hid hml
          clear hxm hml
          go_wp2
          refine ⟨⟨k + 1, lm.set k (UInt8.ofNat (xm.toNat + 1)), hlt, by go_num, by rw [List.length_set]; exact HML'.out, ?_, kr.setCell (p := ⟨x7, k, none⟩) (.inl rfl) _⟩, by simp [intOf]; omega⟩
          rw [← bvs_set]
          exact oM.set_ k _
        · obtain rfl : k = 256 := by omega
          have H8 := Lib.hid (H7.out.keep kr (fun k e e2 => HNX.out (by have e2 : k = x7 := e2; rw [← e2]; exact e)))
          have K8 := Lib.hid (K7.out.since kr (fun k e => by have e : k = x7 := e; have := HWX.out; omega))
          clear oM kr hlt hk H7 hml HX7 HNX
          rename World => wp
          go_wp2_with fail
          refine (image_any (K2 b) g N S W5 c5 wp H8.out).mono ?_
          rintro e w9 ⟨Y, cY, rfl, h9, k9, n9⟩
          rw [show (K2 b).now.length * 256 = 512 from rfl] at h9 ⊢
          have H9 := Lib.hid (H8.out.keep0 k9); have K9 := Lib.hid (K8.out.trans k9 (fun _ e => e.elim))
          have HY9 := Lib.hid h9
          have HNY := Lib.hid (show ∀ k, ab Y = some k → ¬ dF g N S W5 k from fun k e e2 => by have := H8.out.lt k e2; have := n9 k e; omega)
          have HWY := Lib.hid (show ∀ k, ab Y = some k → w.heap.size ≤ k from fun k e => Nat.le_trans K8.out.size (n9 k e))
          clear h9 k9 n9 H8
          go_wp2
          go_loopw [10, 68] (fun _ vi wr => ∃ (k : Nat) (lm : List UInt8), k ≤ 512 ∧ vi = .int .i64 k ∧ Own 5 wr Y 512 cY (bvs lm) ∧ Kp (rowF Y) w9 wr)
            (fun _ vi _ => 512 - (intOf vi).toNat)
          case atStart => exact ⟨0, image (K2 b), Nat.zero_le _, rfl, HY9.out, Kp.refl _ _⟩
          case round =>
            obtain ⟨k, lm, hk, rfl, oM, kr⟩ := hrel
            by_cases hlt : k < 512
            · obtain ⟨bm, rfl, hbm, hcm, hfm, hsm⟩ := oM.at_ hlt
              have hml : lm.length = 512 := by simpa using oM.len
              obtain ⟨xm, hxm⟩ : ∃ x, x = lm[k]'(by omega) := ⟨_, rfl⟩
              have hcm' : wr.cell? ⟨bm, k, none⟩ = some (.int .u8 xm.toNat) := by rw [hcm, hxm]; simp [bvs, bv]
              have hb1 := xm.toNat_lt
              clear hcm hxm hml
              go_wp2
              refine ⟨⟨k + 1, lm.set k (UInt8.ofNat (xm.toNat + 1)), hlt, by go_num, ?_, kr.setCell (p := ⟨bm, k, none⟩) (.inl rfl) _⟩, by simp [intOf]; omega⟩
              rw [← bvs_set]
              exact oM.set k _
            · obtain rfl : k = 512 := by omega
              have H10 := Lib.hid (H9.out.keep kr (fun k e e2 => HNY.out k e2 e))
              have K10 := Lib.hid (K9.out.since kr (fun k e => HWY.out k e))
              clear oM kr hlt hk H9 HY9 HNY
              rename World => wq
              go_wp2_with fail
              refine (read_yes (K2 b) 0 (full b) g N S W5 c5 wq H10.out rfl (k2_0 b)).mono ?_
              rintro e w11 ⟨u, rfl, h11, k11, n11⟩
              have H11 := Lib.hid (H10.out.keep0 k11); have K11 := Lib.hid (K10.out.trans k11 (fun _ e => e.elim))
              have HU := Lib.hid h11
              clear h11 k11 n11
              go_wp2_with fail
              refine (read_yes (K2 b) 1 (full b) g N S W5 c5 w11 H11.out rfl (k2_1 b)).mono ?_
              rintro e w12 ⟨v, rfl, h12, k12, n12⟩
              have K12 := Lib.hid (K11.out.trans k12 (fun _ e => e.elim))
              have HU2 := Lib.hid (HU.out.keep k12 (fun e => e))
              have HV := Lib.hid h12
              clear h12 k12 n12
              go_wp2
              have HS0 := Lib.hid (Kp.refl nob w12).drew
              have HKU := Lib.hid (fun (w' : World) (k : Kp nob w12 w') => (show Row w' (some ⟨u, 0, none⟩) (bvs (full b)) from (HU2.out.keep k (fun e => e)).row))
              have HKV := Lib.hid (fun (w' : World) (k : Kp nob w12 w') => (show Row w' (some ⟨v, 0, none⟩) (bvs (full b)) from (HV.out.keep k (fun e => e)).row))
              have HKA := Lib.hid (fun (w' : World) (k : Kp nob w12 w') => (show Row w' A (bvs b) from HR.out.keep0 (K12.out.trans k (fun _ e => e.elim))))
              have e1 := beq_self (full b)
              refine reg_begin (fun w' => Kp nob w12 w') (by kernel_rfl) HS0.out (fun _ => ?_)
              generalize w12.drew = wd at *
              refine reg_take (v := .slice (some ⟨u, 0, none⟩) 256 256) 0 (some 88) rfl rfl (by kernel_rfl) (by kernel_rfl) (by kernel_rfl) (by rfl) HS0.out (fun w hw => by go_simp) ?_
              simp only [Act.put, List.setIfInBounds_toArray, List.set_cons_zero, List.set_cons_succ]
              refine reg_bytesStr 1 (some 89) 32 9 5 (.tmp 88) rfl rfl rfl (by kernel_rfl) (by kernel_rfl) (by kernel_rfl) (by rfl) HS0.out u8s_under u8_under str_under (some ⟨u, 0, none⟩) 256 256 (full b) HFB.out rfl HKU.out ?_
              simp only [Act.put, List.setIfInBounds_toArray, List.set_cons_zero, List.set_cons_succ]
              refine reg_take (v := .slice A k c) 2 (some 90) rfl rfl (by kernel_rfl) (by kernel_rfl) (by kernel_rfl) (by rfl) HS0.out (fun w hw => by go_simp) ?_
              simp only [Act.put, List.setIfInBounds_toArray, List.set_cons_zero, List.set_cons_succ]
              refine reg_bytesStr 3 (some 91) 32 9 5 (.tmp 90) rfl rfl rfl (by kernel_rfl) (by kernel_rfl) (by kernel_rfl) (by rfl) HS0.out u8s_under u8_under str_under A k c b HB.out rfl HKA.out ?_
              simp only [Act.put, List.setIfInBounds_toArray, List.set_cons_zero, List.set_cons_succ]
              refine reg_call 4 (some 92) rfl rfl (by kernel_rfl) (by rfl) _ _ (exec_func 12 _ _ [.string (str b)] rfl (by kernel_rfl) rfl) ?_
              refine (fFull b wd (by rw [HB.out]; exact HN.out)).mono ?_
              rintro e w13 ⟨rfl, k13⟩
              have HS1 := Lib.hid (HS0.out.trans k13 (fun _ e => e.elim))
              clear k13
              refine ⟨_, rfl, HS1.out, fun _ => ?_⟩
              simp only [Act.put, List.setIfInBounds_toArray, List.set_cons_zero, List.set_cons_succ]
              refine reg_take (v := .bool true) 5 (some 93) rfl rfl (by kernel_rfl) (by kernel_rfl) (by kernel_rfl) (by rfl) HS1.out (fun w hw => by go_simp) ?_
              simp only [Act.put, List.setIfInBounds_toArray, List.set_cons_zero, List.set_cons_succ]
              refine reg_take (v := .bool true) 6 (some 94) rfl rfl (by kernel_rfl) (by kernel_rfl) (by kernel_rfl) (by rfl) HS1.out (fun w hw => by go_simp) ?_
              simp only [Act.put, List.setIfInBounds_toArray, List.set_cons_zero, List.set_cons_succ]
              refine reg_take (v := .slice (some ⟨v, 0, none⟩) 256 256) 7 (some 95) rfl rfl (by kernel_rfl) (by kernel_rfl) (by kernel_rfl) (by rfl) HS1.out (fun w hw => by go_simp) ?_
              simp only [Act.put, List.setIfInBounds_toArray, List.set_cons_zero, List.set_cons_succ]
              refine reg_bytesStr 8 (some 96) 32 9 5 (.tmp 95) rfl rfl rfl (by kernel_rfl) (by kernel_rfl) (by kernel_rfl) (by rfl) HS1.out u8s_under u8_under str_under (some ⟨v, 0, none⟩) 256 256 (full b) HFB.out rfl HKV.out ?_
              simp only [Act.put, List.setIfInBounds_toArray, List.set_cons_zero, List.set_cons_succ]
              refine reg_take (v := .slice (some ⟨u, 0, none⟩) 256 256) 9 (some 97) rfl rfl (by kernel_rfl) (by kernel_rfl) (by kernel_rfl) (by rfl) HS1.out (fun w hw => by go_simp) ?_
              simp only [Act.put, List.setIfInBounds_toArray, List.set_cons_zero, List.set_cons_succ]
              refine reg_bytesStr 10 (some 98) 32 9 5 (.tmp 97) rfl rfl rfl (by kernel_rfl) (by kernel_rfl) (by kernel_rfl) (by rfl) HS1.out u8s_under u8_under str_under (some ⟨u, 0, none⟩) 256 256 (full b) HFB.out rfl HKU.out ?_
              simp only [Act.put, List.setIfInBounds_toArray, List.set_cons_zero, List.set_cons_succ]
              refine reg_take (v := .bool true) 11 (some 99) rfl rfl (by kernel_rfl) (by kernel_rfl) (by kernel_rfl) (by rfl) HS1.out (fun w hw => by go_simp) ?_
              simp only [Act.put, List.setIfInBounds_toArray, List.set_cons_zero, List.set_cons_succ]
              refine reg_take (v := .bool true) 12 (some 100) rfl rfl (by kernel_rfl) (by kernel_rfl) (by kernel_rfl) (by rfl) HS1.out (fun w hw => by go_simp) ?_
              simp only [Act.put, List.setIfInBounds_toArray, List.set_cons_zero, List.set_cons_succ]
              refine reg_take (v := .bool true) 13 (some 2) rfl rfl (by kernel_rfl) (by kernel_rfl) (by kernel_rfl) (by rfl) HS1.out (fun w hw => by go_simp) ?_
              simp only [Act.put, List.setIfInBounds_toArray, List.set_cons_zero, List.set_cons_succ]
              refine reg_end (by kernel_rfl) ?_
              go_wp2
              go_ret
              exact ⟨rfl, K12.out.trans HS1.out (fun _ e => e.elim)⟩
set_option maxHeartbeats 1000000 in
theorem keeps_walk (A : Option Addr) (n c : Nat) (b : List UInt8) (w : World) (hb : b.length = n) (hA : A = none → c = 0) (hr : Row w A (bvs b)) (h4 : n ≤ c) (h5 : c ≤ maxLen) :
    Calls Try.prog 6 #[.slice A n c] w fun e w' => e = .returned (.bool true) ∧ Kp nob w w' := by
  by_cases hn : n ≤ 256
  · exact keeps_yes A n c b w hb hA hr hn
  · have d1 : decide ((256 : Int) < (n : Int)) = true := by simp; omega
    clear hb hA hr h4 h5
    go_enter Try.func6, Try.ntmps6
    go_wp2_with fail
    refine (alive_yes w).mono ?_
    rintro e w1 ⟨rfl, k1⟩
    go_wp2
    go_ret
    exact ⟨rfl, k1⟩
end Go.Proofs.Ytfbdjjcnibgjnaa.Disk
