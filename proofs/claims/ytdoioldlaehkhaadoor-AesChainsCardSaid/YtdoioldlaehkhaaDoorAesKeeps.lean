/- AesKeeps: what is handed in stays, and isn't kept. -/
import Derived.Test.YtdoioldlaehkhaaDoorAesOpens
import Derived.Test.YtdoioldlaehkhaaDoorBlkG
namespace Go.Proofs.YtdoioldlaehkhaaDoor.Aes
open Go Go.RowKit Kit
open Field (cb cb_inj Sq)

theorem u8s_info : (Tryd.prog.info? 5).map (fun i => (i.zero, i.size, i.bytes)) = some (some (.int .u8 0), 1, 1) := by kernel_rfl
theorem info_parts1 {P : Program} {t : TypeId} {z : Value} {s b : Nat} (h : (P.info? t).map (fun i => (i.zero, i.size, i.bytes)) = some (some z, s, b)) : ∃ i, P.info? t = some i ∧ i.zero = some z ∧ i.size = s ∧ i.bytes = b := by
  cases hq : P.info? t with
  | none => rw [hq] at h; cases h
  | some i =>
    rw [hq] at h
    simp only [Option.map_some, Option.some.injEq, Prod.mk.injEq] at h
    exact ⟨i, rfl, h.1, h.2.1, h.2.2⟩

set_option maxHeartbeats 4000000 in
set_option maxRecDepth 100000 in
theorem keeps_walk (l b : List UInt8) (w : World) (ht : Sq w) (hl : l.length = 32) (hb : b.length = 16) :
    Calls Tryd.prog 5 #[.agg (bvs l).toArray, .agg (bvs b).toArray] w fun e w' => e = .returned (.bool true) ∧ Kp nob w w' := by
  have HT := Lib.hid ht; have HL := Lib.hid hl; have HB := Lib.hid hb
  clear ht hl hb
  obtain ⟨i0, hi, hz0, hz1, hz2⟩ := info_parts1 u8s_info
  obtain ⟨w0, hw0⟩ : ∃ w0, w0 = (w.alloc (.cells (bvs l).toArray 36)).alloc (.cells (bvs b).toArray 23) := ⟨_, rfl⟩
  have hk0 : Kp nob w w0 := by rw [hw0]; exact ((Kp.refl nob w).alloc _).alloc _
  have hbl : Blk w0 w.heap.size 36 (bvs l) := by rw [hw0]; exact (Blk.new w _ _).alloc _
  have hbb : Blk w0 (w.heap.size + 1) 23 (bvs b) := by rw [hw0]; exact Blk.new' (by simp) rfl
  have HK := Lib.hid hk0; have HBL := Lib.hid hbl; have HBB := Lib.hid hbb
  have HW := Lib.hid hw0
  clear hk0 hbl hbb hw0
  go_enter Tryd.func5, Tryd.ntmps5
  go_wp2_with fail
  rw [← HW.out]
  refine (alive_yes _ (HT.out.keep0 HK.out)).mono ?_
  rintro e w1 ⟨rfl, k1⟩
  have HK1 := Lib.hid (HK.out.trans k1 (fun _ e => e.elim)); have HBL1 := Lib.hid (HBL.out.keep k1 (fun e => e)); have HBB1 := Lib.hid (HBB.out.keep k1 (fun e => e))
  clear HK HBL HBB HW k1
  have ho : Own 5 (w1.alloc (.cells #[] 5)) (some ⟨w1.heap.size, 0, none⟩) 0 0 [] := World.ownsRow_made w1 #[] 0 (Nat.zero_le _) (by simp [maxLen]) rfl
  have HO := Lib.hid ho; clear ho
  go_wp2_with (at_builtin; refine wpList_appR _ rfl (.tmp 12) (.tmp 13) 22 rfl 5 i0 (.int .u8 0) 1 u8sl_under hi hz0 hz1 hz2 rfl _ 0 0 [] rfl HO.out (some ⟨w.heap.size, 0, none⟩) 32 32 (bvs l) rfl (fun e => by cases e) (by rw [bvs_length, HL.out]) (HBL1.out.row.alloc _) (bvs_one l) (by omega) (by omega) ?_)
  intro M cM w2 hM hgM habM
  have HK2 := Lib.hid ((HK1.out.alloc (.cells #[] 5)).grown hgM (fun k e => .inr (by cases e; exact HK1.out.size)))
  have K12 : Kp nob w1 w2 := ((Kp.refl nob w1).alloc _).grown hgM (fun k e => .inr (by cases e; exact Nat.le_refl _))
  have HBL2 := Lib.hid (HBL1.out.keep K12 (fun e => e)); have HBB2 := Lib.hid (HBB1.out.keep K12 (fun e => e))
  have HNM := Lib.hid (show ∀ k, ab M = some k → w1.heap.size ≤ k by
    intro k e
    rcases habM with h | h <;> rw [h] at e <;> cases e
    · exact Nat.le_refl _
    · exact Nat.le_succ _)
  have HM2 := Lib.hid (show Own 5 w2 M 32 cM (bvs l) from hM)
  have HSZ := Lib.hid (show w.heap.size + 1 < w1.heap.size from HBB1.out.lt)
  clear hM hgM habM K12 HO HBL1 HBB1 HK1
  go_wp2_with fail
  refine (new_yes 8 l M cM _ (HT.out.keep0 HK2.out) HL.out (.inr rfl) HM2.out.row HM2.out.cap.1).mono ?_
  rintro e w3 ⟨g, rfl, hc, hg, k3⟩
  have HC3 := Lib.hid (show Ciph w3 g (allW l) 13 from hc)
  have HM3 := Lib.hid (HM2.out.keep k3 (fun _ _ e => e))
  have HFM := Lib.hid (show ∀ k, ab M = some k → k ≠ g from fun k e => by have := HM2.out.lt k e; omega)
  have HBL3 := Lib.hid (HBL2.out.keep k3 (fun e => e)); have HBB3 := Lib.hid (HBB2.out.keep k3 (fun e => e))
  have HK3 := Lib.hid (HK2.out.trans k3 (fun _ e => e.elim))
  clear hc hg k3 HM2 HBL2 HBB2 HK2
  go_wp2
  have HD := Lib.hid (Kp.refl nob w3).drew
  have HS0 := Lib.hid (show Row w3.drew M (bvs l) ∧ Row w3.drew (some ⟨w.heap.size, 0, none⟩) (bvs l) from ⟨HM3.out.row.keep0 HD.out, HBL3.out.row.keep0 HD.out⟩)
  refine reg_begin (fun w' => Row w' M (bvs l) ∧ Row w' (some ⟨w.heap.size, 0, none⟩) (bvs l)) (by kernel_rfl) HS0.out (fun _ => ?_)
  generalize w3.drew = wd at *
  refine reg_take (v := .int .i64 0) 0 (some 20) rfl rfl (by kernel_rfl) (by kernel_rfl) (by kernel_rfl) (by rfl) HS0.out (fun w hw => by go_simp) ?_
  simp only [Act.put, List.setIfInBounds_toArray, List.set_cons_zero, List.set_cons_succ]
  refine reg_take (v := .bool false) 1 (some 21) rfl rfl (by kernel_rfl) (by kernel_rfl) (by kernel_rfl) (by rfl) HS0.out (fun w hw => by go_simp) ?_
  simp only [Act.put, List.setIfInBounds_toArray, List.set_cons_zero, List.set_cons_succ]
  refine reg_take (v := .bool false) 2 (some 22) rfl rfl (by kernel_rfl) (by kernel_rfl) (by kernel_rfl) (by rfl) HS0.out (fun w hw => by go_simp) ?_
  simp only [Act.put, List.setIfInBounds_toArray, List.set_cons_zero, List.set_cons_succ]
  refine reg_take (v := .slice M 32 cM) 3 (some 23) rfl rfl (by kernel_rfl) (by kernel_rfl) (by kernel_rfl) (by rfl) HS0.out (fun w hw => by go_simp) ?_
  simp only [Act.put, List.setIfInBounds_toArray, List.set_cons_zero, List.set_cons_succ]
  refine reg_bytesStr 4 (some 24) 22 9 5 (.tmp 23) rfl rfl rfl (by kernel_rfl) (by kernel_rfl) (by kernel_rfl) (by rfl) HS0.out u8sl_under (by kernel_rfl) (by kernel_rfl) (M) 32 cM l HL.out rfl (fun _ x => x.1) ?_
  simp only [Act.put, List.setIfInBounds_toArray, List.set_cons_zero, List.set_cons_succ]
  refine reg_take (v := .slice (some ⟨w.heap.size, 0, none⟩) 32 32) 5 (some 25) rfl rfl (by kernel_rfl) (by kernel_rfl) (by kernel_rfl) (by rfl) HS0.out (fun w hw => by go_simp) ?_
  simp only [Act.put, List.setIfInBounds_toArray, List.set_cons_zero, List.set_cons_succ]
  refine reg_bytesStr 6 (some 26) 22 9 5 (.tmp 25) rfl rfl rfl (by kernel_rfl) (by kernel_rfl) (by kernel_rfl) (by rfl) HS0.out u8sl_under (by kernel_rfl) (by kernel_rfl) (some ⟨w.heap.size, 0, none⟩) 32 32 l HL.out rfl (fun _ x => x.2) ?_
  simp only [Act.put, List.setIfInBounds_toArray, List.set_cons_zero, List.set_cons_succ]
  refine reg_take (v := .bool false) 7 (some 27) rfl rfl (by kernel_rfl) (by kernel_rfl) (by kernel_rfl) (by rfl) HS0.out (fun w hw => by go_simp) ?_
  simp only [Act.put, List.setIfInBounds_toArray, List.set_cons_zero, List.set_cons_succ]
  refine reg_take (v := .bool false) 8 (some 28) rfl rfl (by kernel_rfl) (by kernel_rfl) (by kernel_rfl) (by rfl) HS0.out (fun w hw => by go_simp) ?_
  simp only [Act.put, List.setIfInBounds_toArray, List.set_cons_zero, List.set_cons_succ]
  refine reg_end (by kernel_rfl) ?_
  have HC4 := Lib.hid (HC3.out.keep0 HD.out); have HM4 := Lib.hid (HM3.out.keep HD.out (fun _ _ e => e)); have HBB4 := Lib.hid (HBB3.out.keep HD.out (fun e => e)); have HK4 := Lib.hid (HK3.out.trans HD.out (fun _ e => e.elim))
  clear HS0 HC3 HM3 HBB3 HK3 HBL3 HD
  go_wp2_with (refine wpList_load_blk rfl 23 (.tmp 3) rfl _ _ _ HBB4.out rfl _ arr16 rfl (by rw [blen HB.out]; kernel_rfl) ?_)
  refine (seal_any b (allW l) g 13 _ HB.out HC4.out).mono ?_
  rintro e w5 ⟨rfl, k5⟩
  obtain ⟨X, hX⟩ : ∃ X, X = enc (allW l) 13 b := ⟨_, rfl⟩
  have HXL := Lib.hid (show X.length = 16 by rw [hX]; exact enc_length _ _ _)
  have q3 := fun w => eqB_same X HXL.out w
  rw [← hX]
  have HXD := Lib.hid hX; clear hX
  have HC5 := Lib.hid (HC4.out.keep0 k5); have HM5 := Lib.hid (HM4.out.keep k5 (fun _ _ e => e)); have HBB5 := Lib.hid (HBB4.out.keep k5 (fun e => e)); have HK5 := Lib.hid (HK4.out.trans k5 (fun _ e => e.elim))
  clear HC4 HM4 HBB4 HK4 k5
  obtain ⟨g8, hg8⟩ : ∃ g8, g8 = w5.heap.size := ⟨_, rfl⟩
  go_wp2_with (refine wpList_store_new rfl 30 (.tmp 8) (.tmp 31) rfl _ (bvs X) rfl rfl (by rw [blen HXL.out]; rfl) (bsize HXL.out) (bvs_one _) ?_; intro w6 hB6 k6 z6)
  rw [← hg8] at hB6 ⊢
  have HBX := Lib.hid hB6
  have HC6 := Lib.hid (HC5.out.keep0 k6); have HM6 := Lib.hid (HM5.out.keep k6 (fun _ _ e => e)); have HBB6 := Lib.hid (HBB5.out.keep k6 (fun e => e)); have HK6 := Lib.hid (HK5.out.trans k6 (fun _ e => e.elim))
  have HG8 := Lib.hid (show ∀ k, ab M = some k → k ≠ g8 from fun k e => by have := HM5.out.lt k e; omega)
  clear hB6 k6 z6 HC5 HM5 HBB5 HK5 hg8
  go_wp2
  go_loopw [34] (fun vi wr => ∃ (k : Nat) (lm : List UInt8), k ≤ 32 ∧ vi = .int .i64 k ∧ Own 5 wr M 32 cM (bvs lm) ∧ Kp (rowF M) w6 wr)
    (fun vi _ => 32 - (intOf vi).toNat)
  case atStart => exact ⟨0, l, Nat.zero_le _, rfl, HM6.out, Kp.refl _ _⟩
  case round =>
    obtain ⟨k, lm, hk, rfl, oM, kr⟩ := hrel
    by_cases hlt : k < 32
    · have hM7 := HM6.out
      clear HM6
      obtain ⟨bm, rfl, hbm, hcm, hfm, hsm⟩ := oM.at_ hlt
      have hml : lm.length = 32 := by simpa using oM.len
      obtain ⟨xm, hxm⟩ : ∃ x, x = lm[k]'(by omega) := ⟨_, rfl⟩
      have hcm' : wr.cell? ⟨bm, k, none⟩ = some (.int .u8 xm.toNat) := by rw [hcm, hxm]; simp [bvs, bv]
      have hb1 := xm.toNat_lt
      clear hcm hxm hM7 q3
      go_wp2
      go_roundw
      case rel =>
        refine ⟨k + 1, lm.set k (UInt8.ofNat (xm.toNat + 1)), by omega, by go_num, ?_, ?_⟩
        · rw [← bvs_set]
          exact oM.set k _
        · exact kr.setCell (p := ⟨bm, k, none⟩) (.inl rfl) _
      case measure => simp [intOf]; omega
    · have HC9 := Lib.hid ((HC6.out.keep kr (fun e => HFM.out g e rfl)).keep0 (Kp.refl nob wr).drew)
      have HS0 := Lib.hid (range2 (show wr.rangeAt (w.heap.size + 1) 0 (bvs b) ∧ wr.rangeAt g8 0 (bvs X) from ⟨range_keep HBB6.out.range kr (fun e => by have := HNM.out _ e; have := HSZ.out; omega), range_keep HBX.out.range kr (fun e => HG8.out g8 e rfl)⟩) (Kp.refl nob wr).drew)
      have HK9 := Lib.hid ((HK6.out.trans kr (fun k e => .inr (by have := HNM.out k e; have := HSZ.out; omega))).drew)
      have HK0 := Lib.hid (Kp.refl nob wr.drew)
      clear kr oM
      go_wp2
      refine reg_begin (fun w' => w'.rangeAt (w.heap.size + 1) 0 (bvs b) ∧ w'.rangeAt g8 0 (bvs X)) (by kernel_rfl) HS0.out (fun _ => ?_)
      generalize wr.drew = we at *
      refine reg_take (v := .pointer (some ⟨g, 0, none⟩)) 0 (some 44) rfl rfl (by kernel_rfl) (by kernel_rfl) (by kernel_rfl) (by rfl) HS0.out (fun w hw => by go_simp) ?_
      simp only [Act.put, List.setIfInBounds_toArray, List.set_cons_zero, List.set_cons_succ]
      refine reg_load 1 (some 45) 23 (.tmp 3) rfl rfl rfl (by kernel_rfl) (by kernel_rfl) (by kernel_rfl) (by rfl) HS0.out (w.heap.size + 1) 0 rfl (bvs b) _ (fun _ x => x.1) arr16 rfl (by rw [blen HB.out]; kernel_rfl) ?_
      simp only [Act.put, List.setIfInBounds_toArray, List.set_cons_zero, List.set_cons_succ]
      refine reg_load 3 (some 47) 30 (.tmp 8) rfl rfl rfl (by kernel_rfl) (by kernel_rfl) (by kernel_rfl) (by rfl) HS0.out (g8) 0 rfl (bvs X) _ (fun _ x => x.2) arrB rfl (bsize HXL.out) ?_
      simp only [Act.put, List.setIfInBounds_toArray, List.set_cons_zero, List.set_cons_succ]
      refine reg_call 2 (some 46) rfl rfl (by kernel_rfl) (by rfl) _ _ (by go_simp; exact ⟨rfl, rfl⟩) ?_
      refine (seal_any b (allW l) g 13 _ HB.out (HC9.out.keep0 HK0.out)).mono ?_
      rintro e wz ⟨rfl, kz⟩
      rw [← HXD.out]
      have HS1 := Lib.hid (range2 HS0.out kz)
      have HK1 := Lib.hid (HK0.out.trans kz (fun _ e => e.elim))
      refine ⟨_, rfl, HS1.out, fun _ => ?_⟩
      simp only [Act.put, List.setIfInBounds_toArray, List.set_cons_zero, List.set_cons_succ]
      refine reg_take (v := .bool true) 4 (some 48) rfl rfl (by kernel_rfl) (by kernel_rfl) (by kernel_rfl) (by rfl) HS1.out (fun w hw => by go_simp) ?_
      simp only [Act.put, List.setIfInBounds_toArray, List.set_cons_zero, List.set_cons_succ]
      refine reg_take (v := .bool true) 5 (some 4) rfl rfl (by kernel_rfl) (by kernel_rfl) (by kernel_rfl) (by rfl) HS1.out (fun w hw => by go_simp) ?_
      simp only [Act.put, List.setIfInBounds_toArray, List.set_cons_zero, List.set_cons_succ]
      refine reg_end (by kernel_rfl) ?_
      go_wp2
      go_ret
      exact ⟨rfl, HK9.out.trans HK1.out (fun _ e => e.elim)⟩
end Go.Proofs.YtdoioldlaehkhaaDoor.Aes
