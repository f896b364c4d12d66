/- Contracts of package aes: a block opened. -/
import Derived.Test.YtdoioldlaehkhaaDoorAesH
namespace Go.Proofs.YtdoioldlaehkhaaDoor.Aes
open Go Go.RowKit Kit
open Field (cb cb_inj)

/-- On the way back: the block ahead of a round's key, out of the one behind it. -/
theorem dec_way (W b : List UInt8) (R : Nat) : ∀ (i : Nat) (B : List UInt8), coming W B (i + 1) = coming W (unsub (unrows (unmix (add (rk W (i + 1)) B)))) i := fun i B => coming_succ W B i
theorem unsub_unrows (B : List UInt8) : unsub (trn 3 B) = unsub (unrows B) := by rw [trn_three]

set_option maxHeartbeats 1000000 in
set_option maxRecDepth 100000 in
theorem open_nil (b : List UInt8) (w : World) (hb : b.length = 16) :
    Calls Tryd.prog 11 #[.pointer none, .agg (bvs b).toArray] w fun e w' => e = .returned (.agg (bvs noughts).toArray) ∧ Kp nob w w' := by
  have HB := Lib.hid hb; clear hb
  have HS := Lib.hid (Sl.new w b)
  go_enter Tryd.func11, Tryd.ntmps11
  go_wp2
  have hB : Blk ((w.alloc (.cells (bvs b).toArray 30)).alloc (.cells #[.int .u8 0, .int .u8 0, .int .u8 0, .int .u8 0, .int .u8 0, .int .u8 0, .int .u8 0, .int .u8 0, .int .u8 0, .int .u8 0, .int .u8 0, .int .u8 0, .int .u8 0, .int .u8 0, .int .u8 0, .int .u8 0] 30)) (w.heap.size + 1) 30 (bvs noughts) := Blk.new' (by simp) rfl
  have hsz : (Tryd.prog.info? 30).map (·.size) = some (bvs noughts).toArray.size := by kernel_rfl
  refine bodyPost_ret (results_cell_row rfl _ _ (w.heap.size + 1) _ _ _ _ rfl hB arrB rfl hsz) rfl ⟨rfl, HS.out.kp⟩
set_option maxHeartbeats 4000000 in
set_option maxRecDepth 100000 in
theorem open_any (b W : List UInt8) (g R : Nat) (w : World) (hb : b.length = 16) (hc : Ciph w g W R) :
    Calls Tryd.prog 11 #[.pointer (some ⟨g, 0, none⟩), .agg (bvs b).toArray] w fun e w' => e = .returned (.agg (bvs (dec W R b)).toArray) ∧ Kp nob w w' := by
  have HB := Lib.hid hb; clear hb
  have HC := Lib.hid hc
  have h13 := hc.r
  clear hc
  have HS := Lib.hid (Sl.new w b)
  have b0 : (0 : Int) ≤ (R : Int) + 1 ∧ (R : Int) + 1 < 15 := by omega
  go_enter Tryd.func11, Tryd.ntmps11
  go_wp2
  refine wp_region_still_tail 10 (by kernel_rfl) (by kernel_rfl) ?_
  generalize hw0 : (w.alloc (.cells (bvs b).toArray 30)).alloc (.cells #[.int .u8 0, .int .u8 0, .int .u8 0, .int .u8 0, .int .u8 0, .int .u8 0, .int .u8 0, .int .u8 0, .int .u8 0, .int .u8 0, .int .u8 0, .int .u8 0, .int .u8 0, .int .u8 0, .int .u8 0, .int .u8 0] 30) = w0 at *
  change wpStill _ _ w0.drew (fun a' => wpList _ _ _ _ a' w0.drew) _ _
  have HS1 := Lib.hid (HS.out.keep (Kp.refl nob w0).drew)
  clear HS hw0
  generalize w0.drew = wd at *
  have HL1 := Lib.hid (load_b HS1.out (blen HB.out))
  have HL2 := Lib.hid (load_k (HC.out.keep0 HS1.out.kp) (R + 1) (by omega))
  have hnum0 : wd.cell? ⟨g, 0, none⟩ = some (.int .i64 ((R : Int) + 1)) := (HC.out.keep0 HS1.out.kp).num
  simp only [List.take_succ_cons, List.take_zero, List.drop_succ_cons, List.drop_zero]
  refine wpStill_load rfl 30 (.tmp 3) rfl _ _ rfl HL1.out ?_
  iterate 8 still_step
  refine wpStill_load rfl 30 (.tmp 17) rfl _ _ rfl HL2.out ?_
  refine wpStill_nil ?_
  clear HL1 HL2 hnum0
  go_wp2_with fail
  refine (sum_any b (rk W (R + 1)) _ HB.out (rk_length _ _)).mono ?_
  rintro e w1 ⟨rfl, k1⟩
  obtain ⟨C, hC⟩ : ∃ C, C = add (rk W (R + 1)) b := ⟨_, rfl⟩
  have HCL := Lib.hid (show C.length = 16 by rw [hC]; exact add_length _ _)
  have HDE := Lib.hid (show dec W R b = coming W (unsub (unrows C)) R by rw [hC, dec_eq])
  rw [← hC]
  clear hC
  have HS2 := Lib.hid (HS1.out.keep k1)
  clear HS1 k1
  go_wp2_with (refine wpList_store_blk rfl 30 (.tmp 3) (.tmp 19) rfl _ _ (bvs b) (bvs C) HS2.out.p rfl rfl (by rw [blen HB.out, blen HCL.out]) (bsize HCL.out) (bvs_one _) ?_; intro w2 hB2 k2 z2)
  have HS3 := Lib.hid (HS2.out.all hB2 k2)
  clear HS2 hB2 k2 z2
  go_wp2
  have hu1 : IntKind.i64.wrap ((R : Int) + 1 - 1) = (R : Int) := wrap_to _ _ (by omega) (by omega)
  have HS4 := Lib.hid (HS3.out.keep (Kp.refl nob w2).drew)
  clear HS3
  refine reg_begin (fun _ => True) (by kernel_rfl) trivial (fun _ => ?_)
  generalize w2.drew = we at *
  refine reg_take (v := .pointer (some ⟨g, 0, none⟩)) 2 (some 22) rfl rfl (by kernel_rfl) (by kernel_rfl) (by kernel_rfl) (by rfl) trivial (fun w hw => by go_simp) ?_
  simp only [Act.put, List.setIfInBounds_toArray, List.set_cons_zero, List.set_cons_succ]
  refine reg_take (v := .pointer (some ⟨g, 0, none⟩)) 3 (some 23) rfl rfl (by kernel_rfl) (by kernel_rfl) (by kernel_rfl) (by rfl) trivial (fun w hw => by go_simp) ?_
  simp only [Act.put, List.setIfInBounds_toArray, List.set_cons_zero, List.set_cons_succ]
  refine reg_take (v := .pointer (some ⟨g, 497, none⟩)) 4 (some 24) rfl rfl (by kernel_rfl) (by kernel_rfl) (by kernel_rfl) (by rfl) trivial (fun w hw => by go_simp) ?_
  simp only [Act.put, List.setIfInBounds_toArray, List.set_cons_zero, List.set_cons_succ]
  refine reg_loadNow 0 (some 20) 30 (.tmp 3) rfl rfl rfl (by kernel_rfl) (by rfl) trivial w.heap.size 0 rfl (bvs C) _ HS4.out.p.range arrB rfl (by rw [blen HCL.out]; kernel_rfl) ?_
  simp only [Act.put, List.setIfInBounds_toArray, List.set_cons_zero, List.set_cons_succ]
  refine reg_call 1 (some 21) rfl rfl (by kernel_rfl) (by rfl) _ _ (by go_simp; exact ⟨rfl, rfl⟩) ?_
  refine (turned_any C 3 _ HCL.out (by omega)).mono ?_
  rintro e w3 ⟨rfl, k3⟩
  rw [trn_three]
  refine ⟨_, rfl, trivial, fun _ => ?_⟩
  simp only [Act.put, List.setIfInBounds_toArray, List.set_cons_zero, List.set_cons_succ]
  refine reg_call 5 (some 25) rfl rfl (by kernel_rfl) (by rfl) _ _ (by go_simp; exact ⟨rfl, rfl⟩) ?_
  refine (swapped_any (unrows C) g 497 Field.back _ (unrows_length _) (HC.out.keep0 (HS4.out.keep k3).kp).back).mono ?_
  rintro e w4 ⟨rfl, k4⟩
  rw [← unsub_eq (unrows C)]
  have HS5 := Lib.hid ((HS4.out.keep k3).keep k4)
  clear HS4 k3 k4
  refine ⟨_, rfl, trivial, fun _ => ?_⟩
  simp only [Act.put, List.setIfInBounds_toArray, List.set_cons_zero, List.set_cons_succ]
  have HB0 := Lib.hid (unsub_length (unrows C))
  refine reg_store 6 none 30 (.tmp 3) (.tmp 25) rfl rfl rfl (by kernel_rfl) (by rfl) w.heap.size _ (bvs C) (bvs (unsub (unrows C))) HS5.out.p rfl rfl (by rw [blen HCL.out, blen HB0.out]) (bsize HB0.out) (bvs_one _) ?_
  intro w5 hB5 k5 z5
  have HS6 := Lib.hid (HS5.out.all hB5 k5)
  clear HS5 hB5 k5 z5
  refine ⟨trivial, fun _ => ?_⟩
  simp only [Act.put, List.setIfInBounds_toArray, List.set_cons_zero, List.set_cons_succ]
  refine reg_end (by kernel_rfl) ?_
  have hnum1 : w5.cell? ⟨g, 0, none⟩ = some (.int .i64 ((R : Int) + 1)) := (HC.out.keep0 HS6.out.kp).num
  go_wp2
  clear hnum1 hu1
  go_loopw [5] (fun vr wr => ∃ (i : Nat) (B : List UInt8), i ≤ R ∧ vr = .int .i64 i ∧ B.length = 16 ∧ dec W R b = coming W B i ∧ Sl w B wr)
    (fun vr _ => (intOf vr).toNat)
  case atStart => exact ⟨R, unsub (unrows C), by omega, rfl, HB0.out, HDE.out, HS6.out⟩
  case round =>
    obtain ⟨i, B, hi, rfl, hbl, hde, hs⟩ := hrel
    clear HDE
    have HS := Lib.hid hs; have HBL := Lib.hid hbl; have HDE := Lib.hid hde
    clear hs hbl hde HS6
    by_cases hlt : 0 < i
    · obtain ⟨j, rfl⟩ : ∃ j, i = j + 1 := ⟨i - 1, by omega⟩
      have hw : ((j + 1 : Nat) : Int) = (j : Int) + 1 := by omega
      have b1 : (0 : Int) ≤ (j : Int) + 1 ∧ (j : Int) + 1 < 15 := by omega
      have HDN := Lib.hid (show dec W R b = coming W (unsub (unrows (unmix (add (rk W (j + 1)) B)))) j by rw [HDE.out, coming_succ])
      have u1 : IntKind.i64.wrap ((j : Int) + 1 - 1) = (j : Int) := wrap_to _ _ (by omega) (by omega)
      clear HDE
      go_wp2
      refine wp_region_still_tail 7 (by kernel_rfl) (by kernel_rfl) ?_
      change wpStill _ _ wr.drew (fun a' => wpList _ _ _ _ a' wr.drew) _ _
      have HS1 := Lib.hid (HS.out.keep (Kp.refl nob wr).drew)
      clear HS
      generalize wr.drew = wd at *
      have HL1 := Lib.hid (load_b HS1.out (blen HBL.out))
      have HL2 := Lib.hid (load_k (HC.out.keep0 HS1.out.kp) (j + 1) (by omega))
      simp only [List.take_succ_cons, List.take_zero, List.drop_succ_cons, List.drop_zero]
      refine wpStill_load rfl 30 (.tmp 3) rfl _ _ rfl HL1.out ?_
      iterate 5 still_step
      refine wpStill_load rfl 30 (.tmp 40) rfl _ _ rfl HL2.out ?_
      refine wpStill_nil ?_
      clear HL1 HL2
      go_wp2_with fail
      refine (sum_any B (rk W (j + 1)) _ HBL.out (rk_length _ _)).mono ?_
      rintro e w1 ⟨rfl, k1⟩
      have HS2 := Lib.hid (HS1.out.keep k1)
      clear HS1 k1
      obtain ⟨D, hD⟩ : ∃ D, D = add (rk W (j + 1)) B := ⟨_, rfl⟩
      have HDL := Lib.hid (show D.length = 16 by rw [hD]; exact add_length _ _)
      rw [← hD] at HDN ⊢
      clear hD
      go_wp2_with (refine wpList_store_blk rfl 30 (.tmp 3) (.tmp 42) rfl _ _ (bvs B) (bvs D) HS2.out.p rfl rfl (by rw [blen HBL.out, blen HDL.out]) (bsize HDL.out) (bvs_one _) ?_; intro w2 hB2 k2 z2)
      have HS3 := Lib.hid (HS2.out.all hB2 k2)
      clear HS2 hB2 k2 z2
      go_wp2
      have HS4 := Lib.hid (HS3.out.keep (Kp.refl nob w2).drew)
      clear HS3
      refine reg_begin (fun _ => True) (by kernel_rfl) trivial (fun _ => ?_)
      generalize w2.drew = we at *
      refine reg_take (v := .pointer (some ⟨g, 0, none⟩)) 3 (some 46) rfl rfl (by kernel_rfl) (by kernel_rfl) (by kernel_rfl) (by rfl) trivial (fun w hw => by go_simp) ?_
      simp only [Act.put, List.setIfInBounds_toArray, List.set_cons_zero, List.set_cons_succ]
      refine reg_take (v := .pointer (some ⟨g, 0, none⟩)) 4 (some 47) rfl rfl (by kernel_rfl) (by kernel_rfl) (by kernel_rfl) (by rfl) trivial (fun w hw => by go_simp) ?_
      simp only [Act.put, List.setIfInBounds_toArray, List.set_cons_zero, List.set_cons_succ]
      refine reg_take (v := .pointer (some ⟨g, 497, none⟩)) 5 (some 48) rfl rfl (by kernel_rfl) (by kernel_rfl) (by kernel_rfl) (by rfl) trivial (fun w hw => by go_simp) ?_
      simp only [Act.put, List.setIfInBounds_toArray, List.set_cons_zero, List.set_cons_succ]
      refine reg_loadNow 0 (some 43) 30 (.tmp 3) rfl rfl rfl (by kernel_rfl) (by rfl) trivial w.heap.size 0 rfl (bvs D) _ HS4.out.p.range arrB rfl (by rw [blen HDL.out]; kernel_rfl) ?_
      simp only [Act.put, List.setIfInBounds_toArray, List.set_cons_zero, List.set_cons_succ]
      refine reg_call 1 (some 44) rfl rfl (by kernel_rfl) (by rfl) _ _ (by go_simp; exact ⟨rfl, rfl⟩) ?_
      refine (unmixed_any D _ HDL.out).mono ?_
      rintro e w3 ⟨rfl, k3⟩
      refine ⟨_, rfl, trivial, fun _ => ?_⟩
      simp only [Act.put, List.setIfInBounds_toArray, List.set_cons_zero, List.set_cons_succ]
      refine reg_call 2 (some 45) rfl rfl (by kernel_rfl) (by rfl) _ _ (by go_simp; exact ⟨rfl, rfl⟩) ?_
      refine (turned_any (unmix D) 3 _ (unmix_length _) (by omega)).mono ?_
      rintro e w4 ⟨rfl, k4⟩
      rw [trn_three]
      refine ⟨_, rfl, trivial, fun _ => ?_⟩
      simp only [Act.put, List.setIfInBounds_toArray, List.set_cons_zero, List.set_cons_succ]
      refine reg_call 6 (some 49) rfl rfl (by kernel_rfl) (by rfl) _ _ (by go_simp; exact ⟨rfl, rfl⟩) ?_
      refine (swapped_any (unrows (unmix D)) g 497 Field.back _ (unrows_length _) (HC.out.keep0 ((HS4.out.keep k3).keep k4).kp).back).mono ?_
      rintro e w5 ⟨rfl, k5⟩
      rw [← unsub_eq (unrows (unmix D))]
      have HS5 := Lib.hid (((HS4.out.keep k3).keep k4).keep k5)
      clear HS4 k3 k4 k5
      refine ⟨_, rfl, trivial, fun _ => ?_⟩
      simp only [Act.put, List.setIfInBounds_toArray, List.set_cons_zero, List.set_cons_succ]
      have HB1 := Lib.hid (unsub_length (unrows (unmix D)))
      refine reg_store 7 none 30 (.tmp 3) (.tmp 49) rfl rfl rfl (by kernel_rfl) (by rfl) w.heap.size _ (bvs D) (bvs (unsub (unrows (unmix D)))) HS5.out.p rfl rfl (by rw [blen HDL.out, blen HB1.out]) (bsize HB1.out) (bvs_one _) ?_
      intro w6 hB6 k6 z6
      have HS6 := Lib.hid (HS5.out.all hB6 k6)
      clear HS5 hB6 k6 z6
      refine ⟨trivial, fun _ => ?_⟩
      simp only [Act.put, List.setIfInBounds_toArray, List.set_cons_zero, List.set_cons_succ]
      refine reg_end (by kernel_rfl) ?_
      go_wp2
      exact ⟨⟨j, unsub (unrows (unmix D)), by omega, rfl, HB1.out, HDN.out, HS6.out⟩, by simp [intOf]⟩
    · obtain rfl : i = 0 := by omega
      have HDN := Lib.hid (show add (rk W 0) B = dec W R b by rw [HDE.out, coming_zero])
      have HEL := Lib.hid (dec_length W R b)
      clear HDE
      go_wp2
      refine wp_region_still_tail 6 (by kernel_rfl) (by kernel_rfl) ?_
      change wpStill _ _ wr.drew (fun a' => wpList _ _ _ _ a' wr.drew) _ _
      have HS1 := Lib.hid (HS.out.keep (Kp.refl nob wr).drew)
      clear HS
      generalize wr.drew = wd at *
      have HL1 := Lib.hid (load_b HS1.out (blen HBL.out))
      have HL2 := Lib.hid (load_k (HC.out.keep0 HS1.out.kp) 0 (by omega))
      simp only [List.take_succ_cons, List.take_zero, List.drop_succ_cons, List.drop_zero]
      refine wpStill_load rfl 30 (.tmp 3) rfl _ _ rfl HL1.out ?_
      iterate 4 still_step
      refine wpStill_load rfl 30 (.tmp 54) rfl _ _ rfl HL2.out ?_
      refine wpStill_nil ?_
      clear HL1 HL2
      go_wp2_with fail
      refine (sum_any B (rk W 0) _ HBL.out (rk_length _ _)).mono ?_
      rintro e w5 ⟨rfl, k5⟩
      rw [HDN.out]
      obtain ⟨z, hz, hbz⟩ := (HS1.out.keep k5).z
      have HZ := Lib.hid hz; have HBZ := Lib.hid hbz
      have HKP := Lib.hid (HS1.out.keep k5).kp
      clear HS1 k5 hz hbz
      go_wp2_with (refine wpList_store_blk rfl 30 (.tmp 4) (.tmp 56) rfl _ _ z (bvs (dec W R b)) HBZ.out rfl rfl (by rw [HZ.out, blen HEL.out]) (bsize HEL.out) (bvs_one _) ?_; intro w6 hB6 k6 z6)
      have hsz : (Tryd.prog.info? 30).map (·.size) = some (bvs (dec W R b)).toArray.size := by
        rw [List.size_toArray]; exact bsize HEL.out
      refine bodyPost_ret (results_cell_row rfl _ _ (w.heap.size + 1) _ _ _ _ rfl hB6 arrB rfl hsz) rfl ⟨rfl, HKP.out.since k6 (fun i e => by cases e; omega)⟩
end Go.Proofs.YtdoioldlaehkhaaDoor.Aes
