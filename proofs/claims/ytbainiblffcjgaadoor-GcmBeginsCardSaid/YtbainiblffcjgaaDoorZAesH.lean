/- Contracts of package aes: a block under a key. -/
import Derived.Test.YtbainiblffcjgaaDoorZAesG
namespace Go.Proofs.YtbainiblffcjgaaDoor.Aes
set_option linter.unusedVariables false
set_option linter.unusedSimpArgs false
open Go Go.RowKit Kit
open Field (cb cb_inj)

/-- What stands while a block is sealed, or opened: the block, the answer. -/
structure Sl (w : World) (B : List UInt8) (w2 : World) : Prop where
  p : Blk w2 w.heap.size 51 (bvs B)
  z : ∃ z : List Value, z.length = 16 ∧ Blk w2 (w.heap.size + 1) 51 z
  kp : Kp nob w w2
theorem Sl.keep {w w2 w3 : World} {B : List UInt8} (h : Sl w B w2) (k : Kp nob w2 w3) : Sl w B w3 :=
  ⟨h.p.keep k (fun e => e), (let ⟨z, hz, hb⟩ := h.z; ⟨z, hz, hb.keep k (fun e => e)⟩), h.kp.trans k (fun _ e => e.elim)⟩
theorem Sl.all {w w2 w3 : World} {B C : List UInt8} (h : Sl w B w2) (hB : Blk w3 w.heap.size 51 (bvs C)) (k : Kp (oneB w.heap.size) w2 w3) : Sl w C w3 :=
  ⟨hB, (let ⟨z, hz, hb⟩ := h.z; ⟨z, hz, hb.keep k (fun e => by unfold oneB at e; omega)⟩), h.kp.since k (fun i e => by unfold oneB at e; omega)⟩
theorem Sl.new (w : World) (B : List UInt8) : Sl w B ((w.alloc (.cells (bvs B).toArray 51)).alloc (.cells #[.int .u8 0, .int .u8 0, .int .u8 0, .int .u8 0, .int .u8 0, .int .u8 0, .int .u8 0, .int .u8 0, .int .u8 0, .int .u8 0, .int .u8 0, .int .u8 0, .int .u8 0, .int .u8 0, .int .u8 0, .int .u8 0] 51)) :=
  ⟨(Blk.new w _ _).alloc _, ⟨bvs noughts, rfl, Blk.new' (by simp) rfl⟩, ((Kp.refl nob w).alloc _).alloc _⟩
theorem load_b {w w2 : World} {B : List UInt8} (h : Sl w B w2) (hB : (bvs B).length = 16) : (Instr.loadAt 51 (.pointer (some ⟨w.heap.size, 0, none⟩))).run Tryd.prog w2 = .ok (.agg (bvs B).toArray) w2 :=
  run_loadAt_mid w2 _ 0 _ (bvs B) _ h.p.range arrB rfl (by rw [hB]; kernel_rfl)
theorem load_k {w : World} {g R : Nat} {W : List UInt8} (h : Ciph w g W R) (r : Nat) (hr : r ≤ R + 1) : (Instr.loadAt 51 (.pointer (some ⟨g, 1 + r * 16, none⟩))).run Tryd.prog w = .ok (.agg (bvs (rk W r)).toArray) w :=
  run_loadAt_mid w _ _ _ (bvs (rk W r)) _ (h.key r hr) arrB rfl (by rw [bvs_length, rk_length]; kernel_rfl)
theorem blen {B : List UInt8} (h : B.length = 16) : (bvs B).length = 16 := by rw [bvs_length, h]
theorem bsize {B : List UInt8} (h : B.length = 16) : (Tryd.prog.info? 51).map (·.size) = some (bvs B).length := by rw [blen h]; kernel_rfl

set_option maxHeartbeats 1000000 in
set_option maxRecDepth 100000 in
theorem seal_nil (b : List UInt8) (w : World) (hb : b.length = 16) :
    Calls Tryd.prog 30 #[.pointer none, .agg (bvs b).toArray] w fun e w' => e = .returned (.agg (bvs noughts).toArray) ∧ Kp nob w w' := by
  have HB := Lib.hid hb; clear hb
  have HS := Lib.hid (Sl.new w b)
  go_enter Tryd.func30, Tryd.ntmps30
  go_wp2
  have hB : Blk ((w.alloc (.cells (bvs b).toArray 51)).alloc (.cells #[.int .u8 0, .int .u8 0, .int .u8 0, .int .u8 0, .int .u8 0, .int .u8 0, .int .u8 0, .int .u8 0, .int .u8 0, .int .u8 0, .int .u8 0, .int .u8 0, .int .u8 0, .int .u8 0, .int .u8 0, .int .u8 0] 51)) (w.heap.size + 1) 51 (bvs noughts) := Blk.new' (by simp) rfl
  have hsz : (Tryd.prog.info? 51).map (·.size) = some (bvs noughts).toArray.size := by kernel_rfl
  refine bodyPost_ret (results_cell_row rfl _ _ (w.heap.size + 1) _ _ _ _ rfl hB arrB rfl hsz) rfl ⟨rfl, HS.out.kp⟩
set_option maxHeartbeats 2000000 in
set_option maxRecDepth 100000 in
theorem seal_any (b W : List UInt8) (g R : Nat) (w : World) (hb : b.length = 16) (hc : Ciph w g W R) :
    Calls Tryd.prog 30 #[.pointer (some ⟨g, 0, none⟩), .agg (bvs b).toArray] w fun e w' => e = .returned (.agg (bvs (enc W R b)).toArray) ∧ Kp nob w w' := by
  have HB := Lib.hid hb; clear hb
  have HC := Lib.hid hc
  have h13 := hc.r
  clear hc
  have HS := Lib.hid (Sl.new w b)
  go_enter Tryd.func30, Tryd.ntmps30
  go_wp2
  refine wp_region_still_tail 6 (by kernel_rfl) (by kernel_rfl) ?_
  generalize hw0 : (w.alloc (.cells (bvs b).toArray 51)).alloc (.cells #[.int .u8 0, .int .u8 0, .int .u8 0, .int .u8 0, .int .u8 0, .int .u8 0, .int .u8 0, .int .u8 0, .int .u8 0, .int .u8 0, .int .u8 0, .int .u8 0, .int .u8 0, .int .u8 0, .int .u8 0, .int .u8 0] 51) = w0 at *
  change wpStill _ _ w0.drew (fun a' => wpList _ _ _ _ a' w0.drew) _ _
  have HS1 := Lib.hid (HS.out.keep (Kp.refl nob w0).drew)
  clear HS hw0
  generalize w0.drew = wd at *
  have HL1 := Lib.hid (load_b HS1.out (blen HB.out))
  have HL2 := Lib.hid (load_k (HC.out.keep0 HS1.out.kp) 0 (by omega))
  simp only [List.take_succ_cons, List.take_zero, List.drop_succ_cons, List.drop_zero]
  refine wpStill_load rfl 51 (.tmp 3) rfl _ _ rfl HL1.out ?_
  iterate 4 still_step
  refine wpStill_load rfl 51 (.tmp 13) rfl _ _ rfl HL2.out ?_
  refine wpStill_nil ?_
  clear HL1 HL2
  go_wp2_with fail
  refine (sum_any b (rk W 0) _ HB.out (rk_length _ _)).mono ?_
  rintro e w1 ⟨rfl, k1⟩
  rw [← going_zero W b]
  have HG := Lib.hid (fun i => going_length W b i)
  have HS2 := Lib.hid (HS1.out.keep k1)
  clear HS1 k1
  go_wp2_with (refine wpList_store_blk rfl 51 (.tmp 3) (.tmp 15) rfl _ _ (bvs b) (bvs (going W b 0)) HS2.out.p rfl rfl (by rw [blen HB.out, blen (HG.out 0)]) (bsize (HG.out 0)) (bvs_one _) ?_; intro w2 hB2 k2 z2)
  have HS3 := Lib.hid (HS2.out.all hB2 k2)
  clear HS2 hB2 k2 z2
  go_wp2
  go_loopw [5] (fun vr wr => ∃ i : Nat, i ≤ R ∧ vr = .int .i64 ((i : Int) + 1) ∧ Sl w (going W b i) wr)
    (fun vr _ => R + 5 - (intOf vr).toNat)
  case atStart => exact ⟨0, by omega, rfl, HS3.out⟩
  case round =>
    obtain ⟨i, hi, rfl, hs⟩ := hrel
    have HS := Lib.hid hs; clear hs HS3
    have hnum := (HC.out.keep0 HS.out.kp).num
    have hnum' : wr.cell? ⟨g, 0, none⟩ = some (.int .i64 ((R : Int) + 1)) := hnum
    clear hnum
    obtain ⟨B, hB⟩ : ∃ B, B = going W b i := ⟨_, rfl⟩
    rw [← hB] at HS
    have HBL := Lib.hid (show B.length = 16 by rw [hB]; exact HG.out i)
    by_cases hlt : i < R
    · have HU := Lib.hid (going_succ W b i)
      rw [← hB] at HU
      have HBD := Lib.hid hB; clear hB
      have b1 : (0 : Int) ≤ (i : Int) + 1 ∧ (i : Int) + 1 < 15 := by omega
      go_wp2
      refine wp_region_still_tail 4 (by kernel_rfl) (by kernel_rfl) ?_
      change wpStill _ _ wr.drew (fun a' => wpList _ _ _ _ a' wr.drew) _ _
      have HS1 := Lib.hid (HS.out.keep (Kp.refl nob wr).drew)
      clear HS hnum'
      generalize wr.drew = wd at *
      have HL1 := Lib.hid (load_b HS1.out (blen HBL.out))
      simp only [List.take_succ_cons, List.take_zero, List.drop_succ_cons, List.drop_zero]
      refine wpStill_load rfl 51 (.tmp 3) rfl _ _ rfl HL1.out ?_
      iterate 3 still_step
      refine wpStill_nil ?_
      clear HL1
      go_wp2_with fail
      refine (swapped_any B g 241 Field.box _ HBL.out (HC.out.keep0 HS1.out.kp).box).mono ?_
      rintro e w1 ⟨rfl, k1⟩
      rw [← sub_eq B]
      go_wp2_with fail
      refine (turned_any (sub B) 1 _ (sub_length _) (by omega)).mono ?_
      rintro e w2 ⟨rfl, k2⟩
      rw [trn_one]
      go_wp2_with fail
      refine (mixed_any (rows (sub B)) _ (rows_length _)).mono ?_
      rintro e w3 ⟨rfl, k3⟩
      have HS2 := Lib.hid (((HS1.out.keep k1).keep k2).keep k3)
      clear HS1 k1 k2 k3
      obtain ⟨C, hC⟩ : ∃ C, C = mix (rows (sub B)) := ⟨_, rfl⟩
      have HCL := Lib.hid (show C.length = 16 by rw [hC]; exact mix_length _)
      rw [← hC] at HU ⊢
      clear hC
      go_wp2_with (refine wpList_store_blk rfl 51 (.tmp 3) (.tmp 30) rfl _ _ (bvs B) (bvs C) HS2.out.p rfl rfl (by rw [blen HBL.out, blen HCL.out]) (bsize HCL.out) (bvs_one _) ?_; intro w4 hB4 k4 z4)
      have HS3 := Lib.hid (HS2.out.all hB4 k4)
      clear HS2 hB4 k4 z4
      go_wp2
      refine wp_region_still_tail 7 (by kernel_rfl) (by kernel_rfl) ?_
      change wpStill _ _ w4.drew (fun a' => wpList _ _ _ _ a' w4.drew) _ _
      have HS4 := Lib.hid (HS3.out.keep (Kp.refl nob w4).drew)
      clear HS3
      generalize w4.drew = we at *
      have HL1 := Lib.hid (load_b HS4.out (blen HCL.out))
      have HL2 := Lib.hid (load_k (HC.out.keep0 HS4.out.kp) (i + 1) (by omega))
      simp only [List.take_succ_cons, List.take_zero, List.drop_succ_cons, List.drop_zero]
      refine wpStill_load rfl 51 (.tmp 3) rfl _ _ rfl HL1.out ?_
      iterate 5 still_step
      refine wpStill_load rfl 51 (.tmp 36) rfl _ _ rfl HL2.out ?_
      refine wpStill_nil ?_
      clear HL1 HL2
      go_wp2_with fail
      refine (sum_any C (rk W (i + 1)) _ HCL.out (rk_length _ _)).mono ?_
      rintro e w5 ⟨rfl, k5⟩
      rw [← HU.out]
      have HS5 := Lib.hid (HS4.out.keep k5)
      clear HS4 k5
      go_wp2_with (refine wpList_store_blk rfl 51 (.tmp 3) (.tmp 38) rfl _ _ (bvs C) (bvs (going W b (i + 1))) HS5.out.p rfl rfl (by rw [blen HCL.out, blen (HG.out (i + 1))]) (bsize (HG.out (i + 1))) (bvs_one _) ?_; intro w6 hB6 k6 z6)
      have HS6 := Lib.hid (HS5.out.all hB6 k6)
      clear HS5 hB6 k6 z6
      go_wp2
      exact ⟨⟨i + 1, by omega, by go_num, HS6.out⟩, by simp [intOf]; omega⟩
    · have HU := Lib.hid (enc_eq W R b)
      rw [show R = i by omega, ← hB] at HU
      obtain rfl : i = R := by omega
      clear hB
      have HEL := Lib.hid (enc_length W i b)
      have b1 : (0 : Int) ≤ (i : Int) + 1 ∧ (i : Int) + 1 < 15 := by omega
      go_wp2
      refine wp_region_still_tail 4 (by kernel_rfl) (by kernel_rfl) ?_
      change wpStill _ _ wr.drew (fun a' => wpList _ _ _ _ a' wr.drew) _ _
      have HS1 := Lib.hid (HS.out.keep (Kp.refl nob wr).drew)
      clear HS hnum'
      generalize wr.drew = wd at *
      have HL1 := Lib.hid (load_b HS1.out (blen HBL.out))
      simp only [List.take_succ_cons, List.take_zero, List.drop_succ_cons, List.drop_zero]
      refine wpStill_load rfl 51 (.tmp 3) rfl _ _ rfl HL1.out ?_
      iterate 3 still_step
      refine wpStill_nil ?_
      clear HL1
      go_wp2_with fail
      refine (swapped_any B g 241 Field.box _ HBL.out (HC.out.keep0 HS1.out.kp).box).mono ?_
      rintro e w1 ⟨rfl, k1⟩
      rw [← sub_eq B]
      go_wp2_with fail
      refine (turned_any (sub B) 1 _ (sub_length _) (by omega)).mono ?_
      rintro e w2 ⟨rfl, k2⟩
      rw [trn_one]
      have HS2 := Lib.hid ((HS1.out.keep k1).keep k2)
      clear HS1 k1 k2
      obtain ⟨C, hC⟩ : ∃ C, C = rows (sub B) := ⟨_, rfl⟩
      have HCL := Lib.hid (show C.length = 16 by rw [hC]; exact rows_length _)
      rw [← hC] at HU ⊢
      clear hC
      go_wp2_with (refine wpList_store_blk rfl 51 (.tmp 3) (.tmp 44) rfl _ _ (bvs B) (bvs C) HS2.out.p rfl rfl (by rw [blen HBL.out, blen HCL.out]) (bsize HCL.out) (bvs_one _) ?_; intro w4 hB4 k4 z4)
      have HS3 := Lib.hid (HS2.out.all hB4 k4)
      clear HS2 hB4 k4 z4
      go_wp2
      refine wp_region_still_tail 10 (by kernel_rfl) (by kernel_rfl) ?_
      change wpStill _ _ w4.drew (fun a' => wpList _ _ _ _ a' w4.drew) _ _
      have HS4 := Lib.hid (HS3.out.keep (Kp.refl nob w4).drew)
      clear HS3
      generalize w4.drew = we at *
      have HL1 := Lib.hid (load_b HS4.out (blen HCL.out))
      have HL2 := Lib.hid (load_k (HC.out.keep0 HS4.out.kp) (i + 1) (by omega))
      have hnum2 : we.cell? ⟨g, 0, none⟩ = some (.int .i64 ((i : Int) + 1)) := (HC.out.keep0 HS4.out.kp).num
      simp only [List.take_succ_cons, List.take_zero, List.drop_succ_cons, List.drop_zero]
      refine wpStill_load rfl 51 (.tmp 3) rfl _ _ rfl HL1.out ?_
      iterate 8 still_step
      refine wpStill_load rfl 51 (.tmp 53) rfl _ _ rfl HL2.out ?_
      refine wpStill_nil ?_
      clear HL1 HL2 hnum2
      go_wp2_with fail
      refine (sum_any C (rk W (i + 1)) _ HCL.out (rk_length _ _)).mono ?_
      rintro e w5 ⟨rfl, k5⟩
      rw [← HU.out]
      obtain ⟨z, hz, hbz⟩ := (HS4.out.keep k5).z
      have HZ := Lib.hid hz; have HBZ := Lib.hid hbz
      have HKP := Lib.hid (HS4.out.keep k5).kp
      clear HS4 k5 hz hbz
      go_wp2_with (refine wpList_store_blk rfl 51 (.tmp 4) (.tmp 55) rfl _ _ z (bvs (enc W i b)) HBZ.out rfl rfl (by rw [HZ.out, blen HEL.out]) (bsize HEL.out) (bvs_one _) ?_; intro w6 hB6 k6 z6)
      have hsz : (Tryd.prog.info? 51).map (·.size) = some (bvs (enc W i b)).toArray.size := by
        rw [List.size_toArray]; exact bsize HEL.out
      refine bodyPost_ret (results_cell_row rfl _ _ (w.heap.size + 1) _ _ _ _ rfl hB6 arrB rfl hsz) rfl ⟨rfl, HKP.out.since k6 (fun i e => by cases e; omega)⟩
end Go.Proofs.YtbainiblffcjgaaDoor.Aes
