/- GhashTimes: Times answers the product that the document defines. -/
import Derived.Test.YtefpdnfogdioeaaGhashL
namespace Go.Proofs.Ytefpdnfogdioeaa.Ghash
set_option linter.unusedVariables false
set_option linter.unusedSimpArgs false
open Go Go.RowKit Kit
open Aes (gb tb tb_length gb_tb tb_gb tb_ext tb_eq blk_byte arr16)
open Field (cb cb_inj)

set_option maxHeartbeats 2000000 in
set_option maxRecDepth 100000 in
theorem times_walk (a b : List UInt8) (w : World) (ha : a.length = 16) (hb : b.length = 16) :
    Calls Try.prog 3 #[.agg (bvs a).toArray, .agg (bvs b).toArray] w fun e w' => e = .returned (.bool true) ∧ Kp nob w w' := by
  have HA := Lib.hid ha; have HB := Lib.hid hb; clear ha hb
  have HAL := Lib.hid (len16 HA.out); have HBL := Lib.hid (len16 HB.out)
  obtain ⟨X, hX⟩ : ∃ X, X = tms a b := ⟨_, rfl⟩
  have q1 := fun w => eqB_same X (by rw [hX]; exact tms_length a b) w
  have HX := Lib.hid hX; clear hX
  have H0 : Hid (R2 w w.heap.size a (w.heap.size + 1) b ((w.alloc (.cells (bvs a).toArray 22)).alloc (.cells (bvs b).toArray 22))) := Lib.hid ⟨((Kp.refl nob w).alloc _).alloc _, ((show Blk _ _ _ (bvs a) from Blk.new' rfl rfl).alloc _).range, (show Blk _ _ _ (bvs b) from Blk.new' (by simp) rfl).range⟩
  go_enter Try.func3, Try.ntmps3
  go_wp2_with fail
  refine (alive_yes _).mono ?_
  rintro e w1 ⟨rfl, k1⟩
  have H1 := Lib.hid (H0.out.keep k1)
  clear H0 k1
  go_wp2
  refine reg_start (fun w' => R2 w w.heap.size a (w.heap.size + 1) b w') (by kernel_rfl) (H1.out.keep (Kp.refl nob _).drew) (fun w3 hS => ?_)
  have HS0 := Lib.hid hS
  clear hS H1
  refine reg_load 0 (some 7) 22 (.tmp 2) rfl rfl rfl (by kernel_rfl) (by kernel_rfl) (by kernel_rfl) (by rfl) HS0.out (w.heap.size) 0 rfl (bvs a) _ (fun _ x => x.a) arr16 rfl (by rw [HAL.out]; kernel_rfl) ?_
  simp only [Act.put, List.setIfInBounds_toArray, List.set_cons_zero, List.set_cons_succ]
  refine reg_load 1 (some 8) 22 (.tmp 3) rfl rfl rfl (by kernel_rfl) (by kernel_rfl) (by kernel_rfl) (by rfl) HS0.out (w.heap.size + 1) 0 rfl (bvs b) _ (fun _ x => x.b) arr16 rfl (by rw [HBL.out]; kernel_rfl) ?_
  simp only [Act.put, List.setIfInBounds_toArray, List.set_cons_zero, List.set_cons_succ]
  refine reg_load 3 (some 10) 22 (.tmp 2) rfl rfl rfl (by kernel_rfl) (by kernel_rfl) (by kernel_rfl) (by rfl) HS0.out (w.heap.size) 0 rfl (bvs a) _ (fun _ x => x.a) arr16 rfl (by rw [HAL.out]; kernel_rfl) ?_
  simp only [Act.put, List.setIfInBounds_toArray, List.set_cons_zero, List.set_cons_succ]
  refine reg_load 4 (some 11) 22 (.tmp 3) rfl rfl rfl (by kernel_rfl) (by kernel_rfl) (by kernel_rfl) (by rfl) HS0.out (w.heap.size + 1) 0 rfl (bvs b) _ (fun _ x => x.b) arr16 rfl (by rw [HBL.out]; kernel_rfl) ?_
  simp only [Act.put, List.setIfInBounds_toArray, List.set_cons_zero, List.set_cons_succ]
  refine reg_call 2 (some 9) rfl rfl (by kernel_rfl) (by rfl) _ _ (exec_func 10 _ _ [.agg (bvs a).toArray, .agg (bvs b).toArray] rfl (by kernel_rfl) rfl) ?_
  refine (times_any a b _ HA.out HB.out).mono ?_
  rintro e w4 ⟨rfl, k4⟩
  rw [← HX.out]
  have HS1 := Lib.hid (HS0.out.keep k4)
  clear HS0 k4
  refine ⟨_, rfl, HS1.out, fun _ => ?_⟩
  simp only [Act.put, List.setIfInBounds_toArray, List.set_cons_zero, List.set_cons_succ]
  refine reg_call 5 (some 12) rfl rfl (by kernel_rfl) (by rfl) _ _ (exec_func 11 _ _ [.agg (bvs a).toArray, .agg (bvs b).toArray] rfl (by kernel_rfl) rfl) ?_
  refine (fTimes a b _ HA.out HB.out).mono ?_
  rintro e w5 ⟨rfl, k5⟩
  rw [← HX.out]
  have HS2 := Lib.hid (HS1.out.keep k5)
  clear HS1 k5
  refine ⟨_, rfl, HS2.out, fun _ => ?_⟩
  simp only [Act.put, List.setIfInBounds_toArray, List.set_cons_zero, List.set_cons_succ]
  refine reg_take (v := .bool true) 6 (some 13) rfl rfl (by kernel_rfl) (by kernel_rfl) (by kernel_rfl) (by rfl) HS2.out (fun w hw => by go_simp) ?_
  simp only [Act.put, List.setIfInBounds_toArray, List.set_cons_zero, List.set_cons_succ]
  refine reg_take (v := .bool true) 7 (some 4) rfl rfl (by kernel_rfl) (by kernel_rfl) (by kernel_rfl) (by rfl) HS2.out (fun w hw => by go_simp) ?_
  simp only [Act.put, List.setIfInBounds_toArray, List.set_cons_zero, List.set_cons_succ]
  refine reg_end (by kernel_rfl) ?_
  go_wp2
  go_ret
  exact ⟨rfl, HS2.out.kp⟩
end Go.Proofs.Ytefpdnfogdioeaa.Ghash
