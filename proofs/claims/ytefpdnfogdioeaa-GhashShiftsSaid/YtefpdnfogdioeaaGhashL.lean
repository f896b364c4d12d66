/- What the laws of layer 7 ask first: products that the document tells. -/
import Derived.Test.YtefpdnfogdioeaaGhashH
import Derived.Test.YtefpdnfogdioeaaRegV
namespace Go.Proofs.Ytefpdnfogdioeaa.Ghash
set_option linter.unusedVariables false
set_option linter.unusedSimpArgs false
open Go Go.RowKit Kit
open Aes (gb tb tb_length gb_tb tb_gb tb_ext tb_eq blk_byte arr16)
open Field (cb cb_inj)

/-- Two blocks that stand, and all that was there. -/
structure R2 (w : World) (g : Nat) (a : List UInt8) (h : Nat) (b : List UInt8) (w2 : World) : Prop where
  kp : Kp nob w w2
  a : w2.rangeAt g 0 (bvs a)
  b : w2.rangeAt h 0 (bvs b)
theorem R2.keep {w w2 w3 : World} {a b : List UInt8} {g h : Nat} (x : R2 w g a h b w2) (k : Kp nob w2 w3) : R2 w g a h b w3 := ⟨x.kp.trans k (fun _ e => e.elim), range_keep x.a k (fun e => e), range_keep x.b k (fun e => e)⟩
/-- The block 1 2 3 0 .. -/
def b123 : List UInt8 := 1 :: 2 :: 3 :: List.replicate 13 0
set_option maxHeartbeats 2000000 in
set_option maxRecDepth 100000 in
theorem alive_yes (w : World) :
    Calls Try.prog 9 #[] w fun e w' => e = .returned (.bool true) ∧ Kp nob w w' := by
  obtain ⟨X, hX⟩ : ∃ X, X = b123 := ⟨_, rfl⟩
  have HX := Lib.hid (show X.length = 16 by rw [hX]; rfl)
  have HXL := Lib.hid (show (bvs X).length = 16 from len16 HX.out)
  have HL1 := Lib.hid (show (bvs one16).length = 16 from rfl)
  have HO := Lib.hid (one_tms X HX.out)
  have HN := Lib.hid (sum_nil X)
  have q1 := fun w => eqB_same X HX.out w
  have q2 := fun w => eqB_same none16 none_length w
  have HB : Hid (∀ w2 : World, R2 w w.heap.size one16 (w.heap.size + 1) b123 w2 → R2 w w.heap.size one16 (w.heap.size + 1) X w2) := Lib.hid (fun w2 h => by rw [hX]; exact h)
  clear hX
  go_enter Try.func9, Try.ntmps9
  go_wp2
  refine reg_start (fun w' => R2 w w.heap.size one16 (w.heap.size + 1) X w') (by kernel_rfl) (HB.out _ (R2.keep ⟨?a0, ?a1, ?a2⟩ (Kp.refl nob _).drew)) (fun w3 hS => ?_)
  case a0 => exact ((Kp.refl nob w).alloc _).alloc _
  case a1 => exact ((show Blk _ _ _ (bvs one16) from Blk.new' rfl rfl).alloc _).range
  case a2 => exact (show Blk _ _ _ (bvs b123) from Blk.new' (by simp) rfl).range
  have HS0 := Lib.hid hS
  clear hS HB
  refine reg_load 0 (some 5) 24 (.tmp 1) rfl rfl rfl (by kernel_rfl) (by kernel_rfl) (by kernel_rfl) (by rfl) HS0.out (w.heap.size) 0 rfl (bvs one16) _ (fun _ x => x.a) arrB rfl (by rw [HL1.out]; kernel_rfl) ?_
  simp only [Act.put, List.setIfInBounds_toArray, List.set_cons_zero, List.set_cons_succ]
  refine reg_load 1 (some 6) 24 (.tmp 2) rfl rfl rfl (by kernel_rfl) (by kernel_rfl) (by kernel_rfl) (by rfl) HS0.out (w.heap.size + 1) 0 rfl (bvs X) _ (fun _ x => x.b) arrB rfl (by rw [HXL.out]; kernel_rfl) ?_
  simp only [Act.put, List.setIfInBounds_toArray, List.set_cons_zero, List.set_cons_succ]
  refine reg_load 3 (some 8) 24 (.tmp 2) rfl rfl rfl (by kernel_rfl) (by kernel_rfl) (by kernel_rfl) (by rfl) HS0.out (w.heap.size + 1) 0 rfl (bvs X) _ (fun _ x => x.b) arrB rfl (by rw [HXL.out]; kernel_rfl) ?_
  simp only [Act.put, List.setIfInBounds_toArray, List.set_cons_zero, List.set_cons_succ]
  refine reg_call 2 (some 7) rfl rfl (by kernel_rfl) (by rfl) _ _ (exec_func 10 _ _ [.agg (bvs one16).toArray, .agg (bvs X).toArray] rfl (by kernel_rfl) rfl) ?_
  refine (times_any one16 X _ one_length HX.out).mono ?_
  rintro e w4 ⟨rfl, k4⟩
  rw [HO.out]
  have HS1 := Lib.hid (HS0.out.keep k4)
  clear HS0 k4
  refine ⟨_, rfl, HS1.out, fun _ => ?_⟩
  simp only [Act.put, List.setIfInBounds_toArray, List.set_cons_zero, List.set_cons_succ]
  refine reg_take (v := .bool true) 4 (some 9) rfl rfl (by kernel_rfl) (by kernel_rfl) (by kernel_rfl) (by rfl) HS1.out (fun w hw => by go_simp) ?_
  simp only [Act.put, List.setIfInBounds_toArray, List.set_cons_zero, List.set_cons_succ]
  refine reg_take (v := .bool true) 5 (some 10) rfl rfl (by kernel_rfl) (by kernel_rfl) (by kernel_rfl) (by rfl) HS1.out (fun w hw => by go_simp) ?_
  simp only [Act.put, List.setIfInBounds_toArray, List.set_cons_zero, List.set_cons_succ]
  refine reg_load 6 (some 11) 24 (.tmp 2) rfl rfl rfl (by kernel_rfl) (by kernel_rfl) (by kernel_rfl) (by rfl) HS1.out (w.heap.size + 1) 0 rfl (bvs X) _ (fun _ x => x.b) arrB rfl (by rw [HXL.out]; kernel_rfl) ?_
  simp only [Act.put, List.setIfInBounds_toArray, List.set_cons_zero, List.set_cons_succ]
  refine reg_take (v := .agg (bvs none16).toArray) 8 (some 13) rfl rfl (by kernel_rfl) (by kernel_rfl) (by kernel_rfl) (by rfl) HS1.out (fun w hw => by go_simp; rfl) ?_
  simp only [Act.put, List.setIfInBounds_toArray, List.set_cons_zero, List.set_cons_succ]
  refine reg_call 7 (some 12) rfl rfl (by kernel_rfl) (by rfl) _ _ (exec_func 17 _ _ [.agg (bvs X).toArray, .slice none 0 0, .slice none 0 0] rfl (by kernel_rfl) rfl) ?_
  refine (of_any X [] [] none 0 0 none 0 0 _ HX.out rfl (Nat.le_refl _) (by omega) (Row.nil _ _) rfl (Nat.le_refl _) (by omega) (Row.nil _ _)).mono ?_
  rintro e w5 ⟨rfl, k5⟩
  rw [HN.out]
  have HS2 := Lib.hid (HS1.out.keep k5)
  clear HS1 k5
  refine ⟨_, rfl, HS2.out, fun _ => ?_⟩
  simp only [Act.put, List.setIfInBounds_toArray, List.set_cons_zero, List.set_cons_succ]
  refine reg_take (v := .bool true) 9 (some 14) rfl rfl (by kernel_rfl) (by kernel_rfl) (by kernel_rfl) (by rfl) HS2.out (fun w hw => by go_simp) ?_
  simp only [Act.put, List.setIfInBounds_toArray, List.set_cons_zero, List.set_cons_succ]
  refine reg_take (v := .bool true) 10 (some 15) rfl rfl (by kernel_rfl) (by kernel_rfl) (by kernel_rfl) (by rfl) HS2.out (fun w hw => by go_simp) ?_
  simp only [Act.put, List.setIfInBounds_toArray, List.set_cons_zero, List.set_cons_succ]
  refine reg_take (v := .bool true) 11 (some 0) rfl rfl (by kernel_rfl) (by kernel_rfl) (by kernel_rfl) (by rfl) HS2.out (fun w hw => by go_simp) ?_
  simp only [Act.put, List.setIfInBounds_toArray, List.set_cons_zero, List.set_cons_succ]
  refine reg_end (by kernel_rfl) ?_
  go_wp2
  go_ret
  exact ⟨rfl, HS2.out.kp⟩
end Go.Proofs.Ytefpdnfogdioeaa.Ghash
