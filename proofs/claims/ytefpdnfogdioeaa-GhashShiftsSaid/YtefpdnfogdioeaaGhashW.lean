/- Contracts of the document's own GHASH: products. -/
import Derived.Test.YtefpdnfogdioeaaGhashV
namespace Go.Proofs.Ytefpdnfogdioeaa.Ghash
set_option linter.unusedVariables false
set_option linter.unusedSimpArgs false
open Go Go.RowKit Kit
open Aes (gb tb tb_length gb_tb tb_gb tb_ext tb_eq arr16)
open Field (cb cb_inj)

/-- Four blocks of sixteen bytes, one behind the other, made by the call. -/
structure B4 (w : World) (a b z o : List UInt8) (w2 : World) : Prop where
  a : Blk w2 w.heap.size 22 (bvs a)
  b : Blk w2 (w.heap.size + 1) 22 (bvs b)
  z : Blk w2 (w.heap.size + 2) 22 (bvs z)
  o : Blk w2 (w.heap.size + 3) 22 (bvs o)
  kp : Kp nob w w2
theorem B4.keep0 {w w2 w3 : World} {a b z o : List UInt8} (h : B4 w a b z o w2) (k : Kp nob w2 w3) : B4 w a b z o w3 :=
  ⟨h.a.keep k (fun e => e), h.b.keep k (fun e => e), h.z.keep k (fun e => e), h.o.keep k (fun e => e), h.kp.trans k (fun _ e => e.elim)⟩
theorem B4.outO {w w2 w3 : World} {a b z o o2 : List UInt8} (h : B4 w a b z o w2) (k : Kp (oneB (w.heap.size + 3)) w2 w3) (ho : Blk w3 (w.heap.size + 3) 22 (bvs o2)) : B4 w a b z o2 w3 :=
  ⟨h.a.keep k (fun e => by unfold oneB at e; omega), h.b.keep k (fun e => by unfold oneB at e; omega), h.z.keep k (fun e => by unfold oneB at e; omega), ho, h.kp.since k (fun i e => by unfold oneB at e; omega)⟩
theorem B4.outB {w w2 w3 : World} {a b z o b2 : List UInt8} (h : B4 w a b z o w2) (k : Kp (oneB (w.heap.size + 1)) w2 w3) (hb : Blk w3 (w.heap.size + 1) 22 (bvs b2)) : B4 w a b2 z o w3 :=
  ⟨h.a.keep k (fun e => by unfold oneB at e; omega), hb, h.z.keep k (fun e => by unfold oneB at e; omega), h.o.keep k (fun e => by unfold oneB at e; omega), h.kp.since k (fun i e => by unfold oneB at e; omega)⟩

set_option maxHeartbeats 2000000 in
set_option maxRecDepth 100000 in
theorem fTimes (a b : List UInt8) (w : World) (ha : a.length = 16) (hb : b.length = 16) :
    Calls Try.prog 11 #[.agg (bvs a).toArray, .agg (bvs b).toArray] w fun e w' => e = .returned (.agg (bvs (tms a b)).toArray) ∧ Kp nob w w' := by
  have HA := Lib.hid (len16 ha)
  have HAL := Lib.hid ha
  have HS := Lib.hid (fun k => len16 (shifts_length b hb k))
  have HSL := Lib.hid (fun k => shifts_length b hb k)
  have HP := Lib.hid (fun k => len16 (prod_length a b k))
  have HZ := Lib.hid (len16 none_length)
  have HT := Lib.hid (prod_tms a b)
  have HTL := Lib.hid (len16 (tms_length a b))
  clear ha hb
  go_enter Try.func11, Try.ntmps11
  go_wp2
  go_loopw [6] (fun vk wr => ∃ k : Nat, k ≤ 128 ∧ vk = .int .i64 k ∧ B4 w a (shifts b k) none16 (prod a b k) wr)
    (fun vk _ => 128 - (intOf vk).toNat)
  case atStart => exact ⟨0, by omega, rfl, ⟨(((Blk.new' rfl rfl).alloc _).alloc _).alloc _, by rw [shifts_zero]; exact ((Blk.new' (by simp) rfl).alloc _).alloc _, (Blk.new' (by simp) rfl).alloc _, by rw [prod_zero]; exact Blk.new' (by simp) rfl, ((((Kp.refl _ _).alloc _).alloc _).alloc _).alloc _⟩⟩
  case round =>
    obtain ⟨k, hk, rfl, h3⟩ := hrel
    have H3 := Lib.hid h3; clear h3
    by_cases hlt : k < 128
    · go_wp2_with (refine wpList_load_blk rfl 22 (.tmp 2) rfl _ _ _ H3.out.a rfl _ arr16 rfl (by rw [HA.out]; kernel_rfl) ?_)
      refine (fBit a k wr HAL.out hlt).mono ?_
      rintro e w5 ⟨rfl, k5⟩
      have H5 := Lib.hid (H3.out.keep0 k5); clear k5
      have HSH := Lib.hid (shifts_succ b k)
      by_cases hq : bit a k = 1
      · have HN := Lib.hid (prod_one a b k hq)
        rw [decide_eq_true hq]
        clear hq
        go_wp2_with (first
          | (refine wpList_load_blk rfl 22 (.tmp 5) rfl _ _ _ H5.out.o rfl _ arr16 rfl (by rw [HP.out]; kernel_rfl) ?_)
          | (refine wpList_load_blk rfl 22 (.tmp 3) rfl _ _ _ H5.out.b rfl _ arr16 rfl (by rw [HS.out]; kernel_rfl) ?_))
        refine (fPlus (prod a b k) (shifts b k) w5 (prod_length _ _ _) (HSL.out k)).mono ?_
        rintro e w6 ⟨rfl, k6⟩
        rw [← HN.out]
        have H6 := Lib.hid (H5.out.keep0 k6); clear k6
        go_wp2_with (first
          | (refine wpList_store_blk rfl 22 (.tmp 5) (.tmp 16) rfl _ _ _ (bvs (prod a b (k + 1))) H6.out.o rfl rfl (by rw [HP.out, HP.out]) (by rw [HP.out]; kernel_rfl) (bvs_one _) ?_
             intro w7 hB7 k7 z7
             have H7 := Lib.hid (H6.out.outO k7 hB7)
             clear hB7 k7 z7)
          | (refine wpList_load_blk rfl 22 (.tmp 3) rfl _ _ _ H7.out.b rfl _ arr16 rfl (by rw [HS.out]; kernel_rfl) ?_))
        refine (fShift (shifts b k) w7 (HSL.out k)).mono ?_
        rintro e w8 ⟨rfl, k8⟩
        rw [← HSH.out]
        have H8 := Lib.hid (H7.out.keep0 k8); clear k8
        go_wp2_with (refine wpList_store_blk rfl 22 (.tmp 3) (.tmp 18) rfl _ _ _ (bvs (shifts b (k + 1))) H8.out.b rfl rfl (by rw [HS.out, HS.out]) (by rw [HS.out]; kernel_rfl) (bvs_one _) ?_; intro w9 hB9 k9 z9)
        have H9 := Lib.hid (H8.out.outB k9 hB9)
        clear hB9 k9 z9
        go_wp2
        go_roundw
        case rel => exact ⟨k + 1, by omega, by go_num, H9.out⟩
        case measure => simp [intOf]; omega
      · have HN := Lib.hid (prod_no a b k hq)
        rw [decide_eq_false hq]
        clear hq
        go_wp2_with (refine wpList_load_blk rfl 22 (.tmp 3) rfl _ _ _ H5.out.b rfl _ arr16 rfl (by rw [HS.out]; kernel_rfl) ?_)
        refine (fShift (shifts b k) w5 (HSL.out k)).mono ?_
        rintro e w8 ⟨rfl, k8⟩
        rw [← HSH.out]
        have H8 := Lib.hid (H5.out.keep0 k8); clear k8
        go_wp2_with (refine wpList_store_blk rfl 22 (.tmp 3) (.tmp 18) rfl _ _ _ (bvs (shifts b (k + 1))) H8.out.b rfl rfl (by rw [HS.out, HS.out]) (by rw [HS.out]; kernel_rfl) (bvs_one _) ?_; intro w9 hB9 k9 z9)
        have H9 := Lib.hid (H8.out.outB k9 hB9)
        clear hB9 k9 z9
        go_wp2
        go_roundw
        case rel => exact ⟨k + 1, by omega, by go_num, by rw [HN.out]; exact H9.out⟩
        case measure => simp [intOf]; omega
    · have h6 := H3.out
      rw [show k = 128 by omega, HT.out] at h6
      have H7 := Lib.hid h6; clear h6
      go_wp2_with (first
        | (refine wpList_load_blk rfl 22 (.tmp 5) rfl _ _ _ H7.out.o rfl _ arr16 rfl (by rw [HTL.out]; kernel_rfl) ?_)
        | (refine wpList_store_blk rfl 22 (.tmp 4) (.tmp 19) rfl _ _ _ (bvs (tms a b)) H7.out.z rfl rfl (by rw [HZ.out, HTL.out]) (by rw [HTL.out]; kernel_rfl) (bvs_one _) ?_; intro w2 hB2 k2 z2))
      have hsz : (Try.prog.info? 22).map (·.size) = some (bvs (tms a b)).toArray.size := by
        rw [List.size_toArray, HTL.out]; kernel_rfl
      refine bodyPost_ret (results_cell_row rfl _ _ (w.heap.size + 2) _ _ _ _ rfl hB2 arr16 rfl hsz) rfl ⟨rfl, H7.out.kp.since k2 (fun i e => by cases e; omega)⟩
end Go.Proofs.Ytefpdnfogdioeaa.Ghash
