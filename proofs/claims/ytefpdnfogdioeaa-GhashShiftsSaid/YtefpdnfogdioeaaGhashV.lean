/- Contracts of the document's own GHASH: the product with x, products. -/
import Derived.Test.YtefpdnfogdioeaaGhashR
namespace Go.Proofs.Ytefpdnfogdioeaa.Ghash
set_option linter.unusedVariables false
set_option linter.unusedSimpArgs false
open Go Go.RowKit Kit
open Aes (gb tb tb_length gb_tb tb_gb tb_ext tb_eq arr16)
open Field (cb cb_inj)

/-- Three blocks of sixteen bytes, one behind the other, made by the call. -/
structure B3 (w : World) (a z o : List UInt8) (w2 : World) : Prop where
  a : Blk w2 w.heap.size 22 (bvs a)
  z : Blk w2 (w.heap.size + 1) 22 (bvs z)
  o : Blk w2 (w.heap.size + 2) 22 (bvs o)
  kp : Kp nob w w2
theorem B3.keep0 {w w2 w3 : World} {a z o : List UInt8} (h : B3 w a z o w2) (k : Kp nob w2 w3) : B3 w a z o w3 :=
  ⟨h.a.keep k (fun e => e), h.z.keep k (fun e => e), h.o.keep k (fun e => e), h.kp.trans k (fun _ e => e.elim)⟩
theorem B3.outO {w w2 w3 : World} {a z o o2 : List UInt8} (h : B3 w a z o w2) (k : Kp (oneB (w.heap.size + 2)) w2 w3) (ho : Blk w3 (w.heap.size + 2) 22 (bvs o2)) : B3 w a z o2 w3 :=
  ⟨h.a.keep k (fun e => by unfold oneB at e; omega), h.z.keep k (fun e => by unfold oneB at e; omega), ho, h.kp.since k (fun i e => by unfold oneB at e; omega)⟩
theorem B3.outA {w w2 w3 : World} {a z o a2 : List UInt8} (h : B3 w a z o w2) (k : Kp (oneB w.heap.size) w2 w3) (ha : Blk w3 w.heap.size 22 (bvs a2)) : B3 w a2 z o w3 :=
  ⟨ha, h.z.keep k (fun e => by unfold oneB at e; omega), h.o.keep k (fun e => by unfold oneB at e; omega), h.kp.since k (fun i e => by unfold oneB at e; omega)⟩
theorem none_tb : none16 = tb fun _ => 0 := by decide +kernel
theorem KQ_get (j : Nat) (h : j < 4) : (#[Value.int .i64 0, Value.int .i64 1, Value.int .i64 2, Value.int .i64 7] : Array Value)[j]? = some (.int .i64 ((KQ.getD j 0 : Nat) : Int)) := by
  have : j = 0 ∨ j = 1 ∨ j = 2 ∨ j = 3 := by omega
  rcases this with rfl | rfl | rfl | rfl <;> rfl
theorem KQ_le (j : Nat) : KQ.getD j 0 < 128 := by
  by_cases h : j < 4
  · have : j = 0 ∨ j = 1 ∨ j = 2 ∨ j = 3 := by omega
    rcases this with rfl | rfl | rfl | rfl <;> decide
  · have : KQ.getD j 0 = 0 := by rw [List.getD_eq_getElem?_getD, List.getElem?_eq_none (by simp [KQ]; omega)]; rfl
    omega
theorem arr4i : Try.prog.underlying 53 = some (.array 4 3) := by kernel_rfl
theorem len16 {b : List UInt8} (h : b.length = 16) : (bvs b).length = 16 := by rw [bvs_length, h]

set_option maxHeartbeats 2000000 in
set_option maxRecDepth 100000 in
theorem fShift (b : List UInt8) (w : World) (hb : b.length = 16) :
    Calls Try.prog 19 #[.agg (bvs b).toArray] w fun e w' => e = .returned (.agg (bvs (shift b)).toArray) ∧ Kp nob w w' := by
  have HL := Lib.hid (len16 hb)
  have HB := Lib.hid hb; clear hb
  have HS := Lib.hid (fun k => len16 (shp_length b k))
  have HZ := Lib.hid (len16 none_length)
  have HSH := Lib.hid (len16 (shift_length b))
  go_enter Try.func19, Try.ntmps19
  go_wp2
  go_loopw [4] (fun vk wr => ∃ k : Nat, k ≤ 127 ∧ vk = .int .i64 k ∧ B3 w b none16 (shp b k) wr)
    (fun vk _ => 127 - (intOf vk).toNat)
  case atStart => exact ⟨0, by omega, rfl, ⟨((Blk.new' rfl rfl).alloc _).alloc _, (Blk.new' (by simp) rfl).alloc _, by rw [shp_zero]; exact Blk.new' (by simp) rfl, (((Kp.refl _ _).alloc _).alloc _).alloc _⟩⟩
  case round =>
    obtain ⟨k, hk, rfl, h3⟩ := hrel
    have H3 := Lib.hid h3; clear h3
    by_cases hlt : k < 127
    · go_wp2_with (refine wpList_load_blk rfl 22 (.tmp 1) rfl _ _ _ H3.out.a rfl _ arr16 rfl (by rw [HL.out]; kernel_rfl) ?_)
      refine (fBit b k wr HB.out (by omega)).mono ?_
      rintro e w5 ⟨rfl, k5⟩
      have H5 := Lib.hid (H3.out.keep0 k5); clear k5
      by_cases hq : bit b k = 1
      · have HN := Lib.hid (shp_one b k hq)
        rw [decide_eq_true hq]
        clear hq
        go_wp2_with (refine wpList_load_blk rfl 22 (.tmp 3) rfl _ _ _ H5.out.o rfl _ arr16 rfl (by rw [HS.out]; kernel_rfl) ?_)
        refine (fFlip (shp b k) (k + 1) w5 (shp_length b k) (by omega)).mono ?_
        rintro e w6 ⟨rfl, k6⟩
        rw [← HN.out]
        have H6 := Lib.hid (H5.out.keep0 k6); clear k6
        go_wp2_with (refine wpList_store_blk rfl 22 (.tmp 3) (.tmp 17) rfl _ _ _ (bvs (shp b (k + 1))) H6.out.o rfl rfl (by rw [HS.out, HS.out]) (by rw [HS.out]; kernel_rfl) (bvs_one _) ?_; intro w7 hB7 k7 z7)
        have H7 := Lib.hid (H6.out.outO k7 hB7)
        clear hB7 k7 z7
        go_wp2
        go_roundw
        case rel => exact ⟨k + 1, by omega, by go_num, H7.out⟩
        case measure => simp [intOf]; omega
      · have HN := Lib.hid (shp_none b k hq)
        rw [decide_eq_false hq]
        clear hq
        go_wp2
        go_roundw
        case rel => exact ⟨k + 1, by omega, by go_num, by rw [HN.out]; exact H5.out⟩
        case measure => simp [intOf]; omega
    · have h3 := H3.out
      rw [show k = 127 by omega] at h3
      have H3 := Lib.hid h3; clear h3
      go_wp2_with (refine wpList_load_blk rfl 22 (.tmp 1) rfl _ _ _ H3.out.a rfl _ arr16 rfl (by rw [HL.out]; kernel_rfl) ?_)
      refine (fBit b 127 wr HB.out (by omega)).mono ?_
      rintro e w5 ⟨rfl, k5⟩
      have H5 := Lib.hid (H3.out.keep0 k5); clear k5
      by_cases hq : bit b 127 = 1
      · have HN := Lib.hid (shift_yes b hq)
        have HFL := Lib.hid (fun j => len16 ((fls_length (shp b 127) j).trans (shp_length b 127)))
        rw [decide_eq_true hq]
        clear hq
        go_wp2
        go_loopw [21] (fun vj wr => ∃ j : Nat, j ≤ 4 ∧ vj = .int .i64 j ∧ B3 w b none16 (fls (shp b 127) j) wr)
          (fun vj _ => 4 - (intOf vj).toNat)
        case atStart => exact ⟨0, by omega, rfl, by rw [fls_zero]; exact H5.out⟩
        case round =>
          obtain ⟨j, hj, rfl, h6⟩ := hrel
          have H6 := Lib.hid h6; clear h6
          by_cases hlj : j < 4
          · have hix := fun wx => run_index_agg (P := Try.prog) wx 53 3 4 _ .i64 j _ .i64 arr4i (by kernel_rfl) (by kernel_rfl) hlj (KQ_get j hlj)
            have hk := KQ_le j
            have HN2 := Lib.hid (fls_succ (shp b 127) j)
            generalize KQ.getD j 0 = q at *
            go_wp2_with (refine wpList_load_blk rfl 22 (.tmp 3) rfl _ _ _ H6.out.o rfl _ arr16 rfl (by rw [HFL.out]; kernel_rfl) ?_)
            refine (fFlip (fls (shp b 127) j) q _ ((fls_length _ _).trans (shp_length _ _)) hk).mono ?_
            rintro e w7 ⟨rfl, k7⟩
            rw [← HN2.out]
            have H7 := Lib.hid (H6.out.keep0 k7); clear k7
            go_wp2_with (refine wpList_store_blk rfl 22 (.tmp 3) (.tmp 26) rfl _ _ _ (bvs (fls (shp b 127) (j + 1))) H7.out.o rfl rfl (by rw [HFL.out, HFL.out]) (by rw [HFL.out]; kernel_rfl) (bvs_one _) ?_; intro w8 hB8 k8 z8)
            have H8 := Lib.hid (H7.out.outO k8 hB8)
            clear hB8 k8 z8
            go_wp2
            go_roundw
            case rel => exact ⟨j + 1, by omega, by go_num, H8.out⟩
            case measure => simp [intOf]; omega
          · have h6 := H6.out
            rw [show j = 4 by omega, HN.out] at h6
            have H7 := Lib.hid h6; clear h6
            go_wp2_with (first
              | (refine wpList_load_blk rfl 22 (.tmp 3) rfl _ _ _ H7.out.o rfl _ arr16 rfl (by rw [HSH.out]; kernel_rfl) ?_)
              | (refine wpList_store_blk rfl 22 (.tmp 2) (.tmp 28) rfl _ _ _ (bvs (shift b)) H7.out.z rfl rfl (by rw [HZ.out, HSH.out]) (by rw [HSH.out]; kernel_rfl) (bvs_one _) ?_; intro w2 hB2 k2 z2))
            have hsz : (Try.prog.info? 22).map (·.size) = some (bvs (shift b)).toArray.size := by
              rw [List.size_toArray, HSH.out]; kernel_rfl
            refine bodyPost_ret (results_cell_row rfl _ _ (w.heap.size + 1) _ _ _ _ rfl hB2 arr16 rfl hsz) rfl ⟨rfl, H7.out.kp.since k2 (fun i e => by cases e; omega)⟩
      · have h6 := H5.out
        rw [shift_no b hq] at h6
        have H7 := Lib.hid h6; clear h6
        rw [decide_eq_false hq]
        clear hq
        go_wp2_with (first
          | (refine wpList_load_blk rfl 22 (.tmp 3) rfl _ _ _ H7.out.o rfl _ arr16 rfl (by rw [HSH.out]; kernel_rfl) ?_)
          | (refine wpList_store_blk rfl 22 (.tmp 2) (.tmp 28) rfl _ _ _ (bvs (shift b)) H7.out.z rfl rfl (by rw [HZ.out, HSH.out]) (by rw [HSH.out]; kernel_rfl) (bvs_one _) ?_; intro w2 hB2 k2 z2))
        have hsz : (Try.prog.info? 22).map (·.size) = some (bvs (shift b)).toArray.size := by
          rw [List.size_toArray, HSH.out]; kernel_rfl
        refine bodyPost_ret (results_cell_row rfl _ _ (w.heap.size + 1) _ _ _ _ rfl hB2 arr16 rfl hsz) rfl ⟨rfl, H7.out.kp.since k2 (fun i e => by cases e; omega)⟩
end Go.Proofs.Ytefpdnfogdioeaa.Ghash
