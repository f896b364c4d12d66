/- Contracts of package ghash: products. -/
import Derived.Test.YtefpdnfogdioeaaGhashB
import Derived.Test.YtefpdnfogdioeaaRegS
import Derived.Test.YtefpdnfogdioeaaRegU
namespace Go.Proofs.Ytefpdnfogdioeaa.Ghash
set_option linter.unusedVariables false
set_option linter.unusedSimpArgs false
open Go Go.RowKit Kit
open Aes (gb tb tb_length gb_tb tb_gb tb_ext tb_eq pt pt_all pt_zero pt_get pt_set bvs_setb blk_byte arr16)
open Field (cb cb_inj)

/-- What stands while a product is made. -/
structure P4 (w : World) (a b s : List UInt8) (w2 : World) : Prop where
  a : Blk w2 w.heap.size 45 (ev a)
  b : Blk w2 (w.heap.size + 1) 45 (ev b)
  r : ∃ z, z.length = 2 ∧ Blk w2 (w.heap.size + 2) 45 z
  s : Blk w2 (w.heap.size + 3) 45 (ev s)
  kp : Kp nob w w2
theorem P4.keep {w w2 w3 : World} {a b s : List UInt8} {F : Nat → Prop} (x : P4 w a b s w2) (k : Kp F w2 w3) (hF : ∀ i, F i → w.heap.size + 3 < i) : P4 w a b s w3 :=
  ⟨x.a.keep k (fun e => by have := hF _ e; omega), x.b.keep k (fun e => by have := hF _ e; omega), (x.r.elim fun z y => ⟨z, y.1, y.2.keep k (fun e => by have := hF _ e; omega)⟩), x.s.keep k (fun e => by have := hF _ e; omega), x.kp.since k (fun i e => by have := hF i e; omega)⟩
theorem P4.outS {w w2 w3 : World} {a b s s2 : List UInt8} (x : P4 w a b s w2) (k : Kp (oneB (w.heap.size + 3)) w2 w3) (hs : Blk w3 (w.heap.size + 3) 45 (ev s2)) : P4 w a b s2 w3 :=
  ⟨x.a.keep k (fun e => by unfold oneB at e; omega), x.b.keep k (fun e => by unfold oneB at e; omega), (x.r.elim fun z y => ⟨z, y.1, y.2.keep k (fun e => by unfold oneB at e; omega)⟩), hs, x.kp.since k (fun i e => by unfold oneB at e; omega)⟩
theorem P4.outA {w w2 w3 : World} {a b s a2 : List UInt8} (x : P4 w a b s w2) (k : Kp (oneB w.heap.size) w2 w3) (ha : Blk w3 w.heap.size 45 (ev a2)) : P4 w a2 b s w3 :=
  ⟨ha, x.b.keep k (fun e => by unfold oneB at e; omega), (x.r.elim fun z y => ⟨z, y.1, y.2.keep k (fun e => by unfold oneB at e; omega)⟩), x.s.keep k (fun e => by unfold oneB at e; omega), x.kp.since k (fun i e => by unfold oneB at e; omega)⟩
theorem prod_keep2 (a b : List UInt8) (k : Nat) : plus (prod b a k) (keep (shifts a k) (bit b k)) = prod b a (k + 1) := prod_keep b a k

set_option maxHeartbeats 2000000 in
set_option maxRecDepth 100000 in
theorem product_any (a b : List UInt8) (w : World) (ha : a.length = 16) (hb : b.length = 16) :
    Calls Try.prog 21 #[.agg (ev a).toArray, .agg (ev b).toArray] w fun e w' => e = .returned (.agg (ev (tms a b)).toArray) ∧ Kp nob w w' := by
  have HT := Lib.hid (show prod b a 128 = tms a b by rw [prod_tms, tms_comm])
  have HA := Lib.hid ha; clear ha hb
  go_enter Try.func21, Try.ntmps21
  go_wp2
  go_loopw [7] (fun vi wr => ∃ k : Nat, k ≤ 128 ∧ vi = .int .i64 k ∧ P4 w (shifts a k) b (prod b a k) wr)
    (fun vi _ => 128 - (intOf vi).toNat)
  case atStart => exact ⟨0, by omega, rfl, ⟨by rw [shifts_zero]; exact (((Blk.new' rfl rfl).alloc _).alloc _).alloc _, (((Blk.new' (by simp) rfl)).alloc _).alloc _, ⟨_, rfl, (Blk.new' (by simp) rfl).alloc _⟩, Blk.new' (by simp) (by rw [prod_zero, ev_eq, hi_none, lo_none, dw_zero]), ((((Kp.refl _ _).alloc _).alloc _).alloc _).alloc _⟩⟩
  case round =>
    obtain ⟨k, hk, rfl, h3⟩ := hrel
    have H3 := Lib.hid h3; clear h3
    by_cases hlt : k < 128
    · have HP := Lib.hid (prod_keep2 a b k)
      have HSH := Lib.hid (shifts_succ a k)
      have hq := bit_lt b k
      have HE := Lib.hid ev_length
      go_wp2
      have H8 := Lib.hid (H3.out.keep (Kp.refl nob wr).drew (fun _ e => e.elim))
      have hS0 : ∃ s', P4 w (shifts a k) b s' wr.drew := ⟨_, H8.out⟩
      refine reg_begin (fun w' => ∃ s', P4 w (shifts a k) b s' w') (by kernel_rfl) hS0 (fun _ => ?_)
      generalize wr.drew = w7 at *
      refine reg_load 1 (some 11) 45 (.tmp 2) rfl rfl rfl (by kernel_rfl) (by kernel_rfl) (by kernel_rfl) (by rfl) (by assumption) w.heap.size 0 rfl (ev (shifts a k)) _ (fun _ x => x.elim fun _ y => y.a.range) elU rfl (by rw [HE.out]; kernel_rfl) ?_
      simp only [Act.put, List.setIfInBounds_toArray, List.set_cons_zero, List.set_cons_succ]
      refine reg_load 2 (some 12) 45 (.tmp 3) rfl rfl rfl (by kernel_rfl) (by kernel_rfl) (by kernel_rfl) (by rfl) (by assumption) (w.heap.size + 1) 0 rfl (ev b) _ (fun _ x => x.elim fun _ y => y.b.range) elU rfl (by rw [HE.out]; kernel_rfl) ?_
      simp only [Act.put, List.setIfInBounds_toArray, List.set_cons_zero, List.set_cons_succ]
      refine reg_take 3 (some 13) rfl rfl (by kernel_rfl) (by kernel_rfl) (by kernel_rfl) (by rfl) (by assumption) (v := .int .i64 k) (fun _ _ => by go_simp) ?_
      simp only [Act.put, List.setIfInBounds_toArray, List.set_cons_zero, List.set_cons_succ]
      refine reg_loadOr 0 4 (some 10) (some 14) 45 (.tmp 5) rfl rfl rfl rfl rfl (by kernel_rfl) (by rfl) (by rfl) (by assumption) (w.heap.size + 3) 0 rfl (ev (prod b a k)) _ H8.out.s.range elU rfl (by rw [HE.out]; kernel_rfl) _ _ (exec_func 29 _ _ [.agg (ev b).toArray, .int .i64 k] rfl (by kernel_rfl) rfl) ?_ ?_
      · simp only [Act.put, List.setIfInBounds_toArray, List.set_cons_zero, List.set_cons_succ]
        refine reg_call 4 (some 14) rfl rfl (by kernel_rfl) (by rfl) _ _ (exec_func 29 _ _ [.agg (ev b).toArray, .int .i64 k] rfl (by kernel_rfl) rfl) ?_
        refine (bit_any b k w7 hlt).mono ?_
        rintro e w8 ⟨rfl, k8⟩
        have H9 := Lib.hid (H8.out.keep k8 (fun _ e => e.elim))
        refine ⟨_, rfl, ⟨_, H9.out⟩, fun _ => ?_⟩
        simp only [Act.put, List.setIfInBounds_toArray, List.set_cons_zero, List.set_cons_succ]
        refine reg_call 5 (some 15) rfl rfl (by kernel_rfl) (by rfl) _ _ (exec_func 28 _ _ [.agg (ev (shifts a k)).toArray, .int .u64 (dw (UInt64.ofNat (bit b k)))] rfl (by kernel_rfl) rfl) ?_
        refine (kept_any (shifts a k) (bit b k) w8 hq).mono ?_
        rintro e w9 ⟨rfl, k9⟩
        have H10 := Lib.hid (H9.out.keep k9 (fun _ e => e.elim))
        refine ⟨_, rfl, ⟨_, H10.out⟩, fun _ => ?_⟩
        simp only [Act.put, List.setIfInBounds_toArray, List.set_cons_zero, List.set_cons_succ]
        refine reg_call 6 (some 16) rfl rfl (by kernel_rfl) (by rfl) _ _ (exec_func 27 _ _ [.agg (ev (prod b a k)).toArray, .agg (ev (keep (shifts a k) (bit b k))).toArray] rfl (by kernel_rfl) rfl) ?_
        refine (plus_any (prod b a k) (keep (shifts a k) (bit b k)) w9).mono ?_
        rintro e w10 ⟨rfl, k10⟩
        rw [HP.out]
        have H11 := Lib.hid (H10.out.keep k10 (fun _ e => e.elim))
        refine ⟨_, rfl, ⟨_, H11.out⟩, fun _ => ?_⟩
        simp only [Act.put, List.setIfInBounds_toArray, List.set_cons_zero, List.set_cons_succ]
        refine reg_store 7 none 45 (.tmp 5) (.tmp 16) rfl rfl rfl (by kernel_rfl) (by rfl) (w.heap.size + 3) _ _ (ev (prod b a (k + 1))) H11.out.s rfl rfl (by rw [HE.out, HE.out]) (by rw [HE.out]; kernel_rfl) (oneCell_ev _) ?_
        intro w12 hB12 k12 z12
        have H20 := Lib.hid (H11.out.outS k12 hB12)
        refine ⟨⟨_, H20.out⟩, fun _ => ?_⟩
        simp only [Act.put, List.setIfInBounds_toArray, List.set_cons_zero, List.set_cons_succ]
        refine reg_end (by kernel_rfl) ?_
        clear hB12 k12 z12
        go_wp2_with (refine wpList_load_blk rfl 45 (.tmp 2) rfl _ _ _ H20.out.a rfl _ elU rfl (by rw [HE.out]; kernel_rfl) ?_)
        refine (next_any (shifts a k) w12).mono ?_
        rintro e w13 ⟨rfl, k13⟩
        rw [← HSH.out]
        have H21 := Lib.hid (H20.out.keep k13 (fun _ e => e.elim))
        go_wp2_with (refine wpList_store_blk rfl 45 (.tmp 2) (.tmp 18) rfl _ _ _ (ev (shifts a (k + 1))) H21.out.a rfl rfl (by rw [HE.out, HE.out]) (by rw [HE.out]; kernel_rfl) (oneCell_ev _) ?_; intro w14 hB14 k14 z14)
        have H22 := Lib.hid (H21.out.outA k14 hB14)
        clear hB14 k14 z14
        go_wp2
        go_roundw
        case rel => exact ⟨k + 1, by omega, by go_num, H22.out⟩
        case measure => simp [intOf]; omega
      · refine (bit_any b k w7 hlt).mono ?_
        rintro e w8 ⟨rfl, k8⟩
        have H9 := Lib.hid (H8.out.keep k8 (fun _ e => e.elim))
        refine ⟨_, rfl, ⟨_, H9.out⟩, fun _ => ?_⟩
        simp only [Act.put, List.setIfInBounds_toArray, List.set_cons_zero, List.set_cons_succ]
        refine reg_loadOr 0 5 (some 10) (some 15) 45 (.tmp 5) rfl rfl rfl rfl rfl (by kernel_rfl) (by rfl) (by rfl) (by assumption) (w.heap.size + 3) 0 rfl (ev (prod b a k)) _ H9.out.s.range elU rfl (by rw [HE.out]; kernel_rfl) _ _ (exec_func 28 _ _ [.agg (ev (shifts a k)).toArray, .int .u64 (dw (UInt64.ofNat (bit b k)))] rfl (by kernel_rfl) rfl) ?_ ?_
        · simp only [Act.put, List.setIfInBounds_toArray, List.set_cons_zero, List.set_cons_succ]
          refine reg_call 5 (some 15) rfl rfl (by kernel_rfl) (by rfl) _ _ (exec_func 28 _ _ [.agg (ev (shifts a k)).toArray, .int .u64 (dw (UInt64.ofNat (bit b k)))] rfl (by kernel_rfl) rfl) ?_
          refine (kept_any (shifts a k) (bit b k) w8 hq).mono ?_
          rintro e w9 ⟨rfl, k9⟩
          have H10 := Lib.hid (H9.out.keep k9 (fun _ e => e.elim))
          refine ⟨_, rfl, ⟨_, H10.out⟩, fun _ => ?_⟩
          simp only [Act.put, List.setIfInBounds_toArray, List.set_cons_zero, List.set_cons_succ]
          refine reg_call 6 (some 16) rfl rfl (by kernel_rfl) (by rfl) _ _ (exec_func 27 _ _ [.agg (ev (prod b a k)).toArray, .agg (ev (keep (shifts a k) (bit b k))).toArray] rfl (by kernel_rfl) rfl) ?_
          refine (plus_any (prod b a k) (keep (shifts a k) (bit b k)) w9).mono ?_
          rintro e w10 ⟨rfl, k10⟩
          rw [HP.out]
          have H11 := Lib.hid (H10.out.keep k10 (fun _ e => e.elim))
          refine ⟨_, rfl, ⟨_, H11.out⟩, fun _ => ?_⟩
          simp only [Act.put, List.setIfInBounds_toArray, List.set_cons_zero, List.set_cons_succ]
          refine reg_store 7 none 45 (.tmp 5) (.tmp 16) rfl rfl rfl (by kernel_rfl) (by rfl) (w.heap.size + 3) _ _ (ev (prod b a (k + 1))) H11.out.s rfl rfl (by rw [HE.out, HE.out]) (by rw [HE.out]; kernel_rfl) (oneCell_ev _) ?_
          intro w12 hB12 k12 z12
          have H20 := Lib.hid (H11.out.outS k12 hB12)
          refine ⟨⟨_, H20.out⟩, fun _ => ?_⟩
          simp only [Act.put, List.setIfInBounds_toArray, List.set_cons_zero, List.set_cons_succ]
          refine reg_end (by kernel_rfl) ?_
          clear hB12 k12 z12
          go_wp2_with (refine wpList_load_blk rfl 45 (.tmp 2) rfl _ _ _ H20.out.a rfl _ elU rfl (by rw [HE.out]; kernel_rfl) ?_)
          refine (next_any (shifts a k) w12).mono ?_
          rintro e w13 ⟨rfl, k13⟩
          rw [← HSH.out]
          have H21 := Lib.hid (H20.out.keep k13 (fun _ e => e.elim))
          go_wp2_with (refine wpList_store_blk rfl 45 (.tmp 2) (.tmp 18) rfl _ _ _ (ev (shifts a (k + 1))) H21.out.a rfl rfl (by rw [HE.out, HE.out]) (by rw [HE.out]; kernel_rfl) (oneCell_ev _) ?_; intro w14 hB14 k14 z14)
          have H22 := Lib.hid (H21.out.outA k14 hB14)
          clear hB14 k14 z14
          go_wp2
          go_roundw
          case rel => exact ⟨k + 1, by omega, by go_num, H22.out⟩
          case measure => simp [intOf]; omega
        · refine (kept_any (shifts a k) (bit b k) w8 hq).mono ?_
          rintro e w9 ⟨rfl, k9⟩
          have H10 := Lib.hid (H9.out.keep k9 (fun _ e => e.elim))
          refine ⟨_, rfl, ⟨_, H10.out⟩, fun _ => ?_⟩
          simp only [Act.put, List.setIfInBounds_toArray, List.set_cons_zero, List.set_cons_succ]
          refine reg_loadNow 0 (some 10) 45 (.tmp 5) rfl rfl rfl (by kernel_rfl) (by rfl) (by assumption) (w.heap.size + 3) 0 rfl (ev (prod b a k)) _ H10.out.s.range elU rfl (by rw [HE.out]; kernel_rfl) ?_
          simp only [Act.put, List.setIfInBounds_toArray, List.set_cons_zero, List.set_cons_succ]
          refine reg_call 6 (some 16) rfl rfl (by kernel_rfl) (by rfl) _ _ (exec_func 27 _ _ [.agg (ev (prod b a k)).toArray, .agg (ev (keep (shifts a k) (bit b k))).toArray] rfl (by kernel_rfl) rfl) ?_
          refine (plus_any (prod b a k) (keep (shifts a k) (bit b k)) w9).mono ?_
          rintro e w10 ⟨rfl, k10⟩
          rw [HP.out]
          have H11 := Lib.hid (H10.out.keep k10 (fun _ e => e.elim))
          refine ⟨_, rfl, ⟨_, H11.out⟩, fun _ => ?_⟩
          simp only [Act.put, List.setIfInBounds_toArray, List.set_cons_zero, List.set_cons_succ]
          refine reg_store 7 none 45 (.tmp 5) (.tmp 16) rfl rfl rfl (by kernel_rfl) (by rfl) (w.heap.size + 3) _ _ (ev (prod b a (k + 1))) H11.out.s rfl rfl (by rw [HE.out, HE.out]) (by rw [HE.out]; kernel_rfl) (oneCell_ev _) ?_
          intro w12 hB12 k12 z12
          have H20 := Lib.hid (H11.out.outS k12 hB12)
          refine ⟨⟨_, H20.out⟩, fun _ => ?_⟩
          simp only [Act.put, List.setIfInBounds_toArray, List.set_cons_zero, List.set_cons_succ]
          refine reg_end (by kernel_rfl) ?_
          clear hB12 k12 z12
          go_wp2_with (refine wpList_load_blk rfl 45 (.tmp 2) rfl _ _ _ H20.out.a rfl _ elU rfl (by rw [HE.out]; kernel_rfl) ?_)
          refine (next_any (shifts a k) w12).mono ?_
          rintro e w13 ⟨rfl, k13⟩
          rw [← HSH.out]
          have H21 := Lib.hid (H20.out.keep k13 (fun _ e => e.elim))
          go_wp2_with (refine wpList_store_blk rfl 45 (.tmp 2) (.tmp 18) rfl _ _ _ (ev (shifts a (k + 1))) H21.out.a rfl rfl (by rw [HE.out, HE.out]) (by rw [HE.out]; kernel_rfl) (oneCell_ev _) ?_; intro w14 hB14 k14 z14)
          have H22 := Lib.hid (H21.out.outA k14 hB14)
          clear hB14 k14 z14
          go_wp2
          go_roundw
          case rel => exact ⟨k + 1, by omega, by go_num, H22.out⟩
          case measure => simp [intOf]; omega
    · obtain rfl : k = 128 := by omega
      obtain ⟨z, hz, h2⟩ := H3.out.r
      have h3 := H3.out.s
      rw [HT.out] at h3
      have H4 := Lib.hid h3
      have HZ := Lib.hid hz; have H2 := Lib.hid h2
      clear h3 hz h2
      go_wp2_with (first
        | (refine wpList_load_blk rfl 45 (.tmp 5) rfl _ _ _ H4.out rfl _ elU rfl (by rw [ev_length]; kernel_rfl) ?_)
        | (refine wpList_store_blk rfl 45 (.tmp 4) (.tmp 20) rfl _ _ z (ev (tms a b)) H2.out rfl rfl (by rw [HZ.out, ev_length]) (by rw [ev_length]; kernel_rfl) (oneCell_ev _) ?_; intro w2 hB2 k2 z2))
      refine bodyPost_ret (results_cell_row rfl _ _ (w.heap.size + 2) _ _ _ _ rfl hB2 elU rfl (elS _)) rfl ⟨rfl, H3.out.kp.since k2 (fun i e => by cases e; omega)⟩
end Go.Proofs.Ytefpdnfogdioeaa.Ghash
