/- Contracts of the document's own GHASH: bits, sums, the product with x, products. -/
import Derived.Test.YtefpdnfogdioeaaAesRB
import Derived.Test.YtefpdnfogdioeaaGhashT
namespace Go.Proofs.Ytefpdnfogdioeaa.Ghash
set_option linter.unusedVariables false
set_option linter.unusedSimpArgs false
open Go Go.RowKit Kit
open Aes (gb tb tb_length gb_tb tb_gb tb_ext tb_eq pt pt_all pt_zero pt_get pt_set bvs_setb blk_byte arr16)
open Field (cb cb_inj wrap64_in bit_tmod u8_shl)

theorem bit_cb (b : List UInt8) (i : Nat) (q : Nat) (h : bit b i = q) : (cb (gb b (i / 8)) / 2 ^ (7 - i % 8)).tmod 2 = (q : Int) := by
  rw [cb]; exact bit_tmod _ _ _ h
set_option maxHeartbeats 1000000 in
set_option maxRecDepth 100000 in
theorem fBit (b : List UInt8) (i : Nat) (w : World) (hb : b.length = 16) (hi : i < 128) :
    Calls Try.prog 23 #[.agg (bvs b).toArray, .int .i64 i] w fun e w' => e = .returned (.bool (decide (bit b i = 1))) ∧ Kp nob w w' := by
  obtain ⟨q, hq⟩ : ∃ q, bit b i = q := ⟨_, rfl⟩
  have e1 := bit_cb b i q hq
  have hbk := Blk.new w 22 (bvs b)
  have hx := blk_byte hbk (i / 8) (by omega)
  have HB := Lib.hid hb
  rw [hq]
  clear hq hb hbk
  go_enter Try.func23, Try.ntmps23
  have e2 : ((q : Int) == 1) = decide (q = 1) := by
    by_cases h : q = 1
    · subst h; rfl
    · rw [decide_eq_false h]; exact beq_eq_false_iff_ne.2 (by omega)
  go_wp2
  go_ret
  exact ⟨by rw [← e2]; rfl, (Kp.refl nob w).alloc _⟩
set_option maxHeartbeats 1000000 in
set_option maxRecDepth 100000 in
theorem fPlus (a b : List UInt8) (w : World) (ha : a.length = 16) (hb : b.length = 16) :
    Calls Try.prog 12 #[.agg (bvs a).toArray, .agg (bvs b).toArray] w fun e w' => e = .returned (.agg (bvs (plus a b)).toArray) ∧ Kp nob w w' := by
  have HA := Lib.hid ha; have HB := Lib.hid hb; clear ha hb
  go_enter Try.func12, Try.ntmps12
  go_wp2
  go_loopw [6] (fun vi wr => ∃ k : Nat, k ≤ 16 ∧ vi = .int .i64 k ∧ Blk wr w.heap.size 22 (bvs (pt (fun i => gb a i ^^^ gb b i) (gb a) k)) ∧ Blk wr (w.heap.size + 1) 22 (bvs b) ∧ (∃ z, z.length = 16 ∧ Blk wr (w.heap.size + 2) 22 z) ∧ Kp nob w wr)
    (fun vi _ => 16 - (intOf vi).toNat)
  case atStart => exact ⟨0, by omega, rfl, by rw [pt_zero, tb_gb _ HA.out]; simpa using ((Blk.new' rfl rfl).alloc _).alloc _, (Blk.new' (by simp) rfl).alloc _, ⟨_, rfl, Blk.new' (by simp) rfl⟩, (((Kp.refl _ _).alloc _).alloc _).alloc _⟩
  case round =>
    obtain ⟨k, hk, rfl, h1, h3, h2, hkp⟩ := hrel
    have H1 := Lib.hid h1; have H2 := Lib.hid h2; have H3 := Lib.hid h3; clear h1 h2 h3
    by_cases hlt : k < 16
    · have hc2 := blk_byte H3.out k (by rw [HB.out]; omega)
      have hc1 : wr.cell? ⟨w.heap.size, k, none⟩ = some (.int .u8 (cb (gb a k))) := by rw [H1.out.cell, pt_get _ _ _ hlt]
      have hf1 : wr.frozen? ⟨w.heap.size, k, none⟩ = false := H1.out.frozen _
      go_wp2
      go_region
      go_wp2
      go_roundw
      case rel =>
        refine ⟨k + 1, by omega, by go_num, ?_, ?_, ?_, ?_⟩
        · have := (H1.out.keep (Kp.refl nob wr).drew (fun e => e)).set_ k (.int .u8 (cb (gb a k ^^^ gb b k)))
          rw [bvs_setb, pt_set (fun i => gb a i ^^^ gb b i)] at this
          exact this
        · exact (H3.out.keep (Kp.refl nob wr).drew (fun e => e)).far (by simp) _
        · obtain ⟨z, hz, h2⟩ := H2.out
          exact ⟨z, hz, (h2.keep (Kp.refl nob wr).drew (fun e => e)).far (by simp) _⟩
        · exact hkp.drew.setCell (.inr (Nat.le_refl _)) _
      case measure => simp [intOf]; omega
    · obtain rfl : k = 16 := by omega
      obtain ⟨z, hz, h2⟩ := H2.out
      have h1 := H1.out
      rw [pt_all, ← plus_pt] at h1
      have HB1 := Lib.hid h1; have HB2 := Lib.hid h2; have HZ := Lib.hid hz
      have HM : Hid ((bvs (plus a b)).length = 16) := Lib.hid (by rw [bvs_length, plus_length])
      clear H1 H2 h1 h2 hz
      go_wp2_with (first
        | (refine wpList_load_blk rfl 22 (.tmp 2) rfl _ _ _ HB1.out rfl _ arr16 rfl (by rw [HM.out]; kernel_rfl) ?_)
        | (refine wpList_store_blk rfl 22 (.tmp 4) (.tmp 19) rfl _ _ z (bvs (plus a b)) HB2.out rfl rfl (by rw [HZ.out, HM.out]) (by rw [HM.out]; kernel_rfl) (bvs_one _) ?_; intro w2 hB2 k2 z2))
      have hsz : (Try.prog.info? 22).map (·.size) = some (bvs (plus a b)).toArray.size := by
        rw [List.size_toArray, HM.out]; kernel_rfl
      refine bodyPost_ret (results_cell_row rfl _ _ (w.heap.size + 2) _ _ _ _ rfl hB2 arr16 rfl hsz) rfl ⟨rfl, hkp.since k2 (fun i e => by cases e; omega)⟩
theorem shl_one (k : Nat) (h : k < 8) : IntKind.u8.wrap ((1 : Int) * 2 ^ k) = cb (1 <<< UInt8.ofNat k) := u8_shl 1 k h
set_option maxHeartbeats 1000000 in
set_option maxRecDepth 100000 in
theorem fFlip (b : List UInt8) (i : Nat) (w : World) (hb : b.length = 16) (hi : i < 128) :
    Calls Try.prog 26 #[.agg (bvs b).toArray, .int .i64 i] w fun e w' => e = .returned (.agg (bvs (flip b i)).toArray) ∧ Kp nob w w' := by
  have h1 : Blk ((w.alloc (.cells (bvs b).toArray 22)).alloc (.cells #[.int .u8 0, .int .u8 0, .int .u8 0, .int .u8 0, .int .u8 0, .int .u8 0, .int .u8 0, .int .u8 0, .int .u8 0, .int .u8 0, .int .u8 0, .int .u8 0, .int .u8 0, .int .u8 0, .int .u8 0, .int .u8 0] 22)) w.heap.size 22 (bvs b) := (Blk.new w _ _).alloc _
  have hx := blk_byte h1 (i / 8) (by omega)
  have hf := h1.frozen (i / 8)
  have es : (2 : Int) ^ (7 - i % 8) % (256 : Int) = cb (1 <<< UInt8.ofNat (7 - i % 8)) := by have := shl_one (7 - i % 8) (by omega); rwa [Int.one_mul, IntKind.wrap_u8] at this
  have h3 : Blk ((w.alloc (.cells ((bvs b).set (i / 8) (.int .u8 (cb (gb b (i / 8) ^^^ (1 <<< UInt8.ofNat (7 - i % 8)))))).toArray 22)).alloc (.cells #[.int .u8 0, .int .u8 0, .int .u8 0, .int .u8 0, .int .u8 0, .int .u8 0, .int .u8 0, .int .u8 0, .int .u8 0, .int .u8 0, .int .u8 0, .int .u8 0, .int .u8 0, .int .u8 0, .int .u8 0, .int .u8 0] 22)) w.heap.size 22 (bvs (b.set (i / 8) (gb b (i / 8) ^^^ (1 <<< UInt8.ofNat (7 - i % 8))))) := (Blk.new' rfl (by rw [bvs_setb])).alloc _
  have h4 : Blk ((w.alloc (.cells ((bvs b).set (i / 8) (.int .u8 (cb (gb b (i / 8) ^^^ (1 <<< UInt8.ofNat (7 - i % 8)))))).toArray 22)).alloc (.cells #[.int .u8 0, .int .u8 0, .int .u8 0, .int .u8 0, .int .u8 0, .int .u8 0, .int .u8 0, .int .u8 0, .int .u8 0, .int .u8 0, .int .u8 0, .int .u8 0, .int .u8 0, .int .u8 0, .int .u8 0, .int .u8 0] 22)) (w.heap.size + 1) 22 (bvs (tb fun _ => 0)) := Blk.new' (by simp) rfl
  have K3 : Kp nob w ((w.alloc (.cells ((bvs b).set (i / 8) (.int .u8 (cb (gb b (i / 8) ^^^ (1 <<< UInt8.ofNat (7 - i % 8)))))).toArray 22)).alloc (.cells #[.int .u8 0, .int .u8 0, .int .u8 0, .int .u8 0, .int .u8 0, .int .u8 0, .int .u8 0, .int .u8 0, .int .u8 0, .int .u8 0, .int .u8 0, .int .u8 0, .int .u8 0, .int .u8 0, .int .u8 0, .int .u8 0] 22)) := ((Kp.refl nob w).alloc _).alloc _
  have HF := Lib.hid (flip_eq b i)
  have H3 := Lib.hid h3; have H4 := Lib.hid h4; have HK3 := Lib.hid K3
  have HB := Lib.hid hb
  have HM : Hid ((bvs (b.set (i / 8) (gb b (i / 8) ^^^ (1 <<< UInt8.ofNat (7 - i % 8))))).length = 16) := Lib.hid (by rw [bvs_length, List.length_set, hb])
  clear h1 h3 h4 K3 hb
  go_enter Try.func26, Try.ntmps26
  go_wp2_with (first
    | (refine wpList_load_blk rfl 22 (.tmp 2) rfl _ _ _ H3.out rfl _ arr16 rfl (by rw [HM.out]; kernel_rfl) ?_)
    | (refine wpList_store_blk rfl 22 (.tmp 4) (.tmp 18) rfl _ _ (bvs (tb fun _ => 0)) _ H4.out rfl rfl (by rw [HM.out, bvs_length, tb_length]) (by rw [HM.out]; kernel_rfl) (bvs_one _) ?_; intro w2 hB2 k2 z2))
  rw [HF.out]
  have hsz : (Try.prog.info? 22).map (·.size) = some (bvs (b.set (i / 8) (gb b (i / 8) ^^^ (1 <<< UInt8.ofNat (7 - i % 8))))).toArray.size := by
    rw [List.size_toArray, HM.out]; kernel_rfl
  refine bodyPost_ret (results_cell_row rfl _ _ (w.heap.size + 1) _ _ _ _ rfl hB2 arr16 rfl hsz) rfl ⟨rfl, HK3.out.since k2 (fun i e => by cases e; omega)⟩
end Go.Proofs.Ytefpdnfogdioeaa.Ghash
