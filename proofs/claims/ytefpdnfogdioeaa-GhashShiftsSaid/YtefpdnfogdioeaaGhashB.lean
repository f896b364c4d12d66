/- Contracts of package ghash: a block as two words, and back. -/
import Derived.Test.YtefpdnfogdioeaaGhashA
namespace Go.Proofs.Ytefpdnfogdioeaa.Ghash
set_option linter.unusedVariables false
set_option linter.unusedSimpArgs false
open Go Go.RowKit Kit
open Aes (gb tb tb_length gb_tb tb_gb tb_ext tb_eq pt pt_all pt_zero pt_get pt_set bvs_setb blk_byte arr16)
open Field (cb cb_inj)

theorem arrB : Try.prog.underlying 24 = some (.array 16 5) := by kernel_rfl
/-- The words so far. -/
def pv (b : List UInt8) (k : Nat) : List Value := [.int .u64 (dw (wd b 0 k)), .int .u64 (dw (wd b 8 k))]
theorem pv_all (b : List UInt8) : pv b 8 = ev b := by rw [ev_eq, hi_eq, lo_eq]; rfl
theorem pv_eq (b : List UInt8) (k : Nat) : pv b k = [.int .u64 (dw (wd b 0 k)), .int .u64 (dw (wd b 8 k))] := rfl
theorem oneCell_ev (b : List UInt8) : ∀ u ∈ ev b, u.oneCell' = true := by
  intro u hu
  rw [ev_eq] at hu
  simp at hu
  rcases hu with rfl | rfl <;> rfl
set_option maxHeartbeats 1000000 in
set_option maxRecDepth 100000 in
theorem elementOf_any (b : List UInt8) (w : World) (hb : b.length = 16) :
    Calls Try.prog 22 #[.agg (bvs b).toArray] w fun e w' => e = .returned (.agg (ev b).toArray) ∧ Kp nob w w' := by
  have HB := Lib.hid hb; clear hb
  go_enter Try.func22, Try.ntmps22
  go_wp2
  go_loopw [5] (fun vi wr => ∃ k : Nat, k ≤ 8 ∧ vi = .int .i64 k ∧ Blk wr w.heap.size 24 (bvs b) ∧ (∃ z, z.length = 2 ∧ Blk wr (w.heap.size + 1) 45 z) ∧ Blk wr (w.heap.size + 2) 45 (pv b k) ∧ Kp nob w wr)
    (fun vi _ => 8 - (intOf vi).toNat)
  case atStart => exact ⟨0, by omega, rfl, ((Blk.new' rfl rfl).alloc _).alloc _, ⟨_, rfl, (Blk.new' (by simp) rfl).alloc _⟩, Blk.new' (by simp) (by rw [pv_eq, wd_zero, wd_zero, dw_zero]), (((Kp.refl _ _).alloc _).alloc _).alloc _⟩
  case round =>
    obtain ⟨k, hk, rfl, h1, h2, h3, hkp⟩ := hrel
    have H1 := Lib.hid h1; have H2 := Lib.hid h2; have H3 := Lib.hid h3; clear h1 h2 h3
    by_cases hlt : k < 8
    · have hc1 := blk_byte H1.out k (by rw [HB.out]; omega)
      have hc2 := blk_byte H1.out (8 + k) (by rw [HB.out]; omega)
      have hf1 : wr.cell? ⟨w.heap.size + 2, 0, none⟩ = some (.int .u64 (dw (wd b 0 k))) := H3.out.cell 0
      have hf2 : wr.cell? ⟨w.heap.size + 2, 1, none⟩ = some (.int .u64 (dw (wd b 8 k))) := H3.out.cell 1
      have hg1 : wr.frozen? ⟨w.heap.size + 2, 0, none⟩ = false := H3.out.frozen _
      have hg2 : wr.frozen? ⟨w.heap.size + 2, 1, none⟩ = false := H3.out.frozen _
      go_wp2
      go_region
      go_wp2
      go_region
      go_wp2
      go_roundw
      case rel =>
        obtain ⟨z, hz, h2⟩ := H2.out
        refine ⟨k + 1, by omega, by go_num, ((H1.out.far (by show w.heap.size ≠ w.heap.size + 2; omega) _).far (by show w.heap.size ≠ w.heap.size + 2; omega) _).keep (Kp.refl nob _).drew.drew (fun e => e), ⟨z, hz, ((h2.far (by show w.heap.size + 1 ≠ w.heap.size + 2; omega) _).far (by show w.heap.size + 1 ≠ w.heap.size + 2; omega) _).keep (Kp.refl nob _).drew.drew (fun e => e)⟩, ?_, ((hkp.setCell (.inr (Nat.le_add_right _ 2)) _).setCell (.inr (Nat.le_add_right _ 2)) _).drew.drew⟩
        have := ((H3.out.set_ 0 (.int .u64 (dw (wd b 0 (k + 1))))).set_ 1 (.int .u64 (dw (wd b 8 (k + 1))))).keep (Kp.refl nob _).drew.drew (fun e => e)
        rw [pv_eq, wd_succ, wd_succ, Nat.zero_add] at this
        rw [pv_eq, wd_succ, wd_succ, Nat.zero_add]
        exact this
      case measure => simp [intOf]; omega
    · obtain rfl : k = 8 := by omega
      obtain ⟨z, hz, h2⟩ := H2.out
      have h3 := H3.out
      rw [pv_all] at h3
      have H3 := Lib.hid h3
      have HZ := Lib.hid hz; have H2 := Lib.hid h2
      clear h3 hz h2
      go_wp2_with (first
        | (refine wpList_load_blk rfl 45 (.tmp 3) rfl _ _ _ H3.out rfl _ elU rfl (by rw [ev_length]; kernel_rfl) ?_)
        | (refine wpList_store_blk rfl 45 (.tmp 2) (.tmp 28) rfl _ _ z (ev b) H2.out rfl rfl (by rw [HZ.out, ev_length]) (by rw [ev_length]; kernel_rfl) (oneCell_ev _) ?_; intro w2 hB2 k2 z2))
      refine bodyPost_ret (results_cell_row rfl _ _ (w.heap.size + 1) _ _ _ _ rfl hB2 elU rfl (elS _)) rfl ⟨rfl, hkp.since k2 (fun i e => by cases e; omega)⟩
/-- The bytes of a block whose words give k bytes each, so far. -/
def pb (b : List UInt8) (k : Nat) : List UInt8 := tb fun i => if i % 8 < k then gb b i else 0
theorem pb_length (b : List UInt8) (k : Nat) : (pb b k).length = 16 := tb_length _
theorem none_tb2 : none16 = tb fun _ => 0 := by decide +kernel
theorem pb_zero (b : List UInt8) : pb b 0 = none16 := by
  rw [none_tb2]; exact tb_ext fun i _ => if_neg (by omega)
theorem pb_all (b : List UInt8) (h : b.length = 16) : pb b 8 = b := (tb_ext fun i _ => if_pos (by omega)).trans (tb_gb b h)
theorem pb_set (b : List UInt8) (k : Nat) (hk : k < 8) : ((pb b k).set k (gb b k)).set (8 + k) (gb b (8 + k)) = pb b (k + 1) := by
  rw [pb, Aes.set_tb, Aes.set_tb, pb]
  refine tb_ext fun i hi => ?_
  by_cases h1 : i = 8 + k
  · subst h1; rw [if_pos rfl, if_pos (by omega)]
  · rw [if_neg h1]
    by_cases h2 : i = k
    · subst h2; rw [if_pos rfl, if_pos (by omega)]
    · rw [if_neg h2]
      by_cases h3 : i % 8 < k
      · rw [if_pos h3, if_pos (by omega)]
      · rw [if_neg h3, if_neg (by omega)]
attribute [irreducible] pb
set_option maxHeartbeats 1000000 in
set_option maxRecDepth 100000 in
theorem blockOf_any (b : List UInt8) (w : World) (hb : b.length = 16) :
    Calls Try.prog 20 #[.agg (ev b).toArray] w fun e w' => e = .returned (.agg (bvs b).toArray) ∧ Kp nob w w' := by
  have HB := Lib.hid hb; clear hb
  have HL := Lib.hid (show (bvs b).length = 16 by rw [bvs_length, HB.out])
  rw [ev_eq]
  go_enter Try.func20, Try.ntmps20
  go_wp2
  go_loopw [6] (fun vi wr => ∃ k : Nat, k ≤ 8 ∧ vi = .int .i64 k ∧ Blk wr w.heap.size 45 (ev b) ∧ (∃ z, z.length = 16 ∧ Blk wr (w.heap.size + 1) 24 z) ∧ Blk wr (w.heap.size + 2) 24 (bvs (pb b k)) ∧ Kp nob w wr)
    (fun vi _ => 8 - (intOf vi).toNat)
  case atStart => exact ⟨0, by omega, rfl, ((Blk.new' rfl rfl).alloc _).alloc _, ⟨_, rfl, (Blk.new' (by simp) rfl).alloc _⟩, Blk.new' (by simp) (by rw [pb_zero]; rfl), (((Kp.refl _ _).alloc _).alloc _).alloc _⟩
  case round =>
    obtain ⟨k, hk, rfl, h1, h2, h3, hkp⟩ := hrel
    have H1 := Lib.hid h1; have H2 := Lib.hid h2; have H3 := Lib.hid h3; clear h1 h2 h3
    by_cases hlt : k < 8
    · have hc1 : wr.cell? ⟨w.heap.size, 0, none⟩ = some (.int .u64 (dw (hi b))) := H1.out.cell 0
      have hc2 : wr.cell? ⟨w.heap.size, 1, none⟩ = some (.int .u64 (dw (lo b))) := H1.out.cell 1
      have hf1 := blk_byte H3.out k (by rw [pb_length]; omega)
      have hf2 := blk_byte H3.out (8 + k) (by rw [pb_length]; omega)
      have hg1 : wr.frozen? ⟨w.heap.size + 2, k, none⟩ = false := H3.out.frozen _
      have hg2 : wr.frozen? ⟨w.heap.size + 2, 8 + k, none⟩ = false := H3.out.frozen _
      have ha := hi_cb b k hlt
      have hb := lo_cb b k hlt
      obtain ⟨j, hj⟩ : ∃ j, j = 56 - 8 * k := ⟨_, rfl⟩
      obtain ⟨m, hm⟩ : ∃ m, m = 8 * (k + 1) := ⟨_, rfl⟩
      obtain ⟨k1, hk1⟩ : ∃ k1, k1 = k + 1 := ⟨_, rfl⟩
      rw [← hj] at ha hb
      have e1 : IntKind.i64.wrap ((k : Int) + 1) = (k1 : Int) := by rw [IntWalk.i64_in _ (by omega)]; omega
      have e2 : IntKind.i64.wrap (8 * (k1 : Int)) = (m : Int) := by rw [IntWalk.i64_in _ (by omega)]; omega
      have e3 : IntKind.i64.wrap (64 - (m : Int)) = (j : Int) := by rw [IntWalk.i64_in _ (by omega)]; omega
      have hmj : min j 64 = j := by omega
      have HK := Lib.hid hk1
      clear hj hm hk1
      go_wp2
      go_roundw
      case rel =>
        obtain ⟨z, hz, h2⟩ := H2.out
        refine ⟨k1, by rw [HK.out]; omega, rfl, (H1.out.far (by show w.heap.size ≠ w.heap.size + 2; omega) _).far (by show w.heap.size ≠ w.heap.size + 2; omega) _, ⟨z, hz, (h2.far (by show w.heap.size + 1 ≠ w.heap.size + 2; omega) _).far (by show w.heap.size + 1 ≠ w.heap.size + 2; omega) _⟩, ?_, (hkp.setCell (.inr (Nat.le_add_right _ 2)) _).setCell (.inr (Nat.le_add_right _ 2)) _⟩
        have := (H3.out.set_ k (.int .u8 (cb (gb b k)))).set_ (8 + k) (.int .u8 (cb (gb b (8 + k))))
        rw [bvs_setb, bvs_setb, pb_set b k hlt, ← HK.out] at this
        exact this
      case measure => have := HK.out; simp [intOf]; omega
    · obtain rfl : k = 8 := by omega
      obtain ⟨z, hz, h2⟩ := H2.out
      have h3 := H3.out
      rw [pb_all b HB.out] at h3
      have H3 := Lib.hid h3
      have HZ := Lib.hid hz; have H2 := Lib.hid h2
      clear h3 hz h2
      go_wp2_with (first
        | (refine wpList_load_blk rfl 24 (.tmp 3) rfl _ _ _ H3.out rfl _ arrB rfl (by rw [HL.out]; kernel_rfl) ?_)
        | (refine wpList_store_blk rfl 24 (.tmp 2) (.tmp 29) rfl _ _ z (bvs b) H2.out rfl rfl (by rw [HZ.out, HL.out]) (by rw [HL.out]; kernel_rfl) (bvs_one _) ?_; intro w2 hB2 k2 z2))
      have hsz : (Try.prog.info? 24).map (·.size) = some (bvs b).toArray.size := by
        rw [List.size_toArray, HL.out]; kernel_rfl
      refine bodyPost_ret (results_cell_row rfl _ _ (w.heap.size + 1) _ _ _ _ rfl hB2 arrB rfl hsz) rfl ⟨rfl, hkp.since k2 (fun i e => by cases e; omega)⟩
end Go.Proofs.Ytefpdnfogdioeaa.Ghash
