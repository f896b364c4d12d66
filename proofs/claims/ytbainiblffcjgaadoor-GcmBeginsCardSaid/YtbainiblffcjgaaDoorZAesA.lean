/- Contracts of package aes: two blocks' sum, other bytes in the place of a block's own, rows turned, columns mixed. -/
import Derived.Test.YtbainiblffcjgaaDoorZFieldA
import Derived.Test.YtbainiblffcjgaaDoorZGe
import Derived.Test.YtbainiblffcjgaaDoorZGc
import Derived.BigQuiet
import Derived.Deep.QuietTactic
namespace Go.Proofs.YtbainiblffcjgaaDoor.Aes
set_option linter.unusedVariables false
set_option linter.unusedSimpArgs false
open Go Go.RowKit Kit
open Field (cb cb_inj)

theorem arrB : Tryd.prog.underlying 51 = some (.array 16 5) := by kernel_rfl

set_option maxHeartbeats 1000000 in
set_option maxRecDepth 100000 in
theorem sum_any (a b : List UInt8) (w : World) (ha : a.length = 16) (hb : b.length = 16) :
    Calls Tryd.prog 42 #[.agg (bvs a).toArray, .agg (bvs b).toArray] w fun e w' => e = .returned (.agg (bvs (add b a)).toArray) ∧ Kp nob w w' := by
  have HA := Lib.hid ha; have HB := Lib.hid hb; clear ha hb
  go_enter Tryd.func42, Tryd.ntmps42
  go_wp2
  go_loopw [6] (fun vi wr => ∃ k : Nat, k ≤ 16 ∧ vi = .int .i64 k ∧ Blk wr w.heap.size 51 (bvs (pt (fun i => gb a i ^^^ gb b i) (gb a) k)) ∧ Blk wr (w.heap.size + 1) 51 (bvs b) ∧ (∃ z, z.length = 16 ∧ Blk wr (w.heap.size + 2) 51 z) ∧ Kp nob w wr)
    (fun vi _ => 16 - (intOf vi).toNat)
  case atStart => exact ⟨0, by omega, rfl, by rw [pt_zero, tb_gb _ HA.out]; simpa using ((Blk.new' rfl rfl).alloc _).alloc _, (Blk.new' (by simp) rfl).alloc _, ⟨_, rfl, Blk.new' (by simp) rfl⟩, (((Kp.refl _ _).alloc _).alloc _).alloc _⟩
  case round =>
    obtain ⟨k, hk, rfl, h1, h2, h3, hkp⟩ := hrel
    have H1 := Lib.hid h1; have H2 := Lib.hid h2; have H3 := Lib.hid h3; clear h1 h2 h3
    by_cases hlt : k < 16
    · have hc1 : wr.cell? ⟨w.heap.size, k, none⟩ = some (.int .u8 (cb (gb a k))) := by rw [H1.out.cell, pt_get _ _ _ hlt]
      have hc2 := blk_byte H2.out k (by rw [HB.out]; exact hlt)
      have hf1 : wr.frozen? ⟨w.heap.size, k, none⟩ = false := H1.out.frozen _
      go_wp2
      go_region
      go_wp2
      go_roundw
      case rel =>
        refine ⟨k + 1, by omega, by go_num, ?_, ?_, ?_, ?_⟩
        · have := (H1.out.keep (Kp.refl nob wr).drew (fun e => e)).set_ k (.int .u8 (cb (gb a k ^^^ gb b k)))
          rw [bvs_setb, pt_set (fun i => gb a i ^^^ gb b i)] at this
          exact this
        · exact (H2.out.keep (Kp.refl nob wr).drew (fun e => e)).far (by simp) _
        · obtain ⟨z, hz, h2⟩ := H3.out
          exact ⟨z, hz, (h2.keep (Kp.refl nob wr).drew (fun e => e)).far (by simp) _⟩
        · exact hkp.drew.setCell (.inr (Nat.le_refl _)) _
      case measure => simp [intOf]; omega
    · obtain rfl : k = 16 := by omega
      obtain ⟨z, hz, h2⟩ := H3.out
      have h1 := H1.out
      rw [pt_all, ← add_eq] at h1
      have HB1 := Lib.hid h1; have HB2 := Lib.hid h2; have HZ := Lib.hid hz
      have HM : Hid ((bvs (add b a)).length = 16) := Lib.hid (by rw [bvs_length, add_length])
      clear H1 H2 H3 h1 h2 hz
      go_wp2_with (first
        | (refine wpList_load_blk rfl 51 (.tmp 2) rfl _ _ _ HB1.out rfl _ arrB rfl (by rw [HM.out]; kernel_rfl) ?_)
        | (refine wpList_store_blk rfl 51 (.tmp 4) (.tmp 18) rfl _ _ z (bvs (add b a)) HB2.out rfl rfl (by rw [HZ.out, HM.out]) (by rw [HM.out]; kernel_rfl) (bvs_one _) ?_; intro w2 hB2 k2 z2))
      have hsz : (Tryd.prog.info? 51).map (·.size) = some (bvs (add b a)).toArray.size := by
        rw [List.size_toArray, HM.out]; kernel_rfl
      refine bodyPost_ret (results_cell_row rfl _ _ (w.heap.size + 2) _ _ _ _ rfl hB2 arrB rfl hsz) rfl ⟨rfl, hkp.since k2 (fun i e => by cases e; omega)⟩

theorem cb_in (x : UInt8) : 0 ≤ cb x ∧ cb x < 256 := ⟨Int.natCast_nonneg _, by have := x.toNat_lt; unfold cb; omega⟩
/-- A table of 256 bytes, at a place in a block. -/
def Tab (w : World) (g o : Nat) (f : UInt8 → UInt8) : Prop := g < w.heap.size ∧ ∀ x : UInt8, w.cell? ⟨g, o + x.toNat, none⟩ = some (.int .u8 (cb (f x)))
theorem Tab.keep {w w2 : World} {g o : Nat} {f : UInt8 → UInt8} (h : Tab w g o f) (k : Kp nob w w2) : Tab w2 g o f :=
  ⟨Nat.lt_of_lt_of_le h.1 k.size, fun x => by rw [k.cell h.1 (fun e => e)]; exact h.2 x⟩

set_option maxHeartbeats 1000000 in
set_option maxRecDepth 100000 in
theorem swapped_any (b : List UInt8) (g o : Nat) (f : UInt8 → UInt8) (w : World) (hb : b.length = 16) (ht : Tab w g o f) :
    Calls Tryd.prog 45 #[.agg (bvs b).toArray, .pointer (some ⟨g, o, none⟩)] w fun e w' => e = .returned (.agg (bvs (tb fun i => f (gb b i))).toArray) ∧ Kp nob w w' := by
  have HB := Lib.hid hb; clear hb
  have HT := Lib.hid ht; clear ht
  have HM : Hid ((bvs (tb fun i => f (gb b i))).length = 16) := Lib.hid (by rw [bvs_length, tb_length])
  go_enter Tryd.func45, Tryd.ntmps45
  go_wp2
  go_loopw [6] (fun vi wr => ∃ k : Nat, k ≤ 16 ∧ vi = .int .i64 k ∧ Blk wr w.heap.size 51 (bvs (pt (fun i => f (gb b i)) (gb b) k)) ∧ (∃ z, z.length = 16 ∧ Blk wr (w.heap.size + 1) 51 z) ∧ Kp nob w wr)
    (fun vi _ => 16 - (intOf vi).toNat)
  case atStart => exact ⟨0, by omega, rfl, by rw [pt_zero, tb_gb _ HB.out]; simpa using (Blk.new' rfl rfl).alloc _, ⟨_, rfl, Blk.new' (by simp) rfl⟩, ((Kp.refl _ _).alloc _).alloc _⟩
  case round =>
    obtain ⟨k, hk, rfl, h1, h2, hkp⟩ := hrel
    have H1 := Lib.hid h1; have H2 := Lib.hid h2; clear h1 h2
    by_cases hlt : k < 16
    · have hc1 : wr.cell? ⟨w.heap.size, k, none⟩ = some (.int .u8 (cb (gb b k))) := by rw [H1.out.cell, pt_get _ _ _ hlt]
      have hc2 : wr.cell? ⟨g, o + (cb (gb b k)).toNat, none⟩ = some (.int .u8 (cb (f (gb b k)))) := (HT.out.keep hkp).2 (gb b k)
      have hy : 0 ≤ cb (gb b k) ∧ cb (gb b k) < 256 := cb_in _
      have hf1 : wr.frozen? ⟨w.heap.size, k, none⟩ = false := H1.out.frozen _
      go_wp2
      go_region
      go_wp2
      go_roundw
      case rel =>
        refine ⟨k + 1, by omega, by go_num, ?_, ?_, ?_⟩
        · have := (H1.out.keep (Kp.refl nob wr).drew (fun e => e)).set_ k (.int .u8 (cb (f (gb b k))))
          rw [bvs_setb, pt_set (fun i => f (gb b i))] at this
          exact this
        · obtain ⟨z, hz, h2⟩ := H2.out
          exact ⟨z, hz, (h2.keep (Kp.refl nob wr).drew (fun e => e)).far (by simp) _⟩
        · exact hkp.drew.setCell (.inr (Nat.le_refl _)) _
      case measure => simp [intOf]; omega
    · obtain rfl : k = 16 := by omega
      obtain ⟨z, hz, h2⟩ := H2.out
      have h1 := H1.out
      rw [pt_all] at h1
      have HB1 := Lib.hid h1; have HB2 := Lib.hid h2; have HZ := Lib.hid hz
      clear H1 H2 h1 h2 hz
      go_wp2_with (first
        | (refine wpList_load_blk rfl 51 (.tmp 2) rfl _ _ _ HB1.out rfl _ arrB rfl (by rw [HM.out]; kernel_rfl) ?_)
        | (refine wpList_store_blk rfl 51 (.tmp 4) (.tmp 19) rfl _ _ z (bvs (tb fun i => f (gb b i))) HB2.out rfl rfl (by rw [HZ.out, HM.out]) (by rw [HM.out]; kernel_rfl) (bvs_one _) ?_; intro w2 hB2 k2 z2))
      have hsz : (Tryd.prog.info? 51).map (·.size) = some (bvs (tb fun i => f (gb b i))).toArray.size := by
        rw [List.size_toArray, HM.out]; kernel_rfl
      refine bodyPost_ret (results_cell_row rfl _ _ (w.heap.size + 1) _ _ _ _ rfl hB2 arrB rfl hsz) rfl ⟨rfl, hkp.since k2 (fun i e => by cases e; omega)⟩

/-- Rows turned n times over. -/
def trn (n : Nat) (b : List UInt8) : List UInt8 := tb fun i => gb b ((i + 4 * (i % 4) * n) % 16)
theorem trn_length (n : Nat) (b : List UInt8) : (trn n b).length = 16 := tb_length _
theorem trn_one (b : List UInt8) : trn 1 b = rows b := (rows_at b).symm
theorem trn_three (b : List UInt8) : trn 3 b = unrows b := (unrows_at b).symm
set_option maxHeartbeats 1000000 in
set_option maxRecDepth 100000 in
theorem turned_any (b : List UInt8) (n : Nat) (w : World) (hb : b.length = 16) (hn : n ≤ 3) :
    Calls Tryd.prog 44 #[.agg (bvs b).toArray, .int .i64 n] w fun e w' => e = .returned (.agg (bvs (trn n b)).toArray) ∧ Kp nob w w' := by
  have HB := Lib.hid hb; clear hb
  have HM : Hid ((bvs (trn n b)).length = 16) := Lib.hid (by rw [bvs_length, trn_length])
  go_enter Tryd.func44, Tryd.ntmps44
  go_wp2
  go_loopw [8] (fun vi wr => ∃ k : Nat, k ≤ 16 ∧ vi = .int .i64 k ∧ Blk wr w.heap.size 51 (bvs b) ∧ Blk wr (w.heap.size + 2) 51 (bvs (pt (fun i => gb b ((i + 4 * (i % 4) * n) % 16)) (fun _ => 0) k)) ∧ (∃ z, z.length = 16 ∧ Blk wr (w.heap.size + 1) 51 z) ∧ Kp nob w wr)
    (fun vi _ => 16 - (intOf vi).toNat)
  case atStart => exact ⟨0, by omega, rfl, by simpa using ((Blk.new' rfl rfl).alloc _).alloc _, by rw [pt_zero]; exact Blk.new' (by simp) rfl, ⟨_, rfl, (Blk.new' (by simp) rfl).alloc _⟩, (((Kp.refl _ _).alloc _).alloc _).alloc _⟩
  case round =>
    obtain ⟨k, hk, rfl, h1, h2, h3, hkp⟩ := hrel
    have H1 := Lib.hid h1; have H2 := Lib.hid h2; have H3 := Lib.hid h3; clear h1 h2 h3
    by_cases hlt : k < 16
    · obtain ⟨q, hq⟩ : ∃ q, q = k % 4 := ⟨_, rfl⟩
      obtain ⟨T, hT⟩ : ∃ T, T = 4 * q * n := ⟨_, rfl⟩
      have hT36 : T ≤ 36 := by
        have : 4 * q ≤ 12 := by omega
        have := Nat.mul_le_mul this hn
        omega
      obtain ⟨j, hj⟩ : ∃ j, j = (k + T) % 16 := ⟨_, rfl⟩
      have hj16 : j < 16 := by omega
      have hc1 := blk_byte H1.out j (by rw [HB.out]; exact hj16)
      have hf1 := H2.out.frozen k
      have hx := H2.out.cell k
      rw [pt_get _ _ _ hlt] at hx
      obtain ⟨C, hC⟩ : ∃ C, C = 4 * q := ⟨_, rfl⟩
      obtain ⟨Y, hY⟩ : ∃ Y, Y = k + T := ⟨_, rfl⟩
      have e1 : (k : Int).tmod 4 = (q : Int) := by rw [Int.tmod_eq_emod_of_nonneg (by omega)]; omega
      have e2 : IntKind.i64.wrap (4 * (q : Int)) = (C : Int) := wrap_to _ _ (by omega) (by omega)
      have e3 : IntKind.i64.wrap ((C : Int) * (n : Int)) = (T : Int) := wrap_to _ _ (by rw [hT, ← hC]; simp) (by omega)
      have e4 : IntKind.i64.wrap ((k : Int) + (T : Int)) = (Y : Int) := wrap_to _ _ (by omega) (by omega)
      have e5 : (Y : Int).tmod 16 = (j : Int) := by rw [Int.tmod_eq_emod_of_nonneg (by omega)]; omega
      have HJ := Lib.hid (show gb b ((k + 4 * (k % 4) * n) % 16) = gb b j by rw [hj, hT, hq])
      clear hj hT hq hC hY hT36
      go_wp2
      go_roundw
      case rel =>
        refine ⟨k + 1, by omega, by go_num, H1.out.far (by simp; omega) _, ?_, ?_, ?_⟩
        · have := H2.out.set_ k (.int .u8 (cb (gb b j)))
          rw [← HJ.out, bvs_setb, pt_set (fun i => gb b ((i + 4 * (i % 4) * n) % 16)), HJ.out] at this
          exact this
        · obtain ⟨z, hz, h2⟩ := H3.out
          exact ⟨z, hz, h2.far (by simp) _⟩
        · exact hkp.setCell (.inr (by simp; omega)) _
      case measure => simp [intOf]; omega
    · obtain rfl : k = 16 := by omega
      obtain ⟨z, hz, h2⟩ := H3.out
      have h1 := H2.out
      rw [pt_all] at h1
      have HB1 := Lib.hid (show Blk wr (w.heap.size + 2) 51 (bvs (trn n b)) from h1); have HB2 := Lib.hid h2; have HZ := Lib.hid hz
      clear H1 H2 H3 h1 h2 hz
      go_wp2_with (first
        | (refine wpList_load_blk rfl 51 (.tmp 5) rfl _ _ _ HB1.out rfl _ arrB rfl (by rw [HM.out]; kernel_rfl) ?_)
        | (refine wpList_store_blk rfl 51 (.tmp 4) (.tmp 25) rfl _ _ z (bvs (trn n b)) HB2.out rfl rfl (by rw [HZ.out, HM.out]) (by rw [HM.out]; kernel_rfl) (bvs_one _) ?_; intro w2 hB2 k2 z2))
      have hsz : (Tryd.prog.info? 51).map (·.size) = some (bvs (trn n b)).toArray.size := by
        rw [List.size_toArray, HM.out]; kernel_rfl
      refine bodyPost_ret (results_cell_row rfl _ _ (w.heap.size + 1) _ _ _ _ rfl hB2 arrB rfl hsz) rfl ⟨rfl, hkp.since k2 (fun i e => by cases e; omega)⟩

set_option maxHeartbeats 1000000 in
set_option maxRecDepth 100000 in
theorem mixed_any (b : List UInt8) (w : World) (hb : b.length = 16) :
    Calls Tryd.prog 43 #[.agg (bvs b).toArray] w fun e w' => e = .returned (.agg (bvs (mix b)).toArray) ∧ Kp nob w w' := by
  have HB := Lib.hid hb; clear hb
  have HM : Hid ((bvs (mix b)).length = 16) := Lib.hid (by rw [bvs_length, mix_length])
  go_enter Tryd.func43, Tryd.ntmps43
  go_wp2
  go_loopw [8] (fun vi wr => ∃ k : Nat, k ≤ 16 ∧ vi = .int .i64 k ∧ Blk wr w.heap.size 51 (bvs b) ∧ Blk wr (w.heap.size + 2) 51 (bvs (pt (fun i => col fac b (i / 4) (i % 4)) (fun _ => 0) k)) ∧ (∃ z, z.length = 16 ∧ Blk wr (w.heap.size + 1) 51 z) ∧ Kp nob w wr)
    (fun vi _ => 16 - (intOf vi).toNat)
  case atStart => exact ⟨0, by omega, rfl, by simpa using ((Blk.new' rfl rfl).alloc _).alloc _, by rw [pt_zero]; exact Blk.new' (by simp) rfl, ⟨_, rfl, (Blk.new' (by simp) rfl).alloc _⟩, (((Kp.refl _ _).alloc _).alloc _).alloc _⟩
  case round =>
    obtain ⟨k, hk, rfl, h1, h2, h3, hkp⟩ := hrel
    have H1 := Lib.hid h1; have H2 := Lib.hid h2; have H3 := Lib.hid h3; clear h1 h2 h3
    by_cases hlt : k < 16
    · obtain ⟨q, hq⟩ : ∃ q, q = k % 4 := ⟨_, rfl⟩
      obtain ⟨C, hC⟩ : ∃ C, C = k - q := ⟨_, rfl⟩
      obtain ⟨C1, hC1⟩ : ∃ C1, C1 = C + 1 := ⟨_, rfl⟩
      obtain ⟨C2, hC2⟩ : ∃ C2, C2 = C + 2 := ⟨_, rfl⟩
      obtain ⟨C3, hC3⟩ : ∃ C3, C3 = C + 3 := ⟨_, rfl⟩
      obtain ⟨K, hK⟩ : ∃ K, K = k + 1 := ⟨_, rfl⟩
      obtain ⟨m, hm⟩ : ∃ m, m = K % 4 := ⟨_, rfl⟩
      obtain ⟨M, hM⟩ : ∃ M, M = C + m := ⟨_, rfl⟩
      have hCC : C = 4 * (k / 4) := by omega
      have hlen := HB.out
      have c0 := blk_byte H1.out C (by omega)
      have c1 := blk_byte H1.out C1 (by omega)
      have c2 := blk_byte H1.out C2 (by omega)
      have c3 := blk_byte H1.out C3 (by omega)
      have ck := blk_byte H1.out k (by omega)
      have cM := blk_byte H1.out M (by omega)
      have hf1 := H2.out.frozen k
      have hx := H2.out.cell k
      rw [pt_get _ _ _ hlt] at hx
      have e1 : (k : Int).tmod 4 = (q : Int) := tmod_four _ _ hq
      have e2 : IntKind.i64.wrap ((k : Int) - (q : Int)) = (C : Int) := wrap_to _ _ (by omega) (by omega)
      have e3 : IntKind.i64.wrap ((C : Int) + 1) = (C1 : Int) := wrap_to _ _ (by omega) (by omega)
      have e4 : IntKind.i64.wrap ((C : Int) + 2) = (C2 : Int) := wrap_to _ _ (by omega) (by omega)
      have e5 : IntKind.i64.wrap ((C : Int) + 3) = (C3 : Int) := wrap_to _ _ (by omega) (by omega)
      have e6 : IntKind.i64.wrap ((k : Int) + 1) = (K : Int) := wrap_to _ _ (by omega) (by omega)
      have e7 : (K : Int).tmod 4 = (m : Int) := tmod_four _ _ hm
      have e8 : IntKind.i64.wrap ((C : Int) + (m : Int)) = (M : Int) := wrap_to _ _ (by omega) (by omega)
      have b0 : (0 : Int) ≤ (C : Int) ∧ (C : Int) < 16 := by omega
      have b1 : (0 : Int) ≤ (C1 : Int) ∧ (C1 : Int) < 16 := by omega
      have b2 : (0 : Int) ≤ (C2 : Int) ∧ (C2 : Int) < 16 := by omega
      have b3 : (0 : Int) ≤ (C3 : Int) ∧ (C3 : Int) < 16 := by omega
      have b4 : (0 : Int) ≤ (M : Int) ∧ (M : Int) < 16 := by omega
      have b5 : (0 : Int) ≤ (k : Int) ∧ (k : Int) < 16 := by omega
      have HCS := Lib.hid (show col fac b (k / 4) (k % 4) = gb b C ^^^ gb b C1 ^^^ gb b C2 ^^^ gb b C3 ^^^ gb b k ^^^ Field.tm (gb b k ^^^ gb b M) 2 by
        rw [col_short _ _ _ (by omega), ← hCC, ← hC1, ← hC2, ← hC3, show C + k % 4 = k by omega, show C + (k % 4 + 1) % 4 = M by omega])
      have HKK := Lib.hid hK
      clear hC hC1 hC2 hC3 hM hm hq hCC hlen hK
      go_wp2
      go_quiet (fail)
      go_wp2
      refine wp_region_still_tail 14 (by kernel_rfl) (by kernel_rfl) ?_
      change wpStill _ _ (wr.drewN nq).drew (fun a' => wpList _ _ _ _ a' (wr.drewN nq).drew) _ _
      have HD := Lib.hid ((Kp.refl nob wr).drewN nq).drew
      have d1 : (wr.drewN nq).drew.cell? ⟨w.heap.size, k, none⟩ = some (Value.int IntKind.u8 (cb (gb b k))) := ck
      have d2 : (wr.drewN nq).drew.cell? ⟨w.heap.size + 2, k, none⟩ = some (Value.int IntKind.u8 (cb 0)) := hx
      have d3 : (wr.drewN nq).drew.frozen? ⟨w.heap.size + 2, k, none⟩ = false := hf1
      clear ck hx hf1 c0 c1 c2 c3 cM
      generalize (wr.drewN nq).drew = wd at *
      simp only [List.take_succ_cons, List.take_zero, List.drop_succ_cons, List.drop_zero]
      repeat still_step
      still_call ((Field.twice_any (gb b k ^^^ gb b M) _).mono fun _ _ h => ⟨h.1, h.2.symm⟩)
      repeat still_step
      refine wpStill_nil ?_
      go_wp2
      have HK1 := Lib.hid (H1.out.keep HD.out (fun e => e))
      have HK2 := Lib.hid (H2.out.keep HD.out (fun e => e))
      have HKP := Lib.hid (hkp.trans HD.out (fun _ e => e.elim))
      go_roundw
      case rel =>
        have hKK := HKK.out
        refine ⟨k + 1, by omega, by go_num, HK1.out.far (by simp; omega) _, ?_, ?_, ?_⟩
        · have := HK2.out.set_ k (.int .u8 (cb (col fac b (k / 4) (k % 4))))
          rw [bvs_setb, pt_set (fun i => col fac b (i / 4) (i % 4)), HCS.out] at this
          exact this
        · obtain ⟨z, hz, h2⟩ := H3.out
          exact ⟨z, hz, (h2.keep HD.out (fun e => e)).far (by simp) _⟩
        · exact HKP.out.setCell (.inr (by simp; omega)) _
      case measure => have hKK := HKK.out; simp [intOf]; omega
    · obtain rfl : k = 16 := by omega
      obtain ⟨z, hz, h2⟩ := H3.out
      have h1 := H2.out
      rw [pt_all, ← mix_eq] at h1
      have HB1 := Lib.hid h1; have HB2 := Lib.hid h2; have HZ := Lib.hid hz
      clear H1 H2 H3 h1 h2 hz
      go_wp2_with (first
        | (refine wpList_load_blk rfl 51 (.tmp 3) rfl _ _ _ HB1.out rfl _ arrB rfl (by rw [HM.out]; kernel_rfl) ?_)
        | (refine wpList_store_blk rfl 51 (.tmp 2) (.tmp 55) rfl _ _ z (bvs (mix b)) HB2.out rfl rfl (by rw [HZ.out, HM.out]) (by rw [HM.out]; kernel_rfl) (bvs_one _) ?_; intro w2 hB2 k2 z2))
      have hsz : (Tryd.prog.info? 51).map (·.size) = some (bvs (mix b)).toArray.size := by
        rw [List.size_toArray, HM.out]; kernel_rfl
      refine bodyPost_ret (results_cell_row rfl _ _ (w.heap.size + 1) _ _ _ _ rfl hB2 arrB rfl hsz) rfl ⟨rfl, hkp.since k2 (fun i e => by cases e; omega)⟩

end Go.Proofs.YtbainiblffcjgaaDoor.Aes
