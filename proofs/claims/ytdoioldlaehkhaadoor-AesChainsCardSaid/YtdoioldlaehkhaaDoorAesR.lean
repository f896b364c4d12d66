/- Contracts of the document's own AES: a round's key taken in. -/
import Derived.Test.YtdoioldlaehkhaaDoorFieldV
import Derived.Test.YtdoioldlaehkhaaDoorAesT
import Derived.Test.YtdoioldlaehkhaaDoorBlkC
namespace Go.Proofs.YtdoioldlaehkhaaDoor.Aes
open Go Go.RowKit Kit
open Field (cb cb_inj)

theorem arr16 : Tryd.prog.underlying 23 = some (.array 16 5) := by kernel_rfl
theorem arr4 : Tryd.prog.underlying 52 = some (.array 4 5) := by kernel_rfl

theorem blk_byte {w : World} {g : Nat} {t : TypeId} {b : List UInt8} (h : Blk w g t (bvs b)) (i : Nat) (hi : i < b.length) : w.cell? ⟨g, i, none⟩ = some (.int .u8 (cb (gb b i))) := by rw [h.cell, gb_get b i hi]

set_option maxHeartbeats 1000000 in
set_option maxRecDepth 100000 in
theorem fAdded (b W : List UInt8) (A : Option Addr) (m c r : Nat) (w : World) (hb : b.length = 16) (hW : W.length = 4 * m) (hr : Row w A (bvs W)) (hc : m ≤ c) (hm : m ≤ 1000) (hrr : 4 * r + 4 ≤ m) :
    Calls Tryd.prog 21 #[.agg (bvs b).toArray, .slice A m c, .int .i64 r] w fun e w' => e = .returned (.agg (bvs (add (rk W r) b)).toArray) ∧ Kp nob w w' := by
  have HB := Lib.hid hb; have HW := Lib.hid hW; clear hb hW
  have HR := Lib.hid hr; clear hr
  go_enter Tryd.func21, Tryd.ntmps21
  go_wp2
  go_loopw [8] (fun vi wr => ∃ k : Nat, k ≤ 16 ∧ vi = .int .i64 k ∧ Blk wr w.heap.size 23 (bvs (pt (fun i => gb b i ^^^ gb W (16 * r + i)) (gb b) k)) ∧ (∃ z, z.length = 16 ∧ Blk wr (w.heap.size + 1) 23 z) ∧ Kp nob w wr)
    (fun vi _ => 16 - (intOf vi).toNat)
  case atStart => exact ⟨0, by omega, rfl, by rw [pt_zero, tb_gb _ HB.out]; simpa using (Blk.new' rfl rfl).alloc _, ⟨_, rfl, Blk.new' (by simp) rfl⟩, ((Kp.refl _ _).alloc _).alloc _⟩
  case round =>
    obtain ⟨k, hk, rfl, h1, h2, hkp⟩ := hrel
    have H1 := Lib.hid h1; have H2 := Lib.hid h2; clear h1 h2
    by_cases hlt : k < 16
    · have hq0 : 0 < W.length := by rw [HW.out]; omega
      have hrow := HR.out.keep0 hkp
      obtain ⟨B, o, hA, hcell⟩ := row_byte hrow hq0
      have hc2 := hcell (16 * r + k) (by rw [HW.out]; omega)
      rw [show o + (16 * r + k) = o + (4 * r + k / 4) * 4 + k % 4 by omega] at hc2
      have hc1 : wr.cell? ⟨w.heap.size, k, none⟩ = some (.int .u8 (cb (gb b k))) := by rw [H1.out.cell, pt_get _ _ _ hlt]
      have hf1 : wr.frozen? ⟨w.heap.size, k, none⟩ = false := H1.out.frozen _
      subst hA
      clear hcell hrow
      go_wp2
      go_region
      go_wp2
      go_roundw
      case rel =>
        refine ⟨k + 1, by omega, by go_num, ?_, ?_, ?_⟩
        · have := (H1.out.keep (Kp.refl nob wr).drew (fun e => e)).set_ k (.int .u8 (cb (gb b k ^^^ gb W (16 * r + k))))
          rw [bvs_setb, pt_set (fun i => gb b i ^^^ gb W (16 * r + i))] at this
          exact this
        · obtain ⟨z, hz, h2⟩ := H2.out
          exact ⟨z, hz, (h2.keep (Kp.refl nob wr).drew (fun e => e)).far (by simp) _⟩
        · exact hkp.drew.setCell (.inr (Nat.le_refl _)) _
      case measure => simp [intOf]; omega
    · obtain rfl : k = 16 := by omega
      obtain ⟨z, hz, h2⟩ := H2.out
      have h1 := H1.out
      rw [pt_all, ← add_pt] at h1
      have HB1 := Lib.hid h1; have HB2 := Lib.hid h2; have HZ := Lib.hid hz
      have HM : Hid ((bvs (add (rk W r) b)).length = 16) := Lib.hid (by rw [bvs_length, add_length])
      clear H1 H2 h1 h2 hz
      go_wp2_with (first
        | (refine wpList_load_blk rfl 23 (.tmp 3) rfl _ _ _ HB1.out rfl _ arr16 rfl (by rw [HM.out]; kernel_rfl) ?_)
        | (refine wpList_store_blk rfl 23 (.tmp 6) (.tmp 29) rfl _ _ z (bvs (add (rk W r) b)) HB2.out rfl rfl (by rw [HZ.out, HM.out]) (by rw [HM.out]; kernel_rfl) (bvs_one _) ?_; intro w2 hB2 k2 z2))
      have hsz : (Tryd.prog.info? 23).map (·.size) = some (bvs (add (rk W r) b)).toArray.size := by
        rw [List.size_toArray, HM.out]; kernel_rfl
      refine bodyPost_ret (results_cell_row rfl _ _ (w.heap.size + 1) _ _ _ _ rfl hB2 arr16 rfl hsz) rfl ⟨rfl, hkp.since k2 (fun i e => by cases e; omega)⟩
end Go.Proofs.YtdoioldlaehkhaaDoor.Aes
