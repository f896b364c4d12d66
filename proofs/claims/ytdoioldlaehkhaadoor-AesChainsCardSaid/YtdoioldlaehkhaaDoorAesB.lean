/- Contracts of package aes: a word's bytes boxed, powers of 02, a further word. -/
import Derived.Test.YtdoioldlaehkhaaDoorAesA
import Derived.Test.YtdoioldlaehkhaaDoorAesW
namespace Go.Proofs.YtdoioldlaehkhaaDoor.Aes
open Go Go.RowKit Kit
open Field (cb cb_inj)

theorem arrW : Tryd.prog.underlying 54 = some (.array 4 5) := by kernel_rfl

theorem power_any (n : Nat) (w : World) (hn : n ≤ 1000) :
    Calls Tryd.prog 32 #[.int .i64 n] w fun e w' => e = .returned (.int .u8 (cb (rc n))) ∧ w = w' := by
  go_enter Tryd.func32, Tryd.ntmps32
  go_wp2
  go_loopw [3, 5] (fun vp vi wr => ∃ i : Nat, i ≤ n ∧ vp = .int .u8 (cb (rc i)) ∧ vi = .int .i64 i ∧ w = wr)
    (fun _ vi _ => n - (intOf vi).toNat)
  case atStart => exact ⟨0, by omega, by rw [rc_zero]; rfl, rfl, rfl⟩
  case round =>
    obtain ⟨i, hi, rfl, rfl, rfl⟩ := hrel
    by_cases hlt : i < n
    · have HR := Lib.hid (rc_succ i)
      go_wp2_with fail
      refine (Field.twice_any (rc i) _).mono ?_
      rintro e w1 ⟨rfl, rfl⟩
      rw [← HR.out]
      go_wp2
      go_roundw
      case rel => exact ⟨i + 1, by omega, rfl, by go_num, trivial⟩
      case measure => simp [intOf]; omega
    · obtain rfl : i = n := by omega
      go_wp2
      go_ret
      exact ⟨rfl, rfl⟩

set_option maxHeartbeats 1000000 in
set_option maxRecDepth 100000 in
theorem boxed_any (P : Nat → UInt8) (g : Nat) (w : World) (ht : Tab w g 241 Field.box) :
    Calls Tryd.prog 31 #[.pointer (some ⟨g, 0, none⟩), .agg (bvs (t4 P)).toArray] w fun e w' => e = .returned (.agg (bvs (t4 fun k => Field.box (P k))).toArray) ∧ Kp nob w w' := by
  have HT := Lib.hid ht; clear ht
  have HM : Hid ((bvs (t4 fun k => Field.box (P k))).length = 4) := Lib.hid (by rw [bvs_length, t4_length])
  go_enter Tryd.func31, Tryd.ntmps31
  go_wp2
  go_loopw [6] (fun vi wr => ∃ k : Nat, k ≤ 4 ∧ vi = .int .i64 k ∧ Blk wr w.heap.size 54 (bvs (p4 (fun k => Field.box (P k)) P k)) ∧ (∃ z, z.length = 4 ∧ Blk wr (w.heap.size + 1) 54 z) ∧ Kp nob w wr)
    (fun vi _ => 4 - (intOf vi).toNat)
  case atStart => exact ⟨0, by omega, rfl, by rw [p4_zero]; simpa using (Blk.new' rfl rfl).alloc _, ⟨_, rfl, Blk.new' (by simp) rfl⟩, ((Kp.refl _ _).alloc _).alloc _⟩
  case round =>
    obtain ⟨k, hk, rfl, h1, h2, hkp⟩ := hrel
    have H1 := Lib.hid h1; have H2 := Lib.hid h2; clear h1 h2
    by_cases hlt : k < 4
    · have hc1 : wr.cell? ⟨w.heap.size, k, none⟩ = some (.int .u8 (cb (P k))) := by rw [H1.out.cell, p4_get _ _ _ hlt]
      have hc2 : wr.cell? ⟨g, 241 + (cb (P k)).toNat, none⟩ = some (.int .u8 (cb (Field.box (P k)))) := (HT.out.keep hkp).2 (P k)
      have hy : 0 ≤ cb (P k) ∧ cb (P k) < 256 := cb_in _
      have hf1 : wr.frozen? ⟨w.heap.size, k, none⟩ = false := H1.out.frozen _
      go_wp2
      go_region
      go_wp2
      go_roundw
      case rel =>
        refine ⟨k + 1, by omega, by go_num, ?_, ?_, ?_⟩
        · have := (H1.out.keep (Kp.refl nob wr).drew (fun e => e)).set_ k (.int .u8 (cb (Field.box (P k))))
          rw [bvs_setb, p4_set (fun k => Field.box (P k)) _ _ hlt] at this
          exact this
        · obtain ⟨z, hz, h2⟩ := H2.out
          exact ⟨z, hz, (h2.keep (Kp.refl nob wr).drew (fun e => e)).far (by simp) _⟩
        · exact hkp.drew.setCell (.inr (Nat.le_refl _)) _
      case measure => simp [intOf]; omega
    · obtain rfl : k = 4 := by omega
      obtain ⟨z, hz, h2⟩ := H2.out
      have h1 := H1.out
      rw [p4_all] at h1
      have HB1 := Lib.hid h1; have HB2 := Lib.hid h2; have HZ := Lib.hid hz
      clear H1 H2 h1 h2 hz
      go_wp2_with (first
        | (refine wpList_load_blk rfl 54 (.tmp 3) rfl _ _ _ HB1.out rfl _ arrW rfl (by rw [HM.out]; kernel_rfl) ?_)
        | (refine wpList_store_blk rfl 54 (.tmp 4) (.tmp 20) rfl _ _ z (bvs (t4 fun k => Field.box (P k))) HB2.out rfl rfl (by rw [HZ.out, HM.out]) (by rw [HM.out]; kernel_rfl) (bvs_one _) ?_; intro w2 hB2 k2 z2))
      have hsz : (Tryd.prog.info? 54).map (·.size) = some (bvs (t4 fun k => Field.box (P k))).toArray.size := by
        rw [List.size_toArray, HM.out]; kernel_rfl
      refine bodyPost_ret (results_cell_row rfl _ _ (w.heap.size + 1) _ _ _ _ rfl hB2 arrW rfl hsz) rfl ⟨rfl, hkp.since k2 (fun i e => by cases e; omega)⟩
end Go.Proofs.YtdoioldlaehkhaaDoor.Aes
