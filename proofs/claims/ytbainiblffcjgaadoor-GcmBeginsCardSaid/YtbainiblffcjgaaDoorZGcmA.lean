/- Contracts of package gcm: a nonce's block. -/
import Derived.Test.YtbainiblffcjgaaDoorZGd
import Derived.Test.YtbainiblffcjgaaDoorZAesH
import Derived.Deep.RegionLaw
namespace Go.Proofs.YtbainiblffcjgaaDoor.Gcm
set_option linter.unusedVariables false
set_option linter.unusedSimpArgs false
open Go Go.RowKit Kit
open Aes (gb tb tb_length gb_tb tb_gb tb_ext tb_eq pt pt_all pt_zero pt_set pt_get blk_byte set_tb bvs_setb arrB)
open Ghash (none16 none_tb none_length len16 pow_next)
open Field (cb cb_inj)

theorem arrN : Tryd.prog.underlying 38 = some (.array 12 5) := by kernel_rfl
theorem u8s_under : Tryd.prog.underlying 24 = some (.slice 5) := by kernel_rfl
theorem nonce_all (g o : Nat) (w : World) : (Instr.sliceAt 38 (.pointer (some ⟨g, o, none⟩)) none none none).run Tryd.prog w = .ok (.slice (some ⟨g, o, none⟩) 12 12) w := by
  have ha : Tryd.prog.underlying 38 = some (.array (Tryd.prog.arrayLen 38) (Tryd.prog.elem 38)) := by kernel_rfl
  have hl : Tryd.prog.arrayLen 38 = 12 := by kernel_rfl
  have he : Tryd.prog.elem 38 = 5 := by kernel_rfl
  have hz : (sizeOf 5).run Tryd.prog w = .ok 1 w := by kernel_rfl
  rw [run_sliceAt_array_all w _ _ ha, hl, he, hz]
  simp [Result.andThen, slicedAt, Addr.add]
theorem block_all (g o : Nat) (w : World) : (Instr.sliceAt 51 (.pointer (some ⟨g, o, none⟩)) none none none).run Tryd.prog w = .ok (.slice (some ⟨g, o, none⟩) 16 16) w := by
  have ha : Tryd.prog.underlying 51 = some (.array (Tryd.prog.arrayLen 51) (Tryd.prog.elem 51)) := by kernel_rfl
  have hl : Tryd.prog.arrayLen 51 = 16 := by kernel_rfl
  have he : Tryd.prog.elem 51 = 5 := by kernel_rfl
  have hz : (sizeOf 5).run Tryd.prog w = .ok 1 w := by kernel_rfl
  rw [run_sliceAt_array_all w _ _ ha, hl, he, hz]
  simp [Result.andThen, slicedAt, Addr.add]
/-- Three blocks: the nonce's, the answer's, the one that is made. -/
structure M3 (w : World) (n o : List UInt8) (w2 : World) : Prop where
  n : Blk w2 w.heap.size 38 (bvs n)
  z : Blk w2 (w.heap.size + 1) 51 (bvs none16)
  o : Blk w2 (w.heap.size + 2) 51 (bvs o)
  kp : Kp nob w w2
theorem M3.set {w w2 : World} {n o : List UInt8} (x : M3 w n o w2) (i : Nat) (u : UInt8) : M3 w n (o.set i u) (w2.setCell ⟨w.heap.size + 2, i, none⟩ (.int .u8 (cb u))) :=
  ⟨x.n.far (by simp) _, x.z.far (by simp) _, by have := x.o.set_ i (.int .u8 (cb u)); rwa [bvs_setb] at this, x.kp.setCell (.inr (by simp)) _⟩
theorem splice_nonce (n : List UInt8) (i : Nat) (hn : n.length = 12) : splice (bvs none16) 0 (bvs n) = bvs (bz n i 0) := by
  rw [← bz_zero, Aes.pt_eq]
  have h : n ++ List.replicate 4 0 = tb fun p => if p < 12 then gb n p else 0 := by
    refine (tb_eq (by simp [hn]) fun p hp => ?_).symm
    by_cases h : p < 12
    · rw [if_pos h, gb, gb, List.getD, List.getD, List.getElem?_append_left (by omega)]
    · rw [if_neg h, gb, List.getD, List.getElem?_append_right (by omega), List.getElem?_replicate, if_pos (by omega)]; rfl
  rw [← h, bvs_append, splice, bvs_length, hn]
  rfl

set_option maxHeartbeats 2000000 in
set_option maxRecDepth 100000 in
theorem block_any (n : List UInt8) (i : Nat) (w : World) (hn : n.length = 12) (hi : i ≤ 1099511627776) :
    Calls Tryd.prog 31 #[.agg (bvs n).toArray, .int .i64 i] w fun e w' => e = .returned (.agg (bvs (nb n i)).toArray) ∧ Kp nob w w' := by
  have HN := Lib.hid hn
  have HNB := Lib.hid (show (bvs n).length = 12 by rw [bvs_length, hn])
  have HB := Lib.hid (splice_nonce n i hn)
  have HA := Lib.hid (bz_all n i hn)
  have HNL := Lib.hid (len16 (nb_length n i hn))
  have HZ := Lib.hid (len16 none_length)
  have f1 := nonce_all w.heap.size 0
  have f2 := block_all (w.heap.size + 2) 0
  clear hn
  go_enter Tryd.func31, Tryd.ntmps31
  have H0 : Hid (M3 w n none16 (((w.alloc (.cells (bvs n).toArray 38)).alloc (.cells (bvs none16).toArray 51)).alloc (.cells (bvs none16).toArray 51)).drew) := Lib.hid (by
    have h : M3 w n none16 (((w.alloc (.cells (bvs n).toArray 38)).alloc (.cells (bvs none16).toArray 51)).alloc (.cells (bvs none16).toArray 51)) := ⟨((Blk.new' rfl rfl).alloc _).alloc _, (Blk.new' (by simp) rfl).alloc _, Blk.new' (by simp) rfl, (((Kp.refl _ _).alloc _).alloc _).alloc _⟩
    exact ⟨h.n.keep (Kp.refl nob _).drew (fun e => e), h.z.keep (Kp.refl nob _).drew (fun e => e), h.o.keep (Kp.refl nob _).drew (fun e => e), h.kp.drew⟩)
  go_wp2_with fail
  go_region_law (first | (refine step_copy_blk rfl (.tmp 7) (.tmp 8) 24 24 rfl 5 u8s_under (by kernel_rfl) (w.heap.size + 2) 0 _ _ _ _ _ _ rfl rfl (bvs none16) 51 H0.out.o (bvs n) (by rw [HNB.out]; rfl) (fun _ => rfl) (.inr ⟨w.heap.size, 0, rfl, H0.out.n.lt, fun i u hu => by rw [Nat.zero_add]; exact (H0.out.n.cell i).trans hu⟩) (by rw [HNB.out, HZ.out]; omega) (bvs_one _) ?_; intro w4 hB4 k4 z4))
  rw [HB.out] at hB4
  have H1 : Hid (M3 w n (bz n i 0) w4) := Lib.hid ⟨H0.out.n.keep k4 (fun e => by unfold oneB at e; omega), H0.out.z.keep k4 (fun e => by unfold oneB at e; omega), hB4, H0.out.kp.since k4 (fun i e => by unfold oneB at e; omega)⟩
  clear hB4 k4 z4 H0 HB f1 f2
  go_wp2
  go_loopw [1, 6] (fun vn vk wr => ∃ (j : Nat) (I : Int), j ≤ 4 ∧ I = 15 - (j : Int) ∧ vn = .int .i64 ((i / 256 ^ j : Nat) : Int) ∧ vk = .int .i64 I ∧ M3 w n (bz n i j) wr)
    (fun _ vk _ => (intOf vk + 1 - 12).toNat)
  case atStart => exact ⟨0, 15, by omega, by omega, by simp, rfl, H1.out⟩
  case round =>
    obtain ⟨j, I, hj, hI, rfl, rfl, h5⟩ := hrel
    have H5 := Lib.hid h5; clear h5 H1
    by_cases hlj : j < 4
    · obtain ⟨q, rfl⟩ : ∃ q : Nat, I = q := ⟨15 - j, by omega⟩
      have HST := Lib.hid (bz_step n i j q (by omega) hlj)
      have hN := Nat.div_le_self i (256 ^ j)
      have HPN := Lib.hid (pow_next i j)
      generalize i / 256 ^ j = N at *
      have hq15 : q ≤ 15 := by omega
      have hq12 : 12 ≤ q := by omega
      have HIJ := Lib.hid (show (q : Int) - 1 = 15 - ((j + 1 : Nat) : Int) by omega)
      have hc1 := blk_byte H5.out.o q (by rw [bz_length]; omega)
      have hf1 := H5.out.o.frozen q
      have eN : IntKind.u8.wrap (N : Int) = cb (UInt8.ofNat N) := by unfold cb; simp [IntKind.wrap, IntKind.signed, IntKind.bits]
      have hN2 : N ≤ 9007199254740992 := by omega
      have hb := H5.out.set q (UInt8.ofNat N)
      rw [HST.out] at hb
      have HBB := Lib.hid hb
      clear hI hN hb
      go_wp2
      exact ⟨⟨j + 1, (q : Int) - 1, by omega, HIJ.out, by rw [HPN.out]; simp, rfl, HBB.out⟩, by simp only [intOf]; omega⟩
    · have h5 := H5.out
      rw [show j = 4 by omega, HA.out] at h5
      have H7 := Lib.hid h5; clear h5 H5
      obtain rfl : I = 11 := by omega
      go_wp2_with (first
        | (refine wpList_load_blk rfl 51 (.tmp 5) rfl _ _ _ H7.out.o rfl _ arrB rfl (by rw [HNL.out]; kernel_rfl) ?_)
        | (refine wpList_store_blk rfl 51 (.tmp 4) (.tmp 20) rfl _ _ _ (bvs (nb n i)) H7.out.z rfl rfl (by rw [HZ.out, HNL.out]) (by rw [HNL.out]; kernel_rfl) (bvs_one _) ?_; intro w2 hB2 k2 z2))
      have hsz : (Tryd.prog.info? 51).map (·.size) = some (bvs (nb n i)).toArray.size := by
        rw [List.size_toArray, HNL.out]; kernel_rfl
      refine bodyPost_ret (results_cell_row rfl _ _ (w.heap.size + 1) _ _ _ _ rfl hB2 arrB rfl hsz) rfl ⟨rfl, H7.out.kp.since k2 (fun i e => by cases e; omega)⟩
end Go.Proofs.YtbainiblffcjgaaDoor.Gcm
