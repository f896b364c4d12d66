/- Lemmas: GcmAg GcmBg GcmCg GcmQg GcmDg GcmEg. -/
import Derived.Test.YtiimfhacnfdmhaaGreatZG08
import Derived.Test.YtiimfhacnfdmhaaGreatZG16
import Derived.Deep.RegionLaw
import Derived.RangeFuncBound
import Derived.RangeFuncLeaves
import Derived.Shelf.Abstract
import Derived.Shelf.RegionOpen
import Derived.OwnWalkIn
import Derived.TacticsInMore
import Derived.LoopNIn
import Derived.LoopIn
set_option linter.unusedVariables false
set_option linter.unusedSimpArgs false
namespace Go.Proofs.YtiimfhacnfdmhaaGreat.Gcm
open Go Go.RowKit Kit
open Aes (gb tb tb_length gb_tb tb_gb tb_ext tb_eq pt pt_all pt_zero pt_set pt_get blk_byte set_tb bvs_setb arrB)
open Ghash (none16 none_length len16 pow_next)
open Field (cb)
theorem arrN : Tryz.prog.underlying 154 = some (.array 12 5) := by kernel_rfl
theorem u8s_under : Tryz.prog.underlying 42 = some (.slice 5) := by kernel_rfl
theorem nonce_all (g o : Nat) (w : World) : (Instr.sliceAt 154 (.pointer (some ⟨g, o, none⟩)) none none none).run Tryz.prog w = .ok (.slice (some ⟨g, o, none⟩) 12 12) w := by
  have ha : Tryz.prog.underlying 154 = some (.array (Tryz.prog.arrayLen 154) (Tryz.prog.elem 154)) := by kernel_rfl
  have hl : Tryz.prog.arrayLen 154 = 12 := by kernel_rfl
  have he : Tryz.prog.elem 154 = 5 := by kernel_rfl
  have hz : (sizeOf 5).run Tryz.prog w = .ok 1 w := by kernel_rfl
  rw [run_sliceAt_array_all w _ _ ha, hl, he, hz]
  simp [Result.andThen, slicedAt, Addr.add]
theorem block_all (g o : Nat) (w : World) : (Instr.sliceAt 210 (.pointer (some ⟨g, o, none⟩)) none none none).run Tryz.prog w = .ok (.slice (some ⟨g, o, none⟩) 16 16) w := by
  have ha : Tryz.prog.underlying 210 = some (.array (Tryz.prog.arrayLen 210) (Tryz.prog.elem 210)) := by kernel_rfl
  have hl : Tryz.prog.arrayLen 210 = 16 := by kernel_rfl
  have he : Tryz.prog.elem 210 = 5 := by kernel_rfl
  have hz : (sizeOf 5).run Tryz.prog w = .ok 1 w := by kernel_rfl
  rw [run_sliceAt_array_all w _ _ ha, hl, he, hz]
  simp [Result.andThen, slicedAt, Addr.add]
structure M3 (w : World) (n o : List UInt8) (w2 : World) : Prop where
  n : Blk w2 w.heap.size 154 (bvs n)
  z : Blk w2 (w.heap.size + 1) 210 (bvs none16)
  o : Blk w2 (w.heap.size + 2) 210 (bvs o)
  kp : Kp nob w w2
theorem M3.set {w w2 : World} {n o : List UInt8} (x : M3 w n o w2) (i : Nat) (u : UInt8) : M3 w n (o.set i u) (w2.setCell ⟨w.heap.size + 2, i, none⟩ (.int .u8 (cb u))) :=
  ⟨x.n.far (by simp) _, x.z.far (by simp) _, by have := x.o.set_ i (.int .u8 (cb u)); rwa [bvs_setb] at this, x.kp.setCell (.inr (by simp)) _⟩
theorem splice_nonce (n : List UInt8) (i : Nat) (hn : n.length = 12) : splice (bvs none16) 0 (bvs n) = bvs (bz n i 0) := by
  rw [← bz_zero, Aes.pt_eq]
  have h : n ++ List.replicate 4 0 = tb fun p => if p < 12 then gb n p else 0 := by
    refine (tb_eq (by simp [hn]) fun p hp => ?_).symm
    by_cases h : p < 12
    · rw [if_pos h, gb, gb, List.getD, List.getD, List.getElem?_append_left (by omega)]
    · rw [if_neg h, gb, List.getD, List.getElem?_append_right (by omega), List.getElem?_replicate, if_pos (by omega)]; rfl
  rw [← h, bvs_append, splice, bvs_length, hn]
  rfl
set_option maxHeartbeats 2000000 in
set_option maxRecDepth 100000 in
theorem block_any (n : List UInt8) (i : Nat) (w : World) (hn : n.length = 12) (hi : i ≤ 1099511627776) :
    Calls Tryz.prog 159 #[.agg (bvs n).toArray, .int .i64 i] w fun e w' => e = .returned (.agg (bvs (nb n i)).toArray) ∧ Kp nob w w' := by
  have HN := Lib.hid hn
  have HNB := Lib.hid (show (bvs n).length = 12 by rw [bvs_length, hn])
  have HB := Lib.hid (splice_nonce n i hn)
  have HA := Lib.hid (bz_all n i hn)
  have HNL := Lib.hid (len16 (nb_length n i hn))
  have HZ := Lib.hid (len16 none_length)
  have f1 := nonce_all w.heap.size 0
  have f2 := block_all (w.heap.size + 2) 0
  clear hn
  go_enter Tryz.func159, Tryz.ntmps159
  have H0 : Hid (M3 w n none16 (((w.alloc (.cells (bvs n).toArray 154)).alloc (.cells (bvs none16).toArray 210)).alloc (.cells (bvs none16).toArray 210)).drew) := Lib.hid (by
    have h : M3 w n none16 (((w.alloc (.cells (bvs n).toArray 154)).alloc (.cells (bvs none16).toArray 210)).alloc (.cells (bvs none16).toArray 210)) := ⟨((Blk.new' rfl rfl).alloc _).alloc _, (Blk.new' (by simp) rfl).alloc _, Blk.new' (by simp) rfl, (((Kp.refl _ _).alloc _).alloc _).alloc _⟩
    exact ⟨h.n.keep (Kp.refl nob _).drew (fun e => e), h.z.keep (Kp.refl nob _).drew (fun e => e), h.o.keep (Kp.refl nob _).drew (fun e => e), h.kp.drew⟩)
  go_wp2_with fail
  go_region_law (first | (refine step_copy_blk rfl (.tmp 7) (.tmp 8) 42 42 rfl 5 u8s_under (by kernel_rfl) (w.heap.size + 2) 0 _ _ _ _ _ _ rfl rfl (bvs none16) 210 H0.out.o (bvs n) (by rw [HNB.out]; rfl) (fun _ => rfl) (.inr ⟨w.heap.size, 0, rfl, H0.out.n.lt, fun i u hu => by rw [Nat.zero_add]; exact (H0.out.n.cell i).trans hu⟩) (by rw [HNB.out, HZ.out]; omega) (bvs_one _) ?_; intro w4 hB4 k4 z4))
  rw [HB.out] at hB4
  have H1 : Hid (M3 w n (bz n i 0) w4) := Lib.hid ⟨H0.out.n.keep k4 (fun e => by unfold oneB at e; omega), H0.out.z.keep k4 (fun e => by unfold oneB at e; omega), hB4, H0.out.kp.since k4 (fun i e => by unfold oneB at e; omega)⟩
  clear hB4 k4 z4 H0 HB f1 f2
  go_wp2
  go_loopw [1, 6] (fun vn vk wr => ∃ (j : Nat) (I : Int), j ≤ 4 ∧ I = 15 - (j : Int) ∧ vn = .int .i64 ((i / 256 ^ j : Nat) : Int) ∧ vk = .int .i64 I ∧ M3 w n (bz n i j) wr)
    (fun _ vk _ => (intOf vk + 1 - 12).toNat)
  case atStart => exact ⟨0, 15, by omega, by omega, by simp, rfl, H1.out⟩
  case round =>
    obtain ⟨j, I, hj, hI, rfl, rfl, h5⟩ := hrel
    have H5 := Lib.hid h5; clear h5 H1
    by_cases hlj : j < 4
    · obtain ⟨q, rfl⟩ : ∃ q : Nat, I = q := ⟨15 - j, by omega⟩
      have HST := Lib.hid (bz_step n i j q (by omega) hlj)
      have hN := Nat.div_le_self i (256 ^ j)
      have HPN := Lib.hid (pow_next i j)
      generalize i / 256 ^ j = N at *
      have hq15 : q ≤ 15 := by omega
      have hq12 : 12 ≤ q := by omega
      have HIJ := Lib.hid (show (q : Int) - 1 = 15 - ((j + 1 : Nat) : Int) by omega)
      have hc1 := blk_byte H5.out.o q (by rw [bz_length]; omega)
      have hf1 := H5.out.o.frozen q
      have eN : IntKind.u8.wrap (N : Int) = cb (UInt8.ofNat N) := by unfold cb; simp [IntKind.wrap, IntKind.signed, IntKind.bits]
      have hN2 : N ≤ 9007199254740992 := by omega
      have hb := H5.out.set q (UInt8.ofNat N)
      rw [HST.out] at hb
      have HBB := Lib.hid hb
      clear hI hN hb
      go_wp2
      exact ⟨⟨j + 1, (q : Int) - 1, by omega, HIJ.out, by rw [HPN.out]; simp, rfl, HBB.out⟩, by simp only [intOf]; omega⟩
    · have h5 := H5.out
      rw [show j = 4 by omega, HA.out] at h5
      have H7 := Lib.hid h5; clear h5 H5
      obtain rfl : I = 11 := by omega
      go_wp2_with (first
        | (refine wpList_load_blk rfl 210 (.tmp 5) rfl _ _ _ H7.out.o rfl _ arrB rfl (by rw [HNL.out]; kernel_rfl) ?_)
        | (refine wpList_store_blk rfl 210 (.tmp 4) (.tmp 20) rfl _ _ _ (bvs (nb n i)) H7.out.z rfl rfl (by rw [HZ.out, HNL.out]) (by rw [HNL.out]; kernel_rfl) (bvs_one _) ?_; intro w2 hB2 k2 z2))
      have hsz : (Tryz.prog.info? 210).map (·.size) = some (bvs (nb n i)).toArray.size := by
        rw [List.size_toArray, HNL.out]; kernel_rfl
      refine bodyPost_ret (results_cell_row rfl _ _ (w.heap.size + 1) _ _ _ _ rfl hB2 arrB rfl hsz) rfl ⟨rfl, H7.out.kp.since k2 (fun i e => by cases e; omega)⟩
end Go.Proofs.YtiimfhacnfdmhaaGreat.Gcm
namespace Go.Proofs.YtiimfhacnfdmhaaGreat.Gcm
open Go Go.RowKit Kit
open Aes (gb allW allW_length Ciph)
open Field (cb Sq)
open Sha (Pc PcsOk catP catP_snoc catP_le)
structure SealAt [Inhabited Field.SqTab] (w : World) (p : Nat) (W : List UInt8) (R : Nat) : Prop where
  c : ∃ g, Blk w p 226 [.pointer (some ⟨g, 0, none⟩)] ∧ Ciph w g W R
theorem SealAt.keep0 [Inhabited Field.SqTab] {w w2 : World} {p R : Nat} {W : List UInt8} (h : SealAt w p W R) (k : Kp nob w w2) : SealAt w2 p W R :=
  let ⟨g, h1, h2⟩ := h.c; ⟨g, h1.keep k (fun e => e), h2.keep0 k⟩
theorem SealAt.lt [Inhabited Field.SqTab] {w : World} {p R : Nat} {W : List UInt8} (h : SealAt w p W R) : p < w.heap.size := let ⟨_, h1, _⟩ := h.c; h1.lt
set_option maxHeartbeats 1000000 in
theorem new_yes [Inhabited Field.SqTab] (n : Nat) (key : List UInt8) (A : Option Addr) (cA : Nat) (w : World) (ht : Sq w) (hk : key.length = 4 * n) (hn : n = 4 ∨ n = 8) (hr : Row w A (bvs key)) (hc : 4 * n ≤ cA) :
    Calls Tryz.prog 145 #[.slice A (4 * n) cA] w fun e w' => ∃ p, e = .returned (.tuple #[.pointer (some ⟨p, 0, none⟩), .int .i64 0]) ∧ SealAt w' p (allW key) (n + 5) ∧ w.heap.size ≤ p ∧ Kp nob w w' := by
  have HK := Lib.hid hk; have HR := Lib.hid hr; have HT := Lib.hid ht; have HN := Lib.hid hn; have HC := Lib.hid hc
  clear hk hr ht hn hc
  go_enter Tryz.func145, Tryz.ntmps145
  go_wp2_with fail
  refine (Aes.new_yes n key A cA w HT.out HK.out HN.out HR.out HC.out).mono ?_
  rintro e w1 ⟨g, rfl, hg, hge, k1⟩
  have HG := Lib.hid hg; have K1 := Lib.hid k1
  have hs := k1.size
  clear hg k1
  go_wp2
  go_ret2
  exact ⟨w1.heap.size, rfl, ⟨g, Blk.new w1 _ _, HG.out.keep0 ((Kp.refl nob w1).alloc _)⟩, hs, K1.out.alloc _⟩
set_option maxHeartbeats 1000000 in
theorem long_any (A : Option Addr) (n c : Nat) (B : Option Addr) (m d : Nat) (ps : List Pc) (w : World) (hm : ps.length = m) (hr : Row w B (ps.map Pc.v)) (hp : PcsOk w nob ps) (hn : n ≤ 1099511627776) (hmm : m ≤ 1099511627776) (hl : (catP ps).length ≤ 1099511627776) :
    Calls Tryz.prog 146 #[.slice A n c, .slice B m d] w fun e w' => e = .returned (.bool (decide (1048576 < n) || decide (1048576 < (catP ps).length))) ∧ w = w' := by
  have HM := Lib.hid hm; clear hm
  go_enter Tryz.func146, Tryz.ntmps146
  go_wp2
  go_loop [5, 10] (fun vr vi => ∃ (k : Nat) (I : Int), k ≤ m ∧ vi = .int .i64 k ∧ I = 1048576 - ((catP (ps.take k)).length : Int) ∧ vr = .int .i64 I)
    (fun _ vi => m - (intOf vi).toNat)
  case atStart => exact ⟨0, 1048576, Nat.zero_le _, rfl, by simp [catP], rfl⟩
  case round =>
    obtain ⟨k, I, hk, rfl, hI, rfl⟩ := hrel
    by_cases hlt : k < m
    · obtain ⟨p, hpk⟩ : ∃ p, p = ps[k]'(by rw [HM.out]; exact hlt) := ⟨_, rfl⟩
      obtain ⟨bb, oo, rfl, hbb, hcell⟩ := hr.at_ (i := k) (by simp [HM.out]; exact hlt)
      have hce : w.cell? ⟨bb, oo + k, none⟩ = some (.slice p.A p.n p.c) := by rw [hcell, hpk]; simp [Pc.v]
      obtain ⟨q1, _, _, q4, q5⟩ := hp p (by rw [hpk]; exact List.getElem_mem _)
      have hsn := catP_snoc ps k (by rw [HM.out]; exact hlt)
      have hle := catP_le ps (k + 1)
      rw [hsn, List.length_append, ← hpk, q1] at hle
      have hS : ((catP (ps.take (k + 1))).length : Int) = ((catP (ps.take k)).length : Int) + (p.n : Int) := by
        rw [hsn, List.length_append, ← hpk, q1]; omega
      obtain ⟨J, hJ⟩ : ∃ J : Int, J = 1048576 - ((catP (ps.take (k + 1))).length : Int) := ⟨_, rfl⟩
      have e1 : IntKind.i64.wrap (I - (p.n : Int)) = J := by rw [IntKind.wrap_i64]; omega
      have HJ := Lib.hid hJ
      clear hcell hpk hsn hle hS hI hJ
      go_wp2
      go_round
      case rel => exact ⟨k + 1, J, by omega, by go_num, HJ.out, rfl⟩
      case measure => simp [intOf]; omega
    · obtain rfl : k = m := by omega
      have hI' : I = 1048576 - ((catP ps).length : Int) := by rw [hI, List.take_of_length_le (by rw [HM.out]; omega)]
      obtain ⟨L, hL⟩ : ∃ L, L = (catP ps).length := ⟨_, rfl⟩
      rw [← hL] at hI' hl
      have HL := Lib.hid hL
      clear hI hL
      subst hI'
      by_cases h1 : 1048576 < n
      · have d1 : decide ((1048576 : Int) < (n : Int)) = true := by simp; omega
        have E : Hid ((decide (1048576 < n) || decide (1048576 < (catP ps).length)) = true) := Lib.hid (by simp [h1])
        clear h1
        go_wp2
        go_ret
        exact ⟨by rw [E.out]; first | rfl | go_simp, rfl⟩
      · have d1 : decide ((1048576 : Int) < (n : Int)) = false := by simp; omega
        by_cases h2 : 1048576 < L
        · have d2 : decide ((1048576 : Int) - (L : Int) < 0) = true := by simp; omega
          have E : Hid ((decide (1048576 < n) || decide (1048576 < (catP ps).length)) = true) := Lib.hid (by rw [← HL.out]; simp [h2])
          clear h1 h2
          go_wp2
          go_ret
          exact ⟨by rw [E.out]; first | rfl | go_simp | (rw [d2]; rfl), rfl⟩
        · have d2 : decide ((1048576 : Int) - (L : Int) < 0) = false := by simp; omega
          have E : Hid ((decide (1048576 < n) || decide (1048576 < (catP ps).length)) = false) := Lib.hid (by rw [← HL.out]; simp [h1, h2])
          clear h1 h2
          go_wp2
          go_ret
          exact ⟨by rw [E.out]; first | rfl | go_simp | (rw [d2]; rfl), rfl⟩
end Go.Proofs.YtiimfhacnfdmhaaGreat.Gcm
namespace Go.Proofs.YtiimfhacnfdmhaaGreat.Gcm
open Go Go.RowKit Kit
open Sha (Pc PcsOk catP catP_snoc catP_le)
theorem u8_size : ∀ w, (sizeOf 5).run Tryz.prog w = .ok 1 w := fun _ => by kernel_rfl
theorem slice_to (A : Option Addr) (n c i : Nat) (hi : i ≤ c) (w : World) : (Instr.slice 42 (.slice A n c) none (some (.int .i64 i)) none).run Tryz.prog w = .ok (.slice A i c) w := by
  have he : Tryz.prog.elem 42 = 5 := by kernel_rfl
  rw [run_slice_h w 42 A n c (by kernel_rfl) .i64 i (by omega) (by omega), he, u8_size]
  cases A <;> simp [Result.andThen, sliced, Addr.add]
theorem slice_from (A : Option Addr) (n c i : Nat) (hi : i ≤ n) (w : World) : (Instr.slice 42 (.slice A n c) (some (.int .i64 i)) none none).run Tryz.prog w = .ok (.slice (cutA A c i) (n - i) (c - i)) w :=
  run_slice_from _ 5 u8s_under (fun _ => by kernel_rfl) A n c i hi w
theorem slice_max (A : Option Addr) (n c i j : Nat) (hi : i ≤ j) (hj : j ≤ c) (w : World) : (Instr.slice 42 (.slice A n c) (some (.int .i64 i)) (some (.int .i64 j)) (some (.int .i64 j))).run Tryz.prog w = .ok (.slice (cutA A j i) (j - i) (j - i)) w := by
  have he : Tryz.prog.elem 42 = 5 := by kernel_rfl
  rw [run_slice_lhm w 42 A n c (by kernel_rfl) .i64 .i64 .i64 i j j (by omega) (by omega) (by omega) (by omega), he, u8_size]
  simp [Result.andThen, sliced, cutA]
set_option maxHeartbeats 1000000 in
set_option maxRecDepth 100000 in
theorem grow_any (N : Nat) (w : World) (hN : N ≤ 1099511627776) :
    Calls Tryz.prog 176 #[.slice none 0 0, .int .i64 N] w fun e w' => ∃ A c, e = .returned (.slice A 0 c) ∧ Kit.Own 5 w' A 0 c [] ∧ Kp nob w w' ∧ ∀ k, ab A = some k → w.heap.size ≤ k := by
  have d0 : decide ((N : Int) < 0) = false := by simp
  go_enter Tryz.func176, Tryz.ntmps176
  by_cases h0 : N = 0
  · subst h0
    go_wp2
    go_ret
    exact ⟨none, 0, rfl, Kit.Own.nil _ _, Kp.refl _ _, fun _ e => by cases e⟩
  · have d1 : decide ((0 : Int) < (N : Int)) = true := by simp; omega
    have hs0 := slice_to none 0 0 0 (Nat.le_refl _)
    obtain ⟨i, hi, hz0, hz1, hz2⟩ := info_parts (show (Tryz.prog.info? 5).map (fun i => (i.zero, i.size, i.bytes)) = some (some (.int .u8 0), 1, 1) by kernel_rfl)
    have hz : i.zero = some (.int .u8 0) ∧ i.size = 1 ∧ i.bytes = 1 := ⟨hz0, hz1, hz2⟩
    have HI := Lib.hid hi; have HZ := Lib.hid hz
    clear hi hz hz0 hz1 hz2
    go_wp2_with (first
      | (refine wpList_appZero _ rfl (.tmp 20) (.tmp 21) 42 3 rfl 5 i .i64 .i64 u8s_under (by kernel_rfl) HI.out HZ.out.1 HZ.out.2.1 HZ.out.2.2 none 0 0 [] rfl (Kit.Own.nil _ _) N rfl (by omega) ?_
         intro A c w1 hown hg hab
         have HO := Lib.hid hown.zero
         have HK := Lib.hid (Kp.of_grown (F := nob) hg (fun k e => by cases e))
         have HA : Hid (∀ k, ab A = some k → w.heap.size ≤ k) := Lib.hid (fun k e => by
           rcases hab with h | h
           · rw [h] at e; cases e
           · rw [h] at e; cases e; exact Nat.le_refl _)
         have hsl := slice_to A (0 + N) c 0 (Nat.zero_le _)
         clear hown hg hab)
      | fail)
    go_ret
    exact ⟨A, c, rfl, HO.out, HK.out, HA.out⟩
set_option maxHeartbeats 1000000 in
set_option maxRecDepth 100000 in
theorem concat_any (B : Option Addr) (m d : Nat) (ps : List Pc) (w : World) (hm : ps.length = m) (hr : Row w B (ps.map Pc.v)) (hp : PcsOk w nob ps) (hnil : ∀ p ∈ ps, p.A = none → p.c = 0) (hmm : m ≤ 1099511627776) (hl : (catP ps).length ≤ 1099511627776) :
    Calls Tryz.prog 158 #[.slice B m d] w fun e w' => ∃ A c, e = .returned (.slice A (catP ps).length c) ∧ Kit.Own 5 w' A (catP ps).length c (bvs (catP ps)) ∧ Kp nob w w' ∧ ∀ k, ab A = some k → w.heap.size ≤ k := by
  have HM := Lib.hid hm; have HL := Lib.hid hl; clear hm hl
  have HPC : Hid (∀ k, k < m → ∃ (p : Pc) (bb oo : Nat), B = some ⟨bb, oo, none⟩ ∧ bb < w.heap.size ∧ w.cell? ⟨bb, oo + k, none⟩ = some (.slice p.A p.n p.c) ∧ p.l.length = p.n ∧ Row w p.A (bvs p.l) ∧ (p.A = none → p.c = 0) ∧ catP (ps.take (k + 1)) = catP (ps.take k) ++ p.l ∧ (catP (ps.take k)).length + p.n ≤ (catP ps).length) := Lib.hid (by
    intro k hlt
    obtain ⟨p, hpk⟩ : ∃ p, p = ps[k]'(by rw [HM.out]; exact hlt) := ⟨_, rfl⟩
    obtain ⟨bb, oo, rfl, hbb, hcell⟩ := hr.at_ (i := k) (by simp [HM.out]; exact hlt)
    have hmem : p ∈ ps := by rw [hpk]; exact List.getElem_mem _
    obtain ⟨q1, q2, _, q4, q5⟩ := hp p hmem
    have hsn := catP_snoc ps k (by rw [HM.out]; exact hlt)
    have hle := catP_le ps (k + 1)
    rw [hsn, List.length_append, ← hpk, q1] at hle
    exact ⟨p, bb, oo, rfl, hbb, by rw [hcell, hpk]; simp [Pc.v], q1, q2, hnil p hmem, by rw [hsn, hpk], hle⟩)
  clear hr hp hnil
  go_enter Tryz.func158, Tryz.ntmps158
  go_wp2
  go_loop [3, 11] (fun vr vi => ∃ (k : Nat), k ≤ m ∧ vi = .int .i64 k ∧ vr = .int .i64 ((catP (ps.take k)).length : Int))
    (fun _ vi => m - (intOf vi).toNat)
  case atStart => exact ⟨0, Nat.zero_le _, rfl, by simp [catP]⟩
  case round =>
    obtain ⟨k, hk, rfl, rfl⟩ := hrel
    by_cases hlt : k < m
    · obtain ⟨p, bb, oo, rfl, hbb, hce, q1, q2, q3, q4, q5⟩ := HPC.out k hlt
      have hS : (catP (ps.take (k + 1))).length = (catP (ps.take k)).length + p.n := by rw [q4, List.length_append, q1]
      have hle := HL.out
      obtain ⟨I, hI⟩ : ∃ I, I = (catP (ps.take k)).length := ⟨_, rfl⟩
      obtain ⟨J, hJ⟩ : ∃ J, J = (catP (ps.take (k + 1))).length := ⟨_, rfl⟩
      rw [← hI, ← hJ] at hS
      rw [← hI] at q5
      rw [← hI]
      have HJ := Lib.hid hJ
      have e1 : IntKind.i64.wrap ((I : Int) + (p.n : Int)) = (J : Int) := by rw [IntKind.wrap_i64]; omega
      have d1 : decide ((J : Int) < 0) = false := by simp
      clear hS hle hI hJ q1 q2 q3 q4
      go_wp2
      go_round
      case rel => exact ⟨k + 1, by omega, by go_num, by rw [HJ.out]⟩
      case measure => simp [intOf]; omega
    · obtain rfl : m = k := by omega
      have hI : (catP (ps.take m)).length = (catP ps).length := by rw [List.take_of_length_le (by rw [HM.out]; omega)]
      rw [hI]
      have hle := HL.out
      obtain ⟨L, hL⟩ : ∃ L, L = (catP ps).length := ⟨_, rfl⟩
      rw [← hL] at hle ⊢
      have HLL := Lib.hid hL
      clear hI hL
      go_wp2_with fail
      refine (grow_any L w hle).mono ?_
      rintro e w1 ⟨A, c, rfl, hO, k1, hA⟩
      have H1 := Lib.hid (And.intro hO (And.intro k1 hA))
      clear hO k1 hA
      go_wp2
      go_loopw [6, 27] (fun vr vi wr => ∃ (k : Nat) (A : Option Addr) (n c : Nat), k ≤ m ∧ vi = .int .i64 k ∧ n = (catP (ps.take k)).length ∧ vr = .slice A n c ∧ Kit.Own 5 wr A n c (bvs (catP (ps.take k))) ∧ Kp nob w wr ∧ ∀ k, ab A = some k → w.heap.size ≤ k)
        (fun _ vi _ => m - (intOf vi).toNat)
      case atStart => exact ⟨0, A, 0, c, Nat.zero_le _, rfl, rfl, rfl, H1.out.1, H1.out.2⟩
      case round =>
        obtain ⟨k, A, n, c, hk, rfl, hn, rfl, hO, hK, hA⟩ := hrel
        by_cases hlt : k < m
        · obtain ⟨p, bb, oo, rfl, hbb, hce, q1, q2, q3, q4, q5⟩ := HPC.out k hlt
          have hce' : wr.cell? ⟨bb, oo + k, none⟩ = some (.slice p.A p.n p.c) := by rw [hK.cell (p := ⟨bb, oo + k, none⟩) hbb (fun e => e), hce]
          have HR := Lib.hid (show Row wr p.A (bvs p.l) from q2.keep0 hK)
          have HPL := Lib.hid (show (bvs p.l).length = p.n by rw [bvs_length, q1])
          have hle := HL.out
          have hb1 : (n + p.n) * 1 ≤ 140737488355328 := by omega
          have hb2 : n + p.n ≤ 140737488355328 := by omega
          have H4 := Lib.hid (show n + p.n = (catP (ps.take (k + 1))).length by rw [q4, List.length_append, q1, hn])
          have H5 := Lib.hid (show bvs (catP (ps.take k)) ++ bvs p.l = bvs (catP (ps.take (k + 1))) by rw [q4, bvs_append])
          have H3 := Lib.hid q3
          have HO := Lib.hid hO; have HK := Lib.hid hK; have HA := Lib.hid hA; have HN := Lib.hid hn
          obtain ⟨i, hi, hz0, hz1, hz2⟩ := info_parts (show (Tryz.prog.info? 5).map (fun i => (i.zero, i.size, i.bytes)) = some (some (.int .u8 0), 1, 1) by kernel_rfl)
          have HI := Lib.hid hi; have HZ := Lib.hid (And.intro hz0 (And.intro hz1 hz2))
          clear hce q1 q2 q3 q4 q5 hle hO hK hA hn hi hz0 hz1 hz2 H1
          go_wp2_with (first
            | (refine wpList_appR _ rfl (.tmp 31) (.tmp 32) 42 rfl 5 i (.int .u8 0) 1 u8s_under HI.out HZ.out.1 HZ.out.2.1 HZ.out.2.2 rfl A n c _ rfl HO.out p.A p.n p.c (bvs p.l) rfl H3.out HPL.out HR.out (bvs_one _) hb1 hb2 ?_
               intro A' c' w' hown hg hab
               rw [H5.out] at hown
               have HO' := Lib.hid hown
               have HK' := Lib.hid (HK.out.since (Kp.of_grown (F := rowF A) hg (fun k e => e)) (fun k e => HA.out k e))
               have HA' : Hid (∀ k, ab A' = some k → w.heap.size ≤ k) := Lib.hid (fun k e => by
                 rcases hab with h | h
                 · exact HA.out k (by rw [← h]; exact e)
                 · rw [h] at e; cases e; exact HK.out.size)
               clear hown hg hab)
            | fail)
          go_roundw
          case rel => exact ⟨k + 1, A', n + p.n, c', by omega, by go_num, H4.out, rfl, HO'.out, HK'.out, HA'.out⟩
          case measure => simp [intOf]; omega
        · obtain rfl : m = k := by omega
          have hI : ps.take m = ps := List.take_of_length_le (by rw [HM.out]; omega)
          rw [hI] at hn hO
          have HO := Lib.hid hO; have HN := Lib.hid hn
          clear hI hn hO
          go_wp2
          go_ret
          exact ⟨A, c, by rw [HN.out]; rfl, by rw [← HN.out]; exact HO.out, hK, hA⟩
end Go.Proofs.YtiimfhacnfdmhaaGreat.Gcm
namespace Go.Proofs.YtiimfhacnfdmhaaGreat.Gcm
open Aes (gb tb enc enc_length)
def piece (l : List UInt8) (k : Nat) : List UInt8 := (l.drop (16 * k)).take 16
theorem piece_eq (l : List UInt8) (k : Nat) : piece l k = (l.drop (16 * k)).take 16 := rfl
theorem piece_length (l : List UInt8) (k : Nat) : (piece l k).length = min 16 (l.length - 16 * k) := by rw [piece, List.length_take, List.length_drop]
theorem gb_piece (l : List UInt8) (k i : Nat) (h : i < 16) : gb (piece l k) i = gb l (16 * k + i) := by rw [piece, Ghash.gb_take _ _ _ h, Ghash.gb_drop]
def mask (E x : List UInt8) : List UInt8 := (List.range x.length).map fun j => gb x j ^^^ gb E j
theorem mask_length (E x : List UInt8) : (mask E x).length = x.length := by simp [mask]
theorem gb_mask (E x : List UInt8) (j : Nat) (h : j < x.length) : gb (mask E x) j = gb x j ^^^ gb E j := by
  rw [gb, mask, List.getD, List.getElem?_map, List.getElem?_range h]; rfl
theorem mask_nil (E : List UInt8) : mask E [] = [] := rfl
theorem mask_snoc (E x : List UInt8) (k : Nat) (h : k < x.length) : mask E (x.take (k + 1)) = mask E (x.take k) ++ [gb x k ^^^ gb E k] := by
  refine gb_ext (by simp [mask_length]; omega) fun i hi => ?_
  rw [mask_length, List.length_take] at hi
  rw [gb_mask _ _ _ (by rw [List.length_take]; omega), Ghash.gb_take _ _ _ (by omega)]
  by_cases hk : i < k
  · rw [gb, gb, gb, List.getD, List.getD, List.getD, List.getElem?_append_left (by rw [mask_length, List.length_take]; omega)]
    have := gb_mask E (x.take k) i (by rw [List.length_take]; omega)
    rw [Ghash.gb_take _ _ _ hk] at this
    exact this.symm
  · obtain rfl : i = k := by omega
    have hl : (mask E (x.take i)).length = i := by rw [mask_length, List.length_take]; omega
    conv => rhs; rw [gb, List.getD, List.getElem?_append_right (by omega), hl, Nat.sub_self]
    rfl
def mks [Inhabited Field.SqTab] (W : List UInt8) (R : Nat) (n l : List UInt8) : Nat → List Nat → List UInt8
  | _, [] => []
  | i, x :: xs => mask (enc W R (nb n (i + 2))) (piece l x) ++ mks W R n l (i + 1) xs
theorem mks_nil [Inhabited Field.SqTab] (W : List UInt8) (R : Nat) (n l : List UInt8) (i : Nat) : mks W R n l i [] = [] := rfl
theorem mks_snoc [Inhabited Field.SqTab] (W : List UInt8) (R : Nat) (n l : List UInt8) (x : Nat) : ∀ (pre : List Nat) (i : Nat), mks W R n l i (pre ++ [x]) = mks W R n l i pre ++ mask (enc W R (nb n (i + pre.length + 2))) (piece l x)
  | [], i => by simp [mks]
  | y :: pre, i => by
    rw [List.cons_append, mks, mks, mks_snoc W R n l x pre (i + 1), List.append_assoc, List.length_cons, show i + 1 + pre.length + 2 = i + (pre.length + 1) + 2 by omega]
theorem mks_length [Inhabited Field.SqTab] (W : List UInt8) (R : Nat) (n l : List UInt8) : ∀ (pre : List Nat) (i : Nat), (mks W R n l i pre).length ≤ 16 * pre.length
  | [], i => by simp [mks]
  | y :: pre, i => by
    have := mks_length W R n l pre (i + 1)
    rw [mks, List.length_append, mask_length, piece_length, List.length_cons]; omega
theorem stream_block [Inhabited Field.SqTab] (W : List UInt8) (R : Nat) (n l : List UInt8) (k : Nat) : stream W R n (l.take (16 * (k + 1))) = stream W R n (l.take (16 * k)) ++ mask (enc W R (nb n (k + 2))) (piece l k) := by
  refine gb_ext (by simp only [stream_length, List.length_append, mask_length, piece_length, List.length_take]; omega) fun i hi => ?_
  rw [stream_length, List.length_take] at hi
  rw [gb_stream _ _ _ _ _ (by rw [List.length_take]; omega), Ghash.gb_take _ _ _ (by omega)]
  by_cases hk : i < 16 * k
  · conv => rhs; rw [gb, List.getD, List.getElem?_append_left (by rw [stream_length, List.length_take]; omega)]
    have := gb_stream W R n (l.take (16 * k)) i (by rw [List.length_take]; omega)
    rw [Ghash.gb_take _ _ _ hk] at this
    exact this.symm
  · have hl : (stream W R n (l.take (16 * k))).length = 16 * k := by rw [stream_length, List.length_take]; omega
    conv => rhs; rw [gb, List.getD, List.getElem?_append_right (by omega), hl]
    have := gb_mask (enc W R (nb n (k + 2))) (piece l k) (i - 16 * k) (by rw [piece_length]; omega)
    rw [gb_piece _ _ _ (by omega), show 16 * k + (i - 16 * k) = i by omega] at this
    rw [sb_eq, show i / 16 = k by omega, show i % 16 = i - 16 * k by omega]
    exact this.symm
theorem mks_range [Inhabited Field.SqTab] (W : List UInt8) (R : Nat) (n l : List UInt8) (k : Nat) : mks W R n l 0 (List.range k) = stream W R n (l.take (16 * k)) := by
  induction k with
  | zero => rw [List.range_zero, mks_nil, Nat.mul_zero, List.take_zero, stream_nil]
  | succ k ih => rw [List.range_succ, mks_snoc, ih, stream_block, List.length_range, Nat.zero_add]
theorem mks_all [Inhabited Field.SqTab] (W : List UInt8) (R : Nat) (n l : List UInt8) (k : Nat) (h : l.length ≤ 16 * k) : mks W R n l 0 (List.range k) = stream W R n l := by
  rw [mks_range, List.take_of_length_le h]
attribute [irreducible] piece mask mks
end Go.Proofs.YtiimfhacnfdmhaaGreat.Gcm
namespace Go.Proofs.YtiimfhacnfdmhaaGreat.Gcm
open Go Go.RowKit Kit
attribute [local go_sem] Oper.semAt_some
def pcv (A : Option Addr) (n k : Nat) : Value := .slice (cutA A (16 * k + min 16 (n - 16 * k)) (16 * k)) (min 16 (n - 16 * k)) (min 16 (n - 16 * k))
theorem chunk_any (A : Option Addr) (n c : Nat) (w : World) :
    Calls Tryz.prog 161 #[.slice A n c, .int .i64 16] w fun e w' => e = .returned (.func (.func 177) #[] #[.pointer (some ⟨w.heap.size, 0, none⟩), .pointer (some ⟨w.heap.size + 1, 0, none⟩)]) ∧ w' = (w.alloc (.cells #[.slice A n c] 42)).alloc (.cells #[.int .i64 16] 3) := by
  go_enter Tryz.func161, Tryz.ntmps161
  go_wp2
  go_ret
  exact ⟨rfl, rfl⟩
set_option maxRecDepth 100000 in
set_option maxHeartbeats 2000000 in
theorem chunk1_in (m l Bs Bn : Nat) (F : Nat → Prop) (A : Option Addr) (n c : Nat) (hn : n ≤ 140737488355328) (hc : n ≤ c) (hFs : ¬ F Bs) (hFn : ¬ F Bn) (J Jx : List Nat → World → Prop)
    (hY : ∀ pre x W, J pre W → pre.length < (n + 15) / 16 → YieldAt Fence.wide (m - 1) Tryz.prog l #[pcv A n x] W fun e W' =>
      (e = .returned (.bool true) ∧ J (pre ++ [x]) W' ∧ Kp F W W') ∨ (e = .returned (.bool false) ∧ Jx (pre ++ [x]) W'))
    (hJd : ∀ pre W j, J pre W → J pre (W.drewN j))
    (W : World) (hBs : W.cell? ⟨Bs, 0, none⟩ = some (.slice A n c)) (hBn : W.cell? ⟨Bn, 0, none⟩ = some (.int .i64 16)) (hs1 : Bs < W.heap.size) (hs2 : Bn < W.heap.size) (h0 : J [] W) :
    CallsIn Fence.wide m Tryz.prog 177 #[.func (.yield l) #[] #[], .pointer (some ⟨Bs, 0, none⟩), .pointer (some ⟨Bn, 0, none⟩)] W fun e W' => (∃ v, e = .returned v) ∧
      ((∃ ys, ys = List.range ((n + 15) / 16) ∧ J ys W') ∨ (∃ pre, Jx pre W')) := by
  refine callsIn_of_wp Tryz.func177 rfl trivial ?_ rfl
  simp only [Tryz.ntmps177, List.size_toArray, List.length_cons, List.length_nil, Nat.reduceAdd, Nat.reduceSub, Array.replicate_succ, Array.replicate_zero, List.push_toArray, List.append_toArray, List.nil_append, List.cons_append]
  gi_wp2
  gi_loopw [4] (fun i wr => ∃ k q : Nat, q = 16 * k ∧ q ≤ n + 15 ∧ i = .int .i64 q ∧ J (List.range k) wr ∧ Kp F W wr)
    (fun i _ => n + 15 - (intOf i).toNat)
  case atStart => exact ⟨0, 0, rfl, Nat.zero_le _, rfl, h0, Kp.refl _ _⟩
  case round =>
    obtain ⟨k, q, hq, hk, rfl, hJs, hnx⟩ := hrel
    have c1 : wr.cell? ⟨Bs, 0, none⟩ = some (.slice A n c) := (hnx.cell (p := ⟨Bs, 0, none⟩) hs1 hFs).trans hBs
    have c2 : wr.cell? ⟨Bn, 0, none⟩ = some (.int .i64 16) := (hnx.cell (p := ⟨Bn, 0, none⟩) hs2 hFn).trans hBn
    have HQ := Lib.hid hq; clear hq
    by_cases hlt : q < n
    · have hsl := slice_from A n c q (by omega)
      obtain ⟨e, he⟩ : ∃ e, e = min 16 (n - q) := ⟨_, rfl⟩
      have hmin : (if ((n - q : Nat) : Int) < 16 then ((n - q : Nat) : Int) else 16) = (e : Int) := by
        rcases Nat.lt_or_ge (n - q) 16 with h | h
        · rw [if_pos (by omega), he, Nat.min_eq_right (by omega)]
        · rw [if_neg (by omega), he, Nat.min_eq_left (by omega)]; rfl
      obtain ⟨j, hj⟩ : ∃ j, j = q + e := ⟨_, rfl⟩
      have he2 : e ≤ n - q ∧ e ≤ 16 ∧ 0 < e := by omega
      have e1 : IntKind.i64.wrap ((q : Int) + (e : Int)) = (j : Int) := by rw [IntKind.wrap_i64]; omega
      have hsl2 : ∀ w, (Instr.slice 42 (.slice A n c) (some (.int .i64 q)) (some (.int .i64 j)) (some (.int .i64 j))).run Tryz.prog w = .ok (pcv A n k) w := fun w => by
        rw [slice_max A n c q j (by omega) (by omega), pcv, ← HQ.out, ← he, hj, show q + e - q = e by omega]
      have e2 : IntKind.i64.wrap ((q : Int) + 16) = ((q + 16 : Nat) : Int) := by rw [IntKind.wrap_i64]; omega
      have HE := Lib.hid (And.intro he (And.intro hj he2))
      clear he hj he2
      gi_wp2
      refine wpIn_wide.2 ?_
      go_quiet (fail)
      have HK := Lib.hid (hnx.trans ⟨rfl, rfl, rfl, Nat.le_refl _, fun _ _ _ => rfl⟩ (fun _ e => .inl e) : Kp F W (wr.drewN nq))
      have HJ := Lib.hid (hJd _ _ nq hJs)
      have c3 : (wr.drewN nq).cell? ⟨Bs, 0, none⟩ = some (.slice A n c) := c1
      have c4 : (wr.drewN nq).cell? ⟨Bn, 0, none⟩ = some (.int .i64 16) := c2
      have hz1 : Bs < (wr.drewN nq).heap.size := Nat.lt_of_lt_of_le hs1 hnx.size
      have hz2 : Bn < (wr.drewN nq).heap.size := Nat.lt_of_lt_of_le hs2 hnx.size
      clear hmin hsl c1 c2 hnx hJs
      generalize wr.drewN nq = wd at *
      obtain ⟨fn, tmps, assign, body, hy, hR⟩ := hY _ k wd HJ.out (by rw [List.length_range]; have := HQ.out; omega)
      gi_wp2
      refine ⟨(fun h => by cases h), hR.mono ?_⟩
      rintro r W3 (⟨rfl, hJ3, hk3⟩ | ⟨rfl, hJx3⟩)
      · have HK3 := Lib.hid (HK.out.trans hk3 (fun _ e => .inl e))
        have c5 : W3.cell? ⟨Bs, 0, none⟩ = some (.slice A n c) := (hk3.cell (p := ⟨Bs, 0, none⟩) hz1 hFs).trans c3
        have c6 : W3.cell? ⟨Bn, 0, none⟩ = some (.int .i64 16) := (hk3.cell (p := ⟨Bn, 0, none⟩) hz2 hFn).trans c4
        have HJ3 := Lib.hid (show J (List.range (k + 1)) W3 by rw [List.range_succ]; exact hJ3)
        clear hJ3 hk3 c3 c4
        gi_wp2
        go_roundw
        case rel => exact ⟨k + 1, q + 16, by have := HQ.out; omega, by omega, by go_num, HJ3.out, HK3.out⟩
        case measure => simp [intOf]; omega
      · gi_wp2
        refine bodyPost_ret (results_none rfl _ _ _) rfl ?_
        exact ⟨⟨_, rfl⟩, .inr ⟨_, hJx3⟩⟩
    · have HJ : Hid (J (List.range ((n + 15) / 16)) wr) := Lib.hid (by rw [show (n + 15) / 16 = k by have := HQ.out; omega]; exact hJs)
      clear hJs
      gi_wp2
      go_end0
      exact ⟨⟨_, rfl⟩, .inl ⟨_, rfl, HJ.out⟩⟩
theorem chunk_stops (m Bs Bn : Nat) (F : Nat → Prop) (A : Option Addr) (n c : Nat) (hn : n ≤ 140737488355328) (hc : n ≤ c) (hFs : ¬ F Bs) (hFn : ¬ F Bn) (w : World) (hBs : w.cell? ⟨Bs, 0, none⟩ = some (.slice A n c)) (hBn : w.cell? ⟨Bn, 0, none⟩ = some (.int .i64 16)) (hs1 : Bs < w.heap.size) (hs2 : Bn < w.heap.size) :
    SeqStopsK Fence.wide m Tryz.prog 177 #[.pointer (some ⟨Bs, 0, none⟩), .pointer (some ⟨Bn, 0, none⟩)] (fun x : Nat => #[pcv A n x]) (Kp F) (fun ys => ys = List.range ((n + 15) / 16)) (fun _ => True) ((n + 15) / 16) w := fun l J Jx W hW hJ _ hY h0 => by
  refine (chunk1_in m l Bs Bn F A n c hn hc hFs hFn J Jx hY (fun pre W j h => hJ pre W _ none h ⟨rfl, rfl, rfl, Nat.le_refl _, fun _ _ _ => rfl⟩ (fun r e => by cases e)) W ((hW.cell (p := ⟨Bs, 0, none⟩) hs1).trans hBs) ((hW.cell (p := ⟨Bn, 0, none⟩) hs2).trans hBn) (Nat.lt_of_lt_of_le hs1 hW.size) (Nat.lt_of_lt_of_le hs2 hW.size) h0).mono ?_
  rintro e W' ⟨he, ⟨ys, rfl, hj⟩ | ⟨pre, hj⟩⟩
  · exact ⟨he, .inl ⟨_, rfl, hj⟩⟩
  · exact ⟨he, .inr ⟨pre, trivial, hj⟩⟩
open Aes (gb tb tb_length arrB blk_byte enc enc_length Ciph)
open Ghash (none16 none_length len16)
open Field (cb)
attribute [local go_sem] Oper.semAt_some
theorem make_room (N : Nat) (hN : N ≤ 140737488355328) : ∃ mk : Array Value, mk.size = N ∧ ∀ w, (Instr.makeSlice 42 (.int .i64 0) (.int .i64 (N : Int))).run Tryz.prog w = .ok (.slice (some ⟨w.heap.size, 0, none⟩) 0 N) (w.alloc (.cells mk 5)) := by
  obtain ⟨i, hi, hz0, hz1, hz2⟩ := info_parts (show (Tryz.prog.info? 5).map (fun i => (i.zero, i.size, i.bytes)) = some (some (.int .u8 0), 1, 1) by kernel_rfl)
  refine ⟨madeCells (Value.int .u8 0).cells (N * 1), by rw [size_madeCells, Nat.mul_one], fun w => ?_⟩
  have h := run_make (P := Tryz.prog) w 42 5 i (.int .u8 0) u8s_under hi hz0 .i64 .i64 0 (N : Int) (Int.le_refl _) (by omega) (by rw [hz2]; omega) (by omega)
  rw [hz1, Int.toNat_natCast] at h
  exact h
def G3 (b : Nat) : Nat → Prop := fun k => k = b + 2 ∨ k = b + 3 ∨ k = b + 4
def F3 (b : Nat) : Nat → Prop := fun k => G3 b k ∨ b + 7 ≤ k
structure Ms [Inhabited Field.SqTab] (b p : Nat) (W : List UInt8) (R : Nat) (nn l : List UInt8) (A : Option Addr) (n c : Nat) (w7 : World) : Prop where
  s : Blk w7 b 199 [.pointer (some ⟨p, 0, none⟩)]
  no : Blk w7 (b + 1) 154 (bvs nn)
  se : SealAt w7 p W R
  r : Row w7 A (bvs l)
  bs : Blk w7 (b + 5) 42 [.slice A n c]
  bn : Blk w7 (b + 6) 3 [.int .i64 16]
  lo : ∀ k, b ≤ k → ¬ (ab A = some k ∧ l ≠ [])
  pc : p < b ∧ ∃ g, g < b ∧ Blk w7 p 226 [.pointer (some ⟨g, 0, none⟩)] ∧ Ciph w7 g W R
theorem Ms.keep [Inhabited Field.SqTab] {b p : Nat} {W : List UInt8} {R : Nat} {nn l : List UInt8} {A : Option Addr} {n c : Nat} {w7 w8 : World} (h : Ms b p W R nn l A n c w7) (hz : w7.heap.size = b + 7) (k : Kp (F3 b) w7 w8) : Ms b p W R nn l A n c w8 := by
  have hb : ∀ j, j < b ∨ j = b + 1 ∨ j = b + 5 ∨ j = b + 6 ∨ j = b → ¬ F3 b j := fun j hj e => by unfold F3 G3 at e; omega
  obtain ⟨hp, g, hg, h1, h2⟩ := h.pc
  have h1' := h1.keep k (hb p (by omega))
  have h2' := h2.keep k (hb g (by omega))
  refine ⟨h.s.keep k (hb _ (by omega)), h.no.keep k (hb _ (by omega)), ⟨g, h1', h2'⟩, ?_, h.bs.keep k (hb _ (by omega)), h.bn.keep k (hb _ (by omega)), h.lo, hp, g, hg, h1', h2'⟩
  by_cases hl : l = []
  · rw [hl]; exact Row.nil _ _
  · exact h.r.keep k (fun j e e' => by
      have := h.r.lt (by intro e; exact hl (by simpa [bvs] using e)) j e
      rcases e' with e' | e'
      · exact h.lo j (by unfold G3 at e'; omega) ⟨e, hl⟩
      · omega)
structure Mr [Inhabited Field.SqTab] (b : Nat) (W : List UInt8) (R : Nat) (nn l : List UInt8) (w7 : World) (pre : List Nat) (w8 : World) : Prop where
  o : ∃ A' n' c', n' = (mks W R nn l 0 pre).length ∧ Blk w8 (b + 3) 42 [.slice A' n' c'] ∧ Kit.Own 5 w8 A' n' c' (bvs (mks W R nn l 0 pre)) ∧ ∀ k, ab A' = some k → k = b + 2 ∨ b + 7 ≤ k
  x : Blk w8 (b + 4) 3 [.int .i64 ((pre.length + 2 : Nat) : Int)]
  kp : Kp (F3 b) w7 w8
theorem not_cells {W : World} {r : Nat} {g : Nat} {cs : Array Value} {t : TypeId} {fr : Nat × Nat} (h : W.heap[g]? = some (.cells cs t fr)) (hr : ∃ o : Obj, W.heap[r]? = some o ∧ o.isCells = false) : g ≠ r := by
  rintro rfl
  obtain ⟨o, ho, hc⟩ := hr
  rw [h] at ho; cases ho; cases hc
theorem Mr.own [Inhabited Field.SqTab] {b : Nat} {W : List UInt8} {R : Nat} {nn l : List UInt8} {w7 : World} (hz : w7.heap.size = b + 7) : OwnFrom w7.heap.size (fun pre w8 => Mr b W R nn l w7 pre w8) := by
  intro pre W1 W2 row h hg hr
  have k := Kp.of_grown (F := fun k => row = some k) hg (fun k e => e)
  obtain ⟨A', n', c', h1, h2, h3, h4⟩ := h.o
  refine ⟨⟨A', n', c', h1, h2.keep k (fun e => not_cells h2 (hr _ e).2 rfl), ?_, h4⟩, h.x.keep k (fun e => not_cells h.x (hr _ e).2 rfl), h.kp.trans k (fun j e => .inl (.inr (by have := (hr j e).1; omega)))⟩
  refine h3.keep k (fun j e e' => ?_)
  rcases h3.2 with ⟨h5, _⟩ | ⟨g, cap, cur, h5, _, h6, _⟩
  · injection h5 with h5; rw [h5] at e; cases e
  · injection h5 with h5
    rw [h5] at e; cases e
    exact not_cells h6 (hr _ e').2 rfl
theorem pcv_row {w : World} {A : Option Addr} {l : List UInt8} {n : Nat} (h : Row w A (bvs l)) (hl : l.length = n) (x : Nat) : ∃ X q, pcv A n x = .slice X q q ∧ q = (piece l x).length ∧ q ≤ 16 ∧ Row w X (bvs (piece l x)) ∧ (ab X = ab A ∧ (q = 0 ∨ l ≠ [])) := by
  refine ⟨_, _, rfl, by rw [piece_length, hl], by omega, ?_, ab_cut _ _ _, ?_⟩
  · have h1 := (h.take (16 * x + min 16 (n - 16 * x))).cut (c := 16 * x + min 16 (n - 16 * x)) (k := 16 * x) (by rw [List.length_take]; omega)
    have e : ((bvs l).take (16 * x + min 16 (n - 16 * x))).drop (16 * x) = bvs (piece l x) := by
      rw [List.drop_take, show 16 * x + min 16 (n - 16 * x) - 16 * x = min 16 (n - 16 * x) by omega]
      rw [piece_eq, bvs, bvs, List.map_take, List.map_drop, List.take_eq_take_min (i := 16), List.length_drop, List.length_map, hl]
    rw [e] at h1
    exact h1
  · by_cases h0 : l = []
    · left; subst h0; simp at hl; omega
    · exact .inr h0
set_option maxHeartbeats 2000000 in
set_option maxRecDepth 100000 in
theorem masked_any [Inhabited Field.SqTab] (p : Nat) (W : List UInt8) (R : Nat) (nn l : List UInt8) (A : Option Addr) (n c : Nat) (w : World) (hS : SealAt w p W R) (hnn : nn.length = 12) (hl : l.length = n) (hc : n ≤ c) (hn : n ≤ 1099511627776) (hr : Row w A (bvs l)) :
    Calls Tryz.prog 149 #[.pointer (some ⟨p, 0, none⟩), .agg (bvs nn).toArray, .slice A n c] w fun e w' => ∃ A' c', e = .returned (.slice A' n c') ∧ Kit.Own 5 w' A' n c' (bvs (stream W R nn l)) ∧ Kp nob w w' ∧ ∀ k, ab A' = some k → w.heap.size ≤ k := by
  obtain ⟨mk, hmk1, hmk⟩ := make_room (n + 16) (by omega)
  simp only [show ((n + 16 : Nat) : Int) = (n : Int) + 16 by omega] at hmk
  have e1 : IntKind.i64.wrap ((n : Int) + 16) = (n : Int) + 16 := by rw [IntKind.wrap_i64]; omega
  have HNN := Lib.hid hnn; have HL := Lib.hid hl; have HM := Lib.hid hmk1; have HC := Lib.hid hc; have HN := Lib.hid hn
  obtain ⟨b, hb⟩ : ∃ b, b = w.heap.size := ⟨_, rfl⟩
  obtain ⟨w7, hw7⟩ : ∃ w7, w7 = ((((((w.alloc (.cells #[.pointer (some ⟨p, 0, none⟩)] 199)).alloc (.cells (bvs nn).toArray 154)).alloc (.cells mk 5)).alloc (.cells #[.slice (some ⟨w.heap.size + 1 + 1, 0, none⟩) 0 (n + 16)] 42)).alloc (.cells #[.int .i64 2] 3)).alloc (.cells #[.slice A n c] 42)).alloc (.cells #[.int .i64 16] 3) := ⟨_, rfl⟩
  have hz7 : w7.heap.size = b + 7 := by rw [hw7, hb]; simp
  have hk7 : Kp nob w w7 := by rw [hw7]; exact (((((((Kp.refl nob w).alloc _).alloc _).alloc _).alloc _).alloc _).alloc _).alloc _
  have hM : Ms b p W R nn l A n c w7 := by
    obtain ⟨g, h1, h2⟩ := hS.c
    have h1' := h1.keep hk7 (fun e => e)
    have h2' := h2.keep0 hk7
    refine ⟨?_, ?_, ⟨g, h1', h2'⟩, hr.keep0 hk7, ?_, ?_, ?_, by rw [hb]; exact h1.lt, g, by rw [hb]; exact h2.lt, h1', h2'⟩
    · rw [hw7]; exact ((((((Blk.new' hb rfl).alloc _).alloc _).alloc _).alloc _).alloc _).alloc _
    · rw [hw7]; exact (((((Blk.new' (by simp [hb]) rfl).alloc _).alloc _).alloc _).alloc _).alloc _
    · rw [hw7]; exact (Blk.new' (by simp [hb]) rfl).alloc _
    · rw [hw7]; exact Blk.new' (by simp [hb]) rfl
    · rintro k hk ⟨e, hl⟩
      have := hr.lt (by intro e; exact hl (by simpa [bvs] using e)) k e
      unfold G3 at hk; omega
  have hO : Mr b W R nn l w7 [] w7 := by
    refine ⟨⟨some ⟨b + 2, 0, none⟩, 0, n + 16, by rw [mks_nil]; rfl, ?_, ?_, fun k e => by cases e; exact .inl rfl⟩, ?_, Kp.refl _ _⟩
    · rw [hw7]; refine (((Blk.new' ?_ ?_).alloc _).alloc _).alloc _ <;> simp [hb]
    · rw [mks_nil]
      have h0 : Kit.Own 5 (((w.alloc (.cells #[.pointer (some ⟨p, 0, none⟩)] 199)).alloc (.cells (bvs nn).toArray 154)).alloc (.cells mk 5)) (some ⟨b + 2, 0, none⟩) 0 (n + 16) [] := by
        have := World.ownsRow_made (base := 0) (size := 1) (e := 5) ((w.alloc (.cells #[.pointer (some ⟨p, 0, none⟩)] 199)).alloc (.cells (bvs nn).toArray 154)) mk (n + 16) (Nat.zero_le _) (by unfold maxLen; omega) (by rw [hmk1, Nat.mul_one])
        rw [show ((w.alloc (.cells #[.pointer (some ⟨p, 0, none⟩)] 199)).alloc (.cells (bvs nn).toArray 154)).heap.size = b + 2 by simp [hb]] at this
        exact this
      rw [hw7]
      exact (((h0.alloc _).alloc _).alloc _).alloc _
    · rw [hw7]; exact ((Blk.new' (by simp [hb]) rfl).alloc _).alloc _
  have HM7 := Lib.hid hM; have HO7 := Lib.hid hO; have HK7 := Lib.hid hk7; have HB := Lib.hid hb; have HZ7 := Lib.hid hz7
  have c5 : w7.cell? ⟨b + 5, 0, none⟩ = some (.slice A n c) := hM.bs.cell 0
  have c6 : w7.cell? ⟨b + 6, 0, none⟩ = some (.int .i64 16) := hM.bn.cell 0
  clear hnn hl hS hr hmk1 hc hn hM hO hk7
  refine (callsIn_wide (n := 3)).1 ?_
  refine callsIn_of_wp_marks Tryz.func149 rfl trivial ?_ rfl
  simp only [Tryz.ntmps149, List.size_toArray, List.length_cons, List.length_nil, Nat.reduceAdd, Nat.reduceSub, Array.replicate_succ, Array.replicate_zero, List.push_toArray, List.append_toArray, List.nil_append, List.cons_append]
  gi_wp2_with (refine ⟨trivial, ?_⟩; refine (callsIn_wide.2 (chunk_any A n c _)).mono ?_; rintro e w' ⟨rfl, rfl⟩)
  rw [← hw7]
  simp only [← hb, Nat.add_assoc, Nat.reduceAdd]
  clear hw7 hmk hb
  refine wpIn_rangeFunc_ownF rfl (by decide) (gf := 177) (lb := #[.pointer (some ⟨b + 5, 0, none⟩), .pointer (some ⟨b + 6, 0, none⟩)]) rfl trivial (enters_of Tryz.func177 (by kernel_rfl) rfl)
    (chunk_stops 2 (b + 5) (b + 6) (F3 b) A n c (by have := HN.out; omega) HC.out (by unfold F3 G3; omega) (by unfold F3 G3; omega) w7 c5 c6 (by omega) (by omega)) (fun h k => kp_t h k) (kp_b (fun k hk => .inr (by omega))) (Below.refl _ _) (fun _ => rfl)
    (fun pre w8 => Mr b W R nn l w7 pre w8) (fun _ _ _ => False) (Mr.own hz7) (fun _ _ _ _ _ h _ _ => h) HO7.out
    (fun x => { tmps := #[.pointer (some ⟨p, 0, none⟩), .agg (bvs nn).toArray, .slice A n c, .pointer (some ⟨b, 0, none⟩), .pointer (some ⟨b + 1, 0, none⟩), undef, .slice none 0 0, .pointer (some ⟨b + 3, 0, none⟩), .pointer (some ⟨b + 4, 0, none⟩), pcv A n x, undef, undef, undef, .slice A n c, .int .i64 (n : Int), .int .i64 ((n : Int) + 16), .slice (some ⟨b + 2, 0, none⟩) 0 (n + 16), .slice A n c, .func (.func 177) #[] #[.pointer (some ⟨b + 5, 0, none⟩), .pointer (some ⟨b + 6, 0, none⟩)], pcv A n x, undef, undef, undef, undef, undef, undef, undef, undef, undef, undef, undef, undef, undef, undef, undef, undef, undef, undef, undef, undef, undef, undef, undef, undef, undef, undef, undef], defers := [] }) ?assign ?body ?done ?stop
  case assign =>
    intro l x W K hK
    gi_wp2
    exact hK
  case stop =>
    rintro D c pre W _ _ h _
    exact h.elim
  case done =>
    rintro D ys w8 hD rfl h hK
    have HO : Hid (∃ A' c', Blk w8 (b + 3) 42 [.slice A' n c'] ∧ Kit.Own 5 w8 A' n c' (bvs (stream W R nn l)) ∧ ∀ k, ab A' = some k → k = b + 2 ∨ b + 7 ≤ k) := Lib.hid (by
      obtain ⟨A', n', c', h1, h2, h3, h4⟩ := h.o
      rw [mks_all _ _ _ _ _ (by rw [HL.out]; omega)] at h1 h3
      rw [stream_length, HL.out] at h1
      subst h1
      exact ⟨A', c', h2, h3, h4⟩)
    have HK := Lib.hid h.kp
    clear h
    obtain ⟨A', c', h2, h3, h4⟩ := HO.out
    have c1 : w8.cell? ⟨b + 3, 0, none⟩ = some (.slice A' n c') := h2.cell 0
    have H3 := Lib.hid h3; have H4 := Lib.hid h4
    clear HO h2 h3 h4
    dsimp only
    gi_wp2
    refine ⟨by simp, .inl ⟨_, _, rfl, run_takeDeferred hK, ?_⟩⟩
    refine ⟨_, results_tmp rfl _ _ _, A', c', rfl, ownsRow_putObj H3.out _ hK rfl, ?_, fun k e => by have := H4.out k e; have := HB.out; omega⟩
    refine (HK7.out.since HK.out (fun i e => by have := HB.out; unfold F3 G3 at e; omega)).since (Kp.of_grown (F := fun k => k = D) (grownBy_putObj' w8 D _) (fun k e => by cases e; rfl)) (fun i e => by have := HB.out; rw [e]; omega)
  case body =>
    rintro lo pre x w8 h hlen
    have HM8 := Lib.hid (HM7.out.keep hz7 h.kp)
    have H8 := Lib.hid h
    clear h c5 c6
    obtain ⟨hpb, g, hgb, hg1, hg2⟩ := HM8.out.pc
    have HG := Lib.hid (And.intro hg1 hg2)
    obtain ⟨E, hE⟩ : ∃ E, E = enc W R (nb nn (pre.length + 2)) := ⟨_, rfl⟩
    have HE := Lib.hid hE
    have HEL := Lib.hid (show (bvs E).length = 16 by rw [bvs_length, hE, enc_length])
    have HNL := Lib.hid (show (bvs nn).length = 12 by rw [bvs_length, HNN.out])
    have HZ := Lib.hid (len16 none_length)
    have HPL := Lib.hid (show pre.length + 2 ≤ 1099511627776 by have := HN.out; omega)
    clear hE hg1 hg2
    gi_wp2
    rename_i K1 hK1
    have hcont : ∀ (m : Nat) (w9 : World), Kp nob w8 w9 → Blk w9 m 210 (bvs E) → w8.heap.size ≤ m → K1 { tmps := #[.pointer (some ⟨p, 0, none⟩), .agg (bvs nn).toArray, .slice A n c, .pointer (some ⟨b, 0, none⟩), .pointer (some ⟨b + 1, 0, none⟩), undef, .slice none 0 0, .pointer (some ⟨b + 3, 0, none⟩), .pointer (some ⟨b + 4, 0, none⟩), pcv A n x, .pointer (some ⟨m, 0, none⟩), undef, undef, .slice A n c, .int .i64 (n : Int), .int .i64 ((n : Int) + 16), .slice (some ⟨b + 2, 0, none⟩) 0 (n + 16), .slice A n c, .func (.func 177) #[] #[.pointer (some ⟨b + 5, 0, none⟩), .pointer (some ⟨b + 6, 0, none⟩)], pcv A n x, .pointer (some ⟨p, 0, none⟩), .pointer (some ⟨p, 0, none⟩), .pointer (some ⟨p, 0, none⟩), .pointer (some ⟨g, 0, none⟩), .agg (bvs nn).toArray, .int .i64 ((pre.length + 2 : Nat) : Int), .agg (bvs (nb nn (pre.length + 2))).toArray, .agg (bvs E).toArray, undef, undef, undef, undef, undef, undef, undef, undef, undef, undef, undef, undef, undef, undef, undef, undef, undef, undef, undef], defers := [] } w9 := by
      intro m w9 k9 hb9 hm9
      obtain ⟨X, q, hpc, hq, hq16, hrx, habx, hxl⟩ := pcv_row HM8.out.r HL.out x
      obtain ⟨A0, n0, c0, hn0, ho0, hO0, hA0⟩ := H8.out.o
      obtain ⟨P, hP⟩ : ∃ P, P = piece l x := ⟨_, rfl⟩
      obtain ⟨M0, hM0⟩ : ∃ M0, M0 = mks W R nn l 0 pre := ⟨_, rfl⟩
      have hml := mks_length W R nn l pre 0
      have hms := mks_snoc W R nn l x pre 0
      rw [Nat.zero_add, ← HE.out] at hms
      rw [← hP] at hq hrx hms
      rw [← hM0] at hn0 hO0 hml hms
      have H9 : Hid (Blk w9 (b + 3) 42 [.slice A0 n0 c0] ∧ Kit.Own 5 w9 A0 n0 c0 (bvs M0) ∧ Row w9 X (bvs P)) := Lib.hid ⟨ho0.keep k9 (fun e => e), hO0.keep k9 (fun _ _ e => e), hrx.keep0 k9⟩
      have HX : Hid (∀ j, ab X = some j → q ≠ 0 → ¬ (j = b + 3 ∨ ab A0 = some j)) := Lib.hid (fun j e hq0 h => by
        have hl0 := hxl.resolve_left hq0
        rw [habx] at e
        have hj := HM8.out.r.lt (by simpa [bvs] using hl0) j e
        rcases h with h | h
        · exact HM8.out.lo j (by omega) ⟨e, hl0⟩
        · have h7 := hA0 j h
          rcases h7 with h7 | h7
          · exact HM8.out.lo j (by omega) ⟨e, hl0⟩
          · exact HM8.out.lo j (by omega) ⟨e, hl0⟩)
      have HMM : Hid (¬ (m = b + 3 ∨ ab A0 = some m)) := Lib.hid (fun h => by
        have := ho0.lt
        rcases h with h | h
        · omega
        · have := hO0.lt m h; omega)
      apply hK1
      rw [hpc]
      have HPM := Lib.hid (show (bvs (M0 ++ mask E P)).length ≤ 1099511628000 by
        rw [bvs_length, List.length_append, mask_length]; have := HN.out; omega)
      have H80 := Lib.hid (And.intro ho0 hO0)
      have HMS := Lib.hid hms; have HML := Lib.hid hml; have HPQ := Lib.hid hq; have HQ16 := Lib.hid hq16; have HN0 := Lib.hid hn0; have HA0 := Lib.hid hA0; have HB9 := Lib.hid hb9; have HK9 := Lib.hid k9; have HM9 := Lib.hid hm9; have HHM := Lib.hid hM0
      clear hms hml hq hq16 hn0 hA0 hb9 k9 hm9 hM0 ho0 hO0 hrx habx hxl hpc hP
      gi_wp2
      gi_loopw [30] (fun vi wr => ∃ (k : Nat) (A' : Option Addr) (n' c' : Nat), k ≤ q ∧ vi = .int .i64 (k : Int) ∧ n' = (M0 ++ mask E (P.take k)).length ∧ Blk wr (b + 3) 42 [.slice A' n' c'] ∧ Kit.Own 5 wr A' n' c' (bvs (M0 ++ mask E (P.take k))) ∧ (ab A' = ab A0 ∨ ∃ j, ab A' = some j ∧ w9.heap.size ≤ j) ∧ Kp (fun j => j = b + 3 ∨ ab A0 = some j) w9 wr)
        (fun vi _ => q - (intOf vi).toNat)
      case atStart => exact ⟨0, A0, n0, c0, Nat.zero_le _, rfl, by rw [List.take_zero, mask_nil, List.append_nil]; exact HN0.out, H9.out.1, by rw [List.take_zero, mask_nil, List.append_nil]; exact H9.out.2.1, .inl rfl, Kp.refl _ _⟩
      case round =>
        obtain ⟨k, A', n', c', hk, rfl, hn', ho, hO, hA', hK⟩ := hrel
        by_cases hlt : k < q
        · obtain ⟨bx, ox, hXe, hbx, hcx⟩ := H9.out.2.2.at_ (i := k) (by rw [bvs_length, ← HPQ.out]; exact hlt)
          subst hXe
          obtain ⟨u, hu⟩ : ∃ u, u = gb P k := ⟨_, rfl⟩
          have hcx2 : wr.cell? ⟨bx, ox + k, none⟩ = some (.int .u8 (cb u)) := by
            rw [hK.cell (p := ⟨bx, ox + k, none⟩) hbx (HX.out bx rfl (by omega)), hcx, hu]
            have := Aes.gb_get P k (by rw [← HPQ.out]; exact hlt)
            rw [List.getElem?_eq_getElem (by rw [bvs_length, ← HPQ.out]; exact hlt)] at this
            exact this
          obtain ⟨v, hv⟩ : ∃ v, v = gb E k := ⟨_, rfl⟩
          have HU := Lib.hid hu; have HV := Lib.hid hv
          have hk16 : k < 16 := by have := HQ16.out; omega
          have HSN := Lib.hid (show M0 ++ mask E (P.take (k + 1)) = (M0 ++ mask E (P.take k)) ++ [u ^^^ v] by rw [mask_snoc E P k (by rw [← HPQ.out]; exact hlt), hu, hv, List.append_assoc])
          have HSL : Hid (n' + 1 ≤ 1099511628000) := Lib.hid (by
            have h1 := HPM.out
            have h2 : (M0 ++ mask E (P.take k)).length + 1 ≤ (bvs (M0 ++ mask E P)).length := by
              rw [bvs_length, List.length_append, List.length_append, mask_length, mask_length, List.length_take, ← HPQ.out]; omega
            omega)
          have HNEW : Hid (∀ j, ab A' = some j → j ≠ b + 3 ∧ j ≠ m ∧ (j = b + 2 ∨ b + 7 ≤ j)) := Lib.hid (fun j e => by
            have h3 := H9.out.1.lt
            have h4 := HB9.out.lt
            have h5 := HK9.out.size
            have h6 : b + 7 ≤ w8.heap.size := by have := H8.out.kp.size; omega
            rcases hA' with h | ⟨i, h, hi⟩
            · rw [h] at e
              refine ⟨fun h0 => ?_, fun h0 => HMM.out (.inr (by rw [← h0]; exact e)), HA0.out j e⟩
              have := HA0.out j e; omega
            · rw [h] at e; cases e
              exact ⟨by omega, by omega, .inr (by omega)⟩)
          have HO := Lib.hid hO; have HO1 := Lib.hid ho; have HA := Lib.hid hA'; have HKI := Lib.hid hK; have HNI := Lib.hid hn'
          have HBM := Lib.hid (HB9.out.keep hK HMM.out)
          clear hu hv hn' ho hO hA' hK hcx hbx
          gi_wp2
          refine reg_beginI (fun w' => Blk w' m 210 (bvs E)) (fun _ _ h => h) (by kernel_rfl) (by kernel_rfl) (HBM.out.keep (Kp.refl nob wr).drew (fun e => e)) (fun hS => ?_)
          have H0 := Lib.hid hS
          have HOd := Lib.hid (HO.out.keep (Kp.refl nob wr).drew (fun _ _ e => e))
          have HO1d := Lib.hid (HO1.out.keep (Kp.refl nob wr).drew (fun e => e))
          have HKd := Lib.hid (HKI.out.drew)
          clear hS
          have c1 : wr.drew.cell? ⟨b + 3, 0, none⟩ = some (.slice A' n' c') := HO1d.out.cell 0
          generalize wr.drew = wd at *
          refine reg_take (v := .int .u8 (cb u)) 1 (some 36) rfl rfl (by kernel_rfl) (by kernel_rfl) (by kernel_rfl) (by rfl) H0.out (fun w hw => by go_simp) ?_
          simp only [Act.put, List.setIfInBounds_toArray, List.set_cons_zero, List.set_cons_succ]
          refine reg_take (v := .int .i64 (k : Int)) 2 (some 37) rfl rfl (by kernel_rfl) (by kernel_rfl) (by kernel_rfl) (by rfl) H0.out (fun w hw => by go_simp) ?_
          simp only [Act.put, List.setIfInBounds_toArray, List.set_cons_zero, List.set_cons_succ]
          refine reg_take (v := .pointer (some ⟨m, k, none⟩)) 3 (some 38) rfl rfl (by kernel_rfl) (by kernel_rfl) (by kernel_rfl) (by rfl) H0.out (fun w hw => by go_simp; intro h; omega) ?_
          simp only [Act.put, List.setIfInBounds_toArray, List.set_cons_zero, List.set_cons_succ]
          refine reg_take (v := .int .u8 (cb v)) 4 (some 39) rfl rfl (by kernel_rfl) (by kernel_rfl) (by kernel_rfl) (by rfl) H0.out (fun w hw => by have c0 := blk_byte hw k (by have := HEL.out; rw [bvs_length] at this; omega); rw [← HV.out] at c0; go_simp) ?_
          simp only [Act.put, List.setIfInBounds_toArray, List.set_cons_zero, List.set_cons_succ]
          refine reg_take (v := .int .u8 (cb (u ^^^ v))) 5 (some 40) rfl rfl (by kernel_rfl) (by kernel_rfl) (by kernel_rfl) (by rfl) H0.out (fun w hw => by go_simp) ?_
          simp only [Act.put, List.setIfInBounds_toArray, List.set_cons_zero, List.set_cons_succ]
          have HSA := Lib.hid (H0.out.alloc (.cells #[.int .u8 (cb (u ^^^ v))] 5))
          obtain ⟨i0, hi0, hz0, hz1, hz2⟩ := info_parts (show (Tryz.prog.info? 5).map (fun i => (i.zero, i.size, i.bytes)) = some (some (.int .u8 0), 1, 1) by kernel_rfl)
          refine reg_stepOr (v := .slice A' n' c') (u := .slice (some ⟨wd.heap.size, 0, none⟩) 1 1) (wi := wd) (wj := wd.alloc (.cells #[.int .u8 (cb (u ^^^ v))] 5)) 0 6 (some 35) (some 41) rfl rfl rfl rfl (by kernel_rfl) (by rfl) (by rfl) (by go_simp) (by go_simp) H0.out HSA.out (fun _ => ?wa) (fun _ => ?wb)
          case wa =>
            simp only [Act.put, List.setIfInBounds_toArray, List.set_cons_zero, List.set_cons_succ]
            refine reg_step (w' := wd.alloc (.cells #[.int .u8 (cb (u ^^^ v))] 5)) (v := .slice (some ⟨wd.heap.size, 0, none⟩) 1 1) 6 (some 41) rfl rfl (by kernel_rfl) (by rfl) (by go_simp) HSA.out (fun _ => ?_)
            simp only [Act.put, List.setIfInBounds_toArray, List.set_cons_zero, List.set_cons_succ]
            refine reg_appK 7 (some 42) (.tmp 35) (.tmp 41) 42 rfl rfl rfl (by kernel_rfl) (by rfl) 1 (by decide) 5 i0 _ 1 u8s_under hi0 hz0 hz1 hz2 rfl A' n' c' (bvs (M0 ++ mask E (P.take k))) rfl (HOd.out.alloc _) ⟨wd.heap.size, 0, none⟩ 1 1 [.int .u8 (cb (u ^^^ v))] rfl rfl (row_one wd _ _) (bvs_one [u ^^^ v]) (by have := HSL.out; omega) (by have := HSL.out; omega) ?_
            intro A2 c2 w3 hown hg hab
            have hS3 : Blk w3 m 210 (bvs E) := HSA.out.keep (Kp.of_grown (F := rowF A') hg (fun k e => e)) (fun e => (HNEW.out m e).2.1 rfl)
            refine ⟨hS3, fun _ => ?_⟩
            simp only [Act.put, List.setIfInBounds_toArray, List.set_cons_zero, List.set_cons_succ]
            have HO3 := Lib.hid (show Kit.Own 5 w3 A2 (n' + 1) c2 (bvs (M0 ++ mask E (P.take (k + 1)))) by
              rw [HSN.out, bvs_append (M0 ++ mask E (P.take k))]; exact hown)
            have hb3 : Blk w3 (b + 3) 42 [.slice A' n' c'] := (HO1d.out.alloc _).keep (Kp.of_grown (F := rowF A') hg (fun k e => e)) (fun e => (HNEW.out _ e).1 rfl)
            have HB3 := Lib.hid (hb3.set_ 0 (.slice A2 (n' + 1) c2))
            have HNE : Hid (∀ j, ab A2 = some j → j ≠ b + 3) := Lib.hid (fun j e => by
              rcases hab with h | h
              · rw [h] at e; exact (HNEW.out j e).1
              · rw [h] at e; cases e; have := HO1d.out.lt; simp; omega)
            have HO4 := Lib.hid (HO3.out.far ⟨b + 3, 0, none⟩ (.slice A2 (n' + 1) c2) (fun j e => HNE.out j e))
            have HK4 : Hid (Kp (fun j => j = b + 3 ∨ ab A0 = some j) w9 (w3.setCell ⟨b + 3, 0, none⟩ (.slice A2 (n' + 1) c2))) := Lib.hid (by
              have h1 := (HKd.out.alloc (.cells #[.int .u8 (cb (u ^^^ v))] 5)).trans (Kp.of_grown (F := rowF A') hg (fun k e => e)) (fun j e => by
                rcases HA.out with h | ⟨i, h, hi⟩
                · exact .inl (.inr (by rw [← h]; exact e))
                · unfold rowF at e; rw [h] at e; cases e; exact .inr hi)
              exact h1.setCell (.inl (.inl rfl)) _)
            have HA4 : Hid (ab A2 = ab A0 ∨ ∃ j, ab A2 = some j ∧ w9.heap.size ≤ j) := Lib.hid (by
              rcases hab with h | h
              · rw [h]; exact HA.out
              · exact .inr ⟨_, h, by have := HKd.out.size; simp; omega⟩)
            have c3 := hb3.cell 0; have f3 := hb3.frozen 0
            refine reg_mute (w' := w3.setCell ⟨b + 3, 0, none⟩ (.slice A2 (n' + 1) c2)) 8 none rfl rfl (by kernel_rfl) (by rfl) (by go_simp) (hS3.far (fun e => HMM.out (.inl e)) _) (fun _ => ?_)
            simp only [Act.put, List.setIfInBounds_toArray, List.set_cons_zero, List.set_cons_succ]
            refine reg_end (by kernel_rfl) ?_
            clear hown hg hab hS3 hb3 c3 f3 c1
            gi_wp2
            go_roundw
            case rel => exact ⟨k + 1, A2, n' + 1, c2, by omega, by go_num, by rw [HSN.out, List.length_append, ← HNI.out]; rfl, HB3.out, HO4.out, HA4.out, HK4.out⟩
            case measure => simp [intOf]; omega
          case wb =>
            simp only [Act.put, List.setIfInBounds_toArray, List.set_cons_zero, List.set_cons_succ]
            have c2 : (wd.alloc (.cells #[.int .u8 (cb (u ^^^ v))] 5)).cell? ⟨b + 3, 0, none⟩ = some (.slice A' n' c') := (HO1d.out.alloc (.cells #[.int .u8 (cb (u ^^^ v))] 5)).cell 0
            refine reg_step (w' := wd.alloc (.cells #[.int .u8 (cb (u ^^^ v))] 5)) (v := .slice A' n' c') 0 (some 35) rfl rfl (by kernel_rfl) (by rfl) (by go_simp) HSA.out (fun _ => ?_)
            simp only [Act.put, List.setIfInBounds_toArray, List.set_cons_zero, List.set_cons_succ]
            clear c2
            refine reg_appK 7 (some 42) (.tmp 35) (.tmp 41) 42 rfl rfl rfl (by kernel_rfl) (by rfl) 1 (by decide) 5 i0 _ 1 u8s_under hi0 hz0 hz1 hz2 rfl A' n' c' (bvs (M0 ++ mask E (P.take k))) rfl (HOd.out.alloc _) ⟨wd.heap.size, 0, none⟩ 1 1 [.int .u8 (cb (u ^^^ v))] rfl rfl (row_one wd _ _) (bvs_one [u ^^^ v]) (by have := HSL.out; omega) (by have := HSL.out; omega) ?_
            intro A2 c2 w3 hown hg hab
            have hS3 : Blk w3 m 210 (bvs E) := HSA.out.keep (Kp.of_grown (F := rowF A') hg (fun k e => e)) (fun e => (HNEW.out m e).2.1 rfl)
            refine ⟨hS3, fun _ => ?_⟩
            simp only [Act.put, List.setIfInBounds_toArray, List.set_cons_zero, List.set_cons_succ]
            have HO3 := Lib.hid (show Kit.Own 5 w3 A2 (n' + 1) c2 (bvs (M0 ++ mask E (P.take (k + 1)))) by
              rw [HSN.out, bvs_append (M0 ++ mask E (P.take k))]; exact hown)
            have hb3 : Blk w3 (b + 3) 42 [.slice A' n' c'] := (HO1d.out.alloc _).keep (Kp.of_grown (F := rowF A') hg (fun k e => e)) (fun e => (HNEW.out _ e).1 rfl)
            have HB3 := Lib.hid (hb3.set_ 0 (.slice A2 (n' + 1) c2))
            have HNE : Hid (∀ j, ab A2 = some j → j ≠ b + 3) := Lib.hid (fun j e => by
              rcases hab with h | h
              · rw [h] at e; exact (HNEW.out j e).1
              · rw [h] at e; cases e; have := HO1d.out.lt; simp; omega)
            have HO4 := Lib.hid (HO3.out.far ⟨b + 3, 0, none⟩ (.slice A2 (n' + 1) c2) (fun j e => HNE.out j e))
            have HK4 : Hid (Kp (fun j => j = b + 3 ∨ ab A0 = some j) w9 (w3.setCell ⟨b + 3, 0, none⟩ (.slice A2 (n' + 1) c2))) := Lib.hid (by
              have h1 := (HKd.out.alloc (.cells #[.int .u8 (cb (u ^^^ v))] 5)).trans (Kp.of_grown (F := rowF A') hg (fun k e => e)) (fun j e => by
                rcases HA.out with h | ⟨i, h, hi⟩
                · exact .inl (.inr (by rw [← h]; exact e))
                · unfold rowF at e; rw [h] at e; cases e; exact .inr hi)
              exact h1.setCell (.inl (.inl rfl)) _)
            have HA4 : Hid (ab A2 = ab A0 ∨ ∃ j, ab A2 = some j ∧ w9.heap.size ≤ j) := Lib.hid (by
              rcases hab with h | h
              · rw [h]; exact HA.out
              · exact .inr ⟨_, h, by have := HKd.out.size; simp; omega⟩)
            have c3 := hb3.cell 0; have f3 := hb3.frozen 0
            refine reg_mute (w' := w3.setCell ⟨b + 3, 0, none⟩ (.slice A2 (n' + 1) c2)) 8 none rfl rfl (by kernel_rfl) (by rfl) (by go_simp) (hS3.far (fun e => HMM.out (.inl e)) _) (fun _ => ?_)
            simp only [Act.put, List.setIfInBounds_toArray, List.set_cons_zero, List.set_cons_succ]
            refine reg_end (by kernel_rfl) ?_
            clear hown hg hab hS3 hb3 c3 f3 c1
            gi_wp2
            go_roundw
            case rel => exact ⟨k + 1, A2, n' + 1, c2, by omega, by go_num, by rw [HSN.out, List.length_append, ← HNI.out]; rfl, HB3.out, HO4.out, HA4.out, HK4.out⟩
            case measure => simp [intOf]; omega
        · obtain rfl : q = k := by omega
          have htk : P.take q = P := List.take_of_length_le (by rw [HPQ.out]; omega)
          rw [htk] at hn' hO
          rw [← HMS.out] at hn' hO
          have hbx := H8.out.x.keep HK9.out (fun e => e)
          have hbx2 := hbx.keep hK (fun e => by
            rcases e with e | e
            · omega
            · have := HA0.out _ e; omega)
          have c4 : wr.cell? ⟨b + 4, 0, none⟩ = some (.int .i64 ((pre.length : Int) + 2)) := hbx2.cell 0
          have f4 := hbx2.frozen 0
          obtain ⟨N2, hN2⟩ : ∃ N2, N2 = pre.length + 3 := ⟨_, rfl⟩
          have e2 : IntKind.i64.wrap ((pre.length : Int) + 2 + 1) = (N2 : Int) := by rw [IntKind.wrap_i64]; have := HPL.out; omega
          have hkk : Kp (fun j => j = b + 3 ∨ j = b + 4 ∨ ab A0 = some j) w8 (wr.setCell ⟨b + 4, 0, none⟩ (.int .i64 (N2 : Int))) :=
            (((HK9.out.nob _).trans hK (fun j e => .inl (e.elim .inl (fun e => .inr (.inr e))))).setCell (.inl (.inr (.inl rfl))) _)
          have HKK := Lib.hid hkk
          have HOT : Hid (KeepsOthers w8 (wr.setCell ⟨b + 4, 0, none⟩ (.int .i64 (N2 : Int)))) := Lib.hid (hkk.others (fun j o hj ho => by
            rcases hj with rfl | rfl | e
            · have h1 : w8.heap[b + 3]? = _ := H80.out.1
              rw [h1] at ho; cases ho; rfl
            · have h1 : w8.heap[b + 4]? = _ := H8.out.x
              rw [h1] at ho; cases ho; rfl
            · rcases H80.out.2.2 with ⟨h5, _⟩ | ⟨g5, cap, cur, h5, _, h6, _⟩
              · injection h5 with h5; rw [h5] at e; cases e
              · injection h5 with h5
                rw [h5] at e; cases e
                rw [h6] at ho; cases ho; rfl))
          have HNW : Hid (∀ j, ab A' = some j → j = b + 2 ∨ b + 7 ≤ j) := Lib.hid (fun j e => by
            have h5 := HK9.out.size
            have h6 : b + 7 ≤ w8.heap.size := by have := H8.out.kp.size; omega
            rcases hA' with h | ⟨i, h, hi⟩
            · exact HA0.out j (by rw [← h]; exact e)
            · rw [h] at e; cases e; exact .inr (by omega))
          have HM2 : Hid (Mr b W R nn l w7 (pre ++ [x]) (wr.setCell ⟨b + 4, 0, none⟩ (.int .i64 (N2 : Int)))) := Lib.hid (by
            refine ⟨⟨A', n', c', hn', ho.far (by simp) _, hO.far _ _ (fun j e => ?_), fun j e => ?_⟩, ?_, ?_⟩
            · have := HNW.out j e
              simp only; omega
            · exact HNW.out j e
            · have := hbx2.set_ 0 (.int .i64 (N2 : Int))
              rw [List.length_append, show pre.length + [x].length + 2 = N2 by rw [hN2]; rfl]
              exact this
            · exact H8.out.kp.trans hkk (fun j e => by
                have h7 := H8.out.kp.size
                rcases e with e | e | e
                · exact .inl (.inl (.inr (.inl e)))
                · exact .inl (.inl (.inr (.inr e)))
                · rcases HA0.out j e with h | h
                  · exact .inl (.inl (.inl h))
                  · exact .inl (.inr h)))
          clear hbx hbx2 hkk hN2
          gi_wp2
          exact ⟨HOT.out, HKK.out.mono (fun j _ e => by
            rcases e with e | e | e
            · exact .inl (.inr (.inl e))
            · exact .inl (.inr (.inr e))
            · rcases HA0.out j e with h | h
              · exact .inl (.inl h)
              · exact .inr h), HM2.out⟩
    clear hK1
    refine reg_startI (fun w' => Kp nob w8 w') (fun _ _ h => h) (by kernel_rfl) (by kernel_rfl) (Kp.refl nob w8).drew (fun wd hd => ?_)
    have H0 := Lib.hid hd
    clear hd
    refine reg_take (v := .pointer (some ⟨p, 0, none⟩)) 0 (some 20) rfl rfl (by kernel_rfl) (by kernel_rfl) (by kernel_rfl) (by rfl) H0.out (fun w hw => by have c0 : w.cell? ⟨b, 0, none⟩ = _ := (HM8.out.s.keep hw (fun e => e)).cell 0; go_simp) ?_
    simp only [Act.put, List.setIfInBounds_toArray, List.set_cons_zero, List.set_cons_succ]
    refine reg_take (v := .pointer (some ⟨p, 0, none⟩)) 1 (some 21) rfl rfl (by kernel_rfl) (by kernel_rfl) (by kernel_rfl) (by rfl) H0.out (fun w hw => by go_simp) ?_
    simp only [Act.put, List.setIfInBounds_toArray, List.set_cons_zero, List.set_cons_succ]
    refine reg_take (v := .pointer (some ⟨p, 0, none⟩)) 2 (some 22) rfl rfl (by kernel_rfl) (by kernel_rfl) (by kernel_rfl) (by rfl) H0.out (fun w hw => by go_simp) ?_
    simp only [Act.put, List.setIfInBounds_toArray, List.set_cons_zero, List.set_cons_succ]
    refine reg_take (v := .pointer (some ⟨g, 0, none⟩)) 3 (some 23) rfl rfl (by kernel_rfl) (by kernel_rfl) (by kernel_rfl) (by rfl) H0.out (fun w hw => by have c0 : w.cell? ⟨p, 0, none⟩ = _ := (HG.out.1.keep hw (fun e => e)).cell 0; go_simp) ?_
    simp only [Act.put, List.setIfInBounds_toArray, List.set_cons_zero, List.set_cons_succ]
    refine reg_load 4 (some 24) 154 (.tmp 4) rfl rfl rfl (by kernel_rfl) (by kernel_rfl) (by kernel_rfl) (by rfl) H0.out (b + 1) 0 rfl (bvs nn) _ (fun _ x => (HM8.out.no.keep x (fun e => e)).range) arrN rfl (by rw [HNL.out]; kernel_rfl) ?_
    simp only [Act.put, List.setIfInBounds_toArray, List.set_cons_zero, List.set_cons_succ]
    refine reg_take (v := .int .i64 ((pre.length + 2 : Nat) : Int)) 5 (some 25) rfl rfl (by kernel_rfl) (by kernel_rfl) (by kernel_rfl) (by rfl) H0.out (fun w hw => by have c0 : w.cell? ⟨b + 4, 0, none⟩ = _ := (H8.out.x.keep hw (fun e => e)).cell 0; go_simp) ?_
    simp only [Act.put, List.setIfInBounds_toArray, List.set_cons_zero, List.set_cons_succ]
    refine reg_callOr (w' := wd.alloc (.cells (bvs none16).toArray 210)) (v := .pointer (some ⟨wd.heap.size, 0, none⟩)) 6 8 (some 26) (some 10) rfl rfl rfl rfl (by kernel_rfl) (by rfl) (by rfl) _ _ (exec_func 159 _ _ [.agg (bvs nn).toArray, .int .i64 ((pre.length + 2 : Nat) : Int)] rfl (by kernel_rfl) rfl) (by go_simp; rfl) (H0.out.alloc _) ?wa1 (fun _ => ?wb1)
    case wa1 =>
      refine (block_any nn (pre.length + 2) wd HNN.out HPL.out).mono ?_
      rintro e w1 ⟨rfl, k1⟩
      have H1 := Lib.hid (H0.out.trans k1 (fun _ e => e.elim))
      refine ⟨_, rfl, H1.out, fun _ => ?_⟩
      simp only [Act.put, List.setIfInBounds_toArray, List.set_cons_zero, List.set_cons_succ]
      refine reg_callOr (w' := w1.alloc (.cells (bvs none16).toArray 210)) (v := .pointer (some ⟨w1.heap.size, 0, none⟩)) 7 8 (some 27) (some 10) rfl rfl rfl rfl (by kernel_rfl) (by rfl) (by rfl) _ _ (exec_func 156 _ _ [.pointer (some ⟨g, 0, none⟩), .agg (bvs (nb nn (pre.length + 2))).toArray] rfl (by kernel_rfl) rfl) (by go_simp; rfl) (H1.out.alloc _) ?wa2 (fun _ => ?wb2)
      case wa2 =>
        refine (Aes.seal_any (nb nn (pre.length + 2)) W g R w1 (nb_length _ _ HNN.out) (HG.out.2.keep0 H1.out)).mono ?_
        rintro e w2 ⟨rfl, k2⟩
        rw [← HE.out]
        have H2 := Lib.hid (H1.out.trans k2 (fun _ e => e.elim))
        refine ⟨_, rfl, H2.out, fun _ => ?_⟩
        simp only [Act.put, List.setIfInBounds_toArray, List.set_cons_zero, List.set_cons_succ]
        refine reg_step (w' := w2.alloc (.cells (bvs none16).toArray 210)) (v := .pointer (some ⟨w2.heap.size, 0, none⟩)) 8 (some 10) rfl rfl (by kernel_rfl) (by rfl) (by go_simp; rfl) (H2.out.alloc _) (fun _ => ?_)
        simp only [Act.put, List.setIfInBounds_toArray, List.set_cons_zero, List.set_cons_succ]
        have hbk : Blk (w2.alloc (.cells (bvs none16).toArray 210)) w2.heap.size 210 (bvs none16) := Blk.new' rfl rfl
        have hge := H2.out.size
        refine reg_store 9 none 210 (.tmp 10) (.tmp 27) rfl rfl rfl (by kernel_rfl) (by rfl) w2.heap.size _ _ (bvs E) hbk rfl rfl (by rw [HEL.out, HZ.out]) (by rw [HEL.out]; kernel_rfl) (bvs_one _) ?_
        intro w99 hB99 k99 z99
        have hkk : Kp nob w8 w99 := (H2.out.alloc _).since k99 (fun i e => by unfold oneB at e; omega)
        refine ⟨hkk, fun _ => ?_⟩
        simp only [Act.put, List.setIfInBounds_toArray, List.set_cons_zero, List.set_cons_succ]
        exact reg_end (by kernel_rfl) (hcont w2.heap.size w99 hkk hB99 hge)
      case wb2 =>
        simp only [Act.put, List.setIfInBounds_toArray, List.set_cons_zero, List.set_cons_succ]
        have hbk : Blk (w1.alloc (.cells (bvs none16).toArray 210)) w1.heap.size 210 (bvs none16) := Blk.new' rfl rfl
        have hge := H1.out.size
        have H1a := Lib.hid (H1.out.alloc (.cells (bvs none16).toArray 210))
        generalize w1.alloc (.cells (bvs none16).toArray 210) = w1a at *
        refine reg_call 7 (some 27) rfl rfl (by kernel_rfl) (by rfl) _ _ (exec_func 156 _ _ [.pointer (some ⟨g, 0, none⟩), .agg (bvs (nb nn (pre.length + 2))).toArray] rfl (by kernel_rfl) rfl) ?_
        refine (Aes.seal_any (nb nn (pre.length + 2)) W g R w1a (nb_length _ _ HNN.out) (HG.out.2.keep0 H1a.out)).mono ?_
        rintro e w2 ⟨rfl, k2⟩
        rw [← HE.out]
        have H2 := Lib.hid (H1a.out.trans k2 (fun _ e => e.elim))
        refine ⟨_, rfl, H2.out, fun _ => ?_⟩
        simp only [Act.put, List.setIfInBounds_toArray, List.set_cons_zero, List.set_cons_succ]
        have hbk2 := hbk.keep k2 (fun e => e)
        refine reg_store 9 none 210 (.tmp 10) (.tmp 27) rfl rfl rfl (by kernel_rfl) (by rfl) w1.heap.size _ _ (bvs E) hbk2 rfl rfl (by rw [HEL.out, HZ.out]) (by rw [HEL.out]; kernel_rfl) (bvs_one _) ?_
        intro w99 hB99 k99 z99
        have hkk : Kp nob w8 w99 := H2.out.since k99 (fun i e => by unfold oneB at e; omega)
        refine ⟨hkk, fun _ => ?_⟩
        simp only [Act.put, List.setIfInBounds_toArray, List.set_cons_zero, List.set_cons_succ]
        exact reg_end (by kernel_rfl) (hcont w1.heap.size w99 hkk hB99 hge)
    case wb1 =>
      simp only [Act.put, List.setIfInBounds_toArray, List.set_cons_zero, List.set_cons_succ]
      have hbk : Blk (wd.alloc (.cells (bvs none16).toArray 210)) wd.heap.size 210 (bvs none16) := Blk.new' rfl rfl
      have hge := H0.out.size
      have H0a := Lib.hid (H0.out.alloc (.cells (bvs none16).toArray 210))
      generalize wd.alloc (.cells (bvs none16).toArray 210) = wda at *
      refine reg_call 6 (some 26) rfl rfl (by kernel_rfl) (by rfl) _ _ (exec_func 159 _ _ [.agg (bvs nn).toArray, .int .i64 ((pre.length + 2 : Nat) : Int)] rfl (by kernel_rfl) rfl) ?_
      refine (block_any nn (pre.length + 2) wda HNN.out HPL.out).mono ?_
      rintro e w1 ⟨rfl, k1⟩
      have H1 := Lib.hid (H0a.out.trans k1 (fun _ e => e.elim))
      refine ⟨_, rfl, H1.out, fun _ => ?_⟩
      simp only [Act.put, List.setIfInBounds_toArray, List.set_cons_zero, List.set_cons_succ]
      refine reg_call 7 (some 27) rfl rfl (by kernel_rfl) (by rfl) _ _ (exec_func 156 _ _ [.pointer (some ⟨g, 0, none⟩), .agg (bvs (nb nn (pre.length + 2))).toArray] rfl (by kernel_rfl) rfl) ?_
      refine (Aes.seal_any (nb nn (pre.length + 2)) W g R w1 (nb_length _ _ HNN.out) (HG.out.2.keep0 H1.out)).mono ?_
      rintro e w2 ⟨rfl, k2⟩
      rw [← HE.out]
      have H2 := Lib.hid (H1.out.trans k2 (fun _ e => e.elim))
      refine ⟨_, rfl, H2.out, fun _ => ?_⟩
      simp only [Act.put, List.setIfInBounds_toArray, List.set_cons_zero, List.set_cons_succ]
      have hbk2 := (hbk.keep k1 (fun e => e)).keep k2 (fun e => e)
      refine reg_store 9 none 210 (.tmp 10) (.tmp 27) rfl rfl rfl (by kernel_rfl) (by rfl) wd.heap.size _ _ (bvs E) hbk2 rfl rfl (by rw [HEL.out, HZ.out]) (by rw [HEL.out]; kernel_rfl) (bvs_one _) ?_
      intro w99 hB99 k99 z99
      have hkk : Kp nob w8 w99 := H2.out.since k99 (fun i e => by unfold oneB at e; omega)
      refine ⟨hkk, fun _ => ?_⟩
      simp only [Act.put, List.setIfInBounds_toArray, List.set_cons_zero, List.set_cons_succ]
      exact reg_end (by kernel_rfl) (hcont wd.heap.size w99 hkk hB99 hge)
end Go.Proofs.YtiimfhacnfdmhaaGreat.Gcm
