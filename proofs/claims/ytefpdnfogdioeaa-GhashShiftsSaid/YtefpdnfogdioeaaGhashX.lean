/- Contracts of the document's own GHASH: bytes taken in. -/
import Derived.Test.YtefpdnfogdioeaaGhashW
import Derived.Test.YtefpdnfogdioeaaBlkE
import Derived.Test.YtefpdnfogdioeaaRegS
namespace Go.Proofs.Ytefpdnfogdioeaa.Ghash
set_option linter.unusedVariables false
set_option linter.unusedSimpArgs false
open Go Go.RowKit Kit
open Aes (gb tb tb_length gb_tb tb_gb tb_ext tb_eq arr16)
open Field (cb cb_inj)

theorem part_copied (l : List UInt8) (k : Nat) (hk : 16 * k < l.length) : bvs ((l.drop (16 * k)).take 16) ++ (bvs none16).drop (min (l.drop (16 * k)).length 16) = bvs (part l k) := by
  have e : (bvs none16).drop (min (l.drop (16 * k)).length 16) = bvs (none16.drop (min (l.drop (16 * k)).length 16)) := by rw [bvs, bvs, List.map_drop]
  rw [e, ← bvs_append, part_eq]
  congr 1
  symm
  refine tb_eq (by simp [none16]; omega) fun i hi => ?_
  by_cases h : i < ((l.drop (16 * k)).take 16).length
  · rw [gb, gb, List.getD, List.getD, List.getElem?_append_left h, List.getElem?_take, if_pos (by omega), List.getElem?_drop]
  · have h2 : l.length ≤ 16 * k + i := by simp at h; omega
    rw [gb, gb, List.getD, List.getD, List.getElem?_append_right (by omega), List.getElem?_eq_none h2, List.getElem?_drop]
    rw [none16, List.getElem?_replicate]
    split <;> rfl

theorem str_extract (m : List UInt8) (a b : Nat) : (str m).extract a b = str ((m.take b).drop a) := by
  apply ByteArray.ext
  simp [str]
  rw [List.drop_take]
theorem drop_next (l : List UInt8) (k : Nat) (h : 16 * k < l.length) : (str (l.drop (16 * k))).extract (min ((l.length - 16 * k : Nat) : Int) 16).toNat (l.length - 16 * k) = str (l.drop (16 * (k + 1))) := by
  rw [str_extract, List.take_of_length_le (by rw [List.length_drop]; exact Nat.le_refl _), List.drop_drop]
  congr 1
  by_cases h2 : l.length - 16 * k < 16
  · rw [List.drop_eq_nil_of_le (by omega), List.drop_eq_nil_of_le (by omega)]
  · congr 1
    omega
def lenS : Value → Nat
  | .string s => s.size
  | _ => 0
/-- What stands while bytes are taken in. -/
structure B5 (w : World) (h s : List UInt8) (w2 : World) : Prop where
  h : Blk w2 w.heap.size 22 (bvs h)
  s : Blk w2 (w.heap.size + 1) 22 (bvs s)
  z : Blk w2 (w.heap.size + 2) 22 (bvs none16)
  kp : Kp nob w w2
theorem B5.keep {w w2 w3 : World} {h s : List UInt8} {F : Nat → Prop} (x : B5 w h s w2) (k : Kp F w2 w3) (hF : ∀ i, F i → w.heap.size + 2 < i) : B5 w h s w3 :=
  ⟨x.h.keep k (fun e => by have := hF _ e; omega), x.s.keep k (fun e => by have := hF _ e; omega), x.z.keep k (fun e => by have := hF _ e; omega), x.kp.since k (fun i e => by have := hF i e; omega)⟩
theorem B5.outS {w w2 w3 : World} {h s s2 : List UInt8} (x : B5 w h s w2) (k : Kp (oneB (w.heap.size + 1)) w2 w3) (hs : Blk w3 (w.heap.size + 1) 22 (bvs s2)) : B5 w h s2 w3 :=
  ⟨x.h.keep k (fun e => by unfold oneB at e; omega), hs, x.z.keep k (fun e => by unfold oneB at e; omega), x.kp.since k (fun i e => by unfold oneB at e; omega)⟩
theorem B5.lt {w w2 : World} {h s : List UInt8} (x : B5 w h s w2) : w.heap.size + 2 < w2.heap.size := x.z.lt

set_option maxHeartbeats 2000000 in
set_option maxRecDepth 100000 in
theorem fTake (h s : List UInt8) (str0 : ByteArray) (w : World) (hh : h.length = 16) (hs : s.length = 16) (hl : str0.size ≤ 140737488355328) :
    Calls Try.prog 16 #[.agg (bvs h).toArray, .agg (bvs s).toArray, .string str0] w fun e w' => e = .returned (.agg (bvs (taken h s (sl str0))).toArray) ∧ Kp nob w w' := by
  obtain ⟨l, rfl⟩ : ∃ l, str0 = str l := ⟨sl str0, rfl⟩
  rw [sl_str]
  rw [str_size] at hl
  have HH := Lib.hid hh
  have HHL := Lib.hid (len16 hh)
  have HTK := Lib.hid (fun k => len16 (tk_length h s l hs k))
  have HTL := Lib.hid (fun k => tk_length h s l hs k)
  have HZ := Lib.hid (len16 none_length)
  have HPL := Lib.hid (fun k => len16 (part_length l k))
  clear hh hs
  go_enter Try.func16, Try.ntmps16
  go_wp2
  go_loopw [2] (fun vs wr => ∃ k : Nat, 16 * k ≤ l.length + 15 ∧ vs = .string (str (l.drop (16 * k))) ∧ B5 w h (tk h s l k) wr)
    (fun vs _ => lenS vs)
  case atStart => exact ⟨0, by omega, by rw [Nat.mul_zero, List.drop_zero], ⟨((Blk.new' rfl rfl).alloc _).alloc _, by rw [tk_zero]; exact (Blk.new' (by simp) rfl).alloc _, Blk.new' (by simp) rfl, (((Kp.refl _ _).alloc _).alloc _).alloc _⟩⟩
  case round =>
    obtain ⟨k, hk, rfl, h5⟩ := hrel
    have H5 := Lib.hid h5; clear h5
    by_cases hlt : 16 * k < l.length
    · obtain ⟨g7, hg7⟩ : ∃ g, g = wr.heap.size := ⟨_, rfl⟩
      have hg : w.heap.size + 2 < g7 := by rw [hg7]; exact H5.out.lt
      have hb7 : Blk (wr.alloc (.cells (bvs none16).toArray 22)) wr.heap.size 22 (bvs none16) := Blk.new' rfl rfl
      have HB7 := Lib.hid hb7
      have H6 := Lib.hid (H5.out.keep ((Kp.refl nob wr).alloc (.cells (bvs none16).toArray 22)) (fun _ e => e.elim))
      have HPC := Lib.hid (part_copied l k hlt)
      have HSZ := Lib.hid (show (str (l.drop (16 * k))).size = (l.drop (16 * k)).length from str_size _)
      clear hb7 H5
      go_wp2_with (first
        | (refine wpList_copyS_blk rfl (.tmp 12) (.tmp 13) 29 9 rfl 5 (by kernel_rfl) (by kernel_rfl) wr.heap.size 16 16 (str (l.drop (16 * k))) rfl rfl (bvs none16) 22 HB7.out (by rw [HZ.out]; exact Nat.le_refl _) ?_
           intro w6 hB6 k6 z6
           rw [sl_str, HSZ.out, HPC.out] at hB6
           have HP6 := Lib.hid hB6
           have H7 := Lib.hid (H6.out.keep k6 (fun i e => by unfold oneB at e; omega))
           clear hB6 k6 z6))
      rw [← hg7] at HP6 ⊢
      rw [drop_next l k hlt]
      have H8 := Lib.hid (H7.out.keep (Kp.refl nob w6).drew (fun _ e => e.elim))
      have HP8 := Lib.hid (HP6.out.keep (Kp.refl nob w6).drew (fun e => e))
      have HTS := Lib.hid (tk_succ h s l k)
      have hS0 : (∃ s', s'.length = 16 ∧ B5 w h s' w6.drew) ∧ Blk w6.drew g7 22 (bvs (part l k)) := ⟨⟨_, HTL.out k, H8.out⟩, HP8.out⟩
      refine reg_begin (fun w' => (∃ s', s'.length = 16 ∧ B5 w h s' w') ∧ Blk w' g7 22 (bvs (part l k))) (by kernel_rfl) hS0 (fun _ => ?_)
      clear H7 HP6
      generalize w6.drew = w7 at *
      refine reg_load 1 (some 19) 22 (.tmp 7) rfl rfl rfl (by kernel_rfl) (by kernel_rfl) (by kernel_rfl) (by rfl) (by assumption) g7 0 rfl (bvs (part l k)) _ (fun _ x => x.2.range) arr16 rfl (by rw [HPL.out]; kernel_rfl) ?_
      simp only [Act.put, List.setIfInBounds_toArray, List.set_cons_zero, List.set_cons_succ]
      refine reg_load 3 (some 21) 22 (.tmp 3) rfl rfl rfl (by kernel_rfl) (by kernel_rfl) (by kernel_rfl) (by rfl) (by assumption) w.heap.size 0 rfl (bvs h) _ (fun _ x => x.1.elim fun _ y => y.2.h.range) arr16 rfl (by rw [HHL.out]; kernel_rfl) ?_
      simp only [Act.put, List.setIfInBounds_toArray, List.set_cons_zero, List.set_cons_succ]
      refine reg_loadNow 0 (some 18) 22 (.tmp 4) rfl rfl rfl (by kernel_rfl) (by rfl) (by assumption) (w.heap.size + 1) 0 rfl (bvs (tk h s l k)) _ H8.out.s.range arr16 rfl (by rw [HTK.out]; kernel_rfl) ?_
      simp only [Act.put, List.setIfInBounds_toArray, List.set_cons_zero, List.set_cons_succ]
      refine reg_call 2 (some 20) rfl rfl (by kernel_rfl) (by rfl) _ _ (by go_simp; exact ⟨rfl, rfl⟩) ?_
      refine (fPlus (tk h s l k) (part l k) w7 (HTL.out k) (part_length l k)).mono ?_
      rintro e w8 ⟨rfl, k8⟩
      have H9 := Lib.hid (H8.out.keep k8 (fun _ e => e.elim))
      have HP9 := Lib.hid (HP8.out.keep k8 (fun e => e))
      refine ⟨_, rfl, ⟨⟨_, HTL.out k, H9.out⟩, HP9.out⟩, fun _ => ?_⟩
      simp only [Act.put, List.setIfInBounds_toArray, List.set_cons_zero, List.set_cons_succ]
      refine reg_call 4 (some 22) rfl rfl (by kernel_rfl) (by rfl) _ _ (by go_simp; exact ⟨rfl, rfl⟩) ?_
      refine (fTimes (plus (tk h s l k) (part l k)) h w8 (plus_length _ _) HH.out).mono ?_
      rintro e w9 ⟨rfl, k9⟩
      rw [← HTS.out]
      have H10 := Lib.hid (H9.out.keep k9 (fun _ e => e.elim))
      have HP10 := Lib.hid (HP9.out.keep k9 (fun e => e))
      refine ⟨_, rfl, ⟨⟨_, HTL.out k, H10.out⟩, HP10.out⟩, fun _ => ?_⟩
      simp only [Act.put, List.setIfInBounds_toArray, List.set_cons_zero, List.set_cons_succ]
      refine reg_store 5 none 22 (.tmp 4) (.tmp 22) rfl rfl rfl (by kernel_rfl) (by rfl) (w.heap.size + 1) _ _ (bvs (tk h s l (k + 1))) H10.out.s rfl rfl (by rw [HTK.out, HTK.out]) (by rw [HTK.out]; kernel_rfl) (bvs_one _) ?_
      intro w10 hB10 k10 z10
      have H11 := Lib.hid (H10.out.outS k10 hB10)
      refine ⟨⟨⟨_, HTL.out (k + 1), H11.out⟩, HP10.out.keep k10 (fun e => by unfold oneB at e; omega)⟩, fun _ => ?_⟩
      simp only [Act.put, List.setIfInBounds_toArray, List.set_cons_zero, List.set_cons_succ]
      refine reg_end (by kernel_rfl) ?_
      clear hB10 k10 z10
      go_wp2
      exact ⟨⟨k + 1, by omega, rfl, H11.out⟩, by simp only [lenS, str_size, List.length_drop]; omega⟩
    · have h5 := H5.out
      rw [show k = (l.length + 15) / 16 by omega, ← taken_eq] at h5
      have HD := Lib.hid (show l.drop (16 * k) = [] from List.drop_eq_nil_of_le (by omega))
      have HT2 := Lib.hid (show (bvs (taken h s l)).length = 16 by rw [taken_eq]; exact HTK.out _)
      have H7 := Lib.hid h5; clear h5 H5
      rw [HD.out]
      go_wp2_with (first
        | (refine wpList_load_blk rfl 22 (.tmp 4) rfl _ _ _ H7.out.s rfl _ arr16 rfl (by rw [HT2.out]; kernel_rfl) ?_)
        | (refine wpList_store_blk rfl 22 (.tmp 6) (.tmp 23) rfl _ _ _ (bvs (taken h s l)) H7.out.z rfl rfl (by rw [HZ.out, HT2.out]) (by rw [HT2.out]; kernel_rfl) (bvs_one _) ?_; intro w2 hB2 k2 z2))
      have hsz : (Try.prog.info? 22).map (·.size) = some (bvs (taken h s l)).toArray.size := by
        rw [List.size_toArray, HT2.out]; kernel_rfl
      refine bodyPost_ret (results_cell_row rfl _ _ (w.heap.size + 2) _ _ _ _ rfl hB2 arr16 rfl hsz) rfl ⟨rfl, H7.out.kp.since k2 (fun i e => by cases e; omega)⟩
end Go.Proofs.Ytefpdnfogdioeaa.Ghash
