/- Contracts of package ghash: a block taken in, a sum's value, how many bits. -/
import Derived.Test.YtefpdnfogdioeaaGhashD
namespace Go.Proofs.Ytefpdnfogdioeaa.Ghash
set_option linter.unusedVariables false
set_option linter.unusedSimpArgs false
open Go Go.RowKit Kit
open Aes (gb tb tb_length gb_tb tb_gb tb_ext tb_eq pt pt_all pt_zero pt_get pt_set bvs_setb blk_byte arr16)
open Field (cb cb_inj)

theorem splice_ev (h s t : List UInt8) : splice (ev h ++ ev s) 2 (ev t) = ev h ++ ev t := by
  rw [ev_eq h, ev_eq s, ev_eq t]; rfl
set_option maxHeartbeats 2000000 in
set_option maxRecDepth 100000 in
theorem take_any (p : Nat) (h s b : List UInt8) (w : World) (hh : h.length = 16) (hs : SumAt w p h s) :
    Calls Try.prog 24 #[.pointer (some ⟨p, 0, none⟩), .agg (ev b).toArray] w fun e w' => e = .returned (.tuple #[]) ∧ SumAt w' p h (tms (plus s b) h) ∧ Kp (oneB p) w w' := by
  have HH := Lib.hid hh; have HE := Lib.hid ev_length
  have HLT := Lib.hid hs.lt
  have H0 : Hid (SumAt (w.alloc (.cells (ev b).toArray 45)).drew p h s ∧ Blk (w.alloc (.cells (ev b).toArray 45)).drew w.heap.size 45 (ev b)) := Lib.hid ⟨hs.keep (((Kp.refl nob w).alloc _).drew) (fun e => e), (Blk.new' rfl rfl).keep (Kp.refl nob _).drew (fun e => e)⟩
  have HK0 : Hid (Kp nob w (w.alloc (.cells (ev b).toArray 45)).drew) := Lib.hid ((Kp.refl nob w).alloc _).drew
  clear hh hs
  go_enter Try.func24, Try.ntmps24
  go_wp2
  refine reg_begin (fun w' => (∃ s', SumAt w' p h s') ∧ Blk w' w.heap.size 45 (ev b)) (by kernel_rfl) ⟨⟨_, H0.out.1⟩, H0.out.2⟩ (fun hS => ?_)
  have H8 := H0; have HK7 := HK0
  clear H0 HK0
  generalize (w.alloc (.cells (ev b).toArray 45)).drew = w7 at *
  refine reg_take 0 (some 4) rfl rfl (by kernel_rfl) (by kernel_rfl) (by kernel_rfl) (by rfl) (by assumption) (v := .pointer (some ⟨p, 0, none⟩)) (fun _ _ => by go_simp) ?_
  simp only [Act.put, List.setIfInBounds_toArray, List.set_cons_zero, List.set_cons_succ]
  refine reg_take 1 (some 5) rfl rfl (by kernel_rfl) (by kernel_rfl) (by kernel_rfl) (by rfl) (by assumption) (v := .pointer (some ⟨p, 0, none⟩)) (fun _ _ => by go_simp) ?_
  simp only [Act.put, List.setIfInBounds_toArray, List.set_cons_zero, List.set_cons_succ]
  refine reg_take 5 (some 9) rfl rfl (by kernel_rfl) (by kernel_rfl) (by kernel_rfl) (by rfl) (by assumption) (v := .pointer (some ⟨p, 0, none⟩)) (fun _ _ => by go_simp) ?_
  simp only [Act.put, List.setIfInBounds_toArray, List.set_cons_zero, List.set_cons_succ]
  refine reg_take 2 (some 6) rfl rfl (by kernel_rfl) (by kernel_rfl) (by kernel_rfl) (by rfl) (by assumption) (v := .pointer (some ⟨p, 0, none⟩)) (fun _ _ => by go_simp) ?_
  simp only [Act.put, List.setIfInBounds_toArray, List.set_cons_zero, List.set_cons_succ]
  refine reg_take 6 (some 10) rfl rfl (by kernel_rfl) (by kernel_rfl) (by kernel_rfl) (by rfl) (by assumption) (v := .pointer (some ⟨p, 0, none⟩)) (fun _ _ => by go_simp) ?_
  simp only [Act.put, List.setIfInBounds_toArray, List.set_cons_zero, List.set_cons_succ]
  refine reg_take 3 (some 7) rfl rfl (by kernel_rfl) (by kernel_rfl) (by kernel_rfl) (by rfl) (by assumption) (v := .pointer (some ⟨p, 0, none⟩)) (fun _ _ => by go_simp) ?_
  simp only [Act.put, List.setIfInBounds_toArray, List.set_cons_zero, List.set_cons_succ]
  refine reg_take 7 (some 11) rfl rfl (by kernel_rfl) (by kernel_rfl) (by kernel_rfl) (by rfl) (by assumption) (v := .pointer (some ⟨p, 2, none⟩)) (fun _ _ => by go_simp) ?_
  simp only [Act.put, List.setIfInBounds_toArray, List.set_cons_zero, List.set_cons_succ]
  refine reg_load 4 (some 8) 45 (.tmp 7) rfl rfl rfl (by kernel_rfl) (by kernel_rfl) (by kernel_rfl) (by rfl) (by assumption) p 0 rfl (ev h) _ (fun _ x => x.1.elim fun _ y => y.under) elU rfl (by rw [HE.out]; kernel_rfl) ?_
  simp only [Act.put, List.setIfInBounds_toArray, List.set_cons_zero, List.set_cons_succ]
  refine reg_load 9 (some 13) 45 (.tmp 3) rfl rfl rfl (by kernel_rfl) (by kernel_rfl) (by kernel_rfl) (by rfl) (by assumption) w.heap.size 0 rfl (ev b) _ (fun _ x => x.2.range) elU rfl (by rw [HE.out]; kernel_rfl) ?_
  simp only [Act.put, List.setIfInBounds_toArray, List.set_cons_zero, List.set_cons_succ]
  refine reg_loadNow 8 (some 12) 45 (.tmp 11) rfl rfl rfl (by kernel_rfl) (by rfl) (by assumption) p 2 rfl (ev s) _ H8.out.1.value elU rfl (by rw [HE.out]; kernel_rfl) ?_
  simp only [Act.put, List.setIfInBounds_toArray, List.set_cons_zero, List.set_cons_succ]
  refine reg_call 10 (some 14) rfl rfl (by kernel_rfl) (by rfl) _ _ (exec_func 27 _ _ [.agg (ev s).toArray, .agg (ev b).toArray] rfl (by kernel_rfl) rfl) ?_
  refine (plus_any s b w7).mono ?_
  rintro e w8 ⟨rfl, k8⟩
  have H9 : Hid (SumAt w8 p h s ∧ Blk w8 w.heap.size 45 (ev b)) := Lib.hid ⟨H8.out.1.keep k8 (fun e => e), H8.out.2.keep k8 (fun e => e)⟩
  refine ⟨_, rfl, ⟨⟨_, H9.out.1⟩, H9.out.2⟩, fun _ => ?_⟩
  simp only [Act.put, List.setIfInBounds_toArray, List.set_cons_zero, List.set_cons_succ]
  refine reg_call 11 (some 15) rfl rfl (by kernel_rfl) (by rfl) _ _ (exec_func 21 _ _ [.agg (ev h).toArray, .agg (ev (plus s b)).toArray] rfl (by kernel_rfl) rfl) ?_
  refine (product_any h (plus s b) w8 HH.out (plus_length _ _)).mono ?_
  rintro e w9 ⟨rfl, k9⟩
  rw [tms_comm h (plus s b)]
  have H10 : Hid (SumAt w9 p h s ∧ Blk w9 w.heap.size 45 (ev b)) := Lib.hid ⟨H9.out.1.keep k9 (fun e => e), H9.out.2.keep k9 (fun e => e)⟩
  have K9 : Kp (oneB p) w w9 := ((HK7.out.trans k8 (fun _ e => e.elim)).trans k9 (fun _ e => e.elim)).nob _
  refine ⟨_, rfl, ⟨⟨_, H10.out.1⟩, H10.out.2⟩, fun _ => ?_⟩
  simp only [Act.put, List.setIfInBounds_toArray, List.set_cons_zero, List.set_cons_succ]
  refine reg_take 12 (some 16) rfl rfl (by kernel_rfl) (by kernel_rfl) (by kernel_rfl) (by rfl) (by assumption) (v := .pointer (some ⟨p, 0, none⟩)) (fun _ _ => by go_simp) ?_
  simp only [Act.put, List.setIfInBounds_toArray, List.set_cons_zero, List.set_cons_succ]
  refine reg_take 13 (some 17) rfl rfl (by kernel_rfl) (by kernel_rfl) (by kernel_rfl) (by rfl) (by assumption) (v := .pointer (some ⟨p, 2, none⟩)) (fun _ _ => by go_simp) ?_
  simp only [Act.put, List.setIfInBounds_toArray, List.set_cons_zero, List.set_cons_succ]
  refine reg_storeIn 14 none 45 (.tmp 17) (.tmp 15) rfl rfl rfl (by kernel_rfl) (by rfl) p 2 _ _ (ev (tms (plus s b) h)) H10.out.1 rfl rfl (by rw [List.length_append, HE.out, HE.out, HE.out]; exact Nat.le_refl _) (by rw [HE.out]; kernel_rfl) (oneCell_ev _) ?_
  intro w10 hB10 k10 z10
  have H11 : Hid (SumAt w10 p h (tms (plus s b) h)) := Lib.hid (by have := hB10; rw [splice_ev] at this; exact this)
  have HK := Lib.hid (K9.trans k10 (fun _ e => .inl e))
  refine ⟨⟨⟨_, H11.out⟩, H10.out.2.keep k10 (fun e => by have := HLT.out; unfold oneB at e; omega)⟩, fun _ => ?_⟩
  simp only [Act.put, List.setIfInBounds_toArray, List.set_cons_zero, List.set_cons_succ]
  refine reg_end (by kernel_rfl) ?_
  clear hB10 k10 z10 K9
  go_wp2
  exact bodyPost_end (results_none rfl _ _ _) rfl ⟨rfl, H11.out, HK.out⟩
end Go.Proofs.Ytefpdnfogdioeaa.Ghash
