/- Contracts of package ghash: Times, a new sum, a block taken in, a sum's value, how many bits. -/
import Derived.Test.YtefpdnfogdioeaaGhashC
import Derived.Test.YtefpdnfogdioeaaBlkF
namespace Go.Proofs.Ytefpdnfogdioeaa.Ghash
set_option linter.unusedVariables false
set_option linter.unusedSimpArgs false
open Go Go.RowKit Kit
open Aes (gb tb tb_length gb_tb tb_gb tb_ext tb_eq pt pt_all pt_zero pt_get pt_set bvs_setb blk_byte arr16)
open Field (cb cb_inj)

/-- Two blocks that Times was given, and what it answers. -/
structure T3 (w : World) (a b : List UInt8) (w2 : World) : Prop where
  a : Blk w2 w.heap.size 24 (bvs a)
  b : Blk w2 (w.heap.size + 1) 24 (bvs b)
  r : ∃ z, z.length = 16 ∧ Blk w2 (w.heap.size + 2) 24 z
  kp : Kp nob w w2
theorem T3.keep {w w2 w3 : World} {a b : List UInt8} (x : T3 w a b w2) (k : Kp nob w2 w3) : T3 w a b w3 :=
  ⟨x.a.keep k (fun e => e), x.b.keep k (fun e => e), (x.r.elim fun z y => ⟨z, y.1, y.2.keep k (fun e => e)⟩), x.kp.trans k (fun _ e => e.elim)⟩
theorem T3.outR {w w2 w3 : World} {a b z : List UInt8} (x : T3 w a b w2) (hz : z.length = 16) (k : Kp (oneB (w.heap.size + 2)) w2 w3) (hr : Blk w3 (w.heap.size + 2) 24 (bvs z)) : T3 w a b w3 :=
  ⟨x.a.keep k (fun e => by unfold oneB at e; omega), x.b.keep k (fun e => by unfold oneB at e; omega), ⟨_, by rw [bvs_length, hz], hr⟩, x.kp.since k (fun i e => by unfold oneB at e; omega)⟩

set_option maxHeartbeats 2000000 in
set_option maxRecDepth 100000 in
theorem times_any (a b : List UInt8) (w : World) (ha : a.length = 16) (hb : b.length = 16) :
    Calls Try.prog 10 #[.agg (bvs a).toArray, .agg (bvs b).toArray] w fun e w' => e = .returned (.agg (bvs (tms a b)).toArray) ∧ Kp nob w w' := by
  have HA := Lib.hid ha; have HB := Lib.hid hb; clear ha hb
  have HAL := Lib.hid (show (bvs a).length = 16 by rw [bvs_length, HA.out])
  have HBL := Lib.hid (show (bvs b).length = 16 by rw [bvs_length, HB.out])
  have HTL := Lib.hid (tms_length a b)
  have HML := Lib.hid (show (bvs (tms a b)).length = 16 by rw [bvs_length, HTL.out])
  go_enter Try.func10, Try.ntmps10
  go_wp2
  refine reg_begin (fun w' => T3 w a b w') (by kernel_rfl) (T3.keep ?h0 (Kp.refl nob _).drew) (fun hS => ?_)
  case h0 => exact ⟨((Blk.new' rfl rfl).alloc _).alloc _, (Blk.new' (by simp) rfl).alloc _, ⟨_, rfl, Blk.new' (by simp) rfl⟩, (((Kp.refl _ _).alloc _).alloc _).alloc _⟩
  have H8 := Lib.hid hS
  refine reg_load 0 (some 5) 24 (.tmp 2) rfl rfl rfl (by kernel_rfl) (by kernel_rfl) (by kernel_rfl) (by rfl) (by assumption) w.heap.size 0 rfl (bvs a) _ (fun _ x => x.a.range) arrB rfl (by rw [HAL.out]; kernel_rfl) ?_
  simp only [Act.put, List.setIfInBounds_toArray, List.set_cons_zero, List.set_cons_succ]
  refine reg_load 2 (some 7) 24 (.tmp 3) rfl rfl rfl (by kernel_rfl) (by kernel_rfl) (by kernel_rfl) (by rfl) (by assumption) (w.heap.size + 1) 0 rfl (bvs b) _ (fun _ x => x.b.range) arrB rfl (by rw [HBL.out]; kernel_rfl) ?_
  simp only [Act.put, List.setIfInBounds_toArray, List.set_cons_zero, List.set_cons_succ]
  refine reg_call 1 (some 6) rfl rfl (by kernel_rfl) (by rfl) _ _ (exec_func 22 _ _ [.agg (bvs a).toArray] rfl (by kernel_rfl) rfl) ?_
  refine (elementOf_any a _ HA.out).mono ?_
  rintro e w9 ⟨rfl, k9⟩
  have H9 := Lib.hid (H8.out.keep k9)
  refine ⟨_, rfl, H9.out, fun _ => ?_⟩
  simp only [Act.put, List.setIfInBounds_toArray, List.set_cons_zero, List.set_cons_succ]
  refine reg_call 3 (some 8) rfl rfl (by kernel_rfl) (by rfl) _ _ (exec_func 22 _ _ [.agg (bvs b).toArray] rfl (by kernel_rfl) rfl) ?_
  refine (elementOf_any b w9 HB.out).mono ?_
  rintro e w10 ⟨rfl, k10⟩
  have H10 := Lib.hid (H9.out.keep k10)
  refine ⟨_, rfl, H10.out, fun _ => ?_⟩
  simp only [Act.put, List.setIfInBounds_toArray, List.set_cons_zero, List.set_cons_succ]
  refine reg_call 4 (some 9) rfl rfl (by kernel_rfl) (by rfl) _ _ (exec_func 21 _ _ [.agg (ev a).toArray, .agg (ev b).toArray] rfl (by kernel_rfl) rfl) ?_
  refine (product_any a b w10 HA.out HB.out).mono ?_
  rintro e w11 ⟨rfl, k11⟩
  have H11 := Lib.hid (H10.out.keep k11)
  refine ⟨_, rfl, H11.out, fun _ => ?_⟩
  simp only [Act.put, List.setIfInBounds_toArray, List.set_cons_zero, List.set_cons_succ]
  refine reg_call 5 (some 10) rfl rfl (by kernel_rfl) (by rfl) _ _ (exec_func 20 _ _ [.agg (ev (tms a b)).toArray] rfl (by kernel_rfl) rfl) ?_
  refine (blockOf_any (tms a b) w11 HTL.out).mono ?_
  rintro e w12 ⟨rfl, k12⟩
  have H12 := Lib.hid (H11.out.keep k12)
  refine ⟨_, rfl, H12.out, fun _ => ?_⟩
  simp only [Act.put, List.setIfInBounds_toArray, List.set_cons_zero, List.set_cons_succ]
  obtain ⟨z, hz, hr⟩ := H12.out.r
  have HR := Lib.hid hr; have HZ := Lib.hid hz; clear hr hz
  refine reg_store 6 none 24 (.tmp 4) (.tmp 10) rfl rfl rfl (by kernel_rfl) (by rfl) (w.heap.size + 2) _ _ (bvs (tms a b)) HR.out rfl rfl (by rw [HZ.out, HML.out]) (by rw [HML.out]; kernel_rfl) (bvs_one _) ?_
  intro w13 hB13 k13 z13
  have H13 := Lib.hid (H12.out.outR HTL.out k13 hB13)
  have HB13 := Lib.hid hB13
  refine ⟨H13.out, fun _ => ?_⟩
  simp only [Act.put, List.setIfInBounds_toArray, List.set_cons_zero, List.set_cons_succ]
  refine reg_end (by kernel_rfl) ?_
  clear hB13 k13 z13
  go_wp2
  have hsz : (Try.prog.info? 24).map (·.size) = some (bvs (tms a b)).toArray.size := by
    rw [List.size_toArray, HML.out]; kernel_rfl
  exact bodyPost_ret (results_cell_row rfl _ _ (w.heap.size + 2) _ _ _ _ rfl HB13.out arrB rfl hsz) rfl ⟨rfl, H13.out.kp⟩

/-- A sum under h, with s in it, at p. -/
def SumAt (w : World) (p : Nat) (h s : List UInt8) : Prop := Blk w p 49 (ev h ++ ev s)
theorem SumAt.keep {F : Nat → Prop} {w w2 : World} {p : Nat} {h s : List UInt8} (x : SumAt w p h s) (k : Kp F w w2) (hF : ¬ F p) : SumAt w2 p h s := Blk.keep x k hF
theorem SumAt.lt {w : World} {p : Nat} {h s : List UInt8} (x : SumAt w p h s) : p < w.heap.size := Blk.lt x
theorem SumAt.under {w : World} {p : Nat} {h s : List UInt8} (x : SumAt w p h s) : w.rangeAt p 0 (ev h) := Blk.part x 0 _ fun j v hj => by
  rw [Nat.zero_add, List.getElem?_append_left (by have := List.getElem?_eq_some_iff.1 hj; exact this.1)]; exact hj
theorem SumAt.value {w : World} {p : Nat} {h s : List UInt8} (x : SumAt w p h s) : w.rangeAt p 2 (ev s) := Blk.part x 2 _ fun j v hj => by
  rw [List.getElem?_append_right (by rw [ev_length]; omega), ev_length, Nat.add_sub_cancel_left]; exact hj

set_option maxHeartbeats 2000000 in
set_option maxRecDepth 100000 in
theorem new_any (h : List UInt8) (w : World) (hh : h.length = 16) :
    Calls Try.prog 13 #[.agg (bvs h).toArray] w fun e w' => ∃ p, e = .returned (.pointer (some ⟨p, 0, none⟩)) ∧ w.heap.size ≤ p ∧ SumAt w' p h none16 ∧ Kp nob w w' := by
  have HH := Lib.hid hh; clear hh
  have HHL := Lib.hid (show (bvs h).length = 16 by rw [bvs_length, HH.out])
  have HB : Hid (Blk (w.alloc (.cells (bvs h).toArray 24)) w.heap.size 24 (bvs h)) := Lib.hid (Blk.new' rfl rfl)
  go_enter Try.func13, Try.ntmps13
  go_wp2_with (refine wpList_load_blk rfl 24 (.tmp 1) rfl _ _ _ HB.out rfl _ arrB rfl (by rw [HHL.out]; kernel_rfl) ?_)
  refine (elementOf_any h _ HH.out).mono ?_
  rintro e w2 ⟨rfl, k2⟩
  have K2 : Kp nob w w2 := ((Kp.refl nob w).alloc _).trans k2 (fun _ e => e.elim)
  have HK := Lib.hid K2
  clear k2 K2
  rw [ev_eq h]
  go_wp2
  go_ret
  exact ⟨_, rfl, HK.out.size, Blk.new' rfl (by rw [ev_eq, ev_eq, hi_none, lo_none, dw_zero]; rfl), HK.out.alloc _⟩
end Go.Proofs.Ytefpdnfogdioeaa.Ghash
