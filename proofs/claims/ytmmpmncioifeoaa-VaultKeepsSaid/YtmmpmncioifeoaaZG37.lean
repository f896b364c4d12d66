/- Contracts of package ghash: Times, a new sum, a block taken in, a sum's value, how many bits. · Contracts of package ghash: a block taken in, a sum's value, how many bits. · Contracts of package ghash: a sum's value, how many bits, bytes taken in. -/
import Derived.Test.YtmmpmncioifeoaaZG36
import Derived.Test.YtmmpmncioifeoaaZG06
import Derived.Test.YtmmpmncioifeoaaZG27
namespace Go.Proofs.Ytmmpmncioifeoaa.Ghash
set_option linter.unusedVariables false
set_option linter.unusedSimpArgs false
open Go Go.RowKit Kit
open Aes (gb tb tb_length gb_tb tb_gb tb_ext tb_eq pt pt_all pt_zero pt_get pt_set bvs_setb blk_byte arr16)
open Field (cb cb_inj)

/-- A sum under h, with s in it, at p. -/
def SumAt (w : World) (p : Nat) (h s : List UInt8) : Prop := Blk w p 189 (ev h ++ ev s)
theorem SumAt.keep {F : Nat → Prop} {w w2 : World} {p : Nat} {h s : List UInt8} (x : SumAt w p h s) (k : Kp F w w2) (hF : ¬ F p) : SumAt w2 p h s := Blk.keep x k hF
theorem SumAt.lt {w : World} {p : Nat} {h s : List UInt8} (x : SumAt w p h s) : p < w.heap.size := Blk.lt x
theorem SumAt.under {w : World} {p : Nat} {h s : List UInt8} (x : SumAt w p h s) : w.rangeAt p 0 (ev h) := Blk.part x 0 _ fun j v hj => by
  rw [Nat.zero_add, List.getElem?_append_left (by have := List.getElem?_eq_some_iff.1 hj; exact this.1)]; exact hj
theorem SumAt.value {w : World} {p : Nat} {h s : List UInt8} (x : SumAt w p h s) : w.rangeAt p 2 (ev s) := Blk.part x 2 _ fun j v hj => by
  rw [List.getElem?_append_right (by rw [ev_length]; omega), ev_length, Nat.add_sub_cancel_left]; exact hj

set_option maxHeartbeats 2000000 in
set_option maxRecDepth 100000 in
theorem new_any [Inhabited Field.SqTab] (h : List UInt8) (w : World) (hh : h.length = 16) :
    Calls Try.prog 114 #[.agg (bvs h).toArray] w fun e w' => ∃ p, e = .returned (.pointer (some ⟨p, 0, none⟩)) ∧ w.heap.size ≤ p ∧ SumAt w' p h none16 ∧ Kp nob w w' := by
  have HH := Lib.hid hh; clear hh
  have HHL := Lib.hid (show (bvs h).length = 16 by rw [bvs_length, HH.out])
  have HB : Hid (Blk (w.alloc (.cells (bvs h).toArray 142)) w.heap.size 142 (bvs h)) := Lib.hid (Blk.new' rfl rfl)
  go_enter Try.func114, Try.ntmps114
  go_wp2_with (refine wpList_load_blk rfl 142 (.tmp 1) rfl _ _ _ HB.out rfl _ arrB rfl (by rw [HHL.out]; kernel_rfl) ?_)
  refine (elementOf_any h _ HH.out).mono ?_
  rintro e w2 ⟨rfl, k2⟩
  have K2 : Kp nob w w2 := ((Kp.refl nob w).alloc _).trans k2 (fun _ e => e.elim)
  have HK := Lib.hid K2
  clear k2 K2
  rw [ev_eq h]
  go_wp2
  go_ret
  exact ⟨_, rfl, HK.out.size, Blk.new' rfl (by rw [ev_eq, ev_eq, hi_none, lo_none, dw_zero]; rfl), HK.out.alloc _⟩
end Go.Proofs.Ytmmpmncioifeoaa.Ghash
namespace Go.Proofs.Ytmmpmncioifeoaa.Ghash
set_option linter.unusedVariables false
set_option linter.unusedSimpArgs false
open Go Go.RowKit Kit
open Aes (gb tb tb_length gb_tb tb_gb tb_ext tb_eq pt pt_all pt_zero pt_get pt_set bvs_setb blk_byte arr16)
open Field (cb cb_inj)

theorem splice_ev (h s t : List UInt8) : splice (ev h ++ ev s) 2 (ev t) = ev h ++ ev t := by
  rw [ev_eq h, ev_eq s, ev_eq t]; rfl
set_option maxHeartbeats 2000000 in
set_option maxRecDepth 100000 in
theorem take_any [Inhabited Field.SqTab] (p : Nat) (h s b : List UInt8) (w : World) (hh : h.length = 16) (hs : SumAt w p h s) :
    Calls Try.prog 116 #[.pointer (some ⟨p, 0, none⟩), .agg (ev b).toArray] w fun e w' => e = .returned (.tuple #[]) ∧ SumAt w' p h (tms (plus s b) h) ∧ Kp (oneB p) w w' := by
  have HH := Lib.hid hh; have HE := Lib.hid ev_length
  have HLT := Lib.hid hs.lt
  have H0 : Hid (SumAt (w.alloc (.cells (ev b).toArray 175)).drew p h s ∧ Blk (w.alloc (.cells (ev b).toArray 175)).drew w.heap.size 175 (ev b)) := Lib.hid ⟨hs.keep (((Kp.refl nob w).alloc _).drew) (fun e => e), (Blk.new' rfl rfl).keep (Kp.refl nob _).drew (fun e => e)⟩
  have HK0 : Hid (Kp nob w (w.alloc (.cells (ev b).toArray 175)).drew) := Lib.hid ((Kp.refl nob w).alloc _).drew
  clear hh hs
  go_enter Try.func116, Try.ntmps116
  go_wp2
  refine reg_begin (fun w' => (∃ s', SumAt w' p h s') ∧ Blk w' w.heap.size 175 (ev b)) (by kernel_rfl) ⟨⟨_, H0.out.1⟩, H0.out.2⟩ (fun hS => ?_)
  have H8 := H0; have HK7 := HK0
  clear H0 HK0
  generalize (w.alloc (.cells (ev b).toArray 175)).drew = w7 at *
  refine reg_take 0 (some 4) rfl rfl (by kernel_rfl) (by kernel_rfl) (by kernel_rfl) (by rfl) (by assumption) (v := .pointer (some ⟨p, 0, none⟩)) (fun _ _ => by go_simp) ?_
  simp only [Act.put, List.setIfInBounds_toArray, List.set_cons_zero, List.set_cons_succ]
  refine reg_take 1 (some 5) rfl rfl (by kernel_rfl) (by kernel_rfl) (by kernel_rfl) (by rfl) (by assumption) (v := .pointer (some ⟨p, 0, none⟩)) (fun _ _ => by go_simp) ?_
  simp only [Act.put, List.setIfInBounds_toArray, List.set_cons_zero, List.set_cons_succ]
  refine reg_take 5 (some 9) rfl rfl (by kernel_rfl) (by kernel_rfl) (by kernel_rfl) (by rfl) (by assumption) (v := .pointer (some ⟨p, 0, none⟩)) (fun _ _ => by go_simp) ?_
  simp only [Act.put, List.setIfInBounds_toArray, List.set_cons_zero, List.set_cons_succ]
  refine reg_take 2 (some 6) rfl rfl (by kernel_rfl) (by kernel_rfl) (by kernel_rfl) (by rfl) (by assumption) (v := .pointer (some ⟨p, 0, none⟩)) (fun _ _ => by go_simp) ?_
  simp only [Act.put, List.setIfInBounds_toArray, List.set_cons_zero, List.set_cons_succ]
  refine reg_take 6 (some 10) rfl rfl (by kernel_rfl) (by kernel_rfl) (by kernel_rfl) (by rfl) (by assumption) (v := .pointer (some ⟨p, 0, none⟩)) (fun _ _ => by go_simp) ?_
  simp only [Act.put, List.setIfInBounds_toArray, List.set_cons_zero, List.set_cons_succ]
  refine reg_take 3 (some 7) rfl rfl (by kernel_rfl) (by kernel_rfl) (by kernel_rfl) (by rfl) (by assumption) (v := .pointer (some ⟨p, 0, none⟩)) (fun _ _ => by go_simp) ?_
  simp only [Act.put, List.setIfInBounds_toArray, List.set_cons_zero, List.set_cons_succ]
  refine reg_take 7 (some 11) rfl rfl (by kernel_rfl) (by kernel_rfl) (by kernel_rfl) (by rfl) (by assumption) (v := .pointer (some ⟨p, 2, none⟩)) (fun _ _ => by go_simp) ?_
  simp only [Act.put, List.setIfInBounds_toArray, List.set_cons_zero, List.set_cons_succ]
  refine reg_load 4 (some 8) 175 (.tmp 7) rfl rfl rfl (by kernel_rfl) (by kernel_rfl) (by kernel_rfl) (by rfl) (by assumption) p 0 rfl (ev h) _ (fun _ x => x.1.elim fun _ y => y.under) elU rfl (by rw [HE.out]; kernel_rfl) ?_
  simp only [Act.put, List.setIfInBounds_toArray, List.set_cons_zero, List.set_cons_succ]
  refine reg_load 9 (some 13) 175 (.tmp 3) rfl rfl rfl (by kernel_rfl) (by kernel_rfl) (by kernel_rfl) (by rfl) (by assumption) w.heap.size 0 rfl (ev b) _ (fun _ x => x.2.range) elU rfl (by rw [HE.out]; kernel_rfl) ?_
  simp only [Act.put, List.setIfInBounds_toArray, List.set_cons_zero, List.set_cons_succ]
  refine reg_loadNow 8 (some 12) 175 (.tmp 11) rfl rfl rfl (by kernel_rfl) (by rfl) (by assumption) p 2 rfl (ev s) _ H8.out.1.value elU rfl (by rw [HE.out]; kernel_rfl) ?_
  simp only [Act.put, List.setIfInBounds_toArray, List.set_cons_zero, List.set_cons_succ]
  refine reg_call 10 (some 14) rfl rfl (by kernel_rfl) (by rfl) _ _ (exec_func 127 _ _ [.agg (ev s).toArray, .agg (ev b).toArray] rfl (by kernel_rfl) rfl) ?_
  refine (plus_any s b w7).mono ?_
  rintro e w8 ⟨rfl, k8⟩
  have H9 : Hid (SumAt w8 p h s ∧ Blk w8 w.heap.size 175 (ev b)) := Lib.hid ⟨H8.out.1.keep k8 (fun e => e), H8.out.2.keep k8 (fun e => e)⟩
  refine ⟨_, rfl, ⟨⟨_, H9.out.1⟩, H9.out.2⟩, fun _ => ?_⟩
  simp only [Act.put, List.setIfInBounds_toArray, List.set_cons_zero, List.set_cons_succ]
  refine reg_call 11 (some 15) rfl rfl (by kernel_rfl) (by rfl) _ _ (exec_func 126 _ _ [.agg (ev h).toArray, .agg (ev (plus s b)).toArray] rfl (by kernel_rfl) rfl) ?_
  refine (product_any h (plus s b) w8 HH.out (plus_length _ _)).mono ?_
  rintro e w9 ⟨rfl, k9⟩
  rw [tms_comm h (plus s b)]
  have H10 : Hid (SumAt w9 p h s ∧ Blk w9 w.heap.size 175 (ev b)) := Lib.hid ⟨H9.out.1.keep k9 (fun e => e), H9.out.2.keep k9 (fun e => e)⟩
  have K9 : Kp (oneB p) w w9 := ((HK7.out.trans k8 (fun _ e => e.elim)).trans k9 (fun _ e => e.elim)).nob _
  refine ⟨_, rfl, ⟨⟨_, H10.out.1⟩, H10.out.2⟩, fun _ => ?_⟩
  simp only [Act.put, List.setIfInBounds_toArray, List.set_cons_zero, List.set_cons_succ]
  refine reg_take 12 (some 16) rfl rfl (by kernel_rfl) (by kernel_rfl) (by kernel_rfl) (by rfl) (by assumption) (v := .pointer (some ⟨p, 0, none⟩)) (fun _ _ => by go_simp) ?_
  simp only [Act.put, List.setIfInBounds_toArray, List.set_cons_zero, List.set_cons_succ]
  refine reg_take 13 (some 17) rfl rfl (by kernel_rfl) (by kernel_rfl) (by kernel_rfl) (by rfl) (by assumption) (v := .pointer (some ⟨p, 2, none⟩)) (fun _ _ => by go_simp) ?_
  simp only [Act.put, List.setIfInBounds_toArray, List.set_cons_zero, List.set_cons_succ]
  refine reg_storeIn 14 none 175 (.tmp 17) (.tmp 15) rfl rfl rfl (by kernel_rfl) (by rfl) p 2 _ _ (ev (tms (plus s b) h)) H10.out.1 rfl rfl (by rw [List.length_append, HE.out, HE.out, HE.out]; exact Nat.le_refl _) (by rw [HE.out]; kernel_rfl) (oneCell_ev _) ?_
  intro w10 hB10 k10 z10
  have H11 : Hid (SumAt w10 p h (tms (plus s b) h)) := Lib.hid (by have := hB10; rw [splice_ev] at this; exact this)
  have HK := Lib.hid (K9.trans k10 (fun _ e => .inl e))
  refine ⟨⟨⟨_, H11.out⟩, H10.out.2.keep k10 (fun e => by have := HLT.out; unfold oneB at e; omega)⟩, fun _ => ?_⟩
  simp only [Act.put, List.setIfInBounds_toArray, List.set_cons_zero, List.set_cons_succ]
  refine reg_end (by kernel_rfl) ?_
  clear hB10 k10 z10 K9
  go_wp2
  exact bodyPost_end (results_none rfl _ _ _) rfl ⟨rfl, H11.out, HK.out⟩
end Go.Proofs.Ytmmpmncioifeoaa.Ghash
namespace Go.Proofs.Ytmmpmncioifeoaa.Ghash
set_option linter.unusedVariables false
set_option linter.unusedSimpArgs false
open Go Go.RowKit Kit
open Aes (gb tb tb_length gb_tb tb_gb tb_ext tb_eq pt pt_all pt_zero pt_get pt_set bvs_setb blk_byte arr16)
open Field (cb cb_inj)

set_option maxHeartbeats 1000000 in
set_option maxRecDepth 100000 in
theorem value_any [Inhabited Field.SqTab] (p : Nat) (h s : List UInt8) (w : World) (hs : s.length = 16) (hS : SumAt w p h s) :
    Calls Try.prog 118 #[.pointer (some ⟨p, 0, none⟩)] w fun e w' => e = .returned (.agg (bvs s).toArray) ∧ Kp nob w w' := by
  have HE := Lib.hid ev_length
  have HSL := Lib.hid hs
  have HS := Lib.hid hS
  have HL := Lib.hid (show (bvs s).length = 16 by rw [bvs_length, hs])
  have HZ := Lib.hid (show (bvs none16).length = 16 from rfl)
  clear hs hS
  go_enter Try.func118, Try.ntmps118
  go_wp2_with (refine wpList_load_mid rfl 175 (.tmp 8) rfl p 2 rfl (ev s) _ (HS.out.keep ((Kp.refl nob w).alloc _) (fun e => e)).value elU rfl (by rw [HE.out]; kernel_rfl) ?_)
  refine (blockOf_any s _ HSL.out).mono ?_
  rintro e w2 ⟨rfl, k2⟩
  have hr : Blk w2 w.heap.size 142 (bvs none16) := (show Blk _ _ _ (bvs none16) from Blk.new' rfl rfl).keep k2 (fun e => e)
  have HR := Lib.hid hr
  have HK : Hid (Kp nob w w2) := Lib.hid (((Kp.refl nob w).alloc _).trans k2 (fun _ e => e.elim))
  clear hr k2
  go_wp2_with (refine wpList_store_blk rfl 142 (.tmp 2) (.tmp 10) rfl _ _ (bvs none16) (bvs s) HR.out rfl rfl (by rw [HZ.out, HL.out]) (by rw [HL.out]; kernel_rfl) (bvs_one _) ?_; intro w3 hB3 k3 z3)
  have hsz : (Try.prog.info? 142).map (·.size) = some (bvs s).toArray.size := by
    rw [List.size_toArray, HL.out]; kernel_rfl
  exact bodyPost_ret (results_cell_row rfl _ _ w.heap.size _ _ _ _ rfl hB3 arrB rfl hsz) rfl ⟨rfl, HK.out.since k3 (fun i e => by cases e; omega)⟩
set_option maxHeartbeats 1000000 in
set_option maxRecDepth 100000 in
theorem value_nil (w : World) :
    Calls Try.prog 118 #[.pointer none] w fun e w' => e = .returned (.agg (bvs none16).toArray) ∧ Kp nob w w' := by
  go_enter Try.func118, Try.ntmps118
  go_wp2
  have hsz : (Try.prog.info? 142).map (·.size) = some (bvs none16).toArray.size := by kernel_rfl
  exact bodyPost_ret (results_cell_row rfl _ _ w.heap.size _ _ _ _ rfl (show Blk _ _ _ (bvs none16) from Blk.new' rfl rfl) arrB rfl hsz) rfl ⟨rfl, (Kp.refl nob w).alloc _⟩
theorem bitsOf_any (A : Option Addr) (n c : Nat) (w : World) (hn : n ≤ 140737488355328) :
    Calls Try.prog 117 #[.slice A n c] w fun e w' => e = .returned (.int .u64 ((8 * n : Nat) : Int)) ∧ w = w' := by
  obtain ⟨m, hm⟩ : ∃ m, m = 8 * n := ⟨_, rfl⟩
  have e1 : IntKind.u64.wrap (n : Int) = (n : Int) := by rw [IntKind.wrap_u64]; omega
  have e2 : IntKind.u64.wrap (8 * (n : Int)) = (m : Int) := by rw [IntKind.wrap_u64]; omega
  rw [← hm]
  clear hm hn
  go_enter Try.func117, Try.ntmps117
  go_wp2
  go_ret
  exact ⟨rfl, rfl⟩
theorem write_nil (A : Option Addr) (n c : Nat) (w : World) :
    Calls Try.prog 115 #[.pointer none, .slice A n c] w fun e w' => e = .returned (.tuple #[]) ∧ w = w' := by
  go_enter Try.func115, Try.ntmps115
  go_wp2
  exact bodyPost_ret (results_none rfl _ _ _) rfl ⟨rfl, rfl⟩
theorem u8s_under : Try.prog.underlying 29 = some (.slice 5) := by kernel_rfl
def lenV : Value → Nat
  | .slice _ n _ => n
  | _ => 0
set_option maxHeartbeats 2000000 in
set_option maxRecDepth 100000 in
theorem write_any [Inhabited Field.SqTab] (p : Nat) (h s l : List UInt8) (A : Option Addr) (n c : Nat) (w : World) (hh : h.length = 16) (hs : s.length = 16) (hS : SumAt w p h s) (hn : l.length = n) (hc : n ≤ c) (hn2 : n ≤ 140737488355328) (hr : Row w A (bvs l)) (hA : l = [] ∨ ∀ k, ab A = some k → k ≠ p) :
    Calls Try.prog 115 #[.pointer (some ⟨p, 0, none⟩), .slice A n c] w fun e w' => e = .returned (.tuple #[]) ∧ SumAt w' p h (taken h s l) ∧ Kp (oneB p) w w' := by
  have HH := Lib.hid hh
  have HPL := Lib.hid (fun k => len16 (part_length l k))
  have HPP := Lib.hid (fun k => part_length l k)
  have HZ := Lib.hid (len16 none_length)
  have HN := Lib.hid hn; have HS := Lib.hid hS; have HR := Lib.hid hr; have HA := Lib.hid hA; have HC := Lib.hid hc; have HN2 := Lib.hid hn2
  clear hh hs hS hn hr hA hc hn2
  go_enter Try.func115, Try.ntmps115
  go_wp2
  go_loopw [1] (fun vb wr => ∃ (k : Nat) (A' : Option Addr) (c' : Nat), 16 * k ≤ n + 15 ∧ vb = .slice A' (n - 16 * k : Nat) c' ∧ n - 16 * k ≤ c' ∧ SumAt wr p h (tk h s l k) ∧ Row wr A' (bvs (l.drop (16 * k))) ∧ (l = [] ∨ ∀ j, ab A' = some j → j ≠ p) ∧ Kp (oneB p) w wr)
    (fun vb _ => lenV vb)
  case atStart => exact ⟨0, A, c, by omega, rfl, by have := HC.out; omega, by rw [tk_zero]; exact HS.out, by rw [Nat.mul_zero, List.drop_zero]; exact HR.out, HA.out, Kp.refl _ _⟩
  case round =>
    obtain ⟨k, A', c', hk, rfl, hcc, hS, hrow, hA', hkp⟩ := hrel
    have HS2 := Lib.hid hS; have HRW := Lib.hid hrow; have HA2 := Lib.hid hA'; have HKP := Lib.hid hkp
    clear hS hrow hA' hkp
    by_cases hlt : 16 * k < n
    · obtain ⟨R, hR⟩ : ∃ R, R = n - 16 * k := ⟨_, rfl⟩
      have hR0 : 0 < R := by omega
      obtain ⟨cs, hcs⟩ : ∃ cs, cs = (l.drop (16 * k)).take 16 := ⟨_, rfl⟩
      obtain ⟨r, hr⟩ : ∃ r, r = cs.length := ⟨_, rfl⟩
      have hr2 : r = min R 16 := by rw [hr, hcs, List.length_take, List.length_drop, HN.out, hR, Nat.min_comm]
      have HCL : Hid ((bvs cs).length = Nat.min R 16) := Lib.hid (by rw [bvs_length, ← hr, hr2])
      have HCR : Hid (cs.length = r) := Lib.hid hr.symm
      have HRC : Hid (Row wr A' (bvs cs)) := Lib.hid (by have := HRW.out.take 16; rwa [bvs, ← List.map_take, ← hcs] at this)
      have HPC : Hid (splice (bvs none16) 0 (bvs cs) = bvs (part l k)) := Lib.hid (by
        have := part_copied l k (by rw [HN.out]; exact hlt)
        rw [← this, splice, List.take_zero, List.nil_append, Nat.zero_add, hcs, bvs_length, List.length_take, Nat.min_comm])
      have HFIT : Hid (0 + (bvs cs).length ≤ (bvs none16).length) := Lib.hid (by rw [HZ.out, bvs_length, ← hr, hr2, Nat.zero_add]; exact Nat.min_le_right _ _)
      have HQ : Hid (R = n - 16 * k ∧ r = min R 16 ∧ 16 * k < n ∧ n - 16 * k ≤ c') := Lib.hid ⟨hR, hr2, hlt, hcc⟩
      have hcut : ∀ wx, (Instr.slice 29 (.slice A' R c') (some (.int .i64 r)) none none).run Try.prog wx = .ok (.slice (cutA A' c' r) (R - r) (c' - r)) wx := run_slice_from _ _ u8s_under (fun _ => by kernel_rfl) A' R c' r (by omega)
      have HG : Hid (∀ j, ab (cutA A' c' r) = some j → j ≠ p) := Lib.hid (by rw [ab_cut]; exact HA2.out.resolve_left (fun e => by have := HN.out; rw [e] at this; simp at this; omega))
      have HRN : Hid (Row wr (cutA A' c' r) (bvs (l.drop (16 * (k + 1))))) := Lib.hid (by
        have := HRW.out.cut (c := c') (k := r) (by rw [bvs_length, List.length_drop, HN.out]; exact hcc)
        rw [bvs, ← List.map_drop, List.drop_drop] at this
        by_cases h16 : R < 16
        · rw [List.drop_eq_nil_of_le (by rw [HN.out]; omega)]; exact Row.nil _ _
        · rwa [show 16 * k + r = 16 * (k + 1) by omega] at this)
      generalize cutA A' c' r = A2 at hcut HG HRN
      obtain ⟨R2, hR2⟩ : ∃ x, x = R - r := ⟨_, rfl⟩
      obtain ⟨c2, hc2⟩ : ∃ x, x = c' - r := ⟨_, rfl⟩
      rw [← hR2, ← hc2] at hcut
      have HRR := Lib.hid hR2; have HC2 := Lib.hid hc2
      rw [← hR]
      have HKS := Lib.hid (tk_succ h s l k)
      clear hR hr hr2 hcs hR2 hc2 hlt hcc hk
      obtain ⟨g7, hg7⟩ : ∃ g, g = wr.heap.size := ⟨_, rfl⟩
      have HG7 := Lib.hid hg7
      have HB7 : Hid (Blk (wr.alloc (.cells (bvs none16).toArray 142)) wr.heap.size 142 (bvs none16)) := Lib.hid (Blk.new' rfl rfl)
      clear hg7
      go_wp2_with (first
        | (refine wpList_copy_blk rfl (.tmp 11) (.tmp 12) 29 29 rfl 5 u8s_under (by kernel_rfl) wr.heap.size 0 _ _ _ _ _ _ rfl rfl (bvs none16) 142 HB7.out (bvs cs) HCL.out (fun _ => rfl) (HRC.out.alloc _) HFIT.out (bvs_one _) ?_
           rw [bvs_length, HCR.out, HPC.out]
           intro w2 hB2 k2 z2
           have HB2 := Lib.hid hB2
           have HK2 : Hid (Kp nob wr w2) := Lib.hid (((Kp.refl nob wr).alloc _).since k2 (fun i e => by unfold oneB at e; omega))
           clear hB2 k2 z2)
        | (refine wpList_load_blk rfl 142 (.tmp 4) rfl _ _ _ HB2.out rfl _ arrB rfl (by rw [HPL.out]; kernel_rfl) ?_))
      refine (elementOf_any (part l k) w2 (HPP.out k)).mono ?_
      rintro e w3 ⟨rfl, k3⟩
      have HS3 : Hid (SumAt w3 p h (tk h s l k)) := Lib.hid ((HS2.out.keep HK2.out (fun e => e)).keep k3 (fun e => e))
      have HK3 : Hid (Kp nob wr w3) := Lib.hid (HK2.out.trans k3 (fun _ e => e.elim))
      clear k3
      go_wp2_with fail
      refine (take_any p h (tk h s l k) (part l k) w3 HH.out HS3.out).mono ?_
      rintro e w4 ⟨rfl, hS4, k4⟩
      rw [← HKS.out] at hS4
      have HS4 := Lib.hid hS4
      have HK4 : Hid (Kp (oneB p) wr w4) := Lib.hid ((HK3.out.nob (oneB p)).trans k4 (fun _ e => .inl e))
      clear hS4 k4
      go_wp2
      refine ⟨⟨k + 1, A2, c2, ?_, ?_, ?_, HS4.out, HRN.out.keep HK4.out (fun j e e2 => HG.out j e e2), .inr HG.out, HKP.out.trans HK4.out (fun _ e => .inl e)⟩, ?_⟩
      · have := HQ.out; omega
      · rw [show n - 16 * (k + 1) = R2 by have := HQ.out; have := HRR.out; omega]
      · have := HQ.out; have := HRR.out; have := HC2.out; omega
      · show R2 < R; have := HRR.out; have := HQ.out; omega
    · have h0 : n - 16 * k = 0 := by omega
      have HS5 : Hid (SumAt wr p h (taken h s l)) := Lib.hid (by
        rw [taken_eq, show (l.length + 15) / 16 = k by have := HN.out; omega]; exact HS2.out)
      rw [h0]
      clear hk hlt h0
      go_wp2
      exact bodyPost_end (results_none rfl _ _ _) rfl ⟨rfl, HS5.out, HKP.out⟩
end Go.Proofs.Ytmmpmncioifeoaa.Ghash
