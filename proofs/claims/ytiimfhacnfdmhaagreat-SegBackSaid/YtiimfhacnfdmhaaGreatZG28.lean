/- Lemmas: MerB SegY SegKb RecB RecC RecD. -/
import Derived.Test.YtiimfhacnfdmhaaGreatZG27
set_option linter.unusedVariables false
set_option linter.unusedSimpArgs false
namespace Go.Proofs.YtiimfhacnfdmhaaGreat.Merkle
open Go Go.RowKit Kit
open Ideal (Iw Iq Ans Arg Args Thing mk out sealT opn derT hashT Ts half half_pow half_pos half_lt leafT pairT rootT rootT_none rootT_one rootT_more zc zc_run zc_length zc_eq args_two)
open Sha (Pc PcsOk catP)
open Vault
theorem one_arg (w : World) (F : Nat → Prop) (b : UInt8) (t : TypeId) (hF : ∀ k, F k → k < w.heap.size) : Arg (w.alloc (.cells #[.int .u8 (b.toNat : Nat)] t)) F (some ⟨w.heap.size, 0, none⟩) 1 1 [b] :=
  ⟨rfl, row_new w [.int .u8 (b.toNat : Nat)] t, .inr (fun k e hk => by cases e; exact Nat.lt_irrefl _ (hF _ hk)), Nat.le_refl _, by simp [maxLen], fun e => by cases e⟩
set_option maxHeartbeats 1000000 in
set_option maxRecDepth 100000 in
theorem leaf_v [Inhabited Sha.ShaTab] [Inhabited Field.SqTab] (c : Vc) (x : Vt) (T : Option Addr) (n d : Nat) (b : List UInt8) (w : World) (h : Vx w c x) (ht : Arg w x.P T n d b) (hf : x.o.few 100000) (lb : b.length ≤ 1048000) (hlong : x.o.long) :
    Calls Tryz.prog 80 #[.pointer (some ⟨c.v, 0, none⟩), .slice T n d] w fun e w' => ∃ F2 P2, e = .returned (.agg (bvs (x.o.val (leafT b) 32)).toArray) ∧ Vq w c x w' ⟨F2, P2, x.o.nx (leafT b), x.sl, x.cl⟩ := by
  have hz := zc_run
  have k0 : Kp nob w ((w.alloc (.cells zc.toArray 32)).alloc (.cells #[.int .u8 49] 5)) := ((Kp.refl nob w).alloc _).alloc _
  have a1 : Arg ((w.alloc (.cells zc.toArray 32)).alloc (.cells #[.int .u8 49] 5)) x.P (some ⟨w.heap.size + 1, 0, none⟩) 1 1 [49] := by
    have := one_arg (w.alloc (.cells zc.toArray 32)) x.P 49 5 (fun k e => by have := h.lt k e; simp; omega)
    simpa using this
  have HA : Hid (Args (((w.alloc (.cells zc.toArray 32)).alloc (.cells #[.int .u8 49] 5)).alloc (.cells #[.slice (some ⟨w.heap.size + 1, 0, none⟩) 1 1, .slice T n d] 42)) x.P (some ⟨w.heap.size + 1 + 1, 0, none⟩) 2 [⟨some ⟨w.heap.size + 1, 0, none⟩, 1, 1, [49]⟩, ⟨T, n, d, b⟩]) := Lib.hid (by
    have := args_two (t := 42) a1 (ht.keep0 k0) (fun k e => by have := h.lt k e; simp; omega)
    simpa using this)
  have HK := Lib.hid (k0.alloc (.cells #[.slice (some ⟨w.heap.size + 1, 0, none⟩) 1 1, .slice T n d] 42))
  have HB := Lib.hid ((((Blk.new w 32 zc).alloc (.cells #[.int .u8 49] 5)).alloc (.cells #[.slice (some ⟨w.heap.size + 1, 0, none⟩) 1 1, .slice T n d] 42)))
  have HH := Lib.hid (hash_v c x _ 2 2 _ _ (h.keep0 HK.out) HA.out hf (by simp [catP]; omega))
  have HCP : Hid (catP [⟨some ⟨w.heap.size + 1, 0, none⟩, 1, 1, [49]⟩, ⟨T, n, d, b⟩] = 49 :: b) := Lib.hid (by simp [catP])
  rw [HCP.out, show hashT (49 :: b) = leafT b from rfl] at HH
  have HL := Lib.hid (hlong.len (leafT b) (.inl rfl))
  have HX := Lib.hid h
  clear h ht hf lb hlong k0 a1
  obtain ⟨D, hD⟩ : ∃ D, D = x.o.val (leafT b) 32 := ⟨_, rfl⟩
  rw [← hD] at HH HL ⊢
  clear hD HCP HA
  go_enter Tryz.func80, Tryz.ntmps80
  go_wp2_with fail
  refine HH.out.mono ?_
  rintro e w2 ⟨F2, P2, rfl, q⟩
  have HN := Lib.hid (q.new HX.out (i := w.heap.size) (Nat.le_refl _) (by simp <;> omega))
  have HB2 := Lib.hid (HB.out.keep q.kp (fun e => by have := HX.out.lt _ e; omega))
  have HQ := Lib.hid (q.back HK.out)
  clear q
  go_wp2_with (first
    | (refine wpList_store_blk rfl 32 (.tmp 4) (.tmp 9) rfl _ _ _ (bvs D) HB2.out rfl rfl (by rw [bvs_length, HL.out, zc_length]) (by rw [bvs_length, HL.out]; kernel_rfl) (bvs_one _) ?_; intro w3 hB3 k3 z3)
    | fail)
  exact bodyPost_ret (results_cell_row rfl _ _ w.heap.size _ _ _ _ rfl hB3 rarr_under rfl (by rw [List.size_toArray]; exact rarr_size D HL.out)) rfl
    ⟨F2, P2, rfl, HQ.out.over k3 (fun i _ e => by have e : i = w.heap.size := e; subst e; exact ⟨Nat.le_refl _, HN.out⟩) HX.out.sz⟩
theorem arr_all (g o : Nat) (w : World) : (Instr.sliceAt 32 (.pointer (some ⟨g, o, none⟩)) none none none).run Tryz.prog w = .ok (.slice (some ⟨g, o, none⟩) 32 32) w := by
  have ha : Tryz.prog.underlying 32 = some (.array (Tryz.prog.arrayLen 32) (Tryz.prog.elem 32)) := by kernel_rfl
  have hl : Tryz.prog.arrayLen 32 = 32 := by kernel_rfl
  have he : Tryz.prog.elem 32 = 5 := by kernel_rfl
  have hz : (sizeOf 5).run Tryz.prog w = .ok 1 w := by kernel_rfl
  rw [run_sliceAt_array_all w _ _ ha, hl, he, hz]
  simp [Result.andThen, slicedAt, Addr.add]
theorem blk_arg {w : World} {F : Nat → Prop} {g : Nat} {t : TypeId} {l : List UInt8} {n : Nat} (h : Blk w g t (bvs l)) (hn : l.length = n) (hm : n ≤ maxLen) (hF : ¬ F g) : Arg w F (some ⟨g, 0, none⟩) n n l :=
  ⟨hn, .inr ⟨g, 0, rfl, h.lt, fun i v hv => by rw [Nat.zero_add, h.cell]; exact hv⟩, .inr (fun k e hk => by cases e; exact hF hk), Nat.le_refl _, hm, fun e => by cases e⟩
set_option maxHeartbeats 2000000 in
set_option maxRecDepth 100000 in
theorem two_v [Inhabited Sha.ShaTab] [Inhabited Field.SqTab] (c : Vc) (x : Vt) (a b : List UInt8) (w : World) (la : a.length = 32) (lb : b.length = 32) (h : Vx w c x) (hf : x.o.few 100000) (hlong : x.o.long) :
    Calls Tryz.prog 102 #[.pointer (some ⟨c.v, 0, none⟩), .agg (bvs a).toArray, .agg (bvs b).toArray] w fun e w' => ∃ F2 P2, e = .returned (.agg (bvs (x.o.val (pairT a b) 32)).toArray) ∧ Vq w c x w' ⟨F2, P2, x.o.nx (pairT a b), x.sl, x.cl⟩ := by
  have hz := zc_run
  have HA := Lib.hid (show Blk (((w.alloc (.cells (bvs a).toArray 32)).alloc (.cells (bvs b).toArray 32)).alloc (.cells zc.toArray 32)).drew w.heap.size 32 (bvs a) from (((Blk.new w _ _).alloc _).alloc _).keep (Kp.refl nob _).drew (fun e => e))
  have HB := Lib.hid (show Blk (((w.alloc (.cells (bvs a).toArray 32)).alloc (.cells (bvs b).toArray 32)).alloc (.cells zc.toArray 32)).drew (w.heap.size + 1) 32 (bvs b) from ((show Blk _ (w.heap.size + 1) _ _ from Blk.new' (by simp) rfl).alloc _).keep (Kp.refl nob _).drew (fun e => e))
  have HZ := Lib.hid (show Blk (((w.alloc (.cells (bvs a).toArray 32)).alloc (.cells (bvs b).toArray 32)).alloc (.cells zc.toArray 32)).drew (w.heap.size + 2) 32 zc from (show Blk _ (w.heap.size + 2) _ _ from Blk.new' (by simp) rfl).keep (Kp.refl nob _).drew (fun e => e))
  have HK := Lib.hid (show Kp nob w (((w.alloc (.cells (bvs a).toArray 32)).alloc (.cells (bvs b).toArray 32)).alloc (.cells zc.toArray 32)).drew from ((((Kp.refl nob w).alloc _).alloc _).alloc _).drew)
  have HL := Lib.hid (And.intro la lb)
  have HX := Lib.hid h; have HF := Lib.hid hf; have HLG := Lib.hid hlong
  have HLL := Lib.hid (hlong.len (pairT a b) (.inl rfl))
  obtain ⟨D, hD⟩ : ∃ D, D = x.o.val (pairT a b) 32 := ⟨_, rfl⟩
  rw [← hD] at HLL ⊢
  have HD := Lib.hid hD
  clear h hf hlong la lb hD
  go_enter Tryz.func102, Tryz.ntmps102
  go_wp2
  obtain ⟨wb, hw1⟩ : ∃ wb, wb = (((w.alloc (.cells (bvs a).toArray 32)).alloc (.cells (bvs b).toArray 32)).alloc (.cells zc.toArray 32)) := ⟨_, rfl⟩
  have hsz : wb.drew.heap.size = w.heap.size + 3 := by rw [hw1]; rw [show ∀ w : World, w.drew.heap.size = w.heap.size from fun _ => rfl]; simp
  have hsz2 : wb.heap.size = w.heap.size + 3 := hsz
  rw [← hw1] at HA HB HZ HK ⊢
  clear hw1
  refine reg_begin (fun _ => True) (by kernel_rfl) trivial (fun _ => ?_)
  refine reg_take (v := .pointer (some ⟨c.v, 0, none⟩)) 0 (some 7) rfl rfl (by kernel_rfl) (by kernel_rfl) (by kernel_rfl) (by rfl) trivial (fun w _ => by go_simp) ?_
  simp only [Act.put, List.setIfInBounds_toArray, List.set_cons_zero, List.set_cons_succ]
  refine reg_take (v := .slice (some ⟨w.heap.size, 0, none⟩) 32 32) 2 (some 9) rfl rfl (by kernel_rfl) (by kernel_rfl) (by kernel_rfl) (by rfl) trivial (fun w2 _ => by have hc := arr_all w.heap.size 0 w2; go_simp) ?_
  simp only [Act.put, List.setIfInBounds_toArray, List.set_cons_zero, List.set_cons_succ]
  refine reg_take (v := .slice (some ⟨w.heap.size + 1, 0, none⟩) 32 32) 3 (some 10) rfl rfl (by kernel_rfl) (by kernel_rfl) (by kernel_rfl) (by rfl) trivial (fun w2 _ => by have hc := arr_all (w.heap.size + 1) 0 w2; go_simp) ?_
  simp only [Act.put, List.setIfInBounds_toArray, List.set_cons_zero, List.set_cons_succ]
  refine reg_step (w' := wb.drew.alloc (.cells #[.int .u8 50] 5)) (v := .slice (some ⟨wb.drew.heap.size, 0, none⟩) 1 1) 1 (some 8) rfl rfl (by kernel_rfl) (by rfl) (by first | kernel_rfl | (go_simp; rfl)) trivial (fun _ => ?_)
  simp only [Act.put, List.setIfInBounds_toArray, List.set_cons_zero, List.set_cons_succ]
  have k1 := (Kp.refl nob wb.drew).alloc (.cells #[.int .u8 50] 5)
  have hPs : ∀ k, x.P k → k < w.heap.size := HX.out.lt
  have a1 : Arg (wb.drew.alloc (.cells #[.int .u8 50] 5)) x.P (some ⟨wb.drew.heap.size, 0, none⟩) 1 1 [50] := one_arg wb.drew x.P 50 5 (fun k e => by have := hPs k e; omega)
  have a2 : Arg (wb.drew.alloc (.cells #[.int .u8 50] 5)) x.P (some ⟨w.heap.size, 0, none⟩) 32 32 a := (blk_arg HA.out HL.out.1 (by simp [maxLen]) (fun e => by have := hPs _ e; omega)).keep0 k1
  have a3 : Arg (wb.drew.alloc (.cells #[.int .u8 50] 5)) x.P (some ⟨w.heap.size + 1, 0, none⟩) 32 32 b := (blk_arg HB.out HL.out.2 (by simp [maxLen]) (fun e => by have := hPs _ e; omega)).keep0 k1
  have HAR := Lib.hid (Ideal.args_three (t := 42) a1 a2 a3 (fun k e => by have := hPs k e; simp; omega))
  obtain ⟨w1, hw1⟩ : ∃ w1, w1 = wb.drew.alloc (.cells #[.int .u8 50] 5) := ⟨_, rfl⟩
  have hs1 : w1.heap.size = w.heap.size + 4 := by rw [hw1]; simp; omega
  rw [← hw1] at k1 HAR ⊢
  clear a1 a2 a3 hw1
  refine reg_step (w' := w1.alloc (.cells #[.slice (some ⟨wb.drew.heap.size, 0, none⟩) 1 1, .slice (some ⟨w.heap.size, 0, none⟩) 32 32, .slice (some ⟨w.heap.size + 1, 0, none⟩) 32 32] 42)) (v := .slice (some ⟨w1.heap.size, 0, none⟩) 3 3) 4 (some 11) rfl rfl (by kernel_rfl) (by rfl) (by first | kernel_rfl | (go_simp; rfl)) trivial (fun _ => ?_)
  simp only [Act.put, List.setIfInBounds_toArray, List.set_cons_zero, List.set_cons_succ]
  have k2 := k1.alloc (.cells #[.slice (some ⟨wb.drew.heap.size, 0, none⟩) 1 1, .slice (some ⟨w.heap.size, 0, none⟩) 32 32, .slice (some ⟨w.heap.size + 1, 0, none⟩) 32 32] 42)
  have kb := HK.out.trans k2 (fun _ e => e.elim)
  have HH := Lib.hid (hash_v c x _ 3 3 _ _ (HX.out.keep0 kb) HAR.out HF.out (by simp [catP, HL.out.1, HL.out.2]))
  rw [show catP [⟨some ⟨wb.drew.heap.size, 0, none⟩, 1, 1, [50]⟩, ⟨some ⟨w.heap.size, 0, none⟩, 32, 32, a⟩, ⟨some ⟨w.heap.size + 1, 0, none⟩, 32, 32, b⟩] = 50 :: (a ++ b) by simp [catP], show hashT (50 :: (a ++ b)) = pairT a b from rfl] at HH
  rw [← HD.out] at HH
  have HZ2 := Lib.hid (HZ.out.keep k2 (fun e => e))
  have HKB := Lib.hid kb
  clear k1 k2 kb HAR HA HB HZ HK
  obtain ⟨wc9, hwc⟩ : ∃ wc9, wc9 = w1.alloc (.cells #[.slice (some ⟨wb.drew.heap.size, 0, none⟩) 1 1, .slice (some ⟨w.heap.size, 0, none⟩) 32 32, .slice (some ⟨w.heap.size + 1, 0, none⟩) 32 32] 42) := ⟨_, rfl⟩
  have hsc : wc9.heap.size = w.heap.size + 5 := by rw [hwc]; simp; omega
  rw [← hwc] at HH HZ2 HKB ⊢
  refine reg_call 5 (some 12) rfl rfl (by kernel_rfl) (by rfl) _ _ (exec_func 35 _ _ [.pointer (some ⟨c.v, 0, none⟩), .slice (some ⟨w1.heap.size, 0, none⟩) 3 3] rfl (by kernel_rfl) rfl) ?_
  refine HH.out.mono ?_
  rintro e w2 ⟨F2, P2, rfl, q⟩
  have hN : ¬ P2 (w.heap.size + 2) := fun e => (q.P _ e).elim (fun e => by have := hPs _ e; omega) (fun e => by omega)
  have hZ3 := HZ2.out.keep q.kp (fun e => by have := hPs _ e; omega)
  have HQ := Lib.hid (q.back HKB.out)
  have HN := Lib.hid hN; have HZ3 := Lib.hid hZ3
  clear q hN hZ3 HH
  refine ⟨_, rfl, trivial, fun _ => ?_⟩
  simp only [Act.put, List.setIfInBounds_toArray, List.set_cons_zero, List.set_cons_succ]
  refine reg_store 6 none 32 (.tmp 6) (.tmp 12) rfl rfl rfl (by kernel_rfl) (by rfl) (w.heap.size + 2) 32 zc (bvs D) HZ3.out rfl rfl (by rw [bvs_length, HLL.out, zc_length]) (by rw [bvs_length, HLL.out]; kernel_rfl) (bvs_one _) ?_
  intro w3 hB3 k3 z3
  refine ⟨trivial, fun _ => ?_⟩
  simp only [Act.put, List.setIfInBounds_toArray, List.set_cons_zero, List.set_cons_succ]
  refine reg_end (by kernel_rfl) ?_
  have HB3 := Lib.hid hB3
  have HR : Hid (Vq w c x w3 ⟨F2, P2, x.o.nx (pairT a b), x.sl, x.cl⟩) := Lib.hid (HQ.out.over k3 (fun i _ e => by have e : i = w.heap.size + 2 := e; subst e; exact ⟨by omega, HN.out⟩) HX.out.sz)
  clear hB3 k3 z3
  go_wp2
  exact bodyPost_ret (results_cell_row rfl _ _ (w.heap.size + 2) _ _ _ _ rfl HB3.out rarr_under rfl (by rw [List.size_toArray]; exact rarr_size D HLL.out)) rfl ⟨F2, P2, rfl, HR.out⟩
end Go.Proofs.YtiimfhacnfdmhaaGreat.Merkle
namespace Go.Proofs.YtiimfhacnfdmhaaGreat.Seg
open Go Go.RowKit Kit
open Rec (Rec good ftot recB)
open Ideal (Ts Thing Ans Arg Args sealT derT hashT leafT rootT zc zc_run zc_length zc_eq args_two)
open Sha (Pc PcsOk catP)
open Vault
open Merkle (blk_arg arr_all)
set_option maxHeartbeats 1000000 in
set_option maxRecDepth 100000 in
theorem key_c [Inhabited Sha.ShaTab] [Inhabited Field.SqTab] (c : Vc) (x : Vt) (q : Int) (w : World) (h : Vx w c x) (hf : x.o.few 100000) (hlong : x.o.long) :
    Calls Tryz.prog 21 #[.pointer (some ⟨c.v, 0, none⟩), .int .i64 q] w fun e w' => ∃ F2 P2, e = .returned (.agg (bvs (x.o.val (keyT c.ms q) 32)).toArray) ∧ Vq w c x w' ⟨F2, P2, x.o.nx (keyT c.ms q), x.sl, x.cl⟩ := by
  have hz := zrk_run
  have k0 : Kp nob w (w.alloc (.cells zr.toArray 39)) := (Kp.refl nob w).alloc _
  have k1 : Kp nob w ((w.alloc (.cells zr.toArray 39)).alloc (.cells #[.int .i64 q] 3)) := k0.alloc _
  have HB := Lib.hid ((Blk.new w 39 zr).alloc (.cells #[.int .i64 q] 3))
  have HH := Lib.hid (key_v c x qn (some ⟨w.heap.size + 1, 0, none⟩) 1 1 [q] _ (h.keep0 k1) rfl (by
    have := row_new (w.alloc (.cells zr.toArray 39)) (ivs [q]) 3
    simpa [ivs] using this) (fun k e => by cases e; simp) hf (by unfold qn; decide) (by omega))
  rw [show derT c.ms (pur qn [q]) = keyT c.ms q from rfl] at HH
  have HL := Lib.hid (hlong.len (keyT c.ms q) (.inr (.inr rfl)))
  have HX := Lib.hid h
  have HK := Lib.hid k1
  clear h hf hlong k0 k1
  obtain ⟨D, hD⟩ : ∃ D, D = x.o.val (keyT c.ms q) 32 := ⟨_, rfl⟩
  rw [← hD] at HH HL ⊢
  clear hD
  go_enter Tryz.func21, Tryz.ntmps21
  go_wp2_with fail
  refine HH.out.mono ?_
  rintro e w2 ⟨F2, P2, rfl, q2⟩
  have HN := Lib.hid (q2.new HX.out (i := w.heap.size) (Nat.le_refl _) (by simp <;> omega))
  have HB2 := Lib.hid (HB.out.keep q2.kp (fun e => by have := HX.out.lt _ e; omega))
  have HQ := Lib.hid (q2.back HK.out)
  clear q2
  go_wp2_with (first
    | (refine wpList_store_blk rfl 39 (.tmp 4) (.tmp 8) rfl _ _ _ (bvs D) HB2.out rfl rfl (by rw [bvs_length, HL.out, zr_length]) (rkey_size D HL.out) (bvs_one _) ?_; intro w3 hB3 k3 z3)
    | fail)
  exact bodyPost_ret (results_cell_row rfl _ _ w.heap.size _ _ _ _ rfl hB3 rkey_under rfl (by rw [List.size_toArray]; exact rkey_size D HL.out)) rfl
    ⟨F2, P2, rfl, HQ.out.over k3 (fun i _ e => by have e : i = w.heap.size := e; subst e; exact ⟨Nat.le_refl _, HN.out⟩) HX.out.sz⟩
set_option maxHeartbeats 1000000 in
set_option maxRecDepth 100000 in
theorem besides_c (at' : List UInt8) (i n : Nat) (w : World) (h32 : at'.length = 32) :
    Calls Tryz.prog 66 #[.agg (bvs at').toArray, .int .i64 i, .int .i64 n] w (NewBytes w (besT at' i n)) := by
  have HB := Lib.hid ((Blk.new w 32 (bvs at')).alloc (.cells #[.slice none 0 0] 71))
  have hw := isW_new (w.alloc (.cells (bvs at').toArray 32))
  rw [show (w.alloc (.cells (bvs at').toArray 32)).heap.size = w.heap.size + 1 by simp] at hw
  have HW := Lib.hid hw
  clear hw
  have HK := Lib.hid (((Kp.refl nob w).alloc (.cells (bvs at').toArray 32)).alloc (.cells #[.slice none 0 0] 71))
  have ha := arr_all w.heap.size 0
  have HL := Lib.hid h32
  clear h32
  go_enter Tryz.func66, Tryz.ntmps66
  go_wp2_with fail
  refine (wByte (w.heap.size + 1) none [] (some ⟨w.heap.size, 0, none⟩) 32 32 at' _ HW.out (fun e => by cases e) HL.out (.inr ⟨w.heap.size, 0, rfl, HB.out.lt, fun i v hv => by rw [Nat.zero_add, HB.out.cell]; exact hv⟩) (by simp)).mono ?_
  rintro e w2 ⟨rfl, A2, h1, k2, g2⟩
  have H1 := Lib.hid h1
  have HK2 : Hid (Kp nob w w2) := Lib.hid (HK.out.since k2 (fun i e => by
    rcases e with rfl | e
    · omega
    · cases e))
  have HG2 : Hid (∀ k, ab A2 = some k → w.heap.size ≤ k) := Lib.hid (fun k e => by
    rcases g2 with h | ⟨j, h, hj⟩
    · rw [h] at e; cases e
    · rw [h] at e; cases e; simp at hj; omega)
  clear h1 k2 g2
  have e1 : ([] : List UInt8) ++ at' = at' := rfl
  rw [e1] at H1
  clear e1
  go_wp2_with fail
  refine (wNum (w.heap.size + 1) A2 at' (some ⟨w2.heap.size, 0, none⟩) 2 2 [(i : Int), (n : Int)] _ (H1.out.alloc _) rfl (row_new w2 (ivs [(i : Int), (n : Int)]) _) H1.out.apart (by omega) (by rw [HL.out]; decide)).mono ?_
  rintro e w3 ⟨rfl, A3, h1, k3, g3⟩
  have e2 : at' ++ [(i : Int), (n : Int)].flatMap num8 = besT at' i n := by simp [besT]
  rw [e2] at h1
  have HLB : Hid ((besT at' i n).length = 48) := Lib.hid (by unfold besT; simp [HL.out])
  have H3 := Lib.hid h1
  have HK3 : Hid (Kp nob w w3) := Lib.hid ((HK2.out.alloc _).since k3 (fun i e => by
    rcases e with rfl | e
    · omega
    · exact HG2.out i e))
  clear h1 g3 k3 e2
  go_wp2_with fail
  refine (wBytes (w.heap.size + 1) A3 (besT at' i n) _ H3.out (by rw [HLB.out]; decide)).mono ?_
  rintro e w4 ⟨A', c', rfl, h5, h6, h7, h8⟩
  go_wp2
  go_ret
  exact ⟨A', c', rfl, h5, HK3.out.trans h6 (fun _ e => e.elim), fun k e => Nat.le_trans HK3.out.size (h7 k e), h8⟩
set_option maxHeartbeats 1000000 in
set_option maxRecDepth 100000 in
theorem behind_c [Inhabited Sha.ShaTab] [Inhabited Field.SqTab] (c : Vc) (x : Vt) (at' : List UInt8) (T : Option Addr) (n d : Nat) (b : List UInt8) (w : World) (h : Vx w c x) (h32 : at'.length = 32) (ht : Arg w x.P T n d b) (hf : x.o.few 100000) (lb : b.length ≤ 1048000) (hlong : x.o.long) :
    Calls Tryz.prog 47 #[.pointer (some ⟨c.v, 0, none⟩), .agg (bvs at').toArray, .slice T n d] w fun e w' => ∃ F2 P2, e = .returned (.agg (bvs (x.o.val (hashT (at' ++ b)) 32)).toArray) ∧ Vq w c x w' ⟨F2, P2, x.o.nx (hashT (at' ++ b)), x.sl, x.cl⟩ := by
  have hz := zc_run
  have k0 : Kp nob w ((w.alloc (.cells (bvs at').toArray 32)).alloc (.cells zc.toArray 32)) := ((Kp.refl nob w).alloc _).alloc _
  have a1 : Arg ((w.alloc (.cells (bvs at').toArray 32)).alloc (.cells zc.toArray 32)) x.P (some ⟨w.heap.size, 0, none⟩) 32 32 at' :=
    blk_arg (t := 32) ((Blk.new w _ (bvs at')).alloc _) h32 (by simp [maxLen]) (fun e => by have := h.lt _ e; omega)
  have HA : Hid (Args (((w.alloc (.cells (bvs at').toArray 32)).alloc (.cells zc.toArray 32)).alloc (.cells #[.slice (some ⟨w.heap.size, 0, none⟩) 32 32, .slice T n d] 42)) x.P (some ⟨w.heap.size + 1 + 1, 0, none⟩) 2 [⟨some ⟨w.heap.size, 0, none⟩, 32, 32, at'⟩, ⟨T, n, d, b⟩]) := Lib.hid (by
    have := args_two (t := 42) a1 (ht.keep0 k0) (fun k e => by have := h.lt k e; simp; omega)
    simpa using this)
  have HK := Lib.hid (k0.alloc (.cells #[.slice (some ⟨w.heap.size, 0, none⟩) 32 32, .slice T n d] 42))
  have HB : Hid (Blk (((w.alloc (.cells (bvs at').toArray 32)).alloc (.cells zc.toArray 32)).alloc (.cells #[.slice (some ⟨w.heap.size, 0, none⟩) 32 32, .slice T n d] 42)) (w.heap.size + 1) 32 zc) := Lib.hid ((show Blk _ (w.heap.size + 1) _ _ from Blk.new' (by simp) rfl).alloc _)
  have HH := Lib.hid (hash_v c x _ 2 2 _ _ (h.keep0 HK.out) HA.out hf (by simp [catP, h32]; omega))
  have HCP : Hid (catP [⟨some ⟨w.heap.size, 0, none⟩, 32, 32, at'⟩, ⟨T, n, d, b⟩] = at' ++ b) := Lib.hid (by simp [catP])
  rw [HCP.out] at HH
  have HL := Lib.hid (hlong.len (hashT (at' ++ b)) (.inl rfl))
  have HX := Lib.hid h
  have ha := arr_all w.heap.size 0
  clear h ht hf lb hlong k0 a1 h32
  obtain ⟨D, hD⟩ : ∃ D, D = x.o.val (hashT (at' ++ b)) 32 := ⟨_, rfl⟩
  rw [← hD] at HH HL ⊢
  clear hD HCP HA
  go_enter Tryz.func47, Tryz.ntmps47
  go_wp2_with fail
  refine HH.out.mono ?_
  rintro e w2 ⟨F2, P2, rfl, q⟩
  have HN := Lib.hid (q.new HX.out (i := w.heap.size + 1) (by omega) (by simp <;> omega))
  have HB2 := Lib.hid (HB.out.keep q.kp (fun e => by have := HX.out.lt _ e; omega))
  have HQ := Lib.hid (q.back HK.out)
  clear q
  go_wp2_with (first
    | (refine wpList_store_blk rfl 32 (.tmp 6) (.tmp 11) rfl _ _ _ (bvs D) HB2.out rfl rfl (by rw [bvs_length, HL.out, zc_length]) (by rw [bvs_length, HL.out]; kernel_rfl) (bvs_one _) ?_; intro w3 hB3 k3 z3)
    | fail)
  exact bodyPost_ret (results_cell_row rfl _ _ (w.heap.size + 1) _ _ _ _ rfl hB3 rarr_under rfl (by rw [List.size_toArray]; exact rarr_size D HL.out)) rfl
    ⟨F2, P2, rfl, HQ.out.over k3 (fun i _ e => by have e : i = w.heap.size + 1 := e; subst e; exact ⟨by omega, HN.out⟩) HX.out.sz⟩
end Go.Proofs.YtiimfhacnfdmhaaGreat.Seg
namespace Go.Proofs.YtiimfhacnfdmhaaGreat.Seg
open Go Go.RowKit Kit
open Rec (Rec good ftot recB)
open Ideal (Ts Thing Ans Arg Args sealT derT hashT args_one)
open Sha (Pc PcsOk catP)
open Vault
theorem run_bs1 (A : Option Addr) (n c : Nat) (w : World) : (Instr.buildSlice 118 1 #[(0, .slice A n c)]).run Tryz.prog w = .ok (.slice (some ⟨w.heap.size, 0, none⟩) 1 1) (w.alloc (.cells #[.slice A n c] 42)) := by kernel_rfl
theorem exec_bs1 {a : Act} {o : Oper} {w : World} (x : Operand) (A : Option Addr) (n c : Nat) (ho : o.op = .buildSlice 118 1 #[(0, x)]) (hx : a.eval x = .slice A n c) :
    (execOp a.eval o).run Tryz.prog w = .ok (.value (.slice (some ⟨w.heap.size, 0, none⟩) 1 1)) (w.alloc (.cells #[.slice A n c] 42)) := by
  have h := run_bs1 A n c w
  unfold execOp
  simp only [ho, List.map_toArray, List.map_cons, List.map_nil, hx, Sem.run_bind, h, Result.andThen_ok, Sem.run_pure]
theorem bes_length (at' : List UInt8) (i m : Nat) (h : at'.length = 32) : (besT at' i m).length = 48 := by unfold besT; simp [h]
section
variable {md : Region.Mode} {ops : Array Oper} {Q : Exit → Act → World → Prop} {S : World → Prop}
theorem reg_keyBes [Inhabited Sha.ShaTab] [Inhabited Field.SqTab] (iK iB iS : Nat) (dK dB dS : Tmp) (L0 LM : Array Bool) (a0 : Act) (w1 : World) (f n : Nat) (c : Vc) (x : Vt) (q : Int) (at' : List UInt8) (i m : Nat)
    (h : Vx w1 c x) (hf : x.o.few 100000) (hlong : x.o.long) (h32 : at'.length = 32)
    (hn : ops.size = n) (hL0 : L0.size = n) (hZ : [iK, iB, iS].map (fun i => (i, (ops[i]?).bind (·.dst))) = [(iK, some dK), (iB, some dB), (iS, some dS)])
    (hap : apartB (fun i => (ops[i]?).bind (·.dst)) [iK, iB, iS] = true) (hcl : closedB md ops (lst L0) = true) (hah : aheadB md ops (lst L0) [iK, iB, iS] = true)
    (hsz : ([iK, iB, iS].all fun i => match (ops[i]?).bind (·.dst) with | some d => decide (d < a0.tmps.size) | none => true) = true) (hLM : [iK, iB, iS].foldl (fun l i => l.setIfInBounds i true) L0 = LM)
    (hw : ([iK, iB, iS].all fun i => ((ops[i]?).map fun o => o.guard.isNone).getD false) = true) (hwait : ((ops[iS]?).map fun o => o.after.any fun e => e.on == iB && Region.binds md e).getD false = true)
    (hS : ∀ w', Kp x.P w1 w' → S w')
    (hk : ∀ (o : Oper) (a : Act) (w : World), ops[iK]? = some o → (∀ t, ([iK, iB, iS].all fun j => (ops[j]?).bind (·.dst) != some t) = true → a.eval (.tmp t) = a0.eval (.tmp t)) → (execOp a.eval o).run Tryz.prog w = .ok (.enter 21 #[.pointer (some ⟨c.v, 0, none⟩), .int .i64 q]) w)
    (hb : ∀ (o : Oper) (a : Act) (w : World), ops[iB]? = some o → (∀ t, ([iK, iB, iS].all fun j => (ops[j]?).bind (·.dst) != some t) = true → a.eval (.tmp t) = a0.eval (.tmp t)) → (execOp a.eval o).run Tryz.prog w = .ok (.enter 66 #[.agg (bvs at').toArray, .int .i64 i, .int .i64 m]) w)
    (hs : ∀ (o : Oper), ops[iS]? = some o → o.op = .buildSlice 118 1 #[(0, .tmp dB)])
    (hfin : ∀ (F2 P2 : Nat → Prop) (w2 : World) (A5 : Option Addr) (c5 g : Nat), Vq w1 c x w2 ⟨F2, P2, x.o.nx (keyT c.ms q), x.sl, x.cl⟩ → Args w2 P2 (some ⟨g, 0, none⟩) 1 [⟨A5, 48, c5, besT at' i m⟩] →
      wpAnyH Tryz.prog md ops Q S f LM (((a0.put (some dK) (.agg (bvs (x.o.val (keyT c.ms q) 32)).toArray)).put (some dB) (.slice A5 48 c5)).put (some dS) (.slice (some ⟨g, 0, none⟩) 1 1)) w2) :
    wpAnyH Tryz.prog md ops Q S (f + 3) L0 a0 w1 := by
  have hbl := bes_length at' i m h32
  have hdst : (ops[iK]?).bind (·.dst) = some dK ∧ (ops[iB]?).bind (·.dst) = some dB ∧ (ops[iS]?).bind (·.dst) = some dS := by
    simp only [List.map_cons, List.map_nil, List.cons.injEq, Prod.mk.injEq, true_and, and_true] at hZ
    exact ⟨hZ.1, hZ.2.1, hZ.2.2⟩
  have hap2 := apart_of _ _ hap
  have hKB : iK ≠ iB := by simp only [List.pairwise_cons] at hap2; exact (hap2.1 iB (by simp)).1
  have hKS : iK ≠ iS := by simp only [List.pairwise_cons] at hap2; exact (hap2.1 iS (by simp)).1
  have hBS : iB ≠ iS := by simp only [List.pairwise_cons] at hap2; exact (hap2.2.1 iS (by simp)).1
  have hwant : ∀ i ∈ [iK, iB, iS], ∀ (o : Oper) (y : Nat → Option Bool), ops[i]? = some o → Region.wanted o y = true := by
    intro i hi o y ho
    have := List.all_eq_true.1 hw i hi
    rw [ho] at this
    simp only [Option.map_some, Option.getD_some, Option.isNone_iff_eq_none] at this
    unfold Region.wanted; rw [this]
  refine reg_many2 [iK, iB, iS] [(iK, some dK), (iB, some dB), (iS, some dS)] L0 LM a0 w1 f (fun L vals w => ∃ x2, Vq w1 c x w x2 ∧ ((L iK = true ∧ (∃ F2 P2, x2 = ⟨F2, P2, x.o.nx (keyT c.ms q), x.sl, x.cl⟩) ∧ vals iK = .agg (bvs (x.o.val (keyT c.ms q) 32)).toArray) ∨ (L iK = false ∧ x2 = x)) ∧
      (L iB = true → ∃ A5 c5, vals iB = .slice A5 48 c5 ∧ Arg w x2.P A5 48 c5 (besT at' i m)) ∧ (L iS = true → L iB = true ∧ ∃ g, vals iS = .slice (some ⟨g, 0, none⟩) 1 1 ∧ Blk w g 42 [vals iB] ∧ ¬ x2.P g))
    n hn hL0 hZ hap hcl hah hsz hLM (fun L vals w hJ => by obtain ⟨x2, hq, _⟩ := hJ; exact hS w hq.kp) ?h0 ?st ?fin
  case h0 =>
    simp only [aheadB, Bool.and_eq_true, List.all_eq_true] at hah
    have hL : ∀ i ∈ [iK, iB, iS], lst L0 i = false := fun i hi => by have := (hah.2 i hi).1.2; simpa using this
    refine ⟨x, Vq.refl h, Or.inr ⟨hL iK (by simp), rfl⟩, ?_⟩
    exact ⟨fun e => (by rw [hL iB (by simp)] at e; cases e), fun e => (by rw [hL iS (by simp)] at e; cases e)⟩
  case st =>
    intro L vals w a j o hj ho hLj hd hJ ev e0 K' hK'
    rw [if_pos (hwant j hj o _ ho)]
    obtain ⟨x2, hq, hk2, hb2, hs2⟩ := hJ
    simp only [List.mem_cons, List.not_mem_nil, or_false] at hj
    rcases hj with rfl | rfl | rfl
    · rcases hk2 with ⟨e, _⟩ | ⟨_, rfl⟩
      · rw [hLj] at e; cases e
      unfold Oper.wp
      rw [hk o a w ho e0, Oper.upon_enter]
      refine (key_c c x2 q w hq.now hf hlong).mono ?_
      rintro e w' ⟨F2, P2, rfl, q2⟩
      refine hK'.out _ _ ⟨_, hq.trans q2, .inl ⟨Kit.upd_same _ _ _, ⟨F2, P2, rfl⟩, Kit.upd_same _ _ _⟩, fun e => ?_, fun e => ?_⟩
      · rw [Kit.upd_other _ _ _ _ hKB.symm] at e
        obtain ⟨A5, c5, h1, h2⟩ := hb2 e
        exact ⟨A5, c5, by rw [Kit.upd_other _ _ _ _ hKB.symm]; exact h1, q2.arg h2⟩
      · rw [Kit.upd_other _ _ _ _ hKS.symm] at e
        obtain ⟨h0, g, h1, h2, h3⟩ := hs2 e
        refine ⟨by rw [Kit.upd_other _ _ _ _ hKB.symm]; exact h0, g, by rw [Kit.upd_other _ _ _ _ hKS.symm]; exact h1, ?_, q2.old h3 h2.lt⟩
        rw [Kit.upd_other _ _ _ _ hKB.symm]
        exact q2.blk h2 h3
    · unfold Oper.wp
      rw [hb o a w ho e0, Oper.upon_enter]
      refine (besides_c at' i m w h32).mono ?_
      rintro e w' ⟨A5, c5, rfl, h5, h6, h7, h8⟩
      refine hK'.out _ _ ⟨x2, hq.over0 h6, hk2.imp (fun e => ⟨?_, e.2.1, ?_⟩) (fun e => ⟨?_, e.2⟩), fun _ => ⟨A5, c5, ?_, ?_⟩, fun e => ?_⟩
      · rw [Kit.upd_other _ _ _ _ hKB]; exact e.1
      · rw [Kit.upd_other _ _ _ _ hKB]; exact e.2.2
      · rw [Kit.upd_other _ _ _ _ hKB]; exact e.1
      · rw [Kit.upd_same, hbl]
      · have hcap := h5.cap
        exact ⟨hbl, h5.row, .inr (fun k e hp => by have := h7 k e; have := hq.now.lt k hp; omega), by rw [← hbl]; exact hcap.1, hcap.2, h8⟩
      · rw [Kit.upd_other _ _ _ _ hBS.symm] at e
        have := (hs2 e).1
        rw [hLj] at this; cases this
    · have hLB : L iB = true := by
        rw [ho] at hwait
        simp only [Option.map_some, Option.getD_some] at hwait
        obtain ⟨e, he, h2⟩ := Array.any_eq_true'.1 hwait
        simp only [Bool.and_eq_true, beq_iff_eq] at h2
        have := hd e he h2.2
        rw [h2.1] at this; exact this
      unfold Oper.wp
      obtain ⟨A5, c5, h1, h2⟩ := hb2 hLB
      rw [exec_bs1 (.tmp dB) A5 48 c5 (hs o ho) (by rw [ev iB (by simp) hLB dB hdst.2.1, h1]), ← h1]
      have ka := (Kp.refl nob w).alloc (.cells #[vals iB] 42)
      refine hK'.out _ _ ⟨x2, hq.over0 ka, hk2.imp (fun e => ⟨?_, e.2.1, ?_⟩) (fun e => ⟨?_, e.2⟩), fun e => ?_, fun e => ⟨?_, w.heap.size, Kit.upd_same _ _ _, ?_, fun e => by have := hq.now.lt _ e; omega⟩⟩
      · rw [Kit.upd_other _ _ _ _ hKS]; exact e.1
      · rw [Kit.upd_other _ _ _ _ hKS]; exact e.2.2
      · rw [Kit.upd_other _ _ _ _ hKS]; exact e.1
      · exact ⟨A5, c5, by rw [Kit.upd_other _ _ _ _ hBS]; exact h1, h2.keep0 ka⟩
      · rw [Kit.upd_other _ _ _ _ hBS]; exact hLB
      · rw [Kit.upd_other _ _ _ _ hBS]
        exact Blk.new w _ [vals iB]
  case fin =>
    intro vals L w hall hJ
    obtain ⟨x2, hq, hk2, hb2, hs2⟩ := hJ
    rcases hk2 with ⟨_, ⟨F2, P2, rfl⟩, hv⟩ | ⟨e, _⟩
    · obtain ⟨A5, c5, h1, h2⟩ := hb2 (hall iB (by simp))
      obtain ⟨_, g, h3, h4, h5⟩ := hs2 (hall iS (by simp))
      simp only [putZ]
      rw [hv, h1, h3]
      refine hfin F2 P2 w A5 c5 g hq ⟨rfl, ?_, .inr (fun k e => by cases e; exact h5), h2.pc, fun p hp => by rcases List.mem_singleton.1 hp with rfl; exact h2.nil, by omega⟩
      rw [h1] at h4
      exact .inr ⟨g, 0, rfl, h4.lt, fun i v hv => by rw [Nat.zero_add, h4.cell]; simpa [Pc.v] using hv⟩
    · rw [hall iK (by simp)] at e; cases e
end
end Go.Proofs.YtiimfhacnfdmhaaGreat.Seg
namespace Go.Proofs.YtiimfhacnfdmhaaGreat.Rec
open Go Go.RowKit Kit
structure Bd where
  ql : Int
  qh : Int
  il : Int
  ih : Int
  nl : Int
  nh : Int
  wl : Int
  wh : Int
  body : Int
def bz : Bd := ⟨0, 0, 0, 0, 0, 0, 0, 0, 0⟩
def bds (k : Int) : Bd :=
  if k = 1 then { bz with ql := 1, qh := 16, il := 1, ih := 16, nl := 1, nh := 64, wl := 1, wh := 1048576 }
  else if k = 2 then { bz with ql := 1, qh := 16 }
  else if k = 3 then { bz with ql := 1, qh := 16, il := 1, ih := 1099511627776, body := 512 }
  else if k = 4 then { bz with ql := 1, qh := 16, il := 1, ih := 1099511627776, nl := 1, nh := 1125899907891200 }
  else if k = 5 ∨ k = 6 ∨ k = 10 then { bz with ql := 1, qh := 16, il := 1, ih := 1099511627776 }
  else if k = 13 then { bz with ql := 1, qh := 16, il := 1, ih := 1099511627777 }
  else if k = 7 then { bz with nl := 0, nh := 1125899906842624 }
  else if k = 8 ∨ k = 9 then { bz with il := 1, ih := 1099511627776 }
  else if k = 11 then { bz with ql := 1, qh := 16, il := 1, ih := 1099511627776, nl := 0, nh := 1125899907891200, wl := 0, wh := 16, body := 512 }
  else if k = 12 then { bz with ql := 1, qh := 16, il := 1, ih := 1099511627776, wl := 0, wh := 16, body := 512 }
  else bz
def kn (k : Int) : Bool := decide (1 ≤ k ∧ k ≤ 13)
def sv (lo hi : Int) : Value := .agg #[.int .i64 lo, .int .i64 hi]
def bcells (b : Bd) : List Value := [.int .i64 b.ql, .int .i64 b.qh, .int .i64 b.il, .int .i64 b.ih, .int .i64 b.nl, .int .i64 b.nh, .int .i64 b.wl, .int .i64 b.wh, .int .i64 b.body]
def bdv (b : Bd) : Value := .agg (bcells b).toArray
theorem good_bds (r : Rec) : good r = (kn r.kind && inB r.queue (bds r.kind).ql (bds r.kind).qh && inB r.id (bds r.kind).il (bds r.kind).ih && inB r.num (bds r.kind).nl (bds r.kind).nh && inB r.wait (bds r.kind).wl (bds r.kind).wh && decide ((r.body.length : Int) ≤ (bds r.kind).body)) := by
  obtain ⟨kind, queue, id, num, wait, body⟩ := r
  have hz : ∀ n : Int, decide (n = 0) = inB n 0 0 := fun n => by simp only [inB, ← Bool.decide_and]; congr 1; exact propext ⟨fun _ => by omega, fun _ => by omega⟩
  have hb : body.isEmpty = decide ((body.length : Int) ≤ 0) := by cases body <;> simp
  have h5 : decide (body.length ≤ 512) = decide ((body.length : Int) ≤ 512) := by simp; omega
  unfold good bds kn
  simp only [hz, hb, h5]
  split
  · rename_i h; subst h; simp [bz]
  split
  · rename_i h; subst h; simp [bz]
  split
  · rename_i h; subst h; simp [bz]
  split
  · rename_i h; subst h; simp [bz]
  split
  · rename_i h; rcases h with rfl | rfl | rfl <;> simp [bz]
  split
  · rename_i h; subst h; simp [bz]
  split
  · rename_i h; subst h; simp [bz]
  split
  · rename_i h; rcases h with rfl | rfl <;> simp [bz]
  split
  · rename_i h; subst h; simp [bz]
  split
  · rename_i h; subst h; simp [bz]
  · simp; omega
set_option maxHeartbeats 400000 in
theorem has_any (n lo hi : Int) (w : World) : Calls Tryz.prog 104 #[sv lo hi, .int .i64 n] w fun e w' => e = .returned (.bool (inB n lo hi)) ∧ w' = w.alloc (.cells #[.int .i64 lo, .int .i64 hi] 169) := by
  unfold sv
  go_enter Tryz.func104, Tryz.ntmps104
  go_wp2
  all_goals
    go_ret
    refine ⟨?_, rfl⟩
    simp_all [inB] <;> omega
theorem bd_row : (Tryz.prog.underlying 171).map (·.isRow) = some true := by kernel_rfl
theorem bd_under : ∃ d, Tryz.prog.underlying 171 = some d ∧ d.isRow = true := by
  have h := bd_row
  cases hu : Tryz.prog.underlying 171 with
  | none => rw [hu] at h; cases h
  | some d => rw [hu] at h; exact ⟨d, rfl, by simpa using h⟩
theorem bd_size : (Tryz.prog.info? 171).map (·.size) = some 9 := by kernel_rfl
set_option maxHeartbeats 4000000 in
set_option maxRecDepth 100000 in
theorem boundsOf_any (k : Int) (w : World) : Calls Tryz.prog 103 #[.int .i64 k] w fun e w' => e = .returned (.tuple #[bdv (bds k), .bool (kn k)]) ∧ Kp nob w w' := by
  obtain ⟨d, hd1, hd2⟩ := bd_under
  go_enter Tryz.func103, Tryz.ntmps103
  go_wp2
  all_goals
    refine bodyPost_ret (results_rec rfl _ _ w.heap.size _ _ d rfl (Blk.new3 _ _ _ _ _ _) hd1 hd2 (by exact bd_size) _ rfl) rfl ⟨?_, Kp.new3 _ _ _ _ _⟩
    simp_all [bds, kn, bdv, bcells, bz] <;> omega
set_option maxHeartbeats 4000000 in
set_option maxRecDepth 100000 in
theorem cGood (r : Rec) (w : World) (hl : r.body.length ≤ 9223372036854775807) : Calls Tryz.prog 88 #[rv r] w fun e w' => e = .returned (.bool (good r)) ∧ Kp nob w w' := by
  have hg := good_bds r
  have hb := fun w' => boundsOf_any r.kind w'
  obtain ⟨B, hB⟩ : ∃ B, B = bds r.kind := ⟨_, rfl⟩
  obtain ⟨K, hK⟩ : ∃ K, K = kn r.kind := ⟨_, rfl⟩
  rw [← hB, ← hK] at hg
  simp only [← hB, ← hK] at hb
  clear hB hK
  obtain ⟨kind, queue, id, num, wait, body⟩ := r
  obtain ⟨ql, qh, il, ih, nl, nh, wl, wh, bl⟩ := B
  have HG := Lib.hid hg; clear hg
  have HBO := Lib.hid hb; clear hb
  simp only at hl
  have hh := has_any
  unfold sv at hh
  have HH := Lib.hid hh; clear hh
  unfold rv
  have k0 : Kp nob w (w.alloc (.cells #[.int .i64 kind, .int .i64 queue, .int .i64 id, .int .i64 num, .int .i64 wait, .string (str body)] 34)) := (Kp.refl nob w).alloc _
  have HK0 := Lib.hid k0; clear k0
  have HB0 := Lib.hid (Blk.new w 34 [.int .i64 kind, .int .i64 queue, .int .i64 id, .int .i64 num, .int .i64 wait, .string (str body)])
  go_enter Tryz.func88, Tryz.ntmps88
  go_wp2_with fail
  refine (HBO.out _).mono ?_
  rintro e w1 ⟨rfl, k1⟩
  have b1 := HB0.out.keep k1 (fun e => e)
  have HK1 := Lib.hid (HK0.out.trans k1 (fun _ e => e.elim))
  have c0 := b1.cell 0
  have c1 := b1.cell 1
  have c2 := b1.cell 2
  have c3 := fun a1 a2 a3 => (((b1.alloc a1).alloc a2).alloc a3).cell 3
  have c4 := fun a1 a2 a3 a4 => ((((b1.alloc a1).alloc a2).alloc a3).alloc a4).cell 4
  have c5 := fun a1 a2 a3 a4 a5 => (((((b1.alloc a1).alloc a2).alloc a3).alloc a4).alloc a5).cell 5
  have hlt := b1.lt
  simp at c0 c1 c2 c3 c4 c5
  clear b1 k1 HB0 HK0
  unfold bdv bcells
  simp only
  go_wp2_with (go_at_call 104; refine (HH.out _ _ _ _).mono ?_; rintro e w' ⟨rfl, rfl⟩)
  all_goals
    go_ret
    refine ⟨?_, by repeat (first | exact HK1.out | apply Kp.alloc)⟩
    rw [HG.out]
    simp_all
structure Pw (w : World) (r : Rec) (N : Nat) (A : Option Addr) (l : List UInt8) (w2 : World) : Prop where
  z : Blk w2 w.heap.size 34 (rcells r)
  i : IsW w2 N A l
  f : ∀ k, WF N A k → w.heap.size < k
  k : Kp nob w w2
theorem Pw.keep {w w2 w3 : World} {r : Rec} {N : Nat} {A : Option Addr} {l : List UInt8} (h : Pw w r N A l w2) (k : Kp nob w2 w3) : Pw w r N A l w3 := ⟨h.z.keep k (fun e => e), h.i.keep k (fun _ _ e => e), h.f, h.k.trans k (fun _ e => e.elim)⟩
theorem Pw.more {w w2 w3 : World} {r : Rec} {N : Nat} {A : Option Addr} {l l' : List UInt8} (h : Pw w r N A l w2) (p : WPost w2 N A l' w3) : ∃ A', Pw w r N A' l' w3 := by
  obtain ⟨A', h1, h2, h3⟩ := p
  refine ⟨A', h.z.keep h2 (fun e => Nat.lt_irrefl _ (h.f _ e)), h1, fun k e => ?_, h.k.since h2 (fun i e => Nat.le_of_lt (h.f i e))⟩
  rcases e with e | e
  · exact h.f k (.inl e)
  · exact h3.ge (N := w.heap.size + 1) (fun k e => h.f k (.inr e)) (by have := h.z.lt; omega) k e
theorem Pw.start {w w1 : World} {r : Rec} (hz : Blk w1 w.heap.size 34 (rcells r)) (k : Kp nob w w1) : Pw w r w1.heap.size none [] (w1.alloc (.cells #[.slice none 0 0] 71)) :=
  ⟨hz.alloc _, isW_new w1, fun j e => (by
    rcases e with rfl | e
    · exact hz.lt
    · cases e), k.alloc _⟩
theorem Pw.cells {w w2 : World} {r : Rec} {N : Nat} {A : Option Addr} {l : List UInt8} (h : Pw w r N A l w2) : w2.cell? ⟨w.heap.size, 0, none⟩ = some (.int .i64 r.kind) ∧ w2.cell? ⟨w.heap.size, 1, none⟩ = some (.int .i64 r.queue) ∧ w2.cell? ⟨w.heap.size, 2, none⟩ = some (.int .i64 r.id) ∧ w2.cell? ⟨w.heap.size, 3, none⟩ = some (.int .i64 r.num) ∧ w2.cell? ⟨w.heap.size, 4, none⟩ = some (.int .i64 r.wait) ∧ w2.cell? ⟨w.heap.size, 5, none⟩ = some (.string (str r.body)) :=
  ⟨h.z.cell 0, h.z.cell 1, h.z.cell 2, h.z.cell 3, h.z.cell 4, h.z.cell 5⟩
theorem Pw.byte {w w2 : World} {r : Rec} {N : Nat} {A : Option Addr} {l : List UInt8} (h : Pw w r N A l w2) (H : Nat) (hH : w2.heap.size = H) (v : Value) (b : UInt8) (hv : v = bv b) (t : TypeId) (hl : l.length ≤ 1048576) :
    Calls Tryz.prog 67 #[.pointer (some ⟨N, 0, none⟩), .slice (some ⟨H, 0, none⟩) 1 1] (w2.alloc (.cells #[v] t)) fun e w' => e = .returned (.tuple #[]) ∧ ∃ A', Pw w r N A' (l ++ [b]) w' := by
  subst hH hv
  have h2 := h.keep ((Kp.refl nob w2).alloc (.cells #[bv b] t))
  exact (wByte N A l (some ⟨w2.heap.size, 0, none⟩) 1 1 [b] _ h2.i (fun e => by cases e) rfl (row_one w2 (bv b) t) (by omega)).mono fun e w' ⟨he, p⟩ => ⟨he, h2.more p⟩
theorem Pw.num4 {w w2 : World} {r : Rec} {N : Nat} {A : Option Addr} {l : List UInt8} (h : Pw w r N A l w2) (H : Nat) (hH : w2.heap.size = H) (a b c d : Int) (t : TypeId) (hl : l.length ≤ 1048576) :
    Calls Tryz.prog 41 #[.pointer (some ⟨N, 0, none⟩), .slice (some ⟨H, 0, none⟩) 4 4] (w2.alloc (.cells #[.int .i64 a, .int .i64 b, .int .i64 c, .int .i64 d] t)) fun e w' => e = .returned (.tuple #[]) ∧ ∃ A', Pw w r N A' (l ++ [a, b, c, d].flatMap num8) w' := by
  subst hH
  have h2 := h.keep ((Kp.refl nob w2).alloc (.cells #[.int .i64 a, .int .i64 b, .int .i64 c, .int .i64 d] t))
  exact (wNum N A l (some ⟨w2.heap.size, 0, none⟩) 4 4 [a, b, c, d] _ h2.i rfl (row_new w2 (ivs [a, b, c, d]) t) h.i.apart (by omega) (by omega)).mono fun e w' ⟨he, p⟩ => ⟨he, h2.more p⟩
theorem Pw.text {w w2 : World} {r : Rec} {N : Nat} {A : Option Addr} {l : List UInt8} (h : Pw w r N A l w2) (H : Nat) (hH : w2.heap.size = H) (s : ByteArray) (t : TypeId) (hl : l.length ≤ 1048576) (hs : s.size ≤ 1048576) :
    Calls Tryz.prog 40 #[.pointer (some ⟨N, 0, none⟩), .slice (some ⟨H, 0, none⟩) 1 1] (w2.alloc (.cells #[.string s] t)) fun e w' => e = .returned (.tuple #[]) ∧ ∃ A', Pw w r N A' (l ++ textB s) w' := by
  subst hH
  have h2 := h.keep ((Kp.refl nob w2).alloc (.cells #[.string s] t))
  have ht := textB_le s
  exact (wText N A l (some ⟨w2.heap.size, 0, none⟩) 1 1 [s] _ h2.i rfl (row_one w2 (.string s) t) h.i.apart (by omega) (by simp; omega)).mono fun e w' ⟨he, p⟩ => ⟨he, by simpa using h2.more p⟩
set_option maxHeartbeats 1000000 in
set_option maxRecDepth 100000 in
theorem put_no (r : Rec) (w : World) (hl : r.body.length ≤ 9223372036854775807) (hg : good r = false) : Calls Tryz.prog 64 #[rv r] w fun e w' => e = .returned (.tuple #[.slice none 0 0, .int .i64 1]) ∧ Kp nob w w' := by
  have hgo := fun w' => cGood r w' hl
  rw [hg] at hgo
  have HG := Lib.hid hgo; clear hgo hg
  unfold rv at HG ⊢
  have HK0 := Lib.hid ((Kp.refl nob w).alloc (.cells #[.int .i64 r.kind, .int .i64 r.queue, .int .i64 r.id, .int .i64 r.num, .int .i64 r.wait, .string (str r.body)] 34))
  go_enter Tryz.func64, Tryz.ntmps64
  go_wp2_with fail
  refine (HG.out _).mono ?_
  rintro e w1 ⟨rfl, k1⟩
  go_wp2
  go_ret2
  exact ⟨rfl, HK0.out.trans k1 (fun _ e => e.elim)⟩
set_option maxHeartbeats 2000000 in
set_option maxRecDepth 100000 in
theorem put_yes (r : Rec) (w : World) (hg : good r = true) : Calls Tryz.prog 64 #[rv r] w fun e w' =>
    ∃ A c, e = .returned (.tuple #[.slice A (36 + r.body.length) c, .int .i64 0]) ∧ Kit.Own 5 w' A (36 + r.body.length) c (bvs (recB r)) ∧ Fresh w.heap.size A ∧ Kp nob w w' := by
  have hb := good_bounds r hg
  have hgo := fun w' => cGood r w' (by omega)
  rw [hg] at hgo
  have HG := Lib.hid hgo; clear hgo hg
  unfold rv at HG ⊢
  have HK0 := Lib.hid ((Kp.refl nob w).alloc (.cells #[.int .i64 r.kind, .int .i64 r.queue, .int .i64 r.id, .int .i64 r.num, .int .i64 r.wait, .string (str r.body)] 34))
  have HB0 := Lib.hid (Blk.new w 34 (rcells r))
  have hk8 : Value.int .u8 (r.kind % 256) = bv (UInt8.ofNat r.kind.toNat) := by rw [bv_ofNat]; congr 1; omega
  have HK8 := Lib.hid hk8
  have HB := Lib.hid hb
  clear hb hk8
  go_enter Tryz.func64, Tryz.ntmps64
  go_wp2_with fail
  refine (HG.out _).mono ?_
  rintro e w1 ⟨rfl, k1⟩
  have P0 := Lib.hid (Pw.start (HB0.out.keep k1 (fun e => e)) (HK0.out.trans k1 (fun _ e => e.elim)))
  obtain ⟨c0, c1, c2, c3, c4, c5⟩ := P0.out.cells
  clear HB0 HK0 k1 c1 c2 c3 c4 c5
  go_wp2_with fail
  refine (P0.out.byte _ (by simp) _ _ HK8.out _ (by simp)).mono ?_
  rintro e w2 ⟨rfl, A1, P1⟩
  have P1 := Lib.hid P1
  obtain ⟨d0, c1, c2, c3, c4, d5⟩ := P1.out.cells
  clear c0 P0 d0 d5
  go_wp2_with fail
  refine (P1.out.num4 _ rfl _ _ _ _ _ (by simp)).mono ?_
  rintro e w3 ⟨rfl, A2, P2⟩
  have P2 := Lib.hid P2
  obtain ⟨d0, d1, d2, d3, d4, c5⟩ := P2.out.cells
  clear c1 c2 c3 c4 P1 d0 d1 d2 d3 d4
  go_wp2_with fail
  refine (P2.out.text _ rfl _ _ (by simp) (by have := HB.out; simp; omega)).mono ?_
  rintro e w4 ⟨rfl, A3, P3⟩
  have P3 := Lib.hid P3
  clear c5 P2
  have he : ([] : List UInt8) ++ [UInt8.ofNat r.kind.toNat] ++ [r.queue, r.id, r.num, r.wait].flatMap num8 ++ textB (str r.body) = recB r := by unfold recB; simp
  rw [he] at P3
  have hl := recB_length r (by have := HB.out; omega)
  have HL := Lib.hid hl; clear hl he
  go_wp2_with fail
  refine (wBytes w1.heap.size A3 _ _ P3.out.i (by have := HB.out; have := HL.out; omega)).mono ?_
  rintro e w5 ⟨A4, c5, rfl, ho, k5, hf, hn⟩
  go_wp2
  go_ret2
  rw [HL.out] at ho ⊢
  exact ⟨A4, c5, rfl, ho, fun k e => Nat.le_trans P3.out.k.size (hf k e), P3.out.k.trans k5 (fun _ e => e.elim)⟩
set_option maxHeartbeats 1000000 in
set_option maxRecDepth 100000 in
theorem size_any (A : Option Addr) (m d : Nat) (rs : List Rec) (w : World) (hm : rs.length = m) (hp : Rrow w A rs) (hT : total rs ≤ 1099511627776) (hd : m ≤ maxLen) :
    Calls Tryz.prog 36 #[.slice A m d] w fun e w' => e = .returned (.int .i64 (total rs : Nat)) ∧ Kp nob w w' := by
  unfold maxLen at hd
  go_enter Tryz.func36, Tryz.ntmps36
  go_wp2
  go_loopw [3, 8] (fun t i wr => ∃ k : Nat, k ≤ m ∧ i = .int .i64 k ∧ t = .int .i64 (total (rs.take k) : Nat) ∧ Kp nob w wr)
    (fun _ i _ => m - (intOf i).toNat)
  case atStart => exact ⟨0, Nat.zero_le _, rfl, rfl, Kp.refl _ _⟩
  case round =>
    obtain ⟨k, hk, rfl, rfl, kr⟩ := hrel
    by_cases hlt : k < m
    · obtain ⟨bb, oo, rfl, hbb, hc0, hc1, hc2, hc3, hc4, hc5⟩ := (hp.keep0 kr).at_ (i := k) (by omega)
      have hsn := total_snoc rs k (by omega)
      have htk := total_take rs (k + 1)
      obtain ⟨p, hpe⟩ : ∃ p, p = rs[k]'(by omega) := ⟨_, rfl⟩
      rw [← hpe] at hc0 hc1 hc2 hc3 hc4 hc5 hsn
      obtain ⟨T, hTe⟩ : ∃ T, T = total (rs.take k) := ⟨_, rfl⟩
      rw [← hTe] at hsn ⊢
      have hb1 : (T : Int) + (36 + (p.body.length : Int)) ≤ 9223372036854775807 := by omega
      have H1 := Lib.hid hpe; have H2 := Lib.hid hTe; have H3 := Lib.hid hsn; have H4 := Lib.hid htk; have H5 := Lib.hid hT
      clear hpe hTe hsn htk
      go_wp2
      go_roundw
      case rel => exact ⟨k + 1, by omega, by go_num, by rw [H3.out]; go_num, kr.alloc _⟩
      case measure => simp [intOf]; omega
    · obtain rfl : k = m := by omega
      rw [List.take_of_length_le (by omega)]
      go_wp2
      go_ret
      exact ⟨rfl, kr⟩
end Go.Proofs.YtiimfhacnfdmhaaGreat.Rec
