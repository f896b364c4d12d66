/- Lemmas: ResR MerA MerB SegY SegKb. -/
import Derived.Test.YtigdlnfgdjfdoaaGreatZK14
import Derived.Test.YtigdlnfgdjfdoaaGreatZK20
import Derived.Lib.Strings
import Derived.Lib.Slices
import Derived.Lib.Small
import Derived.Lib.Walk
import Derived.Lib.BitFns
set_option maxHeartbeats 4000000
set_option maxRecDepth 100000
set_option linter.unusedVariables false
set_option linter.unusedSimpArgs false
namespace Go.Proofs.YtigdlnfgdjfdoaaGreat
namespace Kit
open Go Go.RowKit
theorem results_rec {P : Program} {fn : Func} {p u : Tmp} {ty : TypeId} (h : fn.results = #[.cell p ty, .tmp u]) (tmps : Array Value) (w : World) (g : Nat) (t : TypeId) (cs : List Value) (d : TypeDesc)
    (hp : tmps.getD p undef = .pointer (some ⟨g, 0, none⟩)) (hg : Blk w g t cs) (hu : P.underlying ty = some d) (hd : d.isRow = true) (hi : (P.info? ty).map (·.size) = some cs.length) (v : Value) (hv : tmps.getD u undef = v) :
    (results fn tmps).run P w = .ok (.tuple #[.agg cs.toArray, v]) w := by
 rw [results_cell_tmp h, hp, hv]
 simp [asAddr, run_loadVar_mid w g 0 ty cs d hg.range hu hd hi, Result.andThen]
theorem Kp.new3 (w : World) (a b c d : Obj) : Kp Kit.nob w ((((w.alloc a).alloc b).alloc c).alloc d) := ((((Kp.refl _ _).alloc _).alloc _).alloc _).alloc _
theorem Blk.new3 (w : World) (t : TypeId) (cs : List Value) (a b c : Obj) : Blk ((((w.alloc (.cells cs.toArray t)).alloc a).alloc b).alloc c) w.heap.size t cs := (((Blk.new w t cs).alloc a).alloc b).alloc c
end Kit
namespace Merkle
open Go Go.RowKit Kit
open Ideal (half half_pow)
theorem bitLen_bounds (k : Nat) : ∀ x : Nat, x ≠ 0 → x < 2 ^ k → k ≤ 64 → ∃ e, Lib.bitLen x = e + 1 ∧ e < k ∧ 2 ^ e ≤ x ∧ x < 2 * 2 ^ e := by
 induction k with
 | zero => intro x h0 h; omega
 | succ k ih =>
   intro x h0 h hk
   have h64 : x < 2 ^ 64 := Nat.lt_of_lt_of_le h (Nat.pow_le_pow_right (by decide) hk)
   rw [Lib.bitLen_half x h0 h64]
   by_cases h1 : x / 2 = 0
   · rw [h1]
     exact ⟨0, by rfl, by omega, by omega, by omega⟩
   · obtain ⟨e, e1, e2, e3, e4⟩ := ih (x / 2) h1 (by rw [Nat.pow_succ] at h; omega) (by omega)
     exact ⟨e + 1, by rw [e1]; omega, by omega, by rw [Nat.pow_succ]; omega, by rw [Nat.pow_succ]; omega⟩
theorem len64_any (x : Int) (w : World) (h0 : 0 ≤ x) (h1 : x ≤ 65535) :
    Calls Tryz.prog 131 #[.int .u64 x] w fun e w' => e = .returned (.int .i64 (Lib.bitLen x.toNat)) ∧ w' = w := by
 have g1 : x < 4294967296 := by omega
 have g2 : x < 65536 := by omega
 have H := Lib.hid (And.intro h0 h1)
 have q : ∀ w, (Instr.index 9 (.string Lib.len8tab) (.int .u8 (x / 256))).run Tryz.prog w = .ok (.int .u8 (Lib.len8 (x / 256))) w := fun w => Lib.run_index_len8tab w _ .u8 (x / 256) (by kernel_rfl) (by omega) (by omega)
 clear h0 h1
 go_enter Tryz.func131, Tryz.ntmps131
 go_wp2
 all_goals try (exfalso; omega)
 all_goals (go_ret; refine ⟨congrArg Ending.returned (congrArg (Value.int IntKind.i64) ?_), rfl⟩; have h0 := H.out.1; have h1 := H.out.2)
 all_goals first
  | (rw [Lib.len8_of (x / 256) (by omega) (by omega)]
     have e : (x / 256).toNat = x.toNat / 256 := by omega
     have l := Lib.bitLen_le8' (x / 256) (by omega) (by omega)
     have s := Lib.bitLen_shift8 x.toNat (by omega) (by omega)
     rw [e] at l ⊢
     unfold wrap64
     omega)
  | (rw [Lib.len8_of (x % 256) (by omega) (by omega)]
     have e : (x % 256).toNat = x.toNat := by omega
     have l := Lib.bitLen_le8' (x % 256) (by omega) (by omega)
     rw [e] at l ⊢
     unfold wrap64
     omega)
theorem len_any (x : Int) (w : World) (h0 : 0 ≤ x) (h1 : x ≤ 65535) :
    Calls Tryz.prog 128 #[.int .u64 x] w fun e w' => e = .returned (.int .i64 (Lib.bitLen x.toNat)) ∧ w' = w := by
 go_enter Tryz.func128, Tryz.ntmps128
 go_wp2_with (go_at_call 131; refine (len64_any x _ h0 h1).mono ?_; rintro e w' ⟨rfl, rfl⟩)
 go_ret
 exact ⟨rfl, rfl⟩
theorem firstHalf_any (n : Nat) (w : World) (h2 : 2 ≤ n) (hn : n ≤ 65536) :
    Calls Tryz.prog 122 #[.int .i64 n] w fun e w' => e = .returned (.int .i64 (half n : Nat)) ∧ w' = w := by
 obtain ⟨e, e1, e2, e3, e4⟩ := bitLen_bounds 16 (n - 1) (by omega) (by omega) (by decide)
 have hp := half_pow n e (by omega) (by omega)
 have h16 : e = 0 ∨ e = 1 ∨ e = 2 ∨ e = 3 ∨ e = 4 ∨ e = 5 ∨ e = 6 ∨ e = 7 ∨ e = 8 ∨ e = 9 ∨ e = 10 ∨ e = 11 ∨ e = 12 ∨ e = 13 ∨ e = 14 ∨ e = 15 := by omega
 have HP := Lib.hid hp
 have HL : Hid (∀ w, Calls Tryz.prog 128 #[.int .u64 ((n : Int) - 1)] w fun r w' => r = .returned (.int .i64 ((e : Int) + 1)) ∧ w' = w) := Lib.hid (fun w => by
  have := len_any ((n : Int) - 1) w (by omega) (by omega)
  rw [show ((n : Int) - 1).toNat = n - 1 by omega, e1] at this
  exact this)
 clear hp e1 e2 e3 e4
 go_enter Tryz.func122, Tryz.ntmps122
 go_wp2_with (first
  | (go_at_call 128; refine (HL.out _).mono ?_; rintro r w' ⟨rfl, rfl⟩)
  | fail)
 rw [HP.out]
 rcases h16 with rfl | rfl | rfl | rfl | rfl | rfl | rfl | rfl | rfl | rfl | rfl | rfl | rfl | rfl | rfl | rfl <;> (go_wp2; go_ret; exact ⟨by first | rfl | kernel_rfl, rfl⟩)
end Merkle
namespace Merkle
open Go Go.RowKit Kit
open Ideal (Iw Iq Ans Arg Args Thing mk out sealT opn derT hashT Ts half half_pow half_pos half_lt leafT pairT rootT rootT_none rootT_one rootT_more zc zc_run zc_length zc_eq args_two)
open Sha (Pc PcsOk catP)
open Vault
theorem one_arg (w : World) (F : Nat → Prop) (b : UInt8) (t : TypeId) (hF : ∀ k, F k → k < w.heap.size) : Arg (w.alloc (.cells #[.int .u8 (b.toNat : Nat)] t)) F (some ⟨w.heap.size, 0, none⟩) 1 1 [b] :=
 ⟨rfl, row_new w [.int .u8 (b.toNat : Nat)] t, .inr (fun k e hk => by cases e; exact Nat.lt_irrefl _ (hF _ hk)), Nat.le_refl _, by simp [maxLen], fun e => by cases e⟩
theorem leaf_v (c : Vc) (x : Vt) (T : Option Addr) (n d : Nat) (b : List UInt8) (w : World) (h : Vx w c x) (ht : Arg w x.P T n d b) (hf : x.o.few 100000) (lb : b.length ≤ 1048000) (hlong : x.o.long) :
    Calls Tryz.prog 106 #[.pointer (some ⟨c.v, 0, none⟩), .slice T n d] w fun e w' => ∃ F2 P2, e = .returned (.agg (bvs (x.o.val (leafT b) 32)).toArray) ∧ Vq w c x w' ⟨F2, P2, x.o.nx (leafT b), x.sl, x.cl⟩ := by
 have hz := zc_run
 have k0 : Kp nob w ((w.alloc (.cells zc.toArray 47)).alloc (.cells #[.int .u8 49] 5)) := ((Kp.refl nob w).alloc _).alloc _
 have a1 : Arg ((w.alloc (.cells zc.toArray 47)).alloc (.cells #[.int .u8 49] 5)) x.P (some ⟨w.heap.size + 1, 0, none⟩) 1 1 [49] := by
  have := one_arg (w.alloc (.cells zc.toArray 47)) x.P 49 5 (fun k e => by have := h.lt k e; simp; omega)
  simpa using this
 have HA : Hid (Args (((w.alloc (.cells zc.toArray 47)).alloc (.cells #[.int .u8 49] 5)).alloc (.cells #[.slice (some ⟨w.heap.size + 1, 0, none⟩) 1 1, .slice T n d] 58)) x.P (some ⟨w.heap.size + 1 + 1, 0, none⟩) 2 [⟨some ⟨w.heap.size + 1, 0, none⟩, 1, 1, [49]⟩, ⟨T, n, d, b⟩]) := Lib.hid (by
  have := args_two (t := 58) a1 (ht.keep0 k0) (fun k e => by have := h.lt k e; simp; omega)
  simpa using this)
 have HK := Lib.hid (k0.alloc (.cells #[.slice (some ⟨w.heap.size + 1, 0, none⟩) 1 1, .slice T n d] 58))
 have HB := Lib.hid ((((Blk.new w 47 zc).alloc (.cells #[.int .u8 49] 5)).alloc (.cells #[.slice (some ⟨w.heap.size + 1, 0, none⟩) 1 1, .slice T n d] 58)))
 have HH := Lib.hid (hash_v c x _ 2 2 _ _ (h.keep0 HK.out) HA.out hf (by simp [catP]; omega))
 have HCP : Hid (catP [⟨some ⟨w.heap.size + 1, 0, none⟩, 1, 1, [49]⟩, ⟨T, n, d, b⟩] = 49 :: b) := Lib.hid (by simp [catP])
 rw [HCP.out, show hashT (49 :: b) = leafT b from rfl] at HH
 have HL := Lib.hid (hlong.len (leafT b) (.inl rfl))
 have HX := Lib.hid h
 clear h ht hf lb hlong k0 a1
 obtain ⟨D, hD⟩ : ∃ D, D = x.o.val (leafT b) 32 := ⟨_, rfl⟩
 rw [← hD] at HH HL ⊢
 clear hD HCP HA
 go_enter Tryz.func106, Tryz.ntmps106
 go_wp2_with fail
 refine HH.out.mono ?_
 rintro e w2 ⟨F2, P2, rfl, q⟩
 have HN := Lib.hid (q.new HX.out (i := w.heap.size) (Nat.le_refl _) (by simp <;> omega))
 have HB2 := Lib.hid (HB.out.keep q.kp (fun e => by have := HX.out.lt _ e; omega))
 have HQ := Lib.hid (q.back HK.out)
 clear q
 go_wp2_with (first
  | (refine wpList_store_blk rfl 47 (.tmp 4) (.tmp 9) rfl _ _ _ (bvs D) HB2.out rfl rfl (by rw [bvs_length, HL.out, zc_length]) (by rw [bvs_length, HL.out]; kernel_rfl) (bvs_one _) ?_; intro w3 hB3 k3 z3)
  | fail)
 exact bodyPost_ret (results_cell_row rfl _ _ w.heap.size _ _ _ _ rfl hB3 rarr_under rfl (by rw [List.size_toArray]; exact rarr_size D HL.out)) rfl
  ⟨F2, P2, rfl, HQ.out.over k3 (fun i _ e => by have e : i = w.heap.size := e; subst e; exact ⟨Nat.le_refl _, HN.out⟩) HX.out.sz⟩
theorem arr_all (g o : Nat) (w : World) : (Instr.sliceAt 47 (.pointer (some ⟨g, o, none⟩)) none none none).run Tryz.prog w = .ok (.slice (some ⟨g, o, none⟩) 32 32) w := by
 have ha : Tryz.prog.underlying 47 = some (.array (Tryz.prog.arrayLen 47) (Tryz.prog.elem 47)) := by kernel_rfl
 have hl : Tryz.prog.arrayLen 47 = 32 := by kernel_rfl
 have he : Tryz.prog.elem 47 = 5 := by kernel_rfl
 have hz : (sizeOf 5).run Tryz.prog w = .ok 1 w := by kernel_rfl
 rw [run_sliceAt_array_all w _ _ ha, hl, he, hz]
 simp [Result.andThen, slicedAt, Addr.add]
theorem blk_arg {w : World} {F : Nat → Prop} {g : Nat} {t : TypeId} {l : List UInt8} {n : Nat} (h : Blk w g t (bvs l)) (hn : l.length = n) (hm : n ≤ maxLen) (hF : ¬ F g) : Arg w F (some ⟨g, 0, none⟩) n n l :=
 ⟨hn, .inr ⟨g, 0, rfl, h.lt, fun i v hv => by rw [Nat.zero_add, h.cell]; exact hv⟩, .inr (fun k e hk => by cases e; exact hF hk), Nat.le_refl _, hm, fun e => by cases e⟩
theorem two_v (c : Vc) (x : Vt) (a b : List UInt8) (w : World) (la : a.length = 32) (lb : b.length = 32) (h : Vx w c x) (hf : x.o.few 100000) (hlong : x.o.long) :
    Calls Tryz.prog 123 #[.pointer (some ⟨c.v, 0, none⟩), .agg (bvs a).toArray, .agg (bvs b).toArray] w fun e w' => ∃ F2 P2, e = .returned (.agg (bvs (x.o.val (pairT a b) 32)).toArray) ∧ Vq w c x w' ⟨F2, P2, x.o.nx (pairT a b), x.sl, x.cl⟩ := by
 have hz := zc_run
 have HA := Lib.hid (show Blk (((w.alloc (.cells (bvs a).toArray 47)).alloc (.cells (bvs b).toArray 47)).alloc (.cells zc.toArray 47)).drew w.heap.size 47 (bvs a) from (((Blk.new w _ _).alloc _).alloc _).keep (Kp.refl nob _).drew (fun e => e))
 have HB := Lib.hid (show Blk (((w.alloc (.cells (bvs a).toArray 47)).alloc (.cells (bvs b).toArray 47)).alloc (.cells zc.toArray 47)).drew (w.heap.size + 1) 47 (bvs b) from ((show Blk _ (w.heap.size + 1) _ _ from Blk.new' (by simp) rfl).alloc _).keep (Kp.refl nob _).drew (fun e => e))
 have HZ := Lib.hid (show Blk (((w.alloc (.cells (bvs a).toArray 47)).alloc (.cells (bvs b).toArray 47)).alloc (.cells zc.toArray 47)).drew (w.heap.size + 2) 47 zc from (show Blk _ (w.heap.size + 2) _ _ from Blk.new' (by simp) rfl).keep (Kp.refl nob _).drew (fun e => e))
 have HK := Lib.hid (show Kp nob w (((w.alloc (.cells (bvs a).toArray 47)).alloc (.cells (bvs b).toArray 47)).alloc (.cells zc.toArray 47)).drew from ((((Kp.refl nob w).alloc _).alloc _).alloc _).drew)
 have HL := Lib.hid (And.intro la lb)
 have HX := Lib.hid h; have HF := Lib.hid hf; have HLG := Lib.hid hlong
 have HLL := Lib.hid (hlong.len (pairT a b) (.inl rfl))
 obtain ⟨D, hD⟩ : ∃ D, D = x.o.val (pairT a b) 32 := ⟨_, rfl⟩
 rw [← hD] at HLL ⊢
 have HD := Lib.hid hD
 clear h hf hlong la lb hD
 go_enter Tryz.func123, Tryz.ntmps123
 go_wp2
 obtain ⟨wb, hw1⟩ : ∃ wb, wb = (((w.alloc (.cells (bvs a).toArray 47)).alloc (.cells (bvs b).toArray 47)).alloc (.cells zc.toArray 47)) := ⟨_, rfl⟩
 have hsz : wb.drew.heap.size = w.heap.size + 3 := by rw [hw1]; rw [show ∀ w : World, w.drew.heap.size = w.heap.size from fun _ => rfl]; simp
 have hsz2 : wb.heap.size = w.heap.size + 3 := hsz
 rw [← hw1] at HA HB HZ HK ⊢
 clear hw1
 refine reg_begin (fun _ => True) (by kernel_rfl) trivial (fun _ => ?_)
 refine reg_tk (v := .pointer (some ⟨c.v, 0, none⟩)) 0 7 rfl rfl (by kernel_rfl) (by rfl) trivial (fun w _ => by go_simp) ?_; simp only [Act.put, zp1, zp2, zp3]
 refine reg_tk (v := .slice (some ⟨w.heap.size, 0, none⟩) 32 32) 2 9 rfl rfl (by kernel_rfl) (by rfl) trivial (fun w2 _ => by have hc := arr_all w.heap.size 0 w2; go_simp) ?_; simp only [Act.put, zp1, zp2, zp3]
 refine reg_tk (v := .slice (some ⟨w.heap.size + 1, 0, none⟩) 32 32) 3 10 rfl rfl (by kernel_rfl) (by rfl) trivial (fun w2 _ => by have hc := arr_all (w.heap.size + 1) 0 w2; go_simp) ?_; simp only [Act.put, zp1, zp2, zp3]
 refine reg_step (w' := wb.drew.alloc (.cells #[.int .u8 50] 5)) (v := .slice (some ⟨wb.drew.heap.size, 0, none⟩) 1 1) 1 (some 8) rfl rfl (by kernel_rfl) (by rfl) (by first | kernel_rfl | (go_simp; rfl)) trivial (fun _ => ?_)
 simp only [Act.put, zp1, zp2, zp3]
 have k1 := (Kp.refl nob wb.drew).alloc (.cells #[.int .u8 50] 5)
 have hPs : ∀ k, x.P k → k < w.heap.size := HX.out.lt
 have a1 : Arg (wb.drew.alloc (.cells #[.int .u8 50] 5)) x.P (some ⟨wb.drew.heap.size, 0, none⟩) 1 1 [50] := one_arg wb.drew x.P 50 5 (fun k e => by have := hPs k e; omega)
 have a2 : Arg (wb.drew.alloc (.cells #[.int .u8 50] 5)) x.P (some ⟨w.heap.size, 0, none⟩) 32 32 a := (blk_arg HA.out HL.out.1 (by simp [maxLen]) (fun e => by have := hPs _ e; omega)).keep0 k1
 have a3 : Arg (wb.drew.alloc (.cells #[.int .u8 50] 5)) x.P (some ⟨w.heap.size + 1, 0, none⟩) 32 32 b := (blk_arg HB.out HL.out.2 (by simp [maxLen]) (fun e => by have := hPs _ e; omega)).keep0 k1
 have HAR := Lib.hid (Ideal.args_three (t := 58) a1 a2 a3 (fun k e => by have := hPs k e; simp; omega))
 obtain ⟨w1, hw1⟩ : ∃ w1, w1 = wb.drew.alloc (.cells #[.int .u8 50] 5) := ⟨_, rfl⟩
 have hs1 : w1.heap.size = w.heap.size + 4 := by rw [hw1]; simp; omega
 rw [← hw1] at k1 HAR ⊢
 clear a1 a2 a3 hw1
 refine reg_step (w' := w1.alloc (.cells #[.slice (some ⟨wb.drew.heap.size, 0, none⟩) 1 1, .slice (some ⟨w.heap.size, 0, none⟩) 32 32, .slice (some ⟨w.heap.size + 1, 0, none⟩) 32 32] 58)) (v := .slice (some ⟨w1.heap.size, 0, none⟩) 3 3) 4 (some 11) rfl rfl (by kernel_rfl) (by rfl) (by first | kernel_rfl | (go_simp; rfl)) trivial (fun _ => ?_)
 simp only [Act.put, zp1, zp2, zp3]
 have k2 := k1.alloc (.cells #[.slice (some ⟨wb.drew.heap.size, 0, none⟩) 1 1, .slice (some ⟨w.heap.size, 0, none⟩) 32 32, .slice (some ⟨w.heap.size + 1, 0, none⟩) 32 32] 58)
 have kb := HK.out.trans k2 (fun _ e => e.elim)
 have HH := Lib.hid (hash_v c x _ 3 3 _ _ (HX.out.keep0 kb) HAR.out HF.out (by simp [catP, HL.out.1, HL.out.2]))
 rw [show catP [⟨some ⟨wb.drew.heap.size, 0, none⟩, 1, 1, [50]⟩, ⟨some ⟨w.heap.size, 0, none⟩, 32, 32, a⟩, ⟨some ⟨w.heap.size + 1, 0, none⟩, 32, 32, b⟩] = 50 :: (a ++ b) by simp [catP], show hashT (50 :: (a ++ b)) = pairT a b from rfl] at HH
 rw [← HD.out] at HH
 have HZ2 := Lib.hid (HZ.out.keep k2 (fun e => e))
 have HKB := Lib.hid kb
 clear k1 k2 kb HAR HA HB HZ HK
 obtain ⟨wc9, hwc⟩ : ∃ wc9, wc9 = w1.alloc (.cells #[.slice (some ⟨wb.drew.heap.size, 0, none⟩) 1 1, .slice (some ⟨w.heap.size, 0, none⟩) 32 32, .slice (some ⟨w.heap.size + 1, 0, none⟩) 32 32] 58) := ⟨_, rfl⟩
 have hsc : wc9.heap.size = w.heap.size + 5 := by rw [hwc]; simp; omega
 rw [← hwc] at HH HZ2 HKB ⊢
 refine reg_call 5 (some 12) rfl rfl (by kernel_rfl) (by rfl) _ _ (exec_func 70 _ _ [.pointer (some ⟨c.v, 0, none⟩), .slice (some ⟨w1.heap.size, 0, none⟩) 3 3] rfl (by kernel_rfl) rfl) ?_
 refine HH.out.mono ?_
 rintro e w2 ⟨F2, P2, rfl, q⟩
 have hN : ¬ P2 (w.heap.size + 2) := fun e => (q.P _ e).elim (fun e => by have := hPs _ e; omega) (fun e => by omega)
 have hZ3 := HZ2.out.keep q.kp (fun e => by have := hPs _ e; omega)
 have HQ := Lib.hid (q.back HKB.out)
 have HN := Lib.hid hN; have HZ3 := Lib.hid hZ3
 clear q hN hZ3 HH
 refine ⟨_, rfl, trivial, fun _ => ?_⟩
 simp only [Act.put, zp1, zp2, zp3]
 refine reg_store 6 none 47 (.tmp 6) (.tmp 12) rfl rfl rfl (by kernel_rfl) (by rfl) (w.heap.size + 2) 47 zc (bvs D) HZ3.out rfl rfl (by rw [bvs_length, HLL.out, zc_length]) (by rw [bvs_length, HLL.out]; kernel_rfl) (bvs_one _) ?_
 intro w3 hB3 k3 z3
 refine ⟨trivial, fun _ => ?_⟩
 simp only [Act.put, zp1, zp2, zp3]
 refine reg_end (by kernel_rfl) ?_
 have HB3 := Lib.hid hB3
 have HR : Hid (Vq w c x w3 ⟨F2, P2, x.o.nx (pairT a b), x.sl, x.cl⟩) := Lib.hid (HQ.out.over k3 (fun i _ e => by have e : i = w.heap.size + 2 := e; subst e; exact ⟨by omega, HN.out⟩) HX.out.sz)
 clear hB3 k3 z3
 go_wp2
 exact bodyPost_ret (results_cell_row rfl _ _ (w.heap.size + 2) _ _ _ _ rfl HB3.out rarr_under rfl (by rw [List.size_toArray]; exact rarr_size D HLL.out)) rfl ⟨F2, P2, rfl, HR.out⟩
end Merkle
namespace Seg
open Go Go.RowKit Kit
open Rec (Rec good ftot recB)
open Ideal (Ts Thing Ans Arg Args sealT derT hashT leafT rootT zc zc_run zc_length zc_eq args_two)
open Sha (Pc PcsOk catP)
open Vault
open Merkle (blk_arg arr_all)
theorem key_c (c : Vc) (x : Vt) (q : Int) (w : World) (h : Vx w c x) (hf : x.o.few 100000) (hlong : x.o.long) :
    Calls Tryz.prog 109 #[.pointer (some ⟨c.v, 0, none⟩), .int .i64 q] w fun e w' => ∃ F2 P2, e = .returned (.agg (bvs (x.o.val (keyT c.ms q) 32)).toArray) ∧ Vq w c x w' ⟨F2, P2, x.o.nx (keyT c.ms q), x.sl, x.cl⟩ := by
 have hz := zrk_run
 have k0 : Kp nob w (w.alloc (.cells zr.toArray 77)) := (Kp.refl nob w).alloc _
 have k1 : Kp nob w ((w.alloc (.cells zr.toArray 77)).alloc (.cells #[.int .i64 q] 3)) := k0.alloc _
 have HB := Lib.hid ((Blk.new w 77 zr).alloc (.cells #[.int .i64 q] 3))
 have HH := Lib.hid (key_v c x qn (some ⟨w.heap.size + 1, 0, none⟩) 1 1 [q] _ (h.keep0 k1) rfl (by
  have := row_new (w.alloc (.cells zr.toArray 77)) (ivs [q]) 3
  simpa [ivs] using this) (fun k e => by cases e; simp) hf (by unfold qn; decide) (by omega))
 rw [show derT c.ms (pur qn [q]) = keyT c.ms q from rfl] at HH
 have HL := Lib.hid (hlong.len (keyT c.ms q) (.inr (.inr rfl)))
 have HX := Lib.hid h
 have HK := Lib.hid k1
 clear h hf hlong k0 k1
 obtain ⟨D, hD⟩ : ∃ D, D = x.o.val (keyT c.ms q) 32 := ⟨_, rfl⟩
 rw [← hD] at HH HL ⊢
 clear hD
 go_enter Tryz.func109, Tryz.ntmps109
 go_wp2_with fail
 refine HH.out.mono ?_
 rintro e w2 ⟨F2, P2, rfl, q2⟩
 have HN := Lib.hid (q2.new HX.out (i := w.heap.size) (Nat.le_refl _) (by simp <;> omega))
 have HB2 := Lib.hid (HB.out.keep q2.kp (fun e => by have := HX.out.lt _ e; omega))
 have HQ := Lib.hid (q2.back HK.out)
 clear q2
 go_wp2_with (first
  | (refine wpList_store_blk rfl 77 (.tmp 4) (.tmp 8) rfl _ _ _ (bvs D) HB2.out rfl rfl (by rw [bvs_length, HL.out, zr_length]) (rkey_size D HL.out) (bvs_one _) ?_; intro w3 hB3 k3 z3)
  | fail)
 exact bodyPost_ret (results_cell_row rfl _ _ w.heap.size _ _ _ _ rfl hB3 rkey_under rfl (by rw [List.size_toArray]; exact rkey_size D HL.out)) rfl
  ⟨F2, P2, rfl, HQ.out.over k3 (fun i _ e => by have e : i = w.heap.size := e; subst e; exact ⟨Nat.le_refl _, HN.out⟩) HX.out.sz⟩
theorem besides_c (at' : List UInt8) (i n : Nat) (w : World) (h32 : at'.length = 32) :
    Calls Tryz.prog 110 #[.agg (bvs at').toArray, .int .i64 i, .int .i64 n] w (NewBytes w (besT at' i n)) := by
 have HB := Lib.hid ((Blk.new w 47 (bvs at')).alloc (.cells #[.slice none 0 0] 137))
 have hw := isW_new (w.alloc (.cells (bvs at').toArray 47))
 rw [show (w.alloc (.cells (bvs at').toArray 47)).heap.size = w.heap.size + 1 by simp] at hw
 have HW := Lib.hid hw
 clear hw
 have HK := Lib.hid (((Kp.refl nob w).alloc (.cells (bvs at').toArray 47)).alloc (.cells #[.slice none 0 0] 137))
 have ha := arr_all w.heap.size 0
 have HL := Lib.hid h32
 clear h32
 go_enter Tryz.func110, Tryz.ntmps110
 go_wp2_with fail
 refine (wByte (w.heap.size + 1) none [] (some ⟨w.heap.size, 0, none⟩) 32 32 at' _ HW.out (fun e => by cases e) HL.out (.inr ⟨w.heap.size, 0, rfl, HB.out.lt, fun i v hv => by rw [Nat.zero_add, HB.out.cell]; exact hv⟩) (by simp)).mono ?_
 rintro e w2 ⟨rfl, A2, h1, k2, g2⟩
 have H1 := Lib.hid h1
 have HK2 : Hid (Kp nob w w2) := Lib.hid (HK.out.since k2 (fun i e => by
  rcases e with rfl | e
  · omega
  · cases e))
 have HG2 : Hid (∀ k, ab A2 = some k → w.heap.size ≤ k) := Lib.hid (fun k e => by
  rcases g2 with h | ⟨j, h, hj⟩
  · rw [h] at e; cases e
  · rw [h] at e; cases e; simp at hj; omega)
 clear h1 k2 g2
 have e1 : ([] : List UInt8) ++ at' = at' := rfl
 rw [e1] at H1
 clear e1
 go_wp2_with fail
 refine (wNum (w.heap.size + 1) A2 at' (some ⟨w2.heap.size, 0, none⟩) 2 2 [(i : Int), (n : Int)] _ (H1.out.alloc _) rfl (row_new w2 (ivs [(i : Int), (n : Int)]) _) H1.out.apart (by omega) (by rw [HL.out]; decide)).mono ?_
 rintro e w3 ⟨rfl, A3, h1, k3, g3⟩
 have e2 : at' ++ [(i : Int), (n : Int)].flatMap num8 = besT at' i n := by simp [besT]
 rw [e2] at h1
 have HLB : Hid ((besT at' i n).length = 48) := Lib.hid (by unfold besT; simp [HL.out])
 have H3 := Lib.hid h1
 have HK3 : Hid (Kp nob w w3) := Lib.hid ((HK2.out.alloc _).since k3 (fun i e => by
  rcases e with rfl | e
  · omega
  · exact HG2.out i e))
 clear h1 g3 k3 e2
 go_wp2_with fail
 refine (wBytes (w.heap.size + 1) A3 (besT at' i n) _ H3.out (by rw [HLB.out]; decide)).mono ?_
 rintro e w4 ⟨A', c', rfl, h5, h6, h7, h8⟩
 go_wp2
 go_ret
 exact ⟨A', c', rfl, h5, HK3.out.trans h6 (fun _ e => e.elim), fun k e => Nat.le_trans HK3.out.size (h7 k e), h8⟩
theorem behind_c (c : Vc) (x : Vt) (at' : List UInt8) (T : Option Addr) (n d : Nat) (b : List UInt8) (w : World) (h : Vx w c x) (h32 : at'.length = 32) (ht : Arg w x.P T n d b) (hf : x.o.few 100000) (lb : b.length ≤ 1048000) (hlong : x.o.long) :
    Calls Tryz.prog 90 #[.pointer (some ⟨c.v, 0, none⟩), .agg (bvs at').toArray, .slice T n d] w fun e w' => ∃ F2 P2, e = .returned (.agg (bvs (x.o.val (hashT (at' ++ b)) 32)).toArray) ∧ Vq w c x w' ⟨F2, P2, x.o.nx (hashT (at' ++ b)), x.sl, x.cl⟩ := by
 have hz := zc_run
 have k0 : Kp nob w ((w.alloc (.cells (bvs at').toArray 47)).alloc (.cells zc.toArray 47)) := ((Kp.refl nob w).alloc _).alloc _
 have a1 : Arg ((w.alloc (.cells (bvs at').toArray 47)).alloc (.cells zc.toArray 47)) x.P (some ⟨w.heap.size, 0, none⟩) 32 32 at' :=
  blk_arg (t := 47) ((Blk.new w _ (bvs at')).alloc _) h32 (by simp [maxLen]) (fun e => by have := h.lt _ e; omega)
 have HA : Hid (Args (((w.alloc (.cells (bvs at').toArray 47)).alloc (.cells zc.toArray 47)).alloc (.cells #[.slice (some ⟨w.heap.size, 0, none⟩) 32 32, .slice T n d] 58)) x.P (some ⟨w.heap.size + 1 + 1, 0, none⟩) 2 [⟨some ⟨w.heap.size, 0, none⟩, 32, 32, at'⟩, ⟨T, n, d, b⟩]) := Lib.hid (by
  have := args_two (t := 58) a1 (ht.keep0 k0) (fun k e => by have := h.lt k e; simp; omega)
  simpa using this)
 have HK := Lib.hid (k0.alloc (.cells #[.slice (some ⟨w.heap.size, 0, none⟩) 32 32, .slice T n d] 58))
 have HB : Hid (Blk (((w.alloc (.cells (bvs at').toArray 47)).alloc (.cells zc.toArray 47)).alloc (.cells #[.slice (some ⟨w.heap.size, 0, none⟩) 32 32, .slice T n d] 58)) (w.heap.size + 1) 47 zc) := Lib.hid ((show Blk _ (w.heap.size + 1) _ _ from Blk.new' (by simp) rfl).alloc _)
 have HH := Lib.hid (hash_v c x _ 2 2 _ _ (h.keep0 HK.out) HA.out hf (by simp [catP, h32]; omega))
 have HCP : Hid (catP [⟨some ⟨w.heap.size, 0, none⟩, 32, 32, at'⟩, ⟨T, n, d, b⟩] = at' ++ b) := Lib.hid (by simp [catP])
 rw [HCP.out] at HH
 have HL := Lib.hid (hlong.len (hashT (at' ++ b)) (.inl rfl))
 have HX := Lib.hid h
 have ha := arr_all w.heap.size 0
 clear h ht hf lb hlong k0 a1 h32
 obtain ⟨D, hD⟩ : ∃ D, D = x.o.val (hashT (at' ++ b)) 32 := ⟨_, rfl⟩
 rw [← hD] at HH HL ⊢
 clear hD HCP HA
 go_enter Tryz.func90, Tryz.ntmps90
 go_wp2_with fail
 refine HH.out.mono ?_
 rintro e w2 ⟨F2, P2, rfl, q⟩
 have HN := Lib.hid (q.new HX.out (i := w.heap.size + 1) (by omega) (by simp <;> omega))
 have HB2 := Lib.hid (HB.out.keep q.kp (fun e => by have := HX.out.lt _ e; omega))
 have HQ := Lib.hid (q.back HK.out)
 clear q
 go_wp2_with (first
  | (refine wpList_store_blk rfl 47 (.tmp 6) (.tmp 11) rfl _ _ _ (bvs D) HB2.out rfl rfl (by rw [bvs_length, HL.out, zc_length]) (by rw [bvs_length, HL.out]; kernel_rfl) (bvs_one _) ?_; intro w3 hB3 k3 z3)
  | fail)
 exact bodyPost_ret (results_cell_row rfl _ _ (w.heap.size + 1) _ _ _ _ rfl hB3 rarr_under rfl (by rw [List.size_toArray]; exact rarr_size D HL.out)) rfl
  ⟨F2, P2, rfl, HQ.out.over k3 (fun i _ e => by have e : i = w.heap.size + 1 := e; subst e; exact ⟨by omega, HN.out⟩) HX.out.sz⟩
end Seg
namespace Seg
open Go Go.RowKit Kit
open Rec (Rec good ftot recB)
open Ideal (Ts Thing Ans Arg Args sealT derT hashT args_one)
open Sha (Pc PcsOk catP)
open Vault
theorem run_bs1 (A : Option Addr) (n c : Nat) (w : World) : (Instr.buildSlice 57 1 #[(0, .slice A n c)]).run Tryz.prog w = .ok (.slice (some ⟨w.heap.size, 0, none⟩) 1 1) (w.alloc (.cells #[.slice A n c] 58)) := by kernel_rfl
theorem exec_bs1 {a : Act} {o : Oper} {w : World} (x : Operand) (A : Option Addr) (n c : Nat) (ho : o.op = .buildSlice 57 1 #[(0, x)]) (hx : a.eval x = .slice A n c) :
    (execOp a.eval o).run Tryz.prog w = .ok (.value (.slice (some ⟨w.heap.size, 0, none⟩) 1 1)) (w.alloc (.cells #[.slice A n c] 58)) := by
 have h := run_bs1 A n c w
 unfold execOp
 simp only [ho, List.map_toArray, List.map_cons, List.map_nil, hx, Sem.run_bind, h, Result.andThen_ok, Sem.run_pure]
theorem bes_length (at' : List UInt8) (i m : Nat) (h : at'.length = 32) : (besT at' i m).length = 48 := by unfold besT; simp [h]
section
variable {md : Region.Mode} {ops : Array Oper} {Q : Exit → Act → World → Prop} {S : World → Prop}
theorem reg_keyBes (iK iB iS : Nat) (dK dB dS : Tmp) (L0 LM : Array Bool) (a0 : Act) (w1 : World) (f n : Nat) (c : Vc) (x : Vt) (q : Int) (at' : List UInt8) (i m : Nat)
    (h : Vx w1 c x) (hf : x.o.few 100000) (hlong : x.o.long) (h32 : at'.length = 32)
    (hn : ops.size = n) (hL0 : L0.size = n) (hZ : [iK, iB, iS].map (fun i => (i, (ops[i]?).bind (·.dst))) = [(iK, some dK), (iB, some dB), (iS, some dS)])
    (hap : apartB (fun i => (ops[i]?).bind (·.dst)) [iK, iB, iS] = true) (hcl : closedB md ops (lst L0) = true) (hah : aheadB md ops (lst L0) [iK, iB, iS] = true)
    (hsz : ([iK, iB, iS].all fun i => match (ops[i]?).bind (·.dst) with | some d => decide (d < a0.tmps.size) | none => true) = true) (hLM : [iK, iB, iS].foldl (fun l i => l.setIfInBounds i true) L0 = LM)
    (hw : ([iK, iB, iS].all fun i => ((ops[i]?).map fun o => o.guard.isNone).getD false) = true) (hwait : ((ops[iS]?).map fun o => o.after.any fun e => e.on == iB && Region.binds md e).getD false = true)
    (hS : ∀ w', Kp x.P w1 w' → S w')
    (hk : ∀ (o : Oper) (a : Act) (w : World), ops[iK]? = some o → (∀ t, ([iK, iB, iS].all fun j => (ops[j]?).bind (·.dst) != some t) = true → a.eval (.tmp t) = a0.eval (.tmp t)) → (execOp a.eval o).run Tryz.prog w = .ok (.enter 109 #[.pointer (some ⟨c.v, 0, none⟩), .int .i64 q]) w)
    (hb : ∀ (o : Oper) (a : Act) (w : World), ops[iB]? = some o → (∀ t, ([iK, iB, iS].all fun j => (ops[j]?).bind (·.dst) != some t) = true → a.eval (.tmp t) = a0.eval (.tmp t)) → (execOp a.eval o).run Tryz.prog w = .ok (.enter 110 #[.agg (bvs at').toArray, .int .i64 i, .int .i64 m]) w)
    (hs : ∀ (o : Oper), ops[iS]? = some o → o.op = .buildSlice 57 1 #[(0, .tmp dB)])
    (hfin : ∀ (F2 P2 : Nat → Prop) (w2 : World) (A5 : Option Addr) (c5 g : Nat), Vq w1 c x w2 ⟨F2, P2, x.o.nx (keyT c.ms q), x.sl, x.cl⟩ → Args w2 P2 (some ⟨g, 0, none⟩) 1 [⟨A5, 48, c5, besT at' i m⟩] →
      wpAnyH Tryz.prog md ops Q S f LM (((a0.put (some dK) (.agg (bvs (x.o.val (keyT c.ms q) 32)).toArray)).put (some dB) (.slice A5 48 c5)).put (some dS) (.slice (some ⟨g, 0, none⟩) 1 1)) w2) :
    wpAnyH Tryz.prog md ops Q S (f + 3) L0 a0 w1 := by
 have hbl := bes_length at' i m h32
 have hdst : (ops[iK]?).bind (·.dst) = some dK ∧ (ops[iB]?).bind (·.dst) = some dB ∧ (ops[iS]?).bind (·.dst) = some dS := by
  simp only [List.map_cons, List.map_nil, List.cons.injEq, Prod.mk.injEq, true_and, and_true] at hZ
  exact ⟨hZ.1, hZ.2.1, hZ.2.2⟩
 have hap2 := apart_of _ _ hap
 have hKB : iK ≠ iB := by simp only [List.pairwise_cons] at hap2; exact (hap2.1 iB (by simp)).1
 have hKS : iK ≠ iS := by simp only [List.pairwise_cons] at hap2; exact (hap2.1 iS (by simp)).1
 have hBS : iB ≠ iS := by simp only [List.pairwise_cons] at hap2; exact (hap2.2.1 iS (by simp)).1
 have hwant : ∀ i ∈ [iK, iB, iS], ∀ (o : Oper) (y : Nat → Option Bool), ops[i]? = some o → Region.wanted o y = true := by
  intro i hi o y ho
  have := List.all_eq_true.1 hw i hi
  rw [ho] at this
  simp only [Option.map_some, Option.getD_some, Option.isNone_iff_eq_none] at this
  unfold Region.wanted; rw [this]
 refine reg_many2 [iK, iB, iS] [(iK, some dK), (iB, some dB), (iS, some dS)] L0 LM a0 w1 f (fun L vals w => ∃ x2, Vq w1 c x w x2 ∧ ((L iK = true ∧ (∃ F2 P2, x2 = ⟨F2, P2, x.o.nx (keyT c.ms q), x.sl, x.cl⟩) ∧ vals iK = .agg (bvs (x.o.val (keyT c.ms q) 32)).toArray) ∨ (L iK = false ∧ x2 = x)) ∧
     (L iB = true → ∃ A5 c5, vals iB = .slice A5 48 c5 ∧ Arg w x2.P A5 48 c5 (besT at' i m)) ∧ (L iS = true → L iB = true ∧ ∃ g, vals iS = .slice (some ⟨g, 0, none⟩) 1 1 ∧ Blk w g 58 [vals iB] ∧ ¬ x2.P g))
  n hn hL0 hZ hap hcl hah hsz hLM (fun L vals w hJ => by obtain ⟨x2, hq, _⟩ := hJ; exact hS w hq.kp) ?h0 ?st ?fin
 case h0 =>
  simp only [aheadB, Bool.and_eq_true, List.all_eq_true] at hah
  have hL : ∀ i ∈ [iK, iB, iS], lst L0 i = false := fun i hi => by have := (hah.2 i hi).1.2; simpa using this
  refine ⟨x, Vq.refl h, Or.inr ⟨hL iK (by simp), rfl⟩, ?_⟩
  exact ⟨fun e => (by rw [hL iB (by simp)] at e; cases e), fun e => (by rw [hL iS (by simp)] at e; cases e)⟩
 case st =>
  intro L vals w a j o hj ho hLj hd hJ ev e0 K' hK'
  rw [if_pos (hwant j hj o _ ho)]
  obtain ⟨x2, hq, hk2, hb2, hs2⟩ := hJ
  simp only [List.mem_cons, List.not_mem_nil, or_false] at hj
  rcases hj with rfl | rfl | rfl
  · rcases hk2 with ⟨e, _⟩ | ⟨_, rfl⟩
    · rw [hLj] at e; cases e
    unfold Oper.wp
    rw [hk o a w ho e0, Oper.upon_enter]
    refine (key_c c x2 q w hq.now hf hlong).mono ?_
    rintro e w' ⟨F2, P2, rfl, q2⟩
    refine hK'.out _ _ ⟨_, hq.trans q2, .inl ⟨Kit.upd_same _ _ _, ⟨F2, P2, rfl⟩, Kit.upd_same _ _ _⟩, fun e => ?_, fun e => ?_⟩
    · rw [Kit.upd_other _ _ _ _ hKB.symm] at e
      obtain ⟨A5, c5, h1, h2⟩ := hb2 e
      exact ⟨A5, c5, by rw [Kit.upd_other _ _ _ _ hKB.symm]; exact h1, q2.arg h2⟩
    · rw [Kit.upd_other _ _ _ _ hKS.symm] at e
      obtain ⟨h0, g, h1, h2, h3⟩ := hs2 e
      refine ⟨by rw [Kit.upd_other _ _ _ _ hKB.symm]; exact h0, g, by rw [Kit.upd_other _ _ _ _ hKS.symm]; exact h1, ?_, q2.old h3 h2.lt⟩
      rw [Kit.upd_other _ _ _ _ hKB.symm]
      exact q2.blk h2 h3
  · unfold Oper.wp
    rw [hb o a w ho e0, Oper.upon_enter]
    refine (besides_c at' i m w h32).mono ?_
    rintro e w' ⟨A5, c5, rfl, h5, h6, h7, h8⟩
    refine hK'.out _ _ ⟨x2, hq.over0 h6, hk2.imp (fun e => ⟨?_, e.2.1, ?_⟩) (fun e => ⟨?_, e.2⟩), fun _ => ⟨A5, c5, ?_, ?_⟩, fun e => ?_⟩
    · rw [Kit.upd_other _ _ _ _ hKB]; exact e.1
    · rw [Kit.upd_other _ _ _ _ hKB]; exact e.2.2
    · rw [Kit.upd_other _ _ _ _ hKB]; exact e.1
    · rw [Kit.upd_same, hbl]
    · have hcap := h5.cap
      exact ⟨hbl, h5.row, .inr (fun k e hp => by have := h7 k e; have := hq.now.lt k hp; omega), by rw [← hbl]; exact hcap.1, hcap.2, h8⟩
    · rw [Kit.upd_other _ _ _ _ hBS.symm] at e
      have := (hs2 e).1
      rw [hLj] at this; cases this
  · have hLB : L iB = true := by
      rw [ho] at hwait
      simp only [Option.map_some, Option.getD_some] at hwait
      obtain ⟨e, he, h2⟩ := Array.any_eq_true'.1 hwait
      simp only [Bool.and_eq_true, beq_iff_eq] at h2
      have := hd e he h2.2
      rw [h2.1] at this; exact this
    unfold Oper.wp
    obtain ⟨A5, c5, h1, h2⟩ := hb2 hLB
    rw [exec_bs1 (.tmp dB) A5 48 c5 (hs o ho) (by rw [ev iB (by simp) hLB dB hdst.2.1, h1]), ← h1]
    have ka := (Kp.refl nob w).alloc (.cells #[vals iB] 58)
    refine hK'.out _ _ ⟨x2, hq.over0 ka, hk2.imp (fun e => ⟨?_, e.2.1, ?_⟩) (fun e => ⟨?_, e.2⟩), fun e => ?_, fun e => ⟨?_, w.heap.size, Kit.upd_same _ _ _, ?_, fun e => by have := hq.now.lt _ e; omega⟩⟩
    · rw [Kit.upd_other _ _ _ _ hKS]; exact e.1
    · rw [Kit.upd_other _ _ _ _ hKS]; exact e.2.2
    · rw [Kit.upd_other _ _ _ _ hKS]; exact e.1
    · exact ⟨A5, c5, by rw [Kit.upd_other _ _ _ _ hBS]; exact h1, h2.keep0 ka⟩
    · rw [Kit.upd_other _ _ _ _ hBS]; exact hLB
    · rw [Kit.upd_other _ _ _ _ hBS]
      exact Blk.new w _ [vals iB]
 case fin =>
  intro vals L w hall hJ
  obtain ⟨x2, hq, hk2, hb2, hs2⟩ := hJ
  rcases hk2 with ⟨_, ⟨F2, P2, rfl⟩, hv⟩ | ⟨e, _⟩
  · obtain ⟨A5, c5, h1, h2⟩ := hb2 (hall iB (by simp))
    obtain ⟨_, g, h3, h4, h5⟩ := hs2 (hall iS (by simp))
    simp only [putZ]
    rw [hv, h1, h3]
    refine hfin F2 P2 w A5 c5 g hq ⟨rfl, ?_, .inr (fun k e => by cases e; exact h5), h2.pc, fun p hp => by rcases List.mem_singleton.1 hp with rfl; exact h2.nil, by omega⟩
    rw [h1] at h4
    exact .inr ⟨g, 0, rfl, h4.lt, fun i v hv => by rw [Nat.zero_add, h4.cell]; simpa [Pc.v] using hv⟩
  · rw [hall iK (by simp)] at e; cases e
end
end Seg
end Go.Proofs.YtigdlnfgdjfdoaaGreat
