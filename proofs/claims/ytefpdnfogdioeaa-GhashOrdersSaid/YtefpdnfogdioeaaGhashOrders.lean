/- GhashOrders: products don't hang on the order, nor on how they are put together; sums are multiplied one by one; a product is none where one of the two is. -/
import Derived.Test.YtefpdnfogdioeaaGhashL
namespace Go.Proofs.Ytefpdnfogdioeaa.Ghash
set_option linter.unusedVariables false
set_option linter.unusedSimpArgs false
open Go Go.RowKit Kit
open Aes (gb tb tb_length gb_tb tb_gb tb_ext tb_eq blk_byte arr16)
open Field (cb cb_inj)

/-- Three blocks that came in, and a product. -/
structure R4 (w : World) (a b c : List UInt8) (p : Nat) (x : List UInt8) (w2 : World) : Prop where
  kp : Kp nob w w2
  a : w2.rangeAt w.heap.size 0 (bvs a)
  b : w2.rangeAt (w.heap.size + 1) 0 (bvs b)
  c : w2.rangeAt (w.heap.size + 2) 0 (bvs c)
  x : w2.rangeAt p 0 (bvs x)
theorem R4.keep {w w2 w3 : World} {a b c x : List UInt8} {p : Nat} (y : R4 w a b c p x w2) (k : Kp nob w2 w3) : R4 w a b c p x w3 := ⟨y.kp.trans k (fun _ e => e.elim), range_keep y.a k (fun e => e), range_keep y.b k (fun e => e), range_keep y.c k (fun e => e), range_keep y.x k (fun e => e)⟩
structure R3 (w : World) (a b c : List UInt8) (w2 : World) : Prop where
  kp : Kp nob w w2
  a : Blk w2 w.heap.size 22 (bvs a)
  b : Blk w2 (w.heap.size + 1) 22 (bvs b)
  c : Blk w2 (w.heap.size + 2) 22 (bvs c)
theorem R3.keep {w w2 w3 : World} {a b c : List UInt8} (y : R3 w a b c w2) (k : Kp nob w2 w3) : R3 w a b c w3 := ⟨y.kp.trans k (fun _ e => e.elim), y.a.keep k (fun e => e), y.b.keep k (fun e => e), y.c.keep k (fun e => e)⟩
theorem tms_none_iff (a b : List UInt8) (ha : a.length = 16) (hb : b.length = 16) : (tms a b == none16) = ((a == none16) || (b == none16)) := by
  rw [Bool.eq_iff_iff, Bool.or_eq_true, beq_iff_eq, beq_iff_eq, beq_iff_eq]
  constructor
  · exact tms_entire a b ha hb
  · rintro (rfl | rfl)
    · exact none_tms b
    · exact tms_none a
set_option maxHeartbeats 8000000 in
set_option maxRecDepth 100000 in
theorem orders_walk (a b c : List UInt8) (w : World) (ha : a.length = 16) (hb : b.length = 16) (hc : c.length = 16) :
    Calls Try.prog 4 #[.agg (bvs a).toArray, .agg (bvs b).toArray, .agg (bvs c).toArray] w fun e w' => e = .returned (.bool true) ∧ Kp nob w w' := by
  have HA := Lib.hid ha; have HB := Lib.hid hb; have HC := Lib.hid hc; clear ha hb hc
  have HAL := Lib.hid (len16 HA.out); have HBL := Lib.hid (len16 HB.out); have HCL := Lib.hid (len16 HC.out)
  obtain ⟨X, hX⟩ : ∃ X, X = tms a b := ⟨_, rfl⟩
  have HX := Lib.hid (show X.length = 16 by rw [hX]; exact tms_length _ _)
  have HXB := Lib.hid (len16 HX.out)
  have HX0 := Lib.hid hX
  have HX1 := Lib.hid (show tms b a = X by rw [hX, tms_comm])
  obtain ⟨Y, hY⟩ : ∃ Y, Y = tms X c := ⟨_, rfl⟩
  have HYL := Lib.hid (show Y.length = 16 by rw [hY]; exact tms_length _ _)
  have HY := Lib.hid hY.symm
  obtain ⟨Z, hZ⟩ : ∃ Z, Z = tms b c := ⟨_, rfl⟩
  have HZL := Lib.hid (show Z.length = 16 by rw [hZ]; exact tms_length _ _)
  have HZ := Lib.hid hZ.symm
  have HY2 := Lib.hid (show tms a Z = Y by rw [hZ, hY, hX, tms_assoc])
  obtain ⟨V, hV⟩ : ∃ V, V = plus b c := ⟨_, rfl⟩
  have HVL := Lib.hid (show V.length = 16 by rw [hV]; exact plus_length _ _)
  have HV := Lib.hid hV.symm
  obtain ⟨U, hU⟩ : ∃ U, U = tms a V := ⟨_, rfl⟩
  have HUL := Lib.hid (show U.length = 16 by rw [hU]; exact tms_length _ _)
  have HU := Lib.hid hU.symm
  obtain ⟨D, hD⟩ : ∃ D, D = tms a c := ⟨_, rfl⟩
  have HDL := Lib.hid (show D.length = 16 by rw [hD]; exact tms_length _ _)
  have HD := Lib.hid hD.symm
  have HU2 := Lib.hid (show plus X D = U by rw [hU, hV, hX, hD, tms_plus])
  obtain ⟨N, hN⟩ : ∃ N, N = none16 := ⟨_, rfl⟩
  obtain ⟨qx, hqx⟩ : ∃ q, q = (X == N) := ⟨_, rfl⟩
  obtain ⟨qa, hqa⟩ : ∃ q, q = (a == N) := ⟨_, rfl⟩
  obtain ⟨qb, hqb⟩ : ∃ q, q = (b == N) := ⟨_, rfl⟩
  have HQ := Lib.hid (show qx = (qa || qb) by rw [hqx, hqa, hqb, hX, hN]; exact tms_none_iff a b HA.out HB.out)
  have hNL : N.length = 16 := by rw [hN]; rfl
  have q1 := fun w => eqB_same X HX.out w
  have q2 := fun w => eqB_same Y HYL.out w
  have q3 := fun w => eqB_same U HUL.out w
  have q4 : ∀ w, (Op.equalIn 10000 24 (.agg (bvs X).toArray) (.agg (bvs N).toArray)).run Try.prog w = .ok qx w := fun w => by rw [eqB X N HX.out hNL w, hqx]
  have q5 : ∀ w, (Op.equalIn 10000 22 (.agg (bvs a).toArray) (.agg (bvs N).toArray)).run Try.prog w = .ok qa w := fun w => by rw [eq16 a N HA.out hNL w, hqa]
  have q6 : ∀ w, (Op.equalIn 10000 22 (.agg (bvs b).toArray) (.agg (bvs N).toArray)).run Try.prog w = .ok qb w := fun w => by rw [eq16 b N HB.out hNL w, hqb]
  have HNN := Lib.hid hN
  have H0 : Hid (R3 w a b c (((w.alloc (.cells (bvs a).toArray 22)).alloc (.cells (bvs b).toArray 22)).alloc (.cells (bvs c).toArray 22))) := Lib.hid ⟨(((Kp.refl nob w).alloc _).alloc _).alloc _, ((Blk.new' rfl rfl).alloc _).alloc _, (Blk.new' (by simp) rfl).alloc _, Blk.new' (by simp) rfl⟩
  clear hX hY hZ hV hU hD hN hqx hqa hqb hNL
  go_enter Try.func4, Try.ntmps4
  go_wp2_with fail
  refine (alive_yes _).mono ?_
  rintro e w1 ⟨rfl, k1⟩
  have H1 := Lib.hid (H0.out.keep k1)
  clear H0 k1
  go_wp2_with (first
    | (refine wpList_load_blk rfl 22 (.tmp 3) rfl _ _ _ H1.out.a rfl _ arr16 rfl (by rw [HAL.out]; kernel_rfl) ?_)
    | (refine wpList_load_blk rfl 22 (.tmp 4) rfl _ _ _ H1.out.b rfl _ arr16 rfl (by rw [HBL.out]; kernel_rfl) ?_))
  refine (times_any a b w1 HA.out HB.out).mono ?_
  rintro e w2 ⟨rfl, k2⟩
  rw [← HX0.out]
  have H2 := Lib.hid (H1.out.keep k2)
  clear H1 k2
  go_wp2_with (refine wpList_store_new rfl 24 (.tmp 7) (.tmp 12) rfl _ (bvs X) rfl rfl (by rw [HXB.out]; rfl) (by rw [HXB.out]; kernel_rfl) (bvs_one _) ?_
               intro w3 hB3 k3 z3
               obtain ⟨p, hp⟩ : ∃ p, p = w2.heap.size := ⟨_, rfl⟩
               rw [← hp] at hB3 ⊢
               have H3 := Lib.hid (H2.out.keep k3)
               have HB3 := Lib.hid hB3
               clear hp hB3 k3 z3)
  refine reg_start (fun w' => R4 w a b c p X w') (by kernel_rfl) (R4.keep ⟨H3.out.kp, H3.out.a.range, H3.out.b.range, H3.out.c.range, HB3.out.range⟩ (Kp.refl nob _).drew) (fun w4 hS => ?_)
  have HS0 := Lib.hid hS
  clear hS H2 H3 HB3
  refine reg_load 0 (some 13) 24 (.tmp 7) rfl rfl rfl (by kernel_rfl) (by kernel_rfl) (by kernel_rfl) (by rfl) HS0.out (p) 0 rfl (bvs X) _ (fun _ x => x.x) arrB rfl (by rw [HXB.out]; kernel_rfl) ?_
  simp only [Act.put, List.setIfInBounds_toArray, List.set_cons_zero, List.set_cons_succ]
  refine reg_load 1 (some 14) 22 (.tmp 4) rfl rfl rfl (by kernel_rfl) (by kernel_rfl) (by kernel_rfl) (by rfl) HS0.out (w.heap.size + 1) 0 rfl (bvs b) _ (fun _ x => x.b) arr16 rfl (by rw [HBL.out]; kernel_rfl) ?_
  simp only [Act.put, List.setIfInBounds_toArray, List.set_cons_zero, List.set_cons_succ]
  refine reg_load 2 (some 15) 22 (.tmp 3) rfl rfl rfl (by kernel_rfl) (by kernel_rfl) (by kernel_rfl) (by rfl) HS0.out (w.heap.size) 0 rfl (bvs a) _ (fun _ x => x.a) arr16 rfl (by rw [HAL.out]; kernel_rfl) ?_
  simp only [Act.put, List.setIfInBounds_toArray, List.set_cons_zero, List.set_cons_succ]
  refine reg_call 3 (some 16) rfl rfl (by kernel_rfl) (by rfl) _ _ (exec_func 10 _ _ [.agg (bvs b).toArray, .agg (bvs a).toArray] rfl (by kernel_rfl) rfl) ?_
  refine (times_any b a _ HB.out HA.out).mono ?_
  rintro e w4 ⟨rfl, k4⟩
  rw [HX1.out]
  have HS1 := Lib.hid (HS0.out.keep k4)
  clear HS0 k4
  refine ⟨_, rfl, HS1.out, fun _ => ?_⟩
  simp only [Act.put, List.setIfInBounds_toArray, List.set_cons_zero, List.set_cons_succ]
  refine reg_take (v := .bool true) 4 (some 17) rfl rfl (by kernel_rfl) (by kernel_rfl) (by kernel_rfl) (by rfl) HS1.out (fun w hw => by go_simp) ?_
  simp only [Act.put, List.setIfInBounds_toArray, List.set_cons_zero, List.set_cons_succ]
  refine reg_take (v := .bool true) 5 (some 18) rfl rfl (by kernel_rfl) (by kernel_rfl) (by kernel_rfl) (by rfl) HS1.out (fun w hw => by go_simp) ?_
  simp only [Act.put, List.setIfInBounds_toArray, List.set_cons_zero, List.set_cons_succ]
  refine reg_load 6 (some 19) 24 (.tmp 7) rfl rfl rfl (by kernel_rfl) (by kernel_rfl) (by kernel_rfl) (by rfl) HS1.out (p) 0 rfl (bvs X) _ (fun _ x => x.x) arrB rfl (by rw [HXB.out]; kernel_rfl) ?_
  simp only [Act.put, List.setIfInBounds_toArray, List.set_cons_zero, List.set_cons_succ]
  refine reg_load 7 (some 20) 22 (.tmp 5) rfl rfl rfl (by kernel_rfl) (by kernel_rfl) (by kernel_rfl) (by rfl) HS1.out (w.heap.size + 2) 0 rfl (bvs c) _ (fun _ x => x.c) arr16 rfl (by rw [HCL.out]; kernel_rfl) ?_
  simp only [Act.put, List.setIfInBounds_toArray, List.set_cons_zero, List.set_cons_succ]
  refine reg_load 9 (some 22) 22 (.tmp 3) rfl rfl rfl (by kernel_rfl) (by kernel_rfl) (by kernel_rfl) (by rfl) HS1.out (w.heap.size) 0 rfl (bvs a) _ (fun _ x => x.a) arr16 rfl (by rw [HAL.out]; kernel_rfl) ?_
  simp only [Act.put, List.setIfInBounds_toArray, List.set_cons_zero, List.set_cons_succ]
  refine reg_load 10 (some 23) 22 (.tmp 4) rfl rfl rfl (by kernel_rfl) (by kernel_rfl) (by kernel_rfl) (by rfl) HS1.out (w.heap.size + 1) 0 rfl (bvs b) _ (fun _ x => x.b) arr16 rfl (by rw [HBL.out]; kernel_rfl) ?_
  simp only [Act.put, List.setIfInBounds_toArray, List.set_cons_zero, List.set_cons_succ]
  refine reg_load 11 (some 24) 22 (.tmp 5) rfl rfl rfl (by kernel_rfl) (by kernel_rfl) (by kernel_rfl) (by rfl) HS1.out (w.heap.size + 2) 0 rfl (bvs c) _ (fun _ x => x.c) arr16 rfl (by rw [HCL.out]; kernel_rfl) ?_
  simp only [Act.put, List.setIfInBounds_toArray, List.set_cons_zero, List.set_cons_succ]
  refine reg_call 8 (some 21) rfl rfl (by kernel_rfl) (by rfl) _ _ (exec_func 10 _ _ [.agg (bvs X).toArray, .agg (bvs c).toArray] rfl (by kernel_rfl) rfl) ?_
  refine (times_any X c _ HX.out HC.out).mono ?_
  rintro e w5 ⟨rfl, k5⟩
  rw [HY.out]
  have HS2 := Lib.hid (HS1.out.keep k5)
  clear HS1 k5
  refine ⟨_, rfl, HS2.out, fun _ => ?_⟩
  simp only [Act.put, List.setIfInBounds_toArray, List.set_cons_zero, List.set_cons_succ]
  refine reg_call 12 (some 25) rfl rfl (by kernel_rfl) (by rfl) _ _ (exec_func 10 _ _ [.agg (bvs b).toArray, .agg (bvs c).toArray] rfl (by kernel_rfl) rfl) ?_
  refine (times_any b c _ HB.out HC.out).mono ?_
  rintro e w6 ⟨rfl, k6⟩
  rw [HZ.out]
  have HS3 := Lib.hid (HS2.out.keep k6)
  clear HS2 k6
  refine ⟨_, rfl, HS3.out, fun _ => ?_⟩
  simp only [Act.put, List.setIfInBounds_toArray, List.set_cons_zero, List.set_cons_succ]
  refine reg_call 13 (some 26) rfl rfl (by kernel_rfl) (by rfl) _ _ (exec_func 10 _ _ [.agg (bvs a).toArray, .agg (bvs Z).toArray] rfl (by kernel_rfl) rfl) ?_
  refine (times_any a Z _ HA.out HZL.out).mono ?_
  rintro e w7 ⟨rfl, k7⟩
  rw [HY2.out]
  have HS4 := Lib.hid (HS3.out.keep k7)
  clear HS3 k7
  refine ⟨_, rfl, HS4.out, fun _ => ?_⟩
  simp only [Act.put, List.setIfInBounds_toArray, List.set_cons_zero, List.set_cons_succ]
  refine reg_take (v := .bool true) 14 (some 27) rfl rfl (by kernel_rfl) (by kernel_rfl) (by kernel_rfl) (by rfl) HS4.out (fun w hw => by go_simp) ?_
  simp only [Act.put, List.setIfInBounds_toArray, List.set_cons_zero, List.set_cons_succ]
  refine reg_take (v := .bool true) 15 (some 28) rfl rfl (by kernel_rfl) (by kernel_rfl) (by kernel_rfl) (by rfl) HS4.out (fun w hw => by go_simp) ?_
  simp only [Act.put, List.setIfInBounds_toArray, List.set_cons_zero, List.set_cons_succ]
  refine reg_take (v := .bool true) 16 (some 29) rfl rfl (by kernel_rfl) (by kernel_rfl) (by kernel_rfl) (by rfl) HS4.out (fun w hw => by go_simp) ?_
  simp only [Act.put, List.setIfInBounds_toArray, List.set_cons_zero, List.set_cons_succ]
  refine reg_load 17 (some 30) 22 (.tmp 3) rfl rfl rfl (by kernel_rfl) (by kernel_rfl) (by kernel_rfl) (by rfl) HS4.out (w.heap.size) 0 rfl (bvs a) _ (fun _ x => x.a) arr16 rfl (by rw [HAL.out]; kernel_rfl) ?_
  simp only [Act.put, List.setIfInBounds_toArray, List.set_cons_zero, List.set_cons_succ]
  refine reg_load 18 (some 31) 22 (.tmp 4) rfl rfl rfl (by kernel_rfl) (by kernel_rfl) (by kernel_rfl) (by rfl) HS4.out (w.heap.size + 1) 0 rfl (bvs b) _ (fun _ x => x.b) arr16 rfl (by rw [HBL.out]; kernel_rfl) ?_
  simp only [Act.put, List.setIfInBounds_toArray, List.set_cons_zero, List.set_cons_succ]
  refine reg_load 19 (some 32) 22 (.tmp 5) rfl rfl rfl (by kernel_rfl) (by kernel_rfl) (by kernel_rfl) (by rfl) HS4.out (w.heap.size + 2) 0 rfl (bvs c) _ (fun _ x => x.c) arr16 rfl (by rw [HCL.out]; kernel_rfl) ?_
  simp only [Act.put, List.setIfInBounds_toArray, List.set_cons_zero, List.set_cons_succ]
  refine reg_load 22 (some 35) 24 (.tmp 7) rfl rfl rfl (by kernel_rfl) (by kernel_rfl) (by kernel_rfl) (by rfl) HS4.out (p) 0 rfl (bvs X) _ (fun _ x => x.x) arrB rfl (by rw [HXB.out]; kernel_rfl) ?_
  simp only [Act.put, List.setIfInBounds_toArray, List.set_cons_zero, List.set_cons_succ]
  refine reg_load 23 (some 36) 22 (.tmp 3) rfl rfl rfl (by kernel_rfl) (by kernel_rfl) (by kernel_rfl) (by rfl) HS4.out (w.heap.size) 0 rfl (bvs a) _ (fun _ x => x.a) arr16 rfl (by rw [HAL.out]; kernel_rfl) ?_
  simp only [Act.put, List.setIfInBounds_toArray, List.set_cons_zero, List.set_cons_succ]
  refine reg_load 24 (some 37) 22 (.tmp 5) rfl rfl rfl (by kernel_rfl) (by kernel_rfl) (by kernel_rfl) (by rfl) HS4.out (w.heap.size + 2) 0 rfl (bvs c) _ (fun _ x => x.c) arr16 rfl (by rw [HCL.out]; kernel_rfl) ?_
  simp only [Act.put, List.setIfInBounds_toArray, List.set_cons_zero, List.set_cons_succ]
  refine reg_call 20 (some 33) rfl rfl (by kernel_rfl) (by rfl) _ _ (exec_func 12 _ _ [.agg (bvs b).toArray, .agg (bvs c).toArray] rfl (by kernel_rfl) rfl) ?_
  refine (fPlus b c _ HB.out HC.out).mono ?_
  rintro e w8 ⟨rfl, k8⟩
  rw [HV.out]
  have HS5 := Lib.hid (HS4.out.keep k8)
  clear HS4 k8
  refine ⟨_, rfl, HS5.out, fun _ => ?_⟩
  simp only [Act.put, List.setIfInBounds_toArray, List.set_cons_zero, List.set_cons_succ]
  refine reg_call 21 (some 34) rfl rfl (by kernel_rfl) (by rfl) _ _ (exec_func 10 _ _ [.agg (bvs a).toArray, .agg (bvs V).toArray] rfl (by kernel_rfl) rfl) ?_
  refine (times_any a V _ HA.out HVL.out).mono ?_
  rintro e w9 ⟨rfl, k9⟩
  rw [HU.out]
  have HS6 := Lib.hid (HS5.out.keep k9)
  clear HS5 k9
  refine ⟨_, rfl, HS6.out, fun _ => ?_⟩
  simp only [Act.put, List.setIfInBounds_toArray, List.set_cons_zero, List.set_cons_succ]
  refine reg_call 25 (some 38) rfl rfl (by kernel_rfl) (by rfl) _ _ (exec_func 10 _ _ [.agg (bvs a).toArray, .agg (bvs c).toArray] rfl (by kernel_rfl) rfl) ?_
  refine (times_any a c _ HA.out HC.out).mono ?_
  rintro e w10 ⟨rfl, k10⟩
  rw [HD.out]
  have HS7 := Lib.hid (HS6.out.keep k10)
  clear HS6 k10
  refine ⟨_, rfl, HS7.out, fun _ => ?_⟩
  simp only [Act.put, List.setIfInBounds_toArray, List.set_cons_zero, List.set_cons_succ]
  refine reg_call 26 (some 39) rfl rfl (by kernel_rfl) (by rfl) _ _ (exec_func 12 _ _ [.agg (bvs X).toArray, .agg (bvs D).toArray] rfl (by kernel_rfl) rfl) ?_
  refine (fPlus X D _ HX.out HDL.out).mono ?_
  rintro e w11 ⟨rfl, k11⟩
  rw [HU2.out]
  have HS8 := Lib.hid (HS7.out.keep k11)
  clear HS7 k11
  refine ⟨_, rfl, HS8.out, fun _ => ?_⟩
  simp only [Act.put, List.setIfInBounds_toArray, List.set_cons_zero, List.set_cons_succ]
  refine reg_take (v := .bool true) 27 (some 40) rfl rfl (by kernel_rfl) (by kernel_rfl) (by kernel_rfl) (by rfl) HS8.out (fun w hw => by go_simp) ?_
  simp only [Act.put, List.setIfInBounds_toArray, List.set_cons_zero, List.set_cons_succ]
  refine reg_take (v := .bool true) 28 (some 41) rfl rfl (by kernel_rfl) (by kernel_rfl) (by kernel_rfl) (by rfl) HS8.out (fun w hw => by go_simp) ?_
  simp only [Act.put, List.setIfInBounds_toArray, List.set_cons_zero, List.set_cons_succ]
  refine reg_take (v := .bool true) 29 (some 42) rfl rfl (by kernel_rfl) (by kernel_rfl) (by kernel_rfl) (by rfl) HS8.out (fun w hw => by go_simp) ?_
  simp only [Act.put, List.setIfInBounds_toArray, List.set_cons_zero, List.set_cons_succ]
  refine reg_load 30 (some 43) 24 (.tmp 7) rfl rfl rfl (by kernel_rfl) (by kernel_rfl) (by kernel_rfl) (by rfl) HS8.out (p) 0 rfl (bvs X) _ (fun _ x => x.x) arrB rfl (by rw [HXB.out]; kernel_rfl) ?_
  simp only [Act.put, List.setIfInBounds_toArray, List.set_cons_zero, List.set_cons_succ]
  refine reg_take (v := .agg (bvs N).toArray) 31 (some 44) rfl rfl (by kernel_rfl) (by kernel_rfl) (by kernel_rfl) (by rfl) HS8.out (fun w hw => by go_simp; rw [HNN.out]; rfl) ?_
  simp only [Act.put, List.setIfInBounds_toArray, List.set_cons_zero, List.set_cons_succ]
  refine reg_take (v := .bool qx) 32 (some 45) rfl rfl (by kernel_rfl) (by kernel_rfl) (by kernel_rfl) (by rfl) HS8.out (fun w hw => by go_simp) ?_
  simp only [Act.put, List.setIfInBounds_toArray, List.set_cons_zero, List.set_cons_succ]
  refine reg_load 33 (some 46) 22 (.tmp 3) rfl rfl rfl (by kernel_rfl) (by kernel_rfl) (by kernel_rfl) (by rfl) HS8.out (w.heap.size) 0 rfl (bvs a) _ (fun _ x => x.a) arr16 rfl (by rw [HAL.out]; kernel_rfl) ?_
  simp only [Act.put, List.setIfInBounds_toArray, List.set_cons_zero, List.set_cons_succ]
  refine reg_take (v := .agg (bvs N).toArray) 34 (some 47) rfl rfl (by kernel_rfl) (by kernel_rfl) (by kernel_rfl) (by rfl) HS8.out (fun w hw => by go_simp; rw [HNN.out]; rfl) ?_
  simp only [Act.put, List.setIfInBounds_toArray, List.set_cons_zero, List.set_cons_succ]
  refine reg_take (v := .bool qa) 35 (some 48) rfl rfl (by kernel_rfl) (by kernel_rfl) (by kernel_rfl) (by rfl) HS8.out (fun w hw => by go_simp) ?_
  simp only [Act.put, List.setIfInBounds_toArray, List.set_cons_zero, List.set_cons_succ]
  refine reg_take (v := .bool qa) 36 (some 49) rfl rfl (by kernel_rfl) (by kernel_rfl) (by kernel_rfl) (by rfl) HS8.out (fun w hw => by go_simp) ?_
  simp only [Act.put, List.setIfInBounds_toArray, List.set_cons_zero, List.set_cons_succ]
  cases hqa : qa
  case' false =>
    have hqb : qb = qx := by rw [HQ.out, hqa]; rfl
    have q7 := q6
    rw [hqb] at q7
    clear q6
    refine reg_load 37 (some 50) 22 (.tmp 4) rfl rfl rfl (by kernel_rfl) (by kernel_rfl) (by kernel_rfl) (by rfl) HS8.out (w.heap.size + 1) 0 rfl (bvs b) _ (fun _ x => x.b) arr16 rfl (by rw [HBL.out]; kernel_rfl) ?_
    simp only [Act.put, List.setIfInBounds_toArray, List.set_cons_zero, List.set_cons_succ]
    refine reg_take (v := .agg (bvs N).toArray) 38 (some 51) rfl rfl (by kernel_rfl) (by kernel_rfl) (by kernel_rfl) (by rfl) HS8.out (fun w hw => by go_simp; rw [HNN.out]; rfl) ?_
    simp only [Act.put, List.setIfInBounds_toArray, List.set_cons_zero, List.set_cons_succ]
    refine reg_take (v := .bool qx) 39 (some 52) rfl rfl (by kernel_rfl) (by kernel_rfl) (by kernel_rfl) (by rfl) HS8.out (fun w hw => by go_simp) ?_
    simp only [Act.put, List.setIfInBounds_toArray, List.set_cons_zero, List.set_cons_succ]
    refine reg_take (v := .bool qx) 40 (some 53) rfl rfl (by kernel_rfl) (by kernel_rfl) (by kernel_rfl) (by rfl) HS8.out (fun w hw => by go_simp) ?_
    simp only [Act.put, List.setIfInBounds_toArray, List.set_cons_zero, List.set_cons_succ]
    refine reg_take (v := .bool true) 41 (some 54) rfl rfl (by kernel_rfl) (by kernel_rfl) (by kernel_rfl) (by rfl) HS8.out (fun w hw => by go_simp) ?_
    simp only [Act.put, List.setIfInBounds_toArray, List.set_cons_zero, List.set_cons_succ]
    refine reg_take (v := .bool true) 42 (some 55) rfl rfl (by kernel_rfl) (by kernel_rfl) (by kernel_rfl) (by rfl) HS8.out (fun w hw => by go_simp) ?_
    simp only [Act.put, List.setIfInBounds_toArray, List.set_cons_zero, List.set_cons_succ]
    refine reg_take (v := .bool true) 43 (some 6) rfl rfl (by kernel_rfl) (by kernel_rfl) (by kernel_rfl) (by rfl) HS8.out (fun w hw => by go_simp) ?_
    simp only [Act.put, List.setIfInBounds_toArray, List.set_cons_zero, List.set_cons_succ]
    refine reg_end (by kernel_rfl) ?_
    go_wp2
    go_ret
    exact ⟨rfl, HS8.out.kp⟩
  case' true =>
    have hqb : qx = true := by rw [HQ.out, hqa]; rfl
    subst hqb
    refine reg_skip 37 (some 50) rfl rfl (by kernel_rfl) (by kernel_rfl) (by kernel_rfl) (by rfl) HS8.out ?_
    simp only [Act.put, List.setIfInBounds_toArray, List.set_cons_zero, List.set_cons_succ]
    refine reg_skip 38 (some 51) rfl rfl (by kernel_rfl) (by kernel_rfl) (by kernel_rfl) (by rfl) HS8.out ?_
    simp only [Act.put, List.setIfInBounds_toArray, List.set_cons_zero, List.set_cons_succ]
    refine reg_skip 39 (some 52) rfl rfl (by kernel_rfl) (by kernel_rfl) (by kernel_rfl) (by rfl) HS8.out ?_
    simp only [Act.put, List.setIfInBounds_toArray, List.set_cons_zero, List.set_cons_succ]
    refine reg_take (v := .bool true) 40 (some 53) rfl rfl (by kernel_rfl) (by kernel_rfl) (by kernel_rfl) (by rfl) HS8.out (fun w hw => by go_simp) ?_
    simp only [Act.put, List.setIfInBounds_toArray, List.set_cons_zero, List.set_cons_succ]
    refine reg_take (v := .bool true) 41 (some 54) rfl rfl (by kernel_rfl) (by kernel_rfl) (by kernel_rfl) (by rfl) HS8.out (fun w hw => by go_simp) ?_
    simp only [Act.put, List.setIfInBounds_toArray, List.set_cons_zero, List.set_cons_succ]
    refine reg_take (v := .bool true) 42 (some 55) rfl rfl (by kernel_rfl) (by kernel_rfl) (by kernel_rfl) (by rfl) HS8.out (fun w hw => by go_simp) ?_
    simp only [Act.put, List.setIfInBounds_toArray, List.set_cons_zero, List.set_cons_succ]
    refine reg_take (v := .bool true) 43 (some 6) rfl rfl (by kernel_rfl) (by kernel_rfl) (by kernel_rfl) (by rfl) HS8.out (fun w hw => by go_simp) ?_
    simp only [Act.put, List.setIfInBounds_toArray, List.set_cons_zero, List.set_cons_succ]
    refine reg_end (by kernel_rfl) ?_
    go_wp2
    go_ret
    exact ⟨rfl, HS8.out.kp⟩
end Go.Proofs.Ytefpdnfogdioeaa.Ghash
