/- AesOpens: what is sealed is opened, what is opened is sealed again; two blocks are sealed as two. -/
import Derived.Test.YtdoioldlaehkhaaDoorAesL
namespace Go.Proofs.YtdoioldlaehkhaaDoor.Aes
open Go Go.RowKit Kit
open Field (cb cb_inj Sq)

theorem row_take {w : World} {A : Option Addr} {l : List UInt8} (h : Row w A (bvs l)) (k : Nat) : Row w A (bvs (l.take k)) := by
  have := h.take k
  rwa [bvs, ← List.map_take, ← bvs] at this
theorem range2 {w w2 : World} {a b : List UInt8} {g h : Nat} (hr : w.rangeAt g 0 (bvs a) ∧ w.rangeAt h 0 (bvs b)) (k : Kp nob w w2) : w2.rangeAt g 0 (bvs a) ∧ w2.rangeAt h 0 (bvs b) := ⟨range_keep hr.1 k (fun e => e), range_keep hr.2 k (fun e => e)⟩
theorem enc_beq (W : List UInt8) (R : Nat) (a b : List UInt8) (ha : a.length = 16) (hb : b.length = 16) : (enc W R a == enc W R b) = (a == b) := by
  rw [Bool.eq_iff_iff, beq_iff_eq, beq_iff_eq]; exact enc_inj W R a b ha hb

set_option maxHeartbeats 4000000 in
set_option maxRecDepth 100000 in
theorem opens_yes (l a b : List UInt8) (short : Bool) (w : World) (ht : Sq w) (hl : l.length = 32) (ha : a.length = 16) (hb : b.length = 16) :
    Calls Tryd.prog 4 #[.agg (bvs l).toArray, .bool short, .agg (bvs a).toArray, .agg (bvs b).toArray] w fun e w' => e = .returned (.bool true) ∧ Kp nob w w' := by
  have HT := Lib.hid ht; have HL := Lib.hid hl; have HA := Lib.hid ha; have HB := Lib.hid hb
  clear ht hl ha hb
  obtain ⟨w0, hw0⟩ : ∃ w0, w0 = ((w.alloc (.cells (bvs l).toArray 36)).alloc (.cells (bvs a).toArray 23)).alloc (.cells (bvs b).toArray 23) := ⟨_, rfl⟩
  have hk0 : Kp nob w w0 := by rw [hw0]; exact (((Kp.refl nob w).alloc _).alloc _).alloc _
  have hbl : Blk w0 w.heap.size 36 (bvs l) := by rw [hw0]; exact ((Blk.new w _ _).alloc _).alloc _
  have hba : Blk w0 (w.heap.size + 1) 23 (bvs a) := by rw [hw0]; exact (Blk.new' (by simp) rfl).alloc _
  have hbb : Blk w0 (w.heap.size + 2) 23 (bvs b) := by rw [hw0]; exact Blk.new' (by simp) rfl
  have HK := Lib.hid hk0; have HBL := Lib.hid hbl; have HS := Lib.hid (And.intro hba.range hbb.range)
  have HW := Lib.hid hw0
  clear hk0 hbl hba hbb hw0
  go_enter Tryd.func4, Tryd.ntmps4
  go_wp2_with fail
  rw [← HW.out]
  refine (alive_yes _ (HT.out.keep0 HK.out)).mono ?_
  rintro e w1 ⟨rfl, k1⟩
  have HK1 := Lib.hid (HK.out.trans k1 (fun _ e => e.elim)); have HBL1 := Lib.hid (HBL.out.keep k1 (fun e => e)); have HS1 := Lib.hid (range2 HS.out k1)
  clear HK HBL HS HW k1
  cases short
  case' false =>
    go_wp2_with fail
    refine (new_yes 8 l (some ⟨w.heap.size, 0, none⟩) 32 _ (HT.out.keep0 HK1.out) HL.out (.inr rfl) HBL1.out.row (by omega)).mono ?_
    rintro e w2 ⟨g, rfl, hc, hg, k2⟩
    obtain ⟨W, hW⟩ : ∃ W, W = allW l := ⟨_, rfl⟩
    obtain ⟨R, hR⟩ : ∃ R, R = 8 + 5 := ⟨_, rfl⟩
    rw [← hW, ← hR] at hc
  case' true =>
    go_wp2_with fail
    refine (new_yes 4 (l.take 16) (some ⟨w.heap.size, 0, none⟩) 32 _ (HT.out.keep0 HK1.out) (by rw [List.length_take, HL.out]; rfl) (.inl rfl) (row_take HBL1.out.row 16) (by omega)).mono ?_
    rintro e w2 ⟨g, rfl, hc, hg, k2⟩
    obtain ⟨W, hW⟩ : ∃ W, W = allW (l.take 16) := ⟨_, rfl⟩
    obtain ⟨R, hR⟩ : ∃ R, R = 4 + 5 := ⟨_, rfl⟩
    rw [← hW, ← hR] at hc
  all_goals
    have HC0 := Lib.hid hc
    have HK2 := Lib.hid (HK1.out.trans k2 (fun _ e => e.elim)); have HS2 := Lib.hid (range2 HS1.out k2)
    clear hc hg k2 hW hR HK1 HS1 HBL1
    obtain ⟨X, hX⟩ : ∃ X, X = enc W R a := ⟨_, rfl⟩
    obtain ⟨Y, hY⟩ : ∃ Y, Y = dec W R b := ⟨_, rfl⟩
    obtain ⟨Z, hZ⟩ : ∃ Z, Z = enc W R b := ⟨_, rfl⟩
    obtain ⟨q, hq⟩ : ∃ q, q = (a == b) := ⟨_, rfl⟩
    have hXL : X.length = 16 := by rw [hX]; exact enc_length _ _ _
    have hYL : Y.length = 16 := by rw [hY]; exact dec_length _ _ _
    have hZL : Z.length = 16 := by rw [hZ]; exact enc_length _ _ _
    have HDX := Lib.hid (show dec W R X = a by rw [hX]; exact dec_enc W R a HA.out)
    have HDY := Lib.hid (show enc W R Y = b by rw [hY]; exact enc_dec W R b HB.out)
    have q1 := fun w => eqB_same a HA.out w
    have q2 := fun w => eqB_same b HB.out w
    have q3 : ∀ w, (Op.equalIn 10000 30 (.agg (bvs X).toArray) (.agg (bvs Z).toArray)).run Tryd.prog w = .ok q w := fun w => by rw [eqB X Z hXL hZL w, hX, hZ, enc_beq W R a b HA.out HB.out, hq]
    have q4 : ∀ w, (Op.equalIn 10000 23 (.agg (bvs a).toArray) (.agg (bvs b).toArray)).run Tryd.prog w = .ok q w := fun w => by rw [eq16 a b HA.out HB.out w, hq]
    have HXL := Lib.hid hXL; have HYL := Lib.hid hYL
    have HXD := Lib.hid hX; have HYD := Lib.hid hY; have HZD := Lib.hid hZ
    clear hq hXL hYL hZL hX hY hZ
    go_wp2
    have HC := Lib.hid (HC0.out.keep0 (Kp.refl nob w2).drew)
    have HKD := Lib.hid (HK2.out.drew)
    have HK0 := Lib.hid (Kp.refl nob w2.drew)
    have HS0 := Lib.hid (range2 HS2.out (Kp.refl nob w2).drew)
    clear HC0 HK2 HS2
    refine reg_begin (fun w' => w'.rangeAt (w.heap.size + 1) 0 (bvs a) ∧ w'.rangeAt (w.heap.size + 2) 0 (bvs b)) (by kernel_rfl) HS0.out (fun _ => ?_)
    generalize w2.drew = wd at *
    refine reg_take (v := .pointer (some ⟨g, 0, none⟩)) 0 (some 24) rfl rfl (by kernel_rfl) (by kernel_rfl) (by kernel_rfl) (by rfl) HS0.out (fun w hw => by go_simp) ?_
    simp only [Act.put, List.setIfInBounds_toArray, List.set_cons_zero, List.set_cons_succ]
    refine reg_take (v := .pointer (some ⟨g, 0, none⟩)) 1 (some 25) rfl rfl (by kernel_rfl) (by kernel_rfl) (by kernel_rfl) (by rfl) HS0.out (fun w hw => by go_simp) ?_
    simp only [Act.put, List.setIfInBounds_toArray, List.set_cons_zero, List.set_cons_succ]
    refine reg_load 2 (some 26) 23 (.tmp 6) rfl rfl rfl (by kernel_rfl) (by kernel_rfl) (by kernel_rfl) (by rfl) HS0.out (w.heap.size + 1) 0 rfl (bvs a) _ (fun _ x => x.1) arr16 rfl (by rw [blen HA.out]; kernel_rfl) ?_
    simp only [Act.put, List.setIfInBounds_toArray, List.set_cons_zero, List.set_cons_succ]
    refine reg_load 5 (some 29) 23 (.tmp 6) rfl rfl rfl (by kernel_rfl) (by kernel_rfl) (by kernel_rfl) (by rfl) HS0.out (w.heap.size + 1) 0 rfl (bvs a) _ (fun _ x => x.1) arr16 rfl (by rw [blen HA.out]; kernel_rfl) ?_
    simp only [Act.put, List.setIfInBounds_toArray, List.set_cons_zero, List.set_cons_succ]
    refine reg_call 3 (some 27) rfl rfl (by kernel_rfl) (by rfl) _ _ (by go_simp; exact ⟨rfl, rfl⟩) ?_
    refine (seal_any a W g R _ HA.out (HC.out.keep0 HK0.out)).mono ?_
    rintro e w4 ⟨rfl, k4⟩
    rw [← HXD.out]
    have HS1 := Lib.hid (range2 HS0.out k4)
    have HK1 := Lib.hid (HK0.out.trans k4 (fun _ e => e.elim))
    clear HS0 HK0 k4
    refine ⟨_, rfl, HS1.out, fun _ => ?_⟩
    simp only [Act.put, List.setIfInBounds_toArray, List.set_cons_zero, List.set_cons_succ]
    refine reg_call 4 (some 28) rfl rfl (by kernel_rfl) (by rfl) _ _ (by go_simp; exact ⟨rfl, rfl⟩) ?_
    refine (open_any X W g R _ HXL.out (HC.out.keep0 HK1.out)).mono ?_
    rintro e w5 ⟨rfl, k5⟩
    rw [HDX.out]
    have HS2 := Lib.hid (range2 HS1.out k5)
    have HK2 := Lib.hid (HK1.out.trans k5 (fun _ e => e.elim))
    clear HS1 HK1 k5
    refine ⟨_, rfl, HS2.out, fun _ => ?_⟩
    simp only [Act.put, List.setIfInBounds_toArray, List.set_cons_zero, List.set_cons_succ]
    refine reg_take (v := .bool true) 6 (some 30) rfl rfl (by kernel_rfl) (by kernel_rfl) (by kernel_rfl) (by rfl) HS2.out (fun w hw => by go_simp) ?_
    simp only [Act.put, List.setIfInBounds_toArray, List.set_cons_zero, List.set_cons_succ]
    refine reg_take (v := .bool true) 7 (some 31) rfl rfl (by kernel_rfl) (by kernel_rfl) (by kernel_rfl) (by rfl) HS2.out (fun w hw => by go_simp) ?_
    simp only [Act.put, List.setIfInBounds_toArray, List.set_cons_zero, List.set_cons_succ]
    refine reg_take (v := .pointer (some ⟨g, 0, none⟩)) 8 (some 32) rfl rfl (by kernel_rfl) (by kernel_rfl) (by kernel_rfl) (by rfl) HS2.out (fun w hw => by go_simp) ?_
    simp only [Act.put, List.setIfInBounds_toArray, List.set_cons_zero, List.set_cons_succ]
    refine reg_take (v := .pointer (some ⟨g, 0, none⟩)) 9 (some 33) rfl rfl (by kernel_rfl) (by kernel_rfl) (by kernel_rfl) (by rfl) HS2.out (fun w hw => by go_simp) ?_
    simp only [Act.put, List.setIfInBounds_toArray, List.set_cons_zero, List.set_cons_succ]
    refine reg_load 10 (some 34) 23 (.tmp 7) rfl rfl rfl (by kernel_rfl) (by kernel_rfl) (by kernel_rfl) (by rfl) HS2.out (w.heap.size + 2) 0 rfl (bvs b) _ (fun _ x => x.2) arr16 rfl (by rw [blen HB.out]; kernel_rfl) ?_
    simp only [Act.put, List.setIfInBounds_toArray, List.set_cons_zero, List.set_cons_succ]
    refine reg_load 13 (some 37) 23 (.tmp 7) rfl rfl rfl (by kernel_rfl) (by kernel_rfl) (by kernel_rfl) (by rfl) HS2.out (w.heap.size + 2) 0 rfl (bvs b) _ (fun _ x => x.2) arr16 rfl (by rw [blen HB.out]; kernel_rfl) ?_
    simp only [Act.put, List.setIfInBounds_toArray, List.set_cons_zero, List.set_cons_succ]
    refine reg_call 11 (some 35) rfl rfl (by kernel_rfl) (by rfl) _ _ (by go_simp; exact ⟨rfl, rfl⟩) ?_
    refine (open_any b W g R _ HB.out (HC.out.keep0 HK2.out)).mono ?_
    rintro e w6 ⟨rfl, k6⟩
    rw [← HYD.out]
    have HS3 := Lib.hid (range2 HS2.out k6)
    have HK3 := Lib.hid (HK2.out.trans k6 (fun _ e => e.elim))
    clear HS2 HK2 k6
    refine ⟨_, rfl, HS3.out, fun _ => ?_⟩
    simp only [Act.put, List.setIfInBounds_toArray, List.set_cons_zero, List.set_cons_succ]
    refine reg_call 12 (some 36) rfl rfl (by kernel_rfl) (by rfl) _ _ (by go_simp; exact ⟨rfl, rfl⟩) ?_
    refine (seal_any Y W g R _ HYL.out (HC.out.keep0 HK3.out)).mono ?_
    rintro e w7 ⟨rfl, k7⟩
    rw [HDY.out]
    have HS4 := Lib.hid (range2 HS3.out k7)
    have HK4 := Lib.hid (HK3.out.trans k7 (fun _ e => e.elim))
    clear HS3 HK3 k7
    refine ⟨_, rfl, HS4.out, fun _ => ?_⟩
    simp only [Act.put, List.setIfInBounds_toArray, List.set_cons_zero, List.set_cons_succ]
    refine reg_take (v := .bool true) 14 (some 38) rfl rfl (by kernel_rfl) (by kernel_rfl) (by kernel_rfl) (by rfl) HS4.out (fun w hw => by go_simp) ?_
    simp only [Act.put, List.setIfInBounds_toArray, List.set_cons_zero, List.set_cons_succ]
    refine reg_take (v := .bool true) 15 (some 39) rfl rfl (by kernel_rfl) (by kernel_rfl) (by kernel_rfl) (by rfl) HS4.out (fun w hw => by go_simp) ?_
    simp only [Act.put, List.setIfInBounds_toArray, List.set_cons_zero, List.set_cons_succ]
    refine reg_take (v := .bool true) 16 (some 40) rfl rfl (by kernel_rfl) (by kernel_rfl) (by kernel_rfl) (by rfl) HS4.out (fun w hw => by go_simp) ?_
    simp only [Act.put, List.setIfInBounds_toArray, List.set_cons_zero, List.set_cons_succ]
    refine reg_take (v := .pointer (some ⟨g, 0, none⟩)) 17 (some 41) rfl rfl (by kernel_rfl) (by kernel_rfl) (by kernel_rfl) (by rfl) HS4.out (fun w hw => by go_simp) ?_
    simp only [Act.put, List.setIfInBounds_toArray, List.set_cons_zero, List.set_cons_succ]
    refine reg_load 18 (some 42) 23 (.tmp 6) rfl rfl rfl (by kernel_rfl) (by kernel_rfl) (by kernel_rfl) (by rfl) HS4.out (w.heap.size + 1) 0 rfl (bvs a) _ (fun _ x => x.1) arr16 rfl (by rw [blen HA.out]; kernel_rfl) ?_
    simp only [Act.put, List.setIfInBounds_toArray, List.set_cons_zero, List.set_cons_succ]
    refine reg_take (v := .pointer (some ⟨g, 0, none⟩)) 20 (some 44) rfl rfl (by kernel_rfl) (by kernel_rfl) (by kernel_rfl) (by rfl) HS4.out (fun w hw => by go_simp) ?_
    simp only [Act.put, List.setIfInBounds_toArray, List.set_cons_zero, List.set_cons_succ]
    refine reg_load 21 (some 45) 23 (.tmp 7) rfl rfl rfl (by kernel_rfl) (by kernel_rfl) (by kernel_rfl) (by rfl) HS4.out (w.heap.size + 2) 0 rfl (bvs b) _ (fun _ x => x.2) arr16 rfl (by rw [blen HB.out]; kernel_rfl) ?_
    simp only [Act.put, List.setIfInBounds_toArray, List.set_cons_zero, List.set_cons_succ]
    refine reg_load 24 (some 48) 23 (.tmp 6) rfl rfl rfl (by kernel_rfl) (by kernel_rfl) (by kernel_rfl) (by rfl) HS4.out (w.heap.size + 1) 0 rfl (bvs a) _ (fun _ x => x.1) arr16 rfl (by rw [blen HA.out]; kernel_rfl) ?_
    simp only [Act.put, List.setIfInBounds_toArray, List.set_cons_zero, List.set_cons_succ]
    refine reg_load 25 (some 49) 23 (.tmp 7) rfl rfl rfl (by kernel_rfl) (by kernel_rfl) (by kernel_rfl) (by rfl) HS4.out (w.heap.size + 2) 0 rfl (bvs b) _ (fun _ x => x.2) arr16 rfl (by rw [blen HB.out]; kernel_rfl) ?_
    simp only [Act.put, List.setIfInBounds_toArray, List.set_cons_zero, List.set_cons_succ]
    refine reg_take (v := .bool q) 26 (some 50) rfl rfl (by kernel_rfl) (by kernel_rfl) (by kernel_rfl) (by rfl) HS4.out (fun w hw => by go_simp) ?_
    simp only [Act.put, List.setIfInBounds_toArray, List.set_cons_zero, List.set_cons_succ]
    refine reg_call 19 (some 43) rfl rfl (by kernel_rfl) (by rfl) _ _ (by go_simp; exact ⟨rfl, rfl⟩) ?_
    refine (seal_any a W g R _ HA.out (HC.out.keep0 HK4.out)).mono ?_
    rintro e w8 ⟨rfl, k8⟩
    rw [← HXD.out]
    have HS5 := Lib.hid (range2 HS4.out k8)
    have HK5 := Lib.hid (HK4.out.trans k8 (fun _ e => e.elim))
    clear HS4 HK4 k8
    refine ⟨_, rfl, HS5.out, fun _ => ?_⟩
    simp only [Act.put, List.setIfInBounds_toArray, List.set_cons_zero, List.set_cons_succ]
    refine reg_call 22 (some 46) rfl rfl (by kernel_rfl) (by rfl) _ _ (by go_simp; exact ⟨rfl, rfl⟩) ?_
    refine (seal_any b W g R _ HB.out (HC.out.keep0 HK5.out)).mono ?_
    rintro e w9 ⟨rfl, k9⟩
    rw [← HZD.out]
    have HS6 := Lib.hid (range2 HS5.out k9)
    have HK6 := Lib.hid (HK5.out.trans k9 (fun _ e => e.elim))
    clear HS5 HK5 k9
    refine ⟨_, rfl, HS6.out, fun _ => ?_⟩
    simp only [Act.put, List.setIfInBounds_toArray, List.set_cons_zero, List.set_cons_succ]
    refine reg_take (v := .bool q) 23 (some 47) rfl rfl (by kernel_rfl) (by kernel_rfl) (by kernel_rfl) (by rfl) HS6.out (fun w hw => by go_simp) ?_
    simp only [Act.put, List.setIfInBounds_toArray, List.set_cons_zero, List.set_cons_succ]
    refine reg_take (v := .bool true) 27 (some 51) rfl rfl (by kernel_rfl) (by kernel_rfl) (by kernel_rfl) (by rfl) HS6.out (fun w hw => by go_simp) ?_
    simp only [Act.put, List.setIfInBounds_toArray, List.set_cons_zero, List.set_cons_succ]
    refine reg_take (v := .bool true) 28 (some 52) rfl rfl (by kernel_rfl) (by kernel_rfl) (by kernel_rfl) (by rfl) HS6.out (fun w hw => by go_simp) ?_
    simp only [Act.put, List.setIfInBounds_toArray, List.set_cons_zero, List.set_cons_succ]
    refine reg_take (v := .bool true) 29 (some 8) rfl rfl (by kernel_rfl) (by kernel_rfl) (by kernel_rfl) (by rfl) HS6.out (fun w hw => by go_simp) ?_
    simp only [Act.put, List.setIfInBounds_toArray, List.set_cons_zero, List.set_cons_succ]
    refine reg_end (by kernel_rfl) ?_
    go_wp2
    go_ret
    exact ⟨rfl, HKD.out.trans HK6.out (fun _ e => e.elim)⟩
theorem opens_walk (l : List UInt8) (short : Bool) (a b : List UInt8) (w : World) (ht : Sq w) (hl : l.length = 32) (ha : a.length = 16) (hb : b.length = 16) :
    Calls Tryd.prog 4 #[.agg (bvs l).toArray, .bool short, .agg (bvs a).toArray, .agg (bvs b).toArray] w fun e w' => e = .returned (.bool true) ∧ Kp nob w w' := opens_yes l a b short w ht hl ha hb
end Go.Proofs.YtdoioldlaehkhaaDoor.Aes
