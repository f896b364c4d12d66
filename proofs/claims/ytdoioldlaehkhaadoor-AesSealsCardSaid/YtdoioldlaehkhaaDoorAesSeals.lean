/- AesSeals: New and Seal are the document's, of all keys and blocks; a nil cipher. -/
import Derived.Test.YtdoioldlaehkhaaDoorAesL
import Derived.Test.YtdoioldlaehkhaaDoorBlkG
namespace Go.Proofs.YtdoioldlaehkhaaDoor.Aes
open Go Go.RowKit Kit
open Field (cb cb_inj Sq)

theorem eqB_lit (w : World) : (Op.equalIn 10000 30 (.agg (bvs noughts).toArray) (.agg #[Value.int IntKind.u8 0, Value.int IntKind.u8 0, Value.int IntKind.u8 0, Value.int IntKind.u8 0, Value.int IntKind.u8 0, Value.int IntKind.u8 0, Value.int IntKind.u8 0, Value.int IntKind.u8 0, Value.int IntKind.u8 0, Value.int IntKind.u8 0, Value.int IntKind.u8 0, Value.int IntKind.u8 0, Value.int IntKind.u8 0, Value.int IntKind.u8 0, Value.int IntKind.u8 0, Value.int IntKind.u8 0])).run Tryd.prog w = .ok true w := eqB_same noughts rfl w

set_option maxHeartbeats 1000000 in
set_option maxRecDepth 100000 in
theorem seals_long (A : Option Addr) (n cA : Nat) (b : List UInt8) (w : World) (ht : Sq w) (hn : 1024 < n) (hnm : n ≤ maxLen) :
    Calls Tryd.prog 3 #[.slice A n cA, .agg (bvs b).toArray] w fun e w' => e = .returned (.bool true) ∧ Kp nob w w' := by
  have hk0 := (Kp.refl nob w).alloc (.cells (bvs b).toArray 23)
  have HK := Lib.hid hk0; clear hk0
  go_enter Tryd.func3, Tryd.ntmps3
  go_wp2_with fail
  refine (alive_yes _ (ht.keep0 HK.out)).mono ?_
  rintro e w1 ⟨rfl, k1⟩
  go_wp2
  go_ret
  exact ⟨rfl, HK.out.trans k1 (fun _ e => e.elim)⟩
set_option maxHeartbeats 1000000 in
set_option maxRecDepth 100000 in
theorem seals_no (A : Option Addr) (n cA : Nat) (b : List UInt8) (w : World) (ht : Sq w) (hb : b.length = 16) (hn : n ≤ 1024) (h1 : n ≠ 16) (h2 : n ≠ 32) :
    Calls Tryd.prog 3 #[.slice A n cA, .agg (bvs b).toArray] w fun e w' => e = .returned (.bool true) ∧ Kp nob w w' := by
  have HT := Lib.hid ht; have HB := Lib.hid hb
  have HK := Lib.hid ((Kp.refl nob w).alloc (.cells (bvs b).toArray 23))
  have HB0 := Lib.hid (Blk.new w 23 (bvs b))
  have d1 : ((n : Int) != 16) = true := by rw [bne_iff_ne]; omega
  have d2 : ((n : Int) != 32) = true := by rw [bne_iff_ne]; omega
  have hq := eqB_lit
  clear ht hb
  go_enter Tryd.func3, Tryd.ntmps3
  go_wp2_with fail
  refine (alive_yes _ (HT.out.keep0 HK.out)).mono ?_
  rintro e w1 ⟨rfl, k1⟩
  go_wp2_with fail
  refine (new_no A n cA _ h1 h2 (by omega)).mono ?_
  rintro e w2 ⟨rfl, rfl⟩
  have HK2 := Lib.hid (HK.out.trans k1 (fun _ e => e.elim)); have HB2 := Lib.hid (HB0.out.keep k1 (fun e => e))
  clear HK HB0 k1
  go_wp2_with fail
  refine (rounds_nil _).mono ?_
  rintro e wa ⟨rfl, rfl⟩
  go_wp2_with (refine wpList_load_gd 23 (.tmp 3) rfl rfl _ _ _ HB2.out rfl _ arr16 rfl (by rw [blen HB.out]; kernel_rfl) ?_)
  refine (seal_nil b _ HB.out).mono ?_
  rintro e w3 ⟨rfl, k3⟩
  have HB3 := Lib.hid (HB2.out.keep k3 (fun e => e)); have HK3 := Lib.hid (HK2.out.trans k3 (fun _ e => e.elim))
  clear HB2 HK2 k3
  go_wp2_with (refine wpList_load_gd 23 (.tmp 3) rfl rfl _ _ _ HB3.out rfl _ arr16 rfl (by rw [blen HB.out]; kernel_rfl) ?_)
  refine (open_nil b _ HB.out).mono ?_
  rintro e w4 ⟨rfl, k4⟩
  have HB4 := Lib.hid (HB3.out.keep k4 (fun e => e)); have HK4 := Lib.hid (HK3.out.trans k4 (fun _ e => e.elim))
  clear HB3 HK3 k4
  go_wp2
  go_ret
  exact ⟨rfl, HK4.out⟩
set_option maxHeartbeats 4000000 in
set_option maxRecDepth 100000 in
theorem seals_yes (A : Option Addr) (n cA : Nat) (l b : List UInt8) (w : World) (ht : Sq w) (hl : l.length = 4 * n) (hr : Row w A (bvs l)) (hc : 4 * n ≤ cA) (hb : b.length = 16) (hn : n = 4 ∨ n = 8) :
    Calls Tryd.prog 3 #[.slice A (4 * n) cA, .agg (bvs b).toArray] w fun e w' => e = .returned (.bool true) ∧ Kp nob w w' := by
  have HT := Lib.hid ht; have HB := Lib.hid hb; have HL := Lib.hid hl; have HR := Lib.hid hr
  have HK := Lib.hid ((Kp.refl nob w).alloc (.cells (bvs b).toArray 23))
  have HB0 := Lib.hid (Blk.new w 23 (bvs b))
  have hq := eqB_lit
  have HNN := Lib.hid hn
  have hn9 : n ≤ 8 := by omega
  have hn1 : 1 ≤ n := by omega
  clear ht hb hl hr
  go_enter Tryd.func3, Tryd.ntmps3
  go_wp2_with fail
  refine (alive_yes _ (HT.out.keep0 HK.out)).mono ?_
  rintro e w1 ⟨rfl, k1⟩
  have HK1 := Lib.hid (HK.out.trans k1 (fun _ e => e.elim)); have HB1 := Lib.hid (HB0.out.keep k1 (fun e => e))
  clear HK HB0 k1
  go_wp2_with fail
  refine (new_yes n l A cA _ (HT.out.keep0 HK1.out) HL.out HNN.out (HR.out.keep0 HK1.out) hc).mono ?_
  rintro e w2 ⟨g, rfl, hcc, hg, k2⟩
  have HC2 := Lib.hid hcc
  have HK2 := Lib.hid (HK1.out.trans k2 (fun _ e => e.elim)); have HB2 := Lib.hid (HB1.out.keep k2 (fun e => e))
  clear HK1 HB1 k2 hcc hg
  go_wp2_with fail
  refine (rounds_nil _).mono ?_
  rintro e wa ⟨rfl, rfl⟩
  go_wp2_with (refine wpList_load_gd 23 (.tmp 3) rfl rfl _ _ _ HB2.out rfl _ arr16 rfl (by rw [blen HB.out]; kernel_rfl) ?_)
  refine (seal_nil b _ HB.out).mono ?_
  rintro e w3 ⟨rfl, k3⟩
  have HB3 := Lib.hid (HB2.out.keep k3 (fun e => e)); have HK3 := Lib.hid (HK2.out.trans k3 (fun _ e => e.elim)); have HC3 := Lib.hid (HC2.out.keep0 k3)
  clear HB2 HK2 k3 HC2
  go_wp2_with (refine wpList_load_gd 23 (.tmp 3) rfl rfl _ _ _ HB3.out rfl _ arr16 rfl (by rw [blen HB.out]; kernel_rfl) ?_)
  refine (open_nil b _ HB.out).mono ?_
  rintro e w4 ⟨rfl, k4⟩
  have HB4 := Lib.hid (HB3.out.keep k4 (fun e => e)); have HK4 := Lib.hid (HK3.out.trans k4 (fun _ e => e.elim)); have HC4 := Lib.hid (HC3.out.keep0 k4)
  clear HB3 HK3 k4 HC3
  obtain ⟨N, hN⟩ : ∃ N, N = n + 6 := ⟨_, rfl⟩
  obtain ⟨X, hX⟩ : ∃ X, X = enc (allW l) (n + 5) b := ⟨_, rfl⟩
  have HN := Lib.hid (show N = n + 5 + 1 by omega); have HXD := Lib.hid hX
  have q3 := fun w => eqB_same X (by rw [hX]; exact enc_length _ _ _) w
  have e1 : (4 * (n : Int)).tdiv 4 = (n : Int) := by rw [Int.tdiv_eq_ediv_of_nonneg (by omega)]; omega
  have e2 : IntKind.i64.wrap ((n : Int) + 6) = (N : Int) := wrap_to _ _ (by omega) (by omega)
  have e3 : ((N : Int) == (N : Int)) = true := by simp
  have e4 : IntKind.i64.wrap (n : Int) = (n : Int) := wrap_to _ _ rfl (by omega)
  clear hX hN
  have d0 : decide ((1024 : Int) < 4 * (n : Int)) = false := by rw [decide_eq_false_iff_not]; omega
  rcases HNN.out with h4 | h8
  case' inl =>
    have f1 : (4 * (n : Int) != 16) = false := by rw [h4]; rfl
    clear h4
    go_wp2
  case' inr =>
    have f1 : (4 * (n : Int) != 16) = true := by rw [h8]; rfl
    have f2 : (4 * (n : Int) != 32) = false := by rw [h8]; rfl
    clear h8
    go_wp2
  all_goals
    have HC := Lib.hid (HC4.out.keep0 (Kp.refl nob w4).drew)
    have HKD := Lib.hid (HK4.out.drew)
    have HK0 := Lib.hid (Kp.refl nob w4.drew)
    have HS0 := Lib.hid (range_keep HB4.out.range (Kp.refl nob w4).drew (fun e => e))
    clear HC4 HK4 HB4
    refine reg_begin (fun w' => w'.rangeAt w.heap.size 0 (bvs b)) (by kernel_rfl) HS0.out (fun _ => ?_)
    generalize w4.drew = wd at *
    refine reg_take (v := .int .i64 0) 0 (some 49) rfl rfl (by kernel_rfl) (by kernel_rfl) (by kernel_rfl) (by rfl) HS0.out (fun w hw => by go_simp) ?_
    simp only [Act.put, List.setIfInBounds_toArray, List.set_cons_zero, List.set_cons_succ]
    refine reg_take (v := .bool true) 1 (some 50) rfl rfl (by kernel_rfl) (by kernel_rfl) (by kernel_rfl) (by rfl) HS0.out (fun w hw => by go_simp) ?_
    simp only [Act.put, List.setIfInBounds_toArray, List.set_cons_zero, List.set_cons_succ]
    refine reg_take (v := .bool true) 2 (some 51) rfl rfl (by kernel_rfl) (by kernel_rfl) (by kernel_rfl) (by rfl) HS0.out (fun w hw => by go_simp) ?_
    simp only [Act.put, List.setIfInBounds_toArray, List.set_cons_zero, List.set_cons_succ]
    refine reg_take (v := .pointer (some ⟨g, 0, none⟩)) 3 (some 52) rfl rfl (by kernel_rfl) (by kernel_rfl) (by kernel_rfl) (by rfl) HS0.out (fun w hw => by go_simp) ?_
    simp only [Act.put, List.setIfInBounds_toArray, List.set_cons_zero, List.set_cons_succ]
    refine reg_take (v := .slice A (4 * n) cA) 5 (some 54) rfl rfl (by kernel_rfl) (by kernel_rfl) (by kernel_rfl) (by rfl) HS0.out (fun w hw => by go_simp) ?_
    simp only [Act.put, List.setIfInBounds_toArray, List.set_cons_zero, List.set_cons_succ]
    refine reg_take (v := .int .i64 ((4 * n : Nat) : Int)) 6 (some 55) rfl rfl (by kernel_rfl) (by kernel_rfl) (by kernel_rfl) (by rfl) HS0.out (fun w hw => by go_simp) ?_
    simp only [Act.put, List.setIfInBounds_toArray, List.set_cons_zero, List.set_cons_succ]
    refine reg_take (v := .int .i64 (n : Int)) 7 (some 56) rfl rfl (by kernel_rfl) (by kernel_rfl) (by kernel_rfl) (by rfl) HS0.out (fun w hw => by go_simp) ?_
    simp only [Act.put, List.setIfInBounds_toArray, List.set_cons_zero, List.set_cons_succ]
    refine reg_take (v := .int .i64 (N : Int)) 8 (some 57) rfl rfl (by kernel_rfl) (by kernel_rfl) (by kernel_rfl) (by rfl) HS0.out (fun w hw => by go_simp) ?_
    simp only [Act.put, List.setIfInBounds_toArray, List.set_cons_zero, List.set_cons_succ]
    refine reg_call 4 (some 53) rfl rfl (by kernel_rfl) (by rfl) _ _ (by go_simp; exact ⟨rfl, rfl⟩) ?_
    refine (rounds_any _ g (n + 5) (allW l) (HC.out.keep0 HK0.out)).mono ?_
    rintro e w4 ⟨rfl, rfl⟩
    rw [show ((n + 5 + 1 : Nat) : Int) = (N : Int) by rw [HN.out]]
    refine ⟨_, rfl, HS0.out, fun _ => ?_⟩
    simp only [Act.put, List.setIfInBounds_toArray, List.set_cons_zero, List.set_cons_succ]
    refine reg_take (v := .bool true) 9 (some 58) rfl rfl (by kernel_rfl) (by kernel_rfl) (by kernel_rfl) (by rfl) HS0.out (fun w hw => by go_simp) ?_
    simp only [Act.put, List.setIfInBounds_toArray, List.set_cons_zero, List.set_cons_succ]
    refine reg_take (v := .bool true) 10 (some 59) rfl rfl (by kernel_rfl) (by kernel_rfl) (by kernel_rfl) (by rfl) HS0.out (fun w hw => by go_simp) ?_
    simp only [Act.put, List.setIfInBounds_toArray, List.set_cons_zero, List.set_cons_succ]
    refine reg_take (v := .bool true) 11 (some 60) rfl rfl (by kernel_rfl) (by kernel_rfl) (by kernel_rfl) (by rfl) HS0.out (fun w hw => by go_simp) ?_
    simp only [Act.put, List.setIfInBounds_toArray, List.set_cons_zero, List.set_cons_succ]
    refine reg_take (v := .pointer (some ⟨g, 0, none⟩)) 12 (some 61) rfl rfl (by kernel_rfl) (by kernel_rfl) (by kernel_rfl) (by rfl) HS0.out (fun w hw => by go_simp) ?_
    simp only [Act.put, List.setIfInBounds_toArray, List.set_cons_zero, List.set_cons_succ]
    refine reg_load 13 (some 62) 23 (.tmp 3) rfl rfl rfl (by kernel_rfl) (by kernel_rfl) (by kernel_rfl) (by rfl) HS0.out (w.heap.size) 0 rfl (bvs b) _ (fun _ x => x) arr16 rfl (by rw [blen HB.out]; kernel_rfl) ?_
    simp only [Act.put, List.setIfInBounds_toArray, List.set_cons_zero, List.set_cons_succ]
    refine reg_take (v := .slice A (4 * n) cA) 15 (some 64) rfl rfl (by kernel_rfl) (by kernel_rfl) (by kernel_rfl) (by rfl) HS0.out (fun w hw => by go_simp) ?_
    simp only [Act.put, List.setIfInBounds_toArray, List.set_cons_zero, List.set_cons_succ]
    refine reg_load 17 (some 66) 23 (.tmp 3) rfl rfl rfl (by kernel_rfl) (by kernel_rfl) (by kernel_rfl) (by rfl) HS0.out (w.heap.size) 0 rfl (bvs b) _ (fun _ x => x) arr16 rfl (by rw [blen HB.out]; kernel_rfl) ?_
    simp only [Act.put, List.setIfInBounds_toArray, List.set_cons_zero, List.set_cons_succ]
    refine reg_call 14 (some 63) rfl rfl (by kernel_rfl) (by rfl) _ _ (by go_simp; exact ⟨rfl, rfl⟩) ?_
    refine (seal_any b (allW l) g (n + 5) _ HB.out (HC.out.keep0 HK0.out)).mono ?_
    rintro e w5 ⟨rfl, k5⟩
    rw [← HXD.out]
    have HS1 := Lib.hid (range_keep HS0.out k5 (fun e => e))
    have HK1 := Lib.hid (HK0.out.trans k5 (fun _ e => e.elim))
    clear HS0 HK0 k5
    refine ⟨_, rfl, HS1.out, fun _ => ?_⟩
    simp only [Act.put, List.setIfInBounds_toArray, List.set_cons_zero, List.set_cons_succ]
    refine reg_call 16 (some 65) rfl rfl (by kernel_rfl) (by rfl) _ _ (by go_simp; exact ⟨rfl, rfl⟩) ?_
    refine (fWords l n A cA _ HL.out ((HR.out.keep0 HKD.out).keep0 HK1.out) hc (by omega) (by omega)).mono ?_
    rintro e w6 ⟨⟨Y, cY, rfl, hrY, hcY, _⟩, k6⟩
    have HS2 := Lib.hid (range_keep HS1.out k6 (fun e => e))
    have HK2 := Lib.hid (HK1.out.trans k6 (fun _ e => e.elim))
    have HRY := Lib.hid hrY
    clear HS1 HK1 k6 hrY
    rw [show 4 * (n + 7) = 4 * (n + 5 + 2) by omega] at hcY ⊢
    refine ⟨_, rfl, HS2.out, fun _ => ?_⟩
    simp only [Act.put, List.setIfInBounds_toArray, List.set_cons_zero, List.set_cons_succ]
    refine reg_call 18 (some 67) rfl rfl (by kernel_rfl) (by rfl) _ _ (by go_simp; exact ⟨rfl, rfl⟩) ?_
    refine (fSeal b (allW l) Y cY (n + 5) _ HB.out (by rw [allW_length, HL.out]; omega) HRY.out hcY (by omega)).mono ?_
    rintro e w7 ⟨rfl, k7⟩
    rw [← HXD.out]
    have HS3 := Lib.hid (range_keep HS2.out k7 (fun e => e))
    have HK3 := Lib.hid (HK2.out.trans k7 (fun _ e => e.elim))
    clear HS2 HK2 k7
    refine ⟨_, rfl, HS3.out, fun _ => ?_⟩
    simp only [Act.put, List.setIfInBounds_toArray, List.set_cons_zero, List.set_cons_succ]
    refine reg_take (v := .bool true) 19 (some 68) rfl rfl (by kernel_rfl) (by kernel_rfl) (by kernel_rfl) (by rfl) HS3.out (fun w hw => by go_simp) ?_
    simp only [Act.put, List.setIfInBounds_toArray, List.set_cons_zero, List.set_cons_succ]
    refine reg_take (v := .bool true) 20 (some 69) rfl rfl (by kernel_rfl) (by kernel_rfl) (by kernel_rfl) (by rfl) HS3.out (fun w hw => by go_simp) ?_
    simp only [Act.put, List.setIfInBounds_toArray, List.set_cons_zero, List.set_cons_succ]
    refine reg_take (v := .bool true) 21 (some 4) rfl rfl (by kernel_rfl) (by kernel_rfl) (by kernel_rfl) (by rfl) HS3.out (fun w hw => by go_simp) ?_
    simp only [Act.put, List.setIfInBounds_toArray, List.set_cons_zero, List.set_cons_succ]
    refine reg_end (by kernel_rfl) ?_
    go_wp2
    go_ret
    exact ⟨rfl, HKD.out.trans HK3.out (fun _ e => e.elim)⟩
theorem seals_walk (A : Option Addr) (n cA : Nat) (l b : List UInt8) (w : World) (ht : Sq w) (hl : l.length = n) (_hn : A = none → cA = 0) (hr : Row w A (bvs l)) (hc : n ≤ cA) (hm : cA ≤ maxLen) (hb : b.length = 16) :
    Calls Tryd.prog 3 #[.slice A n cA, .agg (bvs b).toArray] w fun e w' => e = .returned (.bool true) ∧ Kp nob w w' := by
  by_cases h1 : 1024 < n
  · exact seals_long A n cA b w ht h1 (by omega)
  · by_cases h2 : n = 16
    · subst h2; exact seals_yes A 4 cA l b w ht hl hr hc hb (.inl rfl)
    · by_cases h3 : n = 32
      · subst h3; exact seals_yes A 8 cA l b w ht hl hr hc hb (.inr rfl)
      · exact seals_no A n cA b w ht hb (by omega) h2 h3
end Go.Proofs.YtdoioldlaehkhaaDoor.Aes
