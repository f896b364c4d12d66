/- GhashShifts: the product with x, over and over, is what the document says; with 1 it is the element itself. -/
import Derived.Test.YtefpdnfogdioeaaGhashL
namespace Go.Proofs.Ytefpdnfogdioeaa.Ghash
set_option linter.unusedVariables false
set_option linter.unusedSimpArgs false
open Go Go.RowKit Kit
open Aes (gb tb tb_length gb_tb tb_gb tb_ext tb_eq blk_byte arr16)
open Field (cb cb_inj)

theorem shift_n (a : List UInt8) (k : Nat) : tms (shifts a k) x16 = shifts a (k + 1) := by rw [tms_x, shifts_succ]
/-- The element that came in. -/
structure Ra (w : World) (a : List UInt8) (w2 : World) : Prop where
  kp : Kp nob w w2
  a : Blk w2 w.heap.size 22 (bvs a)
theorem Ra.keep {w w2 w3 : World} {a : List UInt8} (y : Ra w a w2) (k : Kp nob w2 w3) : Ra w a w3 := ⟨y.kp.trans k (fun _ e => e.elim), y.a.keep k (fun e => e)⟩
theorem Ra.far {w w2 w3 : World} {a : List UInt8} {g : Nat} (y : Ra w a w2) (hg : w.heap.size < g) (k : Kp (oneB g) w2 w3) : Ra w a w3 := ⟨y.kp.since k (fun i e => by unfold oneB at e; omega), y.a.keep k (fun e => by unfold oneB at e; omega)⟩
/-- Two of one value, the code's and the document's. -/
structure Xy (w : World) (p q : Nat) (x y : List UInt8) (w2 : World) : Prop where
  kp : Kp nob w w2
  x : Blk w2 p 24 (bvs x)
  y : Blk w2 q 22 (bvs y)
theorem Xy.keep {w w2 w3 : World} {p q : Nat} {x y : List UInt8} (h : Xy w p q x y w2) (k : Kp nob w2 w3) : Xy w p q x y w3 := ⟨h.kp.trans k (fun _ e => e.elim), h.x.keep k (fun e => e), h.y.keep k (fun e => e)⟩
theorem Xy.outX {w w2 w3 : World} {p q : Nat} {x y x2 : List UInt8} (h : Xy w p q x y w2) (hp : w.heap.size ≤ p) (hn : p ≠ q) (k : Kp (oneB p) w2 w3) (hx : Blk w3 p 24 (bvs x2)) : Xy w p q x2 y w3 := ⟨h.kp.since k (fun i e => by unfold oneB at e; omega), hx, h.y.keep k (fun e => by unfold oneB at e; omega)⟩
theorem Xy.outY {w w2 w3 : World} {p q : Nat} {x y y2 : List UInt8} (h : Xy w p q x y w2) (hp : w.heap.size ≤ q) (hn : p ≠ q) (k : Kp (oneB q) w2 w3) (hy : Blk w3 q 22 (bvs y2)) : Xy w p q x y2 w3 := ⟨h.kp.since k (fun i e => by unfold oneB at e; omega), h.x.keep k (fun e => by unfold oneB at e; omega), hy⟩

set_option maxHeartbeats 8000000 in
set_option maxRecDepth 100000 in
theorem shifts_yes (a : List UInt8) (n : Nat) (w : World) (ha : a.length = 16) (hn : n ≤ 200) :
    Calls Try.prog 8 #[.agg (bvs a).toArray, .int .i64 n] w fun e w' => e = .returned (.bool true) ∧ Kp nob w w' := by
  have HA := Lib.hid ha; have HAL := Lib.hid (len16 ha)
  have HSL := Lib.hid (fun k => shifts_length a ha k)
  have HSB := Lib.hid (fun k => len16 (shifts_length a ha k))
  have HZ := Lib.hid (len16 none_length)
  have HX16 := Lib.hid (show (bvs x16).toArray = #[.int .u8 64, .int .u8 0, .int .u8 0, .int .u8 0, .int .u8 0, .int .u8 0, .int .u8 0, .int .u8 0, .int .u8 0, .int .u8 0, .int .u8 0, .int .u8 0, .int .u8 0, .int .u8 0, .int .u8 0, .int .u8 0] from rfl)
  have H0 : Hid (Ra w a (w.alloc (.cells (bvs a).toArray 22))) := Lib.hid ⟨(Kp.refl nob w).alloc _, Blk.new' rfl rfl⟩
  clear ha
  go_enter Try.func8, Try.ntmps8
  go_wp2_with fail
  refine (alive_yes _).mono ?_
  rintro e w1 ⟨rfl, k1⟩
  have H1 := Lib.hid (H0.out.keep k1)
  clear H0 k1
  go_wp2
  refine reg_start (fun w' => Ra w a w') (by kernel_rfl) (H1.out.keep (Kp.refl nob _).drew) (fun w3 hS => ?_)
  have HS0 := Lib.hid hS
  clear hS H1
  refine reg_load 0 (some 16) 22 (.tmp 2) rfl rfl rfl (by kernel_rfl) (by kernel_rfl) (by kernel_rfl) (by rfl) HS0.out w.heap.size 0 rfl (bvs a) _ (fun _ x => x.a.range) arr16 rfl (by rw [HAL.out]; kernel_rfl) ?_
  simp only [Act.put, List.setIfInBounds_toArray, List.set_cons_zero, List.set_cons_succ]
  refine reg_load 1 (some 17) 22 (.tmp 2) rfl rfl rfl (by kernel_rfl) (by kernel_rfl) (by kernel_rfl) (by rfl) HS0.out w.heap.size 0 rfl (bvs a) _ (fun _ x => x.a.range) arr16 rfl (by rw [HAL.out]; kernel_rfl) ?_
  simp only [Act.put, List.setIfInBounds_toArray, List.set_cons_zero, List.set_cons_succ]
  have HSI := Lib.hid (HS0.out.keep ((Kp.refl nob w3).alloc (.cells (bvs none16).toArray 24)))
  have HSJ := Lib.hid (HS0.out.keep ((Kp.refl nob w3).alloc (.cells (bvs none16).toArray 22)))
  have HLT := Lib.hid HS0.out.a.lt
  refine reg_stepOr (v := (.pointer (some ⟨w3.heap.size, 0, none⟩))) (u := (.pointer (some ⟨w3.heap.size, 0, none⟩))) (wi := w3.alloc (.cells (bvs none16).toArray 24)) (wj := w3.alloc (.cells (bvs none16).toArray 22)) 2 3 (some 5) (some 6) rfl rfl rfl rfl (by kernel_rfl) (by rfl) (by rfl) (by go_simp; rfl) (by go_simp; rfl) HSI.out HSJ.out (fun _ => ?first) (fun _ => ?second)
  case' first =>
    simp only [Act.put, List.setIfInBounds_toArray, List.set_cons_zero, List.set_cons_succ]
    have HSK := Lib.hid (HSI.out.keep ((Kp.refl nob _).alloc (.cells (bvs none16).toArray 22)))
    refine reg_step (w' := (w3.alloc (.cells (bvs none16).toArray 24)).alloc (.cells (bvs none16).toArray 22)) (v := (.pointer (some ⟨w3.heap.size + 1, 0, none⟩))) 3 (some 6) rfl rfl (by kernel_rfl) (by rfl) (by go_simp; rfl) HSK.out (fun _ => ?_)
    simp only [Act.put, List.setIfInBounds_toArray, List.set_cons_zero, List.set_cons_succ]
    have HX5 : Hid (Blk ((w3.alloc (.cells (bvs none16).toArray 24)).alloc (.cells (bvs none16).toArray 22)) w3.heap.size 24 (bvs none16)) := Lib.hid ((Blk.new' rfl rfl).alloc _)
    have HX6 : Hid (Blk ((w3.alloc (.cells (bvs none16).toArray 24)).alloc (.cells (bvs none16).toArray 22)) (w3.heap.size + 1) 22 (bvs none16)) := Lib.hid (Blk.new' (by simp) rfl)
    obtain ⟨p5, h5⟩ : ∃ p, p = w3.heap.size := ⟨_, rfl⟩
    obtain ⟨p6, h6⟩ : ∃ p, p = w3.heap.size + 1 := ⟨_, rfl⟩
    have HPQ : Hid (p5 ≠ p6 ∧ w.heap.size < p5 ∧ w.heap.size < p6) := Lib.hid (by have := HLT.out; omega)
    rw [← h5] at HX5; rw [← h6] at HX6
    rw [← h6, ← h5]
    generalize (w3.alloc (.cells (bvs none16).toArray 24)).alloc (.cells (bvs none16).toArray 22) = w5 at *
  case' second =>
    simp only [Act.put, List.setIfInBounds_toArray, List.set_cons_zero, List.set_cons_succ]
    have HSK := Lib.hid (HSJ.out.keep ((Kp.refl nob _).alloc (.cells (bvs none16).toArray 24)))
    refine reg_step (w' := (w3.alloc (.cells (bvs none16).toArray 22)).alloc (.cells (bvs none16).toArray 24)) (v := (.pointer (some ⟨w3.heap.size + 1, 0, none⟩))) 2 (some 5) rfl rfl (by kernel_rfl) (by rfl) (by go_simp; rfl) HSK.out (fun _ => ?_)
    simp only [Act.put, List.setIfInBounds_toArray, List.set_cons_zero, List.set_cons_succ]
    have HX5 : Hid (Blk ((w3.alloc (.cells (bvs none16).toArray 22)).alloc (.cells (bvs none16).toArray 24)) (w3.heap.size + 1) 24 (bvs none16)) := Lib.hid (Blk.new' (by simp) rfl)
    have HX6 : Hid (Blk ((w3.alloc (.cells (bvs none16).toArray 22)).alloc (.cells (bvs none16).toArray 24)) w3.heap.size 22 (bvs none16)) := Lib.hid ((Blk.new' rfl rfl).alloc _)
    obtain ⟨p5, h5⟩ : ∃ p, p = w3.heap.size + 1 := ⟨_, rfl⟩
    obtain ⟨p6, h6⟩ : ∃ p, p = w3.heap.size := ⟨_, rfl⟩
    have HPQ : Hid (p5 ≠ p6 ∧ w.heap.size < p5 ∧ w.heap.size < p6) := Lib.hid (by have := HLT.out; omega)
    rw [← h5] at HX5; rw [← h6] at HX6
    rw [← h5, ← h6]
    generalize (w3.alloc (.cells (bvs none16).toArray 22)).alloc (.cells (bvs none16).toArray 24) = w5 at *
  all_goals
    clear h5 h6 HSI HSJ HS0 HLT
    refine reg_store 4 none 24 (.tmp 5) (.tmp 16) rfl rfl rfl (by kernel_rfl) (by rfl) p5 _ _ (bvs a) HX5.out rfl rfl (by rw [HZ.out, HAL.out]) (by rw [HAL.out]; kernel_rfl) (bvs_one _) ?_
    intro w6 hB6 k6 z6
    have HS6 := Lib.hid (HSK.out.far HPQ.out.2.1 k6)
    have HX := Lib.hid hB6
    have HX6' := Lib.hid (HX6.out.keep k6 (fun e => by have := HPQ.out; unfold oneB at e; omega))
    clear hB6 k6 z6 HX5 HX6 HSK
    refine ⟨HS6.out, fun _ => ?_⟩
    simp only [Act.put, List.setIfInBounds_toArray, List.set_cons_zero, List.set_cons_succ]
    refine reg_store 5 none 22 (.tmp 6) (.tmp 17) rfl rfl rfl (by kernel_rfl) (by rfl) p6 _ _ (bvs a) HX6'.out rfl rfl (by rw [HZ.out, HAL.out]) (by rw [HAL.out]; kernel_rfl) (bvs_one _) ?_
    intro w7 hB7 k7 z7
    have HS7 := Lib.hid (HS6.out.far HPQ.out.2.2 k7)
    have HXY : Hid (Xy w p5 p6 (shifts a 0) (shifts a 0) w7) := Lib.hid (by rw [shifts_zero]; exact ⟨HS7.out.kp, HX.out.keep k7 (fun e => by have := HPQ.out; unfold oneB at e; omega), hB7⟩)
    clear hB7 k7 z7 HX HX6' HS6
    refine ⟨HS7.out, fun _ => ?_⟩
    simp only [Act.put, List.setIfInBounds_toArray, List.set_cons_zero, List.set_cons_succ]
    refine reg_end (by kernel_rfl) ?_
    clear HS7
    go_wp2
    go_loopw [7] (fun vi wr => ∃ k : Nat, k ≤ n ∧ vi = .int .i64 k ∧ Xy w p5 p6 (shifts a k) (shifts a k) wr)
      (fun vi _ => n - (intOf vi).toNat)
    case atStart => exact ⟨0, by omega, rfl, HXY.out⟩
    case round =>
      obtain ⟨k, hk, rfl, h3⟩ := hrel
      have H3 := Lib.hid h3; clear h3
      by_cases hlt : k < n
      · obtain ⟨Y, hY⟩ : ∃ Y, Y = shifts a (k + 1) := ⟨_, rfl⟩
        have HY := Lib.hid (show Y.length = 16 by rw [hY]; exact HSL.out _)
        have HYB := Lib.hid (len16 HY.out)
        have HT := Lib.hid (show tms (shifts a k) x16 = Y by rw [hY, shift_n])
        have HT2 := Lib.hid (show shift (shifts a k) = Y by rw [hY, shifts_succ])
        have q1 := fun w => eqB_same Y HY.out w
        have HYE := Lib.hid hY
        clear hY
        go_wp2_with (refine wpList_load_blk rfl 24 (.tmp 5) rfl _ _ _ H3.out.x rfl _ arrB rfl (by rw [HSB.out]; kernel_rfl) ?_)
        rw [← HX16.out]
        refine (times_any (shifts a k) x16 wr (HSL.out k) x_length).mono ?_
        rintro e w8 ⟨rfl, k8⟩
        rw [HT.out]
        have H4 := Lib.hid (H3.out.keep k8)
        clear k8 H3
        go_wp2_with (first
          | (refine wpList_store_blk rfl 24 (.tmp 5) (.tmp 25) rfl _ _ _ (bvs Y) H4.out.x rfl rfl (by rw [HSB.out, HYB.out]) (by rw [HYB.out]; kernel_rfl) (bvs_one _) ?_
             intro w9 hB9 k9 z9
             have H5 := Lib.hid (H4.out.outX (Nat.le_of_lt HPQ.out.2.1) HPQ.out.1 k9 hB9)
             clear hB9 k9 z9 H4)
          | (refine wpList_load_blk rfl 22 (.tmp 6) rfl _ _ _ H5.out.y rfl _ arr16 rfl (by rw [HSB.out]; kernel_rfl) ?_))
        refine (fShift (shifts a k) w9 (HSL.out k)).mono ?_
        rintro e w10 ⟨rfl, k10⟩
        rw [HT2.out]
        have H6 := Lib.hid (H5.out.keep k10)
        clear k10 H5
        go_wp2_with (first
          | (refine wpList_store_blk rfl 22 (.tmp 6) (.tmp 27) rfl _ _ _ (bvs Y) H6.out.y rfl rfl (by rw [HSB.out, HYB.out]) (by rw [HYB.out]; kernel_rfl) (bvs_one _) ?_
             intro w11 hB11 k11 z11
             have H7 := Lib.hid (H6.out.outY (Nat.le_of_lt HPQ.out.2.2) HPQ.out.1 k11 hB11)
             clear hB11 k11 z11 H6)
          | (refine wpList_load_blk rfl 24 (.tmp 5) rfl _ _ _ H7.out.x rfl _ arrB rfl (by rw [HYB.out]; kernel_rfl) ?_)
          | (refine wpList_load_blk rfl 22 (.tmp 6) rfl _ _ _ H7.out.y rfl _ arr16 rfl (by rw [HYB.out]; kernel_rfl) ?_))
        go_roundw
        case rel => exact ⟨k + 1, by omega, by go_num, by rw [← HYE.out]; exact H7.out⟩
        case measure => simp [intOf]; omega
      · obtain ⟨Y, hY⟩ : ∃ Y, Y = shifts a k := ⟨_, rfl⟩
        have HY := Lib.hid (show Y.length = 16 by rw [hY]; exact HSL.out _)
        have HYB := Lib.hid (len16 HY.out)
        have HO1 := Lib.hid (tms_one Y HY.out)
        have HO2 := Lib.hid (one_tms Y HY.out)
        have q1 := fun w => eqB_same Y HY.out w
        rw [← hY] at H3
        clear hY
        go_wp2
        refine reg_start (fun w' => Xy w p5 p6 Y Y w') (by kernel_rfl) (H3.out.keep (Kp.refl nob _).drew) (fun w3 hS => ?_)
        have HS0 := Lib.hid hS
        clear hS H3
        refine reg_load 0 (some 31) 24 (.tmp 5) rfl rfl rfl (by kernel_rfl) (by kernel_rfl) (by kernel_rfl) (by rfl) HS0.out (p5) 0 rfl (bvs Y) _ (fun _ x => x.x.range) arrB rfl (by rw [HYB.out]; kernel_rfl) ?_
        simp only [Act.put, List.setIfInBounds_toArray, List.set_cons_zero, List.set_cons_succ]
        refine reg_take (v := .agg (bvs one16).toArray) 1 (some 32) rfl rfl (by kernel_rfl) (by kernel_rfl) (by kernel_rfl) (by rfl) HS0.out (fun w hw => by go_simp; rfl) ?_
        simp only [Act.put, List.setIfInBounds_toArray, List.set_cons_zero, List.set_cons_succ]
        refine reg_load 3 (some 34) 24 (.tmp 5) rfl rfl rfl (by kernel_rfl) (by kernel_rfl) (by kernel_rfl) (by rfl) HS0.out (p5) 0 rfl (bvs Y) _ (fun _ x => x.x.range) arrB rfl (by rw [HYB.out]; kernel_rfl) ?_
        simp only [Act.put, List.setIfInBounds_toArray, List.set_cons_zero, List.set_cons_succ]
        refine reg_call 2 (some 33) rfl rfl (by kernel_rfl) (by rfl) _ _ (exec_func 10 _ _ [.agg (bvs Y).toArray, .agg (bvs one16).toArray] rfl (by kernel_rfl) rfl) ?_
        refine (times_any Y one16 _ HY.out one_length).mono ?_
        rintro e w20 ⟨rfl, k20⟩
        rw [HO1.out]
        have HS1 := Lib.hid (HS0.out.keep k20)
        clear HS0 k20
        refine ⟨_, rfl, HS1.out, fun _ => ?_⟩
        simp only [Act.put, List.setIfInBounds_toArray, List.set_cons_zero, List.set_cons_succ]
        refine reg_take (v := .bool true) 4 (some 35) rfl rfl (by kernel_rfl) (by kernel_rfl) (by kernel_rfl) (by rfl) HS1.out (fun w hw => by go_simp) ?_
        simp only [Act.put, List.setIfInBounds_toArray, List.set_cons_zero, List.set_cons_succ]
        refine reg_take (v := .bool true) 5 (some 36) rfl rfl (by kernel_rfl) (by kernel_rfl) (by kernel_rfl) (by rfl) HS1.out (fun w hw => by go_simp) ?_
        simp only [Act.put, List.setIfInBounds_toArray, List.set_cons_zero, List.set_cons_succ]
        refine reg_take (v := .agg (bvs one16).toArray) 6 (some 37) rfl rfl (by kernel_rfl) (by kernel_rfl) (by kernel_rfl) (by rfl) HS1.out (fun w hw => by go_simp; rfl) ?_
        simp only [Act.put, List.setIfInBounds_toArray, List.set_cons_zero, List.set_cons_succ]
        refine reg_load 7 (some 38) 24 (.tmp 5) rfl rfl rfl (by kernel_rfl) (by kernel_rfl) (by kernel_rfl) (by rfl) HS1.out (p5) 0 rfl (bvs Y) _ (fun _ x => x.x.range) arrB rfl (by rw [HYB.out]; kernel_rfl) ?_
        simp only [Act.put, List.setIfInBounds_toArray, List.set_cons_zero, List.set_cons_succ]
        refine reg_load 9 (some 40) 24 (.tmp 5) rfl rfl rfl (by kernel_rfl) (by kernel_rfl) (by kernel_rfl) (by rfl) HS1.out (p5) 0 rfl (bvs Y) _ (fun _ x => x.x.range) arrB rfl (by rw [HYB.out]; kernel_rfl) ?_
        simp only [Act.put, List.setIfInBounds_toArray, List.set_cons_zero, List.set_cons_succ]
        refine reg_call 8 (some 39) rfl rfl (by kernel_rfl) (by rfl) _ _ (exec_func 10 _ _ [.agg (bvs one16).toArray, .agg (bvs Y).toArray] rfl (by kernel_rfl) rfl) ?_
        refine (times_any one16 Y _ one_length HY.out).mono ?_
        rintro e w21 ⟨rfl, k21⟩
        rw [HO2.out]
        have HS2 := Lib.hid (HS1.out.keep k21)
        clear HS1 k21
        refine ⟨_, rfl, HS2.out, fun _ => ?_⟩
        simp only [Act.put, List.setIfInBounds_toArray, List.set_cons_zero, List.set_cons_succ]
        refine reg_take (v := .bool true) 10 (some 41) rfl rfl (by kernel_rfl) (by kernel_rfl) (by kernel_rfl) (by rfl) HS2.out (fun w hw => by go_simp) ?_
        simp only [Act.put, List.setIfInBounds_toArray, List.set_cons_zero, List.set_cons_succ]
        refine reg_take (v := .bool true) 11 (some 42) rfl rfl (by kernel_rfl) (by kernel_rfl) (by kernel_rfl) (by rfl) HS2.out (fun w hw => by go_simp) ?_
        simp only [Act.put, List.setIfInBounds_toArray, List.set_cons_zero, List.set_cons_succ]
        refine reg_take (v := .bool true) 12 (some 4) rfl rfl (by kernel_rfl) (by kernel_rfl) (by kernel_rfl) (by rfl) HS2.out (fun w hw => by go_simp) ?_
        simp only [Act.put, List.setIfInBounds_toArray, List.set_cons_zero, List.set_cons_succ]
        refine reg_end (by kernel_rfl) ?_
        go_wp2
        go_ret
        exact ⟨rfl, HS2.out.kp⟩
theorem shifts_walk (a : List UInt8) (i : Int) (w : World) (ha : a.length = 16) (_h : (Lit.int .i64 i).wf = true) :
    Calls Try.prog 8 #[.agg (bvs a).toArray, .int .i64 i] w fun e w' => e = .returned (.bool true) ∧ Kp nob w w' := by
  by_cases h1 : 0 ≤ i ∧ i ≤ 200
  · obtain ⟨n, rfl⟩ := Int.eq_ofNat_of_zero_le h1.1
    exact shifts_yes a n w ha (by omega)
  · have H0 : Hid (Kp nob w (w.alloc (.cells (bvs a).toArray 22))) := Lib.hid ((Kp.refl nob w).alloc _)
    have HQ := Lib.hid h1
    clear ha h1
    go_enter Try.func8, Try.ntmps8
    go_wp2_with fail
    refine (alive_yes _).mono ?_
    rintro e w1 ⟨rfl, k1⟩
    have H1 := Lib.hid (H0.out.trans k1 (fun _ e => e.elim))
    clear H0 k1
    by_cases h2 : i < 0
    · go_wp2
      go_ret
      exact ⟨rfl, H1.out⟩
    · have h3 : 200 < i := by have := HQ.out; omega
      go_wp2
      go_ret
      exact ⟨rfl, H1.out⟩
end Go.Proofs.Ytefpdnfogdioeaa.Ghash
