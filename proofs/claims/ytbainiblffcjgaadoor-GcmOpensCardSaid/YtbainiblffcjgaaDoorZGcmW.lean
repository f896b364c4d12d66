/- Contracts of the document's own GCM: a text sealed. -/
import Derived.Test.YtbainiblffcjgaaDoorZGcmV
import Derived.Test.YtbainiblffcjgaaDoorZGa
import Derived.Test.YtbainiblffcjgaaDoorZGe
namespace Go.Proofs.YtbainiblffcjgaaDoor.Gcm
set_option linter.unusedVariables false
set_option linter.unusedSimpArgs false
open Go Go.RowKit Kit
open Aes (gb tb tb_length gb_tb tb_gb tb_ext tb_eq arr16 blk_byte enc enc_length fSeal fWords allW allW_length)
open Ghash (none16 none_length len16 str_extract lenS fOf fPlus plus plus_length sum sum_length)
open Field (cb cb_inj)

/-- What stands while a text is sealed. -/
structure Sg (w : World) (n : List UInt8) (X : Option Addr) (W : List UInt8) (w2 : World) : Prop where
  n : Blk w2 w.heap.size 23 (bvs n)
  r : Row w2 X (bvs W)
  kp : Kp nob w w2
theorem Sg.keep {w w2 w3 : World} {n : List UInt8} {X : Option Addr} {W : List UInt8} {F : Nat → Prop} {B : Nat} (x : Sg w n X W w2) (hX : ∀ k, ab X = some k → k < B) (hB : w.heap.size < B) (k : Kp F w2 w3) (hF : ∀ i, F i → B ≤ i) : Sg w n X W w3 :=
  ⟨x.n.keep k (fun e => by have := hF _ e; omega), x.r.keep k (fun j e e' => by have := hF _ e'; have := hX j e; omega), x.kp.since k (fun i e => by have := hF i e; omega)⟩
theorem Sg.keep0 {w w2 w3 : World} {n : List UInt8} {X : Option Addr} {W : List UInt8} (x : Sg w n X W w2) (k : Kp nob w2 w3) : Sg w n X W w3 :=
  ⟨x.n.keep k (fun e => e), x.r.keep k (fun _ _ e => e), x.kp.trans k (fun _ e => e.elim)⟩
theorem Sg.alloc {w w2 : World} {n : List UInt8} {X : Option Addr} {W : List UInt8} (x : Sg w n X W w2) (o : Obj) : Sg w n X W (w2.alloc o) := x.keep0 ((Kp.refl nob _).alloc o)

set_option maxHeartbeats 4000000 in
set_option maxRecDepth 100000 in
theorem fSealG (key : List UInt8) (nk : Nat) (A : Option Addr) (cA : Nat) (n : List UInt8) (text aad : ByteArray) (w : World) (hk : key.length = 4 * nk) (hr : Row w A (bvs key)) (hc : 4 * nk ≤ cA) (hn1 : 1 ≤ nk) (hn8 : nk ≤ 8) (hn : n.length = 12) (ht : text.size ≤ 1000000000000) (ha : aad.size ≤ 1000000000000) :
    Calls Tryd.prog 14 #[.slice A (4 * nk) cA, .agg (bvs n).toArray, .string text, .string aad] w fun e w' => e = .returned (.string (str (gs (allW key) (nk + 5) n (sl text) (sl aad)))) ∧ Kp nob w w' := by
  have HN := Lib.hid hn
  have HNL := Lib.hid (show (bvs n).length = 12 by rw [bvs_length, hn])
  have HWL := Lib.hid (show (allW key).length = 16 * ((nk + 5) + 2) by rw [allW_length, hk]; omega)
  have H0 : Blk (w.alloc (.cells (bvs n).toArray 23)) w.heap.size 23 (bvs n) := Blk.new w _ _
  have HB0 := Lib.hid H0
  have HR := Lib.hid (hr.alloc (.cells (bvs n).toArray 23))
  have HK := Lib.hid hk
  obtain ⟨W, hWd⟩ : ∃ W, W = allW key := ⟨_, rfl⟩
  rw [← hWd] at HWL ⊢
  have HWD := Lib.hid hWd
  clear hn H0 hr hk hWd
  go_enter Tryd.func14, Tryd.ntmps14
  go_wp2_with fail
  refine (fWords key nk A cA _ HK.out HR.out hc hn1 hn8).mono ?_
  rintro e w1 ⟨⟨X, cX, rfl, hx, hcX, hXge⟩, k1⟩
  rw [← HWD.out] at hx
  have hXlt : ∀ k, ab X = some k → k < w1.heap.size := hx.lt (by intro e; have := congrArg List.length e; rw [bvs_length, HWL.out] at this; simp at this)
  have hwB : w.heap.size < w1.heap.size := by have := k1.size; simp at this; omega
  have H1 := Lib.hid (Sg.mk (HB0.out.keep k1 (fun e => e)) hx (((Kp.refl nob w).alloc _).trans k1 (fun _ e => e.elim)))
  have HX := Lib.hid hXlt
  clear hx k1 hXge hXlt
  go_wp2_with (first
    | (refine wpList_load_blk rfl 23 (.tmp 5) rfl _ _ _ H1.out.n rfl _ arr12 rfl (by rw [HNL.out]; kernel_rfl) ?_)
    | fail)
  refine (fStream W X cX (nk + 5) n text w1 HWL.out H1.out.r (by omega) (by omega) HN.out (by omega)).mono ?_
  rintro e w2 ⟨rfl, k2⟩
  have H2 := Lib.hid (H1.out.keep0 k2)
  have s2 := k2.size
  obtain ⟨C, hC⟩ : ∃ C, C = stream W (nk + 5) n (sl text) := ⟨_, rfl⟩
  have HCL := Lib.hid (show C.length = text.size by rw [hC, stream_length, sl_length])
  have HGS := Lib.hid (show gs W (nk + 5) n (sl text) (sl aad) = C ++ tag W (nk + 5) n (sl aad) C by rw [gs_eq, hC])
  rw [← hC]
  clear k2 hC
  go_wp2_with fail
  refine (fSeal none16 W X cX (nk + 5) w2 none_length HWL.out H2.out.r (by omega) (by omega)).mono ?_
  rintro e w3 ⟨rfl, k3⟩
  have H3 := Lib.hid (H2.out.keep0 k3)
  have s3 := k3.size
  clear k3
  go_wp2_with fail
  refine (fOf (enc W (nk + 5) none16) aad (str C) w3 (enc_length _ _ _) (by omega) (by rw [str_size, HCL.out]; omega)).mono ?_
  rintro e w4 ⟨rfl, k4⟩
  rw [sl_str]
  have H4 := Lib.hid (H3.out.keep0 k4)
  have hw4 : w1.heap.size ≤ w4.heap.size := by have := k4.size; omega
  clear s2 s3
  obtain ⟨U, hU⟩ : ∃ U, U = sum (enc W (nk + 5) none16) (sl aad) C := ⟨_, rfl⟩
  have HUL := Lib.hid (show (bvs U).length = 16 by rw [bvs_length, hU, sum_length])
  have HUU := Lib.hid (show U.length = 16 by rw [hU, sum_length])
  have HTG := Lib.hid (show tag W (nk + 5) n (sl aad) C = plus U (enc W (nk + 5) (nb n 1)) by rw [tag_eq, hU])
  rw [← hU]
  clear k4 hU
  have HTL := Lib.hid (show (bvs (tag W (nk + 5) n (sl aad) C)).length = 16 by rw [bvs_length, tag_length])
  have HTGL := Lib.hid (tag_length W (nk + 5) n (sl aad) C)
  have HZ := Lib.hid (len16 none_length)
  go_wp2_with (first
    | (refine wpList_store_new rfl 50 (.tmp 11) (.tmp 24) rfl _ (bvs U) rfl rfl (by rw [HUL.out]; rfl) (by rw [HUL.out]; kernel_rfl) (bvs_one _) ?_
       intro w5 hB5 k5 z5
       have H5 := Lib.hid (And.intro (H4.out.keep0 k5) hB5)
       clear hB5 k5 z5)
    | fail)
  have H6 := Lib.hid (And.intro (H5.out.1.keep0 (Kp.refl nob w5).drew) (H5.out.2.keep (Kp.refl nob w5).drew (fun e => e)))
  refine reg_begin (fun w' => Sg w n X W w' ∧ Blk w' w4.heap.size 50 (bvs U)) (by kernel_rfl) H6.out (fun _ => ?_)
  clear H5
  generalize w5.drew = w6 at *
  refine reg_load 0 (some 25) 50 (.tmp 11) rfl rfl rfl (by kernel_rfl) (by kernel_rfl) (by kernel_rfl) (by rfl) H6.out w4.heap.size 0 rfl (bvs U) _ (fun _ x => x.2.range) arr16 rfl (by rw [HUL.out]; kernel_rfl) ?_
  simp only [Act.put, List.setIfInBounds_toArray, List.set_cons_zero, List.set_cons_succ]
  refine reg_take (v := .slice X (4 * (nk + 7)) cX) 1 (some 26) rfl rfl (by kernel_rfl) (by kernel_rfl) (by kernel_rfl) (by rfl) H6.out (fun w hw => by go_simp) ?_
  simp only [Act.put, List.setIfInBounds_toArray, List.set_cons_zero, List.set_cons_succ]
  refine reg_load 2 (some 27) 23 (.tmp 5) rfl rfl rfl (by kernel_rfl) (by kernel_rfl) (by kernel_rfl) (by rfl) H6.out w.heap.size 0 rfl (bvs n) _ (fun _ x => x.1.n.range) arr12 rfl (by rw [HNL.out]; kernel_rfl) ?_
  simp only [Act.put, List.setIfInBounds_toArray, List.set_cons_zero, List.set_cons_succ]
  refine reg_callOr (w' := w6.alloc (.cells (bvs none16).toArray 50)) (v := .pointer (some ⟨w6.heap.size, 0, none⟩)) 3 6 (some 28) (some 12) rfl rfl rfl rfl (by kernel_rfl) (by rfl) (by rfl) _ _ (exec_func 26 _ _ [.agg (bvs n).toArray, .int .i64 1] rfl (by kernel_rfl) rfl) (by go_simp; rfl) ⟨H6.out.1.alloc _, H6.out.2.alloc _⟩ ?wa1 (fun _ => ?wb1)
  case' wa1 =>
    refine (fBlock n 1 w6 HN.out (by omega)).mono ?_
    rintro e w11 ⟨rfl, k11⟩
    have H11 := Lib.hid (And.intro (H6.out.1.keep0 k11) (H6.out.2.keep k11 (fun e => e)))
    refine ⟨_, rfl, H11.out, fun _ => ?_⟩
    simp only [Act.put, List.setIfInBounds_toArray, List.set_cons_zero, List.set_cons_succ]
    refine reg_callOr (w' := w11.alloc (.cells (bvs none16).toArray 50)) (v := .pointer (some ⟨w11.heap.size, 0, none⟩)) 4 6 (some 29) (some 12) rfl rfl rfl rfl (by kernel_rfl) (by rfl) (by rfl) _ _ (exec_func 24 _ _ [.slice X (4 * (nk + 5 + 2)) cX, .agg (bvs (nb n 1)).toArray] rfl (by kernel_rfl) rfl) (by go_simp; rfl) ⟨H11.out.1.alloc _, H11.out.2.alloc _⟩ ?wa2 (fun _ => ?wb2)
    case' wa2 =>
      refine (fSeal (nb n 1) W X cX (nk + 5) w11 (nb_length n 1 HN.out) HWL.out H11.out.1.r (by omega) (by omega)).mono ?_
      rintro e w12 ⟨rfl, k12⟩
      have H12 := Lib.hid (And.intro (H11.out.1.keep0 k12) (H11.out.2.keep k12 (fun e => e)))
      refine ⟨_, rfl, H12.out, fun _ => ?_⟩
      simp only [Act.put, List.setIfInBounds_toArray, List.set_cons_zero, List.set_cons_succ]
      refine reg_callOr (w' := w12.alloc (.cells (bvs none16).toArray 50)) (v := .pointer (some ⟨w12.heap.size, 0, none⟩)) 5 6 (some 30) (some 12) rfl rfl rfl rfl (by kernel_rfl) (by rfl) (by rfl) _ _ (exec_func 25 _ _ [.agg (bvs U).toArray, .agg (bvs (enc W (nk + 5) (nb n 1))).toArray] rfl (by kernel_rfl) rfl) (by go_simp; rfl) ⟨H12.out.1.alloc _, H12.out.2.alloc _⟩ ?wa3 (fun _ => ?wb3)
      case' wa3 =>
        refine (fPlus U (enc W (nk + 5) (nb n 1)) w12 HUU.out (enc_length _ _ _)).mono ?_
        rintro e w13 ⟨rfl, k13⟩
        rw [← HTG.out]
        have H13 := Lib.hid (And.intro (H12.out.1.keep0 k13) (H12.out.2.keep k13 (fun e => e)))
        refine ⟨_, rfl, H13.out, fun _ => ?_⟩
        simp only [Act.put, List.setIfInBounds_toArray, List.set_cons_zero, List.set_cons_succ]
        refine reg_step (w' := w13.alloc (.cells (bvs none16).toArray 50)) (v := .pointer (some ⟨w13.heap.size, 0, none⟩)) 6 (some 12) rfl rfl (by kernel_rfl) (by rfl) (by go_simp; rfl) ⟨H13.out.1.alloc _, H13.out.2.alloc _⟩ (fun _ => ?_)
        simp only [Act.put, List.setIfInBounds_toArray, List.set_cons_zero, List.set_cons_succ]
        have H14 := Lib.hid (And.intro (H13.out.1.alloc (.cells (bvs none16).toArray 50)) (H13.out.2.alloc (.cells (bvs none16).toArray 50)))
        have hb14 : Blk (w13.alloc (.cells (bvs none16).toArray 50)) w13.heap.size 50 (bvs none16) := Blk.new' rfl rfl
        have hgt14 : w4.heap.size < w13.heap.size := H13.out.2.lt
        refine reg_store 7 none 50 (.tmp 12) (.tmp 30) rfl rfl rfl (by kernel_rfl) (by rfl) w13.heap.size _ _ (bvs (tag W (nk + 5) n (sl aad) C)) hb14 rfl rfl (by rw [HTL.out, HZ.out]) (by rw [HTL.out]; kernel_rfl) (bvs_one _) ?_
        intro w99 hB99 k99 z99
        have hgg : w4.heap.size < w13.heap.size := hgt14
        have hE := H14.out.1.keep (B := w13.heap.size) (fun k e => by have := HX.out k e; omega) (by omega) k99 (fun i e => by unfold oneB at e; omega)
        have HE := Lib.hid hE
        have HT := Lib.hid hB99
        refine ⟨⟨hE, H14.out.2.keep k99 (fun e => by unfold oneB at e; omega)⟩, fun _ => ?_⟩
        simp only [Act.put, List.setIfInBounds_toArray, List.set_cons_zero, List.set_cons_succ]
        refine reg_end (by kernel_rfl) ?_
        obtain ⟨g12, hg12⟩ : ∃ g, g = w13.heap.size := ⟨_, rfl⟩
        rw [← hg12] at HT ⊢
        clear hB99 k99 z99 hE hg12 hgg
      case' wb3 =>
        simp only [Act.put, List.setIfInBounds_toArray, List.set_cons_zero, List.set_cons_succ]
        have H15 := Lib.hid (And.intro (H12.out.1.alloc (.cells (bvs none16).toArray 50)) (H12.out.2.alloc (.cells (bvs none16).toArray 50)))
        have hb15 : Blk (w12.alloc (.cells (bvs none16).toArray 50)) w12.heap.size 50 (bvs none16) := Blk.new' rfl rfl
        have hgt15 : w4.heap.size < w12.heap.size := H12.out.2.lt
        refine reg_call 5 (some 30) rfl rfl (by kernel_rfl) (by rfl) _ _ (exec_func 25 _ _ [.agg (bvs U).toArray, .agg (bvs (enc W (nk + 5) (nb n 1))).toArray] rfl (by kernel_rfl) rfl) ?_
        refine (fPlus U (enc W (nk + 5) (nb n 1)) _ HUU.out (enc_length _ _ _)).mono ?_
        rintro e w16 ⟨rfl, k16⟩
        rw [← HTG.out]
        have H16 := Lib.hid (And.intro (H15.out.1.keep0 k16) (H15.out.2.keep k16 (fun e => e)))
        have hb16 := hb15.keep k16 (fun e => e)
        refine ⟨_, rfl, H16.out, fun _ => ?_⟩
        simp only [Act.put, List.setIfInBounds_toArray, List.set_cons_zero, List.set_cons_succ]
        refine reg_store 7 none 50 (.tmp 12) (.tmp 30) rfl rfl rfl (by kernel_rfl) (by rfl) w12.heap.size _ _ (bvs (tag W (nk + 5) n (sl aad) C)) hb16 rfl rfl (by rw [HTL.out, HZ.out]) (by rw [HTL.out]; kernel_rfl) (bvs_one _) ?_
        intro w99 hB99 k99 z99
        have hgg : w4.heap.size < w12.heap.size := hgt15
        have hE := H16.out.1.keep (B := w12.heap.size) (fun k e => by have := HX.out k e; omega) (by omega) k99 (fun i e => by unfold oneB at e; omega)
        have HE := Lib.hid hE
        have HT := Lib.hid hB99
        refine ⟨⟨hE, H16.out.2.keep k99 (fun e => by unfold oneB at e; omega)⟩, fun _ => ?_⟩
        simp only [Act.put, List.setIfInBounds_toArray, List.set_cons_zero, List.set_cons_succ]
        refine reg_end (by kernel_rfl) ?_
        obtain ⟨g12, hg12⟩ : ∃ g, g = w12.heap.size := ⟨_, rfl⟩
        rw [← hg12] at HT ⊢
        clear hB99 k99 z99 hE hg12 hgg
    case' wb2 =>
      simp only [Act.put, List.setIfInBounds_toArray, List.set_cons_zero, List.set_cons_succ]
      have H17 := Lib.hid (And.intro (H11.out.1.alloc (.cells (bvs none16).toArray 50)) (H11.out.2.alloc (.cells (bvs none16).toArray 50)))
      have hb17 : Blk (w11.alloc (.cells (bvs none16).toArray 50)) w11.heap.size 50 (bvs none16) := Blk.new' rfl rfl
      have hgt17 : w4.heap.size < w11.heap.size := H11.out.2.lt
      refine reg_call 4 (some 29) rfl rfl (by kernel_rfl) (by rfl) _ _ (exec_func 24 _ _ [.slice X (4 * (nk + 5 + 2)) cX, .agg (bvs (nb n 1)).toArray] rfl (by kernel_rfl) rfl) ?_
      refine (fSeal (nb n 1) W X cX (nk + 5) _ (nb_length n 1 HN.out) HWL.out H17.out.1.r (by omega) (by omega)).mono ?_
      rintro e w18 ⟨rfl, k18⟩
      have H18 := Lib.hid (And.intro (H17.out.1.keep0 k18) (H17.out.2.keep k18 (fun e => e)))
      have hb18 := hb17.keep k18 (fun e => e)
      refine ⟨_, rfl, H18.out, fun _ => ?_⟩
      simp only [Act.put, List.setIfInBounds_toArray, List.set_cons_zero, List.set_cons_succ]
      refine reg_call 5 (some 30) rfl rfl (by kernel_rfl) (by rfl) _ _ (exec_func 25 _ _ [.agg (bvs U).toArray, .agg (bvs (enc W (nk + 5) (nb n 1))).toArray] rfl (by kernel_rfl) rfl) ?_
      refine (fPlus U (enc W (nk + 5) (nb n 1)) _ HUU.out (enc_length _ _ _)).mono ?_
      rintro e w19 ⟨rfl, k19⟩
      rw [← HTG.out]
      have H19 := Lib.hid (And.intro (H18.out.1.keep0 k19) (H18.out.2.keep k19 (fun e => e)))
      have hb19 := hb18.keep k19 (fun e => e)
      refine ⟨_, rfl, H19.out, fun _ => ?_⟩
      simp only [Act.put, List.setIfInBounds_toArray, List.set_cons_zero, List.set_cons_succ]
      refine reg_store 7 none 50 (.tmp 12) (.tmp 30) rfl rfl rfl (by kernel_rfl) (by rfl) w11.heap.size _ _ (bvs (tag W (nk + 5) n (sl aad) C)) hb19 rfl rfl (by rw [HTL.out, HZ.out]) (by rw [HTL.out]; kernel_rfl) (bvs_one _) ?_
      intro w99 hB99 k99 z99
      have hgg : w4.heap.size < w11.heap.size := hgt17
      have hE := H19.out.1.keep (B := w11.heap.size) (fun k e => by have := HX.out k e; omega) (by omega) k99 (fun i e => by unfold oneB at e; omega)
      have HE := Lib.hid hE
      have HT := Lib.hid hB99
      refine ⟨⟨hE, H19.out.2.keep k99 (fun e => by unfold oneB at e; omega)⟩, fun _ => ?_⟩
      simp only [Act.put, List.setIfInBounds_toArray, List.set_cons_zero, List.set_cons_succ]
      refine reg_end (by kernel_rfl) ?_
      obtain ⟨g12, hg12⟩ : ∃ g, g = w11.heap.size := ⟨_, rfl⟩
      rw [← hg12] at HT ⊢
      clear hB99 k99 z99 hE hg12 hgg
  case' wb1 =>
    simp only [Act.put, List.setIfInBounds_toArray, List.set_cons_zero, List.set_cons_succ]
    have H20 := Lib.hid (And.intro (H6.out.1.alloc (.cells (bvs none16).toArray 50)) (H6.out.2.alloc (.cells (bvs none16).toArray 50)))
    have hb20 : Blk (w6.alloc (.cells (bvs none16).toArray 50)) w6.heap.size 50 (bvs none16) := Blk.new' rfl rfl
    have hgt20 : w4.heap.size < w6.heap.size := H6.out.2.lt
    refine reg_call 3 (some 28) rfl rfl (by kernel_rfl) (by rfl) _ _ (exec_func 26 _ _ [.agg (bvs n).toArray, .int .i64 1] rfl (by kernel_rfl) rfl) ?_
    refine (fBlock n 1 _ HN.out (by omega)).mono ?_
    rintro e w21 ⟨rfl, k21⟩
    have H21 := Lib.hid (And.intro (H20.out.1.keep0 k21) (H20.out.2.keep k21 (fun e => e)))
    have hb21 := hb20.keep k21 (fun e => e)
    refine ⟨_, rfl, H21.out, fun _ => ?_⟩
    simp only [Act.put, List.setIfInBounds_toArray, List.set_cons_zero, List.set_cons_succ]
    refine reg_call 4 (some 29) rfl rfl (by kernel_rfl) (by rfl) _ _ (exec_func 24 _ _ [.slice X (4 * (nk + 5 + 2)) cX, .agg (bvs (nb n 1)).toArray] rfl (by kernel_rfl) rfl) ?_
    refine (fSeal (nb n 1) W X cX (nk + 5) _ (nb_length n 1 HN.out) HWL.out H21.out.1.r (by omega) (by omega)).mono ?_
    rintro e w22 ⟨rfl, k22⟩
    have H22 := Lib.hid (And.intro (H21.out.1.keep0 k22) (H21.out.2.keep k22 (fun e => e)))
    have hb22 := hb21.keep k22 (fun e => e)
    refine ⟨_, rfl, H22.out, fun _ => ?_⟩
    simp only [Act.put, List.setIfInBounds_toArray, List.set_cons_zero, List.set_cons_succ]
    refine reg_call 5 (some 30) rfl rfl (by kernel_rfl) (by rfl) _ _ (exec_func 25 _ _ [.agg (bvs U).toArray, .agg (bvs (enc W (nk + 5) (nb n 1))).toArray] rfl (by kernel_rfl) rfl) ?_
    refine (fPlus U (enc W (nk + 5) (nb n 1)) _ HUU.out (enc_length _ _ _)).mono ?_
    rintro e w23 ⟨rfl, k23⟩
    rw [← HTG.out]
    have H23 := Lib.hid (And.intro (H22.out.1.keep0 k23) (H22.out.2.keep k23 (fun e => e)))
    have hb23 := hb22.keep k23 (fun e => e)
    refine ⟨_, rfl, H23.out, fun _ => ?_⟩
    simp only [Act.put, List.setIfInBounds_toArray, List.set_cons_zero, List.set_cons_succ]
    refine reg_store 7 none 50 (.tmp 12) (.tmp 30) rfl rfl rfl (by kernel_rfl) (by rfl) w6.heap.size _ _ (bvs (tag W (nk + 5) n (sl aad) C)) hb23 rfl rfl (by rw [HTL.out, HZ.out]) (by rw [HTL.out]; kernel_rfl) (bvs_one _) ?_
    intro w99 hB99 k99 z99
    have hgg : w4.heap.size < w6.heap.size := hgt20
    have hE := H23.out.1.keep (B := w6.heap.size) (fun k e => by have := HX.out k e; omega) (by omega) k99 (fun i e => by unfold oneB at e; omega)
    have HE := Lib.hid hE
    have HT := Lib.hid hB99
    refine ⟨⟨hE, H23.out.2.keep k99 (fun e => by unfold oneB at e; omega)⟩, fun _ => ?_⟩
    simp only [Act.put, List.setIfInBounds_toArray, List.set_cons_zero, List.set_cons_succ]
    refine reg_end (by kernel_rfl) ?_
    obtain ⟨g12, hg12⟩ : ∃ g, g = w6.heap.size := ⟨_, rfl⟩
    rw [← hg12] at HT ⊢
    clear hB99 k99 z99 hE hg12 hgg
  all_goals
    have c1 : C.length ≤ 2000000000000 := by rw [HCL.out]; omega
    have c2 : (tag W (nk + 5) n (sl aad) C).length ≤ 16 := Nat.le_of_eq HTGL.out
    go_wp2_with (first
      | (refine wpList_bytes_str rfl 24 9 5 (.tmp 32) rfl (by kernel_rfl) (by kernel_rfl) (by kernel_rfl) _ 16 16 (tag W (nk + 5) n (sl aad) C) HTGL.out HT.out.row rfl ?_)
      | fail)
    rw [HGS.out]
    go_ret
    exact ⟨rfl, HE.out.kp⟩
end Go.Proofs.YtbainiblffcjgaaDoor.Gcm
