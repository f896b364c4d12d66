/- GcmBack: what is sealed is opened, however what is known besides is cut. -/
import Derived.Test.YtbainiblffcjgaaDoorZGcmL
import Derived.Test.YtbainiblffcjgaaDoorZGcmV
import Derived.Test.YtbainiblffcjgaaDoorZGa
namespace Go.Proofs.YtbainiblffcjgaaDoor.Gcm
set_option linter.unusedVariables false
set_option linter.unusedSimpArgs false
open Go Go.RowKit Kit
open Aes (gb tb tb_length arrB enc enc_length allW noughts)
open Ghash (none16 none_length len16)
open Field (cb cb_inj Sq)
open Sha (Pc PcsOk catP catP_one catP_nil)

set_option maxHeartbeats 1000000 in
set_option maxRecDepth 100000 in
theorem back_no (l : List UInt8) (s : Bool) (nn : List UInt8) (A : Option Addr) (n c : Nat) (B : Option Addr) (m d : Nat) (i : Int) (w : World) (ht : Sq w) (h : 4096 < n ∨ 4096 < m ∨ i < 0 ∨ (m : Int) < i) :
    Calls Tryd.prog 5 #[.agg (bvs l).toArray, .bool s, .agg (bvs nn).toArray, .slice A n c, .slice B m d, .int .i64 i] w fun e w' => e = .returned (.bool true) ∧ Kp nob w w' := by
  have HT := Lib.hid ht; clear ht
  go_enter Tryd.func5, Tryd.ntmps5
  go_wp2_with fail
  refine (alive_yes _ (HT.out.keep0 (((Kp.refl nob w).alloc _).alloc _))).mono ?_
  rintro e w1 ⟨rfl, k1⟩
  have K1 := Lib.hid ((((Kp.refl nob w).alloc (.cells (bvs l).toArray 22)).alloc (.cells (bvs nn).toArray 23)).trans k1 (fun _ e => e.elim)); clear k1
  by_cases h1 : 4096 < n
  · have d1 : decide ((4096 : Int) < (n : Int)) = true := by simp; omega
    clear h1 h
    go_wp2
    go_ret
    exact ⟨rfl, K1.out⟩
  · have d1 : decide ((4096 : Int) < (n : Int)) = false := by simp; omega
    by_cases h2 : 4096 < m
    · have d2 : decide ((4096 : Int) < (m : Int)) = true := by simp; omega
      clear h1 h2 h
      go_wp2
      go_ret
      exact ⟨rfl, K1.out⟩
    · have d2 : decide ((4096 : Int) < (m : Int)) = false := by simp; omega
      by_cases h3 : i < 0
      · have d3 : decide (i < 0) = true := by simp [h3]
        clear h1 h2 h3 h
        go_wp2
        go_ret
        exact ⟨rfl, K1.out⟩
      · have d3 : decide (i < 0) = false := by simp; omega
        have d4 : decide ((m : Int) < i) = true := by simp; omega
        clear h1 h2 h3 h
        go_wp2
        go_ret
        exact ⟨rfl, K1.out⟩
set_option maxHeartbeats 4000000 in
set_option maxRecDepth 100000 in
theorem back_yes (l : List UInt8) (s : Bool) (nn : List UInt8) (A : Option Addr) (n c : Nat) (x : List UInt8) (B : Option Addr) (m d : Nat) (o : List UInt8) (i : Nat) (w : World) (ht : Sq w) (hl : l.length = 32) (hnn : nn.length = 12)
    (h1 : x.length = n) (h3 : Row w A (bvs x)) (h4 : n ≤ c) (g1 : o.length = m) (g2 : B = none → d = 0) (g3 : Row w B (bvs o)) (g4 : m ≤ d) (g5 : d ≤ maxLen) (hn : n ≤ 4096) (hm : m ≤ 4096) (hi : i ≤ m) :
    Calls Tryd.prog 5 #[.agg (bvs l).toArray, .bool s, .agg (bvs nn).toArray, .slice A n c, .slice B m d, .int .i64 (i : Int)] w fun e w' => e = .returned (.bool true) ∧ Kp nob w w' := by
  have HT := Lib.hid ht; have HL := Lib.hid hl; have HNN := Lib.hid hnn
  have HNL := Lib.hid (show (bvs nn).length = 12 by rw [bvs_length, hnn])
  have HKL := Lib.hid (show (bvs l).length = 32 by rw [bvs_length, hl])
  have HX := Lib.hid (And.intro h1 (And.intro h3 h4)); have HO := Lib.hid (And.intro g1 (And.intro g2 (And.intro g3 (And.intro g4 g5)))); have HB := Lib.hid (And.intro hn (And.intro hm hi))
  have d1 : decide ((4096 : Int) < (n : Int)) = false := by simp; omega
  have d2 : decide ((4096 : Int) < (m : Int)) = false := by simp; omega
  have d3 : decide ((i : Int) < 0) = false := by simp
  have d4 : decide (m < i) = false := by simp; omega
  have e16 : IntKind.i64.wrap ((n : Int) + 16) = (n : Int) + 16 := by rw [IntKind.wrap_i64]; omega
  obtain ⟨W, hW⟩ : ∃ W, W = allW (kb l s) := ⟨_, rfl⟩
  obtain ⟨Y, hop⟩ : ∃ Y, Y = gs W (nk s + 5) nn x o := ⟨_, rfl⟩
  have HYL := Lib.hid (show Y.length = n + 16 by rw [hop, gs_length, h1])
  have HW := Lib.hid hW; have HOP := Lib.hid hop
  have HKB := Lib.hid (kb_length l s hl)
  clear ht hl hnn h1 h3 h4 g1 g2 g3 g4 g5 hn hm hi hW hop
  go_enter Tryd.func5, Tryd.ntmps5
  go_wp2_with fail
  refine (alive_yes _ (HT.out.keep0 (((Kp.refl nob w).alloc _).alloc _))).mono ?_
  rintro e w1 ⟨rfl, k1⟩
  have H1 : Hid (Blk w1 w.heap.size 22 (bvs l) ∧ Blk w1 (w.heap.size + 1) 23 (bvs nn) ∧ Kp nob w w1) := Lib.hid ⟨((Blk.new w _ _).alloc _).keep k1 (fun e => e), (Blk.new' (by simp) rfl).keep k1 (fun e => e), (((Kp.refl nob w).alloc _).alloc _).trans k1 (fun _ e => e.elim)⟩
  clear k1
  go_wp2_with (first
    | (refine wpList_load_blk rfl 22 (.tmp 6) rfl _ _ _ H1.out.1 rfl _ arr32u rfl (by rw [HKL.out]; kernel_rfl) ?_)
    | fail)
  refine (key_any l s w1 HL.out).mono ?_
  rintro e w2 ⟨A2, c2, rfl, hO2, k2, hA2⟩
  have H2 : Hid (Blk w2 w.heap.size 22 (bvs l) ∧ Blk w2 (w.heap.size + 1) 23 (bvs nn) ∧ Kp nob w w2 ∧ Row w2 A2 (bvs (kb l s)) ∧ 4 * nk s ≤ c2) := Lib.hid ⟨H1.out.1.keep k2 (fun e => e), H1.out.2.1.keep k2 (fun e => e), H1.out.2.2.trans k2 (fun _ e => e.elim), hO2.row, hO2.cap.1⟩
  clear hO2 k2 hA2 H1
  go_wp2_with fail
  refine (new_yes (nk s) (kb l s) A2 c2 w2 (HT.out.keep0 H2.out.2.2.1) HKB.out (nk_or s) H2.out.2.2.2.1 H2.out.2.2.2.2).mono ?_
  rintro e w3 ⟨p, rfl, hs, hp, k3⟩
  rw [← HW.out] at hs
  have H3 : Hid (SealAt w3 p W (nk s + 5) ∧ Blk w3 w.heap.size 22 (bvs l) ∧ Blk w3 (w.heap.size + 1) 23 (bvs nn) ∧ Kp nob w w3) := Lib.hid ⟨hs, H2.out.1.keep k3 (fun e => e), H2.out.2.1.keep k3 (fun e => e), H2.out.2.2.1.trans k3 (fun _ e => e.elim)⟩
  clear hs hp k3 H2
  go_wp2
  have hs1 := slice_to B m d i (by have := HB.out; have := HO.out; omega)
  have hs2 := slice_from B m d i (by have := HB.out; omega)
  refine reg_start (fun w' => Kp nob w3 w') (by kernel_rfl) (Kp.refl nob w3).drew (fun wd hd => ?_)
  have H0 := Lib.hid hd
  clear hd
  refine reg_take (v := .pointer (some ⟨p, 0, none⟩)) 0 (some 47) rfl rfl (by kernel_rfl) (by kernel_rfl) (by kernel_rfl) (by rfl) H0.out (fun w hw => by go_simp) ?_
  simp only [Act.put, List.setIfInBounds_toArray, List.set_cons_zero, List.set_cons_succ]
  refine reg_load 1 (some 48) 23 (.tmp 8) rfl rfl rfl (by kernel_rfl) (by kernel_rfl) (by kernel_rfl) (by rfl) H0.out (w.heap.size + 1) 0 rfl (bvs nn) _ (fun _ x => (H3.out.2.2.1.keep x (fun e => e)).range) arr12 rfl (by rw [HNL.out]; kernel_rfl) ?_
  simp only [Act.put, List.setIfInBounds_toArray, List.set_cons_zero, List.set_cons_succ]
  refine reg_take (v := .slice A n c) 2 (some 49) rfl rfl (by kernel_rfl) (by kernel_rfl) (by kernel_rfl) (by rfl) H0.out (fun w hw => by go_simp) ?_
  simp only [Act.put, List.setIfInBounds_toArray, List.set_cons_zero, List.set_cons_succ]
  refine reg_take (v := .slice B m d) 3 (some 50) rfl rfl (by kernel_rfl) (by kernel_rfl) (by kernel_rfl) (by rfl) H0.out (fun w hw => by go_simp) ?_
  simp only [Act.put, List.setIfInBounds_toArray, List.set_cons_zero, List.set_cons_succ]
  refine reg_take (v := .int .i64 (i : Int)) 4 (some 51) rfl rfl (by kernel_rfl) (by kernel_rfl) (by kernel_rfl) (by rfl) H0.out (fun w hw => by go_simp) ?_
  simp only [Act.put, List.setIfInBounds_toArray, List.set_cons_zero, List.set_cons_succ]
  refine reg_take (v := .slice B i d) 5 (some 52) rfl rfl (by kernel_rfl) (by kernel_rfl) (by kernel_rfl) (by rfl) H0.out (fun w hw => by go_simp) ?_
  simp only [Act.put, List.setIfInBounds_toArray, List.set_cons_zero, List.set_cons_succ]
  refine reg_take (v := .slice B m d) 6 (some 53) rfl rfl (by kernel_rfl) (by kernel_rfl) (by kernel_rfl) (by rfl) H0.out (fun w hw => by go_simp) ?_
  simp only [Act.put, List.setIfInBounds_toArray, List.set_cons_zero, List.set_cons_succ]
  refine reg_take (v := .int .i64 (i : Int)) 7 (some 54) rfl rfl (by kernel_rfl) (by kernel_rfl) (by kernel_rfl) (by rfl) H0.out (fun w hw => by go_simp) ?_
  simp only [Act.put, List.setIfInBounds_toArray, List.set_cons_zero, List.set_cons_succ]
  refine reg_take (v := .slice (cutA B d i) (m - i) (d - i)) 8 (some 55) rfl rfl (by kernel_rfl) (by kernel_rfl) (by kernel_rfl) (by rfl) H0.out (fun w hw => by go_simp) ?_
  simp only [Act.put, List.setIfInBounds_toArray, List.set_cons_zero, List.set_cons_succ]
  have ha := aad_two (w := wd) B m d o i HO.out.1 (HO.out.2.2.1.keep0 (H3.out.2.2.2.trans H0.out (fun _ e => e.elim))) HO.out.2.2.2.1 HO.out.2.2.2.2 HO.out.2.1 (by have := HB.out; omega) HB.out.2.2
  have H0a := Lib.hid (H0.out.alloc (.cells #[.slice B i d, .slice (cutA B d i) (m - i) (d - i)] 24))
  have hcat : catP [(⟨B, i, d, o.take i⟩ : Pc), ⟨cutA B d i, m - i, d - i, o.drop i⟩] = o := by rw [Sha.catP_two]; exact List.take_append_drop i o
  have HCT := Lib.hid hcat
  refine reg_step (w' := wd.alloc (.cells #[.slice B i d, .slice (cutA B d i) (m - i) (d - i)] 24)) (v := .slice (some ⟨wd.heap.size, 0, none⟩) 2 2) 9 (some 56) rfl rfl (by kernel_rfl) (by rfl) (by go_simp) H0a.out (fun _ => ?_)
  simp only [Act.put, List.setIfInBounds_toArray, List.set_cons_zero, List.set_cons_succ]
  have HAD := Lib.hid ha
  obtain ⟨zz, hzz⟩ : ∃ zz, zz = wd.heap.size := ⟨_, rfl⟩
  rw [← hzz] at HAD ⊢
  clear ha hcat hzz
  generalize wd.alloc (.cells #[.slice B i d, .slice (cutA B d i) (m - i) (d - i)] 24) = wa at *
  refine reg_call 10 (some 57) rfl rfl (by kernel_rfl) (by rfl) _ _ (exec_func 12 _ _ [.pointer (some ⟨p, 0, none⟩), .agg (bvs nn).toArray, .slice A n c, .slice (some ⟨zz, 0, none⟩) 2 2] rfl (by kernel_rfl) rfl) ?_
  refine (seal_yes p W (nk s + 5) nn x A n c _ 2 2 _ wa (H3.out.1.keep0 H0a.out) HNN.out HX.out.1 HX.out.2.2 (HX.out.2.1.keep0 (H3.out.2.2.2.trans H0a.out (fun _ e => e.elim))) HAD.out (by have := HB.out; omega) (by rw [HCT.out]; have := HB.out; have := HO.out.1; omega)).mono ?_
  rintro e w4 ⟨A4, c4, rfl, hO4, k4, hA4⟩
  have H4k := Lib.hid (H0a.out.trans k4 (fun _ e => e.elim))
  refine ⟨_, rfl, H4k.out, fun _ => ?_⟩
  simp only [Act.put, List.setIfInBounds_toArray, List.set_cons_zero, List.set_cons_succ]
  rw [HCT.out, ← HOP.out] at hO4
  have HO4 := Lib.hid (And.intro hO4.row hO4.cap.1)
  clear hO4 k4 hA4
  refine reg_take (v := .tuple #[.slice A4 (n + 16) c4, .int .i64 0]) 11 (some 46) rfl rfl (by kernel_rfl) (by kernel_rfl) (by kernel_rfl) (by rfl) H4k.out (fun w hw => by go_simp) ?_
  simp only [Act.put, List.setIfInBounds_toArray, List.set_cons_zero, List.set_cons_succ]
  refine reg_take (v := .slice A4 (n + 16) c4) 12 (some 58) rfl rfl (by kernel_rfl) (by kernel_rfl) (by kernel_rfl) (by rfl) H4k.out (fun w hw => by go_simp) ?_
  simp only [Act.put, List.setIfInBounds_toArray, List.set_cons_zero, List.set_cons_succ]
  refine reg_take (v := .int .i64 0) 13 (some 59) rfl rfl (by kernel_rfl) (by kernel_rfl) (by kernel_rfl) (by rfl) H4k.out (fun w hw => by go_simp) ?_
  simp only [Act.put, List.setIfInBounds_toArray, List.set_cons_zero, List.set_cons_succ]
  refine reg_take (v := .slice A4 (n + 16) c4) 14 (some 15) rfl rfl (by kernel_rfl) (by kernel_rfl) (by kernel_rfl) (by rfl) H4k.out (fun w hw => by go_simp) ?_
  simp only [Act.put, List.setIfInBounds_toArray, List.set_cons_zero, List.set_cons_succ]
  refine reg_take (v := .int .i64 0) 15 (some 16) rfl rfl (by kernel_rfl) (by kernel_rfl) (by kernel_rfl) (by rfl) H4k.out (fun w hw => by go_simp) ?_
  simp only [Act.put, List.setIfInBounds_toArray, List.set_cons_zero, List.set_cons_succ]
  refine reg_end (by kernel_rfl) ?_
  have H4 : Hid (SealAt w4 p W (nk s + 5) ∧ Blk w4 (w.heap.size + 1) 23 (bvs nn) ∧ Kp nob w w4 ∧ Row w4 A4 (bvs Y) ∧ n + 16 ≤ c4) := Lib.hid ⟨H3.out.1.keep0 H4k.out, H3.out.2.2.1.keep H4k.out (fun e => e), H3.out.2.2.2.trans H4k.out (fun _ e => e.elim), HO4.out.1, HO4.out.2⟩
  clear H0 H0a H4k HO4 hs1 hs2 H3 HAD
  go_wp2_with (first
    | (refine wpList_load_blk rfl 23 (.tmp 8) rfl _ _ _ H4.out.2.1 rfl _ arr12 rfl (by rw [HNL.out]; kernel_rfl) ?_)
    | fail)
  have ha := aad_one (w := w4) ⟨B, m, d, o⟩ HO.out.1 (HO.out.2.2.1.keep0 H4.out.2.2.1) HO.out.2.2.2.1 HO.out.2.2.2.2 HO.out.2.1 (by have := HB.out; show m ≤ _; omega)
  have k34 : Kp nob w4 (w4.alloc (.cells #[.slice B m d] 24)) := (Kp.refl nob w4).alloc _
  refine (open_any p W (nk s + 5) nn Y A4 n c4 _ 1 1 _ _ (H4.out.1.keep0 k34) HNN.out HYL.out H4.out.2.2.2.2 (H4.out.2.2.2.1.keep0 k34) ha (by have := HB.out; omega) (by rw [catP_one]; show o.length ≤ _; have := HB.out; have := HO.out.1; omega) true (by rw [catP_one, HOP.out, gs_take_at _ _ _ _ _ _ HX.out.1, gs_drop_at _ _ _ _ _ _ HX.out.1]; exact beq_self_eq_true _)).mono ?_
  rintro e w5 ⟨k5, h5, _⟩
  obtain ⟨A5, c5, rfl, hO5, _⟩ := h5 rfl
  rw [HOP.out, gs_take_at _ _ _ _ _ _ HX.out.1, stream_stream] at hO5
  have H5 : Hid (Kp nob w w5 ∧ Row w5 A5 (bvs x) ∧ Row w5 A (bvs x)) := Lib.hid (have k := H4.out.2.2.1.trans (k34.trans k5 (fun _ e => e.elim)) (fun _ e => e.elim); ⟨k, hO5.row, HX.out.2.1.keep0 k⟩)
  clear ha k34 k5 h5 hO5 H4
  have cv1 := run_bytes_str (P := Tryd.prog) w5 24 9 5 u8s_under (by kernel_rfl) (by kernel_rfl) A5 n c5 x HX.out.1 H5.out.2.1
  have cv2 := run_bytes_str (P := Tryd.prog) w5 24 9 5 u8s_under (by kernel_rfl) (by kernel_rfl) A n c x HX.out.1 H5.out.2.2
  go_wp2
  go_ret
  exact ⟨rfl, H5.out.1⟩
theorem back_walk (l : List UInt8) (s : Bool) (nn : List UInt8) (A : Option Addr) (n c : Nat) (x : List UInt8) (B : Option Addr) (m d : Nat) (o : List UInt8) (i : Int) (w : World) (ht : Sq w) (hl : l.length = 32) (hnn : nn.length = 12)
    (h1 : x.length = n) (_ : A = none → c = 0) (h3 : Row w A (bvs x)) (h4 : n ≤ c) (_ : c ≤ maxLen) (g1 : o.length = m) (g2 : B = none → d = 0) (g3 : Row w B (bvs o)) (g4 : m ≤ d) (g5 : d ≤ maxLen) (_hi : (Lit.int .i64 i).wf = true) :
    Calls Tryd.prog 5 #[.agg (bvs l).toArray, .bool s, .agg (bvs nn).toArray, .slice A n c, .slice B m d, .int .i64 i] w fun e w' => e = .returned (.bool true) ∧ Kp nob w w' := by
  by_cases h : 4096 < n ∨ 4096 < m ∨ i < 0 ∨ (m : Int) < i
  · exact back_no l s nn A n c B m d i w ht h
  · obtain ⟨j, rfl⟩ : ∃ j : Nat, i = j := ⟨i.toNat, by omega⟩
    exact back_yes l s nn A n c x B m d o j w ht hl hnn h1 h3 h4 g1 g2 g3 g4 g5 (by omega) (by omega) (by omega)
end Go.Proofs.YtbainiblffcjgaaDoor.Gcm
