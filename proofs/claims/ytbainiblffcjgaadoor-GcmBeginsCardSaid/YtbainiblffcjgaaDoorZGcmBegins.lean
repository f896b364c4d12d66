/- GcmBegins: what a text's beginning is sealed as is the beginning of what it is sealed as; of two texts the difference is theirs. -/
import Derived.Test.YtbainiblffcjgaaDoorZGcmL
import Derived.Test.YtbainiblffcjgaaDoorZGcmV
import Derived.Test.YtbainiblffcjgaaDoorZGa
import Derived.BigQuiet
import Derived.Deep.QuietTactic
namespace Go.Proofs.YtbainiblffcjgaaDoor.Gcm
set_option linter.unusedVariables false
set_option linter.unusedSimpArgs false
open Go Go.RowKit Kit
open Aes (gb tb tb_length arrB enc enc_length allW noughts)
open Ghash (none16 none_length len16)
open Field (cb cb_inj Sq)
open Sha (Pc PcsOk catP catP_one catP_nil)

set_option maxHeartbeats 1000000 in
set_option maxRecDepth 100000 in
theorem begins_no (l nn : List UInt8) (A : Option Addr) (n c : Nat) (i : Int) (B : Option Addr) (m d : Nat) (w : World) (ht : Sq w) (h : 1024 < n ∨ i < 0 ∨ (n : Int) < i ∨ m < n) :
    Calls Tryd.prog 8 #[.agg (bvs l).toArray, .agg (bvs nn).toArray, .slice A n c, .int .i64 i, .slice B m d] w fun e w' => e = .returned (.bool true) ∧ Kp nob w w' := by
  have HT := Lib.hid ht; clear ht
  go_enter Tryd.func8, Tryd.ntmps8
  go_wp2_with fail
  refine (alive_yes _ (HT.out.keep0 (((Kp.refl nob w).alloc _).alloc _))).mono ?_
  rintro e w1 ⟨rfl, k1⟩
  have K1 := Lib.hid ((((Kp.refl nob w).alloc (.cells (bvs l).toArray 22)).alloc (.cells (bvs nn).toArray 23)).trans k1 (fun _ e => e.elim)); clear k1
  by_cases h1 : 1024 < n
  · have d1 : decide ((1024 : Int) < (n : Int)) = true := by simp; omega
    clear h1 h
    go_wp2
    go_ret
    exact ⟨rfl, K1.out⟩
  · have d1 : decide ((1024 : Int) < (n : Int)) = false := by simp; omega
    by_cases h2 : i < 0
    · have d2 : decide (i < 0) = true := by simp [h2]
      clear h1 h2 h
      go_wp2
      go_ret
      exact ⟨rfl, K1.out⟩
    · have d2 : decide (i < 0) = false := by simp; omega
      by_cases h3 : (n : Int) < i
      · have d3 : decide ((n : Int) < i) = true := by simp [h3]
        clear h1 h2 h3 h
        go_wp2
        go_ret
        exact ⟨rfl, K1.out⟩
      · have d3 : decide ((n : Int) < i) = false := by simp; omega
        have d4 : decide (m < n) = true := by simp; omega
        clear h1 h2 h3 h
        go_wp2
        go_ret
        exact ⟨rfl, K1.out⟩
set_option maxHeartbeats 4000000 in
set_option maxRecDepth 100000 in
theorem begins_yes (l nn : List UInt8) (A : Option Addr) (n c : Nat) (t : List UInt8) (i : Nat) (B : Option Addr) (m d : Nat) (o : List UInt8) (w : World) (ht : Sq w) (hl : l.length = 32) (hnn : nn.length = 12)
    (h1 : t.length = n) (h3 : Row w A (bvs t)) (h4 : n ≤ c) (g1 : o.length = m) (g3 : Row w B (bvs o)) (g4 : m ≤ d) (hn : n ≤ 1024) (hi : i ≤ n) (hm : n ≤ m) :
    Calls Tryd.prog 8 #[.agg (bvs l).toArray, .agg (bvs nn).toArray, .slice A n c, .int .i64 (i : Int), .slice B m d] w fun e w' => e = .returned (.bool true) ∧ Kp nob w w' := by
  have HT := Lib.hid ht; have HL := Lib.hid hl; have HNN := Lib.hid hnn
  have HNL := Lib.hid (show (bvs nn).length = 12 by rw [bvs_length, hnn])
  have HTX := Lib.hid (And.intro h1 (And.intro h3 h4)); have HOX := Lib.hid (And.intro g1 (And.intro g3 g4)); have HB := Lib.hid (And.intro hn (And.intro hi hm))
  have d1 : decide ((1024 : Int) < (n : Int)) = false := by simp; omega
  have d2 : decide ((i : Int) < 0) = false := by simp
  have d3 : decide (n < i) = false := by simp; omega
  have d4 : decide (m < n) = false := by simp; omega
  have hka := key_all w.heap.size 0
  clear ht hl hnn h1 h3 h4 g1 g3 g4 hn hi hm
  go_enter Tryd.func8, Tryd.ntmps8
  go_wp2_with fail
  refine (alive_yes _ (HT.out.keep0 (((Kp.refl nob w).alloc _).alloc _))).mono ?_
  rintro e w1 ⟨rfl, k1⟩
  have H1 : Hid (Blk w1 w.heap.size 22 (bvs l) ∧ Blk w1 (w.heap.size + 1) 23 (bvs nn) ∧ Kp nob w w1) := Lib.hid ⟨((Blk.new w _ _).alloc _).keep k1 (fun e => e), (Blk.new' (by simp) rfl).keep k1 (fun e => e), (((Kp.refl nob w).alloc _).alloc _).trans k1 (fun _ e => e.elim)⟩
  clear k1
  go_wp2_with fail
  refine (new_yes 8 l (some ⟨w.heap.size, 0, none⟩) 32 _ (HT.out.keep0 H1.out.2.2) HL.out (.inr rfl) H1.out.1.row (by omega)).mono ?_
  rintro e w2 ⟨p, rfl, hs, hp, k2⟩
  have H2 : Hid (SealAt w2 p (allW l) 13 ∧ Blk w2 (w.heap.size + 1) 23 (bvs nn) ∧ Kp nob w w2) := Lib.hid ⟨hs, H1.out.2.1.keep k2 (fun e => e), H1.out.2.2.trans k2 (fun _ e => e.elim)⟩
  clear hs hp k2 H1 hka
  go_wp2_with (first
    | (refine wpList_load_blk rfl 23 (.tmp 6) rfl _ _ _ H2.out.2.1 rfl _ arr12 rfl (by rw [HNL.out]; kernel_rfl) ?_)
    | fail)
  obtain ⟨T, hT⟩ : ∃ T, T = stream (allW l) 13 nn t := ⟨_, rfl⟩
  refine (seal_yes p (allW l) 13 nn t A n c none 0 0 [] w2 H2.out.1 HNN.out HTX.out.1 HTX.out.2.2 (HTX.out.2.1.keep0 H2.out.2.2) (aad_none _) (by have := HB.out; omega) (by simp [catP])).mono ?_
  rintro e w3 ⟨A3, c3, rfl, hO, k3, hA3⟩
  have H3 : Hid (SealAt w3 p (allW l) 13 ∧ Blk w3 (w.heap.size + 1) 23 (bvs nn) ∧ Kp nob w w3 ∧ Row w3 A3 (bvs T) ∧ n + 16 ≤ c3) := Lib.hid ⟨H2.out.1.keep0 k3, H2.out.2.1.keep k3 (fun e => e), H2.out.2.2.trans k3 (fun _ e => e.elim), (by
    have := hO.row.take n
    rw [bvs, ← List.map_take, ← HTX.out.1, gs_take, ← hT] at this
    exact this), hO.cap.1⟩
  have HT3 := Lib.hid hT
  clear hT hO k3 hA3 H2
  go_wp2
  have hs1 := slice_to A n c i (by have := HB.out; have := HTX.out; omega)
  refine reg_start (fun w' => Kp nob w3 w') (by kernel_rfl) (Kp.refl nob w3).drew (fun wd hd => ?_)
  have H0 := Lib.hid hd
  clear hd
  refine reg_take (v := .pointer (some ⟨p, 0, none⟩)) 0 (some 55) rfl rfl (by kernel_rfl) (by kernel_rfl) (by kernel_rfl) (by rfl) H0.out (fun w hw => by go_simp) ?_
  simp only [Act.put, List.setIfInBounds_toArray, List.set_cons_zero, List.set_cons_succ]
  refine reg_load 1 (some 56) 23 (.tmp 6) rfl rfl rfl (by kernel_rfl) (by kernel_rfl) (by kernel_rfl) (by rfl) H0.out (w.heap.size + 1) 0 rfl (bvs nn) _ (fun _ x => (H3.out.2.1.keep x (fun e => e)).range) arr12 rfl (by rw [HNL.out]; kernel_rfl) ?_
  simp only [Act.put, List.setIfInBounds_toArray, List.set_cons_zero, List.set_cons_succ]
  refine reg_take (v := .slice A n c) 2 (some 57) rfl rfl (by kernel_rfl) (by kernel_rfl) (by kernel_rfl) (by rfl) H0.out (fun w hw => by go_simp) ?_
  simp only [Act.put, List.setIfInBounds_toArray, List.set_cons_zero, List.set_cons_succ]
  refine reg_take (v := .int .i64 (i : Int)) 3 (some 58) rfl rfl (by kernel_rfl) (by kernel_rfl) (by kernel_rfl) (by rfl) H0.out (fun w hw => by go_simp) ?_
  simp only [Act.put, List.setIfInBounds_toArray, List.set_cons_zero, List.set_cons_succ]
  refine reg_take (v := .slice A i c) 4 (some 59) rfl rfl (by kernel_rfl) (by kernel_rfl) (by kernel_rfl) (by rfl) H0.out (fun w hw => by go_simp) ?_
  simp only [Act.put, List.setIfInBounds_toArray, List.set_cons_zero, List.set_cons_succ]
  refine reg_call 5 (some 60) rfl rfl (by kernel_rfl) (by rfl) _ _ (exec_func 12 _ _ [.pointer (some ⟨p, 0, none⟩), .agg (bvs nn).toArray, .slice A i c, .slice none 0 0] rfl (by kernel_rfl) rfl) ?_
  refine (seal_yes p (allW l) 13 nn (t.take i) A i c none 0 0 [] wd (H3.out.1.keep0 H0.out) HNN.out (by have := HTX.out; have := HB.out; rw [List.length_take]; omega) (by have := HTX.out; have := HB.out; omega) (by have h := (HTX.out.2.1.keep0 (H3.out.2.2.1.trans H0.out (fun _ e => e.elim))).take i; rw [bvs, ← List.map_take] at h; exact h) (aad_none _) (by have := HB.out; omega) (by simp [catP])).mono ?_
  rintro e w4 ⟨A4, c4, rfl, hO, k4, hA4⟩
  have H4k := Lib.hid (H0.out.trans k4 (fun _ e => e.elim))
  refine ⟨_, rfl, H4k.out, fun _ => ?_⟩
  simp only [Act.put, List.setIfInBounds_toArray, List.set_cons_zero, List.set_cons_succ]
  have HO4 := Lib.hid (And.intro hO.row hO.cap.1)
  clear hO k4 hA4
  refine reg_take (v := .tuple #[.slice A4 (i + 16) c4, .int .i64 0]) 6 (some 54) rfl rfl (by kernel_rfl) (by kernel_rfl) (by kernel_rfl) (by rfl) H4k.out (fun w hw => by go_simp) ?_
  simp only [Act.put, List.setIfInBounds_toArray, List.set_cons_zero, List.set_cons_succ]
  refine reg_take (v := .slice A4 (i + 16) c4) 7 (some 61) rfl rfl (by kernel_rfl) (by kernel_rfl) (by kernel_rfl) (by rfl) H4k.out (fun w hw => by go_simp) ?_
  simp only [Act.put, List.setIfInBounds_toArray, List.set_cons_zero, List.set_cons_succ]
  refine reg_take (v := .int .i64 0) 8 (some 62) rfl rfl (by kernel_rfl) (by kernel_rfl) (by kernel_rfl) (by rfl) H4k.out (fun w hw => by go_simp) ?_
  simp only [Act.put, List.setIfInBounds_toArray, List.set_cons_zero, List.set_cons_succ]
  refine reg_take (v := .slice A4 (i + 16) c4) 9 (some 15) rfl rfl (by kernel_rfl) (by kernel_rfl) (by kernel_rfl) (by rfl) H4k.out (fun w hw => by go_simp) ?_
  simp only [Act.put, List.setIfInBounds_toArray, List.set_cons_zero, List.set_cons_succ]
  refine reg_take (v := .int .i64 0) 10 (some 16) rfl rfl (by kernel_rfl) (by kernel_rfl) (by kernel_rfl) (by rfl) H4k.out (fun w hw => by go_simp) ?_
  simp only [Act.put, List.setIfInBounds_toArray, List.set_cons_zero, List.set_cons_succ]
  refine reg_end (by kernel_rfl) ?_
  have H4 : Hid (SealAt w4 p (allW l) 13 ∧ Blk w4 (w.heap.size + 1) 23 (bvs nn) ∧ Kp nob w w4 ∧ Row w4 A3 (bvs T) ∧ Row w4 A4 (bvs (T.take i)) ∧ i + 16 ≤ c4) := Lib.hid ⟨H3.out.1.keep0 H4k.out, H3.out.2.1.keep H4k.out (fun e => e), H3.out.2.2.1.trans H4k.out (fun _ e => e.elim), H3.out.2.2.2.1.keep0 H4k.out, (by
    have := HO4.out.1.take i
    have ht : (t.take i).length = i := by have := HTX.out; have := HB.out; rw [List.length_take]; omega
    rw [bvs, ← List.map_take, gs_take_at _ _ _ _ _ _ ht] at this
    rw [HT3.out, stream_take _ _ _ _ _ (by have := HTX.out; have := HB.out; omega)]
    exact this), HO4.out.2⟩
  have HC3 := Lib.hid H3.out.2.2.2.2
  clear H0 H4k HO4 hs1 H3
  go_wp2
  have hs2 := slice_to B m d n (by have := HB.out; have := HOX.out; omega)
  refine reg_start (fun w' => Kp nob w4 w') (by kernel_rfl) (Kp.refl nob w4).drew (fun wd hd => ?_)
  have H0 := Lib.hid hd
  clear hd
  refine reg_take (v := .pointer (some ⟨p, 0, none⟩)) 0 (some 64) rfl rfl (by kernel_rfl) (by kernel_rfl) (by kernel_rfl) (by rfl) H0.out (fun w hw => by go_simp) ?_
  simp only [Act.put, List.setIfInBounds_toArray, List.set_cons_zero, List.set_cons_succ]
  refine reg_load 1 (some 65) 23 (.tmp 6) rfl rfl rfl (by kernel_rfl) (by kernel_rfl) (by kernel_rfl) (by rfl) H0.out (w.heap.size + 1) 0 rfl (bvs nn) _ (fun _ x => (H4.out.2.1.keep x (fun e => e)).range) arr12 rfl (by rw [HNL.out]; kernel_rfl) ?_
  simp only [Act.put, List.setIfInBounds_toArray, List.set_cons_zero, List.set_cons_succ]
  refine reg_take (v := .slice B m d) 2 (some 66) rfl rfl (by kernel_rfl) (by kernel_rfl) (by kernel_rfl) (by rfl) H0.out (fun w hw => by go_simp) ?_
  simp only [Act.put, List.setIfInBounds_toArray, List.set_cons_zero, List.set_cons_succ]
  refine reg_take (v := .slice A n c) 3 (some 67) rfl rfl (by kernel_rfl) (by kernel_rfl) (by kernel_rfl) (by rfl) H0.out (fun w hw => by go_simp) ?_
  simp only [Act.put, List.setIfInBounds_toArray, List.set_cons_zero, List.set_cons_succ]
  refine reg_take (v := .int .i64 (n : Int)) 4 (some 68) rfl rfl (by kernel_rfl) (by kernel_rfl) (by kernel_rfl) (by rfl) H0.out (fun w hw => by go_simp) ?_
  simp only [Act.put, List.setIfInBounds_toArray, List.set_cons_zero, List.set_cons_succ]
  refine reg_take (v := .slice B n d) 5 (some 69) rfl rfl (by kernel_rfl) (by kernel_rfl) (by kernel_rfl) (by rfl) H0.out (fun w hw => by go_simp) ?_
  simp only [Act.put, List.setIfInBounds_toArray, List.set_cons_zero, List.set_cons_succ]
  refine reg_call 6 (some 70) rfl rfl (by kernel_rfl) (by rfl) _ _ (exec_func 12 _ _ [.pointer (some ⟨p, 0, none⟩), .agg (bvs nn).toArray, .slice B n d, .slice none 0 0] rfl (by kernel_rfl) rfl) ?_
  refine (seal_yes p (allW l) 13 nn (o.take n) B n d none 0 0 [] wd (H4.out.1.keep0 H0.out) HNN.out (by have := HOX.out; have := HB.out; rw [List.length_take]; omega) (by have := HOX.out; have := HB.out; omega) (by have h := (HOX.out.2.1.keep0 (H4.out.2.2.1.trans H0.out (fun _ e => e.elim))).take n; rw [bvs, ← List.map_take] at h; exact h) (aad_none _) (by have := HB.out; omega) (by simp [catP])).mono ?_
  rintro e w5 ⟨A5, c5, rfl, hO, k5, hA5⟩
  have H5k := Lib.hid (H0.out.trans k5 (fun _ e => e.elim))
  refine ⟨_, rfl, H5k.out, fun _ => ?_⟩
  simp only [Act.put, List.setIfInBounds_toArray, List.set_cons_zero, List.set_cons_succ]
  have HO5 := Lib.hid (And.intro hO.row hO.cap.1)
  clear hO k5 hA5
  refine reg_take (v := .tuple #[.slice A5 (n + 16) c5, .int .i64 0]) 7 (some 63) rfl rfl (by kernel_rfl) (by kernel_rfl) (by kernel_rfl) (by rfl) H5k.out (fun w hw => by go_simp) ?_
  simp only [Act.put, List.setIfInBounds_toArray, List.set_cons_zero, List.set_cons_succ]
  refine reg_take (v := .slice A5 (n + 16) c5) 8 (some 71) rfl rfl (by kernel_rfl) (by kernel_rfl) (by kernel_rfl) (by rfl) H5k.out (fun w hw => by go_simp) ?_
  simp only [Act.put, List.setIfInBounds_toArray, List.set_cons_zero, List.set_cons_succ]
  refine reg_take (v := .int .i64 0) 9 (some 72) rfl rfl (by kernel_rfl) (by kernel_rfl) (by kernel_rfl) (by rfl) H5k.out (fun w hw => by go_simp) ?_
  simp only [Act.put, List.setIfInBounds_toArray, List.set_cons_zero, List.set_cons_succ]
  refine reg_take (v := .slice A5 (n + 16) c5) 10 (some 17) rfl rfl (by kernel_rfl) (by kernel_rfl) (by kernel_rfl) (by rfl) H5k.out (fun w hw => by go_simp) ?_
  simp only [Act.put, List.setIfInBounds_toArray, List.set_cons_zero, List.set_cons_succ]
  refine reg_take (v := .int .i64 0) 11 (some 18) rfl rfl (by kernel_rfl) (by kernel_rfl) (by kernel_rfl) (by rfl) H5k.out (fun w hw => by go_simp) ?_
  simp only [Act.put, List.setIfInBounds_toArray, List.set_cons_zero, List.set_cons_succ]
  refine reg_end (by kernel_rfl) ?_
  obtain ⟨U, hU⟩ : ∃ U, U = stream (allW l) 13 nn (o.take n) := ⟨_, rfl⟩
  have H5 : Hid (Kp nob w w5 ∧ Row w5 A3 (bvs T) ∧ Row w5 A4 (bvs (T.take i)) ∧ Row w5 A5 (bvs U)) := Lib.hid ⟨H4.out.2.2.1.trans H5k.out (fun _ e => e.elim), H4.out.2.2.2.1.keep0 H5k.out, H4.out.2.2.2.2.1.keep0 H5k.out, (by
    have := HO5.out.1.take n
    have ht : (o.take n).length = n := by have := HOX.out; have := HB.out; rw [List.length_take]; omega
    rw [bvs, ← List.map_take, gs_take_at _ _ _ _ _ _ ht] at this
    rw [hU]
    exact this)⟩
  have HC4 := Lib.hid H4.out.2.2.2.2.2
  have HU := Lib.hid hU
  clear H0 H5k HO5 hs2 H4 hU
  go_wp2
  have hs3 := slice_to A3 (n + 16) c3 i (by have := HC3.out; have := HB.out; omega)
  have hs4 := slice_to A4 (i + 16) c4 i (by have := HC4.out; omega)
  have HTL := Lib.hid (show (T.take i).length = i by have := HB.out; have := HTX.out; rw [List.length_take, HT3.out, stream_length]; omega)
  have HS0 := Lib.hid (show Kp nob w5 w5.drew from (Kp.refl nob w5).drew)
  refine reg_begin (fun w' => Kp nob w5 w') (by kernel_rfl) HS0.out (fun _ => ?_)
  generalize w5.drew = wd at *
  refine reg_take (v := .int .i64 0) 0 (some 73) rfl rfl (by kernel_rfl) (by kernel_rfl) (by kernel_rfl) (by rfl) HS0.out (fun w hw => by go_simp) ?_
  simp only [Act.put, List.setIfInBounds_toArray, List.set_cons_zero, List.set_cons_succ]
  refine reg_take (v := .bool false) 1 (some 74) rfl rfl (by kernel_rfl) (by kernel_rfl) (by kernel_rfl) (by rfl) HS0.out (fun w hw => by go_simp) ?_
  simp only [Act.put, List.setIfInBounds_toArray, List.set_cons_zero, List.set_cons_succ]
  refine reg_take (v := .bool false) 2 (some 75) rfl rfl (by kernel_rfl) (by kernel_rfl) (by kernel_rfl) (by rfl) HS0.out (fun w hw => by go_simp) ?_
  simp only [Act.put, List.setIfInBounds_toArray, List.set_cons_zero, List.set_cons_succ]
  refine reg_take (v := .int .i64 0) 3 (some 76) rfl rfl (by kernel_rfl) (by kernel_rfl) (by kernel_rfl) (by rfl) HS0.out (fun w hw => by go_simp) ?_
  simp only [Act.put, List.setIfInBounds_toArray, List.set_cons_zero, List.set_cons_succ]
  refine reg_take (v := .bool false) 4 (some 77) rfl rfl (by kernel_rfl) (by kernel_rfl) (by kernel_rfl) (by rfl) HS0.out (fun w hw => by go_simp) ?_
  simp only [Act.put, List.setIfInBounds_toArray, List.set_cons_zero, List.set_cons_succ]
  refine reg_take (v := .bool false) 5 (some 78) rfl rfl (by kernel_rfl) (by kernel_rfl) (by kernel_rfl) (by rfl) HS0.out (fun w hw => by go_simp) ?_
  simp only [Act.put, List.setIfInBounds_toArray, List.set_cons_zero, List.set_cons_succ]
  refine reg_take (v := .bool false) 6 (some 79) rfl rfl (by kernel_rfl) (by kernel_rfl) (by kernel_rfl) (by rfl) HS0.out (fun w hw => by go_simp) ?_
  simp only [Act.put, List.setIfInBounds_toArray, List.set_cons_zero, List.set_cons_succ]
  refine reg_take (v := .int .i64 0) 7 (some 80) rfl rfl (by kernel_rfl) (by kernel_rfl) (by kernel_rfl) (by rfl) HS0.out (fun w hw => by go_simp) ?_
  simp only [Act.put, List.setIfInBounds_toArray, List.set_cons_zero, List.set_cons_succ]
  refine reg_take (v := .bool false) 8 (some 81) rfl rfl (by kernel_rfl) (by kernel_rfl) (by kernel_rfl) (by rfl) HS0.out (fun w hw => by go_simp) ?_
  simp only [Act.put, List.setIfInBounds_toArray, List.set_cons_zero, List.set_cons_succ]
  refine reg_take (v := .bool false) 9 (some 82) rfl rfl (by kernel_rfl) (by kernel_rfl) (by kernel_rfl) (by rfl) HS0.out (fun w hw => by go_simp) ?_
  simp only [Act.put, List.setIfInBounds_toArray, List.set_cons_zero, List.set_cons_succ]
  refine reg_take (v := .bool false) 10 (some 83) rfl rfl (by kernel_rfl) (by kernel_rfl) (by kernel_rfl) (by rfl) HS0.out (fun w hw => by go_simp) ?_
  simp only [Act.put, List.setIfInBounds_toArray, List.set_cons_zero, List.set_cons_succ]
  refine reg_take (v := .int .i64 0) 11 (some 84) rfl rfl (by kernel_rfl) (by kernel_rfl) (by kernel_rfl) (by rfl) HS0.out (fun w hw => by go_simp) ?_
  simp only [Act.put, List.setIfInBounds_toArray, List.set_cons_zero, List.set_cons_succ]
  refine reg_take (v := .bool false) 12 (some 85) rfl rfl (by kernel_rfl) (by kernel_rfl) (by kernel_rfl) (by rfl) HS0.out (fun w hw => by go_simp) ?_
  simp only [Act.put, List.setIfInBounds_toArray, List.set_cons_zero, List.set_cons_succ]
  refine reg_take (v := .bool false) 13 (some 86) rfl rfl (by kernel_rfl) (by kernel_rfl) (by kernel_rfl) (by rfl) HS0.out (fun w hw => by go_simp) ?_
  simp only [Act.put, List.setIfInBounds_toArray, List.set_cons_zero, List.set_cons_succ]
  refine reg_take (v := .bool false) 14 (some 87) rfl rfl (by kernel_rfl) (by kernel_rfl) (by kernel_rfl) (by rfl) HS0.out (fun w hw => by go_simp) ?_
  simp only [Act.put, List.setIfInBounds_toArray, List.set_cons_zero, List.set_cons_succ]
  refine reg_take (v := .slice A3 (n + 16) c3) 15 (some 88) rfl rfl (by kernel_rfl) (by kernel_rfl) (by kernel_rfl) (by rfl) HS0.out (fun w hw => by go_simp) ?_
  simp only [Act.put, List.setIfInBounds_toArray, List.set_cons_zero, List.set_cons_succ]
  refine reg_take (v := .int .i64 (i : Int)) 16 (some 89) rfl rfl (by kernel_rfl) (by kernel_rfl) (by kernel_rfl) (by rfl) HS0.out (fun w hw => by go_simp) ?_
  simp only [Act.put, List.setIfInBounds_toArray, List.set_cons_zero, List.set_cons_succ]
  refine reg_take (v := .slice A3 i c3) 17 (some 90) rfl rfl (by kernel_rfl) (by kernel_rfl) (by kernel_rfl) (by rfl) HS0.out (fun w hw => by go_simp) ?_
  simp only [Act.put, List.setIfInBounds_toArray, List.set_cons_zero, List.set_cons_succ]
  refine reg_bytesStr 18 (some 91) 24 9 5 (.tmp 90) rfl rfl rfl (by kernel_rfl) (by kernel_rfl) (by kernel_rfl) (by rfl) HS0.out u8s_under (by kernel_rfl) (by kernel_rfl) A3 i c3 (T.take i) HTL.out rfl (fun _ x => by have h := (H5.out.2.1.keep0 x).take i; rw [bvs, ← List.map_take] at h; exact h) ?_
  simp only [Act.put, List.setIfInBounds_toArray, List.set_cons_zero, List.set_cons_succ]
  refine reg_take (v := .slice A4 (i + 16) c4) 19 (some 92) rfl rfl (by kernel_rfl) (by kernel_rfl) (by kernel_rfl) (by rfl) HS0.out (fun w hw => by go_simp) ?_
  simp only [Act.put, List.setIfInBounds_toArray, List.set_cons_zero, List.set_cons_succ]
  refine reg_take (v := .int .i64 (i : Int)) 20 (some 93) rfl rfl (by kernel_rfl) (by kernel_rfl) (by kernel_rfl) (by rfl) HS0.out (fun w hw => by go_simp) ?_
  simp only [Act.put, List.setIfInBounds_toArray, List.set_cons_zero, List.set_cons_succ]
  refine reg_take (v := .slice A4 i c4) 21 (some 94) rfl rfl (by kernel_rfl) (by kernel_rfl) (by kernel_rfl) (by rfl) HS0.out (fun w hw => by go_simp) ?_
  simp only [Act.put, List.setIfInBounds_toArray, List.set_cons_zero, List.set_cons_succ]
  refine reg_bytesStr 22 (some 95) 24 9 5 (.tmp 94) rfl rfl rfl (by kernel_rfl) (by kernel_rfl) (by kernel_rfl) (by rfl) HS0.out u8s_under (by kernel_rfl) (by kernel_rfl) A4 i c4 (T.take i) HTL.out rfl (fun _ x => H5.out.2.2.1.keep0 x) ?_
  simp only [Act.put, List.setIfInBounds_toArray, List.set_cons_zero, List.set_cons_succ]
  refine reg_take (v := .bool false) 23 (some 96) rfl rfl (by kernel_rfl) (by kernel_rfl) (by kernel_rfl) (by rfl) HS0.out (fun w hw => by go_simp) ?_
  simp only [Act.put, List.setIfInBounds_toArray, List.set_cons_zero, List.set_cons_succ]
  refine reg_take (v := .bool false) 24 (some 97) rfl rfl (by kernel_rfl) (by kernel_rfl) (by kernel_rfl) (by rfl) HS0.out (fun w hw => by go_simp) ?_
  simp only [Act.put, List.setIfInBounds_toArray, List.set_cons_zero, List.set_cons_succ]
  refine reg_end (by kernel_rfl) ?_
  have H6 : Hid (Kp nob w wd ∧ Row wd A3 (bvs T) ∧ Row wd A5 (bvs U)) := Lib.hid ⟨H5.out.1.trans HS0.out (fun _ e => e.elim), H5.out.2.1.keep0 HS0.out, H5.out.2.2.2.keep0 HS0.out⟩
  clear HS0 H5 hs3 hs4
  go_wp2
  go_loopw [100] (fun vi wr => ∃ k : Nat, k ≤ n ∧ vi = .int .i64 (k : Int) ∧ Kp nob wd wr)
    (fun vi _ => n - (intOf vi).toNat)
  case atStart => exact ⟨0, Nat.zero_le _, rfl, Kp.refl _ _⟩
  case round =>
    obtain ⟨k, hk, rfl, hkp⟩ := hrel
    have HKP := Lib.hid hkp; clear hkp
    by_cases hlt : k < n
    · have cellOf : ∀ (X : Option Addr) (xs : List UInt8), Row wd X (bvs xs) → k < xs.length → ∃ g o, X = some ⟨g, o, none⟩ ∧ ∀ wy, Kp nob wd wy → wy.cell? ⟨g, o + k, none⟩ = some (.int .u8 (cb (gb xs k))) := fun X xs hx hk => by
        obtain ⟨g, o, hX, hlt, hc⟩ := hx.at_ (i := k) (by rw [bvs_length]; exact hk)
        refine ⟨g, o, hX, fun wy ky => ?_⟩
        rw [ky.cell (p := ⟨g, o + k, none⟩) hlt (fun e => e), hc]
        have := Aes.gb_get xs k hk
        rwa [List.getElem?_eq_getElem (by rw [bvs_length]; exact hk)] at this
      have HTT := HTX.out; have HOO := HOX.out; have HBB := HB.out
      have hTl : T.length = n := by rw [HT3.out, stream_length]; exact HTT.1
      have hUl : U.length = n := by rw [HU.out, stream_length, List.length_take]; omega
      obtain ⟨ga, oa, rfl, qa⟩ := cellOf A3 T H6.out.2.1 (by omega)
      obtain ⟨gc, oc, rfl, qc⟩ := cellOf A5 U H6.out.2.2 (by omega)
      obtain ⟨gt, ot, rfl, qt⟩ := cellOf A t (HTT.2.1.keep0 H6.out.1) (by omega)
      obtain ⟨gq, oo, rfl, qo⟩ := cellOf B o (HOO.2.1.keep0 H6.out.1) (by omega)
      have hx : gb T k ^^^ gb U k = gb t k ^^^ gb o k := by
        rw [HT3.out, HU.out, stream_diff _ _ _ _ _ _ (by omega) (by rw [List.length_take]; omega), Ghash.gb_take _ _ _ hlt]
      have ca := qa wr HKP.out; have cc := qc wr HKP.out; have ct := qt wr HKP.out; have co := qo wr HKP.out
      generalize gb T k = x1 at *
      generalize gb U k = x2 at *
      generalize gb t k = x3 at *
      generalize gb o k = x4 at *
      have l1 : k < n + 16 := by omega
      have l2 : k < m := by omega
      have l3 : k ≤ 1024 := by omega
      clear qa qc qt qo cellOf hTl hUl HTT HOO HBB HTX HOX H6
      go_wp2
      go_quiet (fail)
      have HK9 := Lib.hid (kp_drewN HKP.out nq)
      generalize wr.drewN nq = wz at *
      clear hx ca cc ct co
      go_wp2
      go_roundw
      case rel => exact ⟨k + 1, by omega, by go_num, HK9.out⟩
      case measure => simp [intOf]; omega
    · go_wp2
      go_ret
      exact ⟨rfl, H6.out.1.trans HKP.out (fun _ e => e.elim)⟩
theorem begins_walk (l nn : List UInt8) (A : Option Addr) (n c : Nat) (t : List UInt8) (i : Int) (B : Option Addr) (m d : Nat) (o : List UInt8) (w : World) (ht : Sq w) (hl : l.length = 32) (hnn : nn.length = 12)
    (h1 : t.length = n) (_ : A = none → c = 0) (h3 : Row w A (bvs t)) (h4 : n ≤ c) (_ : c ≤ maxLen) (_hi : (Lit.int .i64 i).wf = true) (g1 : o.length = m) (_ : B = none → d = 0) (g3 : Row w B (bvs o)) (g4 : m ≤ d) (_ : d ≤ maxLen) :
    Calls Tryd.prog 8 #[.agg (bvs l).toArray, .agg (bvs nn).toArray, .slice A n c, .int .i64 i, .slice B m d] w fun e w' => e = .returned (.bool true) ∧ Kp nob w w' := by
  by_cases h : 1024 < n ∨ i < 0 ∨ (n : Int) < i ∨ m < n
  · exact begins_no l nn A n c i B m d w ht h
  · obtain ⟨j, rfl⟩ : ∃ j : Nat, i = j := ⟨i.toNat, by omega⟩
    exact begins_yes l nn A n c t j B m d o w ht hl hnn h1 h3 h4 g1 g3 g4 (by omega) (by omega) (by omega)
end Go.Proofs.YtbainiblffcjgaaDoor.Gcm
