/- GcmOpens: Open answers what the document says, of any bytes. -/
import Derived.Test.YtbainiblffcjgaaDoorZGcmL
import Derived.Test.YtbainiblffcjgaaDoorZGcmX
import Derived.Test.YtbainiblffcjgaaDoorZGa
namespace Go.Proofs.YtbainiblffcjgaaDoor.Gcm
set_option linter.unusedVariables false
set_option linter.unusedSimpArgs false
open Go Go.RowKit Kit
open Aes (gb tb tb_length arrB enc enc_length allW noughts)
open Ghash (none16 none_length len16)
open Field (cb cb_inj Sq)
open Sha (Pc PcsOk catP catP_one catP_nil)

/-- Open, as the document's answer has it. -/
theorem open_all (p : Nat) (W : List UInt8) (R : Nat) (nn l : List UInt8) (A : Option Addr) (n c : Nat) (B : Option Addr) (m d : Nat) (ps : List Pc) (w : World) (hS : SealAt w p W R) (hnn : nn.length = 12) (hl : l.length = n) (hc : n ≤ c) (hr : Row w A (bvs l)) (ha : Aad w B m ps) (hx : n ≤ 1048576) (hx2 : (catP ps).length ≤ 1048576) (Y : List UInt8) (ok : Bool) (hop : opn W R nn l (catP ps) = (Y, ok)) :
    Calls Tryd.prog 13 #[.pointer (some ⟨p, 0, none⟩), .agg (bvs nn).toArray, .slice A n c, .slice B m d] w fun e w' => ∃ X k q, e = .returned (.tuple #[.slice X k q, .int .i64 (if ok then 0 else 9)]) ∧ Y.length = k ∧ Row w' X (bvs Y) ∧ Kp nob w w' := by
  by_cases h : n < 16
  · rw [opn_short _ _ _ _ _ (by omega)] at hop
    injection hop with h1 h2
    subst h1; subst h2
    refine (open_short p nn A n c B m d w h).mono ?_
    rintro e w' ⟨rfl, k⟩
    exact ⟨none, 0, 0, rfl, rfl, Row.nil _ _, k⟩
  · obtain ⟨j, rfl⟩ : ∃ j, n = j + 16 := ⟨n - 16, by omega⟩
    have hi := opened_iff W R nn l (catP ps) (by omega)
    rw [show l.length - 16 = j by omega] at hi
    refine (open_any p W R nn l A j c B m d ps w hS hnn hl hc hr ha (by omega) hx2 _ rfl).mono ?_
    rintro e w' ⟨k, h1, h2⟩
    cases hb : (tag W R nn (catP ps) (l.take j) == l.drop j) with
    | true =>
      obtain ⟨A', c', rfl, hO, _⟩ := h1 hb
      rw [opn_yes _ _ _ _ _ (by omega) (by rw [show l.length - 16 = j by omega]; exact hi.1 (by simpa using hb)), show l.length - 16 = j by omega] at hop
      injection hop with g1 g2
      subst g1; subst g2
      exact ⟨A', j, c', rfl, by rw [stream_length, List.length_take]; omega, hO.row, k⟩
    | false =>
      obtain rfl := h2 hb
      rw [opn_no _ _ _ _ _ (by rw [show l.length - 16 = j by omega]; exact fun e => by have := hi.2 e; simp [this] at hb)] at hop
      injection hop with g1 g2
      subst g1; subst g2
      exact ⟨none, 0, 0, rfl, rfl, Row.nil _ _, k⟩

set_option maxHeartbeats 1000000 in
set_option maxRecDepth 100000 in
theorem opens_no (l : List UInt8) (s : Bool) (nn : List UInt8) (A : Option Addr) (n c : Nat) (B : Option Addr) (m d : Nat) (w : World) (ht : Sq w) (h : 200 < n ∨ 200 < m) :
    Calls Tryd.prog 4 #[.agg (bvs l).toArray, .bool s, .agg (bvs nn).toArray, .slice A n c, .slice B m d] w fun e w' => e = .returned (.bool true) ∧ Kp nob w w' := by
  have HT := Lib.hid ht; clear ht
  go_enter Tryd.func4, Tryd.ntmps4
  go_wp2_with fail
  refine (alive_yes _ (HT.out.keep0 (((Kp.refl nob w).alloc _).alloc _))).mono ?_
  rintro e w1 ⟨rfl, k1⟩
  have K1 := Lib.hid ((((Kp.refl nob w).alloc (.cells (bvs l).toArray 22)).alloc (.cells (bvs nn).toArray 23)).trans k1 (fun _ e => e.elim)); clear k1
  by_cases h1 : 200 < n
  · have d1 : decide ((200 : Int) < (n : Int)) = true := by simp; omega
    clear h1 h
    go_wp2
    go_ret
    exact ⟨rfl, K1.out⟩
  · have d1 : decide ((200 : Int) < (n : Int)) = false := by simp; omega
    have d2 : decide ((200 : Int) < (m : Int)) = true := by simp; omega
    clear h1 h
    go_wp2
    go_ret
    exact ⟨rfl, K1.out⟩
set_option maxHeartbeats 4000000 in
set_option maxRecDepth 100000 in
theorem opens_yes (l : List UInt8) (s : Bool) (nn : List UInt8) (A : Option Addr) (n c : Nat) (x : List UInt8) (B : Option Addr) (m d : Nat) (o : List UInt8) (w : World) (ht : Sq w) (hl : l.length = 32) (hnn : nn.length = 12)
    (h1 : x.length = n) (h3 : Row w A (bvs x)) (h4 : n ≤ c) (g1 : o.length = m) (g2 : B = none → d = 0) (g3 : Row w B (bvs o)) (g4 : m ≤ d) (g5 : d ≤ maxLen) (hn : n ≤ 200) (hm : m ≤ 200) :
    Calls Tryd.prog 4 #[.agg (bvs l).toArray, .bool s, .agg (bvs nn).toArray, .slice A n c, .slice B m d] w fun e w' => e = .returned (.bool true) ∧ Kp nob w w' := by
  have HT := Lib.hid ht; have HL := Lib.hid hl; have HNN := Lib.hid hnn
  have HNL := Lib.hid (show (bvs nn).length = 12 by rw [bvs_length, hnn])
  have HKL := Lib.hid (show (bvs l).length = 32 by rw [bvs_length, hl])
  have HX := Lib.hid (And.intro h1 (And.intro h3 h4)); have HO := Lib.hid (And.intro g1 (And.intro g2 (And.intro g3 (And.intro g4 g5)))); have HB := Lib.hid (And.intro hn hm)
  have d1 : decide ((200 : Int) < (n : Int)) = false := by simp; omega
  have d2 : decide ((200 : Int) < (m : Int)) = false := by simp; omega
  obtain ⟨W, hW⟩ : ∃ W, W = allW (kb l s) := ⟨_, rfl⟩
  obtain ⟨Y, ok, hop⟩ : ∃ Y ok, opn W (nk s + 5) nn x o = (Y, ok) := ⟨_, _, rfl⟩
  have HW := Lib.hid hW; have HOP := Lib.hid hop
  have HKB := Lib.hid (kb_length l s hl)
  clear ht hl hnn h1 h3 h4 g1 g2 g3 g4 g5 hn hm hW hop
  go_enter Tryd.func4, Tryd.ntmps4
  go_wp2_with fail
  refine (alive_yes _ (HT.out.keep0 (((Kp.refl nob w).alloc _).alloc _))).mono ?_
  rintro e w1 ⟨rfl, k1⟩
  have H1 : Hid (Blk w1 w.heap.size 22 (bvs l) ∧ Blk w1 (w.heap.size + 1) 23 (bvs nn) ∧ Kp nob w w1) := Lib.hid ⟨((Blk.new w _ _).alloc _).keep k1 (fun e => e), (Blk.new' (by simp) rfl).keep k1 (fun e => e), (((Kp.refl nob w).alloc _).alloc _).trans k1 (fun _ e => e.elim)⟩
  clear k1
  go_wp2_with (first
    | (refine wpList_load_blk rfl 22 (.tmp 5) rfl _ _ _ H1.out.1 rfl _ arr32u rfl (by rw [HKL.out]; kernel_rfl) ?_)
    | fail)
  refine (key_any l s w1 HL.out).mono ?_
  rintro e w2 ⟨A2, c2, rfl, hO2, k2, hA2⟩
  have H2 : Hid (Blk w2 w.heap.size 22 (bvs l) ∧ Blk w2 (w.heap.size + 1) 23 (bvs nn) ∧ Kp nob w w2 ∧ Row w2 A2 (bvs (kb l s)) ∧ 4 * nk s ≤ c2) := Lib.hid ⟨H1.out.1.keep k2 (fun e => e), H1.out.2.1.keep k2 (fun e => e), H1.out.2.2.trans k2 (fun _ e => e.elim), hO2.row, hO2.cap.1⟩
  clear hO2 k2 hA2 H1
  go_wp2_with fail
  refine (new_yes (nk s) (kb l s) A2 c2 w2 (HT.out.keep0 H2.out.2.2.1) HKB.out (nk_or s) H2.out.2.2.2.1 H2.out.2.2.2.2).mono ?_
  rintro e w3 ⟨p, rfl, hs, hp, k3⟩
  rw [← HW.out] at hs
  have H3 : Hid (SealAt w3 p W (nk s + 5) ∧ Blk w3 w.heap.size 22 (bvs l) ∧ Blk w3 (w.heap.size + 1) 23 (bvs nn) ∧ Kp nob w w3) := Lib.hid ⟨hs, H2.out.1.keep k3 (fun e => e), H2.out.2.1.keep k3 (fun e => e), H2.out.2.2.1.trans k3 (fun _ e => e.elim)⟩
  clear hs hp k3 H2
  go_wp2_with (first
    | (refine wpList_load_blk rfl 23 (.tmp 7) rfl _ _ _ H3.out.2.2.1 rfl _ arr12 rfl (by rw [HNL.out]; kernel_rfl) ?_)
    | fail)
  have ha := aad_one (w := w3) ⟨B, m, d, o⟩ HO.out.1 (HO.out.2.2.1.keep0 H3.out.2.2.2) HO.out.2.2.2.1 HO.out.2.2.2.2 HO.out.2.1 (by have := HB.out; show m ≤ _; omega)
  have k34 : Kp nob w3 (w3.alloc (.cells #[.slice B m d] 24)) := (Kp.refl nob w3).alloc _
  refine (open_all p W (nk s + 5) nn x A n c _ 1 1 _ _ (H3.out.1.keep0 k34) HNN.out HX.out.1 HX.out.2.2 (HX.out.2.1.keep0 (H3.out.2.2.2.trans k34 (fun _ e => e.elim))) ha (by have := HB.out; omega) (by rw [catP_one]; show o.length ≤ _; have := HB.out; have := HO.out.1; omega) Y ok (by rw [catP_one]; exact HOP.out)).mono ?_
  rintro e w4 ⟨X, k, q, rfl, hk, hrow, k4⟩
  have k34' := k34.trans k4 (fun _ e => e.elim)
  have H4 : Hid (Blk w4 w.heap.size 22 (bvs l) ∧ Blk w4 (w.heap.size + 1) 23 (bvs nn) ∧ Kp nob w w4 ∧ Row w4 X (bvs Y) ∧ Y.length = k) := Lib.hid ⟨H3.out.2.1.keep k34' (fun e => e), H3.out.2.2.1.keep k34' (fun e => e), H3.out.2.2.2.trans k34' (fun _ e => e.elim), hrow, hk⟩
  clear ha k34 k34' k4 hrow hk H3
  cases ok
  case false =>
    go_wp2
    refine reg_start (fun w' => Kp nob w4 w') (by kernel_rfl) (Kp.refl nob w4).drew (fun wd hd => ?_)
    have H0 := Lib.hid hd
    clear hd
    refine reg_load 0 (some 46) 22 (.tmp 5) rfl rfl rfl (by kernel_rfl) (by kernel_rfl) (by kernel_rfl) (by rfl) H0.out (w.heap.size) 0 rfl (bvs l) _ (fun _ x => (H4.out.1.keep x (fun e => e)).range) arr32u rfl (by rw [HKL.out]; kernel_rfl) ?_
    simp only [Act.put, List.setIfInBounds_toArray, List.set_cons_zero, List.set_cons_succ]
    refine reg_take (v := .bool s) 1 (some 47) rfl rfl (by kernel_rfl) (by kernel_rfl) (by kernel_rfl) (by rfl) H0.out (fun w hw => by go_simp) ?_
    simp only [Act.put, List.setIfInBounds_toArray, List.set_cons_zero, List.set_cons_succ]
    refine reg_load 3 (some 49) 23 (.tmp 7) rfl rfl rfl (by kernel_rfl) (by kernel_rfl) (by kernel_rfl) (by rfl) H0.out (w.heap.size + 1) 0 rfl (bvs nn) _ (fun _ x => (H4.out.2.1.keep x (fun e => e)).range) arr12 rfl (by rw [HNL.out]; kernel_rfl) ?_
    simp only [Act.put, List.setIfInBounds_toArray, List.set_cons_zero, List.set_cons_succ]
    refine reg_take (v := .slice A n c) 4 (some 50) rfl rfl (by kernel_rfl) (by kernel_rfl) (by kernel_rfl) (by rfl) H0.out (fun w hw => by go_simp) ?_
    simp only [Act.put, List.setIfInBounds_toArray, List.set_cons_zero, List.set_cons_succ]
    refine reg_bytesStr 5 (some 51) 24 9 5 (.tmp 50) rfl rfl rfl (by kernel_rfl) (by kernel_rfl) (by kernel_rfl) (by rfl) H0.out u8s_under (by kernel_rfl) (by kernel_rfl) A n c x HX.out.1 rfl (fun _ z => HX.out.2.1.keep0 (H4.out.2.2.1.trans z (fun _ e => e.elim))) ?_
    simp only [Act.put, List.setIfInBounds_toArray, List.set_cons_zero, List.set_cons_succ]
    refine reg_take (v := .slice B m d) 6 (some 52) rfl rfl (by kernel_rfl) (by kernel_rfl) (by kernel_rfl) (by rfl) H0.out (fun w hw => by go_simp) ?_
    simp only [Act.put, List.setIfInBounds_toArray, List.set_cons_zero, List.set_cons_succ]
    refine reg_bytesStr 7 (some 53) 24 9 5 (.tmp 52) rfl rfl rfl (by kernel_rfl) (by kernel_rfl) (by kernel_rfl) (by rfl) H0.out u8s_under (by kernel_rfl) (by kernel_rfl) B m d o HO.out.1 rfl (fun _ x => HO.out.2.2.1.keep0 (H4.out.2.2.1.trans x (fun _ e => e.elim))) ?_
    simp only [Act.put, List.setIfInBounds_toArray, List.set_cons_zero, List.set_cons_succ]
    refine reg_call 2 (some 48) rfl rfl (by kernel_rfl) (by rfl) _ _ (exec_func 11 _ _ [.agg (bvs l).toArray, .bool s] rfl (by kernel_rfl) rfl) ?_
    refine (key_any l s wd HL.out).mono ?_
    rintro e w5 ⟨A5, c5, rfl, hO5, k5, hA5⟩
    have H5 := Lib.hid (H0.out.trans k5 (fun _ e => e.elim))
    refine ⟨_, rfl, H5.out, fun _ => ?_⟩
    simp only [Act.put, List.setIfInBounds_toArray, List.set_cons_zero, List.set_cons_succ]
    have HO5 := Lib.hid (And.intro hO5.row hO5.cap.1)
    clear hO5 k5 hA5
    refine reg_call 8 (some 54) rfl rfl (by kernel_rfl) (by rfl) _ _ (exec_func 15 _ _ [.slice A5 (4 * nk s) c5, .agg (bvs nn).toArray, .string (str x), .string (str o)] rfl (by kernel_rfl) rfl) ?_
    refine (fOpenG (kb l s) (nk s) A5 c5 nn (str x) (str o) w5 HKB.out HO5.out.1 HO5.out.2 (nk_le s).1 (nk_le s).2 HNN.out (by rw [str_size, HX.out.1]; have := HB.out; omega) (by rw [str_size, HO.out.1]; have := HB.out; omega)).mono ?_
    rintro e w6 ⟨rfl, k6⟩
    rw [sl_str, sl_str, ← HW.out, HOP.out]
    have H6 := Lib.hid (H5.out.trans k6 (fun _ e => e.elim))
    refine ⟨_, rfl, H6.out, fun _ => ?_⟩
    simp only [Act.put, List.setIfInBounds_toArray, List.set_cons_zero, List.set_cons_succ]
    refine reg_take (v := .tuple #[.string (str Y), .bool false]) 9 (some 45) rfl rfl (by kernel_rfl) (by kernel_rfl) (by kernel_rfl) (by rfl) H6.out (fun w hw => by go_simp) ?_
    simp only [Act.put, List.setIfInBounds_toArray, List.set_cons_zero, List.set_cons_succ]
    refine reg_take (v := .string (str Y)) 10 (some 55) rfl rfl (by kernel_rfl) (by kernel_rfl) (by kernel_rfl) (by rfl) H6.out (fun w hw => by go_simp) ?_
    simp only [Act.put, List.setIfInBounds_toArray, List.set_cons_zero, List.set_cons_succ]
    refine reg_take (v := .bool false) 11 (some 56) rfl rfl (by kernel_rfl) (by kernel_rfl) (by kernel_rfl) (by rfl) H6.out (fun w hw => by go_simp) ?_
    simp only [Act.put, List.setIfInBounds_toArray, List.set_cons_zero, List.set_cons_succ]
    refine reg_take (v := .string (str Y)) 12 (some 15) rfl rfl (by kernel_rfl) (by kernel_rfl) (by kernel_rfl) (by rfl) H6.out (fun w hw => by go_simp) ?_
    simp only [Act.put, List.setIfInBounds_toArray, List.set_cons_zero, List.set_cons_succ]
    refine reg_take (v := .bool false) 13 (some 16) rfl rfl (by kernel_rfl) (by kernel_rfl) (by kernel_rfl) (by rfl) H6.out (fun w hw => by go_simp) ?_
    simp only [Act.put, List.setIfInBounds_toArray, List.set_cons_zero, List.set_cons_succ]
    refine reg_end (by kernel_rfl) ?_
    have H7 : Hid (Kp nob w w6 ∧ Row w6 X (bvs Y)) := Lib.hid ⟨H4.out.2.2.1.trans H6.out (fun _ e => e.elim), H4.out.2.2.2.1.keep0 H6.out⟩
    have HYL := Lib.hid H4.out.2.2.2.2
    clear H0 H5 H6 HO5 H4
    go_wp2_with (first
      | (refine wpList_bytes_str rfl 24 9 5 (.tmp 57) rfl u8s_under (by kernel_rfl) (by kernel_rfl) X k q Y HYL.out H7.out.2 rfl ?_)
      | fail)
    go_ret
    exact ⟨rfl, H7.out.1⟩
  case true =>
    go_wp2
    refine reg_start (fun w' => Kp nob w4 w') (by kernel_rfl) (Kp.refl nob w4).drew (fun wd hd => ?_)
    have H0 := Lib.hid hd
    clear hd
    refine reg_load 0 (some 46) 22 (.tmp 5) rfl rfl rfl (by kernel_rfl) (by kernel_rfl) (by kernel_rfl) (by rfl) H0.out (w.heap.size) 0 rfl (bvs l) _ (fun _ x => (H4.out.1.keep x (fun e => e)).range) arr32u rfl (by rw [HKL.out]; kernel_rfl) ?_
    simp only [Act.put, List.setIfInBounds_toArray, List.set_cons_zero, List.set_cons_succ]
    refine reg_take (v := .bool s) 1 (some 47) rfl rfl (by kernel_rfl) (by kernel_rfl) (by kernel_rfl) (by rfl) H0.out (fun w hw => by go_simp) ?_
    simp only [Act.put, List.setIfInBounds_toArray, List.set_cons_zero, List.set_cons_succ]
    refine reg_load 3 (some 49) 23 (.tmp 7) rfl rfl rfl (by kernel_rfl) (by kernel_rfl) (by kernel_rfl) (by rfl) H0.out (w.heap.size + 1) 0 rfl (bvs nn) _ (fun _ x => (H4.out.2.1.keep x (fun e => e)).range) arr12 rfl (by rw [HNL.out]; kernel_rfl) ?_
    simp only [Act.put, List.setIfInBounds_toArray, List.set_cons_zero, List.set_cons_succ]
    refine reg_take (v := .slice A n c) 4 (some 50) rfl rfl (by kernel_rfl) (by kernel_rfl) (by kernel_rfl) (by rfl) H0.out (fun w hw => by go_simp) ?_
    simp only [Act.put, List.setIfInBounds_toArray, List.set_cons_zero, List.set_cons_succ]
    refine reg_bytesStr 5 (some 51) 24 9 5 (.tmp 50) rfl rfl rfl (by kernel_rfl) (by kernel_rfl) (by kernel_rfl) (by rfl) H0.out u8s_under (by kernel_rfl) (by kernel_rfl) A n c x HX.out.1 rfl (fun _ z => HX.out.2.1.keep0 (H4.out.2.2.1.trans z (fun _ e => e.elim))) ?_
    simp only [Act.put, List.setIfInBounds_toArray, List.set_cons_zero, List.set_cons_succ]
    refine reg_take (v := .slice B m d) 6 (some 52) rfl rfl (by kernel_rfl) (by kernel_rfl) (by kernel_rfl) (by rfl) H0.out (fun w hw => by go_simp) ?_
    simp only [Act.put, List.setIfInBounds_toArray, List.set_cons_zero, List.set_cons_succ]
    refine reg_bytesStr 7 (some 53) 24 9 5 (.tmp 52) rfl rfl rfl (by kernel_rfl) (by kernel_rfl) (by kernel_rfl) (by rfl) H0.out u8s_under (by kernel_rfl) (by kernel_rfl) B m d o HO.out.1 rfl (fun _ x => HO.out.2.2.1.keep0 (H4.out.2.2.1.trans x (fun _ e => e.elim))) ?_
    simp only [Act.put, List.setIfInBounds_toArray, List.set_cons_zero, List.set_cons_succ]
    refine reg_call 2 (some 48) rfl rfl (by kernel_rfl) (by rfl) _ _ (exec_func 11 _ _ [.agg (bvs l).toArray, .bool s] rfl (by kernel_rfl) rfl) ?_
    refine (key_any l s wd HL.out).mono ?_
    rintro e w5 ⟨A5, c5, rfl, hO5, k5, hA5⟩
    have H5 := Lib.hid (H0.out.trans k5 (fun _ e => e.elim))
    refine ⟨_, rfl, H5.out, fun _ => ?_⟩
    simp only [Act.put, List.setIfInBounds_toArray, List.set_cons_zero, List.set_cons_succ]
    have HO5 := Lib.hid (And.intro hO5.row hO5.cap.1)
    clear hO5 k5 hA5
    refine reg_call 8 (some 54) rfl rfl (by kernel_rfl) (by rfl) _ _ (exec_func 15 _ _ [.slice A5 (4 * nk s) c5, .agg (bvs nn).toArray, .string (str x), .string (str o)] rfl (by kernel_rfl) rfl) ?_
    refine (fOpenG (kb l s) (nk s) A5 c5 nn (str x) (str o) w5 HKB.out HO5.out.1 HO5.out.2 (nk_le s).1 (nk_le s).2 HNN.out (by rw [str_size, HX.out.1]; have := HB.out; omega) (by rw [str_size, HO.out.1]; have := HB.out; omega)).mono ?_
    rintro e w6 ⟨rfl, k6⟩
    rw [sl_str, sl_str, ← HW.out, HOP.out]
    have H6 := Lib.hid (H5.out.trans k6 (fun _ e => e.elim))
    refine ⟨_, rfl, H6.out, fun _ => ?_⟩
    simp only [Act.put, List.setIfInBounds_toArray, List.set_cons_zero, List.set_cons_succ]
    refine reg_take (v := .tuple #[.string (str Y), .bool true]) 9 (some 45) rfl rfl (by kernel_rfl) (by kernel_rfl) (by kernel_rfl) (by rfl) H6.out (fun w hw => by go_simp) ?_
    simp only [Act.put, List.setIfInBounds_toArray, List.set_cons_zero, List.set_cons_succ]
    refine reg_take (v := .string (str Y)) 10 (some 55) rfl rfl (by kernel_rfl) (by kernel_rfl) (by kernel_rfl) (by rfl) H6.out (fun w hw => by go_simp) ?_
    simp only [Act.put, List.setIfInBounds_toArray, List.set_cons_zero, List.set_cons_succ]
    refine reg_take (v := .bool true) 11 (some 56) rfl rfl (by kernel_rfl) (by kernel_rfl) (by kernel_rfl) (by rfl) H6.out (fun w hw => by go_simp) ?_
    simp only [Act.put, List.setIfInBounds_toArray, List.set_cons_zero, List.set_cons_succ]
    refine reg_take (v := .string (str Y)) 12 (some 15) rfl rfl (by kernel_rfl) (by kernel_rfl) (by kernel_rfl) (by rfl) H6.out (fun w hw => by go_simp) ?_
    simp only [Act.put, List.setIfInBounds_toArray, List.set_cons_zero, List.set_cons_succ]
    refine reg_take (v := .bool true) 13 (some 16) rfl rfl (by kernel_rfl) (by kernel_rfl) (by kernel_rfl) (by rfl) H6.out (fun w hw => by go_simp) ?_
    simp only [Act.put, List.setIfInBounds_toArray, List.set_cons_zero, List.set_cons_succ]
    refine reg_end (by kernel_rfl) ?_
    have H7 : Hid (Kp nob w w6 ∧ Row w6 X (bvs Y)) := Lib.hid ⟨H4.out.2.2.1.trans H6.out (fun _ e => e.elim), H4.out.2.2.2.1.keep0 H6.out⟩
    have HYL := Lib.hid H4.out.2.2.2.2
    clear H0 H5 H6 HO5 H4
    go_wp2_with (first
      | (refine wpList_bytes_str rfl 24 9 5 (.tmp 57) rfl u8s_under (by kernel_rfl) (by kernel_rfl) X k q Y HYL.out H7.out.2 rfl ?_)
      | fail)
    go_ret
    exact ⟨rfl, H7.out.1⟩
theorem opens_walk (l : List UInt8) (s : Bool) (nn : List UInt8) (A : Option Addr) (n c : Nat) (x : List UInt8) (B : Option Addr) (m d : Nat) (o : List UInt8) (w : World) (ht : Sq w) (hl : l.length = 32) (hnn : nn.length = 12)
    (h1 : x.length = n) (_ : A = none → c = 0) (h3 : Row w A (bvs x)) (h4 : n ≤ c) (_ : c ≤ maxLen) (g1 : o.length = m) (g2 : B = none → d = 0) (g3 : Row w B (bvs o)) (g4 : m ≤ d) (g5 : d ≤ maxLen) :
    Calls Tryd.prog 4 #[.agg (bvs l).toArray, .bool s, .agg (bvs nn).toArray, .slice A n c, .slice B m d] w fun e w' => e = .returned (.bool true) ∧ Kp nob w w' := by
  by_cases h : 200 < n ∨ 200 < m
  · exact opens_no l s nn A n c B m d w ht h
  · exact opens_yes l s nn A n c x B m d o w ht hl hnn h1 h3 h4 g1 g2 g3 g4 g5 (by omega) (by omega)
end Go.Proofs.YtbainiblffcjgaaDoor.Gcm
