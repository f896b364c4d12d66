/- GhashSums: Write and Of answer what the document says; a nil sum. -/
import Derived.Test.YtefpdnfogdioeaaGhashL
namespace Go.Proofs.Ytefpdnfogdioeaa.Ghash
set_option linter.unusedVariables false
set_option linter.unusedSimpArgs false
open Go Go.RowKit Kit
open Aes (gb tb tb_length gb_tb tb_gb tb_ext tb_eq blk_byte arr16)
open Field (cb cb_inj)

/-- An element that came in, and a sum. -/
structure Hs (w : World) (h : List UInt8) (p : Nat) (s : List UInt8) (w2 : World) : Prop where
  kp : Kp nob w w2
  e : w2.rangeAt w.heap.size 0 (bvs h)
  v : SumAt w2 p h s
theorem Hs.keep {w w2 w3 : World} {h s : List UInt8} {p : Nat} (y : Hs w h p s w2) (k : Kp nob w2 w3) : Hs w h p s w3 := ⟨y.kp.trans k (fun _ e => e.elim), range_keep y.e k (fun e => e), y.v.keep k (fun e => e)⟩
theorem Hs.out {w w2 w3 : World} {h s s2 : List UInt8} {p : Nat} (y : Hs w h p s w2) (hp : w.heap.size < p) (k : Kp (oneB p) w2 w3) (hs : SumAt w3 p h s2) : Hs w h p s2 w3 := ⟨y.kp.since k (fun i e => by unfold oneB at e; omega), range_keep y.e k (fun e => by unfold oneB at e; omega), hs⟩
theorem far_of {w : World} {A : Option Addr} {l : List UInt8} {p : Nat} (hr : Row w A (bvs l)) (hp : w.heap.size ≤ p) : l = [] ∨ ∀ k, ab A = some k → k ≠ p := by
  by_cases e : l = []
  · exact .inl e
  · exact .inr fun k hk => by have := hr.lt (by simpa [bvs] using e) k hk; omega

set_option maxHeartbeats 8000000 in
set_option maxRecDepth 100000 in
theorem sums_yes (h a t : List UInt8) (A : Option Addr) (n c : Nat) (B : Option Addr) (m d : Nat) (w : World) (hh : h.length = 16) (hn : a.length = n) (hc : n ≤ c) (hr : Row w A (bvs a)) (hm : t.length = m) (hd : m ≤ d) (hr2 : Row w B (bvs t)) (hn2 : n ≤ 1024) (hm2 : m ≤ 1024) :
    Calls Try.prog 5 #[.agg (bvs h).toArray, .slice A n c, .slice B m d] w fun e w' => e = .returned (.bool true) ∧ Kp nob w w' := by
  have HH := Lib.hid hh; have HHL := Lib.hid (len16 hh)
  obtain ⟨Y, hY⟩ : ∃ Y, Y = taken h none16 a := ⟨_, rfl⟩
  have HY := Lib.hid (show Y.length = 16 by rw [hY]; exact taken_length _ _ _ rfl)
  obtain ⟨X, hX⟩ : ∃ X, X = taken h Y t := ⟨_, rfl⟩
  have HX := Lib.hid (show X.length = 16 by rw [hX]; exact taken_length _ _ _ HY.out)
  obtain ⟨Z, hZ⟩ : ∃ Z, Z = sum h a t := ⟨_, rfl⟩
  have HZ := Lib.hid (show Z.length = 16 by rw [hZ]; exact sum_length _ _ _)
  have q1 := fun w => eqB_same X HX.out w
  have q2 := fun w => eqB_same Z HZ.out w
  have q3 := fun w => eqB_same none16 none_length w
  have HYE := Lib.hid hY.symm; have HXE := Lib.hid hX.symm; have HZE := Lib.hid hZ.symm
  have HN := Lib.hid hn; have HM := Lib.hid hm; have HC := Lib.hid (And.intro hc hd); have HR1 := Lib.hid hr; have HR2 := Lib.hid hr2
  have HB1 := Lib.hid (show n ≤ 1024 ∧ m ≤ 1024 ∧ a.length ≤ 1024 ∧ t.length ≤ 1024 from ⟨hn2, hm2, by omega, by omega⟩)
  have H0 : Hid (Kp nob w (w.alloc (.cells (bvs h).toArray 22)) ∧ Blk (w.alloc (.cells (bvs h).toArray 22)) w.heap.size 22 (bvs h)) := Lib.hid ⟨(Kp.refl nob w).alloc _, Blk.new' rfl rfl⟩
  clear hh hY hX hZ hn hm hc hd hr hr2
  go_enter Try.func5, Try.ntmps5
  go_wp2_with fail
  refine (alive_yes _).mono ?_
  rintro e w1 ⟨rfl, k1⟩
  have H1 : Hid (Kp nob w w1 ∧ Blk w1 w.heap.size 22 (bvs h)) := Lib.hid ⟨H0.out.1.trans k1 (fun _ e => e.elim), H0.out.2.keep k1 (fun e => e)⟩
  clear H0 k1
  go_wp2_with (refine wpList_load_blk rfl 22 (.tmp 3) rfl _ _ _ H1.out.2 rfl _ arr16 rfl (by rw [HHL.out]; kernel_rfl) ?_)
  refine (new_any h w1 HH.out).mono ?_
  rintro e w2 ⟨p, rfl, hp, hS, k2⟩
  have HP := Lib.hid (show w.heap.size < p from Nat.lt_of_lt_of_le H1.out.2.lt hp)
  have H2 : Hid (Hs w h p none16 w2) := Lib.hid ⟨H1.out.1.trans k2 (fun _ e => e.elim), range_keep H1.out.2.range k2 (fun e => e), hS⟩
  clear hp hS k2 H1 hn2 hm2
  go_wp2_with fail
  refine (write_any p h none16 a A n c w2 HH.out none_length H2.out.v HN.out HC.out.1 (by have := HB1.out; omega) (HR1.out.keep0 H2.out.kp) (far_of HR1.out (Nat.le_of_lt HP.out))).mono ?_
  rintro e w3 ⟨rfl, hS, k3⟩
  rw [HYE.out] at hS
  have H3 := Lib.hid (H2.out.out HP.out k3 hS)
  clear hS k3 H2
  go_wp2_with fail
  refine (write_any p h Y t B m d w3 HH.out HY.out H3.out.v HM.out HC.out.2 (by have := HB1.out; omega) (HR2.out.keep0 H3.out.kp) (far_of HR2.out (Nat.le_of_lt HP.out))).mono ?_
  rintro e w4 ⟨rfl, hS, k4⟩
  rw [HXE.out] at hS
  have H4 := Lib.hid (H3.out.out HP.out k4 hS)
  clear hS k4 H3
  go_wp2_with fail
  refine (write_nil A n c w4).mono ?_
  rintro e w' ⟨rfl, rfl⟩
  go_wp2
  refine reg_start (fun w' => Hs w h p X w') (by kernel_rfl) (H4.out.keep (Kp.refl nob _).drew) (fun w5 hS => ?_)
  have HS0 := Lib.hid hS
  clear hS H4
  refine reg_take (v := .pointer (some ⟨p, 0, none⟩)) 0 (some 30) rfl rfl (by kernel_rfl) (by kernel_rfl) (by kernel_rfl) (by rfl) HS0.out (fun w hw => by go_simp) ?_
  simp only [Act.put, List.setIfInBounds_toArray, List.set_cons_zero, List.set_cons_succ]
  refine reg_load 2 (some 32) 22 (.tmp 3) rfl rfl rfl (by kernel_rfl) (by kernel_rfl) (by kernel_rfl) (by rfl) HS0.out (w.heap.size) 0 rfl (bvs h) _ (fun _ x => x.e) arr16 rfl (by rw [HHL.out]; kernel_rfl) ?_
  simp only [Act.put, List.setIfInBounds_toArray, List.set_cons_zero, List.set_cons_succ]
  refine reg_load 3 (some 33) 22 (.tmp 3) rfl rfl rfl (by kernel_rfl) (by kernel_rfl) (by kernel_rfl) (by rfl) HS0.out (w.heap.size) 0 rfl (bvs h) _ (fun _ x => x.e) arr16 rfl (by rw [HHL.out]; kernel_rfl) ?_
  simp only [Act.put, List.setIfInBounds_toArray, List.set_cons_zero, List.set_cons_succ]
  refine reg_take (v := .agg (bvs none16).toArray) 4 (some 34) rfl rfl (by kernel_rfl) (by kernel_rfl) (by kernel_rfl) (by rfl) HS0.out (fun w hw => by go_simp; rfl) ?_
  simp only [Act.put, List.setIfInBounds_toArray, List.set_cons_zero, List.set_cons_succ]
  refine reg_take (v := .slice A n c) 5 (some 35) rfl rfl (by kernel_rfl) (by kernel_rfl) (by kernel_rfl) (by rfl) HS0.out (fun w hw => by go_simp) ?_
  simp only [Act.put, List.setIfInBounds_toArray, List.set_cons_zero, List.set_cons_succ]
  refine reg_bytesStr 6 (some 36) 29 9 5 (.tmp 35) rfl rfl rfl (by kernel_rfl) (by kernel_rfl) (by kernel_rfl) (by rfl) HS0.out u8s_under (by kernel_rfl) (by kernel_rfl) A n c a HN.out rfl (fun _ x => HR1.out.keep0 x.kp) ?_
  simp only [Act.put, List.setIfInBounds_toArray, List.set_cons_zero, List.set_cons_succ]
  refine reg_take (v := .slice B m d) 8 (some 38) rfl rfl (by kernel_rfl) (by kernel_rfl) (by kernel_rfl) (by rfl) HS0.out (fun w hw => by go_simp) ?_
  simp only [Act.put, List.setIfInBounds_toArray, List.set_cons_zero, List.set_cons_succ]
  refine reg_bytesStr 9 (some 39) 29 9 5 (.tmp 38) rfl rfl rfl (by kernel_rfl) (by kernel_rfl) (by kernel_rfl) (by rfl) HS0.out u8s_under (by kernel_rfl) (by kernel_rfl) B m d t HM.out rfl (fun _ x => HR2.out.keep0 x.kp) ?_
  simp only [Act.put, List.setIfInBounds_toArray, List.set_cons_zero, List.set_cons_succ]
  refine reg_call 1 (some 31) rfl rfl (by kernel_rfl) (by rfl) _ _ (exec_func 15 _ _ [.pointer (some ⟨p, 0, none⟩)] rfl (by kernel_rfl) rfl) ?_
  refine (value_any p h X _ HX.out HS0.out.v).mono ?_
  rintro e w20 ⟨rfl, k20⟩
  have HS1 := Lib.hid (HS0.out.keep k20)
  clear HS0 k20
  refine ⟨_, rfl, HS1.out, fun _ => ?_⟩
  simp only [Act.put, List.setIfInBounds_toArray, List.set_cons_zero, List.set_cons_succ]
  refine reg_call 7 (some 37) rfl rfl (by kernel_rfl) (by rfl) _ _ (exec_func 16 _ _ [.agg (bvs h).toArray, .agg (bvs none16).toArray, .string (str a)] rfl (by kernel_rfl) rfl) ?_
  refine (fTake h none16 (str a) _ HH.out none_length (by rw [str_size]; have := HB1.out; omega)).mono ?_
  rintro e w21 ⟨rfl, k21⟩
  rw [sl_str, HYE.out]
  have HS2 := Lib.hid (HS1.out.keep k21)
  clear HS1 k21
  refine ⟨_, rfl, HS2.out, fun _ => ?_⟩
  simp only [Act.put, List.setIfInBounds_toArray, List.set_cons_zero, List.set_cons_succ]
  refine reg_call 10 (some 40) rfl rfl (by kernel_rfl) (by rfl) _ _ (exec_func 16 _ _ [.agg (bvs h).toArray, .agg (bvs Y).toArray, .string (str t)] rfl (by kernel_rfl) rfl) ?_
  refine (fTake h Y (str t) _ HH.out HY.out (by rw [str_size]; have := HB1.out; omega)).mono ?_
  rintro e w22 ⟨rfl, k22⟩
  rw [sl_str, HXE.out]
  have HS3 := Lib.hid (HS2.out.keep k22)
  clear HS2 k22
  refine ⟨_, rfl, HS3.out, fun _ => ?_⟩
  simp only [Act.put, List.setIfInBounds_toArray, List.set_cons_zero, List.set_cons_succ]
  refine reg_take (v := .bool true) 11 (some 41) rfl rfl (by kernel_rfl) (by kernel_rfl) (by kernel_rfl) (by rfl) HS3.out (fun w hw => by go_simp) ?_
  simp only [Act.put, List.setIfInBounds_toArray, List.set_cons_zero, List.set_cons_succ]
  refine reg_take (v := .bool true) 12 (some 42) rfl rfl (by kernel_rfl) (by kernel_rfl) (by kernel_rfl) (by rfl) HS3.out (fun w hw => by go_simp) ?_
  simp only [Act.put, List.setIfInBounds_toArray, List.set_cons_zero, List.set_cons_succ]
  refine reg_load 13 (some 43) 22 (.tmp 3) rfl rfl rfl (by kernel_rfl) (by kernel_rfl) (by kernel_rfl) (by rfl) HS3.out (w.heap.size) 0 rfl (bvs h) _ (fun _ x => x.e) arr16 rfl (by rw [HHL.out]; kernel_rfl) ?_
  simp only [Act.put, List.setIfInBounds_toArray, List.set_cons_zero, List.set_cons_succ]
  refine reg_take (v := .slice A n c) 14 (some 44) rfl rfl (by kernel_rfl) (by kernel_rfl) (by kernel_rfl) (by rfl) HS3.out (fun w hw => by go_simp) ?_
  simp only [Act.put, List.setIfInBounds_toArray, List.set_cons_zero, List.set_cons_succ]
  refine reg_take (v := .slice B m d) 15 (some 45) rfl rfl (by kernel_rfl) (by kernel_rfl) (by kernel_rfl) (by rfl) HS3.out (fun w hw => by go_simp) ?_
  simp only [Act.put, List.setIfInBounds_toArray, List.set_cons_zero, List.set_cons_succ]
  refine reg_load 17 (some 47) 22 (.tmp 3) rfl rfl rfl (by kernel_rfl) (by kernel_rfl) (by kernel_rfl) (by rfl) HS3.out (w.heap.size) 0 rfl (bvs h) _ (fun _ x => x.e) arr16 rfl (by rw [HHL.out]; kernel_rfl) ?_
  simp only [Act.put, List.setIfInBounds_toArray, List.set_cons_zero, List.set_cons_succ]
  refine reg_take (v := .slice A n c) 18 (some 48) rfl rfl (by kernel_rfl) (by kernel_rfl) (by kernel_rfl) (by rfl) HS3.out (fun w hw => by go_simp) ?_
  simp only [Act.put, List.setIfInBounds_toArray, List.set_cons_zero, List.set_cons_succ]
  refine reg_bytesStr 19 (some 49) 29 9 5 (.tmp 48) rfl rfl rfl (by kernel_rfl) (by kernel_rfl) (by kernel_rfl) (by rfl) HS3.out u8s_under (by kernel_rfl) (by kernel_rfl) A n c a HN.out rfl (fun _ x => HR1.out.keep0 x.kp) ?_
  simp only [Act.put, List.setIfInBounds_toArray, List.set_cons_zero, List.set_cons_succ]
  refine reg_take (v := .slice B m d) 20 (some 50) rfl rfl (by kernel_rfl) (by kernel_rfl) (by kernel_rfl) (by rfl) HS3.out (fun w hw => by go_simp) ?_
  simp only [Act.put, List.setIfInBounds_toArray, List.set_cons_zero, List.set_cons_succ]
  refine reg_bytesStr 21 (some 51) 29 9 5 (.tmp 50) rfl rfl rfl (by kernel_rfl) (by kernel_rfl) (by kernel_rfl) (by rfl) HS3.out u8s_under (by kernel_rfl) (by kernel_rfl) B m d t HM.out rfl (fun _ x => HR2.out.keep0 x.kp) ?_
  simp only [Act.put, List.setIfInBounds_toArray, List.set_cons_zero, List.set_cons_succ]
  refine reg_call 16 (some 46) rfl rfl (by kernel_rfl) (by rfl) _ _ (exec_func 17 _ _ [.agg (bvs h).toArray, .slice A n c, .slice B m d] rfl (by kernel_rfl) rfl) ?_
  refine (of_any h a t A n c B m d _ HH.out HN.out HC.out.1 (by have := HB1.out; omega) (HR1.out.keep0 HS3.out.kp) HM.out HC.out.2 (by have := HB1.out; omega) (HR2.out.keep0 HS3.out.kp)).mono ?_
  rintro e w23 ⟨rfl, k23⟩
  rw [HZE.out]
  have HS4 := Lib.hid (HS3.out.keep k23)
  clear HS3 k23
  refine ⟨_, rfl, HS4.out, fun _ => ?_⟩
  simp only [Act.put, List.setIfInBounds_toArray, List.set_cons_zero, List.set_cons_succ]
  refine reg_call 22 (some 52) rfl rfl (by kernel_rfl) (by rfl) _ _ (exec_func 18 _ _ [.agg (bvs h).toArray, .string (str a), .string (str t)] rfl (by kernel_rfl) rfl) ?_
  refine (fOf h (str a) (str t) _ HH.out (by rw [str_size]; have := HB1.out; omega) (by rw [str_size]; have := HB1.out; omega)).mono ?_
  rintro e w24 ⟨rfl, k24⟩
  rw [sl_str, sl_str, HZE.out]
  have HS5 := Lib.hid (HS4.out.keep k24)
  clear HS4 k24
  refine ⟨_, rfl, HS5.out, fun _ => ?_⟩
  simp only [Act.put, List.setIfInBounds_toArray, List.set_cons_zero, List.set_cons_succ]
  refine reg_take (v := .bool true) 23 (some 53) rfl rfl (by kernel_rfl) (by kernel_rfl) (by kernel_rfl) (by rfl) HS5.out (fun w hw => by go_simp) ?_
  simp only [Act.put, List.setIfInBounds_toArray, List.set_cons_zero, List.set_cons_succ]
  refine reg_take (v := .bool true) 24 (some 54) rfl rfl (by kernel_rfl) (by kernel_rfl) (by kernel_rfl) (by rfl) HS5.out (fun w hw => by go_simp) ?_
  simp only [Act.put, List.setIfInBounds_toArray, List.set_cons_zero, List.set_cons_succ]
  refine reg_take (v := .bool true) 25 (some 55) rfl rfl (by kernel_rfl) (by kernel_rfl) (by kernel_rfl) (by rfl) HS5.out (fun w hw => by go_simp) ?_
  simp only [Act.put, List.setIfInBounds_toArray, List.set_cons_zero, List.set_cons_succ]
  refine reg_take (v := .pointer none) 26 (some 56) rfl rfl (by kernel_rfl) (by kernel_rfl) (by kernel_rfl) (by rfl) HS5.out (fun w hw => by go_simp) ?_
  simp only [Act.put, List.setIfInBounds_toArray, List.set_cons_zero, List.set_cons_succ]
  refine reg_take (v := .agg (bvs none16).toArray) 28 (some 58) rfl rfl (by kernel_rfl) (by kernel_rfl) (by kernel_rfl) (by rfl) HS5.out (fun w hw => by go_simp; rfl) ?_
  simp only [Act.put, List.setIfInBounds_toArray, List.set_cons_zero, List.set_cons_succ]
  refine reg_call 27 (some 57) rfl rfl (by kernel_rfl) (by rfl) _ _ (exec_func 15 _ _ [.pointer none] rfl (by kernel_rfl) rfl) ?_
  refine (value_nil _).mono ?_
  rintro e w25 ⟨rfl, k25⟩
  have HS6 := Lib.hid (HS5.out.keep k25)
  clear HS5 k25
  refine ⟨_, rfl, HS6.out, fun _ => ?_⟩
  simp only [Act.put, List.setIfInBounds_toArray, List.set_cons_zero, List.set_cons_succ]
  refine reg_take (v := .bool true) 29 (some 59) rfl rfl (by kernel_rfl) (by kernel_rfl) (by kernel_rfl) (by rfl) HS6.out (fun w hw => by go_simp) ?_
  simp only [Act.put, List.setIfInBounds_toArray, List.set_cons_zero, List.set_cons_succ]
  refine reg_take (v := .bool true) 30 (some 60) rfl rfl (by kernel_rfl) (by kernel_rfl) (by kernel_rfl) (by rfl) HS6.out (fun w hw => by go_simp) ?_
  simp only [Act.put, List.setIfInBounds_toArray, List.set_cons_zero, List.set_cons_succ]
  refine reg_take (v := .bool true) 31 (some 6) rfl rfl (by kernel_rfl) (by kernel_rfl) (by kernel_rfl) (by rfl) HS6.out (fun w hw => by go_simp) ?_
  simp only [Act.put, List.setIfInBounds_toArray, List.set_cons_zero, List.set_cons_succ]
  refine reg_end (by kernel_rfl) ?_
  go_wp2
  go_ret
  exact ⟨rfl, HS6.out.kp⟩
theorem sums_walk (h : List UInt8) (A : Option Addr) (n c : Nat) (a : List UInt8) (B : Option Addr) (m d : Nat) (t : List UInt8) (w : World) (hh : h.length = 16) (hn : a.length = n) (_ : A = none → c = 0) (hr : Row w A (bvs a)) (hc : n ≤ c) (_ : c ≤ maxLen) (hm : t.length = m) (_ : B = none → d = 0) (hr2 : Row w B (bvs t)) (hd : m ≤ d) (_ : d ≤ maxLen) :
    Calls Try.prog 5 #[.agg (bvs h).toArray, .slice A n c, .slice B m d] w fun e w' => e = .returned (.bool true) ∧ Kp nob w w' := by
  by_cases h1 : n ≤ 1024 ∧ m ≤ 1024
  · exact sums_yes h a t A n c B m d w hh hn hc hr hm hd hr2 h1.1 h1.2
  · have H0 : Hid (Kp nob w (w.alloc (.cells (bvs h).toArray 22))) := Lib.hid ((Kp.refl nob w).alloc _)
    have HQ := Lib.hid h1
    clear hh hn hr hc hm hr2 hd h1
    go_enter Try.func5, Try.ntmps5
    go_wp2_with fail
    refine (alive_yes _).mono ?_
    rintro e w1 ⟨rfl, k1⟩
    have H1 := Lib.hid (H0.out.trans k1 (fun _ e => e.elim))
    clear H0 k1
    by_cases h2 : 1024 < n
    · go_wp2
      go_ret
      exact ⟨rfl, H1.out⟩
    · have h3 : 1024 < m := by have := HQ.out; omega
      go_wp2
      go_ret
      exact ⟨rfl, H1.out⟩
end Go.Proofs.Ytefpdnfogdioeaa.Ghash
