/- GhashParts: bytes that are cut behind whole blocks are taken in as they are whole; a sum is told by the sums of two texts of one length, together. -/
import Derived.Test.YtefpdnfogdioeaaGhashL
namespace Go.Proofs.Ytefpdnfogdioeaa.Ghash
set_option linter.unusedVariables false
set_option linter.unusedSimpArgs false
open Go Go.RowKit Kit
open Aes (gb tb tb_length gb_tb tb_gb tb_ext tb_eq blk_byte arr16 gb_get bvs_setb row_byte)
open Field (cb cb_inj)

theorem made_zero (n : Nat) : madeCells #[(.int .u8 0 : Value)] n = (bvs (List.replicate n 0)).toArray := by
  apply Array.ext
  · simp [size_madeCells, bvs]
  · intro i h1 h2
    simp [madeCells, bvs, bv, Nat.mod_one]
theorem u8s_info2 : (Try.prog.info? 5).map (fun i => (i.zero, i.size, i.bytes)) = some (some (.int .u8 0), 1, 1) := by kernel_rfl
theorem make_bytes (n : Nat) (hn : n ≤ 1024) (w : World) : (Instr.makeSlice 29 (.int .i64 (n : Int)) (.int .i64 (n : Int))).run Try.prog w = .ok (.slice (some ⟨w.heap.size, 0, none⟩) n n) (w.alloc (.cells (bvs (List.replicate n 0)).toArray 5)) := by
  rw [← made_zero]
  exact run_make_row' 29 5 (.int .u8 0) 1 u8s_under u8s_info2 rfl .i64 .i64 n (by omega) (by omega) w
theorem u8_size : ∀ w, (sizeOf 5).run Try.prog w = .ok 1 w := fun _ => by kernel_rfl
theorem slice_to (A : Option Addr) (n c i : Nat) (hi : i ≤ c) (w : World) : (Instr.slice 29 (.slice A n c) none (some (.int .i64 i)) none).run Try.prog w = .ok (.slice A i c) w := by
  have he : Try.prog.elem 29 = 5 := by kernel_rfl
  rw [run_slice_h w 29 A n c (by kernel_rfl) .i64 i (by omega) (by omega), he, u8_size]
  cases A <;> simp [Result.andThen, sliced, Addr.add]
/-- Two texts' sum, k bytes of it so far. -/
def sumq (a b : List UInt8) (n k : Nat) : List UInt8 := (List.range n).map fun i => if i < k then gb a i ^^^ gb b i else 0
theorem sumq_length (a b : List UInt8) (n k : Nat) : (sumq a b n k).length = n := by simp [sumq]
theorem sumq_zero (a b : List UInt8) (n : Nat) : sumq a b n 0 = List.replicate n 0 := by
  apply List.ext_getElem
  · simp [sumq]
  · intro i h1 h2; simp [sumq]
theorem sumq_set (a b : List UInt8) (n k : Nat) : (sumq a b n k).set k (gb a k ^^^ gb b k) = sumq a b n (k + 1) := by
  apply List.ext_getElem
  · simp [sumq]
  · intro i h1 h2
    rw [List.getElem_set]
    by_cases h : k = i
    · subst h; simp [sumq]
    · rw [if_neg h]
      simp only [sumq, List.getElem_map, List.getElem_range]
      by_cases h3 : i < k
      · rw [if_pos h3, if_pos (by omega)]
      · rw [if_neg h3, if_neg (by omega)]
theorem gb_over (a : List UInt8) (i : Nat) (h : a.length ≤ i) : gb a i = 0 := by
  rw [gb, List.getD, List.getElem?_eq_none h]; rfl
theorem sumq_gb (a b : List UInt8) (n : Nat) (ha : a.length = n) (hb : n ≤ b.length) (i : Nat) : gb (sumq a b n n) i = gb a i ^^^ gb (b.take n) i := by
  by_cases h : i < n
  · rw [gb, List.getD, List.getElem?_eq_getElem (by rw [sumq_length]; exact h), gb_take _ _ _ h]
    simp [sumq, h]
  · rw [gb_over _ _ (by rw [sumq_length]; omega), gb_over a i (by omega), gb_over (b.take n) i (by rw [List.length_take]; omega)]
    rfl
theorem parts_sum (h a b : List UInt8) (n : Nat) (ha : a.length = n) (hb : n ≤ b.length) : plus (taken h none16 a) (taken h none16 (b.take n)) = taken h none16 (sumq a b n n) := by
  have := taken_plus h none16 none16 a (b.take n) (sumq a b n n) (by rw [ha, sumq_length]) (by rw [sumq_length, List.length_take]; omega) (sumq_gb a b n ha hb)
  rw [plus_none _ none_length] at this
  exact this.symm
attribute [irreducible] sumq
theorem tdiv_sixteen (n D : Nat) (h : D = n / 16) : (n : Int).tdiv 16 = (D : Int) := by rw [Int.tdiv_eq_ediv_of_nonneg (by omega)]; omega
theorem mul_sixteen (q x : Nat) (h : x = 16 * q) (hx : x ≤ 4096) : IntKind.i64.wrap (16 * (q : Int)) = (x : Int) := by rw [IntWalk.i64_in _ (by omega)]; omega
theorem wrap_small (D : Nat) (h : D ≤ 9223372036854775807) : wrap64 (D : Int) = (D : Int) := Field.wrap64_in _ (by omega)
structure Rh (w : World) (h : List UInt8) (w2 : World) : Prop where
  kp : Kp nob w w2
  a : w2.rangeAt w.heap.size 0 (bvs h)
  lt : w.heap.size < w2.heap.size
theorem Rh.keep {w w2 w3 : World} {h : List UInt8} (y : Rh w h w2) (k : Kp nob w2 w3) : Rh w h w3 := ⟨y.kp.trans k (fun _ e => e.elim), range_keep y.a k (fun e => e), Nat.lt_of_lt_of_le y.lt k.size⟩
/-- Four sums under one element. -/
structure Q4 (w : World) (p1 p2 p3 p4 : Nat) (h s1 s2 s3 s4 : List UInt8) (w2 : World) : Prop where
  kp : Kp nob w w2
  v1 : SumAt w2 p1 h s1
  v2 : SumAt w2 p2 h s2
  v3 : SumAt w2 p3 h s3
  v4 : SumAt w2 p4 h s4
theorem Q4.keep {F : Nat → Prop} {w w2 w3 : World} {p1 p2 p3 p4 : Nat} {h s1 s2 s3 s4 : List UInt8} (y : Q4 w p1 p2 p3 p4 h s1 s2 s3 s4 w2) (d : w.heap.size < p1 ∧ p1 < p2 ∧ p2 < p3 ∧ p3 < p4) (k : Kp F w2 w3) (hF : ∀ i, F i → p4 < i) : Q4 w p1 p2 p3 p4 h s1 s2 s3 s4 w3 :=
  ⟨y.kp.since k (fun i e => by have := hF i e; omega), y.v1.keep k (fun e => by have := hF _ e; omega), y.v2.keep k (fun e => by have := hF _ e; omega), y.v3.keep k (fun e => by have := hF _ e; omega), y.v4.keep k (fun e => by have := hF _ e; omega)⟩
theorem Q4.out1 {w w2 w3 : World} {p1 p2 p3 p4 : Nat} {h s1 s2 s3 s4 s : List UInt8} (y : Q4 w p1 p2 p3 p4 h s1 s2 s3 s4 w2) (d : w.heap.size < p1 ∧ p1 < p2 ∧ p2 < p3 ∧ p3 < p4) (k : Kp (oneB p1) w2 w3) (hs : SumAt w3 p1 h s) : Q4 w p1 p2 p3 p4 h s s2 s3 s4 w3 := ⟨y.kp.since k (fun i e => by unfold oneB at e; omega), hs, y.v2.keep k (fun e => by unfold oneB at e; omega), y.v3.keep k (fun e => by unfold oneB at e; omega), y.v4.keep k (fun e => by unfold oneB at e; omega)⟩
theorem Q4.out2 {w w2 w3 : World} {p1 p2 p3 p4 : Nat} {h s1 s2 s3 s4 s : List UInt8} (y : Q4 w p1 p2 p3 p4 h s1 s2 s3 s4 w2) (d : w.heap.size < p1 ∧ p1 < p2 ∧ p2 < p3 ∧ p3 < p4) (k : Kp (oneB p2) w2 w3) (hs : SumAt w3 p2 h s) : Q4 w p1 p2 p3 p4 h s1 s s3 s4 w3 := ⟨y.kp.since k (fun i e => by unfold oneB at e; omega), y.v1.keep k (fun e => by unfold oneB at e; omega), hs, y.v3.keep k (fun e => by unfold oneB at e; omega), y.v4.keep k (fun e => by unfold oneB at e; omega)⟩
theorem Q4.out3 {w w2 w3 : World} {p1 p2 p3 p4 : Nat} {h s1 s2 s3 s4 s : List UInt8} (y : Q4 w p1 p2 p3 p4 h s1 s2 s3 s4 w2) (d : w.heap.size < p1 ∧ p1 < p2 ∧ p2 < p3 ∧ p3 < p4) (k : Kp (oneB p3) w2 w3) (hs : SumAt w3 p3 h s) : Q4 w p1 p2 p3 p4 h s1 s2 s s4 w3 := ⟨y.kp.since k (fun i e => by unfold oneB at e; omega), y.v1.keep k (fun e => by unfold oneB at e; omega), y.v2.keep k (fun e => by unfold oneB at e; omega), hs, y.v4.keep k (fun e => by unfold oneB at e; omega)⟩
theorem Q4.out4 {w w2 w3 : World} {p1 p2 p3 p4 : Nat} {h s1 s2 s3 s4 s : List UInt8} (y : Q4 w p1 p2 p3 p4 h s1 s2 s3 s4 w2) (d : w.heap.size < p1 ∧ p1 < p2 ∧ p2 < p3 ∧ p3 < p4) (k : Kp (oneB p4) w2 w3) (hs : SumAt w3 p4 h s) : Q4 w p1 p2 p3 p4 h s1 s2 s3 s w3 := ⟨y.kp.since k (fun i e => by unfold oneB at e; omega), y.v1.keep k (fun e => by unfold oneB at e; omega), y.v2.keep k (fun e => by unfold oneB at e; omega), y.v3.keep k (fun e => by unfold oneB at e; omega), hs⟩
theorem far_from {w : World} {A : Option Addr} {l : List UInt8} {p : Nat} (hr : Row w A (bvs l)) (hp : w.heap.size ≤ p) : l = [] ∨ ∀ k, ab A = some k → k ≠ p := by
  by_cases e : l = []
  · exact .inl e
  · exact .inr fun k hk => by have := hr.lt (by simpa [bvs] using e) k hk; omega
theorem row_takeb {w : World} {A : Option Addr} {l : List UInt8} (h : Row w A (bvs l)) (k : Nat) : Row w A (bvs (l.take k)) := by
  have := h.take k
  rwa [bvs, ← List.map_take, ← bvs] at this
theorem row_cutb {w : World} {A : Option Addr} {l : List UInt8} (h : Row w A (bvs l)) {c k : Nat} (hl : l.length ≤ c) : Row w (cutA A c k) (bvs (l.drop k)) := by
  have := h.cut (c := c) (k := k) (by rw [bvs_length]; exact hl)
  rwa [bvs, ← List.map_drop, ← bvs] at this

set_option maxHeartbeats 8000000 in
set_option maxRecDepth 100000 in
theorem parts_yes (h : List UInt8) (A : Option Addr) (n c : Nat) (l : List UInt8) (q : Nat) (B : Option Addr) (m d : Nat) (o : List UInt8) (w : World) (hh : h.length = 16) (hl : l.length = n) (hc : n ≤ c) (hr : Row w A (bvs l)) (ho : o.length = m) (hd : m ≤ d) (hr2 : Row w B (bvs o)) (hn : n ≤ 1024) (hq : q ≤ n / 16) (hm : n ≤ m) :
    Calls Try.prog 6 #[.agg (bvs h).toArray, .slice A n c, .int .i64 q, .slice B m d] w fun e w' => e = .returned (.bool true) ∧ Kp nob w w' := by
  have HH := Lib.hid hh; have HHL := Lib.hid (len16 hh)
  obtain ⟨x, hx⟩ : ∃ x, x = 16 * q := ⟨_, rfl⟩
  obtain ⟨D, hD⟩ : ∃ D, D = n / 16 := ⟨_, rfl⟩
  have hxn : x ≤ n := by omega
  have hqD : q ≤ D := by omega
  have HE1 := Lib.hid (tdiv_sixteen n D hD); have HE2 := Lib.hid (mul_sixteen q x hx (by omega)); have HE3 := Lib.hid (wrap_small D (by omega))
  obtain ⟨X, hX⟩ : ∃ X, X = taken h none16 l := ⟨_, rfl⟩
  have HX := Lib.hid (show X.length = 16 by rw [hX]; exact taken_length _ _ _ rfl)
  obtain ⟨X0, hX0⟩ : ∃ X0, X0 = taken h none16 (l.take x) := ⟨_, rfl⟩
  have HX0 := Lib.hid (show X0.length = 16 by rw [hX0]; exact taken_length _ _ _ rfl)
  have HX2 := Lib.hid (show taken h X0 (l.drop x) = X by rw [hX0, hX, hx]; exact taken_cut h none16 l q (by omega))
  obtain ⟨Z, hZ⟩ : ∃ Z, Z = taken h none16 (o.take n) := ⟨_, rfl⟩
  have HZ := Lib.hid (show Z.length = 16 by rw [hZ]; exact taken_length _ _ _ rfl)
  obtain ⟨Y, hY⟩ : ∃ Y, Y = taken h none16 (sumq l o n n) := ⟨_, rfl⟩
  have HY := Lib.hid (show Y.length = 16 by rw [hY]; exact taken_length _ _ _ rfl)
  have HYP := Lib.hid (show plus X Z = Y by rw [hX, hZ, hY]; exact parts_sum h l o n hl (by omega))
  have HXE := Lib.hid hX.symm; have HX0E := Lib.hid hX0.symm; have HZE := Lib.hid hZ.symm; have HYE := Lib.hid hY.symm
  have q1 := fun w => eqB_same X HX.out w
  have q2 := fun w => eqB_same Y HY.out w
  have s1 := slice_to A n c x (by omega)
  have s2 := fun wx => run_slice_from (P := Try.prog) 29 5 u8s_under u8_size A n c x hxn wx
  have s3 := slice_to B m d n (by omega)
  have hmk := make_bytes n hn
  obtain ⟨A2, hA2⟩ : ∃ A2, A2 = cutA A c x := ⟨_, rfl⟩
  have HRA2 := Lib.hid (show Row w A2 (bvs (l.drop x)) by rw [hA2]; exact row_cutb hr (by omega))
  rw [← hA2] at s2
  have HL := Lib.hid hl; have HO := Lib.hid ho; have HR1 := Lib.hid hr; have HR2 := Lib.hid hr2
  have HN := Lib.hid (show n ≤ 1024 ∧ n ≤ c ∧ m ≤ d ∧ x ≤ n ∧ n ≤ m from ⟨hn, hc, hd, hxn, hm⟩)
  have H0 : Hid (Rh w h (w.alloc (.cells (bvs h).toArray 22))) := Lib.hid ⟨(Kp.refl nob w).alloc _, (show Blk _ _ _ (bvs h) from Blk.new' rfl rfl).range, by simp⟩
  clear hh hx hD hX hX0 hZ hY hl ho hr hr2 hc hd hq hA2
  go_enter Try.func6, Try.ntmps6
  go_wp2_with fail
  refine (alive_yes _).mono ?_
  rintro e w1 ⟨rfl, k1⟩
  have H1 := Lib.hid (H0.out.keep k1)
  clear H0 k1
  have e1 := HE1.out; have e3 := HE3.out
  go_wp2
  clear e1 e3
  refine reg_start (fun w' => Rh w h w') (by kernel_rfl) (H1.out.keep (Kp.refl nob _).drew) (fun w3 hS => ?_)
  have HS0 := Lib.hid hS
  clear hS H1
  refine reg_load 0 (some 38) 22 (.tmp 4) rfl rfl rfl (by kernel_rfl) (by kernel_rfl) (by kernel_rfl) (by rfl) HS0.out (w.heap.size) 0 rfl (bvs h) _ (fun _ x => x.a) arr16 rfl (by rw [HHL.out]; kernel_rfl) ?_
  simp only [Act.put, List.setIfInBounds_toArray, List.set_cons_zero, List.set_cons_succ]
  refine reg_load 2 (some 40) 22 (.tmp 4) rfl rfl rfl (by kernel_rfl) (by kernel_rfl) (by kernel_rfl) (by rfl) HS0.out (w.heap.size) 0 rfl (bvs h) _ (fun _ x => x.a) arr16 rfl (by rw [HHL.out]; kernel_rfl) ?_
  simp only [Act.put, List.setIfInBounds_toArray, List.set_cons_zero, List.set_cons_succ]
  refine reg_load 4 (some 42) 22 (.tmp 4) rfl rfl rfl (by kernel_rfl) (by kernel_rfl) (by kernel_rfl) (by rfl) HS0.out (w.heap.size) 0 rfl (bvs h) _ (fun _ x => x.a) arr16 rfl (by rw [HHL.out]; kernel_rfl) ?_
  simp only [Act.put, List.setIfInBounds_toArray, List.set_cons_zero, List.set_cons_succ]
  refine reg_load 6 (some 44) 22 (.tmp 4) rfl rfl rfl (by kernel_rfl) (by kernel_rfl) (by kernel_rfl) (by rfl) HS0.out (w.heap.size) 0 rfl (bvs h) _ (fun _ x => x.a) arr16 rfl (by rw [HHL.out]; kernel_rfl) ?_
  simp only [Act.put, List.setIfInBounds_toArray, List.set_cons_zero, List.set_cons_succ]
  refine reg_call 1 (some 39) rfl rfl (by kernel_rfl) (by rfl) _ _ (exec_func 13 _ _ [.agg (bvs h).toArray] rfl (by kernel_rfl) rfl) ?_
  refine (new_any h _ HH.out).mono ?_
  rintro e w11 ⟨p1, rfl, hp, hs, k1⟩
  have HS1 := Lib.hid (HS0.out.keep k1)
  have HD1 := Lib.hid (show w.heap.size < p1 from Nat.lt_of_lt_of_le HS0.out.lt hp)
  have HV1 := Lib.hid hs
  have HLT := Lib.hid hs.lt
  clear hp hs k1 HS0
  refine ⟨_, rfl, HS1.out, fun _ => ?_⟩
  simp only [Act.put, List.setIfInBounds_toArray, List.set_cons_zero, List.set_cons_succ]
  refine reg_call 3 (some 41) rfl rfl (by kernel_rfl) (by rfl) _ _ (exec_func 13 _ _ [.agg (bvs h).toArray] rfl (by kernel_rfl) rfl) ?_
  refine (new_any h _ HH.out).mono ?_
  rintro e w12 ⟨p2, rfl, hp, hs, k1⟩
  have HS2 := Lib.hid (HS1.out.keep k1)
  have HV1 := Lib.hid (HV1.out.keep k1 (fun e => e))
  have HD2 := Lib.hid (show p1 < p2 from Nat.lt_of_lt_of_le HLT.out hp)
  have HV2 := Lib.hid hs
  have HLT := Lib.hid hs.lt
  clear hp hs k1 HS1
  refine ⟨_, rfl, HS2.out, fun _ => ?_⟩
  simp only [Act.put, List.setIfInBounds_toArray, List.set_cons_zero, List.set_cons_succ]
  refine reg_call 5 (some 43) rfl rfl (by kernel_rfl) (by rfl) _ _ (exec_func 13 _ _ [.agg (bvs h).toArray] rfl (by kernel_rfl) rfl) ?_
  refine (new_any h _ HH.out).mono ?_
  rintro e w13 ⟨p3, rfl, hp, hs, k1⟩
  have HS3 := Lib.hid (HS2.out.keep k1)
  have HV1 := Lib.hid (HV1.out.keep k1 (fun e => e))
  have HV2 := Lib.hid (HV2.out.keep k1 (fun e => e))
  have HD3 := Lib.hid (show p2 < p3 from Nat.lt_of_lt_of_le HLT.out hp)
  have HV3 := Lib.hid hs
  have HLT := Lib.hid hs.lt
  clear hp hs k1 HS2
  refine ⟨_, rfl, HS3.out, fun _ => ?_⟩
  simp only [Act.put, List.setIfInBounds_toArray, List.set_cons_zero, List.set_cons_succ]
  refine reg_call 7 (some 45) rfl rfl (by kernel_rfl) (by rfl) _ _ (exec_func 13 _ _ [.agg (bvs h).toArray] rfl (by kernel_rfl) rfl) ?_
  refine (new_any h _ HH.out).mono ?_
  rintro e w14 ⟨p4, rfl, hp, hs, k1⟩
  have HS4 := Lib.hid (HS3.out.keep k1)
  have HV1 := Lib.hid (HV1.out.keep k1 (fun e => e))
  have HV2 := Lib.hid (HV2.out.keep k1 (fun e => e))
  have HV3 := Lib.hid (HV3.out.keep k1 (fun e => e))
  have HD4 := Lib.hid (show p3 < p4 from Nat.lt_of_lt_of_le HLT.out hp)
  have HV4 := Lib.hid hs
  have HLT := Lib.hid hs.lt
  clear hp hs k1 HS3
  refine ⟨_, rfl, HS4.out, fun _ => ?_⟩
  simp only [Act.put, List.setIfInBounds_toArray, List.set_cons_zero, List.set_cons_succ]
  refine reg_take (v := .pointer (some ⟨p1, 0, none⟩)) 8 (some 9) rfl rfl (by kernel_rfl) (by kernel_rfl) (by kernel_rfl) (by rfl) HS4.out (fun w hw => by go_simp) ?_
  simp only [Act.put, List.setIfInBounds_toArray, List.set_cons_zero, List.set_cons_succ]
  refine reg_take (v := .pointer (some ⟨p2, 0, none⟩)) 9 (some 10) rfl rfl (by kernel_rfl) (by kernel_rfl) (by kernel_rfl) (by rfl) HS4.out (fun w hw => by go_simp) ?_
  simp only [Act.put, List.setIfInBounds_toArray, List.set_cons_zero, List.set_cons_succ]
  refine reg_take (v := .pointer (some ⟨p3, 0, none⟩)) 10 (some 11) rfl rfl (by kernel_rfl) (by kernel_rfl) (by kernel_rfl) (by rfl) HS4.out (fun w hw => by go_simp) ?_
  simp only [Act.put, List.setIfInBounds_toArray, List.set_cons_zero, List.set_cons_succ]
  refine reg_take (v := .pointer (some ⟨p4, 0, none⟩)) 11 (some 12) rfl rfl (by kernel_rfl) (by kernel_rfl) (by kernel_rfl) (by rfl) HS4.out (fun w hw => by go_simp) ?_
  simp only [Act.put, List.setIfInBounds_toArray, List.set_cons_zero, List.set_cons_succ]
  refine reg_end (by kernel_rfl) ?_

  have HD := Lib.hid (show w.heap.size < p1 ∧ p1 < p2 ∧ p2 < p3 ∧ p3 < p4 from ⟨HD1.out, HD2.out, HD3.out, HD4.out⟩)
  have HQ : Hid (Q4 w p1 p2 p3 p4 h none16 none16 none16 none16 w14) := Lib.hid ⟨HS4.out.kp, HV1.out, HV2.out, HV3.out, HV4.out⟩
  have HLT4 := Lib.hid HV4.out.lt
  clear HD1 HD2 HD3 HD4 HV1 HV2 HV3 HV4 HS4 HLT
  go_wp2_with fail
  refine (write_any p1 h none16 l A n c w14 HH.out none_length HQ.out.v1 HL.out HN.out.2.1 (by have := HN.out; omega) (HR1.out.keep0 HQ.out.kp) (far_from HR1.out (by have := HD.out; omega))).mono ?_
  rintro e w15 ⟨rfl, hS, k1⟩
  rw [HXE.out] at hS
  have HQ1 := Lib.hid (HQ.out.out1 HD.out k1 hS)
  have HLT5 := Lib.hid (Nat.lt_of_lt_of_le HLT4.out k1.size)
  clear hS k1 HQ HLT4
  have e2 := HE2.out
  go_wp2_with fail
  clear e2
  refine (write_any p2 h none16 (l.take x) A x c w15 HH.out none_length HQ1.out.v2 (by rw [List.length_take, HL.out]; have := HN.out; omega) (by have := HN.out; omega) (by have := HN.out; omega) (row_takeb (HR1.out.keep0 HQ1.out.kp) x) (far_from (row_takeb HR1.out x) (by have := HD.out; omega))).mono ?_
  rintro e w16 ⟨rfl, hS, k1⟩
  rw [HX0E.out] at hS
  have HQ2 := Lib.hid (HQ1.out.out2 HD.out k1 hS)
  have HLT6 := Lib.hid (Nat.lt_of_lt_of_le HLT5.out k1.size)
  clear hS k1 HQ1 HLT5
  have e2 := HE2.out
  go_wp2_with fail
  clear e2
  refine (write_any p2 h X0 (l.drop x) A2 (n - x) (c - x) w16 HH.out HX0.out HQ2.out.v2 (by rw [List.length_drop, HL.out]) (by have := HN.out; omega) (by have := HN.out; omega) (HRA2.out.keep0 HQ2.out.kp) (far_from HRA2.out (by have := HD.out; omega))).mono ?_
  rintro e w17 ⟨rfl, hS, k1⟩
  rw [HX2.out] at hS
  have HQ3 := Lib.hid (HQ2.out.out2 HD.out k1 hS)
  have HLT7 := Lib.hid (Nat.lt_of_lt_of_le HLT6.out k1.size)
  clear hS k1 HQ2 HLT6 s1 s2
  have HB9 : Hid (Blk (w17.alloc (.cells (bvs (List.replicate n 0)).toArray 5)) w17.heap.size 5 (bvs (sumq l o n 0))) := Lib.hid (by rw [sumq_zero]; exact Blk.new' rfl rfl)
  have HQ9 := Lib.hid (HQ3.out.keep HD.out ((Kp.refl nob w17).alloc (.cells (bvs (List.replicate n 0)).toArray 5)) (fun _ e => e.elim))
  clear HQ3
  go_wp2
  obtain ⟨g9, hg9⟩ : ∃ g, g = w17.heap.size := ⟨_, rfl⟩
  rw [← hg9] at HB9 HLT7 ⊢
  generalize w17.alloc (.cells (bvs (List.replicate n 0)).toArray 5) = w18 at *
  clear hg9 hmk
  have HS3 := Lib.hid s3; clear s3
  go_loopw [66] (fun vi wr => ∃ k : Nat, k ≤ n ∧ vi = .int .i64 k ∧ Blk wr g9 5 (bvs (sumq l o n k)) ∧ Kp (oneB g9) w18 wr)
    (fun vi _ => n - (intOf vi).toNat)
  case atStart => exact ⟨0, by omega, rfl, HB9.out, Kp.refl _ _⟩
  case round =>
    obtain ⟨k, hk, rfl, hb, hkp⟩ := hrel
    have HB := Lib.hid hb; have HKP := Lib.hid hkp; clear hb hkp
    have HQr := Lib.hid (HQ9.out.keep HD.out HKP.out (fun i e => by have := HLT7.out; unfold oneB at e; omega))
    by_cases hlt : k < n
    · have hkm : k < m := by omega
      obtain ⟨b1, o1, rfl, hc1⟩ := row_byte (HR1.out.keep0 HQr.out.kp) (i := k) (by rw [HL.out]; exact hlt)
      obtain ⟨b2, o2, rfl, hc2⟩ := row_byte (HR2.out.keep0 HQr.out.kp) (i := k) (by rw [HO.out]; exact hkm)
      have hd1 := hc1 k (by rw [HL.out]; exact hlt)
      have hd2 := hc2 k (by rw [HO.out]; exact hkm)
      have hd3 : wr.cell? ⟨g9, k, none⟩ = some (.int .u8 (cb (gb (sumq l o n k) k))) := by rw [HB.out.cell, gb_get _ _ (by rw [sumq_length]; exact hlt)]
      have hf3 : wr.frozen? ⟨g9, k, none⟩ = false := HB.out.frozen _
      clear hc1 hc2
      go_wp2
      go_region
      go_wp2
      go_roundw
      case rel =>
        refine ⟨k + 1, by omega, by go_num, ?_, ?_⟩
        · have := (HB.out.set_ k (.int .u8 (cb (gb l k ^^^ gb o k)))).keep (Kp.refl nob _).drew (fun e => e)
          rw [bvs_setb, sumq_set] at this
          exact this
        · exact (HKP.out.setCell (p := ⟨g9, k, none⟩) (.inl rfl) _).drew
      case measure => simp [intOf]; omega
    · obtain rfl : k = n := by omega
      have s3 := HS3.out
      clear hlt hk HB9 HQ9 HKP hm
      go_wp2_with fail
      refine (write_any p3 h none16 (o.take k) B k d wr HH.out none_length HQr.out.v3 (by rw [List.length_take, HO.out]; have := HN.out; omega) (by have := HN.out; omega) (by have := HN.out; omega) (row_takeb (HR2.out.keep0 HQr.out.kp) k) (far_from (row_takeb HR2.out k) (by have := HD.out; omega))).mono ?_
      rintro e w20 ⟨rfl, hS, k1⟩
      rw [HZE.out] at hS
      have HQ4 := Lib.hid (HQr.out.out3 HD.out k1 hS)
      have HB4 := Lib.hid (HB.out.keep k1 (fun e => by have := HLT7.out; have := HD.out; unfold oneB at e; omega))
      clear hS k1 HQr HB
      go_wp2_with fail
      refine (write_any p4 h none16 (sumq l o k k) (some ⟨g9, 0, none⟩) k k w20 HH.out none_length HQ4.out.v4 (sumq_length _ _ _ _) (Nat.le_refl _) (by have := HN.out; omega) HB4.out.row (.inr (fun j e => by cases e; show g9 ≠ p4; have := HLT7.out; omega))).mono ?_
      rintro e w21 ⟨rfl, hS, k1⟩
      rw [HYE.out] at hS
      have HQ5 := Lib.hid (HQ4.out.out4 HD.out k1 hS)
      clear hS k1 HQ4 HB4
      go_wp2_with fail
      refine (value_any p1 h X w21 HX.out HQ5.out.v1).mono ?_
      rintro e w22 ⟨rfl, k1⟩
      have HQ6 := Lib.hid (HQ5.out.keep HD.out k1 (fun _ e => e.elim))
      clear k1 HQ5
      go_wp2_with fail
      refine (value_any p2 h X w22 HX.out HQ6.out.v2).mono ?_
      rintro e w23 ⟨rfl, k1⟩
      have HQ7 := Lib.hid (HQ6.out.keep HD.out k1 (fun _ e => e.elim))
      clear k1 HQ6
      go_wp2_with fail
      refine (value_any p4 h Y w23 HY.out HQ7.out.v4).mono ?_
      rintro e w24 ⟨rfl, k1⟩
      have HQ8 := Lib.hid (HQ7.out.keep HD.out k1 (fun _ e => e.elim))
      clear k1 HQ7
      go_wp2_with fail
      refine (value_any p1 h X w24 HX.out HQ8.out.v1).mono ?_
      rintro e w25 ⟨rfl, k1⟩
      have HQ9 := Lib.hid (HQ8.out.keep HD.out k1 (fun _ e => e.elim))
      clear k1 HQ8
      go_wp2_with fail
      refine (value_any p3 h Z w25 HZ.out HQ9.out.v3).mono ?_
      rintro e w26 ⟨rfl, k1⟩
      have HQa := Lib.hid (HQ9.out.keep HD.out k1 (fun _ e => e.elim))
      clear k1 HQ9
      go_wp2_with fail
      refine (fPlus X Z w26 HX.out HZ.out).mono ?_
      rintro e w27 ⟨rfl, k1⟩
      rw [HYP.out]
      have HQb := Lib.hid (HQa.out.keep HD.out k1 (fun _ e => e.elim))
      clear k1 HQa
      go_wp2
      go_ret
      exact ⟨rfl, HQb.out.kp⟩
theorem parts_walk (h : List UInt8) (A : Option Addr) (n c : Nat) (l : List UInt8) (i : Int) (B : Option Addr) (m d : Nat) (o : List UInt8) (w : World) (hh : h.length = 16) (hl : l.length = n) (_ : A = none → c = 0) (hr : Row w A (bvs l)) (hc : n ≤ c) (hcm : c ≤ maxLen) (hi : (Lit.int .i64 i).wf = true) (ho : o.length = m) (_ : B = none → d = 0) (hr2 : Row w B (bvs o)) (hd : m ≤ d) (hdm : d ≤ maxLen) :
    Calls Try.prog 6 #[.agg (bvs h).toArray, .slice A n c, .int .i64 i, .slice B m d] w fun e w' => e = .returned (.bool true) ∧ Kp nob w w' := by
  by_cases h1 : n ≤ 1024 ∧ 0 ≤ i ∧ i ≤ ((n / 16 : Nat) : Int) ∧ n ≤ m
  · obtain ⟨q, rfl⟩ := Int.eq_ofNat_of_zero_le h1.2.1
    exact parts_yes h A n c l q B m d o w hh hl hc hr ho hd hr2 h1.1 (by omega) h1.2.2.2
  · have H0 : Hid (Kp nob w (w.alloc (.cells (bvs h).toArray 22))) := Lib.hid ((Kp.refl nob w).alloc _)
    obtain ⟨D, hD⟩ : ∃ D, D = n / 16 := ⟨_, rfl⟩
    have HE1 := Lib.hid (tdiv_sixteen n D hD)
    have HE3 := Lib.hid (wrap_small D (by have : maxLen = 9223372036854775807 := by decide
                                          omega))
    rw [← hD] at h1
    have HQ := Lib.hid h1
    clear hh hl hr hc ho hr2 hd h1 hcm hdm hi hD
    go_enter Try.func6, Try.ntmps6
    go_wp2_with fail
    refine (alive_yes _).mono ?_
    rintro e w1 ⟨rfl, k1⟩
    have H1 := Lib.hid (H0.out.trans k1 (fun _ e => e.elim))
    clear H0 k1
    by_cases h2 : 1024 < n
    · have e1 := HE1.out; have e3 := HE3.out
      go_wp2
      go_ret
      exact ⟨rfl, H1.out⟩
    · by_cases h3 : i < 0
      · have e1 := HE1.out; have e3 := HE3.out
        go_wp2
        go_ret
        exact ⟨rfl, H1.out⟩
      · by_cases h4 : (D : Int) < i
        · have e1 := HE1.out; have e3 := HE3.out
          go_wp2
          go_ret
          exact ⟨rfl, H1.out⟩
        · have h5 : m < n := by have := HQ.out; omega
          have e1 := HE1.out; have e3 := HE3.out
          go_wp2
          go_ret
          exact ⟨rfl, H1.out⟩
end Go.Proofs.Ytefpdnfogdioeaa.Ghash
