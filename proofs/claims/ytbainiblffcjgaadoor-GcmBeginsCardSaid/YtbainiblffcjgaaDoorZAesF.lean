/- Contracts of package aes: a cipher's keys. -/
import Derived.Test.YtbainiblffcjgaaDoorZGi
import Derived.Test.YtbainiblffcjgaaDoorZGa
namespace Go.Proofs.YtbainiblffcjgaaDoor.Aes
set_option linter.unusedVariables false
set_option linter.unusedSimpArgs false
open Go Go.RowKit Kit
open Field (cb cb_inj Sq)

/-- What stands while the keys are made: the words, the cipher. -/
structure Fk (w : World) (g N : Nat) (key : List UInt8) (n i : Nat) (w2 : World) : Prop where
  ws : Blk w2 w.heap.size 80 (bvs (kz key n i))
  c : Blk w2 g 64 (cph N (kz key n i) BX BK)
  kp : Kp (oneB g) w w2
theorem Fk.keep {w w2 w3 : World} {g N n i : Nat} {key : List UInt8} (h : Fk w g N key n i w2) (k : Kp nob w2 w3) : Fk w g N key n i w3 :=
  ⟨h.ws.keep k (fun e => e), h.c.keep k (fun e => e), h.kp.trans k (fun _ e => e.elim)⟩

/-- .. and between: the words are ahead. -/
structure Fh (w : World) (g N : Nat) (key : List UInt8) (n i : Nat) (w2 : World) : Prop where
  ws : Blk w2 w.heap.size 80 (bvs (kz key n (i + 1)))
  c : Blk w2 g 64 (cph N (kz key n i) BX BK)
  kp : Kp (oneB g) w w2
theorem Fh.keep {w w2 w3 : World} {g N n i : Nat} {key : List UInt8} (h : Fh w g N key n i w2) (k : Kp nob w2 w3) : Fh w g N key n i w3 :=
  ⟨h.ws.keep k (fun e => e), h.c.keep k (fun e => e), h.kp.trans k (fun _ e => e.elim)⟩

theorem u8sl_under : Tryd.prog.underlying 24 = some (.slice 5) := by kernel_rfl
theorem word_all (g o : Nat) (w : World) : (Instr.sliceAt 79 (.pointer (some ⟨g, o, none⟩)) none none none).run Tryd.prog w = .ok (.slice (some ⟨g, o, none⟩) 4 4) w := by
  have ha : Tryd.prog.underlying 79 = some (.array (Tryd.prog.arrayLen 79) (Tryd.prog.elem 79)) := by kernel_rfl
  have hl : Tryd.prog.arrayLen 79 = 4 := by kernel_rfl
  have he : Tryd.prog.elem 79 = 5 := by kernel_rfl
  have hz : (sizeOf 5).run Tryd.prog w = .ok 1 w := by kernel_rfl
  rw [run_sliceAt_array_all w _ _ ha, hl, he, hz]
  simp [Result.andThen, slicedAt, Addr.add]
theorem block_from (g o q : Nat) (h : Int) (hh : h = q) (hq : q < 16) (w : World) : (Instr.sliceAt 51 (.pointer (some ⟨g, o, none⟩)) (some (.int .i64 h)) none none).run Tryd.prog w = .ok (.slice (some ⟨g, o + q, none⟩) (16 - q) (16 - q)) w := by
  have ha : Tryd.prog.underlying 51 = some (.array (Tryd.prog.arrayLen 51) (Tryd.prog.elem 51)) := by kernel_rfl
  have hl : Tryd.prog.arrayLen 51 = 16 := by kernel_rfl
  have he : Tryd.prog.elem 51 = 5 := by kernel_rfl
  have hz : (sizeOf 5).run Tryd.prog w = .ok 1 w := by kernel_rfl
  subst hh
  rw [run_sliceAt_array_l w _ _ ha _ _ (by omega) (by rw [hl]; omega), hl, he, hz]
  by_cases h0 : q = 0
  · subst h0; simp [Result.andThen, slicedAt, Addr.add]
  · simp [Result.andThen, slicedAt, Addr.add, h0, show ¬ 16 = q by omega]

def wz0 : List Value := bvs (List.replicate 240 0)
theorem wz0_run (w : World) : (zeroValue 80).run Tryd.prog w = .ok (.agg wz0.toArray) w := by kernel_rfl
theorem wz0_eq (key : List UInt8) (n : Nat) : wz0 = bvs (kz key n 0) := by rw [kz_zero]; rfl
attribute [irreducible] wz0

set_option maxHeartbeats 2000000 in
set_option maxRecDepth 100000 in
theorem fillKeys_any (g n : Nat) (key : List UInt8) (A : Option Addr) (cA : Nat) (w : World) (hk : key.length = 4 * n) (hn : 1 ≤ n) (hn8 : n ≤ 8) (hr : Row w A (bvs key)) (hc : 4 * n ≤ cA) (hA : ∀ k, ab A = some k → k ≠ g)
    (hb : Blk w g 64 (cph (n + 6) (kz key n 0) BX BK)) :
    Calls Tryd.prog 28 #[.pointer (some ⟨g, 0, none⟩), .slice A (4 * n) cA] w fun e w' => e = .returned (.tuple #[]) ∧ Blk w' g 64 (cph (n + 6) (kz key n (4 * (n + 7))) BX BK) ∧ Kp (oneB g) w w' := by
  have HK := Lib.hid hk; have HR := Lib.hid hr; have HA := Lib.hid hA
  have HB := Lib.hid hb
  have HLT := Lib.hid hb.lt
  clear hk hr hA hb
  go_enter Tryd.func28, Tryd.ntmps28
  have hz := wz0_run
  have hw0 : Fk w g (n + 6) key n 0 (w.alloc (.cells wz0.toArray 80)) :=
    ⟨by rw [← wz0_eq]; exact Blk.new w _ _, HB.out.alloc _, (Kp.refl _ _).alloc _⟩
  have HW0 := Lib.hid hw0; clear hw0
  have c0 : (w.alloc (.cells wz0.toArray 80)).cell? ⟨g, 0, none⟩ = some (.int .i64 ((n : Int) + 6)) := by rw [HW0.out.c.cell, cph_zero]; rfl
  obtain ⟨M, hM⟩ : ∃ M, M = n + 7 := ⟨_, rfl⟩
  obtain ⟨T, hT⟩ : ∃ T, T = 4 * M := ⟨_, rfl⟩
  have e1 : ((4 * n : Nat) : Int).tdiv 4 = (n : Int) := by rw [Int.tdiv_eq_ediv_of_nonneg (by omega)]; omega
  have e2 : IntKind.i64.wrap ((n : Int) + 6 + 1) = (M : Int) := wrap_to _ _ (by omega) (by omega)
  have e3 : IntKind.i64.wrap (4 * (M : Int)) = (T : Int) := wrap_to _ _ (by omega) (by omega)
  have HTT := Lib.hid (show T = 4 * (n + 7) by omega)
  have hT60 : T ≤ 60 := by omega
  clear hM hT
  go_wp2
  go_loopw [16] (fun vi wr => ∃ i : Nat, i ≤ T ∧ vi = .int .i64 i ∧ Fk w g (n + 6) key n i wr)
    (fun vi _ => T - (intOf vi).toNat)
  case atStart => exact ⟨0, by omega, rfl, HW0.out⟩
  case round =>
    obtain ⟨i, hi, rfl, hf⟩ := hrel
    have HF := Lib.hid hf; clear hf HW0
    by_cases hlt : i < T
    · have hi60 : i < 60 := by omega
      obtain ⟨P, hP⟩ : ∃ P, P = nextB key n (words key n i) i := ⟨_, rfl⟩
      have HSU := Lib.hid (show words key n (i + 1) = words key n i ++ t4 P by rw [words_succ, next_t4, hP])
      have HP := Lib.hid hP; clear hP
      have HKZ := Lib.hid (show splice (bvs (kz key n i)) (i * 4) (bvs (t4 P)) = bvs (kz key n (i + 1)) by rw [bvs_splice, Nat.mul_comm, kz_next key n i (t4 P) hi60 HSU.out rfl])
      have HLZ := Lib.hid (show (bvs (kz key n i)).length = 240 by rw [bvs_length, kz_length _ _ _ (by omega)])
      have HLP := Lib.hid (show (bvs (t4 P)).length = 4 from rfl)
      have f3 : (0 : Int) ≤ (i : Int) ∧ (i : Int) < 60 := by omega
      by_cases hin : i < n
      case' pos =>
        obtain ⟨C, hC⟩ : ∃ C, C = 4 * i := ⟨_, rfl⟩
        have f1 : IntKind.i64.wrap (4 * (i : Int)) = (C : Int) := wrap_to _ _ (by omega) (by omega)
        have f2 := word_all w.heap.size (i * 4)
        have hcut : ∀ wx, (Instr.slice 24 (.slice A (4 * n) cA) (some (.int .i64 C)) none none).run Tryd.prog wx = .ok (.slice (cutA A cA C) (4 * n - C) (cA - C)) wx := run_slice_from _ 5 u8sl_under (fun _ => by kernel_rfl) A (4 * n) cA C (by omega)
        have HROW := Lib.hid (show ∀ wx, Kp (oneB g) w wx → Row wx (cutA A cA C) (bvs (t4 P)) from fun wx kx => by
          rw [HP.out, nextB_low key n i hin, hC]
          exact row_four_of (HR.out.keep kx (fun k e e' => HA.out k e e')) i (by rw [HK.out]; omega) (by rw [HK.out]; exact hc))
        have HMIN := Lib.hid (show (bvs (t4 P)).length = Nat.min (4 * n - C) 4 by rw [HLP.out]; show 4 = min _ 4; omega)
        clear hC
        go_wp2
        refine wp_region_still_tail 7 (by kernel_rfl) (by kernel_rfl) ?_
        change wpStill _ _ wr.drew (fun a' => wpList _ _ _ _ a' wr.drew) _ _
        have HF2 := Lib.hid (HF.out.keep (Kp.refl nob wr).drew)
        clear HF
        generalize wr.drew = wd at *
        simp only [List.take_succ_cons, List.take_zero, List.drop_succ_cons, List.drop_zero]
        repeat still_step
        refine wpStill_nil ?_
        clear f1 f2 hcut
        go_wp2_with (refine wpList_copy_blk rfl (.tmp 24) (.tmp 28) 24 24 rfl 5 u8sl_under (by kernel_rfl) w.heap.size (i * 4) _ _ _ _ _ _ rfl rfl (bvs (kz key n i)) 80 HF2.out.ws (bvs (t4 P)) HMIN.out (fun _ => rfl) (HROW.out _ HF2.out.kp) (by rw [HLZ.out, HLP.out]; omega) (bvs_one _) ?_; intro w2 hB2 k2 z2)
        rw [HKZ.out] at hB2
        have HH := Lib.hid (show Fh w g (n + 6) key n i w2 from ⟨hB2, HF2.out.c.keep k2 (fun e => by have := HLT.out; unfold oneB at e; omega), HF2.out.kp.trans k2 (fun j e => .inr (by unfold oneB at e; omega))⟩)
        clear hB2 k2 z2 HF2 HROW HMIN
        go_wp2
      case' neg =>
        obtain ⟨D, hD⟩ : ∃ D, D = i - n := ⟨_, rfl⟩
        obtain ⟨E, hE⟩ : ∃ E, E = i - 1 := ⟨_, rfl⟩
        have f1 : IntKind.i64.wrap ((i : Int) - (n : Int)) = (D : Int) := wrap_to _ _ (by omega) (by omega)
        have f2 : IntKind.i64.wrap ((i : Int) - 1) = (E : Int) := wrap_to _ _ (by omega) (by omega)
        have f4 : (0 : Int) ≤ (D : Int) ∧ (D : Int) < 60 := by omega
        have f5 : (0 : Int) ≤ (E : Int) ∧ (E : Int) < 60 := by omega
        obtain ⟨X1, hX1⟩ : ∃ X : Nat → UInt8, X = fun k => gb (words key n i) (4 * D + k) := ⟨_, rfl⟩
        obtain ⟨X2, hX2⟩ : ∃ X : Nat → UInt8, X = fun k => gb (words key n i) (4 * E + k) := ⟨_, rfl⟩
        have HPP := Lib.hid (show t4 (fun k => X1 k ^^^ turned n i X2 k) = t4 P by rw [HP.out, nextB_high key n i (by omega), hX1, hX2, hD, hE])
        have HDE := Lib.hid (show D < i ∧ E < i by omega)
        have hni : n ≤ i := by omega
        clear hD hE
        go_wp2
        have HF2 := Lib.hid (HF.out.keep (Kp.refl nob wr).drew)
        obtain ⟨H, hH⟩ : ∃ H, H = w.heap.size := ⟨_, rfl⟩
        have HHS := Lib.hid hH
        have HS0 : Hid (wr.drew.rangeAt H (D * 4) (bvs (t4 X1)) ∧ wr.drew.rangeAt H (E * 4) (bvs (t4 X2))) :=
          Lib.hid ⟨by rw [hH, hX1]; exact kz_part HF2.out.ws D HDE.out.1 (by omega), by rw [hH, hX2]; exact kz_part HF2.out.ws E HDE.out.2 (by omega)⟩
        rw [← hH]
        have HX1 := Lib.hid hX1; have HX2 := Lib.hid hX2
        clear HF hX1 hX2 hH
        refine reg_begin (fun w' => w'.rangeAt H (D * 4) (bvs (t4 X1)) ∧ w'.rangeAt H (E * 4) (bvs (t4 X2))) (by kernel_rfl) HS0.out (fun _ => ?_)
        generalize wr.drew = wd at *
        refine reg_take (v := .int .i64 i) 0 (some 30) rfl rfl (by kernel_rfl) (by kernel_rfl) (by kernel_rfl) (by rfl) HS0.out (fun w hw => by go_simp) ?_
        simp only [Act.put, List.setIfInBounds_toArray, List.set_cons_zero, List.set_cons_succ]
        refine reg_take (v := .pointer (some ⟨g, 0, none⟩)) 1 (some 31) rfl rfl (by kernel_rfl) (by kernel_rfl) (by kernel_rfl) (by rfl) HS0.out (fun w hw => by go_simp) ?_
        simp only [Act.put, List.setIfInBounds_toArray, List.set_cons_zero, List.set_cons_succ]
        refine reg_take (v := .int .i64 i) 2 (some 32) rfl rfl (by kernel_rfl) (by kernel_rfl) (by kernel_rfl) (by rfl) HS0.out (fun w hw => by go_simp) ?_
        simp only [Act.put, List.setIfInBounds_toArray, List.set_cons_zero, List.set_cons_succ]
        refine reg_take (v := .int .i64 n) 3 (some 33) rfl rfl (by kernel_rfl) (by kernel_rfl) (by kernel_rfl) (by rfl) HS0.out (fun w hw => by go_simp) ?_
        simp only [Act.put, List.setIfInBounds_toArray, List.set_cons_zero, List.set_cons_succ]
        refine reg_take (v := .int .i64 i) 4 (some 34) rfl rfl (by kernel_rfl) (by kernel_rfl) (by kernel_rfl) (by rfl) HS0.out (fun w hw => by go_simp) ?_
        simp only [Act.put, List.setIfInBounds_toArray, List.set_cons_zero, List.set_cons_succ]
        refine reg_take (v := .int .i64 n) 5 (some 35) rfl rfl (by kernel_rfl) (by kernel_rfl) (by kernel_rfl) (by rfl) HS0.out (fun w hw => by go_simp) ?_
        simp only [Act.put, List.setIfInBounds_toArray, List.set_cons_zero, List.set_cons_succ]
        refine reg_take (v := .int .i64 D) 6 (some 36) rfl rfl (by kernel_rfl) (by kernel_rfl) (by kernel_rfl) (by rfl) HS0.out (fun w hw => by go_simp) ?_
        simp only [Act.put, List.setIfInBounds_toArray, List.set_cons_zero, List.set_cons_succ]
        refine reg_take (v := .pointer (some ⟨H, D * 4, none⟩)) 7 (some 37) rfl rfl (by kernel_rfl) (by kernel_rfl) (by kernel_rfl) (by rfl) HS0.out (fun w hw => by go_simp) ?_
        simp only [Act.put, List.setIfInBounds_toArray, List.set_cons_zero, List.set_cons_succ]
        refine reg_load 8 (some 38) 79 (.tmp 37) rfl rfl rfl (by kernel_rfl) (by kernel_rfl) (by kernel_rfl) (by rfl) HS0.out H (D * 4) rfl (bvs (t4 X1)) _ (fun _ x => x.1) arrW rfl (by kernel_rfl) ?_
        simp only [Act.put, List.setIfInBounds_toArray, List.set_cons_zero, List.set_cons_succ]
        refine reg_take (v := .int .i64 i) 9 (some 39) rfl rfl (by kernel_rfl) (by kernel_rfl) (by kernel_rfl) (by rfl) HS0.out (fun w hw => by go_simp) ?_
        simp only [Act.put, List.setIfInBounds_toArray, List.set_cons_zero, List.set_cons_succ]
        refine reg_take (v := .int .i64 E) 10 (some 40) rfl rfl (by kernel_rfl) (by kernel_rfl) (by kernel_rfl) (by rfl) HS0.out (fun w hw => by go_simp) ?_
        simp only [Act.put, List.setIfInBounds_toArray, List.set_cons_zero, List.set_cons_succ]
        refine reg_take (v := .pointer (some ⟨H, E * 4, none⟩)) 11 (some 41) rfl rfl (by kernel_rfl) (by kernel_rfl) (by kernel_rfl) (by rfl) HS0.out (fun w hw => by go_simp) ?_
        simp only [Act.put, List.setIfInBounds_toArray, List.set_cons_zero, List.set_cons_succ]
        refine reg_load 12 (some 42) 79 (.tmp 41) rfl rfl rfl (by kernel_rfl) (by kernel_rfl) (by kernel_rfl) (by rfl) HS0.out H (E * 4) rfl (bvs (t4 X2)) _ (fun _ x => x.2) arrW rfl (by kernel_rfl) ?_
        simp only [Act.put, List.setIfInBounds_toArray, List.set_cons_zero, List.set_cons_succ]
        have HTB := Lib.hid (show Tab wd g 241 Field.box from ⟨HF2.out.c.lt, fun x => by rw [HF2.out.c.cell]; exact cph_bx (kz_length _ _ _ (by omega)) BX_length _ _ (BX_get x)⟩)
        refine reg_call 13 (some 43) rfl rfl (by kernel_rfl) (by rfl) _ _ (by go_simp; exact ⟨rfl, rfl⟩) ?_
        refine (further_any X1 X2 i n g wd HTB.out hn hni (by omega)).mono ?_
        rintro e w3 ⟨rfl, k3⟩
        rw [HPP.out]
        have HF3 := Lib.hid (HF2.out.keep k3)
        have HS3 := Lib.hid (show w3.rangeAt H (D * 4) (bvs (t4 X1)) ∧ w3.rangeAt H (E * 4) (bvs (t4 X2)) from ⟨range_keep HS0.out.1 k3 (fun e => e), range_keep HS0.out.2 k3 (fun e => e)⟩)
        clear k3 HF2 HTB HPP HS0
        refine ⟨_, rfl, HS3.out, fun _ => ?_⟩
        simp only [Act.put, List.setIfInBounds_toArray, List.set_cons_zero, List.set_cons_succ]
        refine reg_take (v := .pointer (some ⟨H, i * 4, none⟩)) 14 (some 44) rfl rfl (by kernel_rfl) (by kernel_rfl) (by kernel_rfl) (by rfl) HS3.out (fun w hw => by go_simp) ?_
        simp only [Act.put, List.setIfInBounds_toArray, List.set_cons_zero, List.set_cons_succ]
        have HB3 := Lib.hid (show Blk w3 H 80 (bvs (kz key n i)) by rw [HHS.out]; exact HF3.out.ws)
        refine reg_storeIn 15 none 79 (.tmp 44) (.tmp 43) rfl rfl rfl (by kernel_rfl) (by rfl) H (i * 4) 80 (bvs (kz key n i)) (bvs (t4 P)) HB3.out rfl rfl (by rw [HLZ.out, HLP.out]; omega) (by rw [HLP.out]; kernel_rfl) (bvs_one _) ?_
        intro w2 hB2 k2 z2
        rw [HKZ.out] at hB2
        refine ⟨⟨by rw [HX1.out]; exact kz_part' hB2 D HDE.out.1 hi60, by rw [HX2.out]; exact kz_part' hB2 E HDE.out.2 hi60⟩, fun _ => ?_⟩
        rw [HHS.out] at hB2 k2
        have HH := Lib.hid (show Fh w g (n + 6) key n i w2 from ⟨hB2, HF3.out.c.keep k2 (fun e => by have := HLT.out; unfold oneB at e; omega), HF3.out.kp.trans k2 (fun j e => .inr (by unfold oneB at e; omega))⟩)
        clear hB2 k2 z2 HF3 HS3 HB3 f1 f2 f4 f5 HDE HX1 HX2
        rw [HHS.out]
        clear HHS
        simp only [Act.put, List.setIfInBounds_toArray, List.set_cons_zero, List.set_cons_succ]
        refine reg_end (by kernel_rfl) ?_
        go_wp2
      all_goals
        obtain ⟨q, hq⟩ : ∃ q, q = i / 4 := ⟨_, rfl⟩
        obtain ⟨r, hr⟩ : ∃ r, r = i % 4 := ⟨_, rfl⟩
        obtain ⟨R, hR⟩ : ∃ R, R = 4 * r := ⟨_, rfl⟩
        have a1 : (i : Int).tdiv 4 = (q : Int) := by rw [Int.tdiv_eq_ediv_of_nonneg (by omega)]; omega
        have a2 : (i : Int).tmod 4 = (r : Int) := tmod_four _ _ hr
        have a3 : IntKind.i64.wrap (4 * (r : Int)) = (R : Int) := wrap_to _ _ (by omega) (by omega)
        have a4 : IntKind.i64.wrap (q : Int) = (q : Int) := wrap_to _ _ rfl (by omega)
        have a5 : IntKind.i64.wrap (r : Int) = (r : Int) := wrap_to _ _ rfl (by omega)
        have a6 : (0 : Int) ≤ (q : Int) ∧ (q : Int) < 15 := by omega
        have a7 := word_all w.heap.size (i * 4)
        have a8 := block_from g (1 + q * 16) R R rfl (by omega)
        have HAD := Lib.hid (show 1 + q * 16 + R = 1 + 4 * i by omega)
        have HMIN := Lib.hid (show (bvs (t4 P)).length = Nat.min 4 (16 - R) by rw [HLP.out]; show 4 = min 4 _; omega)
        have HCN := Lib.hid (cph_next (n + 6) key n i (t4 P) BX BK hi60 HSU.out rfl)
        have HCL := Lib.hid (show (cph (n + 6) (kz key n i) BX BK).length = 753 from cph_length (kz_length _ _ _ (by omega)) BX_length BK_length)
        have HWR := Lib.hid (show ∀ wx, Blk wx w.heap.size 80 (bvs (kz key n (i + 1))) → Row wx (some ⟨w.heap.size, i * 4, none⟩) (bvs (t4 P)) from fun wx hx => .inr ⟨w.heap.size, i * 4, rfl, hx.lt, fun j v hv => by
          have h1 := hx.cell (i * 4 + j)
          rw [h1]
          have hj : j < 4 := (List.getElem?_eq_some_iff.1 hv).1
          rw [← HKZ.out, splice, List.getElem?_append_right (by rw [List.length_take, HLZ.out]; omega), List.length_take, HLZ.out, Nat.min_eq_left (by omega), show i * 4 + j - i * 4 = j by omega, List.getElem?_append_left (by rw [HLP.out]; exact hj)]
          exact hv⟩)
        clear hq hr hR
        refine wp_region_still_tail 13 (by kernel_rfl) (by kernel_rfl) ?_
        change wpStill _ _ w2.drew (fun a' => wpList _ _ _ _ a' w2.drew) _ _
        have HH2 := Lib.hid (HH.out.keep (Kp.refl nob w2).drew)
        clear HH
        generalize w2.drew = wd at *
        simp only [List.take_succ_cons, List.take_zero, List.drop_succ_cons, List.drop_zero]
        repeat still_step
        refine wpStill_nil ?_
        clear a1 a2 a3 a4 a5 a6 a7 a8
        go_wp2_with (refine wpList_copy_blk rfl (.tmp 54) (.tmp 57) 24 24 rfl 5 u8sl_under (by kernel_rfl) g (1 + 4 * i) _ _ _ _ _ _ rfl rfl (cph (n + 6) (kz key n i) BX BK) 64 HH2.out.c (bvs (t4 P)) HMIN.out (fun _ => by rw [HAD.out]) (HWR.out _ HH2.out.ws) (by rw [HCL.out, HLP.out]; omega) (bvs_one _) ?_; intro w6 hB6 k6 z6)
        rw [HCN.out] at hB6
        have HF6 := Lib.hid (show Fk w g (n + 6) key n (i + 1) w6 from ⟨HH2.out.ws.keep k6 (fun e => by have := HLT.out; unfold oneB at e; omega), hB6, HH2.out.kp.trans k6 (fun j e => .inl e)⟩)
        clear hB6 k6 z6 HH2
        go_wp2
        exact ⟨⟨i + 1, by omega, by go_num, HF6.out⟩, by simp [intOf]; omega⟩
    · have hf := HF.out
      obtain rfl : i = T := by omega
      rw [HTT.out] at hf
      have HFF := Lib.hid hf; clear hf HF
      go_wp2
      refine bodyPost_end (results_none rfl _ _ _) rfl ?_
      exact ⟨rfl, HFF.out.c, HFF.out.kp⟩
end Go.Proofs.YtbainiblffcjgaaDoor.Aes
