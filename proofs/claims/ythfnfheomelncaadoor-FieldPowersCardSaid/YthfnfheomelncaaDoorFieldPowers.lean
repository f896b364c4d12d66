/- FieldPowers: the double, over and over, is the product with so many 02; behind 255 of 03 it is 01 again, and not earlier. -/
import Derived.Test.YthfnfheomelncaaDoorFieldL
namespace Go.Proofs.YthfnfheomelncaaDoor.Field
open Go Go.RowKit Kit

theorem three_early (i : Nat) (h : i < 254) : pow3 1 (i + 1) ≠ 1 := by rw [← pow3_next, one_tm]; exact three_not i h
theorem three_end : pow3 1 255 = 1 := by rw [← pow3_next, one_tm]; exact three_all
theorem ne_one {a : UInt8} (h : a ≠ 1) : (cb a == 1) = false := beq_eq_false_iff_ne.2 (fun e => h (cb_inj.1 (e.trans cb_one.symm)))
/-- The list behind i rounds. -/
def lst (a : UInt8) (i : Nat) : List UInt8 := a :: List.replicate i 2
theorem lst_zero (a : UInt8) : lst a 0 = [a] := rfl
theorem lst_succ (a : UInt8) (i : Nat) : lst a (i + 1) = lst a i ++ [2] := by rw [lst, lst, List.replicate_succ', List.cons_append]
theorem lst_length (a : UInt8) (i : Nat) : (lst a i).length = i + 1 := by simp [lst]
theorem lst_prod (a : UInt8) (i : Nat) : prodL (lst a i) = twices a i := twices_prod a i
attribute [irreducible] lst

set_option maxHeartbeats 1000000 in
theorem powers_no (a : UInt8) (n : Int) (w : World) (ht : Sq w) (h : n < 0 ∨ 300 < n) :
    Calls Tryd.prog 7 #[.int .u8 (cb a), .int .i64 n] w fun e w' => e = .returned (.bool true) ∧ Kp nob w w' := by
  by_cases h1 : n < 0
  · have d1 : decide (n < 0) = true := by simp; omega
    go_enter Tryd.func7, Tryd.ntmps7
    go_wp2_with fail
    refine (alive_yes _ ht).mono ?_
    rintro e w1 ⟨rfl, k1⟩
    go_wp2
    go_ret
    exact ⟨rfl, k1⟩
  · have d1 : decide (n < 0) = false := by simp; omega
    have d2 : decide (300 < n) = true := by simp; omega
    go_enter Tryd.func7, Tryd.ntmps7
    go_wp2_with fail
    refine (alive_yes _ ht).mono ?_
    rintro e w1 ⟨rfl, k1⟩
    go_wp2
    go_ret
    exact ⟨rfl, k1⟩
set_option maxHeartbeats 2000000 in
set_option maxRecDepth 100000 in
theorem powers_yes (a : UInt8) (n : Nat) (w : World) (ht : Sq w) (h : n ≤ 300) :
    Calls Tryd.prog 7 #[.int .u8 (cb a), .int .i64 n] w fun e w' => e = .returned (.bool true) ∧ Kp nob w w' := by
  obtain ⟨i0, hi0, hz0, hz1, hz2⟩ := info_parts u8s_info
  have d1 : decide ((n : Int) < 0) = false := by simp
  have d2 : decide (300 < (n : Int)) = false := by simp; omega
  go_enter Tryd.func7, Tryd.ntmps7
  go_wp2_with fail
  refine (alive_yes _ ht).mono ?_
  rintro e w1 ⟨rfl, k1⟩
  have O0 : Own 5 (w1.alloc (.cells #[.int .u8 (cb a)] 5)) (some ⟨w1.heap.size, 0, none⟩) (0 + 1) 1 (bvs (lst a 0)) := by rw [lst_zero]; exact own_one w1 _ _
  have K0 : Kp nob w (w1.alloc (.cells #[.int .u8 (cb a)] 5)) := k1.alloc _
  have g0 := k1.size
  go_wp2
  go_loopw [5, 6, 7] (fun vx vl vi wr => ∃ (i : Nat) (A : Option Addr) (c : Nat), i ≤ n ∧ vx = .int .u8 (cb (twices a i)) ∧ vl = .slice A (i + 1) c ∧ vi = .int .i64 i ∧ Own 5 wr A (i + 1) c (bvs (lst a i)) ∧ (∀ k, ab A = some k → w.heap.size ≤ k) ∧ Kp nob w wr)
    (fun _ _ vi _ => n - (intOf vi).toNat)
  case atStart => exact ⟨0, _, 1, by omega, rfl, rfl, rfl, O0, fun k e => by cases e; exact g0, K0⟩
  case round =>
    obtain ⟨i, A, c, hi, rfl, rfl, rfl, hO, gA, hkp⟩ := hrel
    clear O0 K0 g0
    by_cases hlt : i < n
    · have H1 := Lib.hid (lst_succ a i)
      have H2 := Lib.hid (twices_succ a i)
      have HO := Lib.hid hO
      clear hO
      go_wp2_with fail
      refine (twice_any (twices a i) _).mono ?_
      rintro e w2 ⟨rfl, rfl⟩
      go_wp2_with
        (at_builtin
         refine wpList_appR _ rfl (.tmp 28) (.tmp 29) 22 rfl 5 i0 (.int .u8 0) 1 u8s_under hi0 hz0 hz1 hz2 rfl A (i + 1) c (bvs (lst a i)) rfl (HO.out.alloc _) (some ⟨wr.heap.size, 0, none⟩) 1 1 [.int .u8 2] rfl (fun h => by cases h) rfl (row_one wr _ _) (by intro u hu; simp at hu; subst hu; rfl) (by omega) (by omega) ?_
         intro X2 cX2 w5 hown5 hg5 hab5)
      have kx : Kp (rowF A) wr w5 := ((Kp.refl _ wr).alloc _).grown hg5 (fun k e => .inl e)
      have K5 : Kp nob w w5 := hkp.since kx (fun k e => gA k e)
      have O5 : Own 5 w5 X2 (i + 1 + 1) cX2 (bvs (lst a (i + 1))) := by rw [H1.out, bvs_append]; exact hown5
      have g5 : ∀ k, ab X2 = some k → w.heap.size ≤ k := fun k e => by
        rcases hab5 with h | h <;> rw [h] at e
        · exact gA k e
        · cases e; have := hkp.size; simp; omega
      have HO5 := Lib.hid O5
      clear O5 hown5 kx hg5 hab5
      go_wp2
      go_roundw
      case rel => exact ⟨i + 1, X2, cX2, by omega, by rw [H2.out], rfl, by go_num, HO5.out, g5, K5⟩
      case measure => simp [intOf]; omega
    · obtain rfl : i = n := by omega
      have HO := Lib.hid hO
      clear hO hi0 hz0 hz1 hz2
      go_wp2
      go_loopw [8, 9] (fun vp vi wr' => ∃ (j : Nat), j ≤ 255 ∧ vp = .int .u8 (cb (pow3 1 j)) ∧ vi = .int .i64 j ∧ Kp nob wr wr')
        (fun _ vi _ => 255 - (intOf vi).toNat)
      case atStart => exact ⟨0, by omega, by rw [pow3_zero]; rfl, rfl, Kp.refl _ _⟩
      case round =>
        obtain ⟨j, hj, rfl, rfl, hkq⟩ := hrel
        by_cases hlj : j < 255
        · have H1 := Lib.hid (pow3_succ 1 j)
          have HE := Lib.hid (three_early j)
          go_wp2_with fail
          refine (times_two (pow3 1 j) 3 _ _ _ rfl).mono ?_
          rintro e w6 ⟨rfl, k6⟩
          rw [← H1.out]
          have K6 := hkq.trans k6 (fun _ e => e.elim)
          by_cases hq : j < 254
          · have dq : decide ((j : Int) < 254) = true := by simp; omega
            have hne := ne_one (HE.out hq)
            go_wp2
            go_roundw
            case rel => exact ⟨j + 1, by omega, rfl, by go_num, K6⟩
            case measure => simp [intOf]; omega
          · have dq : decide ((j : Int) < 254) = false := by simp; omega
            go_wp2
            go_roundw
            case rel => exact ⟨j + 1, by omega, rfl, by go_num, K6⟩
            case measure => simp [intOf]; omega
        · obtain rfl : j = 255 := by omega
          have H3 := Lib.hid three_end
          have HP := Lib.hid (lst_prod a i)
          have hOk := HO.out.keep hkq (fun _ _ e => e)
          have hcap := hOk.cap
          have HOK := Lib.hid hOk
          clear hOk
          rw [H3.out, cb_one]
          go_wp2_with fail
          refine (times_any A (i + 1) c (lst a i) _ (lst_length a i) HOK.out.row hcap.1 hcap.2).mono ?_
          rintro e w6 ⟨rfl, rfl⟩
          rw [HP.out]
          go_wp2
          go_ret
          exact ⟨rfl, hkp.trans hkq (fun _ e => e.elim)⟩
theorem powers_walk (n m : Int) (w : World) (ht : Sq w) (h0 : (Lit.int .u8 n).wf = true) (_ : (Lit.int .i64 m).wf = true) :
    Calls Tryd.prog 7 #[.int .u8 n, .int .i64 m] w fun e w' => e = .returned (.bool true) ∧ Kp nob w w' := by
  obtain ⟨a, rfl⟩ := of_wf h0
  by_cases h : m < 0 ∨ 300 < m
  · exact powers_no a m w ht h
  · obtain ⟨k, rfl⟩ : ∃ k : Nat, m = k := ⟨m.toNat, by omega⟩
    exact powers_yes a k w ht (by omega)
end Go.Proofs.YthfnfheomelncaaDoor.Field
