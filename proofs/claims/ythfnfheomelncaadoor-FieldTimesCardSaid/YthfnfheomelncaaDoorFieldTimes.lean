/- FieldTimes: the product of a list, and the double, are the document's. -/
import Derived.Test.YthfnfheomelncaaDoorFieldL
namespace Go.Proofs.YthfnfheomelncaaDoor.Field
open Go Go.RowKit Kit

set_option maxHeartbeats 1000000 in
theorem times_long (A : Option Addr) (n c : Nat) (a : UInt8) (w : World) (ht : Sq w) (hn : 1024 < n) (_ : n ≤ maxLen) :
    Calls Tryd.prog 3 #[.slice A n c, .int .u8 (cb a)] w fun e w' => e = .returned (.bool true) ∧ Kp nob w w' := by
  have d1 : decide (1024 < (n : Int)) = true := by simp; omega
  go_enter Tryd.func3, Tryd.ntmps3
  go_wp2_with fail
  refine (alive_yes _ ht).mono ?_
  rintro e w1 ⟨rfl, k1⟩
  go_wp2
  go_ret
  exact ⟨rfl, k1⟩
set_option maxHeartbeats 2000000 in
theorem times_yes (A : Option Addr) (n c : Nat) (l : List UInt8) (a : UInt8) (w : World) (ht : Sq w) (hl : l.length = n) (hr : Row w A (bvs l)) (hc : n ≤ c) (hm : c ≤ maxLen) (hn : n ≤ 1024) :
    Calls Tryd.prog 3 #[.slice A n c, .int .u8 (cb a)] w fun e w' => e = .returned (.bool true) ∧ Kp nob w w' := by
  have d1 : decide (1024 < (n : Int)) = false := by simp; omega
  have HL := Lib.hid hl; clear hl
  go_enter Tryd.func3, Tryd.ntmps3
  go_wp2_with fail
  refine (alive_yes _ ht).mono ?_
  rintro e w1 ⟨rfl, k1⟩
  have hr1 := hr.keep0 k1
  clear hr
  go_wp2
  go_loopw [5, 15] (fun vs vi wr => ∃ i : Nat, i ≤ n ∧ vs = .int .u8 (cb (prodL (l.take i))) ∧ vi = .int .i64 i ∧ w1 = wr)
    (fun _ vi _ => n - (intOf vi).toNat)
  case atStart => exact ⟨0, by omega, rfl, rfl, rfl⟩
  case round =>
    obtain ⟨i, hi, rfl, rfl, rfl⟩ := hrel
    by_cases hlt : i < n
    · obtain ⟨b, o, rfl, hb, hcell⟩ := hr1.at_ (i := i) (by rw [bvs_length, HL.out]; exact hlt)
      obtain ⟨x, hx⟩ : ∃ x, x = l[i]'(by rw [HL.out]; exact hlt) := ⟨_, rfl⟩
      have hcx : w1.cell? ⟨b, o + i, none⟩ = some (.int .u8 (cb x)) := by rw [hcell, hx]; simp [bvs, bv, cb]
      have H1 := Lib.hid (prodL_take l i (by rw [HL.out]; exact hlt))
      rw [← hx] at H1
      clear hcell hx
      go_wp2_with fail
      refine (fTimes (prodL (l.take i)) x _).mono ?_
      rintro e w2 ⟨rfl, rfl⟩
      go_wp2
      go_roundw
      case rel => exact ⟨i + 1, by omega, by rw [H1.out], by go_num, trivial⟩
      case measure => simp [intOf]; omega
    · obtain rfl : i = n := by omega
      have HT := Lib.hid (List.take_of_length_le (Nat.le_of_eq HL.out))
      go_wp2_with fail
      refine (times_any A i c l _ HL.out hr1 hc hm).mono ?_
      rintro e w2 ⟨rfl, rfl⟩
      rw [HT.out]
      go_wp2_with fail
      refine (twice_any a _).mono ?_
      rintro e w2 ⟨rfl, rfl⟩
      go_wp2_with fail
      refine (fTimes a 2 _).mono ?_
      rintro e w2 ⟨rfl, rfl⟩
      go_wp2
      go_ret
      exact ⟨rfl, k1⟩
theorem times_walk (A : Option Addr) (n c : Nat) (l : List UInt8) (m : Int) (w : World) (ht : Sq w) (hl : l.length = n) (_ : A = none → c = 0) (hr : Row w A (bvs l)) (hc : n ≤ c) (hm : c ≤ maxLen) (h1 : (Lit.int .u8 m).wf = true) :
    Calls Tryd.prog 3 #[.slice A n c, .int .u8 m] w fun e w' => e = .returned (.bool true) ∧ Kp nob w w' := by
  obtain ⟨a, rfl⟩ := of_wf h1
  by_cases h : n ≤ 1024
  · exact times_yes A n c l a w ht hl hr hc hm h
  · exact times_long A n c a w ht (by omega) (Nat.le_trans hc hm)
end Go.Proofs.YthfnfheomelncaaDoor.Field
