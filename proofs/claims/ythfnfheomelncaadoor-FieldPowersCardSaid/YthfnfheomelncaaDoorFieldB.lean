/- Contracts of package field: a list multiplied; rows that the call makes. -/
import Derived.Test.YthfnfheomelncaaDoorFieldA
namespace Go.Proofs.YthfnfheomelncaaDoor.Field
open Go Go.RowKit Kit

set_option maxHeartbeats 1000000 in
theorem times_any (A : Option Addr) (n c : Nat) (l : List UInt8) (w : World) (hl : l.length = n) (hr : Row w A (bvs l)) (hc : n ≤ c) (hm : c ≤ maxLen) :
    Calls Tryd.prog 10 #[.slice A n c] w fun e w' => e = .returned (.int .u8 (cb (prodL l))) ∧ w = w' := by
  have HL := Lib.hid hl; clear hl
  have hm' : n ≤ 9223372036854775807 := by simp only [maxLen] at hm; omega
  go_enter Tryd.func10, Tryd.ntmps10
  go_wp2
  go_loopw [3, 8] (fun vs vi wr => ∃ i : Nat, i ≤ n ∧ vs = .int .u8 (cb (prodL (l.take i))) ∧ vi = .int .i64 i ∧ w = wr)
    (fun _ vi _ => n - (intOf vi).toNat)
  case atStart => exact ⟨0, by omega, rfl, rfl, rfl⟩
  case round =>
    obtain ⟨i, hi, rfl, rfl, rfl⟩ := hrel
    by_cases hlt : i < n
    · obtain ⟨b, o, rfl, hb, hcell⟩ := hr.at_ (i := i) (by rw [bvs_length, HL.out]; exact hlt)
      obtain ⟨x, hx⟩ : ∃ x, x = l[i]'(by rw [HL.out]; exact hlt) := ⟨_, rfl⟩
      have hcx : w.cell? ⟨b, o + i, none⟩ = some (.int .u8 (cb x)) := by rw [hcell, hx]; simp [bvs, bv, cb]
      have H1 := Lib.hid (prodL_take l i (by rw [HL.out]; exact hlt))
      rw [← hx] at H1
      clear hcell hx
      go_wp2_with fail
      refine (product_any (prodL (l.take i)) x _).mono ?_
      rintro e w1 ⟨rfl, rfl⟩
      go_wp2
      go_roundw
      case rel => exact ⟨i + 1, by omega, by rw [H1.out], by go_num, trivial⟩
      case measure => simp [intOf]; omega
    · obtain rfl : i = n := by omega
      have HT := Lib.hid (List.take_of_length_le (Nat.le_of_eq HL.out))
      go_wp2
      go_ret
      rw [HT.out]
      exact ⟨rfl, rfl⟩
theorem prodL_two (a b : UInt8) : prodL [a, b] = tm a b := by show tm (tm 1 a) b = _; rw [one_tm]
theorem prodL_three (a b c : UInt8) : prodL [a, b, c] = tm (tm a b) c := by show tm (tm (tm 1 a) b) c = _; rw [one_tm]
theorem times_two (a b : UInt8) (w : World) (t : TypeId) (g : Nat) (hg : g = w.heap.size) :
    Calls Tryd.prog 10 #[.slice (some ⟨g, 0, none⟩) 2 2] (w.alloc (.cells #[.int .u8 (cb a), .int .u8 (cb b)] t)) fun e w' => e = .returned (.int .u8 (cb (tm a b))) ∧ Kp nob w w' := by
  subst hg
  refine (times_any _ 2 2 [a, b] _ rfl (row_new w (bvs [a, b]) t) (Nat.le_refl _) (by simp [maxLen])).mono ?_
  rintro e w' ⟨rfl, rfl⟩
  exact ⟨by rw [prodL_two], (Kp.refl nob w).alloc _⟩
theorem times_three (a b c : UInt8) (w : World) (t : TypeId) (g : Nat) (hg : g = w.heap.size) :
    Calls Tryd.prog 10 #[.slice (some ⟨g, 0, none⟩) 3 3] (w.alloc (.cells #[.int .u8 (cb a), .int .u8 (cb b), .int .u8 (cb c)] t)) fun e w' => e = .returned (.int .u8 (cb (tm (tm a b) c))) ∧ Kp nob w w' := by
  subst hg
  refine (times_any _ 3 3 [a, b, c] _ rfl (row_new w (bvs [a, b, c]) t) (Nat.le_refl _) (by simp [maxLen])).mono ?_
  rintro e w' ⟨rfl, rfl⟩
  exact ⟨by rw [prodL_three], (Kp.refl nob w).alloc _⟩
end Go.Proofs.YthfnfheomelncaaDoor.Field
