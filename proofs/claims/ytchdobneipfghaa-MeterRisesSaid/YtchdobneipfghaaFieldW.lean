/- The words of the document's own field: bits of numbers, what stays within a machine's whole number. No program is named here. -/
import Derived.Test.YtchdobneipfghaaRows
import Derived.Test.YtchdobneipfghaaFieldT
import Derived.Test.YtchdobneipfghaaBlk
import Derived.BigQuiet
import Derived.Deep.QuietTactic
import Derived.StillTailTactics
import Derived.RegionTactic
namespace Go.Proofs.Ytchdobneipfghaa.Field
set_option linter.unusedVariables false
set_option linter.unusedSimpArgs false
open Go Go.RowKit Kit

theorem wrap64_in (n : Int) (h : -9223372036854775808 ≤ n ∧ n ≤ 9223372036854775807) : wrap64 n = n := by unfold wrap64; omega
theorem bits_xor_i64_nat (a b : Nat) (ha : a < 9223372036854775808) (hb : b < 9223372036854775808) :
    bits .xor .i64 (a : Int) (b : Int) = ((a ^^^ b : Nat) : Int) := by
  have hx : a ^^^ b < 2 ^ 63 := Nat.xor_lt_two_pow (by omega) (by omega)
  have h1 : (BitVec.ofInt 64 (a : Int)).toNat = a := by
    rw [BitVec.ofInt_natCast, BitVec.toNat_ofNat]; exact Nat.mod_eq_of_lt (by omega)
  have h2 : (BitVec.ofInt 64 (b : Int)).toNat = b := by
    rw [BitVec.ofInt_natCast, BitVec.toNat_ofNat]; exact Nat.mod_eq_of_lt (by omega)
  show IntKind.i64.wrap ((BitVec.ofInt 64 (a : Int) ^^^ BitVec.ofInt 64 (b : Int)).toNat : Int) = _
  rw [BitVec.toNat_xor, h1, h2]
  rw [IntKind.wrap_i64]
  omega

theorem xor_small (a b : Nat) (ha : a < 65536) (hb : b < 65536) : bits .xor .i64 (a : Int) (b : Int) = ((a ^^^ b : Nat) : Int) :=
  bits_xor_i64_nat a b (Nat.lt_of_lt_of_le ha (by decide)) (Nat.lt_of_lt_of_le hb (by decide))
theorem small_wrap (x : Nat) (h : x < 65536) : wrap64 (x : Int) = x := wrap64_in _ (by omega)

theorem up_lt (a b : Nat) (ha : a < 256) (i : Nat) : i ≤ 8 → up a b i < 2 ^ (8 + i) := by
  induction i with
  | zero => intro _; exact Nat.two_pow_pos _
  | succ i ih =>
    intro h
    have h1 := ih (by omega)
    have h2 : a * 2 ^ i < 2 ^ (8 + (i + 1)) := by
      rw [show 8 + (i + 1) = 9 + i by omega, Nat.pow_add]
      exact Nat.mul_lt_mul_of_pos_right (by omega) (Nat.two_pow_pos i)
    have h3 : up a b i < 2 ^ (8 + (i + 1)) := Nat.lt_trans h1 (Nat.pow_lt_pow_right (by omega) (by omega))
    rw [up]
    split
    · exact Nat.xor_lt_two_pow h3 h2
    · exact h3
theorem down_lt (x : Nat) (hx : x < 65536) (k : Nat) : k ≤ 8 → down x k < 65536 := by
  induction k with
  | zero => intro _; exact hx
  | succ k ih =>
    intro h
    have h1 := ih (by omega)
    rw [down]
    split
    · have h2 : 283 * 2 ^ (7 - k) < 2 ^ 16 := by
        have : 2 ^ (7 - k) ≤ 2 ^ 7 := Nat.pow_le_pow_right (by omega) (by omega)
        omega
      exact Nat.xor_lt_two_pow (n := 16) h1 h2
    · exact h1
theorem up_zero (a b : Nat) : up a b 0 = 0 := rfl
theorem up_one (a b i : Nat) (h : b / 2 ^ i % 2 = 1) : up a b (i + 1) = up a b i ^^^ (a * 2 ^ i) := by rw [up, if_pos h]
theorem up_none (a b i : Nat) (h : b / 2 ^ i % 2 = 0) : up a b (i + 1) = up a b i := by rw [up, if_neg (by omega)]
theorem down_zero (x : Nat) : down x 0 = x := rfl
theorem down_one (x i : Nat) (h : down x i / 2 ^ (15 - i) % 2 = 1) : down x (i + 1) = down x i ^^^ (283 * 2 ^ (7 - i)) := by rw [down, if_pos h]
theorem down_none (x i : Nat) (h : down x i / 2 ^ (15 - i) % 2 = 0) : down x (i + 1) = down x i := by rw [down, if_neg (by omega)]
theorem bit_tmod (b i q : Nat) (h : b / 2 ^ i % 2 = q) : ((b : Int) / 2 ^ i).tmod 2 = (q : Int) := by
  have e : (b : Int) / 2 ^ i = ((b / 2 ^ i : Nat) : Int) := by simp
  rw [e]; clear e
  generalize b / 2 ^ i = m at *
  rw [Int.tmod_eq_emod_of_nonneg (by omega)]; omega
theorem cb_wrap (a : UInt8) : wrap64 (cb a) = (a.toNat : Int) := by have := a.toNat_lt; exact wrap64_in _ (by unfold cb; omega)

end Go.Proofs.Ytchdobneipfghaa.Field
