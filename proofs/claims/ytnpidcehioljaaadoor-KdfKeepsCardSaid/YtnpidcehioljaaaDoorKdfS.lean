/- Keys out of keys on lists of bytes: the blocks, what is expanded; fewer bytes are the beginning of more. No program is named here. -/
import Derived.Test.YtnpidcehioljaaaDoorHmacS
namespace Go.Proofs.YtnpidcehioljaaaDoor.Kdf
open Go Go.RowKit Kit
open Hmac (mac mac_length)

/-- The block of number i, counted from 1 on; none ahead of the first. -/
def T (k p : List UInt8) : Nat → List UInt8
  | 0 => []
  | i + 1 => mac k (T k p i ++ p ++ [UInt8.ofNat (i + 1)])
theorem T_zero (k p : List UInt8) : T k p 0 = [] := rfl
theorem T_succ (k p : List UInt8) (i : Nat) : T k p (i + 1) = mac k (T k p i ++ p ++ [UInt8.ofNat (i + 1)]) := rfl
theorem T_length (k p : List UInt8) (i : Nat) : (T k p (i + 1)).length = 32 := mac_length _ _
/-- The first i blocks. -/
def okm (k p : List UInt8) : Nat → List UInt8
  | 0 => []
  | i + 1 => okm k p i ++ T k p (i + 1)
theorem okm_zero (k p : List UInt8) : okm k p 0 = [] := rfl
theorem okm_succ (k p : List UInt8) (i : Nat) : okm k p (i + 1) = okm k p i ++ T k p (i + 1) := rfl
theorem okm_length (k p : List UInt8) (i : Nat) : (okm k p i).length = 32 * i := by
  induction i with
  | zero => rfl
  | succ i ih => rw [okm_succ, List.length_append, ih, T_length]; omega
theorem okm_take (k p : List UInt8) (i d : Nat) : (okm k p (i + d)).take (32 * i) = okm k p i := by
  induction d with
  | zero => rw [Nat.add_zero, List.take_of_length_le (by rw [okm_length]; omega)]
  | succ d ih => rw [← Nat.add_assoc, okm_succ, List.take_append_of_le_length (by rw [okm_length]; omega), ih]
/-- WHAT IS EXPANDED to n bytes. -/
def expand (k p : List UInt8) (n : Nat) : List UInt8 := (okm k p ((n + 31) / 32)).take n
theorem expand_length (k p : List UInt8) (n : Nat) : (expand k p n).length = n := by
  rw [expand, List.length_take, okm_length]; omega
theorem expand_of (k p : List UInt8) (i n : Nat) (h : n ≤ 32 * i) : (okm k p i).take n = expand k p n := by
  have hm : (n + 31) / 32 ≤ i := by omega
  have := okm_take k p ((n + 31) / 32) (i - (n + 31) / 32)
  rw [show (n + 31) / 32 + (i - (n + 31) / 32) = i by omega] at this
  rw [expand, ← this, List.take_take, Nat.min_eq_left (by omega)]
theorem expand_take (k p : List UInt8) (n m : Nat) (h : n ≤ m) : (expand k p m).take n = expand k p n := by
  rw [expand, List.take_take, Nat.min_eq_left h]
  exact expand_of k p _ n (by omega)

/-- What a call of n bytes is told as, and what it answers. -/
def err (N : Int) : Int := if N < 0 then 1 else if 8160 < N then 3 else 0
def out (k p : List UInt8) (N : Int) : List UInt8 := if N < 0 ∨ 8160 < N then [] else expand k p N.toNat
theorem err_neg {N : Int} (h : N < 0) : err N = 1 := if_pos h
theorem err_long {N : Int} (h : 8160 < N) : err N = 3 := by rw [err, if_neg (by omega), if_pos h]
theorem err_ok (n : Nat) (h : n ≤ 8160) : err (n : Int) = 0 := by rw [err, if_neg (by omega), if_neg (by omega)]
theorem out_neg {N : Int} (k p : List UInt8) (h : N < 0) : out k p N = [] := if_pos (.inl h)
theorem out_long {N : Int} (k p : List UInt8) (h : 8160 < N) : out k p N = [] := if_pos (.inr h)
theorem out_ok (k p : List UInt8) (n : Nat) (h : n ≤ 8160) : out k p (n : Int) = expand k p n := by rw [out, if_neg (by omega)]; rfl
theorem out_length (k p : List UInt8) (N : Int) : (out k p N).length ≤ 8160 := by
  unfold out; split
  · simp
  · rw [expand_length]; omega
theorem okm_step (k p : List UInt8) (i n : Nat) (h : 32 * i < n) : (okm k p i).take n ++ (T k p (i + 1)).take (n - 32 * i) = (okm k p (i + 1)).take n := by
  rw [okm_succ, List.take_append, okm_length]

def ikm : List UInt8 := List.replicate 22 11
theorem published : (expand (mac [] ikm) [] 42)[0]? = some 141 ∧ (expand (mac [] ikm) [] 42)[1]? = some 164 ∧ (expand (mac [] ikm) [] 42)[41]? = some 200 := by decide +kernel
attribute [irreducible] T okm expand err out
end Go.Proofs.YtnpidcehioljaaaDoor.Kdf
