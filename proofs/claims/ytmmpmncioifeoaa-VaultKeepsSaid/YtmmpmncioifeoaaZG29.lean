/- Contracts of the document's own field: what the box makes. · Contracts of the document's own AES: a round's key taken in. · More on blocks of sixteen bytes: columns mixed three times over are mixed back, rows by one index. No program is named here. -/
import Derived.Test.YtmmpmncioifeoaaZG28
import Derived.Test.YtmmpmncioifeoaaZG25
namespace Go.Proofs.Ytmmpmncioifeoaa.Field
set_option linter.unusedVariables false
set_option linter.unusedSimpArgs false
open Go Go.RowKit Kit

def KS : List Nat := [0, 4, 5, 6, 7]
/-- The sum of a bit, so far. -/
def part (c i : Nat) : Nat → Nat
  | 0 => 99 / 2 ^ i % 2
  | j + 1 => part c i j + c / 2 ^ ((i + KS.getD j 0) % 8) % 2
theorem part_zero (c i : Nat) : part c i 0 = 99 / 2 ^ i % 2 := rfl
theorem part_succ (c i j : Nat) : part c i (j + 1) = part c i j + c / 2 ^ ((i + KS.getD j 0) % 8) % 2 := rfl
theorem part_le (c i j : Nat) : part c i j ≤ j + 1 := by
  induction j with
  | zero => have := Nat.mod_lt (99 / 2 ^ i) (show 0 < 2 by decide); rw [part_zero]; omega
  | succ j ih => have := Nat.mod_lt (c / 2 ^ ((i + KS.getD j 0) % 8)) (show 0 < 2 by decide); rw [part_succ]; omega
theorem part_all (c i : Nat) : part c i 5 % 2 = bendBit c i := by rw [bendBit_eq]; rfl
theorem bendN_lt (c i : Nat) : bendN c i < 2 ^ i := by
  induction i with
  | zero => rw [bendN_zero]; exact Nat.one_pos
  | succ i ih =>
    have h1 := bendBit_lt c i
    have h2 : bendBit c i * 2 ^ i ≤ 1 * 2 ^ i := Nat.mul_le_mul_right _ (by omega)
    rw [bendN_succ, Nat.pow_succ]; omega
theorem KS_get (j : Nat) (h : j < 5) : (#[Value.int .i64 0, Value.int .i64 4, Value.int .i64 5, Value.int .i64 6, Value.int .i64 7] : Array Value)[j]? = some (.int .i64 ((KS.getD j 0 : Nat) : Int)) := by
  have : j = 0 ∨ j = 1 ∨ j = 2 ∨ j = 3 ∨ j = 4 := by omega
  rcases this with rfl | rfl | rfl | rfl | rfl <;> rfl
theorem KS_le (j : Nat) : KS.getD j 0 ≤ 7 := by
  by_cases h : j < 5
  · have : j = 0 ∨ j = 1 ∨ j = 2 ∨ j = 3 ∨ j = 4 := by omega
    rcases this with rfl | rfl | rfl | rfl | rfl <;> decide
  · have : KS.getD j 0 = 0 := by rw [List.getD_eq_getElem?_getD, List.getElem?_eq_none (by simp [KS]; omega)]; rfl
    omega
attribute [irreducible] part
theorem min_small (m : Nat) (h : m < 8) : min m 64 = m := by omega
theorem bit_two (C m q : Nat) (h : C / 2 ^ m % 2 = q) : q < 2 := by rw [← h]; exact Nat.mod_lt _ (by decide)
theorem sums_wrap (p q : Nat) (hp : p ≤ 6) (hq : q < 2) : wrap64 ((p : Int) + (q : Int)) = ((p + q : Nat) : Int) := by rw [wrap64_in ((p : Int) + (q : Int)) (by omega)]; omega
theorem bend_small (C i : Nat) (h : i ≤ 8) : bendN C i < 512 := Nat.lt_of_lt_of_le (bendN_lt C i) (Nat.le_trans (Nat.pow_le_pow_right (by decide) h) (by decide))
theorem shl_small (r i z : Nat) (hi : i < 8) (hr : r < 2) (hz : z = r * 2 ^ i) : z < 512 := by
  have h1 : 2 ^ i ≤ 2 ^ 7 := Nat.pow_le_pow_right (by decide) (by omega)
  have h2 : r * 2 ^ i ≤ 1 * 2 ^ 7 := Nat.mul_le_mul (by omega) h1
  omega
theorem shl_wrap (r i z : Nat) (hi : i < 8) (hr : r < 2) (hz : z = r * 2 ^ i) : wrap64 ((r : Int) * 2 ^ i) = (z : Int) := by
  have h := shl_small r i z hi hr hz
  have e : (r : Int) * 2 ^ i = (z : Int) := by rw [hz]; simp
  rw [e, small_wrap z (by omega)]
theorem adds_wrap (p q : Nat) (hp : p < 512) (hq : q < 512) : wrap64 ((p : Int) + (q : Int)) = ((p + q : Nat) : Int) := by rw [wrap64_in ((p : Int) + (q : Int)) (by omega)]; omega
theorem tmod_two (p r : Nat) (h : p % 2 = r) : (p : Int).tmod 2 = (r : Int) := by rw [Int.tmod_eq_emod_of_nonneg (by omega)]; omega
theorem intK : Try.prog.underlying 3 = some (.int .i64) := by kernel_rfl

end Go.Proofs.Ytmmpmncioifeoaa.Field
namespace Go.Proofs.Ytmmpmncioifeoaa.Aes
set_option linter.unusedVariables false
set_option linter.unusedSimpArgs false
open Go Go.RowKit Kit
open Field (cb cb_inj)

theorem arr4 : Try.prog.underlying 183 = some (.array 4 5) := by kernel_rfl

end Go.Proofs.Ytmmpmncioifeoaa.Aes
namespace Go.Proofs.Ytmmpmncioifeoaa.Aes
set_option linter.unusedVariables false
set_option linter.unusedSimpArgs false
open _root_.Go.Proofs.Ytmmpmncioifeoaa.Field

/-- Columns by other factors. -/
def mixBy (f : Nat → Nat → UInt8) (b : List UInt8) : List UInt8 := tb fun i => col f b (i / 4) (i % 4)
theorem mixBy_length (f : Nat → Nat → UInt8) (b : List UInt8) : (mixBy f b).length = 16 := tb_length _
def over (f g : Nat → Nat → UInt8) (j k : Nat) : UInt8 := tm (f j 0) (g 0 k) ^^^ tm (f j 1) (g 1 k) ^^^ tm (f j 2) (g 2 k) ^^^ tm (f j 3) (g 3 k)
theorem mixBy_mixBy (f g : Nat → Nat → UInt8) (b : List UInt8) : mixBy g (mixBy f b) = mixBy (over f g) b :=
  tb_ext fun i hi => by rw [mixBy, col_col f g b (i / 4) (i % 4) (by omega)]; rfl
theorem mix_by (b : List UInt8) : mix b = mixBy fac b := mix_eq b
theorem fac_four : (List.range 4).all (fun k => (List.range 4).all fun j => over fac (over fac (over fac fac)) j k == if j = k then 1 else 0) = true := by decide +kernel
theorem over_four (j k : Nat) (hj : j < 4) (hk : k < 4) : over fac (over fac (over fac fac)) j k = if j = k then 1 else 0 := by
  have := List.all_eq_true.1 (List.all_eq_true.1 fac_four k (List.mem_range.2 hk)) j (List.mem_range.2 hj)
  rwa [beq_iff_eq] at this
theorem mix_mix4 (b : List UInt8) (h : b.length = 16) : mix (mix (mix (mix b))) = b := by
  rw [mix_by, mix_by, mix_by, mix_by, mixBy_mixBy, mixBy_mixBy, mixBy_mixBy]
  refine tb_eq h fun i hi => ?_
  rw [col, over_four 0 _ (by omega) (by omega), over_four 1 _ (by omega) (by omega), over_four 2 _ (by omega) (by omega), over_four 3 _ (by omega) (by omega), one_of_four _ _ _ (by omega)]
  congr 1
  omega
/-- Mixed three times, it is mixed back. -/
theorem mix_mix3 (b : List UInt8) (h : b.length = 16) : mix (mix (mix b)) = unmix b := by
  have := mix_mix4 (unmix b) (unmix_length _)
  rwa [mix_unmix b h] at this
theorem rows_at (b : List UInt8) : rows b = tb fun i => gb b ((i + 4 * (i % 4) * 1) % 16) := by
  rw [rows_eq]; exact tb_ext fun i hi => by congr 1; omega
theorem unrows_at (b : List UInt8) : unrows b = tb fun i => gb b ((i + 4 * (i % 4) * 3) % 16) := by
  rw [unrows_eq]; exact tb_ext fun i hi => by congr 1; omega
theorem tm_three (x : UInt8) : tm x 3 = x ^^^ tm x 2 := by
  rw [show (3 : UInt8) = 1 ^^^ 2 by decide +kernel, tm_xor, tm_one]
theorem short0 (p q r s x y : UInt8) : x ^^^ (q ^^^ y) ^^^ r ^^^ s = p ^^^ q ^^^ r ^^^ s ^^^ p ^^^ (x ^^^ y) := by
  have e : p ^^^ q ^^^ r ^^^ s ^^^ p ^^^ (x ^^^ y) = (p ^^^ p) ^^^ (x ^^^ (q ^^^ y) ^^^ r ^^^ s) := by ac_rfl
  rw [e, UInt8.xor_self, UInt8.zero_xor]
theorem short1 (p q r s x y : UInt8) : p ^^^ x ^^^ (r ^^^ y) ^^^ s = p ^^^ q ^^^ r ^^^ s ^^^ q ^^^ (x ^^^ y) := by
  have e : p ^^^ q ^^^ r ^^^ s ^^^ q ^^^ (x ^^^ y) = (q ^^^ q) ^^^ (p ^^^ x ^^^ (r ^^^ y) ^^^ s) := by ac_rfl
  rw [e, UInt8.xor_self, UInt8.zero_xor]
theorem short2 (p q r s x y : UInt8) : p ^^^ q ^^^ x ^^^ (s ^^^ y) = p ^^^ q ^^^ r ^^^ s ^^^ r ^^^ (x ^^^ y) := by
  have e : p ^^^ q ^^^ r ^^^ s ^^^ r ^^^ (x ^^^ y) = (r ^^^ r) ^^^ (p ^^^ q ^^^ x ^^^ (s ^^^ y)) := by ac_rfl
  rw [e, UInt8.xor_self, UInt8.zero_xor]
theorem short3 (p q r s x y : UInt8) : (p ^^^ y) ^^^ q ^^^ r ^^^ x = p ^^^ q ^^^ r ^^^ s ^^^ s ^^^ (x ^^^ y) := by
  have e : p ^^^ q ^^^ r ^^^ s ^^^ s ^^^ (x ^^^ y) = (s ^^^ s) ^^^ ((p ^^^ y) ^^^ q ^^^ r ^^^ x) := by ac_rfl
  rw [e, UInt8.xor_self, UInt8.zero_xor]
/-- A column's byte, the short way. -/
theorem col_short (b : List UInt8) (c k : Nat) (hk : k < 4) :
    col fac b c k = gb b (4 * c) ^^^ gb b (4 * c + 1) ^^^ gb b (4 * c + 2) ^^^ gb b (4 * c + 3) ^^^ gb b (4 * c + k) ^^^ tm (gb b (4 * c + k) ^^^ gb b (4 * c + (k + 1) % 4)) 2 := by
  have hx (x y : UInt8) : tm (x ^^^ y) 2 = tm x 2 ^^^ tm y 2 := xor_tm _ _ _
  have f00 : fac 0 0 = 2 := by decide +kernel
  have f10 : fac 1 0 = 3 := by decide +kernel
  have f20 : fac 2 0 = 1 := by decide +kernel
  have f30 : fac 3 0 = 1 := by decide +kernel
  have f01 : fac 0 1 = 1 := by decide +kernel
  have f11 : fac 1 1 = 2 := by decide +kernel
  have f21 : fac 2 1 = 3 := by decide +kernel
  have f31 : fac 3 1 = 1 := by decide +kernel
  have f02 : fac 0 2 = 1 := by decide +kernel
  have f12 : fac 1 2 = 1 := by decide +kernel
  have f22 : fac 2 2 = 2 := by decide +kernel
  have f32 : fac 3 2 = 3 := by decide +kernel
  have f03 : fac 0 3 = 3 := by decide +kernel
  have f13 : fac 1 3 = 1 := by decide +kernel
  have f23 : fac 2 3 = 1 := by decide +kernel
  have f33 : fac 3 3 = 2 := by decide +kernel
  rw [hx, col]
  have : k = 0 ∨ k = 1 ∨ k = 2 ∨ k = 3 := by omega
  rcases this with rfl | rfl | rfl | rfl
  · rw [f00, f10, f20, f30, tm_three, tm_one, tm_one]
    show _ = gb b (4 * c) ^^^ gb b (4 * c + 1) ^^^ gb b (4 * c + 2) ^^^ gb b (4 * c + 3) ^^^ gb b (4 * c) ^^^ (tm (gb b (4 * c)) 2 ^^^ tm (gb b (4 * c + 1)) 2)
    exact short0 _ _ _ _ _ _
  · rw [f01, f11, f21, f31, tm_three, tm_one, tm_one]
    show _ = gb b (4 * c) ^^^ gb b (4 * c + 1) ^^^ gb b (4 * c + 2) ^^^ gb b (4 * c + 3) ^^^ gb b (4 * c + 1) ^^^ (tm (gb b (4 * c + 1)) 2 ^^^ tm (gb b (4 * c + 2)) 2)
    exact short1 _ _ _ _ _ _
  · rw [f02, f12, f22, f32, tm_three, tm_one, tm_one]
    show _ = gb b (4 * c) ^^^ gb b (4 * c + 1) ^^^ gb b (4 * c + 2) ^^^ gb b (4 * c + 3) ^^^ gb b (4 * c + 2) ^^^ (tm (gb b (4 * c + 2)) 2 ^^^ tm (gb b (4 * c + 3)) 2)
    exact short2 _ _ _ _ _ _
  · rw [f03, f13, f23, f33, tm_three, tm_one, tm_one]
    show _ = gb b (4 * c) ^^^ gb b (4 * c + 1) ^^^ gb b (4 * c + 2) ^^^ gb b (4 * c + 3) ^^^ gb b (4 * c + 3) ^^^ (tm (gb b (4 * c + 3)) 2 ^^^ tm (gb b (4 * c)) 2)
    exact short3 _ _ _ _ _ _
end Go.Proofs.Ytmmpmncioifeoaa.Aes
