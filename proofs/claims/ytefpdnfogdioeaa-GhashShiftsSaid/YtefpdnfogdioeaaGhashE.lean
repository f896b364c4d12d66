/- Blocks as two words of 64 bits: the words' bits, sums, and the product with x. No program is named here. -/
import Derived.Test.YtefpdnfogdioeaaGhashT
import Derived.Laws.Bits64
namespace Go.Proofs.Ytefpdnfogdioeaa.Ghash
set_option linter.unusedVariables false
set_option linter.unusedSimpArgs false
open Go Go.RowKit Kit Gf
open Aes (gb tb tb_length gb_tb tb_gb tb_ext tb_eq)
open Field (cb)

/-- A word of 64 bits as a cell holds it. -/
def dw (x : UInt64) : Int := (x.toNat : Int)
theorem dw_inj {a b : UInt64} (h : dw a = dw b) : a = b := UInt64.toNat_inj.1 (by unfold dw at h; omega)
theorem dw_lt (x : UInt64) : 0 ≤ dw x ∧ dw x < 18446744073709551616 := by have := x.toNat_lt; unfold dw; omega
theorem dw_wrap (n : Nat) : IntKind.u64.wrap (n : Int) = dw (UInt64.ofNat n) := by
  rw [IntKind.wrap_u64, dw]; simp
theorem ofInt_dw (a : UInt64) : (BitVec.ofInt 64 (dw a)).toNat = a.toNat := by
  rw [dw, BitVec.ofInt_natCast, BitVec.toNat_ofNat]; exact Nat.mod_eq_of_lt a.toNat_lt
@[go_sem] theorem dw_and (a b : UInt64) : bits .and .u64 (dw a) (dw b) = dw (a &&& b) := by
  show IntKind.u64.wrap ((BitVec.ofInt 64 (dw a) &&& BitVec.ofInt 64 (dw b)).toNat : Int) = _
  rw [BitVec.toNat_and, ofInt_dw, ofInt_dw, dw_wrap, ← UInt64.toNat_and, UInt64.ofNat_toNat]
@[go_sem] theorem dw_or (a b : UInt64) : bits .or .u64 (dw a) (dw b) = dw (a ||| b) := by
  show IntKind.u64.wrap ((BitVec.ofInt 64 (dw a) ||| BitVec.ofInt 64 (dw b)).toNat : Int) = _
  rw [BitVec.toNat_or, ofInt_dw, ofInt_dw, dw_wrap, ← UInt64.toNat_or, UInt64.ofNat_toNat]
@[go_sem] theorem dw_xor (a b : UInt64) : bits .xor .u64 (dw a) (dw b) = dw (a ^^^ b) := by
  show IntKind.u64.wrap ((BitVec.ofInt 64 (dw a) ^^^ BitVec.ofInt 64 (dw b)).toNat : Int) = _
  rw [BitVec.toNat_xor, ofInt_dw, ofInt_dw, dw_wrap, ← UInt64.toNat_xor, UInt64.ofNat_toNat]
theorem dw_shl (a : UInt64) (k : Nat) (h : k < 64) : IntKind.u64.wrap (dw a * 2 ^ k) = dw (a <<< UInt64.ofNat k) := by
  have e : dw a * 2 ^ k = ((a.toNat * 2 ^ k : Nat) : Int) := by simp [dw]
  rw [e, IntKind.wrap_u64, dw, UInt64.toNat_shiftLeft, UInt64.toNat_ofNat', Nat.shiftLeft_eq, Nat.mod_eq_of_lt (a := k) (by omega), Nat.mod_eq_of_lt h]; simp
theorem dw_shr (a : UInt64) (k : Nat) (h : k < 64) : dw a / 2 ^ k = dw (a >>> UInt64.ofNat k) := by
  have e : dw a / 2 ^ k = ((a.toNat / 2 ^ k : Nat) : Int) := by simp [dw]
  rw [e, dw, UInt64.toNat_shiftRight, UInt64.toNat_ofNat', Nat.shiftRight_eq_div_pow, Nat.mod_eq_of_lt (a := k) (by omega), Nat.mod_eq_of_lt h]
@[go_sem] theorem dw_shl8 (a : UInt64) : IntKind.u64.wrap (dw a * (256 : Int)) = dw (a <<< 8) := dw_shl a 8 (by omega)
@[go_sem] theorem dw_shl63 (a : UInt64) : IntKind.u64.wrap (dw a * (9223372036854775808 : Int)) = dw (a <<< 63) := dw_shl a 63 (by omega)
@[go_sem] theorem dw_shr1 (a : UInt64) : dw a / (2 : Int) = dw (a >>> 1) := dw_shr a 1 (by omega)
@[go_sem] theorem dw_u8 (x : UInt8) : IntKind.u64.wrap (cb x) = dw x.toUInt64 := by
  have := x.toNat_lt; rw [IntKind.wrap_u64, cb, dw, UInt8.toNat_toUInt64]; omega

/-- Two words are one if their bits are. -/
theorem u64_ext {x y : UInt64} (h : ∀ i, i < 64 → x.toNat.testBit i = y.toNat.testBit i) : x = y := by
  apply UInt64.toNat_inj.1
  apply Nat.eq_of_testBit_eq
  intro i
  by_cases hi : i < 64
  · exact h i hi
  · have hp : 2 ^ 64 ≤ 2 ^ i := Nat.pow_le_pow_right (by decide) (by omega)
    have := x.toNat_lt; have := y.toNat_lt
    rw [Nat.testBit_lt_two_pow (by omega), Nat.testBit_lt_two_pow (by omega)]
/-- k bytes behind o as a word, the highest first. -/
def wd (b : List UInt8) (o : Nat) : Nat → UInt64
  | 0 => 0
  | k + 1 => wd b o k <<< 8 ||| (gb b (o + k)).toUInt64
theorem wd_zero (b : List UInt8) (o : Nat) : wd b o 0 = 0 := rfl
theorem wd_succ (b : List UInt8) (o k : Nat) : wd b o (k + 1) = wd b o k <<< 8 ||| (gb b (o + k)).toUInt64 := rfl
def wn (b : List UInt8) (o : Nat) : Nat → Nat
  | 0 => 0
  | k + 1 => wn b o k * 256 + (gb b (o + k)).toNat
theorem wn_lt (b : List UInt8) (o k : Nat) : wn b o k < 256 ^ k := by
  induction k with
  | zero => simp [wn]
  | succ k ih => have := (gb b (o + k)).toNat_lt; rw [wn, Nat.pow_succ]; omega
theorem wd_nat (b : List UInt8) (o k : Nat) (h : k ≤ 8) : (wd b o k).toNat = wn b o k := by
  induction k with
  | zero => rfl
  | succ k ih =>
    have hx := (gb b (o + k)).toNat_lt
    have hl := wn_lt b o k
    have hp : 256 ^ k ≤ 256 ^ 7 := Nat.pow_le_pow_right (by decide) (by omega)
    rw [wd_succ, UInt64.toNat_or, UInt64.toNat_shiftLeft, ih (by omega), UInt8.toNat_toUInt64, wn]
    rw [show (8 : UInt64).toNat % 64 = 8 from rfl, Nat.shiftLeft_eq, Nat.mod_eq_of_lt (by omega)]
    rw [← Nat.shiftLeft_eq, Nat.shiftLeft_add_eq_or_of_lt (by simpa using hx)]
theorem wn_byte (b : List UInt8) (o k i : Nat) (h : i < k) : wn b o k / 256 ^ (k - 1 - i) % 256 = (gb b (o + i)).toNat := by
  induction k with
  | zero => omega
  | succ k ih =>
    have hx := (gb b (o + k)).toNat_lt
    rw [wn]
    by_cases hi : i = k
    · subst hi; rw [show i + 1 - 1 - i = 0 by omega, Nat.pow_zero, Nat.div_one]; omega
    · rw [show k + 1 - 1 - i = (k - 1 - i) + 1 by omega, Nat.pow_succ, Nat.mul_comm (256 ^ _), ← Nat.div_div_eq_div_mul]
      rw [show (wn b o k * 256 + (gb b (o + k)).toNat) / 256 = wn b o k by omega]
      exact ih (by omega)
theorem wn_bit (b : List UInt8) (o k i : Nat) (h : i < 8 * k) : wn b o k / 2 ^ (8 * k - 1 - i) % 2 = bit b (8 * o + i) := by
  have e := wn_byte b o k (i / 8) (by omega)
  have e2 : 2 ^ (8 * k - 1 - i) = 256 ^ (k - 1 - i / 8) * 2 ^ (7 - i % 8) := by
    rw [show (256 : Nat) = 2 ^ 8 from rfl, ← Nat.pow_mul, ← Nat.pow_add]; congr 1; omega
  rw [bit, show (8 * o + i) / 8 = o + i / 8 by omega, show (8 * o + i) % 8 = i % 8 by omega, ← e, e2, ← Nat.div_div_eq_div_mul]
  have hm : 7 - i % 8 ≤ 7 := by omega
  generalize wn b o k / 256 ^ (k - 1 - i / 8) = y
  have : 7 - i % 8 = 0 ∨ 7 - i % 8 = 1 ∨ 7 - i % 8 = 2 ∨ 7 - i % 8 = 3 ∨ 7 - i % 8 = 4 ∨ 7 - i % 8 = 5 ∨ 7 - i % 8 = 6 ∨ 7 - i % 8 = 7 := by omega
  rcases this with h | h | h | h | h | h | h | h <;> rw [h] <;> omega
/-- A block's first word, and its second. -/
def hi (b : List UInt8) : UInt64 := wd b 0 8
def lo (b : List UInt8) : UInt64 := wd b 8 8
theorem hi_eq (b : List UInt8) : hi b = wd b 0 8 := rfl
theorem lo_eq (b : List UInt8) : lo b = wd b 8 8 := rfl
theorem hi_bit (b : List UInt8) (i : Nat) (h : i < 64) : (hi b).toNat / 2 ^ (63 - i) % 2 = bit b i := by
  have := wn_bit b 0 8 i (by omega)
  rw [hi, wd_nat _ _ _ (Nat.le_refl _)]; rw [show 8 * 0 + i = i by omega] at this; exact this
theorem lo_bit (b : List UInt8) (i : Nat) (h : i < 64) : (lo b).toNat / 2 ^ (63 - i) % 2 = bit b (64 + i) := by
  have := wn_bit b 8 8 i (by omega)
  rw [lo, wd_nat _ _ _ (Nat.le_refl _)]; exact this
theorem hi_test (b : List UInt8) (i : Nat) (h : i < 64) : (hi b).toNat.testBit i = decide (bit b (63 - i) = 1) := by
  rw [Nat.testBit_eq_decide_div_mod_eq, ← hi_bit b (63 - i) (by omega), show 63 - (63 - i) = i by omega]
theorem lo_test (b : List UInt8) (i : Nat) (h : i < 64) : (lo b).toNat.testBit i = decide (bit b (127 - i) = 1) := by
  rw [Nat.testBit_eq_decide_div_mod_eq, show 127 - i = 64 + (63 - i) by omega, ← lo_bit b (63 - i) (by omega), show 63 - (63 - i) = i by omega]
theorem hi_byte (b : List UInt8) (i : Nat) (h : i < 8) : (hi b).toNat / 2 ^ (56 - 8 * i) % 256 = (gb b i).toNat := by
  have := wn_byte b 0 8 i h
  rw [hi, wd_nat _ _ _ (Nat.le_refl _), show 2 ^ (56 - 8 * i) = 256 ^ (8 - 1 - i) by rw [show (256 : Nat) = 2 ^ 8 from rfl, ← Nat.pow_mul]; congr 1; omega, this, Nat.zero_add]
theorem lo_byte (b : List UInt8) (i : Nat) (h : i < 8) : (lo b).toNat / 2 ^ (56 - 8 * i) % 256 = (gb b (8 + i)).toNat := by
  have := wn_byte b 8 8 i h
  rw [lo, wd_nat _ _ _ (Nat.le_refl _), show 2 ^ (56 - 8 * i) = 256 ^ (8 - 1 - i) by rw [show (256 : Nat) = 2 ^ 8 from rfl, ← Nat.pow_mul]; congr 1; omega, this]
theorem one_of_bit (a b : Nat) (ha : a < 2) (hb : b < 2) : decide ((a + b) % 2 = 1) = (decide (a = 1) ^^ decide (b = 1)) := by
  have : a = 0 ∨ a = 1 := by omega
  have : b = 0 ∨ b = 1 := by omega
  rcases ‹a = 0 ∨ a = 1› with rfl | rfl <;> rcases ‹b = 0 ∨ b = 1› with rfl | rfl <;> rfl
theorem hi_plus (a b : List UInt8) : hi (plus a b) = hi a ^^^ hi b := by
  refine u64_ext fun i h => ?_
  rw [UInt64.toNat_xor, Nat.testBit_xor, hi_test _ _ h, hi_test _ _ h, hi_test _ _ h, bit_plus _ _ _ (by omega), one_of_bit _ _ (bit_lt _ _) (bit_lt _ _)]
theorem lo_plus (a b : List UInt8) : lo (plus a b) = lo a ^^^ lo b := by
  refine u64_ext fun i h => ?_
  rw [UInt64.toNat_xor, Nat.testBit_xor, lo_test _ _ h, lo_test _ _ h, lo_test _ _ h, bit_plus _ _ _ (by omega), one_of_bit _ _ (bit_lt _ _) (bit_lt _ _)]
theorem hi_none : hi none16 = 0 := by decide +kernel
theorem lo_none : lo none16 = 0 := by decide +kernel
theorem and_zero (x : UInt64) : x &&& -(0 : UInt64) = 0 := by
  refine u64_ext fun i h => ?_
  rw [UInt64.toNat_and, show (-(0 : UInt64)).toNat = 0 from rfl, Nat.and_zero]; rfl
theorem and_ones (x : UInt64) : x &&& -(1 : UInt64) = x := by
  refine u64_ext fun i h => ?_
  rw [UInt64.toNat_and, show (-(1 : UInt64)).toNat = 2 ^ 64 - 1 from rfl, Nat.testBit_and, Nat.testBit_two_pow_sub_one]
  simp [h]
theorem lo_last (a : List UInt8) : lo a &&& 1 = UInt64.ofNat (bit a 127) := by
  apply UInt64.toNat_inj.1
  have h := lo_bit a 63 (by omega)
  have hl := bit_lt a 127
  rw [UInt64.toNat_and, show (1 : UInt64).toNat = 1 from rfl, Nat.and_one_is_mod, UInt64.toNat_ofNat', Nat.mod_eq_of_lt (a := bit a 127) (by omega)]
  rw [show 64 + 63 = 127 from rfl] at h
  rw [← h]; simp
/-- What is left of x to the power of 128, as a first word. -/
def rest64 : UInt64 := 16212958658533785600
theorem rest_test (i : Nat) (h : i < 64) : rest64.toNat.testBit i = decide (135 / 2 ^ (63 - i) % 2 = 1) := by
  have : ∀ i : Fin 64, rest64.toNat.testBit i.1 = decide (135 / 2 ^ (63 - i.1) % 2 = 1) := by decide +kernel
  exact this ⟨i, h⟩
theorem hi_shift (a : List UInt8) : hi (shift a) = hi a >>> 1 ^^^ rest64 &&& -(UInt64.ofNat (bit a 127)) := by
  have hl := bit_lt a 127
  refine u64_ext fun i h => ?_
  rw [hi_test _ _ h, bit_shift _ _ (by omega), UInt64.toNat_xor, Nat.testBit_xor, UInt64.toNat_shiftRight, show (1 : UInt64).toNat % 64 = 1 from rfl, Nat.testBit_shiftRight]
  rw [one_of_bit _ _ (by split <;> first | exact bit_lt _ _ | omega) (Nat.mod_lt _ (by decide))]
  congr 1
  · by_cases h63 : i = 63
    · subst h63
      have := (hi a).toNat_lt
      rw [Nat.testBit_lt_two_pow (by omega)]; rfl
    · rw [if_pos (by omega), hi_test _ _ (by omega), show 63 - i - 1 = 63 - (1 + i) by omega]
  · by_cases hq : bit a 127 = 1
    · rw [if_pos hq, hq, show UInt64.ofNat 1 = 1 from rfl, and_ones, rest_test i h]
    · rw [if_neg hq, show bit a 127 = 0 by omega, show UInt64.ofNat 0 = 0 from rfl, and_zero]; simp
theorem lo_shift (a : List UInt8) : lo (shift a) = lo a >>> 1 ||| hi a <<< 63 := by
  refine u64_ext fun i h => ?_
  have e0 : ∀ c : Nat, c < 256 → c / 2 ^ (127 - i) % 2 = 0 := fun c hc => by
    rw [Nat.div_eq_of_lt (Nat.lt_of_lt_of_le (show c < 2 ^ 8 by omega) (Nat.pow_le_pow_right (by decide) (by omega)))]
  have hlt : ∀ j, bit a j < 2 := bit_lt a
  rw [lo_test _ _ h, bit_shift _ _ (by omega), if_pos (by omega), e0 _ (by split <;> omega), Nat.add_zero, Nat.mod_eq_of_lt (hlt _)]
  rw [UInt64.toNat_or, Nat.testBit_or, UInt64.toNat_shiftRight, UInt64.toNat_shiftLeft, show (1 : UInt64).toNat % 64 = 1 from rfl, show (63 : UInt64).toNat % 64 = 63 from rfl, Nat.testBit_shiftRight, Nat.testBit_mod_two_pow, Nat.testBit_shiftLeft]
  by_cases h63 : i = 63
  · subst h63
    have := (lo a).toNat_lt
    rw [Nat.testBit_lt_two_pow (x := (lo a).toNat) (by omega)]
    simp only [Bool.false_or]
    rw [hi_test _ _ (by omega)]; simp
  · rw [lo_test _ _ (by omega), show 127 - i - 1 = 127 - (1 + i) by omega]
    simp [h, show ¬ 63 ≤ i by omega]
/-- A block, or none, as a bit says. -/
def keep (a : List UInt8) (q : Nat) : List UInt8 := if q = 1 then a else none16
theorem keep_length (a : List UInt8) (q : Nat) (h : a.length = 16) : (keep a q).length = 16 := by
  unfold keep; split
  · exact h
  · rfl
theorem hi_keep (a : List UInt8) (q : Nat) (h : q < 2) : hi a &&& -(UInt64.ofNat q) = hi (keep a q) := by
  have : q = 0 ∨ q = 1 := by omega
  rcases this with rfl | rfl
  · rw [show UInt64.ofNat 0 = 0 from rfl, and_zero, keep, if_neg (by decide), hi_none]
  · rw [show UInt64.ofNat 1 = 1 from rfl, and_ones, keep, if_pos rfl]
theorem lo_keep (a : List UInt8) (q : Nat) (h : q < 2) : lo a &&& -(UInt64.ofNat q) = lo (keep a q) := by
  have : q = 0 ∨ q = 1 := by omega
  rcases this with rfl | rfl
  · rw [show UInt64.ofNat 0 = 0 from rfl, and_zero, keep, if_neg (by decide), lo_none]
  · rw [show UInt64.ofNat 1 = 1 from rfl, and_ones, keep, if_pos rfl]
theorem prod_keep (b a : List UInt8) (k : Nat) : plus (prod b a k) (keep (shifts a k) (bit b k)) = prod b a (k + 1) := by
  by_cases h : bit b k = 1
  · rw [prod_one _ _ _ h, keep, if_pos h]
  · rw [prod_no _ _ _ h, keep, if_neg h, plus_none _ (prod_length _ _ _)]
theorem neg_dw (x : UInt64) : IntKind.u64.wrap (-(dw x)) = dw (-x) := by
  have := x.toNat_lt
  rw [IntKind.wrap_u64, dw, dw, UInt64.toNat_neg]
  simp only [UInt64.size]
  omega
@[go_sem] theorem neg_sem (x : UInt64) : IntKind.u64.wrap (-(dw x)) = dw (-x) := neg_dw x
@[go_sem] theorem rest_and (y : UInt64) : bits .and .u64 16212958658533785600 (dw y) = dw (rest64 &&& y) := by
  rw [← dw_and]; congr 1
theorem and_one (x : UInt64) : bits .and .u64 (dw x) 1 = dw (x &&& 1) := by
  rw [← dw_and]; congr 1
theorem lo_last_dw (a : List UInt8) : bits .and .u64 (dw (lo a)) 1 = dw (UInt64.ofNat (bit a 127)) := by rw [and_one, lo_last]
theorem shr_one (x : UInt64) (k q : Nat) (hk : k < 64) (h : x.toNat / 2 ^ k % 2 = q) : bits .and .u64 (dw (x >>> UInt64.ofNat k)) 1 = dw (UInt64.ofNat q) := by
  rw [and_one]
  congr 1
  apply UInt64.toNat_inj.1
  rw [UInt64.toNat_and, show (1 : UInt64).toNat = 1 from rfl, Nat.and_one_is_mod, UInt64.toNat_shiftRight, UInt64.toNat_ofNat', Nat.mod_eq_of_lt (a := k) (by omega), Nat.mod_eq_of_lt hk, Nat.shiftRight_eq_div_pow, h, UInt64.toNat_ofNat', Nat.mod_eq_of_lt (by have := Nat.mod_lt (x.toNat / 2 ^ k) (show 0 < 2 by decide); omega)]
theorem hi_shr (b : List UInt8) (i : Nat) (h : i < 64) : bits .and .u64 (dw (hi b) / 2 ^ (63 - i)) 1 = dw (UInt64.ofNat (bit b i)) := by
  rw [dw_shr _ _ (by omega)]; exact shr_one _ _ _ (by omega) (hi_bit b i h)
theorem lo_shr (b : List UInt8) (i : Nat) (h : 64 ≤ i) (h2 : i < 128) : bits .and .u64 (dw (lo b) / 2 ^ (127 - i)) 1 = dw (UInt64.ofNat (bit b i)) := by
  have := lo_bit b (i - 64) (by omega)
  rw [show 63 - (i - 64) = 127 - i by omega, show 64 + (i - 64) = i by omega] at this
  rw [dw_shr _ _ (by omega)]; exact shr_one _ _ _ (by omega) this
/-- A byte of a word. -/
theorem hi_cb (b : List UInt8) (i : Nat) (h : i < 8) : IntKind.u8.wrap (dw (hi b) / 2 ^ (56 - 8 * i)) = cb (gb b i) := by
  have := hi_byte b i h
  rw [show dw (hi b) / 2 ^ (56 - 8 * i) = (((hi b).toNat / 2 ^ (56 - 8 * i) : Nat) : Int) by simp [dw], IntKind.wrap_u8, cb]
  omega
theorem lo_cb (b : List UInt8) (i : Nat) (h : i < 8) : IntKind.u8.wrap (dw (lo b) / 2 ^ (56 - 8 * i)) = cb (gb b (8 + i)) := by
  have := lo_byte b i h
  rw [show dw (lo b) / 2 ^ (56 - 8 * i) = (((lo b).toNat / 2 ^ (56 - 8 * i) : Nat) : Int) by simp [dw], IntKind.wrap_u8, cb]
  omega
theorem dw_zero : dw 0 = 0 := rfl
attribute [irreducible] dw wd wn hi lo keep
end Go.Proofs.Ytefpdnfogdioeaa.Ghash
