/- Lemmas: GhashEg GhashAg GhashBg GhashCg GhashDg GhashFg. -/
import Derived.Test.YtiimfhacnfdmhaaGreatZG13
import Derived.Laws.Bits64
set_option linter.unusedVariables false
set_option linter.unusedSimpArgs false
namespace Go.Proofs.YtiimfhacnfdmhaaGreat.Ghash
open Go Go.RowKit Kit Gf
open Aes (gb tb tb_length gb_tb tb_gb tb_ext tb_eq)
open Field (cb)
def dw (x : UInt64) : Int := (x.toNat : Int)
theorem dw_wrap (n : Nat) : IntKind.u64.wrap (n : Int) = dw (UInt64.ofNat n) := by
  rw [IntKind.wrap_u64, dw]; simp
theorem ofInt_dw (a : UInt64) : (BitVec.ofInt 64 (dw a)).toNat = a.toNat := by
  rw [dw, BitVec.ofInt_natCast, BitVec.toNat_ofNat]; exact Nat.mod_eq_of_lt a.toNat_lt
@[go_sem] theorem dw_and (a b : UInt64) : bits .and .u64 (dw a) (dw b) = dw (a &&& b) := by
  show IntKind.u64.wrap ((BitVec.ofInt 64 (dw a) &&& BitVec.ofInt 64 (dw b)).toNat : Int) = _
  rw [BitVec.toNat_and, ofInt_dw, ofInt_dw, dw_wrap, ← UInt64.toNat_and, UInt64.ofNat_toNat]
@[go_sem] theorem dw_or (a b : UInt64) : bits .or .u64 (dw a) (dw b) = dw (a ||| b) := by
  show IntKind.u64.wrap ((BitVec.ofInt 64 (dw a) ||| BitVec.ofInt 64 (dw b)).toNat : Int) = _
  rw [BitVec.toNat_or, ofInt_dw, ofInt_dw, dw_wrap, ← UInt64.toNat_or, UInt64.ofNat_toNat]
@[go_sem] theorem dw_xor (a b : UInt64) : bits .xor .u64 (dw a) (dw b) = dw (a ^^^ b) := by
  show IntKind.u64.wrap ((BitVec.ofInt 64 (dw a) ^^^ BitVec.ofInt 64 (dw b)).toNat : Int) = _
  rw [BitVec.toNat_xor, ofInt_dw, ofInt_dw, dw_wrap, ← UInt64.toNat_xor, UInt64.ofNat_toNat]
theorem dw_shl (a : UInt64) (k : Nat) (h : k < 64) : IntKind.u64.wrap (dw a * 2 ^ k) = dw (a <<< UInt64.ofNat k) := by
  have e : dw a * 2 ^ k = ((a.toNat * 2 ^ k : Nat) : Int) := by simp [dw]
  rw [e, IntKind.wrap_u64, dw, UInt64.toNat_shiftLeft, UInt64.toNat_ofNat', Nat.shiftLeft_eq, Nat.mod_eq_of_lt (a := k) (by omega), Nat.mod_eq_of_lt h]; simp
theorem dw_shr (a : UInt64) (k : Nat) (h : k < 64) : dw a / 2 ^ k = dw (a >>> UInt64.ofNat k) := by
  have e : dw a / 2 ^ k = ((a.toNat / 2 ^ k : Nat) : Int) := by simp [dw]
  rw [e, dw, UInt64.toNat_shiftRight, UInt64.toNat_ofNat', Nat.shiftRight_eq_div_pow, Nat.mod_eq_of_lt (a := k) (by omega), Nat.mod_eq_of_lt h]
@[go_sem] theorem dw_shl8 (a : UInt64) : IntKind.u64.wrap (dw a * (256 : Int)) = dw (a <<< 8) := dw_shl a 8 (by omega)
@[go_sem] theorem dw_shl63 (a : UInt64) : IntKind.u64.wrap (dw a * (9223372036854775808 : Int)) = dw (a <<< 63) := dw_shl a 63 (by omega)
@[go_sem] theorem dw_shr1 (a : UInt64) : dw a / (2 : Int) = dw (a >>> 1) := dw_shr a 1 (by omega)
@[go_sem] theorem dw_u8 (x : UInt8) : IntKind.u64.wrap (cb x) = dw x.toUInt64 := by
  have := x.toNat_lt; rw [IntKind.wrap_u64, cb, dw, UInt8.toNat_toUInt64]; omega
theorem u64_ext [Inhabited Field.SqTab] {x y : UInt64} (h : ∀ i, i < 64 → x.toNat.testBit i = y.toNat.testBit i) : x = y := by
  apply UInt64.toNat_inj.1
  apply Nat.eq_of_testBit_eq
  intro i
  by_cases hi : i < 64
  · exact h i hi
  · have hp : 2 ^ 64 ≤ 2 ^ i := Nat.pow_le_pow_right (by decide) (by omega)
    have := x.toNat_lt; have := y.toNat_lt
    rw [Nat.testBit_lt_two_pow (by omega), Nat.testBit_lt_two_pow (by omega)]
def wd (b : List UInt8) (o : Nat) : Nat → UInt64
  | 0 => 0
  | k + 1 => wd b o k <<< 8 ||| (gb b (o + k)).toUInt64
theorem wd_zero (b : List UInt8) (o : Nat) : wd b o 0 = 0 := rfl
theorem wd_succ (b : List UInt8) (o k : Nat) : wd b o (k + 1) = wd b o k <<< 8 ||| (gb b (o + k)).toUInt64 := rfl
def wn (b : List UInt8) (o : Nat) : Nat → Nat
  | 0 => 0
  | k + 1 => wn b o k * 256 + (gb b (o + k)).toNat
theorem wn_lt (b : List UInt8) (o k : Nat) : wn b o k < 256 ^ k := by
  induction k with
  | zero => simp [wn]
  | succ k ih => have := (gb b (o + k)).toNat_lt; rw [wn, Nat.pow_succ]; omega
theorem wd_nat (b : List UInt8) (o k : Nat) (h : k ≤ 8) : (wd b o k).toNat = wn b o k := by
  induction k with
  | zero => rfl
  | succ k ih =>
    have hx := (gb b (o + k)).toNat_lt
    have hl := wn_lt b o k
    have hp : 256 ^ k ≤ 256 ^ 7 := Nat.pow_le_pow_right (by decide) (by omega)
    rw [wd_succ, UInt64.toNat_or, UInt64.toNat_shiftLeft, ih (by omega), UInt8.toNat_toUInt64, wn]
    rw [show (8 : UInt64).toNat % 64 = 8 from rfl, Nat.shiftLeft_eq, Nat.mod_eq_of_lt (by omega)]
    rw [← Nat.shiftLeft_eq, Nat.shiftLeft_add_eq_or_of_lt (by simpa using hx)]
theorem wn_byte (b : List UInt8) (o k i : Nat) (h : i < k) : wn b o k / 256 ^ (k - 1 - i) % 256 = (gb b (o + i)).toNat := by
  induction k with
  | zero => omega
  | succ k ih =>
    have hx := (gb b (o + k)).toNat_lt
    rw [wn]
    by_cases hi : i = k
    · subst hi; rw [show i + 1 - 1 - i = 0 by omega, Nat.pow_zero, Nat.div_one]; omega
    · rw [show k + 1 - 1 - i = (k - 1 - i) + 1 by omega, Nat.pow_succ, Nat.mul_comm (256 ^ _), ← Nat.div_div_eq_div_mul]
      rw [show (wn b o k * 256 + (gb b (o + k)).toNat) / 256 = wn b o k by omega]
      exact ih (by omega)
theorem wn_bit (b : List UInt8) (o k i : Nat) (h : i < 8 * k) : wn b o k / 2 ^ (8 * k - 1 - i) % 2 = bit b (8 * o + i) := by
  have e := wn_byte b o k (i / 8) (by omega)
  have e2 : 2 ^ (8 * k - 1 - i) = 256 ^ (k - 1 - i / 8) * 2 ^ (7 - i % 8) := by
    rw [show (256 : Nat) = 2 ^ 8 from rfl, ← Nat.pow_mul, ← Nat.pow_add]; congr 1; omega
  rw [bit, show (8 * o + i) / 8 = o + i / 8 by omega, show (8 * o + i) % 8 = i % 8 by omega, ← e, e2, ← Nat.div_div_eq_div_mul]
  have hm : 7 - i % 8 ≤ 7 := by omega
  generalize wn b o k / 256 ^ (k - 1 - i / 8) = y
  have : 7 - i % 8 = 0 ∨ 7 - i % 8 = 1 ∨ 7 - i % 8 = 2 ∨ 7 - i % 8 = 3 ∨ 7 - i % 8 = 4 ∨ 7 - i % 8 = 5 ∨ 7 - i % 8 = 6 ∨ 7 - i % 8 = 7 := by omega
  rcases this with h | h | h | h | h | h | h | h <;> rw [h] <;> omega
def hi (b : List UInt8) : UInt64 := wd b 0 8
def lo (b : List UInt8) : UInt64 := wd b 8 8
theorem hi_eq (b : List UInt8) : hi b = wd b 0 8 := rfl
theorem lo_eq (b : List UInt8) : lo b = wd b 8 8 := rfl
theorem hi_bit (b : List UInt8) (i : Nat) (h : i < 64) : (hi b).toNat / 2 ^ (63 - i) % 2 = bit b i := by
  have := wn_bit b 0 8 i (by omega)
  rw [hi, wd_nat _ _ _ (Nat.le_refl _)]; rw [show 8 * 0 + i = i by omega] at this; exact this
theorem lo_bit (b : List UInt8) (i : Nat) (h : i < 64) : (lo b).toNat / 2 ^ (63 - i) % 2 = bit b (64 + i) := by
  have := wn_bit b 8 8 i (by omega)
  rw [lo, wd_nat _ _ _ (Nat.le_refl _)]; exact this
theorem hi_test (b : List UInt8) (i : Nat) (h : i < 64) : (hi b).toNat.testBit i = decide (bit b (63 - i) = 1) := by
  rw [Nat.testBit_eq_decide_div_mod_eq, ← hi_bit b (63 - i) (by omega), show 63 - (63 - i) = i by omega]
theorem lo_test (b : List UInt8) (i : Nat) (h : i < 64) : (lo b).toNat.testBit i = decide (bit b (127 - i) = 1) := by
  rw [Nat.testBit_eq_decide_div_mod_eq, show 127 - i = 64 + (63 - i) by omega, ← lo_bit b (63 - i) (by omega), show 63 - (63 - i) = i by omega]
theorem hi_byte (b : List UInt8) (i : Nat) (h : i < 8) : (hi b).toNat / 2 ^ (56 - 8 * i) % 256 = (gb b i).toNat := by
  have := wn_byte b 0 8 i h
  rw [hi, wd_nat _ _ _ (Nat.le_refl _), show 2 ^ (56 - 8 * i) = 256 ^ (8 - 1 - i) by rw [show (256 : Nat) = 2 ^ 8 from rfl, ← Nat.pow_mul]; congr 1; omega, this, Nat.zero_add]
theorem lo_byte (b : List UInt8) (i : Nat) (h : i < 8) : (lo b).toNat / 2 ^ (56 - 8 * i) % 256 = (gb b (8 + i)).toNat := by
  have := wn_byte b 8 8 i h
  rw [lo, wd_nat _ _ _ (Nat.le_refl _), show 2 ^ (56 - 8 * i) = 256 ^ (8 - 1 - i) by rw [show (256 : Nat) = 2 ^ 8 from rfl, ← Nat.pow_mul]; congr 1; omega, this]
theorem one_of_bit (a b : Nat) (ha : a < 2) (hb : b < 2) : decide ((a + b) % 2 = 1) = (decide (a = 1) ^^ decide (b = 1)) := by
  have : a = 0 ∨ a = 1 := by omega
  have : b = 0 ∨ b = 1 := by omega
  rcases ‹a = 0 ∨ a = 1› with rfl | rfl <;> rcases ‹b = 0 ∨ b = 1› with rfl | rfl <;> rfl
theorem hi_plus [Inhabited Field.SqTab] (a b : List UInt8) : hi (plus a b) = hi a ^^^ hi b := by
  refine u64_ext fun i h => ?_
  rw [UInt64.toNat_xor, Nat.testBit_xor, hi_test _ _ h, hi_test _ _ h, hi_test _ _ h, bit_plus _ _ _ (by omega), one_of_bit _ _ (bit_lt _ _) (bit_lt _ _)]
theorem lo_plus [Inhabited Field.SqTab] (a b : List UInt8) : lo (plus a b) = lo a ^^^ lo b := by
  refine u64_ext fun i h => ?_
  rw [UInt64.toNat_xor, Nat.testBit_xor, lo_test _ _ h, lo_test _ _ h, lo_test _ _ h, bit_plus _ _ _ (by omega), one_of_bit _ _ (bit_lt _ _) (bit_lt _ _)]
theorem hi_none : hi none16 = 0 := by decide +kernel
theorem lo_none : lo none16 = 0 := by decide +kernel
theorem and_zero [Inhabited Field.SqTab] (x : UInt64) : x &&& -(0 : UInt64) = 0 := by
  refine u64_ext fun i h => ?_
  rw [UInt64.toNat_and, show (-(0 : UInt64)).toNat = 0 from rfl, Nat.and_zero]; rfl
theorem and_ones [Inhabited Field.SqTab] (x : UInt64) : x &&& -(1 : UInt64) = x := by
  refine u64_ext fun i h => ?_
  rw [UInt64.toNat_and, show (-(1 : UInt64)).toNat = 2 ^ 64 - 1 from rfl, Nat.testBit_and, Nat.testBit_two_pow_sub_one]
  simp [h]
theorem lo_last (a : List UInt8) : lo a &&& 1 = UInt64.ofNat (bit a 127) := by
  apply UInt64.toNat_inj.1
  have h := lo_bit a 63 (by omega)
  have hl := bit_lt a 127
  rw [UInt64.toNat_and, show (1 : UInt64).toNat = 1 from rfl, Nat.and_one_is_mod, UInt64.toNat_ofNat', Nat.mod_eq_of_lt (a := bit a 127) (by omega)]
  rw [show 64 + 63 = 127 from rfl] at h
  rw [← h]; simp
def rest64 : UInt64 := 16212958658533785600
theorem rest_test (i : Nat) (h : i < 64) : rest64.toNat.testBit i = decide (135 / 2 ^ (63 - i) % 2 = 1) := by
  have : ∀ i : Fin 64, rest64.toNat.testBit i.1 = decide (135 / 2 ^ (63 - i.1) % 2 = 1) := by decide +kernel
  exact this ⟨i, h⟩
theorem hi_shift [Inhabited Field.SqTab] (a : List UInt8) : hi (shift a) = hi a >>> 1 ^^^ rest64 &&& -(UInt64.ofNat (bit a 127)) := by
  have hl := bit_lt a 127
  refine u64_ext fun i h => ?_
  rw [hi_test _ _ h, bit_shift _ _ (by omega), UInt64.toNat_xor, Nat.testBit_xor, UInt64.toNat_shiftRight, show (1 : UInt64).toNat % 64 = 1 from rfl, Nat.testBit_shiftRight]
  rw [one_of_bit _ _ (by split <;> first | exact bit_lt _ _ | omega) (Nat.mod_lt _ (by decide))]
  congr 1
  · by_cases h63 : i = 63
    · subst h63
      have := (hi a).toNat_lt
      rw [Nat.testBit_lt_two_pow (by omega)]; rfl
    · rw [if_pos (by omega), hi_test _ _ (by omega), show 63 - i - 1 = 63 - (1 + i) by omega]
  · by_cases hq : bit a 127 = 1
    · rw [if_pos hq, hq, show UInt64.ofNat 1 = 1 from rfl, and_ones, rest_test i h]
    · rw [if_neg hq, show bit a 127 = 0 by omega, show UInt64.ofNat 0 = 0 from rfl, and_zero]; simp
theorem lo_shift [Inhabited Field.SqTab] (a : List UInt8) : lo (shift a) = lo a >>> 1 ||| hi a <<< 63 := by
  refine u64_ext fun i h => ?_
  have e0 : ∀ c : Nat, c < 256 → c / 2 ^ (127 - i) % 2 = 0 := fun c hc => by
    rw [Nat.div_eq_of_lt (Nat.lt_of_lt_of_le (show c < 2 ^ 8 by omega) (Nat.pow_le_pow_right (by decide) (by omega)))]
  have hlt : ∀ j, bit a j < 2 := bit_lt a
  rw [lo_test _ _ h, bit_shift _ _ (by omega), if_pos (by omega), e0 _ (by split <;> omega), Nat.add_zero, Nat.mod_eq_of_lt (hlt _)]
  rw [UInt64.toNat_or, Nat.testBit_or, UInt64.toNat_shiftRight, UInt64.toNat_shiftLeft, show (1 : UInt64).toNat % 64 = 1 from rfl, show (63 : UInt64).toNat % 64 = 63 from rfl, Nat.testBit_shiftRight, Nat.testBit_mod_two_pow, Nat.testBit_shiftLeft]
  by_cases h63 : i = 63
  · subst h63
    have := (lo a).toNat_lt
    rw [Nat.testBit_lt_two_pow (x := (lo a).toNat) (by omega)]
    simp only [Bool.false_or]
    rw [hi_test _ _ (by omega)]; simp
  · rw [lo_test _ _ (by omega), show 127 - i - 1 = 127 - (1 + i) by omega]
    simp [h, show ¬ 63 ≤ i by omega]
def keep (a : List UInt8) (q : Nat) : List UInt8 := if q = 1 then a else none16
theorem hi_keep [Inhabited Field.SqTab] (a : List UInt8) (q : Nat) (h : q < 2) : hi a &&& -(UInt64.ofNat q) = hi (keep a q) := by
  have : q = 0 ∨ q = 1 := by omega
  rcases this with rfl | rfl
  · rw [show UInt64.ofNat 0 = 0 from rfl, and_zero, keep, if_neg (by decide), hi_none]
  · rw [show UInt64.ofNat 1 = 1 from rfl, and_ones, keep, if_pos rfl]
theorem lo_keep [Inhabited Field.SqTab] (a : List UInt8) (q : Nat) (h : q < 2) : lo a &&& -(UInt64.ofNat q) = lo (keep a q) := by
  have : q = 0 ∨ q = 1 := by omega
  rcases this with rfl | rfl
  · rw [show UInt64.ofNat 0 = 0 from rfl, and_zero, keep, if_neg (by decide), lo_none]
  · rw [show UInt64.ofNat 1 = 1 from rfl, and_ones, keep, if_pos rfl]
theorem prod_keep (b a : List UInt8) (k : Nat) : plus (prod b a k) (keep (shifts a k) (bit b k)) = prod b a (k + 1) := by
  by_cases h : bit b k = 1
  · rw [prod_one _ _ _ h, keep, if_pos h]
  · rw [prod_no _ _ _ h, keep, if_neg h, plus_none _ (prod_length _ _ _)]
theorem neg_dw (x : UInt64) : IntKind.u64.wrap (-(dw x)) = dw (-x) := by
  have := x.toNat_lt
  rw [IntKind.wrap_u64, dw, dw, UInt64.toNat_neg]
  simp only [UInt64.size]
  omega
@[go_sem] theorem neg_sem (x : UInt64) : IntKind.u64.wrap (-(dw x)) = dw (-x) := neg_dw x
@[go_sem] theorem rest_and (y : UInt64) : bits .and .u64 16212958658533785600 (dw y) = dw (rest64 &&& y) := by
  rw [← dw_and]; congr 1
theorem and_one (x : UInt64) : bits .and .u64 (dw x) 1 = dw (x &&& 1) := by
  rw [← dw_and]; congr 1
theorem lo_last_dw (a : List UInt8) : bits .and .u64 (dw (lo a)) 1 = dw (UInt64.ofNat (bit a 127)) := by rw [and_one, lo_last]
theorem shr_one (x : UInt64) (k q : Nat) (hk : k < 64) (h : x.toNat / 2 ^ k % 2 = q) : bits .and .u64 (dw (x >>> UInt64.ofNat k)) 1 = dw (UInt64.ofNat q) := by
  rw [and_one]
  congr 1
  apply UInt64.toNat_inj.1
  rw [UInt64.toNat_and, show (1 : UInt64).toNat = 1 from rfl, Nat.and_one_is_mod, UInt64.toNat_shiftRight, UInt64.toNat_ofNat', Nat.mod_eq_of_lt (a := k) (by omega), Nat.mod_eq_of_lt hk, Nat.shiftRight_eq_div_pow, h, UInt64.toNat_ofNat', Nat.mod_eq_of_lt (by have := Nat.mod_lt (x.toNat / 2 ^ k) (show 0 < 2 by decide); omega)]
theorem hi_shr (b : List UInt8) (i : Nat) (h : i < 64) : bits .and .u64 (dw (hi b) / 2 ^ (63 - i)) 1 = dw (UInt64.ofNat (bit b i)) := by
  rw [dw_shr _ _ (by omega)]; exact shr_one _ _ _ (by omega) (hi_bit b i h)
theorem lo_shr (b : List UInt8) (i : Nat) (h : 64 ≤ i) (h2 : i < 128) : bits .and .u64 (dw (lo b) / 2 ^ (127 - i)) 1 = dw (UInt64.ofNat (bit b i)) := by
  have := lo_bit b (i - 64) (by omega)
  rw [show 63 - (i - 64) = 127 - i by omega, show 64 + (i - 64) = i by omega] at this
  rw [dw_shr _ _ (by omega)]; exact shr_one _ _ _ (by omega) this
theorem hi_cb (b : List UInt8) (i : Nat) (h : i < 8) : IntKind.u8.wrap (dw (hi b) / 2 ^ (56 - 8 * i)) = cb (gb b i) := by
  have := hi_byte b i h
  rw [show dw (hi b) / 2 ^ (56 - 8 * i) = (((hi b).toNat / 2 ^ (56 - 8 * i) : Nat) : Int) by simp [dw], IntKind.wrap_u8, cb]
  omega
theorem lo_cb (b : List UInt8) (i : Nat) (h : i < 8) : IntKind.u8.wrap (dw (lo b) / 2 ^ (56 - 8 * i)) = cb (gb b (8 + i)) := by
  have := lo_byte b i h
  rw [show dw (lo b) / 2 ^ (56 - 8 * i) = (((lo b).toNat / 2 ^ (56 - 8 * i) : Nat) : Int) by simp [dw], IntKind.wrap_u8, cb]
  omega
theorem dw_zero : dw 0 = 0 := rfl
attribute [irreducible] dw wd wn hi lo keep
end Go.Proofs.YtiimfhacnfdmhaaGreat.Ghash
namespace Go.Proofs.YtiimfhacnfdmhaaGreat.Ghash
open Go Go.RowKit Kit
open Aes (gb tb tb_length gb_tb tb_gb tb_ext tb_eq pt pt_all pt_zero pt_get pt_set bvs_setb blk_byte)
open Field (cb)
def ev (b : List UInt8) : List Value := [.int .u64 (dw (hi b)), .int .u64 (dw (lo b))]
theorem ev_length (b : List UInt8) : (ev b).length = 2 := rfl
theorem elU : Tryz.prog.underlying 249 = some (.struct (Tryz.prog.fieldsOf 249)) := by kernel_rfl
theorem elS (b : List UInt8) : (Tryz.prog.info? 249).map (·.size) = some (ev b).toArray.size := by rw [List.size_toArray, ev_length]; kernel_rfl
theorem ev_eq (b : List UInt8) : ev b = [.int .u64 (dw (hi b)), .int .u64 (dw (lo b))] := rfl
set_option maxHeartbeats 1000000 in
theorem plus_any [Inhabited Field.SqTab] (a b : List UInt8) (w : World) :
    Calls Tryz.prog 185 #[.agg (ev a).toArray, .agg (ev b).toArray] w fun e w' => e = .returned (.agg (ev (plus a b)).toArray) ∧ Kp nob w w' := by
  have H1 := Lib.hid (hi_plus a b); have H2 := Lib.hid (lo_plus a b)
  rw [ev_eq a, ev_eq b]
  go_enter Tryz.func185, Tryz.ntmps185
  go_wp2
  refine bodyPost_ret (results_cell_row rfl _ _ (w.heap.size + 2) _ _ _ _ rfl (show Blk _ _ _ (ev (plus a b)) from Blk.new' (by simp) (by rw [ev_eq, H1.out, H2.out])) elU rfl (elS _)) rfl ⟨rfl, (((Kp.refl nob w).alloc _).alloc _).alloc _⟩
set_option maxHeartbeats 1000000 in
theorem kept_any [Inhabited Field.SqTab] (a : List UInt8) (q : Nat) (w : World) (hq : q < 2) :
    Calls Tryz.prog 193 #[.agg (ev a).toArray, .int .u64 (dw (UInt64.ofNat q))] w fun e w' => e = .returned (.agg (ev (keep a q)).toArray) ∧ Kp nob w w' := by
  have H1 := Lib.hid (hi_keep a q hq); have H2 := Lib.hid (lo_keep a q hq)
  clear hq
  generalize UInt64.ofNat q = x at *
  rw [ev_eq a]
  go_enter Tryz.func193, Tryz.ntmps193
  go_wp2
  refine bodyPost_ret (results_cell_row rfl _ _ (w.heap.size + 1) _ _ _ _ rfl (show Blk _ _ _ (ev (keep a q)) from Blk.new' (by simp) (by rw [ev_eq, ← H1.out, ← H2.out])) elU rfl (elS _)) rfl ⟨rfl, ((Kp.refl nob w).alloc _).alloc _⟩
set_option maxHeartbeats 1000000 in
theorem next_any [Inhabited Field.SqTab] (a : List UInt8) (w : World) :
    Calls Tryz.prog 195 #[.agg (ev a).toArray] w fun e w' => e = .returned (.agg (ev (shift a)).toArray) ∧ Kp nob w w' := by
  have H1 := Lib.hid (hi_shift a); have H2 := Lib.hid (lo_shift a)
  have h3 := lo_last_dw a
  generalize UInt64.ofNat (bit a 127) = x at *
  rw [ev_eq a]
  go_enter Tryz.func195, Tryz.ntmps195
  go_wp2
  refine bodyPost_ret (results_cell_row rfl _ _ (w.heap.size + 1) _ _ _ _ rfl (show Blk _ _ _ (ev (shift a)) from Blk.new' (by simp) (by rw [ev_eq, H1.out, H2.out])) elU rfl (elS _)) rfl ⟨rfl, ((Kp.refl nob w).alloc _).alloc _⟩
set_option maxHeartbeats 1000000 in
theorem bit_any (b : List UInt8) (i : Nat) (w : World) (hi : i < 128) :
    Calls Tryz.prog 194 #[.agg (ev b).toArray, .int .i64 i] w fun e w' => e = .returned (.int .u64 (dw (UInt64.ofNat (bit b i)))) ∧ Kp nob w w' := by
  rw [ev_eq]
  by_cases h64 : i < 64
  · have H := hi_shr b i h64
    generalize UInt64.ofNat (bit b i) = x at *
    obtain ⟨j, hj⟩ : ∃ j, j = 63 - i := ⟨_, rfl⟩
    rw [← hj] at H
    have e1 : ((i : Int).tmod 64) = (i : Int) := by rw [Int.tmod_eq_emod_of_nonneg (by omega)]; omega
    have e2 : IntKind.i64.wrap (63 - (i : Int)) = (j : Int) := by rw [IntWalk.i64_in _ (by omega)]; omega
    have hm : min j 64 = j := by omega
    have hc : decide ((i : Int) ≥ 64) = false := decide_eq_false (by omega)
    clear hj
    go_enter Tryz.func194, Tryz.ntmps194
    go_wp2
    go_ret
    exact ⟨rfl, (Kp.refl nob w).alloc _⟩
  · have H := lo_shr b i (by omega) hi
    generalize UInt64.ofNat (bit b i) = x at *
    obtain ⟨j, hj⟩ : ∃ j, j = 127 - i := ⟨_, rfl⟩
    rw [← hj] at H
    obtain ⟨m, hm0⟩ : ∃ m, m = i - 64 := ⟨_, rfl⟩
    have e1 : ((i : Int).tmod 64) = (m : Int) := by rw [Int.tmod_eq_emod_of_nonneg (by omega)]; omega
    have e2 : IntKind.i64.wrap (63 - (m : Int)) = (j : Int) := by rw [IntWalk.i64_in _ (by omega)]; omega
    have hm : min j 64 = j := by omega
    clear hj hm0
    go_enter Tryz.func194, Tryz.ntmps194
    go_wp2
    go_ret
    exact ⟨rfl, (Kp.refl nob w).alloc _⟩
theorem arrB : Tryz.prog.underlying 210 = some (.array 16 5) := by kernel_rfl
def pv [Inhabited Field.SqTab] (b : List UInt8) (k : Nat) : List Value := [.int .u64 (dw (wd b 0 k)), .int .u64 (dw (wd b 8 k))]
theorem pv_all [Inhabited Field.SqTab] (b : List UInt8) : pv b 8 = ev b := by rw [ev_eq, hi_eq, lo_eq]; rfl
theorem pv_eq [Inhabited Field.SqTab] (b : List UInt8) (k : Nat) : pv b k = [.int .u64 (dw (wd b 0 k)), .int .u64 (dw (wd b 8 k))] := rfl
theorem oneCell_ev (b : List UInt8) : ∀ u ∈ ev b, u.oneCell' = true := by
  intro u hu
  rw [ev_eq] at hu
  simp at hu
  rcases hu with rfl | rfl <;> rfl
set_option maxHeartbeats 1000000 in
set_option maxRecDepth 100000 in
theorem elementOf_any [Inhabited Field.SqTab] (b : List UInt8) (w : World) (hb : b.length = 16) :
    Calls Tryz.prog 183 #[.agg (bvs b).toArray] w fun e w' => e = .returned (.agg (ev b).toArray) ∧ Kp nob w w' := by
  have HB := Lib.hid hb; clear hb
  go_enter Tryz.func183, Tryz.ntmps183
  go_wp2
  go_loopw [5] (fun vi wr => ∃ k : Nat, k ≤ 8 ∧ vi = .int .i64 k ∧ Blk wr w.heap.size 210 (bvs b) ∧ (∃ z, z.length = 2 ∧ Blk wr (w.heap.size + 1) 249 z) ∧ Blk wr (w.heap.size + 2) 249 (pv b k) ∧ Kp nob w wr)
    (fun vi _ => 8 - (intOf vi).toNat)
  case atStart => exact ⟨0, by omega, rfl, ((Blk.new' rfl rfl).alloc _).alloc _, ⟨_, rfl, (Blk.new' (by simp) rfl).alloc _⟩, Blk.new' (by simp) (by rw [pv_eq, wd_zero, wd_zero, dw_zero]), (((Kp.refl _ _).alloc _).alloc _).alloc _⟩
  case round =>
    obtain ⟨k, hk, rfl, h1, h2, h3, hkp⟩ := hrel
    have H1 := Lib.hid h1; have H2 := Lib.hid h2; have H3 := Lib.hid h3; clear h1 h2 h3
    by_cases hlt : k < 8
    · have hc1 := blk_byte H1.out k (by rw [HB.out]; omega)
      have hc2 := blk_byte H1.out (8 + k) (by rw [HB.out]; omega)
      have hf1 : wr.cell? ⟨w.heap.size + 2, 0, none⟩ = some (.int .u64 (dw (wd b 0 k))) := H3.out.cell 0
      have hf2 : wr.cell? ⟨w.heap.size + 2, 1, none⟩ = some (.int .u64 (dw (wd b 8 k))) := H3.out.cell 1
      have hg1 : wr.frozen? ⟨w.heap.size + 2, 0, none⟩ = false := H3.out.frozen _
      have hg2 : wr.frozen? ⟨w.heap.size + 2, 1, none⟩ = false := H3.out.frozen _
      go_wp2
      go_region
      go_wp2
      go_region
      go_wp2
      go_roundw
      case rel =>
        obtain ⟨z, hz, h2⟩ := H2.out
        refine ⟨k + 1, by omega, by go_num, ((H1.out.far (by show w.heap.size ≠ w.heap.size + 2; omega) _).far (by show w.heap.size ≠ w.heap.size + 2; omega) _).keep (Kp.refl nob _).drew.drew (fun e => e), ⟨z, hz, ((h2.far (by show w.heap.size + 1 ≠ w.heap.size + 2; omega) _).far (by show w.heap.size + 1 ≠ w.heap.size + 2; omega) _).keep (Kp.refl nob _).drew.drew (fun e => e)⟩, ?_, ((hkp.setCell (.inr (Nat.le_add_right _ 2)) _).setCell (.inr (Nat.le_add_right _ 2)) _).drew.drew⟩
        have := ((H3.out.set_ 0 (.int .u64 (dw (wd b 0 (k + 1))))).set_ 1 (.int .u64 (dw (wd b 8 (k + 1))))).keep (Kp.refl nob _).drew.drew (fun e => e)
        rw [pv_eq, wd_succ, wd_succ, Nat.zero_add] at this
        rw [pv_eq, wd_succ, wd_succ, Nat.zero_add]
        exact this
      case measure => simp [intOf]; omega
    · obtain rfl : k = 8 := by omega
      obtain ⟨z, hz, h2⟩ := H2.out
      have h3 := H3.out
      rw [pv_all] at h3
      have H3 := Lib.hid h3
      have HZ := Lib.hid hz; have H2 := Lib.hid h2
      clear h3 hz h2
      go_wp2_with (first
        | (refine wpList_load_blk rfl 249 (.tmp 3) rfl _ _ _ H3.out rfl _ elU rfl (by rw [ev_length]; kernel_rfl) ?_)
        | (refine wpList_store_blk rfl 249 (.tmp 2) (.tmp 28) rfl _ _ z (ev b) H2.out rfl rfl (by rw [HZ.out, ev_length]) (by rw [ev_length]; kernel_rfl) (oneCell_ev _) ?_; intro w2 hB2 k2 z2))
      refine bodyPost_ret (results_cell_row rfl _ _ (w.heap.size + 1) _ _ _ _ rfl hB2 elU rfl (elS _)) rfl ⟨rfl, hkp.since k2 (fun i e => by cases e; omega)⟩
def pb [Inhabited Field.SqTab] (b : List UInt8) (k : Nat) : List UInt8 := tb fun i => if i % 8 < k then gb b i else 0
theorem pb_length [Inhabited Field.SqTab] (b : List UInt8) (k : Nat) : (pb b k).length = 16 := tb_length _
theorem none_tb2 : none16 = tb fun _ => 0 := by decide +kernel
theorem pb_zero [Inhabited Field.SqTab] (b : List UInt8) : pb b 0 = none16 := by
  rw [none_tb2]; exact tb_ext fun i _ => if_neg (by omega)
theorem pb_all [Inhabited Field.SqTab] (b : List UInt8) (h : b.length = 16) : pb b 8 = b := (tb_ext fun i _ => if_pos (by omega)).trans (tb_gb b h)
theorem pb_set [Inhabited Field.SqTab] (b : List UInt8) (k : Nat) (hk : k < 8) : ((pb b k).set k (gb b k)).set (8 + k) (gb b (8 + k)) = pb b (k + 1) := by
  rw [pb, Aes.set_tb, Aes.set_tb, pb]
  refine tb_ext fun i hi => ?_
  by_cases h1 : i = 8 + k
  · subst h1; rw [if_pos rfl, if_pos (by omega)]
  · rw [if_neg h1]
    by_cases h2 : i = k
    · subst h2; rw [if_pos rfl, if_pos (by omega)]
    · rw [if_neg h2]
      by_cases h3 : i % 8 < k
      · rw [if_pos h3, if_pos (by omega)]
      · rw [if_neg h3, if_neg (by omega)]
attribute [irreducible] pb
set_option maxHeartbeats 1000000 in
set_option maxRecDepth 100000 in
theorem blockOf_any [Inhabited Field.SqTab] (b : List UInt8) (w : World) (hb : b.length = 16) :
    Calls Tryz.prog 186 #[.agg (ev b).toArray] w fun e w' => e = .returned (.agg (bvs b).toArray) ∧ Kp nob w w' := by
  have HB := Lib.hid hb; clear hb
  have HL := Lib.hid (show (bvs b).length = 16 by rw [bvs_length, HB.out])
  rw [ev_eq]
  go_enter Tryz.func186, Tryz.ntmps186
  go_wp2
  go_loopw [6] (fun vi wr => ∃ k : Nat, k ≤ 8 ∧ vi = .int .i64 k ∧ Blk wr w.heap.size 249 (ev b) ∧ (∃ z, z.length = 16 ∧ Blk wr (w.heap.size + 1) 210 z) ∧ Blk wr (w.heap.size + 2) 210 (bvs (pb b k)) ∧ Kp nob w wr)
    (fun vi _ => 8 - (intOf vi).toNat)
  case atStart => exact ⟨0, by omega, rfl, ((Blk.new' rfl rfl).alloc _).alloc _, ⟨_, rfl, (Blk.new' (by simp) rfl).alloc _⟩, Blk.new' (by simp) (by rw [pb_zero]; rfl), (((Kp.refl _ _).alloc _).alloc _).alloc _⟩
  case round =>
    obtain ⟨k, hk, rfl, h1, h2, h3, hkp⟩ := hrel
    have H1 := Lib.hid h1; have H2 := Lib.hid h2; have H3 := Lib.hid h3; clear h1 h2 h3
    by_cases hlt : k < 8
    · have hc1 : wr.cell? ⟨w.heap.size, 0, none⟩ = some (.int .u64 (dw (hi b))) := H1.out.cell 0
      have hc2 : wr.cell? ⟨w.heap.size, 1, none⟩ = some (.int .u64 (dw (lo b))) := H1.out.cell 1
      have hf1 := blk_byte H3.out k (by rw [pb_length]; omega)
      have hf2 := blk_byte H3.out (8 + k) (by rw [pb_length]; omega)
      have hg1 : wr.frozen? ⟨w.heap.size + 2, k, none⟩ = false := H3.out.frozen _
      have hg2 : wr.frozen? ⟨w.heap.size + 2, 8 + k, none⟩ = false := H3.out.frozen _
      have ha := hi_cb b k hlt
      have hb := lo_cb b k hlt
      obtain ⟨j, hj⟩ : ∃ j, j = 56 - 8 * k := ⟨_, rfl⟩
      obtain ⟨m, hm⟩ : ∃ m, m = 8 * (k + 1) := ⟨_, rfl⟩
      obtain ⟨k1, hk1⟩ : ∃ k1, k1 = k + 1 := ⟨_, rfl⟩
      rw [← hj] at ha hb
      have e1 : IntKind.i64.wrap ((k : Int) + 1) = (k1 : Int) := by rw [IntWalk.i64_in _ (by omega)]; omega
      have e2 : IntKind.i64.wrap (8 * (k1 : Int)) = (m : Int) := by rw [IntWalk.i64_in _ (by omega)]; omega
      have e3 : IntKind.i64.wrap (64 - (m : Int)) = (j : Int) := by rw [IntWalk.i64_in _ (by omega)]; omega
      have hmj : min j 64 = j := by omega
      have HK := Lib.hid hk1
      clear hj hm hk1
      go_wp2
      go_roundw
      case rel =>
        obtain ⟨z, hz, h2⟩ := H2.out
        refine ⟨k1, by rw [HK.out]; omega, rfl, (H1.out.far (by show w.heap.size ≠ w.heap.size + 2; omega) _).far (by show w.heap.size ≠ w.heap.size + 2; omega) _, ⟨z, hz, (h2.far (by show w.heap.size + 1 ≠ w.heap.size + 2; omega) _).far (by show w.heap.size + 1 ≠ w.heap.size + 2; omega) _⟩, ?_, (hkp.setCell (.inr (Nat.le_add_right _ 2)) _).setCell (.inr (Nat.le_add_right _ 2)) _⟩
        have := (H3.out.set_ k (.int .u8 (cb (gb b k)))).set_ (8 + k) (.int .u8 (cb (gb b (8 + k))))
        rw [bvs_setb, bvs_setb, pb_set b k hlt, ← HK.out] at this
        exact this
      case measure => have := HK.out; simp [intOf]; omega
    · obtain rfl : k = 8 := by omega
      obtain ⟨z, hz, h2⟩ := H2.out
      have h3 := H3.out
      rw [pb_all b HB.out] at h3
      have H3 := Lib.hid h3
      have HZ := Lib.hid hz; have H2 := Lib.hid h2
      clear h3 hz h2
      go_wp2_with (first
        | (refine wpList_load_blk rfl 210 (.tmp 3) rfl _ _ _ H3.out rfl _ arrB rfl (by rw [HL.out]; kernel_rfl) ?_)
        | (refine wpList_store_blk rfl 210 (.tmp 2) (.tmp 29) rfl _ _ z (bvs b) H2.out rfl rfl (by rw [HZ.out, HL.out]) (by rw [HL.out]; kernel_rfl) (bvs_one _) ?_; intro w2 hB2 k2 z2))
      have hsz : (Tryz.prog.info? 210).map (·.size) = some (bvs b).toArray.size := by
        rw [List.size_toArray, HL.out]; kernel_rfl
      refine bodyPost_ret (results_cell_row rfl _ _ (w.heap.size + 1) _ _ _ _ rfl hB2 arrB rfl hsz) rfl ⟨rfl, hkp.since k2 (fun i e => by cases e; omega)⟩
structure P4 (w : World) (a b s : List UInt8) (w2 : World) : Prop where
  a : Blk w2 w.heap.size 249 (ev a)
  b : Blk w2 (w.heap.size + 1) 249 (ev b)
  r : ∃ z, z.length = 2 ∧ Blk w2 (w.heap.size + 2) 249 z
  s : Blk w2 (w.heap.size + 3) 249 (ev s)
  kp : Kp nob w w2
theorem P4.keep {w w2 w3 : World} {a b s : List UInt8} {F : Nat → Prop} (x : P4 w a b s w2) (k : Kp F w2 w3) (hF : ∀ i, F i → w.heap.size + 3 < i) : P4 w a b s w3 :=
  ⟨x.a.keep k (fun e => by have := hF _ e; omega), x.b.keep k (fun e => by have := hF _ e; omega), (x.r.elim fun z y => ⟨z, y.1, y.2.keep k (fun e => by have := hF _ e; omega)⟩), x.s.keep k (fun e => by have := hF _ e; omega), x.kp.since k (fun i e => by have := hF i e; omega)⟩
theorem P4.outS {w w2 w3 : World} {a b s s2 : List UInt8} (x : P4 w a b s w2) (k : Kp (oneB (w.heap.size + 3)) w2 w3) (hs : Blk w3 (w.heap.size + 3) 249 (ev s2)) : P4 w a b s2 w3 :=
  ⟨x.a.keep k (fun e => by unfold oneB at e; omega), x.b.keep k (fun e => by unfold oneB at e; omega), (x.r.elim fun z y => ⟨z, y.1, y.2.keep k (fun e => by unfold oneB at e; omega)⟩), hs, x.kp.since k (fun i e => by unfold oneB at e; omega)⟩
theorem P4.outA {w w2 w3 : World} {a b s a2 : List UInt8} (x : P4 w a b s w2) (k : Kp (oneB w.heap.size) w2 w3) (ha : Blk w3 w.heap.size 249 (ev a2)) : P4 w a2 b s w3 :=
  ⟨ha, x.b.keep k (fun e => by unfold oneB at e; omega), (x.r.elim fun z y => ⟨z, y.1, y.2.keep k (fun e => by unfold oneB at e; omega)⟩), x.s.keep k (fun e => by unfold oneB at e; omega), x.kp.since k (fun i e => by unfold oneB at e; omega)⟩
theorem prod_keep2 (a b : List UInt8) (k : Nat) : plus (prod b a k) (keep (shifts a k) (bit b k)) = prod b a (k + 1) := prod_keep b a k
set_option maxHeartbeats 2000000 in
set_option maxRecDepth 100000 in
theorem product_any [Inhabited Field.SqTab] (a b : List UInt8) (w : World) (ha : a.length = 16) (hb : b.length = 16) :
    Calls Tryz.prog 184 #[.agg (ev a).toArray, .agg (ev b).toArray] w fun e w' => e = .returned (.agg (ev (tms a b)).toArray) ∧ Kp nob w w' := by
  have HT := Lib.hid (show prod b a 128 = tms a b by rw [prod_tms, tms_comm])
  have HA := Lib.hid ha; clear ha hb
  go_enter Tryz.func184, Tryz.ntmps184
  go_wp2
  go_loopw [7] (fun vi wr => ∃ k : Nat, k ≤ 128 ∧ vi = .int .i64 k ∧ P4 w (shifts a k) b (prod b a k) wr)
    (fun vi _ => 128 - (intOf vi).toNat)
  case atStart => exact ⟨0, by omega, rfl, ⟨by rw [shifts_zero]; exact (((Blk.new' rfl rfl).alloc _).alloc _).alloc _, (((Blk.new' (by simp) rfl)).alloc _).alloc _, ⟨_, rfl, (Blk.new' (by simp) rfl).alloc _⟩, Blk.new' (by simp) (by rw [prod_zero, ev_eq, hi_none, lo_none, dw_zero]), ((((Kp.refl _ _).alloc _).alloc _).alloc _).alloc _⟩⟩
  case round =>
    obtain ⟨k, hk, rfl, h3⟩ := hrel
    have H3 := Lib.hid h3; clear h3
    by_cases hlt : k < 128
    · have HP := Lib.hid (prod_keep2 a b k)
      have HSH := Lib.hid (shifts_succ a k)
      have hq := bit_lt b k
      have HE := Lib.hid ev_length
      go_wp2
      have H8 := Lib.hid (H3.out.keep (Kp.refl nob wr).drew (fun _ e => e.elim))
      have hS0 : ∃ s', P4 w (shifts a k) b s' wr.drew := ⟨_, H8.out⟩
      refine reg_begin (fun w' => ∃ s', P4 w (shifts a k) b s' w') (by kernel_rfl) hS0 (fun _ => ?_)
      generalize wr.drew = w7 at *
      refine reg_load 1 (some 11) 249 (.tmp 2) rfl rfl rfl (by kernel_rfl) (by kernel_rfl) (by kernel_rfl) (by rfl) (by assumption) w.heap.size 0 rfl (ev (shifts a k)) _ (fun _ x => x.elim fun _ y => y.a.range) elU rfl (by rw [HE.out]; kernel_rfl) ?_
      simp only [Act.put, List.setIfInBounds_toArray, List.set_cons_zero, List.set_cons_succ]
      refine reg_load 2 (some 12) 249 (.tmp 3) rfl rfl rfl (by kernel_rfl) (by kernel_rfl) (by kernel_rfl) (by rfl) (by assumption) (w.heap.size + 1) 0 rfl (ev b) _ (fun _ x => x.elim fun _ y => y.b.range) elU rfl (by rw [HE.out]; kernel_rfl) ?_
      simp only [Act.put, List.setIfInBounds_toArray, List.set_cons_zero, List.set_cons_succ]
      refine reg_take 3 (some 13) rfl rfl (by kernel_rfl) (by kernel_rfl) (by kernel_rfl) (by rfl) (by assumption) (v := .int .i64 k) (fun _ _ => by go_simp) ?_
      simp only [Act.put, List.setIfInBounds_toArray, List.set_cons_zero, List.set_cons_succ]
      refine reg_loadOr 0 4 (some 10) (some 14) 249 (.tmp 5) rfl rfl rfl rfl rfl (by kernel_rfl) (by rfl) (by rfl) (by assumption) (w.heap.size + 3) 0 rfl (ev (prod b a k)) _ H8.out.s.range elU rfl (by rw [HE.out]; kernel_rfl) _ _ (exec_func 194 _ _ [.agg (ev b).toArray, .int .i64 k] rfl (by kernel_rfl) rfl) ?_ ?_
      · simp only [Act.put, List.setIfInBounds_toArray, List.set_cons_zero, List.set_cons_succ]
        refine reg_call 4 (some 14) rfl rfl (by kernel_rfl) (by rfl) _ _ (exec_func 194 _ _ [.agg (ev b).toArray, .int .i64 k] rfl (by kernel_rfl) rfl) ?_
        refine (bit_any b k w7 hlt).mono ?_
        rintro e w8 ⟨rfl, k8⟩
        have H9 := Lib.hid (H8.out.keep k8 (fun _ e => e.elim))
        refine ⟨_, rfl, ⟨_, H9.out⟩, fun _ => ?_⟩
        simp only [Act.put, List.setIfInBounds_toArray, List.set_cons_zero, List.set_cons_succ]
        refine reg_call 5 (some 15) rfl rfl (by kernel_rfl) (by rfl) _ _ (exec_func 193 _ _ [.agg (ev (shifts a k)).toArray, .int .u64 (dw (UInt64.ofNat (bit b k)))] rfl (by kernel_rfl) rfl) ?_
        refine (kept_any (shifts a k) (bit b k) w8 hq).mono ?_
        rintro e w9 ⟨rfl, k9⟩
        have H10 := Lib.hid (H9.out.keep k9 (fun _ e => e.elim))
        refine ⟨_, rfl, ⟨_, H10.out⟩, fun _ => ?_⟩
        simp only [Act.put, List.setIfInBounds_toArray, List.set_cons_zero, List.set_cons_succ]
        refine reg_call 6 (some 16) rfl rfl (by kernel_rfl) (by rfl) _ _ (exec_func 185 _ _ [.agg (ev (prod b a k)).toArray, .agg (ev (keep (shifts a k) (bit b k))).toArray] rfl (by kernel_rfl) rfl) ?_
        refine (plus_any (prod b a k) (keep (shifts a k) (bit b k)) w9).mono ?_
        rintro e w10 ⟨rfl, k10⟩
        rw [HP.out]
        have H11 := Lib.hid (H10.out.keep k10 (fun _ e => e.elim))
        refine ⟨_, rfl, ⟨_, H11.out⟩, fun _ => ?_⟩
        simp only [Act.put, List.setIfInBounds_toArray, List.set_cons_zero, List.set_cons_succ]
        refine reg_store 7 none 249 (.tmp 5) (.tmp 16) rfl rfl rfl (by kernel_rfl) (by rfl) (w.heap.size + 3) _ _ (ev (prod b a (k + 1))) H11.out.s rfl rfl (by rw [HE.out, HE.out]) (by rw [HE.out]; kernel_rfl) (oneCell_ev _) ?_
        intro w12 hB12 k12 z12
        have H20 := Lib.hid (H11.out.outS k12 hB12)
        refine ⟨⟨_, H20.out⟩, fun _ => ?_⟩
        simp only [Act.put, List.setIfInBounds_toArray, List.set_cons_zero, List.set_cons_succ]
        refine reg_end (by kernel_rfl) ?_
        clear hB12 k12 z12
        go_wp2_with (refine wpList_load_blk rfl 249 (.tmp 2) rfl _ _ _ H20.out.a rfl _ elU rfl (by rw [HE.out]; kernel_rfl) ?_)
        refine (next_any (shifts a k) w12).mono ?_
        rintro e w13 ⟨rfl, k13⟩
        rw [← HSH.out]
        have H21 := Lib.hid (H20.out.keep k13 (fun _ e => e.elim))
        go_wp2_with (refine wpList_store_blk rfl 249 (.tmp 2) (.tmp 18) rfl _ _ _ (ev (shifts a (k + 1))) H21.out.a rfl rfl (by rw [HE.out, HE.out]) (by rw [HE.out]; kernel_rfl) (oneCell_ev _) ?_; intro w14 hB14 k14 z14)
        have H22 := Lib.hid (H21.out.outA k14 hB14)
        clear hB14 k14 z14
        go_wp2
        go_roundw
        case rel => exact ⟨k + 1, by omega, by go_num, H22.out⟩
        case measure => simp [intOf]; omega
      · refine (bit_any b k w7 hlt).mono ?_
        rintro e w8 ⟨rfl, k8⟩
        have H9 := Lib.hid (H8.out.keep k8 (fun _ e => e.elim))
        refine ⟨_, rfl, ⟨_, H9.out⟩, fun _ => ?_⟩
        simp only [Act.put, List.setIfInBounds_toArray, List.set_cons_zero, List.set_cons_succ]
        refine reg_loadOr 0 5 (some 10) (some 15) 249 (.tmp 5) rfl rfl rfl rfl rfl (by kernel_rfl) (by rfl) (by rfl) (by assumption) (w.heap.size + 3) 0 rfl (ev (prod b a k)) _ H9.out.s.range elU rfl (by rw [HE.out]; kernel_rfl) _ _ (exec_func 193 _ _ [.agg (ev (shifts a k)).toArray, .int .u64 (dw (UInt64.ofNat (bit b k)))] rfl (by kernel_rfl) rfl) ?_ ?_
        · simp only [Act.put, List.setIfInBounds_toArray, List.set_cons_zero, List.set_cons_succ]
          refine reg_call 5 (some 15) rfl rfl (by kernel_rfl) (by rfl) _ _ (exec_func 193 _ _ [.agg (ev (shifts a k)).toArray, .int .u64 (dw (UInt64.ofNat (bit b k)))] rfl (by kernel_rfl) rfl) ?_
          refine (kept_any (shifts a k) (bit b k) w8 hq).mono ?_
          rintro e w9 ⟨rfl, k9⟩
          have H10 := Lib.hid (H9.out.keep k9 (fun _ e => e.elim))
          refine ⟨_, rfl, ⟨_, H10.out⟩, fun _ => ?_⟩
          simp only [Act.put, List.setIfInBounds_toArray, List.set_cons_zero, List.set_cons_succ]
          refine reg_call 6 (some 16) rfl rfl (by kernel_rfl) (by rfl) _ _ (exec_func 185 _ _ [.agg (ev (prod b a k)).toArray, .agg (ev (keep (shifts a k) (bit b k))).toArray] rfl (by kernel_rfl) rfl) ?_
          refine (plus_any (prod b a k) (keep (shifts a k) (bit b k)) w9).mono ?_
          rintro e w10 ⟨rfl, k10⟩
          rw [HP.out]
          have H11 := Lib.hid (H10.out.keep k10 (fun _ e => e.elim))
          refine ⟨_, rfl, ⟨_, H11.out⟩, fun _ => ?_⟩
          simp only [Act.put, List.setIfInBounds_toArray, List.set_cons_zero, List.set_cons_succ]
          refine reg_store 7 none 249 (.tmp 5) (.tmp 16) rfl rfl rfl (by kernel_rfl) (by rfl) (w.heap.size + 3) _ _ (ev (prod b a (k + 1))) H11.out.s rfl rfl (by rw [HE.out, HE.out]) (by rw [HE.out]; kernel_rfl) (oneCell_ev _) ?_
          intro w12 hB12 k12 z12
          have H20 := Lib.hid (H11.out.outS k12 hB12)
          refine ⟨⟨_, H20.out⟩, fun _ => ?_⟩
          simp only [Act.put, List.setIfInBounds_toArray, List.set_cons_zero, List.set_cons_succ]
          refine reg_end (by kernel_rfl) ?_
          clear hB12 k12 z12
          go_wp2_with (refine wpList_load_blk rfl 249 (.tmp 2) rfl _ _ _ H20.out.a rfl _ elU rfl (by rw [HE.out]; kernel_rfl) ?_)
          refine (next_any (shifts a k) w12).mono ?_
          rintro e w13 ⟨rfl, k13⟩
          rw [← HSH.out]
          have H21 := Lib.hid (H20.out.keep k13 (fun _ e => e.elim))
          go_wp2_with (refine wpList_store_blk rfl 249 (.tmp 2) (.tmp 18) rfl _ _ _ (ev (shifts a (k + 1))) H21.out.a rfl rfl (by rw [HE.out, HE.out]) (by rw [HE.out]; kernel_rfl) (oneCell_ev _) ?_; intro w14 hB14 k14 z14)
          have H22 := Lib.hid (H21.out.outA k14 hB14)
          clear hB14 k14 z14
          go_wp2
          go_roundw
          case rel => exact ⟨k + 1, by omega, by go_num, H22.out⟩
          case measure => simp [intOf]; omega
        · refine (kept_any (shifts a k) (bit b k) w8 hq).mono ?_
          rintro e w9 ⟨rfl, k9⟩
          have H10 := Lib.hid (H9.out.keep k9 (fun _ e => e.elim))
          refine ⟨_, rfl, ⟨_, H10.out⟩, fun _ => ?_⟩
          simp only [Act.put, List.setIfInBounds_toArray, List.set_cons_zero, List.set_cons_succ]
          refine reg_loadNow 0 (some 10) 249 (.tmp 5) rfl rfl rfl (by kernel_rfl) (by rfl) (by assumption) (w.heap.size + 3) 0 rfl (ev (prod b a k)) _ H10.out.s.range elU rfl (by rw [HE.out]; kernel_rfl) ?_
          simp only [Act.put, List.setIfInBounds_toArray, List.set_cons_zero, List.set_cons_succ]
          refine reg_call 6 (some 16) rfl rfl (by kernel_rfl) (by rfl) _ _ (exec_func 185 _ _ [.agg (ev (prod b a k)).toArray, .agg (ev (keep (shifts a k) (bit b k))).toArray] rfl (by kernel_rfl) rfl) ?_
          refine (plus_any (prod b a k) (keep (shifts a k) (bit b k)) w9).mono ?_
          rintro e w10 ⟨rfl, k10⟩
          rw [HP.out]
          have H11 := Lib.hid (H10.out.keep k10 (fun _ e => e.elim))
          refine ⟨_, rfl, ⟨_, H11.out⟩, fun _ => ?_⟩
          simp only [Act.put, List.setIfInBounds_toArray, List.set_cons_zero, List.set_cons_succ]
          refine reg_store 7 none 249 (.tmp 5) (.tmp 16) rfl rfl rfl (by kernel_rfl) (by rfl) (w.heap.size + 3) _ _ (ev (prod b a (k + 1))) H11.out.s rfl rfl (by rw [HE.out, HE.out]) (by rw [HE.out]; kernel_rfl) (oneCell_ev _) ?_
          intro w12 hB12 k12 z12
          have H20 := Lib.hid (H11.out.outS k12 hB12)
          refine ⟨⟨_, H20.out⟩, fun _ => ?_⟩
          simp only [Act.put, List.setIfInBounds_toArray, List.set_cons_zero, List.set_cons_succ]
          refine reg_end (by kernel_rfl) ?_
          clear hB12 k12 z12
          go_wp2_with (refine wpList_load_blk rfl 249 (.tmp 2) rfl _ _ _ H20.out.a rfl _ elU rfl (by rw [HE.out]; kernel_rfl) ?_)
          refine (next_any (shifts a k) w12).mono ?_
          rintro e w13 ⟨rfl, k13⟩
          rw [← HSH.out]
          have H21 := Lib.hid (H20.out.keep k13 (fun _ e => e.elim))
          go_wp2_with (refine wpList_store_blk rfl 249 (.tmp 2) (.tmp 18) rfl _ _ _ (ev (shifts a (k + 1))) H21.out.a rfl rfl (by rw [HE.out, HE.out]) (by rw [HE.out]; kernel_rfl) (oneCell_ev _) ?_; intro w14 hB14 k14 z14)
          have H22 := Lib.hid (H21.out.outA k14 hB14)
          clear hB14 k14 z14
          go_wp2
          go_roundw
          case rel => exact ⟨k + 1, by omega, by go_num, H22.out⟩
          case measure => simp [intOf]; omega
    · obtain rfl : k = 128 := by omega
      obtain ⟨z, hz, h2⟩ := H3.out.r
      have h3 := H3.out.s
      rw [HT.out] at h3
      have H4 := Lib.hid h3
      have HZ := Lib.hid hz; have H2 := Lib.hid h2
      clear h3 hz h2
      go_wp2_with (first
        | (refine wpList_load_blk rfl 249 (.tmp 5) rfl _ _ _ H4.out rfl _ elU rfl (by rw [ev_length]; kernel_rfl) ?_)
        | (refine wpList_store_blk rfl 249 (.tmp 4) (.tmp 20) rfl _ _ z (ev (tms a b)) H2.out rfl rfl (by rw [HZ.out, ev_length]) (by rw [ev_length]; kernel_rfl) (oneCell_ev _) ?_; intro w2 hB2 k2 z2))
      refine bodyPost_ret (results_cell_row rfl _ _ (w.heap.size + 2) _ _ _ _ rfl hB2 elU rfl (elS _)) rfl ⟨rfl, H3.out.kp.since k2 (fun i e => by cases e; omega)⟩
def SumAt (w : World) (p : Nat) (h s : List UInt8) : Prop := Blk w p 261 (ev h ++ ev s)
theorem SumAt.keep {F : Nat → Prop} {w w2 : World} {p : Nat} {h s : List UInt8} (x : SumAt w p h s) (k : Kp F w w2) (hF : ¬ F p) : SumAt w2 p h s := Blk.keep x k hF
theorem SumAt.lt {w : World} {p : Nat} {h s : List UInt8} (x : SumAt w p h s) : p < w.heap.size := Blk.lt x
theorem SumAt.under {w : World} {p : Nat} {h s : List UInt8} (x : SumAt w p h s) : w.rangeAt p 0 (ev h) := Blk.part x 0 _ fun j v hj => by
  rw [Nat.zero_add, List.getElem?_append_left (by have := List.getElem?_eq_some_iff.1 hj; exact this.1)]; exact hj
theorem SumAt.value {w : World} {p : Nat} {h s : List UInt8} (x : SumAt w p h s) : w.rangeAt p 2 (ev s) := Blk.part x 2 _ fun j v hj => by
  rw [List.getElem?_append_right (by rw [ev_length]; omega), ev_length, Nat.add_sub_cancel_left]; exact hj
set_option maxHeartbeats 2000000 in
set_option maxRecDepth 100000 in
theorem new_any [Inhabited Field.SqTab] (h : List UInt8) (w : World) (hh : h.length = 16) :
    Calls Tryz.prog 171 #[.agg (bvs h).toArray] w fun e w' => ∃ p, e = .returned (.pointer (some ⟨p, 0, none⟩)) ∧ w.heap.size ≤ p ∧ SumAt w' p h none16 ∧ Kp nob w w' := by
  have HH := Lib.hid hh; clear hh
  have HHL := Lib.hid (show (bvs h).length = 16 by rw [bvs_length, HH.out])
  have HB : Hid (Blk (w.alloc (.cells (bvs h).toArray 210)) w.heap.size 210 (bvs h)) := Lib.hid (Blk.new' rfl rfl)
  go_enter Tryz.func171, Tryz.ntmps171
  go_wp2_with (refine wpList_load_blk rfl 210 (.tmp 1) rfl _ _ _ HB.out rfl _ arrB rfl (by rw [HHL.out]; kernel_rfl) ?_)
  refine (elementOf_any h _ HH.out).mono ?_
  rintro e w2 ⟨rfl, k2⟩
  have K2 : Kp nob w w2 := ((Kp.refl nob w).alloc _).trans k2 (fun _ e => e.elim)
  have HK := Lib.hid K2
  clear k2 K2
  rw [ev_eq h]
  go_wp2
  go_ret
  exact ⟨_, rfl, HK.out.size, Blk.new' rfl (by rw [ev_eq, ev_eq, hi_none, lo_none, dw_zero]; rfl), HK.out.alloc _⟩
theorem splice_ev (h s t : List UInt8) : splice (ev h ++ ev s) 2 (ev t) = ev h ++ ev t := by
  rw [ev_eq h, ev_eq s, ev_eq t]; rfl
set_option maxHeartbeats 2000000 in
set_option maxRecDepth 100000 in
theorem take_any [Inhabited Field.SqTab] (p : Nat) (h s b : List UInt8) (w : World) (hh : h.length = 16) (hs : SumAt w p h s) :
    Calls Tryz.prog 173 #[.pointer (some ⟨p, 0, none⟩), .agg (ev b).toArray] w fun e w' => e = .returned (.tuple #[]) ∧ SumAt w' p h (tms (plus s b) h) ∧ Kp (oneB p) w w' := by
  have HH := Lib.hid hh; have HE := Lib.hid ev_length
  have HLT := Lib.hid hs.lt
  have H0 : Hid (SumAt (w.alloc (.cells (ev b).toArray 249)).drew p h s ∧ Blk (w.alloc (.cells (ev b).toArray 249)).drew w.heap.size 249 (ev b)) := Lib.hid ⟨hs.keep (((Kp.refl nob w).alloc _).drew) (fun e => e), (Blk.new' rfl rfl).keep (Kp.refl nob _).drew (fun e => e)⟩
  have HK0 : Hid (Kp nob w (w.alloc (.cells (ev b).toArray 249)).drew) := Lib.hid ((Kp.refl nob w).alloc _).drew
  clear hh hs
  go_enter Tryz.func173, Tryz.ntmps173
  go_wp2
  refine reg_begin (fun w' => (∃ s', SumAt w' p h s') ∧ Blk w' w.heap.size 249 (ev b)) (by kernel_rfl) ⟨⟨_, H0.out.1⟩, H0.out.2⟩ (fun hS => ?_)
  have H8 := H0; have HK7 := HK0
  clear H0 HK0
  generalize (w.alloc (.cells (ev b).toArray 249)).drew = w7 at *
  refine reg_take 0 (some 4) rfl rfl (by kernel_rfl) (by kernel_rfl) (by kernel_rfl) (by rfl) (by assumption) (v := .pointer (some ⟨p, 0, none⟩)) (fun _ _ => by go_simp) ?_
  simp only [Act.put, List.setIfInBounds_toArray, List.set_cons_zero, List.set_cons_succ]
  refine reg_take 1 (some 5) rfl rfl (by kernel_rfl) (by kernel_rfl) (by kernel_rfl) (by rfl) (by assumption) (v := .pointer (some ⟨p, 0, none⟩)) (fun _ _ => by go_simp) ?_
  simp only [Act.put, List.setIfInBounds_toArray, List.set_cons_zero, List.set_cons_succ]
  refine reg_take 5 (some 9) rfl rfl (by kernel_rfl) (by kernel_rfl) (by kernel_rfl) (by rfl) (by assumption) (v := .pointer (some ⟨p, 0, none⟩)) (fun _ _ => by go_simp) ?_
  simp only [Act.put, List.setIfInBounds_toArray, List.set_cons_zero, List.set_cons_succ]
  refine reg_take 2 (some 6) rfl rfl (by kernel_rfl) (by kernel_rfl) (by kernel_rfl) (by rfl) (by assumption) (v := .pointer (some ⟨p, 0, none⟩)) (fun _ _ => by go_simp) ?_
  simp only [Act.put, List.setIfInBounds_toArray, List.set_cons_zero, List.set_cons_succ]
  refine reg_take 6 (some 10) rfl rfl (by kernel_rfl) (by kernel_rfl) (by kernel_rfl) (by rfl) (by assumption) (v := .pointer (some ⟨p, 0, none⟩)) (fun _ _ => by go_simp) ?_
  simp only [Act.put, List.setIfInBounds_toArray, List.set_cons_zero, List.set_cons_succ]
  refine reg_take 3 (some 7) rfl rfl (by kernel_rfl) (by kernel_rfl) (by kernel_rfl) (by rfl) (by assumption) (v := .pointer (some ⟨p, 0, none⟩)) (fun _ _ => by go_simp) ?_
  simp only [Act.put, List.setIfInBounds_toArray, List.set_cons_zero, List.set_cons_succ]
  refine reg_take 7 (some 11) rfl rfl (by kernel_rfl) (by kernel_rfl) (by kernel_rfl) (by rfl) (by assumption) (v := .pointer (some ⟨p, 2, none⟩)) (fun _ _ => by go_simp) ?_
  simp only [Act.put, List.setIfInBounds_toArray, List.set_cons_zero, List.set_cons_succ]
  refine reg_load 4 (some 8) 249 (.tmp 7) rfl rfl rfl (by kernel_rfl) (by kernel_rfl) (by kernel_rfl) (by rfl) (by assumption) p 0 rfl (ev h) _ (fun _ x => x.1.elim fun _ y => y.under) elU rfl (by rw [HE.out]; kernel_rfl) ?_
  simp only [Act.put, List.setIfInBounds_toArray, List.set_cons_zero, List.set_cons_succ]
  refine reg_load 9 (some 13) 249 (.tmp 3) rfl rfl rfl (by kernel_rfl) (by kernel_rfl) (by kernel_rfl) (by rfl) (by assumption) w.heap.size 0 rfl (ev b) _ (fun _ x => x.2.range) elU rfl (by rw [HE.out]; kernel_rfl) ?_
  simp only [Act.put, List.setIfInBounds_toArray, List.set_cons_zero, List.set_cons_succ]
  refine reg_loadNow 8 (some 12) 249 (.tmp 11) rfl rfl rfl (by kernel_rfl) (by rfl) (by assumption) p 2 rfl (ev s) _ H8.out.1.value elU rfl (by rw [HE.out]; kernel_rfl) ?_
  simp only [Act.put, List.setIfInBounds_toArray, List.set_cons_zero, List.set_cons_succ]
  refine reg_call 10 (some 14) rfl rfl (by kernel_rfl) (by rfl) _ _ (exec_func 185 _ _ [.agg (ev s).toArray, .agg (ev b).toArray] rfl (by kernel_rfl) rfl) ?_
  refine (plus_any s b w7).mono ?_
  rintro e w8 ⟨rfl, k8⟩
  have H9 : Hid (SumAt w8 p h s ∧ Blk w8 w.heap.size 249 (ev b)) := Lib.hid ⟨H8.out.1.keep k8 (fun e => e), H8.out.2.keep k8 (fun e => e)⟩
  refine ⟨_, rfl, ⟨⟨_, H9.out.1⟩, H9.out.2⟩, fun _ => ?_⟩
  simp only [Act.put, List.setIfInBounds_toArray, List.set_cons_zero, List.set_cons_succ]
  refine reg_call 11 (some 15) rfl rfl (by kernel_rfl) (by rfl) _ _ (exec_func 184 _ _ [.agg (ev h).toArray, .agg (ev (plus s b)).toArray] rfl (by kernel_rfl) rfl) ?_
  refine (product_any h (plus s b) w8 HH.out (plus_length _ _)).mono ?_
  rintro e w9 ⟨rfl, k9⟩
  rw [tms_comm h (plus s b)]
  have H10 : Hid (SumAt w9 p h s ∧ Blk w9 w.heap.size 249 (ev b)) := Lib.hid ⟨H9.out.1.keep k9 (fun e => e), H9.out.2.keep k9 (fun e => e)⟩
  have K9 : Kp (oneB p) w w9 := ((HK7.out.trans k8 (fun _ e => e.elim)).trans k9 (fun _ e => e.elim)).nob _
  refine ⟨_, rfl, ⟨⟨_, H10.out.1⟩, H10.out.2⟩, fun _ => ?_⟩
  simp only [Act.put, List.setIfInBounds_toArray, List.set_cons_zero, List.set_cons_succ]
  refine reg_take 12 (some 16) rfl rfl (by kernel_rfl) (by kernel_rfl) (by kernel_rfl) (by rfl) (by assumption) (v := .pointer (some ⟨p, 0, none⟩)) (fun _ _ => by go_simp) ?_
  simp only [Act.put, List.setIfInBounds_toArray, List.set_cons_zero, List.set_cons_succ]
  refine reg_take 13 (some 17) rfl rfl (by kernel_rfl) (by kernel_rfl) (by kernel_rfl) (by rfl) (by assumption) (v := .pointer (some ⟨p, 2, none⟩)) (fun _ _ => by go_simp) ?_
  simp only [Act.put, List.setIfInBounds_toArray, List.set_cons_zero, List.set_cons_succ]
  refine reg_storeIn 14 none 249 (.tmp 17) (.tmp 15) rfl rfl rfl (by kernel_rfl) (by rfl) p 2 _ _ (ev (tms (plus s b) h)) H10.out.1 rfl rfl (by rw [List.length_append, HE.out, HE.out, HE.out]; exact Nat.le_refl _) (by rw [HE.out]; kernel_rfl) (oneCell_ev _) ?_
  intro w10 hB10 k10 z10
  have H11 : Hid (SumAt w10 p h (tms (plus s b) h)) := Lib.hid (by have := hB10; rw [splice_ev] at this; exact this)
  have HK := Lib.hid (K9.trans k10 (fun _ e => .inl e))
  refine ⟨⟨⟨_, H11.out⟩, H10.out.2.keep k10 (fun e => by have := HLT.out; unfold oneB at e; omega)⟩, fun _ => ?_⟩
  simp only [Act.put, List.setIfInBounds_toArray, List.set_cons_zero, List.set_cons_succ]
  refine reg_end (by kernel_rfl) ?_
  clear hB10 k10 z10 K9
  go_wp2
  exact bodyPost_end (results_none rfl _ _ _) rfl ⟨rfl, H11.out, HK.out⟩
end Go.Proofs.YtiimfhacnfdmhaaGreat.Ghash
