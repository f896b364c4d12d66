/- Blocks of 16 bytes as the elements of GHASH's field, on lists of bytes: bits, numbers, sums, products; sums of texts. No program is named here. · Texts sealed under a key, on lists of bytes: the stream, the tag, there and back. No program is named here. · The words of the document's own field: bits of numbers, what stays within a machine's whole number. No program is named here. -/
import Derived.Test.YtmmpmncioifeoaaZG23
import Derived.Test.YtmmpmncioifeoaaZG22
import Derived.Test.YtmmpmncioifeoaaZG01
import Derived.Test.YtmmpmncioifeoaaRows
import Derived.BigQuiet
import Derived.Deep.QuietTactic
import Derived.StillTailTactics
import Derived.RegionTactic
namespace Go.Proofs.Ytmmpmncioifeoaa.Ghash
set_option linter.unusedVariables false
set_option linter.unusedSimpArgs false
open Gf
open Aes (gb tb tb_length gb_tb tb_gb tb_ext tb_eq)

/-- The coefficient of x to the power of i: the highest bit of the first byte first. -/
def bit (b : List UInt8) (i : Nat) : Nat := (gb b (i / 8)).toNat / 2 ^ (7 - i % 8) % 2
theorem bit_lt (b : List UInt8) (i : Nat) : bit b i < 2 := Nat.mod_lt _ (by decide)
/-- A byte by its bits. -/
def byte (f : Nat → Nat) : Nat := f 0 * 128 + f 1 * 64 + f 2 * 32 + f 3 * 16 + f 4 * 8 + f 5 * 4 + f 6 * 2 + f 7
theorem byte_lt (f : Nat → Nat) (h : ∀ i, f i < 2) : byte f < 256 := by
  have h0 := h 0; have h1 := h 1; have h2 := h 2; have h3 := h 3; have h4 := h 4; have h5 := h 5; have h6 := h 6; have h7 := h 7
  unfold byte; omega
theorem byte_bit (f : Nat → Nat) (h : ∀ i, f i < 2) (k : Nat) (hk : k < 8) : byte f / 2 ^ (7 - k) % 2 = f k := by
  have h0 := h 0; have h1 := h 1; have h2 := h 2; have h3 := h 3; have h4 := h 4; have h5 := h 5; have h6 := h 6; have h7 := h 7
  have : k = 0 ∨ k = 1 ∨ k = 2 ∨ k = 3 ∨ k = 4 ∨ k = 5 ∨ k = 6 ∨ k = 7 := by omega
  unfold byte
  rcases this with rfl | rfl | rfl | rfl | rfl | rfl | rfl | rfl <;> simp <;> omega
theorem byte_of (x : Nat) (h : x < 256) : byte (fun k => x / 2 ^ (7 - k) % 2) = x := by
  unfold byte; simp; omega
theorem u8_bits {x y : UInt8} (h : ∀ k, k < 8 → x.toNat / 2 ^ (7 - k) % 2 = y.toNat / 2 ^ (7 - k) % 2) : x = y := by
  apply UInt8.toNat_inj.1
  rw [← byte_of x.toNat x.toNat_lt, ← byte_of y.toNat y.toNat_lt]
  simp only [byte]
  rw [h 0 (by omega), h 1 (by omega), h 2 (by omega), h 3 (by omega), h 4 (by omega), h 5 (by omega), h 6 (by omega), h 7 (by omega)]
/-- TWO BLOCKS ARE ONE if their bits are. -/
theorem bits_ext {a b : List UInt8} (ha : a.length = 16) (hb : b.length = 16) (h : ∀ i, i < 128 → bit a i = bit b i) : a = b := by
  rw [← tb_gb a ha]
  refine tb_eq hb fun j hj => u8_bits fun k hk => ?_
  have := h (8 * j + k) (by omega)
  rw [bit, bit, show (8 * j + k) / 8 = j by omega, show (8 * j + k) % 8 = k by omega] at this
  exact this

/-- A block as a number: the coefficient of x to the power of i is its bit i. -/
def numN (b : List UInt8) : Nat → Nat
  | 0 => 0
  | k + 1 => numN b k + bit b k * 2 ^ k
def num (b : List UInt8) : Nat := numN b 128
theorem numN_lt (b : List UInt8) (n : Nat) : numN b n < 2 ^ n := by
  induction n with
  | zero => simp [numN]
  | succ n ih =>
    have := bit_lt b n
    have h2 : bit b n * 2 ^ n ≤ 1 * 2 ^ n := Nat.mul_le_mul_right _ (by omega)
    rw [numN, Nat.pow_succ]; omega
theorem num_lt (b : List UInt8) : num b < 2 ^ 128 := numN_lt b 128
theorem numN_bit (b : List UInt8) (n i : Nat) (h : i < n) : numN b n / 2 ^ i % 2 = bit b i := by
  induction n with
  | zero => omega
  | succ n ih =>
    rw [numN]
    by_cases hi : i = n
    · subst hi
      rw [Nat.add_mul_div_right _ _ (Nat.two_pow_pos i), Nat.div_eq_of_lt (numN_lt b i), Nat.zero_add]
      exact Nat.mod_eq_of_lt (bit_lt b i)
    · have hn : n = i + 1 + (n - i - 1) := by omega
      have e : bit b n * 2 ^ n = bit b n * 2 ^ (n - i - 1) * 2 * 2 ^ i := by
        have e2 : 2 ^ n = 2 ^ (n - i - 1) * 2 * 2 ^ i := by
          conv => lhs; rw [hn]
          rw [Nat.pow_add, Nat.pow_succ]
          ac_rfl
        rw [e2]
        ac_rfl
      rw [e, Nat.add_mul_div_right _ _ (Nat.two_pow_pos i), Nat.add_mul_mod_self_right]
      exact ih (by omega)
theorem num_bit (b : List UInt8) (i : Nat) (h : i < 128) : num b / 2 ^ i % 2 = bit b i := numN_bit b 128 i h
/-- A number below 2^128 as a block. -/
def blk (x : Nat) : List UInt8 := tb fun j => UInt8.ofNat (byte fun k => x / 2 ^ (8 * j + k) % 2)
theorem blk_length (x : Nat) : (blk x).length = 16 := tb_length _
theorem bit_blk (x i : Nat) (h : i < 128) : bit (blk x) i = x / 2 ^ i % 2 := by
  have hl := byte_lt (fun k => x / 2 ^ (8 * (i / 8) + k) % 2) (fun k => Nat.mod_lt _ (by decide))
  rw [bit, blk, gb_tb _ _ (by omega), UInt8.toNat_ofNat', Nat.mod_eq_of_lt (show _ < 2 ^ 8 from hl), byte_bit _ (fun k => Nat.mod_lt _ (by decide)) _ (by omega)]
  congr 3
  omega
theorem num_ext {x y : Nat} (hx : x < 2 ^ 128) (hy : y < 2 ^ 128) (h : ∀ i, i < 128 → x / 2 ^ i % 2 = y / 2 ^ i % 2) : x = y := by
  apply Nat.eq_of_testBit_eq
  intro i
  by_cases hi : i < 128
  · rw [Nat.testBit_eq_decide_div_mod_eq, Nat.testBit_eq_decide_div_mod_eq, h i hi]
  · have hp : 2 ^ 128 ≤ 2 ^ i := Nat.pow_le_pow_right (by decide) (by omega)
    rw [Nat.testBit_lt_two_pow (by omega), Nat.testBit_lt_two_pow (by omega)]
theorem num_blk (x : Nat) (h : x < 2 ^ 128) : num (blk x) = x := num_ext (num_lt _) h fun i hi => by rw [num_bit _ i hi, bit_blk x i hi]
theorem blk_num (b : List UInt8) (h : b.length = 16) : blk (num b) = b := bits_ext (blk_length _) h fun i hi => by rw [bit_blk _ i hi, num_bit b i hi]
theorem num_inj {a b : List UInt8} (ha : a.length = 16) (hb : b.length = 16) (h : num a = num b) : a = b := by rw [← blk_num a ha, h, blk_num b hb]

/-- The sum. -/
def plus (a b : List UInt8) : List UInt8 := tb fun i => gb a i ^^^ gb b i
theorem plus_length (a b : List UInt8) : (plus a b).length = 16 := tb_length _
theorem bit_plus (a b : List UInt8) (i : Nat) (h : i < 128) : bit (plus a b) i = (bit a i + bit b i) % 2 := by
  rw [bit, plus, gb_tb _ _ (by omega), UInt8.toNat_xor, bit_xor]; rfl
theorem num_plus (a b : List UInt8) : num (plus a b) = num a ^^^ num b := num_ext (num_lt _) (Nat.xor_lt_two_pow (num_lt a) (num_lt b)) fun i hi => by
  rw [num_bit _ i hi, bit_plus a b i hi, bit_xor, num_bit a i hi, num_bit b i hi]
/-- The product with x. -/
def shift (b : List UInt8) : List UInt8 := blk (xt 128 135 (num b))
theorem shift_length (b : List UInt8) : (shift b).length = 16 := blk_length _
theorem num_shift (b : List UInt8) : num (shift b) = xt 128 135 (num b) := num_blk _ (xt_lt 128 135 (by decide) _)
/-- THE PRODUCT. -/
def tms (a b : List UInt8) : List UInt8 := blk (mul 128 135 (num a) (num b))
theorem tms_length (a b : List UInt8) : (tms a b).length = 16 := blk_length _
theorem num_tms (a b : List UInt8) : num (tms a b) = mul 128 135 (num a) (num b) := num_blk _ (mul_lt 128 135 (by decide) _ _ (num_lt a))
theorem tms_comm (a b : List UInt8) : tms a b = tms b a := by rw [tms, mul_comm 128 135 _ _ (num_lt a) (num_lt b), ← tms]
theorem tms_assoc (a b c : List UInt8) : tms (tms a b) c = tms a (tms b c) := by
  apply num_inj (tms_length _ _) (tms_length _ _)
  rw [num_tms, num_tms, num_tms, num_tms]; exact mul_assoc 128 135 _ _ _ (by decide) (num_lt a) (num_lt b) (num_lt c)
theorem tms_plus (a b c : List UInt8) : tms a (plus b c) = plus (tms a b) (tms a c) := by
  apply num_inj (tms_length _ _) (plus_length _ _)
  rw [num_tms, num_plus, num_plus, num_tms, num_tms]; exact mul_xor 128 135 _ _ _
theorem plus_tms (a b c : List UInt8) : tms (plus a b) c = plus (tms a c) (tms b c) := by rw [tms_comm, tms_plus, tms_comm c, tms_comm c]
def none16 : List UInt8 := List.replicate 16 0
theorem none_length : none16.length = 16 := rfl
theorem num_none : num none16 = 0 := by decide +kernel
theorem num_zero {b : List UInt8} (hb : b.length = 16) (h : num b = 0) : b = none16 := num_inj hb none_length (by rw [h, num_none])
theorem tms_entire (a b : List UInt8) (ha : a.length = 16) (hb : b.length = 16) (h : tms a b = none16) : a = none16 ∨ b = none16 := by
  have h2 := num_tms a b
  rw [h, num_none] at h2
  rcases entire128 _ _ (num_lt a) (num_lt b) h2.symm with h | h
  · exact .inl (num_zero ha h)
  · exact .inr (num_zero hb h)
theorem none_tms (b : List UInt8) : tms none16 b = none16 := num_zero (tms_length _ _) (by rw [num_tms, num_none]; exact zero_mul 128 135 _)
theorem tms_none (b : List UInt8) : tms b none16 = none16 := by rw [tms_comm, none_tms]
theorem plus_none (b : List UInt8) (h : b.length = 16) : plus b none16 = b := num_inj (plus_length _ _) h (by rw [num_plus, num_none, Nat.xor_zero])
theorem none_plus (b : List UInt8) (h : b.length = 16) : plus none16 b = b := num_inj (plus_length _ _) h (by rw [num_plus, num_none, Nat.zero_xor])
def one16 : List UInt8 := 128 :: List.replicate 15 0
theorem one_length : one16.length = 16 := rfl
theorem num_one : num one16 = 1 := by decide +kernel
def x16 : List UInt8 := 64 :: List.replicate 15 0
theorem x_length : x16.length = 16 := rfl
theorem num_x : num x16 = 2 := by decide +kernel
theorem tms_one (b : List UInt8) (h : b.length = 16) : tms b one16 = b := num_inj (tms_length _ _) h (by rw [num_tms, num_one]; exact mul_one 128 135 _ (by decide))
theorem one_tms (b : List UInt8) (h : b.length = 16) : tms one16 b = b := by rw [tms_comm, tms_one b h]
theorem tms_x (b : List UInt8) : tms b x16 = shift b := by rw [tms, num_x, mul_two 128 135 _ (by decide)]; rfl

/-- The document's product: the sums of the shifts at a's bits. -/
def shifts (b : List UInt8) : Nat → List UInt8
  | 0 => b
  | k + 1 => shift (shifts b k)
theorem shifts_length (b : List UInt8) (h : b.length = 16) (k : Nat) : (shifts b k).length = 16 := by
  cases k with
  | zero => exact h
  | succ k => exact shift_length _
theorem num_shifts (b : List UInt8) (k : Nat) : num (shifts b k) = xts 128 135 k (num b) := by
  induction k with
  | zero => rfl
  | succ k ih => rw [shifts, num_shift, ih, xts_succ]
def prod (a b : List UInt8) : Nat → List UInt8
  | 0 => none16
  | k + 1 => if bit a k = 1 then plus (prod a b k) (shifts b k) else prod a b k
theorem prod_length (a b : List UInt8) (k : Nat) : (prod a b k).length = 16 := by
  induction k with
  | zero => rfl
  | succ k ih => rw [prod]; split
                 · exact plus_length _ _
                 · exact ih
theorem num_prod (a b : List UInt8) (k : Nat) (hk : k ≤ 128) : num (prod a b k) = mulN 128 135 (num b) (num a) k := by
  induction k with
  | zero => exact num_none
  | succ k ih =>
    have e := num_bit a k (by omega)
    have ht : (num a).testBit k = decide (bit a k = 1) := by rw [Nat.testBit_eq_decide_div_mod_eq, e]
    rw [prod, mulN, ← ih (by omega), ht]
    by_cases h : bit a k = 1
    · rw [if_pos h, num_plus, num_shifts]; simp [h]
    · rw [if_neg h]; simp [h]
theorem prod_tms (a b : List UInt8) : prod a b 128 = tms a b := by
  apply num_inj (prod_length _ _ _) (tms_length _ _)
  rw [num_prod _ _ _ (Nat.le_refl _), num_tms, mul_comm 128 135 _ _ (num_lt a) (num_lt b)]; rfl

/-- The block k of bytes, filled up with noughts. -/
def part (l : List UInt8) (k : Nat) : List UInt8 := tb fun i => gb l (16 * k + i)
theorem part_length (l : List UInt8) (k : Nat) : (part l k).length = 16 := tb_length _
/-- Behind n blocks of l. -/
def tk (h s l : List UInt8) : Nat → List UInt8
  | 0 => s
  | k + 1 => tms (plus (tk h s l k) (part l k)) h
theorem tk_zero (h s l : List UInt8) : tk h s l 0 = s := rfl
theorem tk_succ (h s l : List UInt8) (k : Nat) : tk h s l (k + 1) = tms (plus (tk h s l k) (part l k)) h := rfl
theorem tk_length (h s l : List UInt8) (hs : s.length = 16) (k : Nat) : (tk h s l k).length = 16 := by
  cases k with
  | zero => exact hs
  | succ k => exact tms_length _ _
/-- WHAT A SUM IS, with l taken in. -/
def taken (h s l : List UInt8) : List UInt8 := tk h s l ((l.length + 15) / 16)
theorem taken_length (h s l : List UInt8) (hs : s.length = 16) : (taken h s l).length = 16 := tk_length h s l hs _
theorem taken_nil (h s : List UInt8) : taken h s [] = s := rfl
theorem gb_take (l : List UInt8) (n i : Nat) (h : i < n) : gb (l.take n) i = gb l i := by
  rw [gb, gb, List.getD, List.getD, List.getElem?_take, if_pos h]
theorem gb_drop (l : List UInt8) (n i : Nat) : gb (l.drop n) i = gb l (n + i) := by
  rw [gb, gb, List.getD, List.getD, List.getElem?_drop]
theorem part_take (l : List UInt8) (c k : Nat) (h : k < c) : part (l.take (16 * c)) k = part l k := tb_ext fun i hi => gb_take _ _ _ (by omega)
theorem part_drop (l : List UInt8) (c k : Nat) : part (l.drop (16 * c)) k = part l (c + k) := tb_ext fun i hi => by rw [gb_drop]; congr 1; omega
theorem tk_take (h s l : List UInt8) (c k : Nat) (hk : k ≤ c) : tk h s (l.take (16 * c)) k = tk h s l k := by
  induction k with
  | zero => rfl
  | succ k ih => rw [tk_succ, tk_succ, ih (by omega), part_take _ _ _ (by omega)]
theorem tk_drop (h s l : List UInt8) (c k : Nat) : tk h (tk h s l c) (l.drop (16 * c)) k = tk h s l (c + k) := by
  induction k with
  | zero => rfl
  | succ k ih => rw [tk_succ, ih, part_drop, ← Nat.add_assoc, tk_succ]
/-- Bytes that are cut behind whole blocks are taken in as they are whole. -/
theorem taken_cut (h s l : List UInt8) (c : Nat) (hc : 16 * c ≤ l.length) : taken h (taken h s (l.take (16 * c))) (l.drop (16 * c)) = taken h s l := by
  have e1 : (l.take (16 * c)).length = 16 * c := by rw [List.length_take]; omega
  rw [taken, taken, e1, show (16 * c + 15) / 16 = c by omega, tk_take _ _ _ _ _ (Nat.le_refl _), tk_drop, List.length_drop, taken]
  congr 1
  omega
theorem plus_plus (a b c d : List UInt8) : plus (plus a b) (plus c d) = plus (plus a c) (plus b d) := by
  apply num_inj (plus_length _ _) (plus_length _ _)
  rw [num_plus, num_plus, num_plus, num_plus, num_plus, num_plus]
  ac_rfl
/-- The sums of two texts of one length, together. -/
theorem tk_plus (h s t l m n : List UInt8) (he : ∀ k, part n k = plus (part l k) (part m k)) (k : Nat) : tk h (plus s t) n k = plus (tk h s l k) (tk h t m k) := by
  induction k with
  | zero => rfl
  | succ k ih => rw [tk_succ, tk_succ, tk_succ, ih, he, plus_plus, plus_tms]
theorem taken_plus (h s t l m n : List UInt8) (h1 : l.length = n.length) (h2 : m.length = n.length) (he : ∀ i, gb n i = gb l i ^^^ gb m i) : taken h (plus s t) n = plus (taken h s l) (taken h t m) := by
  rw [taken, taken, taken, h1, h2]
  refine tk_plus h s t l m n (fun k => ?_) _
  refine tb_ext fun i hi => ?_
  rw [he, part, part, gb_tb _ _ hi, gb_tb _ _ hi]
/-- Eight bytes of a number, the highest first; how many bits two texts have. -/
def big8 (n : Nat) : List UInt8 := (List.range 8).map fun i => UInt8.ofNat (n / 256 ^ (7 - i))
def sizes (aad text : List UInt8) : List UInt8 := big8 (8 * aad.length) ++ big8 (8 * text.length)
theorem sizes_length (aad text : List UInt8) : (sizes aad text).length = 16 := by simp [sizes, big8]
theorem sizes_nil : sizes [] [] = none16 := by decide +kernel
/-- THE SUM OF TWO TEXTS. -/
def sum (h aad text : List UInt8) : List UInt8 := taken h (taken h (taken h none16 aad) text) (sizes aad text)
theorem sum_length (h aad text : List UInt8) : (sum h aad text).length = 16 := taken_length _ _ _ (taken_length _ _ _ (taken_length _ _ _ rfl))
theorem part_whole (l : List UInt8) (h : l.length = 16) : part l 0 = l := tb_eq h fun i hi => by rw [Nat.mul_zero, Nat.zero_add]
theorem taken_one (h s l : List UInt8) (hl : l.length = 16) : taken h s l = tms (plus s l) h := by
  rw [taken, hl, show (16 + 15) / 16 = 1 from rfl, tk_succ, tk_zero, part_whole l hl]
theorem sum_nil (h : List UInt8) : sum h [] [] = none16 := by
  rw [sum, sizes_nil, taken_nil, taken_nil, taken_one _ _ _ rfl, plus_none _ rfl, none_tms]
theorem plus_eq (a b : List UInt8) : plus a b = tb fun i => gb a i ^^^ gb b i := rfl
theorem shifts_zero (b : List UInt8) : shifts b 0 = b := rfl
theorem shifts_succ (b : List UInt8) (k : Nat) : shifts b (k + 1) = shift (shifts b k) := rfl
theorem prod_zero (a b : List UInt8) : prod a b 0 = none16 := rfl
theorem prod_one (a b : List UInt8) (k : Nat) (h : bit a k = 1) : prod a b (k + 1) = plus (prod a b k) (shifts b k) := by rw [prod, if_pos h]
theorem prod_no (a b : List UInt8) (k : Nat) (h : bit a k ≠ 1) : prod a b (k + 1) = prod a b k := by rw [prod, if_neg h]
theorem part_eq (l : List UInt8) (k : Nat) : part l k = tb fun i => gb l (16 * k + i) := rfl
theorem taken_eq (h s l : List UInt8) : taken h s l = tk h s l ((l.length + 15) / 16) := rfl
theorem sum_eq (h aad text : List UInt8) : sum h aad text = taken h (taken h (taken h none16 aad) text) (sizes aad text) := rfl
theorem sizes_eq (aad text : List UInt8) : sizes aad text = big8 (8 * aad.length) ++ big8 (8 * text.length) := rfl
attribute [irreducible] num blk plus shift tms shifts prod part tk taken sum sizes
end Go.Proofs.Ytmmpmncioifeoaa.Ghash
namespace Go.Proofs.Ytmmpmncioifeoaa.Gcm
set_option linter.unusedVariables false
set_option linter.unusedSimpArgs false
open Aes (gb tb tb_length gb_tb tb_gb tb_ext tb_eq enc allW noughts)
open Ghash (plus plus_length none16 sum sum_length sum_nil)

theorem gb_none (l : List UInt8) (i : Nat) (h : l.length ≤ i) : gb l i = 0 := by rw [gb, List.getD, List.getElem?_eq_none h]; rfl
theorem gb_some (l : List UInt8) (i : Nat) (h : i < l.length) : l[i]? = some (gb l i) := by rw [gb, List.getD, List.getElem?_eq_getElem h]; rfl
theorem gb_ext {l m : List UInt8} (h : l.length = m.length) (hg : ∀ i, i < l.length → gb l i = gb m i) : l = m := by
  apply List.ext_getElem? 
  intro i
  by_cases hi : i < l.length
  · rw [gb_some l i hi, gb_some m i (by omega), hg i hi]
  · rw [List.getElem?_eq_none (by omega), List.getElem?_eq_none (by omega)]
/-- A number in four bytes, the highest first; a nonce's block i. -/
def big4 (i : Nat) : List UInt8 := (List.range 4).map fun k => UInt8.ofNat (i / 256 ^ (3 - k))
theorem big4_length (i : Nat) : (big4 i).length = 4 := by simp [big4]
def nb (n : List UInt8) (i : Nat) : List UInt8 := n ++ big4 i
theorem nb_length (n : List UInt8) (i : Nat) (h : n.length = 12) : (nb n i).length = 16 := by rw [nb, List.length_append, big4_length, h]
/-- A byte of the stream. -/
def sb [Inhabited Field.SqTab] (W : List UInt8) (R : Nat) (n : List UInt8) (j : Nat) : UInt8 := gb (enc W R (nb n (j / 16 + 2))) (j % 16)
/-- A text with the stream taken in. -/
def stream [Inhabited Field.SqTab] (W : List UInt8) (R : Nat) (n l : List UInt8) : List UInt8 := (List.range l.length).map fun j => gb l j ^^^ sb W R n j
theorem stream_length [Inhabited Field.SqTab] (W : List UInt8) (R : Nat) (n l : List UInt8) : (stream W R n l).length = l.length := by simp [stream]
theorem gb_stream [Inhabited Field.SqTab] (W : List UInt8) (R : Nat) (n l : List UInt8) (j : Nat) (h : j < l.length) : gb (stream W R n l) j = gb l j ^^^ sb W R n j := by
  rw [gb, stream, List.getD, List.getElem?_map, List.getElem?_range h]; rfl
theorem stream_stream [Inhabited Field.SqTab] (W : List UInt8) (R : Nat) (n l : List UInt8) : stream W R n (stream W R n l) = l := by
  refine gb_ext (by rw [stream_length, stream_length]) fun i hi => ?_
  rw [stream_length, stream_length] at hi
  rw [gb_stream _ _ _ _ _ (by rw [stream_length]; exact hi), gb_stream _ _ _ _ _ hi, UInt8.xor_assoc, UInt8.xor_self, UInt8.xor_zero]
theorem stream_take [Inhabited Field.SqTab] (W : List UInt8) (R : Nat) (n l : List UInt8) (c : Nat) (h : c ≤ l.length) : (stream W R n l).take c = stream W R n (l.take c) := by
  refine gb_ext (by rw [stream_length, List.length_take, List.length_take, stream_length]) fun i hi => ?_
  rw [List.length_take, stream_length] at hi
  rw [Ghash.gb_take _ _ _ (by omega), gb_stream _ _ _ _ _ (by omega), gb_stream _ _ _ _ _ (by rw [List.length_take]; omega), Ghash.gb_take _ _ _ (by omega)]
theorem stream_diff [Inhabited Field.SqTab] (W : List UInt8) (R : Nat) (n l m : List UInt8) (j : Nat) (h1 : j < l.length) (h2 : j < m.length) :
    gb (stream W R n l) j ^^^ gb (stream W R n m) j = gb l j ^^^ gb m j := by
  rw [gb_stream _ _ _ _ _ h1, gb_stream _ _ _ _ _ h2]
  have : ∀ a b c : UInt8, (a ^^^ c) ^^^ (b ^^^ c) = a ^^^ b := fun a b c => by
    rw [UInt8.xor_assoc, UInt8.xor_comm b, ← UInt8.xor_assoc c, UInt8.xor_self, UInt8.zero_xor]
  exact this _ _ _
/-- One byte more. -/
theorem stream_snoc [Inhabited Field.SqTab] (W : List UInt8) (R : Nat) (n l : List UInt8) (c : Nat) (h : c < l.length) : stream W R n (l.take (c + 1)) = stream W R n (l.take c) ++ [gb l c ^^^ sb W R n c] := by
  rw [← stream_take _ _ _ _ _ (by omega), ← stream_take _ _ _ _ _ (by omega), List.take_add_one, gb_some _ _ (by rw [stream_length]; exact h), gb_stream _ _ _ _ _ h]; rfl
/-- The tag of what a text became. -/
def tag [Inhabited Field.SqTab] (W : List UInt8) (R : Nat) (n aad s : List UInt8) : List UInt8 := plus (sum (enc W R none16) aad s) (enc W R (nb n 1))
theorem tag_length [Inhabited Field.SqTab] (W : List UInt8) (R : Nat) (n aad s : List UInt8) : (tag W R n aad s).length = 16 := plus_length _ _
/-- WHAT A TEXT IS SEALED AS. -/
def gs [Inhabited Field.SqTab] (W : List UInt8) (R : Nat) (n text aad : List UInt8) : List UInt8 := stream W R n text ++ tag W R n aad (stream W R n text)
theorem gs_length [Inhabited Field.SqTab] (W : List UInt8) (R : Nat) (n text aad : List UInt8) : (gs W R n text aad).length = text.length + 16 := by
  rw [gs, List.length_append, stream_length, tag_length]
theorem gs_take [Inhabited Field.SqTab] (W : List UInt8) (R : Nat) (n text aad : List UInt8) : (gs W R n text aad).take text.length = stream W R n text := by
  rw [gs, List.take_left' (stream_length _ _ _ _)]
theorem gs_drop [Inhabited Field.SqTab] (W : List UInt8) (R : Nat) (n text aad : List UInt8) : (gs W R n text aad).drop text.length = tag W R n aad (stream W R n text) := by
  rw [gs, List.drop_left' (stream_length _ _ _ _)]
/-- The text that it was. -/
def opened [Inhabited Field.SqTab] (W : List UInt8) (R : Nat) (n x aad : List UInt8) : Option (List UInt8) :=
  if x.length < 16 then none
  else if tag W R n aad (x.take (x.length - 16)) = x.drop (x.length - 16) then some (stream W R n (x.take (x.length - 16))) else none
/-- It is just what sealing a text makes. -/
theorem opened_iff [Inhabited Field.SqTab] (W : List UInt8) (R : Nat) (n x aad : List UInt8) (h : 16 ≤ x.length) :
    tag W R n aad (x.take (x.length - 16)) = x.drop (x.length - 16) ↔ gs W R n (stream W R n (x.take (x.length - 16))) aad = x := by
  rw [gs, stream_stream]
  constructor
  · intro e; rw [e, List.take_append_drop]
  · intro e
    have := congrArg (List.drop (x.length - 16)) e
    rwa [List.drop_left' (by rw [List.length_take]; omega)] at this
theorem opened_gs [Inhabited Field.SqTab] (W : List UInt8) (R : Nat) (n text aad : List UInt8) : opened W R n (gs W R n text aad) aad = some text := by
  have hl := gs_length W R n text aad
  rw [opened, if_neg (by omega), show (gs W R n text aad).length - 16 = text.length by omega, gs_take, gs_drop, if_pos rfl, stream_stream]
def none12 : List UInt8 := List.replicate 12 0
theorem nb_eq (n : List UInt8) (i : Nat) : nb n i = n ++ big4 i := rfl
theorem sb_eq [Inhabited Field.SqTab] (W : List UInt8) (R : Nat) (n : List UInt8) (j : Nat) : sb W R n j = gb (enc W R (nb n (j / 16 + 2))) (j % 16) := rfl
theorem stream_nil [Inhabited Field.SqTab] (W : List UInt8) (R : Nat) (n : List UInt8) : stream W R n [] = [] := rfl
theorem tag_eq [Inhabited Field.SqTab] (W : List UInt8) (R : Nat) (n aad s : List UInt8) : tag W R n aad s = plus (sum (enc W R none16) aad s) (enc W R (nb n 1)) := rfl
theorem gs_eq [Inhabited Field.SqTab] (W : List UInt8) (R : Nat) (n text aad : List UInt8) : gs W R n text aad = stream W R n text ++ tag W R n aad (stream W R n text) := rfl
theorem opened_eq [Inhabited Field.SqTab] (W : List UInt8) (R : Nat) (n x aad : List UInt8) : opened W R n x aad = if x.length < 16 then none else if tag W R n aad (x.take (x.length - 16)) = x.drop (x.length - 16) then some (stream W R n (x.take (x.length - 16))) else none := rfl
attribute [irreducible] nb sb stream tag gs opened
end Go.Proofs.Ytmmpmncioifeoaa.Gcm
namespace Go.Proofs.Ytmmpmncioifeoaa.Field
set_option linter.unusedVariables false
set_option linter.unusedSimpArgs false
open Go Go.RowKit Kit

theorem wrap64_in (n : Int) (h : -9223372036854775808 ≤ n ∧ n ≤ 9223372036854775807) : wrap64 n = n := by unfold wrap64; omega
theorem bits_xor_i64_nat (a b : Nat) (ha : a < 9223372036854775808) (hb : b < 9223372036854775808) :
    bits .xor .i64 (a : Int) (b : Int) = ((a ^^^ b : Nat) : Int) := by
  have hx : a ^^^ b < 2 ^ 63 := Nat.xor_lt_two_pow (by omega) (by omega)
  have h1 : (BitVec.ofInt 64 (a : Int)).toNat = a := by
    rw [BitVec.ofInt_natCast, BitVec.toNat_ofNat]; exact Nat.mod_eq_of_lt (by omega)
  have h2 : (BitVec.ofInt 64 (b : Int)).toNat = b := by
    rw [BitVec.ofInt_natCast, BitVec.toNat_ofNat]; exact Nat.mod_eq_of_lt (by omega)
  show IntKind.i64.wrap ((BitVec.ofInt 64 (a : Int) ^^^ BitVec.ofInt 64 (b : Int)).toNat : Int) = _
  rw [BitVec.toNat_xor, h1, h2]
  rw [IntKind.wrap_i64]
  omega

theorem xor_small (a b : Nat) (ha : a < 65536) (hb : b < 65536) : bits .xor .i64 (a : Int) (b : Int) = ((a ^^^ b : Nat) : Int) :=
  bits_xor_i64_nat a b (Nat.lt_of_lt_of_le ha (by decide)) (Nat.lt_of_lt_of_le hb (by decide))
theorem small_wrap (x : Nat) (h : x < 65536) : wrap64 (x : Int) = x := wrap64_in _ (by omega)

theorem up_lt (a b : Nat) (ha : a < 256) (i : Nat) : i ≤ 8 → up a b i < 2 ^ (8 + i) := by
  induction i with
  | zero => intro _; exact Nat.two_pow_pos _
  | succ i ih =>
    intro h
    have h1 := ih (by omega)
    have h2 : a * 2 ^ i < 2 ^ (8 + (i + 1)) := by
      rw [show 8 + (i + 1) = 9 + i by omega, Nat.pow_add]
      exact Nat.mul_lt_mul_of_pos_right (by omega) (Nat.two_pow_pos i)
    have h3 : up a b i < 2 ^ (8 + (i + 1)) := Nat.lt_trans h1 (Nat.pow_lt_pow_right (by omega) (by omega))
    rw [up]
    split
    · exact Nat.xor_lt_two_pow h3 h2
    · exact h3
theorem down_lt (x : Nat) (hx : x < 65536) (k : Nat) : k ≤ 8 → down x k < 65536 := by
  induction k with
  | zero => intro _; exact hx
  | succ k ih =>
    intro h
    have h1 := ih (by omega)
    rw [down]
    split
    · have h2 : 283 * 2 ^ (7 - k) < 2 ^ 16 := by
        have : 2 ^ (7 - k) ≤ 2 ^ 7 := Nat.pow_le_pow_right (by omega) (by omega)
        omega
      exact Nat.xor_lt_two_pow (n := 16) h1 h2
    · exact h1
theorem up_zero (a b : Nat) : up a b 0 = 0 := rfl
theorem up_one (a b i : Nat) (h : b / 2 ^ i % 2 = 1) : up a b (i + 1) = up a b i ^^^ (a * 2 ^ i) := by rw [up, if_pos h]
theorem up_none (a b i : Nat) (h : b / 2 ^ i % 2 = 0) : up a b (i + 1) = up a b i := by rw [up, if_neg (by omega)]
theorem down_zero (x : Nat) : down x 0 = x := rfl
theorem down_one (x i : Nat) (h : down x i / 2 ^ (15 - i) % 2 = 1) : down x (i + 1) = down x i ^^^ (283 * 2 ^ (7 - i)) := by rw [down, if_pos h]
theorem down_none (x i : Nat) (h : down x i / 2 ^ (15 - i) % 2 = 0) : down x (i + 1) = down x i := by rw [down, if_neg (by omega)]
theorem bit_tmod (b i q : Nat) (h : b / 2 ^ i % 2 = q) : ((b : Int) / 2 ^ i).tmod 2 = (q : Int) := by
  have e : (b : Int) / 2 ^ i = ((b / 2 ^ i : Nat) : Int) := by simp
  rw [e]; clear e
  generalize b / 2 ^ i = m at *
  rw [Int.tmod_eq_emod_of_nonneg (by omega)]; omega
theorem cb_wrap (a : UInt8) : wrap64 (cb a) = (a.toNat : Int) := by have := a.toNat_lt; exact wrap64_in _ (by unfold cb; omega)

end Go.Proofs.Ytmmpmncioifeoaa.Field
