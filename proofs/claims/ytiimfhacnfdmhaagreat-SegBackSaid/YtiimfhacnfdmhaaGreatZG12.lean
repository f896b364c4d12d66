/- Lemmas: Ghf GhashSg GcmSg FieldW AesTg AesRBg. -/
import Derived.Test.YtiimfhacnfdmhaaGreatZG11
set_option linter.unusedVariables false
set_option linter.unusedSimpArgs false
namespace Go.Proofs.YtiimfhacnfdmhaaGreat.Gf
end Go.Proofs.YtiimfhacnfdmhaaGreat.Gf
namespace Go.Proofs.YtiimfhacnfdmhaaGreat.Ghash
open Gf
open Aes (gb tb tb_length gb_tb tb_gb tb_ext tb_eq)
def bit (b : List UInt8) (i : Nat) : Nat := (gb b (i / 8)).toNat / 2 ^ (7 - i % 8) % 2
theorem bit_lt (b : List UInt8) (i : Nat) : bit b i < 2 := Nat.mod_lt _ (by decide)
def byte (f : Nat → Nat) : Nat := f 0 * 128 + f 1 * 64 + f 2 * 32 + f 3 * 16 + f 4 * 8 + f 5 * 4 + f 6 * 2 + f 7
theorem byte_lt (f : Nat → Nat) (h : ∀ i, f i < 2) : byte f < 256 := by
  have h0 := h 0; have h1 := h 1; have h2 := h 2; have h3 := h 3; have h4 := h 4; have h5 := h 5; have h6 := h 6; have h7 := h 7
  unfold byte; omega
theorem byte_bit (f : Nat → Nat) (h : ∀ i, f i < 2) (k : Nat) (hk : k < 8) : byte f / 2 ^ (7 - k) % 2 = f k := by
  have h0 := h 0; have h1 := h 1; have h2 := h 2; have h3 := h 3; have h4 := h 4; have h5 := h 5; have h6 := h 6; have h7 := h 7
  have : k = 0 ∨ k = 1 ∨ k = 2 ∨ k = 3 ∨ k = 4 ∨ k = 5 ∨ k = 6 ∨ k = 7 := by omega
  unfold byte
  rcases this with rfl | rfl | rfl | rfl | rfl | rfl | rfl | rfl <;> simp <;> omega
theorem byte_of (x : Nat) (h : x < 256) : byte (fun k => x / 2 ^ (7 - k) % 2) = x := by
  unfold byte; simp; omega
theorem u8_bits {x y : UInt8} (h : ∀ k, k < 8 → x.toNat / 2 ^ (7 - k) % 2 = y.toNat / 2 ^ (7 - k) % 2) : x = y := by
  apply UInt8.toNat_inj.1
  rw [← byte_of x.toNat x.toNat_lt, ← byte_of y.toNat y.toNat_lt]
  simp only [byte]
  rw [h 0 (by omega), h 1 (by omega), h 2 (by omega), h 3 (by omega), h 4 (by omega), h 5 (by omega), h 6 (by omega), h 7 (by omega)]
theorem bits_ext {a b : List UInt8} (ha : a.length = 16) (hb : b.length = 16) (h : ∀ i, i < 128 → bit a i = bit b i) : a = b := by
  rw [← tb_gb a ha]
  refine tb_eq hb fun j hj => u8_bits fun k hk => ?_
  have := h (8 * j + k) (by omega)
  rw [bit, bit, show (8 * j + k) / 8 = j by omega, show (8 * j + k) % 8 = k by omega] at this
  exact this
def numN (b : List UInt8) : Nat → Nat
  | 0 => 0
  | k + 1 => numN b k + bit b k * 2 ^ k
def num (b : List UInt8) : Nat := numN b 128
theorem numN_lt (b : List UInt8) (n : Nat) : numN b n < 2 ^ n := by
  induction n with
  | zero => simp [numN]
  | succ n ih =>
    have := bit_lt b n
    have h2 : bit b n * 2 ^ n ≤ 1 * 2 ^ n := Nat.mul_le_mul_right _ (by omega)
    rw [numN, Nat.pow_succ]; omega
theorem num_lt (b : List UInt8) : num b < 2 ^ 128 := numN_lt b 128
theorem numN_bit (b : List UInt8) (n i : Nat) (h : i < n) : numN b n / 2 ^ i % 2 = bit b i := by
  induction n with
  | zero => omega
  | succ n ih =>
    rw [numN]
    by_cases hi : i = n
    · subst hi
      rw [Nat.add_mul_div_right _ _ (Nat.two_pow_pos i), Nat.div_eq_of_lt (numN_lt b i), Nat.zero_add]
      exact Nat.mod_eq_of_lt (bit_lt b i)
    · have hn : n = i + 1 + (n - i - 1) := by omega
      have e : bit b n * 2 ^ n = bit b n * 2 ^ (n - i - 1) * 2 * 2 ^ i := by
        have e2 : 2 ^ n = 2 ^ (n - i - 1) * 2 * 2 ^ i := by
          conv => lhs; rw [hn]
          rw [Nat.pow_add, Nat.pow_succ]
          ac_rfl
        rw [e2]
        ac_rfl
      rw [e, Nat.add_mul_div_right _ _ (Nat.two_pow_pos i), Nat.add_mul_mod_self_right]
      exact ih (by omega)
theorem num_bit (b : List UInt8) (i : Nat) (h : i < 128) : num b / 2 ^ i % 2 = bit b i := numN_bit b 128 i h
def blk (x : Nat) : List UInt8 := tb fun j => UInt8.ofNat (byte fun k => x / 2 ^ (8 * j + k) % 2)
theorem blk_length (x : Nat) : (blk x).length = 16 := tb_length _
theorem bit_blk (x i : Nat) (h : i < 128) : bit (blk x) i = x / 2 ^ i % 2 := by
  have hl := byte_lt (fun k => x / 2 ^ (8 * (i / 8) + k) % 2) (fun k => Nat.mod_lt _ (by decide))
  rw [bit, blk, gb_tb _ _ (by omega), UInt8.toNat_ofNat', Nat.mod_eq_of_lt (show _ < 2 ^ 8 from hl), byte_bit _ (fun k => Nat.mod_lt _ (by decide)) _ (by omega)]
  congr 3
  omega
theorem num_ext {x y : Nat} (hx : x < 2 ^ 128) (hy : y < 2 ^ 128) (h : ∀ i, i < 128 → x / 2 ^ i % 2 = y / 2 ^ i % 2) : x = y := by
  apply Nat.eq_of_testBit_eq
  intro i
  by_cases hi : i < 128
  · rw [Nat.testBit_eq_decide_div_mod_eq, Nat.testBit_eq_decide_div_mod_eq, h i hi]
  · have hp : 2 ^ 128 ≤ 2 ^ i := Nat.pow_le_pow_right (by decide) (by omega)
    rw [Nat.testBit_lt_two_pow (by omega), Nat.testBit_lt_two_pow (by omega)]
theorem num_blk (x : Nat) (h : x < 2 ^ 128) : num (blk x) = x := num_ext (num_lt _) h fun i hi => by rw [num_bit _ i hi, bit_blk x i hi]
theorem blk_num (b : List UInt8) (h : b.length = 16) : blk (num b) = b := bits_ext (blk_length _) h fun i hi => by rw [bit_blk _ i hi, num_bit b i hi]
theorem num_inj {a b : List UInt8} (ha : a.length = 16) (hb : b.length = 16) (h : num a = num b) : a = b := by rw [← blk_num a ha, h, blk_num b hb]
def plus (a b : List UInt8) : List UInt8 := tb fun i => gb a i ^^^ gb b i
theorem plus_length (a b : List UInt8) : (plus a b).length = 16 := tb_length _
theorem bit_plus (a b : List UInt8) (i : Nat) (h : i < 128) : bit (plus a b) i = (bit a i + bit b i) % 2 := by
  rw [bit, plus, gb_tb _ _ (by omega), UInt8.toNat_xor, bit_xor]; rfl
theorem num_plus (a b : List UInt8) : num (plus a b) = num a ^^^ num b := num_ext (num_lt _) (Nat.xor_lt_two_pow (num_lt a) (num_lt b)) fun i hi => by
  rw [num_bit _ i hi, bit_plus a b i hi, bit_xor, num_bit a i hi, num_bit b i hi]
def shift (b : List UInt8) : List UInt8 := blk (xt 128 135 (num b))
theorem num_shift (b : List UInt8) : num (shift b) = xt 128 135 (num b) := num_blk _ (xt_lt 128 135 (by decide) _)
def tms (a b : List UInt8) : List UInt8 := blk (mul 128 135 (num a) (num b))
theorem tms_length (a b : List UInt8) : (tms a b).length = 16 := blk_length _
theorem num_tms (a b : List UInt8) : num (tms a b) = mul 128 135 (num a) (num b) := num_blk _ (mul_lt 128 135 (by decide) _ _ (num_lt a))
theorem tms_comm (a b : List UInt8) : tms a b = tms b a := by rw [tms, mul_comm 128 135 _ _ (num_lt a) (num_lt b), ← tms]
def none16 : List UInt8 := List.replicate 16 0
theorem none_length : none16.length = 16 := rfl
theorem num_none : num none16 = 0 := by decide +kernel
theorem num_zero {b : List UInt8} (hb : b.length = 16) (h : num b = 0) : b = none16 := num_inj hb none_length (by rw [h, num_none])
theorem none_tms (b : List UInt8) : tms none16 b = none16 := num_zero (tms_length _ _) (by rw [num_tms, num_none]; exact zero_mul 128 135 _)
theorem plus_none (b : List UInt8) (h : b.length = 16) : plus b none16 = b := num_inj (plus_length _ _) h (by rw [num_plus, num_none, Nat.xor_zero])
def shifts (b : List UInt8) : Nat → List UInt8
  | 0 => b
  | k + 1 => shift (shifts b k)
theorem num_shifts (b : List UInt8) (k : Nat) : num (shifts b k) = xts 128 135 k (num b) := by
  induction k with
  | zero => rfl
  | succ k ih => rw [shifts, num_shift, ih, xts_succ]
def prod (a b : List UInt8) : Nat → List UInt8
  | 0 => none16
  | k + 1 => if bit a k = 1 then plus (prod a b k) (shifts b k) else prod a b k
theorem prod_length (a b : List UInt8) (k : Nat) : (prod a b k).length = 16 := by
  induction k with
  | zero => rfl
  | succ k ih => rw [prod]; split
                 · exact plus_length _ _
                 · exact ih
theorem num_prod (a b : List UInt8) (k : Nat) (hk : k ≤ 128) : num (prod a b k) = mulN 128 135 (num b) (num a) k := by
  induction k with
  | zero => exact num_none
  | succ k ih =>
    have e := num_bit a k (by omega)
    have ht : (num a).testBit k = decide (bit a k = 1) := by rw [Nat.testBit_eq_decide_div_mod_eq, e]
    rw [prod, mulN, ← ih (by omega), ht]
    by_cases h : bit a k = 1
    · rw [if_pos h, num_plus, num_shifts]; simp [h]
    · rw [if_neg h]; simp [h]
theorem prod_tms (a b : List UInt8) : prod a b 128 = tms a b := by
  apply num_inj (prod_length _ _ _) (tms_length _ _)
  rw [num_prod _ _ _ (Nat.le_refl _), num_tms, mul_comm 128 135 _ _ (num_lt a) (num_lt b)]; rfl
def part (l : List UInt8) (k : Nat) : List UInt8 := tb fun i => gb l (16 * k + i)
theorem part_length (l : List UInt8) (k : Nat) : (part l k).length = 16 := tb_length _
def tk (h s l : List UInt8) : Nat → List UInt8
  | 0 => s
  | k + 1 => tms (plus (tk h s l k) (part l k)) h
theorem tk_zero (h s l : List UInt8) : tk h s l 0 = s := rfl
theorem tk_succ (h s l : List UInt8) (k : Nat) : tk h s l (k + 1) = tms (plus (tk h s l k) (part l k)) h := rfl
theorem tk_length (h s l : List UInt8) (hs : s.length = 16) (k : Nat) : (tk h s l k).length = 16 := by
  cases k with
  | zero => exact hs
  | succ k => exact tms_length _ _
def taken (h s l : List UInt8) : List UInt8 := tk h s l ((l.length + 15) / 16)
theorem taken_length (h s l : List UInt8) (hs : s.length = 16) : (taken h s l).length = 16 := tk_length h s l hs _
theorem taken_nil (h s : List UInt8) : taken h s [] = s := rfl
theorem gb_take (l : List UInt8) (n i : Nat) (h : i < n) : gb (l.take n) i = gb l i := by
  rw [gb, gb, List.getD, List.getD, List.getElem?_take, if_pos h]
theorem gb_drop (l : List UInt8) (n i : Nat) : gb (l.drop n) i = gb l (n + i) := by
  rw [gb, gb, List.getD, List.getD, List.getElem?_drop]
def big8 (n : Nat) : List UInt8 := (List.range 8).map fun i => UInt8.ofNat (n / 256 ^ (7 - i))
def sizes (aad text : List UInt8) : List UInt8 := big8 (8 * aad.length) ++ big8 (8 * text.length)
theorem sizes_length (aad text : List UInt8) : (sizes aad text).length = 16 := by simp [sizes, big8]
theorem sizes_nil : sizes [] [] = none16 := by decide +kernel
def sum (h aad text : List UInt8) : List UInt8 := taken h (taken h (taken h none16 aad) text) (sizes aad text)
theorem sum_length (h aad text : List UInt8) : (sum h aad text).length = 16 := taken_length _ _ _ (taken_length _ _ _ (taken_length _ _ _ rfl))
theorem part_whole (l : List UInt8) (h : l.length = 16) : part l 0 = l := tb_eq h fun i hi => by rw [Nat.mul_zero, Nat.zero_add]
theorem taken_one (h s l : List UInt8) (hl : l.length = 16) : taken h s l = tms (plus s l) h := by
  rw [taken, hl, show (16 + 15) / 16 = 1 from rfl, tk_succ, tk_zero, part_whole l hl]
theorem sum_nil (h : List UInt8) : sum h [] [] = none16 := by
  rw [sum, sizes_nil, taken_nil, taken_nil, taken_one _ _ _ rfl, plus_none _ rfl, none_tms]
theorem plus_eq (a b : List UInt8) : plus a b = tb fun i => gb a i ^^^ gb b i := rfl
theorem shifts_zero (b : List UInt8) : shifts b 0 = b := rfl
theorem shifts_succ (b : List UInt8) (k : Nat) : shifts b (k + 1) = shift (shifts b k) := rfl
theorem prod_zero (a b : List UInt8) : prod a b 0 = none16 := rfl
theorem prod_one (a b : List UInt8) (k : Nat) (h : bit a k = 1) : prod a b (k + 1) = plus (prod a b k) (shifts b k) := by rw [prod, if_pos h]
theorem prod_no (a b : List UInt8) (k : Nat) (h : bit a k ≠ 1) : prod a b (k + 1) = prod a b k := by rw [prod, if_neg h]
theorem part_eq (l : List UInt8) (k : Nat) : part l k = tb fun i => gb l (16 * k + i) := rfl
theorem taken_eq (h s l : List UInt8) : taken h s l = tk h s l ((l.length + 15) / 16) := rfl
theorem sum_eq (h aad text : List UInt8) : sum h aad text = taken h (taken h (taken h none16 aad) text) (sizes aad text) := rfl
theorem sizes_eq (aad text : List UInt8) : sizes aad text = big8 (8 * aad.length) ++ big8 (8 * text.length) := rfl
attribute [irreducible] num blk plus shift tms shifts prod part tk taken sum sizes
end Go.Proofs.YtiimfhacnfdmhaaGreat.Ghash
namespace Go.Proofs.YtiimfhacnfdmhaaGreat.Gcm
open Aes (gb tb tb_length gb_tb tb_gb tb_ext tb_eq enc allW noughts)
open Ghash (plus plus_length none16 sum sum_length sum_nil)
theorem gb_some (l : List UInt8) (i : Nat) (h : i < l.length) : l[i]? = some (gb l i) := by rw [gb, List.getD, List.getElem?_eq_getElem h]; rfl
theorem gb_ext {l m : List UInt8} (h : l.length = m.length) (hg : ∀ i, i < l.length → gb l i = gb m i) : l = m := by
  apply List.ext_getElem? 
  intro i
  by_cases hi : i < l.length
  · rw [gb_some l i hi, gb_some m i (by omega), hg i hi]
  · rw [List.getElem?_eq_none (by omega), List.getElem?_eq_none (by omega)]
def big4 (i : Nat) : List UInt8 := (List.range 4).map fun k => UInt8.ofNat (i / 256 ^ (3 - k))
theorem big4_length (i : Nat) : (big4 i).length = 4 := by simp [big4]
def nb (n : List UInt8) (i : Nat) : List UInt8 := n ++ big4 i
theorem nb_length (n : List UInt8) (i : Nat) (h : n.length = 12) : (nb n i).length = 16 := by rw [nb, List.length_append, big4_length, h]
def sb [Inhabited Field.SqTab] (W : List UInt8) (R : Nat) (n : List UInt8) (j : Nat) : UInt8 := gb (enc W R (nb n (j / 16 + 2))) (j % 16)
def stream [Inhabited Field.SqTab] (W : List UInt8) (R : Nat) (n l : List UInt8) : List UInt8 := (List.range l.length).map fun j => gb l j ^^^ sb W R n j
theorem stream_length [Inhabited Field.SqTab] (W : List UInt8) (R : Nat) (n l : List UInt8) : (stream W R n l).length = l.length := by simp [stream]
theorem gb_stream [Inhabited Field.SqTab] (W : List UInt8) (R : Nat) (n l : List UInt8) (j : Nat) (h : j < l.length) : gb (stream W R n l) j = gb l j ^^^ sb W R n j := by
  rw [gb, stream, List.getD, List.getElem?_map, List.getElem?_range h]; rfl
theorem stream_stream [Inhabited Field.SqTab] (W : List UInt8) (R : Nat) (n l : List UInt8) : stream W R n (stream W R n l) = l := by
  refine gb_ext (by rw [stream_length, stream_length]) fun i hi => ?_
  rw [stream_length, stream_length] at hi
  rw [gb_stream _ _ _ _ _ (by rw [stream_length]; exact hi), gb_stream _ _ _ _ _ hi, UInt8.xor_assoc, UInt8.xor_self, UInt8.xor_zero]
def tag [Inhabited Field.SqTab] (W : List UInt8) (R : Nat) (n aad s : List UInt8) : List UInt8 := plus (sum (enc W R none16) aad s) (enc W R (nb n 1))
theorem tag_length [Inhabited Field.SqTab] (W : List UInt8) (R : Nat) (n aad s : List UInt8) : (tag W R n aad s).length = 16 := plus_length _ _
def gs [Inhabited Field.SqTab] (W : List UInt8) (R : Nat) (n text aad : List UInt8) : List UInt8 := stream W R n text ++ tag W R n aad (stream W R n text)
theorem gs_length [Inhabited Field.SqTab] (W : List UInt8) (R : Nat) (n text aad : List UInt8) : (gs W R n text aad).length = text.length + 16 := by
  rw [gs, List.length_append, stream_length, tag_length]
theorem gs_take [Inhabited Field.SqTab] (W : List UInt8) (R : Nat) (n text aad : List UInt8) : (gs W R n text aad).take text.length = stream W R n text := by
  rw [gs, List.take_left' (stream_length _ _ _ _)]
theorem gs_drop [Inhabited Field.SqTab] (W : List UInt8) (R : Nat) (n text aad : List UInt8) : (gs W R n text aad).drop text.length = tag W R n aad (stream W R n text) := by
  rw [gs, List.drop_left' (stream_length _ _ _ _)]
def opened [Inhabited Field.SqTab] (W : List UInt8) (R : Nat) (n x aad : List UInt8) : Option (List UInt8) :=
  if x.length < 16 then none
  else if tag W R n aad (x.take (x.length - 16)) = x.drop (x.length - 16) then some (stream W R n (x.take (x.length - 16))) else none
theorem nb_eq (n : List UInt8) (i : Nat) : nb n i = n ++ big4 i := rfl
theorem sb_eq [Inhabited Field.SqTab] (W : List UInt8) (R : Nat) (n : List UInt8) (j : Nat) : sb W R n j = gb (enc W R (nb n (j / 16 + 2))) (j % 16) := rfl
theorem stream_nil [Inhabited Field.SqTab] (W : List UInt8) (R : Nat) (n : List UInt8) : stream W R n [] = [] := rfl
theorem tag_eq [Inhabited Field.SqTab] (W : List UInt8) (R : Nat) (n aad s : List UInt8) : tag W R n aad s = plus (sum (enc W R none16) aad s) (enc W R (nb n 1)) := rfl
theorem gs_eq [Inhabited Field.SqTab] (W : List UInt8) (R : Nat) (n text aad : List UInt8) : gs W R n text aad = stream W R n text ++ tag W R n aad (stream W R n text) := rfl
attribute [irreducible] nb sb stream tag gs opened
end Go.Proofs.YtiimfhacnfdmhaaGreat.Gcm
namespace Go.Proofs.YtiimfhacnfdmhaaGreat.Field
open Go Go.RowKit Kit
end Go.Proofs.YtiimfhacnfdmhaaGreat.Field
namespace Go.Proofs.YtiimfhacnfdmhaaGreat.Aes
open Go Go.RowKit Kit
open Field (cb)
def pt (f g : Nat → UInt8) (k : Nat) : List UInt8 := tb fun i => if i < k then f i else g i
theorem pt_eq (f g : Nat → UInt8) (k : Nat) : pt f g k = tb fun i => if i < k then f i else g i := rfl
theorem pt_zero (f g : Nat → UInt8) : pt f g 0 = tb g := tb_ext fun i _ => if_neg (by omega)
theorem pt_all (f g : Nat → UInt8) : pt f g 16 = tb f := tb_ext fun i h => if_pos h
theorem set_tb (f : Nat → UInt8) (k : Nat) (x : UInt8) : (tb f).set k x = tb fun i => if i = k then x else f i := by
  apply List.ext_getElem (by simp [tb_length])
  intro i h1 h2
  rw [List.getElem_set]
  simp only [tb, List.getElem_map, List.getElem_range]
  by_cases h : i = k
  · rw [if_pos h.symm, if_pos h]
  · rw [if_neg (fun e => h e.symm), if_neg h]
theorem pt_set (f g : Nat → UInt8) (k : Nat) : (pt f g k).set k (f k) = pt f g (k + 1) := by
  rw [pt, set_tb, pt]
  refine tb_ext fun i _ => ?_
  by_cases h : i = k
  · subst h; rw [if_pos rfl, if_pos (Nat.lt_succ_self _)]
  · rw [if_neg h]
    by_cases h2 : i < k
    · rw [if_pos h2, if_pos (by omega)]
    · rw [if_neg h2, if_neg (by omega)]
theorem tb_get (f : Nat → UInt8) (k : Nat) (h : k < 16) : (bvs (tb f))[k]? = some (.int .u8 (cb (f k))) := by
  rw [bvs, List.getElem?_map, tb, List.getElem?_map, List.getElem?_range h]; rfl
theorem pt_get (f g : Nat → UInt8) (k : Nat) (h : k < 16) : (bvs (pt f g k))[k]? = some (.int .u8 (cb (g k))) := by
  rw [pt, tb_get _ _ h, if_neg (Nat.lt_irrefl k)]
theorem gb_get (b : List UInt8) (i : Nat) (h : i < b.length) : (bvs b)[i]? = some (.int .u8 (cb (gb b i))) := by
  rw [bvs, List.getElem?_map, List.getElem?_eq_getElem h, gb, List.getD, List.getElem?_eq_getElem h]; rfl
theorem bvs_setb (l : List UInt8) (i : Nat) (x : UInt8) : (bvs l).set i (.int .u8 (cb x)) = bvs (l.set i x) := by
  rw [bvs, bvs, List.map_set]; rfl
attribute [irreducible] pt
theorem blk_byte {w : World} {g : Nat} {t : TypeId} {b : List UInt8} (h : Blk w g t (bvs b)) (i : Nat) (hi : i < b.length) : w.cell? ⟨g, i, none⟩ = some (.int .u8 (cb (gb b i))) := by rw [h.cell, gb_get b i hi]
end Go.Proofs.YtiimfhacnfdmhaaGreat.Aes
