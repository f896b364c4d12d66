/- The field of 256 elements on bytes: what package field's own calls reckon, step by step, is what the field has. No program is named here. · Sixteen bytes that are made one by one. No program is named here. · Bits of blocks turned one by one; the product with x, as the document's loops make it. No program is named here. · More on blocks of sixteen bytes: columns mixed three times over are mixed back, rows by one index. No program is named here. · A cipher's cells: how many rounds, their keys, two tables of 256 bytes; tables that are filled byte by byte. No program is named here. -/
import Derived.Test.YtbainiblffcjgaaDoorZGb
import Derived.Test.YtbainiblffcjgaaDoorZGa
namespace Go.Proofs.YtbainiblffcjgaaDoor.Field
set_option linter.unusedVariables false
set_option linter.unusedSimpArgs false
open Go Go.RowKit Kit Gf

theorem all8 (p : UInt8 → Bool) (h : (List.range 256).all (fun a => p (UInt8.ofNat a)) = true) (a : UInt8) : p a = true := by
  have := List.all_eq_true.1 h a.toNat (List.mem_range.2 a.toNat_lt)
  rwa [UInt8.ofNat_toNat] at this

/-- Bit i, as a byte. -/
def bitOf (b : UInt8) (i : Nat) : UInt8 := (b >>> UInt8.ofNat i) &&& 1
def keep (a b : UInt8) : UInt8 := a &&& -b
set_option maxRecDepth 100000 in
theorem bitOf_nat (b : UInt8) (i : Nat) (h : i < 8) : bitOf b i = if b.toNat.testBit i then 1 else 0 := by
  have h8 : ∀ i, i < 8 → (List.range 256).all (fun b => bitOf (UInt8.ofNat b) i == if (UInt8.ofNat b).toNat.testBit i then 1 else 0) = true := by
    intro i hi
    have : i = 0 ∨ i = 1 ∨ i = 2 ∨ i = 3 ∨ i = 4 ∨ i = 5 ∨ i = 6 ∨ i = 7 := by omega
    rcases this with rfl | rfl | rfl | rfl | rfl | rfl | rfl | rfl <;> decide +kernel
  exact beq_iff_eq.1 (all8 (fun b => bitOf b i == if b.toNat.testBit i then 1 else 0) (h8 i h) b)
theorem keep_one (a : UInt8) : keep a 1 = a := beq_iff_eq.1 (all8 (fun a => keep a 1 == a) (by decide +kernel) a)
theorem keep_zero (a : UInt8) : keep a 0 = 0 := beq_iff_eq.1 (all8 (fun a => keep a 0 == 0) (by decide +kernel) a)
theorem keep_bit (a b : UInt8) (i : Nat) (h : i < 8) : keep a (bitOf b i) = if b.toNat.testBit i then a else 0 := by
  rw [bitOf_nat b i h]
  split
  · exact keep_one a
  · exact keep_zero a
set_option maxRecDepth 100000 in
theorem twice_eq (a : UInt8) : (a <<< 1) ^^^ keep 27 (a >>> 7) = tm a 2 :=
  beq_iff_eq.1 (all8 (fun a => (a <<< 1) ^^^ keep 27 (a >>> 7) == tm a 2) (by decide +kernel) a)
/-- The product's loop. -/
def psum (a b : UInt8) : Nat → UInt8
  | 0 => 0
  | i + 1 => psum a b i ^^^ keep (twices a i) (bitOf b i)
theorem psum_zero (a b : UInt8) : psum a b 0 = 0 := rfl
theorem psum_succ (a b : UInt8) (i : Nat) : psum a b (i + 1) = psum a b i ^^^ keep (twices a i) (bitOf b i) := rfl
theorem twices_zero (a : UInt8) : twices a 0 = a := rfl
theorem twices_succ (a : UInt8) (n : Nat) : twices a (n + 1) = tm (twices a n) 2 := rfl
theorem twices_nat (a : UInt8) (n : Nat) : (twices a n).toNat = xts 8 27 n a.toNat := by
  induction n with
  | zero => rfl
  | succ n ih => rw [twices_succ, twice_tm, ih, xts_succ]
theorem psum_nat (a b : UInt8) (n : Nat) (h : n ≤ 8) : (psum a b n).toNat = mulN 8 27 a.toNat b.toNat n := by
  induction n with
  | zero => rfl
  | succ n ih =>
    rw [psum_succ, UInt8.toNat_xor, ih (by omega), keep_bit _ _ _ (by omega), mulN]
    congr 1
    split
    · exact twices_nat a n
    · rfl
theorem psum_tm (a b : UInt8) : psum a b 8 = tm a b := by
  apply UInt8.toNat_inj.1
  rw [psum_nat _ _ _ (Nat.le_refl _), tm_nat, mul]
/-- The squares of single bits. -/
def SQ : List UInt8 := [1, 4, 16, 64, 27, 108, 171, 154]
theorem SQ_length : SQ.length = 8 := rfl
def ssum (a : UInt8) : Nat → UInt8
  | 0 => 0
  | i + 1 => ssum a i ^^^ keep (SQ.getD i 0) (bitOf a i)
theorem ssum_zero (a : UInt8) : ssum a 0 = 0 := rfl
theorem ssum_succ (a : UInt8) (i : Nat) : ssum a (i + 1) = ssum a i ^^^ keep (SQ.getD i 0) (bitOf a i) := rfl
set_option maxRecDepth 100000 in
theorem ssum_tm (a : UInt8) : ssum a 8 = tm a a := beq_iff_eq.1 (all8 (fun a => ssum a 8 == tm a a) (by decide +kernel) a)
theorem power_zero (a : UInt8) : power a 0 = (a, 1) := rfl
theorem power_fst (a : UInt8) (i : Nat) : (power a (i + 1)).1 = tm (power a i).1 (power a i).1 := rfl
theorem power_snd (a : UInt8) (i : Nat) : (power a (i + 1)).2 = tm (power a i).2 (power a (i + 1)).1 := rfl
/-- A byte turned to the left. -/
def rol (a : UInt8) (k : Nat) : UInt8 := (a <<< UInt8.ofNat k) ||| (a >>> UInt8.ofNat (8 - k))
set_option maxRecDepth 100000 in
theorem bend_eq (c : UInt8) : c ^^^ rol c 1 ^^^ rol c 2 ^^^ rol c 3 ^^^ rol c 4 ^^^ 99 = bend c :=
  beq_iff_eq.1 (all8 (fun c => c ^^^ rol c 1 ^^^ rol c 2 ^^^ rol c 3 ^^^ rol c 4 ^^^ 99 == bend c) (by decide +kernel) c)
set_option maxRecDepth 100000 in
theorem back_eq (a : UInt8) : inv (rol (a ^^^ 99) 1 ^^^ rol (a ^^^ 99) 3 ^^^ rol (a ^^^ 99) 6) = back a :=
  beq_iff_eq.1 (all8 (fun a => inv (rol (a ^^^ 99) 1 ^^^ rol (a ^^^ 99) 3 ^^^ rol (a ^^^ 99) 6) == back a) (by decide +kernel) a)

/-- A byte's value. -/
def cb (a : UInt8) : Int := (a.toNat : Int)
theorem cb_bv (a : UInt8) : Value.int .u8 (cb a) = bv a := rfl
theorem ofInt_u8 (a : UInt8) : (BitVec.ofInt 8 (cb a)).toNat = a.toNat := by
  rw [cb, BitVec.ofInt_natCast, BitVec.toNat_ofNat]; exact Nat.mod_eq_of_lt a.toNat_lt
theorem wrap_u8 (n : Nat) : IntKind.u8.wrap (n : Int) = cb (UInt8.ofNat n) := by
  rw [IntKind.wrap_u8, cb]; simp
@[go_sem] theorem u8_xor (a b : UInt8) : bits .xor .u8 (cb a) (cb b) = cb (a ^^^ b) := by
  show IntKind.u8.wrap ((BitVec.ofInt 8 (cb a) ^^^ BitVec.ofInt 8 (cb b)).toNat : Int) = _
  rw [BitVec.toNat_xor, ofInt_u8, ofInt_u8, wrap_u8, ← UInt8.toNat_xor, UInt8.ofNat_toNat]
@[go_sem] theorem u8_or (a b : UInt8) : bits .or .u8 (cb a) (cb b) = cb (a ||| b) := by
  show IntKind.u8.wrap ((BitVec.ofInt 8 (cb a) ||| BitVec.ofInt 8 (cb b)).toNat : Int) = _
  rw [BitVec.toNat_or, ofInt_u8, ofInt_u8, wrap_u8, ← UInt8.toNat_or, UInt8.ofNat_toNat]
@[go_sem] theorem u8_and (a b : UInt8) : bits .and .u8 (cb a) (cb b) = cb (a &&& b) := by
  show IntKind.u8.wrap ((BitVec.ofInt 8 (cb a) &&& BitVec.ofInt 8 (cb b)).toNat : Int) = _
  rw [BitVec.toNat_and, ofInt_u8, ofInt_u8, wrap_u8, ← UInt8.toNat_and, UInt8.ofNat_toNat]
theorem cb_one : cb 1 = 1 := rfl
@[go_sem] theorem u8_and1 (a : UInt8) : bits .and .u8 (cb a) 1 = cb (a &&& 1) := u8_and a 1
@[go_sem] theorem u8_xor99 (a : UInt8) : bits .xor .u8 (cb a) 99 = cb (a ^^^ 99) := u8_xor a 99
@[go_sem] theorem u8_neg (a : UInt8) : IntKind.u8.wrap (-(cb a)) = cb (-a) := by
  have := a.toNat_lt
  rw [IntKind.wrap_u8, cb, cb, UInt8.toNat_neg, show UInt8.size = 256 by decide]; omega
theorem u8_shl (a : UInt8) (k : Nat) (h : k < 8) : IntKind.u8.wrap (cb a * 2 ^ k) = cb (a <<< UInt8.ofNat k) := by
  rw [IntKind.wrap_u8, cb, cb, UInt8.toNat_shiftLeft, Nat.shiftLeft_eq, UInt8.toNat_ofNat', show k % 2 ^ 8 % 8 = k by omega]; simp
theorem u8_shr (a : UInt8) (k : Nat) (h : k < 8) : cb a / 2 ^ k = cb (a >>> UInt8.ofNat k) := by
  rw [cb, cb, UInt8.toNat_shiftRight, Nat.shiftRight_eq_div_pow, UInt8.toNat_ofNat', show k % 2 ^ 8 % 8 = k by omega]; simp
@[go_sem] theorem u8_shl1 (a : UInt8) : IntKind.u8.wrap (cb a * (2 : Int)) = cb (a <<< 1) := u8_shl a 1 (by omega)
@[go_sem] theorem u8_shr7 (a : UInt8) : cb a / (128 : Int) = cb (a >>> 7) := u8_shr a 7 (by omega)
theorem cb_inj {a b : UInt8} : cb a = cb b ↔ a = b := ⟨fun h => UInt8.toNat_inj.1 (by unfold cb at h; omega), fun h => by rw [h]⟩
theorem cb_range (a : UInt8) : 0 ≤ cb a ∧ cb a < 256 := by have := a.toNat_lt; unfold cb; omega
theorem of_cb (n : Int) (h : 0 ≤ n ∧ n < 256) : ∃ a : UInt8, n = cb a := ⟨UInt8.ofNat n.toNat, by unfold cb; simp; omega⟩
end Go.Proofs.YtbainiblffcjgaaDoor.Field
namespace Go.Proofs.YtbainiblffcjgaaDoor.Aes
set_option linter.unusedVariables false
set_option linter.unusedSimpArgs false
open Go Go.RowKit Kit
open Field (cb)

/-- The first k bytes are made. -/
def pt (f g : Nat → UInt8) (k : Nat) : List UInt8 := tb fun i => if i < k then f i else g i
theorem pt_eq (f g : Nat → UInt8) (k : Nat) : pt f g k = tb fun i => if i < k then f i else g i := rfl
theorem pt_length (f g : Nat → UInt8) (k : Nat) : (pt f g k).length = 16 := tb_length _
theorem pt_zero (f g : Nat → UInt8) : pt f g 0 = tb g := tb_ext fun i _ => if_neg (by omega)
theorem pt_all (f g : Nat → UInt8) : pt f g 16 = tb f := tb_ext fun i h => if_pos h
theorem set_tb (f : Nat → UInt8) (k : Nat) (x : UInt8) : (tb f).set k x = tb fun i => if i = k then x else f i := by
  apply List.ext_getElem (by simp [tb_length])
  intro i h1 h2
  rw [List.getElem_set]
  simp only [tb, List.getElem_map, List.getElem_range]
  by_cases h : i = k
  · rw [if_pos h.symm, if_pos h]
  · rw [if_neg (fun e => h e.symm), if_neg h]
theorem pt_set (f g : Nat → UInt8) (k : Nat) : (pt f g k).set k (f k) = pt f g (k + 1) := by
  rw [pt, set_tb, pt]
  refine tb_ext fun i _ => ?_
  by_cases h : i = k
  · subst h; rw [if_pos rfl, if_pos (Nat.lt_succ_self _)]
  · rw [if_neg h]
    by_cases h2 : i < k
    · rw [if_pos h2, if_pos (by omega)]
    · rw [if_neg h2, if_neg (by omega)]
theorem tb_get (f : Nat → UInt8) (k : Nat) (h : k < 16) : (bvs (tb f))[k]? = some (.int .u8 (cb (f k))) := by
  rw [bvs, List.getElem?_map, tb, List.getElem?_map, List.getElem?_range h]; rfl
theorem pt_get (f g : Nat → UInt8) (k : Nat) (h : k < 16) : (bvs (pt f g k))[k]? = some (.int .u8 (cb (g k))) := by
  rw [pt, tb_get _ _ h, if_neg (Nat.lt_irrefl k)]
theorem gb_get (b : List UInt8) (i : Nat) (h : i < b.length) : (bvs b)[i]? = some (.int .u8 (cb (gb b i))) := by
  rw [bvs, List.getElem?_map, List.getElem?_eq_getElem h, gb, List.getD, List.getElem?_eq_getElem h]; rfl
theorem bvs_setb (l : List UInt8) (i : Nat) (x : UInt8) : (bvs l).set i (.int .u8 (cb x)) = bvs (l.set i x) := by
  rw [bvs, bvs, List.map_set]; rfl
attribute [irreducible] pt
/-- A byte of a row. -/
theorem row_byte {w : World} {A : Option Addr} {W : List UInt8} (h : Row w A (bvs W)) {i : Nat} (hi : i < W.length) : ∃ B o, A = some ⟨B, o, none⟩ ∧ ∀ j, j < W.length → w.cell? ⟨B, o + j, none⟩ = some (.int .u8 (cb (gb W j))) := by
  rcases h with h | ⟨B, o, hA, hB, hc⟩
  · have h0 : (bvs W).length = 0 := by rw [h]; rfl
    rw [bvs_length] at h0; omega
  · exact ⟨B, o, hA, fun j hj => hc j _ (gb_get W j hj)⟩
theorem add_pt (W b : List UInt8) (r : Nat) : add (rk W r) b = tb fun i => gb b i ^^^ gb W (16 * r + i) := by
  have h : add (rk W r) b = tb fun i => gb b i ^^^ gb (rk W r) i := add_eq _ _
  rw [h]
  exact tb_ext fun i hi => by rw [rk_eq, gb_tb _ i hi]
end Go.Proofs.YtbainiblffcjgaaDoor.Aes
namespace Go.Proofs.YtbainiblffcjgaaDoor.Ghash
set_option linter.unusedVariables false
set_option linter.unusedSimpArgs false
open Go Go.RowKit Kit Gf
open Aes (gb tb tb_length gb_tb tb_gb tb_ext tb_eq pt pt_all pt_zero gb_get)
open Field (cb)

/-- Bit i is the other one. -/
def flip (b : List UInt8) (i : Nat) : List UInt8 := b.set (i / 8) (gb b (i / 8) ^^^ (1 <<< UInt8.ofNat (7 - i % 8)))
theorem flip_length (b : List UInt8) (i : Nat) : (flip b i).length = b.length := List.length_set
theorem gb_set (b : List UInt8) (k j : Nat) (x : UInt8) (h : k < b.length) : gb (b.set k x) j = if j = k then x else gb b j := by
  rw [gb, gb, List.getD, List.getD, List.getElem?_set]
  by_cases hj : k = j
  · subst hj; rw [if_pos rfl, if_pos h, if_pos rfl]; rfl
  · rw [if_neg hj, if_neg (fun e => hj e.symm)]
theorem shl_bit (k j : Nat) (hk : k < 8) (hj : j < 8) : (1 <<< UInt8.ofNat (7 - k) : UInt8).toNat / 2 ^ (7 - j) % 2 = if j = k then 1 else 0 := by
  have h1 : k = 0 ∨ k = 1 ∨ k = 2 ∨ k = 3 ∨ k = 4 ∨ k = 5 ∨ k = 6 ∨ k = 7 := by omega
  have h2 : j = 0 ∨ j = 1 ∨ j = 2 ∨ j = 3 ∨ j = 4 ∨ j = 5 ∨ j = 6 ∨ j = 7 := by omega
  rcases h1 with rfl | rfl | rfl | rfl | rfl | rfl | rfl | rfl <;> rcases h2 with rfl | rfl | rfl | rfl | rfl | rfl | rfl | rfl <;> decide
theorem bit_flip (b : List UInt8) (i j : Nat) (hb : b.length = 16) (hi : i < 128) : bit (flip b i) j = if j = i then (bit b j + 1) % 2 else bit b j := by
  rw [bit, flip, gb_set _ _ _ _ (by omega)]
  by_cases hj : j / 8 = i / 8
  · rw [if_pos hj, UInt8.toNat_xor, bit_xor, shl_bit _ _ (by omega) (by omega), ← hj]
    by_cases h : j = i
    · subst h; rw [if_pos rfl, if_pos rfl]; rfl
    · rw [if_neg h, if_neg (by omega), Nat.add_zero, Nat.mod_mod]; rfl
  · rw [if_neg hj, if_neg (by intro e; subst e; exact hj rfl)]; rfl
/-- The document's loop of the product with x. -/
def shp (b : List UInt8) : Nat → List UInt8
  | 0 => none16
  | k + 1 => if bit b k = 1 then flip (shp b k) (k + 1) else shp b k
theorem shp_zero (b : List UInt8) : shp b 0 = none16 := rfl
theorem shp_one (b : List UInt8) (k : Nat) (h : bit b k = 1) : shp b (k + 1) = flip (shp b k) (k + 1) := by rw [shp, if_pos h]
theorem shp_none (b : List UInt8) (k : Nat) (h : bit b k ≠ 1) : shp b (k + 1) = shp b k := by rw [shp, if_neg h]
theorem shp_length (b : List UInt8) (k : Nat) : (shp b k).length = 16 := by
  induction k with
  | zero => rfl
  | succ k ih => rw [shp]; split
                 · rw [flip_length, ih]
                 · exact ih
theorem bit_none (i : Nat) : bit none16 i = 0 := by
  rw [bit, none16, gb, List.getD, List.getElem?_replicate]
  split <;> simp
theorem bit_shp (b : List UInt8) (k : Nat) (hk : k ≤ 127) (i : Nat) : bit (shp b k) i = if 1 ≤ i ∧ i ≤ k then bit b (i - 1) else 0 := by
  induction k with
  | zero => rw [shp_zero, bit_none, if_neg (by omega)]
  | succ k ih =>
    have h := ih (by omega)
    by_cases hb : bit b k = 1
    · rw [shp_one _ _ hb, bit_flip _ _ _ (shp_length _ _) (by omega), h]
      by_cases hi : i = k + 1
      · subst hi; rw [if_pos rfl, if_neg (by omega), if_pos (by omega)]; simp [hb]
      · rw [if_neg hi]
        by_cases h2 : 1 ≤ i ∧ i ≤ k
        · rw [if_pos h2, if_pos (by omega)]
        · rw [if_neg h2, if_neg (by omega)]
    · have hb0 : bit b k = 0 := by have := bit_lt b k; omega
      rw [shp_none _ _ hb, h]
      by_cases hi : i = k + 1
      · subst hi; rw [if_neg (by omega), if_pos (by omega)]; simp [hb0]
      · by_cases h2 : 1 ≤ i ∧ i ≤ k
        · rw [if_pos h2, if_pos (by omega)]
        · rw [if_neg h2, if_neg (by omega)]
def KQ : List Nat := [0, 1, 2, 7]
/-- What comes back over the top. -/
def fls (b : List UInt8) : Nat → List UInt8
  | 0 => b
  | k + 1 => flip (fls b k) (KQ.getD k 0)
theorem fls_zero (b : List UInt8) : fls b 0 = b := rfl
theorem fls_succ (b : List UInt8) (k : Nat) : fls b (k + 1) = flip (fls b k) (KQ.getD k 0) := rfl
theorem fls_length (b : List UInt8) (k : Nat) : (fls b k).length = b.length := by
  induction k with
  | zero => rfl
  | succ k ih => rw [fls_succ, flip_length, ih]
theorem bit_fls (b : List UInt8) (hb : b.length = 16) (i : Nat) : bit (fls b 4) i = if i = 0 ∨ i = 1 ∨ i = 2 ∨ i = 7 then (bit b i + 1) % 2 else bit b i := by
  rw [fls_succ, bit_flip _ _ _ (by rw [fls_length, hb]) (by decide), fls_succ, bit_flip _ _ _ (by rw [fls_length, hb]) (by decide), fls_succ, bit_flip _ _ _ (by rw [fls_length, hb]) (by decide), fls_succ, bit_flip _ _ _ (by rw [fls_length, hb]) (by decide), fls_zero]
  rw [show KQ.getD 3 0 = 7 from rfl, show KQ.getD 2 0 = 2 from rfl, show KQ.getD 1 0 = 1 from rfl, show KQ.getD 0 0 = 0 from rfl]
  have hl := bit_lt b i
  by_cases h7 : i = 7
  · subst h7; simp
  · by_cases h2 : i = 2
    · subst h2; simp
    · by_cases h1 : i = 1
      · subst h1; simp
      · by_cases h0 : i = 0
        · subst h0; simp
        · simp [h7, h2, h1, h0]
theorem bit_shift (b : List UInt8) (i : Nat) (hi : i < 128) : bit (shift b) i = ((if 1 ≤ i then bit b (i - 1) else 0) + (if bit b 127 = 1 then 135 else 0) / 2 ^ i % 2) % 2 := by
  have h127 : (num b).testBit 127 = decide (bit b 127 = 1) := by rw [Nat.testBit_eq_decide_div_mod_eq, num_bit b 127 (by omega)]
  rw [← num_bit _ i hi, num_shift, xt, bit_xor, h127]
  congr 2
  · by_cases h1 : 1 ≤ i
    · rw [if_pos h1, ← num_bit b (i - 1) (by omega)]
      have e1 := Nat.testBit_mod_two_pow (2 * num b) 128 i
      have e2 : (2 * num b).testBit i = (num b).testBit (i - 1) := by
        rw [show 2 * num b = num b * 2 ^ 1 by omega, Nat.testBit_mul_two_pow]; simp [h1]
      rw [Nat.testBit_eq_decide_div_mod_eq, e2, Nat.testBit_eq_decide_div_mod_eq] at e1
      simp only [hi, decide_true, Bool.true_and, decide_eq_decide] at e1
      have a1 := Nat.mod_lt (2 * num b % 2 ^ 128 / 2 ^ i) (show 0 < 2 by decide)
      have a2 := Nat.mod_lt (num b / 2 ^ (i - 1)) (show 0 < 2 by decide)
      by_cases hq : num b / 2 ^ (i - 1) % 2 = 1
      · rw [e1.2 hq, hq]
      · have := fun h => hq (e1.1 h); omega
    · obtain rfl : i = 0 := by omega
      rw [if_neg h1]; omega
  · congr 2
    by_cases h : bit b 127 = 1 <;> simp [h]
/-- THE LOOPS MAKE THE PRODUCT. -/
theorem shift_no (b : List UInt8) (h : bit b 127 ≠ 1) : shp b 127 = shift b := by
  refine bits_ext (shp_length _ _) (shift_length _) fun i hi => ?_
  rw [bit_shp _ _ (Nat.le_refl _), bit_shift b i hi, if_neg h, Nat.zero_div, Nat.zero_mod, Nat.add_zero]
  by_cases h1 : 1 ≤ i
  · rw [if_pos ⟨h1, by omega⟩, if_pos h1, Nat.mod_eq_of_lt (bit_lt _ _)]
  · rw [if_neg (fun e => h1 e.1), if_neg h1]
theorem bits135 (i : Nat) (hi : i < 128) : 135 / 2 ^ i % 2 = if i = 0 ∨ i = 1 ∨ i = 2 ∨ i = 7 then 1 else 0 := by
  by_cases h : i < 8
  · have : i = 0 ∨ i = 1 ∨ i = 2 ∨ i = 3 ∨ i = 4 ∨ i = 5 ∨ i = 6 ∨ i = 7 := by omega
    rcases this with rfl | rfl | rfl | rfl | rfl | rfl | rfl | rfl <;> decide
  · have : 135 < 2 ^ i := Nat.lt_of_lt_of_le (show 135 < 2 ^ 8 by decide) (Nat.pow_le_pow_right (by decide) (by omega))
    rw [Nat.div_eq_of_lt this, if_neg (by omega)]
theorem shift_yes (b : List UInt8) (h : bit b 127 = 1) : fls (shp b 127) 4 = shift b := by
  refine bits_ext (by rw [fls_length, shp_length]) (shift_length _) fun i hi => ?_
  rw [bit_fls _ (shp_length _ _), bit_shp _ _ (Nat.le_refl _), bit_shift b i hi, if_pos h, bits135 i hi]
  have hl := bit_lt b (i - 1)
  have e : (if 1 ≤ i ∧ i ≤ 127 then bit b (i - 1) else 0) = (if 1 ≤ i then bit b (i - 1) else 0) := by
    by_cases h1 : 1 ≤ i
    · rw [if_pos ⟨h1, by omega⟩, if_pos h1]
    · rw [if_neg (fun e => h1 e.1), if_neg h1]
  rw [e]
  have hl2 : (if 1 ≤ i then bit b (i - 1) else 0) < 2 := by split <;> omega
  split
  · rfl
  · omega
theorem plus_pt (a b : List UInt8) : plus a b = tb fun i => gb a i ^^^ gb b i := plus_eq a b
theorem flip_eq (b : List UInt8) (i : Nat) : flip b i = b.set (i / 8) (gb b (i / 8) ^^^ (1 <<< UInt8.ofNat (7 - i % 8))) := rfl
attribute [irreducible] flip shp fls
end Go.Proofs.YtbainiblffcjgaaDoor.Ghash
namespace Go.Proofs.YtbainiblffcjgaaDoor.Aes
set_option linter.unusedVariables false
set_option linter.unusedSimpArgs false
open _root_.Go.Proofs.YtbainiblffcjgaaDoor.Field

/-- Columns by other factors. -/
def mixBy (f : Nat → Nat → UInt8) (b : List UInt8) : List UInt8 := tb fun i => col f b (i / 4) (i % 4)
theorem mixBy_length (f : Nat → Nat → UInt8) (b : List UInt8) : (mixBy f b).length = 16 := tb_length _
def over (f g : Nat → Nat → UInt8) (j k : Nat) : UInt8 := tm (f j 0) (g 0 k) ^^^ tm (f j 1) (g 1 k) ^^^ tm (f j 2) (g 2 k) ^^^ tm (f j 3) (g 3 k)
theorem mixBy_mixBy (f g : Nat → Nat → UInt8) (b : List UInt8) : mixBy g (mixBy f b) = mixBy (over f g) b :=
  tb_ext fun i hi => by rw [mixBy, col_col f g b (i / 4) (i % 4) (by omega)]; rfl
theorem mix_by (b : List UInt8) : mix b = mixBy fac b := mix_eq b
theorem fac_four : (List.range 4).all (fun k => (List.range 4).all fun j => over fac (over fac (over fac fac)) j k == if j = k then 1 else 0) = true := by decide +kernel
theorem over_four (j k : Nat) (hj : j < 4) (hk : k < 4) : over fac (over fac (over fac fac)) j k = if j = k then 1 else 0 := by
  have := List.all_eq_true.1 (List.all_eq_true.1 fac_four k (List.mem_range.2 hk)) j (List.mem_range.2 hj)
  rwa [beq_iff_eq] at this
theorem mix_mix4 (b : List UInt8) (h : b.length = 16) : mix (mix (mix (mix b))) = b := by
  rw [mix_by, mix_by, mix_by, mix_by, mixBy_mixBy, mixBy_mixBy, mixBy_mixBy]
  refine tb_eq h fun i hi => ?_
  rw [col, over_four 0 _ (by omega) (by omega), over_four 1 _ (by omega) (by omega), over_four 2 _ (by omega) (by omega), over_four 3 _ (by omega) (by omega), one_of_four _ _ _ (by omega)]
  congr 1
  omega
/-- Mixed three times, it is mixed back. -/
theorem mix_mix3 (b : List UInt8) (h : b.length = 16) : mix (mix (mix b)) = unmix b := by
  have := mix_mix4 (unmix b) (unmix_length _)
  rwa [mix_unmix b h] at this
theorem rows_at (b : List UInt8) : rows b = tb fun i => gb b ((i + 4 * (i % 4) * 1) % 16) := by
  rw [rows_eq]; exact tb_ext fun i hi => by congr 1; omega
theorem unrows_at (b : List UInt8) : unrows b = tb fun i => gb b ((i + 4 * (i % 4) * 3) % 16) := by
  rw [unrows_eq]; exact tb_ext fun i hi => by congr 1; omega
theorem tm_three (x : UInt8) : tm x 3 = x ^^^ tm x 2 := by
  rw [show (3 : UInt8) = 1 ^^^ 2 by decide +kernel, tm_xor, tm_one]
theorem short0 (p q r s x y : UInt8) : x ^^^ (q ^^^ y) ^^^ r ^^^ s = p ^^^ q ^^^ r ^^^ s ^^^ p ^^^ (x ^^^ y) := by
  have e : p ^^^ q ^^^ r ^^^ s ^^^ p ^^^ (x ^^^ y) = (p ^^^ p) ^^^ (x ^^^ (q ^^^ y) ^^^ r ^^^ s) := by ac_rfl
  rw [e, UInt8.xor_self, UInt8.zero_xor]
theorem short1 (p q r s x y : UInt8) : p ^^^ x ^^^ (r ^^^ y) ^^^ s = p ^^^ q ^^^ r ^^^ s ^^^ q ^^^ (x ^^^ y) := by
  have e : p ^^^ q ^^^ r ^^^ s ^^^ q ^^^ (x ^^^ y) = (q ^^^ q) ^^^ (p ^^^ x ^^^ (r ^^^ y) ^^^ s) := by ac_rfl
  rw [e, UInt8.xor_self, UInt8.zero_xor]
theorem short2 (p q r s x y : UInt8) : p ^^^ q ^^^ x ^^^ (s ^^^ y) = p ^^^ q ^^^ r ^^^ s ^^^ r ^^^ (x ^^^ y) := by
  have e : p ^^^ q ^^^ r ^^^ s ^^^ r ^^^ (x ^^^ y) = (r ^^^ r) ^^^ (p ^^^ q ^^^ x ^^^ (s ^^^ y)) := by ac_rfl
  rw [e, UInt8.xor_self, UInt8.zero_xor]
theorem short3 (p q r s x y : UInt8) : (p ^^^ y) ^^^ q ^^^ r ^^^ x = p ^^^ q ^^^ r ^^^ s ^^^ s ^^^ (x ^^^ y) := by
  have e : p ^^^ q ^^^ r ^^^ s ^^^ s ^^^ (x ^^^ y) = (s ^^^ s) ^^^ ((p ^^^ y) ^^^ q ^^^ r ^^^ x) := by ac_rfl
  rw [e, UInt8.xor_self, UInt8.zero_xor]
/-- A column's byte, the short way. -/
theorem col_short (b : List UInt8) (c k : Nat) (hk : k < 4) :
    col fac b c k = gb b (4 * c) ^^^ gb b (4 * c + 1) ^^^ gb b (4 * c + 2) ^^^ gb b (4 * c + 3) ^^^ gb b (4 * c + k) ^^^ tm (gb b (4 * c + k) ^^^ gb b (4 * c + (k + 1) % 4)) 2 := by
  have hx (x y : UInt8) : tm (x ^^^ y) 2 = tm x 2 ^^^ tm y 2 := xor_tm _ _ _
  have f00 : fac 0 0 = 2 := by decide +kernel
  have f10 : fac 1 0 = 3 := by decide +kernel
  have f20 : fac 2 0 = 1 := by decide +kernel
  have f30 : fac 3 0 = 1 := by decide +kernel
  have f01 : fac 0 1 = 1 := by decide +kernel
  have f11 : fac 1 1 = 2 := by decide +kernel
  have f21 : fac 2 1 = 3 := by decide +kernel
  have f31 : fac 3 1 = 1 := by decide +kernel
  have f02 : fac 0 2 = 1 := by decide +kernel
  have f12 : fac 1 2 = 1 := by decide +kernel
  have f22 : fac 2 2 = 2 := by decide +kernel
  have f32 : fac 3 2 = 3 := by decide +kernel
  have f03 : fac 0 3 = 3 := by decide +kernel
  have f13 : fac 1 3 = 1 := by decide +kernel
  have f23 : fac 2 3 = 1 := by decide +kernel
  have f33 : fac 3 3 = 2 := by decide +kernel
  rw [hx, col]
  have : k = 0 ∨ k = 1 ∨ k = 2 ∨ k = 3 := by omega
  rcases this with rfl | rfl | rfl | rfl
  · rw [f00, f10, f20, f30, tm_three, tm_one, tm_one]
    show _ = gb b (4 * c) ^^^ gb b (4 * c + 1) ^^^ gb b (4 * c + 2) ^^^ gb b (4 * c + 3) ^^^ gb b (4 * c) ^^^ (tm (gb b (4 * c)) 2 ^^^ tm (gb b (4 * c + 1)) 2)
    exact short0 _ _ _ _ _ _
  · rw [f01, f11, f21, f31, tm_three, tm_one, tm_one]
    show _ = gb b (4 * c) ^^^ gb b (4 * c + 1) ^^^ gb b (4 * c + 2) ^^^ gb b (4 * c + 3) ^^^ gb b (4 * c + 1) ^^^ (tm (gb b (4 * c + 1)) 2 ^^^ tm (gb b (4 * c + 2)) 2)
    exact short1 _ _ _ _ _ _
  · rw [f02, f12, f22, f32, tm_three, tm_one, tm_one]
    show _ = gb b (4 * c) ^^^ gb b (4 * c + 1) ^^^ gb b (4 * c + 2) ^^^ gb b (4 * c + 3) ^^^ gb b (4 * c + 2) ^^^ (tm (gb b (4 * c + 2)) 2 ^^^ tm (gb b (4 * c + 3)) 2)
    exact short2 _ _ _ _ _ _
  · rw [f03, f13, f23, f33, tm_three, tm_one, tm_one]
    show _ = gb b (4 * c) ^^^ gb b (4 * c + 1) ^^^ gb b (4 * c + 2) ^^^ gb b (4 * c + 3) ^^^ gb b (4 * c + 3) ^^^ (tm (gb b (4 * c + 3)) 2 ^^^ tm (gb b (4 * c)) 2)
    exact short3 _ _ _ _ _ _
end Go.Proofs.YtbainiblffcjgaaDoor.Aes
namespace Go.Proofs.YtbainiblffcjgaaDoor.Aes
set_option linter.unusedVariables false
set_option linter.unusedSimpArgs false
open Go Go.RowKit Kit
open Field (cb box back)

/-- 256 bytes by their places. -/
def tt (f : Nat → UInt8) : List UInt8 := (List.range 256).map f
theorem tt_length (f : Nat → UInt8) : (tt f).length = 256 := by simp [tt]
theorem tt_get (f : Nat → UInt8) (k : Nat) (h : k < 256) : (tt f)[k]? = some (f k) := by
  rw [tt, List.getElem?_map, List.getElem?_range h]; rfl
theorem tt_ext {f g : Nat → UInt8} (h : ∀ i, i < 256 → f i = g i) : tt f = tt g := List.map_congr_left fun i hi => h i (List.mem_range.1 hi)
theorem tt_set (f : Nat → UInt8) (k : Nat) (x : UInt8) : (tt f).set k x = tt fun i => if i = k then x else f i := by
  apply List.ext_getElem (by simp [tt_length])
  intro i h1 h2
  rw [List.getElem_set]
  simp only [tt, List.getElem_map, List.getElem_range]
  by_cases h : i = k
  · rw [if_pos h.symm, if_pos h]
  · rw [if_neg (fun e => h e.symm), if_neg h]
theorem tt_zero : (tt fun _ => 0) = List.replicate 256 0 := by decide +kernel

def BX : List UInt8 := tt fun i => box (UInt8.ofNat i)
def BK : List UInt8 := tt fun i => back (UInt8.ofNat i)
/-- The tables so far: of the first i bytes. -/
def bxs (i : Nat) : List UInt8 := tt fun j => if j < i then box (UInt8.ofNat j) else 0
def bks (i : Nat) : List UInt8 := tt fun j => if (back (UInt8.ofNat j)).toNat < i then back (UInt8.ofNat j) else 0
theorem bxs_zero : bxs 0 = List.replicate 256 0 := by rw [← tt_zero]; exact tt_ext fun i _ => if_neg (by omega)
theorem bks_zero : bks 0 = List.replicate 256 0 := by rw [← tt_zero]; exact tt_ext fun i _ => if_neg (by omega)
theorem bxs_all : bxs 256 = BX := tt_ext fun i h => if_pos h
theorem bks_all : bks 256 = BK := tt_ext fun i _ => if_pos (UInt8.toNat_lt _)
theorem bxs_set (i : Nat) : (bxs i).set i (box (UInt8.ofNat i)) = bxs (i + 1) := by
  rw [bxs, tt_set]
  refine tt_ext fun j _ => ?_
  by_cases h : j = i
  · subst h; rw [if_pos rfl, if_pos (Nat.lt_succ_self _)]
  · rw [if_neg h]
    by_cases h2 : j < i
    · rw [if_pos h2, if_pos (by omega)]
    · rw [if_neg h2, if_neg (by omega)]
theorem bks_set (i : Nat) (hi : i < 256) : (bks i).set (box (UInt8.ofNat i)).toNat (UInt8.ofNat i) = bks (i + 1) := by
  rw [bks, tt_set]
  refine tt_ext fun j hj => ?_
  have hn : (UInt8.ofNat i).toNat = i := by rw [UInt8.toNat_ofNat']; omega
  by_cases h : j = (box (UInt8.ofNat i)).toNat
  · have hb : back (UInt8.ofNat j) = UInt8.ofNat i := by rw [h, UInt8.ofNat_toNat, Field.back_box]
    rw [if_pos h, hb, hn, if_pos (Nat.lt_succ_self _)]
  · rw [if_neg h]
    have hne : (back (UInt8.ofNat j)).toNat ≠ i := fun e => h (by
      have h1 : back (UInt8.ofNat j) = UInt8.ofNat i := by rw [← e, UInt8.ofNat_toNat]
      rw [← h1, Field.box_back, UInt8.toNat_ofNat']; omega)
    by_cases h2 : (back (UInt8.ofNat j)).toNat < i
    · rw [if_pos h2, if_pos (by omega)]
    · rw [if_neg h2, if_neg (by omega)]
theorem BX_get (x : UInt8) : BX[x.toNat]? = some (box x) := by rw [BX, tt_get _ _ x.toNat_lt, UInt8.ofNat_toNat]
theorem BK_get (x : UInt8) : BK[x.toNat]? = some (back x) := by rw [BK, tt_get _ _ x.toNat_lt, UInt8.ofNat_toNat]
theorem bxs_length (i : Nat) : (bxs i).length = 256 := tt_length _
theorem bks_length (i : Nat) : (bks i).length = 256 := tt_length _
theorem BX_length : BX.length = 256 := tt_length _
theorem BK_length : BK.length = 256 := tt_length _
attribute [irreducible] BX BK bxs bks

set_option maxRecDepth 100000
/-- A cipher's cells. -/
def cph (N : Nat) (K bx bk : List UInt8) : List Value := .int .i64 (N : Int) :: bvs (K ++ (bx ++ bk))
theorem cph_length {N : Nat} {K bx bk : List UInt8} (hK : K.length = 240) (hx : bx.length = 256) (hk : bk.length = 256) : (cph N K bx bk).length = 753 := by
  rw [cph, List.length_cons, bvs_length, List.length_append, List.length_append, hK, hx, hk]
theorem cph_zero (N : Nat) (K bx bk : List UInt8) : (cph N K bx bk)[0]? = some (.int .i64 (N : Int)) := rfl
theorem bvs_at {l : List UInt8} {i : Nat} {x : UInt8} (h : l[i]? = some x) : (bvs l)[i]? = some (.int .u8 (cb x)) := by
  rw [bvs, List.getElem?_map, h]; rfl
theorem cph_key {N : Nat} {K bx bk : List UInt8} (hK : K.length = 240) (i : Nat) (h : i < 240) : (cph N K bx bk)[1 + i]? = some (.int .u8 (cb (gb K i))) := by
  rw [cph, Nat.add_comm, List.getElem?_cons_succ]
  exact bvs_at (by rw [List.getElem?_append_left (by omega), List.getElem?_eq_getElem (by omega), gb, List.getD, List.getElem?_eq_getElem (by omega)]; rfl)
theorem cph_bx {N : Nat} {K bx bk : List UInt8} (hK : K.length = 240) (hx : bx.length = 256) (i : Nat) (x : UInt8) (h : bx[i]? = some x) : (cph N K bx bk)[241 + i]? = some (.int .u8 (cb x)) := by
  have hi : i < 256 := by rw [← hx]; exact (List.getElem?_eq_some_iff.1 h).1
  rw [cph, show 241 + i = (240 + i) + 1 by omega, List.getElem?_cons_succ]
  exact bvs_at (by rw [List.getElem?_append_right (by omega), hK, List.getElem?_append_left (by omega), ← h]; congr 1; omega)
theorem cph_bk {N : Nat} {K bx bk : List UInt8} (hK : K.length = 240) (hx : bx.length = 256) (i : Nat) (x : UInt8) (h : bk[i]? = some x) : (cph N K bx bk)[497 + i]? = some (.int .u8 (cb x)) := by
  rw [cph, show 497 + i = (496 + i) + 1 by omega, List.getElem?_cons_succ]
  exact bvs_at (by rw [List.getElem?_append_right (by omega), hK, List.getElem?_append_right (by omega), hx, ← h]; congr 1; omega)
theorem cph_setx {N : Nat} {K bx bk : List UInt8} (hK : K.length = 240) (i : Nat) (x : UInt8) (hi : i < bx.length) : (cph N K bx bk).set (241 + i) (.int .u8 (cb x)) = cph N K (bx.set i x) bk := by
  rw [cph, show 241 + i = (240 + i) + 1 by omega, List.set_cons_succ, bvs_setb, List.set_append_right _ _ (by omega), hK, show 240 + i - 240 = i by omega, List.set_append_left _ _ hi]
  rfl
theorem cph_setk {N : Nat} {K bx bk : List UInt8} (hK : K.length = 240) (hx : bx.length = 256) (i : Nat) (x : UInt8) : (cph N K bx bk).set (497 + i) (.int .u8 (cb x)) = cph N K bx (bk.set i x) := by
  rw [cph, show 497 + i = (496 + i) + 1 by omega, List.set_cons_succ, bvs_setb, List.set_append_right _ _ (by omega), hK, List.set_append_right _ _ (by omega), hx, show 496 + i - 240 - 256 = i by omega]
  rfl
attribute [irreducible] cph
end Go.Proofs.YtbainiblffcjgaaDoor.Aes
