/- Sixteen bytes that are made one by one. No program is named here. · A byte of a block known whole; arrays of sixteen bytes. · Bits of blocks turned one by one; the product with x, as the document's loops make it. No program is named here. -/
import Derived.Test.YtmmpmncioifeoaaZG23
import Derived.Test.YtmmpmncioifeoaaZG22
import Derived.Test.YtmmpmncioifeoaaZG24
import Derived.Test.YtmmpmncioifeoaaZG06
namespace Go.Proofs.Ytmmpmncioifeoaa.Aes
set_option linter.unusedVariables false
set_option linter.unusedSimpArgs false
open Go Go.RowKit Kit
open Field (cb)

/-- The first k bytes are made. -/
def pt (f g : Nat → UInt8) (k : Nat) : List UInt8 := tb fun i => if i < k then f i else g i
theorem pt_eq (f g : Nat → UInt8) (k : Nat) : pt f g k = tb fun i => if i < k then f i else g i := rfl
theorem pt_length (f g : Nat → UInt8) (k : Nat) : (pt f g k).length = 16 := tb_length _
theorem pt_zero (f g : Nat → UInt8) : pt f g 0 = tb g := tb_ext fun i _ => if_neg (by omega)
theorem pt_all (f g : Nat → UInt8) : pt f g 16 = tb f := tb_ext fun i h => if_pos h
theorem set_tb (f : Nat → UInt8) (k : Nat) (x : UInt8) : (tb f).set k x = tb fun i => if i = k then x else f i := by
  apply List.ext_getElem (by simp [tb_length])
  intro i h1 h2
  rw [List.getElem_set]
  simp only [tb, List.getElem_map, List.getElem_range]
  by_cases h : i = k
  · rw [if_pos h.symm, if_pos h]
  · rw [if_neg (fun e => h e.symm), if_neg h]
theorem pt_set (f g : Nat → UInt8) (k : Nat) : (pt f g k).set k (f k) = pt f g (k + 1) := by
  rw [pt, set_tb, pt]
  refine tb_ext fun i _ => ?_
  by_cases h : i = k
  · subst h; rw [if_pos rfl, if_pos (Nat.lt_succ_self _)]
  · rw [if_neg h]
    by_cases h2 : i < k
    · rw [if_pos h2, if_pos (by omega)]
    · rw [if_neg h2, if_neg (by omega)]
theorem tb_get (f : Nat → UInt8) (k : Nat) (h : k < 16) : (bvs (tb f))[k]? = some (.int .u8 (cb (f k))) := by
  rw [bvs, List.getElem?_map, tb, List.getElem?_map, List.getElem?_range h]; rfl
theorem pt_get (f g : Nat → UInt8) (k : Nat) (h : k < 16) : (bvs (pt f g k))[k]? = some (.int .u8 (cb (g k))) := by
  rw [pt, tb_get _ _ h, if_neg (Nat.lt_irrefl k)]
theorem gb_get (b : List UInt8) (i : Nat) (h : i < b.length) : (bvs b)[i]? = some (.int .u8 (cb (gb b i))) := by
  rw [bvs, List.getElem?_map, List.getElem?_eq_getElem h, gb, List.getD, List.getElem?_eq_getElem h]; rfl
theorem bvs_setb (l : List UInt8) (i : Nat) (x : UInt8) : (bvs l).set i (.int .u8 (cb x)) = bvs (l.set i x) := by
  rw [bvs, bvs, List.map_set]; rfl
attribute [irreducible] pt
/-- A byte of a row. -/
theorem row_byte {w : World} {A : Option Addr} {W : List UInt8} (h : Row w A (bvs W)) {i : Nat} (hi : i < W.length) : ∃ B o, A = some ⟨B, o, none⟩ ∧ ∀ j, j < W.length → w.cell? ⟨B, o + j, none⟩ = some (.int .u8 (cb (gb W j))) := by
  rcases h with h | ⟨B, o, hA, hB, hc⟩
  · have h0 : (bvs W).length = 0 := by rw [h]; rfl
    rw [bvs_length] at h0; omega
  · exact ⟨B, o, hA, fun j hj => hc j _ (gb_get W j hj)⟩
theorem add_pt (W b : List UInt8) (r : Nat) : add (rk W r) b = tb fun i => gb b i ^^^ gb W (16 * r + i) := by
  have h : add (rk W r) b = tb fun i => gb b i ^^^ gb (rk W r) i := add_eq _ _
  rw [h]
  exact tb_ext fun i hi => by rw [rk_eq, gb_tb _ i hi]
end Go.Proofs.Ytmmpmncioifeoaa.Aes
namespace Go.Proofs.Ytmmpmncioifeoaa.Aes
set_option linter.unusedVariables false
set_option linter.unusedSimpArgs false
open Go Go.RowKit Kit
open Field (cb cb_inj)

theorem arr16 : Try.prog.underlying 141 = some (.array 16 5) := by kernel_rfl
theorem blk_byte {w : World} {g : Nat} {t : TypeId} {b : List UInt8} (h : Blk w g t (bvs b)) (i : Nat) (hi : i < b.length) : w.cell? ⟨g, i, none⟩ = some (.int .u8 (cb (gb b i))) := by rw [h.cell, gb_get b i hi]

end Go.Proofs.Ytmmpmncioifeoaa.Aes
namespace Go.Proofs.Ytmmpmncioifeoaa.Ghash
set_option linter.unusedVariables false
set_option linter.unusedSimpArgs false
open Go Go.RowKit Kit Gf
open Aes (gb tb tb_length gb_tb tb_gb tb_ext tb_eq pt pt_all pt_zero gb_get)
open Field (cb)

/-- Bit i is the other one. -/
def flip (b : List UInt8) (i : Nat) : List UInt8 := b.set (i / 8) (gb b (i / 8) ^^^ (1 <<< UInt8.ofNat (7 - i % 8)))
theorem flip_length (b : List UInt8) (i : Nat) : (flip b i).length = b.length := List.length_set
theorem gb_set (b : List UInt8) (k j : Nat) (x : UInt8) (h : k < b.length) : gb (b.set k x) j = if j = k then x else gb b j := by
  rw [gb, gb, List.getD, List.getD, List.getElem?_set]
  by_cases hj : k = j
  · subst hj; rw [if_pos rfl, if_pos h, if_pos rfl]; rfl
  · rw [if_neg hj, if_neg (fun e => hj e.symm)]
theorem shl_bit (k j : Nat) (hk : k < 8) (hj : j < 8) : (1 <<< UInt8.ofNat (7 - k) : UInt8).toNat / 2 ^ (7 - j) % 2 = if j = k then 1 else 0 := by
  have h1 : k = 0 ∨ k = 1 ∨ k = 2 ∨ k = 3 ∨ k = 4 ∨ k = 5 ∨ k = 6 ∨ k = 7 := by omega
  have h2 : j = 0 ∨ j = 1 ∨ j = 2 ∨ j = 3 ∨ j = 4 ∨ j = 5 ∨ j = 6 ∨ j = 7 := by omega
  rcases h1 with rfl | rfl | rfl | rfl | rfl | rfl | rfl | rfl <;> rcases h2 with rfl | rfl | rfl | rfl | rfl | rfl | rfl | rfl <;> decide
theorem bit_flip (b : List UInt8) (i j : Nat) (hb : b.length = 16) (hi : i < 128) : bit (flip b i) j = if j = i then (bit b j + 1) % 2 else bit b j := by
  rw [bit, flip, gb_set _ _ _ _ (by omega)]
  by_cases hj : j / 8 = i / 8
  · rw [if_pos hj, UInt8.toNat_xor, bit_xor, shl_bit _ _ (by omega) (by omega), ← hj]
    by_cases h : j = i
    · subst h; rw [if_pos rfl, if_pos rfl]; rfl
    · rw [if_neg h, if_neg (by omega), Nat.add_zero, Nat.mod_mod]; rfl
  · rw [if_neg hj, if_neg (by intro e; subst e; exact hj rfl)]; rfl
/-- The document's loop of the product with x. -/
def shp (b : List UInt8) : Nat → List UInt8
  | 0 => none16
  | k + 1 => if bit b k = 1 then flip (shp b k) (k + 1) else shp b k
theorem shp_zero (b : List UInt8) : shp b 0 = none16 := rfl
theorem shp_one (b : List UInt8) (k : Nat) (h : bit b k = 1) : shp b (k + 1) = flip (shp b k) (k + 1) := by rw [shp, if_pos h]
theorem shp_none (b : List UInt8) (k : Nat) (h : bit b k ≠ 1) : shp b (k + 1) = shp b k := by rw [shp, if_neg h]
theorem shp_length (b : List UInt8) (k : Nat) : (shp b k).length = 16 := by
  induction k with
  | zero => rfl
  | succ k ih => rw [shp]; split
                 · rw [flip_length, ih]
                 · exact ih
theorem bit_none (i : Nat) : bit none16 i = 0 := by
  rw [bit, none16, gb, List.getD, List.getElem?_replicate]
  split <;> simp
theorem bit_shp (b : List UInt8) (k : Nat) (hk : k ≤ 127) (i : Nat) : bit (shp b k) i = if 1 ≤ i ∧ i ≤ k then bit b (i - 1) else 0 := by
  induction k with
  | zero => rw [shp_zero, bit_none, if_neg (by omega)]
  | succ k ih =>
    have h := ih (by omega)
    by_cases hb : bit b k = 1
    · rw [shp_one _ _ hb, bit_flip _ _ _ (shp_length _ _) (by omega), h]
      by_cases hi : i = k + 1
      · subst hi; rw [if_pos rfl, if_neg (by omega), if_pos (by omega)]; simp [hb]
      · rw [if_neg hi]
        by_cases h2 : 1 ≤ i ∧ i ≤ k
        · rw [if_pos h2, if_pos (by omega)]
        · rw [if_neg h2, if_neg (by omega)]
    · have hb0 : bit b k = 0 := by have := bit_lt b k; omega
      rw [shp_none _ _ hb, h]
      by_cases hi : i = k + 1
      · subst hi; rw [if_neg (by omega), if_pos (by omega)]; simp [hb0]
      · by_cases h2 : 1 ≤ i ∧ i ≤ k
        · rw [if_pos h2, if_pos (by omega)]
        · rw [if_neg h2, if_neg (by omega)]
def KQ : List Nat := [0, 1, 2, 7]
/-- What comes back over the top. -/
def fls (b : List UInt8) : Nat → List UInt8
  | 0 => b
  | k + 1 => flip (fls b k) (KQ.getD k 0)
theorem fls_zero (b : List UInt8) : fls b 0 = b := rfl
theorem fls_succ (b : List UInt8) (k : Nat) : fls b (k + 1) = flip (fls b k) (KQ.getD k 0) := rfl
theorem fls_length (b : List UInt8) (k : Nat) : (fls b k).length = b.length := by
  induction k with
  | zero => rfl
  | succ k ih => rw [fls_succ, flip_length, ih]
theorem bit_fls (b : List UInt8) (hb : b.length = 16) (i : Nat) : bit (fls b 4) i = if i = 0 ∨ i = 1 ∨ i = 2 ∨ i = 7 then (bit b i + 1) % 2 else bit b i := by
  rw [fls_succ, bit_flip _ _ _ (by rw [fls_length, hb]) (by decide), fls_succ, bit_flip _ _ _ (by rw [fls_length, hb]) (by decide), fls_succ, bit_flip _ _ _ (by rw [fls_length, hb]) (by decide), fls_succ, bit_flip _ _ _ (by rw [fls_length, hb]) (by decide), fls_zero]
  rw [show KQ.getD 3 0 = 7 from rfl, show KQ.getD 2 0 = 2 from rfl, show KQ.getD 1 0 = 1 from rfl, show KQ.getD 0 0 = 0 from rfl]
  have hl := bit_lt b i
  by_cases h7 : i = 7
  · subst h7; simp
  · by_cases h2 : i = 2
    · subst h2; simp
    · by_cases h1 : i = 1
      · subst h1; simp
      · by_cases h0 : i = 0
        · subst h0; simp
        · simp [h7, h2, h1, h0]
theorem bit_shift (b : List UInt8) (i : Nat) (hi : i < 128) : bit (shift b) i = ((if 1 ≤ i then bit b (i - 1) else 0) + (if bit b 127 = 1 then 135 else 0) / 2 ^ i % 2) % 2 := by
  have h127 : (num b).testBit 127 = decide (bit b 127 = 1) := by rw [Nat.testBit_eq_decide_div_mod_eq, num_bit b 127 (by omega)]
  rw [← num_bit _ i hi, num_shift, xt, bit_xor, h127]
  congr 2
  · by_cases h1 : 1 ≤ i
    · rw [if_pos h1, ← num_bit b (i - 1) (by omega)]
      have e1 := Nat.testBit_mod_two_pow (2 * num b) 128 i
      have e2 : (2 * num b).testBit i = (num b).testBit (i - 1) := by
        rw [show 2 * num b = num b * 2 ^ 1 by omega, Nat.testBit_mul_two_pow]; simp [h1]
      rw [Nat.testBit_eq_decide_div_mod_eq, e2, Nat.testBit_eq_decide_div_mod_eq] at e1
      simp only [hi, decide_true, Bool.true_and, decide_eq_decide] at e1
      have a1 := Nat.mod_lt (2 * num b % 2 ^ 128 / 2 ^ i) (show 0 < 2 by decide)
      have a2 := Nat.mod_lt (num b / 2 ^ (i - 1)) (show 0 < 2 by decide)
      by_cases hq : num b / 2 ^ (i - 1) % 2 = 1
      · rw [e1.2 hq, hq]
      · have := fun h => hq (e1.1 h); omega
    · obtain rfl : i = 0 := by omega
      rw [if_neg h1]; omega
  · congr 2
    by_cases h : bit b 127 = 1 <;> simp [h]
/-- THE LOOPS MAKE THE PRODUCT. -/
theorem shift_no (b : List UInt8) (h : bit b 127 ≠ 1) : shp b 127 = shift b := by
  refine bits_ext (shp_length _ _) (shift_length _) fun i hi => ?_
  rw [bit_shp _ _ (Nat.le_refl _), bit_shift b i hi, if_neg h, Nat.zero_div, Nat.zero_mod, Nat.add_zero]
  by_cases h1 : 1 ≤ i
  · rw [if_pos ⟨h1, by omega⟩, if_pos h1, Nat.mod_eq_of_lt (bit_lt _ _)]
  · rw [if_neg (fun e => h1 e.1), if_neg h1]
theorem bits135 (i : Nat) (hi : i < 128) : 135 / 2 ^ i % 2 = if i = 0 ∨ i = 1 ∨ i = 2 ∨ i = 7 then 1 else 0 := by
  by_cases h : i < 8
  · have : i = 0 ∨ i = 1 ∨ i = 2 ∨ i = 3 ∨ i = 4 ∨ i = 5 ∨ i = 6 ∨ i = 7 := by omega
    rcases this with rfl | rfl | rfl | rfl | rfl | rfl | rfl | rfl <;> decide
  · have : 135 < 2 ^ i := Nat.lt_of_lt_of_le (show 135 < 2 ^ 8 by decide) (Nat.pow_le_pow_right (by decide) (by omega))
    rw [Nat.div_eq_of_lt this, if_neg (by omega)]
theorem shift_yes (b : List UInt8) (h : bit b 127 = 1) : fls (shp b 127) 4 = shift b := by
  refine bits_ext (by rw [fls_length, shp_length]) (shift_length _) fun i hi => ?_
  rw [bit_fls _ (shp_length _ _), bit_shp _ _ (Nat.le_refl _), bit_shift b i hi, if_pos h, bits135 i hi]
  have hl := bit_lt b (i - 1)
  have e : (if 1 ≤ i ∧ i ≤ 127 then bit b (i - 1) else 0) = (if 1 ≤ i then bit b (i - 1) else 0) := by
    by_cases h1 : 1 ≤ i
    · rw [if_pos ⟨h1, by omega⟩, if_pos h1]
    · rw [if_neg (fun e => h1 e.1), if_neg h1]
  rw [e]
  have hl2 : (if 1 ≤ i then bit b (i - 1) else 0) < 2 := by split <;> omega
  split
  · rfl
  · omega
theorem plus_pt (a b : List UInt8) : plus a b = tb fun i => gb a i ^^^ gb b i := plus_eq a b
theorem flip_eq (b : List UInt8) (i : Nat) : flip b i = b.set (i / 8) (gb b (i / 8) ^^^ (1 <<< UInt8.ofNat (7 - i % 8))) := rfl
attribute [irreducible] flip shp fls
end Go.Proofs.Ytmmpmncioifeoaa.Ghash
