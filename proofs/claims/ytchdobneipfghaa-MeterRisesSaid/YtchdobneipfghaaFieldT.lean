/- The field of 256 elements on bytes: what package field's own calls reckon, step by step, is what the field has. No program is named here. -/
import Derived.Test.YtchdobneipfghaaFieldS
import Derived.Test.YtchdobneipfghaaKit
namespace Go.Proofs.Ytchdobneipfghaa.Field
set_option linter.unusedVariables false
set_option linter.unusedSimpArgs false
open Go Go.RowKit Kit Gf

theorem all8 (p : UInt8 → Bool) (h : (List.range 256).all (fun a => p (UInt8.ofNat a)) = true) (a : UInt8) : p a = true := by
  have := List.all_eq_true.1 h a.toNat (List.mem_range.2 a.toNat_lt)
  rwa [UInt8.ofNat_toNat] at this

/-- Bit i, as a byte. -/
def bitOf (b : UInt8) (i : Nat) : UInt8 := (b >>> UInt8.ofNat i) &&& 1
def keep (a b : UInt8) : UInt8 := a &&& -b
set_option maxRecDepth 100000 in
theorem bitOf_nat (b : UInt8) (i : Nat) (h : i < 8) : bitOf b i = if b.toNat.testBit i then 1 else 0 := by
  have h8 : ∀ i, i < 8 → (List.range 256).all (fun b => bitOf (UInt8.ofNat b) i == if (UInt8.ofNat b).toNat.testBit i then 1 else 0) = true := by
    intro i hi
    have : i = 0 ∨ i = 1 ∨ i = 2 ∨ i = 3 ∨ i = 4 ∨ i = 5 ∨ i = 6 ∨ i = 7 := by omega
    rcases this with rfl | rfl | rfl | rfl | rfl | rfl | rfl | rfl <;> decide +kernel
  exact beq_iff_eq.1 (all8 (fun b => bitOf b i == if b.toNat.testBit i then 1 else 0) (h8 i h) b)
theorem keep_one (a : UInt8) : keep a 1 = a := beq_iff_eq.1 (all8 (fun a => keep a 1 == a) (by decide +kernel) a)
theorem keep_zero (a : UInt8) : keep a 0 = 0 := beq_iff_eq.1 (all8 (fun a => keep a 0 == 0) (by decide +kernel) a)
theorem keep_bit (a b : UInt8) (i : Nat) (h : i < 8) : keep a (bitOf b i) = if b.toNat.testBit i then a else 0 := by
  rw [bitOf_nat b i h]
  split
  · exact keep_one a
  · exact keep_zero a
set_option maxRecDepth 100000 in
theorem twice_eq (a : UInt8) : (a <<< 1) ^^^ keep 27 (a >>> 7) = tm a 2 :=
  beq_iff_eq.1 (all8 (fun a => (a <<< 1) ^^^ keep 27 (a >>> 7) == tm a 2) (by decide +kernel) a)
/-- The product's loop. -/
def psum (a b : UInt8) : Nat → UInt8
  | 0 => 0
  | i + 1 => psum a b i ^^^ keep (twices a i) (bitOf b i)
theorem psum_zero (a b : UInt8) : psum a b 0 = 0 := rfl
theorem psum_succ (a b : UInt8) (i : Nat) : psum a b (i + 1) = psum a b i ^^^ keep (twices a i) (bitOf b i) := rfl
theorem twices_zero (a : UInt8) : twices a 0 = a := rfl
theorem twices_succ (a : UInt8) (n : Nat) : twices a (n + 1) = tm (twices a n) 2 := rfl
theorem twices_nat (a : UInt8) (n : Nat) : (twices a n).toNat = xts 8 27 n a.toNat := by
  induction n with
  | zero => rfl
  | succ n ih => rw [twices_succ, twice_tm, ih, xts_succ]
theorem psum_nat (a b : UInt8) (n : Nat) (h : n ≤ 8) : (psum a b n).toNat = mulN 8 27 a.toNat b.toNat n := by
  induction n with
  | zero => rfl
  | succ n ih =>
    rw [psum_succ, UInt8.toNat_xor, ih (by omega), keep_bit _ _ _ (by omega), mulN]
    congr 1
    split
    · exact twices_nat a n
    · rfl
theorem psum_tm (a b : UInt8) : psum a b 8 = tm a b := by
  apply UInt8.toNat_inj.1
  rw [psum_nat _ _ _ (Nat.le_refl _), tm_nat, mul]
/-- The squares of single bits. -/
def SQ : List UInt8 := [1, 4, 16, 64, 27, 108, 171, 154]
theorem SQ_length : SQ.length = 8 := rfl
def ssum (a : UInt8) : Nat → UInt8
  | 0 => 0
  | i + 1 => ssum a i ^^^ keep (SQ.getD i 0) (bitOf a i)
theorem ssum_zero (a : UInt8) : ssum a 0 = 0 := rfl
theorem ssum_succ (a : UInt8) (i : Nat) : ssum a (i + 1) = ssum a i ^^^ keep (SQ.getD i 0) (bitOf a i) := rfl
set_option maxRecDepth 100000 in
theorem ssum_tm (a : UInt8) : ssum a 8 = tm a a := beq_iff_eq.1 (all8 (fun a => ssum a 8 == tm a a) (by decide +kernel) a)
theorem power_zero (a : UInt8) : power a 0 = (a, 1) := rfl
theorem power_fst (a : UInt8) (i : Nat) : (power a (i + 1)).1 = tm (power a i).1 (power a i).1 := rfl
theorem power_snd (a : UInt8) (i : Nat) : (power a (i + 1)).2 = tm (power a i).2 (power a (i + 1)).1 := rfl
/-- A byte turned to the left. -/
def rol (a : UInt8) (k : Nat) : UInt8 := (a <<< UInt8.ofNat k) ||| (a >>> UInt8.ofNat (8 - k))
set_option maxRecDepth 100000 in
theorem bend_eq (c : UInt8) : c ^^^ rol c 1 ^^^ rol c 2 ^^^ rol c 3 ^^^ rol c 4 ^^^ 99 = bend c :=
  beq_iff_eq.1 (all8 (fun c => c ^^^ rol c 1 ^^^ rol c 2 ^^^ rol c 3 ^^^ rol c 4 ^^^ 99 == bend c) (by decide +kernel) c)
set_option maxRecDepth 100000 in
theorem back_eq (a : UInt8) : inv (rol (a ^^^ 99) 1 ^^^ rol (a ^^^ 99) 3 ^^^ rol (a ^^^ 99) 6) = back a :=
  beq_iff_eq.1 (all8 (fun a => inv (rol (a ^^^ 99) 1 ^^^ rol (a ^^^ 99) 3 ^^^ rol (a ^^^ 99) 6) == back a) (by decide +kernel) a)

/-- A byte's value. -/
def cb (a : UInt8) : Int := (a.toNat : Int)
theorem cb_bv (a : UInt8) : Value.int .u8 (cb a) = bv a := rfl
theorem ofInt_u8 (a : UInt8) : (BitVec.ofInt 8 (cb a)).toNat = a.toNat := by
  rw [cb, BitVec.ofInt_natCast, BitVec.toNat_ofNat]; exact Nat.mod_eq_of_lt a.toNat_lt
theorem wrap_u8 (n : Nat) : IntKind.u8.wrap (n : Int) = cb (UInt8.ofNat n) := by
  rw [IntKind.wrap_u8, cb]; simp
@[go_sem] theorem u8_xor (a b : UInt8) : bits .xor .u8 (cb a) (cb b) = cb (a ^^^ b) := by
  show IntKind.u8.wrap ((BitVec.ofInt 8 (cb a) ^^^ BitVec.ofInt 8 (cb b)).toNat : Int) = _
  rw [BitVec.toNat_xor, ofInt_u8, ofInt_u8, wrap_u8, ← UInt8.toNat_xor, UInt8.ofNat_toNat]
@[go_sem] theorem u8_or (a b : UInt8) : bits .or .u8 (cb a) (cb b) = cb (a ||| b) := by
  show IntKind.u8.wrap ((BitVec.ofInt 8 (cb a) ||| BitVec.ofInt 8 (cb b)).toNat : Int) = _
  rw [BitVec.toNat_or, ofInt_u8, ofInt_u8, wrap_u8, ← UInt8.toNat_or, UInt8.ofNat_toNat]
@[go_sem] theorem u8_and (a b : UInt8) : bits .and .u8 (cb a) (cb b) = cb (a &&& b) := by
  show IntKind.u8.wrap ((BitVec.ofInt 8 (cb a) &&& BitVec.ofInt 8 (cb b)).toNat : Int) = _
  rw [BitVec.toNat_and, ofInt_u8, ofInt_u8, wrap_u8, ← UInt8.toNat_and, UInt8.ofNat_toNat]
theorem cb_one : cb 1 = 1 := rfl
@[go_sem] theorem u8_and1 (a : UInt8) : bits .and .u8 (cb a) 1 = cb (a &&& 1) := u8_and a 1
@[go_sem] theorem u8_xor99 (a : UInt8) : bits .xor .u8 (cb a) 99 = cb (a ^^^ 99) := u8_xor a 99
@[go_sem] theorem u8_neg (a : UInt8) : IntKind.u8.wrap (-(cb a)) = cb (-a) := by
  have := a.toNat_lt
  rw [IntKind.wrap_u8, cb, cb, UInt8.toNat_neg, show UInt8.size = 256 by decide]; omega
theorem u8_shl (a : UInt8) (k : Nat) (h : k < 8) : IntKind.u8.wrap (cb a * 2 ^ k) = cb (a <<< UInt8.ofNat k) := by
  rw [IntKind.wrap_u8, cb, cb, UInt8.toNat_shiftLeft, Nat.shiftLeft_eq, UInt8.toNat_ofNat', show k % 2 ^ 8 % 8 = k by omega]; simp
theorem u8_shr (a : UInt8) (k : Nat) (h : k < 8) : cb a / 2 ^ k = cb (a >>> UInt8.ofNat k) := by
  rw [cb, cb, UInt8.toNat_shiftRight, Nat.shiftRight_eq_div_pow, UInt8.toNat_ofNat', show k % 2 ^ 8 % 8 = k by omega]; simp
@[go_sem] theorem u8_shl1 (a : UInt8) : IntKind.u8.wrap (cb a * (2 : Int)) = cb (a <<< 1) := u8_shl a 1 (by omega)
@[go_sem] theorem u8_shr7 (a : UInt8) : cb a / (128 : Int) = cb (a >>> 7) := u8_shr a 7 (by omega)
theorem cb_inj {a b : UInt8} : cb a = cb b ↔ a = b := ⟨fun h => UInt8.toNat_inj.1 (by unfold cb at h; omega), fun h => by rw [h]⟩
theorem cb_range (a : UInt8) : 0 ≤ cb a ∧ cb a < 256 := by have := a.toNat_lt; unfold cb; omega
theorem of_cb (n : Int) (h : 0 ≤ n ∧ n < 256) : ∃ a : UInt8, n = cb a := ⟨UInt8.ofNat n.toNat, by unfold cb; simp; omega⟩
end Go.Proofs.Ytchdobneipfghaa.Field
