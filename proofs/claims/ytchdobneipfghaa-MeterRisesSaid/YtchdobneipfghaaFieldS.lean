/- The field of 256 elements on bytes: products, inverses, the box; how the document's own calls reckon them. No program is named here. -/
import Derived.Test.YtchdobneipfghaaGf
namespace Go.Proofs.Ytchdobneipfghaa.Field
set_option linter.unusedVariables false
set_option linter.unusedSimpArgs false
open Gf

/-- The document's product: by long multiplication, then by division. -/
def up (a b : Nat) : Nat → Nat
  | 0 => 0
  | i + 1 => if b / 2 ^ i % 2 = 1 then up a b i ^^^ (a * 2 ^ i) else up a b i
def down (x : Nat) : Nat → Nat
  | 0 => x
  | k + 1 => if down x k / 2 ^ (15 - k) % 2 = 1 then down x k ^^^ (283 * 2 ^ (7 - k)) else down x k
def long (a b : Nat) : Nat := down (up a b 8) 8
theorem up_left (b n : Nat) : Add (fun a => up a b n) := by
  induction n with
  | zero => exact Add.none
  | succ n ih =>
    intro x y
    have h1 := ih x y
    have h2 := Add.times n x y
    show up (x ^^^ y) b (n + 1) = up x b (n + 1) ^^^ up y b (n + 1)
    simp only at h1 h2
    rw [up, up, up]
    split
    · rw [h1, h2, Nat.xor_assoc, Nat.xor_assoc, xor_lc (up y b n)]
    · exact h1
theorem up_right (a n : Nat) : Add (fun b => up a b n) := by
  induction n with
  | zero => exact Add.none
  | succ n ih =>
    have e : ∀ b, up a b (n + 1) = up a b n ^^^ (if b / 2 ^ n % 2 = 1 then a * 2 ^ n else 0) := fun b => by
      rw [up]; split <;> simp
    have := Add.xor ih (Add.bit n (a * 2 ^ n))
    intro x y
    show up a (x ^^^ y) (n + 1) = up a x (n + 1) ^^^ up a y (n + 1)
    rw [e, e, e]
    exact this x y
theorem down_add (n : Nat) : Add (fun x => down x n) := by
  induction n with
  | zero => exact Add.id
  | succ n ih =>
    have e : ∀ x, down x (n + 1) = down x n ^^^ (if down x n / 2 ^ (15 - n) % 2 = 1 then 283 * 2 ^ (7 - n) else 0) := fun x => by
      rw [down]; split <;> simp
    have := Add.xor ih ((Add.bit (15 - n) (283 * 2 ^ (7 - n))).comp ih)
    intro x y
    show down (x ^^^ y) (n + 1) = down x (n + 1) ^^^ down y (n + 1)
    rw [e, e, e]
    exact this x y
set_option maxRecDepth 100000 in
theorem long_bits : (List.range 8).all (fun i => (List.range 8).all fun j => long (2 ^ i) (2 ^ j) == mul 8 27 (2 ^ i) (2 ^ j)) = true := by decide +kernel
theorem long_eq (a b : Nat) (ha : a < 256) (hb : b < 256) : long a b = mul 8 27 a b := by
  refine ext (f := fun a => long a b) (g := fun a => mul 8 27 a b) ((down_add 8).comp (up_left b 8)) (mul_left 8 27 b) 8 (fun i hi => ?_) a ha
  refine ext (f := fun b => long (2 ^ i) b) (g := fun b => mul 8 27 (2 ^ i) b) ((down_add 8).comp (up_right (2 ^ i) 8)) (mul_right 8 27 _) 8 (fun j hj => ?_) b hb
  exact beq_iff_eq.1 (List.all_eq_true.1 (List.all_eq_true.1 long_bits i (List.mem_range.2 hi)) j (List.mem_range.2 hj))

/-- The product of two bytes. -/
def tm (a b : UInt8) : UInt8 := UInt8.ofNat (mul 8 27 a.toNat b.toNat)
theorem tm_nat (a b : UInt8) : (tm a b).toNat = mul 8 27 a.toNat b.toNat := by
  have := mul_lt 8 27 (by decide) a.toNat b.toNat a.toNat_lt
  rw [tm, UInt8.toNat_ofNat']; omega
theorem tm_comm (a b : UInt8) : tm a b = tm b a := by
  apply UInt8.toNat_inj.1; rw [tm_nat, tm_nat]; exact mul_comm 8 27 _ _ a.toNat_lt b.toNat_lt
theorem tm_assoc (a b c : UInt8) : tm (tm a b) c = tm a (tm b c) := by
  apply UInt8.toNat_inj.1; rw [tm_nat, tm_nat, tm_nat, tm_nat]; exact mul_assoc 8 27 _ _ _ (by decide) a.toNat_lt b.toNat_lt c.toNat_lt
theorem tm_xor (a b c : UInt8) : tm a (b ^^^ c) = tm a b ^^^ tm a c := by
  apply UInt8.toNat_inj.1; rw [tm_nat, UInt8.toNat_xor, UInt8.toNat_xor, tm_nat, tm_nat]; exact mul_xor 8 27 _ _ _
theorem tm_one (a : UInt8) : tm a 1 = a := by
  apply UInt8.toNat_inj.1; rw [tm_nat]; exact mul_one 8 27 _ (by decide)
theorem one_tm (a : UInt8) : tm 1 a = a := by rw [tm_comm, tm_one]
theorem tm_zero (a : UInt8) : tm a 0 = 0 := by
  apply UInt8.toNat_inj.1; rw [tm_nat]; exact mul_zero 8 27 _
theorem zero_tm (a : UInt8) : tm 0 a = 0 := by rw [tm_comm, tm_zero]
theorem long_tm (a b : UInt8) : long a.toNat b.toNat = (tm a b).toNat := by rw [tm_nat, long_eq _ _ a.toNat_lt b.toNat_lt]
theorem twice_tm (a : UInt8) : (tm a 2).toNat = xt 8 27 a.toNat := by rw [tm_nat]; exact mul_two 8 27 _ (by decide)

/-- The inverse, as a table. -/
def invs : List Nat := [0, 1, 141, 246, 203, 82, 123, 209, 232, 79, 41, 192, 176, 225, 229, 199, 116, 180, 170, 75, 153, 43, 96, 95, 88, 63, 253, 204, 255, 64, 238, 178, 58, 110, 90, 241, 85, 77, 168, 201, 193, 10, 152, 21, 48, 68, 162, 194, 44, 69, 146, 108, 243, 57, 102, 66, 242, 53, 32, 111, 119, 187, 89, 25, 29, 254, 55, 103, 45, 49, 245, 105, 167, 100, 171, 19, 84, 37, 233, 9, 237, 92, 5, 202, 76, 36, 135, 191, 24, 62, 34, 240, 81, 236, 97, 23, 22, 94, 175, 211, 73, 166, 54, 67, 244, 71, 145, 223, 51, 147, 33, 59, 121, 183, 151, 133, 16, 181, 186, 60, 182, 112, 208, 6, 161, 250, 129, 130, 131, 126, 127, 128, 150, 115, 190, 86, 155, 158, 149, 217, 247, 2, 185, 164, 222, 106, 50, 109, 216, 138, 132, 114, 42, 20, 159, 136, 249, 220, 137, 154, 251, 124, 46, 195, 143, 184, 101, 72, 38, 200, 18, 74, 206, 231, 210, 98, 12, 224, 31, 239, 17, 117, 120, 113, 165, 142, 118, 61, 189, 188, 134, 87, 11, 40, 47, 163, 218, 212, 228, 15, 169, 39, 83, 4, 27, 252, 172, 230, 122, 7, 174, 99, 197, 219, 226, 234, 148, 139, 196, 213, 157, 248, 144, 107, 177, 13, 214, 235, 198, 14, 207, 173, 8, 78, 215, 227, 93, 80, 30, 179, 91, 35, 56, 52, 104, 70, 3, 140, 221, 156, 125, 160, 205, 26, 65, 28]
def inv (a : UInt8) : UInt8 := UInt8.ofNat (invs.getD a.toNat 0)
set_option maxRecDepth 100000 in
theorem inv_all : (List.range 256).all (fun a => a == 0 || (mul 8 27 a (invs.getD a 0) == 1 && decide (invs.getD a 0 < 256))) = true := by decide +kernel
theorem inv_zero : inv 0 = 0 := by decide +kernel
theorem tm_inv (a : UInt8) (h : a ≠ 0) : tm a (inv a) = 1 := by
  have := List.all_eq_true.1 inv_all a.toNat (List.mem_range.2 a.toNat_lt)
  have h0 : (a.toNat == 0) = false := by rw [beq_eq_false_iff_ne]; intro e; exact h (UInt8.toNat_inj.1 e)
  rw [h0, Bool.false_or, Bool.and_eq_true, beq_iff_eq, decide_eq_true_eq] at this
  apply UInt8.toNat_inj.1
  rw [tm_nat, inv, UInt8.toNat_ofNat', Nat.mod_eq_of_lt this.2]
  exact this.1
/-- There is one alone. -/
theorem inv_of (a b : UInt8) (h : tm a b = 1) : b = inv a := by
  have ha : a ≠ 0 := by rintro rfl; rw [zero_tm] at h; exact absurd h (by decide)
  calc b = tm 1 b := (one_tm b).symm
    _ = tm (tm a (inv a)) b := by rw [tm_inv a ha]
    _ = tm (tm (inv a) a) b := by rw [tm_comm a]
    _ = inv a := by rw [tm_assoc, h, tm_one]
theorem inv_inv (a : UInt8) : inv (inv a) = a := by
  by_cases ha : a = 0
  · subst ha; rw [inv_zero, inv_zero]
  · exact (inv_of _ _ (by rw [tm_comm, tm_inv a ha])).symm
theorem tm_entire (a b : UInt8) (h : tm a b = 0) : a = 0 ∨ b = 0 := by
  by_cases ha : a = 0
  · exact .inl ha
  · refine .inr ?_
    have h2 : tm (inv a) (tm a b) = b := by rw [← tm_assoc, tm_comm (inv a), tm_inv a ha, one_tm]
    rw [h, tm_zero] at h2
    exact h2.symm

/-- What the box makes of an inverse: its bits summed. -/
def bendBit (c i : Nat) : Nat := (99 / 2 ^ i % 2 + c / 2 ^ (i % 8) % 2 + c / 2 ^ ((i + 4) % 8) % 2 + c / 2 ^ ((i + 5) % 8) % 2 + c / 2 ^ ((i + 6) % 8) % 2 + c / 2 ^ ((i + 7) % 8) % 2) % 2
def bendN (c : Nat) : Nat → Nat
  | 0 => 0
  | i + 1 => bendN c i + bendBit c i * 2 ^ i
def bend (c : UInt8) : UInt8 := UInt8.ofNat (bendN c.toNat 8)
def box (a : UInt8) : UInt8 := bend (inv a)
set_option maxRecDepth 100000 in
theorem bend_lt : (List.range 256).all (fun c => decide (bendN c 8 < 256)) = true := by decide +kernel
/-- The box's way back, as a table. -/
def backs : List Nat := [82, 9, 106, 213, 48, 54, 165, 56, 191, 64, 163, 158, 129, 243, 215, 251, 124, 227, 57, 130, 155, 47, 255, 135, 52, 142, 67, 68, 196, 222, 233, 203, 84, 123, 148, 50, 166, 194, 35, 61, 238, 76, 149, 11, 66, 250, 195, 78, 8, 46, 161, 102, 40, 217, 36, 178, 118, 91, 162, 73, 109, 139, 209, 37, 114, 248, 246, 100, 134, 104, 152, 22, 212, 164, 92, 204, 93, 101, 182, 146, 108, 112, 72, 80, 253, 237, 185, 218, 94, 21, 70, 87, 167, 141, 157, 132, 144, 216, 171, 0, 140, 188, 211, 10, 247, 228, 88, 5, 184, 179, 69, 6, 208, 44, 30, 143, 202, 63, 15, 2, 193, 175, 189, 3, 1, 19, 138, 107, 58, 145, 17, 65, 79, 103, 220, 234, 151, 242, 207, 206, 240, 180, 230, 115, 150, 172, 116, 34, 231, 173, 53, 133, 226, 249, 55, 232, 28, 117, 223, 110, 71, 241, 26, 113, 29, 41, 197, 137, 111, 183, 98, 14, 170, 24, 190, 27, 252, 86, 62, 75, 198, 210, 121, 32, 154, 219, 192, 254, 120, 205, 90, 244, 31, 221, 168, 51, 136, 7, 199, 49, 177, 18, 16, 89, 39, 128, 236, 95, 96, 81, 127, 169, 25, 181, 74, 13, 45, 229, 122, 159, 147, 201, 156, 239, 160, 224, 59, 77, 174, 42, 245, 176, 200, 235, 187, 60, 131, 83, 153, 97, 23, 43, 4, 126, 186, 119, 214, 38, 225, 105, 20, 99, 85, 33, 12, 125]
def back (b : UInt8) : UInt8 := UInt8.ofNat (backs.getD b.toNat 0)
set_option maxRecDepth 100000 in
theorem back_all : (List.range 256).all (fun a => box (back (UInt8.ofNat a)) == UInt8.ofNat a && back (box (UInt8.ofNat a)) == UInt8.ofNat a) = true := by decide +kernel
theorem box_back (a : UInt8) : box (back a) = a := by
  have := List.all_eq_true.1 back_all a.toNat (List.mem_range.2 a.toNat_lt)
  rw [UInt8.ofNat_toNat, Bool.and_eq_true, beq_iff_eq, beq_iff_eq] at this
  exact this.1
theorem back_box (a : UInt8) : back (box a) = a := by
  have := List.all_eq_true.1 back_all a.toNat (List.mem_range.2 a.toNat_lt)
  rw [UInt8.ofNat_toNat, Bool.and_eq_true, beq_iff_eq, beq_iff_eq] at this
  exact this.2
theorem box_inj (a b : UInt8) (h : box a = box b) : a = b := by rw [← back_box a, h, back_box]
/-- To the power of 254. -/
def power (a : UInt8) : Nat → UInt8 × UInt8
  | 0 => (a, 1)
  | i + 1 => (tm (power a i).1 (power a i).1, tm (power a i).2 (tm (power a i).1 (power a i).1))
set_option maxRecDepth 100000 in
theorem power_all : (List.range 256).all (fun a => (power (UInt8.ofNat a) 7).2 == inv (UInt8.ofNat a)) = true := by decide +kernel
theorem power_inv (a : UInt8) : (power a 7).2 = inv a := by
  have := List.all_eq_true.1 power_all a.toNat (List.mem_range.2 a.toNat_lt)
  rw [UInt8.ofNat_toNat, beq_iff_eq] at this
  exact this
/-- All of a list multiplied. -/
def prodL (l : List UInt8) : UInt8 := l.foldl tm 1
theorem prodL_snoc (l : List UInt8) (b : UInt8) : prodL (l ++ [b]) = tm (prodL l) b := by rw [prodL, List.foldl_append]; rfl
theorem prodL_nil : prodL [] = 1 := rfl
theorem prodL_take (l : List UInt8) (k : Nat) (h : k < l.length) : prodL (l.take (k + 1)) = tm (prodL (l.take k)) l[k] := by
  rw [List.take_succ_eq_append_getElem h, prodL_snoc]
/-- Twice, over and over. -/
def twices (a : UInt8) : Nat → UInt8
  | 0 => a
  | n + 1 => tm (twices a n) 2
theorem twices_prod (a : UInt8) (n : Nat) : prodL (a :: List.replicate n 2) = twices a n := by
  induction n with
  | zero => exact one_tm a
  | succ n ih => rw [List.replicate_succ', ← List.cons_append, prodL_snoc, ih]; rfl
/-- The powers of 03: 01 comes back behind 255, and not earlier. -/
def pow3 (p : UInt8) : Nat → UInt8
  | 0 => p
  | n + 1 => tm (pow3 p n) 3
theorem pow3_next (p : UInt8) (n : Nat) : pow3 (tm p 3) n = pow3 p (n + 1) := by
  induction n with
  | zero => rfl
  | succ n ih => rw [pow3, ih]; rfl
def cyc : Nat → UInt8 → Bool
  | 0, p => p == 1
  | n + 1, p => !(p == 1) && cyc n (tm p 3)
theorem cyc_pow (n : Nat) : ∀ p, cyc n p = true → (∀ i, i < n → pow3 p i ≠ 1) ∧ pow3 p n = 1 := by
  induction n with
  | zero => intro p h; exact ⟨fun i hi => by omega, beq_iff_eq.1 h⟩
  | succ n ih =>
    intro p h
    rw [cyc, Bool.and_eq_true, Bool.not_eq_true', beq_eq_false_iff_ne] at h
    obtain ⟨h1, h2⟩ := ih _ h.2
    refine ⟨fun i hi => ?_, by rw [← pow3_next]; exact h2⟩
    cases i with
    | zero => exact h.1
    | succ i => rw [← pow3_next]; exact h1 i (by omega)
set_option maxRecDepth 100000 in
theorem cyc_three : cyc 254 3 = true := by decide +kernel
/-- Behind i + 1 factors of 03. -/
theorem three_not (i : Nat) (h : i < 254) : pow3 3 i ≠ 1 := (cyc_pow 254 3 cyc_three).1 i h
theorem three_all : pow3 3 254 = 1 := (cyc_pow 254 3 cyc_three).2
theorem bendN_zero (c : Nat) : bendN c 0 = 0 := rfl
theorem bendN_succ (c i : Nat) : bendN c (i + 1) = bendN c i + bendBit c i * 2 ^ i := rfl
theorem bendBit_lt (c i : Nat) : bendBit c i < 2 := Nat.mod_lt _ (by decide)
theorem bendBit_eq (c i : Nat) : bendBit c i = (99 / 2 ^ i % 2 + c / 2 ^ (i % 8) % 2 + c / 2 ^ ((i + 4) % 8) % 2 + c / 2 ^ ((i + 5) % 8) % 2 + c / 2 ^ ((i + 6) % 8) % 2 + c / 2 ^ ((i + 7) % 8) % 2) % 2 := rfl
theorem pow3_zero (p : UInt8) : pow3 p 0 = p := rfl
theorem pow3_succ (p : UInt8) (n : Nat) : pow3 p (n + 1) = tm (pow3 p n) 3 := rfl
attribute [irreducible] bendN bendBit pow3
end Go.Proofs.Ytchdobneipfghaa.Field
