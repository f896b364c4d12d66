/- Lemmas: VauR0 Gf FieldS FieldT FieldG AesSg. -/
import Derived.Test.YtiimfhacnfdmhaaGreatZG05
import GoSem.Core.Next
set_option linter.unusedVariables false
set_option linter.unusedSimpArgs false
namespace Go.Proofs.YtiimfhacnfdmhaaGreat.Vault
open Go Go.RowKit Kit
open Sha (Pc PcsOk catP)
def rmk : Value := .iface 69 (.agg #[])
def zr : List Value := bvs (List.replicate 32 0)
theorem zr_run (w : World) : (zeroValue 32).run Tryz.prog w = .ok (.agg zr.toArray) w := by kernel_rfl
theorem zrk_run (w : World) : (zeroValue 39).run Tryz.prog w = .ok (.agg zr.toArray) w := by kernel_rfl
theorem zr_length : zr.length = 32 := by simp [zr]
attribute [irreducible] zr
theorem rarr_under : Tryz.prog.underlying 32 = some (.array 32 5) := by kernel_rfl
theorem rkey_under : Tryz.prog.underlying 39 = some (.array 32 5) := by kernel_rfl
theorem rarr_size (l : List UInt8) (h : l.length = 32) : (Tryz.prog.info? 32).map (·.size) = some (bvs l).length := by rw [bvs_length, h]; kernel_rfl
theorem rkey_size (l : List UInt8) (h : l.length = 32) : (Tryz.prog.info? 39).map (·.size) = some (bvs l).length := by rw [bvs_length, h]; kernel_rfl
theorem kall (g o : Nat) (w : World) : (Instr.sliceAt 39 (.pointer (some ⟨g, o, none⟩)) none none none).run Tryz.prog w = .ok (.slice (some ⟨g, o, none⟩) 32 32) w := by
  have ha : Tryz.prog.underlying 39 = some (.array (Tryz.prog.arrayLen 39) (Tryz.prog.elem 39)) := by kernel_rfl
  have hl : Tryz.prog.arrayLen 39 = 32 := by kernel_rfl
  have he : Tryz.prog.elem 39 = 5 := by kernel_rfl
  have hz : (sizeOf 5).run Tryz.prog w = .ok 1 w := by kernel_rfl
  rw [run_sliceAt_array_all w _ _ ha, hl, he, hz]
  simp [Result.andThen, slicedAt, Addr.add]
theorem wpList_enter_gd {P : Program} {w : World} {ops : Array Oper} {rest : List Oper} {o : Oper} {a : Act} {Q : Exit → Act → World → Prop} (hw : Region.wanted o (yielded ops a.tmps) = true)
    (g : FuncId) (args : Array Value) (hx : (execOp a.eval o).run P w = .ok (.enter g args) w) (hc : Calls P g args w fun e w' => ∃ u, e = .returned u ∧ wpList P ops Q rest (a.put o.dst u) w') : wpList P ops Q (o :: rest) a w :=
  wpList_step fun K hK => by
    rw [if_pos hw]
    unfold Oper.wp
    rw [hx, Oper.upon_enter]
    refine hc.mono ?_
    rintro e w' ⟨u, rfl, h⟩
    exact hK _ _ h
end Go.Proofs.YtiimfhacnfdmhaaGreat.Vault
namespace Go.Proofs.YtiimfhacnfdmhaaGreat.Gf
theorem xor_lc (a b c : Nat) : a ^^^ (b ^^^ c) = b ^^^ (a ^^^ c) := by rw [← Nat.xor_assoc, Nat.xor_comm a, Nat.xor_assoc]
theorem xor_twice (a b : Nat) : a ^^^ (a ^^^ b) = b := by rw [← Nat.xor_assoc, Nat.xor_self, Nat.zero_xor]
def Add (f : Nat → Nat) : Prop := ∀ a b, f (a ^^^ b) = f a ^^^ f b
theorem Add.zero {f : Nat → Nat} (h : Add f) : f 0 = 0 := by
  have := h 0 0
  rwa [Nat.xor_self, Nat.xor_self] at this
theorem Add.comp {f g : Nat → Nat} (hf : Add f) (hg : Add g) : Add (fun a => f (g a)) := fun a b => by show f (g (a ^^^ b)) = f (g a) ^^^ f (g b); rw [hg, hf]
theorem Add.id : Add (fun a => a) := fun _ _ => rfl
theorem Add.xor {f g : Nat → Nat} (hf : Add f) (hg : Add g) : Add (fun a => f a ^^^ g a) := fun a b => by
  simp only [hf a b, hg a b]
  rw [Nat.xor_assoc, Nat.xor_assoc, ← Nat.xor_assoc (f b), ← Nat.xor_assoc (g a), Nat.xor_comm (f b)]
theorem Add.none : Add (fun _ => 0) := fun _ _ => by simp
theorem top_bit (a n : Nat) (h : a < 2 ^ (n + 1)) : a = (a % 2 ^ n) ^^^ (if a.testBit n then 2 ^ n else 0) := by
  apply Nat.eq_of_testBit_eq
  intro i
  rw [Nat.testBit_xor, Nat.testBit_mod_two_pow]
  by_cases hi : i < n
  · have : (if a.testBit n then 2 ^ n else 0).testBit i = false := by
      split
      · rw [Nat.testBit_two_pow]; simp; omega
      · simp
    simp [hi, this]
  · by_cases hn : i = n
    · subst hn
      cases hb : a.testBit i <;> simp
    · have h1 : a.testBit i = false := Nat.testBit_lt_two_pow (Nat.lt_of_lt_of_le h (Nat.pow_le_pow_right (by omega) (by omega)))
      have h2 : (if a.testBit n then 2 ^ n else 0).testBit i = false := by
        split
        · rw [Nat.testBit_two_pow]; simp; omega
        · simp
      simp [hi, h1, h2]
theorem ext {f g : Nat → Nat} (hf : Add f) (hg : Add g) (n : Nat) (h : ∀ i, i < n → f (2 ^ i) = g (2 ^ i)) : ∀ a, a < 2 ^ n → f a = g a := by
  induction n with
  | zero => intro a ha; obtain rfl : a = 0 := by simpa using ha
            rw [hf.zero, hg.zero]
  | succ n ih =>
    intro a ha
    rw [top_bit a n ha, hf, hg, ih (fun i hi => h i (by omega)) _ (Nat.mod_lt _ (Nat.two_pow_pos n))]
    congr 1
    split
    · exact h n (by omega)
    · rw [hf.zero, hg.zero]
theorem low_xor (a b : Nat) : (a ^^^ b) % 2 = (a % 2 + b % 2) % 2 := by
  have h := Nat.xor_mod_two_pow (a := a) (b := b) (n := 1)
  rw [Nat.pow_one] at h
  rw [h]
  rcases Nat.mod_two_eq_zero_or_one a with ha | ha <;> rcases Nat.mod_two_eq_zero_or_one b with hb | hb <;> rw [ha, hb] <;> rfl
theorem bit_xor (a b i : Nat) : (a ^^^ b) / 2 ^ i % 2 = (a / 2 ^ i % 2 + b / 2 ^ i % 2) % 2 := by
  have := Nat.shiftRight_xor_distrib (a := a) (b := b) (i := i)
  rw [Nat.shiftRight_eq_div_pow, Nat.shiftRight_eq_div_pow, Nat.shiftRight_eq_div_pow] at this
  rw [this, low_xor]
theorem Add.bit (i c : Nat) : Add (fun x => if x / 2 ^ i % 2 = 1 then c else 0) := by
  intro a b
  show (if (a ^^^ b) / 2 ^ i % 2 = 1 then c else 0) = (if a / 2 ^ i % 2 = 1 then c else 0) ^^^ (if b / 2 ^ i % 2 = 1 then c else 0)
  rw [bit_xor]
  rcases Nat.mod_two_eq_zero_or_one (a / 2 ^ i) with ha | ha <;> rcases Nat.mod_two_eq_zero_or_one (b / 2 ^ i) with hb | hb <;> rw [ha, hb] <;> simp
variable (d p : Nat)
def xt (a : Nat) : Nat := (2 * a) % 2 ^ d ^^^ (if a.testBit (d - 1) then p else 0)
theorem two_xor (a b : Nat) : 2 * (a ^^^ b) = 2 * a ^^^ 2 * b := by
  have := Nat.shiftLeft_xor_distrib (a := a) (b := b) (i := 1)
  simpa [Nat.shiftLeft_eq, Nat.mul_comm] using this
theorem mod_xor (a b : Nat) : (a ^^^ b) % 2 ^ d = a % 2 ^ d ^^^ b % 2 ^ d := Nat.xor_mod_two_pow
theorem xt_add : Add (xt d p) := by
  intro a b
  unfold xt
  rw [two_xor, mod_xor, Nat.testBit_xor]
  cases a.testBit (d - 1) <;> cases b.testBit (d - 1) <;> simp [xor_lc, Nat.xor_comm, xor_twice]
theorem xt_lt (hp : p < 2 ^ d) (a : Nat) : xt d p a < 2 ^ d := by
  unfold xt
  apply Nat.xor_lt_two_pow (Nat.mod_lt _ (Nat.two_pow_pos d))
  split
  · exact hp
  · exact Nat.two_pow_pos d
def xts : Nat → Nat → Nat
  | 0, a => a
  | n + 1, a => xt d p (xts n a)
theorem xts_succ (n a : Nat) : xts d p (n + 1) a = xt d p (xts d p n a) := rfl
theorem xts_add (n : Nat) : Add (xts d p n) := by
  induction n with
  | zero => exact Add.id
  | succ n ih => exact (xt_add d p).comp ih
theorem xts_lt (hp : p < 2 ^ d) (n a : Nat) (ha : a < 2 ^ d) : xts d p n a < 2 ^ d := by
  cases n with
  | zero => exact ha
  | succ n => exact xt_lt d p hp _
theorem xts_xts (n m a : Nat) : xts d p n (xts d p m a) = xts d p (n + m) a := by
  induction n with
  | zero => rw [Nat.zero_add]; rfl
  | succ n ih => rw [xts_succ, ih, Nat.add_right_comm]; rfl
theorem xts_one (n : Nat) (h : n < d) : xts d p n 1 = 2 ^ n := by
  induction n with
  | zero => rfl
  | succ n ih =>
    rw [xts_succ, ih (by omega), xt, Nat.testBit_two_pow, if_neg (by simp; omega), Nat.xor_zero, ← Nat.pow_succ', Nat.mod_eq_of_lt (Nat.pow_lt_pow_right (by omega) h)]
def mulN (a b : Nat) : Nat → Nat
  | 0 => 0
  | n + 1 => mulN a b n ^^^ (if b.testBit n then xts d p n a else 0)
def mul (a b : Nat) : Nat := mulN d p a b d
theorem mulN_left (b n : Nat) : Add (fun a => mulN d p a b n) := by
  induction n with
  | zero => exact Add.none
  | succ n ih =>
    refine Add.xor (f := fun a => mulN d p a b n) (g := fun a => if b.testBit n then xts d p n a else 0) ih ?_
    cases b.testBit n
    · exact Add.none
    · simpa using xts_add d p n
theorem mulN_right (a n : Nat) : Add (fun b => mulN d p a b n) := by
  induction n with
  | zero => exact Add.none
  | succ n ih =>
    refine Add.xor (f := fun b => mulN d p a b n) (g := fun b => if b.testBit n then xts d p n a else 0) ih ?_
    intro b c
    simp only [Nat.testBit_xor]
    cases b.testBit n <;> cases c.testBit n <;> simp
theorem mul_left (b : Nat) : Add (fun a => mul d p a b) := mulN_left d p b d
theorem mul_right (a : Nat) : Add (fun b => mul d p a b) := mulN_right d p a d
theorem mul_xor (a b c : Nat) : mul d p a (b ^^^ c) = mul d p a b ^^^ mul d p a c := mul_right d p a b c
theorem mulN_lt (hp : p < 2 ^ d) (a b n : Nat) (ha : a < 2 ^ d) : mulN d p a b n < 2 ^ d := by
  induction n with
  | zero => exact Nat.two_pow_pos d
  | succ n ih =>
    refine Nat.xor_lt_two_pow ih ?_
    split
    · exact xts_lt d p hp n a ha
    · exact Nat.two_pow_pos d
theorem mul_lt (hp : p < 2 ^ d) (a b : Nat) (ha : a < 2 ^ d) : mul d p a b < 2 ^ d := mulN_lt d p hp a b d ha
theorem mulN_bit (a j n : Nat) : mulN d p a (2 ^ j) n = if j < n then xts d p j a else 0 := by
  induction n with
  | zero => simp [mulN]
  | succ n ih =>
    rw [mulN, ih, Nat.testBit_two_pow]
    by_cases h : j < n
    · have : ¬ j = n := by omega
      simp [h, this, show j < n + 1 by omega]
    · by_cases h2 : j = n
      · subst h2; simp
      · simp [h, h2, show ¬ j < n + 1 by omega]
theorem mul_bit (a j : Nat) (h : j < d) : mul d p a (2 ^ j) = xts d p j a := by rw [mul, mulN_bit, if_pos h]
theorem mul_bits (i j : Nat) (hi : i < d) (hj : j < d) : mul d p (2 ^ i) (2 ^ j) = xts d p (j + i) 1 := by
  rw [mul_bit d p _ j hj, ← xts_one d p i hi, xts_xts]
theorem mul_comm (a b : Nat) (ha : a < 2 ^ d) (hb : b < 2 ^ d) : mul d p a b = mul d p b a := by
  refine ext (f := fun a => mul d p a b) (g := fun a => mul d p b a) (mul_left d p b) (mul_right d p b) d (fun i hi => ?_) a ha
  refine ext (f := fun b => mul d p (2 ^ i) b) (g := fun b => mul d p b (2 ^ i)) (mul_right d p _) (mul_left d p _) d (fun j hj => ?_) b hb
  rw [mul_bits d p i j hi hj, mul_bits d p j i hj hi, Nat.add_comm]
theorem mul_xts (a n : Nat) (b : Nat) (hb : b < 2 ^ d) : mul d p (xts d p n a) b = xts d p n (mul d p a b) := by
  refine ext (f := fun b => mul d p (xts d p n a) b) (g := fun b => xts d p n (mul d p a b)) (mul_right d p _) ((xts_add d p n).comp (mul_right d p a)) d (fun j hj => ?_) b hb
  rw [mul_bit d p _ j hj, mul_bit d p _ j hj, xts_xts, xts_xts, Nat.add_comm]
theorem mul_assoc (a b c : Nat) (hp : p < 2 ^ d) (ha : a < 2 ^ d) (hb : b < 2 ^ d) (hc : c < 2 ^ d) : mul d p (mul d p a b) c = mul d p a (mul d p b c) := by
  refine ext (f := fun c => mul d p (mul d p a b) c) (g := fun c => mul d p a (mul d p b c)) (mul_right d p _) ((mul_right d p a).comp (mul_right d p b)) d (fun j hj => ?_) c hc
  rw [mul_bit d p _ j hj, mul_bit d p _ j hj, mul_comm d p a _ ha (xts_lt d p hp j b hb), mul_xts d p b j a ha, mul_comm d p b a hb ha]
theorem mul_one (a : Nat) (hd : 0 < d) : mul d p a 1 = a := mul_bit d p a 0 hd
theorem mul_zero (a : Nat) : mul d p a 0 = 0 := (mul_right d p a).zero
theorem zero_mul (a : Nat) : mul d p 0 a = 0 := (mul_left d p a).zero
theorem mul_two (a : Nat) (hd : 1 < d) : mul d p a 2 = xt d p a := mul_bit d p a 1 hd
def sq (a : Nat) : Nat := mul d p a a
def sqs : Nat → Nat → Nat
  | 0, a => a
  | n + 1, a => sq d p (sqs n a)
theorem sq_lt (hp : p < 2 ^ d) (a : Nat) (ha : a < 2 ^ d) : sq d p a < 2 ^ d := mul_lt d p hp a a ha
def run (a : Nat) : Nat → Nat
  | 0 => 1
  | n + 1 => mul d p (run a n) (sqs d p n a)
theorem one_lt (hd : 0 < d) : 1 < 2 ^ d := Nat.one_lt_two_pow (by omega)
theorem one_mul (a : Nat) (hd : 0 < d) (ha : a < 2 ^ d) : mul d p 1 a = a := by rw [mul_comm d p 1 a (one_lt d hd) ha, mul_one d p a hd]
end Go.Proofs.YtiimfhacnfdmhaaGreat.Gf
namespace Go.Proofs.YtiimfhacnfdmhaaGreat.Field
open Gf
def up (a b : Nat) : Nat → Nat
  | 0 => 0
  | i + 1 => if b / 2 ^ i % 2 = 1 then up a b i ^^^ (a * 2 ^ i) else up a b i
def down (x : Nat) : Nat → Nat
  | 0 => x
  | k + 1 => if down x k / 2 ^ (15 - k) % 2 = 1 then down x k ^^^ (283 * 2 ^ (7 - k)) else down x k
def long (a b : Nat) : Nat := down (up a b 8) 8
def tm (a b : UInt8) : UInt8 := UInt8.ofNat (mul 8 27 a.toNat b.toNat)
theorem tm_nat (a b : UInt8) : (tm a b).toNat = mul 8 27 a.toNat b.toNat := by
  have := mul_lt 8 27 (by decide) a.toNat b.toNat a.toNat_lt
  rw [tm, UInt8.toNat_ofNat']; omega
theorem tm_comm (a b : UInt8) : tm a b = tm b a := by
  apply UInt8.toNat_inj.1; rw [tm_nat, tm_nat]; exact mul_comm 8 27 _ _ a.toNat_lt b.toNat_lt
theorem tm_xor (a b c : UInt8) : tm a (b ^^^ c) = tm a b ^^^ tm a c := by
  apply UInt8.toNat_inj.1; rw [tm_nat, UInt8.toNat_xor, UInt8.toNat_xor, tm_nat, tm_nat]; exact mul_xor 8 27 _ _ _
theorem tm_one (a : UInt8) : tm a 1 = a := by
  apply UInt8.toNat_inj.1; rw [tm_nat]; exact mul_one 8 27 _ (by decide)
theorem twice_tm (a : UInt8) : (tm a 2).toNat = xt 8 27 a.toNat := by rw [tm_nat]; exact mul_two 8 27 _ (by decide)
def invs : List Nat := [0, 1, 141, 246, 203, 82, 123, 209, 232, 79, 41, 192, 176, 225, 229, 199, 116, 180, 170, 75, 153, 43, 96, 95, 88, 63, 253, 204, 255, 64, 238, 178, 58, 110, 90, 241, 85, 77, 168, 201, 193, 10, 152, 21, 48, 68, 162, 194, 44, 69, 146, 108, 243, 57, 102, 66, 242, 53, 32, 111, 119, 187, 89, 25, 29, 254, 55, 103, 45, 49, 245, 105, 167, 100, 171, 19, 84, 37, 233, 9, 237, 92, 5, 202, 76, 36, 135, 191, 24, 62, 34, 240, 81, 236, 97, 23, 22, 94, 175, 211, 73, 166, 54, 67, 244, 71, 145, 223, 51, 147, 33, 59, 121, 183, 151, 133, 16, 181, 186, 60, 182, 112, 208, 6, 161, 250, 129, 130, 131, 126, 127, 128, 150, 115, 190, 86, 155, 158, 149, 217, 247, 2, 185, 164, 222, 106, 50, 109, 216, 138, 132, 114, 42, 20, 159, 136, 249, 220, 137, 154, 251, 124, 46, 195, 143, 184, 101, 72, 38, 200, 18, 74, 206, 231, 210, 98, 12, 224, 31, 239, 17, 117, 120, 113, 165, 142, 118, 61, 189, 188, 134, 87, 11, 40, 47, 163, 218, 212, 228, 15, 169, 39, 83, 4, 27, 252, 172, 230, 122, 7, 174, 99, 197, 219, 226, 234, 148, 139, 196, 213, 157, 248, 144, 107, 177, 13, 214, 235, 198, 14, 207, 173, 8, 78, 215, 227, 93, 80, 30, 179, 91, 35, 56, 52, 104, 70, 3, 140, 221, 156, 125, 160, 205, 26, 65, 28]
def inv (a : UInt8) : UInt8 := UInt8.ofNat (invs.getD a.toNat 0)
def bendBit (c i : Nat) : Nat := (99 / 2 ^ i % 2 + c / 2 ^ (i % 8) % 2 + c / 2 ^ ((i + 4) % 8) % 2 + c / 2 ^ ((i + 5) % 8) % 2 + c / 2 ^ ((i + 6) % 8) % 2 + c / 2 ^ ((i + 7) % 8) % 2) % 2
def bendN (c : Nat) : Nat → Nat
  | 0 => 0
  | i + 1 => bendN c i + bendBit c i * 2 ^ i
def bend (c : UInt8) : UInt8 := UInt8.ofNat (bendN c.toNat 8)
def box (a : UInt8) : UInt8 := bend (inv a)
def backs : List Nat := [82, 9, 106, 213, 48, 54, 165, 56, 191, 64, 163, 158, 129, 243, 215, 251, 124, 227, 57, 130, 155, 47, 255, 135, 52, 142, 67, 68, 196, 222, 233, 203, 84, 123, 148, 50, 166, 194, 35, 61, 238, 76, 149, 11, 66, 250, 195, 78, 8, 46, 161, 102, 40, 217, 36, 178, 118, 91, 162, 73, 109, 139, 209, 37, 114, 248, 246, 100, 134, 104, 152, 22, 212, 164, 92, 204, 93, 101, 182, 146, 108, 112, 72, 80, 253, 237, 185, 218, 94, 21, 70, 87, 167, 141, 157, 132, 144, 216, 171, 0, 140, 188, 211, 10, 247, 228, 88, 5, 184, 179, 69, 6, 208, 44, 30, 143, 202, 63, 15, 2, 193, 175, 189, 3, 1, 19, 138, 107, 58, 145, 17, 65, 79, 103, 220, 234, 151, 242, 207, 206, 240, 180, 230, 115, 150, 172, 116, 34, 231, 173, 53, 133, 226, 249, 55, 232, 28, 117, 223, 110, 71, 241, 26, 113, 29, 41, 197, 137, 111, 183, 98, 14, 170, 24, 190, 27, 252, 86, 62, 75, 198, 210, 121, 32, 154, 219, 192, 254, 120, 205, 90, 244, 31, 221, 168, 51, 136, 7, 199, 49, 177, 18, 16, 89, 39, 128, 236, 95, 96, 81, 127, 169, 25, 181, 74, 13, 45, 229, 122, 159, 147, 201, 156, 239, 160, 224, 59, 77, 174, 42, 245, 176, 200, 235, 187, 60, 131, 83, 153, 97, 23, 43, 4, 126, 186, 119, 214, 38, 225, 105, 20, 99, 85, 33, 12, 125]
def back (b : UInt8) : UInt8 := UInt8.ofNat (backs.getD b.toNat 0)
def power (a : UInt8) : Nat → UInt8 × UInt8
  | 0 => (a, 1)
  | i + 1 => (tm (power a i).1 (power a i).1, tm (power a i).2 (tm (power a i).1 (power a i).1))
def twices (a : UInt8) : Nat → UInt8
  | 0 => a
  | n + 1 => tm (twices a n) 2
attribute [irreducible] bendN bendBit
end Go.Proofs.YtiimfhacnfdmhaaGreat.Field
namespace Go.Proofs.YtiimfhacnfdmhaaGreat.Field
open Go Go.RowKit Kit Gf
theorem all8 (p : UInt8 → Bool) (h : (List.range 256).all (fun a => p (UInt8.ofNat a)) = true) (a : UInt8) : p a = true := by
  have := List.all_eq_true.1 h a.toNat (List.mem_range.2 a.toNat_lt)
  rwa [UInt8.ofNat_toNat] at this
def bitOf (b : UInt8) (i : Nat) : UInt8 := (b >>> UInt8.ofNat i) &&& 1
def keep (a b : UInt8) : UInt8 := a &&& -b
set_option maxRecDepth 100000 in
theorem bitOf_nat (b : UInt8) (i : Nat) (h : i < 8) : bitOf b i = if b.toNat.testBit i then 1 else 0 := by
  have h8 : ∀ i, i < 8 → (List.range 256).all (fun b => bitOf (UInt8.ofNat b) i == if (UInt8.ofNat b).toNat.testBit i then 1 else 0) = true := by
    intro i hi
    have : i = 0 ∨ i = 1 ∨ i = 2 ∨ i = 3 ∨ i = 4 ∨ i = 5 ∨ i = 6 ∨ i = 7 := by omega
    rcases this with rfl | rfl | rfl | rfl | rfl | rfl | rfl | rfl <;> decide +kernel
  exact beq_iff_eq.1 (all8 (fun b => bitOf b i == if b.toNat.testBit i then 1 else 0) (h8 i h) b)
theorem keep_one (a : UInt8) : keep a 1 = a := beq_iff_eq.1 (all8 (fun a => keep a 1 == a) (by decide +kernel) a)
theorem keep_zero (a : UInt8) : keep a 0 = 0 := beq_iff_eq.1 (all8 (fun a => keep a 0 == 0) (by decide +kernel) a)
theorem keep_bit (a b : UInt8) (i : Nat) (h : i < 8) : keep a (bitOf b i) = if b.toNat.testBit i then a else 0 := by
  rw [bitOf_nat b i h]
  split
  · exact keep_one a
  · exact keep_zero a
set_option maxRecDepth 100000 in
theorem twice_eq (a : UInt8) : (a <<< 1) ^^^ keep 27 (a >>> 7) = tm a 2 :=
  beq_iff_eq.1 (all8 (fun a => (a <<< 1) ^^^ keep 27 (a >>> 7) == tm a 2) (by decide +kernel) a)
def psum (a b : UInt8) : Nat → UInt8
  | 0 => 0
  | i + 1 => psum a b i ^^^ keep (twices a i) (bitOf b i)
theorem psum_succ (a b : UInt8) (i : Nat) : psum a b (i + 1) = psum a b i ^^^ keep (twices a i) (bitOf b i) := rfl
theorem twices_succ (a : UInt8) (n : Nat) : twices a (n + 1) = tm (twices a n) 2 := rfl
theorem twices_nat (a : UInt8) (n : Nat) : (twices a n).toNat = xts 8 27 n a.toNat := by
  induction n with
  | zero => rfl
  | succ n ih => rw [twices_succ, twice_tm, ih, xts_succ]
theorem psum_nat (a b : UInt8) (n : Nat) (h : n ≤ 8) : (psum a b n).toNat = mulN 8 27 a.toNat b.toNat n := by
  induction n with
  | zero => rfl
  | succ n ih =>
    rw [psum_succ, UInt8.toNat_xor, ih (by omega), keep_bit _ _ _ (by omega), mulN]
    congr 1
    split
    · exact twices_nat a n
    · rfl
theorem psum_tm (a b : UInt8) : psum a b 8 = tm a b := by
  apply UInt8.toNat_inj.1
  rw [psum_nat _ _ _ (Nat.le_refl _), tm_nat, mul]
def rol (a : UInt8) (k : Nat) : UInt8 := (a <<< UInt8.ofNat k) ||| (a >>> UInt8.ofNat (8 - k))
set_option maxRecDepth 100000 in
theorem bend_eq (c : UInt8) : c ^^^ rol c 1 ^^^ rol c 2 ^^^ rol c 3 ^^^ rol c 4 ^^^ 99 = bend c :=
  beq_iff_eq.1 (all8 (fun c => c ^^^ rol c 1 ^^^ rol c 2 ^^^ rol c 3 ^^^ rol c 4 ^^^ 99 == bend c) (by decide +kernel) c)
def cb (a : UInt8) : Int := (a.toNat : Int)
theorem ofInt_u8 (a : UInt8) : (BitVec.ofInt 8 (cb a)).toNat = a.toNat := by
  rw [cb, BitVec.ofInt_natCast, BitVec.toNat_ofNat]; exact Nat.mod_eq_of_lt a.toNat_lt
theorem wrap_u8 (n : Nat) : IntKind.u8.wrap (n : Int) = cb (UInt8.ofNat n) := by
  rw [IntKind.wrap_u8, cb]; simp
@[go_sem] theorem u8_xor (a b : UInt8) : bits .xor .u8 (cb a) (cb b) = cb (a ^^^ b) := by
  show IntKind.u8.wrap ((BitVec.ofInt 8 (cb a) ^^^ BitVec.ofInt 8 (cb b)).toNat : Int) = _
  rw [BitVec.toNat_xor, ofInt_u8, ofInt_u8, wrap_u8, ← UInt8.toNat_xor, UInt8.ofNat_toNat]
@[go_sem] theorem u8_or (a b : UInt8) : bits .or .u8 (cb a) (cb b) = cb (a ||| b) := by
  show IntKind.u8.wrap ((BitVec.ofInt 8 (cb a) ||| BitVec.ofInt 8 (cb b)).toNat : Int) = _
  rw [BitVec.toNat_or, ofInt_u8, ofInt_u8, wrap_u8, ← UInt8.toNat_or, UInt8.ofNat_toNat]
@[go_sem] theorem u8_and (a b : UInt8) : bits .and .u8 (cb a) (cb b) = cb (a &&& b) := by
  show IntKind.u8.wrap ((BitVec.ofInt 8 (cb a) &&& BitVec.ofInt 8 (cb b)).toNat : Int) = _
  rw [BitVec.toNat_and, ofInt_u8, ofInt_u8, wrap_u8, ← UInt8.toNat_and, UInt8.ofNat_toNat]
@[go_sem] theorem u8_and1 (a : UInt8) : bits .and .u8 (cb a) 1 = cb (a &&& 1) := u8_and a 1
@[go_sem] theorem u8_xor99 (a : UInt8) : bits .xor .u8 (cb a) 99 = cb (a ^^^ 99) := u8_xor a 99
@[go_sem] theorem u8_neg (a : UInt8) : IntKind.u8.wrap (-(cb a)) = cb (-a) := by
  have := a.toNat_lt
  rw [IntKind.wrap_u8, cb, cb, UInt8.toNat_neg, show UInt8.size = 256 by decide]; omega
theorem u8_shl (a : UInt8) (k : Nat) (h : k < 8) : IntKind.u8.wrap (cb a * 2 ^ k) = cb (a <<< UInt8.ofNat k) := by
  rw [IntKind.wrap_u8, cb, cb, UInt8.toNat_shiftLeft, Nat.shiftLeft_eq, UInt8.toNat_ofNat', show k % 2 ^ 8 % 8 = k by omega]; simp
theorem u8_shr (a : UInt8) (k : Nat) (h : k < 8) : cb a / 2 ^ k = cb (a >>> UInt8.ofNat k) := by
  rw [cb, cb, UInt8.toNat_shiftRight, Nat.shiftRight_eq_div_pow, UInt8.toNat_ofNat', show k % 2 ^ 8 % 8 = k by omega]; simp
@[go_sem] theorem u8_shl1 (a : UInt8) : IntKind.u8.wrap (cb a * (2 : Int)) = cb (a <<< 1) := u8_shl a 1 (by omega)
@[go_sem] theorem u8_shr7 (a : UInt8) : cb a / (128 : Int) = cb (a >>> 7) := u8_shr a 7 (by omega)
structure SqTab where
  l : List UInt8
  len : l.length = 8
def gSQ [Inhabited SqTab] : List UInt8 := (default : SqTab).l
theorem gSQ_length [Inhabited SqTab] : gSQ.length = 8 := (default : SqTab).len
def gsum [Inhabited SqTab] (a : UInt8) : Nat → UInt8
  | 0 => 0
  | i + 1 => gsum a i ^^^ keep (gSQ.getD i 0) (bitOf a i)
theorem gsum_zero [Inhabited SqTab] (a : UInt8) : gsum a 0 = 0 := rfl
theorem gsum_succ [Inhabited SqTab] (a : UInt8) (i : Nat) : gsum a (i + 1) = gsum a i ^^^ keep (gSQ.getD i 0) (bitOf a i) := rfl
def gsq [Inhabited SqTab] (a : UInt8) : UInt8 := gsum a 8
theorem gsum_all [Inhabited SqTab] (a : UInt8) : gsum a 8 = gsq a := rfl
def gpow [Inhabited SqTab] (a : UInt8) : Nat → UInt8 × UInt8
  | 0 => (a, 1)
  | i + 1 => (gsq (gpow a i).1, tm (gpow a i).2 (gsq (gpow a i).1))
theorem gpow_zero [Inhabited SqTab] (a : UInt8) : gpow a 0 = (a, 1) := rfl
theorem gpow_fst [Inhabited SqTab] (a : UInt8) (i : Nat) : (gpow a (i + 1)).1 = gsq (gpow a i).1 := rfl
theorem gpow_snd [Inhabited SqTab] (a : UInt8) (i : Nat) : (gpow a (i + 1)).2 = tm (gpow a i).2 (gpow a (i + 1)).1 := rfl
def ginv [Inhabited SqTab] (a : UInt8) : UInt8 := (gpow a 7).2
theorem gpow_all [Inhabited SqTab] (a : UInt8) : (gpow a 7).2 = ginv a := rfl
def gbox [Inhabited SqTab] (a : UInt8) : UInt8 := bend (ginv a)
theorem gbox_eq [Inhabited SqTab] (a : UInt8) : gbox a = bend (ginv a) := rfl
attribute [irreducible] gSQ gsum gsq gpow ginv gbox
end Go.Proofs.YtiimfhacnfdmhaaGreat.Field
namespace Go.Proofs.YtiimfhacnfdmhaaGreat.Aes
open _root_.Go.Proofs.YtiimfhacnfdmhaaGreat.Field
def gb (b : List UInt8) (i : Nat) : UInt8 := b.getD i 0
def tb (f : Nat → UInt8) : List UInt8 := (List.range 16).map f
theorem tb_length (f : Nat → UInt8) : (tb f).length = 16 := by simp [tb]
theorem gb_tb (f : Nat → UInt8) (i : Nat) (h : i < 16) : gb (tb f) i = f i := by
  rw [gb, tb, List.getD, List.getElem?_map, List.getElem?_range h]; rfl
theorem tb_gb (b : List UInt8) (h : b.length = 16) : tb (gb b) = b := by
  apply List.ext_getElem (by rw [tb_length, h])
  intro i h1 h2
  have := gb_tb (gb b) i (by rw [tb_length] at h1; exact h1)
  rw [gb, List.getD, List.getElem?_eq_getElem h1, gb, List.getD, List.getElem?_eq_getElem h2] at this
  simpa using this
theorem tb_ext {f g : Nat → UInt8} (h : ∀ i, i < 16 → f i = g i) : tb f = tb g := by
  apply List.map_congr_left
  intro i hi
  exact h i (List.mem_range.1 hi)
theorem tb_eq {f : Nat → UInt8} {b : List UInt8} (hb : b.length = 16) (h : ∀ i, i < 16 → f i = gb b i) : tb f = b := by
  rw [← tb_gb b hb]; exact tb_ext h
def sub [Inhabited Field.SqTab] (b : List UInt8) : List UInt8 := tb fun i => gbox (gb b i)
def rows (b : List UInt8) : List UInt8 := tb fun i => gb b (4 * ((i / 4 + i % 4) % 4) + i % 4)
def fac (j k : Nat) : UInt8 := ([2, 3, 1, 1] : List UInt8).getD ((j + 4 - k) % 4) 0
def col (f : Nat → Nat → UInt8) (b : List UInt8) (c k : Nat) : UInt8 :=
  tm (gb b (4 * c)) (f 0 k) ^^^ tm (gb b (4 * c + 1)) (f 1 k) ^^^ tm (gb b (4 * c + 2)) (f 2 k) ^^^ tm (gb b (4 * c + 3)) (f 3 k)
def mix (b : List UInt8) : List UInt8 := tb fun i => col fac b (i / 4) (i % 4)
def add (w b : List UInt8) : List UInt8 := tb fun i => gb b i ^^^ gb w i
theorem add_add (w b : List UInt8) (h : b.length = 16) : add w (add w b) = b := tb_eq h fun i hi => by
  rw [add, gb_tb _ i hi, UInt8.xor_assoc, UInt8.xor_self, UInt8.xor_zero]
theorem xor_tm (a b c : UInt8) : tm (a ^^^ b) c = tm a c ^^^ tm b c := by rw [tm_comm, tm_xor, tm_comm c, tm_comm c]
def rk (W : List UInt8) (r : Nat) : List UInt8 := tb fun i => gb W (16 * r + i)
def going [Inhabited Field.SqTab] (W b : List UInt8) : Nat → List UInt8
  | 0 => add (rk W 0) b
  | r + 1 => add (rk W (r + 1)) (mix (rows (sub (going W b r))))
def enc [Inhabited Field.SqTab] (W : List UInt8) (R : Nat) (b : List UInt8) : List UInt8 := add (rk W (R + 1)) (rows (sub (going W b R)))
theorem add_length (w b : List UInt8) : (add w b).length = 16 := tb_length _
theorem mix_length (b : List UInt8) : (mix b).length = 16 := tb_length _
theorem rows_length (b : List UInt8) : (rows b).length = 16 := tb_length _
theorem sub_length [Inhabited Field.SqTab] (b : List UInt8) : (sub b).length = 16 := tb_length _
theorem rk_length (W : List UInt8) (r : Nat) : (rk W r).length = 16 := tb_length _
theorem going_length [Inhabited Field.SqTab] (W b : List UInt8) (r : Nat) : (going W b r).length = 16 := by cases r <;> exact add_length _ _
theorem enc_length [Inhabited Field.SqTab] (W : List UInt8) (R : Nat) (b : List UInt8) : (enc W R b).length = 16 := add_length _ _
def rc : Nat → UInt8
  | 0 => 1
  | k + 1 => tm (rc k) 2
def turned [Inhabited Field.SqTab] (n i : Nat) (t : Nat → UInt8) (k : Nat) : UInt8 :=
  if i % n = 0 then gbox (t ((k + 1) % 4)) ^^^ (if k = 0 then rc (i / n - 1) else 0)
  else if n = 8 ∧ i % 8 = 4 then gbox (t k) else t k
def nextB [Inhabited Field.SqTab] (key : List UInt8) (n : Nat) (W : List UInt8) (i k : Nat) : UInt8 :=
  if i < n then gb key (4 * i + k) else gb W (4 * (i - n) + k) ^^^ turned n i (fun k => gb W (4 * (i - 1) + k)) k
def next [Inhabited Field.SqTab] (key : List UInt8) (n : Nat) (W : List UInt8) (i : Nat) : List UInt8 := [nextB key n W i 0, nextB key n W i 1, nextB key n W i 2, nextB key n W i 3]
def words [Inhabited Field.SqTab] (key : List UInt8) (n : Nat) : Nat → List UInt8
  | 0 => []
  | i + 1 => words key n i ++ next key n (words key n i) i
theorem words_zero [Inhabited Field.SqTab] (key : List UInt8) (n : Nat) : words key n 0 = [] := rfl
theorem words_succ [Inhabited Field.SqTab] (key : List UInt8) (n i : Nat) : words key n (i + 1) = words key n i ++ next key n (words key n i) i := rfl
theorem words_length [Inhabited Field.SqTab] (key : List UInt8) (n i : Nat) : (words key n i).length = 4 * i := by
  induction i with
  | zero => rfl
  | succ i ih => rw [words_succ, List.length_append, ih]; rfl
theorem words_at [Inhabited Field.SqTab] (key : List UInt8) (n i d j : Nat) (h : j < 4 * i) : gb (words key n (i + d)) j = gb (words key n i) j := by
  induction d with
  | zero => rfl
  | succ d ih =>
    rw [← Nat.add_assoc, words_succ, gb, List.getD, List.getElem?_append_left (by rw [words_length]; omega)]
    exact ih
def allW [Inhabited Field.SqTab] (key : List UInt8) : List UInt8 := words key (key.length / 4) (4 * (key.length / 4 + 7))
theorem allW_length [Inhabited Field.SqTab] (key : List UInt8) : (allW key).length = 16 * (key.length / 4 + 7) := by rw [allW, words_length]; omega
def noughts : List UInt8 := List.replicate 16 0
theorem rc_zero : rc 0 = 1 := rfl
theorem rc_succ (k : Nat) : rc (k + 1) = tm (rc k) 2 := rfl
theorem sub_eq [Inhabited Field.SqTab] (b : List UInt8) : sub b = tb fun i => gbox (gb b i) := rfl
theorem rows_eq (b : List UInt8) : rows b = tb fun i => gb b (4 * ((i / 4 + i % 4) % 4) + i % 4) := rfl
theorem mix_eq (b : List UInt8) : mix b = tb fun i => col fac b (i / 4) (i % 4) := rfl
theorem add_eq (w b : List UInt8) : add w b = tb fun i => gb b i ^^^ gb w i := rfl
theorem rk_eq (W : List UInt8) (r : Nat) : rk W r = tb fun i => gb W (16 * r + i) := rfl
theorem going_zero [Inhabited Field.SqTab] (W b : List UInt8) : going W b 0 = add (rk W 0) b := rfl
theorem going_succ [Inhabited Field.SqTab] (W b : List UInt8) (r : Nat) : going W b (r + 1) = add (rk W (r + 1)) (mix (rows (sub (going W b r)))) := rfl
theorem enc_eq [Inhabited Field.SqTab] (W : List UInt8) (R : Nat) (b : List UInt8) : enc W R b = add (rk W (R + 1)) (rows (sub (going W b R))) := rfl
theorem allW_eq [Inhabited Field.SqTab] (key : List UInt8) : allW key = words key (key.length / 4) (4 * (key.length / 4 + 7)) := rfl
attribute [irreducible] rc sub rows mix add rk going enc words allW
end Go.Proofs.YtiimfhacnfdmhaaGreat.Aes
