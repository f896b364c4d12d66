/- Fields of 2^d elements as numbers below 2^d, sums exclusive: products by shifts; they don't hang on the order, nor on how they are put together. No program is named here. -/
import GoSem.Core.Next
namespace Go.Proofs.Ytchdobneipfghaa.Gf
set_option linter.unusedVariables false
set_option linter.unusedSimpArgs false

theorem xor_lc (a b c : Nat) : a ^^^ (b ^^^ c) = b ^^^ (a ^^^ c) := by rw [← Nat.xor_assoc, Nat.xor_comm a, Nat.xor_assoc]
theorem xor_twice (a b : Nat) : a ^^^ (a ^^^ b) = b := by rw [← Nat.xor_assoc, Nat.xor_self, Nat.zero_xor]
/-- Exclusively additive. -/
def Add (f : Nat → Nat) : Prop := ∀ a b, f (a ^^^ b) = f a ^^^ f b
theorem Add.zero {f : Nat → Nat} (h : Add f) : f 0 = 0 := by
  have := h 0 0
  rwa [Nat.xor_self, Nat.xor_self] at this
theorem Add.comp {f g : Nat → Nat} (hf : Add f) (hg : Add g) : Add (fun a => f (g a)) := fun a b => by show f (g (a ^^^ b)) = f (g a) ^^^ f (g b); rw [hg, hf]
theorem Add.id : Add (fun a => a) := fun _ _ => rfl
theorem Add.xor {f g : Nat → Nat} (hf : Add f) (hg : Add g) : Add (fun a => f a ^^^ g a) := fun a b => by
  simp only [hf a b, hg a b]
  rw [Nat.xor_assoc, Nat.xor_assoc, ← Nat.xor_assoc (f b), ← Nat.xor_assoc (g a), Nat.xor_comm (f b)]
theorem Add.none : Add (fun _ => 0) := fun _ _ => by simp
theorem top_bit (a n : Nat) (h : a < 2 ^ (n + 1)) : a = (a % 2 ^ n) ^^^ (if a.testBit n then 2 ^ n else 0) := by
  apply Nat.eq_of_testBit_eq
  intro i
  rw [Nat.testBit_xor, Nat.testBit_mod_two_pow]
  by_cases hi : i < n
  · have : (if a.testBit n then 2 ^ n else 0).testBit i = false := by
      split
      · rw [Nat.testBit_two_pow]; simp; omega
      · simp
    simp [hi, this]
  · by_cases hn : i = n
    · subst hn
      cases hb : a.testBit i <;> simp
    · have h1 : a.testBit i = false := Nat.testBit_lt_two_pow (Nat.lt_of_lt_of_le h (Nat.pow_le_pow_right (by omega) (by omega)))
      have h2 : (if a.testBit n then 2 ^ n else 0).testBit i = false := by
        split
        · rw [Nat.testBit_two_pow]; simp; omega
        · simp
      simp [hi, h1, h2]
/-- WHAT IS ADDITIVE IS TOLD BY THE SINGLE BITS. -/
theorem ext {f g : Nat → Nat} (hf : Add f) (hg : Add g) (n : Nat) (h : ∀ i, i < n → f (2 ^ i) = g (2 ^ i)) : ∀ a, a < 2 ^ n → f a = g a := by
  induction n with
  | zero => intro a ha; obtain rfl : a = 0 := by simpa using ha
            rw [hf.zero, hg.zero]
  | succ n ih =>
    intro a ha
    rw [top_bit a n ha, hf, hg, ih (fun i hi => h i (by omega)) _ (Nat.mod_lt _ (Nat.two_pow_pos n))]
    congr 1
    split
    · exact h n (by omega)
    · rw [hf.zero, hg.zero]

theorem low_xor (a b : Nat) : (a ^^^ b) % 2 = (a % 2 + b % 2) % 2 := by
  have h := Nat.xor_mod_two_pow (a := a) (b := b) (n := 1)
  rw [Nat.pow_one] at h
  rw [h]
  rcases Nat.mod_two_eq_zero_or_one a with ha | ha <;> rcases Nat.mod_two_eq_zero_or_one b with hb | hb <;> rw [ha, hb] <;> rfl
theorem bit_xor (a b i : Nat) : (a ^^^ b) / 2 ^ i % 2 = (a / 2 ^ i % 2 + b / 2 ^ i % 2) % 2 := by
  have := Nat.shiftRight_xor_distrib (a := a) (b := b) (i := i)
  rw [Nat.shiftRight_eq_div_pow, Nat.shiftRight_eq_div_pow, Nat.shiftRight_eq_div_pow] at this
  rw [this, low_xor]
/-- c, if a bit says so. -/
theorem Add.bit (i c : Nat) : Add (fun x => if x / 2 ^ i % 2 = 1 then c else 0) := by
  intro a b
  show (if (a ^^^ b) / 2 ^ i % 2 = 1 then c else 0) = (if a / 2 ^ i % 2 = 1 then c else 0) ^^^ (if b / 2 ^ i % 2 = 1 then c else 0)
  rw [bit_xor]
  rcases Nat.mod_two_eq_zero_or_one (a / 2 ^ i) with ha | ha <;> rcases Nat.mod_two_eq_zero_or_one (b / 2 ^ i) with hb | hb <;> rw [ha, hb] <;> simp
theorem Add.times (i : Nat) : Add (fun x => x * 2 ^ i) := fun a b => by
  have := Nat.shiftLeft_xor_distrib (a := a) (b := b) (i := i)
  simpa [Nat.shiftLeft_eq] using this

variable (d p : Nat)
/-- The product with x: one step up; what goes over the top comes back as p. -/
def xt (a : Nat) : Nat := (2 * a) % 2 ^ d ^^^ (if a.testBit (d - 1) then p else 0)
theorem two_xor (a b : Nat) : 2 * (a ^^^ b) = 2 * a ^^^ 2 * b := by
  have := Nat.shiftLeft_xor_distrib (a := a) (b := b) (i := 1)
  simpa [Nat.shiftLeft_eq, Nat.mul_comm] using this
theorem mod_xor (a b : Nat) : (a ^^^ b) % 2 ^ d = a % 2 ^ d ^^^ b % 2 ^ d := Nat.xor_mod_two_pow
theorem xt_add : Add (xt d p) := by
  intro a b
  unfold xt
  rw [two_xor, mod_xor, Nat.testBit_xor]
  cases a.testBit (d - 1) <;> cases b.testBit (d - 1) <;> simp [xor_lc, Nat.xor_comm, xor_twice]
theorem xt_lt (hp : p < 2 ^ d) (a : Nat) : xt d p a < 2 ^ d := by
  unfold xt
  apply Nat.xor_lt_two_pow (Nat.mod_lt _ (Nat.two_pow_pos d))
  split
  · exact hp
  · exact Nat.two_pow_pos d
def xts : Nat → Nat → Nat
  | 0, a => a
  | n + 1, a => xt d p (xts n a)
theorem xts_zero (a : Nat) : xts d p 0 a = a := rfl
theorem xts_succ (n a : Nat) : xts d p (n + 1) a = xt d p (xts d p n a) := rfl
theorem xts_add (n : Nat) : Add (xts d p n) := by
  induction n with
  | zero => exact Add.id
  | succ n ih => exact (xt_add d p).comp ih
theorem xts_lt (hp : p < 2 ^ d) (n a : Nat) (ha : a < 2 ^ d) : xts d p n a < 2 ^ d := by
  cases n with
  | zero => exact ha
  | succ n => exact xt_lt d p hp _
theorem xts_xts (n m a : Nat) : xts d p n (xts d p m a) = xts d p (n + m) a := by
  induction n with
  | zero => rw [Nat.zero_add]; rfl
  | succ n ih => rw [xts_succ, ih, Nat.add_right_comm]; rfl
theorem xts_one (n : Nat) (h : n < d) : xts d p n 1 = 2 ^ n := by
  induction n with
  | zero => rfl
  | succ n ih =>
    rw [xts_succ, ih (by omega), xt, Nat.testBit_two_pow, if_neg (by simp; omega), Nat.xor_zero, ← Nat.pow_succ', Nat.mod_eq_of_lt (Nat.pow_lt_pow_right (by omega) h)]

/-- The product, by the lowest n bits of b. -/
def mulN (a b : Nat) : Nat → Nat
  | 0 => 0
  | n + 1 => mulN a b n ^^^ (if b.testBit n then xts d p n a else 0)
def mul (a b : Nat) : Nat := mulN d p a b d
theorem mulN_left (b n : Nat) : Add (fun a => mulN d p a b n) := by
  induction n with
  | zero => exact Add.none
  | succ n ih =>
    refine Add.xor (f := fun a => mulN d p a b n) (g := fun a => if b.testBit n then xts d p n a else 0) ih ?_
    cases b.testBit n
    · exact Add.none
    · simpa using xts_add d p n
theorem mulN_right (a n : Nat) : Add (fun b => mulN d p a b n) := by
  induction n with
  | zero => exact Add.none
  | succ n ih =>
    refine Add.xor (f := fun b => mulN d p a b n) (g := fun b => if b.testBit n then xts d p n a else 0) ih ?_
    intro b c
    simp only [Nat.testBit_xor]
    cases b.testBit n <;> cases c.testBit n <;> simp
theorem mul_left (b : Nat) : Add (fun a => mul d p a b) := mulN_left d p b d
theorem mul_right (a : Nat) : Add (fun b => mul d p a b) := mulN_right d p a d
theorem mul_xor (a b c : Nat) : mul d p a (b ^^^ c) = mul d p a b ^^^ mul d p a c := mul_right d p a b c
theorem xor_mul (a b c : Nat) : mul d p (a ^^^ b) c = mul d p a c ^^^ mul d p b c := mul_left d p c a b
theorem mulN_lt (hp : p < 2 ^ d) (a b n : Nat) (ha : a < 2 ^ d) : mulN d p a b n < 2 ^ d := by
  induction n with
  | zero => exact Nat.two_pow_pos d
  | succ n ih =>
    refine Nat.xor_lt_two_pow ih ?_
    split
    · exact xts_lt d p hp n a ha
    · exact Nat.two_pow_pos d
theorem mul_lt (hp : p < 2 ^ d) (a b : Nat) (ha : a < 2 ^ d) : mul d p a b < 2 ^ d := mulN_lt d p hp a b d ha
theorem mulN_bit (a j n : Nat) : mulN d p a (2 ^ j) n = if j < n then xts d p j a else 0 := by
  induction n with
  | zero => simp [mulN]
  | succ n ih =>
    rw [mulN, ih, Nat.testBit_two_pow]
    by_cases h : j < n
    · have : ¬ j = n := by omega
      simp [h, this, show j < n + 1 by omega]
    · by_cases h2 : j = n
      · subst h2; simp
      · simp [h, h2, show ¬ j < n + 1 by omega]
theorem mul_bit (a j : Nat) (h : j < d) : mul d p a (2 ^ j) = xts d p j a := by rw [mul, mulN_bit, if_pos h]
theorem mul_bits (i j : Nat) (hi : i < d) (hj : j < d) : mul d p (2 ^ i) (2 ^ j) = xts d p (j + i) 1 := by
  rw [mul_bit d p _ j hj, ← xts_one d p i hi, xts_xts]
/-- THE ORDER DOESN'T MATTER. -/
theorem mul_comm (a b : Nat) (ha : a < 2 ^ d) (hb : b < 2 ^ d) : mul d p a b = mul d p b a := by
  refine ext (f := fun a => mul d p a b) (g := fun a => mul d p b a) (mul_left d p b) (mul_right d p b) d (fun i hi => ?_) a ha
  refine ext (f := fun b => mul d p (2 ^ i) b) (g := fun b => mul d p b (2 ^ i)) (mul_right d p _) (mul_left d p _) d (fun j hj => ?_) b hb
  rw [mul_bits d p i j hi hj, mul_bits d p j i hj hi, Nat.add_comm]
theorem mul_xts (a n : Nat) (b : Nat) (hb : b < 2 ^ d) : mul d p (xts d p n a) b = xts d p n (mul d p a b) := by
  refine ext (f := fun b => mul d p (xts d p n a) b) (g := fun b => xts d p n (mul d p a b)) (mul_right d p _) ((xts_add d p n).comp (mul_right d p a)) d (fun j hj => ?_) b hb
  rw [mul_bit d p _ j hj, mul_bit d p _ j hj, xts_xts, xts_xts, Nat.add_comm]
/-- NOR HOW IT IS PUT TOGETHER. -/
theorem mul_assoc (a b c : Nat) (hp : p < 2 ^ d) (ha : a < 2 ^ d) (hb : b < 2 ^ d) (hc : c < 2 ^ d) : mul d p (mul d p a b) c = mul d p a (mul d p b c) := by
  refine ext (f := fun c => mul d p (mul d p a b) c) (g := fun c => mul d p a (mul d p b c)) (mul_right d p _) ((mul_right d p a).comp (mul_right d p b)) d (fun j hj => ?_) c hc
  rw [mul_bit d p _ j hj, mul_bit d p _ j hj, mul_comm d p a _ ha (xts_lt d p hp j b hb), mul_xts d p b j a ha, mul_comm d p b a hb ha]
theorem mul_one (a : Nat) (hd : 0 < d) : mul d p a 1 = a := mul_bit d p a 0 hd
theorem mul_zero (a : Nat) : mul d p a 0 = 0 := (mul_right d p a).zero
theorem zero_mul (a : Nat) : mul d p 0 a = 0 := (mul_left d p a).zero
theorem mul_two (a : Nat) (hd : 1 < d) : mul d p a 2 = xt d p a := mul_bit d p a 1 hd

/-- A square; squares over and over. -/
def sq (a : Nat) : Nat := mul d p a a
def sqs : Nat → Nat → Nat
  | 0, a => a
  | n + 1, a => sq d p (sqs n a)
theorem sq_lt (hp : p < 2 ^ d) (a : Nat) (ha : a < 2 ^ d) : sq d p a < 2 ^ d := mul_lt d p hp a a ha
theorem sqs_lt (hp : p < 2 ^ d) (n a : Nat) (ha : a < 2 ^ d) : sqs d p n a < 2 ^ d := by
  induction n with
  | zero => exact ha
  | succ n ih => exact sq_lt d p hp _ ih
theorem sq_xor (a b : Nat) (ha : a < 2 ^ d) (hb : b < 2 ^ d) : sq d p (a ^^^ b) = sq d p a ^^^ sq d p b := by
  unfold sq
  rw [mul_xor, xor_mul, xor_mul, mul_comm d p b a hb ha, Nat.xor_assoc, xor_twice]
theorem sq_mul (hp : p < 2 ^ d) (a b : Nat) (ha : a < 2 ^ d) (hb : b < 2 ^ d) : sq d p (mul d p a b) = mul d p (sq d p a) (sq d p b) := by
  unfold sq
  rw [mul_assoc d p a b _ hp ha hb (mul_lt d p hp a b ha), ← mul_assoc d p b a b hp hb ha hb, mul_comm d p b a hb ha, mul_assoc d p a b b hp ha hb hb, ← mul_assoc d p a a _ hp ha ha (mul_lt d p hp b b hb)]
theorem sqs_xor (hp : p < 2 ^ d) (n a b : Nat) (ha : a < 2 ^ d) (hb : b < 2 ^ d) : sqs d p n (a ^^^ b) = sqs d p n a ^^^ sqs d p n b := by
  induction n with
  | zero => rfl
  | succ n ih => rw [sqs, ih, sq_xor d p _ _ (sqs_lt d p hp n a ha) (sqs_lt d p hp n b hb)]; rfl
theorem sqs_mul (hp : p < 2 ^ d) (n a b : Nat) (ha : a < 2 ^ d) (hb : b < 2 ^ d) : sqs d p n (mul d p a b) = mul d p (sqs d p n a) (sqs d p n b) := by
  induction n with
  | zero => rfl
  | succ n ih => rw [sqs, ih, sq_mul d p hp _ _ (sqs_lt d p hp n a ha) (sqs_lt d p hp n b hb)]; rfl
/-- What is additive below 2^d alone. -/
theorem ext_lt {f g : Nat → Nat} (hf : ∀ a b, a < 2 ^ d → b < 2 ^ d → f (a ^^^ b) = f a ^^^ f b) (hg : ∀ a b, a < 2 ^ d → b < 2 ^ d → g (a ^^^ b) = g a ^^^ g b) (h : ∀ i, i < d → f (2 ^ i) = g (2 ^ i)) : ∀ n, n ≤ d → ∀ a, a < 2 ^ n → f a = g a := by
  have z : ∀ {f : Nat → Nat}, (∀ a b, a < 2 ^ d → b < 2 ^ d → f (a ^^^ b) = f a ^^^ f b) → f 0 = 0 := fun {f} hf => by
    have := hf 0 0 (Nat.two_pow_pos d) (Nat.two_pow_pos d)
    rwa [Nat.xor_self, Nat.xor_self] at this
  intro n
  induction n with
  | zero => intro _ a ha; obtain rfl : a = 0 := by simpa using ha
            rw [z hf, z hg]
  | succ n ih =>
    intro hn a ha
    have h1 : a % 2 ^ n < 2 ^ n := Nat.mod_lt _ (Nat.two_pow_pos n)
    have h2 : a % 2 ^ n < 2 ^ d := Nat.lt_of_lt_of_le h1 (Nat.pow_le_pow_right (by omega) (by omega))
    have h3 : (if a.testBit n then 2 ^ n else 0) < 2 ^ d := by
      split
      · exact Nat.pow_lt_pow_right (by omega) (by omega)
      · exact Nat.two_pow_pos d
    rw [top_bit a n ha, hf _ _ h2 h3, hg _ _ h2 h3, ih (by omega) _ h1]
    congr 1
    split
    · exact h n (by omega)
    · rw [z hf, z hg]
theorem sqs_one (n : Nat) (hd : 0 < d) : sqs d p n 1 = 1 := by
  induction n with
  | zero => rfl
  | succ n ih => rw [sqs, ih, sq, mul_one d p 1 hd]
/-- Where x comes back behind d squares, all do. -/
theorem sqs_all (hp : p < 2 ^ d) (hd : 1 < d) (hx : sqs d p d 2 = 2) (a : Nat) (ha : a < 2 ^ d) : sqs d p d a = a := by
  refine ext_lt d (f := fun a => sqs d p d a) (g := fun a => a) (fun a b ha hb => sqs_xor d p hp d a b ha hb) (fun _ _ _ _ => rfl) (fun i hi => ?_) d (Nat.le_refl d) a ha
  have h2 : 2 < 2 ^ d := by
    have : 2 ^ 2 ≤ 2 ^ d := Nat.pow_le_pow_right (by omega) hd
    omega
  induction i with
  | zero => exact sqs_one d p d (by omega)
  | succ i ih =>
    have hi2 : 2 ^ i < 2 ^ d := Nat.pow_lt_pow_right (by omega) (by omega)
    have e : 2 ^ (i + 1) = mul d p (2 ^ i) 2 := by
      rw [mul_two d p _ hd, ← xts_one d p (i + 1) hi, xts_succ, xts_one d p i (by omega)]
    rw [e]
    show sqs d p d (mul d p (2 ^ i) 2) = _
    rw [sqs_mul d p hp d _ _ hi2 h2, hx]
    congr 1
    exact ih (by omega)

/-- The product of a, a^2, a^4 .. a^(2^(n-1)): a to the power of 2^n - 1. -/
def run (a : Nat) : Nat → Nat
  | 0 => 1
  | n + 1 => mul d p (run a n) (sqs d p n a)
theorem one_lt (hd : 0 < d) : 1 < 2 ^ d := Nat.one_lt_two_pow (by omega)
theorem run_lt (hp : p < 2 ^ d) (hd : 0 < d) (a n : Nat) : run d p a n < 2 ^ d := by
  induction n with
  | zero => exact one_lt d hd
  | succ n ih => exact mul_lt d p hp _ _ ih
theorem one_mul (a : Nat) (hd : 0 < d) (ha : a < 2 ^ d) : mul d p 1 a = a := by rw [mul_comm d p 1 a (one_lt d hd) ha, mul_one d p a hd]
theorem run_mul (hp : p < 2 ^ d) (hd : 0 < d) (a n : Nat) (ha : a < 2 ^ d) : mul d p (run d p a n) a = sqs d p n a := by
  induction n with
  | zero => exact one_mul d p a hd ha
  | succ n ih =>
    rw [run, mul_assoc d p _ _ _ hp (run_lt d p hp hd a n) (sqs_lt d p hp n a ha) ha, mul_comm d p (sqs d p n a) a (sqs_lt d p hp n a ha) ha, ← mul_assoc d p _ _ _ hp (run_lt d p hp hd a n) ha (sqs_lt d p hp n a ha), ih]
    rfl
/-- The square of the product of the powers is that of the next ones. -/
theorem run_sq (hp : p < 2 ^ d) (hd : 0 < d) (a n : Nat) (ha : a < 2 ^ d) : mul d p a (sq d p (run d p a n)) = run d p a (n + 1) := by
  induction n with
  | zero => show mul d p a (mul d p 1 1) = mul d p 1 a
            rw [mul_one d p 1 hd, mul_one d p a hd, one_mul d p a hd ha]
  | succ n ih =>
    rw [run, sq_mul d p hp _ _ (run_lt d p hp hd a n) (sqs_lt d p hp n a ha), ← mul_assoc d p _ _ _ hp ha (sq_lt d p hp _ (run_lt d p hp hd a n)) (sq_lt d p hp _ (sqs_lt d p hp n a ha)), ih]
    rfl
/-- e = a^(2^d - 1) is its own square. -/
theorem idem (hp : p < 2 ^ d) (hd : 1 < d) (hx : sqs d p d 2 = 2) (a : Nat) (ha : a < 2 ^ d) : sq d p (run d p a d) = run d p a d := by
  obtain ⟨n, rfl⟩ : ∃ n, d = n + 1 := ⟨d - 1, by omega⟩
  have hl := run_lt (n + 1) p hp (by omega) a (n + 1)
  have hs := sq_lt (n + 1) p hp _ (run_lt (n + 1) p hp (by omega) a n)
  have h1 : run (n + 1) p a (n + 1) = mul (n + 1) p a (sq (n + 1) p (run (n + 1) p a n)) := (run_sq (n + 1) p hp (by omega) a n ha).symm
  have h2 : mul (n + 1) p (run (n + 1) p a (n + 1)) a = a := by rw [run_mul (n + 1) p hp (by omega) a _ ha, sqs_all (n + 1) p hp hd hx a ha]
  have h3 : mul (n + 1) p (run (n + 1) p a (n + 1)) (mul (n + 1) p a (sq (n + 1) p (run (n + 1) p a n))) = mul (n + 1) p a (sq (n + 1) p (run (n + 1) p a n)) := by
    rw [← mul_assoc (n + 1) p _ _ _ hp hl ha hs, h2]
  rw [← h1] at h3
  exact h3
/-- NO PRODUCT IS NONE BUT OF NONE, where x comes back behind d squares, and additive 'back' finds a (but for its lowest bit) out of a^2 + a. -/
theorem entire (hp : p < 2 ^ d) (hd : 1 < d) (hx : sqs d p d 2 = 2) (back : Nat → Nat) (hb : Add back) (hbk : ∀ i, i < d → back (sq d p (2 ^ i) ^^^ 2 ^ i) = 2 ^ i / 2 * 2) (a b : Nat) (ha : a < 2 ^ d) (hbl : b < 2 ^ d) (h : mul d p a b = 0) (ha0 : a ≠ 0) : b = 0 := by
  have hl := run_lt d p hp (by omega) a d
  have hid := idem d p hp hd hx a ha
  have hba : ∀ e, e < 2 ^ d → back (sq d p e ^^^ e) = e / 2 * 2 := by
    intro e he
    refine ext_lt d (f := fun e => back (sq d p e ^^^ e)) (g := fun e => e / 2 * 2) (fun u v hu hv => ?_) (fun u v _ _ => ?_) hbk d (Nat.le_refl d) e he
    · show back (sq d p (u ^^^ v) ^^^ (u ^^^ v)) = back (sq d p u ^^^ u) ^^^ back (sq d p v ^^^ v)
      rw [sq_xor d p u v hu hv, ← hb]
      congr 1
      rw [Nat.xor_assoc, Nat.xor_assoc, xor_lc (sq d p v)]
    · show (u ^^^ v) / 2 * 2 = u / 2 * 2 ^^^ v / 2 * 2
      apply Nat.eq_of_testBit_eq
      intro i
      have t : ∀ x : Nat, (x / 2 * 2).testBit i = (decide (0 < i) && x.testBit i) := fun x => by
        cases i with
        | zero => simp [Nat.testBit_zero]
        | succ i => rw [Nat.testBit_succ, Nat.mul_div_cancel _ (by omega), Nat.testBit_succ]; simp
      rw [t, Nat.testBit_xor, Nat.testBit_xor, t, t]
      cases decide (0 < i) <;> simp
  have h0 := hba _ hl
  rw [hid, Nat.xor_self, hb.zero] at h0
  have h2 : mul d p (run d p a d) a = a := by rw [run_mul d p hp (by omega) a _ ha, sqs_all d p hp hd hx a ha]
  have h01 : run d p a d = 0 ∨ run d p a d = 1 := by omega
  rcases h01 with h01 | h01
  · rw [h01, zero_mul] at h2; exact absurd h2.symm ha0
  · obtain ⟨n, hn⟩ : ∃ n, d = n + 1 := ⟨d - 1, by omega⟩
    have hs := sq_lt d p hp _ (run_lt d p hp (by omega) a n)
    have h3 := run_sq d p hp (by omega) a n ha
    rw [← hn, h01, mul_comm d p a _ ha hs] at h3
    have h4 := mul_assoc d p _ a b hp hs ha hbl
    rw [h3, h, mul_zero, one_mul d p b (by omega) hbl] at h4
    exact h4
end Go.Proofs.Ytchdobneipfghaa.Gf
