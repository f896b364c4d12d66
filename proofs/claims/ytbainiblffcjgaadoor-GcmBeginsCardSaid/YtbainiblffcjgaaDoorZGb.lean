/- Fields of 2^d elements as numbers below 2^d, sums exclusive: products by shifts; they don't hang on the order, nor on how they are put together. No program is named here. · The field of 256 elements on bytes: products, inverses, the box; how the document's own calls reckon them. No program is named here. · Blocks of 16 bytes under a key's words, on lists of bytes: sealing, the way back, the words of a key. No program is named here. · The field of 2^128 elements of GHASH: x comes back behind 128 squares, what finds an element out of its square and itself: so no product is none but of none. No program is named here. · Blocks of 16 bytes as the elements of GHASH's field, on lists of bytes: bits, numbers, sums, products; sums of texts. No program is named here. · Texts sealed under a key, on lists of bytes: the stream, the tag, there and back. No program is named here. · Pure: a text taken exclusively with the blocks, piece by piece. No program is named here. · Pure: the tag where what is known besides is noughts alone. No program is named here. -/
import GoSem.Core.Next
namespace Go.Proofs.YtbainiblffcjgaaDoor.Gf
set_option linter.unusedVariables false
set_option linter.unusedSimpArgs false

theorem xor_lc (a b c : Nat) : a ^^^ (b ^^^ c) = b ^^^ (a ^^^ c) := by rw [← Nat.xor_assoc, Nat.xor_comm a, Nat.xor_assoc]
theorem xor_twice (a b : Nat) : a ^^^ (a ^^^ b) = b := by rw [← Nat.xor_assoc, Nat.xor_self, Nat.zero_xor]
/-- Exclusively additive. -/
def Add (f : Nat → Nat) : Prop := ∀ a b, f (a ^^^ b) = f a ^^^ f b
theorem Add.zero {f : Nat → Nat} (h : Add f) : f 0 = 0 := by
  have := h 0 0
  rwa [Nat.xor_self, Nat.xor_self] at this
theorem Add.comp {f g : Nat → Nat} (hf : Add f) (hg : Add g) : Add (fun a => f (g a)) := fun a b => by show f (g (a ^^^ b)) = f (g a) ^^^ f (g b); rw [hg, hf]
theorem Add.id : Add (fun a => a) := fun _ _ => rfl
theorem Add.xor {f g : Nat → Nat} (hf : Add f) (hg : Add g) : Add (fun a => f a ^^^ g a) := fun a b => by
  simp only [hf a b, hg a b]
  rw [Nat.xor_assoc, Nat.xor_assoc, ← Nat.xor_assoc (f b), ← Nat.xor_assoc (g a), Nat.xor_comm (f b)]
theorem Add.none : Add (fun _ => 0) := fun _ _ => by simp
theorem top_bit (a n : Nat) (h : a < 2 ^ (n + 1)) : a = (a % 2 ^ n) ^^^ (if a.testBit n then 2 ^ n else 0) := by
  apply Nat.eq_of_testBit_eq
  intro i
  rw [Nat.testBit_xor, Nat.testBit_mod_two_pow]
  by_cases hi : i < n
  · have : (if a.testBit n then 2 ^ n else 0).testBit i = false := by
      split
      · rw [Nat.testBit_two_pow]; simp; omega
      · simp
    simp [hi, this]
  · by_cases hn : i = n
    · subst hn
      cases hb : a.testBit i <;> simp
    · have h1 : a.testBit i = false := Nat.testBit_lt_two_pow (Nat.lt_of_lt_of_le h (Nat.pow_le_pow_right (by omega) (by omega)))
      have h2 : (if a.testBit n then 2 ^ n else 0).testBit i = false := by
        split
        · rw [Nat.testBit_two_pow]; simp; omega
        · simp
      simp [hi, h1, h2]
/-- WHAT IS ADDITIVE IS TOLD BY THE SINGLE BITS. -/
theorem ext {f g : Nat → Nat} (hf : Add f) (hg : Add g) (n : Nat) (h : ∀ i, i < n → f (2 ^ i) = g (2 ^ i)) : ∀ a, a < 2 ^ n → f a = g a := by
  induction n with
  | zero => intro a ha; obtain rfl : a = 0 := by simpa using ha
            rw [hf.zero, hg.zero]
  | succ n ih =>
    intro a ha
    rw [top_bit a n ha, hf, hg, ih (fun i hi => h i (by omega)) _ (Nat.mod_lt _ (Nat.two_pow_pos n))]
    congr 1
    split
    · exact h n (by omega)
    · rw [hf.zero, hg.zero]

theorem low_xor (a b : Nat) : (a ^^^ b) % 2 = (a % 2 + b % 2) % 2 := by
  have h := Nat.xor_mod_two_pow (a := a) (b := b) (n := 1)
  rw [Nat.pow_one] at h
  rw [h]
  rcases Nat.mod_two_eq_zero_or_one a with ha | ha <;> rcases Nat.mod_two_eq_zero_or_one b with hb | hb <;> rw [ha, hb] <;> rfl
theorem bit_xor (a b i : Nat) : (a ^^^ b) / 2 ^ i % 2 = (a / 2 ^ i % 2 + b / 2 ^ i % 2) % 2 := by
  have := Nat.shiftRight_xor_distrib (a := a) (b := b) (i := i)
  rw [Nat.shiftRight_eq_div_pow, Nat.shiftRight_eq_div_pow, Nat.shiftRight_eq_div_pow] at this
  rw [this, low_xor]
/-- c, if a bit says so. -/
theorem Add.bit (i c : Nat) : Add (fun x => if x / 2 ^ i % 2 = 1 then c else 0) := by
  intro a b
  show (if (a ^^^ b) / 2 ^ i % 2 = 1 then c else 0) = (if a / 2 ^ i % 2 = 1 then c else 0) ^^^ (if b / 2 ^ i % 2 = 1 then c else 0)
  rw [bit_xor]
  rcases Nat.mod_two_eq_zero_or_one (a / 2 ^ i) with ha | ha <;> rcases Nat.mod_two_eq_zero_or_one (b / 2 ^ i) with hb | hb <;> rw [ha, hb] <;> simp
theorem Add.times (i : Nat) : Add (fun x => x * 2 ^ i) := fun a b => by
  have := Nat.shiftLeft_xor_distrib (a := a) (b := b) (i := i)
  simpa [Nat.shiftLeft_eq] using this

variable (d p : Nat)
/-- The product with x: one step up; what goes over the top comes back as p. -/
def xt (a : Nat) : Nat := (2 * a) % 2 ^ d ^^^ (if a.testBit (d - 1) then p else 0)
theorem two_xor (a b : Nat) : 2 * (a ^^^ b) = 2 * a ^^^ 2 * b := by
  have := Nat.shiftLeft_xor_distrib (a := a) (b := b) (i := 1)
  simpa [Nat.shiftLeft_eq, Nat.mul_comm] using this
theorem mod_xor (a b : Nat) : (a ^^^ b) % 2 ^ d = a % 2 ^ d ^^^ b % 2 ^ d := Nat.xor_mod_two_pow
theorem xt_add : Add (xt d p) := by
  intro a b
  unfold xt
  rw [two_xor, mod_xor, Nat.testBit_xor]
  cases a.testBit (d - 1) <;> cases b.testBit (d - 1) <;> simp [xor_lc, Nat.xor_comm, xor_twice]
theorem xt_lt (hp : p < 2 ^ d) (a : Nat) : xt d p a < 2 ^ d := by
  unfold xt
  apply Nat.xor_lt_two_pow (Nat.mod_lt _ (Nat.two_pow_pos d))
  split
  · exact hp
  · exact Nat.two_pow_pos d
def xts : Nat → Nat → Nat
  | 0, a => a
  | n + 1, a => xt d p (xts n a)
theorem xts_zero (a : Nat) : xts d p 0 a = a := rfl
theorem xts_succ (n a : Nat) : xts d p (n + 1) a = xt d p (xts d p n a) := rfl
theorem xts_add (n : Nat) : Add (xts d p n) := by
  induction n with
  | zero => exact Add.id
  | succ n ih => exact (xt_add d p).comp ih
theorem xts_lt (hp : p < 2 ^ d) (n a : Nat) (ha : a < 2 ^ d) : xts d p n a < 2 ^ d := by
  cases n with
  | zero => exact ha
  | succ n => exact xt_lt d p hp _
theorem xts_xts (n m a : Nat) : xts d p n (xts d p m a) = xts d p (n + m) a := by
  induction n with
  | zero => rw [Nat.zero_add]; rfl
  | succ n ih => rw [xts_succ, ih, Nat.add_right_comm]; rfl
theorem xts_one (n : Nat) (h : n < d) : xts d p n 1 = 2 ^ n := by
  induction n with
  | zero => rfl
  | succ n ih =>
    rw [xts_succ, ih (by omega), xt, Nat.testBit_two_pow, if_neg (by simp; omega), Nat.xor_zero, ← Nat.pow_succ', Nat.mod_eq_of_lt (Nat.pow_lt_pow_right (by omega) h)]

/-- The product, by the lowest n bits of b. -/
def mulN (a b : Nat) : Nat → Nat
  | 0 => 0
  | n + 1 => mulN a b n ^^^ (if b.testBit n then xts d p n a else 0)
def mul (a b : Nat) : Nat := mulN d p a b d
theorem mulN_left (b n : Nat) : Add (fun a => mulN d p a b n) := by
  induction n with
  | zero => exact Add.none
  | succ n ih =>
    refine Add.xor (f := fun a => mulN d p a b n) (g := fun a => if b.testBit n then xts d p n a else 0) ih ?_
    cases b.testBit n
    · exact Add.none
    · simpa using xts_add d p n
theorem mulN_right (a n : Nat) : Add (fun b => mulN d p a b n) := by
  induction n with
  | zero => exact Add.none
  | succ n ih =>
    refine Add.xor (f := fun b => mulN d p a b n) (g := fun b => if b.testBit n then xts d p n a else 0) ih ?_
    intro b c
    simp only [Nat.testBit_xor]
    cases b.testBit n <;> cases c.testBit n <;> simp
theorem mul_left (b : Nat) : Add (fun a => mul d p a b) := mulN_left d p b d
theorem mul_right (a : Nat) : Add (fun b => mul d p a b) := mulN_right d p a d
theorem mul_xor (a b c : Nat) : mul d p a (b ^^^ c) = mul d p a b ^^^ mul d p a c := mul_right d p a b c
theorem xor_mul (a b c : Nat) : mul d p (a ^^^ b) c = mul d p a c ^^^ mul d p b c := mul_left d p c a b
theorem mulN_lt (hp : p < 2 ^ d) (a b n : Nat) (ha : a < 2 ^ d) : mulN d p a b n < 2 ^ d := by
  induction n with
  | zero => exact Nat.two_pow_pos d
  | succ n ih =>
    refine Nat.xor_lt_two_pow ih ?_
    split
    · exact xts_lt d p hp n a ha
    · exact Nat.two_pow_pos d
theorem mul_lt (hp : p < 2 ^ d) (a b : Nat) (ha : a < 2 ^ d) : mul d p a b < 2 ^ d := mulN_lt d p hp a b d ha
theorem mulN_bit (a j n : Nat) : mulN d p a (2 ^ j) n = if j < n then xts d p j a else 0 := by
  induction n with
  | zero => simp [mulN]
  | succ n ih =>
    rw [mulN, ih, Nat.testBit_two_pow]
    by_cases h : j < n
    · have : ¬ j = n := by omega
      simp [h, this, show j < n + 1 by omega]
    · by_cases h2 : j = n
      · subst h2; simp
      · simp [h, h2, show ¬ j < n + 1 by omega]
theorem mul_bit (a j : Nat) (h : j < d) : mul d p a (2 ^ j) = xts d p j a := by rw [mul, mulN_bit, if_pos h]
theorem mul_bits (i j : Nat) (hi : i < d) (hj : j < d) : mul d p (2 ^ i) (2 ^ j) = xts d p (j + i) 1 := by
  rw [mul_bit d p _ j hj, ← xts_one d p i hi, xts_xts]
/-- THE ORDER DOESN'T MATTER. -/
theorem mul_comm (a b : Nat) (ha : a < 2 ^ d) (hb : b < 2 ^ d) : mul d p a b = mul d p b a := by
  refine ext (f := fun a => mul d p a b) (g := fun a => mul d p b a) (mul_left d p b) (mul_right d p b) d (fun i hi => ?_) a ha
  refine ext (f := fun b => mul d p (2 ^ i) b) (g := fun b => mul d p b (2 ^ i)) (mul_right d p _) (mul_left d p _) d (fun j hj => ?_) b hb
  rw [mul_bits d p i j hi hj, mul_bits d p j i hj hi, Nat.add_comm]
theorem mul_xts (a n : Nat) (b : Nat) (hb : b < 2 ^ d) : mul d p (xts d p n a) b = xts d p n (mul d p a b) := by
  refine ext (f := fun b => mul d p (xts d p n a) b) (g := fun b => xts d p n (mul d p a b)) (mul_right d p _) ((xts_add d p n).comp (mul_right d p a)) d (fun j hj => ?_) b hb
  rw [mul_bit d p _ j hj, mul_bit d p _ j hj, xts_xts, xts_xts, Nat.add_comm]
/-- NOR HOW IT IS PUT TOGETHER. -/
theorem mul_assoc (a b c : Nat) (hp : p < 2 ^ d) (ha : a < 2 ^ d) (hb : b < 2 ^ d) (hc : c < 2 ^ d) : mul d p (mul d p a b) c = mul d p a (mul d p b c) := by
  refine ext (f := fun c => mul d p (mul d p a b) c) (g := fun c => mul d p a (mul d p b c)) (mul_right d p _) ((mul_right d p a).comp (mul_right d p b)) d (fun j hj => ?_) c hc
  rw [mul_bit d p _ j hj, mul_bit d p _ j hj, mul_comm d p a _ ha (xts_lt d p hp j b hb), mul_xts d p b j a ha, mul_comm d p b a hb ha]
theorem mul_one (a : Nat) (hd : 0 < d) : mul d p a 1 = a := mul_bit d p a 0 hd
theorem mul_zero (a : Nat) : mul d p a 0 = 0 := (mul_right d p a).zero
theorem zero_mul (a : Nat) : mul d p 0 a = 0 := (mul_left d p a).zero
theorem mul_two (a : Nat) (hd : 1 < d) : mul d p a 2 = xt d p a := mul_bit d p a 1 hd

/-- A square; squares over and over. -/
def sq (a : Nat) : Nat := mul d p a a
def sqs : Nat → Nat → Nat
  | 0, a => a
  | n + 1, a => sq d p (sqs n a)
theorem sq_lt (hp : p < 2 ^ d) (a : Nat) (ha : a < 2 ^ d) : sq d p a < 2 ^ d := mul_lt d p hp a a ha
theorem sqs_lt (hp : p < 2 ^ d) (n a : Nat) (ha : a < 2 ^ d) : sqs d p n a < 2 ^ d := by
  induction n with
  | zero => exact ha
  | succ n ih => exact sq_lt d p hp _ ih
theorem sq_xor (a b : Nat) (ha : a < 2 ^ d) (hb : b < 2 ^ d) : sq d p (a ^^^ b) = sq d p a ^^^ sq d p b := by
  unfold sq
  rw [mul_xor, xor_mul, xor_mul, mul_comm d p b a hb ha, Nat.xor_assoc, xor_twice]
theorem sq_mul (hp : p < 2 ^ d) (a b : Nat) (ha : a < 2 ^ d) (hb : b < 2 ^ d) : sq d p (mul d p a b) = mul d p (sq d p a) (sq d p b) := by
  unfold sq
  rw [mul_assoc d p a b _ hp ha hb (mul_lt d p hp a b ha), ← mul_assoc d p b a b hp hb ha hb, mul_comm d p b a hb ha, mul_assoc d p a b b hp ha hb hb, ← mul_assoc d p a a _ hp ha ha (mul_lt d p hp b b hb)]
theorem sqs_xor (hp : p < 2 ^ d) (n a b : Nat) (ha : a < 2 ^ d) (hb : b < 2 ^ d) : sqs d p n (a ^^^ b) = sqs d p n a ^^^ sqs d p n b := by
  induction n with
  | zero => rfl
  | succ n ih => rw [sqs, ih, sq_xor d p _ _ (sqs_lt d p hp n a ha) (sqs_lt d p hp n b hb)]; rfl
theorem sqs_mul (hp : p < 2 ^ d) (n a b : Nat) (ha : a < 2 ^ d) (hb : b < 2 ^ d) : sqs d p n (mul d p a b) = mul d p (sqs d p n a) (sqs d p n b) := by
  induction n with
  | zero => rfl
  | succ n ih => rw [sqs, ih, sq_mul d p hp _ _ (sqs_lt d p hp n a ha) (sqs_lt d p hp n b hb)]; rfl
/-- What is additive below 2^d alone. -/
theorem ext_lt {f g : Nat → Nat} (hf : ∀ a b, a < 2 ^ d → b < 2 ^ d → f (a ^^^ b) = f a ^^^ f b) (hg : ∀ a b, a < 2 ^ d → b < 2 ^ d → g (a ^^^ b) = g a ^^^ g b) (h : ∀ i, i < d → f (2 ^ i) = g (2 ^ i)) : ∀ n, n ≤ d → ∀ a, a < 2 ^ n → f a = g a := by
  have z : ∀ {f : Nat → Nat}, (∀ a b, a < 2 ^ d → b < 2 ^ d → f (a ^^^ b) = f a ^^^ f b) → f 0 = 0 := fun {f} hf => by
    have := hf 0 0 (Nat.two_pow_pos d) (Nat.two_pow_pos d)
    rwa [Nat.xor_self, Nat.xor_self] at this
  intro n
  induction n with
  | zero => intro _ a ha; obtain rfl : a = 0 := by simpa using ha
            rw [z hf, z hg]
  | succ n ih =>
    intro hn a ha
    have h1 : a % 2 ^ n < 2 ^ n := Nat.mod_lt _ (Nat.two_pow_pos n)
    have h2 : a % 2 ^ n < 2 ^ d := Nat.lt_of_lt_of_le h1 (Nat.pow_le_pow_right (by omega) (by omega))
    have h3 : (if a.testBit n then 2 ^ n else 0) < 2 ^ d := by
      split
      · exact Nat.pow_lt_pow_right (by omega) (by omega)
      · exact Nat.two_pow_pos d
    rw [top_bit a n ha, hf _ _ h2 h3, hg _ _ h2 h3, ih (by omega) _ h1]
    congr 1
    split
    · exact h n (by omega)
    · rw [z hf, z hg]
theorem sqs_one (n : Nat) (hd : 0 < d) : sqs d p n 1 = 1 := by
  induction n with
  | zero => rfl
  | succ n ih => rw [sqs, ih, sq, mul_one d p 1 hd]
/-- Where x comes back behind d squares, all do. -/
theorem sqs_all (hp : p < 2 ^ d) (hd : 1 < d) (hx : sqs d p d 2 = 2) (a : Nat) (ha : a < 2 ^ d) : sqs d p d a = a := by
  refine ext_lt d (f := fun a => sqs d p d a) (g := fun a => a) (fun a b ha hb => sqs_xor d p hp d a b ha hb) (fun _ _ _ _ => rfl) (fun i hi => ?_) d (Nat.le_refl d) a ha
  have h2 : 2 < 2 ^ d := by
    have : 2 ^ 2 ≤ 2 ^ d := Nat.pow_le_pow_right (by omega) hd
    omega
  induction i with
  | zero => exact sqs_one d p d (by omega)
  | succ i ih =>
    have hi2 : 2 ^ i < 2 ^ d := Nat.pow_lt_pow_right (by omega) (by omega)
    have e : 2 ^ (i + 1) = mul d p (2 ^ i) 2 := by
      rw [mul_two d p _ hd, ← xts_one d p (i + 1) hi, xts_succ, xts_one d p i (by omega)]
    rw [e]
    show sqs d p d (mul d p (2 ^ i) 2) = _
    rw [sqs_mul d p hp d _ _ hi2 h2, hx]
    congr 1
    exact ih (by omega)

/-- The product of a, a^2, a^4 .. a^(2^(n-1)): a to the power of 2^n - 1. -/
def run (a : Nat) : Nat → Nat
  | 0 => 1
  | n + 1 => mul d p (run a n) (sqs d p n a)
theorem one_lt (hd : 0 < d) : 1 < 2 ^ d := Nat.one_lt_two_pow (by omega)
theorem run_lt (hp : p < 2 ^ d) (hd : 0 < d) (a n : Nat) : run d p a n < 2 ^ d := by
  induction n with
  | zero => exact one_lt d hd
  | succ n ih => exact mul_lt d p hp _ _ ih
theorem one_mul (a : Nat) (hd : 0 < d) (ha : a < 2 ^ d) : mul d p 1 a = a := by rw [mul_comm d p 1 a (one_lt d hd) ha, mul_one d p a hd]
theorem run_mul (hp : p < 2 ^ d) (hd : 0 < d) (a n : Nat) (ha : a < 2 ^ d) : mul d p (run d p a n) a = sqs d p n a := by
  induction n with
  | zero => exact one_mul d p a hd ha
  | succ n ih =>
    rw [run, mul_assoc d p _ _ _ hp (run_lt d p hp hd a n) (sqs_lt d p hp n a ha) ha, mul_comm d p (sqs d p n a) a (sqs_lt d p hp n a ha) ha, ← mul_assoc d p _ _ _ hp (run_lt d p hp hd a n) ha (sqs_lt d p hp n a ha), ih]
    rfl
/-- The square of the product of the powers is that of the next ones. -/
theorem run_sq (hp : p < 2 ^ d) (hd : 0 < d) (a n : Nat) (ha : a < 2 ^ d) : mul d p a (sq d p (run d p a n)) = run d p a (n + 1) := by
  induction n with
  | zero => show mul d p a (mul d p 1 1) = mul d p 1 a
            rw [mul_one d p 1 hd, mul_one d p a hd, one_mul d p a hd ha]
  | succ n ih =>
    rw [run, sq_mul d p hp _ _ (run_lt d p hp hd a n) (sqs_lt d p hp n a ha), ← mul_assoc d p _ _ _ hp ha (sq_lt d p hp _ (run_lt d p hp hd a n)) (sq_lt d p hp _ (sqs_lt d p hp n a ha)), ih]
    rfl
/-- e = a^(2^d - 1) is its own square. -/
theorem idem (hp : p < 2 ^ d) (hd : 1 < d) (hx : sqs d p d 2 = 2) (a : Nat) (ha : a < 2 ^ d) : sq d p (run d p a d) = run d p a d := by
  obtain ⟨n, rfl⟩ : ∃ n, d = n + 1 := ⟨d - 1, by omega⟩
  have hl := run_lt (n + 1) p hp (by omega) a (n + 1)
  have hs := sq_lt (n + 1) p hp _ (run_lt (n + 1) p hp (by omega) a n)
  have h1 : run (n + 1) p a (n + 1) = mul (n + 1) p a (sq (n + 1) p (run (n + 1) p a n)) := (run_sq (n + 1) p hp (by omega) a n ha).symm
  have h2 : mul (n + 1) p (run (n + 1) p a (n + 1)) a = a := by rw [run_mul (n + 1) p hp (by omega) a _ ha, sqs_all (n + 1) p hp hd hx a ha]
  have h3 : mul (n + 1) p (run (n + 1) p a (n + 1)) (mul (n + 1) p a (sq (n + 1) p (run (n + 1) p a n))) = mul (n + 1) p a (sq (n + 1) p (run (n + 1) p a n)) := by
    rw [← mul_assoc (n + 1) p _ _ _ hp hl ha hs, h2]
  rw [← h1] at h3
  exact h3
/-- NO PRODUCT IS NONE BUT OF NONE, where x comes back behind d squares, and additive 'back' finds a (but for its lowest bit) out of a^2 + a. -/
theorem entire (hp : p < 2 ^ d) (hd : 1 < d) (hx : sqs d p d 2 = 2) (back : Nat → Nat) (hb : Add back) (hbk : ∀ i, i < d → back (sq d p (2 ^ i) ^^^ 2 ^ i) = 2 ^ i / 2 * 2) (a b : Nat) (ha : a < 2 ^ d) (hbl : b < 2 ^ d) (h : mul d p a b = 0) (ha0 : a ≠ 0) : b = 0 := by
  have hl := run_lt d p hp (by omega) a d
  have hid := idem d p hp hd hx a ha
  have hba : ∀ e, e < 2 ^ d → back (sq d p e ^^^ e) = e / 2 * 2 := by
    intro e he
    refine ext_lt d (f := fun e => back (sq d p e ^^^ e)) (g := fun e => e / 2 * 2) (fun u v hu hv => ?_) (fun u v _ _ => ?_) hbk d (Nat.le_refl d) e he
    · show back (sq d p (u ^^^ v) ^^^ (u ^^^ v)) = back (sq d p u ^^^ u) ^^^ back (sq d p v ^^^ v)
      rw [sq_xor d p u v hu hv, ← hb]
      congr 1
      rw [Nat.xor_assoc, Nat.xor_assoc, xor_lc (sq d p v)]
    · show (u ^^^ v) / 2 * 2 = u / 2 * 2 ^^^ v / 2 * 2
      apply Nat.eq_of_testBit_eq
      intro i
      have t : ∀ x : Nat, (x / 2 * 2).testBit i = (decide (0 < i) && x.testBit i) := fun x => by
        cases i with
        | zero => simp [Nat.testBit_zero]
        | succ i => rw [Nat.testBit_succ, Nat.mul_div_cancel _ (by omega), Nat.testBit_succ]; simp
      rw [t, Nat.testBit_xor, Nat.testBit_xor, t, t]
      cases decide (0 < i) <;> simp
  have h0 := hba _ hl
  rw [hid, Nat.xor_self, hb.zero] at h0
  have h2 : mul d p (run d p a d) a = a := by rw [run_mul d p hp (by omega) a _ ha, sqs_all d p hp hd hx a ha]
  have h01 : run d p a d = 0 ∨ run d p a d = 1 := by omega
  rcases h01 with h01 | h01
  · rw [h01, zero_mul] at h2; exact absurd h2.symm ha0
  · obtain ⟨n, hn⟩ : ∃ n, d = n + 1 := ⟨d - 1, by omega⟩
    have hs := sq_lt d p hp _ (run_lt d p hp (by omega) a n)
    have h3 := run_sq d p hp (by omega) a n ha
    rw [← hn, h01, mul_comm d p a _ ha hs] at h3
    have h4 := mul_assoc d p _ a b hp hs ha hbl
    rw [h3, h, mul_zero, one_mul d p b (by omega) hbl] at h4
    exact h4
end Go.Proofs.YtbainiblffcjgaaDoor.Gf
namespace Go.Proofs.YtbainiblffcjgaaDoor.Field
set_option linter.unusedVariables false
set_option linter.unusedSimpArgs false
open Gf

/-- The document's product: by long multiplication, then by division. -/
def up (a b : Nat) : Nat → Nat
  | 0 => 0
  | i + 1 => if b / 2 ^ i % 2 = 1 then up a b i ^^^ (a * 2 ^ i) else up a b i
def down (x : Nat) : Nat → Nat
  | 0 => x
  | k + 1 => if down x k / 2 ^ (15 - k) % 2 = 1 then down x k ^^^ (283 * 2 ^ (7 - k)) else down x k
def long (a b : Nat) : Nat := down (up a b 8) 8
theorem up_left (b n : Nat) : Add (fun a => up a b n) := by
  induction n with
  | zero => exact Add.none
  | succ n ih =>
    intro x y
    have h1 := ih x y
    have h2 := Add.times n x y
    show up (x ^^^ y) b (n + 1) = up x b (n + 1) ^^^ up y b (n + 1)
    simp only at h1 h2
    rw [up, up, up]
    split
    · rw [h1, h2, Nat.xor_assoc, Nat.xor_assoc, xor_lc (up y b n)]
    · exact h1
theorem up_right (a n : Nat) : Add (fun b => up a b n) := by
  induction n with
  | zero => exact Add.none
  | succ n ih =>
    have e : ∀ b, up a b (n + 1) = up a b n ^^^ (if b / 2 ^ n % 2 = 1 then a * 2 ^ n else 0) := fun b => by
      rw [up]; split <;> simp
    have := Add.xor ih (Add.bit n (a * 2 ^ n))
    intro x y
    show up a (x ^^^ y) (n + 1) = up a x (n + 1) ^^^ up a y (n + 1)
    rw [e, e, e]
    exact this x y
theorem down_add (n : Nat) : Add (fun x => down x n) := by
  induction n with
  | zero => exact Add.id
  | succ n ih =>
    have e : ∀ x, down x (n + 1) = down x n ^^^ (if down x n / 2 ^ (15 - n) % 2 = 1 then 283 * 2 ^ (7 - n) else 0) := fun x => by
      rw [down]; split <;> simp
    have := Add.xor ih ((Add.bit (15 - n) (283 * 2 ^ (7 - n))).comp ih)
    intro x y
    show down (x ^^^ y) (n + 1) = down x (n + 1) ^^^ down y (n + 1)
    rw [e, e, e]
    exact this x y
set_option maxRecDepth 100000 in
theorem long_bits : (List.range 8).all (fun i => (List.range 8).all fun j => long (2 ^ i) (2 ^ j) == mul 8 27 (2 ^ i) (2 ^ j)) = true := by decide +kernel
theorem long_eq (a b : Nat) (ha : a < 256) (hb : b < 256) : long a b = mul 8 27 a b := by
  refine ext (f := fun a => long a b) (g := fun a => mul 8 27 a b) ((down_add 8).comp (up_left b 8)) (mul_left 8 27 b) 8 (fun i hi => ?_) a ha
  refine ext (f := fun b => long (2 ^ i) b) (g := fun b => mul 8 27 (2 ^ i) b) ((down_add 8).comp (up_right (2 ^ i) 8)) (mul_right 8 27 _) 8 (fun j hj => ?_) b hb
  exact beq_iff_eq.1 (List.all_eq_true.1 (List.all_eq_true.1 long_bits i (List.mem_range.2 hi)) j (List.mem_range.2 hj))

/-- The product of two bytes. -/
def tm (a b : UInt8) : UInt8 := UInt8.ofNat (mul 8 27 a.toNat b.toNat)
theorem tm_nat (a b : UInt8) : (tm a b).toNat = mul 8 27 a.toNat b.toNat := by
  have := mul_lt 8 27 (by decide) a.toNat b.toNat a.toNat_lt
  rw [tm, UInt8.toNat_ofNat']; omega
theorem tm_comm (a b : UInt8) : tm a b = tm b a := by
  apply UInt8.toNat_inj.1; rw [tm_nat, tm_nat]; exact mul_comm 8 27 _ _ a.toNat_lt b.toNat_lt
theorem tm_assoc (a b c : UInt8) : tm (tm a b) c = tm a (tm b c) := by
  apply UInt8.toNat_inj.1; rw [tm_nat, tm_nat, tm_nat, tm_nat]; exact mul_assoc 8 27 _ _ _ (by decide) a.toNat_lt b.toNat_lt c.toNat_lt
theorem tm_xor (a b c : UInt8) : tm a (b ^^^ c) = tm a b ^^^ tm a c := by
  apply UInt8.toNat_inj.1; rw [tm_nat, UInt8.toNat_xor, UInt8.toNat_xor, tm_nat, tm_nat]; exact mul_xor 8 27 _ _ _
theorem tm_one (a : UInt8) : tm a 1 = a := by
  apply UInt8.toNat_inj.1; rw [tm_nat]; exact mul_one 8 27 _ (by decide)
theorem one_tm (a : UInt8) : tm 1 a = a := by rw [tm_comm, tm_one]
theorem tm_zero (a : UInt8) : tm a 0 = 0 := by
  apply UInt8.toNat_inj.1; rw [tm_nat]; exact mul_zero 8 27 _
theorem zero_tm (a : UInt8) : tm 0 a = 0 := by rw [tm_comm, tm_zero]
theorem long_tm (a b : UInt8) : long a.toNat b.toNat = (tm a b).toNat := by rw [tm_nat, long_eq _ _ a.toNat_lt b.toNat_lt]
theorem twice_tm (a : UInt8) : (tm a 2).toNat = xt 8 27 a.toNat := by rw [tm_nat]; exact mul_two 8 27 _ (by decide)

/-- The inverse, as a table. -/
def invs : List Nat := [0, 1, 141, 246, 203, 82, 123, 209, 232, 79, 41, 192, 176, 225, 229, 199, 116, 180, 170, 75, 153, 43, 96, 95, 88, 63, 253, 204, 255, 64, 238, 178, 58, 110, 90, 241, 85, 77, 168, 201, 193, 10, 152, 21, 48, 68, 162, 194, 44, 69, 146, 108, 243, 57, 102, 66, 242, 53, 32, 111, 119, 187, 89, 25, 29, 254, 55, 103, 45, 49, 245, 105, 167, 100, 171, 19, 84, 37, 233, 9, 237, 92, 5, 202, 76, 36, 135, 191, 24, 62, 34, 240, 81, 236, 97, 23, 22, 94, 175, 211, 73, 166, 54, 67, 244, 71, 145, 223, 51, 147, 33, 59, 121, 183, 151, 133, 16, 181, 186, 60, 182, 112, 208, 6, 161, 250, 129, 130, 131, 126, 127, 128, 150, 115, 190, 86, 155, 158, 149, 217, 247, 2, 185, 164, 222, 106, 50, 109, 216, 138, 132, 114, 42, 20, 159, 136, 249, 220, 137, 154, 251, 124, 46, 195, 143, 184, 101, 72, 38, 200, 18, 74, 206, 231, 210, 98, 12, 224, 31, 239, 17, 117, 120, 113, 165, 142, 118, 61, 189, 188, 134, 87, 11, 40, 47, 163, 218, 212, 228, 15, 169, 39, 83, 4, 27, 252, 172, 230, 122, 7, 174, 99, 197, 219, 226, 234, 148, 139, 196, 213, 157, 248, 144, 107, 177, 13, 214, 235, 198, 14, 207, 173, 8, 78, 215, 227, 93, 80, 30, 179, 91, 35, 56, 52, 104, 70, 3, 140, 221, 156, 125, 160, 205, 26, 65, 28]
def inv (a : UInt8) : UInt8 := UInt8.ofNat (invs.getD a.toNat 0)
set_option maxRecDepth 100000 in
theorem inv_all : (List.range 256).all (fun a => a == 0 || (mul 8 27 a (invs.getD a 0) == 1 && decide (invs.getD a 0 < 256))) = true := by decide +kernel
theorem inv_zero : inv 0 = 0 := by decide +kernel
theorem tm_inv (a : UInt8) (h : a ≠ 0) : tm a (inv a) = 1 := by
  have := List.all_eq_true.1 inv_all a.toNat (List.mem_range.2 a.toNat_lt)
  have h0 : (a.toNat == 0) = false := by rw [beq_eq_false_iff_ne]; intro e; exact h (UInt8.toNat_inj.1 e)
  rw [h0, Bool.false_or, Bool.and_eq_true, beq_iff_eq, decide_eq_true_eq] at this
  apply UInt8.toNat_inj.1
  rw [tm_nat, inv, UInt8.toNat_ofNat', Nat.mod_eq_of_lt this.2]
  exact this.1
/-- There is one alone. -/
theorem inv_of (a b : UInt8) (h : tm a b = 1) : b = inv a := by
  have ha : a ≠ 0 := by rintro rfl; rw [zero_tm] at h; exact absurd h (by decide)
  calc b = tm 1 b := (one_tm b).symm
    _ = tm (tm a (inv a)) b := by rw [tm_inv a ha]
    _ = tm (tm (inv a) a) b := by rw [tm_comm a]
    _ = inv a := by rw [tm_assoc, h, tm_one]
theorem inv_inv (a : UInt8) : inv (inv a) = a := by
  by_cases ha : a = 0
  · subst ha; rw [inv_zero, inv_zero]
  · exact (inv_of _ _ (by rw [tm_comm, tm_inv a ha])).symm
theorem tm_entire (a b : UInt8) (h : tm a b = 0) : a = 0 ∨ b = 0 := by
  by_cases ha : a = 0
  · exact .inl ha
  · refine .inr ?_
    have h2 : tm (inv a) (tm a b) = b := by rw [← tm_assoc, tm_comm (inv a), tm_inv a ha, one_tm]
    rw [h, tm_zero] at h2
    exact h2.symm

/-- What the box makes of an inverse: its bits summed. -/
def bendBit (c i : Nat) : Nat := (99 / 2 ^ i % 2 + c / 2 ^ (i % 8) % 2 + c / 2 ^ ((i + 4) % 8) % 2 + c / 2 ^ ((i + 5) % 8) % 2 + c / 2 ^ ((i + 6) % 8) % 2 + c / 2 ^ ((i + 7) % 8) % 2) % 2
def bendN (c : Nat) : Nat → Nat
  | 0 => 0
  | i + 1 => bendN c i + bendBit c i * 2 ^ i
def bend (c : UInt8) : UInt8 := UInt8.ofNat (bendN c.toNat 8)
def box (a : UInt8) : UInt8 := bend (inv a)
set_option maxRecDepth 100000 in
theorem bend_lt : (List.range 256).all (fun c => decide (bendN c 8 < 256)) = true := by decide +kernel
/-- The box's way back, as a table. -/
def backs : List Nat := [82, 9, 106, 213, 48, 54, 165, 56, 191, 64, 163, 158, 129, 243, 215, 251, 124, 227, 57, 130, 155, 47, 255, 135, 52, 142, 67, 68, 196, 222, 233, 203, 84, 123, 148, 50, 166, 194, 35, 61, 238, 76, 149, 11, 66, 250, 195, 78, 8, 46, 161, 102, 40, 217, 36, 178, 118, 91, 162, 73, 109, 139, 209, 37, 114, 248, 246, 100, 134, 104, 152, 22, 212, 164, 92, 204, 93, 101, 182, 146, 108, 112, 72, 80, 253, 237, 185, 218, 94, 21, 70, 87, 167, 141, 157, 132, 144, 216, 171, 0, 140, 188, 211, 10, 247, 228, 88, 5, 184, 179, 69, 6, 208, 44, 30, 143, 202, 63, 15, 2, 193, 175, 189, 3, 1, 19, 138, 107, 58, 145, 17, 65, 79, 103, 220, 234, 151, 242, 207, 206, 240, 180, 230, 115, 150, 172, 116, 34, 231, 173, 53, 133, 226, 249, 55, 232, 28, 117, 223, 110, 71, 241, 26, 113, 29, 41, 197, 137, 111, 183, 98, 14, 170, 24, 190, 27, 252, 86, 62, 75, 198, 210, 121, 32, 154, 219, 192, 254, 120, 205, 90, 244, 31, 221, 168, 51, 136, 7, 199, 49, 177, 18, 16, 89, 39, 128, 236, 95, 96, 81, 127, 169, 25, 181, 74, 13, 45, 229, 122, 159, 147, 201, 156, 239, 160, 224, 59, 77, 174, 42, 245, 176, 200, 235, 187, 60, 131, 83, 153, 97, 23, 43, 4, 126, 186, 119, 214, 38, 225, 105, 20, 99, 85, 33, 12, 125]
def back (b : UInt8) : UInt8 := UInt8.ofNat (backs.getD b.toNat 0)
set_option maxRecDepth 100000 in
theorem back_all : (List.range 256).all (fun a => box (back (UInt8.ofNat a)) == UInt8.ofNat a && back (box (UInt8.ofNat a)) == UInt8.ofNat a) = true := by decide +kernel
theorem box_back (a : UInt8) : box (back a) = a := by
  have := List.all_eq_true.1 back_all a.toNat (List.mem_range.2 a.toNat_lt)
  rw [UInt8.ofNat_toNat, Bool.and_eq_true, beq_iff_eq, beq_iff_eq] at this
  exact this.1
theorem back_box (a : UInt8) : back (box a) = a := by
  have := List.all_eq_true.1 back_all a.toNat (List.mem_range.2 a.toNat_lt)
  rw [UInt8.ofNat_toNat, Bool.and_eq_true, beq_iff_eq, beq_iff_eq] at this
  exact this.2
theorem box_inj (a b : UInt8) (h : box a = box b) : a = b := by rw [← back_box a, h, back_box]
/-- To the power of 254. -/
def power (a : UInt8) : Nat → UInt8 × UInt8
  | 0 => (a, 1)
  | i + 1 => (tm (power a i).1 (power a i).1, tm (power a i).2 (tm (power a i).1 (power a i).1))
set_option maxRecDepth 100000 in
theorem power_all : (List.range 256).all (fun a => (power (UInt8.ofNat a) 7).2 == inv (UInt8.ofNat a)) = true := by decide +kernel
theorem power_inv (a : UInt8) : (power a 7).2 = inv a := by
  have := List.all_eq_true.1 power_all a.toNat (List.mem_range.2 a.toNat_lt)
  rw [UInt8.ofNat_toNat, beq_iff_eq] at this
  exact this
/-- All of a list multiplied. -/
def prodL (l : List UInt8) : UInt8 := l.foldl tm 1
theorem prodL_snoc (l : List UInt8) (b : UInt8) : prodL (l ++ [b]) = tm (prodL l) b := by rw [prodL, List.foldl_append]; rfl
theorem prodL_nil : prodL [] = 1 := rfl
theorem prodL_take (l : List UInt8) (k : Nat) (h : k < l.length) : prodL (l.take (k + 1)) = tm (prodL (l.take k)) l[k] := by
  rw [List.take_succ_eq_append_getElem h, prodL_snoc]
/-- Twice, over and over. -/
def twices (a : UInt8) : Nat → UInt8
  | 0 => a
  | n + 1 => tm (twices a n) 2
theorem twices_prod (a : UInt8) (n : Nat) : prodL (a :: List.replicate n 2) = twices a n := by
  induction n with
  | zero => exact one_tm a
  | succ n ih => rw [List.replicate_succ', ← List.cons_append, prodL_snoc, ih]; rfl
/-- The powers of 03: 01 comes back behind 255, and not earlier. -/
def pow3 (p : UInt8) : Nat → UInt8
  | 0 => p
  | n + 1 => tm (pow3 p n) 3
theorem pow3_next (p : UInt8) (n : Nat) : pow3 (tm p 3) n = pow3 p (n + 1) := by
  induction n with
  | zero => rfl
  | succ n ih => rw [pow3, ih]; rfl
def cyc : Nat → UInt8 → Bool
  | 0, p => p == 1
  | n + 1, p => !(p == 1) && cyc n (tm p 3)
theorem cyc_pow (n : Nat) : ∀ p, cyc n p = true → (∀ i, i < n → pow3 p i ≠ 1) ∧ pow3 p n = 1 := by
  induction n with
  | zero => intro p h; exact ⟨fun i hi => by omega, beq_iff_eq.1 h⟩
  | succ n ih =>
    intro p h
    rw [cyc, Bool.and_eq_true, Bool.not_eq_true', beq_eq_false_iff_ne] at h
    obtain ⟨h1, h2⟩ := ih _ h.2
    refine ⟨fun i hi => ?_, by rw [← pow3_next]; exact h2⟩
    cases i with
    | zero => exact h.1
    | succ i => rw [← pow3_next]; exact h1 i (by omega)
set_option maxRecDepth 100000 in
theorem cyc_three : cyc 254 3 = true := by decide +kernel
/-- Behind i + 1 factors of 03. -/
theorem three_not (i : Nat) (h : i < 254) : pow3 3 i ≠ 1 := (cyc_pow 254 3 cyc_three).1 i h
theorem three_all : pow3 3 254 = 1 := (cyc_pow 254 3 cyc_three).2
theorem bendN_zero (c : Nat) : bendN c 0 = 0 := rfl
theorem bendN_succ (c i : Nat) : bendN c (i + 1) = bendN c i + bendBit c i * 2 ^ i := rfl
theorem bendBit_lt (c i : Nat) : bendBit c i < 2 := Nat.mod_lt _ (by decide)
theorem bendBit_eq (c i : Nat) : bendBit c i = (99 / 2 ^ i % 2 + c / 2 ^ (i % 8) % 2 + c / 2 ^ ((i + 4) % 8) % 2 + c / 2 ^ ((i + 5) % 8) % 2 + c / 2 ^ ((i + 6) % 8) % 2 + c / 2 ^ ((i + 7) % 8) % 2) % 2 := rfl
theorem pow3_zero (p : UInt8) : pow3 p 0 = p := rfl
theorem pow3_succ (p : UInt8) (n : Nat) : pow3 p (n + 1) = tm (pow3 p n) 3 := rfl
attribute [irreducible] bendN bendBit pow3
end Go.Proofs.YtbainiblffcjgaaDoor.Field
namespace Go.Proofs.YtbainiblffcjgaaDoor.Aes
set_option linter.unusedVariables false
set_option linter.unusedSimpArgs false
open _root_.Go.Proofs.YtbainiblffcjgaaDoor.Field

/-- The byte at a place, or nought; sixteen bytes by their places. -/
def gb (b : List UInt8) (i : Nat) : UInt8 := b.getD i 0
def tb (f : Nat → UInt8) : List UInt8 := (List.range 16).map f
theorem tb_length (f : Nat → UInt8) : (tb f).length = 16 := by simp [tb]
theorem gb_tb (f : Nat → UInt8) (i : Nat) (h : i < 16) : gb (tb f) i = f i := by
  rw [gb, tb, List.getD, List.getElem?_map, List.getElem?_range h]; rfl
theorem tb_gb (b : List UInt8) (h : b.length = 16) : tb (gb b) = b := by
  apply List.ext_getElem (by rw [tb_length, h])
  intro i h1 h2
  have := gb_tb (gb b) i (by rw [tb_length] at h1; exact h1)
  rw [gb, List.getD, List.getElem?_eq_getElem h1, gb, List.getD, List.getElem?_eq_getElem h2] at this
  simpa using this
theorem tb_ext {f g : Nat → UInt8} (h : ∀ i, i < 16 → f i = g i) : tb f = tb g := by
  apply List.map_congr_left
  intro i hi
  exact h i (List.mem_range.1 hi)
theorem tb_eq {f : Nat → UInt8} {b : List UInt8} (hb : b.length = 16) (h : ∀ i, i < 16 → f i = gb b i) : tb f = b := by
  rw [← tb_gb b hb]; exact tb_ext h

/-- The steps of a round, and their ways back. -/
def sub (b : List UInt8) : List UInt8 := tb fun i => box (gb b i)
def unsub (b : List UInt8) : List UInt8 := tb fun i => back (gb b i)
def rows (b : List UInt8) : List UInt8 := tb fun i => gb b (4 * ((i / 4 + i % 4) % 4) + i % 4)
def unrows (b : List UInt8) : List UInt8 := tb fun i => gb b (4 * ((i / 4 + 4 - i % 4) % 4) + i % 4)
/-- The factor of byte j of a column in byte k, and on the way back. -/
def fac (j k : Nat) : UInt8 := ([2, 3, 1, 1] : List UInt8).getD ((j + 4 - k) % 4) 0
def unfac (j k : Nat) : UInt8 := ([14, 11, 13, 9] : List UInt8).getD ((j + 4 - k) % 4) 0
def col (f : Nat → Nat → UInt8) (b : List UInt8) (c k : Nat) : UInt8 :=
  tm (gb b (4 * c)) (f 0 k) ^^^ tm (gb b (4 * c + 1)) (f 1 k) ^^^ tm (gb b (4 * c + 2)) (f 2 k) ^^^ tm (gb b (4 * c + 3)) (f 3 k)
def mix (b : List UInt8) : List UInt8 := tb fun i => col fac b (i / 4) (i % 4)
def unmix (b : List UInt8) : List UInt8 := tb fun i => col unfac b (i / 4) (i % 4)
def add (w b : List UInt8) : List UInt8 := tb fun i => gb b i ^^^ gb w i

theorem unsub_sub (b : List UInt8) (h : b.length = 16) : unsub (sub b) = b := tb_eq h fun i hi => by rw [sub, gb_tb _ i hi, back_box]
theorem sub_unsub (b : List UInt8) (h : b.length = 16) : sub (unsub b) = b := tb_eq h fun i hi => by rw [unsub, gb_tb _ i hi, box_back]
theorem unrows_rows (b : List UInt8) (h : b.length = 16) : unrows (rows b) = b := tb_eq h fun i hi => by
  rw [rows, gb_tb _ _ (by omega)]
  congr 1
  omega
theorem rows_unrows (b : List UInt8) (h : b.length = 16) : rows (unrows b) = b := tb_eq h fun i hi => by
  rw [unrows, gb_tb _ _ (by omega)]
  congr 1
  omega
theorem add_add (w b : List UInt8) (h : b.length = 16) : add w (add w b) = b := tb_eq h fun i hi => by
  rw [add, gb_tb _ i hi, UInt8.xor_assoc, UInt8.xor_self, UInt8.xor_zero]

theorem xor_tm (a b c : UInt8) : tm (a ^^^ b) c = tm a c ^^^ tm b c := by rw [tm_comm, tm_xor, tm_comm c, tm_comm c]
theorem xor4 (a b c d e f g h i j k l m n o p : UInt8) : (a ^^^ b ^^^ c ^^^ d) ^^^ (e ^^^ f ^^^ g ^^^ h) ^^^ (i ^^^ j ^^^ k ^^^ l) ^^^ (m ^^^ n ^^^ o ^^^ p) = (a ^^^ e ^^^ i ^^^ m) ^^^ (b ^^^ f ^^^ j ^^^ n) ^^^ (c ^^^ g ^^^ k ^^^ o) ^^^ (d ^^^ h ^^^ l ^^^ p) := by
  ac_rfl
theorem tm4 (x a b c d : UInt8) : tm x a ^^^ tm x b ^^^ tm x c ^^^ tm x d = tm x (a ^^^ b ^^^ c ^^^ d) := by rw [tm_xor, tm_xor, tm_xor]
/-- Two such steps, one behind the other, of a column. -/
theorem col_col (f g : Nat → Nat → UInt8) (b : List UInt8) (c k : Nat) (hc : c < 4) :
    col g (tb fun i => col f b (i / 4) (i % 4)) c k =
      tm (gb b (4 * c)) (tm (f 0 0) (g 0 k) ^^^ tm (f 0 1) (g 1 k) ^^^ tm (f 0 2) (g 2 k) ^^^ tm (f 0 3) (g 3 k)) ^^^
      tm (gb b (4 * c + 1)) (tm (f 1 0) (g 0 k) ^^^ tm (f 1 1) (g 1 k) ^^^ tm (f 1 2) (g 2 k) ^^^ tm (f 1 3) (g 3 k)) ^^^
      tm (gb b (4 * c + 2)) (tm (f 2 0) (g 0 k) ^^^ tm (f 2 1) (g 1 k) ^^^ tm (f 2 2) (g 2 k) ^^^ tm (f 2 3) (g 3 k)) ^^^
      tm (gb b (4 * c + 3)) (tm (f 3 0) (g 0 k) ^^^ tm (f 3 1) (g 1 k) ^^^ tm (f 3 2) (g 2 k) ^^^ tm (f 3 3) (g 3 k)) := by
  have e0 : (4 * c) / 4 = c := by omega
  have e1 : (4 * c + 1) / 4 = c := by omega
  have e2 : (4 * c + 2) / 4 = c := by omega
  have e3 : (4 * c + 3) / 4 = c := by omega
  have m0 : (4 * c) % 4 = 0 := by omega
  have m1 : (4 * c + 1) % 4 = 1 := by omega
  have m2 : (4 * c + 2) % 4 = 2 := by omega
  have m3 : (4 * c + 3) % 4 = 3 := by omega
  rw [col, gb_tb _ _ (by omega), gb_tb _ _ (by omega), gb_tb _ _ (by omega), gb_tb _ _ (by omega), e0, e1, e2, e3, m0, m1, m2, m3]
  simp only [col, xor_tm, tm_assoc]
  rw [xor4, tm4, tm4, tm4, tm4]
theorem fac_back : (List.range 4).all (fun k => (List.range 4).all fun j =>
    (tm (fac j 0) (unfac 0 k) ^^^ tm (fac j 1) (unfac 1 k) ^^^ tm (fac j 2) (unfac 2 k) ^^^ tm (fac j 3) (unfac 3 k) == if j = k then 1 else 0) &&
    (tm (unfac j 0) (fac 0 k) ^^^ tm (unfac j 1) (fac 1 k) ^^^ tm (unfac j 2) (fac 2 k) ^^^ tm (unfac j 3) (fac 3 k) == if j = k then 1 else 0)) = true := by decide +kernel
theorem fac_unfac (j k : Nat) (hj : j < 4) (hk : k < 4) : tm (fac j 0) (unfac 0 k) ^^^ tm (fac j 1) (unfac 1 k) ^^^ tm (fac j 2) (unfac 2 k) ^^^ tm (fac j 3) (unfac 3 k) = if j = k then 1 else 0 := by
  have := List.all_eq_true.1 (List.all_eq_true.1 fac_back k (List.mem_range.2 hk)) j (List.mem_range.2 hj)
  rw [Bool.and_eq_true, beq_iff_eq] at this
  exact this.1
theorem unfac_fac (j k : Nat) (hj : j < 4) (hk : k < 4) : tm (unfac j 0) (fac 0 k) ^^^ tm (unfac j 1) (fac 1 k) ^^^ tm (unfac j 2) (fac 2 k) ^^^ tm (unfac j 3) (fac 3 k) = if j = k then 1 else 0 := by
  have := List.all_eq_true.1 (List.all_eq_true.1 fac_back k (List.mem_range.2 hk)) j (List.mem_range.2 hj)
  rw [Bool.and_eq_true, beq_iff_eq, beq_iff_eq] at this
  exact this.2
theorem one_of_four (b : List UInt8) (c k : Nat) (hk : k < 4) :
    tm (gb b (4 * c)) (if 0 = k then 1 else 0) ^^^ tm (gb b (4 * c + 1)) (if 1 = k then 1 else 0) ^^^ tm (gb b (4 * c + 2)) (if 2 = k then 1 else 0) ^^^ tm (gb b (4 * c + 3)) (if 3 = k then 1 else 0) = gb b (4 * c + k) := by
  have : k = 0 ∨ k = 1 ∨ k = 2 ∨ k = 3 := by omega
  rcases this with rfl | rfl | rfl | rfl <;> simp [tm_one, tm_zero]
theorem unmix_mix (b : List UInt8) (h : b.length = 16) : unmix (mix b) = b := tb_eq h fun i hi => by
  rw [mix, col_col _ _ _ _ _ (by omega), fac_unfac 0 _ (by omega) (by omega), fac_unfac 1 _ (by omega) (by omega), fac_unfac 2 _ (by omega) (by omega), fac_unfac 3 _ (by omega) (by omega), one_of_four _ _ _ (by omega)]
  congr 1
  omega
theorem mix_unmix (b : List UInt8) (h : b.length = 16) : mix (unmix b) = b := tb_eq h fun i hi => by
  rw [unmix, col_col _ _ _ _ _ (by omega), unfac_fac 0 _ (by omega) (by omega), unfac_fac 1 _ (by omega) (by omega), unfac_fac 2 _ (by omega) (by omega), unfac_fac 3 _ (by omega) (by omega), one_of_four _ _ _ (by omega)]
  congr 1
  omega

/-- A round's key out of all words' bytes. -/
def rk (W : List UInt8) (r : Nat) : List UInt8 := tb fun i => gb W (16 * r + i)
/-- Behind r rounds, none of them the last. -/
def going (W b : List UInt8) : Nat → List UInt8
  | 0 => add (rk W 0) b
  | r + 1 => add (rk W (r + 1)) (mix (rows (sub (going W b r))))
/-- WHAT A BLOCK IS SEALED AS, in R + 1 rounds. -/
def enc (W : List UInt8) (R : Nat) (b : List UInt8) : List UInt8 := add (rk W (R + 1)) (rows (sub (going W b R)))
/-- The way back. -/
def coming (W b : List UInt8) : Nat → List UInt8
  | 0 => add (rk W 0) b
  | r + 1 => coming W (unsub (unrows (unmix (add (rk W (r + 1)) b)))) r
def dec (W : List UInt8) (R : Nat) (b : List UInt8) : List UInt8 := coming W (unsub (unrows (add (rk W (R + 1)) b))) R
theorem add_length (w b : List UInt8) : (add w b).length = 16 := tb_length _
theorem mix_length (b : List UInt8) : (mix b).length = 16 := tb_length _
theorem unmix_length (b : List UInt8) : (unmix b).length = 16 := tb_length _
theorem rows_length (b : List UInt8) : (rows b).length = 16 := tb_length _
theorem unrows_length (b : List UInt8) : (unrows b).length = 16 := tb_length _
theorem sub_length (b : List UInt8) : (sub b).length = 16 := tb_length _
theorem unsub_length (b : List UInt8) : (unsub b).length = 16 := tb_length _
theorem rk_length (W : List UInt8) (r : Nat) : (rk W r).length = 16 := tb_length _
theorem going_length (W b : List UInt8) (r : Nat) : (going W b r).length = 16 := by cases r <;> exact add_length _ _
theorem enc_length (W : List UInt8) (R : Nat) (b : List UInt8) : (enc W R b).length = 16 := add_length _ _
theorem coming_length (W : List UInt8) (r : Nat) : ∀ b, (coming W b r).length = 16 := by
  induction r with
  | zero => intro b; exact add_length _ _
  | succ r ih => intro b; exact ih _
theorem dec_length (W : List UInt8) (R : Nat) (b : List UInt8) : (dec W R b).length = 16 := coming_length _ _ _
theorem coming_going (W b : List UInt8) (h : b.length = 16) (r : Nat) : coming W (going W b r) r = b := by
  induction r with
  | zero => exact add_add _ _ h
  | succ r ih => rw [coming, going, add_add _ _ (mix_length _), unmix_mix _ (rows_length _), unrows_rows _ (sub_length _), unsub_sub _ (going_length _ _ _), ih]
theorem going_coming (W : List UInt8) (r : Nat) : ∀ b : List UInt8, b.length = 16 → going W (coming W b r) r = b := by
  induction r with
  | zero => intro b h; exact add_add _ _ h
  | succ r ih =>
    intro b h
    rw [coming, going, ih _ (unsub_length _), sub_unsub _ (unrows_length _), rows_unrows _ (unmix_length _), mix_unmix _ (add_length _ _), add_add _ _ h]
theorem dec_enc (W : List UInt8) (R : Nat) (b : List UInt8) (h : b.length = 16) : dec W R (enc W R b) = b := by
  rw [dec, enc, add_add _ _ (rows_length _), unrows_rows _ (sub_length _), unsub_sub _ (going_length _ _ _), coming_going _ _ h]
theorem enc_dec (W : List UInt8) (R : Nat) (b : List UInt8) (h : b.length = 16) : enc W R (dec W R b) = b := by
  rw [dec, enc, going_coming _ _ _ (unsub_length _), sub_unsub _ (unrows_length _), rows_unrows _ (add_length _ _), add_add _ _ h]
theorem enc_inj (W : List UInt8) (R : Nat) (a b : List UInt8) (ha : a.length = 16) (hb : b.length = 16) : enc W R a = enc W R b ↔ a = b :=
  ⟨fun h => by rw [← dec_enc W R a ha, h, dec_enc W R b hb], fun h => by rw [h]⟩

/-- A power of 02. -/
def rc : Nat → UInt8
  | 0 => 1
  | k + 1 => tm (rc k) 2
/-- The i-th word, out of those ahead of it, four bytes each, one behind the other. -/
def turned (n i : Nat) (t : Nat → UInt8) (k : Nat) : UInt8 :=
  if i % n = 0 then box (t ((k + 1) % 4)) ^^^ (if k = 0 then rc (i / n - 1) else 0)
  else if n = 8 ∧ i % 8 = 4 then box (t k) else t k
def nextB (key : List UInt8) (n : Nat) (W : List UInt8) (i k : Nat) : UInt8 :=
  if i < n then gb key (4 * i + k) else gb W (4 * (i - n) + k) ^^^ turned n i (fun k => gb W (4 * (i - 1) + k)) k
def next (key : List UInt8) (n : Nat) (W : List UInt8) (i : Nat) : List UInt8 := [nextB key n W i 0, nextB key n W i 1, nextB key n W i 2, nextB key n W i 3]
/-- The bytes of the first i words. -/
def words (key : List UInt8) (n : Nat) : Nat → List UInt8
  | 0 => []
  | i + 1 => words key n i ++ next key n (words key n i) i
theorem words_zero (key : List UInt8) (n : Nat) : words key n 0 = [] := rfl
theorem words_succ (key : List UInt8) (n i : Nat) : words key n (i + 1) = words key n i ++ next key n (words key n i) i := rfl
theorem words_length (key : List UInt8) (n i : Nat) : (words key n i).length = 4 * i := by
  induction i with
  | zero => rfl
  | succ i ih => rw [words_succ, List.length_append, ih]; rfl
/-- What stands once stays. -/
theorem words_at (key : List UInt8) (n i d j : Nat) (h : j < 4 * i) : gb (words key n (i + d)) j = gb (words key n i) j := by
  induction d with
  | zero => rfl
  | succ d ih =>
    rw [← Nat.add_assoc, words_succ, gb, List.getD, List.getElem?_append_left (by rw [words_length]; omega)]
    exact ih
/-- ALL WORDS of a key of n. -/
def allW (key : List UInt8) : List UInt8 := words key (key.length / 4) (4 * (key.length / 4 + 7))
theorem allW_length (key : List UInt8) : (allW key).length = 16 * (key.length / 4 + 7) := by rw [allW, words_length]; omega
def noughts : List UInt8 := List.replicate 16 0
theorem told : (enc (allW noughts) 9 noughts).take 4 = [102, 233, 75, 212] := by decide +kernel
theorem rc_zero : rc 0 = 1 := rfl
theorem rc_succ (k : Nat) : rc (k + 1) = tm (rc k) 2 := rfl
theorem sub_eq (b : List UInt8) : sub b = tb fun i => box (gb b i) := rfl
theorem unsub_eq (b : List UInt8) : unsub b = tb fun i => back (gb b i) := rfl
theorem rows_eq (b : List UInt8) : rows b = tb fun i => gb b (4 * ((i / 4 + i % 4) % 4) + i % 4) := rfl
theorem unrows_eq (b : List UInt8) : unrows b = tb fun i => gb b (4 * ((i / 4 + 4 - i % 4) % 4) + i % 4) := rfl
theorem mix_eq (b : List UInt8) : mix b = tb fun i => col fac b (i / 4) (i % 4) := rfl
theorem unmix_eq (b : List UInt8) : unmix b = tb fun i => col unfac b (i / 4) (i % 4) := rfl
theorem add_eq (w b : List UInt8) : add w b = tb fun i => gb b i ^^^ gb w i := rfl
theorem rk_eq (W : List UInt8) (r : Nat) : rk W r = tb fun i => gb W (16 * r + i) := rfl
theorem going_zero (W b : List UInt8) : going W b 0 = add (rk W 0) b := rfl
theorem going_succ (W b : List UInt8) (r : Nat) : going W b (r + 1) = add (rk W (r + 1)) (mix (rows (sub (going W b r)))) := rfl
theorem enc_eq (W : List UInt8) (R : Nat) (b : List UInt8) : enc W R b = add (rk W (R + 1)) (rows (sub (going W b R))) := rfl
theorem coming_zero (W b : List UInt8) : coming W b 0 = add (rk W 0) b := rfl
theorem coming_succ (W b : List UInt8) (r : Nat) : coming W b (r + 1) = coming W (unsub (unrows (unmix (add (rk W (r + 1)) b)))) r := rfl
theorem dec_eq (W : List UInt8) (R : Nat) (b : List UInt8) : dec W R b = coming W (unsub (unrows (add (rk W (R + 1)) b))) R := rfl
theorem allW_eq (key : List UInt8) : allW key = words key (key.length / 4) (4 * (key.length / 4 + 7)) := rfl
attribute [irreducible] rc sub unsub rows unrows mix unmix add rk going coming enc dec words allW
end Go.Proofs.YtbainiblffcjgaaDoor.Aes
namespace Go.Proofs.YtbainiblffcjgaaDoor.Gf
set_option linter.unusedVariables false
set_option linter.unusedSimpArgs false

/-- An additive function by the values at the single bits. -/
def tab : List Nat → Nat → Nat
  | [], _ => 0
  | c :: cs, y => (if y % 2 = 1 then c else 0) ^^^ tab cs (y / 2)
theorem half_xor (a b : Nat) : (a ^^^ b) / 2 = a / 2 ^^^ b / 2 := by
  have := Nat.shiftRight_xor_distrib (a := a) (b := b) (i := 1)
  simpa [Nat.shiftRight_eq_div_pow] using this
theorem tab_add (cs : List Nat) : Add (tab cs) := by
  induction cs with
  | nil => exact Add.none
  | cons c cs ih =>
    intro a b
    rw [tab, tab, tab, half_xor, ih, low_xor]
    rcases Nat.mod_two_eq_zero_or_one a with ha | ha <;> rcases Nat.mod_two_eq_zero_or_one b with hb | hb <;> rw [ha, hb] <;> simp [Nat.xor_assoc, xor_lc, xor_twice]

def back128 : List Nat := [54969562866131847669016652494142573320, 305526867633558886955404559995676324868, 305526867633558886955404559995676324870, 104469799312523126935073530960423461388, 305526867633558886955404559995676324866, 56734434906695435454005472259553578602, 104469799312523126935073530960423461380, 271830150077582418345900040240152313368, 305526867633558886955404559995676324882, 104470118804432205535668098632526617412, 56734434906695435454005472259553578570, 227145695117876428321601179286510436182, 104469799312523126935073530960423461444, 305967500991204419130524647600360013666, 271830150077582418345900040240152313496, 227728627380917811012951187023350445606, 305526867633558886955404559995676325138, 56815181714465587187729576693626853178, 104470118804432205535668098632526616900, 2537993204061707162883588357039153916, 56734434906695435454005472259553577546, 3012428575888700110705650160495551628, 227145695117876428321601179286510434134, 275671395948664093117384310641479295528, 104469799312523126935073530960423465540, 271915852323952067842399232303023203416, 305967500991204419130524647600360005474, 102998777379450204286412735627287799860, 271830150077582418345900040240152297112, 272209106874770544727132909282711537316, 227728627380917811012951187023350412838, 135325830696997074197434372310186257282, 305526867633558886955404559995676390674, 57232084741685004684866676497372669754, 56815181714465587187729576693626984250, 135411474552265958872087683058005180738, 104470118804432205535668098632526879044, 275757512462385460142162890854388625828, 2537993204061707162883588357039678204, 274842411402277094064293402576501149528, 56734434906695435454005472259554626122, 175382474467339210118195525752143821788, 3012428575888700110705650160497648780, 5261797816253387317062014170447638976, 227145695117876428321601179286514628438, 272210066766835802062006483639670336468, 275671395948664093117384310641470906920, 225136856268418471551472419225175749014, 104469799312523126935073530960440242756, 102164174349821125137969924442995585924, 271915852323952067842399232302989648984, 226936647763116174786496543602468507498, 305967500991204419130524647600427114338, 305532029585887981283514747020026657774, 102998777379450204286412735627422017588, 133211003395652039953403666705387164366, 271830150077582418345900040239883861656, 102148097239065330920971689869502701364, 272209106874770544727132909283248408228, 173139448164521758332819425568250980204, 227728627380917811012951187022276671014, 305961988162602755697098987302884752222, 135325830696997074197434372312333740930, 175397880387343143921058595535091746080, 305526867633558886955404559991381423378, 329634352286836299080082914081100, 57232084741685004684866676505962604346, 172705286512742171128536335012890908524, 56815181714465587187729576710806853434, 303614986222712004812458293485509624930, 135411474552265958872087683023645442370, 170536380025231687221712635462198253856, 104470118804432205535668098701246355780, 225051247907070202050589524227723711914, 275757512462385460142162890991827579300, 308170559265311564786252692292247708062, 2537993204061707162883588082161771260, 102169133813289299704984590013427707636, 274842411402277094064293402026745335640, 303326766809063102477989677003176958226, 56734434906695435454005473359066253898, 172841837191359616877872241477191677152, 175382474467339210118195523553120566236, 54888141419452711199816878900948880442, 3012428575888700110705654558544159884, 307799342647640341558117533281787318686, 5261797816253387317062022966540661184, 273119276677551945356669168913118222868, 227145695117876428321601196878700672854, 272311600527812781647585363233504111460, 272210066766835802062006518824042425300, 5181299727675599870287693023180209980, 275671395948664093117384240272726729256, 305525142620375929691910208574098026146, 225136856268418471551472278487687393686, 307772801086609188417528170053220769746, 104469799312523126935073249485463532100, 54596111748351997025280216654447342278, 102164174349821125137970487392949007236, 308164931596625094656266467235253809106, 271915852323952067842398106403082806360, 227647953955287367714133036452945544742, 226936647763116174786494291802654822250, 308170555145571807541189819739699809694, 305967500991204419130520144000799743842, 133105130754254600986622393405343152142, 305532029585887981283523754219281398766, 172410759080424577518324870893406614048, 102998777379450204286394721228912535604, 54969320214588899006126198736319185926, 133211003395652039953439695502406128334, 227375442280390979429973553919662004774, 271830150077582418345827982645845933720, 4955917326648230773508684280683823104, 102148097239065330921115805057578557236, 172885700256406002458384310923462859152, 272209106874770544726844678907096696484, 56538291399058816093646072645906817530, 173139448164521758332242964815947556716, 55418003596362017635628740176384579466, 227728627380917811014104108526883517990, 0, 305961988162602755699404830312098446174, 178356100567250831900639352525185366892, 135325830696997074202046058330761128834, 189481146061086134017106552491789565356, 175397880387343143911835223498236970272, 75361565302940573017734093940626417402]
set_option maxRecDepth 100000 in
theorem x_back : sqs 128 135 128 2 = 2 := by decide +kernel
set_option maxRecDepth 100000 in
theorem back_ok : (List.range 128).all (fun i => tab back128 (sq 128 135 (2 ^ i) ^^^ 2 ^ i) == 2 ^ i / 2 * 2) = true := by decide +kernel
/-- NO PRODUCT IS NONE BUT OF NONE. -/
theorem entire128 (a b : Nat) (ha : a < 2 ^ 128) (hb : b < 2 ^ 128) (h : mul 128 135 a b = 0) : a = 0 ∨ b = 0 := by
  by_cases h0 : a = 0
  · exact .inl h0
  · refine .inr (entire 128 135 (by decide) (by decide) x_back (tab back128) (tab_add _) (fun i hi => ?_) a b ha hb h h0)
    have := List.all_eq_true.1 back_ok i (List.mem_range.2 hi)
    exact beq_iff_eq.1 this
end Go.Proofs.YtbainiblffcjgaaDoor.Gf
namespace Go.Proofs.YtbainiblffcjgaaDoor.Ghash
set_option linter.unusedVariables false
set_option linter.unusedSimpArgs false
open Gf
open Aes (gb tb tb_length gb_tb tb_gb tb_ext tb_eq)

/-- The coefficient of x to the power of i: the highest bit of the first byte first. -/
def bit (b : List UInt8) (i : Nat) : Nat := (gb b (i / 8)).toNat / 2 ^ (7 - i % 8) % 2
theorem bit_lt (b : List UInt8) (i : Nat) : bit b i < 2 := Nat.mod_lt _ (by decide)
/-- A byte by its bits. -/
def byte (f : Nat → Nat) : Nat := f 0 * 128 + f 1 * 64 + f 2 * 32 + f 3 * 16 + f 4 * 8 + f 5 * 4 + f 6 * 2 + f 7
theorem byte_lt (f : Nat → Nat) (h : ∀ i, f i < 2) : byte f < 256 := by
  have h0 := h 0; have h1 := h 1; have h2 := h 2; have h3 := h 3; have h4 := h 4; have h5 := h 5; have h6 := h 6; have h7 := h 7
  unfold byte; omega
theorem byte_bit (f : Nat → Nat) (h : ∀ i, f i < 2) (k : Nat) (hk : k < 8) : byte f / 2 ^ (7 - k) % 2 = f k := by
  have h0 := h 0; have h1 := h 1; have h2 := h 2; have h3 := h 3; have h4 := h 4; have h5 := h 5; have h6 := h 6; have h7 := h 7
  have : k = 0 ∨ k = 1 ∨ k = 2 ∨ k = 3 ∨ k = 4 ∨ k = 5 ∨ k = 6 ∨ k = 7 := by omega
  unfold byte
  rcases this with rfl | rfl | rfl | rfl | rfl | rfl | rfl | rfl <;> simp <;> omega
theorem byte_of (x : Nat) (h : x < 256) : byte (fun k => x / 2 ^ (7 - k) % 2) = x := by
  unfold byte; simp; omega
theorem u8_bits {x y : UInt8} (h : ∀ k, k < 8 → x.toNat / 2 ^ (7 - k) % 2 = y.toNat / 2 ^ (7 - k) % 2) : x = y := by
  apply UInt8.toNat_inj.1
  rw [← byte_of x.toNat x.toNat_lt, ← byte_of y.toNat y.toNat_lt]
  simp only [byte]
  rw [h 0 (by omega), h 1 (by omega), h 2 (by omega), h 3 (by omega), h 4 (by omega), h 5 (by omega), h 6 (by omega), h 7 (by omega)]
/-- TWO BLOCKS ARE ONE if their bits are. -/
theorem bits_ext {a b : List UInt8} (ha : a.length = 16) (hb : b.length = 16) (h : ∀ i, i < 128 → bit a i = bit b i) : a = b := by
  rw [← tb_gb a ha]
  refine tb_eq hb fun j hj => u8_bits fun k hk => ?_
  have := h (8 * j + k) (by omega)
  rw [bit, bit, show (8 * j + k) / 8 = j by omega, show (8 * j + k) % 8 = k by omega] at this
  exact this

/-- A block as a number: the coefficient of x to the power of i is its bit i. -/
def numN (b : List UInt8) : Nat → Nat
  | 0 => 0
  | k + 1 => numN b k + bit b k * 2 ^ k
def num (b : List UInt8) : Nat := numN b 128
theorem numN_lt (b : List UInt8) (n : Nat) : numN b n < 2 ^ n := by
  induction n with
  | zero => simp [numN]
  | succ n ih =>
    have := bit_lt b n
    have h2 : bit b n * 2 ^ n ≤ 1 * 2 ^ n := Nat.mul_le_mul_right _ (by omega)
    rw [numN, Nat.pow_succ]; omega
theorem num_lt (b : List UInt8) : num b < 2 ^ 128 := numN_lt b 128
theorem numN_bit (b : List UInt8) (n i : Nat) (h : i < n) : numN b n / 2 ^ i % 2 = bit b i := by
  induction n with
  | zero => omega
  | succ n ih =>
    rw [numN]
    by_cases hi : i = n
    · subst hi
      rw [Nat.add_mul_div_right _ _ (Nat.two_pow_pos i), Nat.div_eq_of_lt (numN_lt b i), Nat.zero_add]
      exact Nat.mod_eq_of_lt (bit_lt b i)
    · have hn : n = i + 1 + (n - i - 1) := by omega
      have e : bit b n * 2 ^ n = bit b n * 2 ^ (n - i - 1) * 2 * 2 ^ i := by
        have e2 : 2 ^ n = 2 ^ (n - i - 1) * 2 * 2 ^ i := by
          conv => lhs; rw [hn]
          rw [Nat.pow_add, Nat.pow_succ]
          ac_rfl
        rw [e2]
        ac_rfl
      rw [e, Nat.add_mul_div_right _ _ (Nat.two_pow_pos i), Nat.add_mul_mod_self_right]
      exact ih (by omega)
theorem num_bit (b : List UInt8) (i : Nat) (h : i < 128) : num b / 2 ^ i % 2 = bit b i := numN_bit b 128 i h
/-- A number below 2^128 as a block. -/
def blk (x : Nat) : List UInt8 := tb fun j => UInt8.ofNat (byte fun k => x / 2 ^ (8 * j + k) % 2)
theorem blk_length (x : Nat) : (blk x).length = 16 := tb_length _
theorem bit_blk (x i : Nat) (h : i < 128) : bit (blk x) i = x / 2 ^ i % 2 := by
  have hl := byte_lt (fun k => x / 2 ^ (8 * (i / 8) + k) % 2) (fun k => Nat.mod_lt _ (by decide))
  rw [bit, blk, gb_tb _ _ (by omega), UInt8.toNat_ofNat', Nat.mod_eq_of_lt (show _ < 2 ^ 8 from hl), byte_bit _ (fun k => Nat.mod_lt _ (by decide)) _ (by omega)]
  congr 3
  omega
theorem num_ext {x y : Nat} (hx : x < 2 ^ 128) (hy : y < 2 ^ 128) (h : ∀ i, i < 128 → x / 2 ^ i % 2 = y / 2 ^ i % 2) : x = y := by
  apply Nat.eq_of_testBit_eq
  intro i
  by_cases hi : i < 128
  · rw [Nat.testBit_eq_decide_div_mod_eq, Nat.testBit_eq_decide_div_mod_eq, h i hi]
  · have hp : 2 ^ 128 ≤ 2 ^ i := Nat.pow_le_pow_right (by decide) (by omega)
    rw [Nat.testBit_lt_two_pow (by omega), Nat.testBit_lt_two_pow (by omega)]
theorem num_blk (x : Nat) (h : x < 2 ^ 128) : num (blk x) = x := num_ext (num_lt _) h fun i hi => by rw [num_bit _ i hi, bit_blk x i hi]
theorem blk_num (b : List UInt8) (h : b.length = 16) : blk (num b) = b := bits_ext (blk_length _) h fun i hi => by rw [bit_blk _ i hi, num_bit b i hi]
theorem num_inj {a b : List UInt8} (ha : a.length = 16) (hb : b.length = 16) (h : num a = num b) : a = b := by rw [← blk_num a ha, h, blk_num b hb]

/-- The sum. -/
def plus (a b : List UInt8) : List UInt8 := tb fun i => gb a i ^^^ gb b i
theorem plus_length (a b : List UInt8) : (plus a b).length = 16 := tb_length _
theorem bit_plus (a b : List UInt8) (i : Nat) (h : i < 128) : bit (plus a b) i = (bit a i + bit b i) % 2 := by
  rw [bit, plus, gb_tb _ _ (by omega), UInt8.toNat_xor, bit_xor]; rfl
theorem num_plus (a b : List UInt8) : num (plus a b) = num a ^^^ num b := num_ext (num_lt _) (Nat.xor_lt_two_pow (num_lt a) (num_lt b)) fun i hi => by
  rw [num_bit _ i hi, bit_plus a b i hi, bit_xor, num_bit a i hi, num_bit b i hi]
/-- The product with x. -/
def shift (b : List UInt8) : List UInt8 := blk (xt 128 135 (num b))
theorem shift_length (b : List UInt8) : (shift b).length = 16 := blk_length _
theorem num_shift (b : List UInt8) : num (shift b) = xt 128 135 (num b) := num_blk _ (xt_lt 128 135 (by decide) _)
/-- THE PRODUCT. -/
def tms (a b : List UInt8) : List UInt8 := blk (mul 128 135 (num a) (num b))
theorem tms_length (a b : List UInt8) : (tms a b).length = 16 := blk_length _
theorem num_tms (a b : List UInt8) : num (tms a b) = mul 128 135 (num a) (num b) := num_blk _ (mul_lt 128 135 (by decide) _ _ (num_lt a))
theorem tms_comm (a b : List UInt8) : tms a b = tms b a := by rw [tms, mul_comm 128 135 _ _ (num_lt a) (num_lt b), ← tms]
theorem tms_assoc (a b c : List UInt8) : tms (tms a b) c = tms a (tms b c) := by
  apply num_inj (tms_length _ _) (tms_length _ _)
  rw [num_tms, num_tms, num_tms, num_tms]; exact mul_assoc 128 135 _ _ _ (by decide) (num_lt a) (num_lt b) (num_lt c)
theorem tms_plus (a b c : List UInt8) : tms a (plus b c) = plus (tms a b) (tms a c) := by
  apply num_inj (tms_length _ _) (plus_length _ _)
  rw [num_tms, num_plus, num_plus, num_tms, num_tms]; exact mul_xor 128 135 _ _ _
theorem plus_tms (a b c : List UInt8) : tms (plus a b) c = plus (tms a c) (tms b c) := by rw [tms_comm, tms_plus, tms_comm c, tms_comm c]
def none16 : List UInt8 := List.replicate 16 0
theorem none_length : none16.length = 16 := rfl
theorem num_none : num none16 = 0 := by decide +kernel
theorem num_zero {b : List UInt8} (hb : b.length = 16) (h : num b = 0) : b = none16 := num_inj hb none_length (by rw [h, num_none])
theorem tms_entire (a b : List UInt8) (ha : a.length = 16) (hb : b.length = 16) (h : tms a b = none16) : a = none16 ∨ b = none16 := by
  have h2 := num_tms a b
  rw [h, num_none] at h2
  rcases entire128 _ _ (num_lt a) (num_lt b) h2.symm with h | h
  · exact .inl (num_zero ha h)
  · exact .inr (num_zero hb h)
theorem none_tms (b : List UInt8) : tms none16 b = none16 := num_zero (tms_length _ _) (by rw [num_tms, num_none]; exact zero_mul 128 135 _)
theorem tms_none (b : List UInt8) : tms b none16 = none16 := by rw [tms_comm, none_tms]
theorem plus_none (b : List UInt8) (h : b.length = 16) : plus b none16 = b := num_inj (plus_length _ _) h (by rw [num_plus, num_none, Nat.xor_zero])
theorem none_plus (b : List UInt8) (h : b.length = 16) : plus none16 b = b := num_inj (plus_length _ _) h (by rw [num_plus, num_none, Nat.zero_xor])
def one16 : List UInt8 := 128 :: List.replicate 15 0
theorem one_length : one16.length = 16 := rfl
theorem num_one : num one16 = 1 := by decide +kernel
def x16 : List UInt8 := 64 :: List.replicate 15 0
theorem x_length : x16.length = 16 := rfl
theorem num_x : num x16 = 2 := by decide +kernel
theorem tms_one (b : List UInt8) (h : b.length = 16) : tms b one16 = b := num_inj (tms_length _ _) h (by rw [num_tms, num_one]; exact mul_one 128 135 _ (by decide))
theorem one_tms (b : List UInt8) (h : b.length = 16) : tms one16 b = b := by rw [tms_comm, tms_one b h]
theorem tms_x (b : List UInt8) : tms b x16 = shift b := by rw [tms, num_x, mul_two 128 135 _ (by decide)]; rfl

/-- The document's product: the sums of the shifts at a's bits. -/
def shifts (b : List UInt8) : Nat → List UInt8
  | 0 => b
  | k + 1 => shift (shifts b k)
theorem shifts_length (b : List UInt8) (h : b.length = 16) (k : Nat) : (shifts b k).length = 16 := by
  cases k with
  | zero => exact h
  | succ k => exact shift_length _
theorem num_shifts (b : List UInt8) (k : Nat) : num (shifts b k) = xts 128 135 k (num b) := by
  induction k with
  | zero => rfl
  | succ k ih => rw [shifts, num_shift, ih, xts_succ]
def prod (a b : List UInt8) : Nat → List UInt8
  | 0 => none16
  | k + 1 => if bit a k = 1 then plus (prod a b k) (shifts b k) else prod a b k
theorem prod_length (a b : List UInt8) (k : Nat) : (prod a b k).length = 16 := by
  induction k with
  | zero => rfl
  | succ k ih => rw [prod]; split
                 · exact plus_length _ _
                 · exact ih
theorem num_prod (a b : List UInt8) (k : Nat) (hk : k ≤ 128) : num (prod a b k) = mulN 128 135 (num b) (num a) k := by
  induction k with
  | zero => exact num_none
  | succ k ih =>
    have e := num_bit a k (by omega)
    have ht : (num a).testBit k = decide (bit a k = 1) := by rw [Nat.testBit_eq_decide_div_mod_eq, e]
    rw [prod, mulN, ← ih (by omega), ht]
    by_cases h : bit a k = 1
    · rw [if_pos h, num_plus, num_shifts]; simp [h]
    · rw [if_neg h]; simp [h]
theorem prod_tms (a b : List UInt8) : prod a b 128 = tms a b := by
  apply num_inj (prod_length _ _ _) (tms_length _ _)
  rw [num_prod _ _ _ (Nat.le_refl _), num_tms, mul_comm 128 135 _ _ (num_lt a) (num_lt b)]; rfl

/-- The block k of bytes, filled up with noughts. -/
def part (l : List UInt8) (k : Nat) : List UInt8 := tb fun i => gb l (16 * k + i)
theorem part_length (l : List UInt8) (k : Nat) : (part l k).length = 16 := tb_length _
/-- Behind n blocks of l. -/
def tk (h s l : List UInt8) : Nat → List UInt8
  | 0 => s
  | k + 1 => tms (plus (tk h s l k) (part l k)) h
theorem tk_zero (h s l : List UInt8) : tk h s l 0 = s := rfl
theorem tk_succ (h s l : List UInt8) (k : Nat) : tk h s l (k + 1) = tms (plus (tk h s l k) (part l k)) h := rfl
theorem tk_length (h s l : List UInt8) (hs : s.length = 16) (k : Nat) : (tk h s l k).length = 16 := by
  cases k with
  | zero => exact hs
  | succ k => exact tms_length _ _
/-- WHAT A SUM IS, with l taken in. -/
def taken (h s l : List UInt8) : List UInt8 := tk h s l ((l.length + 15) / 16)
theorem taken_length (h s l : List UInt8) (hs : s.length = 16) : (taken h s l).length = 16 := tk_length h s l hs _
theorem taken_nil (h s : List UInt8) : taken h s [] = s := rfl
theorem gb_take (l : List UInt8) (n i : Nat) (h : i < n) : gb (l.take n) i = gb l i := by
  rw [gb, gb, List.getD, List.getD, List.getElem?_take, if_pos h]
theorem gb_drop (l : List UInt8) (n i : Nat) : gb (l.drop n) i = gb l (n + i) := by
  rw [gb, gb, List.getD, List.getD, List.getElem?_drop]
theorem part_take (l : List UInt8) (c k : Nat) (h : k < c) : part (l.take (16 * c)) k = part l k := tb_ext fun i hi => gb_take _ _ _ (by omega)
theorem part_drop (l : List UInt8) (c k : Nat) : part (l.drop (16 * c)) k = part l (c + k) := tb_ext fun i hi => by rw [gb_drop]; congr 1; omega
theorem tk_take (h s l : List UInt8) (c k : Nat) (hk : k ≤ c) : tk h s (l.take (16 * c)) k = tk h s l k := by
  induction k with
  | zero => rfl
  | succ k ih => rw [tk_succ, tk_succ, ih (by omega), part_take _ _ _ (by omega)]
theorem tk_drop (h s l : List UInt8) (c k : Nat) : tk h (tk h s l c) (l.drop (16 * c)) k = tk h s l (c + k) := by
  induction k with
  | zero => rfl
  | succ k ih => rw [tk_succ, ih, part_drop, ← Nat.add_assoc, tk_succ]
/-- Bytes that are cut behind whole blocks are taken in as they are whole. -/
theorem taken_cut (h s l : List UInt8) (c : Nat) (hc : 16 * c ≤ l.length) : taken h (taken h s (l.take (16 * c))) (l.drop (16 * c)) = taken h s l := by
  have e1 : (l.take (16 * c)).length = 16 * c := by rw [List.length_take]; omega
  rw [taken, taken, e1, show (16 * c + 15) / 16 = c by omega, tk_take _ _ _ _ _ (Nat.le_refl _), tk_drop, List.length_drop, taken]
  congr 1
  omega
theorem plus_plus (a b c d : List UInt8) : plus (plus a b) (plus c d) = plus (plus a c) (plus b d) := by
  apply num_inj (plus_length _ _) (plus_length _ _)
  rw [num_plus, num_plus, num_plus, num_plus, num_plus, num_plus]
  ac_rfl
/-- The sums of two texts of one length, together. -/
theorem tk_plus (h s t l m n : List UInt8) (he : ∀ k, part n k = plus (part l k) (part m k)) (k : Nat) : tk h (plus s t) n k = plus (tk h s l k) (tk h t m k) := by
  induction k with
  | zero => rfl
  | succ k ih => rw [tk_succ, tk_succ, tk_succ, ih, he, plus_plus, plus_tms]
theorem taken_plus (h s t l m n : List UInt8) (h1 : l.length = n.length) (h2 : m.length = n.length) (he : ∀ i, gb n i = gb l i ^^^ gb m i) : taken h (plus s t) n = plus (taken h s l) (taken h t m) := by
  rw [taken, taken, taken, h1, h2]
  refine tk_plus h s t l m n (fun k => ?_) _
  refine tb_ext fun i hi => ?_
  rw [he, part, part, gb_tb _ _ hi, gb_tb _ _ hi]
/-- Eight bytes of a number, the highest first; how many bits two texts have. -/
def big8 (n : Nat) : List UInt8 := (List.range 8).map fun i => UInt8.ofNat (n / 256 ^ (7 - i))
def sizes (aad text : List UInt8) : List UInt8 := big8 (8 * aad.length) ++ big8 (8 * text.length)
theorem sizes_length (aad text : List UInt8) : (sizes aad text).length = 16 := by simp [sizes, big8]
theorem sizes_nil : sizes [] [] = none16 := by decide +kernel
/-- THE SUM OF TWO TEXTS. -/
def sum (h aad text : List UInt8) : List UInt8 := taken h (taken h (taken h none16 aad) text) (sizes aad text)
theorem sum_length (h aad text : List UInt8) : (sum h aad text).length = 16 := taken_length _ _ _ (taken_length _ _ _ (taken_length _ _ _ rfl))
theorem part_whole (l : List UInt8) (h : l.length = 16) : part l 0 = l := tb_eq h fun i hi => by rw [Nat.mul_zero, Nat.zero_add]
theorem taken_one (h s l : List UInt8) (hl : l.length = 16) : taken h s l = tms (plus s l) h := by
  rw [taken, hl, show (16 + 15) / 16 = 1 from rfl, tk_succ, tk_zero, part_whole l hl]
theorem sum_nil (h : List UInt8) : sum h [] [] = none16 := by
  rw [sum, sizes_nil, taken_nil, taken_nil, taken_one _ _ _ rfl, plus_none _ rfl, none_tms]
theorem plus_eq (a b : List UInt8) : plus a b = tb fun i => gb a i ^^^ gb b i := rfl
theorem shifts_zero (b : List UInt8) : shifts b 0 = b := rfl
theorem shifts_succ (b : List UInt8) (k : Nat) : shifts b (k + 1) = shift (shifts b k) := rfl
theorem prod_zero (a b : List UInt8) : prod a b 0 = none16 := rfl
theorem prod_one (a b : List UInt8) (k : Nat) (h : bit a k = 1) : prod a b (k + 1) = plus (prod a b k) (shifts b k) := by rw [prod, if_pos h]
theorem prod_no (a b : List UInt8) (k : Nat) (h : bit a k ≠ 1) : prod a b (k + 1) = prod a b k := by rw [prod, if_neg h]
theorem part_eq (l : List UInt8) (k : Nat) : part l k = tb fun i => gb l (16 * k + i) := rfl
theorem taken_eq (h s l : List UInt8) : taken h s l = tk h s l ((l.length + 15) / 16) := rfl
theorem sum_eq (h aad text : List UInt8) : sum h aad text = taken h (taken h (taken h none16 aad) text) (sizes aad text) := rfl
theorem sizes_eq (aad text : List UInt8) : sizes aad text = big8 (8 * aad.length) ++ big8 (8 * text.length) := rfl
attribute [irreducible] num blk plus shift tms shifts prod part tk taken sum sizes
end Go.Proofs.YtbainiblffcjgaaDoor.Ghash
namespace Go.Proofs.YtbainiblffcjgaaDoor.Gcm
set_option linter.unusedVariables false
set_option linter.unusedSimpArgs false
open Aes (gb tb tb_length gb_tb tb_gb tb_ext tb_eq enc allW noughts)
open Ghash (plus plus_length none16 sum sum_length sum_nil)

theorem gb_none (l : List UInt8) (i : Nat) (h : l.length ≤ i) : gb l i = 0 := by rw [gb, List.getD, List.getElem?_eq_none h]; rfl
theorem gb_some (l : List UInt8) (i : Nat) (h : i < l.length) : l[i]? = some (gb l i) := by rw [gb, List.getD, List.getElem?_eq_getElem h]; rfl
theorem gb_ext {l m : List UInt8} (h : l.length = m.length) (hg : ∀ i, i < l.length → gb l i = gb m i) : l = m := by
  apply List.ext_getElem? 
  intro i
  by_cases hi : i < l.length
  · rw [gb_some l i hi, gb_some m i (by omega), hg i hi]
  · rw [List.getElem?_eq_none (by omega), List.getElem?_eq_none (by omega)]
/-- A number in four bytes, the highest first; a nonce's block i. -/
def big4 (i : Nat) : List UInt8 := (List.range 4).map fun k => UInt8.ofNat (i / 256 ^ (3 - k))
theorem big4_length (i : Nat) : (big4 i).length = 4 := by simp [big4]
def nb (n : List UInt8) (i : Nat) : List UInt8 := n ++ big4 i
theorem nb_length (n : List UInt8) (i : Nat) (h : n.length = 12) : (nb n i).length = 16 := by rw [nb, List.length_append, big4_length, h]
/-- A byte of the stream. -/
def sb (W : List UInt8) (R : Nat) (n : List UInt8) (j : Nat) : UInt8 := gb (enc W R (nb n (j / 16 + 2))) (j % 16)
/-- A text with the stream taken in. -/
def stream (W : List UInt8) (R : Nat) (n l : List UInt8) : List UInt8 := (List.range l.length).map fun j => gb l j ^^^ sb W R n j
theorem stream_length (W : List UInt8) (R : Nat) (n l : List UInt8) : (stream W R n l).length = l.length := by simp [stream]
theorem gb_stream (W : List UInt8) (R : Nat) (n l : List UInt8) (j : Nat) (h : j < l.length) : gb (stream W R n l) j = gb l j ^^^ sb W R n j := by
  rw [gb, stream, List.getD, List.getElem?_map, List.getElem?_range h]; rfl
theorem stream_stream (W : List UInt8) (R : Nat) (n l : List UInt8) : stream W R n (stream W R n l) = l := by
  refine gb_ext (by rw [stream_length, stream_length]) fun i hi => ?_
  rw [stream_length, stream_length] at hi
  rw [gb_stream _ _ _ _ _ (by rw [stream_length]; exact hi), gb_stream _ _ _ _ _ hi, UInt8.xor_assoc, UInt8.xor_self, UInt8.xor_zero]
theorem stream_take (W : List UInt8) (R : Nat) (n l : List UInt8) (c : Nat) (h : c ≤ l.length) : (stream W R n l).take c = stream W R n (l.take c) := by
  refine gb_ext (by rw [stream_length, List.length_take, List.length_take, stream_length]) fun i hi => ?_
  rw [List.length_take, stream_length] at hi
  rw [Ghash.gb_take _ _ _ (by omega), gb_stream _ _ _ _ _ (by omega), gb_stream _ _ _ _ _ (by rw [List.length_take]; omega), Ghash.gb_take _ _ _ (by omega)]
theorem stream_diff (W : List UInt8) (R : Nat) (n l m : List UInt8) (j : Nat) (h1 : j < l.length) (h2 : j < m.length) :
    gb (stream W R n l) j ^^^ gb (stream W R n m) j = gb l j ^^^ gb m j := by
  rw [gb_stream _ _ _ _ _ h1, gb_stream _ _ _ _ _ h2]
  have : ∀ a b c : UInt8, (a ^^^ c) ^^^ (b ^^^ c) = a ^^^ b := fun a b c => by
    rw [UInt8.xor_assoc, UInt8.xor_comm b, ← UInt8.xor_assoc c, UInt8.xor_self, UInt8.zero_xor]
  exact this _ _ _
/-- One byte more. -/
theorem stream_snoc (W : List UInt8) (R : Nat) (n l : List UInt8) (c : Nat) (h : c < l.length) : stream W R n (l.take (c + 1)) = stream W R n (l.take c) ++ [gb l c ^^^ sb W R n c] := by
  rw [← stream_take _ _ _ _ _ (by omega), ← stream_take _ _ _ _ _ (by omega), List.take_add_one, gb_some _ _ (by rw [stream_length]; exact h), gb_stream _ _ _ _ _ h]; rfl
/-- The tag of what a text became. -/
def tag (W : List UInt8) (R : Nat) (n aad s : List UInt8) : List UInt8 := plus (sum (enc W R none16) aad s) (enc W R (nb n 1))
theorem tag_length (W : List UInt8) (R : Nat) (n aad s : List UInt8) : (tag W R n aad s).length = 16 := plus_length _ _
/-- WHAT A TEXT IS SEALED AS. -/
def gs (W : List UInt8) (R : Nat) (n text aad : List UInt8) : List UInt8 := stream W R n text ++ tag W R n aad (stream W R n text)
theorem gs_length (W : List UInt8) (R : Nat) (n text aad : List UInt8) : (gs W R n text aad).length = text.length + 16 := by
  rw [gs, List.length_append, stream_length, tag_length]
theorem gs_take (W : List UInt8) (R : Nat) (n text aad : List UInt8) : (gs W R n text aad).take text.length = stream W R n text := by
  rw [gs, List.take_left' (stream_length _ _ _ _)]
theorem gs_drop (W : List UInt8) (R : Nat) (n text aad : List UInt8) : (gs W R n text aad).drop text.length = tag W R n aad (stream W R n text) := by
  rw [gs, List.drop_left' (stream_length _ _ _ _)]
/-- The text that it was. -/
def opened (W : List UInt8) (R : Nat) (n x aad : List UInt8) : Option (List UInt8) :=
  if x.length < 16 then none
  else if tag W R n aad (x.take (x.length - 16)) = x.drop (x.length - 16) then some (stream W R n (x.take (x.length - 16))) else none
/-- It is just what sealing a text makes. -/
theorem opened_iff (W : List UInt8) (R : Nat) (n x aad : List UInt8) (h : 16 ≤ x.length) :
    tag W R n aad (x.take (x.length - 16)) = x.drop (x.length - 16) ↔ gs W R n (stream W R n (x.take (x.length - 16))) aad = x := by
  rw [gs, stream_stream]
  constructor
  · intro e; rw [e, List.take_append_drop]
  · intro e
    have := congrArg (List.drop (x.length - 16)) e
    rwa [List.drop_left' (by rw [List.length_take]; omega)] at this
theorem opened_gs (W : List UInt8) (R : Nat) (n text aad : List UInt8) : opened W R n (gs W R n text aad) aad = some text := by
  have hl := gs_length W R n text aad
  rw [opened, if_neg (by omega), show (gs W R n text aad).length - 16 = text.length by omega, gs_take, gs_drop, if_pos rfl, stream_stream]
def none12 : List UInt8 := List.replicate 12 0
theorem told : (gs (allW noughts) 9 none12 [] []).take 4 = [88, 226, 252, 206] := by
  have h1 : stream (allW noughts) 9 none12 [] = [] := List.eq_nil_of_length_eq_zero (by rw [stream_length]; rfl)
  have h2 : tag (allW noughts) 9 none12 [] [] = enc (allW noughts) 9 (nb none12 1) := by
    rw [tag, sum_nil]; exact Ghash.none_plus _ (Aes.enc_length _ _ _)
  rw [gs, h1, h2, List.nil_append]
  decide +kernel
theorem nb_eq (n : List UInt8) (i : Nat) : nb n i = n ++ big4 i := rfl
theorem sb_eq (W : List UInt8) (R : Nat) (n : List UInt8) (j : Nat) : sb W R n j = gb (enc W R (nb n (j / 16 + 2))) (j % 16) := rfl
theorem stream_nil (W : List UInt8) (R : Nat) (n : List UInt8) : stream W R n [] = [] := rfl
theorem tag_eq (W : List UInt8) (R : Nat) (n aad s : List UInt8) : tag W R n aad s = plus (sum (enc W R none16) aad s) (enc W R (nb n 1)) := rfl
theorem gs_eq (W : List UInt8) (R : Nat) (n text aad : List UInt8) : gs W R n text aad = stream W R n text ++ tag W R n aad (stream W R n text) := rfl
theorem opened_eq (W : List UInt8) (R : Nat) (n x aad : List UInt8) : opened W R n x aad = if x.length < 16 then none else if tag W R n aad (x.take (x.length - 16)) = x.drop (x.length - 16) then some (stream W R n (x.take (x.length - 16))) else none := rfl
attribute [irreducible] nb sb stream tag gs opened
end Go.Proofs.YtbainiblffcjgaaDoor.Gcm
namespace Go.Proofs.YtbainiblffcjgaaDoor.Gcm
set_option linter.unusedVariables false
set_option linter.unusedSimpArgs false
open Aes (gb tb enc enc_length)

/-- The k-th piece of 16 bytes; the last one may be shorter. -/
def piece (l : List UInt8) (k : Nat) : List UInt8 := (l.drop (16 * k)).take 16
theorem piece_eq (l : List UInt8) (k : Nat) : piece l k = (l.drop (16 * k)).take 16 := rfl
theorem piece_length (l : List UInt8) (k : Nat) : (piece l k).length = min 16 (l.length - 16 * k) := by rw [piece, List.length_take, List.length_drop]
theorem gb_piece (l : List UInt8) (k i : Nat) (h : i < 16) : gb (piece l k) i = gb l (16 * k + i) := by rw [piece, Ghash.gb_take _ _ _ h, Ghash.gb_drop]
def mask (E x : List UInt8) : List UInt8 := (List.range x.length).map fun j => gb x j ^^^ gb E j
theorem mask_length (E x : List UInt8) : (mask E x).length = x.length := by simp [mask]
theorem gb_mask (E x : List UInt8) (j : Nat) (h : j < x.length) : gb (mask E x) j = gb x j ^^^ gb E j := by
  rw [gb, mask, List.getD, List.getElem?_map, List.getElem?_range h]; rfl
theorem mask_nil (E : List UInt8) : mask E [] = [] := rfl
theorem mask_snoc (E x : List UInt8) (k : Nat) (h : k < x.length) : mask E (x.take (k + 1)) = mask E (x.take k) ++ [gb x k ^^^ gb E k] := by
  refine gb_ext (by simp [mask_length]; omega) fun i hi => ?_
  rw [mask_length, List.length_take] at hi
  rw [gb_mask _ _ _ (by rw [List.length_take]; omega), Ghash.gb_take _ _ _ (by omega)]
  by_cases hk : i < k
  · rw [gb, gb, gb, List.getD, List.getD, List.getD, List.getElem?_append_left (by rw [mask_length, List.length_take]; omega)]
    have := gb_mask E (x.take k) i (by rw [List.length_take]; omega)
    rw [Ghash.gb_take _ _ _ hk] at this
    exact this.symm
  · obtain rfl : i = k := by omega
    have hl : (mask E (x.take i)).length = i := by rw [mask_length, List.length_take]; omega
    conv => rhs; rw [gb, List.getD, List.getElem?_append_right (by omega), hl, Nat.sub_self]
    rfl
/-- Pieces, the i-th of all and what follow, each with its block. -/
def mks (W : List UInt8) (R : Nat) (n l : List UInt8) : Nat → List Nat → List UInt8
  | _, [] => []
  | i, x :: xs => mask (enc W R (nb n (i + 2))) (piece l x) ++ mks W R n l (i + 1) xs
theorem mks_nil (W : List UInt8) (R : Nat) (n l : List UInt8) (i : Nat) : mks W R n l i [] = [] := rfl
theorem mks_snoc (W : List UInt8) (R : Nat) (n l : List UInt8) (x : Nat) : ∀ (pre : List Nat) (i : Nat), mks W R n l i (pre ++ [x]) = mks W R n l i pre ++ mask (enc W R (nb n (i + pre.length + 2))) (piece l x)
  | [], i => by simp [mks]
  | y :: pre, i => by
    rw [List.cons_append, mks, mks, mks_snoc W R n l x pre (i + 1), List.append_assoc, List.length_cons, show i + 1 + pre.length + 2 = i + (pre.length + 1) + 2 by omega]
theorem mks_length (W : List UInt8) (R : Nat) (n l : List UInt8) : ∀ (pre : List Nat) (i : Nat), (mks W R n l i pre).length ≤ 16 * pre.length
  | [], i => by simp [mks]
  | y :: pre, i => by
    have := mks_length W R n l pre (i + 1)
    rw [mks, List.length_append, mask_length, piece_length, List.length_cons]; omega
theorem stream_block (W : List UInt8) (R : Nat) (n l : List UInt8) (k : Nat) : stream W R n (l.take (16 * (k + 1))) = stream W R n (l.take (16 * k)) ++ mask (enc W R (nb n (k + 2))) (piece l k) := by
  refine gb_ext (by simp only [stream_length, List.length_append, mask_length, piece_length, List.length_take]; omega) fun i hi => ?_
  rw [stream_length, List.length_take] at hi
  rw [gb_stream _ _ _ _ _ (by rw [List.length_take]; omega), Ghash.gb_take _ _ _ (by omega)]
  by_cases hk : i < 16 * k
  · conv => rhs; rw [gb, List.getD, List.getElem?_append_left (by rw [stream_length, List.length_take]; omega)]
    have := gb_stream W R n (l.take (16 * k)) i (by rw [List.length_take]; omega)
    rw [Ghash.gb_take _ _ _ hk] at this
    exact this.symm
  · have hl : (stream W R n (l.take (16 * k))).length = 16 * k := by rw [stream_length, List.length_take]; omega
    conv => rhs; rw [gb, List.getD, List.getElem?_append_right (by omega), hl]
    have := gb_mask (enc W R (nb n (k + 2))) (piece l k) (i - 16 * k) (by rw [piece_length]; omega)
    rw [gb_piece _ _ _ (by omega), show 16 * k + (i - 16 * k) = i by omega] at this
    rw [sb_eq, show i / 16 = k by omega, show i % 16 = i - 16 * k by omega]
    exact this.symm
theorem mks_range (W : List UInt8) (R : Nat) (n l : List UInt8) (k : Nat) : mks W R n l 0 (List.range k) = stream W R n (l.take (16 * k)) := by
  induction k with
  | zero => rw [List.range_zero, mks_nil, Nat.mul_zero, List.take_zero, stream_nil]
  | succ k ih => rw [List.range_succ, mks_snoc, ih, stream_block, List.length_range, Nat.zero_add]
theorem mks_all (W : List UInt8) (R : Nat) (n l : List UInt8) (k : Nat) (h : l.length ≤ 16 * k) : mks W R n l 0 (List.range k) = stream W R n l := by
  rw [mks_range, List.take_of_length_le h]
attribute [irreducible] piece mask mks
end Go.Proofs.YtbainiblffcjgaaDoor.Gcm
namespace Go.Proofs.YtbainiblffcjgaaDoor.Gcm
set_option linter.unusedVariables false
set_option linter.unusedSimpArgs false
open Aes (gb tb tb_length gb_tb tb_gb tb_ext tb_eq enc enc_length allW noughts)
open Ghash

theorem gb_rep (n i : Nat) : gb (List.replicate n 0) i = 0 := by
  by_cases h : i < n
  · rw [gb, List.getD, List.getElem?_eq_getElem (by rw [List.length_replicate]; exact h), List.getElem_replicate]; rfl
  · exact gb_none _ _ (by rw [List.length_replicate]; omega)
theorem part_rep (n k : Nat) : Ghash.part (List.replicate n 0) k = none16 := by
  rw [part_eq]
  exact tb_eq none_length fun i hi => by rw [gb_rep, none16, gb_rep]
theorem tk_rep (h : List UInt8) (n k : Nat) : tk h none16 (List.replicate n 0) k = none16 := by
  induction k with
  | zero => rw [tk_zero]
  | succ k ih => rw [tk_succ, ih, part_rep, plus_none _ none_length, none_tms]
theorem taken_rep (h : List UInt8) (n : Nat) : taken h none16 (List.replicate n 0) = none16 := by rw [taken_eq, tk_rep]
theorem sum_rep (h : List UInt8) (n : Nat) : sum h (List.replicate n 0) [] = tms (big8 (8 * n) ++ big8 0) h := by
  rw [sum_eq, taken_rep, taken_nil, taken_one _ _ _ (sizes_length _ _), none_plus _ (sizes_length _ _), sizes_eq, List.length_replicate]; rfl
def repTag (m : Nat) : List UInt8 := plus (tms (big8 (8 * m) ++ big8 0) (enc (allW noughts) 9 none16)) (enc (allW noughts) 9 (nb none12 1))
theorem tag_rep (m : Nat) : tag (allW noughts) 9 none12 (List.replicate m 0) [] = repTag m := by rw [tag_eq, sum_rep]; rfl
theorem rep_no0 : (repTag 1048576 == noughts) = false := by decide +kernel
theorem rep_no1 : (repTag 1048575 == noughts) = false := by decide +kernel
theorem rep_no2 : (repTag 1048574 == noughts) = false := by decide +kernel
theorem tag_rep_no (m : Nat) (h : m = 1048576 ∨ m = 1048575 ∨ m = 1048574) : (tag (allW noughts) 9 none12 (List.replicate m 0) [] == noughts) = false := by
  rw [tag_rep]
  rcases h with rfl | rfl | rfl
  · exact rep_no0
  · exact rep_no1
  · exact rep_no2
end Go.Proofs.YtbainiblffcjgaaDoor.Gcm
