/- Blocks of 16 bytes under a key's words, on lists of bytes: sealing, the way back, the words of a key. No program is named here. -/
import Derived.Test.YtefpdnfogdioeaaFieldS
namespace Go.Proofs.Ytefpdnfogdioeaa.Aes
set_option linter.unusedVariables false
set_option linter.unusedSimpArgs false
open _root_.Go.Proofs.Ytefpdnfogdioeaa.Field

/-- The byte at a place, or nought; sixteen bytes by their places. -/
def gb (b : List UInt8) (i : Nat) : UInt8 := b.getD i 0
def tb (f : Nat → UInt8) : List UInt8 := (List.range 16).map f
theorem tb_length (f : Nat → UInt8) : (tb f).length = 16 := by simp [tb]
theorem gb_tb (f : Nat → UInt8) (i : Nat) (h : i < 16) : gb (tb f) i = f i := by
  rw [gb, tb, List.getD, List.getElem?_map, List.getElem?_range h]; rfl
theorem tb_gb (b : List UInt8) (h : b.length = 16) : tb (gb b) = b := by
  apply List.ext_getElem (by rw [tb_length, h])
  intro i h1 h2
  have := gb_tb (gb b) i (by rw [tb_length] at h1; exact h1)
  rw [gb, List.getD, List.getElem?_eq_getElem h1, gb, List.getD, List.getElem?_eq_getElem h2] at this
  simpa using this
theorem tb_ext {f g : Nat → UInt8} (h : ∀ i, i < 16 → f i = g i) : tb f = tb g := by
  apply List.map_congr_left
  intro i hi
  exact h i (List.mem_range.1 hi)
theorem tb_eq {f : Nat → UInt8} {b : List UInt8} (hb : b.length = 16) (h : ∀ i, i < 16 → f i = gb b i) : tb f = b := by
  rw [← tb_gb b hb]; exact tb_ext h

/-- The steps of a round, and their ways back. -/
def sub (b : List UInt8) : List UInt8 := tb fun i => box (gb b i)
def unsub (b : List UInt8) : List UInt8 := tb fun i => back (gb b i)
def rows (b : List UInt8) : List UInt8 := tb fun i => gb b (4 * ((i / 4 + i % 4) % 4) + i % 4)
def unrows (b : List UInt8) : List UInt8 := tb fun i => gb b (4 * ((i / 4 + 4 - i % 4) % 4) + i % 4)
/-- The factor of byte j of a column in byte k, and on the way back. -/
def fac (j k : Nat) : UInt8 := ([2, 3, 1, 1] : List UInt8).getD ((j + 4 - k) % 4) 0
def unfac (j k : Nat) : UInt8 := ([14, 11, 13, 9] : List UInt8).getD ((j + 4 - k) % 4) 0
def col (f : Nat → Nat → UInt8) (b : List UInt8) (c k : Nat) : UInt8 :=
  tm (gb b (4 * c)) (f 0 k) ^^^ tm (gb b (4 * c + 1)) (f 1 k) ^^^ tm (gb b (4 * c + 2)) (f 2 k) ^^^ tm (gb b (4 * c + 3)) (f 3 k)
def mix (b : List UInt8) : List UInt8 := tb fun i => col fac b (i / 4) (i % 4)
def unmix (b : List UInt8) : List UInt8 := tb fun i => col unfac b (i / 4) (i % 4)
def add (w b : List UInt8) : List UInt8 := tb fun i => gb b i ^^^ gb w i

theorem unsub_sub (b : List UInt8) (h : b.length = 16) : unsub (sub b) = b := tb_eq h fun i hi => by rw [sub, gb_tb _ i hi, back_box]
theorem sub_unsub (b : List UInt8) (h : b.length = 16) : sub (unsub b) = b := tb_eq h fun i hi => by rw [unsub, gb_tb _ i hi, box_back]
theorem unrows_rows (b : List UInt8) (h : b.length = 16) : unrows (rows b) = b := tb_eq h fun i hi => by
  rw [rows, gb_tb _ _ (by omega)]
  congr 1
  omega
theorem rows_unrows (b : List UInt8) (h : b.length = 16) : rows (unrows b) = b := tb_eq h fun i hi => by
  rw [unrows, gb_tb _ _ (by omega)]
  congr 1
  omega
theorem add_add (w b : List UInt8) (h : b.length = 16) : add w (add w b) = b := tb_eq h fun i hi => by
  rw [add, gb_tb _ i hi, UInt8.xor_assoc, UInt8.xor_self, UInt8.xor_zero]

theorem xor_tm (a b c : UInt8) : tm (a ^^^ b) c = tm a c ^^^ tm b c := by rw [tm_comm, tm_xor, tm_comm c, tm_comm c]
theorem xor4 (a b c d e f g h i j k l m n o p : UInt8) : (a ^^^ b ^^^ c ^^^ d) ^^^ (e ^^^ f ^^^ g ^^^ h) ^^^ (i ^^^ j ^^^ k ^^^ l) ^^^ (m ^^^ n ^^^ o ^^^ p) = (a ^^^ e ^^^ i ^^^ m) ^^^ (b ^^^ f ^^^ j ^^^ n) ^^^ (c ^^^ g ^^^ k ^^^ o) ^^^ (d ^^^ h ^^^ l ^^^ p) := by
  ac_rfl
theorem tm4 (x a b c d : UInt8) : tm x a ^^^ tm x b ^^^ tm x c ^^^ tm x d = tm x (a ^^^ b ^^^ c ^^^ d) := by rw [tm_xor, tm_xor, tm_xor]
/-- Two such steps, one behind the other, of a column. -/
theorem col_col (f g : Nat → Nat → UInt8) (b : List UInt8) (c k : Nat) (hc : c < 4) :
    col g (tb fun i => col f b (i / 4) (i % 4)) c k =
      tm (gb b (4 * c)) (tm (f 0 0) (g 0 k) ^^^ tm (f 0 1) (g 1 k) ^^^ tm (f 0 2) (g 2 k) ^^^ tm (f 0 3) (g 3 k)) ^^^
      tm (gb b (4 * c + 1)) (tm (f 1 0) (g 0 k) ^^^ tm (f 1 1) (g 1 k) ^^^ tm (f 1 2) (g 2 k) ^^^ tm (f 1 3) (g 3 k)) ^^^
      tm (gb b (4 * c + 2)) (tm (f 2 0) (g 0 k) ^^^ tm (f 2 1) (g 1 k) ^^^ tm (f 2 2) (g 2 k) ^^^ tm (f 2 3) (g 3 k)) ^^^
      tm (gb b (4 * c + 3)) (tm (f 3 0) (g 0 k) ^^^ tm (f 3 1) (g 1 k) ^^^ tm (f 3 2) (g 2 k) ^^^ tm (f 3 3) (g 3 k)) := by
  have e0 : (4 * c) / 4 = c := by omega
  have e1 : (4 * c + 1) / 4 = c := by omega
  have e2 : (4 * c + 2) / 4 = c := by omega
  have e3 : (4 * c + 3) / 4 = c := by omega
  have m0 : (4 * c) % 4 = 0 := by omega
  have m1 : (4 * c + 1) % 4 = 1 := by omega
  have m2 : (4 * c + 2) % 4 = 2 := by omega
  have m3 : (4 * c + 3) % 4 = 3 := by omega
  rw [col, gb_tb _ _ (by omega), gb_tb _ _ (by omega), gb_tb _ _ (by omega), gb_tb _ _ (by omega), e0, e1, e2, e3, m0, m1, m2, m3]
  simp only [col, xor_tm, tm_assoc]
  rw [xor4, tm4, tm4, tm4, tm4]
theorem fac_back : (List.range 4).all (fun k => (List.range 4).all fun j =>
    (tm (fac j 0) (unfac 0 k) ^^^ tm (fac j 1) (unfac 1 k) ^^^ tm (fac j 2) (unfac 2 k) ^^^ tm (fac j 3) (unfac 3 k) == if j = k then 1 else 0) &&
    (tm (unfac j 0) (fac 0 k) ^^^ tm (unfac j 1) (fac 1 k) ^^^ tm (unfac j 2) (fac 2 k) ^^^ tm (unfac j 3) (fac 3 k) == if j = k then 1 else 0)) = true := by decide +kernel
theorem fac_unfac (j k : Nat) (hj : j < 4) (hk : k < 4) : tm (fac j 0) (unfac 0 k) ^^^ tm (fac j 1) (unfac 1 k) ^^^ tm (fac j 2) (unfac 2 k) ^^^ tm (fac j 3) (unfac 3 k) = if j = k then 1 else 0 := by
  have := List.all_eq_true.1 (List.all_eq_true.1 fac_back k (List.mem_range.2 hk)) j (List.mem_range.2 hj)
  rw [Bool.and_eq_true, beq_iff_eq] at this
  exact this.1
theorem unfac_fac (j k : Nat) (hj : j < 4) (hk : k < 4) : tm (unfac j 0) (fac 0 k) ^^^ tm (unfac j 1) (fac 1 k) ^^^ tm (unfac j 2) (fac 2 k) ^^^ tm (unfac j 3) (fac 3 k) = if j = k then 1 else 0 := by
  have := List.all_eq_true.1 (List.all_eq_true.1 fac_back k (List.mem_range.2 hk)) j (List.mem_range.2 hj)
  rw [Bool.and_eq_true, beq_iff_eq, beq_iff_eq] at this
  exact this.2
theorem one_of_four (b : List UInt8) (c k : Nat) (hk : k < 4) :
    tm (gb b (4 * c)) (if 0 = k then 1 else 0) ^^^ tm (gb b (4 * c + 1)) (if 1 = k then 1 else 0) ^^^ tm (gb b (4 * c + 2)) (if 2 = k then 1 else 0) ^^^ tm (gb b (4 * c + 3)) (if 3 = k then 1 else 0) = gb b (4 * c + k) := by
  have : k = 0 ∨ k = 1 ∨ k = 2 ∨ k = 3 := by omega
  rcases this with rfl | rfl | rfl | rfl <;> simp [tm_one, tm_zero]
theorem unmix_mix (b : List UInt8) (h : b.length = 16) : unmix (mix b) = b := tb_eq h fun i hi => by
  rw [mix, col_col _ _ _ _ _ (by omega), fac_unfac 0 _ (by omega) (by omega), fac_unfac 1 _ (by omega) (by omega), fac_unfac 2 _ (by omega) (by omega), fac_unfac 3 _ (by omega) (by omega), one_of_four _ _ _ (by omega)]
  congr 1
  omega
theorem mix_unmix (b : List UInt8) (h : b.length = 16) : mix (unmix b) = b := tb_eq h fun i hi => by
  rw [unmix, col_col _ _ _ _ _ (by omega), unfac_fac 0 _ (by omega) (by omega), unfac_fac 1 _ (by omega) (by omega), unfac_fac 2 _ (by omega) (by omega), unfac_fac 3 _ (by omega) (by omega), one_of_four _ _ _ (by omega)]
  congr 1
  omega

/-- A round's key out of all words' bytes. -/
def rk (W : List UInt8) (r : Nat) : List UInt8 := tb fun i => gb W (16 * r + i)
/-- Behind r rounds, none of them the last. -/
def going (W b : List UInt8) : Nat → List UInt8
  | 0 => add (rk W 0) b
  | r + 1 => add (rk W (r + 1)) (mix (rows (sub (going W b r))))
/-- WHAT A BLOCK IS SEALED AS, in R + 1 rounds. -/
def enc (W : List UInt8) (R : Nat) (b : List UInt8) : List UInt8 := add (rk W (R + 1)) (rows (sub (going W b R)))
/-- The way back. -/
def coming (W b : List UInt8) : Nat → List UInt8
  | 0 => add (rk W 0) b
  | r + 1 => coming W (unsub (unrows (unmix (add (rk W (r + 1)) b)))) r
def dec (W : List UInt8) (R : Nat) (b : List UInt8) : List UInt8 := coming W (unsub (unrows (add (rk W (R + 1)) b))) R
theorem add_length (w b : List UInt8) : (add w b).length = 16 := tb_length _
theorem mix_length (b : List UInt8) : (mix b).length = 16 := tb_length _
theorem unmix_length (b : List UInt8) : (unmix b).length = 16 := tb_length _
theorem rows_length (b : List UInt8) : (rows b).length = 16 := tb_length _
theorem unrows_length (b : List UInt8) : (unrows b).length = 16 := tb_length _
theorem sub_length (b : List UInt8) : (sub b).length = 16 := tb_length _
theorem unsub_length (b : List UInt8) : (unsub b).length = 16 := tb_length _
theorem rk_length (W : List UInt8) (r : Nat) : (rk W r).length = 16 := tb_length _
theorem going_length (W b : List UInt8) (r : Nat) : (going W b r).length = 16 := by cases r <;> exact add_length _ _
theorem enc_length (W : List UInt8) (R : Nat) (b : List UInt8) : (enc W R b).length = 16 := add_length _ _
theorem coming_length (W : List UInt8) (r : Nat) : ∀ b, (coming W b r).length = 16 := by
  induction r with
  | zero => intro b; exact add_length _ _
  | succ r ih => intro b; exact ih _
theorem dec_length (W : List UInt8) (R : Nat) (b : List UInt8) : (dec W R b).length = 16 := coming_length _ _ _
theorem coming_going (W b : List UInt8) (h : b.length = 16) (r : Nat) : coming W (going W b r) r = b := by
  induction r with
  | zero => exact add_add _ _ h
  | succ r ih => rw [coming, going, add_add _ _ (mix_length _), unmix_mix _ (rows_length _), unrows_rows _ (sub_length _), unsub_sub _ (going_length _ _ _), ih]
theorem going_coming (W : List UInt8) (r : Nat) : ∀ b : List UInt8, b.length = 16 → going W (coming W b r) r = b := by
  induction r with
  | zero => intro b h; exact add_add _ _ h
  | succ r ih =>
    intro b h
    rw [coming, going, ih _ (unsub_length _), sub_unsub _ (unrows_length _), rows_unrows _ (unmix_length _), mix_unmix _ (add_length _ _), add_add _ _ h]
theorem dec_enc (W : List UInt8) (R : Nat) (b : List UInt8) (h : b.length = 16) : dec W R (enc W R b) = b := by
  rw [dec, enc, add_add _ _ (rows_length _), unrows_rows _ (sub_length _), unsub_sub _ (going_length _ _ _), coming_going _ _ h]
theorem enc_dec (W : List UInt8) (R : Nat) (b : List UInt8) (h : b.length = 16) : enc W R (dec W R b) = b := by
  rw [dec, enc, going_coming _ _ _ (unsub_length _), sub_unsub _ (unrows_length _), rows_unrows _ (add_length _ _), add_add _ _ h]
theorem enc_inj (W : List UInt8) (R : Nat) (a b : List UInt8) (ha : a.length = 16) (hb : b.length = 16) : enc W R a = enc W R b ↔ a = b :=
  ⟨fun h => by rw [← dec_enc W R a ha, h, dec_enc W R b hb], fun h => by rw [h]⟩

/-- A power of 02. -/
def rc : Nat → UInt8
  | 0 => 1
  | k + 1 => tm (rc k) 2
/-- The i-th word, out of those ahead of it, four bytes each, one behind the other. -/
def turned (n i : Nat) (t : Nat → UInt8) (k : Nat) : UInt8 :=
  if i % n = 0 then box (t ((k + 1) % 4)) ^^^ (if k = 0 then rc (i / n - 1) else 0)
  else if n = 8 ∧ i % 8 = 4 then box (t k) else t k
def nextB (key : List UInt8) (n : Nat) (W : List UInt8) (i k : Nat) : UInt8 :=
  if i < n then gb key (4 * i + k) else gb W (4 * (i - n) + k) ^^^ turned n i (fun k => gb W (4 * (i - 1) + k)) k
def next (key : List UInt8) (n : Nat) (W : List UInt8) (i : Nat) : List UInt8 := [nextB key n W i 0, nextB key n W i 1, nextB key n W i 2, nextB key n W i 3]
/-- The bytes of the first i words. -/
def words (key : List UInt8) (n : Nat) : Nat → List UInt8
  | 0 => []
  | i + 1 => words key n i ++ next key n (words key n i) i
theorem words_zero (key : List UInt8) (n : Nat) : words key n 0 = [] := rfl
theorem words_succ (key : List UInt8) (n i : Nat) : words key n (i + 1) = words key n i ++ next key n (words key n i) i := rfl
theorem words_length (key : List UInt8) (n i : Nat) : (words key n i).length = 4 * i := by
  induction i with
  | zero => rfl
  | succ i ih => rw [words_succ, List.length_append, ih]; rfl
/-- What stands once stays. -/
theorem words_at (key : List UInt8) (n i d j : Nat) (h : j < 4 * i) : gb (words key n (i + d)) j = gb (words key n i) j := by
  induction d with
  | zero => rfl
  | succ d ih =>
    rw [← Nat.add_assoc, words_succ, gb, List.getD, List.getElem?_append_left (by rw [words_length]; omega)]
    exact ih
/-- ALL WORDS of a key of n. -/
def allW (key : List UInt8) : List UInt8 := words key (key.length / 4) (4 * (key.length / 4 + 7))
theorem allW_length (key : List UInt8) : (allW key).length = 16 * (key.length / 4 + 7) := by rw [allW, words_length]; omega
def noughts : List UInt8 := List.replicate 16 0
theorem told : (enc (allW noughts) 9 noughts).take 4 = [102, 233, 75, 212] := by decide +kernel
theorem rc_zero : rc 0 = 1 := rfl
theorem rc_succ (k : Nat) : rc (k + 1) = tm (rc k) 2 := rfl
theorem sub_eq (b : List UInt8) : sub b = tb fun i => box (gb b i) := rfl
theorem unsub_eq (b : List UInt8) : unsub b = tb fun i => back (gb b i) := rfl
theorem rows_eq (b : List UInt8) : rows b = tb fun i => gb b (4 * ((i / 4 + i % 4) % 4) + i % 4) := rfl
theorem unrows_eq (b : List UInt8) : unrows b = tb fun i => gb b (4 * ((i / 4 + 4 - i % 4) % 4) + i % 4) := rfl
theorem mix_eq (b : List UInt8) : mix b = tb fun i => col fac b (i / 4) (i % 4) := rfl
theorem unmix_eq (b : List UInt8) : unmix b = tb fun i => col unfac b (i / 4) (i % 4) := rfl
theorem add_eq (w b : List UInt8) : add w b = tb fun i => gb b i ^^^ gb w i := rfl
theorem rk_eq (W : List UInt8) (r : Nat) : rk W r = tb fun i => gb W (16 * r + i) := rfl
theorem going_zero (W b : List UInt8) : going W b 0 = add (rk W 0) b := rfl
theorem going_succ (W b : List UInt8) (r : Nat) : going W b (r + 1) = add (rk W (r + 1)) (mix (rows (sub (going W b r)))) := rfl
theorem enc_eq (W : List UInt8) (R : Nat) (b : List UInt8) : enc W R b = add (rk W (R + 1)) (rows (sub (going W b R))) := rfl
theorem coming_zero (W b : List UInt8) : coming W b 0 = add (rk W 0) b := rfl
theorem coming_succ (W b : List UInt8) (r : Nat) : coming W b (r + 1) = coming W (unsub (unrows (unmix (add (rk W (r + 1)) b)))) r := rfl
theorem dec_eq (W : List UInt8) (R : Nat) (b : List UInt8) : dec W R b = coming W (unsub (unrows (add (rk W (R + 1)) b))) R := rfl
theorem allW_eq (key : List UInt8) : allW key = words key (key.length / 4) (4 * (key.length / 4 + 7)) := rfl
attribute [irreducible] rc sub unsub rows unrows mix unmix add rk going coming enc dec words allW
end Go.Proofs.Ytefpdnfogdioeaa.Aes
