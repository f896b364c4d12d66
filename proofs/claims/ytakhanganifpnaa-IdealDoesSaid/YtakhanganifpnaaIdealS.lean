/- Things that were made, each of a kind and of what it was made of: their numbers, their bytes. No program is named here. -/
import Derived.Test.YtakhanganifpnaaKit
namespace Go.Proofs.Ytakhanganifpnaa.Ideal
set_option linter.unusedVariables false
set_option linter.unusedSimpArgs false
open Kit (le le_length)

structure Thing where
  kind : UInt8
  a : List UInt8
  b : List UInt8
  c : List UInt8
  d : List UInt8
  deriving DecidableEq

/-- The number of the last among the first i that is the thing; 0: none is. -/
def numT (w : List Thing) (t : Thing) : Nat → Nat
  | 0 => 0
  | i + 1 => if w[i]? = some t then i + 1 else numT w t i
/-- A thing's number; 0: it wasn't made. -/
def num (w : List Thing) (t : Thing) : Nat := numT w t w.length
theorem numT_zero (w : List Thing) (t : Thing) : numT w t 0 = 0 := rfl
theorem numT_succ (w : List Thing) (t : Thing) (i : Nat) : numT w t (i + 1) = if w[i]? = some t then i + 1 else numT w t i := rfl
theorem numT_le (w : List Thing) (t : Thing) (i : Nat) : numT w t i ≤ i := by
  induction i with
  | zero => exact Nat.le_refl _
  | succ i ih => rw [numT_succ]; split <;> omega
theorem numT_at (w : List Thing) (t : Thing) (i : Nat) (h : numT w t i ≠ 0) : w[numT w t i - 1]? = some t := by
  induction i with
  | zero => exact absurd rfl h
  | succ i ih =>
    rw [numT_succ] at h ⊢
    by_cases h1 : w[i]? = some t
    · rw [if_pos h1, Nat.add_sub_cancel]; exact h1
    · rw [if_neg h1] at h ⊢; exact ih h
theorem numT_ge (w : List Thing) (t : Thing) (i j : Nat) (hj : j < i) (h : w[j]? = some t) : j + 1 ≤ numT w t i := by
  induction i with
  | zero => omega
  | succ i ih =>
    rw [numT_succ]
    split
    · omega
    · rename_i h1
      have : j ≠ i := fun e => h1 (by rw [← e]; exact h)
      exact ih (by omega)
theorem num_le (w : List Thing) (t : Thing) : num w t ≤ w.length := numT_le _ _ _
theorem num_at (w : List Thing) (t : Thing) (h : num w t ≠ 0) : w[num w t - 1]? = some t := numT_at _ _ _ h
theorem num_none (w : List Thing) (t : Thing) : num w t = 0 ↔ t ∉ w := by
  constructor
  · intro h hm
    obtain ⟨j, hj, e⟩ := List.mem_iff_getElem.1 hm
    have := numT_ge w t w.length j hj (by rw [List.getElem?_eq_getElem hj, e])
    unfold num at h; omega
  · intro h
    apply Decidable.byContradiction
    intro h1
    exact h (List.mem_of_getElem? (num_at w t h1))
theorem num_inj (w : List Thing) {t u : Thing} (h : num w t = num w u) (ht : t ∈ w) : t = u := by
  have h1 : num w t ≠ 0 := fun e => (num_none w t).1 e ht
  have h2 := num_at w t h1
  have h3 := num_at w u (by rw [← h]; exact h1)
  rw [← h, h2] at h3
  exact Option.some.inj h3
/-- A thing is made: again, or anew. -/
def mk (w : List Thing) (t : Thing) : List Thing := if num w t = 0 then w ++ [t] else w
theorem mk_new (w : List Thing) (t : Thing) (h : t ∉ w) : mk w t = w ++ [t] := if_pos ((num_none w t).2 h)
theorem mk_old (w : List Thing) (t : Thing) (h : t ∈ w) : mk w t = w := if_neg (fun e => (num_none w t).1 e h)
theorem mk_mem (w : List Thing) (t : Thing) : t ∈ mk w t := by
  by_cases h : t ∈ w
  · rw [mk_old w t h]; exact h
  · rw [mk_new w t h]; simp
theorem mk_sub (w : List Thing) (t : Thing) {u : Thing} (h : u ∈ w) : u ∈ mk w t := by
  unfold mk; split
  · exact List.mem_append_left _ h
  · exact h
theorem mem_mk (w : List Thing) (t u : Thing) : u ∈ mk w t ↔ u = t ∨ u ∈ w := by
  constructor
  · intro h
    by_cases ht : t ∈ w
    · rw [mk_old w t ht] at h; exact .inr h
    · rw [mk_new w t ht] at h
      rcases List.mem_append.1 h with h | h
      · exact .inr h
      · exact .inl (List.mem_singleton.1 h)
  · rintro (rfl | h)
    · exact mk_mem _ _
    · exact mk_sub _ _ h
theorem mk_nodup (w : List Thing) (t : Thing) (h : w.Nodup) : (mk w t).Nodup := by
  by_cases ht : t ∈ w
  · rw [mk_old w t ht]; exact h
  · rw [mk_new w t ht, List.nodup_append]
    exact ⟨h, by simp, fun a ha b hb e => ht (by rw [← List.mem_singleton.1 hb, ← e]; exact ha)⟩
theorem mk_length_le (w : List Thing) (t : Thing) : (mk w t).length ≤ w.length + 1 := by
  unfold mk; split
  · simp
  · omega
/-- What was made has its place: a number stays. -/
theorem numT_append (w v : List Thing) (t : Thing) (i : Nat) (h : i ≤ w.length) : numT (w ++ v) t i = numT w t i := by
  induction i with
  | zero => rfl
  | succ i ih => rw [numT_succ, numT_succ, List.getElem?_append_left (by omega), ih (by omega)]
theorem num_new (w : List Thing) (t : Thing) (h : t ∉ w) : num (mk w t) t = w.length + 1 := by
  rw [mk_new w t h, num, List.length_append]
  show numT (w ++ [t]) t (w.length + 1) = _
  rw [numT_succ, if_pos (by simp)]
theorem num_stays (w : List Thing) (t u : Thing) (h : u ∈ w) : num (mk w t) u = num w u := by
  by_cases ht : t ∈ w
  · rw [mk_old w t ht]
  · have hne : u ≠ t := fun e => ht (e ▸ h)
    rw [mk_new w t ht, num, List.length_append]
    show numT (w ++ [t]) u (w.length + 1) = _
    rw [numT_succ, if_neg (by simp; exact fun e => hne e.symm), numT_append w [t] u w.length (Nat.le_refl _), num]
theorem num_pos (w : List Thing) (t : Thing) : num (mk w t) t ≠ 0 := fun e => (num_none _ _).1 e (mk_mem w t)

/-- A thing's bytes: its number, its kind, and EE over and over. -/
def tok (k : UInt8) (number n : Nat) : List UInt8 := le 8 number ++ [k] ++ List.replicate (n - 9) 0xee
theorem tok_length (k : UInt8) (number n : Nat) (h : 9 ≤ n) : (tok k number n).length = n := by
  simp only [tok, List.length_append, le_length, List.length_replicate, List.length_singleton]; omega
theorem tok_inj {k k' : UInt8} {x y n m : Nat} (hx : x < 256 ^ 8) (hy : y < 256 ^ 8) (h : tok k x n = tok k' y m) : k = k' ∧ x = y := by
  simp only [tok, List.append_assoc] at h
  obtain ⟨h1, h2⟩ := List.append_inj h (by rw [le_length, le_length])
  refine ⟨by simpa using (List.cons.inj h2).1, ?_⟩
  have := congrArg Kit.lowN h1
  rw [Kit.lowN_le, Kit.lowN_le, Nat.mod_eq_of_lt hx, Nat.mod_eq_of_lt hy] at this
  exact this
theorem tok_inj' {k k' : UInt8} {x y n m : Nat} (hx : x < 256 ^ 8) (hy : y < 256 ^ 8) (hn : 9 ≤ n) (hm : 9 ≤ m) : tok k x n = tok k' y m ↔ k = k' ∧ x = y ∧ n = m := by
  constructor
  · intro h
    have hl := congrArg List.length h
    rw [tok_length _ _ _ hn, tok_length _ _ _ hm] at hl
    exact ⟨(tok_inj hx hy h).1, (tok_inj hx hy h).2, hl⟩
  · rintro ⟨rfl, rfl, rfl⟩; rfl
/-- The bytes that a world answers for a thing, made now. -/
def out (w : List Thing) (t : Thing) (n : Nat) : List UInt8 := tok t.kind (num (mk w t) t) n
theorem out_new (w : List Thing) (t : Thing) (n : Nat) (h : t ∉ w) : out w t n = tok t.kind (w.length + 1) n := by rw [out, num_new w t h]
/-- Two things of one world have two byte rows. -/
theorem out_inj (w : List Thing) (t u : Thing) (n m : Nat) (hw : w.length < 1000000) (h : out w t n = out (mk w t) u m) : t = u := by
  have e1 : num (mk w t) t = num (mk (mk w t) u) t := (num_stays _ u t (mk_mem w t)).symm
  have l1 := num_le (mk w t) t; have l2 := num_le (mk (mk w t) u) u
  have l3 := mk_length_le w t; have l4 := mk_length_le (mk w t) u
  have h1 := (tok_inj (by omega) (by omega) h).2
  rw [e1] at h1
  exact num_inj _ h1 (mk_sub _ _ (mk_mem w t))
end Go.Proofs.Ytakhanganifpnaa.Ideal
