/- More on sectors whose power can go, on lists: all writes kept; what a sector is behind them. No program is named here. -/
import Derived.Test.YtchdobneipfghaaDiskS
import Derived.Laws.Bits64b
namespace Go.Proofs.Ytchdobneipfghaa.Disk
set_option linter.unusedVariables false
set_option linter.unusedSimpArgs false
open Go

/-- All writes, kept. -/
def allw : List (Nat × List UInt8) → List (List UInt8) → List (List UInt8)
  | [], s => s
  | x :: xs, s => allw xs (s.set x.1 x.2)
theorem allw_length : ∀ (xs : List (Nat × List UInt8)) (s : List (List UInt8)), (allw xs s).length = s.length
  | [], _ => rfl
  | x :: xs, s => by rw [allw, allw_length xs, List.length_set]
theorem allw_snoc (y : Nat × List UInt8) : ∀ (xs : List (Nat × List UInt8)) (s : List (List UInt8)), allw (xs ++ [y]) s = (allw xs s).set y.1 y.2
  | [], _ => rfl
  | x :: xs, s => by rw [List.cons_append, allw, allw, allw_snoc y xs]
theorem allw_far (p : Nat) : ∀ (xs : List (Nat × List UInt8)) (s : List (List UInt8)), (∀ x ∈ xs, x.1 ≠ p) → (allw xs s)[p]? = s[p]?
  | [], _, _ => rfl
  | x :: xs, s, h => by rw [allw, allw_far p xs _ (fun y hy => h y (List.mem_cons_of_mem _ hy)), List.getElem?_set_ne (h x (by simp))]
theorem kept_all (i : Nat) : kept 18446744073709551615 i = true := by
  unfold kept
  have h : i % 64 < 64 := Nat.mod_lt _ (by decide)
  generalize i % 64 = j at h
  have : ∀ j : Fin 64, decide (18446744073709551615 / 2 ^ j.1 % 2 = 1) = true := by decide
  exact this ⟨j, h⟩
theorem over_all : ∀ (xs : List (Nat × List UInt8)) (i : Nat) (s : List (List UInt8)), over 18446744073709551615 i xs s = allw xs s
  | [], _, _ => rfl
  | x :: xs, i, s => by rw [over, kept_all, allw, over_all xs]; rfl
theorem allw_forge (i : Nat) (v : List UInt8) : ∀ (xs : List (Nat × List UInt8)) (s : List (List UInt8)), allw (xs.filter fun x => decide (x.1 ≠ i)) (s.set i v) = (allw xs s).set i v
  | [], _ => rfl
  | x :: xs, s => by
    by_cases h : x.1 = i
    · rw [List.filter_cons_of_neg (by simp [h]), allw, ← allw_forge i v xs, h, List.set_set]
    · rw [List.filter_cons_of_pos (by simp [h]), allw, allw, ← allw_forge i v xs, List.set_comm _ _ (fun e => h e.symm)]
/-- The sectors that were written, taken from those that are safe. -/
def back (safe : List (List UInt8)) : List (Nat × List UInt8) → List (List UInt8) → List (List UInt8)
  | [], now => now
  | x :: xs, now => back safe xs (now.set x.1 (safe.getD x.1 []))
theorem back_length (safe : List (List UInt8)) : ∀ (xs : List (Nat × List UInt8)) (now : List (List UInt8)), (back safe xs now).length = now.length
  | [], _ => rfl
  | x :: xs, now => by rw [back, back_length safe xs, List.length_set]
theorem back_snoc (safe : List (List UInt8)) (y : Nat × List UInt8) : ∀ (xs : List (Nat × List UInt8)) (now : List (List UInt8)), back safe (xs ++ [y]) now = (back safe xs now).set y.1 (safe.getD y.1 [])
  | [], _ => rfl
  | x :: xs, now => by rw [List.cons_append, back, back, back_snoc safe y xs]
theorem back_next (safe : List (List UInt8)) (xs : List (Nat × List UInt8)) (now : List (List UInt8)) (k : Nat) (x : Nat × List UInt8) (hx : xs[k]? = some x) : back safe (xs.take (k + 1)) now = (back safe (xs.take k) now).set x.1 (safe.getD x.1 []) := by
  rw [List.take_add_one, hx]
  simp only [Option.toList_some]
  rw [back_snoc]
theorem back_far (safe : List (List UInt8)) (p : Nat) : ∀ (xs : List (Nat × List UInt8)) (now : List (List UInt8)), (∀ x ∈ xs, x.1 ≠ p) → (back safe xs now)[p]? = now[p]?
  | [], _, _ => rfl
  | x :: xs, now, h => by rw [back, back_far safe p xs _ (fun y hy => h y (List.mem_cons_of_mem _ hy)), List.getElem?_set_ne (h x (by simp))]
theorem back_there (safe : List (List UInt8)) (p : Nat) : ∀ (xs : List (Nat × List UInt8)) (now : List (List UInt8)), now.length = safe.length → (∃ x ∈ xs, x.1 = p) ∨ now[p]? = safe[p]? → (back safe xs now)[p]? = safe[p]?
  | [], _, _, h => by
    rcases h with ⟨x, hx, _⟩ | h
    · cases hx
    · exact h
  | x :: xs, now, hl, h => by
    rw [back]
    refine back_there safe p xs _ (by rw [List.length_set, hl]) ?_
    by_cases he : x.1 = p
    · right
      rw [List.getElem?_set, if_pos he, he]
      by_cases hp : p < now.length
      · rw [if_pos hp, List.getD_eq_getElem?_getD, List.getElem?_eq_getElem (by omega)]; rfl
      · rw [if_neg hp, List.getElem?_eq_none (by omega)]
    · rcases h with ⟨y, hy, e⟩ | h
      · rcases List.mem_cons.1 hy with rfl | hy
        · exact absurd e he
        · exact .inl ⟨y, hy, e⟩
      · right; rw [List.getElem?_set_ne he]; exact h
/-- Behind it all sectors are as they are safe. -/
theorem back_all (keep : Nat) (xs : List (Nat × List UInt8)) (s : List (List UInt8)) : back (over keep 0 xs s) xs (allw xs s) = over keep 0 xs s := by
  apply List.ext_getElem?
  intro p
  refine back_there _ p xs _ (by rw [allw_length, over_length]) ?_
  by_cases h : ∃ x ∈ xs, x.1 = p
  · exact .inl h
  · right
    have h2 : ∀ x ∈ xs, x.1 ≠ p := fun x hx e => h ⟨x, hx, e⟩
    rw [allw_far p xs s h2, over_far keep p xs 0 s h2]
theorem over_next (keep : Nat) (xs : List (Nat × List UInt8)) (s : List (List UInt8)) (k : Nat) (x : Nat × List UInt8) (hx : xs[k]? = some x) : over keep 0 (xs.take (k + 1)) s = if kept keep k then (over keep 0 (xs.take k) s).set x.1 x.2 else over keep 0 (xs.take k) s := by
  have hk := (List.getElem?_eq_some_iff.1 hx).1
  rw [List.take_add_one, hx]
  simp only [Option.toList_some]
  rw [over_snoc, Nat.zero_add, List.length_take, Nat.min_eq_left (by omega)]
/-- The bit that is asked. -/
theorem kept_bit (keep i m : Nat) (hm : m = i % 64) (hk : keep < 18446744073709551616) : ∃ z : Nat, bits .and .u64 (keep : Int) ((2 ^ m : Nat) : Int) = (z : Int) ∧ (z = 0 ↔ kept keep i = false) := by
  have h64 : m < 64 := by rw [hm]; exact Nat.mod_lt _ (by decide)
  have hp : 2 ^ m < 18446744073709551616 := Nat.pow_lt_pow_right (by decide : 1 < 2) h64
  refine ⟨_, bits_and_u64_nat keep (2 ^ m) hk hp, ?_⟩
  rw [kept, ← hm, ← Nat.testBit_eq_decide_div_mod_eq]
  constructor
  · intro h
    have h1 := congrArg (fun a => a.testBit m) h
    simp only [Nat.testBit_and, Nat.zero_testBit, Nat.testBit_two_pow_self, Bool.and_true] at h1
    exact h1
  · intro h
    apply Nat.eq_of_testBit_eq
    intro j
    rw [Nat.testBit_and, Nat.testBit_two_pow, Nat.zero_testBit]
    by_cases hj : m = j
    · subst hj; rw [h]; rfl
    · simp [hj]
end Go.Proofs.Ytchdobneipfghaa.Disk
