/- Rows of elements of k cells each, on lists. No program is named here. -/
import Derived.Test.YtadhhnlolnnkhaaBlk
namespace Go.Proofs.Ytadhhnlolnnkhaa.Kit
set_option linter.unusedVariables false
set_option linter.unusedSimpArgs false
open Go Go.RowKit

section
variable {α : Type} {f : α → List Value} {k : Nat}
theorem fm_length (xs : List α) (h : ∀ a ∈ xs, (f a).length = k) : (xs.flatMap f).length = xs.length * k := by
  induction xs with
  | nil => simp
  | cons x xs ih =>
    rw [List.flatMap_cons, List.length_append, h x (by simp), ih (fun a ha => h a (by simp [ha])), List.length_cons, Nat.add_mul, Nat.one_mul, Nat.add_comm]
theorem fm_at (xs : List α) (h : ∀ a ∈ xs, (f a).length = k) (i j : Nat) (x : α) (hx : xs[i]? = some x) (hj : j < k) : (xs.flatMap f)[i * k + j]? = (f x)[j]? := by
  induction xs generalizing i with
  | nil => cases hx
  | cons a xs ih =>
    have ha : (f a).length = k := h a (by simp)
    rw [List.flatMap_cons]
    cases i with
    | zero =>
      simp only [List.getElem?_cons_zero, Option.some.injEq] at hx
      subst hx
      rw [List.getElem?_append_left (by omega)]; congr 1; omega
    | succ i =>
      rw [List.getElem?_append_right (by rw [ha, Nat.succ_mul]; omega), ha]
      rw [List.getElem?_cons_succ] at hx
      rw [show (i + 1) * k + j - k = i * k + j by rw [Nat.succ_mul]; omega]
      exact ih (fun a ha => h a (by simp [ha])) i hx
theorem fm_part (xs : List α) (h : ∀ a ∈ xs, (f a).length = k) (i : Nat) (x : α) (hx : xs[i]? = some x) (j : Nat) (v : Value) (hv : (f x)[j]? = some v) : (xs.flatMap f)[i * k + j]? = some v := by
  have hj : j < k := by
    have := (List.getElem?_eq_some_iff.1 hv).1
    rwa [h x (List.mem_of_getElem? hx)] at this
  rw [fm_at xs h i j x hx hj]; exact hv
theorem fm_take (xs : List α) (h : ∀ a ∈ xs, (f a).length = k) (i : Nat) : (xs.flatMap f).take (i * k) = (xs.take i).flatMap f := by
  induction xs generalizing i with
  | nil => simp
  | cons a xs ih =>
    have ha : (f a).length = k := h a (by simp)
    cases i with
    | zero => simp
    | succ i =>
      rw [List.flatMap_cons, List.take_succ_cons, List.flatMap_cons, List.take_append, ha, show (i + 1) * k - k = i * k by rw [Nat.succ_mul]; omega, ih (fun a ha => h a (by simp [ha])), List.take_of_length_le (by rw [ha, Nat.succ_mul]; omega)]
theorem fm_drop (xs : List α) (h : ∀ a ∈ xs, (f a).length = k) (i : Nat) : (xs.flatMap f).drop (i * k) = (xs.drop i).flatMap f := by
  induction xs generalizing i with
  | nil => simp
  | cons a xs ih =>
    have ha : (f a).length = k := h a (by simp)
    cases i with
    | zero => simp
    | succ i =>
      rw [List.flatMap_cons, List.drop_succ_cons, List.drop_append, ha, show (i + 1) * k - k = i * k by rw [Nat.succ_mul]; omega, ih (fun a ha => h a (by simp [ha])), List.drop_of_length_le (by rw [ha, Nat.succ_mul]; omega), List.nil_append]
theorem fm_set (xs : List α) (h : ∀ a ∈ xs, (f a).length = k) (i : Nat) (y : α) (hi : i < xs.length) (hy : (f y).length = k) : splice (xs.flatMap f) (i * k) (f y) = (xs.set i y).flatMap f := by
  rw [splice, fm_take xs h, hy, show i * k + k = (i + 1) * k by rw [Nat.succ_mul], fm_drop xs h, List.set_eq_take_append_cons_drop, if_pos hi, List.flatMap_append, List.flatMap_cons]
theorem splice_left (A B cs : List Value) (o : Nat) (h : o + cs.length ≤ A.length) : splice (A ++ B) o cs = splice A o cs ++ B := by
  rw [splice, splice, List.take_append_of_le_length (by omega), List.drop_append_of_le_length h, List.append_assoc, List.append_assoc]
theorem splice_length (A cs : List Value) (o : Nat) (h : o + cs.length ≤ A.length) : (splice A o cs).length = A.length := by
  rw [splice, List.length_append, List.length_append, List.length_take, List.length_drop]; omega
end
/-- Bytes, 256 by 256. -/
theorem flat_eq (ls : List (List UInt8)) : bvs ls.flatten = ls.flatMap bvs := by
  induction ls with
  | nil => rfl
  | cons l ls ih => rw [List.flatten_cons, bvs_append, ih, List.flatMap_cons]
end Go.Proofs.Ytadhhnlolnnkhaa.Kit
