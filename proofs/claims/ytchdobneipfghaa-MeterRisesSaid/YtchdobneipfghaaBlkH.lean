/- More on blocks known whole: a slice literal of one element of several cells; a row made by it. No program is named here. -/
import Derived.Test.YtchdobneipfghaaBlkD
namespace Go.Proofs.Ytchdobneipfghaa.Kit
set_option linter.unusedVariables false
set_option linter.unusedSimpArgs false
open Go Go.RowKit
theorem fold_from0 : ∀ (cs : List Value) (i : Nat) (zl : Array Value), zl.size = i + cs.length →
    ((cs.zipIdx i).foldl (fun c x => c.setIfInBounds x.snd x.fst) zl).toList = zl.toList.take i ++ cs := by
  intro cs
  induction cs with
  | nil =>
    intro i zl h
    simp only [List.length_nil, Nat.add_zero] at h
    simp only [List.zipIdx_nil, List.foldl_nil, List.append_nil]
    rw [List.take_of_length_le (by rw [Array.length_toList]; omega)]
  | cons u cs ih =>
    intro i zl h
    simp only [List.length_cons] at h
    rw [List.zipIdx_cons, List.foldl_cons, ih (i + 1) _ (by simp; omega)]
    simp only [Array.toList_setIfInBounds]
    rw [List.take_succ_eq_append_getElem (by simp; omega), List.take_set_of_le (Nat.le_refl _)]
    simp
/-- What a slice literal of one array, or struct, leaves in the world. -/
theorem fold_all (cs : List Value) (zl : Array Value) (h : zl.size = cs.length) : cs.zipIdx.foldl (fun c x => c.setIfInBounds x.snd x.fst) zl = cs.toArray := by
  apply Array.toList_inj.1
  have := fold_from0 cs 0 zl (by omega)
  rw [this]; simp
theorem ownK_new (w : World) (k n : Nat) (e : TypeId) (xs : List Value) (hx : xs.length = n * k) (hm : n ≤ maxLen) : OwnK k e (w.alloc (.cells xs.toArray e)) (some ⟨w.heap.size, 0, none⟩) n n xs :=
  ⟨hx, .inr ⟨w.heap.size, n, xs.toArray, rfl, Nat.zero_le _, heap_alloc_new w _, Nat.le_refl _, hm, by simpa using hx, by simp [← hx]⟩⟩
theorem info_parts3 {P : Program} {t : TypeId} {z : Value} {s b : Nat} (h : (P.info? t).map (fun i => (i.zero, i.size, i.bytes)) = some (some z, s, b)) : ∃ i, P.info? t = some i ∧ i.zero = some z ∧ i.size = s ∧ i.bytes = b := by
  cases hq : P.info? t with
  | none => rw [hq] at h; cases h
  | some i =>
    rw [hq] at h
    simp only [Option.map_some, Option.some.injEq, Prod.mk.injEq] at h
    exact ⟨i, rfl, h.1, h.2.1, h.2.2⟩
end Go.Proofs.Ytchdobneipfghaa.Kit
