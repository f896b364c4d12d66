/- Arguments that are slices of elements of any cells, opened, element by element; an array of bytes among an element's cells. No program is named here. -/
import Derived.Test.YtchdobneipfghaaZScr
import Derived.Test.YtchdobneipfghaaZArr
import Derived.OpenShut
namespace Go.Proofs.Ytchdobneipfghaa.Kit
set_option linter.unusedVariables false
set_option linter.unusedSimpArgs false
open Go Go.RowKit

section
variable {H : Type} {enc : TypeId × Value → H} {P : Program} {W : World} {base : Nat} {held : Bool} {fuel : Nat}
theorem range_getD (l : List Value) (k : Nat) (h : l.length = k) : (List.range k).map (fun j => l.getD j undef) = l := by
  subst h
  apply List.ext_getElem
  · simp
  · intro i h1 h2
    rw [List.getElem_map, List.getElem_range, List.getD_eq_getElem?_getD, List.getElem?_eq_getElem h2]; rfl
/-- A SLICE OF ELEMENTS, each of which is opened by whoever asks. -/
theorem open_each {α : Type} [Inhabited α] {t e : TypeId} {A : Option Addr} {len cap : Nat} {x : DataW H × List MemPlace} (f : α → List Value) (k : Nat) (hk : 0 < k) (R : α → Prop) (ht : P.underlying t = some (.slice e)) (hC : P.cellsOf e = k)
    (hE : ∀ m cs y, cs.length = k → DataW.trod enc P W base (fun _ => true) held m e cs = some y → (∀ n ∈ y.1.weights P e, n ∈ x.1.weights P t) → ∃ a, cs = f a ∧ R a)
    (h : DataW.trod enc P W base (fun _ => true) held fuel t [.slice A len cap] = some x) :
    ∃ as : List α, as.length = len ∧ Row W A (as.flatMap f) ∧ len ≤ cap ∧ cap ≤ maxLen ∧ (A = none → cap = 0) ∧ ∀ a ∈ as, (f a).length = k ∧ R a := by
  rcases Deep.open_slice ht h with ⟨hcs, _⟩ | ⟨a, l, c, m, n, D, Pl, hcs, hb, hl, hc, hm, hx, hi⟩
  · simp only [List.cons.injEq, Value.slice.injEq, and_true] at hcs
    obtain ⟨rfl, rfl, rfl⟩ := hcs
    exact ⟨[], rfl, Row.nil _ _, Nat.le_refl _, by simp [maxLen], (fun _ => rfl), fun s hs => by cases hs⟩
  · simp only [List.cons.injEq, Value.slice.injEq, and_true] at hcs
    obtain ⟨rfl, rfl, rfl⟩ := hcs
    simp only [if_true] at hm
    subst hm
    have each : ∀ i, i < len → ∃ q : α, (∀ j, j < k → W.cell? (a.add (i * k + j)) = some ((f q).getD j undef)) ∧ (f q).length = k ∧ R q := by
      intro i hlt
      obtain ⟨cs', hcells, htr⟩ := hi i (by omega)
      obtain ⟨_, hlen, hcell⟩ := World.cells?_some hcells
      rw [hC] at hlen hcell
      obtain ⟨q, rfl, hR⟩ := hE n cs' _ hlen htr (fun n hn => by
        rw [hx]
        exact weights_slice ht (List.mem_map.2 ⟨i, List.mem_range.2 hlt, rfl⟩) n hn)
      refine ⟨q, fun j hj => ?_, hlen, hR⟩
      have := hcell j (by omega)
      rw [Deep.add_add] at this
      rw [this]; show (f q)[j]? = _; rw [List.getD_eq_getElem?_getD, List.getElem?_eq_getElem (by omega)]; rfl
    obtain ⟨C, hC2⟩ := Deep.choose_lt each
    refine ⟨(List.range len).map C, by simp, ?_, hl, hc, (fun e => by cases e), fun q hq => ?_⟩
    · have := row_of_cells (W := W) (A := a) (len := len) (k := k) (V := fun i j => (f (C i)).getD j undef) hk (fun i hlt j hj => (hC2 i hlt).1 j hj)
      have e : ((List.range len).flatMap fun i => (List.range k).map (fun j => (f (C i)).getD j undef)) = ((List.range len).map C).flatMap f := by
        rw [List.flatMap_map]
        exact Deep.flatMap_congr_range fun i hi => range_getD _ k (hC2 i hi).2.1
      rwa [e] at this
    · obtain ⟨i, hi, rfl⟩ := List.mem_map.1 hq
      exact (hC2 i (List.mem_range.1 hi)).2
/-- Cells that are an array of bytes. -/
theorem cells_barr {m : Nat} {t e : TypeId} {n : Nat} {cs : List Value} {y : DataW H × List MemPlace} (ht : P.underlying t = some (.array n e)) (he : P.underlying e = some (.int .u8)) (hc : P.cellsOf e = 1) (hC : P.cellsOf t = n)
    (h : DataW.trod enc P W base (fun _ => true) held m t cs = some y) : ∃ l : List UInt8, cs = bvs l ∧ l.length = n := by
  obtain ⟨xs, m', _, _, hl, hxl, hi⟩ := DataW.trod_array ht h
  rw [hC] at hl
  have each : ∀ u ∈ cs, ∃ x : UInt8, u = bv x := by
    intro u hu
    obtain ⟨i, hlt, rfl⟩ := List.mem_iff_getElem.1 hu
    have h1 := hi i (by omega)
    rw [List.getElem?_eq_getElem (by omega)] at h1
    obtain ⟨k, h2, _, h3⟩ := DataW.trod_int he h1
    rw [hc, Nat.mul_one, List.drop_eq_getElem_cons hlt] at h2
    simp only [List.take_succ_cons, List.take_zero, List.cons.injEq, and_true] at h2
    obtain ⟨a, ha⟩ := u8_wf h3
    exact ⟨a, by rw [h2, ha]⟩
  obtain ⟨l, rfl⟩ := bytes_of each
  exact ⟨l, rfl, by simpa using hl⟩
end
end Go.Proofs.Ytchdobneipfghaa.Kit
