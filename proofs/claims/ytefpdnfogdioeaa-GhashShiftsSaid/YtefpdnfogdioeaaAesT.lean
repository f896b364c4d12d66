/- Sixteen bytes that are made one by one. No program is named here. -/
import Derived.Test.YtefpdnfogdioeaaAesS
import Derived.Test.YtefpdnfogdioeaaFieldT
namespace Go.Proofs.Ytefpdnfogdioeaa.Aes
set_option linter.unusedVariables false
set_option linter.unusedSimpArgs false
open Go Go.RowKit Kit
open Field (cb)

/-- The first k bytes are made. -/
def pt (f g : Nat → UInt8) (k : Nat) : List UInt8 := tb fun i => if i < k then f i else g i
theorem pt_eq (f g : Nat → UInt8) (k : Nat) : pt f g k = tb fun i => if i < k then f i else g i := rfl
theorem pt_length (f g : Nat → UInt8) (k : Nat) : (pt f g k).length = 16 := tb_length _
theorem pt_zero (f g : Nat → UInt8) : pt f g 0 = tb g := tb_ext fun i _ => if_neg (by omega)
theorem pt_all (f g : Nat → UInt8) : pt f g 16 = tb f := tb_ext fun i h => if_pos h
theorem set_tb (f : Nat → UInt8) (k : Nat) (x : UInt8) : (tb f).set k x = tb fun i => if i = k then x else f i := by
  apply List.ext_getElem (by simp [tb_length])
  intro i h1 h2
  rw [List.getElem_set]
  simp only [tb, List.getElem_map, List.getElem_range]
  by_cases h : i = k
  · rw [if_pos h.symm, if_pos h]
  · rw [if_neg (fun e => h e.symm), if_neg h]
theorem pt_set (f g : Nat → UInt8) (k : Nat) : (pt f g k).set k (f k) = pt f g (k + 1) := by
  rw [pt, set_tb, pt]
  refine tb_ext fun i _ => ?_
  by_cases h : i = k
  · subst h; rw [if_pos rfl, if_pos (Nat.lt_succ_self _)]
  · rw [if_neg h]
    by_cases h2 : i < k
    · rw [if_pos h2, if_pos (by omega)]
    · rw [if_neg h2, if_neg (by omega)]
theorem tb_get (f : Nat → UInt8) (k : Nat) (h : k < 16) : (bvs (tb f))[k]? = some (.int .u8 (cb (f k))) := by
  rw [bvs, List.getElem?_map, tb, List.getElem?_map, List.getElem?_range h]; rfl
theorem pt_get (f g : Nat → UInt8) (k : Nat) (h : k < 16) : (bvs (pt f g k))[k]? = some (.int .u8 (cb (g k))) := by
  rw [pt, tb_get _ _ h, if_neg (Nat.lt_irrefl k)]
theorem gb_get (b : List UInt8) (i : Nat) (h : i < b.length) : (bvs b)[i]? = some (.int .u8 (cb (gb b i))) := by
  rw [bvs, List.getElem?_map, List.getElem?_eq_getElem h, gb, List.getD, List.getElem?_eq_getElem h]; rfl
theorem bvs_setb (l : List UInt8) (i : Nat) (x : UInt8) : (bvs l).set i (.int .u8 (cb x)) = bvs (l.set i x) := by
  rw [bvs, bvs, List.map_set]; rfl
attribute [irreducible] pt
/-- A byte of a row. -/
theorem row_byte {w : World} {A : Option Addr} {W : List UInt8} (h : Row w A (bvs W)) {i : Nat} (hi : i < W.length) : ∃ B o, A = some ⟨B, o, none⟩ ∧ ∀ j, j < W.length → w.cell? ⟨B, o + j, none⟩ = some (.int .u8 (cb (gb W j))) := by
  rcases h with h | ⟨B, o, hA, hB, hc⟩
  · have h0 : (bvs W).length = 0 := by rw [h]; rfl
    rw [bvs_length] at h0; omega
  · exact ⟨B, o, hA, fun j hj => hc j _ (gb_get W j hj)⟩
theorem add_pt (W b : List UInt8) (r : Nat) : add (rk W r) b = tb fun i => gb b i ^^^ gb W (16 * r + i) := by
  have h : add (rk W r) b = tb fun i => gb b i ^^^ gb (rk W r) i := add_eq _ _
  rw [h]
  exact tb_ext fun i hi => by rw [rk_eq, gb_tb _ i hi]
end Go.Proofs.Ytefpdnfogdioeaa.Aes
