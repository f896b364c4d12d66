/- More on blocks known whole: a whole value stored into a part of one. No program is named here. -/
import Derived.Test.YtadhhnlolnnkhaaBlkC
namespace Go.Proofs.Ytadhhnlolnnkhaa.Kit
set_option linter.unusedVariables false
set_option linter.unusedSimpArgs false
open Go Go.RowKit
theorem wpList_store_in {P : Program} {ops : Array Oper} {rest : List Oper} {op : Oper} {a : Act} {w : World} {Q : Exit → Act → World → Prop} (hgd : op.guard = none) (ty : TypeId) (x y : Operand) (ho : op.op = .store ty x y)
    (g off : Nat) (t : TypeId) (cs vs : List Value) (hB : Blk w g t cs) (hx : a.eval x = .pointer (some ⟨g, off, none⟩)) (hy : a.eval y = .agg vs.toArray) (hl : off + vs.length ≤ cs.length) (hi : (P.info? ty).map (·.size) = some vs.length) (h1 : ∀ u ∈ vs, u.oneCell' = true)
    (h : ∀ w', Blk w' g t (splice cs off vs) → Kp (oneB g) w w' → w'.heap.size = w.heap.size → wpList P ops Q rest (a.put op.dst undef) w') : wpList P ops Q (op :: rest) a w := by
  refine wpList_store_mid hgd ty x y ho g off vs.toArray hx hy ?_ (by simpa using hi) (all_oneCell_toArray h1) ?_
  · intro j hj
    have hj' : j < vs.length := by simpa using hj
    rw [hB.cell, List.getElem?_eq_getElem (by omega)]
    exact ⟨rfl, hB.frozen _⟩
  · refine h _ ?_ (Kp.setCells (F := oneB g) (.inl rfl) _ (Kp.refl (oneB g) w)) (setCells_size _ _ _)
    have := hB.setCells (o := off) vs hl
    rw [List.append_assoc] at this
    exact this
/-- A part of a block known whole. -/
theorem Blk.part {w : World} {g : Nat} {t : TypeId} {cs : List Value} (h : Blk w g t cs) (off : Nat) (vs : List Value) (hv : ∀ j v, vs[j]? = some v → cs[off + j]? = some v) : w.rangeAt g off vs := fun j v hj => by rw [h.cell]; exact hv j v hj
end Go.Proofs.Ytadhhnlolnnkhaa.Kit
