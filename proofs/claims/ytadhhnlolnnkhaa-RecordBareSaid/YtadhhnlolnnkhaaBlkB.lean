/- More on blocks that are known whole. No program is named here. -/
import Derived.Test.YtadhhnlolnnkhaaBlk
namespace Go.Proofs.Ytadhhnlolnnkhaa.Kit
set_option linter.unusedVariables false
set_option linter.unusedSimpArgs false
open Go Go.RowKit
/-- A WHOLE VALUE STORED INTO A NEW BLOCK, its number given. -/
theorem wpList_store_newAt {P : Program} {ops : Array Oper} {rest : List Oper} {op : Oper} {a : Act} {w : World} {Q : Exit → Act → World → Prop} (hgd : op.guard = none) (ty : TypeId) (x y : Operand) (ho : op.op = .store ty x y)
    (c : Array Value) (vs : List Value) (g : Nat) (hg : g = w.heap.size) (hx : a.eval x = .pointer (some ⟨g, 0, none⟩)) (hy : a.eval y = .agg vs.toArray) (hl : vs.length = c.size) (hi : (P.info? ty).map (·.size) = some vs.length) (h1 : ∀ u ∈ vs, u.oneCell' = true)
    (h : ∀ w', Blk w' g ty vs → Kp nob w w' → w'.heap.size = g + 1 → wpList P ops Q rest (a.put op.dst undef) w') : wpList P ops Q (op :: rest) a (w.alloc (.cells c ty)) := by
  subst hg; exact wpList_store_new hgd ty x y ho c vs hx hy hl hi h1 h
end Go.Proofs.Ytadhhnlolnnkhaa.Kit
