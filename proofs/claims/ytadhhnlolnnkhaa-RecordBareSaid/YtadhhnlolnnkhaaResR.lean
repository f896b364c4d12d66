/- Results that lie in a block known whole, beside a slot. No program is named here. -/
import Derived.Test.YtadhhnlolnnkhaaBlk
import Derived.Laws.ResultCell
namespace Go.Proofs.Ytadhhnlolnnkhaa.Kit
set_option linter.unusedVariables false
set_option linter.unusedSimpArgs false
open Go Go.RowKit

theorem results_rec {P : Program} {fn : Func} {p u : Tmp} {ty : TypeId} (h : fn.results = #[.cell p ty, .tmp u]) (tmps : Array Value) (w : World) (g : Nat) (t : TypeId) (cs : List Value) (d : TypeDesc)
    (hp : tmps.getD p undef = .pointer (some ⟨g, 0, none⟩)) (hg : Blk w g t cs) (hu : P.underlying ty = some d) (hd : d.isRow = true) (hi : (P.info? ty).map (·.size) = some cs.length) (v : Value) (hv : tmps.getD u undef = v) :
    (results fn tmps).run P w = .ok (.tuple #[.agg cs.toArray, v]) w := by
  rw [results_cell_tmp h, hp, hv]
  simp [asAddr, run_loadVar_mid w g 0 ty cs d hg.range hu hd hi, Result.andThen]
theorem Kp.new3 (w : World) (a b c d : Obj) : Kp Kit.nob w ((((w.alloc a).alloc b).alloc c).alloc d) := ((((Kp.refl _ _).alloc _).alloc _).alloc _).alloc _
theorem Blk.new3 (w : World) (t : TypeId) (cs : List Value) (a b c : Obj) : Blk ((((w.alloc (.cells cs.toArray t)).alloc a).alloc b).alloc c) w.heap.size t cs := (((Blk.new w t cs).alloc a).alloc b).alloc c
end Go.Proofs.Ytadhhnlolnnkhaa.Kit
