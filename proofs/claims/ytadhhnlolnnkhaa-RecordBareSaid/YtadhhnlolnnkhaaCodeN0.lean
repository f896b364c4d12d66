/- The words of layer 1 that later layers use: numbers and texts as bytes, a reader of bytes. No function of the program is named here. -/
import Derived.Test.YtadhhnlolnnkhaaRows
import Derived.Test.YtadhhnlolnnkhaaCodeNS
import Derived.Lib.LazyBuf
namespace Go.Proofs.Ytadhhnlolnnkhaa
set_option linter.unusedVariables false
set_option linter.unusedSimpArgs false
open Go Go.RowKit Kit

theorem u8_under : Try.prog.underlying 27 = some (.slice 5) := by kernel_rfl
theorem cell_of_heap {w : World} {b : Nat} {cs : Array Value} {t : TypeId} {fr : Nat × Nat} (h : w.heap[b]? = some (.cells cs t fr)) (j : Nat) : w.cell? ⟨b, j, none⟩ = cs[j]? := by simp [World.cell?, h]
theorem frozen_of_heap {w : World} {b : Nat} {cs : Array Value} {t : TypeId} (h : w.heap[b]? = some (.cells cs t (0, 0))) (j : Nat) : w.frozen? ⟨b, j, none⟩ = false := by simp [World.frozen?, h]
theorem heap_setCell {w : World} {b : Nat} {cs : Array Value} {t : TypeId} {fr : Nat × Nat} (h : w.heap[b]? = some (.cells cs t fr)) (j : Nat) (v : Value) : (w.setCell ⟨b, j, none⟩ v).heap[b]? = some (.cells (cs.setIfInBounds j v) t fr) := by
  simp [World.setCell, Array.getElem?_modify, h]

theorem u8_string : Try.prog.underlying 9 = some .string := by kernel_rfl

theorem conv_row (w1 : World) (A2 : Option Addr) (n c : Nat) (l : List UInt8) (hn : l.length = n) (hr : Row w1 A2 (bvs l)) : (convert 27 9 (.slice A2 n c)).run Try.prog w1 = .ok (.string (str l)) w1 :=
  run_bytes_str w1 27 9 5 u8_under (by kernel_rfl) u8_string A2 n c l hn hr

end Go.Proofs.Ytadhhnlolnnkhaa
