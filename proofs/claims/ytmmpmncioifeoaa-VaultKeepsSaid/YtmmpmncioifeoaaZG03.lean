/- Package vault: its clashes. · The nonce of an epoch and a number, plainly. · The words of layer 1 that later layers use: numbers and texts as bytes, a reader of bytes. No function of the program is named here. -/
import Derived.Test.YtmmpmncioifeoaaZG02
import Derived.Test.YtmmpmncioifeoaaRows
import Derived.Lib.LazyBuf
namespace Go.Proofs.Ytmmpmncioifeoaa.Vault
set_option linter.unusedVariables false
set_option linter.unusedSimpArgs false
open Go Go.RowKit Kit

set_option maxRecDepth 100000 in
theorem clashes_any (v m : Nat) (mk : Value) (ms : List UInt8) (lim : Nat) (ps : List (Value × Value)) (cl : Nat) (w : World) (h : Vb w v m mk ms lim ps cl) :
    Calls Try.prog 12 #[.pointer (some ⟨v, 0, none⟩)] w fun e w' => e = .returned (.int .i64 (cl : Nat)) ∧ w = w' := by
  have hc := h.cl_
  clear h
  go_enter Try.func12, Try.ntmps12
  go_wp2
  go_ret
  exact ⟨rfl, rfl⟩
set_option maxRecDepth 100000 in
theorem clashes_nil (w : World) : Calls Try.prog 12 #[.pointer none] w fun e w' => e = .returned (.int .i64 0) ∧ w = w' := by
  go_enter Try.func12, Try.ntmps12
  go_wp2
  go_ret
  exact ⟨rfl, rfl⟩

end Go.Proofs.Ytmmpmncioifeoaa.Vault
namespace Go.Proofs.Ytmmpmncioifeoaa.Vault
set_option linter.unusedVariables false
open Go Go.RowKit Kit

def nonce (e s : Int) : List UInt8 := (num8 e).take 4 ++ num8 s
theorem nonce_eq (e s : Int) : nonce e s = (num8 e).take 4 ++ num8 s := rfl
theorem nonce_length (e s : Int) : (nonce e s).length = 12 := by simp [nonce]
attribute [irreducible] nonce
end Go.Proofs.Ytmmpmncioifeoaa.Vault
namespace Go.Proofs.Ytmmpmncioifeoaa
set_option linter.unusedVariables false
set_option linter.unusedSimpArgs false
open Go Go.RowKit Kit

theorem u8_under : Try.prog.underlying 29 = some (.slice 5) := by kernel_rfl
theorem cell_of_heap {w : World} {b : Nat} {cs : Array Value} {t : TypeId} {fr : Nat × Nat} (h : w.heap[b]? = some (.cells cs t fr)) (j : Nat) : w.cell? ⟨b, j, none⟩ = cs[j]? := by simp [World.cell?, h]
theorem frozen_of_heap {w : World} {b : Nat} {cs : Array Value} {t : TypeId} (h : w.heap[b]? = some (.cells cs t (0, 0))) (j : Nat) : w.frozen? ⟨b, j, none⟩ = false := by simp [World.frozen?, h]
theorem heap_setCell {w : World} {b : Nat} {cs : Array Value} {t : TypeId} {fr : Nat × Nat} (h : w.heap[b]? = some (.cells cs t fr)) (j : Nat) (v : Value) : (w.setCell ⟨b, j, none⟩ v).heap[b]? = some (.cells (cs.setIfInBounds j v) t fr) := by
  simp [World.setCell, Array.getElem?_modify, h]

theorem u8_string : Try.prog.underlying 9 = some .string := by kernel_rfl

theorem conv_row (w1 : World) (A2 : Option Addr) (n c : Nat) (l : List UInt8) (hn : l.length = n) (hr : Row w1 A2 (bvs l)) : (convert 29 9 (.slice A2 n c)).run Try.prog w1 = .ok (.string (str l)) w1 :=
  run_bytes_str w1 29 9 5 u8_under (by kernel_rfl) u8_string A2 n c l hn hr

end Go.Proofs.Ytmmpmncioifeoaa
