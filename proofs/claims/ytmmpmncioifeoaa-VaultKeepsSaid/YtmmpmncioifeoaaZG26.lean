/- Contracts of the document's own GHASH: bits, sums, the product with x, products. · Contracts of the document's own GHASH: the product with x, products. · Contracts of the document's own GHASH: products. -/
import Derived.Test.YtmmpmncioifeoaaZG25
namespace Go.Proofs.Ytmmpmncioifeoaa.Ghash
set_option linter.unusedVariables false
set_option linter.unusedSimpArgs false
open Go Go.RowKit Kit
open Aes (gb tb tb_length gb_tb tb_gb tb_ext tb_eq pt pt_all pt_zero pt_get pt_set bvs_setb blk_byte arr16)
open Field (cb cb_inj wrap64_in bit_tmod u8_shl)

theorem bit_cb (b : List UInt8) (i : Nat) (q : Nat) (h : bit b i = q) : (cb (gb b (i / 8)) / 2 ^ (7 - i % 8)).tmod 2 = (q : Int) := by
  rw [cb]; exact bit_tmod _ _ _ h
theorem shl_one (k : Nat) (h : k < 8) : IntKind.u8.wrap ((1 : Int) * 2 ^ k) = cb (1 <<< UInt8.ofNat k) := u8_shl 1 k h
end Go.Proofs.Ytmmpmncioifeoaa.Ghash
namespace Go.Proofs.Ytmmpmncioifeoaa.Ghash
set_option linter.unusedVariables false
set_option linter.unusedSimpArgs false
open Go Go.RowKit Kit
open Aes (gb tb tb_length gb_tb tb_gb tb_ext tb_eq arr16)
open Field (cb cb_inj)

/-- Three blocks of sixteen bytes, one behind the other, made by the call. -/
structure B3 (w : World) (a z o : List UInt8) (w2 : World) : Prop where
  a : Blk w2 w.heap.size 141 (bvs a)
  z : Blk w2 (w.heap.size + 1) 141 (bvs z)
  o : Blk w2 (w.heap.size + 2) 141 (bvs o)
  kp : Kp nob w w2
theorem B3.keep0 {w w2 w3 : World} {a z o : List UInt8} (h : B3 w a z o w2) (k : Kp nob w2 w3) : B3 w a z o w3 :=
  ⟨h.a.keep k (fun e => e), h.z.keep k (fun e => e), h.o.keep k (fun e => e), h.kp.trans k (fun _ e => e.elim)⟩
theorem B3.outO {w w2 w3 : World} {a z o o2 : List UInt8} (h : B3 w a z o w2) (k : Kp (oneB (w.heap.size + 2)) w2 w3) (ho : Blk w3 (w.heap.size + 2) 141 (bvs o2)) : B3 w a z o2 w3 :=
  ⟨h.a.keep k (fun e => by unfold oneB at e; omega), h.z.keep k (fun e => by unfold oneB at e; omega), ho, h.kp.since k (fun i e => by unfold oneB at e; omega)⟩
theorem B3.outA {w w2 w3 : World} {a z o a2 : List UInt8} (h : B3 w a z o w2) (k : Kp (oneB w.heap.size) w2 w3) (ha : Blk w3 w.heap.size 141 (bvs a2)) : B3 w a2 z o w3 :=
  ⟨ha, h.z.keep k (fun e => by unfold oneB at e; omega), h.o.keep k (fun e => by unfold oneB at e; omega), h.kp.since k (fun i e => by unfold oneB at e; omega)⟩
theorem none_tb : none16 = tb fun _ => 0 := by decide +kernel
theorem KQ_get (j : Nat) (h : j < 4) : (#[Value.int .i64 0, Value.int .i64 1, Value.int .i64 2, Value.int .i64 7] : Array Value)[j]? = some (.int .i64 ((KQ.getD j 0 : Nat) : Int)) := by
  have : j = 0 ∨ j = 1 ∨ j = 2 ∨ j = 3 := by omega
  rcases this with rfl | rfl | rfl | rfl <;> rfl
theorem KQ_le (j : Nat) : KQ.getD j 0 < 128 := by
  by_cases h : j < 4
  · have : j = 0 ∨ j = 1 ∨ j = 2 ∨ j = 3 := by omega
    rcases this with rfl | rfl | rfl | rfl <;> decide
  · have : KQ.getD j 0 = 0 := by rw [List.getD_eq_getElem?_getD, List.getElem?_eq_none (by simp [KQ]; omega)]; rfl
    omega
theorem len16 {b : List UInt8} (h : b.length = 16) : (bvs b).length = 16 := by rw [bvs_length, h]

end Go.Proofs.Ytmmpmncioifeoaa.Ghash
namespace Go.Proofs.Ytmmpmncioifeoaa.Ghash
set_option linter.unusedVariables false
set_option linter.unusedSimpArgs false
open Go Go.RowKit Kit
open Aes (gb tb tb_length gb_tb tb_gb tb_ext tb_eq arr16)
open Field (cb cb_inj)

/-- Four blocks of sixteen bytes, one behind the other, made by the call. -/
structure B4 (w : World) (a b z o : List UInt8) (w2 : World) : Prop where
  a : Blk w2 w.heap.size 141 (bvs a)
  b : Blk w2 (w.heap.size + 1) 141 (bvs b)
  z : Blk w2 (w.heap.size + 2) 141 (bvs z)
  o : Blk w2 (w.heap.size + 3) 141 (bvs o)
  kp : Kp nob w w2
theorem B4.keep0 {w w2 w3 : World} {a b z o : List UInt8} (h : B4 w a b z o w2) (k : Kp nob w2 w3) : B4 w a b z o w3 :=
  ⟨h.a.keep k (fun e => e), h.b.keep k (fun e => e), h.z.keep k (fun e => e), h.o.keep k (fun e => e), h.kp.trans k (fun _ e => e.elim)⟩
theorem B4.outO {w w2 w3 : World} {a b z o o2 : List UInt8} (h : B4 w a b z o w2) (k : Kp (oneB (w.heap.size + 3)) w2 w3) (ho : Blk w3 (w.heap.size + 3) 141 (bvs o2)) : B4 w a b z o2 w3 :=
  ⟨h.a.keep k (fun e => by unfold oneB at e; omega), h.b.keep k (fun e => by unfold oneB at e; omega), h.z.keep k (fun e => by unfold oneB at e; omega), ho, h.kp.since k (fun i e => by unfold oneB at e; omega)⟩
theorem B4.outB {w w2 w3 : World} {a b z o b2 : List UInt8} (h : B4 w a b z o w2) (k : Kp (oneB (w.heap.size + 1)) w2 w3) (hb : Blk w3 (w.heap.size + 1) 141 (bvs b2)) : B4 w a b2 z o w3 :=
  ⟨h.a.keep k (fun e => by unfold oneB at e; omega), hb, h.z.keep k (fun e => by unfold oneB at e; omega), h.o.keep k (fun e => by unfold oneB at e; omega), h.kp.since k (fun i e => by unfold oneB at e; omega)⟩

end Go.Proofs.Ytmmpmncioifeoaa.Ghash
