/- What the laws of layer 6 play: equal blocks, a block that the document tells. -/
import Derived.Test.YtdoioldlaehkhaaDoorAesO
import Derived.Stop.BytesEq
import Derived.Deep.Matrix
namespace Go.Proofs.YtdoioldlaehkhaaDoor.Aes
open Go Go.RowKit Kit
open Field (cb cb_inj Sq)

theorem arr16' : Tryd.prog.underlying 23 = some (.array 16 5) := by kernel_rfl
theorem eqB (xs ys : List UInt8) (hx : xs.length = 16) (hy : ys.length = 16) (w : World) : (Op.equalIn 10000 30 (.agg (bvs xs).toArray) (.agg (bvs ys).toArray)).run Tryd.prog w = .ok (xs == ys) w :=
  run_equalIn_bytes w 9998 30 5 16 arrB (by kernel_rfl) (fun _ => by kernel_rfl) xs ys hx hy
theorem eq16 (xs ys : List UInt8) (hx : xs.length = 16) (hy : ys.length = 16) (w : World) : (Op.equalIn 10000 23 (.agg (bvs xs).toArray) (.agg (bvs ys).toArray)).run Tryd.prog w = .ok (xs == ys) w :=
  run_equalIn_bytes w 9998 23 5 16 arr16 (by kernel_rfl) (fun _ => by kernel_rfl) xs ys hx hy
theorem noughts_length : noughts.length = 16 := rfl
theorem eqB_same (l : List UInt8) (h : l.length = 16) (w : World) : (Op.equalIn 10000 30 (.agg (bvs l).toArray) (.agg (bvs l).toArray)).run Tryd.prog w = .ok true w := by
  rw [eqB _ _ h h]; simp
theorem make16 (w : World) : (Instr.makeSlice 22 (.int .i64 16) (.int .i64 16)).run Tryd.prog w = .ok (.slice (some ⟨w.heap.size, 0, none⟩) 16 16) (w.alloc (.cells (bvs noughts).toArray 5)) := by
  have h := run_make_row' (P := Tryd.prog) 22 5 (.int .u8 0) 1 u8sl_under (by kernel_rfl) rfl .i64 .i64 16 (by omega) (by omega) w
  have e : madeCells #[(.int .u8 0 : Value)] 16 = (bvs noughts).toArray := by kernel_rfl
  rw [e] at h
  exact h

/-- The block of noughts under the key of noughts. -/
def deadX : List UInt8 := enc (allW noughts) 9 noughts
theorem deadX_eq : enc (allW noughts) 9 noughts = deadX := rfl
theorem deadX_length : deadX.length = 16 := enc_length _ _ _
theorem deadX_at (i : Nat) (x : UInt8) (h : i < 4) (hx : ([102, 233, 75, 212] : List UInt8)[i]? = some x) : (bvs deadX)[i]? = some (.int .u8 (cb x)) := by
  refine bvs_at ?_
  have := told
  rw [deadX_eq] at this
  rw [← hx, ← this, List.getElem?_take, if_pos h]
attribute [irreducible] deadX

set_option maxHeartbeats 1000000 in
set_option maxRecDepth 100000 in
theorem alive_yes (w : World) (ht : Sq w) :
    Calls Tryd.prog 7 #[] w fun e w' => e = .returned (.bool true) ∧ Kp nob w w' := by
  have HT := Lib.hid ht; clear ht
  have hmk := make16
  have HDL := Lib.hid deadX_length
  go_enter Tryd.func7, Tryd.ntmps7
  go_wp2_with fail
  refine (new_yes 4 noughts (some ⟨w.heap.size, 0, none⟩) 16 _ (HT.out.keep0 ((Kp.refl nob w).alloc _)) rfl (.inl rfl) (row_new w (bvs noughts) _) (by omega)).mono ?_
  rintro e w1 ⟨g, rfl, hc, hg, k1⟩
  have HC := Lib.hid hc
  have K1 := Lib.hid (((Kp.refl nob w).alloc _).trans k1 (fun _ e => e.elim))
  clear hc hg k1 hmk
  go_wp2_with fail
  refine (seal_any noughts (allW noughts) g 9 _ noughts_length HC.out).mono ?_
  rintro e w2 ⟨rfl, k2⟩
  rw [deadX_eq]
  have K2 := Lib.hid (K1.out.trans k2 (fun _ e => e.elim))
  clear k2 K1
  go_wp2_with (refine wpList_store_new rfl 30 (.tmp 3) (.tmp 11) rfl _ (bvs deadX) rfl rfl (by rw [blen HDL.out]; rfl) (bsize HDL.out) (bvs_one _) ?_
               intro w3 hB3 k3 z3
               have c0 : w3.cell? ⟨w2.heap.size, 0, none⟩ = some (.int .u8 102) := by rw [hB3.cell]; exact deadX_at 0 102 (by omega) rfl
               have c1 : w3.cell? ⟨w2.heap.size, 1, none⟩ = some (.int .u8 233) := by rw [hB3.cell]; exact deadX_at 1 233 (by omega) rfl
               have c2 : w3.cell? ⟨w2.heap.size, 2, none⟩ = some (.int .u8 75) := by rw [hB3.cell]; exact deadX_at 2 75 (by omega) rfl
               have c3 : w3.cell? ⟨w2.heap.size, 3, none⟩ = some (.int .u8 212) := by rw [hB3.cell]; exact deadX_at 3 212 (by omega) rfl
               have K3 := Lib.hid (K2.out.trans k3 (fun _ e => e.elim))
               clear hB3 k3 z3)
  go_ret
  exact ⟨rfl, K3.out⟩
end Go.Proofs.YtdoioldlaehkhaaDoor.Aes
