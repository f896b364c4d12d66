/- Contracts of package ghash: a block as two words, and back; sums, the product with x, a bit, products. -/
import Derived.Test.YtefpdnfogdioeaaAesRB
import Derived.Test.YtefpdnfogdioeaaGhashE
namespace Go.Proofs.Ytefpdnfogdioeaa.Ghash
set_option linter.unusedVariables false
set_option linter.unusedSimpArgs false
open Go Go.RowKit Kit
open Aes (gb tb tb_length gb_tb tb_gb tb_ext tb_eq pt pt_all pt_zero pt_get pt_set bvs_setb blk_byte arr16)
open Field (cb cb_inj)

/-- A block as the code's element. -/
def ev (b : List UInt8) : List Value := [.int .u64 (dw (hi b)), .int .u64 (dw (lo b))]
theorem ev_length (b : List UInt8) : (ev b).length = 2 := rfl
theorem elU : Try.prog.underlying 45 = some (.struct (Try.prog.fieldsOf 45)) := by kernel_rfl
theorem elS (b : List UInt8) : (Try.prog.info? 45).map (·.size) = some (ev b).toArray.size := by rw [List.size_toArray, ev_length]; kernel_rfl
theorem ev_eq (b : List UInt8) : ev b = [.int .u64 (dw (hi b)), .int .u64 (dw (lo b))] := rfl

set_option maxHeartbeats 1000000 in
theorem plus_any (a b : List UInt8) (w : World) :
    Calls Try.prog 27 #[.agg (ev a).toArray, .agg (ev b).toArray] w fun e w' => e = .returned (.agg (ev (plus a b)).toArray) ∧ Kp nob w w' := by
  have H1 := Lib.hid (hi_plus a b); have H2 := Lib.hid (lo_plus a b)
  rw [ev_eq a, ev_eq b]
  go_enter Try.func27, Try.ntmps27
  go_wp2
  refine bodyPost_ret (results_cell_row rfl _ _ (w.heap.size + 2) _ _ _ _ rfl (show Blk _ _ _ (ev (plus a b)) from Blk.new' (by simp) (by rw [ev_eq, H1.out, H2.out])) elU rfl (elS _)) rfl ⟨rfl, (((Kp.refl nob w).alloc _).alloc _).alloc _⟩
set_option maxHeartbeats 1000000 in
theorem kept_any (a : List UInt8) (q : Nat) (w : World) (hq : q < 2) :
    Calls Try.prog 28 #[.agg (ev a).toArray, .int .u64 (dw (UInt64.ofNat q))] w fun e w' => e = .returned (.agg (ev (keep a q)).toArray) ∧ Kp nob w w' := by
  have H1 := Lib.hid (hi_keep a q hq); have H2 := Lib.hid (lo_keep a q hq)
  clear hq
  generalize UInt64.ofNat q = x at *
  rw [ev_eq a]
  go_enter Try.func28, Try.ntmps28
  go_wp2
  refine bodyPost_ret (results_cell_row rfl _ _ (w.heap.size + 1) _ _ _ _ rfl (show Blk _ _ _ (ev (keep a q)) from Blk.new' (by simp) (by rw [ev_eq, ← H1.out, ← H2.out])) elU rfl (elS _)) rfl ⟨rfl, ((Kp.refl nob w).alloc _).alloc _⟩
set_option maxHeartbeats 1000000 in
theorem next_any (a : List UInt8) (w : World) :
    Calls Try.prog 30 #[.agg (ev a).toArray] w fun e w' => e = .returned (.agg (ev (shift a)).toArray) ∧ Kp nob w w' := by
  have H1 := Lib.hid (hi_shift a); have H2 := Lib.hid (lo_shift a)
  have h3 := lo_last_dw a
  generalize UInt64.ofNat (bit a 127) = x at *
  rw [ev_eq a]
  go_enter Try.func30, Try.ntmps30
  go_wp2
  refine bodyPost_ret (results_cell_row rfl _ _ (w.heap.size + 1) _ _ _ _ rfl (show Blk _ _ _ (ev (shift a)) from Blk.new' (by simp) (by rw [ev_eq, H1.out, H2.out])) elU rfl (elS _)) rfl ⟨rfl, ((Kp.refl nob w).alloc _).alloc _⟩
set_option maxHeartbeats 1000000 in
theorem bit_any (b : List UInt8) (i : Nat) (w : World) (hi : i < 128) :
    Calls Try.prog 29 #[.agg (ev b).toArray, .int .i64 i] w fun e w' => e = .returned (.int .u64 (dw (UInt64.ofNat (bit b i)))) ∧ Kp nob w w' := by
  rw [ev_eq]
  by_cases h64 : i < 64
  · have H := hi_shr b i h64
    generalize UInt64.ofNat (bit b i) = x at *
    obtain ⟨j, hj⟩ : ∃ j, j = 63 - i := ⟨_, rfl⟩
    rw [← hj] at H
    have e1 : ((i : Int).tmod 64) = (i : Int) := by rw [Int.tmod_eq_emod_of_nonneg (by omega)]; omega
    have e2 : IntKind.i64.wrap (63 - (i : Int)) = (j : Int) := by rw [IntWalk.i64_in _ (by omega)]; omega
    have hm : min j 64 = j := by omega
    have hc : decide ((i : Int) ≥ 64) = false := decide_eq_false (by omega)
    clear hj
    go_enter Try.func29, Try.ntmps29
    go_wp2
    go_ret
    exact ⟨rfl, (Kp.refl nob w).alloc _⟩
  · have H := lo_shr b i (by omega) hi
    generalize UInt64.ofNat (bit b i) = x at *
    obtain ⟨j, hj⟩ : ∃ j, j = 127 - i := ⟨_, rfl⟩
    rw [← hj] at H
    obtain ⟨m, hm0⟩ : ∃ m, m = i - 64 := ⟨_, rfl⟩
    have e1 : ((i : Int).tmod 64) = (m : Int) := by rw [Int.tmod_eq_emod_of_nonneg (by omega)]; omega
    have e2 : IntKind.i64.wrap (63 - (m : Int)) = (j : Int) := by rw [IntWalk.i64_in _ (by omega)]; omega
    have hm : min j 64 = j := by omega
    clear hj hm0
    go_enter Try.func29, Try.ntmps29
    go_wp2
    go_ret
    exact ⟨rfl, (Kp.refl nob w).alloc _⟩
end Go.Proofs.Ytefpdnfogdioeaa.Ghash
