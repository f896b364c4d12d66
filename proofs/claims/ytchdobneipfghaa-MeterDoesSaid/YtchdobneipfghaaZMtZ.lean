/- The register that isn't there. -/
import Derived.Test.YtchdobneipfghaaZMtL
namespace Go.Proofs.Ytchdobneipfghaa.Meter
set_option linter.unusedVariables false
set_option linter.unusedSimpArgs false
open Go Go.RowKit Kit Disk

theorem refused_none (w : World) : Calls Try.prog 25 #[.pointer none] w fun e w' => e = .returned (.int .i64 2) ∧ w = w' := by
  go_enter Try.func25, Try.ntmps25
  go_wp2
  go_ret
  exact ⟨rfl, rfl⟩
theorem left_none (w : World) : Calls Try.prog 22 #[.pointer none] w fun e w' => e = .returned (.int .i64 0) ∧ w = w' := by
  go_enter Try.func22, Try.ntmps22
  go_wp2
  go_ret
  exact ⟨rfl, rfl⟩
set_option maxRecDepth 100000 in
theorem get_none (w : World) : Calls Try.prog 21 #[.pointer none] w fun e w' => e = .returned (.tuple #[.agg (vcells none_).toArray, .int .i64 2]) ∧ Kp nob w w' := by
  have hz := zval_run
  have HK := Lib.hid ((Kp.refl nob w).alloc (.cells (vcells none_).toArray 48))
  have HB := Lib.hid (Blk.new w 48 (vcells none_))
  have HZS := Lib.hid (val_size none_ z32_length)
  have HZO := Lib.hid (vcells_one none_)
  go_enter Try.func21, Try.ntmps21
  go_wp2_with fail
  refine (refused_none _).mono ?_
  rintro e w1 ⟨rfl, rfl⟩
  go_wp2_with (first
    | (refine wpList_built rfl 48 _ rfl (.agg (vcells none_).toArray) (by exact exec_bld _ _ rfl [] _ rfl (zval_build _)) ?_)
    | (refine wpList_store_blk rfl 48 (.tmp 2) (.tmp 9) rfl _ _ (vcells none_) (vcells none_) HB.out rfl rfl rfl HZS.out HZO.out ?_; intro w2 hB2 k2 z2; have HB2 := Lib.hid hB2; have HK2 := Lib.hid (HK.out.since k2 (fun i e => Nat.le_of_eq e.symm)); clear hB2 k2 z2))
  exact bodyPost_ret (results_row_tmp rfl _ _ w.heap.size _ (vcells none_) _ rfl HB2.out val_under rfl HZS.out _ rfl) rfl ⟨rfl, HK2.out⟩
theorem next_none (e : Int) (r : List UInt8) (w : World) : Calls Try.prog 12 #[.pointer none, .int .i64 e, .agg (bvs r).toArray] w fun e' w' => e' = .returned (.int .i64 2) ∧ Kp nob w w' := by
  have HK1 := Lib.hid ((Kp.refl nob w).alloc (.cells (bvs r).toArray 32))
  go_enter Try.func12, Try.ntmps12
  go_wp2_with fail
  refine (refused_none _).mono ?_
  rintro e w1 ⟨rfl, rfl⟩
  go_wp2
  go_ret
  exact ⟨rfl, HK1.out⟩
end Go.Proofs.Ytchdobneipfghaa.Meter
