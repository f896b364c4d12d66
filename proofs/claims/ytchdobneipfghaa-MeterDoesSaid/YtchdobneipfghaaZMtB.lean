/- The register in memory: it goes on; a new one. -/
import Derived.Test.YtchdobneipfghaaZMtA
namespace Go.Proofs.Ytchdobneipfghaa.Meter
set_option linter.unusedVariables false
set_option linter.unusedSimpArgs false
open Go Go.RowKit Kit Disk

set_option maxRecDepth 100000 in
theorem build_val0 (f : Fin 32 → UInt8) (c e : Int) (w : World) : (Instr.build 48 #[(0, .int .i64 c), (1, .int .i64 e), (2, .agg (bvs (List.ofFn f)).toArray)]).run Try.prog w = .ok (.agg (.int .i64 c :: .int .i64 e :: bvs (List.ofFn f)).toArray) w := by kernel_rfl
theorem build_val (c e : Int) (r : List UInt8) (h : r.length = 32) (w : World) : (Instr.build 48 #[(0, .int .i64 c), (1, .int .i64 e), (2, .agg (bvs r).toArray)]).run Try.prog w = .ok (.agg (.int .i64 c :: .int .i64 e :: bvs r).toArray) w := by
  obtain ⟨f, rfl⟩ := list_fn 32 r h
  exact build_val0 f c e w
theorem splice_val (t t2 : Mt) (X : Option Addr) (h : t.root.length = 32) (h2 : t2.root.length = 32) (hm : t2.most = t.most) : splice (mcells t X) 0 (vcells t2) = mcells t2 X := by
  rw [splice, List.take_zero, List.nil_append, Nat.zero_add, vcells_length t2 h2, mcells, mcells, hm, List.drop_append_of_le_length (by rw [vcells_length t h]; exact Nat.le_refl _), List.drop_of_length_le (by rw [vcells_length t h]; exact Nat.le_refl _), List.nil_append]
set_option maxHeartbeats 1000000 in
set_option maxRecDepth 100000 in
theorem goOn_any (t : Mt) (e : Int) (r : List UInt8) (m : Nat) (X : Option Addr) (w : World) (h : Mb w m X t) (hr : r.length = 32) (hc : t.count < t.most) :
    Calls Try.prog 27 #[.pointer (some ⟨m, 0, none⟩), .int .i64 e, .agg (bvs r).toArray] w fun e' w' => e' = .returned (.tuple #[]) ∧ Mb w' m X (t.on e r) ∧ Kp (oneB m) w w' := by
  obtain ⟨q, hq⟩ : ∃ q, q = t.count + 1 := ⟨_, rfl⟩
  have hmo := h.k.most
  have e1 : IntKind.i64.wrap ((t.count : Int) + 1) = (q : Int) := by rw [IntWalk.i64_in _ (by omega)]; omega
  have HM := Lib.hid h
  have HON := Lib.hid (h.k.on e r hr hc)
  have HQ := Lib.hid (show vcells (t.on e r) = .int .i64 (q : Int) :: .int .i64 e :: bvs r by rw [hq]; rfl)
  have HSP := Lib.hid (splice_val t (t.on e r) X h.k.root hr rfl)
  have HVS := Lib.hid (val_size (t.on e r) hr)
  have HVO := Lib.hid (vcells_one (t.on e r))
  have HFI := Lib.hid (show 0 + (vcells (t.on e r)).length ≤ (mcells t X).length by rw [vcells_length _ hr, mcells_length _ _ h.k.root]; omega)
  rw [HQ.out] at HVS HVO HFI HSP
  have HR := Lib.hid hr
  have HRZ := Lib.hid (root_size r hr)
  clear h hr hc hmo hq
  go_enter Try.func27, Try.ntmps27
  go_wp2
  obtain ⟨g1, hg1⟩ : ∃ g, g = w.heap.size := ⟨_, rfl⟩
  have HK1 := Lib.hid ((Kp.refl nob w).alloc (.cells (bvs r).toArray 32))
  have HB1 := Lib.hid (Blk.new w 32 (bvs r))
  rw [← hg1] at HB1 ⊢
  generalize w.alloc (.cells (bvs r).toArray 32) = w1 at *
  refine wp_region_still_tail 12 (by kernel_rfl) (by kernel_rfl) ?_
  change wpStill _ _ w1.drew (fun a' => wpList _ _ _ _ a' w1.drew) _ _
  have HK2 := Lib.hid HK1.out.drew
  have HB2 := Lib.hid (HB1.out.keep (Kp.refl nob w1).drew (fun e => e))
  have HM2 := Lib.hid (HM.out.keep0 HK2.out)
  have c0 := HM2.out.cells.1
  have hld := run_loadAt_mid (P := Try.prog) w1.drew g1 0 32 (bvs r) _ HB2.out.range root_under rfl HRZ.out
  clear hg1
  generalize w1.drew = w2 at *
  clear HB1 HK1
  simp only [List.take_succ_cons, List.take_zero, List.drop_succ_cons, List.drop_zero]
  repeat (first | (refine wpStill_load rfl 32 (.tmp 5) rfl _ _ rfl hld ?_) | (refine wpStill_exec rfl (.agg (.int .i64 (q : Int) :: .int .i64 e :: bvs r).toArray) (by exact exec_bld _ _ rfl [(0, .int .i64 (q : Int)), (1, .int .i64 e), (2, .agg (bvs r).toArray)] _ rfl (build_val _ _ _ HR.out _)) ?_) | still_step)
  refine wpStill_nil ?_
  clear hld c0
  go_wp2_with (refine wpList_store_in rfl 48 (.tmp 17) (.tmp 15) rfl m 0 _ _ (.int .i64 (q : Int) :: .int .i64 e :: bvs r) HM2.out.b rfl rfl HFI.out HVS.out HVO.out ?_; intro w5 hB5 k5 z5; rw [HSP.out] at hB5; have HB5 := Lib.hid hB5; have HK5 := Lib.hid k5; clear hB5 k5 z5)
  exact bodyPost_end (results_none rfl _ _ _) rfl ⟨rfl, ⟨HB5.out, HON.out⟩, (HK2.out.nob _).trans HK5.out (fun i e => .inl e)⟩
end Go.Proofs.Ytchdobneipfghaa.Meter
