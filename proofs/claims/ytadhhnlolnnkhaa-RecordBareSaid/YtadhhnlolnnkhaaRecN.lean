/- One, two records as a row that a call makes; the frames' words. -/
import Derived.Test.YtadhhnlolnnkhaaRecM
import Derived.Test.YtadhhnlolnnkhaaRecL
import Derived.Test.YtadhhnlolnnkhaaRecH
import Derived.Test.YtadhhnlolnnkhaaRecK
namespace Go.Proofs.Ytadhhnlolnnkhaa.Rec
set_option linter.unusedVariables false
set_option linter.unusedSimpArgs false
open Go Go.RowKit Kit

theorem own : ownKnob Try.prog.godebug = none := by kernel_rfl
theorem laidOut : laidOutB Try.prog = true := by kernel_rfl
theorem rrow_one (w : World) (r : Rec) (t : TypeId) : Rrow (w.alloc (.cells (rcells r).toArray t)) (some ⟨w.heap.size, 0, none⟩) [r] := by
  have := row_new w (rcells r) t
  unfold Rrow; simpa using this
theorem rrow_two (w : World) (r q : Rec) (t : TypeId) : Rrow (w.alloc (.cells (rcells r ++ rcells q).toArray t)) (some ⟨w.heap.size, 0, none⟩) [r, q] := by
  have := row_new w (rcells r ++ rcells q) t
  unfold Rrow; simpa using this
/-- Great of one record. -/
theorem great_one (r : Rec) (H : Nat) (w : World) (hH : w.heap.size = H) (t : TypeId) : Calls Try.prog 10 #[.slice (some ⟨H, 0, none⟩) 1 1, .int .i64 1] (w.alloc (.cells (rcells r).toArray t)) fun e w' => e = .returned (.bool (decide (4096 < r.body.length))) ∧ Kp nob w w' := by
  subst hH
  refine (great_any _ 1 1 [r] 1 _ rfl (rrow_one w r t) (by simp [maxLen])).mono ?_
  rintro e w' ⟨rfl, k⟩
  exact ⟨by simp [greatR], ((Kp.refl nob w).alloc _).trans k (fun _ e => e.elim)⟩
theorem great_two (r q : Rec) (H : Nat) (w : World) (hH : w.heap.size = H) (t : TypeId) : Calls Try.prog 10 #[.slice (some ⟨H, 0, none⟩) 2 2, .int .i64 2] (w.alloc (.cells (rcells r ++ rcells q).toArray t)) fun e w' => e = .returned (.bool (decide (4096 < r.body.length) || decide (4096 < q.body.length))) ∧ Kp nob w w' := by
  subst hH
  refine (great_any _ 2 2 [r, q] 2 _ rfl (rrow_two w r q t) (by simp [maxLen])).mono ?_
  rintro e w' ⟨rfl, k⟩
  exact ⟨by simp [greatR], ((Kp.refl nob w).alloc _).trans k (fun _ e => e.elim)⟩
theorem box_cells {w : World} {g : Nat} {t : TypeId} {r : Rec} (h : Blk w g t (rcells r)) : w.cell? ⟨g, 0, none⟩ = some (.int .i64 r.kind) ∧ w.cell? ⟨g, 1, none⟩ = some (.int .i64 r.queue) ∧ w.cell? ⟨g, 2, none⟩ = some (.int .i64 r.id) ∧ w.cell? ⟨g, 3, none⟩ = some (.int .i64 r.num) ∧ w.cell? ⟨g, 4, none⟩ = some (.int .i64 r.wait) ∧ w.cell? ⟨g, 5, none⟩ = some (.string (str r.body)) :=
  ⟨h.cell 0, h.cell 1, h.cell 2, h.cell 3, h.cell 4, h.cell 5⟩
set_option maxRecDepth 100000 in
theorem run_row1 (r : Rec) (w : World) : (Instr.buildSlice 26 1 #[(0, .agg (rcells r).toArray)]).run Try.prog w = .ok (.slice (some ⟨w.heap.size, 0, none⟩) 1 1) (w.alloc (.cells (rcells r).toArray 23)) := by kernel_rfl
theorem exec_row1 {a : Act} {o : Oper} {w : World} (x : Operand) (r : Rec) (ho : o.op = .buildSlice 26 1 #[(0, x)]) (hx : a.eval x = .agg (rcells r).toArray) :
    (execOp a.eval o).run Try.prog w = .ok (.value (.slice (some ⟨w.heap.size, 0, none⟩) 1 1)) (w.alloc (.cells (rcells r).toArray 23)) := by
  have h := run_row1 r w
  unfold execOp
  simp [ho, hx, h, Result.andThen]
set_option maxRecDepth 100000 in
theorem run_row2 (r q : Rec) (w : World) : (Instr.buildSlice 26 2 #[(0, .agg (rcells r).toArray), (1, .agg (rcells q).toArray)]).run Try.prog w = .ok (.slice (some ⟨w.heap.size, 0, none⟩) 2 2) (w.alloc (.cells (rcells r ++ rcells q).toArray 23)) := by kernel_rfl
theorem exec_row2 {a : Act} {o : Oper} {w : World} (x y : Operand) (r q : Rec) (ho : o.op = .buildSlice 26 2 #[(0, x), (1, y)]) (hx : a.eval x = .agg (rcells r).toArray) (hy : a.eval y = .agg (rcells q).toArray) :
    (execOp a.eval o).run Try.prog w = .ok (.value (.slice (some ⟨w.heap.size, 0, none⟩) 2 2)) (w.alloc (.cells (rcells r ++ rcells q).toArray 23)) := by
  have h := run_row2 r q w
  unfold execOp
  simp [ho, hx, hy, h, Result.andThen]
/-- Put of any record. -/
theorem cPut (r : Rec) (w : World) (hl : r.body.length ≤ 1048576) : Calls Try.prog 11 #[.agg (rcells r).toArray] w fun e w' => ∃ A n c E, e = .returned (.tuple #[.slice A n c, .int .i64 E]) ∧ Kp nob w w' ∧ ((good r = false ∧ E = 1) ∨ (good r = true ∧ E = 0 ∧ n = 36 + r.body.length ∧ Own 5 w' A n c (bvs (recB r)))) := by
  cases hg : good r with
  | false =>
    refine (put_no r w (by omega) hg).mono ?_
    rintro e w' ⟨rfl, k⟩
    exact ⟨none, 0, 0, 1, rfl, k, .inl ⟨rfl, rfl⟩⟩
  | true =>
    refine (put_yes r w hg).mono ?_
    rintro e w' ⟨A, c, rfl, ho, hf, k⟩
    exact ⟨A, _, c, 0, rfl, k, .inr ⟨rfl, rfl, rfl, ho⟩⟩
end Go.Proofs.Ytadhhnlolnnkhaa.Rec
