/- Two things that registers say, compared. -/
import Derived.Test.YtchdobneipfghaaZMtL
import Derived.Laws.StructEq
import Derived.Stop.BytesEq
namespace Go.Proofs.Ytchdobneipfghaa.Meter
set_option linter.unusedVariables false
set_option linter.unusedSimpArgs false
open Go Go.RowKit Kit Disk

/-- The walk stands at an operation (an arm that is asked elsewhere falls at once). -/
theorem wpList_here {P : Program} {ops : Array Oper} {l : List Oper} {a : Act} {w : World} {Q : Exit → Act → World → Prop} (h : wpList P ops Q l a w) : wpList P ops Q l a w := h
theorem eq32 (xs ys : List UInt8) (hx : xs.length = 32) (hy : ys.length = 32) (w : World) : (Op.equalIn 9999 32 (.agg (bvs xs).toArray) (.agg (bvs ys).toArray)).run Try.prog w = .ok (xs == ys) w :=
  run_equalIn_bytes w 9997 32 5 32 root_under (by kernel_rfl) (fun _ => by kernel_rfl) xs ys hx hy
set_option maxRecDepth 100000 in
theorem part0 (f : Fin 32 → UInt8) (c e : Int) (w : World) : (part 3 (Value.int .i64 c :: .int .i64 e :: bvs (List.ofFn f)).toArray 0).run Try.prog w = .ok (.int .i64 c) w := by kernel_rfl
set_option maxRecDepth 100000 in
theorem part1 (f : Fin 32 → UInt8) (c e : Int) (w : World) : (part 3 (Value.int .i64 c :: .int .i64 e :: bvs (List.ofFn f)).toArray 1).run Try.prog w = .ok (.int .i64 e) w := by kernel_rfl
set_option maxRecDepth 100000 in
theorem part2 (f : Fin 32 → UInt8) (c e : Int) (w : World) : (part 32 (Value.int .i64 c :: .int .i64 e :: bvs (List.ofFn f)).toArray 2).run Try.prog w = .ok (.agg (bvs (List.ofFn f)).toArray) w := by kernel_rfl
set_option maxRecDepth 100000 in
theorem val_fields : (Try.prog.fieldsOf 48).toList.map (fun f => (decide (f.name ≠ "_"), f.type, f.offset)) = [(true, 3, 0), (true, 3, 1), (true, 32, 2)] := by kernel_rfl
theorem int_eq1 (d : Nat) (x y : Int) (w : World) : (Op.equalIn (d + 1) 3 (.int .i64 x) (.int .i64 y)).run Try.prog w = .ok (x == y) w := by
  have hu : Try.prog.underlying 3 = some (.int .i64) := by kernel_rfl
  simp [Op.equalIn, run_underlying hu]
theorem int_eq (x y : Int) (w : World) : (Op.equalIn 9999 3 (.int .i64 x) (.int .i64 y)).run Try.prog w = .ok (x == y) w := int_eq1 9998 x y w
/-- Two values, compared. -/
def sameV (t u : Mt) : Bool := ((t.count : Int) == (u.count : Int)) && ((t.epoch == u.epoch) && (t.root == u.root))
theorem sameV_iff (t u : Mt) : sameV t u = true ↔ t.count = u.count ∧ t.epoch = u.epoch ∧ t.root = u.root := by
  simp only [sameV, Bool.and_eq_true, beq_iff_eq, Int.natCast_inj]
theorem eqV (t u : Mt) (ht : t.root.length = 32) (hu : u.root.length = 32) (w : World) : (Op.equalIn 10000 48 (.agg (vcells t).toArray) (.agg (vcells u).toArray)).run Try.prog w = .ok (sameV t u) w := by
  rw [run_equalIn_struct w 9999 48 _ _ (by kernel_rfl) (by kernel_rfl)]
  have hf := val_fields
  generalize (Try.prog.fieldsOf 48).toList = fs at hf
  have hl : fs.length = 3 := by have := congrArg List.length hf; simpa using this
  obtain ⟨f0, f1, f2, rfl⟩ : ∃ a b c, fs = [a, b, c] := by
    match fs, hl with
    | [a, b, c], _ => exact ⟨a, b, c, rfl⟩
  · simp only [List.map_cons, List.map_nil, List.cons.injEq, Prod.mk.injEq, decide_eq_true_iff, and_true] at hf
    obtain ⟨⟨n0, t0, o0⟩, ⟨n1, t1, o1⟩, ⟨n2, t2, o2⟩⟩ := hf
    obtain ⟨a, e, r, q⟩ := t
    obtain ⟨a', e', r', q'⟩ := u
    have he := fun w => eq32 r r' ht hu w
    obtain ⟨f, rfl⟩ := list_fn 32 r ht
    obtain ⟨f', rfl⟩ := list_fn 32 r' hu
    simp only [Op.eqFields, if_pos n0, if_pos n1, if_pos n2, t0, t1, t2, o0, o1, o2, vcells, Sem.run_bind, part0, part1, part2, Result.andThen_ok, int_eq, he, Sem.run_ite, Sem.run_pure, sameV]
    cases ((a : Int) == (a' : Int)) <;> cases (e == e') <;> cases (List.ofFn f == List.ofFn f') <;> rfl
theorem exec_neV {a : Act} {o : Oper} {w : World} (i j : Nat) (k : TypeId) (t u : Mt) (ht : t.root.length = 32) (hu : u.root.length = 32) (ho : o.op = .binOp .neq 48 (.tmp i) (.tmp j) k) (hi : a.eval (.tmp i) = .agg (vcells t).toArray) (hj : a.eval (.tmp j) = .agg (vcells u).toArray) :
    (execOp a.eval o).run Try.prog w = .ok (.value (.bool (!(sameV t u)))) w := by
  have hg : (eqGuard .neq 48 (.tmp i) (.tmp j) (.agg (vcells t).toArray) (.agg (vcells u).toArray)).run Try.prog w = .ok () w := by kernel_rfl
  have hn : (binOp .neq 48 (.agg (vcells t).toArray) (.agg (vcells u).toArray)).run Try.prog w = .ok (.bool (!(sameV t u))) w := by
    have h : (Op.equal 48 (.agg (vcells t).toArray) (.agg (vcells u).toArray)).run Try.prog w = .ok (sameV t u) w := eqV t u ht hu w
    simp only [binOp]
    simp [h, Result.andThen]
  unfold execOp
  simp only [ho, hi, hj, Sem.run_bind, hg, hn, Result.andThen_ok, Sem.run_pure]
theorem exec_neV_same {a : Act} {o : Oper} {w : World} (i j : Nat) (k : TypeId) (t : Mt) (ht : t.root.length = 32) (ho : o.op = .binOp .neq 48 (.tmp i) (.tmp j) k) (hi : a.eval (.tmp i) = .agg (vcells t).toArray) (hj : a.eval (.tmp j) = .agg (vcells t).toArray) :
    (execOp a.eval o).run Try.prog w = .ok (.value (.bool false)) w := by
  have h := exec_neV i j k t t ht ht ho hi hj (w := w)
  rw [(sameV_iff t t).2 ⟨rfl, rfl, rfl⟩] at h
  exact h
end Go.Proofs.Ytchdobneipfghaa.Meter
