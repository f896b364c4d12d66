/- The code's ideal world beside arguments and blocks that stay, behind calls; digests and strings compared. -/
import Derived.Test.YtakhanganifpnaaIdealF
import Derived.Stop.BytesEq
namespace Go.Proofs.Ytakhanganifpnaa.Ideal
set_option linter.unusedVariables false
set_option linter.unusedSimpArgs false
open Go Go.RowKit Kit
open Sha (Pc PcsOk catP)

theorem op_is {ops : Array Oper} {i : Nat} {o o' : Oper} (h : ops[i]? = some o) (h' : ops[i]? = some o') : o = o' := Option.some.inj (h.symm.trans h')
theorem row_far {w : World} {F : Nat → Prop} {G : Nat → Prop} {A : Option Addr} {xs : List Value} (h : Row w A xs) (hx : xs ≠ []) (hf : ∀ k, ab A = some k → ¬ F k) (f : ∀ k, G k → F k ∨ w.heap.size ≤ k) : ∀ k, ab A = some k → ¬ G k := fun k e e2 => by
  have hlt := h.lt hx k e
  exact (f k e2).elim (fun e2 => hf k e e2) (fun e2 => by omega)
theorem Arg.go {w w2 : World} {F G : Nat → Prop} {A : Option Addr} {n c : Nat} {l : List UInt8} (h : Arg w F A n c l) (k : Kp F w w2) (f : ∀ k, G k → F k ∨ w.heap.size ≤ k) : Arg w2 G A n c l := by
  by_cases e : l = []
  · subst e; exact ⟨h.len, Row.nil _ _, .inl rfl, h.cap, h.mx, h.nil⟩
  · have hf := h.far.resolve_left e
    exact ⟨h.len, h.row.keep k hf, .inr (row_far h.row (by simpa [bvs] using e) hf f), h.cap, h.mx, h.nil⟩
theorem Args.go {w w2 : World} {F G : Nat → Prop} {A : Option Addr} {m : Nat} {ps : List Pc} (h : Args w F A m ps) (k : Kp F w w2) (f : ∀ k, G k → F k ∨ w.heap.size ≤ k) : Args w2 G A m ps := by
  have hp : PcsOk w2 G ps := fun p hp => by
    obtain ⟨h1, h2, h3, h4, h5⟩ := h.pcs p hp
    by_cases e : p.l = []
    · exact ⟨h1, by rw [e]; exact Row.nil _ _, .inl e, h4, h5⟩
    · have hf := h3.resolve_left e
      exact ⟨h1, h2.keep k hf, .inr (row_far h2 (by simpa [bvs] using e) hf f), h4, h5⟩
  by_cases e : ps = []
  · subst e; exact ⟨h.len, Row.nil _ _, .inl rfl, hp, h.nil, h.max⟩
  · have hf := h.far.resolve_left e
    exact ⟨h.len, h.row.keep k hf, .inr (row_far h.row (by simpa using e) hf f), hp, h.nil, h.max⟩
/-- The code's world, blocks X of 32 bytes and arguments R beside it, since wB. -/
structure Pk (wB : World) (p : Nat) (ts : List Thing) (X : List (Nat × List UInt8)) (R : List Pc) (F : Nat → Prop) (w : World) : Prop where
  i : Iw w p F ts
  f : ∀ k, F k → wB.heap.size ≤ k
  k : Kp nob wB w
  x : ∀ q ∈ X, Blk w q.1 41 (bvs q.2) ∧ ¬ F q.1 ∧ wB.heap.size ≤ q.1
  r : ∀ q ∈ R, Arg w F q.A q.n q.c q.l
theorem Pk.keep {wB w w2 : World} {p : Nat} {ts : List Thing} {X : List (Nat × List UInt8)} {R : List Pc} {F : Nat → Prop} (h : Pk wB p ts X R F w) (k : Kp nob w w2) : Pk wB p ts X R F w2 :=
  ⟨h.i.keep k (fun _ _ e => e), h.f, h.k.trans k (fun _ e => e.elim), fun q hq => ⟨(h.x q hq).1.keep k (fun e => e), (h.x q hq).2⟩, fun q hq => (h.r q hq).keep0 k⟩
theorem Pk.go {wB w w2 : World} {p : Nat} {ts ts2 : List Thing} {X : List (Nat × List UInt8)} {R : List Pc} {F F2 : Nat → Prop} (h : Pk wB p ts X R F w) (q : Iq w F w2 p F2 ts2) : Pk wB p ts2 X R F2 w2 :=
  ⟨q.i, fun k e => (q.f k e).elim (h.f k) (fun e => Nat.le_trans h.k.size e), h.k.since q.k h.f, fun x hx => ⟨(h.x x hx).1.keep q.k (h.x x hx).2.1, fun e => (q.f _ e).elim (h.x x hx).2.1 (fun e => by have := (h.x x hx).1.lt; omega), (h.x x hx).2.2⟩, fun r hr => (h.r r hr).go q.k q.f⟩
theorem Pk.addR {wB w : World} {p : Nat} {ts : List Thing} {X : List (Nat × List UInt8)} {R : List Pc} {F : Nat → Prop} (h : Pk wB p ts X R F w) {A : Option Addr} {n c : Nat} {l : List UInt8} (ha : Arg w F A n c l) : Pk wB p ts X (⟨A, n, c, l⟩ :: R) F w :=
  ⟨h.i, h.f, h.k, h.x, fun q hq => by
    rcases List.mem_cons.1 hq with rfl | hq
    · exact ha
    · exact h.r q hq⟩
/-- A block of 32 bytes is filled. -/
theorem Pk.store {wB w w2 : World} {p : Nat} {ts : List Thing} {X : List (Nat × List UInt8)} {R : List Pc} {F : Nat → Prop} (h : Pk wB p ts X R F w) {q : Nat} {D : List UInt8} (hq : ¬ F q) (hb : wB.heap.size ≤ q) (hx : ∀ x ∈ X, x.1 ≠ q) (hr : ∀ r ∈ R, r.l = [] ∨ ∀ k, ab r.A = some k → k ≠ q) (k : Kp (oneB q) w w2) (hB : Blk w2 q 41 (bvs D)) : Pk wB p ts ((q, D) :: X) R F w2 :=
  ⟨h.i.keep k (fun i e e2 => hq (by rw [← show i = q from e2]; exact e)), h.f, h.k.since k (fun i e => by rw [show i = q from e]; exact hb), fun x hxm => by
    rcases List.mem_cons.1 hxm with rfl | hxm
    · exact ⟨hB, hq, hb⟩
    · exact ⟨(h.x x hxm).1.keep k (fun e => hx x hxm e), (h.x x hxm).2⟩, fun r hrm => by
    have ha := h.r r hrm
    rcases hr r hrm with e | e
    · exact ⟨ha.len, by rw [e]; exact Row.nil _ _, .inl e, ha.cap, ha.mx, ha.nil⟩
    · exact ⟨ha.len, ha.row.keep k (fun j e1 e2 => e j e1 e2), ha.far, ha.cap, ha.mx, ha.nil⟩⟩
/-- The blocks are told in another order. -/
theorem Pk.less {wB w : World} {p : Nat} {ts : List Thing} {X Y : List (Nat × List UInt8)} {R S : List Pc} {F : Nat → Prop} (h : Pk wB p ts X R F w) (hX : ∀ x ∈ Y, x ∈ X) (hR : ∀ r ∈ S, r ∈ R) : Pk wB p ts Y S F w :=
  ⟨h.i, h.f, h.k, fun x hx => h.x x (hX x hx), fun r hr => h.r r (hR r hr)⟩

/-- Bytes, a row of pieces, a block of noughts: each apart from the world's blocks. -/
structure PAF (F : Nat → Prop) (v : Value) (w : World) (n : Nat) (l : List UInt8) : Prop where
  of ::
  h : ∃ A c, v = .slice A n c ∧ Arg w F A n c l
structure PRF (F : Nat → Prop) (v : Value) (w : World) (n : Nat) (l : List UInt8) : Prop where
  of ::
  h : ∃ q A c, v = .slice (some ⟨q, 0, none⟩) 1 1 ∧ Args w F (some ⟨q, 0, none⟩) 1 [⟨A, n, c, l⟩]
structure PBF (B : Nat) (F : Nat → Prop) (v : Value) (w : World) : Prop where
  of ::
  h : ∃ q, v = .pointer (some ⟨q, 0, none⟩) ∧ Blk w q 41 zc ∧ ¬ F q ∧ B ≤ q
section
variable {w w2 : World} {F G : Nat → Prop} {v : Value} {n B p : Nat} {l : List UInt8} {ts : List Thing}
theorem PAF.keep (h : PAF F v w n l) (k : Kp nob w w2) : PAF F v w2 n l := by
  obtain ⟨A, c, h1, h2⟩ := h.h
  exact ⟨A, c, h1, h2.keep0 k⟩
theorem PAF.go (h : PAF F v w n l) (q : Iq w F w2 p G ts) : PAF G v w2 n l := by
  obtain ⟨A, c, h1, h2⟩ := h.h
  exact ⟨A, c, h1, h2.go q.k q.f⟩
theorem PRF.keep (h : PRF F v w n l) (k : Kp nob w w2) : PRF F v w2 n l := by
  obtain ⟨q, A, c, h1, h2⟩ := h.h
  exact ⟨q, A, c, h1, h2.keep0 k⟩
theorem PRF.go (h : PRF F v w n l) (q : Iq w F w2 p G ts) : PRF G v w2 n l := by
  obtain ⟨q', A, c, h1, h2⟩ := h.h
  exact ⟨q', A, c, h1, h2.go q.k q.f⟩
theorem PBF.keep (h : PBF B F v w) (k : Kp nob w w2) : PBF B F v w2 := by
  obtain ⟨q, h1, h2, h3⟩ := h.h
  exact ⟨q, h1, h2.keep k (fun e => e), h3⟩
theorem PBF.go (h : PBF B F v w) (q : Iq w F w2 p G ts) : PBF B G v w2 := by
  obtain ⟨r, h1, h2, h3, h4⟩ := h.h
  exact ⟨r, h1, h2.keep q.k h3, fun e => (q.f _ e).elim h3 (fun e => by have := h2.lt; omega), h4⟩
theorem PBF.new (hF : ∀ k, F k → k < w.heap.size) (hB : B ≤ w.heap.size) : PBF B F (.pointer (some ⟨w.heap.size, 0, none⟩)) (w.alloc (.cells zc.toArray 41)) :=
  ⟨w.heap.size, rfl, Blk.new w _ _, fun e => Nat.lt_irrefl _ (hF _ e), hB⟩
/-- It isn't one that was there. -/
theorem PBF.ne (h : PBF B F v w) : v ≠ .pointer (some ⟨w.heap.size, 0, none⟩) := by
  obtain ⟨q, h1, h2, _⟩ := h.h
  intro e
  rw [h1] at e
  have := h2.lt
  injection e with e
  injection e with e
  injection e with e
  omega
end
theorem wanted_of {ops : Array Oper} {o : Oper} {a : Act} (j d : Nat) (hg : o.guard = some (j, true)) (hd : (ops[j]?).bind (·.dst) = some d) (he : a.eval (.tmp d) = .bool true) : Region.wanted o (yielded ops a.tmps) = true := by
  have he : a.tmps.getD d undef = .bool true := he
  rw [Array.getD_eq_getD_getElem?] at he
  have h2 : a.tmps[d]? = some (.bool true) := by
    cases hq : a.tmps[d]? with
    | none => rw [hq] at he; simp [undef] at he
    | some v => rw [hq] at he; exact congrArg some he
  unfold Region.wanted
  rw [hg]
  have hy : yielded ops a.tmps j = some true := by
    unfold yielded
    rw [hd]
    simp [h2]
  simp [hy]
section
variable {ops : Array Oper} {o : Oper} {a : Act} {w : World} {K : Act → World → Prop} {Q : Exit → Act → World → Prop} {E : Prop}
theorem step_execW {P : Program} {v : Value} {w' : World} (hw : Region.wanted o (yielded ops a.tmps) = true) (hx : (execOp a.eval o).run P w = .ok (.value v) w') (h : K (a.put o.dst v) w') : if Region.wanted o (yielded ops a.tmps) = true then Oper.wp P o a w K Q else E := by
  rw [if_pos hw]
  unfold Oper.wp
  rw [hx]
  exact h
theorem step_callW {P : Program} {f : FuncId} {args : Array Value} (hw : Region.wanted o (yielded ops a.tmps) = true) (hx : (execOp a.eval o).run P w = .ok (.enter f args) w) (h : Calls P f args w fun e w' => ∃ v, e = .returned v ∧ K (a.put o.dst v) w') : if Region.wanted o (yielded ops a.tmps) = true then Oper.wp P o a w K Q else E := by
  rw [if_pos hw]
  unfold Oper.wp
  rw [hx, Oper.upon_enter]
  refine h.mono ?_
  rintro e w' ⟨v, rfl, h⟩
  exact h
theorem step_strF (F : Nat → Prop) (hF : ∀ k, F k → k < w.heap.size) (x : Operand) (hw : Region.wanted o (yielded ops a.tmps) = true) (ho : o.op = .convert 9 34 x) (l : List UInt8) (n : Nat) (hn : l.length = n) (hl : n ≤ 140737488355328) (hx : a.eval x = .string (str l))
    (h : ∀ v w', Kp nob w w' → PAF F v w' n l → K (a.put o.dst v) w') : if Region.wanted o (yielded ops a.tmps) = true then Oper.wp Try.prog o a w K Q else E := by
  subst hn
  obtain ⟨c, w', hr, h1, h2, h3⟩ := str_arg (P := Try.prog) w 9 34 5 l (by unfold maxLen; omega) strI u8sI u8I
  refine step_execW (v := .slice (some ⟨w.heap.size, 0, none⟩) l.length c) (w' := w') hw ?_ (h _ _ h1 ⟨_, c, rfl, h3 F hF⟩)
  unfold execOp
  simp only [ho, hx, Sem.run_bind, hr, Result.andThen_ok, Sem.run_pure]
theorem step_rowF (F : Nat → Prop) (hF : ∀ k, F k → k < w.heap.size) (x : Operand) (hw : Region.wanted o (yielded ops a.tmps) = true) (ho : o.op = .buildSlice 57 1 #[(0, x)]) (l : List UInt8) (n : Nat) (v : Value) (hx : a.eval x = v) (hv : PAF F v w n l)
    (h : ∀ v w', Kp nob w w' → PRF F v w' n l → K (a.put o.dst v) w') : if Region.wanted o (yielded ops a.tmps) = true then Oper.wp Try.prog o a w K Q else E := by
  obtain ⟨A, c, h1, h2⟩ := hv.h
  have hr := run_row1 v w A n c h1
  refine step_execW (v := .slice (some ⟨w.heap.size, 0, none⟩) 1 1) (w' := w.alloc (.cells #[.slice A n c] 34)) hw ?_ (h _ _ ((Kp.refl nob w).alloc _) ⟨w.heap.size, A, c, rfl, args_one h2 hF⟩)
  unfold execOp
  simp only [ho, hx, Sem.run_bind, List.map_toArray, List.map_cons, List.map_nil, hr, Result.andThen_ok, Sem.run_pure]
theorem step_newF (B : Nat) (F : Nat → Prop) (hF : ∀ k, F k → k < w.heap.size) (hB : B ≤ w.heap.size) (hw : Region.wanted o (yielded ops a.tmps) = true) (ho : o.op = .alloc 41)
    (h : Kp nob w (w.alloc (.cells zc.toArray 41)) → PBF B F (.pointer (some ⟨w.heap.size, 0, none⟩)) (w.alloc (.cells zc.toArray 41)) → K (a.put o.dst (.pointer (some ⟨w.heap.size, 0, none⟩))) (w.alloc (.cells zc.toArray 41))) : if Region.wanted o (yielded ops a.tmps) = true then Oper.wp Try.prog o a w K Q else E := by
  have hz := zc_run
  refine step_execW (v := .pointer (some ⟨w.heap.size, 0, none⟩)) (w' := w.alloc (.cells zc.toArray 41)) hw ?_ (h ((Kp.refl nob w).alloc _) (PBF.new hF hB))
  unfold execOp
  simp only [ho]
  go_simp
end

theorem eq32 (xs ys : List UInt8) (hx : xs.length = 32) (hy : ys.length = 32) (w : World) : (Op.equalIn 10000 41 (.agg (bvs xs).toArray) (.agg (bvs ys).toArray)).run Try.prog w = .ok (xs == ys) w :=
  run_equalIn_bytes w 9998 41 5 32 arr32_under u8I (fun _ => by kernel_rfl) xs ys hx hy
theorem exec_eq32 {a : Act} {o : Oper} {w : World} (i j : Nat) (u : TypeId) (l m : List UInt8) (hl : l.length = 32) (hm : m.length = 32) (ho : o.op = .binOp .eql 41 (.tmp i) (.tmp j) u) (hx : a.eval (.tmp i) = .agg (bvs l).toArray) (hy : a.eval (.tmp j) = .agg (bvs m).toArray) : (execOp a.eval o).run Try.prog w = .ok (.value (.bool (decide (l = m)))) w := by
  have hg : (eqGuard .eql 41 (.tmp i) (.tmp j) (.agg (bvs l).toArray) (.agg (bvs m).toArray)).run Try.prog w = .ok () w := by kernel_rfl
  have hn : (binOp .eql 41 (.agg (bvs l).toArray) (.agg (bvs m).toArray)).run Try.prog w = .ok (.bool (decide (l = m))) w := by
    have h : (Op.equal 41 (.agg (bvs l).toArray) (.agg (bvs m).toArray)).run Try.prog w = .ok (l == m) w := eq32 l m hl hm w
    have hd : (l == m) = decide (l = m) := by rw [Bool.eq_iff_iff]; simp
    simp only [binOp]
    simp [h, hd, Result.andThen]
  unfold execOp
  simp only [ho, hx, hy, Sem.run_bind, hg, hn, Result.andThen_ok, Sem.run_pure]
theorem exec_ne32 {a : Act} {o : Oper} {w : World} (i j : Nat) (u : TypeId) (l m : List UInt8) (hl : l.length = 32) (hm : m.length = 32) (ho : o.op = .binOp .neq 41 (.tmp i) (.tmp j) u) (hx : a.eval (.tmp i) = .agg (bvs l).toArray) (hy : a.eval (.tmp j) = .agg (bvs m).toArray) : (execOp a.eval o).run Try.prog w = .ok (.value (.bool (!decide (l = m)))) w := by
  have hg : (eqGuard .neq 41 (.tmp i) (.tmp j) (.agg (bvs l).toArray) (.agg (bvs m).toArray)).run Try.prog w = .ok () w := by kernel_rfl
  have hn : (binOp .neq 41 (.agg (bvs l).toArray) (.agg (bvs m).toArray)).run Try.prog w = .ok (.bool (!decide (l = m))) w := by
    have h : (Op.equal 41 (.agg (bvs l).toArray) (.agg (bvs m).toArray)).run Try.prog w = .ok (l == m) w := eq32 l m hl hm w
    have hd : (l == m) = decide (l = m) := by rw [Bool.eq_iff_iff]; simp
    simp only [binOp]
    simp [h, hd, Result.andThen]
  unfold execOp
  simp only [ho, hx, hy, Sem.run_bind, hg, hn, Result.andThen_ok, Sem.run_pure]
theorem eql_str (w : World) (l m : List UInt8) : (binOp .eql 9 (.string (str l)) (.string (str m))).run Try.prog w = .ok (.bool (decide (l = m))) w := by
  rw [binOp_string_eql, beq_sl]; rfl
theorem exec_eql {a : Act} {o : Oper} {w : World} (i j : Nat) (u : TypeId) (l m : List UInt8) (ho : o.op = .binOp .eql 9 (.tmp i) (.tmp j) u) (hx : a.eval (.tmp i) = .string (str l)) (hy : a.eval (.tmp j) = .string (str m)) : (execOp a.eval o).run Try.prog w = .ok (.value (.bool (decide (l = m)))) w := by
  have hg : (eqGuard .eql 9 (.tmp i) (.tmp j) (.string (str l)) (.string (str m))).run Try.prog w = .ok () w := by kernel_rfl
  have hn := eql_str w l m
  unfold execOp
  simp only [ho, hx, hy, Sem.run_bind, hg, hn, Result.andThen_ok, Sem.run_pure]
theorem exec_eqb {a : Act} {o : Oper} {w : World} (i j : Nat) (u : TypeId) (x y : Bool) (ho : o.op = .binOp .eql 4 (.tmp i) (.tmp j) u) (hx : a.eval (.tmp i) = .bool x) (hy : a.eval (.tmp j) = .bool y) : (execOp a.eval o).run Try.prog w = .ok (.value (.bool (x == y))) w := by
  have hg : (eqGuard .eql 4 (.tmp i) (.tmp j) (.bool x) (.bool y)).run Try.prog w = .ok () w := by kernel_rfl
  have hn : (binOp .eql 4 (.bool x) (.bool y)).run Try.prog w = .ok (.bool (x == y)) w := by cases x <;> cases y <;> kernel_rfl
  unfold execOp
  simp only [ho, hx, hy, Sem.run_bind, hg, hn, Result.andThen_ok, Sem.run_pure]
theorem wpList_exec_gd {P : Program} {w w' : World} {ops : Array Oper} {rest : List Oper} {o : Oper} {a : Act} {Q : Exit → Act → World → Prop} {v : Value} (hw : Region.wanted o (yielded ops a.tmps) = true)
    (hx : (execOp a.eval o).run P w = .ok (.value v) w') (h : wpList P ops Q rest (a.put o.dst v) w') : wpList P ops Q (o :: rest) a w :=
  wpList_step fun K hK => by
    rw [if_pos hw]
    unfold Oper.wp
    rw [hx]
    exact hK _ _ h
end Go.Proofs.Ytakhanganifpnaa.Ideal
