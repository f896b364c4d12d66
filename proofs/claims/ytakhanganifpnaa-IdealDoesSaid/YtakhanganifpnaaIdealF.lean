/- Operations that a law's drawn regions have, whatever came up ahead: strings as bytes, rows of one piece. -/
import Derived.Test.YtakhanganifpnaaIdealL
import Derived.Test.YtakhanganifpnaaRegF
namespace Go.Proofs.Ytakhanganifpnaa.Ideal
set_option linter.unusedVariables false
set_option linter.unusedSimpArgs false
open Go Go.RowKit Kit
open Sha (Pc PcsOk catP)

/-- Bytes of a string, made since a world of B blocks. -/
structure PA (B : Nat) (v : Value) (w : World) (n : Nat) (l : List UInt8) : Prop where
  of ::
  h : ∃ A c, v = .slice A n c ∧ ∀ F : Nat → Prop, (∀ k, F k → k < B) → Arg w F A n c l
theorem PA.keep {B : Nat} {v : Value} {w w2 : World} {n : Nat} {l : List UInt8} (h : PA B v w n l) (k : Kp nob w w2) : PA B v w2 n l := by
  obtain ⟨A, c, h1, h2⟩ := h.h
  exact ⟨A, c, h1, fun F hF => (h2 F hF).keep0 k⟩
/-- A row of one piece, made since. -/
structure PR (B : Nat) (v : Value) (w : World) (n : Nat) (l : List UInt8) : Prop where
  of ::
  h : ∃ q A c, v = .slice (some ⟨q, 0, none⟩) 1 1 ∧ ∀ F : Nat → Prop, (∀ k, F k → k < B) → Args w F (some ⟨q, 0, none⟩) 1 [⟨A, n, c, l⟩]
theorem PR.keep {B : Nat} {v : Value} {w w2 : World} {n : Nat} {l : List UInt8} (h : PR B v w n l) (k : Kp nob w w2) : PR B v w2 n l := by
  obtain ⟨q, A, c, h1, h2⟩ := h.h
  exact ⟨q, A, c, h1, fun F hF => (h2 F hF).keep0 k⟩
/-- A new block of noughts, made since. -/
structure PB (B : Nat) (v : Value) (w : World) (t : TypeId) (cs : List Value) : Prop where
  of ::
  h : ∃ q, v = .pointer (some ⟨q, 0, none⟩) ∧ Blk w q t cs ∧ B ≤ q
theorem PB.keep {B : Nat} {v : Value} {w w2 : World} {t : TypeId} {cs : List Value} (h : PB B v w t cs) (k : Kp nob w w2) : PB B v w2 t cs := by
  obtain ⟨q, h1, h2, h3⟩ := h.h
  exact ⟨q, h1, h2.keep k (fun e => e), h3⟩

section
variable {P : Program} {ops : Array Oper} {o : Oper} {a : Act} {w : World} {K : Act → World → Prop} {Q : Exit → Act → World → Prop} {E : Prop}
theorem step_exec {v : Value} {w' : World} (hgd : o.guard = none) (hx : (execOp a.eval o).run P w = .ok (.value v) w') (h : K (a.put o.dst v) w') : if Region.wanted o (yielded ops a.tmps) = true then Oper.wp P o a w K Q else E := by
  rw [if_pos (by simp [Region.wanted, hgd])]
  unfold Oper.wp
  rw [hx]
  exact h
theorem step_call {f : FuncId} {args : Array Value} (hgd : o.guard = none) (hx : (execOp a.eval o).run P w = .ok (.enter f args) w) (h : Calls P f args w fun e w' => ∃ v, e = .returned v ∧ K (a.put o.dst v) w') : if Region.wanted o (yielded ops a.tmps) = true then Oper.wp P o a w K Q else E := by
  rw [if_pos (by simp [Region.wanted, hgd])]
  unfold Oper.wp
  rw [hx, Oper.upon_enter]
  refine h.mono ?_
  rintro e w' ⟨v, rfl, h⟩
  exact h
end
section
variable {ops : Array Oper} {o : Oper} {a : Act} {w : World} {K : Act → World → Prop} {Q : Exit → Act → World → Prop} {E : Prop}
theorem step_str (B : Nat) (hB : B ≤ w.heap.size) (x : Operand) (hgd : o.guard = none) (ho : o.op = .convert 9 34 x) (l : List UInt8) (n : Nat) (hn : l.length = n) (hl : n ≤ 140737488355328) (hx : a.eval x = .string (str l))
    (h : ∀ v w', Kp nob w w' → PA B v w' n l → K (a.put o.dst v) w') : if Region.wanted o (yielded ops a.tmps) = true then Oper.wp Try.prog o a w K Q else E := by
  subst hn
  obtain ⟨c, w', hr, h1, h2, h3⟩ := str_arg (P := Try.prog) w 9 34 5 l (by unfold maxLen; omega) strI u8sI u8I
  refine step_exec (v := .slice (some ⟨w.heap.size, 0, none⟩) l.length c) (w' := w') hgd ?_ (h _ _ h1 ⟨_, c, rfl, fun F hF => h3 F (fun k e => Nat.lt_of_lt_of_le (hF k e) hB)⟩)
  unfold execOp
  simp only [ho, hx, Sem.run_bind, hr, Result.andThen_ok, Sem.run_pure]
theorem run_row1 (v : Value) (w : World) (A : Option Addr) (n c : Nat) (hv : v = .slice A n c) : (Instr.buildSlice 57 1 #[(0, v)]).run Try.prog w = .ok (.slice (some ⟨w.heap.size, 0, none⟩) 1 1) (w.alloc (.cells #[.slice A n c] 34)) := by
  subst hv; kernel_rfl
theorem step_row1 (B : Nat) (hB : B ≤ w.heap.size) (x : Operand) (hgd : o.guard = none) (ho : o.op = .buildSlice 57 1 #[(0, x)]) (l : List UInt8) (n : Nat) (v : Value) (hx : a.eval x = v) (hv : PA B v w n l)
    (h : ∀ v w', Kp nob w w' → PR B v w' n l → K (a.put o.dst v) w') : if Region.wanted o (yielded ops a.tmps) = true then Oper.wp Try.prog o a w K Q else E := by
  obtain ⟨A, c, h1, h2⟩ := hv.h
  have hr := run_row1 v w A n c h1
  refine step_exec (v := .slice (some ⟨w.heap.size, 0, none⟩) 1 1) (w' := w.alloc (.cells #[.slice A n c] 34)) hgd ?_ (h _ _ ((Kp.refl nob w).alloc _) ⟨w.heap.size, A, c, rfl, fun F hF => args_one (h2 F hF) (fun k e => Nat.lt_of_lt_of_le (hF k e) hB)⟩)
  unfold execOp
  simp only [ho, hx, Sem.run_bind, List.map_toArray, List.map_cons, List.map_nil, hr, Result.andThen_ok, Sem.run_pure]
end
end Go.Proofs.Ytakhanganifpnaa.Ideal
