/- Regions driven by hand: a call through an interface. No program is named here. -/
import Derived.Test.YtchdobneipfghaaRegU
namespace Go.Proofs.Ytchdobneipfghaa.Kit
set_option linter.unusedVariables false
set_option linter.unusedSimpArgs false
open Go Go.RowKit

/-- A call through an interface whose dynamic type is known. -/
theorem exec_invoke {P : Program} {a : Act} {o : Oper} {w : World} (f : FuncId) (T : TypeId) (u v : Value) (r : Operand) (nm : String) (xs : Array Operand) (ts : Array TypeId) (args : List Value) (ho : o.op = .call { callee := .invoke r nm, args := xs, argTypes := ts })
    (hr : a.eval r = .iface T u) (hm : (method (P.types.size + Made.depth) T u nm).run P w = .ok (f, v) w)
    (hf : (P.funcs[f]?).any (fun fn => !(fn.name == "runtime.NumGoroutine") && fn.body.isSome) = true) (hx : xs.toList.map a.eval = args) : (execOp a.eval o).run P w = .ok (.enter f (v :: args).toArray) w := by
  subst hx
  cases hq : P.funcs[f]? with
  | none => rw [hq] at hf; cases hf
  | some fn =>
    rw [hq] at hf
    simp only [Option.any_some, Bool.and_eq_true, Bool.not_eq_true'] at hf
    obtain ⟨h1, h2⟩ := hf
    have h3 : fn.body.isNone = false := by cases hb : fn.body <;> simp_all
    have e : ∀ zs : Array Value, (callFunc f zs).run P w = .ok (.enter f zs) w := by
      intro zs
      unfold callFunc
      simp [go_sem, hq]
      simp at h1
      cases hb : fn.body with
      | none => simp [hb] at h3
      | some c => simp [h1]
    have e2 : (#[v] ++ xs.map a.eval) = (v :: List.map a.eval xs.toList).toArray := by apply Array.ext'; simp
    unfold execOp
    simp only [ho, resolve, Sem.run_bind, Sem.run_pure, Result.andThen_ok]
    unfold Go.invoke
    have e3 : (#[a.eval r] ++ xs.map a.eval)[0]? = some (.iface T u) := by rw [hr, ← Array.getElem?_toList, Array.toList_append]; rfl
    have e4 : (#[a.eval r] ++ xs.map a.eval).extract 1 (#[a.eval r] ++ xs.map a.eval).size = xs.map a.eval   := by apply Array.ext'; simp; exact List.take_of_length_le (by simp)
    simp only [e3, e4]
    unfold callMethod
    simp only [Sem.run_bind, run_program, Result.andThen_ok, hm, e2, e]
end Go.Proofs.Ytchdobneipfghaa.Kit
