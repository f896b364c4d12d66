/- Regions driven by hand: a load, or a call, either may come next. No program is named here. -/
import Derived.Test.YtadhhnlolnnkhaaRegT
namespace Go.Proofs.Ytadhhnlolnnkhaa.Kit
set_option linter.unusedVariables false
set_option linter.unusedSimpArgs false
open Go Go.RowKit
section
variable {P : Program} {md : Region.Mode} {ops : Array Oper} {Q : Exit → Act → World → Prop} {S : World → Prop}
/-- A whole value is loaded, or a call is made: either may come next. -/
theorem reg_loadOr {oi oj : Oper} {fuel : Nat} {listed : Array Bool} {a : Act} {w : World} (i j : Nat) (d e : Option Tmp) (ty : TypeId) (x : Operand) (hi : ops[i]? = some oi) (hd : oi.dst = d) (ho : oi.op = .load ty x) (hj : ops[j]? = some oj) (he : oj.dst = e) (hr : Region.ready md ops listed = [i, j])
    (hw : Region.wanted oi (yielded ops a.tmps) = true) (hv : Region.wanted oj (yielded ops a.tmps) = true) (hS : S w) (b o : Nat) (hx : a.eval x = .pointer (some ⟨b, o, none⟩)) (cs : List Value) (dd : TypeDesc) (hc : w.rangeAt b o cs) (hu : P.underlying ty = some dd) (hdd : dd.isRow = true) (hz : (P.info? ty).map (·.size) = some cs.length)
    (f : FuncId) (args : Array Value) (hy : (execOp a.eval oj).run P w = .ok (.enter f args) w)
    (h : wpAnyH P md ops (NoPanic Q) S fuel (listed.setIfInBounds i true) (a.put d (.agg cs.toArray)) w)
    (h' : Calls P f args w fun e' w' => ∃ v, e' = .returned v ∧ S w' ∧ (S w' → wpAnyH P md ops (NoPanic Q) S fuel (listed.setIfInBounds j true) (a.put e v) w')) : wpAnyH P md ops (NoPanic Q) S (fuel + 1) listed a w := by
  subst hd; subst he
  have hr2 := run_loadAt_mid (P := P) w b o ty cs dd hc hu hdd hz
  have e2 : (execOp a.eval oi).run P w = .ok (.value (.agg cs.toArray)) w := by
    unfold execOp
    simp only [ho, hx, Sem.run_bind, hr2, Result.andThen_ok, Sem.run_pure]
  refine wpAnyH_ready hr (by simp) (AllReadyH.cons hi (fun K' hK => ?_) (AllReadyH.cons hj (fun K' hK => ?_) AllReadyH.nil))
  · rw [if_pos hw]
    unfold Oper.wp
    rw [e2]
    exact hK.out _ _ hS fun _ => h
  · rw [if_pos hv]
    unfold Oper.wp
    rw [hy, Oper.upon_enter]
    refine h'.mono ?_
    rintro e w' ⟨v, rfl, hS, h⟩
    exact hK.out _ _ hS h
end
/-- A call of a function by its number. -/
theorem exec_func {P : Program} {a : Act} {o : Oper} {w : World} (f : FuncId) (xs : Array Operand) (ts : Array TypeId) (args : List Value) (ho : o.op = .call { callee := .value (.func f), args := xs, argTypes := ts })
    (hf : (P.funcs[f]?).any (fun fn => !(fn.name == "runtime.NumGoroutine") && fn.body.isSome) = true) (hx : xs.toList.map a.eval = args) : (execOp a.eval o).run P w = .ok (.enter f args.toArray) w := by
  subst hx
  cases hq : P.funcs[f]? with
  | none => rw [hq] at hf; cases hf
  | some fn =>
    rw [hq] at hf
    simp only [Option.any_some, Bool.and_eq_true, Bool.not_eq_true'] at hf
    obtain ⟨h1, h2⟩ := hf
    have h3 : fn.body.isNone = false := by cases hb : fn.body <;> simp_all
    have e : (callFunc f (xs.map a.eval)).run P w = .ok (.enter f (xs.map a.eval)) w := by
      unfold callFunc
      simp [go_sem, hq]
      simp at h1
      cases hb : fn.body with
      | none => simp [hb] at h3
      | some c => simp [h1]
    have e2 : (List.map a.eval xs.toList).toArray = xs.map a.eval := by apply Array.ext'; simp
    rw [e2]
    unfold execOp
    simp [ho, resolve, go_sem]
    exact e
end Go.Proofs.Ytadhhnlolnnkhaa.Kit
