/- Regions driven by hand: an operation, or a call, either may come next; one element is appended to a slice in the midst of a block. No program is named here. -/
import Derived.Test.YtfbdjjcnibgjnaaRegM
import Derived.Test.YtfbdjjcnibgjnaaRowAt
namespace Go.Proofs.Ytfbdjjcnibgjnaa.Kit
set_option linter.unusedVariables false
set_option linter.unusedSimpArgs false
open Go Go.RowKit
section
variable {P : Program} {md : Region.Mode} {ops : Array Oper} {Q : Exit → Act → World → Prop} {S : World → Prop}
/-- An operation that runs in the world as it is, or a call: either may come next. -/
theorem reg_orCall {oi oj : Oper} {v : Value} {fuel : Nat} {listed : Array Bool} {a : Act} {w w' : World} (i j : Nat) (d e : Option Tmp) (hi : ops[i]? = some oi) (hd : oi.dst = d) (hj : ops[j]? = some oj) (he : oj.dst = e) (hr : Region.ready md ops listed = [i, j])
    (hw : Region.wanted oi (yielded ops a.tmps) = true) (hv : Region.wanted oj (yielded ops a.tmps) = true) (f : FuncId) (args : Array Value) (hx : (execOp a.eval oi).run P w = .ok (.value v) w') (hy : (execOp a.eval oj).run P w = .ok (.enter f args) w) (hS : S w')
    (h : S w' → wpAnyH P md ops (NoPanic Q) S fuel (listed.setIfInBounds i true) (a.put d v) w')
    (hc : Calls P f args w fun e' w' => ∃ v, e' = .returned v ∧ S w' ∧ (S w' → wpAnyH P md ops (NoPanic Q) S fuel (listed.setIfInBounds j true) (a.put e v) w')) : wpAnyH P md ops (NoPanic Q) S (fuel + 1) listed a w := by
  subst hd; subst he
  refine wpAnyH_ready hr (by simp) (AllReadyH.cons hi (fun K' hK => ?_) (AllReadyH.cons hj (fun K' hK => ?_) AllReadyH.nil))
  · rw [if_pos hw]
    unfold Oper.wp
    rw [hx]
    exact hK.out _ _ hS h
  · rw [if_pos hv]
    unfold Oper.wp
    rw [hy, Oper.upon_enter]
    refine hc.mono ?_
    rintro e w' ⟨v, rfl, hS, h⟩
    exact hK.out _ _ hS h
/-- One element is appended to a slice in the midst of a block, it alone is ready. -/
theorem reg_appAt {oi : Oper} {fuel : Nat} {listed : Array Bool} {a : Act} {w : World} (ix : Nat) (dd : Option Tmp) (s x : Operand) (t : TypeId) (hi0 : ops[ix]? = some oi) (hd0 : oi.dst = dd)
    (ho : oi.op = .call { callee := .builtin .append, args := #[s, x], argTypes := #[t, t] }) (hr0 : Region.ready md ops listed = [ix]) (hw0 : Region.wanted oi (yielded ops a.tmps) = true)
    (e : TypeId) (i : TypeInfo) (z : Value) (bytes : Nat) (ht : P.underlying t = some (.slice e)) (hi : P.info? e = some i) (hz : i.zero = some z)
    (hsize : i.size = 1) (hby : i.bytes = bytes) (hzs : z.cells.size = 1)
    (A : Option Addr) (n c : Nat) (xs : List Value) (hs : a.eval s = .slice A n c) (hown : RowAt e w A n c xs)
    (B : Addr) (d : Nat) (y : Value) (hx : a.eval x = .slice (some B) 1 d) (hrow : Row w (some B) [y]) (h1 : y.oneCell' = true)
    (hbytes : (n + 1) * bytes ≤ 140737488355328) (h63 : n + 1 ≤ 140737488355328)
    (h : ∀ A' c' w', RowAt e w' A' (n + 1) c' (xs ++ [y]) → w.grownBy w' (ab A) → (ab A' = ab A ∨ ab A' = some w.heap.size) → S w' ∧ (S w' → wpAnyH P md ops (NoPanic Q) S fuel (listed.setIfInBounds ix true) (a.put dd (.slice A' (n + 1) c')) w')) : wpAnyH P md ops (NoPanic Q) S (fuel + 1) listed a w := by
  subst hd0
  have hmx : n + 1 ≤ maxLen := by unfold maxLen; omega
  obtain ⟨A', c', w', hr, h2, h3, h4⟩ := run_appAt (P := P) w t oi.type e i z bytes ht hi hz hsize hby hzs A n c xs hown B d y hrow h1 hbytes hmx
  obtain ⟨hS, hc⟩ := h A' c' w' h2 h3 h4
  refine wpAnyH_ready hr0 (by simp) (AllReadyH.cons hi0 (fun K' hK => ?_) AllReadyH.nil)
  rw [if_pos hw0]
  unfold Oper.wp execOp
  simp only [ho, resolve, invoke, builtin, Sem.run_bind, Sem.run_pure, Result.andThen_ok, List.map_toArray, List.map_cons, List.map_nil, hs, hx, hr]
  exact hK.out _ _ hS hc
end
end Go.Proofs.Ytfbdjjcnibgjnaa.Kit
