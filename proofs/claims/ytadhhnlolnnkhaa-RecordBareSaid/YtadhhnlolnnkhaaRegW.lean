/- Regions driven by hand: a copy into a block known whole; look-ups and stores of maps. No program is named here. -/
import Derived.Test.YtadhhnlolnnkhaaRegV
import Derived.Test.YtadhhnlolnnkhaaBlkC
import Derived.Test.YtadhhnlolnnkhaaMapO
namespace Go.Proofs.Ytadhhnlolnnkhaa.Kit
set_option linter.unusedVariables false
set_option linter.unusedSimpArgs false
open Go Go.RowKit
section
variable {P : Program} {md : Region.Mode} {ops : Array Oper} {Q : Exit → Act → World → Prop} {S : World → Prop}
/-- 'copy' into a block known whole, it alone is ready. -/
theorem reg_copy {oi : Oper} {fuel : Nat} {listed : Array Bool} {a : Act} {w : World} (i : Nat) (dd : Option Tmp) (d s : Operand) (dT sT : TypeId) (hi : ops[i]? = some oi) (hdd : oi.dst = dd) (ho : oi.op = .call { callee := .builtin .copy, args := #[d, s], argTypes := #[dT, sT] }) (hr : Region.ready md ops listed = [i])
    (hgd : oi.guard = none) (elem : TypeId) (hu : P.underlying dT = some (.slice elem)) (hsz : (P.info? elem).map (·.size) = some 1)
    (g off : Nat) (dp sp : Option Addr) (dLen dCap sLen sCap : Nat) (hd : a.eval d = .slice dp dLen dCap) (hs : a.eval s = .slice sp sLen sCap)
    (cur : List Value) (t : TypeId) (hg : Blk w g t cur) (cs : List Value) (hn : cs.length = Nat.min sLen dLen) (hdp : 0 < cs.length → dp = some ⟨g, off, none⟩)
    (hrow : Row w sp cs) (hfit : off + cs.length ≤ cur.length) (h1 : ∀ v ∈ cs, v.oneCell' = true)
    (h : ∀ w', Blk w' g t (splice cur off cs) → Kp (oneB g) w w' → w'.heap.size = w.heap.size → S w' ∧ (S w' → wpAnyH P md ops (NoPanic Q) S fuel (listed.setIfInBounds i true) (a.put dd (goInt cs.length)) w')) : wpAnyH P md ops (NoPanic Q) S (fuel + 1) listed a w := by
  subst hdd
  refine wpAnyH_ready hr (by simp) (AllReadyH.cons hi (fun K' hK => ?_) AllReadyH.nil)
  exact step_copy_blk hgd d s dT sT ho elem hu hsz g off dp sp dLen dCap sLen sCap hd hs cur t hg cs hn hdp hrow hfit h1 (fun w' b k z => hK.out _ _ (h w' b k z).1 (h w' b k z).2)
/-- An entry of a map is looked up. -/
theorem exec_look {a : Act} {o : Oper} {w w' : World} (m x : Operand) (t : TypeId) (ok : Bool) (ho : o.op = .lookup t m x ok) (u v r : Value) (hm : a.eval m = u) (hx : a.eval x = v) (h : (Instr.lookup t u v ok).run P w = .ok r w') : (execOp a.eval o).run P w = .ok (.value r) w' := by
  subst hm; subst hx
  simp [execOp, ho, h, Result.andThen]
/-- .. is stored. -/
theorem reg_update {oi : Oper} {fuel : Nat} {listed : Array Bool} {a : Act} {w w' : World} (i : Nat) (d : Option Tmp) (m x y : Operand) (t : TypeId) (hi : ops[i]? = some oi) (hd : oi.dst = d) (ho : oi.op = .mapUpdate t m x y) (hr : Region.ready md ops listed = [i])
    (hw : Region.wanted oi (yielded ops a.tmps) = true) (u k v : Value) (hm : a.eval m = u) (hx : a.eval x = k) (hy : a.eval y = v) (h : (Instr.mapUpdate t u k v).run P w = .ok () w') (hS : S w')
    (hK : S w' → wpAnyH P md ops (NoPanic Q) S fuel (listed.setIfInBounds i true) (a.put d undef) w') : wpAnyH P md ops (NoPanic Q) S (fuel + 1) listed a w := by
  subst hm; subst hx; subst hy; subst hd
  refine wpAnyH_ready hr (by simp) (AllReadyH.cons hi (fun K' hK' => ?_) AllReadyH.nil)
  rw [if_pos hw]
  unfold Oper.wp
  simp [execOp, ho, h, Result.andThen]
  exact hK'.out _ _ hS hK
end
end Go.Proofs.Ytadhhnlolnnkhaa.Kit
