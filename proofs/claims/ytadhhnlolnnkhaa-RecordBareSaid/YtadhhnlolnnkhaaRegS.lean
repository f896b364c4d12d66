/- A region that draws its order, driven by hand: a whole value stored into a block; one that is known now alone is loaded. No program is named here. -/
import Derived.Test.YtadhhnlolnnkhaaReg
namespace Go.Proofs.Ytadhhnlolnnkhaa.Kit
set_option linter.unusedVariables false
set_option linter.unusedSimpArgs false
open Go Go.RowKit
section
variable {P : Program} {md : Region.Mode} {ops : Array Oper} {Q : Exit → Act → World → Prop} {S : World → Prop}
/-- A whole value is stored, it alone is ready. -/
theorem reg_store {oi : Oper} {fuel : Nat} {listed : Array Bool} {a : Act} {w : World} (i : Nat) (d : Option Tmp) (ty : TypeId) (x y : Operand) (hi : ops[i]? = some oi) (hd : oi.dst = d) (ho : oi.op = .store ty x y) (hr : Region.ready md ops listed = [i])
    (hw : Region.wanted oi (yielded ops a.tmps) = true) (g : Nat) (t : TypeId) (cs vs : List Value) (hB : Blk w g t cs) (hx : a.eval x = .pointer (some ⟨g, 0, none⟩)) (hy : a.eval y = .agg vs.toArray) (hl : vs.length = cs.length) (hz : (P.info? ty).map (·.size) = some vs.length) (h1 : ∀ u ∈ vs, u.oneCell' = true)
    (h : ∀ w', Blk w' g t vs → Kp (oneB g) w w' → w'.heap.size = w.heap.size → S w' ∧ (S w' → wpAnyH P md ops (NoPanic Q) S fuel (listed.setIfInBounds i true) (a.put d undef) w')) : wpAnyH P md ops (NoPanic Q) S (fuel + 1) listed a w := by
  subst hd
  obtain ⟨hS, h2⟩ := h (w.setCells g 0 vs) (hB.setAll hl) (Kp.setCells (F := oneB g) (.inl rfl) _ (Kp.refl (oneB g) w)) (setCells_size _ _ _)
  refine wpAnyH_ready hr (by simp) (AllReadyH.cons hi (fun K' hK => ?_) AllReadyH.nil)
  rw [if_pos hw]
  have ht : w.there g 0 vs.toArray.size := by have := hB.there; rw [← hl] at this; simpa using this
  have hz' : (P.info? ty).map (·.size) = some vs.toArray.size := by simpa using hz
  exact wp_store_mid ty x y ho g 0 vs.toArray hx hy ht hz' (all_oneCell_toArray h1) (hK.out _ _ (by simpa using hS) (fun _ => by simpa using h2 hS))
/-- A whole block is loaded, it alone is ready. -/
theorem reg_loadNow {oi : Oper} {fuel : Nat} {listed : Array Bool} {a : Act} {w : World} (i : Nat) (d : Option Tmp) (ty : TypeId) (x : Operand) (hi : ops[i]? = some oi) (hd : oi.dst = d) (ho : oi.op = .load ty x) (hr : Region.ready md ops listed = [i])
    (hw : Region.wanted oi (yielded ops a.tmps) = true) (hS : S w) (b o : Nat) (hx : a.eval x = .pointer (some ⟨b, o, none⟩)) (cs : List Value) (dd : TypeDesc) (hc : w.rangeAt b o cs) (hu : P.underlying ty = some dd) (hdd : dd.isRow = true) (hz : (P.info? ty).map (·.size) = some cs.length)
    (h : wpAnyH P md ops (NoPanic Q) S fuel (listed.setIfInBounds i true) (a.put d (.agg cs.toArray)) w) : wpAnyH P md ops (NoPanic Q) S (fuel + 1) listed a w := by
  have hr2 := run_loadAt_mid (P := P) w b o ty cs dd hc hu hdd hz
  refine reg_step i d hi hd hr hw (v := .agg cs.toArray) (w' := w) ?_ hS (fun _ => h)
  unfold execOp
  simp only [ho, hx, Sem.run_bind, hr2, Result.andThen_ok, Sem.run_pure]
/-- A row of bytes is read as a string. -/
theorem reg_bytesStr {oi : Oper} {fuel : Nat} {listed : Array Bool} {a : Act} {w : World} (i : Nat) (d : Option Tmp) (src dst e : TypeId) (x : Operand) (hi : ops[i]? = some oi) (hd : oi.dst = d) (ho : oi.op = .convert src dst x)
    (hs : Region.noSelect ops = true) (hf : Region.free md ops listed i = true) (hr : (Region.ready md ops listed).contains i = true)
    (hw : Region.wanted oi (yielded ops a.tmps) = true) (hS : S w) (hu : P.underlying src = some (.slice e)) (he : P.underlying e = some (.int .u8)) (hv : P.underlying dst = some .string) (A : Option Addr) (n c : Nat) (l : List UInt8) (hn : l.length = n) (hx : a.eval x = .slice A n c) (hc : ∀ w, S w → Row w A (bvs l))
    (h : wpAnyH P md ops (NoPanic Q) S fuel (listed.setIfInBounds i true) (a.put d (.string (str l))) w) : wpAnyH P md ops (NoPanic Q) S (fuel + 1) listed a w := by
  refine reg_take i d hi hd hs hf hr hw hS (fun w hSw => ?_) h
  have hr := run_bytes_str (P := P) w src dst e hu he hv A n c l hn (hc w hSw)
  unfold execOp
  simp only [ho, hx, Sem.run_bind, hr, Result.andThen_ok, Sem.run_pure]
/-- A call, or a new block: either may come next. -/
theorem reg_callOr {oi oj : Oper} {v : Value} {fuel : Nat} {listed : Array Bool} {a : Act} {w w' : World} (i j : Nat) (d e : Option Tmp) (hi : ops[i]? = some oi) (hd : oi.dst = d) (hj : ops[j]? = some oj) (he : oj.dst = e) (hr : Region.ready md ops listed = [i, j])
    (hw : Region.wanted oi (yielded ops a.tmps) = true) (hv : Region.wanted oj (yielded ops a.tmps) = true) (f : FuncId) (args : Array Value) (hx : (execOp a.eval oi).run P w = .ok (.enter f args) w) (hy : (execOp a.eval oj).run P w = .ok (.value v) w') (hS : S w')
    (hc : Calls P f args w fun e w' => ∃ v, e = .returned v ∧ S w' ∧ (S w' → wpAnyH P md ops (NoPanic Q) S fuel (listed.setIfInBounds i true) (a.put d v) w'))
    (h : S w' → wpAnyH P md ops (NoPanic Q) S fuel (listed.setIfInBounds j true) (a.put e v) w') : wpAnyH P md ops (NoPanic Q) S (fuel + 1) listed a w := by
  subst hd; subst he
  refine wpAnyH_ready hr (by simp) (AllReadyH.cons hi (fun K' hK => ?_) (AllReadyH.cons hj (fun K' hK => ?_) AllReadyH.nil))
  · rw [if_pos hw]
    unfold Oper.wp
    rw [hx, Oper.upon_enter]
    refine hc.mono ?_
    rintro e w' ⟨v, rfl, hS, h⟩
    exact hK.out _ _ hS h
  · rw [if_pos hv]
    unfold Oper.wp
    rw [hy]
    exact hK.out _ _ hS h
end
end Go.Proofs.Ytadhhnlolnnkhaa.Kit
