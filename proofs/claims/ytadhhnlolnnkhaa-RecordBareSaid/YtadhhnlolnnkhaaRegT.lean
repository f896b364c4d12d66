/- A region that draws its order, driven by hand: a whole value stored into a part of a block. No program is named here. -/
import Derived.Test.YtadhhnlolnnkhaaRegS
import Derived.Test.YtadhhnlolnnkhaaBlkF
import Derived.Test.YtadhhnlolnnkhaaBlkD
namespace Go.Proofs.Ytadhhnlolnnkhaa.Kit
set_option linter.unusedVariables false
set_option linter.unusedSimpArgs false
open Go Go.RowKit
section
variable {P : Program} {md : Region.Mode} {ops : Array Oper} {Q : Exit → Act → World → Prop} {S : World → Prop}
theorem reg_storeIn {oi : Oper} {fuel : Nat} {listed : Array Bool} {a : Act} {w : World} (i : Nat) (d : Option Tmp) (ty : TypeId) (x y : Operand) (hi : ops[i]? = some oi) (hd : oi.dst = d) (ho : oi.op = .store ty x y) (hr : Region.ready md ops listed = [i])
    (hw : Region.wanted oi (yielded ops a.tmps) = true) (g off : Nat) (t : TypeId) (cs vs : List Value) (hB : Blk w g t cs) (hx : a.eval x = .pointer (some ⟨g, off, none⟩)) (hy : a.eval y = .agg vs.toArray) (hl : off + vs.length ≤ cs.length) (hz : (P.info? ty).map (·.size) = some vs.length) (h1 : ∀ u ∈ vs, u.oneCell' = true)
    (h : ∀ w', Blk w' g t (splice cs off vs) → Kp (oneB g) w w' → w'.heap.size = w.heap.size → S w' ∧ (S w' → wpAnyH P md ops (NoPanic Q) S fuel (listed.setIfInBounds i true) (a.put d undef) w')) : wpAnyH P md ops (NoPanic Q) S (fuel + 1) listed a w := by
  subst hd
  have hb : Blk (w.setCells g off vs) g t (splice cs off vs) := by
    have := hB.setCells (o := off) vs hl
    rw [List.append_assoc] at this
    exact this
  obtain ⟨hS, h2⟩ := h (w.setCells g off vs) hb (Kp.setCells (F := oneB g) (.inl rfl) _ (Kp.refl (oneB g) w)) (setCells_size _ _ _)
  refine wpAnyH_ready hr (by simp) (AllReadyH.cons hi (fun K' hK => ?_) AllReadyH.nil)
  rw [if_pos hw]
  have ht : w.there g off vs.toArray.size := by
    intro j hj
    have hj' : j < vs.length := by simpa using hj
    rw [hB.cell, List.getElem?_eq_getElem (by omega)]
    exact ⟨rfl, hB.frozen _⟩
  have hz' : (P.info? ty).map (·.size) = some vs.toArray.size := by simpa using hz
  exact wp_store_mid ty x y ho g off vs.toArray hx hy ht hz' (all_oneCell_toArray h1) (hK.out _ _ (by simpa using hS) (fun _ => by simpa using h2 hS))
/-- Two calls: either may come next. -/
theorem reg_callBoth {oi oj : Oper} {fuel : Nat} {listed : Array Bool} {a : Act} {w : World} (i j : Nat) (d e : Option Tmp) (hi : ops[i]? = some oi) (hd : oi.dst = d) (hj : ops[j]? = some oj) (he : oj.dst = e) (hr : Region.ready md ops listed = [i, j])
    (hw : Region.wanted oi (yielded ops a.tmps) = true) (hv : Region.wanted oj (yielded ops a.tmps) = true) (f f' : FuncId) (args args' : Array Value) (hx : (execOp a.eval oi).run P w = .ok (.enter f args) w) (hy : (execOp a.eval oj).run P w = .ok (.enter f' args') w)
    (hc : Calls P f args w fun e w' => ∃ v, e = .returned v ∧ S w' ∧ (S w' → wpAnyH P md ops (NoPanic Q) S fuel (listed.setIfInBounds i true) (a.put d v) w'))
    (hc' : Calls P f' args' w fun e' w' => ∃ v, e' = .returned v ∧ S w' ∧ (S w' → wpAnyH P md ops (NoPanic Q) S fuel (listed.setIfInBounds j true) (a.put e v) w')) : wpAnyH P md ops (NoPanic Q) S (fuel + 1) listed a w := by
  subst hd; subst he
  refine wpAnyH_ready hr (by simp) (AllReadyH.cons hi (fun K' hK => ?_) (AllReadyH.cons hj (fun K' hK => ?_) AllReadyH.nil))
  · rw [if_pos hw]
    unfold Oper.wp
    rw [hx, Oper.upon_enter]
    refine hc.mono ?_
    rintro e w' ⟨v, rfl, hS, h⟩
    exact hK.out _ _ hS h
  · rw [if_pos hv]
    unfold Oper.wp
    rw [hy, Oper.upon_enter]
    refine hc'.mono ?_
    rintro e w' ⟨v, rfl, hS, h⟩
    exact hK.out _ _ hS h
/-- Two operations that run in the world as it is: either may come next. -/
theorem reg_stepOr {oi oj : Oper} {v u : Value} {fuel : Nat} {listed : Array Bool} {a : Act} {w wi wj : World} (i j : Nat) (d e : Option Tmp) (hi : ops[i]? = some oi) (hd : oi.dst = d) (hj : ops[j]? = some oj) (he : oj.dst = e) (hr : Region.ready md ops listed = [i, j])
    (hw : Region.wanted oi (yielded ops a.tmps) = true) (hv : Region.wanted oj (yielded ops a.tmps) = true) (hx : (execOp a.eval oi).run P w = .ok (.value v) wi) (hy : (execOp a.eval oj).run P w = .ok (.value u) wj) (hSi : S wi) (hSj : S wj)
    (h : S wi → wpAnyH P md ops (NoPanic Q) S fuel (listed.setIfInBounds i true) (a.put d v) wi)
    (h' : S wj → wpAnyH P md ops (NoPanic Q) S fuel (listed.setIfInBounds j true) (a.put e u) wj) : wpAnyH P md ops (NoPanic Q) S (fuel + 1) listed a w := by
  subst hd; subst he
  refine wpAnyH_ready hr (by simp) (AllReadyH.cons hi (fun K' hK => ?_) (AllReadyH.cons hj (fun K' hK => ?_) AllReadyH.nil))
  · rw [if_pos hw]
    unfold Oper.wp
    rw [hx]
    exact hK.out _ _ hSi h
  · rw [if_pos hv]
    unfold Oper.wp
    rw [hy]
    exact hK.out _ _ hSj h'
/-- A store (or what yields nothing), it alone is ready. -/
theorem reg_mute {oi : Oper} {fuel : Nat} {listed : Array Bool} {a : Act} {w w' : World} (i : Nat) (d : Option Tmp) (hi : ops[i]? = some oi) (hd : oi.dst = d) (hr : Region.ready md ops listed = [i])
    (hw : Region.wanted oi (yielded ops a.tmps) = true) (hx : (execOp a.eval oi).run P w = .ok .skip w') (hS : S w')
    (h : S w' → wpAnyH P md ops (NoPanic Q) S fuel (listed.setIfInBounds i true) (a.put d undef) w') : wpAnyH P md ops (NoPanic Q) S (fuel + 1) listed a w := by
  subst hd
  refine wpAnyH_ready hr (by simp) (AllReadyH.cons hi (fun K' hK => ?_) AllReadyH.nil)
  rw [if_pos hw]
  unfold Oper.wp
  rw [hx]
  exact hK.out _ _ hS h
/-- A row of elements of k cells is appended, it alone is ready. -/
theorem reg_appK {oi : Oper} {fuel : Nat} {listed : Array Bool} {a : Act} {w : World} (ix : Nat) (dd : Option Tmp) (s x : Operand) (t : TypeId) (hi0 : ops[ix]? = some oi) (hd0 : oi.dst = dd)
    (ho : oi.op = .call { callee := .builtin .append, args := #[s, x], argTypes := #[t, t] }) (hr0 : Region.ready md ops listed = [ix]) (hw0 : Region.wanted oi (yielded ops a.tmps) = true)
    (k : Nat) (hk : 0 < k) (e : TypeId) (i : TypeInfo) (z : Value) (bytes : Nat) (ht : P.underlying t = some (.slice e)) (hi : P.info? e = some i) (hz : i.zero = some z)
    (hsize : i.size = k) (hby : i.bytes = bytes) (hzs : z.cells.size = k)
    (A : Option Addr) (n c : Nat) (xs : List Value) (hs : a.eval s = .slice A n c) (hown : OwnK k e w A n c xs)
    (B : Addr) (m d : Nat) (ys : List Value) (hx : a.eval x = .slice (some B) m d) (hm : ys.length = m * k) (hrow : Row w (some B) ys) (h1 : ∀ u ∈ ys, u.oneCell' = true)
    (hbytes : (n + m) * bytes ≤ 140737488355328) (h63 : n + m ≤ 140737488355328)
    (h : ∀ A' c' w', OwnK k e w' A' (n + m) c' (xs ++ ys) → w.grownBy w' (ab A) → (ab A' = ab A ∨ ab A' = some w.heap.size) → S w' ∧ (S w' → wpAnyH P md ops (NoPanic Q) S fuel (listed.setIfInBounds ix true) (a.put dd (.slice A' (n + m) c')) w')) : wpAnyH P md ops (NoPanic Q) S (fuel + 1) listed a w := by
  subst hd0
  have hmx : n + m ≤ maxLen := by unfold maxLen; omega
  obtain ⟨A', c', w', hr, h2, h3, h4⟩ := run_appK (P := P) w t oi.type k hk e i z bytes ht hi hz hsize hby hzs A n c xs hown B m d ys hm hrow h1 hbytes hmx
  obtain ⟨hS, hc⟩ := h A' c' w' h2 h3 h4
  refine wpAnyH_ready hr0 (by simp) (AllReadyH.cons hi0 (fun K' hK => ?_) AllReadyH.nil)
  rw [if_pos hw0]
  unfold Oper.wp execOp
  simp only [ho, resolve, invoke, builtin, Sem.run_bind, Sem.run_pure, Result.andThen_ok, List.map_toArray, List.map_cons, List.map_nil, hs, hx, hr]
  exact hK.out _ _ hS hc
end
end Go.Proofs.Ytadhhnlolnnkhaa.Kit
