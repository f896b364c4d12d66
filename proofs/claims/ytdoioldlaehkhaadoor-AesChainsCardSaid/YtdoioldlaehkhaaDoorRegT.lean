/- A region that draws its order, driven by hand: a whole value stored into a part of a block. No program is named here. -/
import Derived.Test.YtdoioldlaehkhaaDoorRegS
import Derived.Test.YtdoioldlaehkhaaDoorBlkF
namespace Go.Proofs.YtdoioldlaehkhaaDoor.Kit
open Go Go.RowKit
section
variable {P : Program} {md : Region.Mode} {ops : Array Oper} {Q : Exit → Act → World → Prop} {S : World → Prop}
theorem reg_storeIn {oi : Oper} {fuel : Nat} {listed : Array Bool} {a : Act} {w : World} (i : Nat) (d : Option Tmp) (ty : TypeId) (x y : Operand) (hi : ops[i]? = some oi) (hd : oi.dst = d) (ho : oi.op = .store ty x y) (hr : Region.ready md ops listed = [i])
    (hw : Region.wanted oi (yielded ops a.tmps) = true) (g off : Nat) (t : TypeId) (cs vs : List Value) (hB : Blk w g t cs) (hx : a.eval x = .pointer (some ⟨g, off, none⟩)) (hy : a.eval y = .agg vs.toArray) (hl : off + vs.length ≤ cs.length) (hz : (P.info? ty).map (·.size) = some vs.length) (h1 : ∀ u ∈ vs, u.oneCell' = true)
    (h : ∀ w', Blk w' g t (splice cs off vs) → Kp (oneB g) w w' → w'.heap.size = w.heap.size → S w' ∧ (S w' → wpAnyH P md ops (NoPanic Q) S fuel (listed.setIfInBounds i true) (a.put d undef) w')) : wpAnyH P md ops (NoPanic Q) S (fuel + 1) listed a w := by
  subst hd
  have hb : Blk (w.setCells g off vs) g t (splice cs off vs) := by
    have := hB.setCells (o := off) vs hl
    rw [List.append_assoc] at this
    exact this
  obtain ⟨hS, h2⟩ := h (w.setCells g off vs) hb (Kp.setCells (F := oneB g) (.inl rfl) _ (Kp.refl (oneB g) w)) (setCells_size _ _ _)
  refine wpAnyH_ready hr (by simp) (AllReadyH.cons hi (fun K' hK => ?_) AllReadyH.nil)
  rw [if_pos hw]
  have ht : w.there g off vs.toArray.size := by
    intro j hj
    have hj' : j < vs.length := by simpa using hj
    rw [hB.cell, List.getElem?_eq_getElem (by omega)]
    exact ⟨rfl, hB.frozen _⟩
  have hz' : (P.info? ty).map (·.size) = some vs.toArray.size := by simpa using hz
  exact wp_store_mid ty x y ho g off vs.toArray hx hy ht hz' (all_oneCell_toArray h1) (hK.out _ _ (by simpa using hS) (fun _ => by simpa using h2 hS))
/-- Two calls: either may come next. -/
theorem reg_callBoth {oi oj : Oper} {fuel : Nat} {listed : Array Bool} {a : Act} {w : World} (i j : Nat) (d e : Option Tmp) (hi : ops[i]? = some oi) (hd : oi.dst = d) (hj : ops[j]? = some oj) (he : oj.dst = e) (hr : Region.ready md ops listed = [i, j])
    (hw : Region.wanted oi (yielded ops a.tmps) = true) (hv : Region.wanted oj (yielded ops a.tmps) = true) (f f' : FuncId) (args args' : Array Value) (hx : (execOp a.eval oi).run P w = .ok (.enter f args) w) (hy : (execOp a.eval oj).run P w = .ok (.enter f' args') w)
    (hc : Calls P f args w fun e w' => ∃ v, e = .returned v ∧ S w' ∧ (S w' → wpAnyH P md ops (NoPanic Q) S fuel (listed.setIfInBounds i true) (a.put d v) w'))
    (hc' : Calls P f' args' w fun e' w' => ∃ v, e' = .returned v ∧ S w' ∧ (S w' → wpAnyH P md ops (NoPanic Q) S fuel (listed.setIfInBounds j true) (a.put e v) w')) : wpAnyH P md ops (NoPanic Q) S (fuel + 1) listed a w := by
  subst hd; subst he
  refine wpAnyH_ready hr (by simp) (AllReadyH.cons hi (fun K' hK => ?_) (AllReadyH.cons hj (fun K' hK => ?_) AllReadyH.nil))
  · rw [if_pos hw]
    unfold Oper.wp
    rw [hx, Oper.upon_enter]
    refine hc.mono ?_
    rintro e w' ⟨v, rfl, hS, h⟩
    exact hK.out _ _ hS h
  · rw [if_pos hv]
    unfold Oper.wp
    rw [hy, Oper.upon_enter]
    refine hc'.mono ?_
    rintro e w' ⟨v, rfl, hS, h⟩
    exact hK.out _ _ hS h
end
end Go.Proofs.YtdoioldlaehkhaaDoor.Kit
