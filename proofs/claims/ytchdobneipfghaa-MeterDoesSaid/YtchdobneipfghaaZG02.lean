/- A region that draws its order, driven by hand: operations that yield in every world that meets S are taken first, by their slots; a call, or an operation that changes the world, where it alone is ready. No program is named here. · A region that draws its order, driven by hand: a whole value stored into a block; one that is known now alone is loaded. No program is named here. · A region that draws its order, driven by hand: a whole value stored into a part of a block. No program is named here. · Regions driven by hand: a load, or a call, either may come next. No program is named here. · Regions driven by hand: the beginning, the world of which nothing but S is known. No program is named here. · Regions driven by hand: a call through an interface. No program is named here. · Regions driven by hand: what is known of the worlds may grow on the way. No program is named here. · Regions driven by hand: an operation, or a call, either may come next; one element is appended to a slice in the midst of a block. No program is named here. -/
import Derived.Test.YtchdobneipfghaaZG01
import Derived.Test.YtchdobneipfghaaZRowAt
import Derived.Deep.RegionHeld3
namespace Go.Proofs.Ytchdobneipfghaa.Kit
set_option linter.unusedVariables false
set_option linter.unusedSimpArgs false
open Go Go.RowKit

section
variable {P : Program} {md : Region.Mode} {ops : Array Oper} {Q : Exit → Act → World → Prop} {S : World → Prop}
theorem reg_begin {id : Nat} {a : Act} {w : World} (S : World → Prop) (hm : P.follows .mixedOrders = true) (hS : S w.drew)
    (h : S w.drew → wpAnyH P .any ops (NoPanic Q) S ops.size (Array.replicate ops.size false) a w.drew) : (Code.region id ops true).wp P Q a w :=
  wp_region_noPanic (wp_region_held_drew hm hS h)
/-- It yields. -/
theorem reg_take {oi : Oper} {v : Value} {fuel : Nat} {listed : Array Bool} {a : Act} {w : World} (i : Nat) (d : Option Tmp) (hi : ops[i]? = some oi) (hd : oi.dst = d)
    (hs : Region.noSelect ops = true) (hf : Region.free md ops listed i = true) (hr : (Region.ready md ops listed).contains i = true)
    (hw : Region.wanted oi (yielded ops a.tmps) = true) (hS : S w) (hy : ∀ w, S w → (execOp a.eval oi).run P w = .ok (.value v) w)
    (h : wpAnyH P md ops (NoPanic Q) S fuel (listed.setIfInBounds i true) (a.put d v) w) : wpAnyH P md ops (NoPanic Q) S (fuel + 1) listed a w := by
  subst hd
  exact wpAnyH_take hi hs hf hr (fun _ _ _ h => h) (.inl ⟨hw, hy⟩) hS h
/-- Its guard says no. -/
theorem reg_skip {oi : Oper} {fuel : Nat} {listed : Array Bool} {a : Act} {w : World} (i : Nat) (d : Option Tmp) (hi : ops[i]? = some oi) (hd : oi.dst = d)
    (hs : Region.noSelect ops = true) (hf : Region.free md ops listed i = true) (hr : (Region.ready md ops listed).contains i = true)
    (hw : Region.wanted oi (yielded ops a.tmps) = false) (hS : S w)
    (h : wpAnyH P md ops (NoPanic Q) S fuel (listed.setIfInBounds i true) (a.put d undef) w) : wpAnyH P md ops (NoPanic Q) S (fuel + 1) listed a w := by
  subst hd
  exact wpAnyH_take hi hs hf hr (fun _ _ _ h => h) (.inr ⟨hw, rfl⟩) hS h
/-- A long array is loaded. -/
theorem reg_load {oi : Oper} {fuel : Nat} {listed : Array Bool} {a : Act} {w : World} (i : Nat) (d : Option Tmp) (ty : TypeId) (x : Operand) (hi : ops[i]? = some oi) (hd : oi.dst = d) (ho : oi.op = .load ty x)
    (hs : Region.noSelect ops = true) (hf : Region.free md ops listed i = true) (hr : (Region.ready md ops listed).contains i = true)
    (hw : Region.wanted oi (yielded ops a.tmps) = true) (hS : S w) (b o : Nat) (hx : a.eval x = .pointer (some ⟨b, o, none⟩)) (cs : List Value) (dd : TypeDesc) (hc : ∀ w, S w → w.rangeAt b o cs) (hu : P.underlying ty = some dd) (hdd : dd.isRow = true) (hz : (P.info? ty).map (·.size) = some cs.length)
    (h : wpAnyH P md ops (NoPanic Q) S fuel (listed.setIfInBounds i true) (a.put d (.agg cs.toArray)) w) : wpAnyH P md ops (NoPanic Q) S (fuel + 1) listed a w := by
  refine reg_take i d hi hd hs hf hr hw hS (fun w hSw => ?_) h
  have hr := run_loadAt_mid (P := P) w b o ty cs dd (hc w hSw) hu hdd hz
  unfold execOp
  simp only [ho, hx, Sem.run_bind, hr, Result.andThen_ok, Sem.run_pure]
/-- A call, it alone is ready. -/
theorem reg_call {oi : Oper} {fuel : Nat} {listed : Array Bool} {a : Act} {w : World} (i : Nat) (d : Option Tmp) (hi : ops[i]? = some oi) (hd : oi.dst = d) (hr : Region.ready md ops listed = [i])
    (hw : Region.wanted oi (yielded ops a.tmps) = true) (f : FuncId) (args : Array Value) (hx : (execOp a.eval oi).run P w = .ok (.enter f args) w)
    (hc : Calls P f args w fun e w' => ∃ v, e = .returned v ∧ S w' ∧ (S w' → wpAnyH P md ops (NoPanic Q) S fuel (listed.setIfInBounds i true) (a.put d v) w')) : wpAnyH P md ops (NoPanic Q) S (fuel + 1) listed a w := by
  subst hd
  refine wpAnyH_ready hr (by simp) (AllReadyH.cons hi (fun K' hK => ?_) AllReadyH.nil)
  rw [if_pos hw]
  unfold Oper.wp
  rw [hx, Oper.upon_enter]
  refine hc.mono ?_
  rintro e w' ⟨v, rfl, hS, h⟩
  exact hK.out _ _ hS h
/-- An operation that changes the world, it alone is ready. -/
theorem reg_step {oi : Oper} {v : Value} {fuel : Nat} {listed : Array Bool} {a : Act} {w w' : World} (i : Nat) (d : Option Tmp) (hi : ops[i]? = some oi) (hd : oi.dst = d) (hr : Region.ready md ops listed = [i])
    (hw : Region.wanted oi (yielded ops a.tmps) = true) (hx : (execOp a.eval oi).run P w = .ok (.value v) w') (hS : S w')
    (h : S w' → wpAnyH P md ops (NoPanic Q) S fuel (listed.setIfInBounds i true) (a.put d v) w') : wpAnyH P md ops (NoPanic Q) S (fuel + 1) listed a w := by
  subst hd
  refine wpAnyH_ready hr (by simp) (AllReadyH.cons hi (fun K' hK => ?_) AllReadyH.nil)
  rw [if_pos hw]
  unfold Oper.wp
  rw [hx]
  exact hK.out _ _ hS h
theorem reg_end {listed : Array Bool} {a : Act} {w : World} {fuel : Nat} (hr : Region.ready md ops listed = []) (h : Q .normal a w) : wpAnyH P md ops (NoPanic Q) S fuel listed a w :=
  wpAnyH_done hr (NoPanic.normal h) _
end
end Go.Proofs.Ytchdobneipfghaa.Kit
namespace Go.Proofs.Ytchdobneipfghaa.Kit
set_option linter.unusedVariables false
set_option linter.unusedSimpArgs false
open Go Go.RowKit
section
variable {P : Program} {md : Region.Mode} {ops : Array Oper} {Q : Exit → Act → World → Prop} {S : World → Prop}
/-- A whole value is stored, it alone is ready. -/
theorem reg_store {oi : Oper} {fuel : Nat} {listed : Array Bool} {a : Act} {w : World} (i : Nat) (d : Option Tmp) (ty : TypeId) (x y : Operand) (hi : ops[i]? = some oi) (hd : oi.dst = d) (ho : oi.op = .store ty x y) (hr : Region.ready md ops listed = [i])
    (hw : Region.wanted oi (yielded ops a.tmps) = true) (g : Nat) (t : TypeId) (cs vs : List Value) (hB : Blk w g t cs) (hx : a.eval x = .pointer (some ⟨g, 0, none⟩)) (hy : a.eval y = .agg vs.toArray) (hl : vs.length = cs.length) (hz : (P.info? ty).map (·.size) = some vs.length) (h1 : ∀ u ∈ vs, u.oneCell' = true)
    (h : ∀ w', Blk w' g t vs → Kp (oneB g) w w' → w'.heap.size = w.heap.size → S w' ∧ (S w' → wpAnyH P md ops (NoPanic Q) S fuel (listed.setIfInBounds i true) (a.put d undef) w')) : wpAnyH P md ops (NoPanic Q) S (fuel + 1) listed a w := by
  subst hd
  obtain ⟨hS, h2⟩ := h (w.setCells g 0 vs) (hB.setAll hl) (Kp.setCells (F := oneB g) (.inl rfl) _ (Kp.refl (oneB g) w)) (setCells_size _ _ _)
  refine wpAnyH_ready hr (by simp) (AllReadyH.cons hi (fun K' hK => ?_) AllReadyH.nil)
  rw [if_pos hw]
  have ht : w.there g 0 vs.toArray.size := by have := hB.there; rw [← hl] at this; simpa using this
  have hz' : (P.info? ty).map (·.size) = some vs.toArray.size := by simpa using hz
  exact wp_store_mid ty x y ho g 0 vs.toArray hx hy ht hz' (all_oneCell_toArray h1) (hK.out _ _ (by simpa using hS) (fun _ => by simpa using h2 hS))
/-- A whole block is loaded, it alone is ready. -/
theorem reg_loadNow {oi : Oper} {fuel : Nat} {listed : Array Bool} {a : Act} {w : World} (i : Nat) (d : Option Tmp) (ty : TypeId) (x : Operand) (hi : ops[i]? = some oi) (hd : oi.dst = d) (ho : oi.op = .load ty x) (hr : Region.ready md ops listed = [i])
    (hw : Region.wanted oi (yielded ops a.tmps) = true) (hS : S w) (b o : Nat) (hx : a.eval x = .pointer (some ⟨b, o, none⟩)) (cs : List Value) (dd : TypeDesc) (hc : w.rangeAt b o cs) (hu : P.underlying ty = some dd) (hdd : dd.isRow = true) (hz : (P.info? ty).map (·.size) = some cs.length)
    (h : wpAnyH P md ops (NoPanic Q) S fuel (listed.setIfInBounds i true) (a.put d (.agg cs.toArray)) w) : wpAnyH P md ops (NoPanic Q) S (fuel + 1) listed a w := by
  have hr2 := run_loadAt_mid (P := P) w b o ty cs dd hc hu hdd hz
  refine reg_step i d hi hd hr hw (v := .agg cs.toArray) (w' := w) ?_ hS (fun _ => h)
  unfold execOp
  simp only [ho, hx, Sem.run_bind, hr2, Result.andThen_ok, Sem.run_pure]
/-- A row of bytes is read as a string. -/
theorem reg_bytesStr {oi : Oper} {fuel : Nat} {listed : Array Bool} {a : Act} {w : World} (i : Nat) (d : Option Tmp) (src dst e : TypeId) (x : Operand) (hi : ops[i]? = some oi) (hd : oi.dst = d) (ho : oi.op = .convert src dst x)
    (hs : Region.noSelect ops = true) (hf : Region.free md ops listed i = true) (hr : (Region.ready md ops listed).contains i = true)
    (hw : Region.wanted oi (yielded ops a.tmps) = true) (hS : S w) (hu : P.underlying src = some (.slice e)) (he : P.underlying e = some (.int .u8)) (hv : P.underlying dst = some .string) (A : Option Addr) (n c : Nat) (l : List UInt8) (hn : l.length = n) (hx : a.eval x = .slice A n c) (hc : ∀ w, S w → Row w A (bvs l))
    (h : wpAnyH P md ops (NoPanic Q) S fuel (listed.setIfInBounds i true) (a.put d (.string (str l))) w) : wpAnyH P md ops (NoPanic Q) S (fuel + 1) listed a w := by
  refine reg_take i d hi hd hs hf hr hw hS (fun w hSw => ?_) h
  have hr := run_bytes_str (P := P) w src dst e hu he hv A n c l hn (hc w hSw)
  unfold execOp
  simp only [ho, hx, Sem.run_bind, hr, Result.andThen_ok, Sem.run_pure]
/-- A call, or a new block: either may come next. -/
theorem reg_callOr {oi oj : Oper} {v : Value} {fuel : Nat} {listed : Array Bool} {a : Act} {w w' : World} (i j : Nat) (d e : Option Tmp) (hi : ops[i]? = some oi) (hd : oi.dst = d) (hj : ops[j]? = some oj) (he : oj.dst = e) (hr : Region.ready md ops listed = [i, j])
    (hw : Region.wanted oi (yielded ops a.tmps) = true) (hv : Region.wanted oj (yielded ops a.tmps) = true) (f : FuncId) (args : Array Value) (hx : (execOp a.eval oi).run P w = .ok (.enter f args) w) (hy : (execOp a.eval oj).run P w = .ok (.value v) w') (hS : S w')
    (hc : Calls P f args w fun e w' => ∃ v, e = .returned v ∧ S w' ∧ (S w' → wpAnyH P md ops (NoPanic Q) S fuel (listed.setIfInBounds i true) (a.put d v) w'))
    (h : S w' → wpAnyH P md ops (NoPanic Q) S fuel (listed.setIfInBounds j true) (a.put e v) w') : wpAnyH P md ops (NoPanic Q) S (fuel + 1) listed a w := by
  subst hd; subst he
  refine wpAnyH_ready hr (by simp) (AllReadyH.cons hi (fun K' hK => ?_) (AllReadyH.cons hj (fun K' hK => ?_) AllReadyH.nil))
  · rw [if_pos hw]
    unfold Oper.wp
    rw [hx, Oper.upon_enter]
    refine hc.mono ?_
    rintro e w' ⟨v, rfl, hS, h⟩
    exact hK.out _ _ hS h
  · rw [if_pos hv]
    unfold Oper.wp
    rw [hy]
    exact hK.out _ _ hS h
end
end Go.Proofs.Ytchdobneipfghaa.Kit
namespace Go.Proofs.Ytchdobneipfghaa.Kit
set_option linter.unusedVariables false
set_option linter.unusedSimpArgs false
open Go Go.RowKit
section
variable {P : Program} {md : Region.Mode} {ops : Array Oper} {Q : Exit → Act → World → Prop} {S : World → Prop}
theorem reg_storeIn {oi : Oper} {fuel : Nat} {listed : Array Bool} {a : Act} {w : World} (i : Nat) (d : Option Tmp) (ty : TypeId) (x y : Operand) (hi : ops[i]? = some oi) (hd : oi.dst = d) (ho : oi.op = .store ty x y) (hr : Region.ready md ops listed = [i])
    (hw : Region.wanted oi (yielded ops a.tmps) = true) (g off : Nat) (t : TypeId) (cs vs : List Value) (hB : Blk w g t cs) (hx : a.eval x = .pointer (some ⟨g, off, none⟩)) (hy : a.eval y = .agg vs.toArray) (hl : off + vs.length ≤ cs.length) (hz : (P.info? ty).map (·.size) = some vs.length) (h1 : ∀ u ∈ vs, u.oneCell' = true)
    (h : ∀ w', Blk w' g t (splice cs off vs) → Kp (oneB g) w w' → w'.heap.size = w.heap.size → S w' ∧ (S w' → wpAnyH P md ops (NoPanic Q) S fuel (listed.setIfInBounds i true) (a.put d undef) w')) : wpAnyH P md ops (NoPanic Q) S (fuel + 1) listed a w := by
  subst hd
  have hb : Blk (w.setCells g off vs) g t (splice cs off vs) := by
    have := hB.setCells (o := off) vs hl
    rw [List.append_assoc] at this
    exact this
  obtain ⟨hS, h2⟩ := h (w.setCells g off vs) hb (Kp.setCells (F := oneB g) (.inl rfl) _ (Kp.refl (oneB g) w)) (setCells_size _ _ _)
  refine wpAnyH_ready hr (by simp) (AllReadyH.cons hi (fun K' hK => ?_) AllReadyH.nil)
  rw [if_pos hw]
  have ht : w.there g off vs.toArray.size := by
    intro j hj
    have hj' : j < vs.length := by simpa using hj
    rw [hB.cell, List.getElem?_eq_getElem (by omega)]
    exact ⟨rfl, hB.frozen _⟩
  have hz' : (P.info? ty).map (·.size) = some vs.toArray.size := by simpa using hz
  exact wp_store_mid ty x y ho g off vs.toArray hx hy ht hz' (all_oneCell_toArray h1) (hK.out _ _ (by simpa using hS) (fun _ => by simpa using h2 hS))
/-- Two calls: either may come next. -/
theorem reg_callBoth {oi oj : Oper} {fuel : Nat} {listed : Array Bool} {a : Act} {w : World} (i j : Nat) (d e : Option Tmp) (hi : ops[i]? = some oi) (hd : oi.dst = d) (hj : ops[j]? = some oj) (he : oj.dst = e) (hr : Region.ready md ops listed = [i, j])
    (hw : Region.wanted oi (yielded ops a.tmps) = true) (hv : Region.wanted oj (yielded ops a.tmps) = true) (f f' : FuncId) (args args' : Array Value) (hx : (execOp a.eval oi).run P w = .ok (.enter f args) w) (hy : (execOp a.eval oj).run P w = .ok (.enter f' args') w)
    (hc : Calls P f args w fun e w' => ∃ v, e = .returned v ∧ S w' ∧ (S w' → wpAnyH P md ops (NoPanic Q) S fuel (listed.setIfInBounds i true) (a.put d v) w'))
    (hc' : Calls P f' args' w fun e' w' => ∃ v, e' = .returned v ∧ S w' ∧ (S w' → wpAnyH P md ops (NoPanic Q) S fuel (listed.setIfInBounds j true) (a.put e v) w')) : wpAnyH P md ops (NoPanic Q) S (fuel + 1) listed a w := by
  subst hd; subst he
  refine wpAnyH_ready hr (by simp) (AllReadyH.cons hi (fun K' hK => ?_) (AllReadyH.cons hj (fun K' hK => ?_) AllReadyH.nil))
  · rw [if_pos hw]
    unfold Oper.wp
    rw [hx, Oper.upon_enter]
    refine hc.mono ?_
    rintro e w' ⟨v, rfl, hS, h⟩
    exact hK.out _ _ hS h
  · rw [if_pos hv]
    unfold Oper.wp
    rw [hy, Oper.upon_enter]
    refine hc'.mono ?_
    rintro e w' ⟨v, rfl, hS, h⟩
    exact hK.out _ _ hS h
/-- Two operations that run in the world as it is: either may come next. -/
theorem reg_stepOr {oi oj : Oper} {v u : Value} {fuel : Nat} {listed : Array Bool} {a : Act} {w wi wj : World} (i j : Nat) (d e : Option Tmp) (hi : ops[i]? = some oi) (hd : oi.dst = d) (hj : ops[j]? = some oj) (he : oj.dst = e) (hr : Region.ready md ops listed = [i, j])
    (hw : Region.wanted oi (yielded ops a.tmps) = true) (hv : Region.wanted oj (yielded ops a.tmps) = true) (hx : (execOp a.eval oi).run P w = .ok (.value v) wi) (hy : (execOp a.eval oj).run P w = .ok (.value u) wj) (hSi : S wi) (hSj : S wj)
    (h : S wi → wpAnyH P md ops (NoPanic Q) S fuel (listed.setIfInBounds i true) (a.put d v) wi)
    (h' : S wj → wpAnyH P md ops (NoPanic Q) S fuel (listed.setIfInBounds j true) (a.put e u) wj) : wpAnyH P md ops (NoPanic Q) S (fuel + 1) listed a w := by
  subst hd; subst he
  refine wpAnyH_ready hr (by simp) (AllReadyH.cons hi (fun K' hK => ?_) (AllReadyH.cons hj (fun K' hK => ?_) AllReadyH.nil))
  · rw [if_pos hw]
    unfold Oper.wp
    rw [hx]
    exact hK.out _ _ hSi h
  · rw [if_pos hv]
    unfold Oper.wp
    rw [hy]
    exact hK.out _ _ hSj h'
/-- A store (or what yields nothing), it alone is ready. -/
theorem reg_mute {oi : Oper} {fuel : Nat} {listed : Array Bool} {a : Act} {w w' : World} (i : Nat) (d : Option Tmp) (hi : ops[i]? = some oi) (hd : oi.dst = d) (hr : Region.ready md ops listed = [i])
    (hw : Region.wanted oi (yielded ops a.tmps) = true) (hx : (execOp a.eval oi).run P w = .ok .skip w') (hS : S w')
    (h : S w' → wpAnyH P md ops (NoPanic Q) S fuel (listed.setIfInBounds i true) (a.put d undef) w') : wpAnyH P md ops (NoPanic Q) S (fuel + 1) listed a w := by
  subst hd
  refine wpAnyH_ready hr (by simp) (AllReadyH.cons hi (fun K' hK => ?_) AllReadyH.nil)
  rw [if_pos hw]
  unfold Oper.wp
  rw [hx]
  exact hK.out _ _ hS h
/-- A row of elements of k cells is appended, it alone is ready. -/
theorem reg_appK {oi : Oper} {fuel : Nat} {listed : Array Bool} {a : Act} {w : World} (ix : Nat) (dd : Option Tmp) (s x : Operand) (t : TypeId) (hi0 : ops[ix]? = some oi) (hd0 : oi.dst = dd)
    (ho : oi.op = .call { callee := .builtin .append, args := #[s, x], argTypes := #[t, t] }) (hr0 : Region.ready md ops listed = [ix]) (hw0 : Region.wanted oi (yielded ops a.tmps) = true)
    (k : Nat) (hk : 0 < k) (e : TypeId) (i : TypeInfo) (z : Value) (bytes : Nat) (ht : P.underlying t = some (.slice e)) (hi : P.info? e = some i) (hz : i.zero = some z)
    (hsize : i.size = k) (hby : i.bytes = bytes) (hzs : z.cells.size = k)
    (A : Option Addr) (n c : Nat) (xs : List Value) (hs : a.eval s = .slice A n c) (hown : OwnK k e w A n c xs)
    (B : Addr) (m d : Nat) (ys : List Value) (hx : a.eval x = .slice (some B) m d) (hm : ys.length = m * k) (hrow : Row w (some B) ys) (h1 : ∀ u ∈ ys, u.oneCell' = true)
    (hbytes : (n + m) * bytes ≤ 140737488355328) (h63 : n + m ≤ 140737488355328)
    (h : ∀ A' c' w', OwnK k e w' A' (n + m) c' (xs ++ ys) → w.grownBy w' (ab A) → (ab A' = ab A ∨ ab A' = some w.heap.size) → S w' ∧ (S w' → wpAnyH P md ops (NoPanic Q) S fuel (listed.setIfInBounds ix true) (a.put dd (.slice A' (n + m) c')) w')) : wpAnyH P md ops (NoPanic Q) S (fuel + 1) listed a w := by
  subst hd0
  have hmx : n + m ≤ maxLen := by unfold maxLen; omega
  obtain ⟨A', c', w', hr, h2, h3, h4⟩ := run_appK (P := P) w t oi.type k hk e i z bytes ht hi hz hsize hby hzs A n c xs hown B m d ys hm hrow h1 hbytes hmx
  obtain ⟨hS, hc⟩ := h A' c' w' h2 h3 h4
  refine wpAnyH_ready hr0 (by simp) (AllReadyH.cons hi0 (fun K' hK => ?_) AllReadyH.nil)
  rw [if_pos hw0]
  unfold Oper.wp execOp
  simp only [ho, resolve, invoke, builtin, Sem.run_bind, Sem.run_pure, Result.andThen_ok, List.map_toArray, List.map_cons, List.map_nil, hs, hx, hr]
  exact hK.out _ _ hS hc
end
end Go.Proofs.Ytchdobneipfghaa.Kit
namespace Go.Proofs.Ytchdobneipfghaa.Kit
set_option linter.unusedVariables false
set_option linter.unusedSimpArgs false
open Go Go.RowKit
section
variable {P : Program} {md : Region.Mode} {ops : Array Oper} {Q : Exit → Act → World → Prop} {S : World → Prop}
/-- A whole value is loaded, or a call is made: either may come next. -/
theorem reg_loadOr {oi oj : Oper} {fuel : Nat} {listed : Array Bool} {a : Act} {w : World} (i j : Nat) (d e : Option Tmp) (ty : TypeId) (x : Operand) (hi : ops[i]? = some oi) (hd : oi.dst = d) (ho : oi.op = .load ty x) (hj : ops[j]? = some oj) (he : oj.dst = e) (hr : Region.ready md ops listed = [i, j])
    (hw : Region.wanted oi (yielded ops a.tmps) = true) (hv : Region.wanted oj (yielded ops a.tmps) = true) (hS : S w) (b o : Nat) (hx : a.eval x = .pointer (some ⟨b, o, none⟩)) (cs : List Value) (dd : TypeDesc) (hc : w.rangeAt b o cs) (hu : P.underlying ty = some dd) (hdd : dd.isRow = true) (hz : (P.info? ty).map (·.size) = some cs.length)
    (f : FuncId) (args : Array Value) (hy : (execOp a.eval oj).run P w = .ok (.enter f args) w)
    (h : wpAnyH P md ops (NoPanic Q) S fuel (listed.setIfInBounds i true) (a.put d (.agg cs.toArray)) w)
    (h' : Calls P f args w fun e' w' => ∃ v, e' = .returned v ∧ S w' ∧ (S w' → wpAnyH P md ops (NoPanic Q) S fuel (listed.setIfInBounds j true) (a.put e v) w')) : wpAnyH P md ops (NoPanic Q) S (fuel + 1) listed a w := by
  subst hd; subst he
  have hr2 := run_loadAt_mid (P := P) w b o ty cs dd hc hu hdd hz
  have e2 : (execOp a.eval oi).run P w = .ok (.value (.agg cs.toArray)) w := by
    unfold execOp
    simp only [ho, hx, Sem.run_bind, hr2, Result.andThen_ok, Sem.run_pure]
  refine wpAnyH_ready hr (by simp) (AllReadyH.cons hi (fun K' hK => ?_) (AllReadyH.cons hj (fun K' hK => ?_) AllReadyH.nil))
  · rw [if_pos hw]
    unfold Oper.wp
    rw [e2]
    exact hK.out _ _ hS fun _ => h
  · rw [if_pos hv]
    unfold Oper.wp
    rw [hy, Oper.upon_enter]
    refine h'.mono ?_
    rintro e w' ⟨v, rfl, hS, h⟩
    exact hK.out _ _ hS h
end
/-- A call of a function by its number. -/
theorem exec_func {P : Program} {a : Act} {o : Oper} {w : World} (f : FuncId) (xs : Array Operand) (ts : Array TypeId) (args : List Value) (ho : o.op = .call { callee := .value (.func f), args := xs, argTypes := ts })
    (hf : (P.funcs[f]?).any (fun fn => !(fn.name == "runtime.NumGoroutine") && fn.body.isSome) = true) (hx : xs.toList.map a.eval = args) : (execOp a.eval o).run P w = .ok (.enter f args.toArray) w := by
  subst hx
  cases hq : P.funcs[f]? with
  | none => rw [hq] at hf; cases hf
  | some fn =>
    rw [hq] at hf
    simp only [Option.any_some, Bool.and_eq_true, Bool.not_eq_true'] at hf
    obtain ⟨h1, h2⟩ := hf
    have h3 : fn.body.isNone = false := by cases hb : fn.body <;> simp_all
    have e : (callFunc f (xs.map a.eval)).run P w = .ok (.enter f (xs.map a.eval)) w := by
      unfold callFunc
      simp [go_sem, hq]
      simp at h1
      cases hb : fn.body with
      | none => simp [hb] at h3
      | some c => simp [h1]
    have e2 : (List.map a.eval xs.toList).toArray = xs.map a.eval := by apply Array.ext'; simp
    rw [e2]
    unfold execOp
    simp [ho, resolve, go_sem]
    exact e
end Go.Proofs.Ytchdobneipfghaa.Kit
namespace Go.Proofs.Ytchdobneipfghaa.Kit
set_option linter.unusedVariables false
set_option linter.unusedSimpArgs false
open Go Go.RowKit
theorem reg_start {P : Program} {ops : Array Oper} {Q : Exit → Act → World → Prop} {id : Nat} {a : Act} {w : World} (S : World → Prop) (hm : P.follows .mixedOrders = true) (hS : S w.drew)
    (h : ∀ w', S w' → wpAnyH P .any ops (NoPanic Q) S ops.size (Array.replicate ops.size false) a w') : (Code.region id ops true).wp P Q a w :=
  reg_begin S hm hS (fun h1 => h _ h1)
end Go.Proofs.Ytchdobneipfghaa.Kit
namespace Go.Proofs.Ytchdobneipfghaa.Kit
set_option linter.unusedVariables false
set_option linter.unusedSimpArgs false
open Go Go.RowKit

/-- A call through an interface whose dynamic type is known. -/
theorem exec_invoke {P : Program} {a : Act} {o : Oper} {w : World} (f : FuncId) (T : TypeId) (u v : Value) (r : Operand) (nm : String) (xs : Array Operand) (ts : Array TypeId) (args : List Value) (ho : o.op = .call { callee := .invoke r nm, args := xs, argTypes := ts })
    (hr : a.eval r = .iface T u) (hm : (method (P.types.size + Made.depth) T u nm).run P w = .ok (f, v) w)
    (hf : (P.funcs[f]?).any (fun fn => !(fn.name == "runtime.NumGoroutine") && fn.body.isSome) = true) (hx : xs.toList.map a.eval = args) : (execOp a.eval o).run P w = .ok (.enter f (v :: args).toArray) w := by
  subst hx
  cases hq : P.funcs[f]? with
  | none => rw [hq] at hf; cases hf
  | some fn =>
    rw [hq] at hf
    simp only [Option.any_some, Bool.and_eq_true, Bool.not_eq_true'] at hf
    obtain ⟨h1, h2⟩ := hf
    have h3 : fn.body.isNone = false := by cases hb : fn.body <;> simp_all
    have e : ∀ zs : Array Value, (callFunc f zs).run P w = .ok (.enter f zs) w := by
      intro zs
      unfold callFunc
      simp [go_sem, hq]
      simp at h1
      cases hb : fn.body with
      | none => simp [hb] at h3
      | some c => simp [h1]
    have e2 : (#[v] ++ xs.map a.eval) = (v :: List.map a.eval xs.toList).toArray := by apply Array.ext'; simp
    unfold execOp
    simp only [ho, resolve, Sem.run_bind, Sem.run_pure, Result.andThen_ok]
    unfold Go.invoke
    have e3 : (#[a.eval r] ++ xs.map a.eval)[0]? = some (.iface T u) := by rw [hr, ← Array.getElem?_toList, Array.toList_append]; rfl
    have e4 : (#[a.eval r] ++ xs.map a.eval).extract 1 (#[a.eval r] ++ xs.map a.eval).size = xs.map a.eval   := by apply Array.ext'; simp; exact List.take_of_length_le (by simp)
    simp only [e3, e4]
    unfold callMethod
    simp only [Sem.run_bind, run_program, Result.andThen_ok, hm, e2, e]
end Go.Proofs.Ytchdobneipfghaa.Kit
namespace Go.Proofs.Ytchdobneipfghaa.Kit
set_option linter.unusedVariables false
set_option linter.unusedSimpArgs false
open Go Go.RowKit
theorem reg_grow {P : Program} {md : Region.Mode} {ops : Array Oper} {Q : Exit → Act → World → Prop} {S S' : World → Prop} (hSS : ∀ w, S' w → S w) :
    ∀ (fuel : Nat) (listed : Array Bool) (a : Act) (w : World), wpAnyH P md ops Q S' fuel listed a w → wpAnyH P md ops Q S fuel listed a w
  | 0, _, _, _, h => h
  | fuel + 1, _, _, _, h => ⟨h.1, fun i hi => wpOp_mono (fun a' w' h' => ⟨hSS _ h'.1, reg_grow hSS fuel _ a' w' h'.2⟩) (h.2 i hi)⟩
/-- From here on S' is known of every world, too. -/
theorem reg_more {P : Program} {md : Region.Mode} {ops : Array Oper} {Q : Exit → Act → World → Prop} {S : World → Prop} (S' : World → Prop) (hSS : ∀ w, S' w → S w) {fuel : Nat} {listed : Array Bool} {a : Act} {w : World}
    (h : wpAnyH P md ops (NoPanic Q) S' fuel listed a w) : wpAnyH P md ops (NoPanic Q) S fuel listed a w := reg_grow hSS fuel listed a w h
end Go.Proofs.Ytchdobneipfghaa.Kit
namespace Go.Proofs.Ytchdobneipfghaa.Kit
set_option linter.unusedVariables false
set_option linter.unusedSimpArgs false
open Go Go.RowKit
section
variable {P : Program} {md : Region.Mode} {ops : Array Oper} {Q : Exit → Act → World → Prop} {S : World → Prop}
/-- An operation that runs in the world as it is, or a call: either may come next. -/
theorem reg_orCall {oi oj : Oper} {v : Value} {fuel : Nat} {listed : Array Bool} {a : Act} {w w' : World} (i j : Nat) (d e : Option Tmp) (hi : ops[i]? = some oi) (hd : oi.dst = d) (hj : ops[j]? = some oj) (he : oj.dst = e) (hr : Region.ready md ops listed = [i, j])
    (hw : Region.wanted oi (yielded ops a.tmps) = true) (hv : Region.wanted oj (yielded ops a.tmps) = true) (f : FuncId) (args : Array Value) (hx : (execOp a.eval oi).run P w = .ok (.value v) w') (hy : (execOp a.eval oj).run P w = .ok (.enter f args) w) (hS : S w')
    (h : S w' → wpAnyH P md ops (NoPanic Q) S fuel (listed.setIfInBounds i true) (a.put d v) w')
    (hc : Calls P f args w fun e' w' => ∃ v, e' = .returned v ∧ S w' ∧ (S w' → wpAnyH P md ops (NoPanic Q) S fuel (listed.setIfInBounds j true) (a.put e v) w')) : wpAnyH P md ops (NoPanic Q) S (fuel + 1) listed a w := by
  subst hd; subst he
  refine wpAnyH_ready hr (by simp) (AllReadyH.cons hi (fun K' hK => ?_) (AllReadyH.cons hj (fun K' hK => ?_) AllReadyH.nil))
  · rw [if_pos hw]
    unfold Oper.wp
    rw [hx]
    exact hK.out _ _ hS h
  · rw [if_pos hv]
    unfold Oper.wp
    rw [hy, Oper.upon_enter]
    refine hc.mono ?_
    rintro e w' ⟨v, rfl, hS, h⟩
    exact hK.out _ _ hS h
/-- One element is appended to a slice in the midst of a block, it alone is ready. -/
theorem reg_appAt {oi : Oper} {fuel : Nat} {listed : Array Bool} {a : Act} {w : World} (ix : Nat) (dd : Option Tmp) (s x : Operand) (t : TypeId) (hi0 : ops[ix]? = some oi) (hd0 : oi.dst = dd)
    (ho : oi.op = .call { callee := .builtin .append, args := #[s, x], argTypes := #[t, t] }) (hr0 : Region.ready md ops listed = [ix]) (hw0 : Region.wanted oi (yielded ops a.tmps) = true)
    (e : TypeId) (i : TypeInfo) (z : Value) (bytes : Nat) (ht : P.underlying t = some (.slice e)) (hi : P.info? e = some i) (hz : i.zero = some z)
    (hsize : i.size = 1) (hby : i.bytes = bytes) (hzs : z.cells.size = 1)
    (A : Option Addr) (n c : Nat) (xs : List Value) (hs : a.eval s = .slice A n c) (hown : RowAt e w A n c xs)
    (B : Addr) (d : Nat) (y : Value) (hx : a.eval x = .slice (some B) 1 d) (hrow : Row w (some B) [y]) (h1 : y.oneCell' = true)
    (hbytes : (n + 1) * bytes ≤ 140737488355328) (h63 : n + 1 ≤ 140737488355328)
    (h : ∀ A' c' w', RowAt e w' A' (n + 1) c' (xs ++ [y]) → w.grownBy w' (ab A) → (ab A' = ab A ∨ ab A' = some w.heap.size) → S w' ∧ (S w' → wpAnyH P md ops (NoPanic Q) S fuel (listed.setIfInBounds ix true) (a.put dd (.slice A' (n + 1) c')) w')) : wpAnyH P md ops (NoPanic Q) S (fuel + 1) listed a w := by
  subst hd0
  have hmx : n + 1 ≤ maxLen := by unfold maxLen; omega
  obtain ⟨A', c', w', hr, h2, h3, h4⟩ := run_appAt (P := P) w t oi.type e i z bytes ht hi hz hsize hby hzs A n c xs hown B d y hrow h1 hbytes hmx
  obtain ⟨hS, hc⟩ := h A' c' w' h2 h3 h4
  refine wpAnyH_ready hr0 (by simp) (AllReadyH.cons hi0 (fun K' hK => ?_) AllReadyH.nil)
  rw [if_pos hw0]
  unfold Oper.wp execOp
  simp only [ho, resolve, invoke, builtin, Sem.run_bind, Sem.run_pure, Result.andThen_ok, List.map_toArray, List.map_cons, List.map_nil, hs, hx, hr]
  exact hK.out _ _ hS hc
end
end Go.Proofs.Ytchdobneipfghaa.Kit
