/- Lemmas: RegT RegU RegV Still DskA ChaC. -/
import Derived.Test.YtndkmfflpphoiaaZG02
import Derived.StillTailTactics
import Derived.Test.YtndkmfflpphoiaaRows
import Derived.BigQuiet
import Derived.Deep.QuietTactic
set_option linter.unusedVariables false
set_option linter.unusedSimpArgs false
namespace Go.Proofs.Ytndkmfflpphoiaa.Kit
open Go Go.RowKit
section
variable {P : Program} {md : Region.Mode} {ops : Array Oper} {Q : Exit → Act → World → Prop} {S : World → Prop}
theorem reg_storeIn {oi : Oper} {fuel : Nat} {listed : Array Bool} {a : Act} {w : World} (i : Nat) (d : Option Tmp) (ty : TypeId) (x y : Operand) (hi : ops[i]? = some oi) (hd : oi.dst = d) (ho : oi.op = .store ty x y) (hr : Region.ready md ops listed = [i])
    (hw : Region.wanted oi (yielded ops a.tmps) = true) (g off : Nat) (t : TypeId) (cs vs : List Value) (hB : Blk w g t cs) (hx : a.eval x = .pointer (some ⟨g, off, none⟩)) (hy : a.eval y = .agg vs.toArray) (hl : off + vs.length ≤ cs.length) (hz : (P.info? ty).map (·.size) = some vs.length) (h1 : ∀ u ∈ vs, u.oneCell' = true)
    (h : ∀ w', Blk w' g t (splice cs off vs) → Kp (oneB g) w w' → w'.heap.size = w.heap.size → S w' ∧ (S w' → wpAnyH P md ops (NoPanic Q) S fuel (listed.setIfInBounds i true) (a.put d undef) w')) : wpAnyH P md ops (NoPanic Q) S (fuel + 1) listed a w := by
  subst hd
  have hb : Blk (w.setCells g off vs) g t (splice cs off vs) := by
    have := hB.setCells (o := off) vs hl
    rw [List.append_assoc] at this
    exact this
  obtain ⟨hS, h2⟩ := h (w.setCells g off vs) hb (Kp.setCells (F := oneB g) (.inl rfl) _ (Kp.refl (oneB g) w)) (setCells_size _ _ _)
  refine wpAnyH_ready hr (by simp) (AllReadyH.cons hi (fun K' hK => ?_) AllReadyH.nil)
  rw [if_pos hw]
  have ht : w.there g off vs.toArray.size := by
    intro j hj
    have hj' : j < vs.length := by simpa using hj
    rw [hB.cell, List.getElem?_eq_getElem (by omega)]
    exact ⟨rfl, hB.frozen _⟩
  have hz' : (P.info? ty).map (·.size) = some vs.toArray.size := by simpa using hz
  exact wp_store_mid ty x y ho g off vs.toArray hx hy ht hz' (all_oneCell_toArray h1) (hK.out _ _ (by simpa using hS) (fun _ => by simpa using h2 hS))
/-- Two calls: either may come next. -/
theorem reg_callBoth {oi oj : Oper} {fuel : Nat} {listed : Array Bool} {a : Act} {w : World} (i j : Nat) (d e : Option Tmp) (hi : ops[i]? = some oi) (hd : oi.dst = d) (hj : ops[j]? = some oj) (he : oj.dst = e) (hr : Region.ready md ops listed = [i, j])
    (hw : Region.wanted oi (yielded ops a.tmps) = true) (hv : Region.wanted oj (yielded ops a.tmps) = true) (f f' : FuncId) (args args' : Array Value) (hx : (execOp a.eval oi).run P w = .ok (.enter f args) w) (hy : (execOp a.eval oj).run P w = .ok (.enter f' args') w)
    (hc : Calls P f args w fun e w' => ∃ v, e = .returned v ∧ S w' ∧ (S w' → wpAnyH P md ops (NoPanic Q) S fuel (listed.setIfInBounds i true) (a.put d v) w'))
    (hc' : Calls P f' args' w fun e' w' => ∃ v, e' = .returned v ∧ S w' ∧ (S w' → wpAnyH P md ops (NoPanic Q) S fuel (listed.setIfInBounds j true) (a.put e v) w')) : wpAnyH P md ops (NoPanic Q) S (fuel + 1) listed a w := by
  subst hd; subst he
  refine wpAnyH_ready hr (by simp) (AllReadyH.cons hi (fun K' hK => ?_) (AllReadyH.cons hj (fun K' hK => ?_) AllReadyH.nil))
  · rw [if_pos hw]
    unfold Oper.wp
    rw [hx, Oper.upon_enter]
    refine hc.mono ?_
    rintro e w' ⟨v, rfl, hS, h⟩
    exact hK.out _ _ hS h
  · rw [if_pos hv]
    unfold Oper.wp
    rw [hy, Oper.upon_enter]
    refine hc'.mono ?_
    rintro e w' ⟨v, rfl, hS, h⟩
    exact hK.out _ _ hS h
/-- Two operations that run in the world as it is: either may come next. -/
theorem reg_stepOr {oi oj : Oper} {v u : Value} {fuel : Nat} {listed : Array Bool} {a : Act} {w wi wj : World} (i j : Nat) (d e : Option Tmp) (hi : ops[i]? = some oi) (hd : oi.dst = d) (hj : ops[j]? = some oj) (he : oj.dst = e) (hr : Region.ready md ops listed = [i, j])
    (hw : Region.wanted oi (yielded ops a.tmps) = true) (hv : Region.wanted oj (yielded ops a.tmps) = true) (hx : (execOp a.eval oi).run P w = .ok (.value v) wi) (hy : (execOp a.eval oj).run P w = .ok (.value u) wj) (hSi : S wi) (hSj : S wj)
    (h : S wi → wpAnyH P md ops (NoPanic Q) S fuel (listed.setIfInBounds i true) (a.put d v) wi)
    (h' : S wj → wpAnyH P md ops (NoPanic Q) S fuel (listed.setIfInBounds j true) (a.put e u) wj) : wpAnyH P md ops (NoPanic Q) S (fuel + 1) listed a w := by
  subst hd; subst he
  refine wpAnyH_ready hr (by simp) (AllReadyH.cons hi (fun K' hK => ?_) (AllReadyH.cons hj (fun K' hK => ?_) AllReadyH.nil))
  · rw [if_pos hw]
    unfold Oper.wp
    rw [hx]
    exact hK.out _ _ hSi h
  · rw [if_pos hv]
    unfold Oper.wp
    rw [hy]
    exact hK.out _ _ hSj h'
/-- A store (or what yields nothing), it alone is ready. -/
theorem reg_mute {oi : Oper} {fuel : Nat} {listed : Array Bool} {a : Act} {w w' : World} (i : Nat) (d : Option Tmp) (hi : ops[i]? = some oi) (hd : oi.dst = d) (hr : Region.ready md ops listed = [i])
    (hw : Region.wanted oi (yielded ops a.tmps) = true) (hx : (execOp a.eval oi).run P w = .ok .skip w') (hS : S w')
    (h : S w' → wpAnyH P md ops (NoPanic Q) S fuel (listed.setIfInBounds i true) (a.put d undef) w') : wpAnyH P md ops (NoPanic Q) S (fuel + 1) listed a w := by
  subst hd
  refine wpAnyH_ready hr (by simp) (AllReadyH.cons hi (fun K' hK => ?_) AllReadyH.nil)
  rw [if_pos hw]
  unfold Oper.wp
  rw [hx]
  exact hK.out _ _ hS h
/-- A row of elements of k cells is appended, it alone is ready. -/
theorem reg_appK {oi : Oper} {fuel : Nat} {listed : Array Bool} {a : Act} {w : World} (ix : Nat) (dd : Option Tmp) (s x : Operand) (t : TypeId) (hi0 : ops[ix]? = some oi) (hd0 : oi.dst = dd)
    (ho : oi.op = .call { callee := .builtin .append, args := #[s, x], argTypes := #[t, t] }) (hr0 : Region.ready md ops listed = [ix]) (hw0 : Region.wanted oi (yielded ops a.tmps) = true)
    (k : Nat) (hk : 0 < k) (e : TypeId) (i : TypeInfo) (z : Value) (bytes : Nat) (ht : P.underlying t = some (.slice e)) (hi : P.info? e = some i) (hz : i.zero = some z)
    (hsize : i.size = k) (hby : i.bytes = bytes) (hzs : z.cells.size = k)
    (A : Option Addr) (n c : Nat) (xs : List Value) (hs : a.eval s = .slice A n c) (hown : OwnK k e w A n c xs)
    (B : Addr) (m d : Nat) (ys : List Value) (hx : a.eval x = .slice (some B) m d) (hm : ys.length = m * k) (hrow : Row w (some B) ys) (h1 : ∀ u ∈ ys, u.oneCell' = true)
    (hbytes : (n + m) * bytes ≤ 140737488355328) (h63 : n + m ≤ 140737488355328)
    (h : ∀ A' c' w', OwnK k e w' A' (n + m) c' (xs ++ ys) → w.grownBy w' (ab A) → (ab A' = ab A ∨ ab A' = some w.heap.size) → S w' ∧ (S w' → wpAnyH P md ops (NoPanic Q) S fuel (listed.setIfInBounds ix true) (a.put dd (.slice A' (n + m) c')) w')) : wpAnyH P md ops (NoPanic Q) S (fuel + 1) listed a w := by
  subst hd0
  have hmx : n + m ≤ maxLen := by unfold maxLen; omega
  obtain ⟨A', c', w', hr, h2, h3, h4⟩ := run_appK (P := P) w t oi.type k hk e i z bytes ht hi hz hsize hby hzs A n c xs hown B m d ys hm hrow h1 hbytes hmx
  obtain ⟨hS, hc⟩ := h A' c' w' h2 h3 h4
  refine wpAnyH_ready hr0 (by simp) (AllReadyH.cons hi0 (fun K' hK => ?_) AllReadyH.nil)
  rw [if_pos hw0]
  unfold Oper.wp execOp
  simp only [ho, resolve, invoke, builtin, Sem.run_bind, Sem.run_pure, Result.andThen_ok, List.map_toArray, List.map_cons, List.map_nil, hs, hx, hr]
  exact hK.out _ _ hS hc
end
section
variable {P : Program} {md : Region.Mode} {ops : Array Oper} {Q : Exit → Act → World → Prop} {S : World → Prop}
/-- A whole value is loaded, or a call is made: either may come next. -/
theorem reg_loadOr {oi oj : Oper} {fuel : Nat} {listed : Array Bool} {a : Act} {w : World} (i j : Nat) (d e : Option Tmp) (ty : TypeId) (x : Operand) (hi : ops[i]? = some oi) (hd : oi.dst = d) (ho : oi.op = .load ty x) (hj : ops[j]? = some oj) (he : oj.dst = e) (hr : Region.ready md ops listed = [i, j])
    (hw : Region.wanted oi (yielded ops a.tmps) = true) (hv : Region.wanted oj (yielded ops a.tmps) = true) (hS : S w) (b o : Nat) (hx : a.eval x = .pointer (some ⟨b, o, none⟩)) (cs : List Value) (dd : TypeDesc) (hc : w.rangeAt b o cs) (hu : P.underlying ty = some dd) (hdd : dd.isRow = true) (hz : (P.info? ty).map (·.size) = some cs.length)
    (f : FuncId) (args : Array Value) (hy : (execOp a.eval oj).run P w = .ok (.enter f args) w)
    (h : wpAnyH P md ops (NoPanic Q) S fuel (listed.setIfInBounds i true) (a.put d (.agg cs.toArray)) w)
    (h' : Calls P f args w fun e' w' => ∃ v, e' = .returned v ∧ S w' ∧ (S w' → wpAnyH P md ops (NoPanic Q) S fuel (listed.setIfInBounds j true) (a.put e v) w')) : wpAnyH P md ops (NoPanic Q) S (fuel + 1) listed a w := by
  subst hd; subst he
  have hr2 := run_loadAt_mid (P := P) w b o ty cs dd hc hu hdd hz
  have e2 : (execOp a.eval oi).run P w = .ok (.value (.agg cs.toArray)) w := by
    unfold execOp
    simp only [ho, hx, Sem.run_bind, hr2, Result.andThen_ok, Sem.run_pure]
  refine wpAnyH_ready hr (by simp) (AllReadyH.cons hi (fun K' hK => ?_) (AllReadyH.cons hj (fun K' hK => ?_) AllReadyH.nil))
  · rw [if_pos hw]
    unfold Oper.wp
    rw [e2]
    exact hK.out _ _ hS fun _ => h
  · rw [if_pos hv]
    unfold Oper.wp
    rw [hy, Oper.upon_enter]
    refine h'.mono ?_
    rintro e w' ⟨v, rfl, hS, h⟩
    exact hK.out _ _ hS h
end
/-- A call of a function by its number. -/
theorem exec_func {P : Program} {a : Act} {o : Oper} {w : World} (f : FuncId) (xs : Array Operand) (ts : Array TypeId) (args : List Value) (ho : o.op = .call { callee := .value (.func f), args := xs, argTypes := ts })
    (hf : (P.funcs[f]?).any (fun fn => !(fn.name == "runtime.NumGoroutine") && fn.body.isSome) = true) (hx : xs.toList.map a.eval = args) : (execOp a.eval o).run P w = .ok (.enter f args.toArray) w := by
  subst hx
  cases hq : P.funcs[f]? with
  | none => rw [hq] at hf; cases hf
  | some fn =>
    rw [hq] at hf
    simp only [Option.any_some, Bool.and_eq_true, Bool.not_eq_true'] at hf
    obtain ⟨h1, h2⟩ := hf
    have h3 : fn.body.isNone = false := by cases hb : fn.body <;> simp_all
    have e : (callFunc f (xs.map a.eval)).run P w = .ok (.enter f (xs.map a.eval)) w := by
      unfold callFunc
      simp [go_sem, hq]
      simp at h1
      cases hb : fn.body with
      | none => simp [hb] at h3
      | some c => simp [h1]
    have e2 : (List.map a.eval xs.toList).toArray = xs.map a.eval := by apply Array.ext'; simp
    rw [e2]
    unfold execOp
    simp [ho, resolve, go_sem]
    exact e
theorem reg_start {P : Program} {ops : Array Oper} {Q : Exit → Act → World → Prop} {id : Nat} {a : Act} {w : World} (S : World → Prop) (hm : P.follows .mixedOrders = true) (hS : S w.drew)
    (h : ∀ w', S w' → wpAnyH P .any ops (NoPanic Q) S ops.size (Array.replicate ops.size false) a w') : (Code.region id ops true).wp P Q a w :=
  reg_begin S hm hS (fun h1 => h _ h1)
/-- A whole value loaded. -/
theorem wpStill_load {P : Program} {ops : Array Oper} {w : World} {Q : Act → Prop} {a : Act} {o : Oper} {rest : List Oper} (hgd : o.guard = none) (ty : TypeId) (x : Operand) (ho : o.op = .load ty x) (p v : Value) (hx : a.eval x = p)
    (hr : (Instr.loadAt ty p).run P w = .ok v w) (h : wpStill P ops w Q rest (a.put o.dst v)) : wpStill P ops w Q (o :: rest) a :=
  wpStill_step fun K hK => by
    rw [if_pos (by simp [Region.wanted, hgd])]
    have e : (execOp a.eval o).run P w = .ok (.value v) w := by
      unfold execOp
      simp only [ho, hx, Sem.run_bind, hr, Result.andThen_ok, Sem.run_pure]
    unfold Oper.still
    rw [e, Oper.stillUpon_value]
    exact hK _ h
end Go.Proofs.Ytndkmfflpphoiaa.Kit
namespace Go.Proofs.Ytndkmfflpphoiaa.Disk
open Go Go.RowKit Kit
/-- A write that isn't safe, as cells. -/
def wcell (x : Nat × List UInt8) : List Value := .int .i64 (x.1 : Int) :: bvs x.2
theorem wcell_length (x : Nat × List UInt8) (h : x.2.length = 256) : (wcell x).length = 257 := by simp [wcell, h]
theorem wcell_one (x : Nat × List UInt8) : ∀ u ∈ wcell x, u.oneCell' = true := by
  intro u hu
  rcases List.mem_cons.1 hu with rfl | hu
  · rfl
  · exact bvs_one _ u hu
/-- The disk at g: its sectors at N, what is safe of them at S, what waits at W. -/
structure Cd (w : World) (g N S : Nat) (W : Option Addr) (cW : Nat) (D : Dk) : Prop where
  b : Blk w g 72 [.slice (some ⟨N, 0, none⟩) D.now.length D.now.length, .slice (some ⟨S, 0, none⟩) D.now.length D.now.length, .slice W D.waits.length cW, .bool D.off, .int .i64 (D.acts : Int), .int .i64 (D.fuse : Int), .int .u64 (D.keep : Int)]
  now : Blk w N 86 (D.now.flatMap bvs)
  safe : Blk w S 86 (D.safe.flatMap bvs)
  waits : OwnK 257 91 w W D.waits.length cW (D.waits.flatMap wcell)
  ok : Ok D
  al : D.now = allw D.waits D.safe
  max : D.now.length ≤ 4096
  ne : N ≠ g ∧ S ≠ g ∧ N ≠ S
  nw : ∀ k, ab W = some k → k ≠ g ∧ k ≠ N ∧ k ≠ S
/-- Its blocks. -/
def dF (g N S : Nat) (W : Option Addr) : Nat → Prop := fun k => k = g ∨ k = N ∨ k = S ∨ ab W = some k
theorem Cd.keep {w w2 : World} {g N S : Nat} {W : Option Addr} {cW : Nat} {D : Dk} {G : Nat → Prop} (h : Cd w g N S W cW D) (k : Kp G w w2) (hF : ∀ i, dF g N S W i → ¬ G i) : Cd w2 g N S W cW D :=
  ⟨h.b.keep k (hF _ (.inl rfl)), h.now.keep k (hF _ (.inr (.inl rfl))), h.safe.keep k (hF _ (.inr (.inr (.inl rfl)))), h.waits.keep k (fun j e => hF j (.inr (.inr (.inr e)))), h.ok, h.al, h.max, h.ne, h.nw⟩
theorem Cd.keep0 {w w2 : World} {g N S : Nat} {W : Option Addr} {cW : Nat} {D : Dk} (h : Cd w g N S W cW D) (k : Kp nob w w2) : Cd w2 g N S W cW D := h.keep k (fun _ _ e => e)
theorem Cd.lt {w : World} {g N S : Nat} {W : Option Addr} {cW : Nat} {D : Dk} (h : Cd w g N S W cW D) : ∀ k, dF g N S W k → k < w.heap.size := by
  intro k e
  rcases e with rfl | rfl | rfl | e
  · exact h.b.lt
  · exact h.now.lt
  · exact h.safe.lt
  · exact h.waits.lt k e
theorem Cd.cells {w : World} {g N S : Nat} {W : Option Addr} {cW : Nat} {D : Dk} (h : Cd w g N S W cW D) :
    w.cell? ⟨g, 0, none⟩ = some (.slice (some ⟨N, 0, none⟩) D.now.length D.now.length) ∧ w.cell? ⟨g, 1, none⟩ = some (.slice (some ⟨S, 0, none⟩) D.now.length D.now.length) ∧ w.cell? ⟨g, 2, none⟩ = some (.slice W D.waits.length cW) ∧ w.cell? ⟨g, 3, none⟩ = some (.bool D.off) ∧ w.cell? ⟨g, 4, none⟩ = some (.int .i64 (D.acts : Int)) ∧ w.cell? ⟨g, 5, none⟩ = some (.int .i64 (D.fuse : Int)) ∧ w.cell? ⟨g, 6, none⟩ = some (.int .u64 (D.keep : Int)) :=
  ⟨h.b.cell 0, h.b.cell 1, h.b.cell 2, h.b.cell 3, h.b.cell 4, h.b.cell 5, h.b.cell 6⟩
/-- Where the disk's own cells alone are turned. -/
theorem Cd.own {w w2 : World} {g N S : Nat} {W : Option Addr} {cW : Nat} {D D2 : Dk} (h : Cd w g N S W cW D) (k : Kp (oneB g) w w2) (hn : D2.now = D.now) (hs : D2.safe = D.safe) (hw : D2.waits = D.waits)
    (hb : Blk w2 g 72 [.slice (some ⟨N, 0, none⟩) D.now.length D.now.length, .slice (some ⟨S, 0, none⟩) D.now.length D.now.length, .slice W D.waits.length cW, .bool D2.off, .int .i64 (D2.acts : Int), .int .i64 (D2.fuse : Int), .int .u64 (D2.keep : Int)]) : Cd w2 g N S W cW D2 :=
  ⟨by rw [hn, hw]; exact hb, by rw [hn]; exact h.now.keep k h.ne.1, by rw [hs]; exact h.safe.keep k h.ne.2.1, by rw [hw]; exact h.waits.keep k (fun j e => (h.nw j e).1), ⟨by rw [hs, hn]; exact h.ok.safe, by rw [hn]; exact h.ok.now, by rw [hs]; exact h.ok.safe2, by rw [hw, hn]; exact h.ok.waits⟩, by rw [hn, hw, hs]; exact h.al, by rw [hn]; exact h.max, h.ne, h.nw⟩
/-- Behind a call that turns the disk: it is D2 now; what else was there is as it was. -/
def Dz (w : World) (g N S : Nat) (W : Option Addr) (D2 : Dk) (w2 : World) : Prop := ∃ (W2 : Option Addr) (c2 : Nat), Cd w2 g N S W2 c2 D2 ∧ Kp (dF g N S W) w w2 ∧ ∀ k, ab W2 = some k → ab W = some k ∨ w.heap.size ≤ k
theorem Dz.df {w w2 : World} {g N S : Nat} {W W2 : Option Addr} (h : ∀ k, ab W2 = some k → ab W = some k ∨ w.heap.size ≤ k) : ∀ k, dF g N S W2 k → dF g N S W k ∨ w.heap.size ≤ k := by
  intro k e
  rcases e with e | e | e | e
  · exact .inl (.inl e)
  · exact .inl (.inr (.inl e))
  · exact .inl (.inr (.inr (.inl e)))
  · rcases h k e with h | h
    · exact .inl (.inr (.inr (.inr h)))
    · exact .inr h
/-- Two such calls. -/
theorem Dz.trans {w w2 w3 : World} {g N S : Nat} {W W2 : Option Addr} {D3 : Dk} (k : Kp (dF g N S W) w w2) (hw : ∀ k, ab W2 = some k → ab W = some k ∨ w.heap.size ≤ k) (h : Dz w2 g N S W2 D3 w3) : Dz w g N S W D3 w3 := by
  obtain ⟨W3, c3, h1, h2, h3⟩ := h
  refine ⟨W3, c3, h1, k.trans h2 (fun i e => Dz.df (w2 := w) hw i e), fun i e => ?_⟩
  rcases h3 i e with h | h
  · exact hw i h
  · exact .inr (Nat.le_trans k.size h)
theorem Dz.since {w w2 w3 : World} {g N S : Nat} {W : Option Addr} {D3 : Dk} (k : Kp nob w w2) (h : Dz w2 g N S W D3 w3) : Dz w g N S W D3 w3 := Dz.trans (k.nob _) (fun _ e => .inl e) h
theorem Dz.then {w w2 w3 : World} {g N S : Nat} {W : Option Addr} {D3 : Dk} (h : Dz w g N S W D3 w2) (k : Kp nob w2 w3) : Dz w g N S W D3 w3 := by
  obtain ⟨W3, c3, h1, h2, h3⟩ := h
  exact ⟨W3, c3, h1.keep0 k, h2.trans k (fun _ e => e.elim), h3⟩
theorem Cd.self {w : World} {g N S : Nat} {W : Option Addr} {cW : Nat} {D : Dk} (h : Cd w g N S W cW D) : Dz w g N S W D w := ⟨W, cW, h, Kp.refl _ _, fun _ e => .inl e⟩
theorem sec_under : Try.prog.underlying 86 = some (.array 256 5) := by kernel_rfl
theorem sec_size : (Try.prog.info? 86).map (·.size) = some 256 := by kernel_rfl
theorem sec_size' (s : List UInt8) (h : s.length = 256) : (Try.prog.info? 86).map (·.size) = some (bvs s).length := by rw [bvs_length, h]; exact sec_size
theorem wr_under : Try.prog.underlying 91 = some (.struct (Try.prog.fieldsOf 91)) := by kernel_rfl
theorem wr_size' (x : Nat × List UInt8) (h : x.2.length = 256) : (Try.prog.info? 91).map (·.size) = some (wcell x).length := by rw [wcell_length x h]; kernel_rfl
theorem u8s_under : Try.prog.underlying 36 = some (.slice 5) := by kernel_rfl
theorem u8_size : (Try.prog.info? 5).map (·.size) = some 1 := by kernel_rfl
theorem refused_any (D : Dk) (g N S : Nat) (W : Option Addr) (cW : Nat) (w : World) (h : Cd w g N S W cW D) :
    Calls Try.prog 43 #[.pointer (some ⟨g, 0, none⟩)] w fun e w' => e = .returned (.int .i64 (if D.off then 8 else 0)) ∧ w = w' := by
  obtain ⟨c0, c1, c2, c3, c4, c5, c6⟩ := h.cells
  clear c0 c1 c2 c4 c5 c6 h
  cases ho : D.off with
  | true =>
    rw [ho] at c3; clear ho
    go_enter Try.func43, Try.ntmps43
    go_wp2
    go_ret
    exact ⟨rfl, rfl⟩
  | false =>
    rw [ho] at c3; clear ho
    go_enter Try.func43, Try.ntmps43
    go_wp2
    go_ret
    exact ⟨rfl, rfl⟩
/-- Is there such a sector? -/
def has (D : Dk) (i : Int) : Bool := decide (0 ≤ i ∧ i < (D.now.length : Int))
theorem has_any (D : Dk) (i : Int) (g N S : Nat) (W : Option Addr) (cW : Nat) (w : World) (h : Cd w g N S W cW D) :
    Calls Try.prog 52 #[.pointer (some ⟨g, 0, none⟩), .int .i64 i] w fun e w' => e = .returned (.bool (has D i)) ∧ w = w' := by
  obtain ⟨c0, c1, c2, c3, c4, c5, c6⟩ := h.cells
  clear c1 c2 c3 c4 c5 c6 h
  by_cases h1 : 0 ≤ i
  · by_cases h2 : i < (D.now.length : Int)
    · have HM := Lib.hid (show has D i = true by unfold has; exact decide_eq_true ⟨h1, h2⟩)
      go_enter Try.func52, Try.ntmps52
      go_wp2
      go_ret
      rw [HM.out]; exact ⟨rfl, rfl⟩
    · have HM := Lib.hid (show has D i = false by unfold has; exact decide_eq_false (fun e => h2 e.2))
      go_enter Try.func52, Try.ntmps52
      go_wp2
      go_ret
      rw [HM.out]; exact ⟨rfl, rfl⟩
  · have HM := Lib.hid (show has D i = false by unfold has; exact decide_eq_false (fun e => h1 e.1))
    go_enter Try.func52, Try.ntmps52
    go_wp2
    go_ret
    rw [HM.out]; exact ⟨rfl, rfl⟩
theorem acts_any (D : Dk) (g N S : Nat) (W : Option Addr) (cW : Nat) (w : World) (h : Cd w g N S W cW D) :
    Calls Try.prog 29 #[.pointer (some ⟨g, 0, none⟩)] w fun e w' => e = .returned (.int .i64 (D.acts : Int)) ∧ w = w' := by
  obtain ⟨c0, c1, c2, c3, c4, c5, c6⟩ := h.cells
  clear c0 c1 c2 c3 c5 c6 h
  go_enter Try.func29, Try.ntmps29
  go_wp2
  go_ret
  exact ⟨rfl, rfl⟩
theorem on_any (D : Dk) (g N S : Nat) (W : Option Addr) (cW : Nat) (w : World) (h : Cd w g N S W cW D) :
    Calls Try.prog 23 #[.pointer (some ⟨g, 0, none⟩)] w fun e w' => e = .returned (.tuple #[]) ∧ Cd w' g N S W cW (on D) ∧ Kp (oneB g) w w' := by
  have f3 : w.frozen? ⟨g, 3, none⟩ = false := h.b.frozen _
  have c3 := h.cells.2.2.2.1
  have K1 := Lib.hid ((Kp.refl (oneB g) w).setCell (p := ⟨g, 3, none⟩) (.inl rfl) (.bool false))
  have HB1 := Lib.hid (h.b.set_ 3 (.bool false))
  have HD := Lib.hid h
  clear h
  go_enter Try.func23, Try.ntmps23
  go_wp2
  exact bodyPost_end (results_none rfl _ _ _) rfl ⟨rfl, HD.out.own K1.out rfl rfl rfl HB1.out, K1.out⟩
set_option maxHeartbeats 1000000 in
theorem arm_any (D : Dk) (n : Int) (keep : Nat) (g N S : Nat) (W : Option Addr) (cW : Nat) (w : World) (h : Cd w g N S W cW D) :
    Calls Try.prog 24 #[.pointer (some ⟨g, 0, none⟩), .int .i64 n, .int .u64 (keep : Int)] w fun e w' => e = .returned (.tuple #[]) ∧ Cd w' g N S W cW (arm D n keep) ∧ Kp (oneB g) w w' := by
  have f5 : w.frozen? ⟨g, 5, none⟩ = false := h.b.frozen _
  have f6 : w.frozen? ⟨g, 6, none⟩ = false := h.b.frozen _
  have c5 := h.cells.2.2.2.2.2.1
  have c6 := h.cells.2.2.2.2.2.2
  have HD := Lib.hid h
  obtain ⟨m, hm⟩ : ∃ m : Nat, m = n.toNat := ⟨_, rfl⟩
  have hmx : (if 0 < n then n else 0) = (m : Int) := by split <;> omega
  have hmx2 : (if n < 0 then 0 else n) = (m : Int) := by split <;> omega
  have hmx3 : (if 0 > n then 0 else n) = (m : Int) := by split <;> omega
  have HM := Lib.hid hm
  have K1 := Lib.hid (((Kp.refl (oneB g) w).setCell (p := ⟨g, 5, none⟩) (.inl rfl) (.int .i64 (m : Int))).setCell (p := ⟨g, 6, none⟩) (.inl rfl) (.int .u64 (keep : Int)))
  have HB1 := Lib.hid ((h.b.set_ 5 (.int .i64 (m : Int))).set_ 6 (.int .u64 (keep : Int)))
  clear h hm
  go_enter Try.func24, Try.ntmps24
  go_wp2
  refine bodyPost_end (results_none rfl _ _ _) rfl ⟨rfl, HD.out.own K1.out rfl rfl rfl ?_, K1.out⟩
  show Blk _ _ _ [_, _, _, _, _, .int .i64 ((n.toNat : Nat) : Int), _]
  rw [← HM.out]
  exact HB1.out
/-- What Act answers. -/
def told (D : Dk) : Value := .tuple #[.bool (act D).2, .int .u64 (if (act D).2 then (D.keep : Int) else 0)]
theorem told_no (D : Dk) (h : (act D).2 = false) : told D = .tuple #[.bool false, .int .u64 0] := by rw [told, h]; rfl
theorem told_yes (D : Dk) (h : (act D).2 = true) : told D = .tuple #[.bool true, .int .u64 (D.keep : Int)] := by rw [told, h]; rfl
set_option maxHeartbeats 1000000 in
theorem act1_any (D : Dk) (g N S : Nat) (W : Option Addr) (cW : Nat) (w : World) (h : Cd w g N S W cW D) (ha : D.acts ≤ 1000000000000) (hf : D.fuse ≤ 9223372036854775807) :
    Calls Try.prog 59 #[.pointer (some ⟨g, 0, none⟩)] w fun e w' => e = .returned (told D) ∧ Cd w' g N S W cW (act D).1 ∧ Kp (oneB g) w w' := by
  obtain ⟨c0, c1, c2, c3, c4, c5, c6⟩ := h.cells
  have f4 : w.frozen? ⟨g, 4, none⟩ = false := h.b.frozen _
  have f5 : w.frozen? ⟨g, 5, none⟩ = false := h.b.frozen _
  have HD := Lib.hid h
  have HR := Lib.hid (refused_any D g N S W cW w h)
  clear c0 c1 c2 h
  cases ho : D.off with
  | true =>
    rw [ho] at HR
    have HA := Lib.hid (act_off D ho)
    clear ho
    go_enter Try.func59, Try.ntmps59
    go_wp2_with fail
    refine HR.out.mono ?_
    rintro e w1 ⟨rfl, rfl⟩
    go_wp2
    go_ret2
    rw [told_no D (by rw [HA.out]), HA.out]; exact ⟨rfl, HD.out, Kp.refl _ _⟩
  | false =>
    rw [ho] at HR
    have HA := Lib.hid (act_on D ho)
    obtain ⟨a1, ha1⟩ : ∃ a, a = D.acts + 1 := ⟨_, rfl⟩
    have e1 : IntKind.i64.wrap ((D.acts : Int) + 1) = (a1 : Int) := by rw [IntWalk.i64_in _ (by omega)]; omega
    have HA1 := Lib.hid ha1
    have K := Lib.hid (((Kp.refl (oneB g) w).setCell (p := ⟨g, 4, none⟩) (.inl rfl) (.int .i64 (a1 : Int))))
    have HB1 := Lib.hid (HD.out.b.set_ 4 (.int .i64 (a1 : Int)))
    by_cases h0 : D.fuse = 0
    · have HRR := Lib.hid (show (act D).1 = { D with acts := a1, fuse := 0 } ∧ (act D).2 = false by rw [HA.out, h0, ha1]; exact ⟨rfl, rfl⟩)
      rw [h0] at c5
      have H0 := Lib.hid h0
      clear ho ha1 ha h0 hf
      go_enter Try.func59, Try.ntmps59
      go_wp2_with fail
      refine HR.out.mono ?_
      rintro e w1 ⟨rfl, rfl⟩
      go_wp2
      go_ret2
      rw [told_no D HRR.out.2, HRR.out.1]
      refine ⟨rfl, HD.out.own K.out rfl rfl rfl ?_, K.out⟩
      have := HB1.out
      rw [H0.out] at this
      exact this
    · obtain ⟨f1, hf1⟩ : ∃ f, f = D.fuse - 1 := ⟨_, rfl⟩
      have e2 : IntKind.i64.wrap ((D.fuse : Int) - 1) = (f1 : Int) := by rw [IntWalk.i64_in _ (by omega)]; omega
      have h0' : ((D.fuse : Int) == 0) = false := beq_eq_false_iff_ne.2 (by omega)
      have HRR := Lib.hid (show (act D).1 = { D with acts := a1, fuse := f1 } ∧ (act D).2 = decide (f1 = 0) by rw [HA.out, ha1, hf1]; exact ⟨rfl, by simp only; congr 1; rw [eq_iff_iff]; omega⟩)
      have K2 := Lib.hid (K.out.setCell (p := ⟨g, 5, none⟩) (.inl rfl) (.int .i64 (f1 : Int)))
      have HB2 := Lib.hid (HB1.out.set_ 5 (.int .i64 (f1 : Int)))
      by_cases hz : f1 = 0
      · have hg : decide (0 < f1) = false := by simp; omega
        have HZ := Lib.hid hz
        clear ho ha1 ha h0 hf hf1 hz
        go_enter Try.func59, Try.ntmps59
        go_wp2_with fail
        refine HR.out.mono ?_
        rintro e w1 ⟨rfl, rfl⟩
        go_wp2_with fail
        go_quiet (fail)
        go_wp2
        go_ret2
        rw [told_yes D (by rw [HRR.out.2, HZ.out]; rfl), HRR.out.1]
        exact ⟨rfl, (HD.out.own (D2 := { D with acts := a1, fuse := f1 }) K2.out rfl rfl rfl HB2.out).keep0 ((Kp.refl nob _).drewN _), K2.out.drewN _⟩
      · have hg : decide (0 < f1) = true := by simp; omega
        have HZ := Lib.hid (show decide (f1 = 0) = false from decide_eq_false hz)
        clear ho ha1 ha h0 hf hf1 hz
        go_enter Try.func59, Try.ntmps59
        go_wp2_with fail
        refine HR.out.mono ?_
        rintro e w1 ⟨rfl, rfl⟩
        go_wp2
        go_ret2
        rw [told_no D (HRR.out.2.trans HZ.out), HRR.out.1]
        exact ⟨rfl, HD.out.own K2.out rfl rfl rfl HB2.out, K2.out⟩
/-- What the code's area is in memory: at block a, its one block, of the disk at g, and where it stands; the disk's pointer lies first. -/
structure AreaP where
  is : World → Nat → Nat → Ar → Prop
  lt : ∀ {w : World} {a g : Nat} {A : Ar}, is w a g A → a < w.heap.size
  keep : ∀ {w w2 : World} {a g : Nat} {A : Ar} {F : Nat → Prop}, is w a g A → Kp F w w2 → ¬ F a → is w2 a g A
  disk : ∀ {w : World} {a g : Nat} {A : Ar}, is w a g A → w.cell? ⟨a, 0, none⟩ = some (.pointer (some ⟨g, 0, none⟩))
/-- The disk's blocks, and the area's. -/
def aF (g N S : Nat) (W : Option Addr) (a : Nat) : Nat → Prop := fun k => dF g N S W k ∨ k = a
/-- A disk that can be acted on many times yet. -/
structure Far (D : Dk) : Prop where
  waits : D.waits.length ≤ 90000
  acts : D.acts ≤ 900000000000
  fuse : D.fuse ≤ 9223372036854775807
  keep : D.keep < 18446744073709551616
def HalfC (P : AreaP) : Prop := ∀ (D : Dk) (g N S : Nat) (W : Option Addr) (cW : Nat) (epoch : Int) (w : World), Cd w g N S W cW D → (0 ≤ epoch ∧ epoch ≤ 9223372036854775807) →
  Calls Try.prog 12 #[.pointer (some ⟨g, 0, none⟩), .int .i64 epoch] w fun e w' => ∃ a, e = .returned (.pointer (some ⟨a, 0, none⟩)) ∧ P.is w' a g (aHalf D.now.length (decide (epoch % 2 = 1))) ∧ Kp nob w w' ∧ w.heap.size ≤ a
def LeftC (P : AreaP) : Prop := ∀ (a g : Nat) (A : Ar) (w : World), P.is w a g A → A.pos ≤ A.top → A.top ≤ 4096 →
  Calls Try.prog 28 #[.pointer (some ⟨a, 0, none⟩)] w fun e w' => e = .returned (.int .i64 ((A.top - A.pos : Nat) : Int)) ∧ Kp nob w w'
/-- What an Add leaves. -/
def AddP (P : AreaP) (D : Dk) (g N S : Nat) (W : Option Addr) (a : Nat) (A : Ar) (s : List UInt8) (w w' : World) : Prop := ∃ (W2 : Option Addr) (c2 : Nat), Cd w' g N S W2 c2 (aAdd D A s).1 ∧ Kp (aF g N S W a) w w' ∧ (∀ k, ab W2 = some k → ab W = some k ∨ w.heap.size ≤ k) ∧ P.is w' a g (aAdd D A s).2.1
def AddC (P : AreaP) : Prop := ∀ (D : Dk) (g N S : Nat) (W : Option Addr) (cW a : Nat) (A : Ar) (X : Option Addr) (n c : Nat) (s : List UInt8) (w : World), Cd w g N S W cW D → P.is w a g A → ¬ dF g N S W a → A.pos ≤ A.top → A.top ≤ D.now.length → Far D →
  s.length = n → Row w X (bvs s) → n ≤ c → c ≤ maxLen → (X = none → c = 0) → (s = [] ∨ ∀ i, ab X = some i → ¬ aF g N S W a i) → n ≤ 1048576 →
  Calls Try.prog 15 #[.pointer (some ⟨a, 0, none⟩), .slice X n c] w fun e w' => e = .returned (.int .i64 (aAdd D A s).2.2) ∧ AddP P D g N S W a A s w w'
def NextC (P : AreaP) : Prop := ∀ (D : Dk) (g N S : Nat) (W : Option Addr) (cW a : Nat) (A : Ar) (w : World), Cd w g N S W cW D → P.is w a g A → ¬ dF g N S W a → A.pos ≤ A.top → A.top ≤ D.now.length →
  Calls Try.prog 17 #[.pointer (some ⟨a, 0, none⟩)] w fun e w' => ∃ (X : Option Addr) (c : Nat), e = .returned (.tuple #[.slice X (aNext D A).2.1.length c, .int .i64 (aNext D A).2.2]) ∧ Row w' X (bvs (aNext D A).2.1) ∧ (aNext D A).2.1.length ≤ c ∧ c ≤ maxLen ∧ (X = none → c = 0) ∧ (∀ i, ab X = some i → w.heap.size ≤ i) ∧ Kp (oneB a) w w' ∧ P.is w' a g (aNext D A).1
/-- A nil area. -/
def NilC : Prop := ∀ (w : World), Calls Try.prog 28 #[.pointer none] w (fun e w' => e = .returned (.int .i64 0) ∧ Kp nob w w') ∧
  Calls Try.prog 15 #[.pointer none, .slice none 0 0] w (fun e w' => e = .returned (.int .i64 2) ∧ Kp nob w w') ∧ Calls Try.prog 17 #[.pointer none] w (fun e w' => e = .returned (.tuple #[.slice none 0 0, .int .i64 2]) ∧ Kp nob w w')
end Go.Proofs.Ytndkmfflpphoiaa.Disk
