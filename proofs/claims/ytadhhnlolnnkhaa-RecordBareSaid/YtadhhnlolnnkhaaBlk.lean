/- Blocks that are known whole: what they hold behind stores, new blocks and whatever keeps them. No program is named here. -/
import Derived.Test.YtadhhnlolnnkhaaKit
import Derived.Deep.MidRow
import Derived.Laws.CopyOwn
import Derived.Lib.SliceRun
namespace Go.Proofs.Ytadhhnlolnnkhaa.Kit
set_option linter.unusedVariables false
set_option linter.unusedSimpArgs false
open Go Go.RowKit

/-- A block that is known whole. -/
def Blk (w : World) (g : Nat) (t : TypeId) (cs : List Value) : Prop := w.heap[g]? = some (.cells cs.toArray t (0, 0))
theorem Blk.lt {w : World} {g : Nat} {t : TypeId} {cs : List Value} (h : Blk w g t cs) : g < w.heap.size := by
  rcases Nat.lt_or_ge g w.heap.size with hlt | hge
  · exact hlt
  · unfold Blk at h; rw [Array.getElem?_eq_none hge] at h; cases h
theorem Blk.cell {w : World} {g : Nat} {t : TypeId} {cs : List Value} (h : Blk w g t cs) (i : Nat) : w.cell? ⟨g, i, none⟩ = cs[i]? := by
  unfold Blk at h; simp [World.cell?, h]
theorem Blk.frozen {w : World} {g : Nat} {t : TypeId} {cs : List Value} (h : Blk w g t cs) (i : Nat) : w.frozen? ⟨g, i, none⟩ = false := by
  unfold Blk at h; simp [World.frozen?, h]
theorem Blk.new (w : World) (t : TypeId) (cs : List Value) : Blk (w.alloc (.cells cs.toArray t)) w.heap.size t cs := heap_alloc_new w _
theorem Blk.new' {w : World} {t : TypeId} {c : Array Value} {cs : List Value} {g : Nat} (hg : g = w.heap.size) (h : c = cs.toArray) : Blk (w.alloc (.cells c t)) g t cs := by
  subst hg; subst h; exact Blk.new w t cs
theorem Blk.keep {F : Nat → Prop} {w w' : World} {g : Nat} {t : TypeId} {cs : List Value} (h : Blk w g t cs) (hk : Kp F w w') (hf : ¬ F g) : Blk w' g t cs := (hk.block g h.lt hf).trans h
theorem Blk.alloc {w : World} {g : Nat} {t : TypeId} {cs : List Value} (h : Blk w g t cs) (o : Obj) : Blk (w.alloc o) g t cs := h.keep ((Kp.refl nob w).alloc o) (fun e => e)
theorem Blk.set_ {w : World} {g : Nat} {t : TypeId} {cs : List Value} (h : Blk w g t cs) (i : Nat) (u : Value) : Blk (w.setCell ⟨g, i, none⟩ u) g t (cs.set i u) := by
  unfold Blk at h ⊢
  simp [World.setCell, Array.getElem?_modify, h]
theorem Blk.far {w : World} {g : Nat} {t : TypeId} {cs : List Value} (h : Blk w g t cs) {p : Addr} (hp : g ≠ p.block) (u : Value) : Blk (w.setCell p u) g t cs := (Below.heap_setCell w p u g hp).trans h

theorem Kp.setCells {F : Nat → Prop} {a b : World} {g : Nat} (hg : F g ∨ a.heap.size ≤ g) : ∀ (vs : List Value) {o : Nat} (_ : Kp F a b), Kp F a (b.setCells g o vs)
  | [], _, h => h
  | v :: r, _, h => Kp.setCells hg r (h.setCell (p := ⟨g, _, none⟩) hg v)
theorem Blk.setCells {w : World} {g : Nat} {t : TypeId} : ∀ (vs : List Value) {cs : List Value} {o : Nat} (_ : Blk w g t cs) (_ : o + vs.length ≤ cs.length), Blk (w.setCells g o vs) g t (cs.take o ++ vs ++ cs.drop (o + vs.length))
  | [], _, _, h, _ => by simpa [World.setCells] using h
  | v :: r, cs, o, h, hl => by
    have := Blk.setCells r (h.set_ o v) (o := o + 1) (by simp at hl ⊢; omega)
    rw [World.setCells]
    simp only [List.length_cons] at hl ⊢
    have e : (cs.set o v).take (o + 1) ++ r ++ (cs.set o v).drop (o + 1 + r.length) = cs.take o ++ (v :: r) ++ cs.drop (o + (r.length + 1)) := by
      rw [List.take_succ_eq_append_getElem (by simp; omega), List.take_set_of_le (Nat.le_refl _), List.drop_set_of_lt (by omega)]
      simp [Nat.add_assoc, Nat.add_comm 1]
    rwa [e] at this
theorem Blk.setAll {w : World} {g : Nat} {t : TypeId} {cs vs : List Value} (h : Blk w g t cs) (hl : vs.length = cs.length) : Blk (w.setCells g 0 vs) g t vs := by
  have := h.setCells vs (o := 0) (by omega)
  simpa [hl, List.drop_eq_nil_of_le] using this


/-- One block. -/
def oneB (b : Nat) : Nat → Prop := fun k => k = b
theorem setCells_size {g : Nat} : ∀ (vs : List Value) (o : Nat) (w : World), (w.setCells g o vs).heap.size = w.heap.size
  | [], _, _ => rfl
  | v :: r, o, w => by rw [World.setCells, setCells_size r]; simp [World.setCell]
theorem Blk.range {w : World} {g : Nat} {t : TypeId} {cs : List Value} (h : Blk w g t cs) : w.rangeAt g 0 cs := fun j v hv => by rw [h.cell, Nat.zero_add]; exact hv
theorem Blk.there {w : World} {g : Nat} {t : TypeId} {cs : List Value} (h : Blk w g t cs) : w.there g 0 cs.length := fun j hj => by
  rw [h.cell, Nat.zero_add, List.getElem?_eq_getElem hj]; exact ⟨rfl, h.frozen _⟩
theorem range_keep {F : Nat → Prop} {w w' : World} {b o : Nat} {cs : List Value} (h : w.rangeAt b o cs) (hk : Kp F w w') (hf : ¬ F b) : w'.rangeAt b o cs := fun j v hv => by
  have := h j v hv
  rw [hk.cell (p := ⟨b, o + j, none⟩) (World.block_lt_of_cell? w _ this) hf]; exact this
/-- A WHOLE VALUE STORED INTO A BLOCK OF THE SAME SIZE. -/
theorem wpList_store_blk {P : Program} {ops : Array Oper} {rest : List Oper} {op : Oper} {a : Act} {w : World} {Q : Exit → Act → World → Prop} (hgd : op.guard = none) (ty : TypeId) (x y : Operand) (ho : op.op = .store ty x y)
    (g : Nat) (t : TypeId) (cs vs : List Value) (hB : Blk w g t cs) (hx : a.eval x = .pointer (some ⟨g, 0, none⟩)) (hy : a.eval y = .agg vs.toArray) (hl : vs.length = cs.length) (hi : (P.info? ty).map (·.size) = some vs.length) (h1 : ∀ u ∈ vs, u.oneCell' = true)
    (h : ∀ w', Blk w' g t vs → Kp (oneB g) w w' → w'.heap.size = w.heap.size → wpList P ops Q rest (a.put op.dst undef) w') : wpList P ops Q (op :: rest) a w := by
  refine wpList_store_mid hgd ty x y ho g 0 vs.toArray hx hy ?_ (by simpa using hi) (all_oneCell_toArray h1) ?_
  · have := hB.there; rw [← hl] at this; simpa using this
  · exact h _ (by simpa using hB.setAll hl) (Kp.setCells (F := oneB g) (.inl rfl) _ (Kp.refl (oneB g) w)) (setCells_size _ _ _)
/-- A WHOLE VALUE STORED INTO A NEW BLOCK. -/
theorem wpList_store_new {P : Program} {ops : Array Oper} {rest : List Oper} {op : Oper} {a : Act} {w : World} {Q : Exit → Act → World → Prop} (hgd : op.guard = none) (ty : TypeId) (x y : Operand) (ho : op.op = .store ty x y)
    (c : Array Value) (vs : List Value) (hx : a.eval x = .pointer (some ⟨w.heap.size, 0, none⟩)) (hy : a.eval y = .agg vs.toArray) (hl : vs.length = c.size) (hi : (P.info? ty).map (·.size) = some vs.length) (h1 : ∀ u ∈ vs, u.oneCell' = true)
    (h : ∀ w', Blk w' w.heap.size ty vs → Kp nob w w' → w'.heap.size = w.heap.size + 1 → wpList P ops Q rest (a.put op.dst undef) w') : wpList P ops Q (op :: rest) a (w.alloc (.cells c ty)) := by
  refine wpList_store_blk hgd ty x y ho w.heap.size ty c.toList vs (Blk.new' rfl (by simp)) hx hy (by simpa using hl) hi h1 fun w' hB hk hz => ?_
  exact h w' hB (((Kp.refl nob w).alloc _).since hk (fun i e => by unfold oneB at e; omega)) (by rw [hz]; simp)
/-- A WHOLE BLOCK LOADED. -/
theorem wpList_load_blk {P : Program} {ops : Array Oper} {rest : List Oper} {op : Oper} {a : Act} {w : World} {Q : Exit → Act → World → Prop} (hgd : op.guard = none) (ty : TypeId) (x : Operand) (ho : op.op = .load ty x)
    (g : Nat) (t : TypeId) (cs : List Value) (hB : Blk w g t cs) (hx : a.eval x = .pointer (some ⟨g, 0, none⟩)) (d : TypeDesc) (hu : P.underlying ty = some d) (hd : d.isRow = true) (hi : (P.info? ty).map (·.size) = some cs.length)
    (h : wpList P ops Q rest (a.put op.dst (.agg cs.toArray)) w) : wpList P ops Q (op :: rest) a w :=
  wpList_load_mid hgd ty x ho g 0 hx cs d hB.range hu hd hi h
/-- AN ELEMENT OF AN ARRAY THAT IS A VALUE. -/
theorem run_index_agg {P : Program} (w : World) (t e : TypeId) (n : Nat) (cs : Array Value) (k : IntKind) (i : Nat) (v : Value) (kk : IntKind) (h : P.underlying t = some (.array n e)) (he : P.underlying e = some (.int kk)) (hs : (P.info? e).map (·.size) = some 1) (hi : i < n) (hv : cs[i]? = some v) :
    (Instr.index t (.agg cs) (.int k i)).run P w = .ok v w := by
  have hn : (0 : Int) ≤ (i : Int) ∧ (i : Int) < (n : Int) := by omega
  cases hq : P.info? e with
  | none => simp [hq] at hs
  | some d =>
    have hd : d.size = 1 := by simpa [hq] using hs
    have hagg : (isAgg e).run P w = .ok false w := by
      unfold isAgg
      rw [Sem.run_bind, run_underlying he w]
      rfl
    simp [Instr.index, run_underlying h, asIntOf, hi, sizeOf, typeInfo, hq, hd, part, hagg, hv]

theorem setRow_kp (w : World) (g : Nat) (cs : Array Value) : Kp (oneB g) w (w.setRow g cs) :=
  ⟨rfl, rfl, rfl, by simp [World.setRow], fun k _ hf => setRow_other w g k cs hf⟩
/-- 'copy' INTO A BLOCK THAT IS KNOWN WHOLE, as one step of a region that draws its order. -/
theorem step_copy_blk {P : Program} {ops : Array Oper} {o : Oper} {a : Act} {w : World} {K : Act → World → Prop} {Q : Exit → Act → World → Prop} {E : Prop} (hgd : o.guard = none) (d s : Operand) (dT sT : TypeId)
    (ho : o.op = .call { callee := .builtin .copy, args := #[d, s], argTypes := #[dT, sT] }) (elem : TypeId) (hu : P.underlying dT = some (.slice elem)) (hsz : (P.info? elem).map (·.size) = some 1)
    (g off : Nat) (dp sp : Option Addr) (dLen dCap sLen sCap : Nat) (hd : a.eval d = .slice dp dLen dCap) (hs : a.eval s = .slice sp sLen sCap)
    (cur : List Value) (t : TypeId) (hg : Blk w g t cur) (cs : List Value) (hn : cs.length = Nat.min sLen dLen) (hdp : 0 < cs.length → dp = some ⟨g, off, none⟩)
    (hrow : Row w sp cs) (hfit : off + cs.length ≤ cur.length) (h1 : ∀ v ∈ cs, v.oneCell' = true)
    (h : ∀ w', Blk w' g t (splice cur off cs) → Kp (oneB g) w w' → w'.heap.size = w.heap.size → K (a.put o.dst (goInt cs.length)) w') :
    if Region.wanted o (yielded ops a.tmps) = true then Oper.wp P o a w K Q else E := by
  have hw : Region.wanted o (yielded ops a.tmps) = true := by simp [Region.wanted, hgd]
  rw [if_pos hw]
  by_cases h0 : cs.length = 0
  · obtain rfl : cs = [] := List.eq_nil_of_length_eq_zero h0
    have hrun := run_copy_none (P := P) w dT sT o.type elem dp sp dLen dCap sLen sCap hu hsz (by simpa using hn.symm)
    unfold Oper.wp
    simp [execOp, ho, resolve, invoke, builtin, hd, hs, hrun, Result.andThen]
    exact h w (by simpa [splice] using hg) (Kp.refl _ _) rfl
  · rcases hrow with rfl | ⟨b, oo, rfl, _, hc⟩
    · simp at h0
    · obtain rfl := hdp (by omega)
      have hrun := run_copy_row (P := P) w dT sT o.type elem g off dLen dCap ⟨b, oo, none⟩ sLen sCap cur.toArray t cs hu hsz hg hn (fun j v hv => by rw [Addr.add_mid]; exact hc j v hv) (by simpa using hfit) h1
      unfold Oper.wp
      simp [execOp, ho, resolve, invoke, builtin, hd, hs, hrun, Result.andThen]
      exact h _ (show _ = _ by simpa [splice] using setRow_heap w g _ _ t _ hg) (setRow_kp _ _ _) (by simp [World.setRow])

/-- 'clear' OF PART OF A BLOCK THAT IS KNOWN WHOLE. -/
theorem wpList_clear_blk {P : Program} {w : World} {ops : Array Oper} {rest : List Oper} {o : Oper} {a : Act} {Q : Exit → Act → World → Prop} (hgd : o.guard = none) (s : Operand) (sT : TypeId)
    (ho : o.op = .call { callee := .builtin .clear, args := #[s], argTypes := #[sT] }) (elem : TypeId) (hu : P.underlying sT = some (.slice elem)) (z : Value) (hv : ∀ w, (zeroValue elem).run P w = .ok z w) (hz : z.cells = #[z]) (h1 : z.oneCell' = true)
    (g off : Nat) (sp : Option Addr) (n c : Nat) (hs : a.eval s = .slice sp n c) (cur : List Value) (t : TypeId) (hg : Blk w g t cur) (hsp : 0 < n → sp = some ⟨g, off, none⟩) (hfit : off + n ≤ cur.length)
    (h : ∀ w', Blk w' g t (splice cur off (List.replicate n z)) → Kp (oneB g) w w' → w'.heap.size = w.heap.size → wpList P ops Q rest (a.put o.dst (.tuple #[])) w') : wpList P ops Q (o :: rest) a w := by
  refine wpList_plain hgd fun K hK => ?_
  have key : ∃ w', (Builtin.clear_ #[sT] o.type #[.slice sp n c]).run P w = .ok (.tuple #[]) w' ∧ Blk w' g t (splice cur off (List.replicate n z)) ∧ Kp (oneB g) w w' ∧ w'.heap.size = w.heap.size := by
    by_cases h0 : n = 0
    · subst h0
      refine ⟨w, ?_, by simpa [splice] using hg, Kp.refl _ _, rfl⟩
      cases sp <;> simp [Builtin.clear_, run_underlying hu]
    · obtain rfl := hsp (by omega)
      refine ⟨_, Lib.run_clear_slice w sT elem o.type z hu hv hz h1 g off n c (by omega) (fun j hj => ?_) (fun j hj => hg.frozen _), ?_, Kp.setCells (F := oneB g) (.inl rfl) _ (Kp.refl (oneB g) w), setCells_size _ _ _⟩
      · rw [hg.cell, List.getElem?_eq_getElem (by omega)]; rfl
      · have := hg.setCells (List.replicate n z) (o := off) (by simpa using hfit)
        simpa [splice] using this
  obtain ⟨w', hrun, k1, k2, k3⟩ := key
  unfold Oper.wp
  simp [execOp, ho, resolve, invoke, builtin, hs, hrun, Result.andThen]
  exact hK _ _ (h w' k1 k2 k3)

/-- The address of 's[k:]'. -/
def cutA (A : Option Addr) (c k : Nat) : Option Addr := if c = k then A else A.map (·.add k)
theorem ab_cut (A : Option Addr) (c k : Nat) : ab (cutA A c k) = ab A := by
  unfold cutA
  split
  · rfl
  · cases A with
    | none => rfl
    | some a => simp [ab, Addr.add]; split <;> rfl
theorem Row.cut {w : World} {A : Option Addr} {xs : List Value} (h : Row w A xs) {c k : Nat} (hl : xs.length ≤ c) : Row w (cutA A c k) (xs.drop k) := by
  unfold cutA
  split
  · rw [List.drop_eq_nil_of_le (by omega)]; exact Row.nil _ _
  · exact h.drop k
theorem run_slice_from {P : Program} (t e : TypeId) (ht : P.underlying t = some (.slice e)) (he : ∀ w, (sizeOf e).run P w = .ok 1 w) (A : Option Addr) (n c k : Nat) (hk : k ≤ n) (w : World) :
    (Instr.slice t (.slice A n c) (some (.int .i64 k)) none none).run P w = .ok (.slice (cutA A c k) (n - k) (c - k)) w := by
  have h1 : (0 : Int) ≤ k ∧ (k : Int) ≤ n := by omega
  simp [Instr.slice, run_underlying ht, Instr.sliceBounds, run_sliceBound, he, cutA, hk]

/-- AN OPERATION WHOSE RUN IS KNOWN. -/
theorem wpList_exec {P : Program} {w w' : World} {ops : Array Oper} {rest : List Oper} {o : Oper} {a : Act} {Q : Exit → Act → World → Prop} (hgd : o.guard = none) {v : Value}
    (hr : (execOp a.eval o).run P w = .ok (.value v) w') (h : wpList P ops Q rest (a.put o.dst v) w') : wpList P ops Q (o :: rest) a w :=
  wpList_plain hgd fun K hK => by unfold Oper.wp; rw [hr]; exact hK _ _ h
/-- .. and leaves the world alone. -/
theorem wpList_calm {P : Program} {w : World} {ops : Array Oper} {rest : List Oper} {o : Oper} {a : Act} {Q : Exit → Act → World → Prop} (hgd : o.guard = none) (v : Value)
    (hr : (execOp a.eval o).run P w = .ok (.value v) w) (h : wpList P ops Q rest (a.put o.dst v) w) : wpList P ops Q (o :: rest) a w := wpList_exec hgd hr h
/-- A value built of parts. -/
theorem wpList_built {P : Program} {w : World} {ops : Array Oper} {rest : List Oper} {o : Oper} {a : Act} {Q : Exit → Act → World → Prop} (hgd : o.guard = none) (t : TypeId) (fs : Array (Nat × Operand)) (_ho : o.op = .build t fs) (v : Value)
    (hr : (execOp a.eval o).run P w = .ok (.value v) w) (h : wpList P ops Q rest (a.put o.dst v) w) : wpList P ops Q (o :: rest) a w := wpList_exec hgd hr h
end Go.Proofs.Ytadhhnlolnnkhaa.Kit
