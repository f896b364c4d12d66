/- Lemmas: DiskP Blk Fm BlkB BlkC BlkD. -/
import Derived.Test.YtndkmfflpphoiaaZG00
import Derived.Laws.Bits64b
import Derived.Deep.MidRow
import Derived.Laws.CopyOwn
import Derived.Lib.SliceRun
set_option linter.unusedVariables false
set_option linter.unusedSimpArgs false
namespace Go.Proofs.Ytndkmfflpphoiaa.Disk
open Go
/-- All writes, kept. -/
def allw : List (Nat × List UInt8) → List (List UInt8) → List (List UInt8)
  | [], s => s
  | x :: xs, s => allw xs (s.set x.1 x.2)
theorem allw_length : ∀ (xs : List (Nat × List UInt8)) (s : List (List UInt8)), (allw xs s).length = s.length
  | [], _ => rfl
  | x :: xs, s => by rw [allw, allw_length xs, List.length_set]
theorem allw_snoc (y : Nat × List UInt8) : ∀ (xs : List (Nat × List UInt8)) (s : List (List UInt8)), allw (xs ++ [y]) s = (allw xs s).set y.1 y.2
  | [], _ => rfl
  | x :: xs, s => by rw [List.cons_append, allw, allw, allw_snoc y xs]
theorem allw_far (p : Nat) : ∀ (xs : List (Nat × List UInt8)) (s : List (List UInt8)), (∀ x ∈ xs, x.1 ≠ p) → (allw xs s)[p]? = s[p]?
  | [], _, _ => rfl
  | x :: xs, s, h => by rw [allw, allw_far p xs _ (fun y hy => h y (List.mem_cons_of_mem _ hy)), List.getElem?_set_ne (h x (by simp))]
theorem kept_all (i : Nat) : kept 18446744073709551615 i = true := by
  unfold kept
  have h : i % 64 < 64 := Nat.mod_lt _ (by decide)
  generalize i % 64 = j at h
  have : ∀ j : Fin 64, decide (18446744073709551615 / 2 ^ j.1 % 2 = 1) = true := by decide
  exact this ⟨j, h⟩
theorem over_all : ∀ (xs : List (Nat × List UInt8)) (i : Nat) (s : List (List UInt8)), over 18446744073709551615 i xs s = allw xs s
  | [], _, _ => rfl
  | x :: xs, i, s => by rw [over, kept_all, allw, over_all xs]; rfl
theorem allw_forge (i : Nat) (v : List UInt8) : ∀ (xs : List (Nat × List UInt8)) (s : List (List UInt8)), allw (xs.filter fun x => decide (x.1 ≠ i)) (s.set i v) = (allw xs s).set i v
  | [], _ => rfl
  | x :: xs, s => by
    by_cases h : x.1 = i
    · rw [List.filter_cons_of_neg (by simp [h]), allw, ← allw_forge i v xs, h, List.set_set]
    · rw [List.filter_cons_of_pos (by simp [h]), allw, allw, ← allw_forge i v xs, List.set_comm _ _ (fun e => h e.symm)]
/-- The sectors that were written, taken from those that are safe. -/
def back (safe : List (List UInt8)) : List (Nat × List UInt8) → List (List UInt8) → List (List UInt8)
  | [], now => now
  | x :: xs, now => back safe xs (now.set x.1 (safe.getD x.1 []))
theorem back_length (safe : List (List UInt8)) : ∀ (xs : List (Nat × List UInt8)) (now : List (List UInt8)), (back safe xs now).length = now.length
  | [], _ => rfl
  | x :: xs, now => by rw [back, back_length safe xs, List.length_set]
theorem back_snoc (safe : List (List UInt8)) (y : Nat × List UInt8) : ∀ (xs : List (Nat × List UInt8)) (now : List (List UInt8)), back safe (xs ++ [y]) now = (back safe xs now).set y.1 (safe.getD y.1 [])
  | [], _ => rfl
  | x :: xs, now => by rw [List.cons_append, back, back, back_snoc safe y xs]
theorem back_next (safe : List (List UInt8)) (xs : List (Nat × List UInt8)) (now : List (List UInt8)) (k : Nat) (x : Nat × List UInt8) (hx : xs[k]? = some x) : back safe (xs.take (k + 1)) now = (back safe (xs.take k) now).set x.1 (safe.getD x.1 []) := by
  rw [List.take_add_one, hx]
  simp only [Option.toList_some]
  rw [back_snoc]
theorem back_far (safe : List (List UInt8)) (p : Nat) : ∀ (xs : List (Nat × List UInt8)) (now : List (List UInt8)), (∀ x ∈ xs, x.1 ≠ p) → (back safe xs now)[p]? = now[p]?
  | [], _, _ => rfl
  | x :: xs, now, h => by rw [back, back_far safe p xs _ (fun y hy => h y (List.mem_cons_of_mem _ hy)), List.getElem?_set_ne (h x (by simp))]
theorem back_there (safe : List (List UInt8)) (p : Nat) : ∀ (xs : List (Nat × List UInt8)) (now : List (List UInt8)), now.length = safe.length → (∃ x ∈ xs, x.1 = p) ∨ now[p]? = safe[p]? → (back safe xs now)[p]? = safe[p]?
  | [], _, _, h => by
    rcases h with ⟨x, hx, _⟩ | h
    · cases hx
    · exact h
  | x :: xs, now, hl, h => by
    rw [back]
    refine back_there safe p xs _ (by rw [List.length_set, hl]) ?_
    by_cases he : x.1 = p
    · right
      rw [List.getElem?_set, if_pos he, he]
      by_cases hp : p < now.length
      · rw [if_pos hp, List.getD_eq_getElem?_getD, List.getElem?_eq_getElem (by omega)]; rfl
      · rw [if_neg hp, List.getElem?_eq_none (by omega)]
    · rcases h with ⟨y, hy, e⟩ | h
      · rcases List.mem_cons.1 hy with rfl | hy
        · exact absurd e he
        · exact .inl ⟨y, hy, e⟩
      · right; rw [List.getElem?_set_ne he]; exact h
/-- Behind it all sectors are as they are safe. -/
theorem back_all (keep : Nat) (xs : List (Nat × List UInt8)) (s : List (List UInt8)) : back (over keep 0 xs s) xs (allw xs s) = over keep 0 xs s := by
  apply List.ext_getElem?
  intro p
  refine back_there _ p xs _ (by rw [allw_length, over_length]) ?_
  by_cases h : ∃ x ∈ xs, x.1 = p
  · exact .inl h
  · right
    have h2 : ∀ x ∈ xs, x.1 ≠ p := fun x hx e => h ⟨x, hx, e⟩
    rw [allw_far p xs s h2, over_far keep p xs 0 s h2]
theorem over_next (keep : Nat) (xs : List (Nat × List UInt8)) (s : List (List UInt8)) (k : Nat) (x : Nat × List UInt8) (hx : xs[k]? = some x) : over keep 0 (xs.take (k + 1)) s = if kept keep k then (over keep 0 (xs.take k) s).set x.1 x.2 else over keep 0 (xs.take k) s := by
  have hk := (List.getElem?_eq_some_iff.1 hx).1
  rw [List.take_add_one, hx]
  simp only [Option.toList_some]
  rw [over_snoc, Nat.zero_add, List.length_take, Nat.min_eq_left (by omega)]
/-- The bit that is asked. -/
theorem kept_bit (keep i m : Nat) (hm : m = i % 64) (hk : keep < 18446744073709551616) : ∃ z : Nat, bits .and .u64 (keep : Int) ((2 ^ m : Nat) : Int) = (z : Int) ∧ (z = 0 ↔ kept keep i = false) := by
  have h64 : m < 64 := by rw [hm]; exact Nat.mod_lt _ (by decide)
  have hp : 2 ^ m < 18446744073709551616 := Nat.pow_lt_pow_right (by decide : 1 < 2) h64
  refine ⟨_, bits_and_u64_nat keep (2 ^ m) hk hp, ?_⟩
  rw [kept, ← hm, ← Nat.testBit_eq_decide_div_mod_eq]
  constructor
  · intro h
    have h1 := congrArg (fun a => a.testBit m) h
    simp only [Nat.testBit_and, Nat.zero_testBit, Nat.testBit_two_pow_self, Bool.and_true] at h1
    exact h1
  · intro h
    apply Nat.eq_of_testBit_eq
    intro j
    rw [Nat.testBit_and, Nat.testBit_two_pow, Nat.zero_testBit]
    by_cases hj : m = j
    · subst hj; rw [h]; rfl
    · simp [hj]
end Go.Proofs.Ytndkmfflpphoiaa.Disk
namespace Go.Proofs.Ytndkmfflpphoiaa.Kit
open Go Go.RowKit
/-- A block that is known whole. -/
def Blk (w : World) (g : Nat) (t : TypeId) (cs : List Value) : Prop := w.heap[g]? = some (.cells cs.toArray t (0, 0))
theorem Blk.lt {w : World} {g : Nat} {t : TypeId} {cs : List Value} (h : Blk w g t cs) : g < w.heap.size := by
  rcases Nat.lt_or_ge g w.heap.size with hlt | hge
  · exact hlt
  · unfold Blk at h; rw [Array.getElem?_eq_none hge] at h; cases h
theorem Blk.cell {w : World} {g : Nat} {t : TypeId} {cs : List Value} (h : Blk w g t cs) (i : Nat) : w.cell? ⟨g, i, none⟩ = cs[i]? := by
  unfold Blk at h; simp [World.cell?, h]
theorem Blk.frozen {w : World} {g : Nat} {t : TypeId} {cs : List Value} (h : Blk w g t cs) (i : Nat) : w.frozen? ⟨g, i, none⟩ = false := by
  unfold Blk at h; simp [World.frozen?, h]
theorem Blk.new (w : World) (t : TypeId) (cs : List Value) : Blk (w.alloc (.cells cs.toArray t)) w.heap.size t cs := heap_alloc_new w _
theorem Blk.new' {w : World} {t : TypeId} {c : Array Value} {cs : List Value} {g : Nat} (hg : g = w.heap.size) (h : c = cs.toArray) : Blk (w.alloc (.cells c t)) g t cs := by
  subst hg; subst h; exact Blk.new w t cs
theorem Blk.keep {F : Nat → Prop} {w w' : World} {g : Nat} {t : TypeId} {cs : List Value} (h : Blk w g t cs) (hk : Kp F w w') (hf : ¬ F g) : Blk w' g t cs := (hk.block g h.lt hf).trans h
theorem Blk.alloc {w : World} {g : Nat} {t : TypeId} {cs : List Value} (h : Blk w g t cs) (o : Obj) : Blk (w.alloc o) g t cs := h.keep ((Kp.refl nob w).alloc o) (fun e => e)
theorem Blk.set_ {w : World} {g : Nat} {t : TypeId} {cs : List Value} (h : Blk w g t cs) (i : Nat) (u : Value) : Blk (w.setCell ⟨g, i, none⟩ u) g t (cs.set i u) := by
  unfold Blk at h ⊢
  simp [World.setCell, Array.getElem?_modify, h]
theorem Blk.far {w : World} {g : Nat} {t : TypeId} {cs : List Value} (h : Blk w g t cs) {p : Addr} (hp : g ≠ p.block) (u : Value) : Blk (w.setCell p u) g t cs := (Below.heap_setCell w p u g hp).trans h
theorem Kp.setCells {F : Nat → Prop} {a b : World} {g : Nat} (hg : F g ∨ a.heap.size ≤ g) : ∀ (vs : List Value) {o : Nat} (_ : Kp F a b), Kp F a (b.setCells g o vs)
  | [], _, h => h
  | v :: r, _, h => Kp.setCells hg r (h.setCell (p := ⟨g, _, none⟩) hg v)
theorem Blk.setCells {w : World} {g : Nat} {t : TypeId} : ∀ (vs : List Value) {cs : List Value} {o : Nat} (_ : Blk w g t cs) (_ : o + vs.length ≤ cs.length), Blk (w.setCells g o vs) g t (cs.take o ++ vs ++ cs.drop (o + vs.length))
  | [], _, _, h, _ => by simpa [World.setCells] using h
  | v :: r, cs, o, h, hl => by
    have := Blk.setCells r (h.set_ o v) (o := o + 1) (by simp at hl ⊢; omega)
    rw [World.setCells]
    simp only [List.length_cons] at hl ⊢
    have e : (cs.set o v).take (o + 1) ++ r ++ (cs.set o v).drop (o + 1 + r.length) = cs.take o ++ (v :: r) ++ cs.drop (o + (r.length + 1)) := by
      rw [List.take_succ_eq_append_getElem (by simp; omega), List.take_set_of_le (Nat.le_refl _), List.drop_set_of_lt (by omega)]
      simp [Nat.add_assoc, Nat.add_comm 1]
    rwa [e] at this
theorem Blk.setAll {w : World} {g : Nat} {t : TypeId} {cs vs : List Value} (h : Blk w g t cs) (hl : vs.length = cs.length) : Blk (w.setCells g 0 vs) g t vs := by
  have := h.setCells vs (o := 0) (by omega)
  simpa [hl, List.drop_eq_nil_of_le] using this
/-- One block. -/
def oneB (b : Nat) : Nat → Prop := fun k => k = b
theorem setCells_size {g : Nat} : ∀ (vs : List Value) (o : Nat) (w : World), (w.setCells g o vs).heap.size = w.heap.size
  | [], _, _ => rfl
  | v :: r, o, w => by rw [World.setCells, setCells_size r]; simp [World.setCell]
theorem Blk.range {w : World} {g : Nat} {t : TypeId} {cs : List Value} (h : Blk w g t cs) : w.rangeAt g 0 cs := fun j v hv => by rw [h.cell, Nat.zero_add]; exact hv
theorem Blk.there {w : World} {g : Nat} {t : TypeId} {cs : List Value} (h : Blk w g t cs) : w.there g 0 cs.length := fun j hj => by
  rw [h.cell, Nat.zero_add, List.getElem?_eq_getElem hj]; exact ⟨rfl, h.frozen _⟩
theorem range_keep {F : Nat → Prop} {w w' : World} {b o : Nat} {cs : List Value} (h : w.rangeAt b o cs) (hk : Kp F w w') (hf : ¬ F b) : w'.rangeAt b o cs := fun j v hv => by
  have := h j v hv
  rw [hk.cell (p := ⟨b, o + j, none⟩) (World.block_lt_of_cell? w _ this) hf]; exact this
/-- A WHOLE VALUE STORED INTO A BLOCK OF THE SAME SIZE. -/
theorem wpList_store_blk {P : Program} {ops : Array Oper} {rest : List Oper} {op : Oper} {a : Act} {w : World} {Q : Exit → Act → World → Prop} (hgd : op.guard = none) (ty : TypeId) (x y : Operand) (ho : op.op = .store ty x y)
    (g : Nat) (t : TypeId) (cs vs : List Value) (hB : Blk w g t cs) (hx : a.eval x = .pointer (some ⟨g, 0, none⟩)) (hy : a.eval y = .agg vs.toArray) (hl : vs.length = cs.length) (hi : (P.info? ty).map (·.size) = some vs.length) (h1 : ∀ u ∈ vs, u.oneCell' = true)
    (h : ∀ w', Blk w' g t vs → Kp (oneB g) w w' → w'.heap.size = w.heap.size → wpList P ops Q rest (a.put op.dst undef) w') : wpList P ops Q (op :: rest) a w := by
  refine wpList_store_mid hgd ty x y ho g 0 vs.toArray hx hy ?_ (by simpa using hi) (all_oneCell_toArray h1) ?_
  · have := hB.there; rw [← hl] at this; simpa using this
  · exact h _ (by simpa using hB.setAll hl) (Kp.setCells (F := oneB g) (.inl rfl) _ (Kp.refl (oneB g) w)) (setCells_size _ _ _)
/-- A WHOLE VALUE STORED INTO A NEW BLOCK. -/
theorem wpList_store_new {P : Program} {ops : Array Oper} {rest : List Oper} {op : Oper} {a : Act} {w : World} {Q : Exit → Act → World → Prop} (hgd : op.guard = none) (ty : TypeId) (x y : Operand) (ho : op.op = .store ty x y)
    (c : Array Value) (vs : List Value) (hx : a.eval x = .pointer (some ⟨w.heap.size, 0, none⟩)) (hy : a.eval y = .agg vs.toArray) (hl : vs.length = c.size) (hi : (P.info? ty).map (·.size) = some vs.length) (h1 : ∀ u ∈ vs, u.oneCell' = true)
    (h : ∀ w', Blk w' w.heap.size ty vs → Kp nob w w' → w'.heap.size = w.heap.size + 1 → wpList P ops Q rest (a.put op.dst undef) w') : wpList P ops Q (op :: rest) a (w.alloc (.cells c ty)) := by
  refine wpList_store_blk hgd ty x y ho w.heap.size ty c.toList vs (Blk.new' rfl (by simp)) hx hy (by simpa using hl) hi h1 fun w' hB hk hz => ?_
  exact h w' hB (((Kp.refl nob w).alloc _).since hk (fun i e => by unfold oneB at e; omega)) (by rw [hz]; simp)
/-- A WHOLE BLOCK LOADED. -/
theorem wpList_load_blk {P : Program} {ops : Array Oper} {rest : List Oper} {op : Oper} {a : Act} {w : World} {Q : Exit → Act → World → Prop} (hgd : op.guard = none) (ty : TypeId) (x : Operand) (ho : op.op = .load ty x)
    (g : Nat) (t : TypeId) (cs : List Value) (hB : Blk w g t cs) (hx : a.eval x = .pointer (some ⟨g, 0, none⟩)) (d : TypeDesc) (hu : P.underlying ty = some d) (hd : d.isRow = true) (hi : (P.info? ty).map (·.size) = some cs.length)
    (h : wpList P ops Q rest (a.put op.dst (.agg cs.toArray)) w) : wpList P ops Q (op :: rest) a w :=
  wpList_load_mid hgd ty x ho g 0 hx cs d hB.range hu hd hi h
/-- AN ELEMENT OF AN ARRAY THAT IS A VALUE. -/
theorem run_index_agg {P : Program} (w : World) (t e : TypeId) (n : Nat) (cs : Array Value) (k : IntKind) (i : Nat) (v : Value) (kk : IntKind) (h : P.underlying t = some (.array n e)) (he : P.underlying e = some (.int kk)) (hs : (P.info? e).map (·.size) = some 1) (hi : i < n) (hv : cs[i]? = some v) :
    (Instr.index t (.agg cs) (.int k i)).run P w = .ok v w := by
  have hn : (0 : Int) ≤ (i : Int) ∧ (i : Int) < (n : Int) := by omega
  cases hq : P.info? e with
  | none => simp [hq] at hs
  | some d =>
    have hd : d.size = 1 := by simpa [hq] using hs
    have hagg : (isAgg e).run P w = .ok false w := by
      unfold isAgg
      rw [Sem.run_bind, run_underlying he w]
      rfl
    simp [Instr.index, run_underlying h, asIntOf, hi, sizeOf, typeInfo, hq, hd, part, hagg, hv]
theorem setRow_kp (w : World) (g : Nat) (cs : Array Value) : Kp (oneB g) w (w.setRow g cs) :=
  ⟨rfl, rfl, rfl, by simp [World.setRow], fun k _ hf => setRow_other w g k cs hf⟩
/-- 'copy' INTO A BLOCK THAT IS KNOWN WHOLE, as one step of a region that draws its order. -/
theorem step_copy_blk {P : Program} {ops : Array Oper} {o : Oper} {a : Act} {w : World} {K : Act → World → Prop} {Q : Exit → Act → World → Prop} {E : Prop} (hgd : o.guard = none) (d s : Operand) (dT sT : TypeId)
    (ho : o.op = .call { callee := .builtin .copy, args := #[d, s], argTypes := #[dT, sT] }) (elem : TypeId) (hu : P.underlying dT = some (.slice elem)) (hsz : (P.info? elem).map (·.size) = some 1)
    (g off : Nat) (dp sp : Option Addr) (dLen dCap sLen sCap : Nat) (hd : a.eval d = .slice dp dLen dCap) (hs : a.eval s = .slice sp sLen sCap)
    (cur : List Value) (t : TypeId) (hg : Blk w g t cur) (cs : List Value) (hn : cs.length = Nat.min sLen dLen) (hdp : 0 < cs.length → dp = some ⟨g, off, none⟩)
    (hrow : Row w sp cs) (hfit : off + cs.length ≤ cur.length) (h1 : ∀ v ∈ cs, v.oneCell' = true)
    (h : ∀ w', Blk w' g t (splice cur off cs) → Kp (oneB g) w w' → w'.heap.size = w.heap.size → K (a.put o.dst (goInt cs.length)) w') :
    if Region.wanted o (yielded ops a.tmps) = true then Oper.wp P o a w K Q else E := by
  have hw : Region.wanted o (yielded ops a.tmps) = true := by simp [Region.wanted, hgd]
  rw [if_pos hw]
  by_cases h0 : cs.length = 0
  · obtain rfl : cs = [] := List.eq_nil_of_length_eq_zero h0
    have hrun := run_copy_none (P := P) w dT sT o.type elem dp sp dLen dCap sLen sCap hu hsz (by simpa using hn.symm)
    unfold Oper.wp
    simp [execOp, ho, resolve, invoke, builtin, hd, hs, hrun, Result.andThen]
    exact h w (by simpa [splice] using hg) (Kp.refl _ _) rfl
  · rcases hrow with rfl | ⟨b, oo, rfl, _, hc⟩
    · simp at h0
    · obtain rfl := hdp (by omega)
      have hrun := run_copy_row (P := P) w dT sT o.type elem g off dLen dCap ⟨b, oo, none⟩ sLen sCap cur.toArray t cs hu hsz hg hn (fun j v hv => by rw [Addr.add_mid]; exact hc j v hv) (by simpa using hfit) h1
      unfold Oper.wp
      simp [execOp, ho, resolve, invoke, builtin, hd, hs, hrun, Result.andThen]
      exact h _ (show _ = _ by simpa [splice] using setRow_heap w g _ _ t _ hg) (setRow_kp _ _ _) (by simp [World.setRow])
/-- 'clear' OF PART OF A BLOCK THAT IS KNOWN WHOLE. -/
theorem wpList_clear_blk {P : Program} {w : World} {ops : Array Oper} {rest : List Oper} {o : Oper} {a : Act} {Q : Exit → Act → World → Prop} (hgd : o.guard = none) (s : Operand) (sT : TypeId)
    (ho : o.op = .call { callee := .builtin .clear, args := #[s], argTypes := #[sT] }) (elem : TypeId) (hu : P.underlying sT = some (.slice elem)) (z : Value) (hv : ∀ w, (zeroValue elem).run P w = .ok z w) (hz : z.cells = #[z]) (h1 : z.oneCell' = true)
    (g off : Nat) (sp : Option Addr) (n c : Nat) (hs : a.eval s = .slice sp n c) (cur : List Value) (t : TypeId) (hg : Blk w g t cur) (hsp : 0 < n → sp = some ⟨g, off, none⟩) (hfit : off + n ≤ cur.length)
    (h : ∀ w', Blk w' g t (splice cur off (List.replicate n z)) → Kp (oneB g) w w' → w'.heap.size = w.heap.size → wpList P ops Q rest (a.put o.dst (.tuple #[])) w') : wpList P ops Q (o :: rest) a w := by
  refine wpList_plain hgd fun K hK => ?_
  have key : ∃ w', (Builtin.clear_ #[sT] o.type #[.slice sp n c]).run P w = .ok (.tuple #[]) w' ∧ Blk w' g t (splice cur off (List.replicate n z)) ∧ Kp (oneB g) w w' ∧ w'.heap.size = w.heap.size := by
    by_cases h0 : n = 0
    · subst h0
      refine ⟨w, ?_, by simpa [splice] using hg, Kp.refl _ _, rfl⟩
      cases sp <;> simp [Builtin.clear_, run_underlying hu]
    · obtain rfl := hsp (by omega)
      refine ⟨_, Lib.run_clear_slice w sT elem o.type z hu hv hz h1 g off n c (by omega) (fun j hj => ?_) (fun j hj => hg.frozen _), ?_, Kp.setCells (F := oneB g) (.inl rfl) _ (Kp.refl (oneB g) w), setCells_size _ _ _⟩
      · rw [hg.cell, List.getElem?_eq_getElem (by omega)]; rfl
      · have := hg.setCells (List.replicate n z) (o := off) (by simpa using hfit)
        simpa [splice] using this
  obtain ⟨w', hrun, k1, k2, k3⟩ := key
  unfold Oper.wp
  simp [execOp, ho, resolve, invoke, builtin, hs, hrun, Result.andThen]
  exact hK _ _ (h w' k1 k2 k3)
/-- The address of 's[k:]'. -/
def cutA (A : Option Addr) (c k : Nat) : Option Addr := if c = k then A else A.map (·.add k)
theorem ab_cut (A : Option Addr) (c k : Nat) : ab (cutA A c k) = ab A := by
  unfold cutA
  split
  · rfl
  · cases A with
    | none => rfl
    | some a => simp [ab, Addr.add]; split <;> rfl
theorem Row.cut {w : World} {A : Option Addr} {xs : List Value} (h : Row w A xs) {c k : Nat} (hl : xs.length ≤ c) : Row w (cutA A c k) (xs.drop k) := by
  unfold cutA
  split
  · rw [List.drop_eq_nil_of_le (by omega)]; exact Row.nil _ _
  · exact h.drop k
theorem run_slice_from {P : Program} (t e : TypeId) (ht : P.underlying t = some (.slice e)) (he : ∀ w, (sizeOf e).run P w = .ok 1 w) (A : Option Addr) (n c k : Nat) (hk : k ≤ n) (w : World) :
    (Instr.slice t (.slice A n c) (some (.int .i64 k)) none none).run P w = .ok (.slice (cutA A c k) (n - k) (c - k)) w := by
  have h1 : (0 : Int) ≤ k ∧ (k : Int) ≤ n := by omega
  simp [Instr.slice, run_underlying ht, Instr.sliceBounds, run_sliceBound, he, cutA, hk]
/-- AN OPERATION WHOSE RUN IS KNOWN. -/
theorem wpList_exec {P : Program} {w w' : World} {ops : Array Oper} {rest : List Oper} {o : Oper} {a : Act} {Q : Exit → Act → World → Prop} (hgd : o.guard = none) {v : Value}
    (hr : (execOp a.eval o).run P w = .ok (.value v) w') (h : wpList P ops Q rest (a.put o.dst v) w') : wpList P ops Q (o :: rest) a w :=
  wpList_plain hgd fun K hK => by unfold Oper.wp; rw [hr]; exact hK _ _ h
/-- .. and leaves the world alone. -/
theorem wpList_calm {P : Program} {w : World} {ops : Array Oper} {rest : List Oper} {o : Oper} {a : Act} {Q : Exit → Act → World → Prop} (hgd : o.guard = none) (v : Value)
    (hr : (execOp a.eval o).run P w = .ok (.value v) w) (h : wpList P ops Q rest (a.put o.dst v) w) : wpList P ops Q (o :: rest) a w := wpList_exec hgd hr h
/-- A value built of parts. -/
theorem wpList_built {P : Program} {w : World} {ops : Array Oper} {rest : List Oper} {o : Oper} {a : Act} {Q : Exit → Act → World → Prop} (hgd : o.guard = none) (t : TypeId) (fs : Array (Nat × Operand)) (_ho : o.op = .build t fs) (v : Value)
    (hr : (execOp a.eval o).run P w = .ok (.value v) w) (h : wpList P ops Q rest (a.put o.dst v) w) : wpList P ops Q (o :: rest) a w := wpList_exec hgd hr h
section
variable {α : Type} {f : α → List Value} {k : Nat}
theorem fm_length (xs : List α) (h : ∀ a ∈ xs, (f a).length = k) : (xs.flatMap f).length = xs.length * k := by
  induction xs with
  | nil => simp
  | cons x xs ih =>
    rw [List.flatMap_cons, List.length_append, h x (by simp), ih (fun a ha => h a (by simp [ha])), List.length_cons, Nat.add_mul, Nat.one_mul, Nat.add_comm]
theorem fm_at (xs : List α) (h : ∀ a ∈ xs, (f a).length = k) (i j : Nat) (x : α) (hx : xs[i]? = some x) (hj : j < k) : (xs.flatMap f)[i * k + j]? = (f x)[j]? := by
  induction xs generalizing i with
  | nil => cases hx
  | cons a xs ih =>
    have ha : (f a).length = k := h a (by simp)
    rw [List.flatMap_cons]
    cases i with
    | zero =>
      simp only [List.getElem?_cons_zero, Option.some.injEq] at hx
      subst hx
      rw [List.getElem?_append_left (by omega)]; congr 1; omega
    | succ i =>
      rw [List.getElem?_append_right (by rw [ha, Nat.succ_mul]; omega), ha]
      rw [List.getElem?_cons_succ] at hx
      rw [show (i + 1) * k + j - k = i * k + j by rw [Nat.succ_mul]; omega]
      exact ih (fun a ha => h a (by simp [ha])) i hx
theorem fm_part (xs : List α) (h : ∀ a ∈ xs, (f a).length = k) (i : Nat) (x : α) (hx : xs[i]? = some x) (j : Nat) (v : Value) (hv : (f x)[j]? = some v) : (xs.flatMap f)[i * k + j]? = some v := by
  have hj : j < k := by
    have := (List.getElem?_eq_some_iff.1 hv).1
    rwa [h x (List.mem_of_getElem? hx)] at this
  rw [fm_at xs h i j x hx hj]; exact hv
theorem fm_take (xs : List α) (h : ∀ a ∈ xs, (f a).length = k) (i : Nat) : (xs.flatMap f).take (i * k) = (xs.take i).flatMap f := by
  induction xs generalizing i with
  | nil => simp
  | cons a xs ih =>
    have ha : (f a).length = k := h a (by simp)
    cases i with
    | zero => simp
    | succ i =>
      rw [List.flatMap_cons, List.take_succ_cons, List.flatMap_cons, List.take_append, ha, show (i + 1) * k - k = i * k by rw [Nat.succ_mul]; omega, ih (fun a ha => h a (by simp [ha])), List.take_of_length_le (by rw [ha, Nat.succ_mul]; omega)]
theorem fm_drop (xs : List α) (h : ∀ a ∈ xs, (f a).length = k) (i : Nat) : (xs.flatMap f).drop (i * k) = (xs.drop i).flatMap f := by
  induction xs generalizing i with
  | nil => simp
  | cons a xs ih =>
    have ha : (f a).length = k := h a (by simp)
    cases i with
    | zero => simp
    | succ i =>
      rw [List.flatMap_cons, List.drop_succ_cons, List.drop_append, ha, show (i + 1) * k - k = i * k by rw [Nat.succ_mul]; omega, ih (fun a ha => h a (by simp [ha])), List.drop_of_length_le (by rw [ha, Nat.succ_mul]; omega), List.nil_append]
theorem fm_set (xs : List α) (h : ∀ a ∈ xs, (f a).length = k) (i : Nat) (y : α) (hi : i < xs.length) (hy : (f y).length = k) : splice (xs.flatMap f) (i * k) (f y) = (xs.set i y).flatMap f := by
  rw [splice, fm_take xs h, hy, show i * k + k = (i + 1) * k by rw [Nat.succ_mul], fm_drop xs h, List.set_eq_take_append_cons_drop, if_pos hi, List.flatMap_append, List.flatMap_cons]
theorem splice_left (A B cs : List Value) (o : Nat) (h : o + cs.length ≤ A.length) : splice (A ++ B) o cs = splice A o cs ++ B := by
  rw [splice, splice, List.take_append_of_le_length (by omega), List.drop_append_of_le_length h, List.append_assoc, List.append_assoc]
theorem splice_length (A cs : List Value) (o : Nat) (h : o + cs.length ≤ A.length) : (splice A o cs).length = A.length := by
  rw [splice, List.length_append, List.length_append, List.length_take, List.length_drop]; omega
end
/-- Bytes, 256 by 256. -/
theorem flat_eq (ls : List (List UInt8)) : bvs ls.flatten = ls.flatMap bvs := by
  induction ls with
  | nil => rfl
  | cons l ls ih => rw [List.flatten_cons, bvs_append, ih, List.flatMap_cons]
/-- A WHOLE VALUE STORED INTO A NEW BLOCK, its number given. -/
theorem wpList_store_newAt {P : Program} {ops : Array Oper} {rest : List Oper} {op : Oper} {a : Act} {w : World} {Q : Exit → Act → World → Prop} (hgd : op.guard = none) (ty : TypeId) (x y : Operand) (ho : op.op = .store ty x y)
    (c : Array Value) (vs : List Value) (g : Nat) (hg : g = w.heap.size) (hx : a.eval x = .pointer (some ⟨g, 0, none⟩)) (hy : a.eval y = .agg vs.toArray) (hl : vs.length = c.size) (hi : (P.info? ty).map (·.size) = some vs.length) (h1 : ∀ u ∈ vs, u.oneCell' = true)
    (h : ∀ w', Blk w' g ty vs → Kp nob w w' → w'.heap.size = g + 1 → wpList P ops Q rest (a.put op.dst undef) w') : wpList P ops Q (op :: rest) a (w.alloc (.cells c ty)) := by
  subst hg; exact wpList_store_new hgd ty x y ho c vs hx hy hl hi h1 h
/-- 'copy' INTO A BLOCK THAT IS KNOWN WHOLE. -/
theorem wpList_copy_blk {P : Program} {w : World} {ops : Array Oper} {rest : List Oper} {o : Oper} {a : Act} {Q : Exit → Act → World → Prop} (hgd : o.guard = none) (d s : Operand) (dT sT : TypeId)
    (ho : o.op = .call { callee := .builtin .copy, args := #[d, s], argTypes := #[dT, sT] }) (elem : TypeId) (hu : P.underlying dT = some (.slice elem)) (hsz : (P.info? elem).map (·.size) = some 1)
    (g off : Nat) (dp sp : Option Addr) (dLen dCap sLen sCap : Nat) (hd : a.eval d = .slice dp dLen dCap) (hs : a.eval s = .slice sp sLen sCap)
    (cur : List Value) (t : TypeId) (hg : Blk w g t cur) (cs : List Value) (hn : cs.length = Nat.min sLen dLen) (hdp : 0 < cs.length → dp = some ⟨g, off, none⟩)
    (hrow : Row w sp cs) (hfit : off + cs.length ≤ cur.length) (h1 : ∀ v ∈ cs, v.oneCell' = true)
    (h : ∀ w', Blk w' g t (splice cur off cs) → Kp (oneB g) w w' → w'.heap.size = w.heap.size → wpList P ops Q rest (a.put o.dst (goInt cs.length)) w') : wpList P ops Q (o :: rest) a w := by
  refine wpList_plain hgd fun K hK => ?_
  by_cases h0 : cs.length = 0
  · obtain rfl : cs = [] := List.eq_nil_of_length_eq_zero h0
    have hrun := run_copy_none (P := P) w dT sT o.type elem dp sp dLen dCap sLen sCap hu hsz (by simpa using hn.symm)
    unfold Oper.wp
    simp [execOp, ho, resolve, invoke, builtin, hd, hs, hrun, Result.andThen]
    exact hK _ _ (h w (by simpa [splice] using hg) (Kp.refl _ _) rfl)
  · rcases hrow with rfl | ⟨b, oo, rfl, _, hc⟩
    · simp at h0
    · obtain rfl := hdp (by omega)
      have hrun := run_copy_row (P := P) w dT sT o.type elem g off dLen dCap ⟨b, oo, none⟩ sLen sCap cur.toArray t cs hu hsz hg hn (fun j v hv => by rw [Addr.add_mid]; exact hc j v hv) (by simpa using hfit) h1
      unfold Oper.wp
      simp [execOp, ho, resolve, invoke, builtin, hd, hs, hrun, Result.andThen]
      exact hK _ _ (h _ (show _ = _ by simpa [splice] using setRow_heap w g _ _ t _ hg) (setRow_kp _ _ _) (by simp [World.setRow]))
theorem Blk.row {w : World} {g : Nat} {t : TypeId} {cs : List Value} (h : Blk w g t cs) : Row w (some ⟨g, 0, none⟩) cs :=
  .inr ⟨g, 0, rfl, h.lt, fun i u hu => by rw [Nat.zero_add, h.cell]; exact hu⟩
/-- A STRING's BYTES AS A NEW SLICE. -/
theorem wpList_str_bytes {P : Program} {w : World} {ops : Array Oper} {rest : List Oper} {o : Oper} {a : Act} {Q : Exit → Act → World → Prop} (hgd : o.guard = none) (src dst e : TypeId) (x : Operand) (ho : o.op = .convert src dst x)
    (hs : P.underlying src = some .string) (hd : P.underlying dst = some (.slice e)) (he : P.underlying e = some (.int .u8)) (s : ByteArray) (hx : a.eval x = .string s)
    (h : ∀ c w', Row w' (some ⟨w.heap.size, 0, none⟩) (bvs (sl s)) → Kp nob w w' → w'.heap.size = w.heap.size + 1 → wpList P ops Q rest (a.put o.dst (.slice (some ⟨w.heap.size, 0, none⟩) s.size c)) w') : wpList P ops Q (o :: rest) a w := by
  obtain ⟨c, w', hr, h1, h2, h3⟩ := run_str_bytes w src dst e s hs hd he
  refine wpList_exec hgd (v := .slice (some ⟨w.heap.size, 0, none⟩) s.size c) (w' := w') ?_ (h c w' h1 h2 h3)
  unfold execOp
  simp only [ho, hx, Sem.run_bind, hr, Result.andThen_ok, Sem.run_pure]
/-- A SLICE OF BYTES AS A STRING. -/
theorem wpList_bytes_str {P : Program} {w : World} {ops : Array Oper} {rest : List Oper} {o : Oper} {a : Act} {Q : Exit → Act → World → Prop} (hgd : o.guard = none) (src dst e : TypeId) (x : Operand) (ho : o.op = .convert src dst x)
    (hs : P.underlying src = some (.slice e)) (he : P.underlying e = some (.int .u8)) (hd : P.underlying dst = some .string) (A : Option Addr) (n c : Nat) (l : List UInt8) (hn : l.length = n) (hr : Row w A (bvs l)) (hx : a.eval x = .slice A n c)
    (h : wpList P ops Q rest (a.put o.dst (.string (str l))) w) : wpList P ops Q (o :: rest) a w := by
  have hr := run_bytes_str (P := P) w src dst e hs he hd A n c l hn hr
  refine wpList_exec hgd (v := .string (str l)) (w' := w) ?_ h
  unfold execOp
  simp only [ho, hx, Sem.run_bind, hr, Result.andThen_ok, Sem.run_pure]
/-- The slice '.slice A n c' of elements of type e, of k cells each, owns the cells xs. -/
def OwnK (k : Nat) (e : TypeId) (w : World) (A : Option Addr) (n c : Nat) (xs : List Value) : Prop := w.ownsRow 0 e k (.slice A n c) n xs
theorem OwnK.len {k : Nat} {e : TypeId} {w : World} {A : Option Addr} {n c : Nat} {xs : List Value} (h : OwnK k e w A n c xs) : xs.length = n * k := h.1
theorem OwnK.nil (k : Nat) (e : TypeId) (w : World) : OwnK k e w none 0 0 [] := World.ownsRow_nil w 0 e k
theorem OwnK.row {k : Nat} {e : TypeId} {w : World} {A : Option Addr} {n c : Nat} {xs : List Value} (h : OwnK k e w A n c xs) : Row w A xs := by
  rcases h.2 with ⟨h1, h2⟩ | ⟨g, cap, cur, h1, _, hg, hnc, hcm, hcs, ht⟩
  · exact .inl (List.eq_nil_of_length_eq_zero (by rw [h.len, h2, Nat.zero_mul]))
  · cases h1
    refine .inr ⟨g, 0, rfl, ?_, fun i u hu => ?_⟩
    · rcases Nat.lt_or_ge g w.heap.size with hlt | hge
      · exact hlt
      · rw [Array.getElem?_eq_none hge] at hg; cases hg
    · have := h.cells (g := g) rfl i u hu
      by_cases hi : i = 0 <;> simpa [Addr.add, hi] using this
theorem OwnK.lt {k : Nat} {e : TypeId} {w : World} {A : Option Addr} {n c : Nat} {xs : List Value} (h : OwnK k e w A n c xs) : ∀ j, ab A = some j → j < w.heap.size :=
  fun j hj => (World.ownsRow.lt h j (by rw [ab_own]; exact hj)).2
theorem OwnK.keep {k : Nat} {e : TypeId} {F : Nat → Prop} {w w' : World} {A : Option Addr} {n c : Nat} {xs : List Value} (h : OwnK k e w A n c xs) (hk : Kp F w w') (hf : ∀ j, ab A = some j → ¬ F j) : OwnK k e w' A n c xs := by
  refine ⟨h.1, ?_⟩
  rcases h.2 with h1 | ⟨g, cap, cur, h1, h0, hg, r⟩
  · exact .inl h1
  · refine .inr ⟨g, cap, cur, h1, h0, ?_, r⟩
    have hA : A = some ⟨g, 0, none⟩ := by injection h1
    rw [hk.block g (h.lt g (by rw [hA]; rfl)) (hf g (by rw [hA]; rfl))]
    exact hg
theorem OwnK.alloc {k : Nat} {e : TypeId} {w : World} {A : Option Addr} {n c : Nat} {xs : List Value} (h : OwnK k e w A n c xs) (o : Obj) : OwnK k e (w.alloc o) A n c xs := h.keep ((Kp.refl Kit.nob w).alloc o) (fun _ _ e => e)
theorem OwnK.cap {k : Nat} {e : TypeId} {w : World} {A : Option Addr} {n c : Nat} {xs : List Value} (h : OwnK k e w A n c xs) : n ≤ c ∧ c ≤ maxLen := by
  rcases h.2 with ⟨h1, h2⟩ | ⟨g, cap, cur, h1, _, hg, hnc, hcm, hcs, ht⟩
  · injection h1 with _ _ h3; subst h3; subst h2; exact ⟨Nat.le_refl _, by simp [maxLen]⟩
  · injection h1 with _ _ h3; subst h3; exact ⟨hnc, hcm⟩
/-- A ROW OF ELEMENTS OF k CELLS APPENDED onto an owned row. -/
theorem run_appK {P : Program} (w : World) (t ty : TypeId) (k : Nat) (hk : 0 < k) (e : TypeId) (i : TypeInfo) (z : Value) (bytes : Nat) (ht : P.underlying t = some (.slice e)) (hi : P.info? e = some i) (hz : i.zero = some z)
    (hsize : i.size = k) (hby : i.bytes = bytes) (hzs : z.cells.size = k)
    (A : Option Addr) (n c : Nat) (xs : List Value) (hown : OwnK k e w A n c xs)
    (B : Addr) (m d : Nat) (ys : List Value) (hm : ys.length = m * k) (hrow : Row w (some B) ys) (h1 : ∀ u ∈ ys, u.oneCell' = true)
    (hbytes : (n + m) * bytes ≤ 140737488355328) (hmx : n + m ≤ maxLen) : ∃ A' c' w', (Builtin.append_ #[t, t] ty #[.slice A n c, .slice (some B) m d]).run P w = .ok (.slice A' (n + m) c') w' ∧ OwnK k e w' A' (n + m) c' (xs ++ ys) ∧ w.grownBy w' (ab A) ∧ (ab A' = ab A ∨ ab A' = some w.heap.size) := by
  have hnews : ∀ j u, ys[j]? = some u → w.cell? (B.add j) = some u := by
    intro j u hu
    rcases hrow with rfl | ⟨b, o', h, _, hcell⟩
    · simp at hu
    · cases h
      have := hcell j u hu
      by_cases hj : j = 0 <;> simpa [Addr.add, hj] using this
  obtain ⟨v', w', hr, h2, h3, h4, h5⟩ := run_append_own_at (P := P) w 0 t ty e i z k bytes ht hi hz hsize hby hzs hk (.slice A n c) n xs hown B m d ys hm hnews h1 hmx hbytes (Nat.zero_le _)
  rw [ab_own] at h3 h5
  have hv : ∃ A' c', v' = .slice A' (n + m) c' := by
    rcases h2.2 with ⟨h6, h7⟩ | ⟨g, cap, _, h6, _⟩
    · exact ⟨none, 0, by rw [h6, h7]⟩
    · exact ⟨_, _, h6⟩
  obtain ⟨A', c', rfl⟩ := hv
  rw [ab_own] at h5
  exact ⟨A', c', w', hr, h2, h3, h5⟩
/-- APPEND OF ELEMENTS onto an owned row (a nil row, too). -/
theorem wpList_appK {P : Program} (w : World) {ops : Array Oper} {rest : List Oper} {o : Oper} {a : Act} {Q : Exit → Act → World → Prop} (hgd : o.guard = none) (s x : Operand) (t : TypeId)
    (ho : o.op = .call { callee := .builtin .append, args := #[s, x], argTypes := #[t, t] })
    (k : Nat) (hk : 0 < k) (e : TypeId) (i : TypeInfo) (z : Value) (bytes : Nat) (ht : P.underlying t = some (.slice e)) (hi : P.info? e = some i) (hz : i.zero = some z)
    (hsize : i.size = k) (hby : i.bytes = bytes) (hzs : z.cells.size = k)
    (A : Option Addr) (n c : Nat) (xs : List Value) (hs : a.eval s = .slice A n c) (hown : OwnK k e w A n c xs)
    (B : Addr) (m d : Nat) (ys : List Value) (hx : a.eval x = .slice (some B) m d) (hm : ys.length = m * k) (hrow : Row w (some B) ys) (h1 : ∀ u ∈ ys, u.oneCell' = true)
    (hbytes : (n + m) * bytes ≤ 140737488355328) (h63 : n + m ≤ 140737488355328)
    (h : ∀ A' c' w', OwnK k e w' A' (n + m) c' (xs ++ ys) → w.grownBy w' (ab A) → (ab A' = ab A ∨ ab A' = some w.heap.size) → wpList P ops Q rest (a.put o.dst (.slice A' (n + m) c')) w') : wpList P ops Q (o :: rest) a w := by
  refine wpList_plain hgd fun _ hK => ?_
  have hmx : n + m ≤ maxLen := by unfold maxLen; omega
  obtain ⟨A', c', w', hr, h2, h3, h4⟩ := run_appK (P := P) w t o.type k hk e i z bytes ht hi hz hsize hby hzs A n c xs hown B m d ys hm hrow h1 hbytes hmx
  unfold Oper.wp execOp
  simp only [ho, resolve, invoke, builtin, Sem.run_bind, Sem.run_pure, Result.andThen_ok, List.map_toArray, List.map_cons, List.map_nil, hs, hx, hr]
  exact hK _ _ (h A' c' w' h2 h3 h4)
end Go.Proofs.Ytndkmfflpphoiaa.Kit
