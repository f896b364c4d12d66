/- Lemmas: RowAt BlkF BlkG BlkH Reg RegS. -/
import Derived.Test.YtndkmfflpphoiaaZG01
import Derived.Deep.RegionHeld3
set_option linter.unusedVariables false
set_option linter.unusedSimpArgs false
namespace Go.Proofs.Ytndkmfflpphoiaa.Kit
open Go Go.RowKit
/-- The slice '.slice A n c' of elements of one cell reads xs; what lies behind it, up to c, is its own. -/
def RowAt (e : TypeId) (w : World) (A : Option Addr) (n c : Nat) (xs : List Value) : Prop :=
  ∃ g o cur, A = some ⟨g, o, none⟩ ∧ w.heap[g]? = some (.cells cur e (0, 0)) ∧ n ≤ c ∧ c ≤ maxLen ∧ o + c ≤ cur.size ∧ xs.length = n ∧ (cur.toList.drop o).take n = xs
theorem RowAt.len {e : TypeId} {w : World} {A : Option Addr} {n c : Nat} {xs : List Value} (h : RowAt e w A n c xs) : xs.length = n := by
  obtain ⟨g, o, cur, _, _, _, _, _, hl, _⟩ := h; exact hl
theorem RowAt.cap {e : TypeId} {w : World} {A : Option Addr} {n c : Nat} {xs : List Value} (h : RowAt e w A n c xs) : n ≤ c ∧ c ≤ maxLen := by
  obtain ⟨g, o, cur, _, _, h1, h2, _⟩ := h; exact ⟨h1, h2⟩
theorem RowAt.lt {e : TypeId} {w : World} {A : Option Addr} {n c : Nat} {xs : List Value} (h : RowAt e w A n c xs) : ∀ j, ab A = some j → j < w.heap.size := by
  obtain ⟨g, o, cur, rfl, hg, _⟩ := h
  intro j hj; cases hj
  exact (Array.getElem?_eq_some_iff.1 hg).1
theorem RowAt.keep {e : TypeId} {F : Nat → Prop} {w w' : World} {A : Option Addr} {n c : Nat} {xs : List Value} (h : RowAt e w A n c xs) (hk : Kp F w w') (hf : ∀ j, ab A = some j → ¬ F j) : RowAt e w' A n c xs := by
  have hlt := h.lt
  obtain ⟨g, o, cur, rfl, hg, r⟩ := h
  exact ⟨g, o, cur, rfl, by rw [hk.block g (hlt g rfl) (hf g rfl)]; exact hg, r⟩
theorem RowAt.row {e : TypeId} {w : World} {A : Option Addr} {n c : Nat} {xs : List Value} (h : RowAt e w A n c xs) : Row w A xs := by
  have hlt := h.lt
  obtain ⟨g, o, cur, rfl, hg, h1, h2, h3, h4, h5⟩ := h
  refine .inr ⟨g, o, rfl, hlt g rfl, fun i u hu => ?_⟩
  have hi : i < n := by rw [← h4]; exact (List.getElem?_eq_some_iff.1 hu).1
  rw [cell_of_row w g (o + i) cur e (0, 0) hg]
  rw [← h5, List.getElem?_take, if_pos hi, List.getElem?_drop, Array.getElem?_toList] at hu
  exact hu
/-- The last of its elements alone. -/
theorem RowAt.cut {e : TypeId} {w : World} {A : Option Addr} {n c : Nat} {xs : List Value} (h : RowAt e w A n c xs) (k : Nat) (hk : k < n) : RowAt e w (cutA A c k) (n - k) (c - k) (xs.drop k) := by
  obtain ⟨g, o, cur, rfl, hg, h1, h2, h3, h4, h5⟩ := h
  refine ⟨g, o + k, cur, ?_, hg, by omega, by omega, by omega, by rw [List.length_drop, h4], ?_⟩
  · unfold cutA
    rw [if_neg (by omega)]
    by_cases h0 : k = 0 <;> simp [Addr.add, h0]
  · rw [← h5, List.drop_take, List.drop_drop]
/-- A new row, whole. -/
theorem RowAt.new (w : World) (e : TypeId) (xs : List Value) (hm : xs.length ≤ maxLen) : RowAt e (w.alloc (.cells xs.toArray e)) (some ⟨w.heap.size, 0, none⟩) xs.length xs.length xs :=
  ⟨w.heap.size, 0, xs.toArray, rfl, heap_alloc_new w _, Nat.le_refl _, hm, by simp, rfl, by simp⟩
/-- ONE ELEMENT IS APPENDED. -/
theorem run_appAt {P : Program} (w : World) (t ty e : TypeId) (i : TypeInfo) (z : Value) (bytes : Nat) (ht : P.underlying t = some (.slice e)) (hi : P.info? e = some i) (hz : i.zero = some z)
    (hsize : i.size = 1) (hby : i.bytes = bytes) (hzs : z.cells.size = 1)
    (A : Option Addr) (n c : Nat) (xs : List Value) (hown : RowAt e w A n c xs)
    (B : Addr) (d : Nat) (y : Value) (hrow : Row w (some B) [y]) (h1 : y.oneCell' = true)
    (hbytes : (n + 1) * bytes ≤ 140737488355328) (hmx : n + 1 ≤ maxLen) : ∃ A' c' w', (Builtin.append_ #[t, t] ty #[.slice A n c, .slice (some B) 1 d]).run P w = .ok (.slice A' (n + 1) c') w' ∧ RowAt e w' A' (n + 1) c' (xs ++ [y]) ∧ w.grownBy w' (ab A) ∧ (ab A' = ab A ∨ ab A' = some w.heap.size) := by
  have hsmall : n + 1 ≤ 9223372036854775807 := by simp only [maxLen] at hmx; omega
  have hnews : ∀ j u, [y][j]? = some u → w.cell? (B.add j) = some u := by
    intro j u hu
    rcases hrow with h | ⟨b, o', h, _, hcell⟩
    · cases h
    · cases h
      have := hcell j u hu
      by_cases hj : j = 0 <;> simpa [Addr.add, hj] using this
  have hrw := hown.row
  obtain ⟨g, o, cur, rfl, hg, hc1, hc2, hc3, hc4, hc5⟩ := hown
  by_cases hroom : n + 1 ≤ c
  · have hf := run_firstCells_some (P := P) w i.size 1 B 1 d [y] (by simp [hsize]) hnews
    have hst := run_storeCells_at P g (o + n) e [y] 0 cur w hg (by simp; omega) (by intro v hv; simp at hv; subst hv; exact h1)
    simp only [Nat.add_zero, List.length_singleton] at hst
    have hadd : (⟨g, o, none⟩ : Addr).add n = ⟨g, o + n, none⟩ := by unfold Addr.add; split <;> simp_all
    refine ⟨some ⟨g, o, none⟩, c, w.setRow g (cur.toList.take (o + n) ++ [y] ++ cur.toList.drop (o + n + 1)).toArray, ?_, ⟨g, o, _, rfl, setRow_heap w g cur _ e _ hg, hroom, hc2, ?_, by simp [hc4], ?_⟩, ⟨rfl, rfl, rfl, by simp [World.setRow], fun k _ hk => setRow_other w g k _ (fun e => hk (by simp [ab, e]))⟩, .inl rfl⟩
    · simp [Builtin.append_, run_underlying ht, sizeOf, typeInfo, hi, Builtin.lenOf, hroom, hsize] at hf ⊢
      simp [hf, hadd, hst]
    · simp only [List.size_toArray, List.length_append, List.length_take, List.length_drop, Array.length_toList, List.length_singleton]
      omega
    · have hl : cur.toList.length = cur.size := Array.length_toList
      have e1 : (cur.toList.take (o + n) ++ [y] ++ cur.toList.drop (o + n + 1)).drop o = (cur.toList.drop o).take n ++ ([y] ++ cur.toList.drop (o + n + 1)) := by
        rw [List.append_assoc, List.drop_append_of_le_length (by rw [List.length_take]; omega), List.drop_take, Nat.add_sub_cancel_left]
      rw [List.toList_toArray, e1, hc5, ← List.append_assoc]
      exact List.take_left' (by simp [hc4])
  · have holds : ∀ j u, xs[j]? = some u → w.cell? ((⟨g, o, none⟩ : Addr).add j) = some u := by
      intro j u hu
      rcases hrw with h | ⟨b, o', h, _, hcell⟩
      · rw [h] at hu; cases hu
      · cases h
        have := hcell j u hu
        by_cases hj : j = 0 <;> simpa [Addr.add, hj] using this
    subst hby
    have hr := run_append_grow (P := P) w t ty e i z ht hi hz ⟨g, o, none⟩ n c xs (by rw [hsize]; omega) holds B 1 d [y] (by simp [hsize]) hnews (by omega) (by omega) (growslice_fits (by omega) hbytes)
    have hge := grownCap_ge w (n + 1) c e
    have hcm : grownCap w (n + 1) c e ≤ maxLen := grownCap_le_maxLen w (n + 1) c e hmx
    refine ⟨some ⟨w.heap.size, 0, none⟩, grownCap w (n + 1) c e, _, hr, ⟨w.heap.size, 0, _, rfl, heap_alloc_new w.drew _, hge, hcm, ?_, by simp [hc4], ?_⟩, ⟨rfl, rfl, rfl, by simp, fun k hk _ => Below.heap_alloc w.drew _ k hk⟩, Or.inr rfl⟩
    · simp only [Array.size_append, List.size_toArray, size_zeroCells, hzs, hc4, List.length_singleton]
      omega
    · simp only [Array.toList_append, List.drop_zero]
      rw [List.append_assoc, ← List.append_assoc]
      exact List.take_left' (by simp [hc4])
/-- A row that owns its block, as a block. -/
theorem OwnK.blk {k : Nat} {e : TypeId} {w : World} {g n c : Nat} {xs : List Value} (h : OwnK k e w (some ⟨g, 0, none⟩) n c xs) : ∃ cur, Blk w g e cur ∧ cur.length = c * k ∧ cur.take (n * k) = xs ∧ n ≤ c ∧ c ≤ maxLen := by
  rcases h.2 with ⟨h1, h2⟩ | ⟨g', cap, cur, h1, _, hg, hnc, hcm, hcs, ht⟩
  · injection h1 with h1; cases h1
  · injection h1 with h1 _ h3; injection h1 with h1; injection h1 with h1; subst h1; subst h3
    exact ⟨cur.toList, by unfold Blk; simpa using hg, by simpa using hcs, ht, hnc, hcm⟩
theorem OwnK.of_blk {k : Nat} {e : TypeId} {w : World} {g n c : Nat} {cur xs : List Value} (hB : Blk w g e cur) (hl : cur.length = c * k) (hx : cur.take (n * k) = xs) (hn : n ≤ c) (hc : c ≤ maxLen) : OwnK k e w (some ⟨g, 0, none⟩) n c xs := by
  refine ⟨?_, .inr ⟨g, c, cur.toArray, rfl, Nat.zero_le _, hB, hn, hc, by simpa using hl, by simpa using hx⟩⟩
  rw [← hx, List.length_take, hl, Nat.min_eq_left (Nat.mul_le_mul_right _ hn)]
theorem OwnK.some_ {k : Nat} {e : TypeId} {w : World} {A : Option Addr} {n c : Nat} {xs : List Value} (h : OwnK k e w A n c xs) (hn : 0 < n) : ∃ g, A = some ⟨g, 0, none⟩ := by
  rcases h.2 with ⟨_, h2⟩ | ⟨g', cap, cur, h1, _⟩
  · omega
  · injection h1 with h1; exact ⟨g', h1⟩
theorem OwnK.none_ {k : Nat} {e : TypeId} {w : World} {A : Option Addr} {n c : Nat} {xs : List Value} (h : OwnK k e w A n c xs) : A = none → c = 0 := by
  rintro rfl
  rcases h.2 with ⟨h1, _⟩ | ⟨g, cap, cur, h1, _⟩
  · injection h1
  · injection h1 with h1; cases h1
theorem wpList_store_in {P : Program} {ops : Array Oper} {rest : List Oper} {op : Oper} {a : Act} {w : World} {Q : Exit → Act → World → Prop} (hgd : op.guard = none) (ty : TypeId) (x y : Operand) (ho : op.op = .store ty x y)
    (g off : Nat) (t : TypeId) (cs vs : List Value) (hB : Blk w g t cs) (hx : a.eval x = .pointer (some ⟨g, off, none⟩)) (hy : a.eval y = .agg vs.toArray) (hl : off + vs.length ≤ cs.length) (hi : (P.info? ty).map (·.size) = some vs.length) (h1 : ∀ u ∈ vs, u.oneCell' = true)
    (h : ∀ w', Blk w' g t (splice cs off vs) → Kp (oneB g) w w' → w'.heap.size = w.heap.size → wpList P ops Q rest (a.put op.dst undef) w') : wpList P ops Q (op :: rest) a w := by
  refine wpList_store_mid hgd ty x y ho g off vs.toArray hx hy ?_ (by simpa using hi) (all_oneCell_toArray h1) ?_
  · intro j hj
    have hj' : j < vs.length := by simpa using hj
    rw [hB.cell, List.getElem?_eq_getElem (by omega)]
    exact ⟨rfl, hB.frozen _⟩
  · refine h _ ?_ (Kp.setCells (F := oneB g) (.inl rfl) _ (Kp.refl (oneB g) w)) (setCells_size _ _ _)
    have := hB.setCells (o := off) vs hl
    rw [List.append_assoc] at this
    exact this
/-- A part of a block known whole. -/
theorem Blk.part {w : World} {g : Nat} {t : TypeId} {cs : List Value} (h : Blk w g t cs) (off : Nat) (vs : List Value) (hv : ∀ j v, vs[j]? = some v → cs[off + j]? = some v) : w.rangeAt g off vs := fun j v hj => by rw [h.cell]; exact hv j v hj
theorem wpList_load_gd {P : Program} {ops : Array Oper} {rest : List Oper} {op : Oper} {a : Act} {w : World} {Q : Exit → Act → World → Prop} (ty : TypeId) (x : Operand) (ho : op.op = .load ty x)
    (hw : Region.wanted op (yielded ops a.tmps) = true)
    (g : Nat) (t : TypeId) (cs : List Value) (hB : Blk w g t cs) (hx : a.eval x = .pointer (some ⟨g, 0, none⟩)) (d : TypeDesc) (hu : P.underlying ty = some d) (hd : d.isRow = true) (hi : (P.info? ty).map (·.size) = some cs.length)
    (h : wpList P ops Q rest (a.put op.dst (.agg cs.toArray)) w) : wpList P ops Q (op :: rest) a w :=
  wpList_step fun K hK => by
    rw [if_pos hw]
    exact wp_load_mid ty x ho g 0 hx cs d hB.range hu hd hi (hK _ _ h)
theorem fold_from0 : ∀ (cs : List Value) (i : Nat) (zl : Array Value), zl.size = i + cs.length →
    ((cs.zipIdx i).foldl (fun c x => c.setIfInBounds x.snd x.fst) zl).toList = zl.toList.take i ++ cs := by
  intro cs
  induction cs with
  | nil =>
    intro i zl h
    simp only [List.length_nil, Nat.add_zero] at h
    simp only [List.zipIdx_nil, List.foldl_nil, List.append_nil]
    rw [List.take_of_length_le (by rw [Array.length_toList]; omega)]
  | cons u cs ih =>
    intro i zl h
    simp only [List.length_cons] at h
    rw [List.zipIdx_cons, List.foldl_cons, ih (i + 1) _ (by simp; omega)]
    simp only [Array.toList_setIfInBounds]
    rw [List.take_succ_eq_append_getElem (by simp; omega), List.take_set_of_le (Nat.le_refl _)]
    simp
/-- What a slice literal of one array, or struct, leaves in the world. -/
theorem fold_all (cs : List Value) (zl : Array Value) (h : zl.size = cs.length) : cs.zipIdx.foldl (fun c x => c.setIfInBounds x.snd x.fst) zl = cs.toArray := by
  apply Array.toList_inj.1
  have := fold_from0 cs 0 zl (by omega)
  rw [this]; simp
theorem ownK_new (w : World) (k n : Nat) (e : TypeId) (xs : List Value) (hx : xs.length = n * k) (hm : n ≤ maxLen) : OwnK k e (w.alloc (.cells xs.toArray e)) (some ⟨w.heap.size, 0, none⟩) n n xs :=
  ⟨hx, .inr ⟨w.heap.size, n, xs.toArray, rfl, Nat.zero_le _, heap_alloc_new w _, Nat.le_refl _, hm, by simpa using hx, by simp [← hx]⟩⟩
theorem info_parts3 {P : Program} {t : TypeId} {z : Value} {s b : Nat} (h : (P.info? t).map (fun i => (i.zero, i.size, i.bytes)) = some (some z, s, b)) : ∃ i, P.info? t = some i ∧ i.zero = some z ∧ i.size = s ∧ i.bytes = b := by
  cases hq : P.info? t with
  | none => rw [hq] at h; cases h
  | some i =>
    rw [hq] at h
    simp only [Option.map_some, Option.some.injEq, Prod.mk.injEq] at h
    exact ⟨i, rfl, h.1, h.2.1, h.2.2⟩
section
variable {P : Program} {md : Region.Mode} {ops : Array Oper} {Q : Exit → Act → World → Prop} {S : World → Prop}
theorem reg_begin {id : Nat} {a : Act} {w : World} (S : World → Prop) (hm : P.follows .mixedOrders = true) (hS : S w.drew)
    (h : S w.drew → wpAnyH P .any ops (NoPanic Q) S ops.size (Array.replicate ops.size false) a w.drew) : (Code.region id ops true).wp P Q a w :=
  wp_region_noPanic (wp_region_held_drew hm hS h)
/-- It yields. -/
theorem reg_take {oi : Oper} {v : Value} {fuel : Nat} {listed : Array Bool} {a : Act} {w : World} (i : Nat) (d : Option Tmp) (hi : ops[i]? = some oi) (hd : oi.dst = d)
    (hs : Region.noSelect ops = true) (hf : Region.free md ops listed i = true) (hr : (Region.ready md ops listed).contains i = true)
    (hw : Region.wanted oi (yielded ops a.tmps) = true) (hS : S w) (hy : ∀ w, S w → (execOp a.eval oi).run P w = .ok (.value v) w)
    (h : wpAnyH P md ops (NoPanic Q) S fuel (listed.setIfInBounds i true) (a.put d v) w) : wpAnyH P md ops (NoPanic Q) S (fuel + 1) listed a w := by
  subst hd
  exact wpAnyH_take hi hs hf hr (fun _ _ _ h => h) (.inl ⟨hw, hy⟩) hS h
/-- Its guard says no. -/
theorem reg_skip {oi : Oper} {fuel : Nat} {listed : Array Bool} {a : Act} {w : World} (i : Nat) (d : Option Tmp) (hi : ops[i]? = some oi) (hd : oi.dst = d)
    (hs : Region.noSelect ops = true) (hf : Region.free md ops listed i = true) (hr : (Region.ready md ops listed).contains i = true)
    (hw : Region.wanted oi (yielded ops a.tmps) = false) (hS : S w)
    (h : wpAnyH P md ops (NoPanic Q) S fuel (listed.setIfInBounds i true) (a.put d undef) w) : wpAnyH P md ops (NoPanic Q) S (fuel + 1) listed a w := by
  subst hd
  exact wpAnyH_take hi hs hf hr (fun _ _ _ h => h) (.inr ⟨hw, rfl⟩) hS h
/-- A long array is loaded. -/
theorem reg_load {oi : Oper} {fuel : Nat} {listed : Array Bool} {a : Act} {w : World} (i : Nat) (d : Option Tmp) (ty : TypeId) (x : Operand) (hi : ops[i]? = some oi) (hd : oi.dst = d) (ho : oi.op = .load ty x)
    (hs : Region.noSelect ops = true) (hf : Region.free md ops listed i = true) (hr : (Region.ready md ops listed).contains i = true)
    (hw : Region.wanted oi (yielded ops a.tmps) = true) (hS : S w) (b o : Nat) (hx : a.eval x = .pointer (some ⟨b, o, none⟩)) (cs : List Value) (dd : TypeDesc) (hc : ∀ w, S w → w.rangeAt b o cs) (hu : P.underlying ty = some dd) (hdd : dd.isRow = true) (hz : (P.info? ty).map (·.size) = some cs.length)
    (h : wpAnyH P md ops (NoPanic Q) S fuel (listed.setIfInBounds i true) (a.put d (.agg cs.toArray)) w) : wpAnyH P md ops (NoPanic Q) S (fuel + 1) listed a w := by
  refine reg_take i d hi hd hs hf hr hw hS (fun w hSw => ?_) h
  have hr := run_loadAt_mid (P := P) w b o ty cs dd (hc w hSw) hu hdd hz
  unfold execOp
  simp only [ho, hx, Sem.run_bind, hr, Result.andThen_ok, Sem.run_pure]
/-- A call, it alone is ready. -/
theorem reg_call {oi : Oper} {fuel : Nat} {listed : Array Bool} {a : Act} {w : World} (i : Nat) (d : Option Tmp) (hi : ops[i]? = some oi) (hd : oi.dst = d) (hr : Region.ready md ops listed = [i])
    (hw : Region.wanted oi (yielded ops a.tmps) = true) (f : FuncId) (args : Array Value) (hx : (execOp a.eval oi).run P w = .ok (.enter f args) w)
    (hc : Calls P f args w fun e w' => ∃ v, e = .returned v ∧ S w' ∧ (S w' → wpAnyH P md ops (NoPanic Q) S fuel (listed.setIfInBounds i true) (a.put d v) w')) : wpAnyH P md ops (NoPanic Q) S (fuel + 1) listed a w := by
  subst hd
  refine wpAnyH_ready hr (by simp) (AllReadyH.cons hi (fun K' hK => ?_) AllReadyH.nil)
  rw [if_pos hw]
  unfold Oper.wp
  rw [hx, Oper.upon_enter]
  refine hc.mono ?_
  rintro e w' ⟨v, rfl, hS, h⟩
  exact hK.out _ _ hS h
/-- An operation that changes the world, it alone is ready. -/
theorem reg_step {oi : Oper} {v : Value} {fuel : Nat} {listed : Array Bool} {a : Act} {w w' : World} (i : Nat) (d : Option Tmp) (hi : ops[i]? = some oi) (hd : oi.dst = d) (hr : Region.ready md ops listed = [i])
    (hw : Region.wanted oi (yielded ops a.tmps) = true) (hx : (execOp a.eval oi).run P w = .ok (.value v) w') (hS : S w')
    (h : S w' → wpAnyH P md ops (NoPanic Q) S fuel (listed.setIfInBounds i true) (a.put d v) w') : wpAnyH P md ops (NoPanic Q) S (fuel + 1) listed a w := by
  subst hd
  refine wpAnyH_ready hr (by simp) (AllReadyH.cons hi (fun K' hK => ?_) AllReadyH.nil)
  rw [if_pos hw]
  unfold Oper.wp
  rw [hx]
  exact hK.out _ _ hS h
theorem reg_end {listed : Array Bool} {a : Act} {w : World} {fuel : Nat} (hr : Region.ready md ops listed = []) (h : Q .normal a w) : wpAnyH P md ops (NoPanic Q) S fuel listed a w :=
  wpAnyH_done hr (NoPanic.normal h) _
end
section
variable {P : Program} {md : Region.Mode} {ops : Array Oper} {Q : Exit → Act → World → Prop} {S : World → Prop}
/-- A whole value is stored, it alone is ready. -/
theorem reg_store {oi : Oper} {fuel : Nat} {listed : Array Bool} {a : Act} {w : World} (i : Nat) (d : Option Tmp) (ty : TypeId) (x y : Operand) (hi : ops[i]? = some oi) (hd : oi.dst = d) (ho : oi.op = .store ty x y) (hr : Region.ready md ops listed = [i])
    (hw : Region.wanted oi (yielded ops a.tmps) = true) (g : Nat) (t : TypeId) (cs vs : List Value) (hB : Blk w g t cs) (hx : a.eval x = .pointer (some ⟨g, 0, none⟩)) (hy : a.eval y = .agg vs.toArray) (hl : vs.length = cs.length) (hz : (P.info? ty).map (·.size) = some vs.length) (h1 : ∀ u ∈ vs, u.oneCell' = true)
    (h : ∀ w', Blk w' g t vs → Kp (oneB g) w w' → w'.heap.size = w.heap.size → S w' ∧ (S w' → wpAnyH P md ops (NoPanic Q) S fuel (listed.setIfInBounds i true) (a.put d undef) w')) : wpAnyH P md ops (NoPanic Q) S (fuel + 1) listed a w := by
  subst hd
  obtain ⟨hS, h2⟩ := h (w.setCells g 0 vs) (hB.setAll hl) (Kp.setCells (F := oneB g) (.inl rfl) _ (Kp.refl (oneB g) w)) (setCells_size _ _ _)
  refine wpAnyH_ready hr (by simp) (AllReadyH.cons hi (fun K' hK => ?_) AllReadyH.nil)
  rw [if_pos hw]
  have ht : w.there g 0 vs.toArray.size := by have := hB.there; rw [← hl] at this; simpa using this
  have hz' : (P.info? ty).map (·.size) = some vs.toArray.size := by simpa using hz
  exact wp_store_mid ty x y ho g 0 vs.toArray hx hy ht hz' (all_oneCell_toArray h1) (hK.out _ _ (by simpa using hS) (fun _ => by simpa using h2 hS))
/-- A whole block is loaded, it alone is ready. -/
theorem reg_loadNow {oi : Oper} {fuel : Nat} {listed : Array Bool} {a : Act} {w : World} (i : Nat) (d : Option Tmp) (ty : TypeId) (x : Operand) (hi : ops[i]? = some oi) (hd : oi.dst = d) (ho : oi.op = .load ty x) (hr : Region.ready md ops listed = [i])
    (hw : Region.wanted oi (yielded ops a.tmps) = true) (hS : S w) (b o : Nat) (hx : a.eval x = .pointer (some ⟨b, o, none⟩)) (cs : List Value) (dd : TypeDesc) (hc : w.rangeAt b o cs) (hu : P.underlying ty = some dd) (hdd : dd.isRow = true) (hz : (P.info? ty).map (·.size) = some cs.length)
    (h : wpAnyH P md ops (NoPanic Q) S fuel (listed.setIfInBounds i true) (a.put d (.agg cs.toArray)) w) : wpAnyH P md ops (NoPanic Q) S (fuel + 1) listed a w := by
  have hr2 := run_loadAt_mid (P := P) w b o ty cs dd hc hu hdd hz
  refine reg_step i d hi hd hr hw (v := .agg cs.toArray) (w' := w) ?_ hS (fun _ => h)
  unfold execOp
  simp only [ho, hx, Sem.run_bind, hr2, Result.andThen_ok, Sem.run_pure]
/-- A row of bytes is read as a string. -/
theorem reg_bytesStr {oi : Oper} {fuel : Nat} {listed : Array Bool} {a : Act} {w : World} (i : Nat) (d : Option Tmp) (src dst e : TypeId) (x : Operand) (hi : ops[i]? = some oi) (hd : oi.dst = d) (ho : oi.op = .convert src dst x)
    (hs : Region.noSelect ops = true) (hf : Region.free md ops listed i = true) (hr : (Region.ready md ops listed).contains i = true)
    (hw : Region.wanted oi (yielded ops a.tmps) = true) (hS : S w) (hu : P.underlying src = some (.slice e)) (he : P.underlying e = some (.int .u8)) (hv : P.underlying dst = some .string) (A : Option Addr) (n c : Nat) (l : List UInt8) (hn : l.length = n) (hx : a.eval x = .slice A n c) (hc : ∀ w, S w → Row w A (bvs l))
    (h : wpAnyH P md ops (NoPanic Q) S fuel (listed.setIfInBounds i true) (a.put d (.string (str l))) w) : wpAnyH P md ops (NoPanic Q) S (fuel + 1) listed a w := by
  refine reg_take i d hi hd hs hf hr hw hS (fun w hSw => ?_) h
  have hr := run_bytes_str (P := P) w src dst e hu he hv A n c l hn (hc w hSw)
  unfold execOp
  simp only [ho, hx, Sem.run_bind, hr, Result.andThen_ok, Sem.run_pure]
/-- A call, or a new block: either may come next. -/
theorem reg_callOr {oi oj : Oper} {v : Value} {fuel : Nat} {listed : Array Bool} {a : Act} {w w' : World} (i j : Nat) (d e : Option Tmp) (hi : ops[i]? = some oi) (hd : oi.dst = d) (hj : ops[j]? = some oj) (he : oj.dst = e) (hr : Region.ready md ops listed = [i, j])
    (hw : Region.wanted oi (yielded ops a.tmps) = true) (hv : Region.wanted oj (yielded ops a.tmps) = true) (f : FuncId) (args : Array Value) (hx : (execOp a.eval oi).run P w = .ok (.enter f args) w) (hy : (execOp a.eval oj).run P w = .ok (.value v) w') (hS : S w')
    (hc : Calls P f args w fun e w' => ∃ v, e = .returned v ∧ S w' ∧ (S w' → wpAnyH P md ops (NoPanic Q) S fuel (listed.setIfInBounds i true) (a.put d v) w'))
    (h : S w' → wpAnyH P md ops (NoPanic Q) S fuel (listed.setIfInBounds j true) (a.put e v) w') : wpAnyH P md ops (NoPanic Q) S (fuel + 1) listed a w := by
  subst hd; subst he
  refine wpAnyH_ready hr (by simp) (AllReadyH.cons hi (fun K' hK => ?_) (AllReadyH.cons hj (fun K' hK => ?_) AllReadyH.nil))
  · rw [if_pos hw]
    unfold Oper.wp
    rw [hx, Oper.upon_enter]
    refine hc.mono ?_
    rintro e w' ⟨v, rfl, hS, h⟩
    exact hK.out _ _ hS h
  · rw [if_pos hv]
    unfold Oper.wp
    rw [hy]
    exact hK.out _ _ hS h
end
end Go.Proofs.Ytndkmfflpphoiaa.Kit
