/- Appends as steps of a region that draws its order: a row, and 'append(s, make([]byte, k)...)', onto an owned row of bytes. No program is named here. -/
import Derived.Test.YtakhanganifpnaaBlkC
import Derived.Lib.AppendZerosOnto
import Derived.Orders
namespace Go.Proofs.Ytakhanganifpnaa.Kit
set_option linter.unusedVariables false
set_option linter.unusedSimpArgs false
open Go Go.RowKit

/-- AN OPERATION WHOSE GUARD SAYS NO, taken first; its slot is handed in. -/
theorem wpAny_skip {P : Program} {md : Region.Mode} {ops : Array Oper} {Q : Exit → Act → World → Prop} {oi : Oper} {fuel : Nat} {listed : Array Bool} {a : Act} {w : World} (i : Nat) (d : Option Tmp) (hi : ops[i]? = some oi) (hd : oi.dst = d)
    (hs : Region.noSelect ops = true) (hf : Region.free md ops listed i = true) (hr : (Region.ready md ops listed).contains i = true)
    (hQ : ∀ c a w, Q (.panic c) (a.put d undef) w → Q (.panic c) a w) (hw : Region.wanted oi (yielded ops a.tmps) = false)
    (h : wpAny P md ops Q fuel (listed.setIfInBounds i true) (a.put d undef) w) : wpAny P md ops Q (fuel + 1) listed a w := by
  subst hd
  exact wpAny_take hi hs hf hr hQ (.inr ⟨hw, rfl⟩) h
/-- An operation that yields in whatever world, taken first; its slot is handed in. -/
theorem wpAny_takeD {P : Program} {md : Region.Mode} {ops : Array Oper} {Q : Exit → Act → World → Prop} {oi : Oper} {v : Value} {fuel : Nat} {listed : Array Bool} {a : Act} {w : World} (i : Nat) (d : Option Tmp) (hi : ops[i]? = some oi) (hd : oi.dst = d)
    (hs : Region.noSelect ops = true) (hf : Region.free md ops listed i = true) (hr : (Region.ready md ops listed).contains i = true)
    (hQ : ∀ c a w, Q (.panic c) (a.put d v) w → Q (.panic c) a w) (hw : Region.wanted oi (yielded ops a.tmps) = true) (hy : ∀ w, (execOp a.eval oi).run P w = .ok (.value v) w)
    (h : wpAny P md ops Q fuel (listed.setIfInBounds i true) (a.put d v) w) : wpAny P md ops Q (fuel + 1) listed a w := by
  subst hd
  exact wpAny_take hi hs hf hr hQ (.inl ⟨hw, hy⟩) h
theorem Kp.alloc_drew {F : Nat → Prop} {a b : World} (h : Kp F a b.drew) (o : Obj) : Kp F a (b.alloc o).drew := h.alloc o
theorem range_alloc {w : World} {b o : Nat} {cs : List Value} (h : w.rangeAt b o cs) (x : Obj) : (w.alloc x).rangeAt b o cs := range_keep h ((Kp.refl nob w).alloc x) (fun e => e)
theorem range_alloc_drew {w : World} {b o : Nat} {cs : List Value} (h : w.drew.rangeAt b o cs) (x : Obj) : (w.alloc x).drew.rangeAt b o cs := range_alloc h x

theorem run_appR {P : Program} (w : World) (t ty e : TypeId) (i : TypeInfo) (z : Value) (bytes : Nat) (ht : P.underlying t = some (.slice e)) (hi : P.info? e = some i) (hz : i.zero = some z)
    (hsize : i.size = 1) (hby : i.bytes = bytes) (hzs : z.cells.size = 1)
    (A : Option Addr) (n c : Nat) (xs : List Value) (hown : Own e w A n c xs)
    (B : Option Addr) (m d : Nat) (ys : List Value) (hB : B = none → d = 0) (hm : ys.length = m) (hrow : Row w B ys) (h1 : ∀ u ∈ ys, u.oneCell' = true)
    (hbytes : (n + m) * bytes ≤ 140737488355328) (h63 : n + m ≤ 140737488355328) :
    ∃ A' c' w', (Builtin.append_ #[t, t] ty #[.slice A n c, .slice B m d]).run P w = .ok (.slice A' (n + m) c') w' ∧ Own e w' A' (n + m) c' (xs ++ ys) ∧ w.grownBy w' (ab A) ∧ (ab A' = ab A ∨ ab A' = some w.heap.size) := by
  have hmx : n + m ≤ maxLen := by unfold maxLen; omega
  cases B with
  | none =>
    have hd := hB rfl
    have hy : ys = [] := by
      rcases hrow with rfl | ⟨b, o, h, _⟩
      · rfl
      · cases h
    subst hy
    obtain rfl : m = 0 := by simpa using hm.symm
    have hc := hown.cap.1
    refine ⟨A, c, w, ?_, by simpa using hown, World.grownBy.refl _ _, .inl rfl⟩
    cases A <;> simp [Builtin.append_, run_underlying ht, sizeOf, typeInfo, hi, Builtin.lenOf, Builtin.firstCells, hc, storeCells]
  | some ad =>
    have hnews : ∀ j u, ys[j]? = some u → w.cell? (ad.add j) = some u := by
      intro j u hu
      rcases hrow with rfl | ⟨b, o, h, _, hcell⟩
      · simp at hu
      · cases h
        have := hcell j u hu
        by_cases hj : j = 0 <;> simpa [Addr.add, hj] using this
    obtain ⟨v', w', hr, h2, h3, h4, h5⟩ := run_append_own_at (P := P) w 0 t ty e i z 1 bytes ht hi hz hsize hby hzs (by decide) (.slice A n c) n xs hown ad m d ys (by simpa using hm) hnews h1 hmx hbytes (Nat.zero_le _)
    rw [ab_own] at h3 h5
    have hv : ∃ A' c', v' = .slice A' (n + m) c' := by
      rcases h2.2 with ⟨h6, h7⟩ | ⟨g, cap, _, h6, _⟩
      · exact ⟨none, 0, by rw [h6, h7]⟩
      · exact ⟨_, _, h6⟩
    obtain ⟨A', c', rfl⟩ := hv
    rw [ab_own] at h5
    exact ⟨A', c', w', hr, h2, h3, h5⟩

theorem step_append {P : Program} {ops : Array Oper} {o : Oper} {a : Act} {w : World} {K : Act → World → Prop} {Q : Exit → Act → World → Prop} {E : Prop} (hw : Region.wanted o (yielded ops a.tmps) = true)
    (s x : Operand) (t u : TypeId) (ho : o.op = .call { callee := .builtin .append, args := #[s, x], argTypes := #[t, u] }) (v1 v2 : Value) (h1 : a.eval s = v1) (h2 : a.eval x = v2) (v : Value) (w' : World)
    (hr : (Builtin.append_ #[t, u] o.type #[v1, v2]).run P w = .ok v w') (h : K (a.put o.dst v) w') : if Region.wanted o (yielded ops a.tmps) = true then Oper.wp P o a w K Q else E := by
  rw [if_pos hw]
  unfold Oper.wp execOp
  simp only [ho, resolve, invoke, builtin, Sem.run_bind, Sem.run_pure, Result.andThen_ok, List.map_toArray, List.map_cons, List.map_nil, h1, h2, hr]
  exact h

theorem step_appR {P : Program} {ops : Array Oper} {o : Oper} {a : Act} {w : World} {K : Act → World → Prop} {Q : Exit → Act → World → Prop} {E : Prop} (hw : Region.wanted o (yielded ops a.tmps) = true) (s x : Operand) (t : TypeId)
    (ho : o.op = .call { callee := .builtin .append, args := #[s, x], argTypes := #[t, t] })
    (e : TypeId) (i : TypeInfo) (z : Value) (bytes : Nat) (ht : P.underlying t = some (.slice e)) (hi : P.info? e = some i) (hz : i.zero = some z)
    (hsize : i.size = 1) (hby : i.bytes = bytes) (hzs : z.cells.size = 1)
    (A : Option Addr) (n c : Nat) (xs : List Value) (hs : a.eval s = .slice A n c) (hown : Own e w A n c xs)
    (B : Option Addr) (m d : Nat) (ys : List Value) (hx : a.eval x = .slice B m d) (hB : B = none → d = 0) (hm : ys.length = m) (hrow : Row w B ys) (h1 : ∀ u ∈ ys, u.oneCell' = true)
    (hbytes : (n + m) * bytes ≤ 140737488355328) (h63 : n + m ≤ 140737488355328)
    (h : ∀ A' c' w', Own e w' A' (n + m) c' (xs ++ ys) → w.grownBy w' (ab A) → (ab A' = ab A ∨ ab A' = some w.heap.size) → K (a.put o.dst (.slice A' (n + m) c')) w') : if Region.wanted o (yielded ops a.tmps) = true then Oper.wp P o a w K Q else E := by
  obtain ⟨A', c', w', hr, h2, h3, h4⟩ := run_appR (P := P) w t o.type e i z bytes ht hi hz hsize hby hzs A n c xs hown B m d ys hB hm hrow h1 hbytes h63
  exact step_append hw s x t t ho _ _ hs hx _ w' hr (h A' c' w' h2 h3 h4)

theorem zeroCells_u8 (k : Nat) : Builtin.zeroCells (Value.int .u8 0).cells k = (bvs (List.replicate k 0)).toArray := by
  apply Array.ext
  · simp [Builtin.zeroCells, bvs, Value.cells]
  · intro i h1 h2
    simp [Builtin.zeroCells, bvs, bv, Value.cells, Nat.mod_one]

/-- APPEND OF NOUGHTS ONTO AN OWNED ROW OF BYTES. -/
theorem run_appZero {P : Program} (w : World) (t tn ty e : TypeId) (i : TypeInfo) (kq kn : IntKind) (ht : P.underlying t = some (.slice e)) (htn : P.underlying tn = some (.int kn)) (hi : P.info? e = some i) (hz : i.zero = some (.int .u8 0))
    (hsize : i.size = 1) (hby : i.bytes = 1) (A : Option Addr) (n c : Nat) (xs : List Value) (hown : Own e w A n c xs) (k : Nat) (h63 : n + k ≤ 140737488355328) :
    ∃ A' c' w', (Builtin.append_ #[t, tn] ty #[.slice A n c, .int kq k]).run P w = .ok (.slice A' (n + k) c') w' ∧ Own e w' A' (n + k) c' (xs ++ bvs (List.replicate k 0)) ∧ w.grownBy w' (ab A) ∧ (ab A' = ab A ∨ ab A' = some w.heap.size) := by
  have hxl := hown.len
  have hcap := hown.cap
  have hmx : n + k ≤ maxLen := by unfold maxLen; omega
  have hw : IntKind.i64.wrap (k : Int) = k := by rw [IntKind.wrap_i64]; omega
  have hneg : ¬ ((k : Int) < 0) := by omega
  have hbig : ¬ (281474976710656 < (k : Int)) := by omega
  have hlen : (xs ++ bvs (List.replicate k 0)).length = (n + k) * 1 := by rw [List.length_append, hxl, bvs_length, List.length_replicate, Nat.mul_one]
  by_cases h0 : k = 0
  · subst h0
    refine ⟨A, c, w, ?_, by simpa [bvs] using hown, World.grownBy.refl _ _, .inl rfl⟩
    have hc := hcap.1
    have hw0 : IntKind.i64.wrap 0 = 0 := rfl
    cases A <;> simp [Builtin.append_, run_underlying ht, run_underlying htn, sizeOf, typeInfo, hi, hsize, hby, asInt, asIntOf, hw0, hc, storeCells]
  · by_cases hroom : n + k ≤ c
    · rcases hown.2 with ⟨h1, h2⟩ | ⟨g, cap, cur, h1, hbg, hg, hnc, hcm, hcs, htake⟩
      · injection h1 with _ _ h3; omega
      · injection h1 with h1 _ h3
        subst h1; subst h3
        have hcs' : cur.size = c := by simpa using hcs
        have hst := run_storeCells_at P g n e (bvs (List.replicate k 0)) 0 cur w hg (by simp; omega) (bvs_one _)
        simp only [Nat.add_zero, bvs_length, List.length_replicate] at hst
        have hzc : (Builtin.zeroCells #[Value.int IntKind.u8 0] k).toList = bvs (List.replicate k 0) := by
          have := zeroCells_u8 k
          simp only [Value.cells] at this
          rw [this]
        refine ⟨some ⟨g, 0, none⟩, c, w.setRow g (cur.toList.take n ++ bvs (List.replicate k 0) ++ cur.toList.drop (n + k)).toArray, ?_, ⟨hlen, .inr ⟨g, c, _, rfl, hbg, setRow_heap w g cur _ e _ hg, hroom, hcm, ?_, ?_⟩⟩, ⟨rfl, rfl, rfl, by simp, fun j _ hj => setRow_other w g j _ (fun e => hj (by simp [ab, e]))⟩, .inl rfl⟩
        · simp [Builtin.append_, run_underlying ht, run_underlying htn, sizeOf, typeInfo, zeroValue, hi, hsize, hby, hz, asInt, asIntOf, hw, hneg, hbig, h0, hroom, Addr.add_lit, Value.cells, hzc, hst]
        · simp only [List.size_toArray, List.length_append, List.length_take, List.length_drop, Array.length_toList, bvs_length, List.length_replicate]
          omega
        · have ht' : cur.toList.take n = xs := by simpa using htake
          rw [ht', ← hlen]
          exact List.take_left
    · have hfo : (Builtin.firstCells i.size n (.slice A n c)).run P w.drew = .ok xs.toArray w.drew := by
        rcases hown.2 with ⟨h1, h2⟩ | ⟨g, cap, cur, h1, hbg, hg, hnc, hcm, hcs, htake⟩
        · injection h1 with h1 _ _
          subst h1
          have : xs = [] := List.eq_nil_of_length_eq_zero (by rw [hxl]; exact h2)
          subst this
          simp [Builtin.firstCells]
        · have holds : ∀ j u, xs[j]? = some u → w.cell? ((⟨g, 0, none⟩ : Addr).add j) = some u := World.ownsRow.cells (g := g) hown (by injection h1 with h1; rw [h1]; rfl)
          injection h1 with h1 _ _
          subst h1
          exact run_firstCells_some (P := P) w.drew i.size n ⟨g, 0, none⟩ n c xs (by rw [hsize, hxl, Nat.mul_one]) (by simpa using holds)
      have hr := Lib.run_append_grow_zeros (P := P) w t tn ty e i (.int .u8 0) kq kn ht htn hi hz A n c xs hfo k (by omega) (by rw [hsize]; decide) (by omega) (by omega) (by rw [hby]; omega) (by rw [hby]; exact growslice_fits (by omega) (by omega))
      have hge := grownCap_ge w (n + k) c e
      have hcm : grownCap w (n + k) c e ≤ maxLen := grownCap_le_maxLen w (n + k) c e hmx
      refine ⟨_, _, _, hr, ⟨hlen, .inr ⟨w.heap.size, _, _, rfl, Nat.zero_le _, heap_alloc_new w.drew _, hge, hcm, ?_, ?_⟩⟩, ⟨rfl, rfl, rfl, by simp, fun _ hj _ => heap_alloc_old w.drew _ hj⟩, .inr rfl⟩
      · have hz1 : (Value.int IntKind.u8 0).cells.size = 1 := rfl
        simp only [Array.size_append, List.size_toArray, size_zeroCells, hz1, hxl]
        omega
      · rw [zeroCells_u8 k]
        simp only [Array.toList_append, List.append_assoc]
        rw [← List.append_assoc, ← hlen]
        exact List.take_left

theorem step_appZero {P : Program} {ops : Array Oper} {o : Oper} {a : Act} {w : World} {K : Act → World → Prop} {Q : Exit → Act → World → Prop} {E : Prop} (hw : Region.wanted o (yielded ops a.tmps) = true) (s x : Operand) (t tn : TypeId)
    (ho : o.op = .call { callee := .builtin .append, args := #[s, x], argTypes := #[t, tn] })
    (e : TypeId) (i : TypeInfo) (kq kn : IntKind) (ht : P.underlying t = some (.slice e)) (htn : P.underlying tn = some (.int kn)) (hi : P.info? e = some i) (hz : i.zero = some (.int .u8 0))
    (hsize : i.size = 1) (hby : i.bytes = 1) (A : Option Addr) (n c : Nat) (xs : List Value) (hs : a.eval s = .slice A n c) (hown : Own e w A n c xs) (k : Nat) (hx : a.eval x = .int kq k) (h63 : n + k ≤ 140737488355328)
    (h : ∀ A' c' w', Own e w' A' (n + k) c' (xs ++ bvs (List.replicate k 0)) → w.grownBy w' (ab A) → (ab A' = ab A ∨ ab A' = some w.heap.size) → K (a.put o.dst (.slice A' (n + k) c')) w') : if Region.wanted o (yielded ops a.tmps) = true then Oper.wp P o a w K Q else E := by
  obtain ⟨A', c', w', hr, h2, h3, h4⟩ := run_appZero (P := P) w t tn o.type e i kq kn ht htn hi hz hsize hby A n c xs hown k h63
  exact step_append hw s x t tn ho _ _ hs hx _ w' hr (h A' c' w' h2 h3 h4)
end Go.Proofs.Ytakhanganifpnaa.Kit
