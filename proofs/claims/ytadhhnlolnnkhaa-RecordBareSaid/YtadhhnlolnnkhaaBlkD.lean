/- Rows that the call owns, of elements of any number of cells: what keeps them, appends onto them. No program is named here. -/
import Derived.Test.YtadhhnlolnnkhaaBlkC
namespace Go.Proofs.Ytadhhnlolnnkhaa.Kit
set_option linter.unusedVariables false
set_option linter.unusedSimpArgs false
open Go Go.RowKit

/-- The slice '.slice A n c' of elements of type e, of k cells each, owns the cells xs. -/
def OwnK (k : Nat) (e : TypeId) (w : World) (A : Option Addr) (n c : Nat) (xs : List Value) : Prop := w.ownsRow 0 e k (.slice A n c) n xs
theorem OwnK.len {k : Nat} {e : TypeId} {w : World} {A : Option Addr} {n c : Nat} {xs : List Value} (h : OwnK k e w A n c xs) : xs.length = n * k := h.1
theorem OwnK.nil (k : Nat) (e : TypeId) (w : World) : OwnK k e w none 0 0 [] := World.ownsRow_nil w 0 e k
theorem OwnK.row {k : Nat} {e : TypeId} {w : World} {A : Option Addr} {n c : Nat} {xs : List Value} (h : OwnK k e w A n c xs) : Row w A xs := by
  rcases h.2 with ⟨h1, h2⟩ | ⟨g, cap, cur, h1, _, hg, hnc, hcm, hcs, ht⟩
  · exact .inl (List.eq_nil_of_length_eq_zero (by rw [h.len, h2, Nat.zero_mul]))
  · cases h1
    refine .inr ⟨g, 0, rfl, ?_, fun i u hu => ?_⟩
    · rcases Nat.lt_or_ge g w.heap.size with hlt | hge
      · exact hlt
      · rw [Array.getElem?_eq_none hge] at hg; cases hg
    · have := h.cells (g := g) rfl i u hu
      by_cases hi : i = 0 <;> simpa [Addr.add, hi] using this
theorem OwnK.lt {k : Nat} {e : TypeId} {w : World} {A : Option Addr} {n c : Nat} {xs : List Value} (h : OwnK k e w A n c xs) : ∀ j, ab A = some j → j < w.heap.size :=
  fun j hj => (World.ownsRow.lt h j (by rw [ab_own]; exact hj)).2
theorem OwnK.keep {k : Nat} {e : TypeId} {F : Nat → Prop} {w w' : World} {A : Option Addr} {n c : Nat} {xs : List Value} (h : OwnK k e w A n c xs) (hk : Kp F w w') (hf : ∀ j, ab A = some j → ¬ F j) : OwnK k e w' A n c xs := by
  refine ⟨h.1, ?_⟩
  rcases h.2 with h1 | ⟨g, cap, cur, h1, h0, hg, r⟩
  · exact .inl h1
  · refine .inr ⟨g, cap, cur, h1, h0, ?_, r⟩
    have hA : A = some ⟨g, 0, none⟩ := by injection h1
    rw [hk.block g (h.lt g (by rw [hA]; rfl)) (hf g (by rw [hA]; rfl))]
    exact hg
theorem OwnK.alloc {k : Nat} {e : TypeId} {w : World} {A : Option Addr} {n c : Nat} {xs : List Value} (h : OwnK k e w A n c xs) (o : Obj) : OwnK k e (w.alloc o) A n c xs := h.keep ((Kp.refl Kit.nob w).alloc o) (fun _ _ e => e)
theorem OwnK.cap {k : Nat} {e : TypeId} {w : World} {A : Option Addr} {n c : Nat} {xs : List Value} (h : OwnK k e w A n c xs) : n ≤ c ∧ c ≤ maxLen := by
  rcases h.2 with ⟨h1, h2⟩ | ⟨g, cap, cur, h1, _, hg, hnc, hcm, hcs, ht⟩
  · injection h1 with _ _ h3; subst h3; subst h2; exact ⟨Nat.le_refl _, by simp [maxLen]⟩
  · injection h1 with _ _ h3; subst h3; exact ⟨hnc, hcm⟩
/-- A ROW OF ELEMENTS OF k CELLS APPENDED onto an owned row. -/
theorem run_appK {P : Program} (w : World) (t ty : TypeId) (k : Nat) (hk : 0 < k) (e : TypeId) (i : TypeInfo) (z : Value) (bytes : Nat) (ht : P.underlying t = some (.slice e)) (hi : P.info? e = some i) (hz : i.zero = some z)
    (hsize : i.size = k) (hby : i.bytes = bytes) (hzs : z.cells.size = k)
    (A : Option Addr) (n c : Nat) (xs : List Value) (hown : OwnK k e w A n c xs)
    (B : Addr) (m d : Nat) (ys : List Value) (hm : ys.length = m * k) (hrow : Row w (some B) ys) (h1 : ∀ u ∈ ys, u.oneCell' = true)
    (hbytes : (n + m) * bytes ≤ 140737488355328) (hmx : n + m ≤ maxLen) : ∃ A' c' w', (Builtin.append_ #[t, t] ty #[.slice A n c, .slice (some B) m d]).run P w = .ok (.slice A' (n + m) c') w' ∧ OwnK k e w' A' (n + m) c' (xs ++ ys) ∧ w.grownBy w' (ab A) ∧ (ab A' = ab A ∨ ab A' = some w.heap.size) := by
  have hnews : ∀ j u, ys[j]? = some u → w.cell? (B.add j) = some u := by
    intro j u hu
    rcases hrow with rfl | ⟨b, o', h, _, hcell⟩
    · simp at hu
    · cases h
      have := hcell j u hu
      by_cases hj : j = 0 <;> simpa [Addr.add, hj] using this
  obtain ⟨v', w', hr, h2, h3, h4, h5⟩ := run_append_own_at (P := P) w 0 t ty e i z k bytes ht hi hz hsize hby hzs hk (.slice A n c) n xs hown B m d ys hm hnews h1 hmx hbytes (Nat.zero_le _)
  rw [ab_own] at h3 h5
  have hv : ∃ A' c', v' = .slice A' (n + m) c' := by
    rcases h2.2 with ⟨h6, h7⟩ | ⟨g, cap, _, h6, _⟩
    · exact ⟨none, 0, by rw [h6, h7]⟩
    · exact ⟨_, _, h6⟩
  obtain ⟨A', c', rfl⟩ := hv
  rw [ab_own] at h5
  exact ⟨A', c', w', hr, h2, h3, h5⟩

/-- APPEND OF ELEMENTS onto an owned row (a nil row, too). -/
theorem wpList_appK {P : Program} (w : World) {ops : Array Oper} {rest : List Oper} {o : Oper} {a : Act} {Q : Exit → Act → World → Prop} (hgd : o.guard = none) (s x : Operand) (t : TypeId)
    (ho : o.op = .call { callee := .builtin .append, args := #[s, x], argTypes := #[t, t] })
    (k : Nat) (hk : 0 < k) (e : TypeId) (i : TypeInfo) (z : Value) (bytes : Nat) (ht : P.underlying t = some (.slice e)) (hi : P.info? e = some i) (hz : i.zero = some z)
    (hsize : i.size = k) (hby : i.bytes = bytes) (hzs : z.cells.size = k)
    (A : Option Addr) (n c : Nat) (xs : List Value) (hs : a.eval s = .slice A n c) (hown : OwnK k e w A n c xs)
    (B : Addr) (m d : Nat) (ys : List Value) (hx : a.eval x = .slice (some B) m d) (hm : ys.length = m * k) (hrow : Row w (some B) ys) (h1 : ∀ u ∈ ys, u.oneCell' = true)
    (hbytes : (n + m) * bytes ≤ 140737488355328) (h63 : n + m ≤ 140737488355328)
    (h : ∀ A' c' w', OwnK k e w' A' (n + m) c' (xs ++ ys) → w.grownBy w' (ab A) → (ab A' = ab A ∨ ab A' = some w.heap.size) → wpList P ops Q rest (a.put o.dst (.slice A' (n + m) c')) w') : wpList P ops Q (o :: rest) a w := by
  refine wpList_plain hgd fun _ hK => ?_
  have hmx : n + m ≤ maxLen := by unfold maxLen; omega
  obtain ⟨A', c', w', hr, h2, h3, h4⟩ := run_appK (P := P) w t o.type k hk e i z bytes ht hi hz hsize hby hzs A n c xs hown B m d ys hm hrow h1 hbytes hmx
  unfold Oper.wp execOp
  simp only [ho, resolve, invoke, builtin, Sem.run_bind, Sem.run_pure, Result.andThen_ok, List.map_toArray, List.map_cons, List.map_nil, hs, hx, hr]
  exact hK _ _ (h A' c' w' h2 h3 h4)
end Go.Proofs.Ytadhhnlolnnkhaa.Kit
