/- A slice in the midst of a block: appended to, cut; rows that own their block, as blocks. No program is named here. -/
import Derived.Test.YtchdobneipfghaaZG01
namespace Go.Proofs.Ytchdobneipfghaa.Kit
set_option linter.unusedVariables false
set_option linter.unusedSimpArgs false
open Go Go.RowKit

/-- The slice '.slice A n c' of elements of one cell reads xs; what lies behind it, up to c, is its own. -/
def RowAt (e : TypeId) (w : World) (A : Option Addr) (n c : Nat) (xs : List Value) : Prop :=
  ∃ g o cur, A = some ⟨g, o, none⟩ ∧ w.heap[g]? = some (.cells cur e (0, 0)) ∧ n ≤ c ∧ c ≤ maxLen ∧ o + c ≤ cur.size ∧ xs.length = n ∧ (cur.toList.drop o).take n = xs
theorem RowAt.len {e : TypeId} {w : World} {A : Option Addr} {n c : Nat} {xs : List Value} (h : RowAt e w A n c xs) : xs.length = n := by
  obtain ⟨g, o, cur, _, _, _, _, _, hl, _⟩ := h; exact hl
theorem RowAt.cap {e : TypeId} {w : World} {A : Option Addr} {n c : Nat} {xs : List Value} (h : RowAt e w A n c xs) : n ≤ c ∧ c ≤ maxLen := by
  obtain ⟨g, o, cur, _, _, h1, h2, _⟩ := h; exact ⟨h1, h2⟩
theorem RowAt.lt {e : TypeId} {w : World} {A : Option Addr} {n c : Nat} {xs : List Value} (h : RowAt e w A n c xs) : ∀ j, ab A = some j → j < w.heap.size := by
  obtain ⟨g, o, cur, rfl, hg, _⟩ := h
  intro j hj; cases hj
  exact (Array.getElem?_eq_some_iff.1 hg).1
theorem RowAt.keep {e : TypeId} {F : Nat → Prop} {w w' : World} {A : Option Addr} {n c : Nat} {xs : List Value} (h : RowAt e w A n c xs) (hk : Kp F w w') (hf : ∀ j, ab A = some j → ¬ F j) : RowAt e w' A n c xs := by
  have hlt := h.lt
  obtain ⟨g, o, cur, rfl, hg, r⟩ := h
  exact ⟨g, o, cur, rfl, by rw [hk.block g (hlt g rfl) (hf g rfl)]; exact hg, r⟩
theorem RowAt.row {e : TypeId} {w : World} {A : Option Addr} {n c : Nat} {xs : List Value} (h : RowAt e w A n c xs) : Row w A xs := by
  have hlt := h.lt
  obtain ⟨g, o, cur, rfl, hg, h1, h2, h3, h4, h5⟩ := h
  refine .inr ⟨g, o, rfl, hlt g rfl, fun i u hu => ?_⟩
  have hi : i < n := by rw [← h4]; exact (List.getElem?_eq_some_iff.1 hu).1
  rw [cell_of_row w g (o + i) cur e (0, 0) hg]
  rw [← h5, List.getElem?_take, if_pos hi, List.getElem?_drop, Array.getElem?_toList] at hu
  exact hu
/-- The last of its elements alone. -/
theorem RowAt.cut {e : TypeId} {w : World} {A : Option Addr} {n c : Nat} {xs : List Value} (h : RowAt e w A n c xs) (k : Nat) (hk : k < n) : RowAt e w (cutA A c k) (n - k) (c - k) (xs.drop k) := by
  obtain ⟨g, o, cur, rfl, hg, h1, h2, h3, h4, h5⟩ := h
  refine ⟨g, o + k, cur, ?_, hg, by omega, by omega, by omega, by rw [List.length_drop, h4], ?_⟩
  · unfold cutA
    rw [if_neg (by omega)]
    by_cases h0 : k = 0 <;> simp [Addr.add, h0]
  · rw [← h5, List.drop_take, List.drop_drop]
/-- A new row, whole. -/
theorem RowAt.new (w : World) (e : TypeId) (xs : List Value) (hm : xs.length ≤ maxLen) : RowAt e (w.alloc (.cells xs.toArray e)) (some ⟨w.heap.size, 0, none⟩) xs.length xs.length xs :=
  ⟨w.heap.size, 0, xs.toArray, rfl, heap_alloc_new w _, Nat.le_refl _, hm, by simp, rfl, by simp⟩
/-- ONE ELEMENT IS APPENDED. -/
theorem run_appAt {P : Program} (w : World) (t ty e : TypeId) (i : TypeInfo) (z : Value) (bytes : Nat) (ht : P.underlying t = some (.slice e)) (hi : P.info? e = some i) (hz : i.zero = some z)
    (hsize : i.size = 1) (hby : i.bytes = bytes) (hzs : z.cells.size = 1)
    (A : Option Addr) (n c : Nat) (xs : List Value) (hown : RowAt e w A n c xs)
    (B : Addr) (d : Nat) (y : Value) (hrow : Row w (some B) [y]) (h1 : y.oneCell' = true)
    (hbytes : (n + 1) * bytes ≤ 140737488355328) (hmx : n + 1 ≤ maxLen) : ∃ A' c' w', (Builtin.append_ #[t, t] ty #[.slice A n c, .slice (some B) 1 d]).run P w = .ok (.slice A' (n + 1) c') w' ∧ RowAt e w' A' (n + 1) c' (xs ++ [y]) ∧ w.grownBy w' (ab A) ∧ (ab A' = ab A ∨ ab A' = some w.heap.size) := by
  have hsmall : n + 1 ≤ 9223372036854775807 := by simp only [maxLen] at hmx; omega
  have hnews : ∀ j u, [y][j]? = some u → w.cell? (B.add j) = some u := by
    intro j u hu
    rcases hrow with h | ⟨b, o', h, _, hcell⟩
    · cases h
    · cases h
      have := hcell j u hu
      by_cases hj : j = 0 <;> simpa [Addr.add, hj] using this
  have hrw := hown.row
  obtain ⟨g, o, cur, rfl, hg, hc1, hc2, hc3, hc4, hc5⟩ := hown
  by_cases hroom : n + 1 ≤ c
  · have hf := run_firstCells_some (P := P) w i.size 1 B 1 d [y] (by simp [hsize]) hnews
    have hst := run_storeCells_at P g (o + n) e [y] 0 cur w hg (by simp; omega) (by intro v hv; simp at hv; subst hv; exact h1)
    simp only [Nat.add_zero, List.length_singleton] at hst
    have hadd : (⟨g, o, none⟩ : Addr).add n = ⟨g, o + n, none⟩ := by unfold Addr.add; split <;> simp_all
    refine ⟨some ⟨g, o, none⟩, c, w.setRow g (cur.toList.take (o + n) ++ [y] ++ cur.toList.drop (o + n + 1)).toArray, ?_, ⟨g, o, _, rfl, setRow_heap w g cur _ e _ hg, hroom, hc2, ?_, by simp [hc4], ?_⟩, ⟨rfl, rfl, rfl, by simp [World.setRow], fun k _ hk => setRow_other w g k _ (fun e => hk (by simp [ab, e]))⟩, .inl rfl⟩
    · simp [Builtin.append_, run_underlying ht, sizeOf, typeInfo, hi, Builtin.lenOf, hroom, hsize] at hf ⊢
      simp [hf, hadd, hst]
    · simp only [List.size_toArray, List.length_append, List.length_take, List.length_drop, Array.length_toList, List.length_singleton]
      omega
    · have hl : cur.toList.length = cur.size := Array.length_toList
      have e1 : (cur.toList.take (o + n) ++ [y] ++ cur.toList.drop (o + n + 1)).drop o = (cur.toList.drop o).take n ++ ([y] ++ cur.toList.drop (o + n + 1)) := by
        rw [List.append_assoc, List.drop_append_of_le_length (by rw [List.length_take]; omega), List.drop_take, Nat.add_sub_cancel_left]
      rw [List.toList_toArray, e1, hc5, ← List.append_assoc]
      exact List.take_left' (by simp [hc4])
  · have holds : ∀ j u, xs[j]? = some u → w.cell? ((⟨g, o, none⟩ : Addr).add j) = some u := by
      intro j u hu
      rcases hrw with h | ⟨b, o', h, _, hcell⟩
      · rw [h] at hu; cases hu
      · cases h
        have := hcell j u hu
        by_cases hj : j = 0 <;> simpa [Addr.add, hj] using this
    subst hby
    have hr := run_append_grow (P := P) w t ty e i z ht hi hz ⟨g, o, none⟩ n c xs (by rw [hsize]; omega) holds B 1 d [y] (by simp [hsize]) hnews (by omega) (by omega) (growslice_fits (by omega) hbytes)
    have hge := grownCap_ge w (n + 1) c e
    have hcm : grownCap w (n + 1) c e ≤ maxLen := grownCap_le_maxLen w (n + 1) c e hmx
    refine ⟨some ⟨w.heap.size, 0, none⟩, grownCap w (n + 1) c e, _, hr, ⟨w.heap.size, 0, _, rfl, heap_alloc_new w.drew _, hge, hcm, ?_, by simp [hc4], ?_⟩, ⟨rfl, rfl, rfl, by simp, fun k hk _ => Below.heap_alloc w.drew _ k hk⟩, Or.inr rfl⟩
    · simp only [Array.size_append, List.size_toArray, size_zeroCells, hzs, hc4, List.length_singleton]
      omega
    · simp only [Array.toList_append, List.drop_zero]
      rw [List.append_assoc, ← List.append_assoc]
      exact List.take_left' (by simp [hc4])

/-- A row that owns its block, as a block. -/
theorem OwnK.blk {k : Nat} {e : TypeId} {w : World} {g n c : Nat} {xs : List Value} (h : OwnK k e w (some ⟨g, 0, none⟩) n c xs) : ∃ cur, Blk w g e cur ∧ cur.length = c * k ∧ cur.take (n * k) = xs ∧ n ≤ c ∧ c ≤ maxLen := by
  rcases h.2 with ⟨h1, h2⟩ | ⟨g', cap, cur, h1, _, hg, hnc, hcm, hcs, ht⟩
  · injection h1 with h1; cases h1
  · injection h1 with h1 _ h3; injection h1 with h1; injection h1 with h1; subst h1; subst h3
    exact ⟨cur.toList, by unfold Blk; simpa using hg, by simpa using hcs, ht, hnc, hcm⟩
theorem OwnK.of_blk {k : Nat} {e : TypeId} {w : World} {g n c : Nat} {cur xs : List Value} (hB : Blk w g e cur) (hl : cur.length = c * k) (hx : cur.take (n * k) = xs) (hn : n ≤ c) (hc : c ≤ maxLen) : OwnK k e w (some ⟨g, 0, none⟩) n c xs := by
  refine ⟨?_, .inr ⟨g, c, cur.toArray, rfl, Nat.zero_le _, hB, hn, hc, by simpa using hl, by simpa using hx⟩⟩
  rw [← hx, List.length_take, hl, Nat.min_eq_left (Nat.mul_le_mul_right _ hn)]
theorem OwnK.some_ {k : Nat} {e : TypeId} {w : World} {A : Option Addr} {n c : Nat} {xs : List Value} (h : OwnK k e w A n c xs) (hn : 0 < n) : ∃ g, A = some ⟨g, 0, none⟩ := by
  rcases h.2 with ⟨_, h2⟩ | ⟨g', cap, cur, h1, _⟩
  · omega
  · injection h1 with h1; exact ⟨g', h1⟩
theorem OwnK.none_ {k : Nat} {e : TypeId} {w : World} {A : Option Addr} {n c : Nat} {xs : List Value} (h : OwnK k e w A n c xs) : A = none → c = 0 := by
  rintro rfl
  rcases h.2 with ⟨h1, _⟩ | ⟨g, cap, cur, h1, _⟩
  · injection h1
  · injection h1 with h1; cases h1
end Go.Proofs.Ytchdobneipfghaa.Kit
