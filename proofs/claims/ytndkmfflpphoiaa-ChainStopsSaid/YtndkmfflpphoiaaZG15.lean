/- Lemmas: Pcs PcsOf. -/
import Derived.Test.YtndkmfflpphoiaaZG00
import Derived.Test.YtndkmfflpphoiaaRows
import Derived.Deep.Matrix
import Derived.Deep.MidRow
set_option linter.unusedVariables false
set_option linter.unusedSimpArgs false
namespace Go.Proofs.Ytndkmfflpphoiaa.Sha
open Go Go.RowKit Kit
/-- The elements of a slice of slices of bytes. -/
structure Pc where
  A : Option Addr
  n : Nat
  c : Nat
  l : List UInt8
def Pc.v (p : Pc) : Value := .slice p.A p.n p.c
/-- Each reads its bytes, and has no block of F. -/
def PcsOk (w : World) (F : Nat → Prop) (ps : List Pc) : Prop := ∀ p ∈ ps, p.l.length = p.n ∧ Row w p.A (bvs p.l) ∧ (p.l = [] ∨ ∀ k, ab p.A = some k → ¬ F k) ∧ p.n ≤ p.c ∧ p.c ≤ maxLen
theorem PcsOk.keep {F G : Nat → Prop} {w w' : World} {ps : List Pc} (h : PcsOk w F ps) (hk : Kp G w w') (hG : ∀ k, G k → F k) : PcsOk w' F ps := fun p hp => by
  obtain ⟨h1, h2, h3, h4, h5⟩ := h p hp
  refine ⟨h1, ?_, h3, h4, h5⟩
  rcases h3 with h3 | h3
  · rw [h3]; exact Row.nil _ _
  · exact h2.keep hk (fun k e e' => h3 k e (hG k e'))
theorem PcsOk.mono {F G : Nat → Prop} {w : World} {ps : List Pc} (h : PcsOk w F ps) (hG : ∀ k, G k → F k) : PcsOk w G ps := fun p hp => by
  obtain ⟨h1, h2, h3, h4, h5⟩ := h p hp
  exact ⟨h1, h2, h3.imp_right (fun h k e e' => h k e (hG k e')), h4, h5⟩
/-- What reads nothing new has no new block. -/
theorem PcsOk.old {w : World} {ps : List Pc} (h : PcsOk w nob ps) (F : Nat → Prop) (hF : ∀ k, F k → w.heap.size ≤ k) : PcsOk w F ps := fun p hp => by
  obtain ⟨h1, h2, h3, h4, h5⟩ := h p hp
  refine ⟨h1, h2, ?_, h4, h5⟩
  by_cases hl : p.l = []
  · exact .inl hl
  · exact .inr (fun k e e' => by have := h2.lt (by simpa [bvs] using hl) k e; have := hF k e'; omega)
theorem PcsOk.keep0 {w w' : World} {ps : List Pc} (h : PcsOk w nob ps) (hk : Kp nob w w') : PcsOk w' nob ps := h.keep hk (fun _ e => e)
def catP (ps : List Pc) : List UInt8 := ps.flatMap (·.l)
theorem catP_snoc (ps : List Pc) (k : Nat) (h : k < ps.length) : catP (ps.take (k + 1)) = catP (ps.take k) ++ ps[k].l := by
  unfold catP
  rw [List.take_add_one, List.getElem?_eq_getElem h, List.flatMap_append]; simp only [Option.toList_some, List.flatMap_cons, List.flatMap_nil, List.append_nil]
theorem catP_le (ps : List Pc) (k : Nat) : (catP (ps.take k)).length ≤ (catP ps).length := by
  unfold catP
  conv => rhs; rw [← List.take_append_drop k ps, List.flatMap_append, List.length_append]
  omega
theorem row_marked (w : World) (xs : List Value) (t : TypeId) (fr : Nat × Nat) : Row (w.alloc (.cells xs.toArray t fr)) (some ⟨w.heap.size, 0, none⟩) xs := by
  refine .inr ⟨w.heap.size, 0, rfl, by simp, fun i u hu => ?_⟩
  have h : (w.alloc (.cells xs.toArray t fr)).heap[w.heap.size]? = some (.cells xs.toArray t fr) := heap_alloc_new w _
  simp only [World.cell?, h, Nat.zero_add]
  simpa using hu
theorem pcs_one {w : World} {F : Nat → Prop} {p : Pc} (h1 : p.l.length = p.n) (h2 : Row w p.A (bvs p.l)) (h3 : p.l = [] ∨ ∀ k, ab p.A = some k → ¬ F k) (h4 : p.n ≤ p.c) (h5 : p.c ≤ maxLen) : PcsOk w F [p] := by
  intro q hq
  obtain rfl := List.mem_singleton.1 hq
  exact ⟨h1, h2, h3, h4, h5⟩
theorem pcs_nil (w : World) (F : Nat → Prop) : PcsOk w F [] := fun p hp => by cases hp
theorem pcs_more {w : World} {F : Nat → Prop} {p : Pc} {ps : List Pc} (h : PcsOk w F [p]) (hs : PcsOk w F ps) : PcsOk w F (p :: ps) := by
  intro q hq
  rcases List.mem_cons.1 hq with rfl | hq
  · exact h q (by simp)
  · exact hs q hq
theorem catP_nil : catP [] = [] := rfl
theorem catP_one (p : Pc) : catP [p] = p.l := by simp [catP]
theorem catP_two (p q : Pc) : catP [p, q] = p.l ++ q.l := by simp [catP]
/-- The argument of pieces, opened. -/
theorem pcs_of {H : Type} {enc : TypeId × Value → H} {W : World} {base : Nat} {held : Bool} {fuel : Nat} {A : Option Addr} {len cap : Nat} {x : DataW H × List MemPlace}
    (h : DataW.trod enc Try.prog W base (fun _ => true) held fuel 64 [.slice A len cap] = some x) :
    ∃ ps : List Pc, ps.length = len ∧ Row W A (ps.map Pc.v) ∧ len ≤ maxLen ∧ PcsOk W nob ps ∧ (∀ p ∈ ps, p.A = none → p.c = 0) ∧ ∀ p ∈ ps, p.n = 0 ∨ ∃ n ∈ x.1.weights Try.prog 64, p.n ≤ n := by
  rcases Go.Deep.open_int_rows (k := .u8) Try.underlying64 Try.underlying36 Try.underlying5 (by kernel_rfl) (by kernel_rfl) h with ⟨hcs, _⟩ | ⟨a, l, c, B, L, C, Z, hcs, _, hl, hm, hx, hi⟩
  · simp only [List.cons.injEq, Value.slice.injEq, and_true] at hcs
    obtain ⟨rfl, rfl, rfl⟩ := hcs
    exact ⟨[], rfl, Row.nil _ _, by simp [maxLen], fun p hp => by simp at hp, by simp, by simp⟩
  · simp only [List.cons.injEq, Value.slice.injEq, and_true] at hcs
    obtain ⟨rfl, rfl, rfl⟩ := hcs
    have each : ∀ r, r < len → ∃ p : Pc, p.v = .slice (B r) (L r) (C r) ∧ p.A = B r ∧ p.n = L r ∧ p.c = C r ∧ p.l.length = p.n ∧ Row W p.A (bvs p.l) := by
      intro r hr
      obtain ⟨_, h1, h2, h3, h4, h5, h6⟩ := hi r (by omega)
      cases hB : B r with
      | none =>
        have := h5 hB
        have hL : L r = 0 := by omega
        exact ⟨⟨none, L r, C r, []⟩, rfl, rfl, rfl, rfl, hL.symm, Row.nil _ _⟩
      | some a' =>
        obtain ⟨lb, g1, g2⟩ := row_of_ints (W := W) (x := a') h1 h3 (fun i hi' => (h6 a' hB).2 i (by omega)) h4
        exact ⟨⟨some a', L r, C r, lb⟩, rfl, rfl, rfl, rfl, g1, g2⟩
    have : Inhabited Pc := ⟨⟨none, 0, 0, []⟩⟩
    obtain ⟨y, hy⟩ := Go.Deep.choose_lt each
    have mem : ∀ p ∈ (List.range len).map y, ∃ r, r < len ∧ p = y r := fun p hp => by
      obtain ⟨r, hr, rfl⟩ := List.mem_map.1 hp
      exact ⟨r, List.mem_range.1 hr, rfl⟩
    refine ⟨(List.range len).map y, by simp, ?_, Nat.le_trans hl hm, ?_, ?_, ?_⟩
    · by_cases h0 : len = 0
      · subst h0; exact Row.nil _ _
      · obtain ⟨hc0, _⟩ := hi 0 (by omega)
        obtain ⟨b, o, sp⟩ := a
        cases sp with
        | some j => simp [Addr.add, World.cell?] at hc0; split at hc0 <;> simp at hc0
        | none =>
          refine .inr ⟨b, o, rfl, World.block_lt_of_cell? W _ hc0, fun i u hu => ?_⟩
          simp only [List.map_map, List.getElem?_map] at hu
          have hil : i < len := by
            rcases Nat.lt_or_ge i len with h | h
            · exact h
            · rw [List.getElem?_eq_none (by simpa using h)] at hu; cases hu
          rw [List.getElem?_eq_getElem (by simpa using hil)] at hu
          simp at hu
          obtain ⟨hci, _⟩ := hi i (by omega)
          rw [Addr.add_mid] at hci
          rw [hci, ← hu, (hy i hil).1]
    · intro p hp
      obtain ⟨r, hr, rfl⟩ := mem p hp
      obtain ⟨_, h1, h2, _⟩ := hi r (by omega)
      obtain ⟨_, _, e2, e3, e4, e5⟩ := hy r hr
      exact ⟨e4, e5, .inr (fun _ _ e => e), by rw [e2, e3]; exact h1, by rw [e3]; exact h2⟩
    · intro p hp e
      obtain ⟨r, hr, rfl⟩ := mem p hp
      obtain ⟨_, _, _, _, _, h5, _⟩ := hi r (by omega)
      obtain ⟨_, e1, e2, e3, _⟩ := hy r hr
      rw [e3]; exact h5 (by rw [← e1]; exact e)
    · intro p hp
      obtain ⟨r, hr, rfl⟩ := mem p hp
      obtain ⟨_, h1, h2, h3, h4, h5, h6⟩ := hi r (by omega)
      obtain ⟨_, e1, e2, e3, _⟩ := hy r hr
      cases hB : B r with
      | none => left; rw [e2]; have := h5 hB; omega
      | some a' =>
        right
        refine ⟨C r, ?_, by rw [e2]; exact h1⟩
        rw [hx]
        refine weights_slice Try.underlying64 (d := Go.Deep.intRow .u8 (B r) (L r) (Z r)) (List.mem_map.2 ⟨r, List.mem_range.2 hr, rfl⟩) _ ?_
        have hb : Try.prog.bytesOf 5 = 1 := by kernel_rfl
        rw [hB]
        simp only [Go.Deep.intRow, DataW.weights, Try.underlying36, hb]
        refine List.mem_cons.2 (.inl ?_)
        simp [ChangeShapes.lits]
        omega
end Go.Proofs.Ytndkmfflpphoiaa.Sha
