/- Slices of slices of bytes: pieces, and what they are in one. No program is named here. -/
import Derived.Test.YtfbdjjcnibgjnaaKit
namespace Go.Proofs.Ytfbdjjcnibgjnaa.Sha
set_option linter.unusedVariables false
set_option linter.unusedSimpArgs false
open Go Go.RowKit Kit

/-- The elements of a slice of slices of bytes. -/
structure Pc where
  A : Option Addr
  n : Nat
  c : Nat
  l : List UInt8
def Pc.v (p : Pc) : Value := .slice p.A p.n p.c
/-- Each reads its bytes, and has no block of F. -/
def PcsOk (w : World) (F : Nat → Prop) (ps : List Pc) : Prop := ∀ p ∈ ps, p.l.length = p.n ∧ Row w p.A (bvs p.l) ∧ (p.l = [] ∨ ∀ k, ab p.A = some k → ¬ F k) ∧ p.n ≤ p.c ∧ p.c ≤ maxLen
theorem PcsOk.keep {F G : Nat → Prop} {w w' : World} {ps : List Pc} (h : PcsOk w F ps) (hk : Kp G w w') (hG : ∀ k, G k → F k) : PcsOk w' F ps := fun p hp => by
  obtain ⟨h1, h2, h3, h4, h5⟩ := h p hp
  refine ⟨h1, ?_, h3, h4, h5⟩
  rcases h3 with h3 | h3
  · rw [h3]; exact Row.nil _ _
  · exact h2.keep hk (fun k e e' => h3 k e (hG k e'))
theorem PcsOk.mono {F G : Nat → Prop} {w : World} {ps : List Pc} (h : PcsOk w F ps) (hG : ∀ k, G k → F k) : PcsOk w G ps := fun p hp => by
  obtain ⟨h1, h2, h3, h4, h5⟩ := h p hp
  exact ⟨h1, h2, h3.imp_right (fun h k e e' => h k e (hG k e')), h4, h5⟩
/-- What reads nothing new has no new block. -/
theorem PcsOk.old {w : World} {ps : List Pc} (h : PcsOk w nob ps) (F : Nat → Prop) (hF : ∀ k, F k → w.heap.size ≤ k) : PcsOk w F ps := fun p hp => by
  obtain ⟨h1, h2, h3, h4, h5⟩ := h p hp
  refine ⟨h1, h2, ?_, h4, h5⟩
  by_cases hl : p.l = []
  · exact .inl hl
  · exact .inr (fun k e e' => by have := h2.lt (by simpa [bvs] using hl) k e; have := hF k e'; omega)
theorem PcsOk.keep0 {w w' : World} {ps : List Pc} (h : PcsOk w nob ps) (hk : Kp nob w w') : PcsOk w' nob ps := h.keep hk (fun _ e => e)
def catP (ps : List Pc) : List UInt8 := ps.flatMap (·.l)
theorem catP_snoc (ps : List Pc) (k : Nat) (h : k < ps.length) : catP (ps.take (k + 1)) = catP (ps.take k) ++ ps[k].l := by
  unfold catP
  rw [List.take_add_one, List.getElem?_eq_getElem h, List.flatMap_append]; simp only [Option.toList_some, List.flatMap_cons, List.flatMap_nil, List.append_nil]
theorem catP_le (ps : List Pc) (k : Nat) : (catP (ps.take k)).length ≤ (catP ps).length := by
  unfold catP
  conv => rhs; rw [← List.take_append_drop k ps, List.flatMap_append, List.length_append]
  omega

theorem row_marked (w : World) (xs : List Value) (t : TypeId) (fr : Nat × Nat) : Row (w.alloc (.cells xs.toArray t fr)) (some ⟨w.heap.size, 0, none⟩) xs := by
  refine .inr ⟨w.heap.size, 0, rfl, by simp, fun i u hu => ?_⟩
  have h : (w.alloc (.cells xs.toArray t fr)).heap[w.heap.size]? = some (.cells xs.toArray t fr) := heap_alloc_new w _
  simp only [World.cell?, h, Nat.zero_add]
  simpa using hu
theorem pcs_one {w : World} {F : Nat → Prop} {p : Pc} (h1 : p.l.length = p.n) (h2 : Row w p.A (bvs p.l)) (h3 : p.l = [] ∨ ∀ k, ab p.A = some k → ¬ F k) (h4 : p.n ≤ p.c) (h5 : p.c ≤ maxLen) : PcsOk w F [p] := by
  intro q hq
  obtain rfl := List.mem_singleton.1 hq
  exact ⟨h1, h2, h3, h4, h5⟩
theorem pcs_nil (w : World) (F : Nat → Prop) : PcsOk w F [] := fun p hp => by cases hp
theorem pcs_more {w : World} {F : Nat → Prop} {p : Pc} {ps : List Pc} (h : PcsOk w F [p]) (hs : PcsOk w F ps) : PcsOk w F (p :: ps) := by
  intro q hq
  rcases List.mem_cons.1 hq with rfl | hq
  · exact h q (by simp)
  · exact hs q hq
theorem catP_nil : catP [] = [] := rfl
theorem catP_one (p : Pc) : catP [p] = p.l := by simp [catP]
theorem catP_two (p q : Pc) : catP [p, q] = p.l ++ q.l := by simp [catP]
end Go.Proofs.Ytfbdjjcnibgjnaa.Sha
