/- Slices of slices of bytes, opened. -/
import Derived.Test.YtfbdjjcnibgjnaaPcs
import Derived.Test.YtfbdjjcnibgjnaaRows
import Derived.Deep.Matrix
import Derived.Deep.MidRow
namespace Go.Proofs.Ytfbdjjcnibgjnaa.Sha
set_option linter.unusedVariables false
set_option linter.unusedSimpArgs false
open Go Go.RowKit Kit

/-- The argument of pieces, opened. -/
theorem pcs_of {H : Type} {enc : TypeId × Value → H} {W : World} {base : Nat} {held : Bool} {fuel : Nat} {A : Option Addr} {len cap : Nat} {x : DataW H × List MemPlace}
    (h : DataW.trod enc Try.prog W base (fun _ => true) held fuel 23 [.slice A len cap] = some x) :
    ∃ ps : List Pc, ps.length = len ∧ Row W A (ps.map Pc.v) ∧ len ≤ maxLen ∧ PcsOk W nob ps ∧ (∀ p ∈ ps, p.A = none → p.c = 0) ∧ ∀ p ∈ ps, p.n = 0 ∨ ∃ n ∈ x.1.weights Try.prog 23, p.n ≤ n := by
  rcases Go.Deep.open_int_rows (k := .u8) Try.underlying23 Try.underlying32 Try.underlying5 (by kernel_rfl) (by kernel_rfl) h with ⟨hcs, _⟩ | ⟨a, l, c, B, L, C, Z, hcs, _, hl, hm, hx, hi⟩
  · simp only [List.cons.injEq, Value.slice.injEq, and_true] at hcs
    obtain ⟨rfl, rfl, rfl⟩ := hcs
    exact ⟨[], rfl, Row.nil _ _, by simp [maxLen], fun p hp => by simp at hp, by simp, by simp⟩
  · simp only [List.cons.injEq, Value.slice.injEq, and_true] at hcs
    obtain ⟨rfl, rfl, rfl⟩ := hcs
    have each : ∀ r, r < len → ∃ p : Pc, p.v = .slice (B r) (L r) (C r) ∧ p.A = B r ∧ p.n = L r ∧ p.c = C r ∧ p.l.length = p.n ∧ Row W p.A (bvs p.l) := by
      intro r hr
      obtain ⟨_, h1, h2, h3, h4, h5, h6⟩ := hi r (by omega)
      cases hB : B r with
      | none =>
        have := h5 hB
        have hL : L r = 0 := by omega
        exact ⟨⟨none, L r, C r, []⟩, rfl, rfl, rfl, rfl, hL.symm, Row.nil _ _⟩
      | some a' =>
        obtain ⟨lb, g1, g2⟩ := row_of_ints (W := W) (x := a') h1 h3 (fun i hi' => (h6 a' hB).2 i (by omega)) h4
        exact ⟨⟨some a', L r, C r, lb⟩, rfl, rfl, rfl, rfl, g1, g2⟩
    have : Inhabited Pc := ⟨⟨none, 0, 0, []⟩⟩
    obtain ⟨y, hy⟩ := Go.Deep.choose_lt each
    have mem : ∀ p ∈ (List.range len).map y, ∃ r, r < len ∧ p = y r := fun p hp => by
      obtain ⟨r, hr, rfl⟩ := List.mem_map.1 hp
      exact ⟨r, List.mem_range.1 hr, rfl⟩
    refine ⟨(List.range len).map y, by simp, ?_, Nat.le_trans hl hm, ?_, ?_, ?_⟩
    · by_cases h0 : len = 0
      · subst h0; exact Row.nil _ _
      · obtain ⟨hc0, _⟩ := hi 0 (by omega)
        obtain ⟨b, o, sp⟩ := a
        cases sp with
        | some j => simp [Addr.add, World.cell?] at hc0; split at hc0 <;> simp at hc0
        | none =>
          refine .inr ⟨b, o, rfl, World.block_lt_of_cell? W _ hc0, fun i u hu => ?_⟩
          simp only [List.map_map, List.getElem?_map] at hu
          have hil : i < len := by
            rcases Nat.lt_or_ge i len with h | h
            · exact h
            · rw [List.getElem?_eq_none (by simpa using h)] at hu; cases hu
          rw [List.getElem?_eq_getElem (by simpa using hil)] at hu
          simp at hu
          obtain ⟨hci, _⟩ := hi i (by omega)
          rw [Addr.add_mid] at hci
          rw [hci, ← hu, (hy i hil).1]
    · intro p hp
      obtain ⟨r, hr, rfl⟩ := mem p hp
      obtain ⟨_, h1, h2, _⟩ := hi r (by omega)
      obtain ⟨_, _, e2, e3, e4, e5⟩ := hy r hr
      exact ⟨e4, e5, .inr (fun _ _ e => e), by rw [e2, e3]; exact h1, by rw [e3]; exact h2⟩
    · intro p hp e
      obtain ⟨r, hr, rfl⟩ := mem p hp
      obtain ⟨_, _, _, _, _, h5, _⟩ := hi r (by omega)
      obtain ⟨_, e1, e2, e3, _⟩ := hy r hr
      rw [e3]; exact h5 (by rw [← e1]; exact e)
    · intro p hp
      obtain ⟨r, hr, rfl⟩ := mem p hp
      obtain ⟨_, h1, h2, h3, h4, h5, h6⟩ := hi r (by omega)
      obtain ⟨_, e1, e2, e3, _⟩ := hy r hr
      cases hB : B r with
      | none => left; rw [e2]; have := h5 hB; omega
      | some a' =>
        right
        refine ⟨C r, ?_, by rw [e2]; exact h1⟩
        rw [hx]
        refine weights_slice Try.underlying23 (d := Go.Deep.intRow .u8 (B r) (L r) (Z r)) (List.mem_map.2 ⟨r, List.mem_range.2 hr, rfl⟩) _ ?_
        have hb : Try.prog.bytesOf 5 = 1 := by kernel_rfl
        rw [hB]
        simp only [Go.Deep.intRow, DataW.weights, Try.underlying32, hb]
        refine List.mem_cons.2 (.inl ?_)
        simp [ChangeShapes.lits]
        omega
end Go.Proofs.Ytfbdjjcnibgjnaa.Sha
