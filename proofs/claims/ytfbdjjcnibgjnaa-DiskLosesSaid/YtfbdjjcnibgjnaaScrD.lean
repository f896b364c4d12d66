/- Arguments of layer 11, opened: scripts whose calls bear bytes; lists of bools. -/
import Derived.Test.YtfbdjjcnibgjnaaScr
import Derived.Test.YtfbdjjcnibgjnaaDskM
import Derived.Deep.Matrix
namespace Go.Proofs.Ytfbdjjcnibgjnaa.Disk
set_option linter.unusedVariables false
set_option linter.unusedSimpArgs false
open Go Go.RowKit Kit

section
variable {H : Type} {enc : TypeId × Value → H} {P : Program} {W : World} {base : Nat} {held : Bool} {fuel : Nat}
theorem cell_bytes {m : Nat} {t e : TypeId} {v : Value} {y : DataW H × List MemPlace} (ht : P.underlying t = some (.slice e)) (he : P.underlying e = some (.int .u8)) (hc : P.cellsOf e = 1) (hb : P.bytesOf e = 1) (h : DataW.trod enc P W base (fun _ => true) held m t [v] = some y) {B : Nat} (hB : ∀ n ∈ y.1.weights P t, n ≤ B) :
    ∃ A n c l, v = .slice A n c ∧ l.length = n ∧ Row W A (bvs l) ∧ n ≤ B := by
  rcases ChangeShapes.open_ints ht he hc h with ⟨hcs, _⟩ | ⟨a, len, cap, zs, hcs, _, hl, hm, hz, hy, hcell, hwz⟩
  · exact ⟨none, 0, 0, [], by simpa using hcs, rfl, Row.nil _ _, Nat.zero_le _⟩
  · obtain ⟨l, h1, h2⟩ := row_of_ints hl (by simpa using hz) hcell hwz
    refine ⟨some a, len, cap, l, by simpa using hcs, h1, h2, ?_⟩
    have hzl : zs.length = cap := by simpa using hz
    refine Nat.le_trans hl (hB cap ?_)
    rw [hy]
    simp only [DataW.weights, ht, hb]
    refine List.mem_cons.2 (.inl ?_)
    simp [ChangeShapes.lits]
    omega
theorem cell_bool {m : Nat} {t : TypeId} {v : Value} {y : DataW H × List MemPlace} (ht : P.underlying t = some .bool) (h : DataW.trod enc P W base (fun _ => true) held m t [v] = some y) : ∃ b, v = .bool b := by
  obtain ⟨b, h1, _⟩ := DataW.trod_bool ht h
  exact ⟨b, by simpa using h1⟩
instance : Inhabited Cc := ⟨⟨0, 0, none, 0, 0, [], 0⟩⟩
/-- A SCRIPT OF CALLS, opened. -/
theorem open_dcalls {t e u8 : TypeId} {fs : Array Field} {A : Option Addr} {len cap : Nat} {x : DataW H × List MemPlace} (ht : P.underlying t = some (.slice e)) (he : P.underlying e = some (.struct fs))
    (hone : ∀ (i : Nat) (f : Field), fs[i]? = some f → f.offset = i ∧ P.cellsOf f.type = 1) (hC : P.cellsOf e = fs.size) (f0 f1 f2 f3 : Field) (hf : fs = #[f0, f1, f2, f3])
    (h0 : P.underlying f0.type = some (.int .i64)) (h1 : P.underlying f1.type = some (.int .i64)) (h2 : P.underlying f2.type = some (.slice u8)) (h3 : P.underlying f3.type = some (.int .u64)) (hu : P.underlying u8 = some (.int .u8)) (hu1 : P.cellsOf u8 = 1) (hu2 : P.bytesOf u8 = 1)
    (h : DataW.trod enc P W base (fun _ => true) held fuel t [.slice A len cap] = some x) (hB : ∀ n ∈ x.1.weights P t, n ≤ 140737488355328) :
    ∃ cs : List Cc, cs.length = len ∧ Row W A (cs.flatMap Cc.cells) ∧ len ≤ cap ∧ cap ≤ maxLen ∧ (A = none → cap = 0) ∧ ∀ c ∈ cs, CcOk W c ∧ c.i ≤ 9223372036854775807 := by
  have hsz : fs.size = 4 := by rw [hf]; rfl
  obtain ⟨V, hr, hl, hc, hn, hV⟩ := open_recs ht he hone hC (by omega) h
  have each : ∀ i, i < len → ∃ c : Cc, (List.range 4).map (V i) = c.cells ∧ (CcOk W c ∧ c.i ≤ 9223372036854775807) := by
    intro i hi
    have g := hV i hi
    rw [hf] at g
    obtain ⟨_, _, g0, b0⟩ := g 0 f0 rfl; obtain ⟨_, _, g1, b1⟩ := g 1 f1 rfl; obtain ⟨_, _, g2, b2⟩ := g 2 f2 rfl; obtain ⟨_, _, g3, b3⟩ := g 3 f3 rfl
    obtain ⟨k, e0, w0⟩ := cell_int h0 g0; obtain ⟨q, e1, w1⟩ := cell_int h1 g1
    obtain ⟨B, n, c, l, e2, l1, l2, l3⟩ := cell_bytes h2 hu hu1 hu2 g2 (fun n hn => hB _ (b2 n hn))
    obtain ⟨K, e3, w3⟩ := cell_int h3 g3
    have hK : 0 ≤ K ∧ K < 18446744073709551616 := by
      simp [Lit.wf, IntKind.min, IntKind.max, IntKind.signed, IntKind.bits] at w3
      omega
    have hq : q ≤ 9223372036854775807 := by
      simp [Lit.wf, IntKind.min, IntKind.max, IntKind.signed, IntKind.bits] at w1
      omega
    refine ⟨⟨k, q, B, n, c, l, K.toNat⟩, ?_, ⟨l1, l2, by show K.toNat < _; omega, l3⟩, hq⟩
    show [V i 0, V i 1, V i 2, V i 3] = [_, _, _, .int .u64 ((K.toNat : Nat) : Int)]
    rw [e0, e1, e2, e3, show ((K.toNat : Nat) : Int) = K by omega]
  obtain ⟨C, hC2⟩ := Deep.choose_lt each
  refine ⟨(List.range len).map C, by simp, ?_, hl, hc, hn, fun c hcm => ?_⟩
  · rw [hsz] at hr
    have e : ((List.range len).flatMap fun i => (List.range 4).map (V i)) = ((List.range len).map C).flatMap Cc.cells := by
      rw [List.flatMap_map]
      exact Deep.flatMap_congr_range fun i hi => (hC2 i hi).1
    rwa [e] at hr
  · obtain ⟨i, hi, rfl⟩ := List.mem_map.1 hcm
    exact (hC2 i (List.mem_range.1 hi)).2
/-- A slice of bools, opened. -/
theorem open_bools {t e : TypeId} {A : Option Addr} {len cap : Nat} {x : DataW H × List MemPlace} (ht : P.underlying t = some (.slice e)) (he : P.underlying e = some .bool) (hC : P.cellsOf e = 1) (h : DataW.trod enc P W base (fun _ => true) held fuel t [.slice A len cap] = some x) :
    ∃ bs : List Bool, bs.length = len ∧ Row W A (bs.map Value.bool) ∧ len ≤ cap ∧ cap ≤ maxLen ∧ (A = none → cap = 0) ∧ True := by
  rcases Deep.open_slice ht h with ⟨hcs, _⟩ | ⟨a, l, c, m, n, D, Pl, hcs, hb, hl, hc, hm, hx, hi⟩
  · simp only [List.cons.injEq, Value.slice.injEq, and_true] at hcs
    obtain ⟨rfl, rfl, rfl⟩ := hcs
    exact ⟨[], rfl, Row.nil _ _, Nat.le_refl _, by simp [maxLen], (fun _ => rfl), trivial⟩
  · simp only [List.cons.injEq, Value.slice.injEq, and_true] at hcs
    obtain ⟨rfl, rfl, rfl⟩ := hcs
    simp only [if_true] at hm
    subst hm
    have each : ∀ i, i < len → ∃ q : Bool, W.cell? (a.add (i * 1 + 0)) = some (.bool q) := by
      intro i hlt
      obtain ⟨cs', hcells, htr⟩ := hi i (by omega)
      obtain ⟨_, hlen, hcell⟩ := World.cells?_some hcells
      rw [hC] at hlen hcell
      obtain ⟨q, rfl, _⟩ := DataW.trod_bool he htr
      have := hcell 0 (by omega)
      rw [Deep.add_add] at this
      exact ⟨q, by rw [this]; rfl⟩
    obtain ⟨V, hV⟩ := Deep.choose_lt each
    refine ⟨(List.range len).map V, by simp, ?_, hl, hc, (fun e => by cases e), trivial⟩
    have := row_of_cells (W := W) (A := a) (len := len) (k := 1) (V := fun i _ => .bool (V i)) (by decide) (fun i hlt j hj => by
      obtain rfl : j = 0 := by omega
      exact hV i hlt)
    rw [flat_one] at this
    rw [List.map_map]
    exact this
end
end Go.Proofs.Ytfbdjjcnibgjnaa.Disk
