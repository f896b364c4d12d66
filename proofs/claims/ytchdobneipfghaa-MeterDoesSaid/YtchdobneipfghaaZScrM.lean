/- Arguments of layer 12, opened: scripts of calls that bear digests; digests. -/
import Derived.Test.YtchdobneipfghaaZScrE
import Derived.Test.YtchdobneipfghaaZG00
namespace Go.Proofs.Ytchdobneipfghaa.Meter
set_option linter.unusedVariables false
set_option linter.unusedSimpArgs false
open Go Go.RowKit Kit

/-- A script's call. -/
structure Mc where
  kind : Int
  ep : Int
  r : List UInt8
  K : Nat
def Mc.cells (x : Mc) : List Value := .int .i64 x.kind :: .int .i64 x.ep :: (bvs x.r ++ [.int .u64 (x.K : Int)])
/-- What stands of a script's calls. -/
structure McOk (x : Mc) : Prop where
  r : x.r.length = 32
  K : x.K < 18446744073709551616
  ep : x.ep ≤ 9223372036854775807
theorem Mc.len (x : Mc) (h : x.r.length = 32) : x.cells.length = 35 := by simp [Mc.cells, h]
theorem Mc.one (x : Mc) : ∀ u ∈ x.cells, u.oneCell' = true := by
  intro u hu
  simp only [Mc.cells, List.mem_cons, List.mem_append, List.not_mem_nil, or_false] at hu
  rcases hu with rfl | rfl | hu | rfl
  · rfl
  · rfl
  · exact bvs_one _ u hu
  · rfl
instance : Inhabited Mc := ⟨⟨0, 0, [], 0⟩⟩
section
variable {H : Type} {enc : TypeId × Value → H} {P : Program} {W : World} {base : Nat} {held : Bool} {fuel : Nat}
theorem open_mcalls {t e u8 : TypeId} {A : Option Addr} {len cap : Nat} {x : DataW H × List MemPlace} {fs : Array Field} (ht : P.underlying t = some (.slice e)) (he : P.underlying e = some (.struct fs)) (hC : P.cellsOf e = 35) (f0 f1 f2 f3 : Field) (hf : fs = #[f0, f1, f2, f3])
    (o0 : f0.offset = 0) (o1 : f1.offset = 1) (o2 : f2.offset = 2) (o3 : f3.offset = 34) (c0 : P.cellsOf f0.type = 1) (c1 : P.cellsOf f1.type = 1) (c2 : P.cellsOf f2.type = 32) (c3 : P.cellsOf f3.type = 1)
    (h0 : P.underlying f0.type = some (.int .i64)) (h1 : P.underlying f1.type = some (.int .i64)) (h2 : P.underlying f2.type = some (.array 32 u8)) (h3 : P.underlying f3.type = some (.int .u64)) (hu : P.underlying u8 = some (.int .u8)) (hu1 : P.cellsOf u8 = 1)
    (h : DataW.trod enc P W base (fun _ => true) held fuel t [.slice A len cap] = some x) :
    ∃ cs : List Mc, cs.length = len ∧ Row W A (cs.flatMap Mc.cells) ∧ len ≤ cap ∧ cap ≤ maxLen ∧ (A = none → cap = 0) ∧ ∀ c ∈ cs, McOk c := by
  obtain ⟨as, h1, h2, h3, h4, h5, h6⟩ := open_each (α := Mc) Mc.cells 35 (by decide) McOk ht hC (fun m cs y hl hy _ => by
    obtain ⟨xs, m', _, _, _, hxl, hi⟩ := DataW.trod_struct he hy
    rw [hf] at hi hxl
    have hx4 : xs.length = 4 := hxl
    have g0 := hi 0 f0 rfl; have g1 := hi 1 f1 rfl; have g2 := hi 2 f2 rfl; have g3 := hi 3 f3 rfl
    rw [List.getElem?_eq_getElem (by omega)] at g0 g1 g2 g3
    rw [o0, c0] at g0; rw [o1, c1] at g1; rw [o2, c2] at g2; rw [o3, c3] at g3
    have d0 : (cs.drop 0).take 1 = [cs[0]] := by rw [List.drop_eq_getElem_cons (by omega)]; rfl
    have d1 : (cs.drop 1).take 1 = [cs[1]] := by rw [List.drop_eq_getElem_cons (by omega)]; rfl
    have d3 : (cs.drop 34).take 1 = [cs[34]] := by rw [List.drop_eq_getElem_cons (by omega)]; rfl
    rw [d0] at g0; rw [d1] at g1; rw [d3] at g3
    obtain ⟨k, e0, w0⟩ := cell_int h0 g0; obtain ⟨q, e1, w1⟩ := cell_int h1 g1
    obtain ⟨l, e2, l2⟩ := cells_barr h2 hu hu1 c2 g2
    obtain ⟨K, e3, w3⟩ := cell_int h3 g3
    have hK : 0 ≤ K ∧ K < 18446744073709551616 := by
      simp [Lit.wf, IntKind.min, IntKind.max, IntKind.signed, IntKind.bits] at w3
      omega
    have hq : q ≤ 9223372036854775807 := by
      simp [Lit.wf, IntKind.min, IntKind.max, IntKind.signed, IntKind.bits] at w1
      omega
    refine ⟨⟨k, q, l, K.toNat⟩, ?_, ⟨l2, by show K.toNat < _; omega, hq⟩⟩
    have hs : cs = cs[0] :: cs[1] :: ((cs.drop 2).take 32 ++ [cs[34]]) := by
      have a1 : cs.drop 34 = [cs[34]] := by rw [List.drop_eq_getElem_cons (by omega), List.drop_of_length_le (by omega)]
      have a2 : cs.drop 2 = (cs.drop 2).take 32 ++ [cs[34]] := by
        conv => lhs; rw [← List.take_append_drop 32 (cs.drop 2), List.drop_drop]
        rw [show (2 + 32 : Nat) = 34 from rfl, a1]
      rw [← a2, ← List.drop_eq_getElem_cons, ← List.drop_eq_getElem_cons, List.drop_zero]
    refine hs.trans ?_
    rw [e2, e0, e1, e3, Mc.cells, show ((K.toNat : Nat) : Int) = K by omega]) h
  exact ⟨as, h1, h2, h3, h4, h5, fun c hc => (h6 c hc).2⟩
theorem open_rows32 {t e u8 : TypeId} {A : Option Addr} {len cap : Nat} {x : DataW H × List MemPlace} (ht : P.underlying t = some (.slice e)) (he : P.underlying e = some (.array 32 u8)) (hC : P.cellsOf e = 32) (hu : P.underlying u8 = some (.int .u8)) (hu1 : P.cellsOf u8 = 1)
    (h : DataW.trod enc P W base (fun _ => true) held fuel t [.slice A len cap] = some x) :
    ∃ rs : List (List UInt8), rs.length = len ∧ Row W A (rs.flatMap bvs) ∧ len ≤ cap ∧ cap ≤ maxLen ∧ (A = none → cap = 0) ∧ ∀ r ∈ rs, r.length = 32 := by
  obtain ⟨as, h1, h2, h3, h4, h5, h6⟩ := open_each (α := List UInt8) bvs 32 (by decide) (fun l => l.length = 32) ht hC (fun m cs y hl hy _ => cells_barr he hu hu1 hC hy) h
  exact ⟨as, h1, h2, h3, h4, h5, fun c hc => (h6 c hc).2⟩
end
end Go.Proofs.Ytchdobneipfghaa.Meter
