/- Arguments that are records, and slices of records, opened. -/
import Derived.Test.YtadhhnlolnnkhaaScr
import Derived.Test.YtadhhnlolnnkhaaRecD
namespace Go.Proofs.Ytadhhnlolnnkhaa.Rec
set_option linter.unusedVariables false
set_option linter.unusedSimpArgs false
open Go Go.RowKit Kit

def Rec.ok (r : Rec) : Prop := (Lit.int .i64 r.kind).wf = true ∧ (Lit.int .i64 r.queue).wf = true ∧ (Lit.int .i64 r.id).wf = true ∧ (Lit.int .i64 r.num).wf = true ∧ (Lit.int .i64 r.wait).wf = true ∧ r.body.length ≤ 140737488355328
instance : Inhabited Rec := ⟨⟨0, 0, 0, 0, 0, []⟩⟩
/-- A SLICE OF RECORDS, opened. -/
theorem open_records {H : Type} {enc : TypeId × Value → H} {P : Program} {W : World} {base : Nat} {held : Bool} {fuel : Nat} {t e : TypeId} {fs : Array Field} {A : Option Addr} {len cap : Nat} {x : DataW H × List MemPlace} (ht : P.underlying t = some (.slice e)) (he : P.underlying e = some (.struct fs))
    (hone : ∀ (i : Nat) (f : Field), fs[i]? = some f → f.offset = i ∧ P.cellsOf f.type = 1) (hC : P.cellsOf e = fs.size) (f0 f1 f2 f3 f4 f5 : Field) (hf : fs = #[f0, f1, f2, f3, f4, f5])
    (h0 : P.underlying f0.type = some (.int .i64)) (h1 : P.underlying f1.type = some (.int .i64)) (h2 : P.underlying f2.type = some (.int .i64)) (h3 : P.underlying f3.type = some (.int .i64)) (h4 : P.underlying f4.type = some (.int .i64)) (h5 : P.underlying f5.type = some .string)
    (h : DataW.trod enc P W base (fun _ => true) held fuel t [.slice A len cap] = some x) (hB : ∀ n ∈ x.1.weights P t, n ≤ 140737488355328) :
    ∃ cs : List Rec, cs.length = len ∧ Row W A (cs.flatMap rcells) ∧ len ≤ cap ∧ cap ≤ maxLen ∧ (A = none → cap = 0) ∧ ∀ c ∈ cs, c.ok := by
  have hsz : fs.size = 6 := by rw [hf]; rfl
  obtain ⟨V, hr, hl, hc, hn, hV⟩ := open_recs ht he hone hC (by omega) h
  have each : ∀ i, i < len → ∃ c : Rec, (List.range 6).map (V i) = rcells c ∧ c.ok := by
    intro i hi
    have g := hV i hi
    rw [hf] at g
    obtain ⟨_, _, g0, b0⟩ := g 0 f0 rfl; obtain ⟨_, _, g1, b1⟩ := g 1 f1 rfl; obtain ⟨_, _, g2, b2⟩ := g 2 f2 rfl
    obtain ⟨_, _, g3, b3⟩ := g 3 f3 rfl; obtain ⟨_, _, g4, b4⟩ := g 4 f4 rfl; obtain ⟨_, _, g5, b5⟩ := g 5 f5 rfl
    obtain ⟨k, e0, w0⟩ := cell_int h0 g0; obtain ⟨q, e1, w1⟩ := cell_int h1 g1; obtain ⟨d, e2, w2⟩ := cell_int h2 g2
    obtain ⟨n, e3, w3⟩ := cell_int h3 g3; obtain ⟨u, e4, w4⟩ := cell_int h4 g4; obtain ⟨s5, e5, w5⟩ := cell_string h5 g5 (fun n hn => hB _ (b5 n hn))
    refine ⟨⟨k, q, d, n, u, sl s5⟩, ?_, w0, w1, w2, w3, w4, by show (sl s5).length ≤ _; rw [sl_length]; exact w5⟩
    show [V i 0, V i 1, V i 2, V i 3, V i 4, V i 5] = _
    rw [e0, e1, e2, e3, e4, e5]; rfl
  obtain ⟨C, hC2⟩ := Deep.choose_lt each
  refine ⟨(List.range len).map C, by simp, ?_, hl, hc, hn, fun c hcm => ?_⟩
  · rw [hsz] at hr
    have e : ((List.range len).flatMap fun i => (List.range 6).map (V i)) = ((List.range len).map C).flatMap rcells := by
      rw [List.flatMap_map]
      exact Deep.flatMap_congr_range fun i hi => (hC2 i hi).1
    rwa [e] at hr
  · obtain ⟨i, hi, rfl⟩ := List.mem_map.1 hcm
    exact (hC2 i (List.mem_range.1 hi)).2
/-- ONE RECORD, opened. -/
theorem open_record {H : Type} {enc : TypeId × Value → H} {P : Program} {W : World} {base b0 : Nat} {held : Bool} {r : Reach} {t : TypeId} {fs : Array Field} {v : Value} {d : DataW H} {ps : List MemPlace} (ht : P.underlying t = some (.struct fs))
    (hone : ∀ (i : Nat) (f : Field), fs[i]? = some f → f.offset = i ∧ P.cellsOf f.type = 1) (hC : P.cellsOf t = fs.size) (f0 f1 f2 f3 f4 f5 : Field) (hf : fs = #[f0, f1, f2, f3, f4, f5])
    (h0 : P.underlying f0.type = some (.int .i64)) (h1 : P.underlying f1.type = some (.int .i64)) (h2 : P.underlying f2.type = some (.int .i64)) (h3 : P.underlying f3.type = some (.int .i64)) (h4 : P.underlying f4.type = some (.int .i64)) (h5 : P.underlying f5.type = some .string)
    (hval : Value.okWide P W r b0 t v) (hd : DataW.Trod enc P W base (fun _ => true) held t v d ps) (hB : ∀ n ∈ d.weights P t, n ≤ 140737488355328) : ∃ c : Rec, v = rv c ∧ c.ok := by
  obtain ⟨V, hv, hV⟩ := open_rec ht hone hC hval hd
  have g := hV
  rw [hf] at g
  obtain ⟨_, _, g0, b0⟩ := g 0 f0 rfl; obtain ⟨_, _, g1, b1⟩ := g 1 f1 rfl; obtain ⟨_, _, g2, b2⟩ := g 2 f2 rfl
  obtain ⟨_, _, g3, b3⟩ := g 3 f3 rfl; obtain ⟨_, _, g4, b4⟩ := g 4 f4 rfl; obtain ⟨_, _, g5, b5⟩ := g 5 f5 rfl
  obtain ⟨k, e0, w0⟩ := cell_int h0 g0; obtain ⟨q, e1, w1⟩ := cell_int h1 g1; obtain ⟨i, e2, w2⟩ := cell_int h2 g2
  obtain ⟨n, e3, w3⟩ := cell_int h3 g3; obtain ⟨u, e4, w4⟩ := cell_int h4 g4; obtain ⟨s5, e5, w5⟩ := cell_string h5 g5 (fun n hn => hB _ (b5 n hn))
  refine ⟨⟨k, q, i, n, u, sl s5⟩, ?_, w0, w1, w2, w3, w4, by show (sl s5).length ≤ _; rw [sl_length]; exact w5⟩
  rw [hv, hf]
  show Value.agg [V 0, V 1, V 2, V 3, V 4, V 5].toArray = _
  rw [e0, e1, e2, e3, e4, e5]; rfl
end Go.Proofs.Ytadhhnlolnnkhaa.Rec
