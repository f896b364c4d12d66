/- Lemmas: Scr Arr. -/
import Derived.Test.YtndkmfflpphoiaaZG00
import Derived.Deep.Fields
import Derived.Deep.Strs
import Derived.Deep.MidRow
import Derived.ChangeArms
import Derived.WideShapes
import Derived.WideKeyArr2
set_option linter.unusedVariables false
set_option linter.unusedSimpArgs false
namespace Go.Proofs.Ytndkmfflpphoiaa.Kit
open Go Go.RowKit
/-- The weights of a struct's fields. -/
theorem weights_agg {H : Type} {P : Program} {t : TypeId} {fs : Array Field} {parts : List (DataW H)} (hu : P.underlying t = some (.struct fs)) : (DataW.agg parts).weights P t = DataW.weightsEach P (fs.toList.map (·.type)) parts := by
  unfold DataW.weights; rw [hu]
section
variable {H : Type} {enc : TypeId × Value → H} {P : Program} {W : World} {base : Nat} {held : Bool} {fuel : Nat}
/-- Cells that lie one behind the other from an address on, element by element: a row. -/
theorem row_of_cells {A : Addr} {len k : Nat} {V : Nat → Nat → Value} (hk : 0 < k) (h : ∀ i, i < len → ∀ j, j < k → W.cell? (A.add (i * k + j)) = some (V i j)) : Row W (some A) ((List.range len).flatMap fun i => (List.range k).map (V i)) := by
  by_cases h0 : len = 0
  · subst h0; exact Row.nil _ _
  · have hc := h 0 (by omega) 0 hk
    obtain ⟨b, o, sp⟩ := A
    have hsp : sp = none := by
      rw [Nat.zero_mul, Nat.zero_add] at hc
      simpa [Addr.add] using World.cell?_spot hc
    subst hsp
    rw [Addr.add_mid] at hc
    refine .inr ⟨b, o, rfl, World.block_lt_of_cell? W _ hc, fun i u hu => ?_⟩
    have hlen : ∀ n : Nat, ((List.range n).flatMap fun i => (List.range k).map (V i)).length = n * k := fun n => by
      induction n with
      | zero => simp
      | succ n ih => rw [List.range_succ, List.flatMap_append, List.length_append, ih]; simp [Nat.succ_mul]
    have hat : ∀ n i : Nat, i < n * k → ((List.range n).flatMap fun i => (List.range k).map (V i))[i]? = some (V (i / k) (i % k)) := fun n => by
      induction n with
      | zero => intro i hi; omega
      | succ n ih =>
        intro i hi
        rw [List.range_succ, List.flatMap_append]
        by_cases hlt : i < n * k
        · rw [List.getElem?_append_left (by rw [hlen]; exact hlt), ih i hlt]
        · rw [Nat.succ_mul] at hi
          rw [List.getElem?_append_right (by rw [hlen]; omega), hlen]
          have e1 : i / k = n := by
            have h1 : n ≤ i / k := (Nat.le_div_iff_mul_le hk).2 (by omega)
            have h2 : i / k < n + 1 := (Nat.div_lt_iff_lt_mul hk).2 (by rw [Nat.succ_mul]; exact hi)
            omega
          have e2 : i % k = i - n * k := by
            have := Nat.div_add_mod i k
            rw [e1, Nat.mul_comm] at this; omega
          simp only [List.flatMap_cons, List.flatMap_nil, List.append_nil]
          rw [List.getElem?_map, List.getElem?_range (by omega), e1, e2]; rfl
    have hi : i < len * k := by
      have := (List.getElem?_eq_some_iff.1 hu).1
      rwa [hlen] at this
    rw [hat len i hi] at hu
    cases hu
    have hd : i / k < len := Nat.div_lt_of_lt_mul (by rw [Nat.mul_comm]; exact hi)
    have := h (i / k) hd (i % k) (Nat.mod_lt _ hk)
    rw [show i / k * k + i % k = i by rw [Nat.mul_comm]; exact Nat.div_add_mod i k, Addr.add_mid] at this
    exact this
/-- A SLICE OF STRUCTS OF ONE-CELL FIELDS, opened. -/
theorem open_recs {t e : TypeId} {fs : Array Field} {A : Option Addr} {len cap : Nat} {x : DataW H × List MemPlace} (ht : P.underlying t = some (.slice e)) (he : P.underlying e = some (.struct fs))
    (hone : ∀ (i : Nat) (f : Field), fs[i]? = some f → f.offset = i ∧ P.cellsOf f.type = 1) (hC : P.cellsOf e = fs.size) (hpos : 0 < fs.size) (h : DataW.trod enc P W base (fun _ => true) held fuel t [.slice A len cap] = some x) :
    ∃ V : Nat → Nat → Value, Row W A ((List.range len).flatMap fun i => (List.range fs.size).map (V i)) ∧ len ≤ cap ∧ cap ≤ maxLen ∧ (A = none → cap = 0) ∧
      ∀ i, i < len → ∀ j f, fs[j]? = some f → ∃ m y, DataW.trod enc P W base (fun _ => true) held m f.type [V i j] = some y ∧ ∀ n ∈ y.1.weights P f.type, n ∈ x.1.weights P t := by
  rcases Deep.open_slice ht h with ⟨hcs, _⟩ | ⟨a, l, c, m, n, D, Pl, hcs, hb, hl, hc, hm, hx, hi⟩
  · simp only [List.cons.injEq, Value.slice.injEq, and_true] at hcs
    obtain ⟨rfl, rfl, rfl⟩ := hcs
    exact ⟨fun _ _ => undef, Row.nil _ _, Nat.le_refl _, by simp [maxLen], fun _ => rfl, fun i hi => by omega⟩
  · simp only [List.cons.injEq, Value.slice.injEq, and_true] at hcs
    obtain ⟨rfl, rfl, rfl⟩ := hcs
    simp only [if_true] at hm
    subst hm
    have each : ∀ i, i < len → ∃ v : Nat → Value, (∀ j, j < fs.size → W.cell? (a.add (i * fs.size + j)) = some (v j)) ∧ ∀ j f, fs[j]? = some f → ∃ m y, DataW.trod enc P W base (fun _ => true) held m f.type [v j] = some y ∧ ∀ n ∈ y.1.weights P f.type, n ∈ x.1.weights P t := by
      intro i hlt
      obtain ⟨cs', hcells, htr⟩ := hi i (by omega)
      obtain ⟨_, hlen, hcell⟩ := World.cells?_some hcells
      rw [hC] at hlen hcell
      obtain ⟨xs, n', _, hxd, _, hxl, hf⟩ := DataW.trod_struct he htr
      have hxD : D i = .agg (xs.map (·.1)) := congrArg (·.1) hxd
      have hmem : D i ∈ (List.range len).map D := List.mem_map.2 ⟨i, List.mem_range.2 hlt, rfl⟩
      refine ⟨fun j => cs'.getD j undef, fun j hj => ?_, fun j f hjf => ?_⟩
      · have := hcell j hj
        rw [Deep.add_add] at this
        rw [this]; show cs'[j]? = some (cs'.getD j undef); rw [List.getD_eq_getElem?_getD, List.getElem?_eq_getElem (by omega)]; rfl
      · have hlt' : j < fs.size := (Array.getElem?_eq_some_iff.1 hjf).1
        obtain ⟨ho, hc1⟩ := hone j f hjf
        have g := hf j f hjf
        rw [ho, hc1, Deep.take1_drop cs' j undef (by omega), List.getElem?_eq_getElem (by omega)] at g
        refine ⟨n', _, g, fun n hn => ?_⟩
        rw [hx]
        refine weights_slice ht hmem n ?_
        rw [hxD, weights_agg he]
        exact DataW.weights_mem_each (j := j) (by rw [List.getElem?_map, Array.getElem?_toList, hjf]; rfl) (by rw [List.getElem?_map, List.getElem?_eq_getElem (by omega)]; rfl) n hn
    have : Inhabited (Nat → Value) := ⟨fun _ => undef⟩
    obtain ⟨V, hV⟩ := Deep.choose_lt each
    exact ⟨V, row_of_cells hpos (fun i hlt j hj => (hV i hlt).1 j hj), hl, hc, (fun e => by cases e), fun i hlt j f hjf => (hV i hlt).2 j f hjf⟩
/-- What an int's cell is; a string's. -/
theorem cell_int {m : Nat} {t : TypeId} {k : IntKind} {v : Value} {y : DataW H × List MemPlace} (ht : P.underlying t = some (.int k)) (h : DataW.trod enc P W base (fun _ => true) held m t [v] = some y) : ∃ n, v = .int k n ∧ (Lit.int k n).wf = true := by
  obtain ⟨n, h1, _, h2⟩ := DataW.trod_int ht h
  exact ⟨n, by simpa using h1, h2⟩
theorem cell_string {m : Nat} {t : TypeId} {v : Value} {y : DataW H × List MemPlace} (ht : P.underlying t = some .string) (h : DataW.trod enc P W base (fun _ => true) held m t [v] = some y) {B : Nat} (hB : ∀ n ∈ y.1.weights P t, n ≤ B) : ∃ s : ByteArray, v = .string s ∧ s.size ≤ B := by
  obtain ⟨s, h1, h3, h2⟩ := DataW.trod_string ht h
  exact ⟨s, by simpa using h1, hB _ (by rw [h3]; simp [DataW.weights])⟩
theorem flat_one (f : Nat → Value) : ∀ l : List Nat, (l.flatMap fun i => (List.range 1).map fun _ => f i) = l.map f
  | [] => rfl
  | i :: l => by rw [List.flatMap_cons, flat_one f l]; rfl
/-- A slice of strings, opened. -/
theorem open_texts {t e : TypeId} {A : Option Addr} {len cap : Nat} {x : DataW H × List MemPlace} (ht : P.underlying t = some (.slice e)) (he : P.underlying e = some .string) (hC : P.cellsOf e = 1) (h : DataW.trod enc P W base (fun _ => true) held fuel t [.slice A len cap] = some x) {B : Nat} (hB : ∀ n ∈ x.1.weights P t, n ≤ B) :
    ∃ ss : List (List UInt8), ss.length = len ∧ Row W A (ss.map fun s => .string (str s)) ∧ len ≤ cap ∧ cap ≤ maxLen ∧ (A = none → cap = 0) ∧ ∀ s ∈ ss, s.length ≤ B := by
  rcases Deep.open_slice ht h with ⟨hcs, _⟩ | ⟨a, l, c, m, n, D, Pl, hcs, hb, hl, hc, hm, hx, hi⟩
  · simp only [List.cons.injEq, Value.slice.injEq, and_true] at hcs
    obtain ⟨rfl, rfl, rfl⟩ := hcs
    exact ⟨[], rfl, Row.nil _ _, Nat.le_refl _, by simp [maxLen], (fun _ => rfl), fun s hs => by cases hs⟩
  · simp only [List.cons.injEq, Value.slice.injEq, and_true] at hcs
    obtain ⟨rfl, rfl, rfl⟩ := hcs
    simp only [if_true] at hm
    subst hm
    have each : ∀ i, i < len → ∃ s : List UInt8, W.cell? (a.add (i * 1 + 0)) = some (.string (str s)) ∧ s.length ≤ B := by
      intro i hlt
      have hmem : D i ∈ (List.range len).map D := List.mem_map.2 ⟨i, List.mem_range.2 hlt, rfl⟩
      obtain ⟨cs', hcells, htr⟩ := hi i (by omega)
      obtain ⟨_, hlen, hcell⟩ := World.cells?_some hcells
      rw [hC] at hlen hcell
      obtain ⟨s, rfl, hd, hs⟩ := DataW.trod_string he htr
      have := hcell 0 (by omega)
      rw [Deep.add_add] at this
      refine ⟨sl s, by rw [this]; rfl, ?_⟩
      rw [sl_length]
      refine hB _ ?_
      rw [hx]
      refine weights_slice ht hmem _ ?_
      rw [show D i = .lit (.string s.data.toList) from congrArg (·.1) hd]
      simp [DataW.weights]
    obtain ⟨V, hV⟩ := Deep.choose_lt each
    refine ⟨(List.range len).map V, by simp, ?_, hl, hc, (fun e => by cases e), fun s hs => ?_⟩
    · have := row_of_cells (W := W) (A := a) (len := len) (k := 1) (V := fun i _ => .string (str (V i))) (by decide) (fun i hlt j hj => by
        obtain rfl : j = 0 := by omega
        exact (hV i hlt).1)
      rw [flat_one] at this
      rw [List.map_map]
      exact this
    · obtain ⟨i, hi', rfl⟩ := List.mem_map.1 hs
      exact (hV i (List.mem_range.1 hi')).2
/-- A slice of numbers, opened. -/
theorem open_nums {t e : TypeId} {k : IntKind} {A : Option Addr} {len cap : Nat} {x : DataW H × List MemPlace} (ht : P.underlying t = some (.slice e)) (he : P.underlying e = some (.int k)) (hC : P.cellsOf e = 1) (h : DataW.trod enc P W base (fun _ => true) held fuel t [.slice A len cap] = some x) :
    ∃ ns : List Int, ns.length = len ∧ Row W A (ns.map fun n => .int k n) ∧ len ≤ cap ∧ cap ≤ maxLen ∧ (A = none → cap = 0) ∧ ∀ n ∈ ns, (Lit.int k n).wf = true := by
  rcases Deep.open_slice ht h with ⟨hcs, _⟩ | ⟨a, l, c, m, n, D, Pl, hcs, hb, hl, hc, hm, hx, hi⟩
  · simp only [List.cons.injEq, Value.slice.injEq, and_true] at hcs
    obtain ⟨rfl, rfl, rfl⟩ := hcs
    exact ⟨[], rfl, Row.nil _ _, Nat.le_refl _, by simp [maxLen], (fun _ => rfl), fun s hs => by cases hs⟩
  · simp only [List.cons.injEq, Value.slice.injEq, and_true] at hcs
    obtain ⟨rfl, rfl, rfl⟩ := hcs
    simp only [if_true] at hm
    subst hm
    have each : ∀ i, i < len → ∃ q : Int, W.cell? (a.add (i * 1 + 0)) = some (.int k q) ∧ (Lit.int k q).wf = true := by
      intro i hlt
      obtain ⟨cs', hcells, htr⟩ := hi i (by omega)
      obtain ⟨_, hlen, hcell⟩ := World.cells?_some hcells
      rw [hC] at hlen hcell
      obtain ⟨q, rfl, _, hs⟩ := DataW.trod_int he htr
      have := hcell 0 (by omega)
      rw [Deep.add_add] at this
      exact ⟨q, by rw [this]; rfl, hs⟩
    obtain ⟨V, hV⟩ := Deep.choose_lt each
    refine ⟨(List.range len).map V, by simp, ?_, hl, hc, (fun e => by cases e), fun s hs => ?_⟩
    · have := row_of_cells (W := W) (A := a) (len := len) (k := 1) (V := fun i _ => .int k (V i)) (by decide) (fun i hlt j hj => by
        obtain rfl : j = 0 := by omega
        exact (hV i hlt).1)
      rw [flat_one] at this
      rw [List.map_map]
      exact this
    · obtain ⟨i, hi', rfl⟩ := List.mem_map.1 hs
      exact (hV i (List.mem_range.1 hi')).2
/-- A STRUCT OF ONE-CELL FIELDS, opened. -/
theorem open_rec {r : Reach} {b0 : Nat} {t : TypeId} {fs : Array Field} {v : Value} {d : DataW H} {ps : List MemPlace} (ht : P.underlying t = some (.struct fs))
    (hone : ∀ (i : Nat) (f : Field), fs[i]? = some f → f.offset = i ∧ P.cellsOf f.type = 1) (hC : P.cellsOf t = fs.size) (hval : Value.okWide P W r b0 t v) (hd : DataW.Trod enc P W base (fun _ => true) held t v d ps) :
    ∃ V : Nat → Value, v = .agg ((List.range fs.size).map V).toArray ∧ ∀ j f, fs[j]? = some f → ∃ m y, DataW.trod enc P W base (fun _ => true) held m f.type [V j] = some y ∧ ∀ n ∈ y.1.weights P f.type, n ∈ d.weights P t := by
  simp only [Value.okWide, ht] at hval
  obtain ⟨cs, rfl, hn, _⟩ := hval
  rw [hC] at hn
  obtain ⟨fuel, hf⟩ := hd
  obtain ⟨xs, n, _, hxd, _, hxl, hf⟩ := DataW.trod_struct ht hf
  have hxD : d = .agg (xs.map (·.1)) := congrArg (·.1) hxd
  refine ⟨fun j => cs.toList.getD j undef, ?_, fun j f hjf => ?_⟩
  · congr 1
    apply Array.ext
    · simp [hn]
    · intro i h1 h2
      simp [List.getD_eq_getElem?_getD, h1]
  · have hlt : j < fs.size := (Array.getElem?_eq_some_iff.1 hjf).1
    obtain ⟨ho, hc1⟩ := hone j f hjf
    have g := hf j f hjf
    simp only [Value.cells] at g
    rw [ho, hc1, Deep.take1_drop cs.toList j undef (by simp [hn]; exact hlt), List.getElem?_eq_getElem (by omega)] at g
    refine ⟨n, _, g, fun m hm => ?_⟩
    rw [hxD, weights_agg ht]
    exact DataW.weights_mem_each (j := j) (by rw [List.getElem?_map, Array.getElem?_toList, hjf]; rfl) (by rw [List.getElem?_map, List.getElem?_eq_getElem (by omega)]; rfl) m hm
end
/-- One call of a script of stage 9. -/
structure CallI where
  kind : Int
  key : List UInt8
  nonce : List UInt8
  aad : List UInt8
  text : List UInt8
  n : Int
def CallI.cells (c : CallI) : List Value := [.int .i64 c.kind, .string (str c.key), .string (str c.nonce), .string (str c.aad), .string (str c.text), .int .i64 c.n]
theorem CallI.length (c : CallI) : c.cells.length = 6 := rfl
def CallI.ok (c : CallI) : Prop := (Lit.int .i64 c.kind).wf = true ∧ (Lit.int .i64 c.n).wf = true ∧ c.key.length ≤ 140737488355328 ∧ c.nonce.length ≤ 140737488355328 ∧ c.aad.length ≤ 140737488355328 ∧ c.text.length ≤ 140737488355328
instance : Inhabited CallI := ⟨⟨0, [], [], [], [], 0⟩⟩
/-- A SCRIPT OF CALLS, opened. -/
theorem open_calls {H : Type} {enc : TypeId × Value → H} {P : Program} {W : World} {base : Nat} {held : Bool} {fuel : Nat} {t e : TypeId} {fs : Array Field} {A : Option Addr} {len cap : Nat} {x : DataW H × List MemPlace} (ht : P.underlying t = some (.slice e)) (he : P.underlying e = some (.struct fs))
    (hone : ∀ (i : Nat) (f : Field), fs[i]? = some f → f.offset = i ∧ P.cellsOf f.type = 1) (hC : P.cellsOf e = fs.size) (f0 f1 f2 f3 f4 f5 : Field) (hf : fs = #[f0, f1, f2, f3, f4, f5])
    (h0 : P.underlying f0.type = some (.int .i64)) (h1 : P.underlying f1.type = some .string) (h2 : P.underlying f2.type = some .string) (h3 : P.underlying f3.type = some .string) (h4 : P.underlying f4.type = some .string) (h5 : P.underlying f5.type = some (.int .i64))
    (h : DataW.trod enc P W base (fun _ => true) held fuel t [.slice A len cap] = some x) (hB : ∀ n ∈ x.1.weights P t, n ≤ 140737488355328) :
    ∃ cs : List CallI, cs.length = len ∧ Row W A (cs.flatMap CallI.cells) ∧ len ≤ cap ∧ cap ≤ maxLen ∧ (A = none → cap = 0) ∧ ∀ c ∈ cs, c.ok := by
  have hsz : fs.size = 6 := by rw [hf]; rfl
  obtain ⟨V, hr, hl, hc, hn, hV⟩ := open_recs ht he hone hC (by omega) h
  have each : ∀ i, i < len → ∃ c : CallI, (List.range 6).map (V i) = c.cells ∧ c.ok := by
    intro i hi
    have g := hV i hi
    rw [hf] at g
    obtain ⟨_, _, g0, b0⟩ := g 0 f0 rfl; obtain ⟨_, _, g1, b1⟩ := g 1 f1 rfl; obtain ⟨_, _, g2, b2⟩ := g 2 f2 rfl
    obtain ⟨_, _, g3, b3⟩ := g 3 f3 rfl; obtain ⟨_, _, g4, b4⟩ := g 4 f4 rfl; obtain ⟨_, _, g5, b5⟩ := g 5 f5 rfl
    obtain ⟨k, e0, w0⟩ := cell_int h0 g0; obtain ⟨s1, e1, w1⟩ := cell_string h1 g1 (fun n hn => hB _ (b1 n hn)); obtain ⟨s2, e2, w2⟩ := cell_string h2 g2 (fun n hn => hB _ (b2 n hn))
    obtain ⟨s3, e3, w3⟩ := cell_string h3 g3 (fun n hn => hB _ (b3 n hn)); obtain ⟨s4, e4, w4⟩ := cell_string h4 g4 (fun n hn => hB _ (b4 n hn)); obtain ⟨n, e5, w5⟩ := cell_int h5 g5
    refine ⟨⟨k, sl s1, sl s2, sl s3, sl s4, n⟩, ?_, w0, w5, by rw [sl_length]; exact w1, by rw [sl_length]; exact w2, by rw [sl_length]; exact w3, by rw [sl_length]; exact w4⟩
    show [V i 0, V i 1, V i 2, V i 3, V i 4, V i 5] = _
    rw [e0, e1, e2, e3, e4, e5]; rfl
  obtain ⟨C, hC2⟩ := Deep.choose_lt each
  refine ⟨(List.range len).map C, by simp, ?_, hl, hc, hn, fun c hcm => ?_⟩
  · rw [hsz] at hr
    have e : ((List.range len).flatMap fun i => (List.range 6).map (V i)) = ((List.range len).map C).flatMap CallI.cells := by
      rw [List.flatMap_map]
      exact Deep.flatMap_congr_range fun i hi => (hC2 i hi).1
    rwa [e] at hr
  · obtain ⟨i, hi, rfl⟩ := List.mem_map.1 hcm
    exact (hC2 i (List.mem_range.1 hi)).2
/-- ONE CALL, opened. -/
theorem open_call {H : Type} {enc : TypeId × Value → H} {P : Program} {W : World} {base b0 : Nat} {held : Bool} {r : Reach} {t : TypeId} {fs : Array Field} {v : Value} {d : DataW H} {ps : List MemPlace} (ht : P.underlying t = some (.struct fs))
    (hone : ∀ (i : Nat) (f : Field), fs[i]? = some f → f.offset = i ∧ P.cellsOf f.type = 1) (hC : P.cellsOf t = fs.size) (f0 f1 f2 f3 f4 f5 : Field) (hf : fs = #[f0, f1, f2, f3, f4, f5])
    (h0 : P.underlying f0.type = some (.int .i64)) (h1 : P.underlying f1.type = some .string) (h2 : P.underlying f2.type = some .string) (h3 : P.underlying f3.type = some .string) (h4 : P.underlying f4.type = some .string) (h5 : P.underlying f5.type = some (.int .i64))
    (hval : Value.okWide P W r b0 t v) (hd : DataW.Trod enc P W base (fun _ => true) held t v d ps) (hB : ∀ n ∈ d.weights P t, n ≤ 140737488355328) : ∃ c : CallI, v = .agg c.cells.toArray ∧ c.ok := by
  obtain ⟨V, hv, hV⟩ := open_rec ht hone hC hval hd
  have g := hV
  rw [hf] at g
  obtain ⟨_, _, g0, b0⟩ := g 0 f0 rfl; obtain ⟨_, _, g1, b1⟩ := g 1 f1 rfl; obtain ⟨_, _, g2, b2⟩ := g 2 f2 rfl
  obtain ⟨_, _, g3, b3⟩ := g 3 f3 rfl; obtain ⟨_, _, g4, b4⟩ := g 4 f4 rfl; obtain ⟨_, _, g5, b5⟩ := g 5 f5 rfl
  obtain ⟨k, e0, w0⟩ := cell_int h0 g0; obtain ⟨s1, e1, w1⟩ := cell_string h1 g1 (fun n hn => hB _ (b1 n hn)); obtain ⟨s2, e2, w2⟩ := cell_string h2 g2 (fun n hn => hB _ (b2 n hn))
  obtain ⟨s3, e3, w3⟩ := cell_string h3 g3 (fun n hn => hB _ (b3 n hn)); obtain ⟨s4, e4, w4⟩ := cell_string h4 g4 (fun n hn => hB _ (b4 n hn)); obtain ⟨n, e5, w5⟩ := cell_int h5 g5
  refine ⟨⟨k, sl s1, sl s2, sl s3, sl s4, n⟩, ?_, w0, w5, by rw [sl_length]; exact w1, by rw [sl_length]; exact w2, by rw [sl_length]; exact w3, by rw [sl_length]; exact w4⟩
  rw [hv, hf]
  show Value.agg [V 0, V 1, V 2, V 3, V 4, V 5].toArray = _
  rw [e0, e1, e2, e3, e4, e5]; rfl
end Go.Proofs.Ytndkmfflpphoiaa.Kit
namespace Go.Proofs.Ytndkmfflpphoiaa.Kit
open Go Go.ChangeShapes Go.WideShapes
theorem mapM_each {α β : Type} {f : α → Option β} : ∀ {L : List α} {ys : List β}, L.mapM f = some ys → ∀ i ∈ L, ∃ y, f i = some y
  | [], _, _, i, hi => by cases hi
  | a :: L, ys, h, i, hi => by
    rw [List.mapM_cons] at h
    simp only [bind, Option.bind_eq_some_iff, pure, Option.some.injEq] at h
    obtain ⟨y, hy, zs, hzs, _⟩ := h
    rcases List.mem_cons.1 hi with rfl | hi
    · exact ⟨y, hy⟩
    · exact mapM_each hzs i hi
theorem u8_wf {n : Int} (h : (Lit.int .u8 n).wf = true) : ∃ a : UInt8, Value.int .u8 n = bv a := by
  have h3 : IntKind.u8.min ≤ n ∧ n ≤ IntKind.u8.max := by simpa [Lit.wf] using h
  have h4 : IntKind.u8.min = 0 := by kernel_rfl
  have h5 : IntKind.u8.max = 255 := by kernel_rfl
  refine ⟨UInt8.ofNat n.toNat, ?_⟩
  rw [bv, UInt8.toNat_ofNat']
  congr 1
  omega
theorem bytes_of {xs : List Value} (h : ∀ u ∈ xs, ∃ x : UInt8, u = bv x) : ∃ l : List UInt8, xs = bvs l := by
  induction xs with
  | nil => exact ⟨[], rfl⟩
  | cons a xs ih =>
    obtain ⟨x, rfl⟩ := h a (by simp)
    obtain ⟨l, rfl⟩ := ih (fun u hu => h u (by simp [hu]))
    exact ⟨x :: l, rfl⟩
theorem open_barr {H : Type} {enc : TypeId × Value → H} {P : Program} {W : World} {base b0 : Nat} {sp : Nat → Bool} {held : Bool} {r : Reach} {t e : TypeId} {n : Nat} {v : Value} {d : DataW H} {ps : List MemPlace}
    (ht : P.underlying t = some (.array n e)) (he : P.underlying e = some (.int .u8)) (hc : P.cellsOf e = 1) (hC : P.cellsOf t = n)
    (hval : Value.okWide P W r b0 t v) (hd : DataW.Trod enc P W base sp held t v d ps) : ∃ l : List UInt8, v = .agg (bvs l).toArray ∧ l.length = n := by
  simp only [Value.okWide, ht] at hval
  obtain ⟨cs, rfl, hn, _⟩ := hval
  rw [hC] at hn
  obtain ⟨fuel, hf⟩ := hd
  cases fuel with
  | zero => simp [DataW.trod] at hf
  | succ m =>
    rw [DataW.trod_step] at hf
    unfold DataW.trodStep at hf
    simp only [ht, Value.cells] at hf
    rw [if_pos (by rw [hC]; simpa using hn)] at hf
    simp only [Option.map_eq_some_iff] at hf
    obtain ⟨ys, hy, _⟩ := hf
    have each : ∀ u ∈ cs.toList, ∃ x : UInt8, u = bv x := by
      intro u hu
      obtain ⟨i, hi, rfl⟩ := List.mem_iff_getElem.1 hu
      obtain ⟨y, h1⟩ := mapM_each hy i (List.mem_range.2 (by rw [← hn]; simpa using hi))
      obtain ⟨k, h2, _, h3⟩ := DataW.trod_int he h1
      rw [hc, Nat.mul_one, List.drop_eq_getElem_cons hi] at h2
      simp only [List.take_succ_cons, List.take_zero, List.cons.injEq, and_true] at h2
      obtain ⟨a, ha⟩ := u8_wf h3
      exact ⟨a, by rw [h2, ha]⟩
    obtain ⟨l, hl⟩ := bytes_of each
    refine ⟨l, ?_, ?_⟩
    · rw [← hl]
    · have := congrArg List.length hl
      rw [bvs_length] at this
      rw [← this]; simpa using hn
end Go.Proofs.Ytndkmfflpphoiaa.Kit
