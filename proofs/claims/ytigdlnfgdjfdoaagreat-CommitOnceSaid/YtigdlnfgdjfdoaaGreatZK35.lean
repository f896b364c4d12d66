/- Lemmas: Scr ScrR ScrS Own. -/
import Derived.Test.YtigdlnfgdjfdoaaGreatZK01
import Derived.Deep.Fields
import Derived.Deep.Strs
import Derived.ChangeArms
import Derived.WideShapes
import Derived.ProofKit
import Derived.OpenShut
set_option maxHeartbeats 4000000
set_option maxRecDepth 100000
set_option linter.unusedVariables false
set_option linter.unusedSimpArgs false
namespace Go.Proofs.YtigdlnfgdjfdoaaGreat
namespace Kit
open Go Go.RowKit
theorem weights_agg {H : Type} {P : Program} {t : TypeId} {fs : Array Field} {parts : List (DataW H)} (hu : P.underlying t = some (.struct fs)) : (DataW.agg parts).weights P t = DataW.weightsEach P (fs.toList.map (·.type)) parts := by
 unfold DataW.weights; rw [hu]
section
variable {H : Type} {enc : TypeId × Value → H} {P : Program} {W : World} {base : Nat} {held : Bool} {fuel : Nat}
theorem row_of_cells {A : Addr} {len k : Nat} {V : Nat → Nat → Value} (hk : 0 < k) (h : ∀ i, i < len → ∀ j, j < k → W.cell? (A.add (i * k + j)) = some (V i j)) : Row W (some A) ((List.range len).flatMap fun i => (List.range k).map (V i)) := by
 by_cases h0 : len = 0
 · subst h0; exact Row.nil _ _
 · have hc := h 0 (by omega) 0 hk
   obtain ⟨b, o, sp⟩ := A
   have hsp : sp = none := by
    rw [Nat.zero_mul, Nat.zero_add] at hc
    simpa [Addr.add] using World.cell?_spot hc
   subst hsp
   rw [Addr.add_mid] at hc
   refine .inr ⟨b, o, rfl, World.block_lt_of_cell? W _ hc, fun i u hu => ?_⟩
   have hlen : ∀ n : Nat, ((List.range n).flatMap fun i => (List.range k).map (V i)).length = n * k := fun n => by
    induction n with
    | zero => simp
    | succ n ih => rw [List.range_succ, List.flatMap_append, List.length_append, ih]; simp [Nat.succ_mul]
   have hat : ∀ n i : Nat, i < n * k → ((List.range n).flatMap fun i => (List.range k).map (V i))[i]? = some (V (i / k) (i % k)) := fun n => by
    induction n with
    | zero => intro i hi; omega
    | succ n ih =>
      intro i hi
      rw [List.range_succ, List.flatMap_append]
      by_cases hlt : i < n * k
      · rw [List.getElem?_append_left (by rw [hlen]; exact hlt), ih i hlt]
      · rw [Nat.succ_mul] at hi
        rw [List.getElem?_append_right (by rw [hlen]; omega), hlen]
        have e1 : i / k = n := by
         have h1 : n ≤ i / k := (Nat.le_div_iff_mul_le hk).2 (by omega)
         have h2 : i / k < n + 1 := (Nat.div_lt_iff_lt_mul hk).2 (by rw [Nat.succ_mul]; exact hi)
         omega
        have e2 : i % k = i - n * k := by
         have := Nat.div_add_mod i k
         rw [e1, Nat.mul_comm] at this; omega
        simp only [List.flatMap_cons, List.flatMap_nil, List.append_nil]
        rw [List.getElem?_map, List.getElem?_range (by omega), e1, e2]; rfl
   have hi : i < len * k := by
    have := (List.getElem?_eq_some_iff.1 hu).1
    rwa [hlen] at this
   rw [hat len i hi] at hu
   cases hu
   have hd : i / k < len := Nat.div_lt_of_lt_mul (by rw [Nat.mul_comm]; exact hi)
   have := h (i / k) hd (i % k) (Nat.mod_lt _ hk)
   rw [show i / k * k + i % k = i by rw [Nat.mul_comm]; exact Nat.div_add_mod i k, Addr.add_mid] at this
   exact this
theorem open_recs {t e : TypeId} {fs : Array Field} {A : Option Addr} {len cap : Nat} {x : DataW H × List MemPlace} (ht : P.underlying t = some (.slice e)) (he : P.underlying e = some (.struct fs))
    (hone : ∀ (i : Nat) (f : Field), fs[i]? = some f → f.offset = i ∧ P.cellsOf f.type = 1) (hC : P.cellsOf e = fs.size) (hpos : 0 < fs.size) (h : DataW.trod enc P W base (fun _ => true) held fuel t [.slice A len cap] = some x) :
    ∃ V : Nat → Nat → Value, Row W A ((List.range len).flatMap fun i => (List.range fs.size).map (V i)) ∧ len ≤ cap ∧ cap ≤ maxLen ∧ (A = none → cap = 0) ∧
     ∀ i, i < len → ∀ j f, fs[j]? = some f → ∃ m y, DataW.trod enc P W base (fun _ => true) held m f.type [V i j] = some y ∧ ∀ n ∈ y.1.weights P f.type, n ∈ x.1.weights P t := by
 rcases Deep.open_slice ht h with ⟨hcs, _⟩ | ⟨a, l, c, m, n, D, Pl, hcs, hb, hl, hc, hm, hx, hi⟩
 · simp only [List.cons.injEq, Value.slice.injEq, and_true] at hcs
   obtain ⟨rfl, rfl, rfl⟩ := hcs
   exact ⟨fun _ _ => undef, Row.nil _ _, Nat.le_refl _, by simp [maxLen], fun _ => rfl, fun i hi => by omega⟩
 · simp only [List.cons.injEq, Value.slice.injEq, and_true] at hcs
   obtain ⟨rfl, rfl, rfl⟩ := hcs
   simp only [if_true] at hm
   subst hm
   have each : ∀ i, i < len → ∃ v : Nat → Value, (∀ j, j < fs.size → W.cell? (a.add (i * fs.size + j)) = some (v j)) ∧ ∀ j f, fs[j]? = some f → ∃ m y, DataW.trod enc P W base (fun _ => true) held m f.type [v j] = some y ∧ ∀ n ∈ y.1.weights P f.type, n ∈ x.1.weights P t := by
    intro i hlt
    obtain ⟨cs', hcells, htr⟩ := hi i (by omega)
    obtain ⟨_, hlen, hcell⟩ := World.cells?_some hcells
    rw [hC] at hlen hcell
    obtain ⟨xs, n', _, hxd, _, hxl, hf⟩ := DataW.trod_struct he htr
    have hxD : D i = .agg (xs.map (·.1)) := congrArg (·.1) hxd
    have hmem : D i ∈ (List.range len).map D := List.mem_map.2 ⟨i, List.mem_range.2 hlt, rfl⟩
    refine ⟨fun j => cs'.getD j undef, fun j hj => ?_, fun j f hjf => ?_⟩
    · have := hcell j hj
      rw [Deep.add_add] at this
      rw [this]; show cs'[j]? = some (cs'.getD j undef); rw [List.getD_eq_getElem?_getD, List.getElem?_eq_getElem (by omega)]; rfl
    · have hlt' : j < fs.size := (Array.getElem?_eq_some_iff.1 hjf).1
      obtain ⟨ho, hc1⟩ := hone j f hjf
      have g := hf j f hjf
      rw [ho, hc1, Deep.take1_drop cs' j undef (by omega), List.getElem?_eq_getElem (by omega)] at g
      refine ⟨n', _, g, fun n hn => ?_⟩
      rw [hx]
      refine weights_slice ht hmem n ?_
      rw [hxD, weights_agg he]
      exact DataW.weights_mem_each (j := j) (by rw [List.getElem?_map, Array.getElem?_toList, hjf]; rfl) (by rw [List.getElem?_map, List.getElem?_eq_getElem (by omega)]; rfl) n hn
   have : Inhabited (Nat → Value) := ⟨fun _ => undef⟩
   obtain ⟨V, hV⟩ := Deep.choose_lt each
   exact ⟨V, row_of_cells hpos (fun i hlt j hj => (hV i hlt).1 j hj), hl, hc, (fun e => by cases e), fun i hlt j f hjf => (hV i hlt).2 j f hjf⟩
theorem cell_int {m : Nat} {t : TypeId} {k : IntKind} {v : Value} {y : DataW H × List MemPlace} (ht : P.underlying t = some (.int k)) (h : DataW.trod enc P W base (fun _ => true) held m t [v] = some y) : ∃ n, v = .int k n ∧ (Lit.int k n).wf = true := by
 obtain ⟨n, h1, _, h2⟩ := DataW.trod_int ht h
 exact ⟨n, by simpa using h1, h2⟩
theorem cell_string {m : Nat} {t : TypeId} {v : Value} {y : DataW H × List MemPlace} (ht : P.underlying t = some .string) (h : DataW.trod enc P W base (fun _ => true) held m t [v] = some y) {B : Nat} (hB : ∀ n ∈ y.1.weights P t, n ≤ B) : ∃ s : ByteArray, v = .string s ∧ s.size ≤ B := by
 obtain ⟨s, h1, h3, h2⟩ := DataW.trod_string ht h
 exact ⟨s, by simpa using h1, hB _ (by rw [h3]; simp [DataW.weights])⟩
end
end Kit
namespace Rec
open Go Go.RowKit Kit
def Rec.ok (r : Rec) : Prop := (Lit.int .i64 r.kind).wf = true ∧ (Lit.int .i64 r.queue).wf = true ∧ (Lit.int .i64 r.id).wf = true ∧ (Lit.int .i64 r.num).wf = true ∧ (Lit.int .i64 r.wait).wf = true ∧ r.body.length ≤ 140737488355328
instance : Inhabited Rec := ⟨⟨0, 0, 0, 0, 0, []⟩⟩
theorem open_records {H : Type} {enc : TypeId × Value → H} {P : Program} {W : World} {base : Nat} {held : Bool} {fuel : Nat} {t e : TypeId} {fs : Array Field} {A : Option Addr} {len cap : Nat} {x : DataW H × List MemPlace} (ht : P.underlying t = some (.slice e)) (he : P.underlying e = some (.struct fs))
    (hone : ∀ (i : Nat) (f : Field), fs[i]? = some f → f.offset = i ∧ P.cellsOf f.type = 1) (hC : P.cellsOf e = fs.size) (f0 f1 f2 f3 f4 f5 : Field) (hf : fs = #[f0, f1, f2, f3, f4, f5])
    (h0 : P.underlying f0.type = some (.int .i64)) (h1 : P.underlying f1.type = some (.int .i64)) (h2 : P.underlying f2.type = some (.int .i64)) (h3 : P.underlying f3.type = some (.int .i64)) (h4 : P.underlying f4.type = some (.int .i64)) (h5 : P.underlying f5.type = some .string)
    (h : DataW.trod enc P W base (fun _ => true) held fuel t [.slice A len cap] = some x) (hB : ∀ n ∈ x.1.weights P t, n ≤ 140737488355328) :
    ∃ cs : List Rec, cs.length = len ∧ Row W A (cs.flatMap rcells) ∧ len ≤ cap ∧ cap ≤ maxLen ∧ (A = none → cap = 0) ∧ ∀ c ∈ cs, c.ok := by
 have hsz : fs.size = 6 := by rw [hf]; rfl
 obtain ⟨V, hr, hl, hc, hn, hV⟩ := open_recs ht he hone hC (by omega) h
 have each : ∀ i, i < len → ∃ c : Rec, (List.range 6).map (V i) = rcells c ∧ c.ok := by
  intro i hi
  have g := hV i hi
  rw [hf] at g
  obtain ⟨_, _, g0, b0⟩ := g 0 f0 rfl; obtain ⟨_, _, g1, b1⟩ := g 1 f1 rfl; obtain ⟨_, _, g2, b2⟩ := g 2 f2 rfl
  obtain ⟨_, _, g3, b3⟩ := g 3 f3 rfl; obtain ⟨_, _, g4, b4⟩ := g 4 f4 rfl; obtain ⟨_, _, g5, b5⟩ := g 5 f5 rfl
  obtain ⟨k, e0, w0⟩ := cell_int h0 g0; obtain ⟨q, e1, w1⟩ := cell_int h1 g1; obtain ⟨d, e2, w2⟩ := cell_int h2 g2
  obtain ⟨n, e3, w3⟩ := cell_int h3 g3; obtain ⟨u, e4, w4⟩ := cell_int h4 g4; obtain ⟨s5, e5, w5⟩ := cell_string h5 g5 (fun n hn => hB _ (b5 n hn))
  refine ⟨⟨k, q, d, n, u, sl s5⟩, ?_, w0, w1, w2, w3, w4, by show (sl s5).length ≤ _; rw [sl_length]; exact w5⟩
  show [V i 0, V i 1, V i 2, V i 3, V i 4, V i 5] = _
  rw [e0, e1, e2, e3, e4, e5]; rfl
 obtain ⟨C, hC2⟩ := Deep.choose_lt each
 refine ⟨(List.range len).map C, by simp, ?_, hl, hc, hn, fun c hcm => ?_⟩
 · rw [hsz] at hr
   have e : ((List.range len).flatMap fun i => (List.range 6).map (V i)) = ((List.range len).map C).flatMap rcells := by
    rw [List.flatMap_map]
    exact Deep.flatMap_congr_range fun i hi => (hC2 i hi).1
   rwa [e] at hr
 · obtain ⟨i, hi, rfl⟩ := List.mem_map.1 hcm
   exact (hC2 i (List.mem_range.1 hi)).2
end Rec
namespace Com
open Go Go.RowKit Kit
open Rec (Rec rcells Rrow open_records)
structure Stp where
 turn : Bool
 A : Option Addr
 n : Nat
 c : Nat
 rs : List Rec
 fuse : Int
 keep : Nat
 again : Bool
def Stp.cells (s : Stp) : List Value := [.bool s.turn, .slice s.A s.n s.c, .int .i64 s.fuse, .int .u64 (s.keep : Int), .bool s.again]
theorem Stp.cells_length (s : Stp) : s.cells.length = 5 := rfl
structure StpOk (W : World) (s : Stp) : Prop where
 len : s.rs.length = s.n
 row : Rrow W s.A s.rs
 cap : s.n ≤ s.c
 mx : s.c ≤ maxLen
 nil : s.A = none → s.c = 0
 keep : s.keep < 18446744073709551616
 fuse : -9223372036854775808 ≤ s.fuse ∧ s.fuse ≤ 9223372036854775807
 ok : ∀ r ∈ s.rs, r.ok
 few : s.c ≤ 140737488355328
instance : Inhabited Stp := ⟨⟨false, none, 0, 0, [], 0, 0, false⟩⟩
section
variable {H : Type} {enc : TypeId × Value → H} {P : Program} {W : World} {base : Nat} {held : Bool} {fuel : Nat}
theorem cell_flag {m : Nat} {t : TypeId} {v : Value} {y : DataW H × List MemPlace} (ht : P.underlying t = some .bool) (h : DataW.trod enc P W base (fun _ => true) held m t [v] = some y) : ∃ b, v = .bool b := by
 obtain ⟨b, h1, _⟩ := DataW.trod_bool ht h
 exact ⟨b, by simpa using h1⟩
theorem cell_slice {m : Nat} {t e : TypeId} {v : Value} {y : DataW H × List MemPlace} (ht : P.underlying t = some (.slice e)) (hb1 : 0 < P.bytesOf e) (h : DataW.trod enc P W base (fun _ => true) held m t [v] = some y) {B : Nat} (hB : ∀ n ∈ y.1.weights P t, n ≤ B) : ∃ A n c, v = .slice A n c ∧ c ≤ B := by
 rcases Deep.open_slice ht h with ⟨hcs, _⟩ | ⟨a, l, c, m, n, D, Pl, hcs, hb, hl, hc, hm, hx, hi⟩
 · simp only [List.cons.injEq, and_true] at hcs
   exact ⟨_, _, _, hcs, Nat.zero_le _⟩
 · simp only [List.cons.injEq, and_true] at hcs
   refine ⟨_, _, _, hcs, ?_⟩
   simp only [if_true] at hm
   subst hm
   have h1 := hB (m * P.bytesOf e) (by
    rw [hx]
    simp only [DataW.weights, ht]
    refine List.mem_cons.2 (.inl ?_)
    simp only [List.length_map, List.length_range]
    rw [show l + (m - l) = m by omega])
   exact Nat.le_trans (Nat.le_mul_of_pos_right m hb1) h1
theorem open_steps {t e re : TypeId} {fs gs : Array Field} {A : Option Addr} {len cap : Nat} {x : DataW H × List MemPlace} (ht : P.underlying t = some (.slice e)) (he : P.underlying e = some (.struct fs))
    (hone : ∀ (i : Nat) (f : Field), fs[i]? = some f → f.offset = i ∧ P.cellsOf f.type = 1) (hC : P.cellsOf e = fs.size) (f0 f1 f2 f3 f4 : Field) (hf : fs = #[f0, f1, f2, f3, f4])
    (h0 : P.underlying f0.type = some .bool) (h1 : P.underlying f1.type = some (.slice re)) (h2 : P.underlying f2.type = some (.int .i64)) (h3 : P.underlying f3.type = some (.int .u64)) (h4 : P.underlying f4.type = some .bool)
    (hre : P.underlying re = some (.struct gs)) (hrb : 0 < P.bytesOf re) (hone2 : ∀ (i : Nat) (f : Field), gs[i]? = some f → f.offset = i ∧ P.cellsOf f.type = 1) (hC2 : P.cellsOf re = gs.size) (g0 g1 g2 g3 g4 g5 : Field) (hg : gs = #[g0, g1, g2, g3, g4, g5])
    (i0 : P.underlying g0.type = some (.int .i64)) (i1 : P.underlying g1.type = some (.int .i64)) (i2 : P.underlying g2.type = some (.int .i64)) (i3 : P.underlying g3.type = some (.int .i64)) (i4 : P.underlying g4.type = some (.int .i64)) (i5 : P.underlying g5.type = some .string)
    (h : DataW.trod enc P W base (fun _ => true) held fuel t [.slice A len cap] = some x) (hB : ∀ n ∈ x.1.weights P t, n ≤ 140737488355328) :
    ∃ ss : List Stp, ss.length = len ∧ Row W A (ss.flatMap Stp.cells) ∧ len ≤ cap ∧ cap ≤ maxLen ∧ (A = none → cap = 0) ∧ ∀ s ∈ ss, StpOk W s := by
 have hsz : fs.size = 5 := by rw [hf]; rfl
 obtain ⟨V, hr, hl, hc, hn, hV⟩ := open_recs ht he hone hC (by omega) h
 have each : ∀ i, i < len → ∃ s : Stp, (List.range 5).map (V i) = s.cells ∧ StpOk W s := by
  intro i hi
  have g := hV i hi
  rw [hf] at g
  obtain ⟨_, _, q0, b0⟩ := g 0 f0 rfl; obtain ⟨_, _, q1, b1⟩ := g 1 f1 rfl; obtain ⟨_, _, q2, b2⟩ := g 2 f2 rfl
  obtain ⟨_, _, q3, b3⟩ := g 3 f3 rfl; obtain ⟨_, _, q4, b4⟩ := g 4 f4 rfl
  obtain ⟨k, e0⟩ := cell_flag h0 q0
  obtain ⟨X, n, c, e1, cB⟩ := cell_slice h1 hrb q1 (fun n hn => hB _ (b1 n hn))
  rw [e1] at q1
  obtain ⟨rs, l1, l2, l3, l4, l5, l6⟩ := open_records h1 hre hone2 hC2 g0 g1 g2 g3 g4 g5 hg i0 i1 i2 i3 i4 i5 q1 (fun n hn => hB _ (b1 n hn))
  obtain ⟨u, e2, w2⟩ := cell_int h2 q2
  obtain ⟨K, e3, w3⟩ := cell_int h3 q3
  obtain ⟨a, e4⟩ := cell_flag h4 q4
  have hK : 0 ≤ K ∧ K < 18446744073709551616 := by
   simp [Lit.wf, IntKind.min, IntKind.max, IntKind.signed, IntKind.bits] at w3
   omega
  have hq : -9223372036854775808 ≤ u ∧ u ≤ 9223372036854775807 := by
   simp [Lit.wf, IntKind.min, IntKind.max, IntKind.signed, IntKind.bits] at w2
   omega
  refine ⟨⟨k, X, n, c, rs, u, K.toNat, a⟩, ?_, ⟨l1, l2, l3, l4, l5, by show K.toNat < _; omega, hq, l6, cB⟩⟩
  show [V i 0, V i 1, V i 2, V i 3, V i 4] = [_, _, _, .int .u64 ((K.toNat : Nat) : Int), _]
  rw [e0, e1, e2, e3, e4, show ((K.toNat : Nat) : Int) = K by omega]
 obtain ⟨C, hC3⟩ := Deep.choose_lt each
 refine ⟨(List.range len).map C, by simp, ?_, hl, hc, hn, fun c hcm => ?_⟩
 · rw [hsz] at hr
   have e : ((List.range len).flatMap fun i => (List.range 5).map (V i)) = ((List.range len).map C).flatMap Stp.cells := by
    rw [List.flatMap_map]
    exact Deep.flatMap_congr_range fun i hi => (hC3 i hi).1
   rwa [e] at hr
 · obtain ⟨i, hi, rfl⟩ := List.mem_map.1 hcm
   exact (hC3 i (List.mem_range.1 hi)).2
end
end Com
open Go
theorem own : ownKnob Tryz.prog.godebug = none := by kernel_rfl
theorem laidOut : laidOutB Tryz.prog = true := by kernel_rfl
end Go.Proofs.YtigdlnfgdjfdoaaGreat
