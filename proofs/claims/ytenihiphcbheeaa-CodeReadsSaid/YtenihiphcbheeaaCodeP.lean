/- The parts that the statements of layer 1 play: what a slice of them reads. -/
import Derived.Test.YtenihiphcbheeaaCodeA
import Derived.Deep.Slices
import Derived.Deep.Fields
import Derived.ChangeSame
namespace Go.Proofs.Ytenihiphcbheeaa
open Go Go.RowKit Kit

structure PartD where
  kind : Int
  n : Int
  s : ByteArray
  lo : Int
  hi : Int

/-- The slice '.slice A ps.length c' reads these parts. -/
def RowP (w : World) (A : Option Addr) (ps : List PartD) : Prop :=
  ps = [] ∨ ∃ b o, A = some ⟨b, o, none⟩ ∧ b < w.heap.size ∧ ∀ i p, ps[i]? = some p →
    w.cell? ⟨b, o + i * 5, none⟩ = some (.int .i64 p.kind) ∧ w.cell? ⟨b, o + i * 5 + 1, none⟩ = some (.int .i64 p.n) ∧ w.cell? ⟨b, o + i * 5 + 2, none⟩ = some (.string p.s) ∧
    w.cell? ⟨b, o + i * 5 + 3, none⟩ = some (.int .i64 p.lo) ∧ w.cell? ⟨b, o + i * 5 + 4, none⟩ = some (.int .i64 p.hi)
theorem RowP.keep {F : Nat → Prop} {w w' : World} {A : Option Addr} {ps : List PartD} (h : RowP w A ps) (hk : Kp F w w') (hf : ∀ k, ab A = some k → ¬ F k) : RowP w' A ps := by
  rcases h with rfl | ⟨b, o, rfl, hb, hc⟩
  · exact .inl rfl
  · refine .inr ⟨b, o, rfl, Nat.lt_of_lt_of_le hb hk.size, fun i p hp => ?_⟩
    have e : ∀ j, w'.cell? ⟨b, j, none⟩ = w.cell? ⟨b, j, none⟩ := fun j => hk.cell (p := ⟨b, j, none⟩) hb (hf b rfl)
    rw [e, e, e, e, e]
    exact hc i p hp
theorem RowP.keep0 {w w' : World} {A : Option Addr} {ps : List PartD} (h : RowP w A ps) (hk : Kp nob w w') : RowP w' A ps := h.keep hk (fun _ _ e => e)
theorem RowP.at_ {w : World} {A : Option Addr} {ps : List PartD} (h : RowP w A ps) {i : Nat} (hi : i < ps.length) : ∃ b o, A = some ⟨b, o, none⟩ ∧ b < w.heap.size ∧
    w.cell? ⟨b, o + i * 5, none⟩ = some (.int .i64 ps[i].kind) ∧ w.cell? ⟨b, o + i * 5 + 1, none⟩ = some (.int .i64 ps[i].n) ∧ w.cell? ⟨b, o + i * 5 + 2, none⟩ = some (.string ps[i].s) ∧
    w.cell? ⟨b, o + i * 5 + 3, none⟩ = some (.int .i64 ps[i].lo) ∧ w.cell? ⟨b, o + i * 5 + 4, none⟩ = some (.int .i64 ps[i].hi) := by
  rcases h with rfl | ⟨b, o, rfl, hb, hc⟩
  · simp at hi
  · exact ⟨b, o, rfl, hb, hc i _ (List.getElem?_eq_getElem hi)⟩

theorem c_int : Try.prog.cellsOf 3 = 1 := by kernel_rfl
theorem c_str : Try.prog.cellsOf 9 = 1 := by kernel_rfl
theorem c_part : Try.prog.cellsOf 39 = 5 := by kernel_rfl
theorem five {α : Type} (l : List α) (h : l.length = 5) : ∃ a b c d e, l = [a, b, c, d, e] := by
  match l, h with
  | [a, b, c, d, e], _ => exact ⟨a, b, c, d, e, rfl⟩
theorem part_of {H : Type} {enc : TypeId × Value → H} {W : World} {base : Nat} {spare : Nat → Bool} {held : Bool} {fuel : Nat} {cs : List Value} {x : DataW H × List MemPlace}
    (h : DataW.trod enc Try.prog W base spare held fuel 39 cs = some x) : ∃ p : PartD, cs = [.int .i64 p.kind, .int .i64 p.n, .string p.s, .int .i64 p.lo, .int .i64 p.hi] ∧ p.s.size ∈ x.1.weights Try.prog 39 ∧ (Lit.int .i64 p.n).wf = true := by
  obtain ⟨xs, n, _, hx, hlen, hxl, hf⟩ := DataW.trod_struct Try.underlying39 h
  rw [c_part] at hlen
  obtain ⟨c0, c1, c2, c3, c4, rfl⟩ := five cs hlen
  have hx5 : xs.length = 5 := hxl
  have get : ∀ i, i < 5 → ∃ y, xs[i]? = some y := fun i hi => ⟨_, List.getElem?_eq_getElem (by omega)⟩
  obtain ⟨y0, e0⟩ := get 0 (by omega)
  obtain ⟨y1, e1⟩ := get 1 (by omega)
  obtain ⟨y2, e2⟩ := get 2 (by omega)
  obtain ⟨y3, e3⟩ := get 3 (by omega)
  obtain ⟨y4, e4⟩ := get 4 (by omega)
  have f0 : DataW.trod enc Try.prog W base spare held n 3 (([c0, c1, c2, c3, c4].drop 0).take (Try.prog.cellsOf 3)) = xs[0]? := hf 0 _ rfl
  have f1 : DataW.trod enc Try.prog W base spare held n 3 (([c0, c1, c2, c3, c4].drop 1).take (Try.prog.cellsOf 3)) = xs[1]? := hf 1 _ rfl
  have f2 : DataW.trod enc Try.prog W base spare held n 9 (([c0, c1, c2, c3, c4].drop 2).take (Try.prog.cellsOf 9)) = xs[2]? := hf 2 _ rfl
  have f3 : DataW.trod enc Try.prog W base spare held n 3 (([c0, c1, c2, c3, c4].drop 3).take (Try.prog.cellsOf 3)) = xs[3]? := hf 3 _ rfl
  have f4 : DataW.trod enc Try.prog W base spare held n 3 (([c0, c1, c2, c3, c4].drop 4).take (Try.prog.cellsOf 3)) = xs[4]? := hf 4 _ rfl
  simp only [c_int, c_str, List.drop_succ_cons, List.drop_zero, List.take_succ_cons, List.take_zero, e0, e1, e2, e3, e4] at f0 f1 f2 f3 f4
  obtain ⟨n0, g0, _⟩ := DataW.trod_int Try.underlying3 f0
  obtain ⟨n1, g1, _, wf1⟩ := DataW.trod_int Try.underlying3 f1
  obtain ⟨s2, g2, hy2, hs⟩ := DataW.trod_string u8_string f2
  obtain ⟨n3, g3, _⟩ := DataW.trod_int Try.underlying3 f3
  obtain ⟨n4, g4, _⟩ := DataW.trod_int Try.underlying3 f4
  simp only [List.cons.injEq, and_true] at g0 g1 g2 g3 g4
  refine ⟨⟨n0, n1, s2, n3, n4⟩, by rw [g0, g1, g2, g3, g4], ?_, wf1⟩
  rw [hx]
  simp only [DataW.weights, Try.underlying39]
  refine DataW.weights_mem_each (j := 2) (t := 9) (d := y2.1) rfl (by simp [e2]) _ ?_
  rw [hy2]
  simp [DataW.weights]
theorem parts_of {H : Type} {enc : TypeId × Value → H} {W : World} {base : Nat} {held : Bool} {fuel : Nat} {A : Option Addr} {len cap : Nat} {x : DataW H × List MemPlace}
    (h : DataW.trod enc Try.prog W base (fun _ => true) held fuel 22 [.slice A len cap] = some x) : ∃ ps : List PartD, ps.length = len ∧ RowP W A ps ∧ len ≤ maxLen ∧ ∀ p ∈ ps, p.s.size ∈ x.1.weights Try.prog 22 ∧ (Lit.int .i64 p.n).wf = true := by
  rcases Go.Deep.open_slice Try.underlying22 h with ⟨hcs, _⟩ | ⟨a, l, c, m, n, D, Pl, hcs, _, hl, hm, hmm, hx, hi⟩
  · simp only [List.cons.injEq, Value.slice.injEq, and_true] at hcs
    obtain ⟨rfl, rfl, rfl⟩ := hcs
    exact ⟨[], rfl, .inl rfl, by simp [maxLen], by simp⟩
  · simp only [List.cons.injEq, Value.slice.injEq, and_true] at hcs
    obtain ⟨rfl, rfl, rfl⟩ := hcs
    have hlm : len ≤ m := by rw [hmm]; simpa using hl
    have key : ∀ k, k ≤ len → ∃ ps : List PartD, ps.length = k ∧ (∀ p ∈ ps, p.s.size ∈ x.1.weights Try.prog 22 ∧ (Lit.int .i64 p.n).wf = true) ∧ ∀ i p, ps[i]? = some p → ∀ j u, [Value.int .i64 p.kind, .int .i64 p.n, .string p.s, .int .i64 p.lo, .int .i64 p.hi][j]? = some u → W.cell? ((a.add (i * 5)).add j) = some u := by
      intro k
      induction k with
      | zero => exact fun _ => ⟨[], rfl, by simp, by simp⟩
      | succ k ih =>
        intro hk
        obtain ⟨ps, h1, h3, h2⟩ := ih (by omega)
        obtain ⟨cs', hc, ht⟩ := hi k (by omega)
        obtain ⟨p, rfl, hps⟩ := part_of ht
        rw [c_part] at hc
        obtain ⟨_, _, hcell⟩ := World.cells?_some hc
        refine ⟨ps ++ [p], by simp [h1], ?_, fun i q hq j u hu => ?_⟩
        · intro q hq
          simp only [List.mem_append, List.mem_singleton] at hq
          rcases hq with hq | rfl
          · exact h3 q hq
          · rw [hx]
            exact ⟨weights_slice Try.underlying22 (d := D k) (List.mem_map.2 ⟨k, List.mem_range.2 (by omega), rfl⟩) _ hps.1, hps.2⟩
        · rw [List.getElem?_append] at hq
          split at hq
          · exact h2 i q hq j u hu
          · rename_i hge
            have hik : i - ps.length = 0 := by
              rcases Nat.eq_zero_or_pos (i - ps.length) with h | h
              · exact h
              · rw [List.getElem?_eq_none (by simp; omega)] at hq; cases hq
            rw [hik] at hq
            simp at hq
            subst hq
            have e : i = k := by omega
            subst e
            have hj : j < 5 := by
              rcases Nat.lt_or_ge j 5 with h | h
              · exact h
              · rw [List.getElem?_eq_none (by simpa using h)] at hu; cases hu
            rw [hcell j hj]
            exact hu
    obtain ⟨ps, h1, h3, h2⟩ := key len (Nat.le_refl _)
    refine ⟨ps, h1, ?_, Nat.le_trans hl hm, h3⟩
    by_cases h0 : len = 0
    · exact .inl (List.eq_nil_of_length_eq_zero (by omega))
    · obtain ⟨p0, hp0⟩ : ∃ p, ps[0]? = some p := ⟨_, List.getElem?_eq_getElem (by omega)⟩
      have hc0 := h2 0 p0 hp0 0 _ rfl
      obtain ⟨b, o, sp⟩ := a
      cases sp with
      | some j => simp [Addr.add, World.cell?] at hc0; split at hc0 <;> simp at hc0
      | none =>
        refine .inr ⟨b, o, rfl, World.block_lt_of_cell? W _ hc0, fun i p hp => ?_⟩
        have H := h2 i p hp
        have ea : ∀ j, ((⟨b, o, none⟩ : Addr).add (i * 5)).add j = ⟨b, o + i * 5 + j, none⟩ := by
          intro j
          by_cases hi0 : i * 5 = 0 <;> by_cases hj0 : j = 0 <;> simp [Addr.add, hi0, hj0]
        exact ⟨by have := H 0 _ rfl; rwa [ea] at this, by have := H 1 _ rfl; rwa [ea] at this, by have := H 2 _ rfl; rwa [ea] at this, by have := H 3 _ rfl; rwa [ea] at this, by have := H 4 _ rfl; rwa [ea] at this⟩

/-- The cells of parts. -/
def pcells (p : PartD) : List Value := [.int .i64 p.kind, .int .i64 p.n, .string p.s, .int .i64 p.lo, .int .i64 p.hi]
def pcellsAll (ps : List PartD) : List Value := ps.flatMap pcells
theorem pcellsAll_length (ps : List PartD) : (pcellsAll ps).length = ps.length * 5 := by
  induction ps with
  | nil => rfl
  | cons p ps ih => simp only [pcellsAll, List.flatMap_cons, List.length_append, List.length_cons] at *; rw [ih]; simp [pcells]; omega
theorem pcellsAll_one (ps : List PartD) : ∀ u ∈ pcellsAll ps, u.oneCell' = true := by
  intro u hu
  simp only [pcellsAll, List.mem_flatMap, pcells] at hu
  obtain ⟨p, _, hu⟩ := hu
  simp only [List.mem_cons, List.not_mem_nil, or_false] at hu
  rcases hu with rfl | rfl | rfl | rfl | rfl <;> rfl
theorem pcellsAll_get (ps : List PartD) (i j : Nat) (hj : j < 5) : (pcellsAll ps)[i * 5 + j]? = (ps[i]?).bind fun p => (pcells p)[j]? := by
  induction ps generalizing i with
  | nil => simp [pcellsAll]
  | cons p ps ih =>
    cases i with
    | zero =>
      simp only [pcellsAll, List.flatMap_cons, Nat.zero_mul, Nat.zero_add]
      rw [List.getElem?_append_left (by simpa [pcells] using hj)]
      simp
    | succ i =>
      simp only [pcellsAll, List.flatMap_cons] at *
      rw [List.getElem?_append_right (by simp [pcells]; omega)]
      have e : (i + 1) * 5 + j - (pcells p).length = i * 5 + j := by simp [pcells]; omega
      rw [e, ih]
      simp
theorem RowP.row {w : World} {A : Option Addr} {ps : List PartD} (h : RowP w A ps) : Row w A (pcellsAll ps) := by
  rcases h with rfl | ⟨b, o, rfl, hb, hc⟩
  · exact .inl rfl
  · refine .inr ⟨b, o, rfl, hb, fun i u hu => ?_⟩
    have e : i = i / 5 * 5 + i % 5 := by omega
    rw [e, pcellsAll_get ps (i / 5) (i % 5) (by omega)] at hu
    cases hp : ps[i / 5]? with
    | none => rw [hp] at hu; simp at hu
    | some p =>
      rw [hp] at hu
      simp only [Option.bind_some] at hu
      have H := hc (i / 5) p hp
      rw [e]
      have h5 : i % 5 < 5 := by omega
      revert hu H
      generalize i / 5 = q
      generalize i % 5 = r at *
      intro hu H
      match r, h5 with
      | 0, _ => simp [pcells] at hu; subst hu; exact H.1
      | 1, _ => simp [pcells] at hu; subst hu; rw [← Nat.add_assoc]; exact H.2.1
      | 2, _ => simp [pcells] at hu; subst hu; rw [← Nat.add_assoc]; exact H.2.2.1
      | 3, _ => simp [pcells] at hu; subst hu; rw [← Nat.add_assoc]; exact H.2.2.2.1
      | 4, _ => simp [pcells] at hu; subst hu; rw [← Nat.add_assoc]; exact H.2.2.2.2
theorem RowP.of_row {w : World} {A : Option Addr} {ps : List PartD} (h : Row w A (pcellsAll ps)) : RowP w A ps := by
  rcases h with h | ⟨b, o, rfl, hb, hc⟩
  · have := congrArg List.length h
    rw [pcellsAll_length] at this
    exact .inl (List.eq_nil_of_length_eq_zero (by simp at this; omega))
  · refine .inr ⟨b, o, rfl, hb, fun i p hp => ?_⟩
    have H : ∀ j, j < 5 → ∀ u, (pcells p)[j]? = some u → w.cell? ⟨b, o + (i * 5 + j), none⟩ = some u := fun j hj u hu => hc _ _ (by rw [pcellsAll_get ps i j hj, hp]; exact hu)
    exact ⟨H 0 (by omega) _ rfl, by rw [Nat.add_assoc]; exact H 1 (by omega) _ rfl, by rw [Nat.add_assoc]; exact H 2 (by omega) _ rfl, by rw [Nat.add_assoc]; exact H 3 (by omega) _ rfl, by rw [Nat.add_assoc]; exact H 4 (by omega) _ rfl⟩
theorem pcellsAll_append (a b : List PartD) : pcellsAll (a ++ b) = pcellsAll a ++ pcellsAll b := by simp [pcellsAll]
end Go.Proofs.Ytenihiphcbheeaa
