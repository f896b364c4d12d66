/- An argument that is an array of bytes, opened. No program is named here. -/
import Derived.Test.YtchdobneipfghaaZG00
import Derived.WideKeyArr2
import Derived.ChangeArms
namespace Go.Proofs.Ytchdobneipfghaa.Kit
set_option linter.unusedVariables false
set_option linter.unusedSimpArgs false
open Go Go.ChangeShapes Go.WideShapes

theorem mapM_each {α β : Type} {f : α → Option β} : ∀ {L : List α} {ys : List β}, L.mapM f = some ys → ∀ i ∈ L, ∃ y, f i = some y
  | [], _, _, i, hi => by cases hi
  | a :: L, ys, h, i, hi => by
    rw [List.mapM_cons] at h
    simp only [bind, Option.bind_eq_some_iff, pure, Option.some.injEq] at h
    obtain ⟨y, hy, zs, hzs, _⟩ := h
    rcases List.mem_cons.1 hi with rfl | hi
    · exact ⟨y, hy⟩
    · exact mapM_each hzs i hi
theorem u8_wf {n : Int} (h : (Lit.int .u8 n).wf = true) : ∃ a : UInt8, Value.int .u8 n = bv a := by
  have h3 : IntKind.u8.min ≤ n ∧ n ≤ IntKind.u8.max := by simpa [Lit.wf] using h
  have h4 : IntKind.u8.min = 0 := by kernel_rfl
  have h5 : IntKind.u8.max = 255 := by kernel_rfl
  refine ⟨UInt8.ofNat n.toNat, ?_⟩
  rw [bv, UInt8.toNat_ofNat']
  congr 1
  omega
theorem bytes_of {xs : List Value} (h : ∀ u ∈ xs, ∃ x : UInt8, u = bv x) : ∃ l : List UInt8, xs = bvs l := by
  induction xs with
  | nil => exact ⟨[], rfl⟩
  | cons a xs ih =>
    obtain ⟨x, rfl⟩ := h a (by simp)
    obtain ⟨l, rfl⟩ := ih (fun u hu => h u (by simp [hu]))
    exact ⟨x :: l, rfl⟩
theorem open_barr {H : Type} {enc : TypeId × Value → H} {P : Program} {W : World} {base b0 : Nat} {sp : Nat → Bool} {held : Bool} {r : Reach} {t e : TypeId} {n : Nat} {v : Value} {d : DataW H} {ps : List MemPlace}
    (ht : P.underlying t = some (.array n e)) (he : P.underlying e = some (.int .u8)) (hc : P.cellsOf e = 1) (hC : P.cellsOf t = n)
    (hval : Value.okWide P W r b0 t v) (hd : DataW.Trod enc P W base sp held t v d ps) : ∃ l : List UInt8, v = .agg (bvs l).toArray ∧ l.length = n := by
  simp only [Value.okWide, ht] at hval
  obtain ⟨cs, rfl, hn, _⟩ := hval
  rw [hC] at hn
  obtain ⟨fuel, hf⟩ := hd
  cases fuel with
  | zero => simp [DataW.trod] at hf
  | succ m =>
    rw [DataW.trod_step] at hf
    unfold DataW.trodStep at hf
    simp only [ht, Value.cells] at hf
    rw [if_pos (by rw [hC]; simpa using hn)] at hf
    simp only [Option.map_eq_some_iff] at hf
    obtain ⟨ys, hy, _⟩ := hf
    have each : ∀ u ∈ cs.toList, ∃ x : UInt8, u = bv x := by
      intro u hu
      obtain ⟨i, hi, rfl⟩ := List.mem_iff_getElem.1 hu
      obtain ⟨y, h1⟩ := mapM_each hy i (List.mem_range.2 (by rw [← hn]; simpa using hi))
      obtain ⟨k, h2, _, h3⟩ := DataW.trod_int he h1
      rw [hc, Nat.mul_one, List.drop_eq_getElem_cons hi] at h2
      simp only [List.take_succ_cons, List.take_zero, List.cons.injEq, and_true] at h2
      obtain ⟨a, ha⟩ := u8_wf h3
      exact ⟨a, by rw [h2, ha]⟩
    obtain ⟨l, hl⟩ := bytes_of each
    refine ⟨l, ?_, ?_⟩
    · rw [← hl]
    · have := congrArg List.length hl
      rw [bvs_length] at this
      rw [← this]; simpa using hn
end Go.Proofs.Ytchdobneipfghaa.Kit
