/- Lemmas: ShpS SegBackW Arr. -/
import Derived.Test.YtiimfhacnfdmhaaGreatZG31
import Derived.WideKeyArr2
set_option linter.unusedVariables false
set_option linter.unusedSimpArgs false
namespace Go.Proofs.YtiimfhacnfdmhaaGreat.Sha
open Go Go.RowKit Kit
theorem word_of_has {n : Int} (h : IntKind.has .u32 n) : ∃ b : UInt32, Value.int .u32 n = uv b := by
  have h1 : (0 : Int) ≤ n := h.1
  have h2 : n ≤ (4294967295 : Int) := h.2
  refine ⟨UInt32.ofNat n.toNat, ?_⟩
  have e : ((UInt32.ofNat n.toNat).toNat : Int) = n := by
    rw [UInt32.toNat_ofNat']
    omega
  rw [uv, cw, e]
theorem words_of_each (l : List Value) (h : ∀ v ∈ l, ∃ b : UInt32, v = uv b) : ∃ bs : List UInt32, bs.length = l.length ∧ l = uvs bs := by
  induction l with
  | nil => exact ⟨[], rfl, rfl⟩
  | cons v l ih =>
    obtain ⟨b, hb⟩ := h v (by simp)
    obtain ⟨bs, h1, h2⟩ := ih (fun x hx => h x (by simp [hx]))
    exact ⟨b :: bs, by simp [h1], by simp [uvs] at h2 ⊢; exact ⟨hb, h2⟩⟩
theorem words_of_shapedOpen {P : Program} {w : World} {g n : Nat} {t u : TypeId} {zero : Array Value}
    (h : w.ShapedOpen P) (hg : g < P.globals.size) (h0 : ((begin P (fun _ _ => 0) default).world.heap[g]?).bind Obj.row? = some (zero, t)) (hz : zero.size = n)
    (hb : P.buildable t = true) (hc : P.cellTypes P.depth t = some (List.replicate n u)) (hu : P.underlying u = some (.int .u32)) :
    ∃ l : List UInt32, l.length = n ∧ w.rangeAt g 0 (uvs l) := by
  obtain ⟨cs, hh, hs, hr⟩ := h.1 g zero t hg h0
  obtain ⟨ts, hts, _, hall⟩ := hr hb
  rw [hc] at hts
  cases hts
  have he : ∀ v ∈ cs.toList, ∃ b : UInt32, v = uv b := by
    intro v hv
    obtain ⟨i, hi⟩ := List.mem_iff_getElem?.1 hv
    obtain ⟨x, hx, hok⟩ := hall i v (by simpa using hi)
    have hxu : x = u := by
      have hm := List.mem_of_getElem? hx
      exact (List.mem_replicate.1 hm).2
    subst hxu
    unfold Cell.ok at hok
    rw [hu] at hok
    cases v <;> simp at hok
    obtain ⟨rfl, hk⟩ := hok
    exact word_of_has hk
  obtain ⟨l, hl, hv⟩ := words_of_each cs.toList he
  refine ⟨l, by rw [hl]; simp [hs, hz], ?_⟩
  intro j v hj
  rw [← hv] at hj
  have hj' : cs[j]? = some v := by simpa using hj
  obtain ⟨hlt, _⟩ := Array.getElem?_eq_some_iff.1 hj'
  simp [World.cell?, hh, hj']
theorem st_of (l : List UInt32) (h : l.length = 8) : ∃ s : St, s.list = l := by
  match l, h with
  | [a, b, c, d, e, f, g, h], _ => exact ⟨⟨a, b, c, d, e, f, g, h⟩, rfl⟩
set_option maxRecDepth 100000 in
theorem tabs_of_shaped {w : World} (h : w.ShapedOpen Tryz.prog) : ∃ T : ShaTab, @Tabs ⟨T⟩ w := by
  obtain ⟨l, hl, hr⟩ := words_of_shapedOpen (n := 8) (g := 0) (t := 112) (u := 111) (zero := (List.replicate 8 (Value.int .u32 0)).toArray) h (of_decide_eq_true (by kernel_rfl)) (by kernel_rfl) (by simp) (by kernel_rfl) (by kernel_rfl) (by kernel_rfl)
  obtain ⟨k, hk, hq⟩ := words_of_shapedOpen (n := 64) (g := 1) (t := 114) (u := 111) (zero := (List.replicate 64 (Value.int .u32 0)).toArray) h (of_decide_eq_true (by kernel_rfl)) (by kernel_rfl) (by simp) (by kernel_rfl) (by kernel_rfl) (by kernel_rfl)
  obtain ⟨s, rfl⟩ := st_of l hl
  refine ⟨⟨s, k, hk⟩, ?_⟩
  letI : Inhabited ShaTab := ⟨⟨s, k, hk⟩⟩
  have e1 : H0 = s := by with_unfolding_all rfl
  have e2 : Ks = k := by with_unfolding_all rfl
  exact ⟨by rw [e1]; exact hr, by rw [e2]; exact hq⟩
end Go.Proofs.YtiimfhacnfdmhaaGreat.Sha
namespace Go.Proofs.YtiimfhacnfdmhaaGreat.Seg
open Go Go.RowKit Kit
open Rec (Rec rcells)
theorem back_any (real : Bool) (epoch seq : Int) (at' : List UInt8) (A : Option Addr) (n c : Nat) (rs : List Rec) (w : World) (hsh : w.ShapedOpen Tryz.prog)
    (he : (Lit.int .i64 epoch).wf = true) (hsq : (Lit.int .i64 seq).wf = true) (h32 : at'.length = 32) (hl : rs.length = n) (hn : A = none → c = 0) (hr : Row w A (rs.flatMap rcells)) (hc : n ≤ c) (hm : c ≤ maxLen) (hw : ∀ r ∈ rs, r.ok) :
    Calls Tryz.prog 5 #[.bool real, .int .i64 epoch, .int .i64 seq, .agg (bvs at').toArray, .slice A n c] w fun e w' => e = .returned (.bool true) ∧ Kp nob w w' := by
  obtain ⟨T, hT⟩ := Sha.tabs_of_shaped hsh
  letI : Inhabited Sha.ShaTab := ⟨T⟩
  obtain ⟨l, hl8, hr8⟩ := Field.sq_of_shaped hsh
  letI : Inhabited Field.SqTab := ⟨⟨l, hl8⟩⟩
  have hs : Field.Sq w := by
    unfold Field.Sq
    have e : Field.gSQ = l := by with_unfolding_all rfl
    rw [e]; exact hr8
  have hg : 2 < w.heap.size := by
    have h0 := hr8 0 (bv (l[0]'(by omega))) (by unfold bvs; rw [List.getElem?_map, List.getElem?_eq_getElem (by omega)]; rfl)
    rcases Nat.lt_or_ge 2 w.heap.size with h | h
    · exact h
    · exfalso
      simp [World.cell?, Array.getElem?_eq_none h] at h0
  exact back_walk pk pack_c pk_shape unpack_c sectors_c length_c size_c real epoch seq at' A n c rs w hT hs hg he hsq h32 hl hn hr hc hm
end Go.Proofs.YtiimfhacnfdmhaaGreat.Seg
namespace Go.Proofs.YtiimfhacnfdmhaaGreat.Kit
open Go Go.ChangeShapes Go.WideShapes
theorem mapM_each {α β : Type} {f : α → Option β} : ∀ {L : List α} {ys : List β}, L.mapM f = some ys → ∀ i ∈ L, ∃ y, f i = some y
  | [], _, _, i, hi => by cases hi
  | a :: L, ys, h, i, hi => by
    rw [List.mapM_cons] at h
    simp only [bind, Option.bind_eq_some_iff, pure, Option.some.injEq] at h
    obtain ⟨y, hy, zs, hzs, _⟩ := h
    rcases List.mem_cons.1 hi with rfl | hi
    · exact ⟨y, hy⟩
    · exact mapM_each hzs i hi
theorem u8_wf {n : Int} (h : (Lit.int .u8 n).wf = true) : ∃ a : UInt8, Value.int .u8 n = bv a := by
  have h3 : IntKind.u8.min ≤ n ∧ n ≤ IntKind.u8.max := by simpa [Lit.wf] using h
  have h4 : IntKind.u8.min = 0 := by kernel_rfl
  have h5 : IntKind.u8.max = 255 := by kernel_rfl
  refine ⟨UInt8.ofNat n.toNat, ?_⟩
  rw [bv, UInt8.toNat_ofNat']
  congr 1
  omega
theorem bytes_of {xs : List Value} (h : ∀ u ∈ xs, ∃ x : UInt8, u = bv x) : ∃ l : List UInt8, xs = bvs l := by
  induction xs with
  | nil => exact ⟨[], rfl⟩
  | cons a xs ih =>
    obtain ⟨x, rfl⟩ := h a (by simp)
    obtain ⟨l, rfl⟩ := ih (fun u hu => h u (by simp [hu]))
    exact ⟨x :: l, rfl⟩
theorem open_barr {H : Type} {enc : TypeId × Value → H} {P : Program} {W : World} {base b0 : Nat} {sp : Nat → Bool} {held : Bool} {r : Reach} {t e : TypeId} {n : Nat} {v : Value} {d : DataW H} {ps : List MemPlace}
    (ht : P.underlying t = some (.array n e)) (he : P.underlying e = some (.int .u8)) (hc : P.cellsOf e = 1) (hC : P.cellsOf t = n)
    (hval : Value.okWide P W r b0 t v) (hd : DataW.Trod enc P W base sp held t v d ps) : ∃ l : List UInt8, v = .agg (bvs l).toArray ∧ l.length = n := by
  simp only [Value.okWide, ht] at hval
  obtain ⟨cs, rfl, hn, _⟩ := hval
  rw [hC] at hn
  obtain ⟨fuel, hf⟩ := hd
  cases fuel with
  | zero => simp [DataW.trod] at hf
  | succ m =>
    rw [DataW.trod_step] at hf
    unfold DataW.trodStep at hf
    simp only [ht, Value.cells] at hf
    rw [if_pos (by rw [hC]; simpa using hn)] at hf
    simp only [Option.map_eq_some_iff] at hf
    obtain ⟨ys, hy, _⟩ := hf
    have each : ∀ u ∈ cs.toList, ∃ x : UInt8, u = bv x := by
      intro u hu
      obtain ⟨i, hi, rfl⟩ := List.mem_iff_getElem.1 hu
      obtain ⟨y, h1⟩ := mapM_each hy i (List.mem_range.2 (by rw [← hn]; simpa using hi))
      obtain ⟨k, h2, _, h3⟩ := DataW.trod_int he h1
      rw [hc, Nat.mul_one, List.drop_eq_getElem_cons hi] at h2
      simp only [List.take_succ_cons, List.take_zero, List.cons.injEq, and_true] at h2
      obtain ⟨a, ha⟩ := u8_wf h3
      exact ⟨a, by rw [h2, ha]⟩
    obtain ⟨l, hl⟩ := bytes_of each
    refine ⟨l, ?_, ?_⟩
    · rw [← hl]
    · have := congrArg List.length hl
      rw [bvs_length] at this
      rw [← this]; simpa using hn
end Go.Proofs.YtiimfhacnfdmhaaGreat.Kit
