/- Lemmas: ScrC ChaGt. -/
import Derived.Test.YtndkmfflpphoiaaZG03
import Derived.Test.YtndkmfflpphoiaaZG19
set_option linter.unusedVariables false
set_option linter.unusedSimpArgs false
namespace Go.Proofs.Ytndkmfflpphoiaa.Disk
open Go Go.RowKit Kit
/-- A script's call. -/
structure Cc where
  kind : Int
  s : List UInt8
  n : Int
  K : Nat
def Cc.cells (c : Cc) : List Value := [.int .i64 c.kind, .string (str c.s), .int .i64 c.n, .int .u64 (c.K : Int)]
theorem Cc.length (c : Cc) : c.cells.length = 4 := rfl
structure CcOk (c : Cc) : Prop where
  K : c.K < 18446744073709551616
  n : c.n ≤ 9223372036854775807
  s : c.s.length ≤ 140737488355328
instance : Inhabited Cc := ⟨⟨0, [], 0, 0⟩⟩
theorem open_ccalls {H : Type} {enc : TypeId × Value → H} {P : Program} {W : World} {base : Nat} {held : Bool} {fuel : Nat} {t e : TypeId} {fs : Array Field} {A : Option Addr} {len cap : Nat} {x : DataW H × List MemPlace} (ht : P.underlying t = some (.slice e)) (he : P.underlying e = some (.struct fs))
    (hone : ∀ (i : Nat) (f : Field), fs[i]? = some f → f.offset = i ∧ P.cellsOf f.type = 1) (hC : P.cellsOf e = fs.size) (f0 f1 f2 f3 : Field) (hf : fs = #[f0, f1, f2, f3])
    (h0 : P.underlying f0.type = some (.int .i64)) (h1 : P.underlying f1.type = some .string) (h2 : P.underlying f2.type = some (.int .i64)) (h3 : P.underlying f3.type = some (.int .u64))
    (h : DataW.trod enc P W base (fun _ => true) held fuel t [.slice A len cap] = some x) (hB : ∀ n ∈ x.1.weights P t, n ≤ 140737488355328) :
    ∃ cs : List Cc, cs.length = len ∧ Row W A (cs.flatMap Cc.cells) ∧ len ≤ cap ∧ cap ≤ maxLen ∧ (A = none → cap = 0) ∧ ∀ c ∈ cs, CcOk c := by
  have hsz : fs.size = 4 := by rw [hf]; rfl
  obtain ⟨V, hr, hl, hc, hn, hV⟩ := open_recs ht he hone hC (by omega) h
  have each : ∀ i, i < len → ∃ c : Cc, (List.range 4).map (V i) = c.cells ∧ CcOk c := by
    intro i hi
    have g := hV i hi
    rw [hf] at g
    obtain ⟨_, _, g0, b0⟩ := g 0 f0 rfl; obtain ⟨_, _, g1, b1⟩ := g 1 f1 rfl; obtain ⟨_, _, g2, b2⟩ := g 2 f2 rfl; obtain ⟨_, _, g3, b3⟩ := g 3 f3 rfl
    obtain ⟨k, e0, w0⟩ := cell_int h0 g0; obtain ⟨s1, e1, w1⟩ := cell_string h1 g1 (fun n hn => hB _ (b1 n hn)); obtain ⟨n, e2, w2⟩ := cell_int h2 g2; obtain ⟨K, e3, w3⟩ := cell_int h3 g3
    have hK : 0 ≤ K ∧ K < 18446744073709551616 := by
      simp [Lit.wf, IntKind.min, IntKind.max, IntKind.signed, IntKind.bits] at w3
      omega
    have hn : n ≤ 9223372036854775807 := by
      simp [Lit.wf, IntKind.min, IntKind.max, IntKind.signed, IntKind.bits] at w2
      omega
    refine ⟨⟨k, sl s1, n, K.toNat⟩, ?_, ⟨by show K.toNat < _; omega, hn, by show (sl s1).length ≤ _; rw [sl_length]; exact w1⟩⟩
    show [V i 0, V i 1, V i 2, V i 3] = _
    rw [e0, e1, e2, e3, Cc.cells, show ((K.toNat : Nat) : Int) = K by omega]; rfl
  obtain ⟨C, hC2⟩ := Deep.choose_lt each
  refine ⟨(List.range len).map C, by simp, ?_, hl, hc, hn, fun c hcm => ?_⟩
  · rw [hsz] at hr
    have e : ((List.range len).flatMap fun i => (List.range 4).map (V i)) = ((List.range len).map C).flatMap Cc.cells := by
      rw [List.flatMap_map]
      exact Deep.flatMap_congr_range fun i hi => (hC2 i hi).1
    rwa [e] at hr
  · obtain ⟨i, hi, rfl⟩ := List.mem_map.1 hcm
    exact (hC2 i (List.mem_range.1 hi)).2
theorem Cc.one (x : Cc) : ∀ u ∈ x.cells, u.oneCell' = true := by
  intro u hu
  simp only [Cc.cells, List.mem_cons, List.not_mem_nil, or_false] at hu
  rcases hu with rfl | rfl | rfl | rfl <;> rfl
theorem takeS {α : Type} (l : List α) (k : Nat) (x : α) (h : l[k]? = some x) : l.take (k + 1) = l.take k ++ [x] := by
  obtain ⟨hk, rfl⟩ := List.getElem?_eq_some_iff.1 h
  exact List.take_succ_eq_append_getElem hk
theorem ccs_at {w : World} {A : Option Addr} {cs : List Cc} (h : Row w A (cs.flatMap Cc.cells)) (k : Nat) (x : Cc) (hx : cs[k]? = some x) : ∃ b o, A = some ⟨b, o, none⟩ ∧ w.rangeAt b (o + k * 4) x.cells := by
  have hk : k < cs.length := (List.getElem?_eq_some_iff.1 hx).1
  rcases h with h | ⟨b, o, rfl, _, hc⟩
  · have := congrArg List.length h
    rw [fm_length cs (fun a _ => a.length)] at this
    have h9 : cs.length * 4 = 0 := this
    omega
  · refine ⟨b, o, rfl, fun j v hv => ?_⟩
    have := hc (k * 4 + j) v (fm_part cs (fun a _ => a.length) k x hx j v hv)
    rw [← Nat.add_assoc] at this
    exact this
/-- How many bytes there are. -/
def tot (cs : List Cc) : Nat := (cs.map (·.s.length)).sum
theorem tot_snoc (cs : List Cc) (k : Nat) (x : Cc) (hx : cs[k]? = some x) : tot (cs.take (k + 1)) = tot (cs.take k) + x.s.length := by
  rw [takeS cs k x hx, tot, tot, List.map_append, List.sum_append]
  simp
theorem tot_take (cs : List Cc) (k : Nat) : tot (cs.take k) ≤ tot cs := by
  conv => rhs; rw [← List.take_append_drop k cs]
  rw [tot, tot, List.map_append, List.sum_append]; omega
theorem tot_at (cs : List Cc) (x : Cc) (hx : x ∈ cs) : x.s.length ≤ tot cs := by
  obtain ⟨k, hk, rfl⟩ := List.mem_iff_getElem.1 hx
  have h1 := tot_snoc cs k _ (List.getElem?_eq_getElem hk)
  have h2 := tot_take cs (k + 1)
  omega
def greatB (cs : List Cc) : Bool := decide (16384 < tot cs) || decide (40 < cs.length)
theorem call_under : Try.prog.underlying 35 = some (.struct (Try.prog.fieldsOf 35)) := by kernel_rfl
theorem call_size (x : Cc) : (Try.prog.info? 35).map (·.size) = some x.cells.length := by rw [x.length]; kernel_rfl
set_option maxHeartbeats 2000000 in
set_option maxRecDepth 100000 in
theorem great_any (A : Option Addr) (n c : Nat) (cs : List Cc) (w : World) (hn : cs.length = n) (hr : Row w A (cs.flatMap Cc.cells)) (hl : ∀ x ∈ cs, x.s.length ≤ 140737488355328) (hm : n ≤ maxLen) :
    Calls Try.prog 9 #[.slice A n c] w fun e w' => e = .returned (.bool (greatB cs)) ∧ Kp nob w w' := by
  have HN := Lib.hid hn; have HR := Lib.hid hr; have HL := Lib.hid hl
  have hm' : n ≤ 9223372036854775807 := by simpa [maxLen] using hm
  clear hn hr hl hm
  go_enter Try.func9, Try.ntmps9
  go_wp2
  go_loopw [3, 8] (fun vs vi wr => ∃ (k s : Nat), k ≤ n ∧ vi = .int .i64 k ∧ vs = .int .i64 s ∧ s = tot (cs.take k) ∧ s ≤ 16384 ∧ Kp nob w wr)
    (fun _ vi _ => n - (intOf vi).toNat)
  case atStart => exact ⟨0, 0, Nat.zero_le _, rfl, rfl, rfl, Nat.zero_le _, Kp.refl _ _⟩
  case round =>
    obtain ⟨k, s, hk, rfl, rfl, hs, hs2, kr⟩ := hrel
    have HS := Lib.hid hs; have HKr := Lib.hid kr
    clear hs kr
    by_cases hlt : k < n
    · obtain ⟨x, hx⟩ : ∃ x, cs[k]? = some x := ⟨_, List.getElem?_eq_getElem (by rw [HN.out]; exact hlt)⟩
      obtain ⟨b, o, rfl, hrg⟩ := ccs_at (HR.out.keep0 HKr.out) k x hx
      have HRG := Lib.hid hrg
      have HX := Lib.hid (tot_snoc cs k x hx)
      have hxn := HL.out x (List.mem_of_getElem? hx)
      obtain ⟨s1, hs1⟩ : ∃ s1, s1 = s + x.s.length := ⟨_, rfl⟩
      have HS1 := Lib.hid hs1
      have e1 : IntKind.i64.wrap ((s : Int) + (x.s.length : Int)) = (s1 : Int) := by rw [IntWalk.i64_in _ (by omega)]; omega
      have HE1 := Lib.hid e1
      obtain ⟨k1, hk1⟩ : ∃ k1, k1 = k + 1 := ⟨_, rfl⟩
      have HE5 := Lib.hid (show IntKind.i64.wrap ((k : Int) + 1) = (k1 : Int) by rw [IntWalk.i64_in _ (by omega)]; omega)
      have HK1 := Lib.hid hk1
      have HM := Lib.hid hm'
      by_cases hg : 16384 < s1
      · have d1 : decide ((16384 : Int) < (s1 : Int)) = true := by simp; omega
        have HG := Lib.hid (show greatB cs = true by
          have h2 := tot_take cs (k + 1)
          rw [HX.out, ← HS.out, ← HS1.out] at h2
          unfold greatB
          rw [decide_eq_true (by omega)]; rfl)
        have HD1 := Lib.hid d1
        clear hx hrg hs1 e1 hxn hk1 hg d1 hs2
        go_wp2_with (first
          | (refine wpList_load_mid rfl 35 (.tmp 10) rfl b (o + k * 4) rfl x.cells _ HRG.out call_under rfl (call_size x) ?_)
          | (refine wpList_store_new rfl 35 (.tmp 5) (.tmp 11) rfl _ x.cells rfl rfl rfl (call_size x) x.one ?_
             intro w5 hB5 k5 z5
             obtain ⟨g5, hg5⟩ : ∃ g, g = wr.heap.size := ⟨_, rfl⟩
             rw [← hg5] at hB5 ⊢
             have c2 : w5.cell? ⟨g5, 1, none⟩ = some (.string (str x.s)) := by rw [hB5.cell]; rfl
             have hsz := str_size x.s
             have HK5 := Lib.hid k5
             have e1 := HE1.out; have d1 := HD1.out
             clear hB5 k5 z5 hg5))
        go_ret
        rw [HG.out]
        exact ⟨rfl, HKr.out.trans HK5.out (fun _ e => e.elim)⟩
      · have d1 : decide ((16384 : Int) < (s1 : Int)) = false := by simp; omega
        have HD1 := Lib.hid d1
        have HG := Lib.hid (show s1 ≤ 16384 by omega)
        clear hx hrg hs1 e1 hxn hk1 hg d1 hs2
        go_wp2_with (first
          | (refine wpList_load_mid rfl 35 (.tmp 10) rfl b (o + k * 4) rfl x.cells _ HRG.out call_under rfl (call_size x) ?_)
          | (refine wpList_store_new rfl 35 (.tmp 5) (.tmp 11) rfl _ x.cells rfl rfl rfl (call_size x) x.one ?_
             intro w5 hB5 k5 z5
             obtain ⟨g5, hg5⟩ : ∃ g, g = wr.heap.size := ⟨_, rfl⟩
             rw [← hg5] at hB5 ⊢
             have c2 : w5.cell? ⟨g5, 1, none⟩ = some (.string (str x.s)) := by rw [hB5.cell]; rfl
             have hsz := str_size x.s
             have HK5 := Lib.hid k5
             have e1 := HE1.out; have d1 := HD1.out; have e5 := HE5.out
             clear hB5 k5 z5 hg5))
        refine ⟨⟨k1, s1, by rw [HK1.out]; exact hlt, rfl, rfl, by rw [HS1.out, HK1.out, HX.out, HS.out], HG.out, HKr.out.trans HK5.out (fun _ e => e.elim)⟩, by have := HK1.out; simp [intOf]; omega⟩
    · obtain rfl : k = n := by omega
      have HG := Lib.hid (show greatB cs = decide (40 < k) by
        have h1 : tot cs = s := by have := HS.out; rw [List.take_of_length_le (by rw [HN.out]; exact Nat.le_refl _)] at this; exact this.symm
        unfold greatB
        rw [h1, HN.out, decide_eq_false (by omega)]; rfl)
      have d1 : decide ((40 : Int) < (k : Int)) = decide (40 < k) := by
        rw [Bool.eq_iff_iff, decide_eq_true_iff, decide_eq_true_iff]; omega
      have HD1 := Lib.hid d1
      clear hlt hk hs2 d1
      go_wp2
      go_ret
      rw [HG.out]
      exact ⟨by rw [← HD1.out]; rfl, HKr.out⟩
end Go.Proofs.Ytndkmfflpphoiaa.Disk
