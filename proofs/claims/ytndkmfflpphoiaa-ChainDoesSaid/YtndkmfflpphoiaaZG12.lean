/- Lemmas: DskH DskI DskJ DskK DskFg. -/
import Derived.Test.YtndkmfflpphoiaaZG20
set_option linter.unusedVariables false
set_option linter.unusedSimpArgs false
namespace Go.Proofs.Ytndkmfflpphoiaa.Disk
open Go Go.RowKit Kit
theorem pred_any (x : Nat × List UInt8) (gi i : Nat) (w : World) (hi : w.cell? ⟨gi, 0, none⟩ = some (.int .i64 (i : Int))) (hl : gi < w.heap.size) :
    Calls Try.prog 50 #[.agg (wcell x).toArray, .pointer (some ⟨gi, 0, none⟩)] w fun e w' => e = .returned (.bool (decide (x.1 = i))) ∧ Kp nob w w' := by
  have h1 : (w.alloc (.cells (wcell x).toArray 91)).cell? ⟨w.heap.size, 0, none⟩ = some (.int .i64 (x.1 : Int)) := by rw [(Blk.new w 91 (wcell x)).cell]; rfl
  have h2 : (w.alloc (.cells (wcell x).toArray 91)).cell? ⟨gi, 0, none⟩ = some (.int .i64 (i : Int)) := by rw [((Kp.refl nob w).alloc _).cell hl (fun e => e)]; exact hi
  have HE := Lib.hid (show ((x.1 : Int) == (i : Int)) = decide (x.1 = i) by rw [Bool.eq_iff_iff, beq_iff_eq, decide_eq_true_iff]; omega)
  have K := Lib.hid ((Kp.refl nob w).alloc (.cells (wcell x).toArray 91))
  go_enter Try.func50, Try.ntmps50
  go_wp2
  go_ret
  rw [← HE.out]
  exact ⟨rfl, K.out⟩
/-- The closure that asks for a sector's number. -/
def predV (gi : Nat) : Value := .func (.func 50) #[] #[.pointer (some ⟨gi, 0, none⟩)]
/-- Where the first of them is. -/
def FirstAt (xs : List (Nat × List UInt8)) (i : Nat) (r : Int) : Prop := (∃ (k : Nat) (x : Nat × List UInt8), r = k ∧ xs[k]? = some x ∧ x.1 = i ∧ ∀ y ∈ xs.take k, y.1 ≠ i) ∨ (r = -1 ∧ ∀ y ∈ xs, y.1 ≠ i)
theorem take_snoc {α : Type} (xs : List α) (k : Nat) (x : α) (h : xs[k]? = some x) : xs.take (k + 1) = xs.take k ++ [x] := by
  rw [List.take_add_one, h]; rfl
set_option maxHeartbeats 4000000 in
set_option maxRecDepth 100000 in
theorem index_any (xs : List (Nat × List UInt8)) (gi i : Nat) (W : Option Addr) (n c : Nat) (w : World) (hw : OwnK 257 91 w W n c (xs.flatMap wcell)) (hn : xs.length = n) (hl : ∀ x ∈ xs, x.2.length = 256) (hm : n ≤ 100000)
    (hi : w.cell? ⟨gi, 0, none⟩ = some (.int .i64 (i : Int))) (hg : gi < w.heap.size) :
    Calls Try.prog 60 #[.slice W n c, predV gi] w fun e w' => ∃ r, e = .returned (.int .i64 r) ∧ FirstAt xs i r ∧ Kp nob w w' := by
  have HW := Lib.hid hw; have HN := Lib.hid hn; have HL := Lib.hid hl; have HI := Lib.hid (And.intro hi hg)
  unfold predV
  clear hw hn hl hi hg
  go_enter Try.func60, Try.ntmps60
  go_wp2
  go_loopw [5, 8] (fun _ vi wr => ∃ (k : Nat), k ≤ n ∧ vi = .int .i64 k ∧ (∀ y ∈ xs.take k, y.1 ≠ i) ∧ Kp nob w wr)
    (fun _ vi _ => n - (intOf vi).toNat)
  case atStart => exact ⟨0, by omega, rfl, (fun y hy => by cases hy), Kp.refl _ _⟩
  case round =>
    obtain ⟨k, hk, rfl, ha, hkp⟩ := hrel
    have HA := Lib.hid ha; have HKr := Lib.hid hkp
    clear ha hkp
    by_cases hlt : k < n
    · obtain ⟨x, hx⟩ : ∃ x, xs[k]? = some x := ⟨_, List.getElem?_eq_getElem (by rw [HN.out]; exact hlt)⟩
      obtain ⟨B, rfl, hrg⟩ := wait_at (HW.out.keep HKr.out (fun _ _ e => e)) HN.out HL.out k x hx
      have HRG := Lib.hid hrg
      have HX2 := Lib.hid (HL.out x (List.mem_of_getElem? hx))
      have HX := Lib.hid hx
      have HP := Lib.hid (pred_any x gi i wr (by rw [HKr.out.cell HI.out.2 (fun e => e)]; exact HI.out.1) (Nat.lt_of_lt_of_le HI.out.2 HKr.out.size))
      clear hx hrg
      by_cases hxi : x.1 = i
      · rw [decide_eq_true hxi] at HP
        have HXI := Lib.hid hxi
        clear hxi
        go_wp2_with (first
          | (refine wpList_load_mid rfl 91 (.tmp 14) rfl B (k * 257) rfl (wcell x) _ HRG.out wr_under rfl (wr_size' x HX2.out) ?_)
          | (go_at_call 50; refine HP.out.mono ?_; rintro e w2 ⟨rfl, k2⟩; have HK2 := Lib.hid k2; clear k2))
        go_ret
        exact ⟨_, rfl, .inl ⟨k, x, rfl, HX.out, HXI.out, HA.out⟩, HKr.out.trans HK2.out (fun _ e => e.elim)⟩
      · rw [decide_eq_false hxi] at HP
        have HXI := Lib.hid hxi
        clear hxi
        go_wp2_with (first
          | (refine wpList_load_mid rfl 91 (.tmp 14) rfl B (k * 257) rfl (wcell x) _ HRG.out wr_under rfl (wr_size' x HX2.out) ?_)
          | (go_at_call 50; refine HP.out.mono ?_; rintro e w2 ⟨rfl, k2⟩; have HK2 := Lib.hid k2; clear k2))
        refine ⟨⟨k + 1, hlt, by go_num, ?_, HKr.out.trans HK2.out (fun _ e => e.elim)⟩, by simp [intOf]; omega⟩
        rw [take_snoc xs k x HX.out]
        intro y hy
        rcases List.mem_append.1 hy with h | h
        · exact HA.out y h
        · rw [List.mem_singleton.1 h]; exact HXI.out
    · obtain rfl : k = n := by omega
      clear hlt hk
      go_wp2
      go_ret
      exact ⟨-1, rfl, .inr ⟨rfl, by have := HA.out; rwa [List.take_of_length_le (by rw [HN.out]; exact Nat.le_refl _)] at this⟩, HKr.out⟩
theorem run_slice_fromK {P : Program} (t e : TypeId) (sz : Nat) (ht : P.underlying t = some (.slice e)) (he : ∀ w, (sizeOf e).run P w = .ok sz w) (g n c k : Nat) (hk : k ≤ n) (hc : k < c) (w : World) :
    (Instr.slice t (.slice (some ⟨g, 0, none⟩) n c) (some (.int .i64 k)) none none).run P w = .ok (.slice (some ⟨g, k * sz, none⟩) (n - k) (c - k)) w := by
  have h1 : (0 : Int) ≤ k ∧ (k : Int) ≤ n := by omega
  have h2 : c ≠ k := by omega
  have h3 : (⟨g, 0, none⟩ : Addr).add (k * sz) = ⟨g, k * sz, none⟩ := by rw [Addr.add_mid, Nat.zero_add]
  simp [Instr.slice, run_underlying ht, Instr.sliceBounds, run_sliceBound, he, hk, h2, h3]
theorem run_slice_toK {P : Program} (t e : TypeId) (sz : Nat) (ht : P.underlying t = some (.slice e)) (he : ∀ w, (sizeOf e).run P w = .ok sz w) (g n c k : Nat) (hk : k ≤ n) (hc : n ≤ c) (w : World) :
    (Instr.slice t (.slice (some ⟨g, 0, none⟩) n c) none (some (.int .i64 k)) none).run P w = .ok (.slice (some ⟨g, 0, none⟩) k c) w := by
  have h1 : (0 : Int) ≤ k ∧ (k : Int) ≤ c := by omega
  have h3 : (⟨g, 0, none⟩ : Addr).add 0 = ⟨g, 0, none⟩ := rfl
  simp [Instr.slice, run_underlying ht, Instr.sliceBounds, run_sliceBound, he, h1]
  exact fun _ => rfl
/-- Elements of several cells, cleared. -/
theorem wpList_clear_mid {P : Program} {w : World} {ops : Array Oper} {rest : List Oper} {o : Oper} {a : Act} {Q : Exit → Act → World → Prop} (hgd : o.guard = none) (s : Operand) (sT : TypeId)
    (ho : o.op = .call { callee := .builtin .clear, args := #[s], argTypes := #[sT] }) (elem : TypeId) (hu : P.underlying sT = some (.slice elem)) (z : List Value) (hv : ∀ w, (zeroValue elem).run P w = .ok (.agg z.toArray) w) (h1 : ∀ v ∈ z, v.oneCell' = true) (hz0 : 0 < z.length)
    (g off n c : Nat) (hn : 0 < n) (hs : a.eval s = .slice (some ⟨g, off, none⟩) n c) (cur : List Value) (t : TypeId) (hg : Blk w g t cur) (hfit : off + n * z.length ≤ cur.length)
    (h : ∀ w' vs, vs.length = n * z.length → Blk w' g t (splice cur off vs) → Kp (oneB g) w w' → w'.heap.size = w.heap.size → wpList P ops Q rest (a.put o.dst (.tuple #[])) w') : wpList P ops Q (o :: rest) a w := by
  refine wpList_plain hgd fun K hK => ?_
  have hl : (Builtin.zeroCells z.toArray n).toList.length = n * z.length := by
    rw [Array.length_toList, size_zeroCells, List.size_toArray]
  have hone : ∀ v ∈ (Builtin.zeroCells z.toArray n).toList, v.oneCell' = true := by
    intro v hv
    simp only [Builtin.zeroCells, Array.toList_map, List.mem_map] at hv
    obtain ⟨i, _, rfl⟩ := hv
    have hlt : i % z.toArray.size < z.toArray.size := Nat.mod_lt _ (by simpa using hz0)
    rw [getElem!_pos z.toArray _ hlt]
    exact h1 _ (by rw [List.getElem_toArray]; exact List.getElem_mem _)
  have hst := run_storeCells_at P g off t (Builtin.zeroCells z.toArray n).toList 0 cur.toArray w hg (by rw [hl]; simpa using hfit) hone
  simp only [Nat.add_zero] at hst
  obtain ⟨m, rfl⟩ : ∃ m, n = m + 1 := ⟨n - 1, by omega⟩
  have hrun : (Builtin.clear_ #[sT] o.type #[.slice (some ⟨g, off, none⟩) (m + 1) c]).run P w = .ok (.tuple #[]) (w.setRow g (splice cur off (Builtin.zeroCells z.toArray (m + 1)).toList).toArray) := by
    simp [Builtin.clear_, run_underlying hu, hv, Value.cells, hst, splice, Result.andThen]
  unfold Oper.wp
  simp [execOp, ho, resolve, invoke, builtin, hs, hrun, Result.andThen]
  exact hK _ _ (h _ _ hl (show _ = _ by simpa using setRow_heap w g _ _ t _ hg) (setRow_kp _ _ _) (by simp [World.setRow]))
/-- The writes that aren't of a sector. -/
def but (i : Nat) (xs : List (Nat × List UInt8)) : List (Nat × List UInt8) := xs.filter fun x => decide (x.1 ≠ i)
theorem but_all (i : Nat) (xs : List (Nat × List UInt8)) (h : ∀ y ∈ xs, y.1 ≠ i) : but i xs = xs := List.filter_eq_self.2 (fun y hy => decide_eq_true (h y hy))
theorem but_snoc (i : Nat) (xs : List (Nat × List UInt8)) (x : Nat × List UInt8) : but i (xs ++ [x]) = but i xs ++ (if x.1 = i then [] else [x]) := by
  rw [but, List.filter_append]
  by_cases h : x.1 = i
  · rw [if_pos h, List.filter_cons_of_neg (by simp [h])]; rfl
  · rw [if_neg h, List.filter_cons_of_pos (by simp [h])]; rfl
theorem but_len (i : Nat) (xs : List (Nat × List UInt8)) : (but i xs).length ≤ xs.length := List.length_filter_le _ _
/-- How far DeleteFunc is: L is what lies there now. -/
structure Dl (xs L : List (Nat × List UInt8)) (i a j : Nat) : Prop where
  len : L.length = xs.length
  l256 : ∀ x ∈ L, x.2.length = 256
  lt : a < j
  le : j ≤ xs.length
  head : L.take a = but i (xs.take j)
  cnt : (but i (xs.take j)).length = a
  tail : L.drop j = xs.drop j
theorem Dl.at_ {xs L : List (Nat × List UInt8)} {i a j : Nat} (h : Dl xs L i a j) (x : Nat × List UInt8) (hx : xs[j]? = some x) : L[j]? = some x := by
  have h1 : (L.drop j)[0]? = (xs.drop j)[0]? := by rw [h.tail]
  rw [List.getElem?_drop, List.getElem?_drop, Nat.add_zero] at h1
  rw [h1]; exact hx
theorem Dl.skip {xs L : List (Nat × List UInt8)} {i a j : Nat} (h : Dl xs L i a j) (x : Nat × List UInt8) (hx : xs[j]? = some x) (hi : x.1 = i) : Dl xs L i a (j + 1) := by
  have hj := (List.getElem?_eq_some_iff.1 hx).1
  have e : but i (xs.take (j + 1)) = but i (xs.take j) := by rw [take_snoc xs j x hx, but_snoc, if_pos hi, List.append_nil]
  refine ⟨h.len, h.l256, by have := h.lt; omega, hj, by rw [e]; exact h.head, by rw [e]; exact h.cnt, ?_⟩
  rw [← List.drop_drop (i := 1) (j := j), ← List.drop_drop (i := 1) (j := j), h.tail]
theorem Dl.put {xs L : List (Nat × List UInt8)} {i a j : Nat} (h : Dl xs L i a j) (x : Nat × List UInt8) (hx : xs[j]? = some x) (hi : x.1 ≠ i) (hl : x.2.length = 256) : Dl xs (L.set a x) i (a + 1) (j + 1) := by
  have hj := (List.getElem?_eq_some_iff.1 hx).1
  have e : but i (xs.take (j + 1)) = but i (xs.take j) ++ [x] := by rw [take_snoc xs j x hx, but_snoc, if_neg hi]
  have hlt := h.lt
  have haL : a < L.length := by rw [h.len]; omega
  refine ⟨by rw [List.length_set, h.len], fun y hy => ?_, by omega, hj, ?_, by rw [e, List.length_append, h.cnt]; rfl, ?_⟩
  · rcases List.mem_or_eq_of_mem_set hy with h1 | h1
    · exact h.l256 y h1
    · rw [h1]; exact hl
  · rw [e, ← h.head, List.take_add_one, List.take_set_of_le (Nat.le_refl _), List.getElem?_set_self haL]; rfl
  · rw [List.drop_set_of_lt (by omega), ← List.drop_drop (i := 1) (j := j), ← List.drop_drop (i := 1) (j := j), h.tail]
theorem Dl.first {xs : List (Nat × List UInt8)} {i k : Nat} {x : Nat × List UInt8} (hx : xs[k]? = some x) (hi : x.1 = i) (ha : ∀ y ∈ xs.take k, y.1 ≠ i) (hl : ∀ x ∈ xs, x.2.length = 256) : Dl xs xs i k (k + 1) := by
  have hk := (List.getElem?_eq_some_iff.1 hx).1
  have e : but i (xs.take (k + 1)) = xs.take k := by rw [take_snoc xs k x hx, but_snoc, if_pos hi, List.append_nil, but_all i _ ha]
  exact ⟨rfl, hl, by omega, hk, e.symm, by rw [e, List.length_take]; omega, rfl⟩
theorem wr_sizeOf (w : World) : (sizeOf 91).run Try.prog w = .ok 257 w := by kernel_rfl
set_option maxHeartbeats 4000000 in
set_option maxRecDepth 100000 in
theorem delete_any (xs : List (Nat × List UInt8)) (gi i : Nat) (W : Option Addr) (n c : Nat) (w : World) (hw : OwnK 257 91 w W n c (xs.flatMap wcell)) (hn : xs.length = n) (hl : ∀ x ∈ xs, x.2.length = 256) (hm : n ≤ 100000)
    (hi : w.cell? ⟨gi, 0, none⟩ = some (.int .i64 (i : Int))) (hg : gi < w.heap.size) (hgw : ∀ k, ab W = some k → k ≠ gi) :
    Calls Try.prog 49 #[.slice W n c, predV gi] w fun e w' => e = .returned (.slice W (but i xs).length c) ∧ OwnK 257 91 w' W (but i xs).length c ((but i xs).flatMap wcell) ∧ Kp (fun k => ab W = some k) w w' := by
  have HX := Lib.hid (index_any xs gi i W n c w hw hn hl hm hi hg)
  have HW := Lib.hid hw; have HN := Lib.hid hn; have HL := Lib.hid hl; have HI := Lib.hid (And.intro hi (And.intro hg hgw))
  clear hw hn hl hi hg hgw
  have hz := zwr_run
  unfold predV at HX ⊢
  go_enter Try.func49, Try.ntmps49
  go_wp2_with fail
  refine HX.out.mono ?_
  rintro e w1 ⟨r, rfl, hr, k1⟩
  have HK1 := Lib.hid k1
  clear k1 HX
  rcases hr with ⟨k, x, rfl, hx, hxi, ha⟩ | ⟨rfl, ha⟩
  · have hk : k < n := by rw [← HN.out]; exact (List.getElem?_eq_some_iff.1 hx).1
    obtain ⟨B, rfl⟩ := HW.out.some_ (by omega)
    obtain ⟨cur, hB, h1, h2, h3, h4⟩ := (HW.out.keep HK1.out (fun _ _ e => e)).blk
    have HD0 := Lib.hid (Dl.first hx hxi ha HL.out)
    obtain ⟨rest, hrest⟩ : ∃ rest, cur = xs.flatMap wcell ++ rest := ⟨cur.drop (n * 257), by rw [← h2, List.take_append_drop]⟩
    have HB0 := Lib.hid (show Blk w1 B 91 (xs.flatMap wcell ++ rest) by rw [← hrest]; exact hB)
    have HLR := Lib.hid (show (xs.flatMap wcell ++ rest).length = c * 257 by rw [← hrest]; exact h1)
    have HC := Lib.hid (And.intro h3 h4)
    have HBG := Lib.hid (HI.out.2.2 B rfl)
    have hne : ((k : Int) == -1) = false := by rw [beq_eq_false_iff_ne]; omega
    clear hx hxi ha hB h1 h2 h3 h4 hrest
    go_wp2
    go_loopw [5, 6] (fun va vj wr => ∃ (a j : Nat) (L : List (Nat × List UInt8)), Dl xs L i a j ∧ va = .int .i64 a ∧ vj = .int .i64 j ∧ Blk wr B 91 (L.flatMap wcell ++ rest) ∧ Kp (oneB B) w1 wr)
      (fun _ vj _ => n - (intOf vj).toNat)
    case atStart => exact ⟨k, k + 1, xs, HD0.out, rfl, by go_num, HB0.out, Kp.refl _ _⟩
    case round =>
      obtain ⟨a, j, L, hd, rfl, rfl, hb, hkp⟩ := hrel
      have hjn : j ≤ n := by rw [← HN.out]; exact hd.le
      have haj := hd.lt
      have HDl := Lib.hid hd; have HB := Lib.hid hb; have HKr := Lib.hid hkp
      clear hd hb hkp
      by_cases hlt : j < n
      · obtain ⟨x, hx⟩ : ∃ x, xs[j]? = some x := ⟨_, List.getElem?_eq_getElem (by rw [HN.out]; exact hlt)⟩
        have HX2 := Lib.hid (HL.out x (List.mem_of_getElem? hx))
        have HFM := Lib.hid (fun a ha => wcell_length a (HDl.out.l256 a ha))
        have HLL := Lib.hid (show (L.flatMap wcell).length = n * 257 by rw [fm_length L HFM.out, HDl.out.len, HN.out])
        have HRG := Lib.hid (HB.out.part (j * 257) (wcell x) (fun q v hv => by
          have h5 := fm_part L HFM.out j x (HDl.out.at_ x hx) q v hv
          rw [List.getElem?_append_left (List.getElem?_eq_some_iff.1 h5).1]; exact h5))
        have HX := Lib.hid hx
        have HPR := Lib.hid (fun (w' : World) (k' : Kp nob wr w') => pred_any x gi i w' (by
          have hlt : gi < w1.heap.size := Nat.lt_of_lt_of_le HI.out.2.1 HK1.out.size
          rw [k'.cell (p := ⟨gi, 0, none⟩) (Nat.lt_of_lt_of_le hlt HKr.out.size) (fun e => e), HKr.out.cell (p := ⟨gi, 0, none⟩) hlt (fun e => HBG.out e.symm), HK1.out.cell HI.out.2.1 (fun e => e)]
          exact HI.out.1) (Nat.lt_of_lt_of_le (Nat.lt_of_lt_of_le (Nat.lt_of_lt_of_le HI.out.2.1 HK1.out.size) HKr.out.size) k'.size))
        clear hx
        by_cases hxi : x.1 = i
        · rw [decide_eq_true hxi] at HPR
          have HXI := Lib.hid hxi
          clear hxi
          go_wp2_with (first
            | (refine wpList_load_mid rfl 91 (.tmp 24) rfl B (j * 257) rfl (wcell x) _ HRG.out wr_under rfl (wr_size' x HX2.out) ?_)
            | (refine wpList_store_blk rfl 91 (.tmp 7) (.tmp 25) rfl _ _ zwr (wcell x) (Blk.new _ _ _) rfl rfl (by rw [wcell_length x HX2.out, zwr_length]) (wr_size' x HX2.out) (wcell_one x) ?_
               intro w5 hB5 k5 z5
               obtain ⟨g5, hg5⟩ : ∃ g, g = wr.heap.size := ⟨_, rfl⟩
               rw [← hg5] at hB5 ⊢
               have HB5 := Lib.hid hB5
               have HK5 := Lib.hid (((Kp.refl nob wr).alloc _).since k5 (fun i e => Nat.le_of_eq e.symm))
               clear hB5 k5 z5 hg5)
            | (refine wpList_load_blk rfl 91 (.tmp 7) rfl _ _ _ HB5.out rfl _ wr_under rfl (wr_size' x HX2.out) ?_)
            | (go_at_call 50; refine (HPR.out _ HK5.out).mono ?_; rintro e w6 ⟨rfl, k6⟩; have HK6 := Lib.hid k6; clear k6))
          refine ⟨⟨a, j + 1, L, HDl.out.skip x HX.out HXI.out, rfl, by go_num, HB.out.keep (HK5.out.trans HK6.out (fun _ e => e.elim)) (fun e => e), HKr.out.trans (HK5.out.trans HK6.out (fun _ e => e.elim)) (fun _ e => e.elim)⟩, by simp [intOf]; omega⟩
        · rw [decide_eq_false hxi] at HPR
          have HXI := Lib.hid hxi
          have HFS := Lib.hid (show splice (L.flatMap wcell ++ rest) (a * 257) (wcell x) = (L.set a x).flatMap wcell ++ rest by
            have ha : a < L.length := by rw [HDl.out.len, HN.out]; omega
            rw [splice_left _ _ _ _ (by rw [HLL.out, wcell_length x HX2.out]; have := HN.out; have := HDl.out.len; omega), fm_set L HFM.out a x ha (wcell_length x HX2.out)])
          have HFL := Lib.hid (show a * 257 + (wcell x).length ≤ (L.flatMap wcell ++ rest).length by rw [List.length_append, HLL.out, wcell_length x HX2.out]; omega)
          clear hxi
          go_wp2_with (first
            | (refine wpList_load_mid rfl 91 (.tmp 24) rfl B (j * 257) rfl (wcell x) _ HRG.out wr_under rfl (wr_size' x HX2.out) ?_)
            | (refine wpList_store_blk rfl 91 (.tmp 7) (.tmp 25) rfl _ _ zwr (wcell x) (Blk.new _ _ _) rfl rfl (by rw [wcell_length x HX2.out, zwr_length]) (wr_size' x HX2.out) (wcell_one x) ?_
               intro w5 hB5 k5 z5
               obtain ⟨g5, hg5⟩ : ∃ g, g = wr.heap.size := ⟨_, rfl⟩
               rw [← hg5] at hB5 ⊢
               have HB5 := Lib.hid hB5
               have HK5 := Lib.hid (((Kp.refl nob wr).alloc _).since k5 (fun i e => Nat.le_of_eq e.symm))
               clear hB5 k5 z5 hg5)
            | (refine wpList_load_blk rfl 91 (.tmp 7) rfl _ _ _ HB5.out rfl _ wr_under rfl (wr_size' x HX2.out) ?_)
            | (go_at_call 50; refine (HPR.out _ HK5.out).mono ?_; rintro e w6 ⟨rfl, k6⟩; have HB6 := Lib.hid (HB5.out.keep k6 (fun e => e)); have HK6 := Lib.hid (HK5.out.trans k6 (fun _ e => e.elim)); clear k6)
            | (refine wpList_load_blk rfl 91 (.tmp 7) rfl _ _ _ HB6.out rfl _ wr_under rfl (wr_size' x HX2.out) ?_)
            | (refine wpList_store_in rfl 91 (.tmp 33) (.tmp 32) rfl B (a * 257) _ _ (wcell x) (HB.out.keep HK6.out (fun e => e)) rfl rfl HFL.out (wr_size' x HX2.out) (wcell_one x) ?_; intro w7 hB7 k7 z7; rw [HFS.out] at hB7; have HB7 := Lib.hid hB7; have HK7 := Lib.hid k7; clear hB7 k7 z7))
          refine ⟨⟨a + 1, j + 1, L.set a x, HDl.out.put x HX.out HXI.out HX2.out, by go_num, by go_num, HB7.out, (HKr.out.trans HK6.out (fun _ e => e.elim)).trans HK7.out (fun _ e => .inl e)⟩, by simp [intOf]; omega⟩
      · obtain rfl : j = n := by omega
        have hac : a < c := by have := HC.out.1; omega
        have HFM := Lib.hid (fun a ha => wcell_length a (HDl.out.l256 a ha))
        have HBT := Lib.hid (show but i xs = L.take a by rw [HDl.out.head, List.take_of_length_le (by rw [HN.out]; exact Nat.le_refl _)])
        have HCN := Lib.hid (show (but i xs).length = a by have := HDl.out.cnt; rwa [List.take_of_length_le (by rw [HN.out]; exact Nat.le_refl _)] at this)
        have HLL := Lib.hid (show (L.flatMap wcell).length = j * 257 by rw [fm_length L HFM.out, HDl.out.len, HN.out])
        have q1 := fun w => run_slice_fromK (P := Try.prog) 70 91 257 wrs_under wr_sizeOf B j c a (by omega) hac w
        have q2 := fun w => run_slice_toK (P := Try.prog) 70 91 257 wrs_under wr_sizeOf B j c a (by omega) HC.out.1 w
        have HFT := Lib.hid (show a * 257 + (j - a) * zwr.length ≤ (L.flatMap wcell ++ rest).length by
          rw [zwr_length, List.length_append, HLL.out, ← Nat.add_mul, show a + (j - a) = j by omega]; omega)
        have HPOS := Lib.hid (show 0 < j - a by omega)
        have HZL := Lib.hid (show 0 < zwr.length by rw [zwr_length]; decide)
        have HJA := Lib.hid (show a ≤ j by omega)
        have HAC := Lib.hid hac
        clear hlt hjn hac
        go_wp2_with (refine wpList_clear_mid rfl (.tmp 38) 70 rfl 91 wrs_under zwr hz zwr_one HZL.out B (a * 257) (j - a) (c - a) HPOS.out rfl _ _ HB.out HFT.out ?_; intro w7 vs lvs hB7 k7 z7; have HB7 := Lib.hid hB7; have HK7 := Lib.hid k7; have HVS := Lib.hid lvs; clear hB7 k7 z7 lvs)
        go_ret
        rw [HCN.out]
        have hlen : a * 257 ≤ (L.flatMap wcell ++ rest).length := by rw [List.length_append, HLL.out]; have := HJA.out; omega
        refine ⟨rfl, OwnK.of_blk HB7.out ?_ ?_ (Nat.le_of_lt HAC.out) HC.out.2, ?_⟩
        · rw [splice_length _ _ _ (by rw [HVS.out]; exact HFT.out), List.length_append, HLL.out]
          have := HLR.out
          rw [List.length_append, fm_length xs (fun a ha => wcell_length a (HL.out a ha)), HN.out] at this
          exact this
        · rw [splice, List.take_append_of_le_length (by rw [List.length_take]; omega), List.take_take, Nat.min_self, List.take_append_of_le_length (by rw [HLL.out]; have := HJA.out; omega), fm_take L HFM.out, HBT.out]
        · exact ((HK1.out.nob _).trans HKr.out (fun i e => .inl (by rw [show i = B from e]; rfl))).trans HK7.out (fun i e => .inl (by rw [show i = B from e]; rfl))
  · have HB := Lib.hid (but_all i xs ha)
    clear ha
    go_wp2
    go_ret
    rw [HB.out, HN.out]
    exact ⟨rfl, HW.out.keep HK1.out (fun _ _ e => e), HK1.out.nob _⟩
set_option maxHeartbeats 4000000 in
set_option maxRecDepth 100000 in
theorem forge_no (D : Dk) (i : Int) (A : Option Addr) (n c : Nat) (b : List UInt8) (g N S : Nat) (W : Option Addr) (cW : Nat) (w : World) (h : Cd w g N S W cW D) (hn : b.length = n) (hr : Row w A (bvs b)) (hm : n ≤ maxLen) (hno : (i < 0 ∨ (D.now.length : Int) ≤ i) ∨ 256 < b.length) :
    Calls Try.prog 26 #[.pointer (some ⟨g, 0, none⟩), .int .i64 i, .slice A n c] w fun e w' => e = .returned (.int .i64 (forge E8 D i b).2) ∧ (forge E8 D i b).1 = D ∧ Kp nob w w' := by
  have HK0 := Lib.hid ((Kp.refl nob w).alloc (.cells #[.int .i64 i] 3))
  have HFI := Lib.hid (filled_any D i A n c b g N S W cW _ (h.keep0 HK0.out) hn (hr.keep0 HK0.out) hm)
  have hF : ∃ s k, fill D i b = (s, k) ∧ s.length = 256 ∧ (k == 0) = false ∧ forge E8 D i b = (D, k) := by
    by_cases h1 : i < 0 ∨ (D.now.length : Int) ≤ i
    · exact ⟨z256, 1, by rw [fill, has_not D i h1]; rfl, z256_length, rfl, by rw [forge, if_pos h1]; rfl⟩
    · have h2 : 256 < b.length := hno.resolve_left h1
      have hh : has D i = true := by unfold has; exact decide_eq_true (by omega)
      exact ⟨z256, 3, by rw [fill, hh, if_pos rfl, if_pos h2], z256_length, rfl, by rw [forge, if_neg h1, if_pos h2]; rfl⟩
  obtain ⟨s, k, hf, hs, hk, hw⟩ := hF
  rw [hf] at HFI
  have HW := Lib.hid hw; have HSL := Lib.hid hs
  have hz := zsec_run
  have hci : (w.alloc (.cells #[.int .i64 i] 3)).cell? ⟨w.heap.size, 0, none⟩ = some (.int .i64 i) := by rw [(Blk.new w 3 [.int .i64 i]).cell]; rfl
  clear hf hw hno hs h hr hm
  go_enter Try.func26, Try.ntmps26
  go_wp2_with fail
  refine HFI.out.mono ?_
  rintro e w2 ⟨rfl, k2⟩
  have HK2 := Lib.hid (HK0.out.trans k2 (fun _ e => e.elim))
  clear k2
  go_wp2_with (refine wpList_store_blk rfl 86 (.tmp 7) (.tmp 16) rfl _ _ zsec (bvs s) (Blk.new _ _ _) rfl rfl (by rw [bvs_length, HSL.out, zsec_length]) (sec_size' _ HSL.out) (bvs_one _) ?_; intro w3 hB3 k3 z3; have HK3 := Lib.hid ((HK2.out.alloc _).since k3 (fun i e => by have e : i = w2.heap.size := e; have := HK2.out.size; omega)); clear hB3 k3 z3)
  go_ret
  rw [HW.out]; exact ⟨rfl, rfl, HK3.out⟩
/-- What is there behind it. -/
theorem cd_forged {w w2 : World} {g N S : Nat} {W : Option Addr} {cW : Nat} {D : Dk} (h : Cd w g N S W cW D) (p : Nat) (b : List UInt8) (hp : p < D.now.length) (hb : b.length ≤ 256)
    (hB : Blk w2 g 72 [.slice (some ⟨N, 0, none⟩) D.now.length D.now.length, .slice (some ⟨S, 0, none⟩) D.now.length D.now.length, .slice W (but p D.waits).length cW, .bool D.off, .int .i64 (D.acts : Int), .int .i64 (D.fuse : Int), .int .u64 (D.keep : Int)])
    (hN : Blk w2 N 86 ((D.now.set p (full b)).flatMap bvs)) (hS : Blk w2 S 86 ((D.safe.set p (full b)).flatMap bvs)) (hW : OwnK 257 91 w2 W (but p D.waits).length cW ((but p D.waits).flatMap wcell)) : Cd w2 g N S W cW (forged D p b) := by
  refine ⟨?_, hN, hS, hW, forged_ok D p b h.ok hb, ?_, ?_, h.ne, h.nw⟩
  · show Blk _ _ _ [.slice _ (D.now.set p (full b)).length (D.now.set p (full b)).length, .slice _ (D.now.set p (full b)).length (D.now.set p (full b)).length, _, _, _, _, _]
    rw [List.length_set]
    exact hB
  · show D.now.set p (full b) = allw (but p D.waits) (D.safe.set p (full b))
    rw [but, allw_forge, ← h.al]
  · show (D.now.set p (full b)).length ≤ 4096
    rw [List.length_set]; exact h.max
set_option maxHeartbeats 4000000 in
set_option maxRecDepth 100000 in
theorem forge_yes (D : Dk) (p : Nat) (A : Option Addr) (n c : Nat) (b : List UInt8) (g N S : Nat) (W : Option Addr) (cW : Nat) (w : World) (h : Cd w g N S W cW D) (hn : b.length = n) (hr : Row w A (bvs b)) (hp : p < D.now.length) (hb : b.length ≤ 256) (hw : D.waits.length ≤ 100000) :
    Calls Try.prog 26 #[.pointer (some ⟨g, 0, none⟩), .int .i64 (p : Int), .slice A n c] w fun e w' => e = .returned (.int .i64 0) ∧ Dz w g N S W (forged D p b) w' := by
  have HK0 := Lib.hid ((Kp.refl nob w).alloc (.cells #[.int .i64 (p : Int)] 3))
  have HFI := Lib.hid (filled_any D p A n c b g N S W cW _ (h.keep0 HK0.out) hn (hr.keep0 HK0.out) (by simp [maxLen]; omega))
  rw [show fill D p b = (full b, 0) by rw [fill, has_of D p hp, if_pos rfl, if_neg (by omega)]] at HFI
  have HD := Lib.hid h
  have HFB := Lib.hid (full_length b hb)
  have HSZ := Lib.hid (sec_size' _ HFB.out)
  have HP := Lib.hid hp; have HBL := Lib.hid hb; have HWL := Lib.hid hw
  have HFS := Lib.hid (flat_set D.now h.ok.now p (full b) hp HFB.out)
  have HFT := Lib.hid (flat_set D.safe h.ok.safe2 p (full b) (by rw [h.ok.safe]; exact hp) HFB.out)
  have HFL := Lib.hid (show p * 256 + (bvs (full b)).length ≤ (D.now.flatMap bvs).length by rw [flat_len _ h.ok.now, bvs_length, HFB.out]; omega)
  have HFM := Lib.hid (show p * 256 + (bvs (full b)).length ≤ (D.safe.flatMap bvs).length by rw [flat_len _ h.ok.safe2, bvs_length, HFB.out, h.ok.safe]; omega)
  have hz := zsec_run
  have HCI := Lib.hid (Blk.new w 3 [.int .i64 (p : Int)])
  have hci : (w.alloc (.cells #[.int .i64 (p : Int)] 3)).cell? ⟨w.heap.size, 0, none⟩ = some (.int .i64 (p : Int)) := by rw [HCI.out.cell]; rfl
  clear h hn hr hb hw
  go_enter Try.func26, Try.ntmps26
  go_wp2_with fail
  refine HFI.out.mono ?_
  rintro e w2 ⟨rfl, k2⟩
  have HC2 := Lib.hid (HCI.out.keep k2 (fun e => e))
  have HK2 := Lib.hid (HK0.out.trans k2 (fun _ e => e.elim))
  clear k2 hci
  go_wp2_with (refine wpList_store_blk rfl 86 (.tmp 7) (.tmp 16) rfl _ _ zsec (bvs (full b)) (Blk.new _ _ _) rfl rfl (by rw [bvs_length, HFB.out, zsec_length]) HSZ.out (bvs_one _) ?_
               intro w3 hB3 k3 z3
               obtain ⟨g3, hg3⟩ : ∃ g3, g3 = w2.heap.size := ⟨_, rfl⟩
               rw [← hg3] at hB3 ⊢
               have HB3 := Lib.hid hB3
               have HK23 := Lib.hid (((Kp.refl nob w2).alloc _).since k3 (fun i e => Nat.le_of_eq e.symm))
               have HG3 := Lib.hid (show w.heap.size < g3 by rw [hg3]; have := HC2.out.lt; exact this)
               clear hB3 k3 z3 hg3)
  have HK3 := Lib.hid (HK2.out.trans HK23.out (fun _ e => e.elim))
  have HC3 := Lib.hid (HC2.out.keep HK23.out (fun e => e))
  have HK4 := Lib.hid (Kp.refl nob w3).drew
  have HD4 := Lib.hid (HD.out.keep0 (HK3.out.trans HK4.out (fun _ e => e.elim)))
  have HS4 := Lib.hid (And.intro HD4.out.b (And.intro (HC3.out.keep HK4.out (fun e => e)) (HB3.out.keep HK4.out (fun e => e))))
  have HK34 := Lib.hid (HK3.out.trans HK4.out (fun _ e => e.elim))
  have HLI := Lib.hid (fun (w' : World) (h : Blk w' w.heap.size 3 [.int .i64 (p : Int)]) => (show w'.cell? ⟨w.heap.size, 0, none⟩ = some (.int .i64 (p : Int)) by rw [h.cell]; rfl))
  refine reg_begin (fun w' => Blk w' g 72 [.slice (some ⟨N, 0, none⟩) D.now.length D.now.length, .slice (some ⟨S, 0, none⟩) D.now.length D.now.length, .slice W D.waits.length cW, .bool D.off, .int .i64 (D.acts : Int), .int .i64 (D.fuse : Int), .int .u64 (D.keep : Int)] ∧ Blk w' w.heap.size 3 [.int .i64 (p : Int)] ∧ Blk w' g3 86 (bvs (full b))) (by kernel_rfl) HS4.out (fun _ => ?_)
  generalize w3.drew = w4 at *
  have hp1 := HP.out
  refine reg_take (v := .pointer (some ⟨g, 0, none⟩)) 0 (some 21) rfl rfl (by kernel_rfl) (by kernel_rfl) (by kernel_rfl) (by rfl) HS4.out (fun w hw => by go_simp) ?_
  simp only [Act.put, List.setIfInBounds_toArray, List.set_cons_zero, List.set_cons_succ]
  refine reg_take (v := .pointer (some ⟨g, 0, none⟩)) 1 (some 22) rfl rfl (by kernel_rfl) (by kernel_rfl) (by kernel_rfl) (by rfl) HS4.out (fun w hw => by go_simp) ?_
  simp only [Act.put, List.setIfInBounds_toArray, List.set_cons_zero, List.set_cons_succ]
  refine reg_take (v := .pointer (some ⟨g, 0, none⟩)) 2 (some 23) rfl rfl (by kernel_rfl) (by kernel_rfl) (by kernel_rfl) (by rfl) HS4.out (fun w hw => by go_simp) ?_
  simp only [Act.put, List.setIfInBounds_toArray, List.set_cons_zero, List.set_cons_succ]
  refine reg_take (v := .slice (some ⟨N, 0, none⟩) D.now.length D.now.length) 3 (some 24) rfl rfl (by kernel_rfl) (by kernel_rfl) (by kernel_rfl) (by rfl) HS4.out (fun w hw => by have hc : w.cell? ⟨g, 0, none⟩ = some (.slice (some ⟨N, 0, none⟩) D.now.length D.now.length) := by { rw [hw.1.cell]; rfl }; go_simp) ?_
  simp only [Act.put, List.setIfInBounds_toArray, List.set_cons_zero, List.set_cons_succ]
  refine reg_take (v := .int .i64 (p : Int)) 4 (some 25) rfl rfl (by kernel_rfl) (by kernel_rfl) (by kernel_rfl) (by rfl) HS4.out (fun w hw => by have hc := HLI.out w hw.2.1; go_simp) ?_
  simp only [Act.put, List.setIfInBounds_toArray, List.set_cons_zero, List.set_cons_succ]
  refine reg_take (v := .pointer (some ⟨g, 0, none⟩)) 5 (some 26) rfl rfl (by kernel_rfl) (by kernel_rfl) (by kernel_rfl) (by rfl) HS4.out (fun w hw => by go_simp) ?_
  simp only [Act.put, List.setIfInBounds_toArray, List.set_cons_zero, List.set_cons_succ]
  refine reg_take (v := .pointer (some ⟨g, 0, none⟩)) 6 (some 27) rfl rfl (by kernel_rfl) (by kernel_rfl) (by kernel_rfl) (by rfl) HS4.out (fun w hw => by go_simp) ?_
  simp only [Act.put, List.setIfInBounds_toArray, List.set_cons_zero, List.set_cons_succ]
  refine reg_take (v := .pointer (some ⟨g, 1, none⟩)) 7 (some 28) rfl rfl (by kernel_rfl) (by kernel_rfl) (by kernel_rfl) (by rfl) HS4.out (fun w hw => by go_simp) ?_
  simp only [Act.put, List.setIfInBounds_toArray, List.set_cons_zero, List.set_cons_succ]
  refine reg_take (v := .slice (some ⟨S, 0, none⟩) D.now.length D.now.length) 8 (some 29) rfl rfl (by kernel_rfl) (by kernel_rfl) (by kernel_rfl) (by rfl) HS4.out (fun w hw => by have hc : w.cell? ⟨g, 1, none⟩ = some (.slice (some ⟨S, 0, none⟩) D.now.length D.now.length) := by { rw [hw.1.cell]; rfl }; go_simp) ?_
  simp only [Act.put, List.setIfInBounds_toArray, List.set_cons_zero, List.set_cons_succ]
  refine reg_take (v := .int .i64 (p : Int)) 9 (some 30) rfl rfl (by kernel_rfl) (by kernel_rfl) (by kernel_rfl) (by rfl) HS4.out (fun w hw => by have hc := HLI.out w hw.2.1; go_simp) ?_
  simp only [Act.put, List.setIfInBounds_toArray, List.set_cons_zero, List.set_cons_succ]
  refine reg_load 10 (some 31) 86 (.tmp 7) rfl rfl rfl (by kernel_rfl) (by kernel_rfl) (by kernel_rfl) (by rfl) HS4.out g3 0 rfl (bvs (full b)) _ (fun w hw => hw.2.2.range) sec_under rfl HSZ.out ?_
  simp only [Act.put, List.setIfInBounds_toArray, List.set_cons_zero, List.set_cons_succ]
  refine reg_load 11 (some 32) 86 (.tmp 7) rfl rfl rfl (by kernel_rfl) (by kernel_rfl) (by kernel_rfl) (by rfl) HS4.out g3 0 rfl (bvs (full b)) _ (fun w hw => hw.2.2.range) sec_under rfl HSZ.out ?_
  simp only [Act.put, List.setIfInBounds_toArray, List.set_cons_zero, List.set_cons_succ]
  refine reg_take (v := .pointer (some ⟨N, p * 256, none⟩)) 12 (some 33) rfl rfl (by kernel_rfl) (by kernel_rfl) (by kernel_rfl) (by rfl) HS4.out (fun w hw => by go_simp) ?_
  simp only [Act.put, List.setIfInBounds_toArray, List.set_cons_zero, List.set_cons_succ]
  have hlt := HD.out.lt
  have l1 := hlt g (.inl rfl); have l2 := hlt N (.inr (.inl rfl)); have l3 := hlt S (.inr (.inr (.inl rfl)))
  have hg3 := HG3.out
  have hne := HD.out.ne
  refine reg_storeIn 13 none 86 (.tmp 33) (.tmp 31) rfl rfl rfl (by kernel_rfl) (by rfl) N (p * 256) _ _ (bvs (full b)) HD4.out.now rfl rfl HFL.out HSZ.out (bvs_one _) ?_
  intro w5 hB5 k5 z5
  rw [HFS.out] at hB5
  have HS5 := Lib.hid (And.intro (HS4.out.1.keep k5 (fun e => hne.1 e.symm)) (And.intro (HS4.out.2.1.keep k5 (fun e => by have e : w.heap.size = N := e; omega)) (HS4.out.2.2.keep k5 (fun e => by have e : g3 = N := e; omega))))
  have HN5 := Lib.hid hB5
  have HT5 := Lib.hid (HD4.out.safe.keep k5 (fun e => hne.2.2 e.symm))
  have HO5 := Lib.hid (HD4.out.waits.keep k5 (fun j e e2 => (HD.out.nw j e).2.1 e2))
  have HK5 := Lib.hid ((HK34.out.nob (dF g N S W)).trans k5 (fun i e => .inl (.inr (.inl e))))
  clear hB5 k5 z5
  refine ⟨HS5.out, fun _ => ?_⟩
  simp only [Act.put, List.setIfInBounds_toArray, List.set_cons_zero, List.set_cons_succ]
  refine reg_take (v := .pointer (some ⟨S, p * 256, none⟩)) 14 (some 34) rfl rfl (by kernel_rfl) (by kernel_rfl) (by kernel_rfl) (by rfl) HS5.out (fun w hw => by go_simp) ?_
  simp only [Act.put, List.setIfInBounds_toArray, List.set_cons_zero, List.set_cons_succ]
  refine reg_storeIn 15 none 86 (.tmp 34) (.tmp 32) rfl rfl rfl (by kernel_rfl) (by rfl) S (p * 256) _ _ (bvs (full b)) HT5.out rfl rfl HFM.out HSZ.out (bvs_one _) ?_
  intro w6 hB6 k6 z6
  rw [HFT.out] at hB6
  have HS6 := Lib.hid (And.intro (HS5.out.1.keep k6 (fun e => hne.2.1 e.symm)) (And.intro (HS5.out.2.1.keep k6 (fun e => by have e : w.heap.size = S := e; omega)) (HS5.out.2.2.keep k6 (fun e => by have e : g3 = S := e; omega))))
  have HN6 := Lib.hid (HN5.out.keep k6 (fun e => hne.2.2 e))
  have HT6 := Lib.hid hB6
  have HO6 := Lib.hid (HO5.out.keep k6 (fun j e e2 => (HD.out.nw j e).2.2 e2))
  have HK6 := Lib.hid (HK5.out.trans k6 (fun i e => .inl (.inr (.inr (.inl e)))))
  clear hB6 k6 z6
  refine ⟨HS6.out, fun _ => ?_⟩
  simp only [Act.put, List.setIfInBounds_toArray, List.set_cons_zero, List.set_cons_succ]
  refine reg_end (by kernel_rfl) ?_
  have c2 : w6.cell? ⟨g, 2, none⟩ = some (.slice W D.waits.length cW) := by rw [HS6.out.1.cell]; rfl
  have f2 : w6.frozen? ⟨g, 2, none⟩ = false := HS6.out.1.frozen _
  have hmf : ∀ (fn : Fn) (first cap : Array Value) (w : World), (Instr.makeFunc fn first cap).run Try.prog w = .ok (.func fn first cap) w := fun _ _ _ _ => rfl
  clear hp1 hlt l1 l2 l3
  go_wp2_with fail
  have hdel := delete_any D.waits w.heap.size p W D.waits.length cW w6 HO6.out rfl (fun x hx => (HD.out.ok.waits x hx).2) HWL.out (by rw [HS6.out.2.1.cell]; rfl) HS6.out.2.1.lt (fun k e e2 => by have := HD.out.lt k (.inr (.inr (.inr e))); omega)
  unfold predV at hdel
  refine hdel.mono ?_
  rintro e w7 ⟨rfl, o7, k7⟩
  have HK7 := Lib.hid k7
  have HO7 := Lib.hid o7
  have HS7 := Lib.hid (HS6.out.1.keep k7 (fun e => (HD.out.nw g e).1 rfl))
  have HN7 := Lib.hid (HN6.out.keep k7 (fun e => (HD.out.nw N e).2.1 rfl))
  have HT7 := Lib.hid (HT6.out.keep k7 (fun e => (HD.out.nw S e).2.2 rfl))
  have c2' : w7.cell? ⟨g, 2, none⟩ = some (.slice W D.waits.length cW) := by rw [HS7.out.cell]; rfl
  have f2' : w7.frozen? ⟨g, 2, none⟩ = false := HS7.out.frozen _
  clear hdel o7 k7 c2 f2
  go_wp2
  go_ret
  have kg : Kp (oneB g) w7 (w7.setCell ⟨g, 2, none⟩ (.slice W (but p D.waits).length cW)) := (Kp.refl (oneB g) w7).setCell (p := ⟨g, 2, none⟩) (.inl rfl) _
  have hbg := HS7.out.set_ 2 (.slice W (but p D.waits).length cW)
  exact ⟨rfl, W, cW, cd_forged HD.out p b HP.out HBL.out hbg (HN7.out.keep kg HD.out.ne.1) (HT7.out.keep kg HD.out.ne.2.1) (HO7.out.keep kg (fun k e e2 => (HD.out.nw k e).1 e2)), (HK6.out.trans HK7.out (fun i e => .inl (.inr (.inr (.inr e))))).trans kg (fun i e => .inl (.inl e)), fun k e => .inl e⟩
theorem forge_any (D : Dk) (i : Int) (A : Option Addr) (n c : Nat) (b : List UInt8) (g N S : Nat) (W : Option Addr) (cW : Nat) (w : World) (h : Cd w g N S W cW D) (hn : b.length = n) (hr : Row w A (bvs b)) (hm : n ≤ 140737488355328) (hw : D.waits.length ≤ 100000) :
    Calls Try.prog 26 #[.pointer (some ⟨g, 0, none⟩), .int .i64 i, .slice A n c] w fun e w' => e = .returned (.int .i64 (forge E8 D i b).2) ∧ Dz w g N S W (forge E8 D i b).1 w' := by
  by_cases hno : (i < 0 ∨ (D.now.length : Int) ≤ i) ∨ 256 < b.length
  · refine (forge_no D i A n c b g N S W cW w h hn hr (by simp [maxLen]; omega) hno).mono ?_
    rintro e w' ⟨rfl, h2, k⟩
    rw [h2]
    exact ⟨rfl, h.self.then k⟩
  · obtain ⟨p, rfl⟩ : ∃ p : Nat, i = p := ⟨i.toNat, by omega⟩
    rw [show forge E8 D (p : Int) b = (forged D p b, 0) by rw [forge, if_neg (by omega), if_neg (by omega), Int.toNat_natCast]; rfl]
    exact forge_yes D p A n c b g N S W cW w h hn hr (by omega) (by omega) hw
end Go.Proofs.Ytndkmfflpphoiaa.Disk
