/- The library's DeleteFunc over writes that wait. -/
import Derived.Test.YtfbdjjcnibgjnaaDskI
namespace Go.Proofs.Ytfbdjjcnibgjnaa.Disk
set_option linter.unusedVariables false
set_option linter.unusedSimpArgs false
open Go Go.RowKit Kit

/-- The writes that aren't of a sector. -/
def but (i : Nat) (xs : List (Nat × List UInt8)) : List (Nat × List UInt8) := xs.filter fun x => decide (x.1 ≠ i)
theorem but_all (i : Nat) (xs : List (Nat × List UInt8)) (h : ∀ y ∈ xs, y.1 ≠ i) : but i xs = xs := List.filter_eq_self.2 (fun y hy => decide_eq_true (h y hy))
theorem but_snoc (i : Nat) (xs : List (Nat × List UInt8)) (x : Nat × List UInt8) : but i (xs ++ [x]) = but i xs ++ (if x.1 = i then [] else [x]) := by
  rw [but, List.filter_append]
  by_cases h : x.1 = i
  · rw [if_pos h, List.filter_cons_of_neg (by simp [h])]; rfl
  · rw [if_neg h, List.filter_cons_of_pos (by simp [h])]; rfl
theorem but_len (i : Nat) (xs : List (Nat × List UInt8)) : (but i xs).length ≤ xs.length := List.length_filter_le _ _
/-- How far DeleteFunc is: L is what lies there now. -/
structure Dl (xs L : List (Nat × List UInt8)) (i a j : Nat) : Prop where
  len : L.length = xs.length
  l256 : ∀ x ∈ L, x.2.length = 256
  lt : a < j
  le : j ≤ xs.length
  head : L.take a = but i (xs.take j)
  cnt : (but i (xs.take j)).length = a
  tail : L.drop j = xs.drop j
theorem Dl.at_ {xs L : List (Nat × List UInt8)} {i a j : Nat} (h : Dl xs L i a j) (x : Nat × List UInt8) (hx : xs[j]? = some x) : L[j]? = some x := by
  have h1 : (L.drop j)[0]? = (xs.drop j)[0]? := by rw [h.tail]
  rw [List.getElem?_drop, List.getElem?_drop, Nat.add_zero] at h1
  rw [h1]; exact hx
theorem Dl.skip {xs L : List (Nat × List UInt8)} {i a j : Nat} (h : Dl xs L i a j) (x : Nat × List UInt8) (hx : xs[j]? = some x) (hi : x.1 = i) : Dl xs L i a (j + 1) := by
  have hj := (List.getElem?_eq_some_iff.1 hx).1
  have e : but i (xs.take (j + 1)) = but i (xs.take j) := by rw [take_snoc xs j x hx, but_snoc, if_pos hi, List.append_nil]
  refine ⟨h.len, h.l256, by have := h.lt; omega, hj, by rw [e]; exact h.head, by rw [e]; exact h.cnt, ?_⟩
  rw [← List.drop_drop (i := 1) (j := j), ← List.drop_drop (i := 1) (j := j), h.tail]
theorem Dl.put {xs L : List (Nat × List UInt8)} {i a j : Nat} (h : Dl xs L i a j) (x : Nat × List UInt8) (hx : xs[j]? = some x) (hi : x.1 ≠ i) (hl : x.2.length = 256) : Dl xs (L.set a x) i (a + 1) (j + 1) := by
  have hj := (List.getElem?_eq_some_iff.1 hx).1
  have e : but i (xs.take (j + 1)) = but i (xs.take j) ++ [x] := by rw [take_snoc xs j x hx, but_snoc, if_neg hi]
  have hlt := h.lt
  have haL : a < L.length := by rw [h.len]; omega
  refine ⟨by rw [List.length_set, h.len], fun y hy => ?_, by omega, hj, ?_, by rw [e, List.length_append, h.cnt]; rfl, ?_⟩
  · rcases List.mem_or_eq_of_mem_set hy with h1 | h1
    · exact h.l256 y h1
    · rw [h1]; exact hl
  · rw [e, ← h.head, List.take_add_one, List.take_set_of_le (Nat.le_refl _), List.getElem?_set_self haL]; rfl
  · rw [List.drop_set_of_lt (by omega), ← List.drop_drop (i := 1) (j := j), ← List.drop_drop (i := 1) (j := j), h.tail]
theorem Dl.first {xs : List (Nat × List UInt8)} {i k : Nat} {x : Nat × List UInt8} (hx : xs[k]? = some x) (hi : x.1 = i) (ha : ∀ y ∈ xs.take k, y.1 ≠ i) (hl : ∀ x ∈ xs, x.2.length = 256) : Dl xs xs i k (k + 1) := by
  have hk := (List.getElem?_eq_some_iff.1 hx).1
  have e : but i (xs.take (k + 1)) = xs.take k := by rw [take_snoc xs k x hx, but_snoc, if_pos hi, List.append_nil, but_all i _ ha]
  exact ⟨rfl, hl, by omega, hk, e.symm, by rw [e, List.length_take]; omega, rfl⟩
theorem wr_sizeOf (w : World) : (sizeOf 60).run Try.prog w = .ok 257 w := by kernel_rfl
set_option maxHeartbeats 4000000 in
set_option maxRecDepth 100000 in
theorem delete_any (xs : List (Nat × List UInt8)) (gi i : Nat) (W : Option Addr) (n c : Nat) (w : World) (hw : OwnK 257 60 w W n c (xs.flatMap wcell)) (hn : xs.length = n) (hl : ∀ x ∈ xs, x.2.length = 256) (hm : n ≤ 100000)
    (hi : w.cell? ⟨gi, 0, none⟩ = some (.int .i64 (i : Int))) (hg : gi < w.heap.size) (hgw : ∀ k, ab W = some k → k ≠ gi) :
    Calls Try.prog 28 #[.slice W n c, predV gi] w fun e w' => e = .returned (.slice W (but i xs).length c) ∧ OwnK 257 60 w' W (but i xs).length c ((but i xs).flatMap wcell) ∧ Kp (fun k => ab W = some k) w w' := by
  have HX := Lib.hid (index_any xs gi i W n c w hw hn hl hm hi hg)
  have HW := Lib.hid hw; have HN := Lib.hid hn; have HL := Lib.hid hl; have HI := Lib.hid (And.intro hi (And.intro hg hgw))
  clear hw hn hl hi hg hgw
  have hz := zwr_run
  unfold predV at HX ⊢
  go_enter Try.func28, Try.ntmps28
  go_wp2_with fail
  refine HX.out.mono ?_
  rintro e w1 ⟨r, rfl, hr, k1⟩
  have HK1 := Lib.hid k1
  clear k1 HX
  rcases hr with ⟨k, x, rfl, hx, hxi, ha⟩ | ⟨rfl, ha⟩
  · have hk : k < n := by rw [← HN.out]; exact (List.getElem?_eq_some_iff.1 hx).1
    obtain ⟨B, rfl⟩ := HW.out.some_ (by omega)
    obtain ⟨cur, hB, h1, h2, h3, h4⟩ := (HW.out.keep HK1.out (fun _ _ e => e)).blk
    have HD0 := Lib.hid (Dl.first hx hxi ha HL.out)
    obtain ⟨rest, hrest⟩ : ∃ rest, cur = xs.flatMap wcell ++ rest := ⟨cur.drop (n * 257), by rw [← h2, List.take_append_drop]⟩
    have HB0 := Lib.hid (show Blk w1 B 60 (xs.flatMap wcell ++ rest) by rw [← hrest]; exact hB)
    have HLR := Lib.hid (show (xs.flatMap wcell ++ rest).length = c * 257 by rw [← hrest]; exact h1)
    have HC := Lib.hid (And.intro h3 h4)
    have HBG := Lib.hid (HI.out.2.2 B rfl)
    have hne : ((k : Int) == -1) = false := by rw [beq_eq_false_iff_ne]; omega
    clear hx hxi ha hB h1 h2 h3 h4 hrest
    go_wp2
    go_loopw [5, 6] (fun va vj wr => ∃ (a j : Nat) (L : List (Nat × List UInt8)), Dl xs L i a j ∧ va = .int .i64 a ∧ vj = .int .i64 j ∧ Blk wr B 60 (L.flatMap wcell ++ rest) ∧ Kp (oneB B) w1 wr)
      (fun _ vj _ => n - (intOf vj).toNat)
    case atStart => exact ⟨k, k + 1, xs, HD0.out, rfl, by go_num, HB0.out, Kp.refl _ _⟩
    case round =>
      obtain ⟨a, j, L, hd, rfl, rfl, hb, hkp⟩ := hrel
      have hjn : j ≤ n := by rw [← HN.out]; exact hd.le
      have haj := hd.lt
      have HDl := Lib.hid hd; have HB := Lib.hid hb; have HKr := Lib.hid hkp
      clear hd hb hkp
      by_cases hlt : j < n
      · obtain ⟨x, hx⟩ : ∃ x, xs[j]? = some x := ⟨_, List.getElem?_eq_getElem (by rw [HN.out]; exact hlt)⟩
        have HX2 := Lib.hid (HL.out x (List.mem_of_getElem? hx))
        have HFM := Lib.hid (fun a ha => wcell_length a (HDl.out.l256 a ha))
        have HLL := Lib.hid (show (L.flatMap wcell).length = n * 257 by rw [fm_length L HFM.out, HDl.out.len, HN.out])
        have HRG := Lib.hid (HB.out.part (j * 257) (wcell x) (fun q v hv => by
          have h5 := fm_part L HFM.out j x (HDl.out.at_ x hx) q v hv
          rw [List.getElem?_append_left (List.getElem?_eq_some_iff.1 h5).1]; exact h5))
        have HX := Lib.hid hx
        have HPR := Lib.hid (fun (w' : World) (k' : Kp nob wr w') => pred_any x gi i w' (by
          have hlt : gi < w1.heap.size := Nat.lt_of_lt_of_le HI.out.2.1 HK1.out.size
          rw [k'.cell (p := ⟨gi, 0, none⟩) (Nat.lt_of_lt_of_le hlt HKr.out.size) (fun e => e), HKr.out.cell (p := ⟨gi, 0, none⟩) hlt (fun e => HBG.out e.symm), HK1.out.cell HI.out.2.1 (fun e => e)]
          exact HI.out.1) (Nat.lt_of_lt_of_le (Nat.lt_of_lt_of_le (Nat.lt_of_lt_of_le HI.out.2.1 HK1.out.size) HKr.out.size) k'.size))
        clear hx
        by_cases hxi : x.1 = i
        · rw [decide_eq_true hxi] at HPR
          have HXI := Lib.hid hxi
          clear hxi
          go_wp2_with (first
            | (refine wpList_load_mid rfl 60 (.tmp 24) rfl B (j * 257) rfl (wcell x) _ HRG.out wr_under rfl (wr_size' x HX2.out) ?_)
            | (refine wpList_store_blk rfl 60 (.tmp 7) (.tmp 25) rfl _ _ zwr (wcell x) (Blk.new _ _ _) rfl rfl (by rw [wcell_length x HX2.out, zwr_length]) (wr_size' x HX2.out) (wcell_one x) ?_
               intro w5 hB5 k5 z5
               obtain ⟨g5, hg5⟩ : ∃ g, g = wr.heap.size := ⟨_, rfl⟩
               rw [← hg5] at hB5 ⊢
               have HB5 := Lib.hid hB5
               have HK5 := Lib.hid (((Kp.refl nob wr).alloc _).since k5 (fun i e => Nat.le_of_eq e.symm))
               clear hB5 k5 z5 hg5)
            | (refine wpList_load_blk rfl 60 (.tmp 7) rfl _ _ _ HB5.out rfl _ wr_under rfl (wr_size' x HX2.out) ?_)
            | (go_at_call 29; refine (HPR.out _ HK5.out).mono ?_; rintro e w6 ⟨rfl, k6⟩; have HK6 := Lib.hid k6; clear k6))
          refine ⟨⟨a, j + 1, L, HDl.out.skip x HX.out HXI.out, rfl, by go_num, HB.out.keep (HK5.out.trans HK6.out (fun _ e => e.elim)) (fun e => e), HKr.out.trans (HK5.out.trans HK6.out (fun _ e => e.elim)) (fun _ e => e.elim)⟩, by simp [intOf]; omega⟩
        · rw [decide_eq_false hxi] at HPR
          have HXI := Lib.hid hxi
          have HFS := Lib.hid (show splice (L.flatMap wcell ++ rest) (a * 257) (wcell x) = (L.set a x).flatMap wcell ++ rest by
            have ha : a < L.length := by rw [HDl.out.len, HN.out]; omega
            rw [splice_left _ _ _ _ (by rw [HLL.out, wcell_length x HX2.out]; have := HN.out; have := HDl.out.len; omega), fm_set L HFM.out a x ha (wcell_length x HX2.out)])
          have HFL := Lib.hid (show a * 257 + (wcell x).length ≤ (L.flatMap wcell ++ rest).length by rw [List.length_append, HLL.out, wcell_length x HX2.out]; omega)
          clear hxi
          go_wp2_with (first
            | (refine wpList_load_mid rfl 60 (.tmp 24) rfl B (j * 257) rfl (wcell x) _ HRG.out wr_under rfl (wr_size' x HX2.out) ?_)
            | (refine wpList_store_blk rfl 60 (.tmp 7) (.tmp 25) rfl _ _ zwr (wcell x) (Blk.new _ _ _) rfl rfl (by rw [wcell_length x HX2.out, zwr_length]) (wr_size' x HX2.out) (wcell_one x) ?_
               intro w5 hB5 k5 z5
               obtain ⟨g5, hg5⟩ : ∃ g, g = wr.heap.size := ⟨_, rfl⟩
               rw [← hg5] at hB5 ⊢
               have HB5 := Lib.hid hB5
               have HK5 := Lib.hid (((Kp.refl nob wr).alloc _).since k5 (fun i e => Nat.le_of_eq e.symm))
               clear hB5 k5 z5 hg5)
            | (refine wpList_load_blk rfl 60 (.tmp 7) rfl _ _ _ HB5.out rfl _ wr_under rfl (wr_size' x HX2.out) ?_)
            | (go_at_call 29; refine (HPR.out _ HK5.out).mono ?_; rintro e w6 ⟨rfl, k6⟩; have HB6 := Lib.hid (HB5.out.keep k6 (fun e => e)); have HK6 := Lib.hid (HK5.out.trans k6 (fun _ e => e.elim)); clear k6)
            | (refine wpList_load_blk rfl 60 (.tmp 7) rfl _ _ _ HB6.out rfl _ wr_under rfl (wr_size' x HX2.out) ?_)
            | (refine wpList_store_in rfl 60 (.tmp 33) (.tmp 32) rfl B (a * 257) _ _ (wcell x) (HB.out.keep HK6.out (fun e => e)) rfl rfl HFL.out (wr_size' x HX2.out) (wcell_one x) ?_; intro w7 hB7 k7 z7; rw [HFS.out] at hB7; have HB7 := Lib.hid hB7; have HK7 := Lib.hid k7; clear hB7 k7 z7))
          refine ⟨⟨a + 1, j + 1, L.set a x, HDl.out.put x HX.out HXI.out HX2.out, by go_num, by go_num, HB7.out, (HKr.out.trans HK6.out (fun _ e => e.elim)).trans HK7.out (fun _ e => .inl e)⟩, by simp [intOf]; omega⟩
      · obtain rfl : j = n := by omega
        have hac : a < c := by have := HC.out.1; omega
        have HFM := Lib.hid (fun a ha => wcell_length a (HDl.out.l256 a ha))
        have HBT := Lib.hid (show but i xs = L.take a by rw [HDl.out.head, List.take_of_length_le (by rw [HN.out]; exact Nat.le_refl _)])
        have HCN := Lib.hid (show (but i xs).length = a by have := HDl.out.cnt; rwa [List.take_of_length_le (by rw [HN.out]; exact Nat.le_refl _)] at this)
        have HLL := Lib.hid (show (L.flatMap wcell).length = j * 257 by rw [fm_length L HFM.out, HDl.out.len, HN.out])
        have q1 := fun w => run_slice_fromK (P := Try.prog) 52 60 257 wrs_under wr_sizeOf B j c a (by omega) hac w
        have q2 := fun w => run_slice_toK (P := Try.prog) 52 60 257 wrs_under wr_sizeOf B j c a (by omega) HC.out.1 w
        have HFT := Lib.hid (show a * 257 + (j - a) * zwr.length ≤ (L.flatMap wcell ++ rest).length by
          rw [zwr_length, List.length_append, HLL.out, ← Nat.add_mul, show a + (j - a) = j by omega]; omega)
        have HPOS := Lib.hid (show 0 < j - a by omega)
        have HZL := Lib.hid (show 0 < zwr.length by rw [zwr_length]; decide)
        have HJA := Lib.hid (show a ≤ j by omega)
        have HAC := Lib.hid hac
        clear hlt hjn hac
        go_wp2_with (refine wpList_clear_mid rfl (.tmp 38) 52 rfl 60 wrs_under zwr hz zwr_one HZL.out B (a * 257) (j - a) (c - a) HPOS.out rfl _ _ HB.out HFT.out ?_; intro w7 vs lvs hB7 k7 z7; have HB7 := Lib.hid hB7; have HK7 := Lib.hid k7; have HVS := Lib.hid lvs; clear hB7 k7 z7 lvs)
        go_ret
        rw [HCN.out]
        have hlen : a * 257 ≤ (L.flatMap wcell ++ rest).length := by rw [List.length_append, HLL.out]; have := HJA.out; omega
        refine ⟨rfl, OwnK.of_blk HB7.out ?_ ?_ (Nat.le_of_lt HAC.out) HC.out.2, ?_⟩
        · rw [splice_length _ _ _ (by rw [HVS.out]; exact HFT.out), List.length_append, HLL.out]
          have := HLR.out
          rw [List.length_append, fm_length xs (fun a ha => wcell_length a (HL.out a ha)), HN.out] at this
          exact this
        · rw [splice, List.take_append_of_le_length (by rw [List.length_take]; omega), List.take_take, Nat.min_self, List.take_append_of_le_length (by rw [HLL.out]; have := HJA.out; omega), fm_take L HFM.out, HBT.out]
        · exact ((HK1.out.nob _).trans HKr.out (fun i e => .inl (by rw [show i = B from e]; rfl))).trans HK7.out (fun i e => .inl (by rw [show i = B from e]; rfl))
  · have HB := Lib.hid (but_all i xs ha)
    clear ha
    go_wp2
    go_ret
    rw [HB.out, HN.out]
    exact ⟨rfl, HW.out.keep HK1.out (fun _ _ e => e), HK1.out.nob _⟩
end Go.Proofs.Ytfbdjjcnibgjnaa.Disk
