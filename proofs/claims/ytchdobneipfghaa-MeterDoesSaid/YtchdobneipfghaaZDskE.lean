/- The disk: a write. -/
import Derived.Test.YtchdobneipfghaaZDskD
namespace Go.Proofs.Ytchdobneipfghaa.Disk
set_option linter.unusedVariables false
set_option linter.unusedSimpArgs false
open Go Go.RowKit Kit

set_option maxRecDepth 100000 in
theorem wr_info : (Try.prog.info? 78).map (fun i => (i.zero, i.size, i.bytes)) = some (some (.agg zwr.toArray), 257, 264) := by kernel_rfl
theorem wrs_under : Try.prog.underlying 62 = some (.slice 78) := by kernel_rfl
theorem zwr_cells : (Value.agg zwr.toArray).cells.size = 257 := by
  show zwr.toArray.size = 257
  rw [List.size_toArray, zwr_length]
theorem has_of (D : Dk) (p : Nat) (h : p < D.now.length) : has D (p : Int) = true := by unfold has; exact decide_eq_true (by omega)
theorem has_not (D : Dk) (i : Int) (h : i < 0 ∨ (D.now.length : Int) ≤ i) : has D i = false := by unfold has; exact decide_eq_false (by omega)
theorem acted_wrote (D : Dk) (p : Nat) (b : List UInt8) (ho : D.off = false) (hp : p < D.now.length) (hb : b.length ≤ 256) : acted (wrote D p b) = write E8 D (p : Int) b := by
  have e : write E8 D (p : Int) b = if (act D).2 then (lose (wrote (act D).1 p b) D.keep, 8) else (wrote (act D).1 p b, 0) := by
    rw [write, if_neg (by rw [ho]; decide), if_neg (by omega), if_neg (by omega), Int.toNat_natCast]; rfl
  rw [acted, e, act_on (wrote D p b) ho, act_on D ho]
  rfl
/-- What the sectors are behind a write that isn't settled yet. -/
theorem cd_wrote {w w2 : World} {g N S : Nat} {W W2 : Option Addr} {cW c2 : Nat} {D : Dk} (h : Cd w g N S W cW D) (p : Nat) (b : List UInt8) (hp : p < D.now.length) (hb : b.length ≤ 256)
    (hB : Blk w2 g 64 [.slice (some ⟨N, 0, none⟩) D.now.length D.now.length, .slice (some ⟨S, 0, none⟩) D.now.length D.now.length, .slice W2 (D.waits.length + 1) c2, .bool D.off, .int .i64 (D.acts : Int), .int .i64 (D.fuse : Int), .int .u64 (D.keep : Int)])
    (hN : Blk w2 N 74 ((D.now.set p (full b)).flatMap bvs)) (hS : Blk w2 S 74 (D.safe.flatMap bvs)) (hW : OwnK 257 78 w2 W2 (D.waits.length + 1) c2 (D.waits.flatMap wcell ++ wcell (p, full b)))
    (hn : ∀ k, ab W2 = some k → k ≠ g ∧ k ≠ N ∧ k ≠ S) : Cd w2 g N S W2 c2 (wrote D p b) := by
  refine ⟨?_, hN, hS, ?_, wrote_ok D p b h.ok hp hb, ?_, ?_, h.ne, hn⟩
  · show Blk _ _ _ [.slice _ (D.now.set p (full b)).length (D.now.set p (full b)).length, .slice _ (D.now.set p (full b)).length (D.now.set p (full b)).length, .slice W2 (D.waits ++ [(p, full b)]).length c2, _, _, _, _]
    rw [List.length_set, List.length_append]
    exact hB
  · show OwnK _ _ _ _ (D.waits ++ [(p, full b)]).length _ ((D.waits ++ [(p, full b)]).flatMap wcell)
    rw [List.length_append, List.flatMap_append]
    simpa using hW
  · show D.now.set p (full b) = allw (D.waits ++ [(p, full b)]) D.safe
    rw [allw_snoc, ← h.al]
  · show (D.now.set p (full b)).length ≤ 4096
    rw [List.length_set]; exact h.max

set_option maxHeartbeats 4000000 in
set_option maxRecDepth 100000 in
theorem write_no (D : Dk) (i : Int) (A : Option Addr) (n c : Nat) (b : List UInt8) (g N S : Nat) (W : Option Addr) (cW : Nat) (w : World) (h : Cd w g N S W cW D) (hn : b.length = n) (hr : Row w A (bvs b)) (hm : n ≤ maxLen) (hno : D.off = true ∨ (i < 0 ∨ (D.now.length : Int) ≤ i) ∨ 256 < b.length) :
    Calls Try.prog 19 #[.pointer (some ⟨g, 0, none⟩), .int .i64 i, .slice A n c] w fun e w' => e = .returned (.int .i64 (write E8 D i b).2) ∧ (write E8 D i b).1 = D ∧ Kp nob w w' := by
  have HR := Lib.hid (refused_any D g N S W cW w h)
  have HFI := Lib.hid (filled_any D i A n c b g N S W cW w h hn hr hm)
  clear h hr hm
  cases ho : D.off with
  | true =>
    rw [ho] at HR
    have HW := Lib.hid (show write E8 D i b = (D, 8) by rw [write, if_pos ho]; rfl)
    clear ho hno
    go_enter Try.func19, Try.ntmps19
    go_wp2_with fail
    refine HR.out.mono ?_
    rintro e w1 ⟨rfl, rfl⟩
    go_wp2
    go_ret
    rw [HW.out]; exact ⟨rfl, rfl, Kp.refl _ _⟩
  | false =>
    rw [ho] at HR
    have hF : ∃ s k, fill D i b = (s, k) ∧ s.length = 256 ∧ (k == 0) = false ∧ write E8 D i b = (D, k) := by
      by_cases h1 : i < 0 ∨ (D.now.length : Int) ≤ i
      · exact ⟨z256, 1, by rw [fill, has_not D i h1]; rfl, z256_length, rfl, by rw [write, if_neg (by rw [ho]; decide), if_pos h1]; rfl⟩
      · have h2 : 256 < b.length := by
          rcases hno with h | h | h
          · rw [ho] at h; cases h
          · exact absurd h h1
          · exact h
        have hh : has D i = true := by unfold has; exact decide_eq_true (by omega)
        exact ⟨z256, 3, by rw [fill, hh, if_pos h2]; rfl, z256_length, rfl, by rw [write, if_neg (by rw [ho]; decide), if_neg h1, if_pos h2]; rfl⟩
    obtain ⟨s, k, hf, hs, hk, hw⟩ := hF
    rw [hf] at HFI
    have HW := Lib.hid hw; have HSL := Lib.hid hs
    have hz := zsec_run
    clear hf hw ho hno hs
    go_enter Try.func19, Try.ntmps19
    go_wp2_with fail
    refine HR.out.mono ?_
    rintro e w1 ⟨rfl, rfl⟩
    go_wp2_with fail
    refine HFI.out.mono ?_
    rintro e w2 ⟨rfl, k2⟩
    have HK2 := Lib.hid k2
    clear k2
    go_wp2_with (refine wpList_store_blk rfl 74 (.tmp 8) (.tmp 20) rfl _ _ zsec (bvs s) (Blk.new _ _ _) rfl rfl (by rw [bvs_length, HSL.out, zsec_length]) (sec_size' _ HSL.out) (bvs_one _) ?_; intro w3 hB3 k3 z3; have HK3 := Lib.hid ((HK2.out.alloc _).since k3 (fun i e => by have e : i = w2.heap.size := e; have := HK2.out.size; omega)); clear hB3 k3 z3)
    go_ret
    rw [HW.out]; exact ⟨rfl, rfl, HK3.out⟩
set_option maxHeartbeats 4000000 in
set_option maxRecDepth 100000 in
theorem write_yes (D : Dk) (p : Nat) (A : Option Addr) (n c : Nat) (b : List UInt8) (g N S : Nat) (W : Option Addr) (cW : Nat) (w : World) (h : Cd w g N S W cW D) (hn : b.length = n) (hr : Row w A (bvs b)) (ho : D.off = false) (hp : p < D.now.length) (hb : b.length ≤ 256)
    (hw : D.waits.length ≤ 99999) (ha : D.acts ≤ 1000000000000) (hf : D.fuse ≤ 9223372036854775807) (hk : D.keep < 18446744073709551616) :
    Calls Try.prog 19 #[.pointer (some ⟨g, 0, none⟩), .int .i64 (p : Int), .slice A n c] w fun e w' => e = .returned (.int .i64 (write E8 D p b).2) ∧ Dz w g N S W (write E8 D p b).1 w' := by
  have HR := Lib.hid (refused_any D g N S W cW w h)
  rw [ho] at HR
  have HFI := Lib.hid (filled_any D p A n c b g N S W cW w h hn hr (by simp [maxLen]; omega))
  rw [show fill D p b = (full b, 0) by rw [fill, has_of D p hp, if_pos rfl, if_neg (by omega)]] at HFI
  have HE := Lib.hid (acted_wrote D p b ho hp hb)
  rw [← HE.out]
  have HD := Lib.hid h
  have HFB := Lib.hid (full_length b hb)
  have HSZ := Lib.hid (sec_size' _ HFB.out)
  have HP := Lib.hid hp; have HBL := Lib.hid hb; have HWL := Lib.hid hw
  have HAA := Lib.hid (fun (w' : World) (W2 : Option Addr) (c2 : Nat) (h' : Cd w' g N S W2 c2 (wrote D p b)) => actw_any (wrote D p b) g N S W2 c2 w' h' (by show (D.waits ++ [(p, full b)]).length ≤ 100000; rw [List.length_append]; simp; omega) ha hf hk)
  have HFS := Lib.hid (flat_set D.now h.ok.now p (full b) hp HFB.out)
  have HFL := Lib.hid (show p * 256 + (bvs (full b)).length ≤ (D.now.flatMap bvs).length by rw [flat_len _ h.ok.now, bvs_length, HFB.out]; omega)
  obtain ⟨i0, hi, hz0, hz1, hz2⟩ := info_parts3 wr_info
  have HI := Lib.hid (And.intro hi (And.intro hz0 (And.intro hz1 hz2)))
  have hz := zsec_run
  clear h hn hr ho hb hw ha hf hk hi hz0 hz1 hz2
  go_enter Try.func19, Try.ntmps19
  go_wp2_with fail
  refine HR.out.mono ?_
  rintro e w1 ⟨rfl, rfl⟩
  go_wp2_with fail
  refine HFI.out.mono ?_
  rintro e w2 ⟨rfl, k2⟩
  have HK2 := Lib.hid k2
  clear k2
  go_wp2_with (refine wpList_store_blk rfl 74 (.tmp 8) (.tmp 20) rfl _ _ zsec (bvs (full b)) (Blk.new _ _ _) rfl rfl (by rw [bvs_length, HFB.out, zsec_length]) HSZ.out (bvs_one _) ?_
               intro w3 hB3 k3 z3
               obtain ⟨g3, hg3⟩ : ∃ g3, g3 = w2.heap.size := ⟨_, rfl⟩
               rw [← hg3] at hB3 ⊢
               have HB3 := Lib.hid hB3
               have HK3 := Lib.hid ((HK2.out.alloc _).since k3 (fun i e => by have e : i = w2.heap.size := e; have := HK2.out.size; omega))
               have HG3 := Lib.hid (show w.heap.size ≤ g3 by rw [hg3]; exact HK2.out.size)
               clear hB3 k3 z3 hg3)
  -- the sector is written
  refine wp_region_still_tail 7 (by kernel_rfl) (by kernel_rfl) ?_
  change wpStill _ _ w3.drew (fun a' => wpList _ _ _ _ a' w3.drew) _ _
  have HK4 := Lib.hid HK3.out.drew
  have HB4 := Lib.hid (HB3.out.keep (Kp.refl nob w3).drew (fun e => e))
  have HD4 := Lib.hid (HD.out.keep0 HK4.out)
  have hc0 := HD4.out.cells.1
  have hld := run_loadAt_mid (P := Try.prog) w3.drew g3 0 74 (bvs (full b)) _ HB4.out.range sec_under rfl HSZ.out
  generalize w3.drew = w4 at *
  clear HB3 HK3
  simp only [List.take_succ_cons, List.take_zero, List.drop_succ_cons, List.drop_zero]
  repeat (first | still_step | (refine wpStill_load rfl 74 (.tmp 8) rfl _ _ rfl hld ?_))
  refine wpStill_nil ?_
  clear hld hc0
  go_wp2_with (refine wpList_store_in rfl 74 (.tmp 31) (.tmp 30) rfl N (p * 256) _ _ (bvs (full b)) HD4.out.now rfl rfl HFL.out HSZ.out (bvs_one _) ?_; intro w5 hB5 k5 z5; rw [HFS.out] at hB5; have HN5 := Lib.hid hB5; have HK5 := Lib.hid k5; clear hB5 k5 z5)
  have HG5 := Lib.hid (HD4.out.b.keep HK5.out (fun e => HD.out.ne.1 e.symm))
  have HS5 := Lib.hid (HD4.out.safe.keep HK5.out (fun e => HD.out.ne.2.2 e.symm))
  have HW5 := Lib.hid (HD4.out.waits.keep HK5.out (fun j e e2 => (HD.out.nw j e).2.1 e2))
  have HB5 := Lib.hid (HB4.out.keep HK5.out (fun e => by have := HD.out.lt N (.inr (.inl rfl)); have := HG3.out; have e : g3 = N := e; omega))
  have HKW := Lib.hid ((HK4.out.nob (dF g N S W)).trans HK5.out (fun i e => .inl (.inr (.inl e))))
  clear HD4 HB4
  -- it waits
  have HK6 := Lib.hid (Kp.refl nob w5).drew
  have HS6 := Lib.hid (HB5.out.keep HK6.out (fun e => e))
  have HG6 := Lib.hid (HG5.out.keep HK6.out (fun e => e))
  have HOW6 := Lib.hid (HW5.out.keep HK6.out (fun _ _ e => e))
  refine reg_begin (fun w' => Blk w' g3 74 (bvs (full b))) (by kernel_rfl) HS6.out (fun _ => ?_)
  generalize w5.drew = w6 at *
  refine reg_take (v := .pointer (some ⟨g, 0, none⟩)) 0 (some 32) rfl rfl (by kernel_rfl) (by kernel_rfl) (by kernel_rfl) (by rfl) HS6.out (fun w hw => by go_simp) ?_
  simp only [Act.put, List.setIfInBounds_toArray, List.set_cons_zero, List.set_cons_succ]
  refine reg_take (v := .pointer (some ⟨g, 0, none⟩)) 1 (some 33) rfl rfl (by kernel_rfl) (by kernel_rfl) (by kernel_rfl) (by rfl) HS6.out (fun w hw => by go_simp) ?_
  simp only [Act.put, List.setIfInBounds_toArray, List.set_cons_zero, List.set_cons_succ]
  refine reg_take (v := .pointer (some ⟨g, 0, none⟩)) 2 (some 34) rfl rfl (by kernel_rfl) (by kernel_rfl) (by kernel_rfl) (by rfl) HS6.out (fun w hw => by go_simp) ?_
  simp only [Act.put, List.setIfInBounds_toArray, List.set_cons_zero, List.set_cons_succ]
  refine reg_take (v := .pointer (some ⟨g, 2, none⟩)) 3 (some 35) rfl rfl (by kernel_rfl) (by kernel_rfl) (by kernel_rfl) (by rfl) HS6.out (fun w hw => by go_simp) ?_
  simp only [Act.put, List.setIfInBounds_toArray, List.set_cons_zero, List.set_cons_succ]
  refine reg_take (v := .int .i64 (p : Int)) 5 (some 37) rfl rfl (by kernel_rfl) (by kernel_rfl) (by kernel_rfl) (by rfl) HS6.out (fun w hw => by go_simp) ?_
  simp only [Act.put, List.setIfInBounds_toArray, List.set_cons_zero, List.set_cons_succ]
  refine reg_load 6 (some 38) 74 (.tmp 8) rfl rfl rfl (by kernel_rfl) (by kernel_rfl) (by kernel_rfl) (by rfl) HS6.out g3 0 rfl (bvs (full b)) _ (fun w hw => hw.range) sec_under rfl HSZ.out ?_
  simp only [Act.put, List.setIfInBounds_toArray, List.set_cons_zero, List.set_cons_succ]
  refine reg_take (v := .agg (.int .i64 (p : Int) :: bvs (full b)).toArray) 7 (some 39) rfl rfl (by kernel_rfl) (by kernel_rfl) (by kernel_rfl) (by rfl) HS6.out (fun w hw => by exact exec_bld _ _ rfl [(0, .int .i64 (p : Int)), (1, .agg (bvs (full b)).toArray)] _ rfl (build_wr _ _ HFB.out _)) ?_
  simp only [Act.put, List.setIfInBounds_toArray, List.set_cons_zero, List.set_cons_succ]
  have HS7 := Lib.hid (HS6.out.alloc (.cells (.int .i64 (p : Int) :: bvs (full b)).toArray 78))
  have HG7 := Lib.hid (HG6.out.alloc (.cells (.int .i64 (p : Int) :: bvs (full b)).toArray 78))
  have hc6 : w6.cell? ⟨g, 2, none⟩ = some (.slice W D.waits.length cW) := by rw [HG6.out.cell]; rfl
  have hc7 : (w6.alloc (.cells (.int .i64 (p : Int) :: bvs (full b)).toArray 78)).cell? ⟨g, 2, none⟩ = some (.slice W D.waits.length cW) := by rw [HG7.out.cell]; rfl
  refine reg_stepOr (v := .slice W D.waits.length cW) (wi := w6) (u := .slice (some ⟨w6.heap.size, 0, none⟩) 1 1) (wj := w6.alloc (.cells (.int .i64 (p : Int) :: bvs (full b)).toArray 78)) 4 8 (some 36) (some 40) rfl rfl rfl rfl (by kernel_rfl) (by rfl) (by rfl) (by clear hc7; go_simp) (exec_slice_wr (.tmp 39) (p : Int) (full b) HFB.out rfl rfl) HS6.out HS7.out (fun _ => ?_) (fun _ => ?_)
  case' refine_1 =>
    simp only [Act.put, List.setIfInBounds_toArray, List.set_cons_zero, List.set_cons_succ]
    refine reg_step 8 (some 40) rfl rfl (by kernel_rfl) (by rfl) (exec_slice_wr (.tmp 39) (p : Int) (full b) HFB.out rfl rfl) HS7.out (fun _ => ?_)
  case' refine_2 =>
    simp only [Act.put, List.setIfInBounds_toArray, List.set_cons_zero, List.set_cons_succ]
    refine reg_step (w' := w6.alloc (.cells (.int .i64 (p : Int) :: bvs (full b)).toArray 78)) (v := .slice W D.waits.length cW) 4 (some 36) rfl rfl (by kernel_rfl) (by rfl) (by clear hc6; go_simp) HS7.out (fun _ => ?_)
  all_goals
    simp only [Act.put, List.setIfInBounds_toArray, List.set_cons_zero, List.set_cons_succ]
    have HNW := Lib.hid HD.out.nw
    refine reg_appK 9 (some 41) (.tmp 36) (.tmp 40) 62 rfl rfl rfl (by kernel_rfl) (by rfl) 257 (by decide) 78 i0 _ 264 wrs_under HI.out.1 HI.out.2.1 HI.out.2.2.1 HI.out.2.2.2 zwr_cells W D.waits.length cW (D.waits.flatMap wcell) rfl (HOW6.out.alloc _) ⟨w6.heap.size, 0, none⟩ 1 1 (wcell (p, full b)) rfl (by rw [wcell_length _ HFB.out]) (row_new w6 (wcell (p, full b)) _) (wcell_one _) (by have := HWL.out; omega) (by have := HWL.out; omega) ?_
    intro W2 c2 w7 o7 g7 a7
    have hF7 : Kp (fun i => ab W = some i) (w6.alloc (.cells (.int .i64 (p : Int) :: bvs (full b)).toArray 78)) w7 := (Kp.refl _ _).grown g7 (fun k e => .inl e)
    have HS8 := Lib.hid (HS7.out.keep hF7 (fun e => by have := HD.out.waits.lt g3 e; have := HG3.out; omega))
    have HG8 := Lib.hid (HG7.out.keep hF7 (fun e => (HNW.out g e).1 rfl))
    have HK67 : Hid (Kp (fun i => ab W = some i) w6 w7) := Lib.hid (((Kp.refl _ w6).alloc _).trans hF7 (fun i e => .inl e))
    have HO7 := Lib.hid o7
    have hsz6 : w.heap.size ≤ w6.heap.size := Nat.le_trans HKW.out.size HK6.out.size
    have HW7 : Hid (∀ k, ab W2 = some k → ab W = some k ∨ w.heap.size ≤ k) := Lib.hid (fun k e => by
      rcases a7 with h | h
      · exact .inl (by rw [← h]; exact e)
      · rw [h] at e; cases e; right; simp; omega)
    clear o7 g7 a7 hF7
    refine ⟨HS8.out, fun _ => ?_⟩
    simp only [Act.put, List.setIfInBounds_toArray, List.set_cons_zero, List.set_cons_succ]
    refine reg_take (v := .pointer (some ⟨g, 0, none⟩)) 10 (some 42) rfl rfl (by kernel_rfl) (by kernel_rfl) (by kernel_rfl) (by rfl) HS8.out (fun w hw => by go_simp) ?_
    simp only [Act.put, List.setIfInBounds_toArray, List.set_cons_zero, List.set_cons_succ]
    refine reg_take (v := .pointer (some ⟨g, 2, none⟩)) 11 (some 43) rfl rfl (by kernel_rfl) (by kernel_rfl) (by kernel_rfl) (by rfl) HS8.out (fun w hw => by go_simp) ?_
    simp only [Act.put, List.setIfInBounds_toArray, List.set_cons_zero, List.set_cons_succ]
    have HN7 := Lib.hid ((HN5.out.keep HK6.out (fun e => e)).keep HK67.out (fun e => (HNW.out N e).2.1 rfl))
    have HSA7 := Lib.hid ((HS5.out.keep HK6.out (fun e => e)).keep HK67.out (fun e => (HNW.out S e).2.2 rfl))
    have c2' : w7.cell? ⟨g, 2, none⟩ = some (.slice W D.waits.length cW) := by rw [HG8.out.cell]; rfl
    have f2' : w7.frozen? ⟨g, 2, none⟩ = false := HG8.out.frozen _
    have kg : Kp (oneB g) w7 (w7.setCell ⟨g, 2, none⟩ (.slice W2 (D.waits.length + 1) c2)) := (Kp.refl (oneB g) w7).setCell (p := ⟨g, 2, none⟩) (.inl rfl) _
    have hbg := HG8.out.set_ 2 (.slice W2 (D.waits.length + 1) c2)
    have hlt := HD.out.lt
    have hnw2 : ∀ k, ab W2 = some k → k ≠ g ∧ k ≠ N ∧ k ≠ S := fun k e => by
      rcases HW7.out k e with h | h
      · exact HNW.out k h
      · have h1 := hlt g (.inl rfl); have h2 := hlt N (.inr (.inl rfl)); have h3 := hlt S (.inr (.inr (.inl rfl)))
        exact ⟨by omega, by omega, by omega⟩
    have hcd := cd_wrote HD.out p b HP.out HBL.out hbg (HN7.out.keep kg HD.out.ne.1) (HSA7.out.keep kg HD.out.ne.2.1) (HO7.out.keep kg (fun k e e2 => (hnw2 k e).1 e2)) hnw2
    have HCD := Lib.hid hcd
    have HKZ := Lib.hid (((HKW.out.trans HK6.out (fun _ e => e.elim)).trans HK67.out (fun i e => .inl (.inr (.inr (.inr e))))).trans kg (fun i e => .inl (.inl e)))
    have HS9 := Lib.hid (HS8.out.keep kg (fun e => by have h1 := hlt g (.inl rfl); have := HG3.out; have e : g3 = g := e; omega))
    clear hcd hlt hnw2 hbg kg
    refine reg_mute (w' := w7.setCell ⟨g, 2, none⟩ (.slice W2 (D.waits.length + 1) c2)) 12 none rfl rfl (by kernel_rfl) (by rfl) (by go_simp) HS9.out (fun _ => ?_)
    simp only [Act.put, List.setIfInBounds_toArray, List.set_cons_zero, List.set_cons_succ]
    refine reg_end (by kernel_rfl) ?_
    clear c2' f2' hc6 hc7
    go_wp2_with fail
    refine (HAA.out _ W2 c2 HCD.out).mono ?_
    rintro e w8 ⟨rfl, h8⟩
    have H8 := Lib.hid h8
    clear h8
    go_wp2
    go_ret
    exact ⟨rfl, Dz.trans HKZ.out HW7.out H8.out⟩
end Go.Proofs.Ytchdobneipfghaa.Disk
