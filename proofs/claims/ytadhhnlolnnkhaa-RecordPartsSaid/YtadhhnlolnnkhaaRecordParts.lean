/- RecordParts: two records have the same bytes just if they are the same. -/
import Derived.Test.YtadhhnlolnnkhaaRecEq
import Derived.Test.YtadhhnlolnnkhaaScrR
namespace Go.Proofs.Ytadhhnlolnnkhaa.Rec
set_option linter.unusedVariables false
set_option linter.unusedSimpArgs false
open Go Go.RowKit Kit

/-- Two records' boxes. -/
structure Two (w : World) (a b : Rec) (w2 : World) : Prop where
  x : Blk w2 w.heap.size 23 (rcells a)
  y : Blk w2 (w.heap.size + 1) 23 (rcells b)
  k : Kp nob w w2
theorem Two.keep {w w2 w3 : World} {a b : Rec} (h : Two w a b w2) (k : Kp nob w2 w3) : Two w a b w3 := ⟨h.x.keep k (fun e => e), h.y.keep k (fun e => e), h.k.trans k (fun _ e => e.elim)⟩

set_option maxHeartbeats 4000000 in
set_option maxRecDepth 100000 in
theorem parts_walk (a b : Rec) (w : World) (ha : a.ok) (hb : b.ok) : Calls Try.prog 6 #[rv a, rv b] w fun e w' => e = .returned (.bool true) ∧ Kp nob w w' := by
  have HAL := Lib.hid (show a.body.length ≤ 140737488355328 from ha.2.2.2.2.2)
  have HBL := Lib.hid (show b.body.length ≤ 140737488355328 from hb.2.2.2.2.2)
  clear ha hb
  have T0 : Hid (Two w a b ((w.alloc (.cells (rcells a).toArray 23)).alloc (.cells (rcells b).toArray 23))) := Lib.hid ⟨(Blk.new w _ _).alloc _, by
    have := Blk.new (w.alloc (.cells (rcells a).toArray 23)) 23 (rcells b)
    rwa [show (w.alloc (.cells (rcells a).toArray 23)).heap.size = w.heap.size + 1 by simp] at this, ((Kp.refl nob w).alloc _).alloc _⟩
  have hgr := great_two a b
  unfold rv
  go_enter Try.func6, Try.ntmps6
  go_wp2_with fail
  refine (alive_yes _).mono ?_
  rintro e w1 ⟨rfl, k1⟩
  have T1 := Lib.hid (T0.out.keep k1)
  obtain ⟨c0, c1, c2, c3, c4, c5⟩ := box_cells T1.out.x
  obtain ⟨d0, d1, d2, d3, d4, d5⟩ := box_cells T1.out.y
  clear T0 k1
  go_wp2_with fail
  refine (hgr _ _ rfl _).mono ?_
  rintro e w2 ⟨rfl, k2⟩
  have T2 := Lib.hid (T1.out.keep k2)
  clear T1 k2 c0 c1 c2 c3 c4 c5 d0 d1 d2 d3 d4 d5 hgr
  cases hg : (decide (4096 < a.body.length) || decide (4096 < b.body.length)) with
  | true =>
    go_wp2
    go_ret
    exact ⟨rfl, T2.out.k⟩
  | false =>
  have HL := Lib.hid (show a.body.length ≤ 4096 ∧ b.body.length ≤ 4096 by simp only [Bool.or_eq_false_iff, decide_eq_false_iff_not] at hg; omega)
  clear hg
  obtain ⟨d, hd1, hd2⟩ := rec_under
  obtain ⟨g, hgw⟩ : ∃ g, g = w.heap.size := ⟨_, rfl⟩
  obtain ⟨g2, hg2⟩ : ∃ g2, g2 = w.heap.size + 1 := ⟨_, rfl⟩
  have HX := Lib.hid (show ∀ w', Two w a b w' → Blk w' g 23 (rcells a) ∧ Blk w' g2 23 (rcells b) ∧ Kp nob w w' by
    rw [hgw, hg2]; exact fun w' h => ⟨h.x, h.y, h.k⟩)
  rw [← hg2, ← hgw]
  obtain ⟨c0, c1, c2, c3, c4, c5⟩ := box_cells (HX.out w2 T2.out).1
  have HPA := fun (w3 : World) => cPut a w3 (by have := HL.out; omega)
  have HPB := fun (w3 : World) => cPut b w3 (by have := HL.out; omega)
  clear hgw hg2
  go_wp2_with fail
  refine (HPA w2).mono ?_
  rintro e w3 ⟨A, n, c, ea, rfl, k3, hA⟩
  have T3 := Lib.hid (T2.out.keep k3)
  have HA3 := Lib.hid hA
  clear T2 k3 hA c0 c1 c2 c3 c4 c5
  obtain ⟨c0, c1, c2, c3, c4, c5⟩ := box_cells (HX.out w3 T3.out).2.1
  go_wp2_with fail
  refine (HPB w3).mono ?_
  rintro e w4 ⟨B, m, cb, eb, rfl, k4, hB⟩
  have T4 := Lib.hid (T3.out.keep k4)
  have HB4 := Lib.hid hB
  have HA4 : Hid ((good a = false ∧ ea = 1) ∨ (good a = true ∧ ea = 0 ∧ n = 36 + a.body.length ∧ Own 5 w4 A n c (bvs (recB a)))) := Lib.hid (HA3.out.imp (fun h => h) (fun h => ⟨h.1, h.2.1, h.2.2.1, h.2.2.2.keep k4 (fun _ _ e => e)⟩))
  clear T3 HA3 k4 hB c0 c1 c2 c3 c4 c5 HPA HPB
  go_wp2
  rcases HA4.out with ⟨ga, rfl⟩ | ⟨ga, rfl, na, oa⟩
  · go_quiet (fail)
    go_wp2
    go_ret
    exact ⟨rfl, T4.out.k.drewN _⟩
  rcases HB4.out with ⟨gb, rfl⟩ | ⟨gb, rfl, nb, ob⟩
  · go_quiet (fail)
    go_wp2
    go_ret
    exact ⟨rfl, T4.out.k.drewN _⟩
  have ra := oa.row
  have rb := ob.row
  refine reg_start (fun w' : World => Two w a b w' ∧ Row w' A (bvs (recB a)) ∧ Row w' B (bvs (recB b))) (by kernel_rfl) ⟨T4.out.keep (Kp.refl nob _).drew, ra.keep0 (Kp.refl nob _).drew, rb.keep0 (Kp.refl nob _).drew⟩ (fun w5 hS5 => ?_)
  have HS5 := Lib.hid hS5
  have HNA := Lib.hid (show (recB a).length = n by rw [recB_length a (by have := HL.out; omega), na])
  have HNB := Lib.hid (show (recB b).length = m by rw [recB_length b (by have := HL.out; omega), nb])
  have HEQ := Lib.hid (show (decide (recB a = recB b) == decide (a = b)) = true by
    by_cases h : a = b
    · simp [h]
    · have h2 : recB a ≠ recB b := fun e => h (recB_inj a b ga gb e)
      simp [h, h2])
  clear hS5 T4 HA4 HB4 ra rb na nb oa ob
  refine reg_take (v := .int .i64 0) 0 (some 25) rfl rfl (by kernel_rfl) (by kernel_rfl) (by kernel_rfl) (by rfl) HS5.out (fun w hw => by go_simp) ?_
  simp only [Act.put, List.setIfInBounds_toArray, List.set_cons_zero, List.set_cons_succ]
  refine reg_take (v := .bool false) 1 (some 26) rfl rfl (by kernel_rfl) (by kernel_rfl) (by kernel_rfl) (by rfl) HS5.out (fun w hw => by go_simp) ?_
  simp only [Act.put, List.setIfInBounds_toArray, List.set_cons_zero, List.set_cons_succ]
  refine reg_take (v := .bool false) 2 (some 27) rfl rfl (by kernel_rfl) (by kernel_rfl) (by kernel_rfl) (by rfl) HS5.out (fun w hw => by go_simp) ?_
  simp only [Act.put, List.setIfInBounds_toArray, List.set_cons_zero, List.set_cons_succ]
  refine reg_take (v := .int .i64 0) 3 (some 28) rfl rfl (by kernel_rfl) (by kernel_rfl) (by kernel_rfl) (by rfl) HS5.out (fun w hw => by go_simp) ?_
  simp only [Act.put, List.setIfInBounds_toArray, List.set_cons_zero, List.set_cons_succ]
  refine reg_take (v := .bool false) 4 (some 29) rfl rfl (by kernel_rfl) (by kernel_rfl) (by kernel_rfl) (by rfl) HS5.out (fun w hw => by go_simp) ?_
  simp only [Act.put, List.setIfInBounds_toArray, List.set_cons_zero, List.set_cons_succ]
  refine reg_take (v := .bool false) 5 (some 30) rfl rfl (by kernel_rfl) (by kernel_rfl) (by kernel_rfl) (by rfl) HS5.out (fun w hw => by go_simp) ?_
  simp only [Act.put, List.setIfInBounds_toArray, List.set_cons_zero, List.set_cons_succ]
  refine reg_take (v := .bool false) 6 (some 31) rfl rfl (by kernel_rfl) (by kernel_rfl) (by kernel_rfl) (by rfl) HS5.out (fun w hw => by go_simp) ?_
  simp only [Act.put, List.setIfInBounds_toArray, List.set_cons_zero, List.set_cons_succ]
  refine reg_take (v := .slice A n c) 7 (some 32) rfl rfl (by kernel_rfl) (by kernel_rfl) (by kernel_rfl) (by rfl) HS5.out (fun w hw => by go_simp) ?_
  simp only [Act.put, List.setIfInBounds_toArray, List.set_cons_zero, List.set_cons_succ]
  refine reg_take (v := .string (str (recB a))) 8 (some 33) rfl rfl (by kernel_rfl) (by kernel_rfl) (by kernel_rfl) (by rfl) HS5.out (fun w hw => by exact exec_str (.tmp 32) A n c _ rfl rfl HNA.out hw.2.1) ?_
  simp only [Act.put, List.setIfInBounds_toArray, List.set_cons_zero, List.set_cons_succ]
  refine reg_take (v := .slice B m cb) 9 (some 34) rfl rfl (by kernel_rfl) (by kernel_rfl) (by kernel_rfl) (by rfl) HS5.out (fun w hw => by go_simp) ?_
  simp only [Act.put, List.setIfInBounds_toArray, List.set_cons_zero, List.set_cons_succ]
  refine reg_take (v := .string (str (recB b))) 10 (some 35) rfl rfl (by kernel_rfl) (by kernel_rfl) (by kernel_rfl) (by rfl) HS5.out (fun w hw => by exact exec_str (.tmp 34) B m cb _ rfl rfl HNB.out hw.2.2) ?_
  simp only [Act.put, List.setIfInBounds_toArray, List.set_cons_zero, List.set_cons_succ]
  refine reg_take (v := .bool (decide (recB a = recB b))) 11 (some 36) rfl rfl (by kernel_rfl) (by kernel_rfl) (by kernel_rfl) (by rfl) HS5.out (fun w hw => by exact exec_eqS (.tmp 33) (.tmp 35) _ _ rfl rfl rfl) ?_
  simp only [Act.put, List.setIfInBounds_toArray, List.set_cons_zero, List.set_cons_succ]
  refine reg_load 12 (some 37) 23 (.tmp 2) rfl rfl rfl (by kernel_rfl) (by kernel_rfl) (by kernel_rfl) (by rfl) HS5.out g 0 rfl (rcells a) _ (fun w hw => (HX.out w hw.1).1.range) hd1 hd2 (rec_size a) ?_
  simp only [Act.put, List.setIfInBounds_toArray, List.set_cons_zero, List.set_cons_succ]
  refine reg_load 13 (some 38) 23 (.tmp 3) rfl rfl rfl (by kernel_rfl) (by kernel_rfl) (by kernel_rfl) (by rfl) HS5.out g2 0 rfl (rcells b) _ (fun w hw => (HX.out w hw.1).2.1.range) hd1 hd2 (rec_size b) ?_
  simp only [Act.put, List.setIfInBounds_toArray, List.set_cons_zero, List.set_cons_succ]
  refine reg_take (v := .bool (decide (a = b))) 14 (some 39) rfl rfl (by kernel_rfl) (by kernel_rfl) (by kernel_rfl) (by rfl) HS5.out (fun w hw => by exact exec_eqR (.tmp 37) (.tmp 38) a b rfl rfl rfl) ?_
  simp only [Act.put, List.setIfInBounds_toArray, List.set_cons_zero, List.set_cons_succ]
  refine reg_take (v := .bool true) 15 (some 40) rfl rfl (by kernel_rfl) (by kernel_rfl) (by kernel_rfl) (by rfl) HS5.out (fun w hw => by have he := HEQ.out; generalize decide (recB a = recB b) = x1 at he ⊢; generalize decide (a = b) = x2 at he ⊢; go_simp) ?_
  simp only [Act.put, List.setIfInBounds_toArray, List.set_cons_zero, List.set_cons_succ]
  refine reg_take (v := .bool true) 16 (some 41) rfl rfl (by kernel_rfl) (by kernel_rfl) (by kernel_rfl) (by rfl) HS5.out (fun w hw => by go_simp) ?_
  simp only [Act.put, List.setIfInBounds_toArray, List.set_cons_zero, List.set_cons_succ]
  refine reg_take (v := .bool true) 17 (some 4) rfl rfl (by kernel_rfl) (by kernel_rfl) (by kernel_rfl) (by rfl) HS5.out (fun w hw => by go_simp) ?_
  simp only [Act.put, List.setIfInBounds_toArray, List.set_cons_zero, List.set_cons_succ]
  refine reg_end (by kernel_rfl) ?_
  go_wp2
  go_ret
  exact ⟨rfl, HS5.out.1.k⟩
end Go.Proofs.Ytadhhnlolnnkhaa.Rec
