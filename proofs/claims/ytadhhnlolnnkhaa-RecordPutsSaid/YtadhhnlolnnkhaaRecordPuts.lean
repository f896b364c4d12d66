/- RecordPuts: Good, Put and Size answer what the document says, of all records. -/
import Derived.Test.YtadhhnlolnnkhaaRecN
import Derived.Test.YtadhhnlolnnkhaaScrR
namespace Go.Proofs.Ytadhhnlolnnkhaa.Rec
set_option linter.unusedVariables false
set_option linter.unusedSimpArgs false
open Go Go.RowKit Kit

set_option maxHeartbeats 4000000 in
set_option maxRecDepth 100000 in
theorem puts_walk (r : Rec) (w : World) (hw : r.ok) : Calls Try.prog 3 #[rv r] w fun e w' => e = .returned (.bool true) ∧ Kp nob w w' := by
  have hbl : r.body.length ≤ 140737488355328 := hw.2.2.2.2.2
  have HBL := Lib.hid hbl; clear hbl hw
  have HB0 := Lib.hid (Blk.new w 23 (rcells r))
  have HK0 := Lib.hid ((Kp.refl nob w).alloc (.cells (rcells r).toArray 23))
  have hgr := great_one r
  unfold rv
  go_enter Try.func3, Try.ntmps3
  go_wp2_with fail
  refine (alive_yes _).mono ?_
  rintro e w1 ⟨rfl, k1⟩
  have HB1 := Lib.hid (HB0.out.keep k1 (fun e => e))
  have HK1 := Lib.hid (HK0.out.trans k1 (fun _ e => e.elim))
  obtain ⟨c0, c1, c2, c3, c4, c5⟩ := box_cells HB1.out
  clear HB0 HK0 k1
  go_wp2_with fail
  refine (hgr _ _ rfl _).mono ?_
  rintro e w2 ⟨rfl, k2⟩
  have HB2 := Lib.hid (HB1.out.keep k2 (fun e => e))
  have HK2 := Lib.hid (HK1.out.trans k2 (fun _ e => e.elim))
  obtain ⟨d0, d1, d2, d3, d4, d5⟩ := box_cells HB2.out
  clear HB1 HK1 k2 c0 c1 c2 c3 c4 c5 hgr
  by_cases hg : 4096 < r.body.length
  · have hb : decide (4096 < r.body.length) = true := decide_eq_true hg
    rw [hb]
    go_wp2
    go_ret
    exact ⟨rfl, HK2.out⟩
  have hb : decide (4096 < r.body.length) = false := decide_eq_false hg
  rw [hb]
  have HL := Lib.hid (show r.body.length ≤ 4096 by omega)
  clear hb hg
  obtain ⟨d, hd1, hd2⟩ := rec_under
  obtain ⟨g, hgw⟩ : ∃ g, g = w.heap.size := ⟨_, rfl⟩
  rw [← hgw] at HB2 d0 d1 d2 d3 d4 d5 ⊢
  clear hgw
  cases hgd : good r with
  | false =>
    go_wp2_with fail
    refine (put_no r w2 (by have := HL.out; omega) hgd).mono ?_
    rintro e w3 ⟨rfl, k3⟩
    have HB3 := Lib.hid (HB2.out.keep k3 (fun e => e))
    have HK3 := Lib.hid (HK2.out.trans k3 (fun _ e => e.elim))
    obtain ⟨e0, e1, e2, e3, e4, e5⟩ := box_cells HB3.out
    clear HB2 HK2 k3 d0 d1 d2 d3 d4 d5
    go_wp2_with fail
    have hdg := dGood r w3
    rw [hgd] at hdg
    refine hdg.mono ?_
    rintro e w4 ⟨rfl, k4⟩
    have HB4 := Lib.hid (HB3.out.keep k4 (fun e => e))
    have HK4 := Lib.hid (HK3.out.trans k4 (fun _ e => e.elim))
    clear HB3 HK3 k4 e0 e1 e2 e3 e4 e5 hdg
    go_wp2
    refine reg_start (fun w' : World => Blk w' g 23 (rcells r) ∧ Kp nob w w') (by kernel_rfl) ⟨HB4.out.keep (Kp.refl nob _).drew (fun e => e), HK4.out.drew⟩ (fun w5 hS5 => ?_)
    have HS5 := Lib.hid hS5
    clear hS5 HB4 HK4
    obtain ⟨T, hT⟩ : ∃ T : Int, T = 36 + (r.body.length : Int) := ⟨_, rfl⟩
    have hwl : IntKind.i64.wrap (36 + (r.body.length : Int)) = T := by rw [hT, IntWalk.i64_in _ (by have := HL.out; omega)]
    have HTT := Lib.hid (show ((total [r] : Nat) : Int) = T by rw [hT]; simp [total])
    clear hT
    refine reg_load 0 (some 18) 23 (.tmp 1) rfl rfl rfl (by kernel_rfl) (by kernel_rfl) (by kernel_rfl) (by rfl) HS5.out g 0 rfl (rcells r) _ (fun w hw => hw.1.range) hd1 hd2 (rec_size r) ?_
    simp only [Act.put, List.setIfInBounds_toArray, List.set_cons_zero, List.set_cons_succ]
    refine reg_call 1 (some 19) rfl rfl (by kernel_rfl) (by rfl) _ _ (exec_func 13 _ _ [.agg (rcells r).toArray] rfl (by kernel_rfl) rfl) ?_
    have hcg := cGood r w5 (by have := HL.out; omega)
    rw [hgd] at hcg
    refine (hcg).mono ?_
    rintro e w6 ⟨rfl, k6⟩
    have HS6 := Lib.hid (show Blk w6 g 23 (rcells r) ∧ Kp nob w w6 from ⟨HS5.out.1.keep k6 (fun e => e), HS5.out.2.trans k6 (fun _ e => e.elim)⟩)
    refine ⟨_, rfl, HS6.out, fun _ => ?_⟩
    simp only [Act.put, List.setIfInBounds_toArray, List.set_cons_zero, List.set_cons_succ]
    refine reg_take (v := .bool true) 2 (some 20) rfl rfl (by kernel_rfl) (by kernel_rfl) (by kernel_rfl) (by rfl) HS6.out (fun w hw => by go_simp) ?_
    simp only [Act.put, List.setIfInBounds_toArray, List.set_cons_zero, List.set_cons_succ]
    refine reg_take (v := .bool true) 3 (some 21) rfl rfl (by kernel_rfl) (by kernel_rfl) (by kernel_rfl) (by rfl) HS6.out (fun w hw => by go_simp) ?_
    simp only [Act.put, List.setIfInBounds_toArray, List.set_cons_zero, List.set_cons_succ]
    refine reg_take (v := .int .i64 1) 4 (some 22) rfl rfl (by kernel_rfl) (by kernel_rfl) (by kernel_rfl) (by rfl) HS6.out (fun w hw => by go_simp) ?_
    simp only [Act.put, List.setIfInBounds_toArray, List.set_cons_zero, List.set_cons_succ]
    refine reg_take (v := .bool true) 5 (some 23) rfl rfl (by kernel_rfl) (by kernel_rfl) (by kernel_rfl) (by rfl) HS6.out (fun w hw => by go_simp) ?_
    simp only [Act.put, List.setIfInBounds_toArray, List.set_cons_zero, List.set_cons_succ]
    refine reg_take (v := .bool true) 6 (some 24) rfl rfl (by kernel_rfl) (by kernel_rfl) (by kernel_rfl) (by rfl) HS6.out (fun w hw => by go_simp) ?_
    simp only [Act.put, List.setIfInBounds_toArray, List.set_cons_zero, List.set_cons_succ]
    refine reg_take (v := .bool true) 7 (some 25) rfl rfl (by kernel_rfl) (by kernel_rfl) (by kernel_rfl) (by rfl) HS6.out (fun w hw => by go_simp) ?_
    simp only [Act.put, List.setIfInBounds_toArray, List.set_cons_zero, List.set_cons_succ]
    refine reg_take (v := .slice none 0 0) 8 (some 26) rfl rfl (by kernel_rfl) (by kernel_rfl) (by kernel_rfl) (by rfl) HS6.out (fun w hw => by go_simp) ?_
    simp only [Act.put, List.setIfInBounds_toArray, List.set_cons_zero, List.set_cons_succ]
    refine reg_take (v := .int .i64 0) 9 (some 27) rfl rfl (by kernel_rfl) (by kernel_rfl) (by kernel_rfl) (by rfl) HS6.out (fun w hw => by go_simp) ?_
    simp only [Act.put, List.setIfInBounds_toArray, List.set_cons_zero, List.set_cons_succ]
    refine reg_take (v := .bool true) 10 (some 28) rfl rfl (by kernel_rfl) (by kernel_rfl) (by kernel_rfl) (by rfl) HS6.out (fun w hw => by go_simp) ?_
    simp only [Act.put, List.setIfInBounds_toArray, List.set_cons_zero, List.set_cons_succ]
    refine reg_take (v := .bool true) 11 (some 29) rfl rfl (by kernel_rfl) (by kernel_rfl) (by kernel_rfl) (by rfl) HS6.out (fun w hw => by go_simp) ?_
    simp only [Act.put, List.setIfInBounds_toArray, List.set_cons_zero, List.set_cons_succ]
    refine reg_take (v := .bool true) 12 (some 30) rfl rfl (by kernel_rfl) (by kernel_rfl) (by kernel_rfl) (by rfl) HS6.out (fun w hw => by go_simp) ?_
    simp only [Act.put, List.setIfInBounds_toArray, List.set_cons_zero, List.set_cons_succ]
    refine reg_load 13 (some 31) 23 (.tmp 1) rfl rfl rfl (by kernel_rfl) (by kernel_rfl) (by kernel_rfl) (by rfl) HS6.out g 0 rfl (rcells r) _ (fun w hw => hw.1.range) hd1 hd2 (rec_size r) ?_
    simp only [Act.put, List.setIfInBounds_toArray, List.set_cons_zero, List.set_cons_succ]
    refine reg_take (v := .pointer (some ⟨g, 5, none⟩)) 16 (some 34) rfl rfl (by kernel_rfl) (by kernel_rfl) (by kernel_rfl) (by rfl) HS6.out (fun w hw => by go_simp) ?_
    simp only [Act.put, List.setIfInBounds_toArray, List.set_cons_zero, List.set_cons_succ]
    refine reg_take (v := .string (str r.body)) 17 (some 35) rfl rfl (by kernel_rfl) (by kernel_rfl) (by kernel_rfl) (by rfl) HS6.out (fun w hw => by have hc := (box_cells hw.1).2.2.2.2.2; go_simp) ?_
    simp only [Act.put, List.setIfInBounds_toArray, List.set_cons_zero, List.set_cons_succ]
    refine reg_take (v := .int .i64 (r.body.length : Int)) 18 (some 36) rfl rfl (by kernel_rfl) (by kernel_rfl) (by kernel_rfl) (by rfl) HS6.out (fun w hw => by go_simp) ?_
    simp only [Act.put, List.setIfInBounds_toArray, List.set_cons_zero, List.set_cons_succ]
    refine reg_take (v := .int .i64 T) 19 (some 37) rfl rfl (by kernel_rfl) (by kernel_rfl) (by kernel_rfl) (by rfl) HS6.out (fun w hw => by go_simp) ?_
    simp only [Act.put, List.setIfInBounds_toArray, List.set_cons_zero, List.set_cons_succ]
    have k7 := (Kp.refl nob w6).alloc (.cells (rcells r).toArray 23)
    have HS7 := Lib.hid (show Blk (w6.alloc (.cells (rcells r).toArray 23)) g 23 (rcells r) ∧ Kp nob w (w6.alloc (.cells (rcells r).toArray 23)) from ⟨HS6.out.1.keep k7 (fun e => e), HS6.out.2.trans k7 (fun _ e => e.elim)⟩)
    refine reg_step (v := .slice (some ⟨w6.heap.size, 0, none⟩) 1 1) (w' := w6.alloc (.cells (rcells r).toArray 23)) 14 (some 32) rfl rfl (by kernel_rfl) (by rfl) (exec_row1 (.tmp 31) r rfl rfl) HS7.out (fun _ => ?_)
    simp only [Act.put, List.setIfInBounds_toArray, List.set_cons_zero, List.set_cons_succ]
    refine reg_call 15 (some 33) rfl rfl (by kernel_rfl) (by rfl) _ _ (exec_func 14 _ _ [.slice (some ⟨w6.heap.size, 0, none⟩) 1 1] rfl (by kernel_rfl) rfl) ?_
    refine (size_any _ 1 1 [r] _ rfl (rrow_one w6 r _) (by have := HL.out; simp [total]; omega) (by simp [maxLen])).mono ?_
    rintro e w8 ⟨rfl, k8⟩
    rw [HTT.out]
    have HS8 := Lib.hid (show Blk w8 g 23 (rcells r) ∧ Kp nob w w8 from ⟨HS7.out.1.keep k8 (fun e => e), HS7.out.2.trans k8 (fun _ e => e.elim)⟩)
    refine ⟨_, rfl, HS8.out, fun _ => ?_⟩
    simp only [Act.put, List.setIfInBounds_toArray, List.set_cons_zero, List.set_cons_succ]
    refine reg_take (v := .bool true) 20 (some 38) rfl rfl (by kernel_rfl) (by kernel_rfl) (by kernel_rfl) (by rfl) HS8.out (fun w hw => by go_simp) ?_
    simp only [Act.put, List.setIfInBounds_toArray, List.set_cons_zero, List.set_cons_succ]
    refine reg_take (v := .bool true) 21 (some 39) rfl rfl (by kernel_rfl) (by kernel_rfl) (by kernel_rfl) (by rfl) HS8.out (fun w hw => by go_simp) ?_
    simp only [Act.put, List.setIfInBounds_toArray, List.set_cons_zero, List.set_cons_succ]
    refine reg_take (v := .bool true) 22 (some 2) rfl rfl (by kernel_rfl) (by kernel_rfl) (by kernel_rfl) (by rfl) HS8.out (fun w hw => by go_simp) ?_
    simp only [Act.put, List.setIfInBounds_toArray, List.set_cons_zero, List.set_cons_succ]
    refine reg_end (by kernel_rfl) ?_
    go_wp2
    go_ret
    exact ⟨rfl, HS8.out.2⟩
  | true =>
    go_wp2_with fail
    refine (put_yes r w2 hgd).mono ?_
    rintro e w3 ⟨A, c, rfl, ho, hf, k3⟩
    obtain ⟨n, hn⟩ : ∃ n, n = 36 + r.body.length := ⟨_, rfl⟩
    rw [← hn] at ho ⊢
    have HB3 := Lib.hid (HB2.out.keep k3 (fun e => e))
    have HK3 := Lib.hid (HK2.out.trans k3 (fun _ e => e.elim))
    have HO3 := Lib.hid ho.row
    obtain ⟨e0, e1, e2, e3, e4, e5⟩ := box_cells HB3.out
    have HN := Lib.hid hn
    obtain ⟨Z, hZ⟩ : ∃ Z, Z = recB r := ⟨_, rfl⟩
    have HZL := Lib.hid (show Z.length = n by rw [hZ, HN.out]; exact recB_length r (by have := HL.out; omega))
    have hby := fun w' => dBytes r w' hgd
    rw [← hZ] at HO3
    simp only [← hZ] at hby
    have HBY := Lib.hid hby
    clear hby hZ
    clear HB2 HK2 k3 d0 d1 d2 d3 d4 d5 ho hf hn
    go_wp2_with fail
    have hdg := dGood r w3
    rw [hgd] at hdg
    refine hdg.mono ?_
    rintro e w4 ⟨rfl, k4⟩
    have HB4 := Lib.hid (HB3.out.keep k4 (fun e => e))
    have HK4 := Lib.hid (HK3.out.trans k4 (fun _ e => e.elim))
    have HO4 := Lib.hid (HO3.out.keep0 k4)
    clear HB3 HK3 HO3 k4 e0 e1 e2 e3 e4 e5 hdg
    go_wp2
    refine reg_start (fun w' : World => Blk w' g 23 (rcells r) ∧ Kp nob w w' ∧ Row w' A (bvs Z)) (by kernel_rfl) ⟨HB4.out.keep (Kp.refl nob _).drew (fun e => e), HK4.out.drew, HO4.out.keep0 (Kp.refl nob _).drew⟩ (fun w5 hS5 => ?_)
    have HS5 := Lib.hid hS5
    clear hS5 HB4 HK4 HO4
    obtain ⟨T, hT⟩ : ∃ T : Int, T = 2 * (n : Int) := ⟨_, rfl⟩
    have hwl : IntKind.i64.wrap (2 * (n : Int)) = T := by rw [hT, IntWalk.i64_in _ (by have := HL.out; have := HN.out; omega)]
    have HTT := Lib.hid (show ((total [r, r] : Nat) : Int) = T by rw [hT]; have := HN.out; simp [total]; omega)
    clear hT
    refine reg_load 0 (some 40) 23 (.tmp 1) rfl rfl rfl (by kernel_rfl) (by kernel_rfl) (by kernel_rfl) (by rfl) HS5.out g 0 rfl (rcells r) _ (fun w hw => hw.1.range) hd1 hd2 (rec_size r) ?_
    simp only [Act.put, List.setIfInBounds_toArray, List.set_cons_zero, List.set_cons_succ]
    refine reg_call 1 (some 41) rfl rfl (by kernel_rfl) (by rfl) _ _ (exec_func 13 _ _ [.agg (rcells r).toArray] rfl (by kernel_rfl) rfl) ?_
    have hcg := cGood r w5 (by have := HL.out; omega)
    rw [hgd] at hcg
    refine (hcg).mono ?_
    rintro e w6 ⟨rfl, k6⟩
    have HS6 := Lib.hid (show Blk w6 g 23 (rcells r) ∧ Kp nob w w6 ∧ Row w6 A (bvs Z) from ⟨HS5.out.1.keep k6 (fun e => e), HS5.out.2.1.trans k6 (fun _ e => e.elim), HS5.out.2.2.keep0 k6⟩)
    refine ⟨_, rfl, HS6.out, fun _ => ?_⟩
    simp only [Act.put, List.setIfInBounds_toArray, List.set_cons_zero, List.set_cons_succ]
    refine reg_take (v := .bool true) 2 (some 42) rfl rfl (by kernel_rfl) (by kernel_rfl) (by kernel_rfl) (by rfl) HS6.out (fun w hw => by go_simp) ?_
    simp only [Act.put, List.setIfInBounds_toArray, List.set_cons_zero, List.set_cons_succ]
    refine reg_take (v := .int .i64 0) 3 (some 43) rfl rfl (by kernel_rfl) (by kernel_rfl) (by kernel_rfl) (by rfl) HS6.out (fun w hw => by go_simp) ?_
    simp only [Act.put, List.setIfInBounds_toArray, List.set_cons_zero, List.set_cons_succ]
    refine reg_take (v := .bool true) 4 (some 44) rfl rfl (by kernel_rfl) (by kernel_rfl) (by kernel_rfl) (by rfl) HS6.out (fun w hw => by go_simp) ?_
    simp only [Act.put, List.setIfInBounds_toArray, List.set_cons_zero, List.set_cons_succ]
    refine reg_take (v := .bool true) 5 (some 45) rfl rfl (by kernel_rfl) (by kernel_rfl) (by kernel_rfl) (by rfl) HS6.out (fun w hw => by go_simp) ?_
    simp only [Act.put, List.setIfInBounds_toArray, List.set_cons_zero, List.set_cons_succ]
    refine reg_take (v := .bool true) 6 (some 46) rfl rfl (by kernel_rfl) (by kernel_rfl) (by kernel_rfl) (by rfl) HS6.out (fun w hw => by go_simp) ?_
    simp only [Act.put, List.setIfInBounds_toArray, List.set_cons_zero, List.set_cons_succ]
    refine reg_take (v := .slice A n c) 7 (some 47) rfl rfl (by kernel_rfl) (by kernel_rfl) (by kernel_rfl) (by rfl) HS6.out (fun w hw => by go_simp) ?_
    simp only [Act.put, List.setIfInBounds_toArray, List.set_cons_zero, List.set_cons_succ]
    refine reg_take (v := .string (str Z)) 8 (some 48) rfl rfl (by kernel_rfl) (by kernel_rfl) (by kernel_rfl) (by rfl) HS6.out (fun w hw => by exact exec_str (.tmp 47) A n c Z rfl rfl HZL.out hw.2.2) ?_
    simp only [Act.put, List.setIfInBounds_toArray, List.set_cons_zero, List.set_cons_succ]
    refine reg_load 9 (some 49) 23 (.tmp 1) rfl rfl rfl (by kernel_rfl) (by kernel_rfl) (by kernel_rfl) (by rfl) HS6.out g 0 rfl (rcells r) _ (fun w hw => hw.1.range) hd1 hd2 (rec_size r) ?_
    simp only [Act.put, List.setIfInBounds_toArray, List.set_cons_zero, List.set_cons_succ]
    refine reg_call 10 (some 50) rfl rfl (by kernel_rfl) (by rfl) _ _ (exec_func 15 _ _ [.agg (rcells r).toArray] rfl (by kernel_rfl) rfl) ?_
    refine (HBY.out w6).mono ?_
    rintro e w7 ⟨rfl, k7⟩
    have HS7 := Lib.hid (show Blk w7 g 23 (rcells r) ∧ Kp nob w w7 ∧ Row w7 A (bvs Z) from ⟨HS6.out.1.keep k7 (fun e => e), HS6.out.2.1.trans k7 (fun _ e => e.elim), HS6.out.2.2.keep0 k7⟩)
    refine ⟨_, rfl, HS7.out, fun _ => ?_⟩
    simp only [Act.put, List.setIfInBounds_toArray, List.set_cons_zero, List.set_cons_succ]
    refine reg_take (v := .bool true) 11 (some 51) rfl rfl (by kernel_rfl) (by kernel_rfl) (by kernel_rfl) (by rfl) HS7.out (fun w hw => by go_simp) ?_
    simp only [Act.put, List.setIfInBounds_toArray, List.set_cons_zero, List.set_cons_succ]
    refine reg_take (v := .bool true) 12 (some 52) rfl rfl (by kernel_rfl) (by kernel_rfl) (by kernel_rfl) (by rfl) HS7.out (fun w hw => by go_simp) ?_
    simp only [Act.put, List.setIfInBounds_toArray, List.set_cons_zero, List.set_cons_succ]
    refine reg_take (v := .bool true) 13 (some 53) rfl rfl (by kernel_rfl) (by kernel_rfl) (by kernel_rfl) (by rfl) HS7.out (fun w hw => by go_simp) ?_
    simp only [Act.put, List.setIfInBounds_toArray, List.set_cons_zero, List.set_cons_succ]
    refine reg_load 14 (some 54) 23 (.tmp 1) rfl rfl rfl (by kernel_rfl) (by kernel_rfl) (by kernel_rfl) (by rfl) HS7.out g 0 rfl (rcells r) _ (fun w hw => hw.1.range) hd1 hd2 (rec_size r) ?_
    simp only [Act.put, List.setIfInBounds_toArray, List.set_cons_zero, List.set_cons_succ]
    refine reg_load 15 (some 55) 23 (.tmp 1) rfl rfl rfl (by kernel_rfl) (by kernel_rfl) (by kernel_rfl) (by rfl) HS7.out g 0 rfl (rcells r) _ (fun w hw => hw.1.range) hd1 hd2 (rec_size r) ?_
    simp only [Act.put, List.setIfInBounds_toArray, List.set_cons_zero, List.set_cons_succ]
    refine reg_take (v := .slice A n c) 18 (some 58) rfl rfl (by kernel_rfl) (by kernel_rfl) (by kernel_rfl) (by rfl) HS7.out (fun w hw => by go_simp) ?_
    simp only [Act.put, List.setIfInBounds_toArray, List.set_cons_zero, List.set_cons_succ]
    refine reg_take (v := .int .i64 (n : Int)) 19 (some 59) rfl rfl (by kernel_rfl) (by kernel_rfl) (by kernel_rfl) (by rfl) HS7.out (fun w hw => by go_simp) ?_
    simp only [Act.put, List.setIfInBounds_toArray, List.set_cons_zero, List.set_cons_succ]
    refine reg_take (v := .int .i64 T) 20 (some 60) rfl rfl (by kernel_rfl) (by kernel_rfl) (by kernel_rfl) (by rfl) HS7.out (fun w hw => by go_simp) ?_
    simp only [Act.put, List.setIfInBounds_toArray, List.set_cons_zero, List.set_cons_succ]
    have k8 := (Kp.refl nob w7).alloc (.cells (rcells r ++ rcells r).toArray 23)
    have HS8 := Lib.hid (show Blk (w7.alloc (.cells (rcells r ++ rcells r).toArray 23)) g 23 (rcells r) ∧ Kp nob w (w7.alloc (.cells (rcells r ++ rcells r).toArray 23)) ∧ Row (w7.alloc (.cells (rcells r ++ rcells r).toArray 23)) A (bvs Z) from ⟨HS7.out.1.keep k8 (fun e => e), HS7.out.2.1.trans k8 (fun _ e => e.elim), HS7.out.2.2.keep0 k8⟩)
    refine reg_step (v := .slice (some ⟨w7.heap.size, 0, none⟩) 2 2) (w' := w7.alloc (.cells (rcells r ++ rcells r).toArray 23)) 16 (some 56) rfl rfl (by kernel_rfl) (by rfl) (exec_row2 (.tmp 54) (.tmp 55) r r rfl rfl rfl) HS8.out (fun _ => ?_)
    simp only [Act.put, List.setIfInBounds_toArray, List.set_cons_zero, List.set_cons_succ]
    refine reg_call 17 (some 57) rfl rfl (by kernel_rfl) (by rfl) _ _ (exec_func 14 _ _ [.slice (some ⟨w7.heap.size, 0, none⟩) 2 2] rfl (by kernel_rfl) rfl) ?_
    refine (size_any _ 2 2 [r, r] _ rfl (rrow_two w7 r r _) (by have := HL.out; simp [total]; omega) (by simp [maxLen])).mono ?_
    rintro e w9 ⟨rfl, k9⟩
    rw [HTT.out]
    have HS9 := Lib.hid (show Blk w9 g 23 (rcells r) ∧ Kp nob w w9 ∧ Row w9 A (bvs Z) from ⟨HS8.out.1.keep k9 (fun e => e), HS8.out.2.1.trans k9 (fun _ e => e.elim), HS8.out.2.2.keep0 k9⟩)
    refine ⟨_, rfl, HS9.out, fun _ => ?_⟩
    simp only [Act.put, List.setIfInBounds_toArray, List.set_cons_zero, List.set_cons_succ]
    refine reg_take (v := .bool true) 21 (some 61) rfl rfl (by kernel_rfl) (by kernel_rfl) (by kernel_rfl) (by rfl) HS9.out (fun w hw => by go_simp) ?_
    simp only [Act.put, List.setIfInBounds_toArray, List.set_cons_zero, List.set_cons_succ]
    refine reg_take (v := .bool true) 22 (some 62) rfl rfl (by kernel_rfl) (by kernel_rfl) (by kernel_rfl) (by rfl) HS9.out (fun w hw => by go_simp) ?_
    simp only [Act.put, List.setIfInBounds_toArray, List.set_cons_zero, List.set_cons_succ]
    refine reg_take (v := .bool true) 23 (some 2) rfl rfl (by kernel_rfl) (by kernel_rfl) (by kernel_rfl) (by rfl) HS9.out (fun w hw => by go_simp) ?_
    simp only [Act.put, List.setIfInBounds_toArray, List.set_cons_zero, List.set_cons_succ]
    refine reg_end (by kernel_rfl) ?_
    go_wp2
    go_ret
    exact ⟨rfl, HS9.out.2.1⟩
end Go.Proofs.Ytadhhnlolnnkhaa.Rec
