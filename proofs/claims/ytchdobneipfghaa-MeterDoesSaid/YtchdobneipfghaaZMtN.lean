/- The document's own register: one more, whatever it is. -/
import Derived.Test.YtchdobneipfghaaZMtR
import Derived.Test.YtchdobneipfghaaZMtD
namespace Go.Proofs.Ytchdobneipfghaa.Meter
set_option linter.unusedVariables false
set_option linter.unusedSimpArgs false
open Go Go.RowKit Kit Disk

theorem lose_keep (D : Dk) (q : Nat) : (lose D q).keep = D.keep := by
  cases ho : D.off with
  | true => rw [lose_off D q ho]
  | false => rw [lose_on D q ho]
/-- The document's register at m, with its disk at g, behind a call. -/
def Mf (w : World) (m g : Nat) (F : Nat → Prop) (t : Mt) (D : Dk) (w2 : World) : Prop := ∃ (F' : Nat → Prop) (N S W : Option Addr) (cN cS cW : Nat), Dd w2 g F' N S W cN cS cW D ∧ Fb w2 m (some ⟨g, 0, none⟩) t ∧ Kp (fun k => k = m ∨ F k) w w2 ∧ ∀ k, F' k → F k ∨ w.heap.size ≤ k
set_option maxHeartbeats 8000000 in
set_option maxRecDepth 100000 in
theorem fNext (t : Mt) (D : Dk) (e : Int) (r : List UInt8) (m g : Nat) (F : Nat → Prop) (N S W : Option Addr) (cN cS cW : Nat) (w : World) (h : Fb w m (some ⟨g, 0, none⟩) t) (hd : Dd w g F N S W cN cS cW D) (hr : r.length = 32) (hm : ¬ F m) (ho : Ok D) (hn : D.now.length ≤ 4096)
    (hw : D.waits.length ≤ 100000) (ha : D.acts ≤ 1000000000) (hf : D.fuse ≤ 9223372036854775807) :
    Calls Try.prog 13 #[.pointer (some ⟨m, 0, none⟩), .int .i64 e, .agg (bvs r).toArray] w fun e' w' => e' = .returned (.int .i64 (nxt t D e r).2.2) ∧ Mf w m g F (nxt t D e r).1 (nxt t D e r).2.1 w' := by
  obtain ⟨g1, hg1⟩ : ∃ g, g = w.heap.size := ⟨_, rfl⟩
  have HK1 := Lib.hid ((Kp.refl nob w).alloc (.cells (bvs r).toArray 32))
  have HB1 := Lib.hid (Blk.new w 32 (bvs r))
  have HM1 := Lib.hid (h.keep0 HK1.out)
  have HD1 := Lib.hid (hd.keep0 HK1.out)
  have HNF := Lib.hid hm
  have HSELF := Lib.hid (show ∀ w2, Kp nob w w2 → Mf w m g F t D w2 from fun w2 k => ⟨F, N, S, W, cN, cS, cW, hd.keep0 k, h.keep0 k, k.nob _, fun k e => .inl e⟩)
  have HG1 := Lib.hid (show ¬ F g1 ∧ g1 ≠ m ∧ g1 ≠ g from ⟨fun e => by have := hd.lt g1 e; omega, fun e => by have := h.b.lt; omega, fun e => by have := hd.b.lt; omega⟩)
  rw [← hg1] at HB1
  have HMG := Lib.hid (show m ≠ g from fun e => hm (by rw [e]; exact hd.g))
  obtain ⟨c0, c1, c34, c35⟩ := HM1.out.cells
  have d3 : (w.alloc (.cells (bvs r).toArray 32)).cell? ⟨g, 3, none⟩ = some (.bool D.off) := HD1.out.b.cell 3
  have HR := Lib.hid hr
  have HRZ := Lib.hid (root_size r hr)
  have HGE := Lib.hid hg1
  have HAA := Lib.hid (And.intro ho (And.intro hn (And.intro hw (And.intro ha hf))))
  have HTK := Lib.hid h.k
  have HFG := Lib.hid hd.g
  cases hoff : D.off with
  | true =>
    rw [hoff] at d3
    have HN := Lib.hid (nxt_no (t := t) (D := D) (e := e) (r := r) (by rw [hoff, why_off]; decide))
    rw [HN.out, hoff, why_off]
    clear h hd hr hm ho hn hw ha hf hg1 hoff
    go_enter Try.func13, Try.ntmps13
    go_wp2
    go_ret
    exact ⟨rfl, HSELF.out _ HK1.out⟩
  | false =>
    rw [hoff] at d3
    by_cases he : e < t.epoch
    · have HN := Lib.hid (nxt_no (t := t) (D := D) (e := e) (r := r) (by rw [hoff, why_arg t e he]; decide))
      rw [HN.out, hoff, why_arg t e he]
      clear h hd hr hm ho hn hw ha hf hg1 hoff
      go_enter Try.func13, Try.ntmps13
      go_wp2
      go_ret
      exact ⟨rfl, HSELF.out _ HK1.out⟩
    · have de : decide (e < t.epoch) = false := decide_eq_false he
      by_cases hs : t.most ≤ t.count
      · have HN := Lib.hid (nxt_no (t := t) (D := D) (e := e) (r := r) (by rw [hoff, why_spent t e he hs]; decide))
        rw [HN.out, hoff, why_spent t e he hs]
        have d5 : decide (t.most ≤ t.count) = true := decide_eq_true hs
        have d6 : decide ((t.most : Int) ≤ (t.count : Int)) = true := decide_eq_true (by omega)
        clear h hd hr hm ho hn hw ha hf hg1 hoff he hs
        go_enter Try.func13, Try.ntmps13
        go_wp2
        go_quiet (fail)
        go_wp2
        go_ret
        exact ⟨rfl, HSELF.out _ (HK1.out.drewN _)⟩
      · have d5 : decide (t.most ≤ t.count) = false := decide_eq_false hs
        have d6 : decide ((t.most : Int) ≤ (t.count : Int)) = false := decide_eq_false (by omega)
        have HWY := Lib.hid (show why t D.off e = 0 by rw [hoff]; exact why_no t e he hs)
        have HAK := Lib.hid (actkeep D); have HAN := Lib.hid (actnow D)
        have HON := Lib.hid (h.k.on e r hr (by omega))
        obtain ⟨q, hq⟩ : ∃ q, q = t.count + 1 := ⟨_, rfl⟩
        have HE1 := Lib.hid (show IntKind.i64.wrap ((t.count : Int) + 1) = (q : Int) by have := HTK.out.le; have := HTK.out.most; rw [IntWalk.i64_in _ (by omega)]; omega)
        have HQ := Lib.hid hq
        obtain ⟨D1, hD1⟩ : ∃ D1, D1 = (act D).1 := ⟨_, rfl⟩
        have HO1 := Lib.hid (show Ok D1 ∧ D1.now.length ≤ 4096 ∧ D1.waits.length ≤ 100000 from ⟨by rw [hD1]; exact act_ok D ho, by rw [hD1, HAN.out.1]; exact hn, by rw [hD1, HAN.out.2.1]; exact hw⟩)
        have HD1E := Lib.hid hD1
        rw [← hD1] at HAK
        clear h hd hr hm ho hn hw ha hf hg1 hoff he hs hq hD1
        go_enter Try.func13, Try.ntmps13
        go_upto_region 5 with fail
        rw [← HGE.out]
        generalize w.alloc (.cells (bvs r).toArray 32) = w1 at *
        go_wp2
        go_quiet (fail)
        go_upto_region 7 with fail
        have HK2 := Lib.hid (HK1.out.drewN nq)
        have HM2 := Lib.hid (HM1.out.keep0 ((Kp.refl nob w1).drewN nq))
        have HD2 := Lib.hid (HD1.out.keep0 ((Kp.refl nob w1).drewN nq))
        have HB2 := Lib.hid (HB1.out.keep ((Kp.refl nob w1).drewN nq) (fun e => e))
        generalize w1.drewN nq = w2 at *
        have c35b := HM2.out.cells.2.2.2
        clear c0 c1 c34 c35 d3 de d5 d6
        go_wp2_with fail
        refine (fAct D g F N S W cN cS cW w2 HD2.out HAA.out.2.2.2.1 HAA.out.2.2.2.2).mono ?_
        rintro e' w3 ⟨rfl, h3, k3⟩
        have HD3 := Lib.hid (show Dd w3 g F N S W cN cS cW D1 by rw [HD1E.out]; exact h3)
        have HM3 := Lib.hid (HM2.out.keep k3 (fun e => HMG.out e))
        have HB3 := Lib.hid (HB2.out.keep k3 (fun e => HG1.out.2.2 e))
        have HK3 := Lib.hid (show Kp (fun k => k = m ∨ F k) w w3 from (HK2.out.nob _).trans k3 (fun i e => .inl (.inr (by have e : i = g := e; rw [e]; exact HFG.out))))
        clear h3 k3 c35b HM1 HD1 HB1 HM2 HD2 HB2
        obtain ⟨w4, hw4⟩ : ∃ w4, w4 = (w3.setCell ⟨m, 0, none⟩ (.int .i64 (q : Int))).setCell ⟨m, 1, none⟩ (.int .i64 e) := ⟨_, rfl⟩
        have HK34 := Lib.hid (show Kp (oneB m) w3 w4 by rw [hw4]; exact ((Kp.refl (oneB m) w3).setCell (p := ⟨m, 0, none⟩) (.inl rfl) _).setCell (p := ⟨m, 1, none⟩) (.inl rfl) _)
        have HM4 := Lib.hid (show Blk w4 m 52 (((mcells t (some ⟨g, 0, none⟩)).set 0 (.int .i64 (q : Int))).set 1 (.int .i64 e)) by rw [hw4]; exact (HM3.out.b.set_ 0 _).set_ 1 _)
        have HB4 := Lib.hid (HB3.out.keep HK34.out (fun e => HG1.out.2.1 e))
        have HD4 := Lib.hid (HD3.out.keep HK34.out (fun i e e2 => HNF.out (by have e2 : i = m := e2; rw [← e2]; exact e)))
        have HK4 := Lib.hid (HK3.out.trans HK34.out (fun i e => .inl (.inl e)))
        have HSP := Lib.hid (on_cells t e r (some ⟨g, 0, none⟩) q HQ.out HTK.out.root HR.out)
        have HFT := Lib.hid (show 2 + (bvs r).length ≤ (((mcells t (some ⟨g, 0, none⟩)).set 0 (.int .i64 (q : Int))).set 1 (.int .i64 e)).length by rw [List.length_set, List.length_set, mcells_length _ _ HTK.out.root, bvs_length, HR.out]; decide)
        have HW4 := Lib.hid hw4
        obtain ⟨c0, c1, c34, c35⟩ := HM3.out.cells
        have f0 : w3.frozen? ⟨m, 0, none⟩ = false := HM3.out.b.frozen 0
        have f1 : w3.frozen? ⟨m, 1, none⟩ = false := HM3.out.b.frozen 1
        have he1 := HE1.out
        clear hw4
        cases hac : (act D).2 with
        | false =>
          have HN := Lib.hid (nxt_on (r := r) HWY.out hac)
          clear hac
          go_upto_region 11 with fail
          rw [← HW4.out]
          clear c0 c1 c34 c35 f0 f1 he1
          go_wp2_with (first
            | (refine wpList_load_blk rfl 32 (.tmp 5) rfl _ _ _ HB4.out rfl _ root_under rfl HRZ.out ?_)
            | (refine wpList_store_in rfl 32 (.tmp 61) (.tmp 59) rfl m 2 _ _ (bvs r) HM4.out rfl rfl HFT.out HRZ.out (bvs_one _) ?_
               intro w5 hB5 k5 z5
               rw [HSP.out] at hB5
               have HM5 := Lib.hid (show Fb w5 m (some ⟨g, 0, none⟩) (t.on e r) from ⟨hB5, HON.out⟩)
               have HD5 := Lib.hid (HD4.out.keep k5 (fun i e e2 => HNF.out (by have e2 : i = m := e2; rw [← e2]; exact e)))
               have HK5 := Lib.hid (HK4.out.trans k5 (fun i e => .inl (.inl e)))
               clear hB5 k5 z5))
          go_ret
          rw [HN.out, ← HD1E.out]
          exact ⟨rfl, F, N, S, W, cN, cS, cW, HD5.out, HM5.out, HK5.out, fun k e => .inl e⟩
        | true =>
          have k6 : w3.cell? ⟨g, 6, none⟩ = some (.int .u64 (D1.keep : Int)) := HD3.out.b.cell 6
          cases hhi : high D.keep with
          | true =>
            have HN := Lib.hid (nxt_hi (r := r) HWY.out hac hhi)
            have hg1' : decide ((9223372036854775808 : Int) ≤ (D1.keep : Int)) = true := decide_eq_true (by have := of_decide_eq_true hhi; rw [HAK.out]; omega)
            have hg2' : decide ((9223372036854775808 : Nat) ≤ D1.keep) = true := decide_eq_true (by have := of_decide_eq_true hhi; rw [HAK.out]; omega)
            clear hac hhi
            go_upto_region 11 with fail
            rw [← HW4.out]
            clear c0 c1 c34 c35 f0 f1 he1 k6 hg1' hg2'
            go_upto_region 13 with (first
              | (refine wpList_load_blk rfl 32 (.tmp 5) rfl _ _ _ HB4.out rfl _ root_under rfl HRZ.out ?_)
              | (refine wpList_store_in rfl 32 (.tmp 61) (.tmp 59) rfl m 2 _ _ (bvs r) HM4.out rfl rfl HFT.out HRZ.out (bvs_one _) ?_
                 intro w5 hB5 k5 z5
                 rw [HSP.out] at hB5
                 have HMm := Lib.hid (show Fb w5 m (some ⟨g, 0, none⟩) (t.on e r) from ⟨hB5, HON.out⟩)
                 have HDd := Lib.hid (HD4.out.keep k5 (fun i e e2 => HNF.out (by have e2 : i = m := e2; rw [← e2]; exact e)))
                 have HKk := Lib.hid (HK4.out.trans k5 (fun i e => .inl (.inl e)))
                 clear hB5 k5 z5))
            have HS := Lib.hid (And.intro (HMm.out.keep0 (Kp.refl nob w5).drew).cells.2.2.2 ((HDd.out.keep0 (Kp.refl nob w5).drew).b.cell 6))
            have HMd := Lib.hid (HMm.out.keep0 (Kp.refl nob w5).drew)
            have HDr := Lib.hid (HDd.out.keep0 (Kp.refl nob w5).drew)
            have HKr := Lib.hid (HKk.out.drew)
            refine reg_begin (fun w' => w'.cell? ⟨m, 35, none⟩ = some (.pointer (some ⟨g, 0, none⟩)) ∧ w'.cell? ⟨g, 6, none⟩ = some (.int .u64 (D1.keep : Int))) (by kernel_rfl) HS.out (fun _ => ?_)
            generalize w5.drew = wl at *
            refine reg_take (v := .pointer (some ⟨m, 0, none⟩)) 0 (some 63) rfl rfl (by kernel_rfl) (by kernel_rfl) (by kernel_rfl) (by rfl) HS.out (fun w hw => by go_simp) ?_
            simp only [Act.put, List.setIfInBounds_toArray, List.set_cons_zero, List.set_cons_succ]
            refine reg_take (v := .pointer (some ⟨m, 0, none⟩)) 1 (some 64) rfl rfl (by kernel_rfl) (by kernel_rfl) (by kernel_rfl) (by rfl) HS.out (fun w hw => by go_simp) ?_
            simp only [Act.put, List.setIfInBounds_toArray, List.set_cons_zero, List.set_cons_succ]
            refine reg_take (v := .pointer (some ⟨m, 35, none⟩)) 2 (some 65) rfl rfl (by kernel_rfl) (by kernel_rfl) (by kernel_rfl) (by rfl) HS.out (fun w hw => by go_simp) ?_
            simp only [Act.put, List.setIfInBounds_toArray, List.set_cons_zero, List.set_cons_succ]
            refine reg_take (v := .pointer (some ⟨g, 0, none⟩)) 3 (some 66) rfl rfl (by kernel_rfl) (by kernel_rfl) (by kernel_rfl) (by rfl) HS.out (fun w hw => by have hc := hw.1; go_simp) ?_
            simp only [Act.put, List.setIfInBounds_toArray, List.set_cons_zero, List.set_cons_succ]
            refine reg_take (v := .pointer (some ⟨m, 0, none⟩)) 4 (some 67) rfl rfl (by kernel_rfl) (by kernel_rfl) (by kernel_rfl) (by rfl) HS.out (fun w hw => by go_simp) ?_
            simp only [Act.put, List.setIfInBounds_toArray, List.set_cons_zero, List.set_cons_succ]
            refine reg_take (v := .pointer (some ⟨m, 0, none⟩)) 5 (some 68) rfl rfl (by kernel_rfl) (by kernel_rfl) (by kernel_rfl) (by rfl) HS.out (fun w hw => by go_simp) ?_
            simp only [Act.put, List.setIfInBounds_toArray, List.set_cons_zero, List.set_cons_succ]
            refine reg_take (v := .pointer (some ⟨m, 35, none⟩)) 6 (some 69) rfl rfl (by kernel_rfl) (by kernel_rfl) (by kernel_rfl) (by rfl) HS.out (fun w hw => by go_simp) ?_
            simp only [Act.put, List.setIfInBounds_toArray, List.set_cons_zero, List.set_cons_succ]
            refine reg_take (v := .pointer (some ⟨g, 0, none⟩)) 7 (some 70) rfl rfl (by kernel_rfl) (by kernel_rfl) (by kernel_rfl) (by rfl) HS.out (fun w hw => by have hc := hw.1; go_simp) ?_
            simp only [Act.put, List.setIfInBounds_toArray, List.set_cons_zero, List.set_cons_succ]
            refine reg_take (v := .pointer (some ⟨g, 0, none⟩)) 8 (some 71) rfl rfl (by kernel_rfl) (by kernel_rfl) (by kernel_rfl) (by rfl) HS.out (fun w hw => by go_simp) ?_
            simp only [Act.put, List.setIfInBounds_toArray, List.set_cons_zero, List.set_cons_succ]
            refine reg_take (v := .pointer (some ⟨g, 6, none⟩)) 9 (some 72) rfl rfl (by kernel_rfl) (by kernel_rfl) (by kernel_rfl) (by rfl) HS.out (fun w hw => by go_simp) ?_
            simp only [Act.put, List.setIfInBounds_toArray, List.set_cons_zero, List.set_cons_succ]
            refine reg_take (v := .int .u64 (D1.keep : Int)) 10 (some 73) rfl rfl (by kernel_rfl) (by kernel_rfl) (by kernel_rfl) (by rfl) HS.out (fun w hw => by have hc := hw.2; go_simp) ?_
            simp only [Act.put, List.setIfInBounds_toArray, List.set_cons_zero, List.set_cons_succ]
            refine reg_call 11 (some 74) rfl rfl (by kernel_rfl) (by rfl) _ _ (exec_func 15 _ _ [.pointer (some ⟨g, 0, none⟩), .int .u64 (D1.keep : Int)] rfl (by kernel_rfl) rfl) ?_
            refine (fLose D1 D1.keep g F N S W cN cS cW wl HDr.out HO1.out.1 HO1.out.2.1 HO1.out.2.2).mono ?_
            rintro e wf ⟨rfl, Ff, Nf, Sf, Wf, aN, aS, aW, hdf, hff, hkf⟩
            have HDF := Lib.hid hdf; have HFF := Lib.hid hff
            have HMF := Lib.hid (HMd.out.keep hkf HNF.out)
            have HKF := Lib.hid (HKr.out.trans hkf (fun i e => .inl (.inr e)))
            have HSF := Lib.hid (show wf.cell? ⟨m, 35, none⟩ = some (.pointer (some ⟨g, 0, none⟩)) ∧ True from ⟨HMF.out.cells.2.2.2, trivial⟩)
            have HSG := Lib.hid (show wf.cell? ⟨g, 6, none⟩ = some (.int .u64 (D1.keep : Int)) by
              have := hdf.b.cell 6
              rw [this]
              show some (Value.int .u64 ((lose D1 D1.keep).keep : Int)) = _
              rw [lose_keep])
            clear hdf hff hkf
            refine ⟨_, rfl, ⟨HSF.out.1, HSG.out⟩, fun _ => ?_⟩
            simp only [Act.put, List.setIfInBounds_toArray, List.set_cons_zero, List.set_cons_succ]
            refine reg_end (by kernel_rfl) ?_
            go_wp2
            go_ret
            rw [HN.out, ← HAK.out, ← HD1E.out]
            exact ⟨rfl, Ff, Nf, Sf, Wf, aN, aS, aW, HDF.out, HMF.out, HKF.out, fun k e => (HFF.out k e).imp id (fun e => Nat.le_trans HKr.out.size e)⟩
          | false =>
            have HN := Lib.hid (nxt_lo (r := r) HWY.out hac hhi)
            have hg1' : decide ((9223372036854775808 : Int) ≤ (D1.keep : Int)) = false := decide_eq_false (by have := of_decide_eq_false hhi; rw [HAK.out]; omega)
            have hg2' : decide ((9223372036854775808 : Nat) ≤ D1.keep) = false := decide_eq_false (by have := of_decide_eq_false hhi; rw [HAK.out]; omega)
            clear hac hhi
            go_upto_region 13 with fail
            clear c0 c1 c34 c35 f0 f1 he1 k6 hg1' hg2'
            have HMm := Lib.hid HM3.out; have HDd := Lib.hid HD3.out; have HKk := Lib.hid HK3.out
            have HS := Lib.hid (And.intro (HMm.out.keep0 (Kp.refl nob w3).drew).cells.2.2.2 ((HDd.out.keep0 (Kp.refl nob w3).drew).b.cell 6))
            have HMd := Lib.hid (HMm.out.keep0 (Kp.refl nob w3).drew)
            have HDr := Lib.hid (HDd.out.keep0 (Kp.refl nob w3).drew)
            have HKr := Lib.hid (HKk.out.drew)
            refine reg_begin (fun w' => w'.cell? ⟨m, 35, none⟩ = some (.pointer (some ⟨g, 0, none⟩)) ∧ w'.cell? ⟨g, 6, none⟩ = some (.int .u64 (D1.keep : Int))) (by kernel_rfl) HS.out (fun _ => ?_)
            generalize w3.drew = wl at *
            refine reg_take (v := .pointer (some ⟨m, 0, none⟩)) 0 (some 63) rfl rfl (by kernel_rfl) (by kernel_rfl) (by kernel_rfl) (by rfl) HS.out (fun w hw => by go_simp) ?_
            simp only [Act.put, List.setIfInBounds_toArray, List.set_cons_zero, List.set_cons_succ]
            refine reg_take (v := .pointer (some ⟨m, 0, none⟩)) 1 (some 64) rfl rfl (by kernel_rfl) (by kernel_rfl) (by kernel_rfl) (by rfl) HS.out (fun w hw => by go_simp) ?_
            simp only [Act.put, List.setIfInBounds_toArray, List.set_cons_zero, List.set_cons_succ]
            refine reg_take (v := .pointer (some ⟨m, 35, none⟩)) 2 (some 65) rfl rfl (by kernel_rfl) (by kernel_rfl) (by kernel_rfl) (by rfl) HS.out (fun w hw => by go_simp) ?_
            simp only [Act.put, List.setIfInBounds_toArray, List.set_cons_zero, List.set_cons_succ]
            refine reg_take (v := .pointer (some ⟨g, 0, none⟩)) 3 (some 66) rfl rfl (by kernel_rfl) (by kernel_rfl) (by kernel_rfl) (by rfl) HS.out (fun w hw => by have hc := hw.1; go_simp) ?_
            simp only [Act.put, List.setIfInBounds_toArray, List.set_cons_zero, List.set_cons_succ]
            refine reg_take (v := .pointer (some ⟨m, 0, none⟩)) 4 (some 67) rfl rfl (by kernel_rfl) (by kernel_rfl) (by kernel_rfl) (by rfl) HS.out (fun w hw => by go_simp) ?_
            simp only [Act.put, List.setIfInBounds_toArray, List.set_cons_zero, List.set_cons_succ]
            refine reg_take (v := .pointer (some ⟨m, 0, none⟩)) 5 (some 68) rfl rfl (by kernel_rfl) (by kernel_rfl) (by kernel_rfl) (by rfl) HS.out (fun w hw => by go_simp) ?_
            simp only [Act.put, List.setIfInBounds_toArray, List.set_cons_zero, List.set_cons_succ]
            refine reg_take (v := .pointer (some ⟨m, 35, none⟩)) 6 (some 69) rfl rfl (by kernel_rfl) (by kernel_rfl) (by kernel_rfl) (by rfl) HS.out (fun w hw => by go_simp) ?_
            simp only [Act.put, List.setIfInBounds_toArray, List.set_cons_zero, List.set_cons_succ]
            refine reg_take (v := .pointer (some ⟨g, 0, none⟩)) 7 (some 70) rfl rfl (by kernel_rfl) (by kernel_rfl) (by kernel_rfl) (by rfl) HS.out (fun w hw => by have hc := hw.1; go_simp) ?_
            simp only [Act.put, List.setIfInBounds_toArray, List.set_cons_zero, List.set_cons_succ]
            refine reg_take (v := .pointer (some ⟨g, 0, none⟩)) 8 (some 71) rfl rfl (by kernel_rfl) (by kernel_rfl) (by kernel_rfl) (by rfl) HS.out (fun w hw => by go_simp) ?_
            simp only [Act.put, List.setIfInBounds_toArray, List.set_cons_zero, List.set_cons_succ]
            refine reg_take (v := .pointer (some ⟨g, 6, none⟩)) 9 (some 72) rfl rfl (by kernel_rfl) (by kernel_rfl) (by kernel_rfl) (by rfl) HS.out (fun w hw => by go_simp) ?_
            simp only [Act.put, List.setIfInBounds_toArray, List.set_cons_zero, List.set_cons_succ]
            refine reg_take (v := .int .u64 (D1.keep : Int)) 10 (some 73) rfl rfl (by kernel_rfl) (by kernel_rfl) (by kernel_rfl) (by rfl) HS.out (fun w hw => by have hc := hw.2; go_simp) ?_
            simp only [Act.put, List.setIfInBounds_toArray, List.set_cons_zero, List.set_cons_succ]
            refine reg_call 11 (some 74) rfl rfl (by kernel_rfl) (by rfl) _ _ (exec_func 15 _ _ [.pointer (some ⟨g, 0, none⟩), .int .u64 (D1.keep : Int)] rfl (by kernel_rfl) rfl) ?_
            refine (fLose D1 D1.keep g F N S W cN cS cW wl HDr.out HO1.out.1 HO1.out.2.1 HO1.out.2.2).mono ?_
            rintro e wf ⟨rfl, Ff, Nf, Sf, Wf, aN, aS, aW, hdf, hff, hkf⟩
            have HDF := Lib.hid hdf; have HFF := Lib.hid hff
            have HMF := Lib.hid (HMd.out.keep hkf HNF.out)
            have HKF := Lib.hid (HKr.out.trans hkf (fun i e => .inl (.inr e)))
            have HSF := Lib.hid (show wf.cell? ⟨m, 35, none⟩ = some (.pointer (some ⟨g, 0, none⟩)) ∧ True from ⟨HMF.out.cells.2.2.2, trivial⟩)
            have HSG := Lib.hid (show wf.cell? ⟨g, 6, none⟩ = some (.int .u64 (D1.keep : Int)) by
              have := hdf.b.cell 6
              rw [this]
              show some (Value.int .u64 ((lose D1 D1.keep).keep : Int)) = _
              rw [lose_keep])
            clear hdf hff hkf
            refine ⟨_, rfl, ⟨HSF.out.1, HSG.out⟩, fun _ => ?_⟩
            simp only [Act.put, List.setIfInBounds_toArray, List.set_cons_zero, List.set_cons_succ]
            refine reg_end (by kernel_rfl) ?_
            go_wp2
            go_ret
            rw [HN.out, ← HAK.out, ← HD1E.out]
            exact ⟨rfl, Ff, Nf, Sf, Wf, aN, aS, aW, HDF.out, HMF.out, HKF.out, fun k e => (HFF.out k e).imp id (fun e => Nat.le_trans HKr.out.size e)⟩
end Go.Proofs.Ytchdobneipfghaa.Meter
