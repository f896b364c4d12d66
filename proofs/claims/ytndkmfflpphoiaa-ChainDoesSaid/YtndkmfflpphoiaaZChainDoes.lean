/- coffretlaw16.ChainDoes. -/
import Derived.Test.YtndkmfflpphoiaaZG23
import Derived.Deep.DeepCutAuto
import Derived.Deep.CutBlock
set_option linter.unusedVariables false
set_option linter.unusedSimpArgs false
namespace Go.Proofs.Ytndkmfflpphoiaa.Disk
open Go Go.RowKit Kit
theorem here_ {P : Program} {ops : Array Oper} {Q : Exit → Act → World → Prop} {l : List Oper} {a : Act} {w : World} (h : wpList P ops Q l a w) : wpList P ops Q l a w := h
/-- What stands behind a call. -/
structure Sd (w wx : World) (g N S g2 m k : Nat) (v9 v10 : Value) : Prop where
  ex : ∃ (a b2 : Nat) (D : Dk) (A : Ar) (W : Option Addr) (cW : Nat) (q : Pd) (B : Nat → Prop), v9 = .pointer (some ⟨a, 0, none⟩) ∧ v10 = .pointer (some ⟨b2, 0, none⟩) ∧ Td w wx g N S a g2 b2 D A D A W cW q B ∧ Sm D (64 * k) m ∧ In A m
set_option maxHeartbeats 8000000 in
set_option maxRecDepth 100000 in
theorem does_walk (n epoch : Int) (A0 : Option Addr) (p cp : Nat) (cs : List Cc) (w : World) (hn : (Lit.int .i64 n).wf = true) (he : (Lit.int .i64 epoch).wf = true) (hl : cs.length = p) (hn1 : A0 = none → cp = 0) (hr : Row w A0 (cs.flatMap Cc.cells)) (hc : p ≤ cp) (hm : cp ≤ maxLen) (hw : ∀ c ∈ cs, CcOk c) :
    Calls Try.prog 3 #[.int .i64 n, .int .i64 epoch, .slice A0 p cp] w fun e w' => e = .returned (.bool true) ∧ Kp nob w w' := by
  have HAL := Lib.hid (fun w => alive_yes areaP half_c left_c add_c w)
  have HI := Lib.hid (And.intro (i64_range hn) (i64_range he))
  have HGR := Lib.hid (fun w' (k : Kp nob w w') => great_any A0 p cp cs w' hl (hr.keep0 k) (fun x hx => (hw x hx).s) (by omega))
  obtain ⟨gb, hgb⟩ : ∃ gb, gb = greatB cs := ⟨_, rfl⟩
  rw [← hgb] at HGR
  have HP := Lib.hid (And.intro hl (And.intro hr hw))
  clear hn he hl hn1 hr hc hm hw
  by_cases hbad : gb = true ∨ 60 < n ∨ epoch < 0
  · have hb : gb = true ∨ (gb = false ∧ 60 < n) ∨ (gb = false ∧ ¬ 60 < n ∧ epoch < 0) := by cases gb <;> simp at hbad ⊢ <;> omega
    clear hbad hgb
    rcases hb with h | ⟨h, h2⟩ | ⟨h, h2, h3⟩
    all_goals
      rw [h] at HGR
      go_enter Try.func3, Try.ntmps3
      go_wp2_with fail
      refine (HAL.out _).mono ?_
      rintro e w1 ⟨rfl, k1⟩
      have HK1 := Lib.hid k1
      clear k1
      go_wp2_with fail
      refine (HGR.out _ HK1.out).mono ?_
      rintro e w2 ⟨rfl, k2⟩
      go_wp2
      go_ret
      exact ⟨rfl, HK1.out.trans k2 (fun _ e => e.elim)⟩
  have hg0 : gb = false := by cases gb <;> simp at hbad ⊢
  rw [hg0] at hgb HGR
  have HGB := Lib.hid (show tot cs ≤ 16384 ∧ p ≤ 40 by
    have h := hgb.symm
    unfold greatB at h
    rw [Bool.or_eq_false_iff, decide_eq_false_iff_not, decide_eq_false_iff_not, HP.out.1] at h
    omega)
  have hb2 : ¬ 60 < n := fun e => hbad (.inr (.inl e))
  have hb3 : ¬ epoch < 0 := fun e => hbad (.inr (.inr e))
  obtain ⟨m, hm⟩ : ∃ m, m = clamp n := ⟨_, rfl⟩
  have HM := Lib.hid (show m = clamp n ∧ m ≤ 60 by refine ⟨hm, ?_⟩; rw [hm]; unfold clamp; omega)
  have HNW := Lib.hid (new_any n)
  rw [← hm] at HNW
  have HFN := Lib.hid (fNew n)
  rw [show clampF n = m from hm.symm] at HFN
  have HEP := Lib.hid (show 0 ≤ epoch ∧ epoch ≤ 9223372036854775807 by have := HI.out; omega)
  obtain ⟨odd, hodd⟩ : ∃ odd, odd = decide (epoch % 2 = 1) := ⟨_, rfl⟩
  have HOD := Lib.hid hodd
  clear hbad hm hgb hg0 hodd gb
  go_enter Try.func3, Try.ntmps3
  go_wp2_with fail
  refine (HAL.out _).mono ?_
  rintro e w0 ⟨rfl, k0⟩
  have HK0 := Lib.hid k0
  clear k0
  go_wp2_with fail
  refine (HGR.out _ HK0.out).mono ?_
  rintro e w1 ⟨rfl, k1⟩
  have HK1 := Lib.hid (HK0.out.trans k1 (fun _ e => e.elim))
  clear k1
  go_wp2_with fail
  refine (HNW.out _).mono ?_
  rintro e w2 ⟨g, N, S, rfl, hd2, k2, n2⟩
  have hg2 : Gd w w2 g N S none 0 (new m) noA nob := Gd.first hd2 (HK1.out.trans k2 (fun _ e => e.elim)) (fun j e => Nat.le_trans HK1.out.size (n2 j e))
  have HG2 := Lib.hid hg2
  clear hd2 k2 n2 hg2
  go_wp2_with fail
  refine (HFN.out w2).mono ?_
  rintro e w3 ⟨g2, F2, N2, S2, aN, aS, rfl, hd3, n3, k3⟩
  have HG3 := Lib.hid (HG2.out.growT k3 (fun _ e => e.elim))
  have H3 := Lib.hid (And.intro hd3 n3)
  clear hd3 n3 k3
  go_wp2_with fail
  refine (half_c (new m) g N S none 0 epoch w3 HG3.out.cd HEP.out).mono ?_
  rintro e w4 ⟨a, rfl, ha4, k4, n4⟩
  rw [new_len, ← HOD.out] at ha4
  have HG4 := Lib.hid (HG3.out.half k4 ha4 n4)
  have H4 := Lib.hid (And.intro (H3.out.1.keep0 k4) k4)
  clear ha4 k4 n4
  go_wp2_with fail
  refine (fHalf m N2 aN epoch g2 w4 (by have h := H4.out.1.b.cell 0; rw [new_len] at h; exact h) (by have := HM.out; omega) HEP.out.1).mono ?_
  rintro e w5 ⟨b2, rfl, hb5, k5, n5⟩
  rw [← HOD.out] at hb5
  have HT0 : Hid (Sd w w5 g N S g2 m 0 (.pointer (some ⟨a, 0, none⟩)) (.pointer (some ⟨b2, 0, none⟩))) := Lib.hid (by
    have hF : ∀ j, F2 j → w2.heap.size ≤ j ∧ j < w3.heap.size := fun j e => ⟨H3.out.2 j e, H3.out.1.lt j e⟩
    have z4 := H4.out.2.size
    refine ⟨⟨a, b2, new m, aHalf m odd, none, 0, ⟨F2, N2, S2, none, aN, aS, 0⟩, plsB (plsB nob w2.heap.size w3.heap.size) w4.heap.size w5.heap.size, rfl, rfl, ⟨HG4.out.growT k5 (fun _ e => e.elim), H4.out.1.keep0 k5, hb5, fun e => by have := hF _ e; omega, fun j e => .inl (.inr (hF j e)), .inr ⟨n5, Blk.lt hb5⟩⟩, ⟨by simp [new], by simp [new], by simp [new], by simp [new], new_len m⟩, aHalf_ok m odd⟩⟩)
  clear hb5 k5 n5
  go_wp2
  go_loopw [9, 10, 46] (fun v9 v10 iv wr => ∃ k : Nat, iv = .int .i64 k ∧ k ≤ p ∧ Sd w wr g N S g2 m k v9 v10)
    (fun _ _ iv _ => p - (intOf iv).toNat)
  case atStart => exact ⟨0, rfl, Nat.zero_le _, HT0.out⟩
  case round =>
    rename World => wr
    obtain ⟨k, rfl, hk, hst⟩ := hrel
    obtain ⟨a, b2, D, A, W, cW, q, B, rfl, rfl, ht, hs, hi⟩ := hst.ex
    have HT := Lib.hid ht
    have HS := Lib.hid (And.intro hs hi)
    clear ht hs hi hst
    by_cases hlt : k < p
    · obtain ⟨x, hx⟩ : ∃ x, cs[k]? = some x := ⟨_, List.getElem?_eq_getElem (by rw [HP.out.1]; exact hlt)⟩
      obtain ⟨bb, oo, rfl, hrg⟩ := ccs_at (HP.out.2.1.keep0 HT.out.gd.kp) k x hx
      have HRG := Lib.hid hrg
      have HX := Lib.hid (HP.out.2.2 x (List.mem_of_getElem? hx))
      have HXS := Lib.hid (show x.s.length ≤ 16384 by have := tot_at cs x (List.mem_of_getElem? hx); have := HGB.out; omega)
      have HLT := Lib.hid (show k < p ∧ k < 40 by have := HGB.out; omega)
      have HE5 := Lib.hid (show IntKind.i64.wrap ((k : Int) + 1) = ((k + 1 : Nat) : Int) by have := HLT.out; rw [IntWalk.i64_in _ (by omega)]; omega)
      have HOK := Lib.hid HT.out.gd.cd.ok
      have hlt2 : (k : Int) < (p : Int) := by omega
      clear hx hrg hlt hk
      go_upto_block 2 with ((with_reducible refine here_ ?_); first
        | (refine wpList_load_mid rfl 35 (.tmp 48) rfl bb (oo + k * 4) rfl x.cells _ HRG.out call_under rfl (call_size x) ?_)
        | (refine wpList_store_new rfl 35 (.tmp 12) (.tmp 49) rfl _ x.cells rfl rfl rfl (call_size x) x.one ?_
           intro w5 hB5 k5 z5
           obtain ⟨gc, hgc⟩ : ∃ g, g = wr.heap.size := ⟨_, rfl⟩
           rw [← hgc] at hB5 ⊢
           have hc5 := HT.out.call k5 hB5 (Nat.le_of_eq hgc.symm)
           have HT5 := Lib.hid hc5.1
           have HC5 := Lib.hid hc5.2
           have q0 : w5.cell? ⟨gc, 0, none⟩ = some (.int .i64 x.kind) := hB5.cell 0
           clear hB5 k5 z5 hgc hc5))
      obtain ⟨B5, hB5⟩ : ∃ B5, B5 = plsB B wr.heap.size w5.heap.size := ⟨_, rfl⟩
      rw [← hB5] at HT5 HC5
      clear hB5
      go_cut [9, 10, 13] from 47 to 195 (fun v9 v10 v13 wx => v13 = .bool true ∧ Sd w wx g N S g2 m (k + 1) v9 v10)
      case first =>
        rcases kinds7 x.kind with hkd | hkd | hkd | hkd | hkd | hkd | hkd | hkd
        · have t0 : (x.kind == 0) = true := beq_iff_eq.2 hkd
          clear hkd
          have q1 : w5.cell? ⟨gc, 1, none⟩ = some (.string (str x.s)) := HC5.out.b.cell 1
          obtain ⟨fr, hfr⟩ : ∃ fr, fr = frm x.s := ⟨_, rfl⟩
          have hF := framed_any x.s w5 (by have := HXS.out; omega)
          have hfl : fr.length ≤ 16392 := by rw [hfr, frm_length]; have := HXS.out; omega
          rw [← hfr] at hF
          obtain ⟨n1, hn1⟩ : ∃ n1, n1 = fr.length := ⟨_, rfl⟩
          rw [← hn1] at hF
          have HF := Lib.hid hF
          have HN1 := Lib.hid (And.intro hn1 (And.intro (show fr.length ≠ 0 by rw [hfr]; exact frm_pos _) hfl))
          clear hF hfr hn1 hfl
          go_wp2_with fail
          refine HF.out.mono ?_
          rintro e w6 ⟨X1, c1, rfl, hr6, k6, hc1, hc2, hc3, hn6⟩
          have HT6 := Lib.hid (HT5.out.more k6)
          have HR6 := Lib.hid (And.intro hr6 (And.intro hc1 (And.intro hc2 (And.intro hc3 (show ∀ j, ab X1 = some j → plsB B5 w5.heap.size w6.heap.size j from fun j e => by
            refine .inr ⟨hn6 j e, hr6.lt (fun h0 => ?_) j e⟩
            have h9 := congrArg List.length h0
            rw [bvs_length] at h9
            exact HN1.out.2.1 h9)))))
          have HNX6 := Lib.hid hn6
          clear hr6 k6 hc1 hc2 hc3 hn6 q0 q1
          go_upto_region 14 with fail
          have HTd := Lib.hid (HT6.out.keep0 (Kp.refl nob w6).drew)
          have HR := Lib.hid (HR6.out.1.keep0 (Kp.refl nob w6).drew)
          refine reg_begin (fun w' => Row w' X1 (bvs fr)) (by kernel_rfl) HR.out (fun _ => ?_)
          generalize w6.drew = wd at *
          refine reg_take (v := .pointer (some ⟨a, 0, none⟩)) 0 (some 57) rfl rfl (by kernel_rfl) (by kernel_rfl) (by kernel_rfl) (by rfl) HR.out (fun w hw => by go_simp) ?_
          simp only [Act.put, List.setIfInBounds_toArray, List.set_cons_zero, List.set_cons_succ]
          refine reg_take (v := .slice X1 n1 c1) 1 (some 58) rfl rfl (by kernel_rfl) (by kernel_rfl) (by kernel_rfl) (by rfl) HR.out (fun w hw => by go_simp) ?_
          simp only [Act.put, List.setIfInBounds_toArray, List.set_cons_zero, List.set_cons_succ]
          refine reg_take (v := .pointer (some ⟨b2, 0, none⟩)) 3 (some 60) rfl rfl (by kernel_rfl) (by kernel_rfl) (by kernel_rfl) (by rfl) HR.out (fun w hw => by go_simp) ?_
          simp only [Act.put, List.setIfInBounds_toArray, List.set_cons_zero, List.set_cons_succ]
          refine reg_take (v := .slice X1 n1 c1) 4 (some 61) rfl rfl (by kernel_rfl) (by kernel_rfl) (by kernel_rfl) (by rfl) HR.out (fun w hw => by go_simp) ?_
          simp only [Act.put, List.setIfInBounds_toArray, List.set_cons_zero, List.set_cons_succ]
          refine reg_take (v := .string (str fr)) 5 (some 62) rfl rfl (by kernel_rfl) (by kernel_rfl) (by kernel_rfl) (by rfl) HR.out (fun w hw => by exact exec_bs2 (.tmp 61) X1 n1 c1 fr rfl rfl HN1.out.1.symm hw) ?_
          simp only [Act.put, List.setIfInBounds_toArray, List.set_cons_zero, List.set_cons_succ]
          refine reg_call 2 (some 59) rfl rfl (by kernel_rfl) (by rfl) _ _ (exec_func 15 _ _ [.pointer (some ⟨a, 0, none⟩), .slice X1 n1 c1] rfl (by kernel_rfl) rfl) ?_
          refine (add_c D g N S W cW a A X1 n1 c1 fr wd HTd.out.gd.cd HTd.out.own.1 HTd.out.own.2 HS.out.2.1 (by rw [HS.out.1.len]; exact HS.out.2.2) (Far.mk (by have := HS.out.1.waits; have := HLT.out; omega) (by have := HS.out.1.acts; have := HLT.out; omega) HS.out.1.fuse HS.out.1.keep) HN1.out.1.symm HR.out HR6.out.2.1 HR6.out.2.2.1 HR6.out.2.2.2.1 (.inr (fun j e => HTd.out.gd.apart (upA_same _ _ _) (HR6.out.2.2.2.2 j e))) (by have := HN1.out; omega)).mono ?_
          rintro e w7 ⟨rfl, p7⟩
          have HR7 := Lib.hid (HTd.out.rowC HR.out HR6.out.2.2.2.2 p7)
          obtain ⟨W7, c7, ht7, _⟩ := HTd.out.add p7
          have HT7 := Lib.hid ht7
          clear p7 ht7
          refine ⟨_, rfl, HR7.out, fun _ => ?_⟩
          simp only [Act.put, List.setIfInBounds_toArray, List.set_cons_zero, List.set_cons_succ]
          refine reg_call 6 (some 63) rfl rfl (by kernel_rfl) (by rfl) _ _ (exec_func 16 _ _ [.pointer (some ⟨b2, 0, none⟩), .string (str fr)] rfl (by kernel_rfl) rfl) ?_
          refine ((fAdd_any D A fr b2 g2 q.F q.N q.S q.W q.cN q.cS q.cW w7 HT7.out.dd HT7.out.ne HT7.out.da HOK.out (by rw [HS.out.1.len]; exact HS.out.2) (by rw [HS.out.1.len]; have := HM.out; omega) (by have := HS.out.1.waits; have := HLT.out; omega) (by have := HS.out.1.acts; have := HLT.out; omega) HS.out.1.fuse (by have := HN1.out; omega))).mono ?_
          rintro e w8 ⟨rfl, z8⟩
          have HR8 := Lib.hid (show Row w8 X1 (bvs fr) by
            obtain ⟨_, _, _, _, _, _, _, _, _, _, k8⟩ := z8
            refine HR7.out.keep k8 (fun j e e2 => ?_)
            have hj := HNX6.out j e
            have h1 := HT5.out.blt
            rcases e2 with e2 | e2
            · have := HT5.out.dd.lt j e2; omega
            · omega)
          obtain ⟨q8, ht8, _⟩ := HT7.out.doc z8
          have HT8 := Lib.hid ht8
          clear z8 ht8
          refine ⟨_, rfl, HR8.out, fun _ => ?_⟩
          simp only [Act.put, List.setIfInBounds_toArray, List.set_cons_zero, List.set_cons_succ]
          refine reg_take (v := .bool true) 7 (some 64) rfl rfl (by kernel_rfl) (by kernel_rfl) (by kernel_rfl) (by rfl) HR8.out (fun w hw => by go_simp) ?_
          simp only [Act.put, List.setIfInBounds_toArray, List.set_cons_zero, List.set_cons_succ]
          refine reg_take (v := .bool true) 8 (some 13) rfl rfl (by kernel_rfl) (by kernel_rfl) (by kernel_rfl) (by rfl) HR8.out (fun w hw => by go_simp) ?_
          simp only [Act.put, List.setIfInBounds_toArray, List.set_cons_zero, List.set_cons_succ]
          have hsm := add_sm D A fr (64 * k) m HS.out.1 HOK.out HS.out.2
          refine reg_end (by kernel_rfl) ?_
          go_wp2
          go_meet
          exact ⟨rfl, ⟨a, b2, _, _, W7, c7, q8, _, rfl, rfl, HT8.out, hsm.1.le (by omega), hsm.2⟩⟩
        · have t0 : (x.kind == 0) = false := beq_eq_false_iff_ne.2 (by omega)
          have t1 : (x.kind == 1) = true := beq_iff_eq.2 hkd
          clear hkd
          go_upto_region 16 with fail
          have HTd := Lib.hid (HT5.out.keep0 (Kp.refl nob w5).drew)
          have HCd := Lib.hid (HC5.out.keep0 (Kp.refl nob w5).drew)
          have HQ := Lib.hid HCd.out.b
          refine reg_begin (fun w' => Blk w' gc 35 x.cells) (by kernel_rfl) HQ.out (fun _ => ?_)
          generalize w5.drew = wd at *
          clear q0
          refine reg_take (v := .pointer (some ⟨a, 0, none⟩)) 0 (some 67) rfl rfl (by kernel_rfl) (by kernel_rfl) (by kernel_rfl) (by rfl) HQ.out (fun w hw => by go_simp) ?_
          simp only [Act.put, List.setIfInBounds_toArray, List.set_cons_zero, List.set_cons_succ]
          refine reg_take (v := .pointer (some ⟨gc, 1, none⟩)) 1 (some 68) rfl rfl (by kernel_rfl) (by kernel_rfl) (by kernel_rfl) (by rfl) HQ.out (fun w hw => by go_simp) ?_
          simp only [Act.put, List.setIfInBounds_toArray, List.set_cons_zero, List.set_cons_succ]
          refine reg_take (v := .string (str x.s)) 2 (some 69) rfl rfl (by kernel_rfl) (by kernel_rfl) (by kernel_rfl) (by rfl) HQ.out (fun w hw => by have hc : w.cell? ⟨gc, 1, none⟩ = some (.string (str x.s)) := Blk.cell hw 1; go_simp) ?_
          simp only [Act.put, List.setIfInBounds_toArray, List.set_cons_zero, List.set_cons_succ]
          refine reg_take (v := .pointer (some ⟨b2, 0, none⟩)) 5 (some 72) rfl rfl (by kernel_rfl) (by kernel_rfl) (by kernel_rfl) (by rfl) HQ.out (fun w hw => by go_simp) ?_
          simp only [Act.put, List.setIfInBounds_toArray, List.set_cons_zero, List.set_cons_succ]
          refine reg_take (v := .pointer (some ⟨gc, 1, none⟩)) 6 (some 73) rfl rfl (by kernel_rfl) (by kernel_rfl) (by kernel_rfl) (by rfl) HQ.out (fun w hw => by go_simp) ?_
          simp only [Act.put, List.setIfInBounds_toArray, List.set_cons_zero, List.set_cons_succ]
          refine reg_take (v := .string (str x.s)) 7 (some 74) rfl rfl (by kernel_rfl) (by kernel_rfl) (by kernel_rfl) (by rfl) HQ.out (fun w hw => by have hc : w.cell? ⟨gc, 1, none⟩ = some (.string (str x.s)) := Blk.cell hw 1; go_simp) ?_
          simp only [Act.put, List.setIfInBounds_toArray, List.set_cons_zero, List.set_cons_succ]
          obtain ⟨qc, w6, hcv, hrow, k6, z6, hq1, hq2⟩ := run_str_bytesK wd 9 36 5 (str x.s) u8_string u8_under (by kernel_rfl) (by rw [str_size]; have := HXS.out; simp [maxLen]; omega)
          rw [str_size] at hcv hq1
          rw [sl_str] at hrow
          obtain ⟨n1, hn1⟩ : ∃ n1, n1 = x.s.length := ⟨_, rfl⟩
          rw [← hn1] at hcv hq1
          have HT6 := Lib.hid (HTd.out.more k6)
          have HC6 := Lib.hid (HCd.out.more k6)
          have HQ6 := Lib.hid HC6.out.b
          have HR6 := Lib.hid (And.intro hrow (And.intro hq1 (And.intro hq2 (And.intro z6 hn1))))
          refine reg_step (v := .slice (some ⟨wd.heap.size, 0, none⟩) n1 qc) (w' := w6) 3 (some 70) rfl rfl (by kernel_rfl) (by rfl) (exec_sb (.tmp 69) x.s rfl rfl hcv) HQ6.out (fun _ => ?_)
          clear hcv hrow k6 z6 hq1 hq2 hn1
          simp only [Act.put, List.setIfInBounds_toArray, List.set_cons_zero, List.set_cons_succ]
          refine reg_call 4 (some 71) rfl rfl (by kernel_rfl) (by rfl) _ _ (exec_func 15 _ _ [.pointer (some ⟨a, 0, none⟩), .slice (some ⟨wd.heap.size, 0, none⟩) n1 qc] rfl (by kernel_rfl) rfl) ?_
          refine (add_c D g N S W cW a A (some ⟨wd.heap.size, 0, none⟩) n1 qc x.s w6 HT6.out.gd.cd HT6.out.own.1 HT6.out.own.2 HS.out.2.1 (by rw [HS.out.1.len]; exact HS.out.2.2) (Far.mk (by have := HS.out.1.waits; have := HLT.out; omega) (by have := HS.out.1.acts; have := HLT.out; omega) HS.out.1.fuse HS.out.1.keep) HR6.out.2.2.2.2.symm HR6.out.1 HR6.out.2.1 HR6.out.2.2.1 (fun e => by cases e) (.inr (fun j e => HT6.out.gd.apart (upA_same _ _ _) (.inr (by obtain rfl : wd.heap.size = j := (by cases e; rfl); exact ⟨Nat.le_refl _, by rw [HR6.out.2.2.2.1]; omega⟩)))) (by have := HR6.out.2.2.2.2; have := HXS.out; omega)).mono ?_
          rintro e w7 ⟨rfl, p7⟩
          obtain ⟨W7, c7, ht7, hc7⟩ := HT6.out.add p7
          have HT7 := Lib.hid ht7
          have HC7 := Lib.hid (hc7 _ _ HC6.out)
          have HQ7 := Lib.hid HC7.out.b
          clear p7 ht7 hc7
          refine ⟨_, rfl, HQ7.out, fun _ => ?_⟩
          simp only [Act.put, List.setIfInBounds_toArray, List.set_cons_zero, List.set_cons_succ]
          refine reg_call 8 (some 75) rfl rfl (by kernel_rfl) (by rfl) _ _ (exec_func 16 _ _ [.pointer (some ⟨b2, 0, none⟩), .string (str x.s)] rfl (by kernel_rfl) rfl) ?_
          refine ((fAdd_any D A x.s b2 g2 q.F q.N q.S q.W q.cN q.cS q.cW w7 HT7.out.dd HT7.out.ne HT7.out.da HOK.out (by rw [HS.out.1.len]; exact HS.out.2) (by rw [HS.out.1.len]; have := HM.out; omega) (by have := HS.out.1.waits; have := HLT.out; omega) (by have := HS.out.1.acts; have := HLT.out; omega) HS.out.1.fuse (by have := HXS.out; omega))).mono ?_
          rintro e w8 ⟨rfl, z8⟩
          obtain ⟨q8, ht8, hc8⟩ := HT7.out.doc z8
          have HT8 := Lib.hid ht8
          have HQ8 := Lib.hid (hc8 _ _ HC7.out).b
          clear z8 ht8 hc8
          refine ⟨_, rfl, HQ8.out, fun _ => ?_⟩
          simp only [Act.put, List.setIfInBounds_toArray, List.set_cons_zero, List.set_cons_succ]
          refine reg_take (v := .bool true) 9 (some 76) rfl rfl (by kernel_rfl) (by kernel_rfl) (by kernel_rfl) (by rfl) HQ8.out (fun w hw => by go_simp) ?_
          simp only [Act.put, List.setIfInBounds_toArray, List.set_cons_zero, List.set_cons_succ]
          refine reg_take (v := .bool true) 10 (some 13) rfl rfl (by kernel_rfl) (by kernel_rfl) (by kernel_rfl) (by rfl) HQ8.out (fun w hw => by go_simp) ?_
          simp only [Act.put, List.setIfInBounds_toArray, List.set_cons_zero, List.set_cons_succ]
          have hsm := add_sm D A x.s (64 * k) m HS.out.1 HOK.out HS.out.2
          refine reg_end (by kernel_rfl) ?_
          go_wp2
          go_meet
          exact ⟨rfl, ⟨a, b2, _, _, W7, c7, q8, _, rfl, rfl, HT8.out, hsm.1.le (by omega), hsm.2⟩⟩
        · have t0 : (x.kind == 0) = false := beq_eq_false_iff_ne.2 (by omega)
          have t1 : (x.kind == 1) = false := beq_eq_false_iff_ne.2 (by omega)
          have t2 : (x.kind == 2) = true := beq_iff_eq.2 hkd
          clear hkd
          obtain ⟨⟨A2, t, E⟩, hNX⟩ : ∃ z, z = aNext D A := ⟨_, rfl⟩
          have hnx := next_c D g N S W cW a A w5 HT5.out.gd.cd HT5.out.own.1 HT5.out.own.2 HS.out.2.1 (by rw [HS.out.1.len]; exact HS.out.2.2)
          have hni := next_in D A m HOK.out HS.out.1.len HS.out.2
          rw [← hNX] at hnx hni
          simp only at hnx hni
          obtain ⟨n1, hn1⟩ : ∃ n1, n1 = t.length := ⟨_, rfl⟩
          rw [← hn1] at hnx
          have hfx := fun (w6 : World) (h6 : Td w w6 g N S a g2 b2 D A2 D A W cW q B5) => fNext D A b2 g2 q.F q.N q.S q.W q.cN q.cS q.cW w6 h6.dd h6.ne h6.da HOK.out ⟨HS.out.2.1, by rw [HS.out.1.len]; exact HS.out.2.2⟩ (by rw [HS.out.1.len]; have := HM.out; omega)
          rw [← hNX] at hfx
          simp only at hfx
          have HNX := Lib.hid hnx
          have HFX := Lib.hid hfx
          have HN1 := Lib.hid (And.intro hn1 hni)
          clear hnx hfx hNX hn1 hni q0
          go_wp2_with fail
          refine HNX.out.mono ?_
          rintro e w6 ⟨X2, c2, rfl, hr6, _, _, _, hn6, k6, hi6⟩
          have HT6 := Lib.hid (HT5.out.next k6 hi6).1
          have HR6 := Lib.hid (And.intro hr6 hn6)
          clear hr6 hn6 k6 hi6
          go_wp2_with fail
          refine (HFX.out w6 HT6.out).mono ?_
          rintro e w7 ⟨rfl, ha7, k7⟩
          have hr7 : Row w7 X2 (bvs t) := HR6.out.1.keep k7 (fun j e e2 => by
            have h1 := HR6.out.2 j e
            have h2 := HT5.out.blt
            unfold oneB at e2
            omega)
          obtain ⟨q7, ht7, _⟩ := HT6.out.docA ha7 k7
          have HT7 := Lib.hid ht7
          clear ha7 k7 ht7
          go_wp2_with ((with_reducible refine here_ ?_); first
            | (refine wpList_gd (by rfl) (exec_bs2 (.tmp 89) X2 n1 c2 t rfl rfl HN1.out.1.symm hr7) ?_))
          go_meet
          exact ⟨rfl, ⟨a, b2, _, _, W, cW, q7, _, rfl, rfl, HT7.out, HS.out.1.le (by omega), HN1.out.2.1⟩⟩
        · have t0 : (x.kind == 0) = false := beq_eq_false_iff_ne.2 (by omega)
          have t1 : (x.kind == 1) = false := beq_eq_false_iff_ne.2 (by omega)
          have t2 : (x.kind == 2) = false := beq_eq_false_iff_ne.2 (by omega)
          have t3 : (x.kind == 3) = true := beq_iff_eq.2 hkd
          clear hkd
          clear q0
          go_wp2_with fail
          refine (sync_any D g N S W cW w5 HT5.out.gd.cd (by have := HS.out.1.waits; have := HLT.out; omega) (by have := HS.out.1.acts; have := HLT.out; omega) HS.out.1.fuse HS.out.1.keep).mono ?_
          rintro e w6 ⟨rfl, z6⟩
          obtain ⟨W6, c6, ht6, _⟩ := HT5.out.disk z6
          have HT6 := Lib.hid ht6
          clear z6 ht6
          go_wp2_with fail
          refine (fSync D g2 q.F q.N q.S q.W q.cN q.cS q.cW w6 HT6.out.dd HOK.out (by rw [HS.out.1.len]; have := HM.out; omega) (by have := HS.out.1.waits; have := HLT.out; omega) (by have := HS.out.1.acts; have := HLT.out; omega) HS.out.1.fuse).mono ?_
          rintro e w7 ⟨rfl, z7⟩
          obtain ⟨q7, ht7, _⟩ := HT6.out.docD z7
          have HT7 := Lib.hid ht7
          clear z7 ht7
          go_wp2
          go_meet
          exact ⟨rfl, ⟨a, b2, _, _, W6, c6, q7, _, rfl, rfl, HT7.out, (HS.out.1.sync HOK.out).le (by omega), HS.out.2⟩⟩
        · have t0 : (x.kind == 0) = false := beq_eq_false_iff_ne.2 (by omega)
          have t1 : (x.kind == 1) = false := beq_eq_false_iff_ne.2 (by omega)
          have t2 : (x.kind == 2) = false := beq_eq_false_iff_ne.2 (by omega)
          have t3 : (x.kind == 3) = false := beq_eq_false_iff_ne.2 (by omega)
          have t4 : (x.kind == 4) = true := beq_iff_eq.2 hkd
          clear hkd
          have q3 : w5.cell? ⟨gc, 3, none⟩ = some (.int .u64 (x.K : Int)) := HC5.out.b.cell 3
          go_wp2_with fail
          refine (off_any D x.K g N S W cW w5 HT5.out.gd.cd (by have := HS.out.1.waits; have := HLT.out; omega) HX.out.K).mono ?_
          rintro e w6 ⟨rfl, z6⟩
          obtain ⟨W6, c6, ht6, hc6⟩ := HT5.out.disk z6
          have HT6 := Lib.hid ht6
          have HC6 := Lib.hid (hc6 _ _ HC5.out)
          clear z6 ht6 hc6 q0 q3
          have q3 : w6.cell? ⟨gc, 3, none⟩ = some (.int .u64 (x.K : Int)) := HC6.out.b.cell 3
          go_wp2_with fail
          refine (fLose D x.K g2 q.F q.N q.S q.W q.cN q.cS q.cW w6 HT6.out.dd HOK.out (by rw [HS.out.1.len]; have := HM.out; omega) (by have := HS.out.1.waits; have := HLT.out; omega)).mono ?_
          rintro e w7 ⟨rfl, z7⟩
          obtain ⟨q7, ht7, _⟩ := HT6.out.docD z7
          have HT7 := Lib.hid ht7
          clear z7 ht7 q3
          go_wp2_with fail
          refine (on_any (lose D x.K) g N S W6 c6 w7 HT7.out.gd.cd).mono ?_
          rintro e w8 ⟨rfl, h8, k8⟩
          obtain ⟨W8, c8, ht8, _⟩ := HT7.out.disk (one_z h8 k8)
          have HT8 := Lib.hid ht8
          have c3 : w8.cell? ⟨g2, 3, none⟩ = some (.bool (lose D x.K).off) := ht8.dd.b.cell 3
          have f3 : w8.frozen? ⟨g2, 3, none⟩ = false := ht8.dd.b.frozen 3
          have kk := Lib.hid ((Kp.refl (oneB g2) w8).setCell (p := ⟨g2, 3, none⟩) (.inl rfl) (.bool false))
          have hb := Lib.hid (ht8.dd.b.set_ 3 (.bool false))
          obtain ⟨q9, ht9, _⟩ := ht8.docO (ht8.dd.own (D2 := Disk.on (lose D x.K)) kk.out rfl rfl rfl hb.out) kk.out
          have HT9 := Lib.hid ht9
          have HLN := Lib.hid (show (Disk.on (lose D x.K)).now.length = m from (lose_length D x.K HOK.out).trans HS.out.1.len)
          clear h8 k8 ht8 ht9 kk hb
          go_wp2_with fail
          refine (half_c (Disk.on (lose D x.K)) g N S W8 c8 epoch _ HT9.out.gd.cd HEP.out).mono ?_
          rintro e wa ⟨a3, rfl, ha, ka, na⟩
          rw [HLN.out, ← HOD.out] at ha
          have HTa := Lib.hid (HT9.out.half ka ha na)
          clear ha ka na c3 f3
          go_wp2_with fail
          refine (fHalf m q9.N q9.cN epoch g2 wa (by have h := HTa.out.dd.b.cell 0; rw [HLN.out] at h; exact h) (by have := HM.out; omega) HEP.out.1).mono ?_
          rintro e wb ⟨b3, rfl, hb, kb, nb⟩
          rw [← HOD.out] at hb
          have HTb := Lib.hid (HTa.out.docH kb hb nb)
          clear hb kb nb
          go_wp2
          go_meet
          exact ⟨rfl, ⟨a3, b3, _, _, W8, c8, q9, _, rfl, rfl, HTb.out, ((HS.out.1.lose HOK.out x.K).on_).le (by omega), aHalf_ok m odd⟩⟩
        · have t0 : (x.kind == 0) = false := beq_eq_false_iff_ne.2 (by omega)
          have t1 : (x.kind == 1) = false := beq_eq_false_iff_ne.2 (by omega)
          have t2 : (x.kind == 2) = false := beq_eq_false_iff_ne.2 (by omega)
          have t3 : (x.kind == 3) = false := beq_eq_false_iff_ne.2 (by omega)
          have t4 : (x.kind == 4) = false := beq_eq_false_iff_ne.2 (by omega)
          have t5 : (x.kind == 5) = true := beq_iff_eq.2 hkd
          clear hkd
          have q2 : w5.cell? ⟨gc, 2, none⟩ = some (.int .i64 x.n) := HC5.out.b.cell 2
          have q3 : w5.cell? ⟨gc, 3, none⟩ = some (.int .u64 (x.K : Int)) := HC5.out.b.cell 3
          go_wp2_with fail
          refine (arm_any D x.n x.K g N S W cW w5 HT5.out.gd.cd).mono ?_
          rintro e w6 ⟨rfl, h6, k6⟩
          obtain ⟨W6, c6, ht6, hc6⟩ := HT5.out.disk (one_z h6 k6)
          have HT6 := Lib.hid ht6
          have HC6 := Lib.hid (hc6 _ _ HC5.out)
          clear h6 k6 ht6 hc6 q0 q2 q3
          have q2 : w6.cell? ⟨gc, 2, none⟩ = some (.int .i64 x.n) := HC6.out.b.cell 2
          have q3 : w6.cell? ⟨gc, 3, none⟩ = some (.int .u64 (x.K : Int)) := HC6.out.b.cell 3
          go_wp2_with fail
          refine (fArm D x.n x.K g2 q.F q.N q.S q.W q.cN q.cS q.cW w6 HT6.out.dd).mono ?_
          rintro e w7 ⟨rfl, h7, k7⟩
          obtain ⟨q7, ht7, _⟩ := HT6.out.docO h7 k7
          have HT7 := Lib.hid ht7
          clear h7 k7 ht7 q2 q3
          go_wp2
          go_meet
          exact ⟨rfl, ⟨a, b2, _, _, W6, c6, q7, _, rfl, rfl, HT7.out, (HS.out.1.arm_ x.n x.K HX.out.n HX.out.K).le (by omega), HS.out.2⟩⟩
        · have t0 : (x.kind == 0) = false := beq_eq_false_iff_ne.2 (by omega)
          have t1 : (x.kind == 1) = false := beq_eq_false_iff_ne.2 (by omega)
          have t2 : (x.kind == 2) = false := beq_eq_false_iff_ne.2 (by omega)
          have t3 : (x.kind == 3) = false := beq_eq_false_iff_ne.2 (by omega)
          have t4 : (x.kind == 4) = false := beq_eq_false_iff_ne.2 (by omega)
          have t5 : (x.kind == 5) = false := beq_eq_false_iff_ne.2 (by omega)
          have t6 : (x.kind == 6) = true := beq_iff_eq.2 hkd
          clear hkd
          go_upto_region 33 with fail
          have HTd := Lib.hid (HT5.out.keep0 (Kp.refl nob w5).drew)
          have HCd := Lib.hid (HC5.out.keep0 (Kp.refl nob w5).drew)
          have HQ := Lib.hid HCd.out.b
          refine reg_begin (fun w' => Blk w' gc 35 x.cells) (by kernel_rfl) HQ.out (fun _ => ?_)
          generalize w5.drew = wd at *
          clear q0
          have hsz := str_size x.s
          refine reg_take (v := .pointer (some ⟨gc, 1, none⟩)) 0 (some 142) rfl rfl (by kernel_rfl) (by kernel_rfl) (by kernel_rfl) (by rfl) HQ.out (fun w hw => by go_simp) ?_
          simp only [Act.put, List.setIfInBounds_toArray, List.set_cons_zero, List.set_cons_succ]
          refine reg_take (v := .string (str x.s)) 1 (some 143) rfl rfl (by kernel_rfl) (by kernel_rfl) (by kernel_rfl) (by rfl) HQ.out (fun w hw => by have hc : w.cell? ⟨gc, 1, none⟩ = some (.string (str x.s)) := Blk.cell hw 1; go_simp) ?_
          simp only [Act.put, List.setIfInBounds_toArray, List.set_cons_zero, List.set_cons_succ]
          refine reg_take (v := .int .i64 (x.s.length : Int)) 2 (some 144) rfl rfl (by kernel_rfl) (by kernel_rfl) (by kernel_rfl) (by rfl) HQ.out (fun w hw => by go_simp) ?_
          simp only [Act.put, List.setIfInBounds_toArray, List.set_cons_zero, List.set_cons_succ]
          by_cases hbig : 256 < x.s.length
          · have hb : decide ((256 : Int) < (x.s.length : Int)) = true := by simp; omega
            refine reg_take (v := .bool true) 3 (some 145) rfl rfl (by kernel_rfl) (by kernel_rfl) (by kernel_rfl) (by rfl) HQ.out (fun w hw => by go_simp) ?_
            simp only [Act.put, List.setIfInBounds_toArray, List.set_cons_zero, List.set_cons_succ]
            refine reg_take (v := .bool true) 4 (some 146) rfl rfl (by kernel_rfl) (by kernel_rfl) (by kernel_rfl) (by rfl) HQ.out (fun w hw => by go_simp) ?_
            simp only [Act.put, List.setIfInBounds_toArray, List.set_cons_zero, List.set_cons_succ]
            refine reg_skip 5 (some 147) rfl rfl (by kernel_rfl) (by kernel_rfl) (by kernel_rfl) (by rfl) HQ.out ?_
            simp only [Act.put, List.setIfInBounds_toArray, List.set_cons_zero, List.set_cons_succ]
            refine reg_skip 6 (some 148) rfl rfl (by kernel_rfl) (by kernel_rfl) (by kernel_rfl) (by rfl) HQ.out ?_
            simp only [Act.put, List.setIfInBounds_toArray, List.set_cons_zero, List.set_cons_succ]
            refine reg_skip 7 (some 149) rfl rfl (by kernel_rfl) (by kernel_rfl) (by kernel_rfl) (by rfl) HQ.out ?_
            simp only [Act.put, List.setIfInBounds_toArray, List.set_cons_zero, List.set_cons_succ]
            refine reg_skip 8 (some 150) rfl rfl (by kernel_rfl) (by kernel_rfl) (by kernel_rfl) (by rfl) HQ.out ?_
            simp only [Act.put, List.setIfInBounds_toArray, List.set_cons_zero, List.set_cons_succ]
            refine reg_skip 9 (some 151) rfl rfl (by kernel_rfl) (by kernel_rfl) (by kernel_rfl) (by rfl) HQ.out ?_
            simp only [Act.put, List.setIfInBounds_toArray, List.set_cons_zero, List.set_cons_succ]
            refine reg_skip 10 (some 152) rfl rfl (by kernel_rfl) (by kernel_rfl) (by kernel_rfl) (by rfl) HQ.out ?_
            simp only [Act.put, List.setIfInBounds_toArray, List.set_cons_zero, List.set_cons_succ]
            refine reg_skip 11 (some 153) rfl rfl (by kernel_rfl) (by kernel_rfl) (by kernel_rfl) (by rfl) HQ.out ?_
            simp only [Act.put, List.setIfInBounds_toArray, List.set_cons_zero, List.set_cons_succ]
            refine reg_skip 12 (some 154) rfl rfl (by kernel_rfl) (by kernel_rfl) (by kernel_rfl) (by rfl) HQ.out ?_
            simp only [Act.put, List.setIfInBounds_toArray, List.set_cons_zero, List.set_cons_succ]
            refine reg_skip 13 (some 155) rfl rfl (by kernel_rfl) (by kernel_rfl) (by kernel_rfl) (by rfl) HQ.out ?_
            simp only [Act.put, List.setIfInBounds_toArray, List.set_cons_zero, List.set_cons_succ]
            refine reg_skip 14 (some 156) rfl rfl (by kernel_rfl) (by kernel_rfl) (by kernel_rfl) (by rfl) HQ.out ?_
            simp only [Act.put, List.setIfInBounds_toArray, List.set_cons_zero, List.set_cons_succ]
            refine reg_skip 15 (some 157) rfl rfl (by kernel_rfl) (by kernel_rfl) (by kernel_rfl) (by rfl) HQ.out ?_
            simp only [Act.put, List.setIfInBounds_toArray, List.set_cons_zero, List.set_cons_succ]
            refine reg_skip 16 (some 158) rfl rfl (by kernel_rfl) (by kernel_rfl) (by kernel_rfl) (by rfl) HQ.out ?_
            simp only [Act.put, List.setIfInBounds_toArray, List.set_cons_zero, List.set_cons_succ]
            refine reg_skip 17 (some 159) rfl rfl (by kernel_rfl) (by kernel_rfl) (by kernel_rfl) (by rfl) HQ.out ?_
            simp only [Act.put, List.setIfInBounds_toArray, List.set_cons_zero, List.set_cons_succ]
            refine reg_skip 18 (some 160) rfl rfl (by kernel_rfl) (by kernel_rfl) (by kernel_rfl) (by rfl) HQ.out ?_
            simp only [Act.put, List.setIfInBounds_toArray, List.set_cons_zero, List.set_cons_succ]
            refine reg_take (v := .bool true) 19 (some 161) rfl rfl (by kernel_rfl) (by kernel_rfl) (by kernel_rfl) (by rfl) HQ.out (fun w hw => by go_simp) ?_
            simp only [Act.put, List.setIfInBounds_toArray, List.set_cons_zero, List.set_cons_succ]
            refine reg_take (v := .bool true) 20 (some 13) rfl rfl (by kernel_rfl) (by kernel_rfl) (by kernel_rfl) (by rfl) HQ.out (fun w hw => by go_simp) ?_
            simp only [Act.put, List.setIfInBounds_toArray, List.set_cons_zero, List.set_cons_succ]
            refine reg_end (by kernel_rfl) ?_
            go_wp2
            go_meet
            exact ⟨rfl, ⟨a, b2, _, _, W, cW, q, _, rfl, rfl, HTd.out, HS.out.1.le (by omega), HS.out.2⟩⟩
          · have hb : decide ((256 : Int) < (x.s.length : Int)) = false := by simp; omega
            refine reg_take (v := .bool false) 3 (some 145) rfl rfl (by kernel_rfl) (by kernel_rfl) (by kernel_rfl) (by rfl) HQ.out (fun w hw => by go_simp) ?_
            simp only [Act.put, List.setIfInBounds_toArray, List.set_cons_zero, List.set_cons_succ]
            refine reg_take (v := .bool false) 4 (some 146) rfl rfl (by kernel_rfl) (by kernel_rfl) (by kernel_rfl) (by rfl) HQ.out (fun w hw => by go_simp) ?_
            simp only [Act.put, List.setIfInBounds_toArray, List.set_cons_zero, List.set_cons_succ]
            refine reg_take (v := .pointer (some ⟨g, 0, none⟩)) 5 (some 147) rfl rfl (by kernel_rfl) (by kernel_rfl) (by kernel_rfl) (by rfl) HQ.out (fun w hw => by go_simp) ?_
            simp only [Act.put, List.setIfInBounds_toArray, List.set_cons_zero, List.set_cons_succ]
            refine reg_take (v := .pointer (some ⟨gc, 2, none⟩)) 6 (some 148) rfl rfl (by kernel_rfl) (by kernel_rfl) (by kernel_rfl) (by rfl) HQ.out (fun w hw => by go_simp) ?_
            simp only [Act.put, List.setIfInBounds_toArray, List.set_cons_zero, List.set_cons_succ]
            refine reg_take (v := .int .i64 x.n) 7 (some 149) rfl rfl (by kernel_rfl) (by kernel_rfl) (by kernel_rfl) (by rfl) HQ.out (fun w hw => by have hc : w.cell? ⟨gc, 2, none⟩ = some (.int .i64 x.n) := Blk.cell hw 2; go_simp) ?_
            simp only [Act.put, List.setIfInBounds_toArray, List.set_cons_zero, List.set_cons_succ]
            refine reg_take (v := .pointer (some ⟨gc, 1, none⟩)) 8 (some 150) rfl rfl (by kernel_rfl) (by kernel_rfl) (by kernel_rfl) (by rfl) HQ.out (fun w hw => by go_simp) ?_
            simp only [Act.put, List.setIfInBounds_toArray, List.set_cons_zero, List.set_cons_succ]
            refine reg_take (v := .string (str x.s)) 9 (some 151) rfl rfl (by kernel_rfl) (by kernel_rfl) (by kernel_rfl) (by rfl) HQ.out (fun w hw => by have hc : w.cell? ⟨gc, 1, none⟩ = some (.string (str x.s)) := Blk.cell hw 1; go_simp) ?_
            simp only [Act.put, List.setIfInBounds_toArray, List.set_cons_zero, List.set_cons_succ]
            refine reg_take (v := .pointer (some ⟨g2, 0, none⟩)) 12 (some 154) rfl rfl (by kernel_rfl) (by kernel_rfl) (by kernel_rfl) (by rfl) HQ.out (fun w hw => by go_simp) ?_
            simp only [Act.put, List.setIfInBounds_toArray, List.set_cons_zero, List.set_cons_succ]
            refine reg_take (v := .pointer (some ⟨gc, 2, none⟩)) 13 (some 155) rfl rfl (by kernel_rfl) (by kernel_rfl) (by kernel_rfl) (by rfl) HQ.out (fun w hw => by go_simp) ?_
            simp only [Act.put, List.setIfInBounds_toArray, List.set_cons_zero, List.set_cons_succ]
            refine reg_take (v := .int .i64 x.n) 14 (some 156) rfl rfl (by kernel_rfl) (by kernel_rfl) (by kernel_rfl) (by rfl) HQ.out (fun w hw => by have hc : w.cell? ⟨gc, 2, none⟩ = some (.int .i64 x.n) := Blk.cell hw 2; go_simp) ?_
            simp only [Act.put, List.setIfInBounds_toArray, List.set_cons_zero, List.set_cons_succ]
            refine reg_take (v := .pointer (some ⟨gc, 1, none⟩)) 15 (some 157) rfl rfl (by kernel_rfl) (by kernel_rfl) (by kernel_rfl) (by rfl) HQ.out (fun w hw => by go_simp) ?_
            simp only [Act.put, List.setIfInBounds_toArray, List.set_cons_zero, List.set_cons_succ]
            refine reg_take (v := .string (str x.s)) 16 (some 158) rfl rfl (by kernel_rfl) (by kernel_rfl) (by kernel_rfl) (by rfl) HQ.out (fun w hw => by have hc : w.cell? ⟨gc, 1, none⟩ = some (.string (str x.s)) := Blk.cell hw 1; go_simp) ?_
            simp only [Act.put, List.setIfInBounds_toArray, List.set_cons_zero, List.set_cons_succ]
            obtain ⟨qc, w6, hcv, hrow, k6, z6, hq1, hq2⟩ := run_str_bytesK wd 9 36 5 (str x.s) u8_string u8_under (by kernel_rfl) (by rw [str_size]; have := HXS.out; simp [maxLen]; omega)
            rw [str_size] at hcv hq1
            rw [sl_str] at hrow
            obtain ⟨n1, hn1⟩ : ∃ n1, n1 = x.s.length := ⟨_, rfl⟩
            rw [← hn1] at hcv hq1
            have HT6 := Lib.hid (HTd.out.more k6)
            have HC6 := Lib.hid (HCd.out.more k6)
            have HQ6 := Lib.hid HC6.out.b
            have HR6 := Lib.hid (And.intro hrow hn1)
            refine reg_step (v := .slice (some ⟨wd.heap.size, 0, none⟩) n1 qc) (w' := w6) 10 (some 152) rfl rfl (by kernel_rfl) (by rfl) (exec_sb (.tmp 151) x.s rfl rfl hcv) HQ6.out (fun _ => ?_)
            clear hcv hrow k6 z6 hq1 hq2 hn1
            simp only [Act.put, List.setIfInBounds_toArray, List.set_cons_zero, List.set_cons_succ]
            refine reg_call 11 (some 153) rfl rfl (by kernel_rfl) (by rfl) _ _ (exec_func 26 _ _ [.pointer (some ⟨g, 0, none⟩), .int .i64 x.n, .slice (some ⟨wd.heap.size, 0, none⟩) n1 qc] rfl (by kernel_rfl) rfl) ?_
            refine (forge_any D x.n (some ⟨wd.heap.size, 0, none⟩) n1 qc x.s g N S W cW w6 HT6.out.gd.cd HR6.out.2.symm HR6.out.1 (by have := HR6.out.2; have := HXS.out; omega) (by have := HS.out.1.waits; have := HLT.out; omega)).mono ?_
            rintro e w7 ⟨rfl, z7⟩
            obtain ⟨W7, c7, ht7, hc7⟩ := HT6.out.disk z7
            have HT7 := Lib.hid ht7
            have HC7 := Lib.hid (hc7 _ _ HC6.out)
            have HQ7 := Lib.hid HC7.out.b
            clear z7 ht7 hc7
            refine ⟨_, rfl, HQ7.out, fun _ => ?_⟩
            simp only [Act.put, List.setIfInBounds_toArray, List.set_cons_zero, List.set_cons_succ]
            refine reg_call 17 (some 159) rfl rfl (by kernel_rfl) (by rfl) _ _ (exec_func 27 _ _ [.pointer (some ⟨g2, 0, none⟩), .int .i64 x.n, .string (str x.s)] rfl (by kernel_rfl) rfl) ?_
            refine (fForge_any D x.n x.s g2 q.F q.N q.S q.W q.cN q.cS q.cW w7 HT7.out.dd HOK.out (by rw [HS.out.1.len]; have := HM.out; omega) (by have := HS.out.1.waits; have := HLT.out; omega) (by have := HXS.out; omega)).mono ?_
            rintro e w8 ⟨rfl, z8⟩
            obtain ⟨q8, ht8, hc8⟩ := HT7.out.docD z8
            have HT8 := Lib.hid ht8
            have HQ8 := Lib.hid (hc8 _ _ HC7.out).b
            clear z8 ht8 hc8
            refine ⟨_, rfl, HQ8.out, fun _ => ?_⟩
            simp only [Act.put, List.setIfInBounds_toArray, List.set_cons_zero, List.set_cons_succ]
            refine reg_take (v := .bool true) 18 (some 160) rfl rfl (by kernel_rfl) (by kernel_rfl) (by kernel_rfl) (by rfl) HQ8.out (fun w hw => by go_simp) ?_
            simp only [Act.put, List.setIfInBounds_toArray, List.set_cons_zero, List.set_cons_succ]
            refine reg_take (v := .bool true) 19 (some 161) rfl rfl (by kernel_rfl) (by kernel_rfl) (by kernel_rfl) (by rfl) HQ8.out (fun w hw => by go_simp) ?_
            simp only [Act.put, List.setIfInBounds_toArray, List.set_cons_zero, List.set_cons_succ]
            refine reg_take (v := .bool true) 20 (some 13) rfl rfl (by kernel_rfl) (by kernel_rfl) (by kernel_rfl) (by rfl) HQ8.out (fun w hw => by go_simp) ?_
            simp only [Act.put, List.setIfInBounds_toArray, List.set_cons_zero, List.set_cons_succ]
            refine reg_end (by kernel_rfl) ?_
            go_wp2
            go_meet
            exact ⟨rfl, ⟨a, b2, _, _, W7, c7, q8, _, rfl, rfl, HT8.out, (HS.out.1.forge x.n x.s).le (by omega), HS.out.2⟩⟩
        · obtain ⟨h0, h1, h2, h3, h4, h5, h6⟩ := hkd
          have t0 : (x.kind == 0) = false := beq_eq_false_iff_ne.2 h0
          have t1 : (x.kind == 1) = false := beq_eq_false_iff_ne.2 h1
          have t2 : (x.kind == 2) = false := beq_eq_false_iff_ne.2 h2
          have t3 : (x.kind == 3) = false := beq_eq_false_iff_ne.2 h3
          have t4 : (x.kind == 4) = false := beq_eq_false_iff_ne.2 h4
          have t5 : (x.kind == 5) = false := beq_eq_false_iff_ne.2 h5
          have t6 : (x.kind == 6) = false := beq_eq_false_iff_ne.2 h6
          clear h0 h1 h2 h3 h4 h5 h6
          go_wp2
          go_meet
          exact ⟨rfl, ⟨a, b2, _, _, W, cW, q, _, rfl, rfl, HT5.out, HS.out.1.le (by omega), HS.out.2⟩⟩
      case rest =>
        obtain ⟨rfl, hsd⟩ := hcut
        clear HT HT5 HC5 HS HOK HRG HX HXS q0
        obtain ⟨a, b2, D, A, W, cW, q, B, rfl, rfl, ht, hs, hi⟩ := hsd.ex
        have HT := Lib.hid ht
        have HS := Lib.hid (And.intro hs hi)
        clear ht hs hi hsd
        have hA4 : A.top ≤ 4096 := by have := HS.out.2.2; have := HM.out; omega
        have hAp := HS.out.2.1
        obtain ⟨T, hT⟩ : ∃ T, T = A.top := ⟨_, rfl⟩
        obtain ⟨Q, hQ⟩ : ∃ Q, Q = A.pos := ⟨_, rfl⟩
        obtain ⟨R, hR⟩ : ∃ R, R = T - Q := ⟨_, rfl⟩
        have HRR := Lib.hid (And.intro hT (And.intro hQ hR))
        have e1 : IntKind.i64.wrap ((T : Int) - (Q : Int)) = (R : Int) := by rw [IntWalk.i64_in _ (by omega)]; omega
        have HL := Lib.hid (fun w' (k : Kp nob wc w') => left_c a g A w' (HT.out.keep0 k).own.1 hAp hA4)
        rw [show A.top - A.pos = R by rw [hR, hT, hQ]] at HL
        clear hT hQ hR hA4 hAp
        go_upto_region 34 with fail
        refine reg_begin (fun w' => Kp nob wc w') (by kernel_rfl) (Kp.refl nob wc).drew (fun hd => ?_)
        have HQ := Lib.hid hd
        clear hd
        generalize wc.drew = wd at *
        refine reg_take (v := .bool true) 0 (some 162) rfl rfl (by kernel_rfl) (by kernel_rfl) (by kernel_rfl) (by rfl) HQ.out (fun w hw => by go_simp) ?_
        simp only [Act.put, List.setIfInBounds_toArray, List.set_cons_zero, List.set_cons_succ]
        refine reg_take (v := .bool false) 1 (some 163) rfl rfl (by kernel_rfl) (by kernel_rfl) (by kernel_rfl) (by rfl) HQ.out (fun w hw => by go_simp) ?_
        simp only [Act.put, List.setIfInBounds_toArray, List.set_cons_zero, List.set_cons_succ]
        refine reg_take (v := .bool false) 2 (some 164) rfl rfl (by kernel_rfl) (by kernel_rfl) (by kernel_rfl) (by rfl) HQ.out (fun w hw => by go_simp) ?_
        simp only [Act.put, List.setIfInBounds_toArray, List.set_cons_zero, List.set_cons_succ]
        refine reg_take (v := .pointer (some ⟨a, 0, none⟩)) 3 (some 165) rfl rfl (by kernel_rfl) (by kernel_rfl) (by kernel_rfl) (by rfl) HQ.out (fun w hw => by go_simp) ?_
        simp only [Act.put, List.setIfInBounds_toArray, List.set_cons_zero, List.set_cons_succ]
        refine reg_take (v := .pointer (some ⟨b2, 0, none⟩)) 5 (some 167) rfl rfl (by kernel_rfl) (by kernel_rfl) (by kernel_rfl) (by rfl) HQ.out (fun w hw => by go_simp) ?_
        simp only [Act.put, List.setIfInBounds_toArray, List.set_cons_zero, List.set_cons_succ]
        refine reg_take (v := .pointer (some ⟨b2, 0, none⟩)) 6 (some 168) rfl rfl (by kernel_rfl) (by kernel_rfl) (by kernel_rfl) (by rfl) HQ.out (fun w hw => by go_simp) ?_
        simp only [Act.put, List.setIfInBounds_toArray, List.set_cons_zero, List.set_cons_succ]
        refine reg_take (v := .pointer (some ⟨b2, 1, none⟩)) 7 (some 169) rfl rfl (by kernel_rfl) (by kernel_rfl) (by kernel_rfl) (by rfl) HQ.out (fun w hw => by go_simp) ?_
        simp only [Act.put, List.setIfInBounds_toArray, List.set_cons_zero, List.set_cons_succ]
        refine reg_take (v := .int .i64 (T : Int)) 8 (some 170) rfl rfl (by kernel_rfl) (by kernel_rfl) (by kernel_rfl) (by rfl) HQ.out (fun w hw => by
          have hc : w.cell? ⟨b2, 1, none⟩ = some (.int .i64 (T : Int)) := by rw [HRR.out.1]; exact Blk.cell (HT.out.keep0 hw).da 1
          go_simp) ?_
        simp only [Act.put, List.setIfInBounds_toArray, List.set_cons_zero, List.set_cons_succ]
        refine reg_take (v := .pointer (some ⟨b2, 0, none⟩)) 9 (some 171) rfl rfl (by kernel_rfl) (by kernel_rfl) (by kernel_rfl) (by rfl) HQ.out (fun w hw => by go_simp) ?_
        simp only [Act.put, List.setIfInBounds_toArray, List.set_cons_zero, List.set_cons_succ]
        refine reg_take (v := .pointer (some ⟨b2, 0, none⟩)) 10 (some 172) rfl rfl (by kernel_rfl) (by kernel_rfl) (by kernel_rfl) (by rfl) HQ.out (fun w hw => by go_simp) ?_
        simp only [Act.put, List.setIfInBounds_toArray, List.set_cons_zero, List.set_cons_succ]
        refine reg_take (v := .pointer (some ⟨b2, 2, none⟩)) 11 (some 173) rfl rfl (by kernel_rfl) (by kernel_rfl) (by kernel_rfl) (by rfl) HQ.out (fun w hw => by go_simp) ?_
        simp only [Act.put, List.setIfInBounds_toArray, List.set_cons_zero, List.set_cons_succ]
        refine reg_take (v := .int .i64 (Q : Int)) 12 (some 174) rfl rfl (by kernel_rfl) (by kernel_rfl) (by kernel_rfl) (by rfl) HQ.out (fun w hw => by
          have hc : w.cell? ⟨b2, 2, none⟩ = some (.int .i64 (Q : Int)) := by rw [HRR.out.2.1]; exact Blk.cell (HT.out.keep0 hw).da 2
          go_simp) ?_
        simp only [Act.put, List.setIfInBounds_toArray, List.set_cons_zero, List.set_cons_succ]
        refine reg_take (v := .int .i64 (R : Int)) 13 (some 175) rfl rfl (by kernel_rfl) (by kernel_rfl) (by kernel_rfl) (by rfl) HQ.out (fun w hw => by go_simp) ?_
        simp only [Act.put, List.setIfInBounds_toArray, List.set_cons_zero, List.set_cons_succ]
        refine reg_call 4 (some 166) rfl rfl (by kernel_rfl) (by rfl) _ _ (exec_func 28 _ _ [.pointer (some ⟨a, 0, none⟩)] rfl (by kernel_rfl) rfl) ?_
        refine (HL.out wd HQ.out).mono ?_
        rintro e w1 ⟨rfl, k1⟩
        have HQ1 := Lib.hid (HQ.out.trans k1 (fun _ e => e.elim))
        clear k1
        refine ⟨_, rfl, HQ1.out, fun _ => ?_⟩
        simp only [Act.put, List.setIfInBounds_toArray, List.set_cons_zero, List.set_cons_succ]
        refine reg_take (v := .bool false) 14 (some 176) rfl rfl (by kernel_rfl) (by kernel_rfl) (by kernel_rfl) (by rfl) HQ1.out (fun w hw => by go_simp) ?_
        simp only [Act.put, List.setIfInBounds_toArray, List.set_cons_zero, List.set_cons_succ]
        refine reg_take (v := .bool false) 15 (some 177) rfl rfl (by kernel_rfl) (by kernel_rfl) (by kernel_rfl) (by rfl) HQ1.out (fun w hw => by go_simp) ?_
        simp only [Act.put, List.setIfInBounds_toArray, List.set_cons_zero, List.set_cons_succ]
        refine reg_take (v := .bool false) 16 (some 178) rfl rfl (by kernel_rfl) (by kernel_rfl) (by kernel_rfl) (by rfl) HQ1.out (fun w hw => by go_simp) ?_
        simp only [Act.put, List.setIfInBounds_toArray, List.set_cons_zero, List.set_cons_succ]
        refine reg_take (v := .pointer (some ⟨g, 0, none⟩)) 17 (some 179) rfl rfl (by kernel_rfl) (by kernel_rfl) (by kernel_rfl) (by rfl) HQ1.out (fun w hw => by go_simp) ?_
        simp only [Act.put, List.setIfInBounds_toArray, List.set_cons_zero, List.set_cons_succ]
        refine reg_take (v := .pointer (some ⟨g2, 0, none⟩)) 19 (some 181) rfl rfl (by kernel_rfl) (by kernel_rfl) (by kernel_rfl) (by rfl) HQ1.out (fun w hw => by go_simp) ?_
        simp only [Act.put, List.setIfInBounds_toArray, List.set_cons_zero, List.set_cons_succ]
        refine reg_take (v := .pointer (some ⟨g2, 0, none⟩)) 20 (some 182) rfl rfl (by kernel_rfl) (by kernel_rfl) (by kernel_rfl) (by rfl) HQ1.out (fun w hw => by go_simp) ?_
        simp only [Act.put, List.setIfInBounds_toArray, List.set_cons_zero, List.set_cons_succ]
        refine reg_take (v := .pointer (some ⟨g2, 4, none⟩)) 21 (some 183) rfl rfl (by kernel_rfl) (by kernel_rfl) (by kernel_rfl) (by rfl) HQ1.out (fun w hw => by go_simp) ?_
        simp only [Act.put, List.setIfInBounds_toArray, List.set_cons_zero, List.set_cons_succ]
        refine reg_take (v := .int .i64 (D.acts : Int)) 22 (some 184) rfl rfl (by kernel_rfl) (by kernel_rfl) (by kernel_rfl) (by rfl) HQ1.out (fun w hw => by
          have hc : w.cell? ⟨g2, 4, none⟩ = some (.int .i64 (D.acts : Int)) := (HT.out.keep0 hw).dd.b.cell 4
          go_simp) ?_
        simp only [Act.put, List.setIfInBounds_toArray, List.set_cons_zero, List.set_cons_succ]
        refine reg_call 18 (some 180) rfl rfl (by kernel_rfl) (by rfl) _ _ (exec_func 29 _ _ [.pointer (some ⟨g, 0, none⟩)] rfl (by kernel_rfl) rfl) ?_
        refine (acts_any D g N S W cW w1 (HT.out.keep0 HQ1.out).gd.cd).mono ?_
        rintro e w1 ⟨rfl, rfl⟩
        refine ⟨_, rfl, HQ1.out, fun _ => ?_⟩
        simp only [Act.put, List.setIfInBounds_toArray, List.set_cons_zero, List.set_cons_succ]
        refine reg_take (v := .bool false) 23 (some 185) rfl rfl (by kernel_rfl) (by kernel_rfl) (by kernel_rfl) (by rfl) HQ1.out (fun w hw => by go_simp) ?_
        simp only [Act.put, List.setIfInBounds_toArray, List.set_cons_zero, List.set_cons_succ]
        refine reg_take (v := .bool false) 24 (some 186) rfl rfl (by kernel_rfl) (by kernel_rfl) (by kernel_rfl) (by rfl) HQ1.out (fun w hw => by go_simp) ?_
        simp only [Act.put, List.setIfInBounds_toArray, List.set_cons_zero, List.set_cons_succ]
        refine reg_take (v := .bool false) 25 (some 187) rfl rfl (by kernel_rfl) (by kernel_rfl) (by kernel_rfl) (by rfl) HQ1.out (fun w hw => by go_simp) ?_
        simp only [Act.put, List.setIfInBounds_toArray, List.set_cons_zero, List.set_cons_succ]
        refine reg_take (v := .pointer (some ⟨g, 0, none⟩)) 26 (some 188) rfl rfl (by kernel_rfl) (by kernel_rfl) (by kernel_rfl) (by rfl) HQ1.out (fun w hw => by go_simp) ?_
        simp only [Act.put, List.setIfInBounds_toArray, List.set_cons_zero, List.set_cons_succ]
        refine reg_take (v := .pointer (some ⟨g2, 0, none⟩)) 29 (some 191) rfl rfl (by kernel_rfl) (by kernel_rfl) (by kernel_rfl) (by rfl) HQ1.out (fun w hw => by go_simp) ?_
        simp only [Act.put, List.setIfInBounds_toArray, List.set_cons_zero, List.set_cons_succ]
        refine reg_call 27 (some 189) rfl rfl (by kernel_rfl) (by rfl) _ _ (exec_func 30 _ _ [.pointer (some ⟨g, 0, none⟩)] rfl (by kernel_rfl) rfl) ?_
        refine (image_any D g N S W cW w1 (HT.out.keep0 HQ1.out).gd.cd).mono ?_
        rintro e w2 ⟨X, c, rfl, hown, k2, hX⟩
        have HQ2 := Lib.hid (HQ1.out.trans k2 (fun _ e => e.elim))
        have HRO := Lib.hid (Own.row hown)
        clear hown k2 hX
        refine ⟨_, rfl, HQ2.out, fun _ => ?_⟩
        simp only [Act.put, List.setIfInBounds_toArray, List.set_cons_zero, List.set_cons_succ]
        refine reg_more (fun w' => Kp nob w2 w') (fun w' h => HQ2.out.trans h (fun _ e => e.elim)) ?_
        have HQ3 := Lib.hid (Kp.refl nob w2)
        refine reg_take (v := .string (str (image D))) 28 (some 190) rfl rfl (by kernel_rfl) (by kernel_rfl) (by kernel_rfl) (by rfl) HQ3.out (fun w hw => by exact exec_bs2 (.tmp 189) X (D.now.length * 256) c (image D) rfl rfl (image_length D HT.out.gd.cd.ok) (HRO.out.keep0 hw)) ?_
        simp only [Act.put, List.setIfInBounds_toArray, List.set_cons_zero, List.set_cons_succ]
        refine reg_call 30 (some 192) rfl rfl (by kernel_rfl) (by rfl) _ _ (exec_func 31 _ _ [.pointer (some ⟨g2, 0, none⟩)] rfl (by kernel_rfl) rfl) ?_
        refine (fImage D g2 q.F q.N q.S q.W q.cN q.cS q.cW w2 (HT.out.keep0 HQ2.out).dd HT.out.gd.cd.ok (by rw [HS.out.1.len]; have := HM.out; omega)).mono ?_
        rintro e w2 ⟨rfl, rfl⟩
        refine ⟨_, rfl, HQ3.out, fun _ => ?_⟩
        simp only [Act.put, List.setIfInBounds_toArray, List.set_cons_zero, List.set_cons_succ]
        refine reg_take (v := .bool false) 31 (some 193) rfl rfl (by kernel_rfl) (by kernel_rfl) (by kernel_rfl) (by rfl) HQ3.out (fun w hw => by go_simp) ?_
        simp only [Act.put, List.setIfInBounds_toArray, List.set_cons_zero, List.set_cons_succ]
        refine reg_take (v := .bool false) 32 (some 194) rfl rfl (by kernel_rfl) (by kernel_rfl) (by kernel_rfl) (by rfl) HQ3.out (fun w hw => by go_simp) ?_
        simp only [Act.put, List.setIfInBounds_toArray, List.set_cons_zero, List.set_cons_succ]
        refine reg_end (by kernel_rfl) ?_
        have e5 := HE5.out
        clear e1
        go_wp2
        go_roundw
        case rel => exact ⟨k + 1, by go_num, HLT.out.1, ⟨⟨a, b2, D, A, W, cW, q, B, rfl, rfl, HT.out.keep0 HQ2.out, HS.out.1, HS.out.2⟩⟩⟩
        case measure => simp [intOf]; have := HLT.out; omega
    · obtain rfl : p = k := by omega
      clear hk hlt
      go_wp2_with fail
      refine (next_nil wr).mono ?_
      rintro e w5 ⟨rfl, k5⟩
      have HK5 := Lib.hid ((HT.out.keep0 k5).gd.kp)
      clear k5
      go_wp2_with fail
      refine (left_nil w5).mono ?_
      rintro e w6 ⟨rfl, k6⟩
      have HK6 := Lib.hid (HK5.out.trans k6 (fun _ e => e.elim))
      clear k6
      go_wp2_with fail
      refine (add_nil w6).mono ?_
      rintro e w7 ⟨rfl, k7⟩
      have HK7 := Lib.hid (HK6.out.trans k7 (fun _ e => e.elim))
      clear k7
      go_wp2
      go_ret
      exact ⟨rfl, HK7.out⟩
end Go.Proofs.Ytndkmfflpphoiaa.Disk
