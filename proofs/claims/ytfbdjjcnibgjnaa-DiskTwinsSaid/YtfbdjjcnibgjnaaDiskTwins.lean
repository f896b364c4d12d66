/- DiskTwins: two disks to which the same is done are alike, and know nothing of one another. -/
import Derived.Test.YtfbdjjcnibgjnaaDskN
namespace Go.Proofs.Ytfbdjjcnibgjnaa.Disk
set_option linter.unusedVariables false
set_option linter.unusedSimpArgs false
open Go Go.RowKit Kit
theorem neq_self (l : List UInt8) : ((str l).toList != (str l).toList) = false := by simp
theorem eq_self (l : List UInt8) : ((str l).toList == (str l).toList) = true := by simp
theorem call_c (x : Cc) {w : World} {g : Nat} (h : Blk w g 44 x.cells) : w.cell? ⟨g, 0, none⟩ = some (.int .i64 x.kind) ∧ w.cell? ⟨g, 1, none⟩ = some (.int .i64 x.i) ∧ w.cell? ⟨g, 2, none⟩ = some (.slice x.A x.n x.c) ∧ w.cell? ⟨g, 3, none⟩ = some (.int .u64 (x.K : Int)) := ⟨h.cell 0, h.cell 1, h.cell 2, h.cell 3⟩
theorem kinds (k : Int) : k = 0 ∨ k = 2 ∨ k = 3 ∨ k = 4 ∨ k = 5 ∨ k = 6 ∨ (k ≠ 0 ∧ k ≠ 2 ∧ k ≠ 3 ∧ k ≠ 4 ∧ k ≠ 5 ∧ k ≠ 6) := by omega
set_option maxHeartbeats 8000000 in
set_option maxRecDepth 100000 in
theorem twins_yes (nn : Int) (A : Option Addr) (n c : Nat) (cs : List Cc) (w : World) (hn : cs.length = n) (hr : Row w A (cs.flatMap Cc.cells)) (hx : ∀ x ∈ cs, CcOk w x ∧ x.i ≤ 9223372036854775807) (hm : n ≤ maxLen) (hg : greatB cs = false) (h20 : nn ≤ 20) :
    Calls Try.prog 7 #[.int .i64 nn, .slice A n c] w fun e w' => e = .returned (.bool true) ∧ Kp nob w w' := by
  have HGR := Lib.hid (fun (w' : World) (k : Kp nob w w') => great_any A n c cs w' hn (hr.keep0 k) (fun x h => (hx x h).1.n) hm)
  rw [hg] at HGR
  have HN := Lib.hid hn; have HR := Lib.hid hr; have HX := Lib.hid hx
  have hlen : n ≤ 80 := by
    unfold greatB at hg
    simp only [Bool.or_eq_false_iff, decide_eq_false_iff_not] at hg
    omega
  obtain ⟨m, hm2⟩ : ∃ m, m = clamp nn := ⟨_, rfl⟩
  have hm3 : m ≤ 20 := by rw [hm2]; unfold clamp; omega
  have HNW := Lib.hid (fun w => new_any nn w)
  rw [← hm2] at HNW
  have d1 : decide ((20 : Int) < nn) = false := decide_eq_false (by omega)
  have HM3 := Lib.hid hm3; have HLEN := Lib.hid hlen
  clear hn hr hx hm hg h20 hm2 hm3
  go_enter Try.func7, Try.ntmps7
  go_wp2_with fail
  refine (alive_yes w).mono ?_
  rintro e w1 ⟨rfl, k1⟩
  have K1 := Lib.hid k1
  go_wp2_with fail
  refine (HGR.out w1 K1.out).mono ?_
  rintro e w2 ⟨rfl, k2⟩
  have K2' := Lib.hid (K1.out.trans k2 (fun _ e => e.elim))
  clear k1 k2
  go_wp2_with fail
  refine (HNW.out w2).mono ?_
  rintro e w3 ⟨ga, Na, Sa, rfl, ha, ka, na⟩
  have HA := Lib.hid ha; have KA := Lib.hid ka; have NA := Lib.hid na
  clear ha ka na
  go_wp2_with fail
  refine (HNW.out w3).mono ?_
  rintro e w4 ⟨gb, Nb, Sb, rfl, hb, kb, nb⟩
  have HB := Lib.hid hb; have KB := Lib.hid kb; have NB := Lib.hid nb
  clear hb kb nb
  go_wp2_with fail
  refine (HNW.out w4).mono ?_
  rintro e w5 ⟨gs, Ns, Ss, rfl, hs, ks, ns⟩
  have HT0 := Lib.hid (Tw.first K2'.out HA.out KA.out NA.out HB.out KB.out NB.out hs ks ns)
  clear hs ks ns HA KA NA HB KB NB
  go_wp2
  go_loopw [26] (fun vi wr => ∃ (k : Nat) (D : Dk) (Wa : Option Addr) (ca : Nat) (Wb : Option Addr) (cb : Nat), k ≤ n ∧ vi = .int .i64 k ∧ Tw w wr ⟨ga, Na, Sa, Wa, ca⟩ ⟨gb, Nb, Sb, Wb, cb⟩ ⟨gs, Ns, Ss, none, 0⟩ D D (new m) ∧ Sm D k m)
    (fun vi _ => n - (intOf vi).toNat)
  case atStart => exact ⟨0, new m, none, 0, none, 0, Nat.zero_le _, rfl, HT0.out, ⟨Nat.zero_le _, Nat.zero_le _, (show (0 : Nat) ≤ 9223372036854775807 by decide), (show (0 : Nat) < 18446744073709551616 by decide), new_length' m⟩⟩
  case round =>
    obtain ⟨k, D, Wa, ca, Wb, cb, hk, rfl, ht, hsm⟩ := hrel
    have HT := Lib.hid ht; have HSM := Lib.hid hsm
    clear ht hsm
    by_cases hlt : k < n
    · obtain ⟨x, hx⟩ : ∃ x, cs[k]? = some x := ⟨_, List.getElem?_eq_getElem (by rw [HN.out]; exact hlt)⟩
      obtain ⟨b, o, rfl, hrg⟩ := ccs_at (HR.out.keep0 HT.out.k) k x hx
      have HRG := Lib.hid hrg
      have HXX := Lib.hid (HX.out x (List.mem_of_getElem? hx))
      have HS2 := Lib.hid (HSM.out.step HT.out.da.ok HXX.out.1.K HXX.out.2)
      have HLT := Lib.hid hlt
      have hwl : D.waits.length ≤ 99999 := by have := HSM.out.waits; have := HLEN.out; omega
      have hac : D.acts ≤ 1000000000000 := by have := HSM.out.acts; have := HLEN.out; omega
      have HWL := Lib.hid hwl; have HAC := Lib.hid hac
      have HLK := Lib.hid (show k ≤ 80 by have := HLEN.out; omega)
      clear hx hrg hwl hac hlt hk
      rcases kinds x.kind with hkd | hkd | hkd | hkd | hkd | hkd | hkd
      case' inl =>
        have HST := Lib.hid (st0 D x hkd)
        have t0 : (x.kind == 0) = true := beq_iff_eq.2 hkd
        clear hkd
        go_wp2_with (first
          | (refine wpList_load_mid rfl 44 (.tmp 28) rfl b (o + k * 4) rfl x.cells _ HRG.out call_under rfl (call_size x) ?_)
          | (refine wpList_store_new rfl 44 (.tmp 9) (.tmp 29) rfl _ x.cells rfl rfl rfl (call_size x) x.one ?_
             intro w9 hB9 k9 z9
             obtain ⟨g9, hg9⟩ : ∃ g, g = wr.heap.size := ⟨_, rfl⟩
             rw [← hg9] at hB9 ⊢
             have HB9 := Lib.hid hB9
             have HT9 := Lib.hid (HT.out.keep0 k9)
             have HF9 := Lib.hid (HT.out.far g9 (by omega))
             obtain ⟨c0, c1, c2, c3⟩ := call_c x hB9
             clear hB9 k9 z9 hg9))
        have HS9 := Lib.hid (HB9.out.keep (Kp.refl nob w9).drew (fun e => e))
        have HD9 := Lib.hid (HT9.out.keep0 (Kp.refl nob w9).drew)
        refine reg_begin (fun w' => Blk w' g9 44 x.cells) (by kernel_rfl) HS9.out (fun _ => ?_)
        generalize w9.drew = wd at *
        clear c0 c1 c2 c3
        refine reg_take (v := .pointer (some ⟨ga, 0, none⟩)) 0 (some 34) rfl rfl (by kernel_rfl) (by kernel_rfl) (by kernel_rfl) (by rfl) HS9.out (fun w hw => by go_simp) ?_
        simp only [Act.put, List.setIfInBounds_toArray, List.set_cons_zero, List.set_cons_succ]
        refine reg_take (v := .pointer (some ⟨g9, 1, none⟩)) 1 (some 35) rfl rfl (by kernel_rfl) (by kernel_rfl) (by kernel_rfl) (by rfl) HS9.out (fun w hw => by go_simp) ?_
        simp only [Act.put, List.setIfInBounds_toArray, List.set_cons_zero, List.set_cons_succ]
        refine reg_take (v := .int .i64 x.i) 2 (some 36) rfl rfl (by kernel_rfl) (by kernel_rfl) (by kernel_rfl) (by rfl) HS9.out (fun w hw => by have hc := (call_c x hw).2.1; go_simp) ?_
        simp only [Act.put, List.setIfInBounds_toArray, List.set_cons_zero, List.set_cons_succ]
        refine reg_take (v := .pointer (some ⟨g9, 2, none⟩)) 3 (some 37) rfl rfl (by kernel_rfl) (by kernel_rfl) (by kernel_rfl) (by rfl) HS9.out (fun w hw => by go_simp) ?_
        simp only [Act.put, List.setIfInBounds_toArray, List.set_cons_zero, List.set_cons_succ]
        refine reg_take (v := .slice x.A x.n x.c) 4 (some 38) rfl rfl (by kernel_rfl) (by kernel_rfl) (by kernel_rfl) (by rfl) HS9.out (fun w hw => by have hc := (call_c x hw).2.2.1; go_simp) ?_
        simp only [Act.put, List.setIfInBounds_toArray, List.set_cons_zero, List.set_cons_succ]
        refine reg_take (v := .pointer (some ⟨gb, 0, none⟩)) 6 (some 40) rfl rfl (by kernel_rfl) (by kernel_rfl) (by kernel_rfl) (by rfl) HS9.out (fun w hw => by go_simp) ?_
        simp only [Act.put, List.setIfInBounds_toArray, List.set_cons_zero, List.set_cons_succ]
        refine reg_take (v := .pointer (some ⟨g9, 1, none⟩)) 7 (some 41) rfl rfl (by kernel_rfl) (by kernel_rfl) (by kernel_rfl) (by rfl) HS9.out (fun w hw => by go_simp) ?_
        simp only [Act.put, List.setIfInBounds_toArray, List.set_cons_zero, List.set_cons_succ]
        refine reg_take (v := .int .i64 x.i) 8 (some 42) rfl rfl (by kernel_rfl) (by kernel_rfl) (by kernel_rfl) (by rfl) HS9.out (fun w hw => by have hc := (call_c x hw).2.1; go_simp) ?_
        simp only [Act.put, List.setIfInBounds_toArray, List.set_cons_zero, List.set_cons_succ]
        refine reg_take (v := .pointer (some ⟨g9, 2, none⟩)) 9 (some 43) rfl rfl (by kernel_rfl) (by kernel_rfl) (by kernel_rfl) (by rfl) HS9.out (fun w hw => by go_simp) ?_
        simp only [Act.put, List.setIfInBounds_toArray, List.set_cons_zero, List.set_cons_succ]
        refine reg_take (v := .slice x.A x.n x.c) 10 (some 44) rfl rfl (by kernel_rfl) (by kernel_rfl) (by kernel_rfl) (by rfl) HS9.out (fun w hw => by have hc := (call_c x hw).2.2.1; go_simp) ?_
        simp only [Act.put, List.setIfInBounds_toArray, List.set_cons_zero, List.set_cons_succ]
        refine reg_call 5 (some 39) rfl rfl (by kernel_rfl) (by rfl) _ _ (exec_func 11 _ _ [.pointer (some ⟨ga, 0, none⟩), .int .i64 x.i, .slice x.A x.n x.c] rfl (by kernel_rfl) rfl) ?_
        refine (write_any D x.i x.A x.n x.c x.l ga Na Sa Wa ca wd HD9.out.da HXX.out.1.len (HXX.out.1.row.keep0 HD9.out.k) HXX.out.1.n HWL.out HAC.out HSM.out.fuse HSM.out.keep).mono ?_
        rintro e wA ⟨rfl, zA⟩
        obtain ⟨Wa2, ca2, hTA⟩ := HD9.out.turn zA
        have HTA := Lib.hid hTA
        obtain ⟨_, _, _, kzA, _⟩ := zA
        have HSA := Lib.hid (HS9.out.keep kzA HF9.out.1)
        clear hTA kzA
        refine ⟨_, rfl, HSA.out, fun _ => ?_⟩
        simp only [Act.put, List.setIfInBounds_toArray, List.set_cons_zero, List.set_cons_succ]
        refine reg_call 11 (some 45) rfl rfl (by kernel_rfl) (by rfl) _ _ (exec_func 11 _ _ [.pointer (some ⟨gb, 0, none⟩), .int .i64 x.i, .slice x.A x.n x.c] rfl (by kernel_rfl) rfl) ?_
        refine (write_any D x.i x.A x.n x.c x.l gb Nb Sb Wb cb wA HTA.out.db HXX.out.1.len (HXX.out.1.row.keep0 HTA.out.k) HXX.out.1.n HWL.out HAC.out HSM.out.fuse HSM.out.keep).mono ?_
        rintro e wk ⟨rfl, zB⟩
        obtain ⟨Wb2, cb2, hTB⟩ := HTA.out.turn2 zB
        obtain ⟨_, _, _, kzB, _⟩ := zB
        have HSB := Lib.hid (HSA.out.keep kzB HF9.out.2)
        clear kzB
        rw [← HST.out] at hTB
        have HTK := Lib.hid hTB
        clear hTB
        refine ⟨_, rfl, HSB.out, fun _ => ?_⟩
        simp only [Act.put, List.setIfInBounds_toArray, List.set_cons_zero, List.set_cons_succ]
        refine reg_take (v := .bool false) 12 (some 46) rfl rfl (by kernel_rfl) (by kernel_rfl) (by kernel_rfl) (by rfl) HSB.out (fun w hw => by go_simp) ?_
        simp only [Act.put, List.setIfInBounds_toArray, List.set_cons_zero, List.set_cons_succ]
        refine reg_end (by kernel_rfl) ?_
        go_wp2
      case' inr.inl =>
        have HST := Lib.hid (st2 D x hkd)
        have t0 : (x.kind == 0) = false := beq_eq_false_iff_ne.2 (by omega)
        have t2 : (x.kind == 2) = true := beq_iff_eq.2 hkd
        clear hkd
        go_wp2_with (first
          | (refine wpList_load_mid rfl 44 (.tmp 28) rfl b (o + k * 4) rfl x.cells _ HRG.out call_under rfl (call_size x) ?_)
          | (refine wpList_store_new rfl 44 (.tmp 9) (.tmp 29) rfl _ x.cells rfl rfl rfl (call_size x) x.one ?_
             intro w9 hB9 k9 z9
             obtain ⟨g9, hg9⟩ : ∃ g, g = wr.heap.size := ⟨_, rfl⟩
             rw [← hg9] at hB9 ⊢
             have HB9 := Lib.hid hB9
             have HT9 := Lib.hid (HT.out.keep0 k9)
             have HF9 := Lib.hid (HT.out.far g9 (by omega))
             obtain ⟨c0, c1, c2, c3⟩ := call_c x hB9
             clear hB9 k9 z9 hg9))
        refine (sync_any D ga Na Sa Wa ca w9 HT9.out.da (Nat.le_succ_of_le HWL.out) HAC.out HSM.out.fuse HSM.out.keep).mono ?_
        rintro e wA ⟨rfl, zA⟩
        obtain ⟨Wa2, ca2, hTA⟩ := HT9.out.turn zA
        have HTA := Lib.hid hTA
        clear hTA zA c0 c1 c2 c3
        go_wp2_with fail
        refine (sync_any D gb Nb Sb Wb cb wA HTA.out.db (Nat.le_succ_of_le HWL.out) HAC.out HSM.out.fuse HSM.out.keep).mono ?_
        rintro e wk ⟨rfl, zB⟩
        obtain ⟨Wb2, cb2, hTB⟩ := HTA.out.turn2 zB
        rw [← HST.out] at hTB
        have HTK := Lib.hid hTB
        clear hTB zB
        go_wp2
      case' inr.inr.inl =>
        have HST := Lib.hid (st3 D x hkd)
        have t0 : (x.kind == 0) = false := beq_eq_false_iff_ne.2 (by omega)
        have t2 : (x.kind == 2) = false := beq_eq_false_iff_ne.2 (by omega)
        have t3 : (x.kind == 3) = true := beq_iff_eq.2 hkd
        clear hkd
        go_wp2_with (first
          | (refine wpList_load_mid rfl 44 (.tmp 28) rfl b (o + k * 4) rfl x.cells _ HRG.out call_under rfl (call_size x) ?_)
          | (refine wpList_store_new rfl 44 (.tmp 9) (.tmp 29) rfl _ x.cells rfl rfl rfl (call_size x) x.one ?_
             intro w9 hB9 k9 z9
             obtain ⟨g9, hg9⟩ : ∃ g, g = wr.heap.size := ⟨_, rfl⟩
             rw [← hg9] at hB9 ⊢
             have HB9 := Lib.hid hB9
             have HT9 := Lib.hid (HT.out.keep0 k9)
             have HF9 := Lib.hid (HT.out.far g9 (by omega))
             obtain ⟨c0, c1, c2, c3⟩ := call_c x hB9
             clear hB9 k9 z9 hg9))
        refine (off_any D x.K ga Na Sa Wa ca w9 HT9.out.da (Nat.le_succ_of_le HWL.out) HXX.out.1.K).mono ?_
        rintro e wA ⟨rfl, zA⟩
        have zA' := zA
        obtain ⟨Wa2, ca2, hTA⟩ := HT9.out.turn zA'
        have HTA := Lib.hid hTA
        obtain ⟨_, _, _, kzA, _⟩ := zA'
        have HBA := Lib.hid (HB9.out.keep kzA HF9.out.1)
        clear hTA kzA c0 c1 c2 c3
        obtain ⟨c0, c1, c2, c3⟩ := call_c x HBA.out
        go_wp2_with fail
        refine (off_any D x.K gb Nb Sb Wb cb wA HTA.out.db (Nat.le_succ_of_le HWL.out) HXX.out.1.K).mono ?_
        rintro e wk ⟨rfl, zB⟩
        have zB' := zB
        obtain ⟨Wb2, cb2, hTB⟩ := HTA.out.turn2 zB'
        rw [← HST.out] at hTB
        have HTK := Lib.hid hTB
        clear hTB zB zB' c0 c1 c2 c3
        go_wp2
      case' inr.inr.inr.inl =>
        have HST := Lib.hid (st4 D x hkd)
        have t0 : (x.kind == 0) = false := beq_eq_false_iff_ne.2 (by omega)
        have t2 : (x.kind == 2) = false := beq_eq_false_iff_ne.2 (by omega)
        have t3 : (x.kind == 3) = false := beq_eq_false_iff_ne.2 (by omega)
        have t4 : (x.kind == 4) = true := beq_iff_eq.2 hkd
        clear hkd
        go_wp2_with (first
          | (refine wpList_load_mid rfl 44 (.tmp 28) rfl b (o + k * 4) rfl x.cells _ HRG.out call_under rfl (call_size x) ?_)
          | (refine wpList_store_new rfl 44 (.tmp 9) (.tmp 29) rfl _ x.cells rfl rfl rfl (call_size x) x.one ?_
             intro w9 hB9 k9 z9
             obtain ⟨g9, hg9⟩ : ∃ g, g = wr.heap.size := ⟨_, rfl⟩
             rw [← hg9] at hB9 ⊢
             have HB9 := Lib.hid hB9
             have HT9 := Lib.hid (HT.out.keep0 k9)
             have HF9 := Lib.hid (HT.out.far g9 (by omega))
             obtain ⟨c0, c1, c2, c3⟩ := call_c x hB9
             clear hB9 k9 z9 hg9))
        refine (on_any D ga Na Sa Wa ca w9 HT9.out.da).mono ?_
        rintro e wA ⟨rfl, zA⟩
        have zA' := one_z zA.1 zA.2
        obtain ⟨Wa2, ca2, hTA⟩ := HT9.out.turn zA'
        have HTA := Lib.hid hTA
        obtain ⟨_, _, _, kzA, _⟩ := zA'
        have HBA := Lib.hid (HB9.out.keep kzA HF9.out.1)
        clear hTA kzA c0 c1 c2 c3
        obtain ⟨c0, c1, c2, c3⟩ := call_c x HBA.out
        go_wp2_with fail
        refine (on_any D gb Nb Sb Wb cb wA HTA.out.db).mono ?_
        rintro e wk ⟨rfl, zB⟩
        have zB' := one_z zB.1 zB.2
        obtain ⟨Wb2, cb2, hTB⟩ := HTA.out.turn2 zB'
        rw [← HST.out] at hTB
        have HTK := Lib.hid hTB
        clear hTB zB zB' c0 c1 c2 c3
        go_wp2
      case' inr.inr.inr.inr.inl =>
        have HST := Lib.hid (st5 D x hkd)
        have t0 : (x.kind == 0) = false := beq_eq_false_iff_ne.2 (by omega)
        have t2 : (x.kind == 2) = false := beq_eq_false_iff_ne.2 (by omega)
        have t3 : (x.kind == 3) = false := beq_eq_false_iff_ne.2 (by omega)
        have t4 : (x.kind == 4) = false := beq_eq_false_iff_ne.2 (by omega)
        have t5 : (x.kind == 5) = true := beq_iff_eq.2 hkd
        clear hkd
        go_wp2_with (first
          | (refine wpList_load_mid rfl 44 (.tmp 28) rfl b (o + k * 4) rfl x.cells _ HRG.out call_under rfl (call_size x) ?_)
          | (refine wpList_store_new rfl 44 (.tmp 9) (.tmp 29) rfl _ x.cells rfl rfl rfl (call_size x) x.one ?_
             intro w9 hB9 k9 z9
             obtain ⟨g9, hg9⟩ : ∃ g, g = wr.heap.size := ⟨_, rfl⟩
             rw [← hg9] at hB9 ⊢
             have HB9 := Lib.hid hB9
             have HT9 := Lib.hid (HT.out.keep0 k9)
             have HF9 := Lib.hid (HT.out.far g9 (by omega))
             obtain ⟨c0, c1, c2, c3⟩ := call_c x hB9
             clear hB9 k9 z9 hg9))
        refine (arm_any D x.i x.K ga Na Sa Wa ca w9 HT9.out.da).mono ?_
        rintro e wA ⟨rfl, zA⟩
        have zA' := one_z zA.1 zA.2
        obtain ⟨Wa2, ca2, hTA⟩ := HT9.out.turn zA'
        have HTA := Lib.hid hTA
        obtain ⟨_, _, _, kzA, _⟩ := zA'
        have HBA := Lib.hid (HB9.out.keep kzA HF9.out.1)
        clear hTA kzA c0 c1 c2 c3
        obtain ⟨c0, c1, c2, c3⟩ := call_c x HBA.out
        go_wp2_with fail
        refine (arm_any D x.i x.K gb Nb Sb Wb cb wA HTA.out.db).mono ?_
        rintro e wk ⟨rfl, zB⟩
        have zB' := one_z zB.1 zB.2
        obtain ⟨Wb2, cb2, hTB⟩ := HTA.out.turn2 zB'
        rw [← HST.out] at hTB
        have HTK := Lib.hid hTB
        clear hTB zB zB' c0 c1 c2 c3
        go_wp2
      case' inr.inr.inr.inr.inr.inl =>
        have HST := Lib.hid (st6 D x hkd)
        have t0 : (x.kind == 0) = false := beq_eq_false_iff_ne.2 (by omega)
        have t2 : (x.kind == 2) = false := beq_eq_false_iff_ne.2 (by omega)
        have t3 : (x.kind == 3) = false := beq_eq_false_iff_ne.2 (by omega)
        have t4 : (x.kind == 4) = false := beq_eq_false_iff_ne.2 (by omega)
        have t5 : (x.kind == 5) = false := beq_eq_false_iff_ne.2 (by omega)
        have t6 : (x.kind == 6) = true := beq_iff_eq.2 hkd
        clear hkd
        go_wp2_with (first
          | (refine wpList_load_mid rfl 44 (.tmp 28) rfl b (o + k * 4) rfl x.cells _ HRG.out call_under rfl (call_size x) ?_)
          | (refine wpList_store_new rfl 44 (.tmp 9) (.tmp 29) rfl _ x.cells rfl rfl rfl (call_size x) x.one ?_
             intro w9 hB9 k9 z9
             obtain ⟨g9, hg9⟩ : ∃ g, g = wr.heap.size := ⟨_, rfl⟩
             rw [← hg9] at hB9 ⊢
             have HB9 := Lib.hid hB9
             have HT9 := Lib.hid (HT.out.keep0 k9)
             have HF9 := Lib.hid (HT.out.far g9 (by omega))
             obtain ⟨c0, c1, c2, c3⟩ := call_c x hB9
             clear hB9 k9 z9 hg9))
        have HS9 := Lib.hid (HB9.out.keep (Kp.refl nob w9).drew (fun e => e))
        have HD9 := Lib.hid (HT9.out.keep0 (Kp.refl nob w9).drew)
        refine reg_begin (fun w' => Blk w' g9 44 x.cells) (by kernel_rfl) HS9.out (fun _ => ?_)
        generalize w9.drew = wd at *
        clear c0 c1 c2 c3
        refine reg_take (v := .pointer (some ⟨ga, 0, none⟩)) 0 (some 86) rfl rfl (by kernel_rfl) (by kernel_rfl) (by kernel_rfl) (by rfl) HS9.out (fun w hw => by go_simp) ?_
        simp only [Act.put, List.setIfInBounds_toArray, List.set_cons_zero, List.set_cons_succ]
        refine reg_take (v := .pointer (some ⟨g9, 1, none⟩)) 1 (some 87) rfl rfl (by kernel_rfl) (by kernel_rfl) (by kernel_rfl) (by rfl) HS9.out (fun w hw => by go_simp) ?_
        simp only [Act.put, List.setIfInBounds_toArray, List.set_cons_zero, List.set_cons_succ]
        refine reg_take (v := .int .i64 x.i) 2 (some 88) rfl rfl (by kernel_rfl) (by kernel_rfl) (by kernel_rfl) (by rfl) HS9.out (fun w hw => by have hc := (call_c x hw).2.1; go_simp) ?_
        simp only [Act.put, List.setIfInBounds_toArray, List.set_cons_zero, List.set_cons_succ]
        refine reg_take (v := .pointer (some ⟨g9, 2, none⟩)) 3 (some 89) rfl rfl (by kernel_rfl) (by kernel_rfl) (by kernel_rfl) (by rfl) HS9.out (fun w hw => by go_simp) ?_
        simp only [Act.put, List.setIfInBounds_toArray, List.set_cons_zero, List.set_cons_succ]
        refine reg_take (v := .slice x.A x.n x.c) 4 (some 90) rfl rfl (by kernel_rfl) (by kernel_rfl) (by kernel_rfl) (by rfl) HS9.out (fun w hw => by have hc := (call_c x hw).2.2.1; go_simp) ?_
        simp only [Act.put, List.setIfInBounds_toArray, List.set_cons_zero, List.set_cons_succ]
        refine reg_take (v := .pointer (some ⟨gb, 0, none⟩)) 6 (some 92) rfl rfl (by kernel_rfl) (by kernel_rfl) (by kernel_rfl) (by rfl) HS9.out (fun w hw => by go_simp) ?_
        simp only [Act.put, List.setIfInBounds_toArray, List.set_cons_zero, List.set_cons_succ]
        refine reg_take (v := .pointer (some ⟨g9, 1, none⟩)) 7 (some 93) rfl rfl (by kernel_rfl) (by kernel_rfl) (by kernel_rfl) (by rfl) HS9.out (fun w hw => by go_simp) ?_
        simp only [Act.put, List.setIfInBounds_toArray, List.set_cons_zero, List.set_cons_succ]
        refine reg_take (v := .int .i64 x.i) 8 (some 94) rfl rfl (by kernel_rfl) (by kernel_rfl) (by kernel_rfl) (by rfl) HS9.out (fun w hw => by have hc := (call_c x hw).2.1; go_simp) ?_
        simp only [Act.put, List.setIfInBounds_toArray, List.set_cons_zero, List.set_cons_succ]
        refine reg_take (v := .pointer (some ⟨g9, 2, none⟩)) 9 (some 95) rfl rfl (by kernel_rfl) (by kernel_rfl) (by kernel_rfl) (by rfl) HS9.out (fun w hw => by go_simp) ?_
        simp only [Act.put, List.setIfInBounds_toArray, List.set_cons_zero, List.set_cons_succ]
        refine reg_take (v := .slice x.A x.n x.c) 10 (some 96) rfl rfl (by kernel_rfl) (by kernel_rfl) (by kernel_rfl) (by rfl) HS9.out (fun w hw => by have hc := (call_c x hw).2.2.1; go_simp) ?_
        simp only [Act.put, List.setIfInBounds_toArray, List.set_cons_zero, List.set_cons_succ]
        refine reg_call 5 (some 91) rfl rfl (by kernel_rfl) (by rfl) _ _ (exec_func 20 _ _ [.pointer (some ⟨ga, 0, none⟩), .int .i64 x.i, .slice x.A x.n x.c] rfl (by kernel_rfl) rfl) ?_
        refine (forge_any D x.i x.A x.n x.c x.l ga Na Sa Wa ca wd HD9.out.da HXX.out.1.len (HXX.out.1.row.keep0 HD9.out.k) HXX.out.1.n (Nat.le_succ_of_le HWL.out)).mono ?_
        rintro e wA ⟨rfl, zA⟩
        obtain ⟨Wa2, ca2, hTA⟩ := HD9.out.turn zA
        have HTA := Lib.hid hTA
        obtain ⟨_, _, _, kzA, _⟩ := zA
        have HSA := Lib.hid (HS9.out.keep kzA HF9.out.1)
        clear hTA kzA
        refine ⟨_, rfl, HSA.out, fun _ => ?_⟩
        simp only [Act.put, List.setIfInBounds_toArray, List.set_cons_zero, List.set_cons_succ]
        refine reg_call 11 (some 97) rfl rfl (by kernel_rfl) (by rfl) _ _ (exec_func 20 _ _ [.pointer (some ⟨gb, 0, none⟩), .int .i64 x.i, .slice x.A x.n x.c] rfl (by kernel_rfl) rfl) ?_
        refine (forge_any D x.i x.A x.n x.c x.l gb Nb Sb Wb cb wA HTA.out.db HXX.out.1.len (HXX.out.1.row.keep0 HTA.out.k) HXX.out.1.n (Nat.le_succ_of_le HWL.out)).mono ?_
        rintro e wk ⟨rfl, zB⟩
        obtain ⟨Wb2, cb2, hTB⟩ := HTA.out.turn2 zB
        obtain ⟨_, _, _, kzB, _⟩ := zB
        have HSB := Lib.hid (HSA.out.keep kzB HF9.out.2)
        clear kzB
        rw [← HST.out] at hTB
        have HTK := Lib.hid hTB
        clear hTB
        refine ⟨_, rfl, HSB.out, fun _ => ?_⟩
        simp only [Act.put, List.setIfInBounds_toArray, List.set_cons_zero, List.set_cons_succ]
        refine reg_take (v := .bool false) 12 (some 98) rfl rfl (by kernel_rfl) (by kernel_rfl) (by kernel_rfl) (by rfl) HSB.out (fun w hw => by go_simp) ?_
        simp only [Act.put, List.setIfInBounds_toArray, List.set_cons_zero, List.set_cons_succ]
        refine reg_end (by kernel_rfl) ?_
        go_wp2
      case' inr.inr.inr.inr.inr.inr =>
        have HST := Lib.hid (st7 D x hkd)
        have t0 : (x.kind == 0) = false := beq_eq_false_iff_ne.2 (by omega)
        have t2 : (x.kind == 2) = false := beq_eq_false_iff_ne.2 (by omega)
        have t3 : (x.kind == 3) = false := beq_eq_false_iff_ne.2 (by omega)
        have t4 : (x.kind == 4) = false := beq_eq_false_iff_ne.2 (by omega)
        have t5 : (x.kind == 5) = false := beq_eq_false_iff_ne.2 (by omega)
        have t6 : (x.kind == 6) = false := beq_eq_false_iff_ne.2 (by omega)
        clear hkd
        go_wp2_with (first
          | (refine wpList_load_mid rfl 44 (.tmp 28) rfl b (o + k * 4) rfl x.cells _ HRG.out call_under rfl (call_size x) ?_)
          | (refine wpList_store_new rfl 44 (.tmp 9) (.tmp 29) rfl _ x.cells rfl rfl rfl (call_size x) x.one ?_
             intro w9 hB9 k9 z9
             obtain ⟨g9, hg9⟩ : ∃ g, g = wr.heap.size := ⟨_, rfl⟩
             rw [← hg9] at hB9 ⊢
             have HB9 := Lib.hid hB9
             have HT9 := Lib.hid (HT.out.keep0 k9)
             have HF9 := Lib.hid (HT.out.far g9 (by omega))
             obtain ⟨c0, c1, c2, c3⟩ := call_c x hB9
             clear hB9 k9 z9 hg9))
        obtain ⟨wk, hwk⟩ : ∃ wk, wk = w9 := ⟨_, rfl⟩
        rw [← hwk] at HT9 ⊢
        clear c0 c1 c2 c3
        obtain ⟨Wa2, ca2, Wb2, cb2, hT⟩ : ∃ Wa2 ca2 Wb2 cb2, Tw w wk ⟨ga, Na, Sa, Wa2, ca2⟩ ⟨gb, Nb, Sb, Wb2, cb2⟩ ⟨gs, Ns, Ss, none, 0⟩ (stepT D x) (stepT D x) (new m) := ⟨Wa, ca, Wb, cb, by rw [HST.out]; exact HT9.out⟩
        have HTK := Lib.hid hT
        clear hT hwk
      all_goals
        obtain ⟨D2, hD2⟩ : ∃ D2, D2 = stepT D x := ⟨_, rfl⟩
        rw [← hD2] at HTK HS2
        obtain ⟨q, hq⟩ : ∃ q, q = D2.now.length * 256 := ⟨_, rfl⟩
        have HQ := Lib.hid (show (image D2).length = q by rw [image_length D2 HTK.out.da.ok, hq])
        have e1 := neq_self (image D2)
        have HI := Lib.hid (fun (g N S : Nat) (W : Option Addr) (c : Nat) (w : World) (h : Cd w g N S W c D2) => image_any D2 g N S W c w h)
        rw [← hq] at HI
        clear hD2 hq
        have HS0 := Lib.hid (Kp.refl nob wk).drew
        refine reg_begin (fun w' => Kp nob wk w') (by kernel_rfl) HS0.out (fun _ => ?_)
        generalize wk.drew = wd at *
        refine reg_take (v := .pointer (some ⟨ga, 0, none⟩)) 0 (some 99) rfl rfl (by kernel_rfl) (by kernel_rfl) (by kernel_rfl) (by rfl) HS0.out (fun w hw => by go_simp) ?_
        simp only [Act.put, List.setIfInBounds_toArray, List.set_cons_zero, List.set_cons_succ]
        refine reg_take (v := .pointer (some ⟨gb, 0, none⟩)) 3 (some 102) rfl rfl (by kernel_rfl) (by kernel_rfl) (by kernel_rfl) (by rfl) HS0.out (fun w hw => by go_simp) ?_
        simp only [Act.put, List.setIfInBounds_toArray, List.set_cons_zero, List.set_cons_succ]
        refine reg_call 1 (some 100) rfl rfl (by kernel_rfl) (by rfl) _ _ (exec_func 18 _ _ [.pointer (some ⟨ga, 0, none⟩)] rfl (by kernel_rfl) rfl) ?_
        refine (HI.out ga Na Sa Wa2 ca2 wd (HTK.out.keep0 HS0.out).da).mono ?_
        rintro e wi ⟨X, cX, rfl, oX, kX, nX⟩
        have HS1 := Lib.hid (HS0.out.trans kX (fun _ e => e.elim))
        have HOX := Lib.hid (fun (w' : World) (k : Kp nob wi w') => (oX.keep k (fun _ _ e => e)).row)
        clear oX kX nX
        refine ⟨_, rfl, HS1.out, fun _ => ?_⟩
        simp only [Act.put, List.setIfInBounds_toArray, List.set_cons_zero, List.set_cons_succ]
        refine reg_more (fun w' => Kp nob wi w') (fun w' h => HS1.out.trans h (fun _ e => e.elim)) ?_
        have HR1 := Lib.hid (Kp.refl nob wi)
        refine reg_bytesStr 2 (some 101) 32 9 5 (.tmp 100) rfl rfl rfl (by kernel_rfl) (by kernel_rfl) (by kernel_rfl) (by rfl) HR1.out u8s_under u8_under str_under X q cX (image D2) HQ.out rfl HOX.out ?_
        simp only [Act.put, List.setIfInBounds_toArray, List.set_cons_zero, List.set_cons_succ]
        refine reg_call 4 (some 103) rfl rfl (by kernel_rfl) (by rfl) _ _ (exec_func 18 _ _ [.pointer (some ⟨gb, 0, none⟩)] rfl (by kernel_rfl) rfl) ?_
        refine (HI.out gb Nb Sb Wb2 cb2 wi (HTK.out.keep0 HS1.out).db).mono ?_
        rintro e wj ⟨Y, cY, rfl, oY, kY, nY⟩
        have HR2 := Lib.hid kY
        have HS2' := Lib.hid (HS1.out.trans kY (fun _ e => e.elim))
        have HOY := Lib.hid (fun (w' : World) (k : Kp nob wj w') => (oY.keep k (fun _ _ e => e)).row)
        clear oY kY nY
        refine ⟨_, rfl, HR2.out, fun _ => ?_⟩
        simp only [Act.put, List.setIfInBounds_toArray, List.set_cons_zero, List.set_cons_succ]
        refine reg_more (fun w' => Kp nob wj w') (fun w' h => HR2.out.trans h (fun _ e => e.elim)) ?_
        have HR3 := Lib.hid (Kp.refl nob wj)
        refine reg_bytesStr 5 (some 104) 32 9 5 (.tmp 103) rfl rfl rfl (by kernel_rfl) (by kernel_rfl) (by kernel_rfl) (by rfl) HR3.out u8s_under u8_under str_under Y q cY (image D2) HQ.out rfl HOY.out ?_
        simp only [Act.put, List.setIfInBounds_toArray, List.set_cons_zero, List.set_cons_succ]
        refine reg_take (v := .bool false) 6 (some 105) rfl rfl (by kernel_rfl) (by kernel_rfl) (by kernel_rfl) (by rfl) HR3.out (fun w hw => by go_simp) ?_
        simp only [Act.put, List.setIfInBounds_toArray, List.set_cons_zero, List.set_cons_succ]
        refine reg_take (v := .bool false) 7 (some 106) rfl rfl (by kernel_rfl) (by kernel_rfl) (by kernel_rfl) (by rfl) HR3.out (fun w hw => by go_simp) ?_
        simp only [Act.put, List.setIfInBounds_toArray, List.set_cons_zero, List.set_cons_succ]
        refine reg_take (v := .pointer (some ⟨ga, 0, none⟩)) 8 (some 107) rfl rfl (by kernel_rfl) (by kernel_rfl) (by kernel_rfl) (by rfl) HR3.out (fun w hw => by go_simp) ?_
        simp only [Act.put, List.setIfInBounds_toArray, List.set_cons_zero, List.set_cons_succ]
        refine reg_take (v := .pointer (some ⟨gb, 0, none⟩)) 10 (some 109) rfl rfl (by kernel_rfl) (by kernel_rfl) (by kernel_rfl) (by rfl) HR3.out (fun w hw => by go_simp) ?_
        simp only [Act.put, List.setIfInBounds_toArray, List.set_cons_zero, List.set_cons_succ]
        refine reg_call 9 (some 108) rfl rfl (by kernel_rfl) (by rfl) _ _ (exec_func 19 _ _ [.pointer (some ⟨ga, 0, none⟩)] rfl (by kernel_rfl) rfl) ?_
        refine (acts_any D2 ga Na Sa Wa2 ca2 wj (HTK.out.keep0 HS2'.out).da).mono ?_
        rintro e w' ⟨rfl, rfl⟩
        refine ⟨_, rfl, HR3.out, fun _ => ?_⟩
        simp only [Act.put, List.setIfInBounds_toArray, List.set_cons_zero, List.set_cons_succ]
        refine reg_call 11 (some 110) rfl rfl (by kernel_rfl) (by rfl) _ _ (exec_func 19 _ _ [.pointer (some ⟨gb, 0, none⟩)] rfl (by kernel_rfl) rfl) ?_
        refine (acts_any D2 gb Nb Sb Wb2 cb2 wj (HTK.out.keep0 HS2'.out).db).mono ?_
        rintro e w' ⟨rfl, rfl⟩
        refine ⟨_, rfl, HR3.out, fun _ => ?_⟩
        simp only [Act.put, List.setIfInBounds_toArray, List.set_cons_zero, List.set_cons_succ]
        refine reg_take (v := .bool false) 12 (some 111) rfl rfl (by kernel_rfl) (by kernel_rfl) (by kernel_rfl) (by rfl) HR3.out (fun w hw => by go_simp) ?_
        simp only [Act.put, List.setIfInBounds_toArray, List.set_cons_zero, List.set_cons_succ]
        refine reg_take (v := .bool false) 13 (some 112) rfl rfl (by kernel_rfl) (by kernel_rfl) (by kernel_rfl) (by rfl) HR3.out (fun w hw => by go_simp) ?_
        simp only [Act.put, List.setIfInBounds_toArray, List.set_cons_zero, List.set_cons_succ]
        refine reg_take (v := .bool false) 14 (some 113) rfl rfl (by kernel_rfl) (by kernel_rfl) (by kernel_rfl) (by rfl) HR3.out (fun w hw => by go_simp) ?_
        simp only [Act.put, List.setIfInBounds_toArray, List.set_cons_zero, List.set_cons_succ]
        refine reg_take (v := .pointer (some ⟨ga, 0, none⟩)) 15 (some 114) rfl rfl (by kernel_rfl) (by kernel_rfl) (by kernel_rfl) (by rfl) HR3.out (fun w hw => by go_simp) ?_
        simp only [Act.put, List.setIfInBounds_toArray, List.set_cons_zero, List.set_cons_succ]
        refine reg_take (v := .pointer (some ⟨gb, 0, none⟩)) 17 (some 116) rfl rfl (by kernel_rfl) (by kernel_rfl) (by kernel_rfl) (by rfl) HR3.out (fun w hw => by go_simp) ?_
        simp only [Act.put, List.setIfInBounds_toArray, List.set_cons_zero, List.set_cons_succ]
        refine reg_call 16 (some 115) rfl rfl (by kernel_rfl) (by rfl) _ _ (exec_func 22 _ _ [.pointer (some ⟨ga, 0, none⟩)] rfl (by kernel_rfl) rfl) ?_
        refine (down_any D2 ga Na Sa Wa2 ca2 wj (HTK.out.keep0 HS2'.out).da).mono ?_
        rintro e w' ⟨rfl, rfl⟩
        refine ⟨_, rfl, HR3.out, fun _ => ?_⟩
        simp only [Act.put, List.setIfInBounds_toArray, List.set_cons_zero, List.set_cons_succ]
        refine reg_call 18 (some 117) rfl rfl (by kernel_rfl) (by rfl) _ _ (exec_func 22 _ _ [.pointer (some ⟨gb, 0, none⟩)] rfl (by kernel_rfl) rfl) ?_
        refine (down_any D2 gb Nb Sb Wb2 cb2 wj (HTK.out.keep0 HS2'.out).db).mono ?_
        rintro e w' ⟨rfl, rfl⟩
        refine ⟨_, rfl, HR3.out, fun _ => ?_⟩
        simp only [Act.put, List.setIfInBounds_toArray, List.set_cons_zero, List.set_cons_succ]
        refine reg_take (v := .bool false) 19 (some 118) rfl rfl (by kernel_rfl) (by kernel_rfl) (by kernel_rfl) (by rfl) HR3.out (fun w hw => by go_simp) ?_
        simp only [Act.put, List.setIfInBounds_toArray, List.set_cons_zero, List.set_cons_succ]
        refine reg_take (v := .bool false) 20 (some 119) rfl rfl (by kernel_rfl) (by kernel_rfl) (by kernel_rfl) (by rfl) HR3.out (fun w hw => by go_simp) ?_
        simp only [Act.put, List.setIfInBounds_toArray, List.set_cons_zero, List.set_cons_succ]
        refine reg_end (by kernel_rfl) ?_
        obtain ⟨k1, hk1⟩ : ∃ k1, k1 = k + 1 := ⟨_, rfl⟩
        have hk80 := HLK.out
        have hkn := HLT.out
        clear e1
        go_wp2
        refine ⟨⟨k + 1, D2, Wa2, ca2, Wb2, cb2, HLT.out, by go_num, HTK.out.keep0 HS2'.out, HS2.out⟩, by simp [intOf]; omega⟩
    · skip
      obtain rfl : k = n := by omega
      obtain ⟨q, hq⟩ : ∃ q, q = m * 256 := ⟨_, rfl⟩
      have HQ := Lib.hid (show (image (new m)).length = q by rw [image_new, List.length_replicate, hq])
      have HRL := Lib.hid (show (List.replicate q (0 : UInt8)).length = q from List.length_replicate)
      have HIE := Lib.hid (show image (new m) = List.replicate q 0 by rw [image_new, hq])
      have hq2 : q ≤ 1048576 := by have := HM3.out; omega
      have e1 : IntKind.i64.wrap (256 * (m : Int)) = (q : Int) := by have := HM3.out; rw [IntWalk.i64_in _ (by omega)]; omega
      have HE1 := Lib.hid e1
      have e2 := eq_self (List.replicate q (0 : UInt8))
      have HI := Lib.hid (fun (w : World) (h : Cd w gs Ns Ss none 0 (new m)) => image_any (new m) gs Ns Ss none 0 w h)
      rw [new_length', ← hq, HIE.out] at HI
      have HMK := Lib.hid (fun w => make_big q hq2 w)
      clear hlt hk hq hq2 e1
      go_wp2
      have HS0 := Lib.hid (Kp.refl nob wr).drew
      refine reg_begin (fun w' => Kp nob wr w') (by kernel_rfl) HS0.out (fun _ => ?_)
      generalize wr.drew = wd at *
      refine reg_take (v := .pointer (some ⟨gs, 0, none⟩)) 0 (some 121) rfl rfl (by kernel_rfl) (by kernel_rfl) (by kernel_rfl) (by rfl) HS0.out (fun w hw => by go_simp) ?_
      simp only [Act.put, List.setIfInBounds_toArray, List.set_cons_zero, List.set_cons_succ]
      refine reg_call 1 (some 122) rfl rfl (by kernel_rfl) (by rfl) _ _ (exec_func 19 _ _ [.pointer (some ⟨gs, 0, none⟩)] rfl (by kernel_rfl) rfl) ?_
      refine (acts_any (new m) gs Ns Ss none 0 wd (HT.out.keep0 HS0.out).ds).mono ?_
      rintro e w' ⟨rfl, rfl⟩
      refine ⟨_, rfl, HS0.out, fun _ => ?_⟩
      simp only [Act.put, List.setIfInBounds_toArray, List.set_cons_zero, List.set_cons_succ]
      refine reg_take (v := .bool true) 2 (some 123) rfl rfl (by kernel_rfl) (by kernel_rfl) (by kernel_rfl) (by rfl) HS0.out (fun w hw => by kernel_rfl) ?_
      simp only [Act.put, List.setIfInBounds_toArray, List.set_cons_zero, List.set_cons_succ]
      refine reg_take (v := .bool true) 3 (some 124) rfl rfl (by kernel_rfl) (by kernel_rfl) (by kernel_rfl) (by rfl) HS0.out (fun w hw => by go_simp) ?_
      simp only [Act.put, List.setIfInBounds_toArray, List.set_cons_zero, List.set_cons_succ]
      refine reg_take (v := .pointer (some ⟨gs, 0, none⟩)) 4 (some 125) rfl rfl (by kernel_rfl) (by kernel_rfl) (by kernel_rfl) (by rfl) HS0.out (fun w hw => by go_simp) ?_
      simp only [Act.put, List.setIfInBounds_toArray, List.set_cons_zero, List.set_cons_succ]
      refine reg_take (v := .pointer (some ⟨gs, 0, none⟩)) 7 (some 128) rfl rfl (by kernel_rfl) (by kernel_rfl) (by kernel_rfl) (by rfl) HS0.out (fun w hw => by go_simp) ?_
      simp only [Act.put, List.setIfInBounds_toArray, List.set_cons_zero, List.set_cons_succ]
      refine reg_call 5 (some 126) rfl rfl (by kernel_rfl) (by rfl) _ _ (exec_func 18 _ _ [.pointer (some ⟨gs, 0, none⟩)] rfl (by kernel_rfl) rfl) ?_
      refine (HI.out wd (HT.out.keep0 HS0.out).ds).mono ?_
      rintro e wi ⟨X, cX, rfl, oX, kX, nX⟩
      have HS1 := Lib.hid (HS0.out.trans kX (fun _ e => e.elim))
      have HOX := Lib.hid (fun (w' : World) (k : Kp nob wi w') => (oX.keep k (fun _ _ e => e)).row)
      clear oX kX nX
      refine ⟨_, rfl, HS1.out, fun _ => ?_⟩
      simp only [Act.put, List.setIfInBounds_toArray, List.set_cons_zero, List.set_cons_succ]
      refine reg_more (fun w' => Kp nob wi w') (fun w' h => HS1.out.trans h (fun _ e => e.elim)) ?_
      have HR1 := Lib.hid (Kp.refl nob wi)
      refine reg_bytesStr 6 (some 127) 32 9 5 (.tmp 126) rfl rfl rfl (by kernel_rfl) (by kernel_rfl) (by kernel_rfl) (by rfl) HR1.out u8s_under u8_under str_under X q cX (List.replicate q 0) HRL.out rfl HOX.out ?_
      simp only [Act.put, List.setIfInBounds_toArray, List.set_cons_zero, List.set_cons_succ]
      refine reg_call 8 (some 129) rfl rfl (by kernel_rfl) (by rfl) _ _ (exec_func 21 _ _ [.pointer (some ⟨gs, 0, none⟩)] rfl (by kernel_rfl) rfl) ?_
      refine (size_any (new m) gs Ns Ss none 0 wi (HT.out.keep0 HS1.out).ds).mono ?_
      rintro e w' ⟨rfl, rfl⟩
      rw [new_length']
      refine ⟨_, rfl, HR1.out, fun _ => ?_⟩
      simp only [Act.put, List.setIfInBounds_toArray, List.set_cons_zero, List.set_cons_succ]
      refine reg_take (v := .int .i64 (q : Int)) 9 (some 130) rfl rfl (by kernel_rfl) (by kernel_rfl) (by kernel_rfl) (by rfl) HR1.out (fun w hw => by have e1 := HE1.out; go_simp) ?_
      simp only [Act.put, List.setIfInBounds_toArray, List.set_cons_zero, List.set_cons_succ]
      have HK2 := Lib.hid ((Kp.refl nob wi).alloc (.cells (bvs (List.replicate q 0)).toArray 5))
      have HRW := Lib.hid (row_new wi (bvs (List.replicate q 0)) 5)
      refine reg_step (v := .slice (some ⟨wi.heap.size, 0, none⟩) q q) (w' := wi.alloc (.cells (bvs (List.replicate q 0)).toArray 5)) 10 (some 131) rfl rfl (by kernel_rfl) (by rfl) (by have hmk := HMK.out wi; go_simp) HK2.out (fun _ => ?_)
      simp only [Act.put, List.setIfInBounds_toArray, List.set_cons_zero, List.set_cons_succ]
      obtain ⟨gz, hgz⟩ : ∃ gz, gz = wi.heap.size := ⟨_, rfl⟩
      rw [← hgz] at HRW ⊢
      generalize wi.alloc (.cells (bvs (List.replicate q 0)).toArray 5) = wz at *
      refine reg_more (fun w' => Kp nob wz w') (fun w' h => HK2.out.trans h (fun _ e => e.elim)) ?_
      have HR2 := Lib.hid (Kp.refl nob wz)
      refine reg_bytesStr 11 (some 132) 32 9 5 (.tmp 131) rfl rfl rfl (by kernel_rfl) (by kernel_rfl) (by kernel_rfl) (by rfl) HR2.out u8s_under u8_under str_under (some ⟨gz, 0, none⟩) q q (List.replicate q 0) HRL.out rfl (fun w h => HRW.out.keep0 h) ?_
      simp only [Act.put, List.setIfInBounds_toArray, List.set_cons_zero, List.set_cons_succ]
      refine reg_take (v := .bool true) 12 (some 133) rfl rfl (by kernel_rfl) (by kernel_rfl) (by kernel_rfl) (by rfl) HR2.out (fun w hw => by go_simp) ?_
      simp only [Act.put, List.setIfInBounds_toArray, List.set_cons_zero, List.set_cons_succ]
      refine reg_take (v := .bool true) 13 (some 134) rfl rfl (by kernel_rfl) (by kernel_rfl) (by kernel_rfl) (by rfl) HR2.out (fun w hw => by go_simp) ?_
      simp only [Act.put, List.setIfInBounds_toArray, List.set_cons_zero, List.set_cons_succ]
      refine reg_take (v := .bool true) 14 (some 4) rfl rfl (by kernel_rfl) (by kernel_rfl) (by kernel_rfl) (by rfl) HR2.out (fun w hw => by go_simp) ?_
      simp only [Act.put, List.setIfInBounds_toArray, List.set_cons_zero, List.set_cons_succ]
      refine reg_end (by kernel_rfl) ?_
      go_wp2
      go_ret
      exact ⟨rfl, (HT.out.k.trans HS1.out (fun _ e => e.elim)).trans HK2.out (fun _ e => e.elim)⟩
end Go.Proofs.Ytfbdjjcnibgjnaa.Disk
