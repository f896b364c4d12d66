/- DiskForges: what somebody writes is there at once, and behind every loss of power; nothing else is turned by it. -/
import Derived.Test.YtfbdjjcnibgjnaaDskO
namespace Go.Proofs.Ytfbdjjcnibgjnaa.Disk
set_option linter.unusedVariables false
set_option linter.unusedSimpArgs false
open Go Go.RowKit Kit
theorem f_eq_self (l : List UInt8) : ((str l).toList == (str l).toList) = true := by simp
theorem f_call_c (x : Cc) {w : World} {g : Nat} (h : Blk w g 44 x.cells) : w.cell? ⟨g, 0, none⟩ = some (.int .i64 x.kind) ∧ w.cell? ⟨g, 1, none⟩ = some (.int .i64 x.i) ∧ w.cell? ⟨g, 2, none⟩ = some (.slice x.A x.n x.c) ∧ w.cell? ⟨g, 3, none⟩ = some (.int .u64 (x.K : Int)) := ⟨h.cell 0, h.cell 1, h.cell 2, h.cell 3⟩
theorem on_lose_off (D : Dk) (K : Nat) : (on (lose D K)).off = false := rfl
set_option maxHeartbeats 8000000 in
set_option maxRecDepth 100000 in
theorem forges_yes (nn : Int) (A : Option Addr) (n c : Nat) (cs : List Cc) (p : Nat) (B : Option Addr) (m d : Nat) (bl : List UInt8) (K : Nat) (w : World) (hn : cs.length = n) (hr : Row w A (cs.flatMap Cc.cells)) (hx : ∀ x ∈ cs, CcOk w x ∧ x.i ≤ 9223372036854775807) (hm : n ≤ maxLen) (hg : greatB cs = false)
    (h1 : 1 ≤ nn) (h20 : nn ≤ 20) (hp : (p : Int) < nn) (hbl : bl.length = m) (hrb : Row w B (bvs bl)) (hm2 : m ≤ 256) (hK : K < 18446744073709551616) :
    Calls Try.prog 4 #[.int .i64 nn, .slice A n c, .int .i64 (p : Int), .slice B m d, .int .u64 (K : Int)] w fun e w' => e = .returned (.bool true) ∧ Kp nob w w' := by
  have HGR := Lib.hid (fun (w' : World) (k : Kp nob w w') => great_any A n c cs w' hn (hr.keep0 k) (fun x h => (hx x h).1.n) hm)
  rw [hg] at HGR
  have HN := Lib.hid hn; have HR := Lib.hid hr; have HX := Lib.hid hx
  have hlen : n ≤ 80 := by
    unfold greatB at hg
    simp only [Bool.or_eq_false_iff, decide_eq_false_iff_not] at hg
    omega
  obtain ⟨mm, hmm⟩ : ∃ mm, mm = clamp nn := ⟨_, rfl⟩
  have hm3 : (mm : Int) = nn := by rw [hmm]; unfold clamp; omega
  have HNW := Lib.hid (fun w => new_any nn w)
  rw [← hmm] at HNW
  have d1 : decide (nn < 1) = false := decide_eq_false (by omega)
  have d2 : decide ((20 : Int) < nn) = false := decide_eq_false (by omega)
  have d4 : decide (nn ≤ (p : Int)) = false := decide_eq_false (by omega)
  have d5 : decide ((256 : Int) < (m : Int)) = false := by simp; omega
  have HM3 := Lib.hid (show mm ≤ 20 by omega); have HLEN := Lib.hid hlen
  have HPM := Lib.hid (show p < mm by omega)
  have HBL := Lib.hid hbl; have HRB := Lib.hid hrb; have HM2 := Lib.hid hm2; have HK := Lib.hid hK
  clear hn hr hx hm hg h20 hmm hm3 h1 hp hbl hrb hm2 hK
  go_enter Try.func4, Try.ntmps4
  go_wp2_with fail
  refine (alive_yes w).mono ?_
  rintro e w1 ⟨rfl, k1⟩
  have K1 := Lib.hid k1
  go_wp2_with fail
  refine (HGR.out w1 K1.out).mono ?_
  rintro e w2 ⟨rfl, k2⟩
  have K2' := Lib.hid (K1.out.trans k2 (fun _ e => e.elim))
  clear k1 k2
  go_wp2_with fail
  refine (HNW.out w2).mono ?_
  rintro e w3 ⟨g, N, S, rfl, ha, ka, na⟩
  have HF0 := Lib.hid (show Fo w w3 g N S none 0 (new mm) from ⟨ha, fun k e => Nat.le_trans K2'.out.size (na k e), K2'.out.trans ka (fun _ e => e.elim)⟩)
  clear ha ka na d1 d2 d4 d5
  go_wp2
  go_loopw [51] (fun vi wr => ∃ (k : Nat) (D : Dk) (W : Option Addr) (cW : Nat), k ≤ n ∧ vi = .int .i64 k ∧ Fo w wr g N S W cW D ∧ Sm D k mm ∧ Qt D)
    (fun vi _ => n - (intOf vi).toNat)
  case atStart => exact ⟨0, new mm, none, 0, Nat.zero_le _, rfl, HF0.out, ⟨Nat.zero_le _, Nat.zero_le _, (show (0 : Nat) ≤ 9223372036854775807 by decide), (show (0 : Nat) < 18446744073709551616 by decide), new_length' mm⟩, ⟨rfl, rfl⟩⟩
  case round =>
    obtain ⟨k, D, W, cW, hk, rfl, ht, hsm, hqt⟩ := hrel
    have HT := Lib.hid ht; have HSM := Lib.hid hsm; have HQT := Lib.hid hqt
    clear ht hsm hqt
    by_cases hlt : k < n
    · obtain ⟨x, hx⟩ : ∃ x, cs[k]? = some x := ⟨_, List.getElem?_eq_getElem (by rw [HN.out]; exact hlt)⟩
      obtain ⟨b, o, rfl, hrg⟩ := ccs_at (HR.out.keep0 HT.out.k) k x hx
      have HRG := Lib.hid hrg
      have HXX := Lib.hid (HX.out x (List.mem_of_getElem? hx))
      have HS2 := Lib.hid (HSM.out.stepF (x := x) HT.out.d.ok)
      have HQ2 := Lib.hid (HQT.out.step x)
      have HLT := Lib.hid hlt
      have HWL := Lib.hid (show D.waits.length ≤ 99999 by have := HSM.out.waits; have := HLEN.out; omega)
      have HAC := Lib.hid (show D.acts ≤ 1000000000000 by have := HSM.out.acts; have := HLEN.out; omega)
      have HLK := Lib.hid (show k ≤ 80 by have := HLEN.out; omega)
      clear hx hrg hlt hk
      rcases kindf x.kind with hkd | hkd | hkd | hkd
      · have HST := Lib.hid (sf0 D x hkd)
        have t0 : (x.kind == 0) = true := beq_iff_eq.2 hkd
        clear hkd
        go_wp2_with (first
          | (refine wpList_load_mid rfl 44 (.tmp 53) rfl b (o + k * 4) rfl x.cells _ HRG.out call_under rfl (call_size x) ?_)
          | (refine wpList_store_new rfl 44 (.tmp 13) (.tmp 54) rfl _ x.cells rfl rfl rfl (call_size x) x.one ?_
             intro w9 hB9 k9 z9
             obtain ⟨g9, hg9⟩ : ∃ g, g = wr.heap.size := ⟨_, rfl⟩
             rw [← hg9] at hB9 ⊢
             have HT9 := Lib.hid (HT.out.keep0 k9)
             obtain ⟨c0, c1, c2, c3⟩ := f_call_c x hB9
             clear hB9 k9 z9 hg9))
        refine (write_any D x.i x.A x.n x.c x.l g N S W cW w9 HT9.out.d HXX.out.1.len (HXX.out.1.row.keep0 HT9.out.k) HXX.out.1.n HWL.out HAC.out HSM.out.fuse HSM.out.keep).mono ?_
        rintro e wk ⟨rfl, zA⟩
        obtain ⟨W2, cW2, hT⟩ := HT9.out.turn zA
        clear c0 c1 c2 c3
        rw [← HST.out] at hT
        have HTK := Lib.hid hT
        clear hT zA
        have hk80 := HLK.out
        have hkn := HLT.out
        go_wp2
        refine ⟨⟨k + 1, stepF D x, W2, cW2, HLT.out, by go_num, HTK.out, HS2.out, HQ2.out⟩, by simp [intOf]; omega⟩
      · have HST := Lib.hid (sf2 D x hkd)
        have t0 : (x.kind == 0) = false := beq_eq_false_iff_ne.2 (by omega)
        have t2 : (x.kind == 2) = true := beq_iff_eq.2 hkd
        clear hkd
        go_wp2_with (first
          | (refine wpList_load_mid rfl 44 (.tmp 53) rfl b (o + k * 4) rfl x.cells _ HRG.out call_under rfl (call_size x) ?_)
          | (refine wpList_store_new rfl 44 (.tmp 13) (.tmp 54) rfl _ x.cells rfl rfl rfl (call_size x) x.one ?_
             intro w9 hB9 k9 z9
             obtain ⟨g9, hg9⟩ : ∃ g, g = wr.heap.size := ⟨_, rfl⟩
             rw [← hg9] at hB9 ⊢
             have HT9 := Lib.hid (HT.out.keep0 k9)
             obtain ⟨c0, c1, c2, c3⟩ := f_call_c x hB9
             clear hB9 k9 z9 hg9))
        refine (sync_any D g N S W cW w9 HT9.out.d (Nat.le_succ_of_le HWL.out) HAC.out HSM.out.fuse HSM.out.keep).mono ?_
        rintro e wk ⟨rfl, zA⟩
        obtain ⟨W2, cW2, hT⟩ := HT9.out.turn zA
        clear c0 c1 c2 c3
        rw [← HST.out] at hT
        have HTK := Lib.hid hT
        clear hT zA
        have hk80 := HLK.out
        have hkn := HLT.out
        go_wp2
        refine ⟨⟨k + 1, stepF D x, W2, cW2, HLT.out, by go_num, HTK.out, HS2.out, HQ2.out⟩, by simp [intOf]; omega⟩
      · have HST := Lib.hid (sf3 D x hkd)
        have t0 : (x.kind == 0) = false := beq_eq_false_iff_ne.2 (by omega)
        have t2 : (x.kind == 2) = false := beq_eq_false_iff_ne.2 (by omega)
        have t3 : (x.kind == 3) = true := beq_iff_eq.2 hkd
        clear hkd
        go_wp2_with (first
          | (refine wpList_load_mid rfl 44 (.tmp 53) rfl b (o + k * 4) rfl x.cells _ HRG.out call_under rfl (call_size x) ?_)
          | (refine wpList_store_new rfl 44 (.tmp 13) (.tmp 54) rfl _ x.cells rfl rfl rfl (call_size x) x.one ?_
             intro w9 hB9 k9 z9
             obtain ⟨g9, hg9⟩ : ∃ g, g = wr.heap.size := ⟨_, rfl⟩
             rw [← hg9] at hB9 ⊢
             have HT9 := Lib.hid (HT.out.keep0 k9)
             obtain ⟨c0, c1, c2, c3⟩ := f_call_c x hB9
             clear hB9 k9 z9 hg9))
        refine (off_any D x.K g N S W cW w9 HT9.out.d (Nat.le_succ_of_le HWL.out) HXX.out.1.K).mono ?_
        rintro e wA ⟨rfl, zA⟩
        obtain ⟨Wa, ca, hTA⟩ := HT9.out.turn zA
        have HTA := Lib.hid hTA
        clear hTA zA c0 c1 c2 c3
        go_wp2_with fail
        refine (on_any (lose D x.K) g N S Wa ca wA HTA.out.d).mono ?_
        rintro e wk ⟨rfl, zA⟩
        obtain ⟨W2, cW2, hT⟩ := HTA.out.turn (one_z zA.1 zA.2)
        rw [← HST.out] at hT
        have HTK := Lib.hid hT
        clear hT zA
        have hk80 := HLK.out
        have hkn := HLT.out
        go_wp2
        refine ⟨⟨k + 1, stepF D x, W2, cW2, HLT.out, by go_num, HTK.out, HS2.out, HQ2.out⟩, by simp [intOf]; omega⟩
      · have HST := Lib.hid (sf7 D x hkd)
        have t0 : (x.kind == 0) = false := beq_eq_false_iff_ne.2 (by omega)
        have t2 : (x.kind == 2) = false := beq_eq_false_iff_ne.2 (by omega)
        have t3 : (x.kind == 3) = false := beq_eq_false_iff_ne.2 (by omega)
        clear hkd
        go_wp2_with (first
          | (refine wpList_load_mid rfl 44 (.tmp 53) rfl b (o + k * 4) rfl x.cells _ HRG.out call_under rfl (call_size x) ?_)
          | (refine wpList_store_new rfl 44 (.tmp 13) (.tmp 54) rfl _ x.cells rfl rfl rfl (call_size x) x.one ?_
             intro w9 hB9 k9 z9
             obtain ⟨g9, hg9⟩ : ∃ g, g = wr.heap.size := ⟨_, rfl⟩
             rw [← hg9] at hB9 ⊢
             have HT9 := Lib.hid (HT.out.keep0 k9)
             obtain ⟨c0, c1, c2, c3⟩ := f_call_c x hB9
             clear hB9 k9 z9 hg9))
        obtain ⟨wk, hwk⟩ : ∃ wk, wk = w9 := ⟨_, rfl⟩
        obtain ⟨W2, cW2, hT⟩ : ∃ W2 cW2, Fo w wk g N S W2 cW2 D := ⟨W, cW, by rw [hwk]; exact HT9.out⟩
        rw [← HST.out] at hT
        have HTK := Lib.hid hT
        clear hT c0 c1 c2 c3
        have hk80 := HLK.out
        have hkn := HLT.out
        subst hwk
        refine ⟨⟨k + 1, stepF D x, W2, cW2, HLT.out, by go_num, HTK.out, HS2.out, HQ2.out⟩, by simp [intOf]; omega⟩
    · obtain rfl : k = n := by omega
      have HWL := Lib.hid (show D.waits.length ≤ 99999 by have := HSM.out.waits; have := HLEN.out; omega)
      have HPL := Lib.hid (show p < D.now.length by rw [HSM.out.len]; exact HPM.out)
      have HB6 := Lib.hid (show bl.length ≤ 256 by rw [HBL.out]; exact HM2.out)
      have HKB := Lib.hid (show D.now.length ≤ 20 by rw [HSM.out.len]; exact HM3.out)
      clear hlt hk
      rename World => wo
      go_wp2_with fail
      refine (image_any D g N S W cW wo HT.out.d).mono ?_
      rintro e w4 ⟨X, cX, rfl, oX, kX, nX⟩
      have HT4 := Lib.hid (HT.out.keep0 kX)
      have HOX := Lib.hid oX
      have HNX := Lib.hid (show ∀ k, ab X = some k → ¬ dF g N S W k from fun k e e2 => by have := HT.out.d.lt k e2; have := nX k e; omega)
      clear oX kX nX
      go_wp2_with fail
      refine (acts_any D g N S W cW w4 HT4.out.d).mono ?_
      rintro e w' ⟨rfl, rfl⟩
      go_wp2_with fail
      refine (forge_yes D p B m d bl g N S W cW w4 HT4.out.d HBL.out (HRB.out.keep0 HT4.out.k) HPL.out HB6.out (Nat.le_succ_of_le HWL.out)).mono ?_
      rintro e w5 ⟨rfl, zF⟩
      obtain ⟨W5, c5, hT5⟩ := HT4.out.turn zF
      obtain ⟨_, _, _, kzF, _⟩ := zF
      have HT5 := Lib.hid hT5
      have HOX5 := Lib.hid (HOX.out.keep kzF (fun j e => HNX.out j e))
      clear hT5 kzF HOX HNX
      go_wp2_with fail
      refine (acts_any (forged D p bl) g N S W5 c5 w5 HT5.out.d).mono ?_
      rintro e w' ⟨rfl, rfl⟩
      rw [show (forged D p bl).acts = D.acts from rfl]
      go_wp2_with fail
      refine (image_any (forged D p bl) g N S W5 c5 w5 HT5.out.d).mono ?_
      rintro e w6 ⟨Y, cY, rfl, oY, kY, nY⟩
      rw [show (forged D p bl).now.length = D.now.length from List.length_set] at oY ⊢
      have HT6 := Lib.hid (HT5.out.keep0 kY)
      have HOX6 := Lib.hid (HOX5.out.keep kY (fun _ _ e => e)).row
      have HOY := Lib.hid oY.row
      have HRB6 := Lib.hid (HRB.out.keep0 HT6.out.k)
      obtain ⟨L, hL⟩ : ∃ L, L = D.now.length * 256 := ⟨_, rfl⟩
      rw [← hL]
      have HL := Lib.hid hL
      have HXL := Lib.hid (show (bvs (image D)).length = L by rw [bvs_length, image_length D HT4.out.d.ok, hL])
      have HYL := Lib.hid (show (bvs (image (forged D p bl))).length = L by rw [bvs_length, image_length _ HT6.out.d.ok, hL]; show (D.now.set _ _).length * 256 = _; rw [List.length_set])
      have HOK := Lib.hid HT4.out.d.ok
      clear oY kY nY hL HOX5
      go_wp2
      go_loopw [17, 18, 97] (fun _ _ vi wr => ∃ k : Nat, k ≤ L ∧ vi = .int .i64 k ∧ wr = w6)
        (fun _ _ vi _ => L - (intOf vi).toNat)
      case atStart => exact ⟨0, Nat.zero_le _, rfl, rfl⟩
      case round =>
        obtain ⟨k, hk, rfl, rfl⟩ := hrel
        by_cases hlt : k < L
        · obtain ⟨q, hq⟩ : ∃ q, q = k / 256 := ⟨_, rfl⟩
          obtain ⟨r, hr⟩ : ∃ r, r = k % 256 := ⟨_, rfl⟩
          have hkq : k = q * 256 + r := by omega
          have hr2 : r < 256 := by omega
          have hqD : q < D.now.length := by have := HL.out; omega
          obtain ⟨x, y, hx1, hy1, y1, y2, y3⟩ := forged_image D HOK.out p bl HPL.out HB6.out k q r hkq hr2 hqD
          have hL2 : L ≤ 5120 := by have := HL.out; have := HKB.out; omega
          have e1 : (k : Int).tdiv 256 = (q : Int) := by rw [Int.tdiv_eq_ediv_of_nonneg (by omega)]; omega
          have e2 : (k : Int).tmod 256 = (r : Int) := by rw [Int.tmod_eq_emod_of_nonneg (by omega)]; omega
          obtain ⟨bx, ox, hX, _, hcx⟩ := HOX6.out.at_ (i := k) (by rw [HXL.out]; exact hlt)
          obtain ⟨by_, oy, hY, _, hcy⟩ := HOY.out.at_ (i := k) (by rw [HYL.out]; exact hlt)
          subst hX; subst hY
          have hcx' : wr.cell? ⟨bx, ox + k, none⟩ = some (.int .u8 x.toNat) := by
            rw [hcx]
            have := List.getElem?_eq_getElem (l := bvs (image D)) (i := k) (by rw [HXL.out]; exact hlt)
            rw [← this, bvs, List.getElem?_map, hx1]; rfl
          have hcy' : wr.cell? ⟨by_, oy + k, none⟩ = some (.int .u8 y.toNat) := by
            rw [hcy]
            have := List.getElem?_eq_getElem (l := bvs (image (forged D p bl))) (i := k) (by rw [HYL.out]; exact hlt)
            rw [← this, bvs, List.getElem?_map, hy1]; rfl
          have HE := Lib.hid (And.intro e1 e2)
          have HK5 := Lib.hid hL2
          have hq5 : q ≤ 5120 := by omega
          have HLT := Lib.hid hlt
          clear hcx hcy hx1 hy1 e1 e2 hq hr hkq hqD hL2
          have hbx := x.toNat_lt
          have hby := y.toNat_lt
          by_cases hqp : q = p
          · have t1 : ((q : Int) == (p : Int)) = true := beq_iff_eq.2 (by omega)
            by_cases hrm : r < m
            · obtain ⟨bb, ob, hB, _, hcb⟩ := HRB6.out.at_ (i := r) (by rw [bvs_length, HBL.out]; exact hrm)
              subst hB
              have hcb' : wr.cell? ⟨bb, ob + r, none⟩ = some (.int .u8 y.toNat) := by
                rw [hcb, y2 hqp (by rw [HBL.out]; exact hrm)]; simp [bvs, bv]
              have t2 : decide (r < m) = true := decide_eq_true hrm
              have e1 := HE.out.1; have e2 := HE.out.2; have h5 := HK5.out; have h6 := HLT.out
              clear hcb y1 y2 y3 hqp
              go_wp2
              clear e1 e2
              refine ⟨⟨k + 1, HLT.out, by go_num, trivial⟩, by simp [intOf]; have := HLT.out; omega⟩
            · have hy0 : y = 0 := y3 hqp (by rw [HBL.out]; omega)
              subst hy0
              have t2 : decide (r < m) = false := decide_eq_false hrm
              have e1 := HE.out.1; have e2 := HE.out.2; have h5 := HK5.out; have h6 := HLT.out
              clear y1 y2 y3 hqp hrm
              go_wp2
              clear e1 e2
              refine ⟨⟨k + 1, HLT.out, by go_num, trivial⟩, by simp [intOf]; have := HLT.out; omega⟩
          · have t1 : ((q : Int) == (p : Int)) = false := beq_eq_false_iff_ne.2 (by omega)
            have hyx : y = x := y1 hqp
            subst hyx
            have e1 := HE.out.1; have e2 := HE.out.2; have h5 := HK5.out; have h6 := HLT.out
            clear y1 y2 y3 hqp
            go_wp2
            clear e1 e2
            refine ⟨⟨k + 1, HLT.out, by go_num, trivial⟩, by simp [intOf]; have := HLT.out; omega⟩
        · obtain rfl : k = L := by omega
          clear hlt hk
          go_wp2_with fail
          refine (off_any (forged D p bl) K g N S W5 c5 wr HT6.out.d (Nat.le_trans (List.length_filter_le _ _) (Nat.le_succ_of_le HWL.out)) HK.out).mono ?_
          rintro e w7 ⟨rfl, z7⟩
          obtain ⟨W7, c7, hT7⟩ := HT6.out.turn z7
          have HT7 := Lib.hid hT7
          clear hT7 z7
          go_wp2_with fail
          refine (on_any (lose (forged D p bl) K) g N S W7 c7 w7 HT7.out.d).mono ?_
          rintro e w8 ⟨rfl, z8⟩
          obtain ⟨W8, c8, hT8⟩ := HT7.out.turn (one_z z8.1 z8.2)
          have HT8 := Lib.hid hT8
          clear hT8 z8
          go_wp2_with fail
          refine (read_yes (on (lose (forged D p bl) K)) p (full bl) g N S W8 c8 w8 HT8.out.d (on_lose_off _ _) (lost_at D p bl K HOK.out HPL.out)).mono ?_
          rintro e w9 ⟨u, rfl, h9, k9, n9⟩
          have K9 := Lib.hid (HT8.out.k.trans k9 (fun _ e => e.elim))
          have HU := Lib.hid h9
          clear h9 k9 n9
          go_wp2
          have HS0 := Lib.hid (Kp.refl nob w9).drew
          have HKU := Lib.hid (fun (w' : World) (k : Kp nob w9 w') => (show Row w' (some ⟨u, 0, none⟩) (bvs (full bl)) from (HU.out.keep k (fun e => e)).row))
          have HKA := Lib.hid (fun (w' : World) (k : Kp nob w9 w') => (show Row w' B (bvs bl) from HRB.out.keep0 (K9.out.trans k (fun _ e => e.elim))))
          have HFB := Lib.hid (full_length bl HB6.out)
          have e1 := f_eq_self (full bl)
          refine reg_begin (fun w' => Kp nob w9 w') (by kernel_rfl) HS0.out (fun _ => ?_)
          generalize w9.drew = wd at *
          refine reg_take (v := .int .i64 0) 0 (some 136) rfl rfl (by kernel_rfl) (by kernel_rfl) (by kernel_rfl) (by rfl) HS0.out (fun w hw => by go_simp) ?_
          simp only [Act.put, List.setIfInBounds_toArray, List.set_cons_zero, List.set_cons_succ]
          refine reg_take (v := .bool true) 1 (some 137) rfl rfl (by kernel_rfl) (by kernel_rfl) (by kernel_rfl) (by rfl) HS0.out (fun w hw => by kernel_rfl) ?_
          simp only [Act.put, List.setIfInBounds_toArray, List.set_cons_zero, List.set_cons_succ]
          refine reg_take (v := .bool true) 2 (some 138) rfl rfl (by kernel_rfl) (by kernel_rfl) (by kernel_rfl) (by rfl) HS0.out (fun w hw => by go_simp) ?_
          simp only [Act.put, List.setIfInBounds_toArray, List.set_cons_zero, List.set_cons_succ]
          refine reg_take (v := .slice (some ⟨u, 0, none⟩) 256 256) 3 (some 139) rfl rfl (by kernel_rfl) (by kernel_rfl) (by kernel_rfl) (by rfl) HS0.out (fun w hw => by go_simp) ?_
          simp only [Act.put, List.setIfInBounds_toArray, List.set_cons_zero, List.set_cons_succ]
          refine reg_bytesStr 4 (some 140) 32 9 5 (.tmp 139) rfl rfl rfl (by kernel_rfl) (by kernel_rfl) (by kernel_rfl) (by rfl) HS0.out u8s_under u8_under str_under (some ⟨u, 0, none⟩) 256 256 (full bl) HFB.out rfl HKU.out ?_
          simp only [Act.put, List.setIfInBounds_toArray, List.set_cons_zero, List.set_cons_succ]
          refine reg_take (v := .slice B m d) 5 (some 141) rfl rfl (by kernel_rfl) (by kernel_rfl) (by kernel_rfl) (by rfl) HS0.out (fun w hw => by go_simp) ?_
          simp only [Act.put, List.setIfInBounds_toArray, List.set_cons_zero, List.set_cons_succ]
          refine reg_bytesStr 6 (some 142) 32 9 5 (.tmp 141) rfl rfl rfl (by kernel_rfl) (by kernel_rfl) (by kernel_rfl) (by rfl) HS0.out u8s_under u8_under str_under B m d bl HBL.out rfl HKA.out ?_
          simp only [Act.put, List.setIfInBounds_toArray, List.set_cons_zero, List.set_cons_succ]
          refine reg_call 7 (some 143) rfl rfl (by kernel_rfl) (by rfl) _ _ (exec_func 12 _ _ [.string (str bl)] rfl (by kernel_rfl) rfl) ?_
          refine (fFull bl wd HB6.out).mono ?_
          rintro e wz ⟨rfl, kz⟩
          have HS1 := Lib.hid (HS0.out.trans kz (fun _ e => e.elim))
          clear kz
          refine ⟨_, rfl, HS1.out, fun _ => ?_⟩
          simp only [Act.put, List.setIfInBounds_toArray, List.set_cons_zero, List.set_cons_succ]
          refine reg_take (v := .bool true) 8 (some 144) rfl rfl (by kernel_rfl) (by kernel_rfl) (by kernel_rfl) (by rfl) HS1.out (fun w hw => by go_simp) ?_
          simp only [Act.put, List.setIfInBounds_toArray, List.set_cons_zero, List.set_cons_succ]
          refine reg_take (v := .bool true) 9 (some 145) rfl rfl (by kernel_rfl) (by kernel_rfl) (by kernel_rfl) (by rfl) HS1.out (fun w hw => by go_simp) ?_
          simp only [Act.put, List.setIfInBounds_toArray, List.set_cons_zero, List.set_cons_succ]
          refine reg_take (v := .bool true) 10 (some 10) rfl rfl (by kernel_rfl) (by kernel_rfl) (by kernel_rfl) (by rfl) HS1.out (fun w hw => by go_simp) ?_
          simp only [Act.put, List.setIfInBounds_toArray, List.set_cons_zero, List.set_cons_succ]
          refine reg_end (by kernel_rfl) ?_
          go_wp2
          go_ret
          exact ⟨rfl, K9.out.trans HS1.out (fun _ e => e.elim)⟩
end Go.Proofs.Ytfbdjjcnibgjnaa.Disk
