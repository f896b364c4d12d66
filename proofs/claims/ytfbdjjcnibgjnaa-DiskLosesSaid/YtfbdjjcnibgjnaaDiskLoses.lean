/- DiskLoses: wherever the power goes, a sector that was synced is there behind it, as it was, or as a later write made it. -/
import Derived.Test.YtfbdjjcnibgjnaaDskR
import Derived.Deep.CutRange
import Derived.Deep.CutBlock
import Derived.Deep.DeepCutAuto
namespace Go.Proofs.Ytfbdjjcnibgjnaa.Disk
set_option linter.unusedVariables false
set_option linter.unusedSimpArgs false
open Go Go.RowKit Kit
set_option maxHeartbeats 8000000 in
set_option maxRecDepth 100000 in
theorem loses_yes (A : Option Addr) (n c : Nat) (zs : List Int) (T : Option Addr) (m d : Nat) (ps : List Sha.Pc) (Y : Option Addr) (r s : Nat) (bs : List Bool) (fu : Int) (K : Nat) (w : World)
    (h1 : zs.length = n) (hr1 : Row w A (zs.map fun z => .int .i64 z)) (h2 : ps.length = m) (hr2 : Row w T (ps.map Sha.Pc.v)) (hp2 : Sha.PcsOk w nob ps) (h3 : bs.length = r) (hr3 : Row w Y (bs.map Value.bool))
    (h40 : n ≤ 40) (h12 : n ≤ m) (h13 : n ≤ r) (hfu : fu ≤ 9223372036854775807) (hK : K < 18446744073709551616) :
    Calls Try.prog 3 #[.slice A n c, .slice T m d, .slice Y r s, .int .i64 fu, .int .u64 (K : Int)] w fun e w' => e = .returned (.bool true) ∧ Kp nob w w' := by
  have H1 := Lib.hid h1; have HR1 := Lib.hid hr1; have H2 := Lib.hid h2; have HR2 := Lib.hid hr2; have HP2 := Lib.hid hp2; have H3 := Lib.hid h3; have HR3 := Lib.hid hr3
  have H40 := Lib.hid h40; have H12 := Lib.hid h12; have H13 := Lib.hid h13; have HFU := Lib.hid hfu; have HK := Lib.hid hK
  have d1 : decide ((40 : Int) < (n : Int)) = false := by simp; omega
  have d2 : decide (m < n) = false := decide_eq_false (by omega)
  have d3 : decide (r < n) = false := decide_eq_false (by omega)
  clear h1 hr1 h2 hr2 hp2 h3 hr3 h40 h12 h13 hfu hK
  go_enter Try.func3, Try.ntmps3
  go_wp2_with fail
  refine (alive_yes w).mono ?_
  rintro e w1 ⟨rfl, k1⟩
  have K1 := Lib.hid k1
  clear k1
  go_wp2_with fail
  refine (new_any 6 w1).mono ?_
  rintro e w2 ⟨g, N, S, rfl, ha, ka, na⟩
  rw [show clamp 6 = 6 from rfl] at ha
  have HF2 := Lib.hid (show Fo w w2 g N S none 0 (new 6) from ⟨ha, fun k e => Nat.le_trans K1.out.size (na k e), K1.out.trans ka (fun _ e => e.elim)⟩)
  clear ha ka na d1 d2 d3
  go_wp2_with fail
  refine (arm_any (new 6) fu K g N S none 0 w2 HF2.out.d).mono ?_
  rintro e w3 ⟨rfl, hb, kb⟩
  have HF3 := Lib.hid (show Fo w w3 g N S none 0 (arm (new 6) fu K) from ⟨hb, HF2.out.f, HF2.out.k.since kb (fun k e => HF2.out.f k (.inl e))⟩)
  clear hb kb HF2
  have HL0 := Lib.hid (L1.first HF3.out)
  obtain ⟨gm, hgm⟩ : ∃ gm, gm = w3.heap.size := ⟨_, rfl⟩
  rw [← hgm] at HL0
  go_upto_region 8 with fail
  rw [← hgm]
  generalize w3.alloc (.cells #[.slice none 0 0, .slice none 0 0, .slice none 0 0, .slice none 0 0, .slice none 0 0, .slice none 0 0] 31) = w4 at HL0 ⊢
  clear hgm HF3
  obtain ⟨D0, hD0⟩ : ∃ D, D = arm (new 6) fu K := ⟨_, rfl⟩
  rw [← hD0] at HL0
  have HM0 := Lib.hid (show May D0 m0 by rw [hD0]; exact may_new.arm fu K)
  have HS0 := Lib.hid (show Sm D0 0 6 by rw [hD0]; exact sm_armed fu K HFU.out HK.out)
  have HO0 := Lib.hid (show D0.off = false by rw [hD0]; rfl)
  clear hD0
  go_wp2
  go_loopw [48] (fun vi wr => ∃ (k : Nat) (sl : List Sl), k ≤ 6 ∧ vi = .int .i64 k ∧ L1 w wr g N S D0 gm k sl)
    (fun vi _ => 6 - (intOf vi).toNat)
  case atStart => exact ⟨0, [], Nat.zero_le _, rfl, HL0.out⟩
  case round =>
    obtain ⟨k, sl, hk, rfl, hl⟩ := hrel
    have HL := Lib.hid hl
    clear hl
    by_cases hlt : k < 6
    · obtain ⟨q1, q2⟩ := HL.out.cell hlt (.cells (bvs z256).toArray 5) (.cells #[.string (str (full []))] 9)
      have HS := Lib.hid (HL.out.step hlt (.cells (bvs z256).toArray 5) _ rfl)
      have HLT := Lib.hid hlt
      have hmk := make256
      have hcv := conv256
      go_wp2
      clear hmk hcv q1 q2
      refine ⟨⟨k + 1, _, HLT.out, by go_num, HS.out⟩, by simp [intOf]; omega⟩
    · have HL6 := Lib.hid (show Lo w _ g N S none 0 D0 gm sl m0 by
        obtain rfl : k = 6 := by omega
        exact HL.out.last)
      clear HL
      rename World => w5
      obtain ⟨k6, hk6⟩ : ∃ q, q = k := ⟨_, rfl⟩
      rw [← hk6] at hk hlt ⊢
      clear hk6 k
      go_upto_block 2 with fail
      clear hk hlt
      go_cut [16] from 14 to 129 (fun v16 wx => ∃ (W : Option Addr) (cW : Nat) (D : Dk) (sl2 : List Sl) (mm : Nat → List (List UInt8)), Lo w wx g N S W cW D gm sl2 mm ∧ May D mm ∧ Sm D 90 6)
      case first =>
        go_wp2
        go_loopw [59] (fun vi wr => ∃ (k : Nat) (W : Option Addr) (cW : Nat) (D : Dk) (sl2 : List Sl) (mm : Nat → List (List UInt8)), k ≤ n ∧ vi = .int .i64 k ∧ Lo w wr g N S W cW D gm sl2 mm ∧ May D mm ∧ Sm D (2 * k) 6 ∧ D.off = false ∧ ∀ q, (mm q).length ≤ k + 1)
          (fun vi _ => n - (intOf vi).toNat)
        case atStart => exact ⟨0, none, 0, D0, sl, m0, Nat.zero_le _, rfl, HL6.out, HM0.out, HS0.out, HO0.out, m0_len⟩
        case round =>
          clear HL6 HM0 HS0 HO0
          obtain ⟨k, W, cW, D, sl2, mm, hk, rfl, hl, hmay, hsm, ho, hlen⟩ := hrel
          have HL := Lib.hid hl; have HMAY := Lib.hid hmay; have HSM := Lib.hid hsm; have HO := Lib.hid ho; have HLEN := Lib.hid hlen
          clear hl hmay hsm ho hlen
          by_cases hlt : k < n
          · have HLT := Lib.hid hlt
            obtain ⟨z, hz⟩ : ∃ z, zs[k]? = some z := ⟨_, List.getElem?_eq_getElem (by rw [H1.out]; exact hlt)⟩
            obtain ⟨x, hx⟩ : ∃ x, ps[k]? = some x := ⟨_, List.getElem?_eq_getElem (by rw [H2.out]; have := H12.out; omega)⟩
            obtain ⟨y, hy⟩ : ∃ y, bs[k]? = some y := ⟨_, List.getElem?_eq_getElem (by rw [H3.out]; have := H13.out; omega)⟩
            obtain ⟨bz, oz, rfl, hcz⟩ := row_at_map (HR1.out.keep0 HL.out.fo.k) k z hz
            obtain ⟨bt, ot, rfl, hct0⟩ := row_at_map HR2.out k x hx
            obtain ⟨by_, oy, rfl, hcy0⟩ := row_at_map HR3.out k y hy
            have hxm := List.mem_of_getElem? hx
            have HTC := Lib.hid (fun (w' : World) (q : Kp nob w w') => (show w'.cell? ⟨bt, ot + k, none⟩ = some (.slice x.A x.n x.c) from cell_keep q hct0))
            have HYC := Lib.hid (fun (w' : World) (q : Kp nob w w') => cell_keep q hcy0)
            have HXB := Lib.hid (fun (w' : World) (q : Kp nob w w') => ((HP2.out x hxm).2.1).keep0 q)
            have HXL := Lib.hid (HP2.out x hxm).1
            have HXC := Lib.hid (HP2.out x hxm).2.2.2
            have hkm : k < m := by have := H12.out; omega
            have hkr : k < r := by have := H13.out; omega
            have hn40 := H40.out
            have hct : World.cell? _ ⟨bt, ot + k, none⟩ = some (.slice x.A x.n x.c) := HTC.out _ HL.out.fo.k
            have hxb : x.n ≤ 9223372036854775807 := by have := HXC.out; simp only [maxLen] at this; omega
            clear hz hx hy hct0 hcy0 hxm
            by_cases z1 : z < 0
            · have e1 : decide (z < 0) = true := decide_eq_true z1
              have HKN := Lib.hid (HL.out.fo.k)
              clear HL
              go_wp2
              go_ret
              exact ⟨rfl, HKN.out⟩
            by_cases z2 : (5 : Int) < z
            · have e1 : decide (z < 0) = false := decide_eq_false z1
              have e2 : decide ((5 : Int) < z) = true := decide_eq_true z2
              have HKN := Lib.hid (HL.out.fo.k)
              clear HL
              go_wp2
              go_ret
              exact ⟨rfl, HKN.out⟩
            obtain ⟨p, rfl⟩ : ∃ p : Nat, z = (p : Int) := ⟨z.toNat, by omega⟩
            have hp6 : p < 6 := by omega
            have e2 : decide ((5 : Int) < (p : Int)) = false := decide_eq_false z2
            clear z1 z2
            by_cases z3 : 256 < x.n
            · have e3 : decide ((256 : Int) < (x.n : Int)) = true := by simp; omega
              have HKN := Lib.hid (HL.out.fo.k)
              clear HL
              go_wp2
              go_ret
              exact ⟨rfl, HKN.out⟩
            have e3 : decide ((256 : Int) < (x.n : Int)) = false := by simp; omega
            have HX6 := Lib.hid (show x.l.length ≤ 256 by rw [HXL.out]; omega)
            have HP6 := Lib.hid (show p < D.now.length by rw [HSM.out.len]; exact hp6)
            have HWL := Lib.hid (show D.waits.length ≤ 99999 by have := HSM.out.waits; omega)
            have HAC := Lib.hid (show D.acts ≤ 1000000000000 by have := HSM.out.acts; omega)
            have HXS := Lib.hid (show x.n ≤ 140737488355328 by omega)
            have HLT2 := Lib.hid (show p < 6 from hp6)
            clear z3 hlt hk
            go_wp2_with fail
            refine (write_any D (p : Int) x.A x.n x.c x.l g N S W cW _ HL.out.fo.d HXL.out (HXB.out _ HL.out.fo.k) HXS.out HWL.out HAC.out HSM.out.fuse HSM.out.keep).mono ?_
            rintro e w5 ⟨rfl, z5⟩
            obtain ⟨W5, c5, h5⟩ := HL.out.turn z5
            have HL5 := Lib.hid h5
            have HM5 := Lib.hid (HMAY.out.write E8 HO.out p x.l HP6.out HX6.out)
            have HS5 := Lib.hid (HSM.out.write HL.out.fo.d.ok (p : Int) x.l)
            have HT5 := Lib.hid (write_two D p x.l HO.out HP6.out HX6.out)
            obtain ⟨R, hR⟩ : ∃ R, R = write E8 D (p : Int) x.l := ⟨_, rfl⟩
            rw [← hR] at HL5 HS5 HT5 ⊢
            have HM5 := Lib.hid (show May R.1 (add mm p (full x.l)) by rw [hR]; exact HM5.out)
            clear h5 z5 hR hct hcz e2 e3
            have hp0 := HLT2.out
            have hkm2 := hkm
            go_upto_region 19 with fail
            go_cut [96] from 85 to 97 (fun v96 wx => ∃ (sl5 : List Sl), Lo w wx g N S W5 c5 R.1 gm sl5 (add mm p (full x.l)))
            case first =>
              have HLA := Lib.hid (HL5.out.keep0 (Kp.refl nob w5).drew)
              have HSA := Lib.hid (show Kp nob w w5.drew from HLA.out.fo.k)
              have hxb2 := hxb
              refine reg_begin (fun w' => Kp nob w w') (by kernel_rfl) HSA.out (fun _ => ?_)
              generalize w5.drew = w6 at *
              refine reg_take (v := .int .i64 (p : Int)) 0 (some 85) rfl rfl (by kernel_rfl) (by kernel_rfl) (by kernel_rfl) (by rfl) HSA.out (fun w' hw => by go_simp) ?_
              simp only [Act.put, List.setIfInBounds_toArray, List.set_cons_zero, List.set_cons_succ]
              refine reg_take (v := .int .i64 (p : Int)) 1 (some 86) rfl rfl (by kernel_rfl) (by kernel_rfl) (by kernel_rfl) (by rfl) HSA.out (fun w' hw => by go_simp) ?_
              simp only [Act.put, List.setIfInBounds_toArray, List.set_cons_zero, List.set_cons_succ]
              refine reg_take (v := .pointer (some ⟨gm, p, none⟩)) 2 (some 87) rfl rfl (by kernel_rfl) (by kernel_rfl) (by kernel_rfl) (by rfl) HSA.out (fun w' hw => by go_simp; intro h9; exact absurd h9 (by omega)) ?_
              simp only [Act.put, List.setIfInBounds_toArray, List.set_cons_zero, List.set_cons_succ]
              refine reg_take (v := .slice (some ⟨bt, ot, none⟩) m d) 4 (some 89) rfl rfl (by kernel_rfl) (by kernel_rfl) (by kernel_rfl) (by rfl) HSA.out (fun w' hw => by go_simp) ?_
              simp only [Act.put, List.setIfInBounds_toArray, List.set_cons_zero, List.set_cons_succ]
              refine reg_take (v := .int .i64 (k : Int)) 5 (some 90) rfl rfl (by kernel_rfl) (by kernel_rfl) (by kernel_rfl) (by rfl) HSA.out (fun w' hw => by go_simp) ?_
              simp only [Act.put, List.setIfInBounds_toArray, List.set_cons_zero, List.set_cons_succ]
              refine reg_take (v := .pointer (some ⟨bt, ot + k, none⟩)) 6 (some 91) rfl rfl (by kernel_rfl) (by kernel_rfl) (by kernel_rfl) (by rfl) HSA.out (fun w' hw => by go_simp) ?_
              simp only [Act.put, List.setIfInBounds_toArray, List.set_cons_zero, List.set_cons_succ]
              refine reg_take (v := .slice x.A x.n x.c) 7 (some 92) rfl rfl (by kernel_rfl) (by kernel_rfl) (by kernel_rfl) (by rfl) HSA.out (fun w' hw => by have hct := HTC.out w' hw; go_simp) ?_
              simp only [Act.put, List.setIfInBounds_toArray, List.set_cons_zero, List.set_cons_succ]
              refine reg_bytesStr 8 (some 93) 32 9 5 (.tmp 92) rfl rfl rfl (by kernel_rfl) (by kernel_rfl) (by kernel_rfl) (by rfl) HSA.out u8s_under u8_under str_under x.A x.n x.c x.l HXL.out rfl HXB.out ?_
              simp only [Act.put, List.setIfInBounds_toArray, List.set_cons_zero, List.set_cons_succ]
              obtain ⟨s2, hs2, q1, _, q3⟩ := HLA.out.mz.at_ p HLT2.out
              obtain ⟨⟨sA, sn, sc⟩, rfl⟩ : ∃ t, t = s2 := ⟨_, rfl⟩
              have HS2 := Lib.hid hs2
              have HC6 := Lib.hid (show w6.cell? ⟨gm, p, none⟩ = some (.slice sA sn sc) from q1)
              have HSNB := Lib.hid (show sn ≤ 100 by have h1 : sn = (mm p).length := q3; have := HLEN.out p; have := H40.out; omega)
              obtain ⟨i0, hi, hz0, hz1, hz2⟩ := info_parts3 str_info
              have HI := Lib.hid (And.intro hi (And.intro hz0 (And.intro hz1 hz2)))
              clear hs2 q3 hi hz0 hz1 hz2
              refine reg_orCall (v := .slice sA sn sc) (w' := w6) 3 9 (some 88) (some 94) rfl rfl rfl rfl (by kernel_rfl) (by rfl) (by rfl) _ _ (by go_simp) (exec_func 12 _ _ [.string (str x.l)] rfl (by kernel_rfl) rfl) HSA.out (fun _ => ?_) ?_
              · clear q1
                simp only [Act.put, List.setIfInBounds_toArray, List.set_cons_zero, List.set_cons_succ]
                refine reg_call 9 (some 94) rfl rfl (by kernel_rfl) (by rfl) _ _ (exec_func 12 _ _ [.string (str x.l)] rfl (by kernel_rfl) rfl) ?_
                refine (fFull x.l w6 HX6.out).mono ?_
                rintro e w7 ⟨rfl, k7⟩
                have HL7 := Lib.hid (HLA.out.keep0 k7)
                have c7' : w7.cell? ⟨gm, p, none⟩ = some (.slice sA sn sc) := cell_keep k7 HC6.out
                clear k7
                refine ⟨_, rfl, HL7.out.fo.k, fun _ => ?_⟩
                simp only [Act.put, List.setIfInBounds_toArray, List.set_cons_zero, List.set_cons_succ]
                refine reg_step (v := .slice (some ⟨w7.heap.size, 0, none⟩) 1 1) (w' := w7.alloc (.cells #[.string (str (full x.l))] 9)) 10 (some 95) rfl rfl (by kernel_rfl) (by rfl) (by clear c7'; go_simp) (HL7.out.fo.k.alloc _) (fun _ => ?_)
                simp only [Act.put, List.setIfInBounds_toArray, List.set_cons_zero, List.set_cons_succ]
                clear c7'
                have HL8 := Lib.hid (HL7.out.keep0 ((Kp.refl nob w7).alloc (.cells #[.string (str (full x.l))] 9)))
                refine reg_appAt 11 (some 96) (.tmp 88) (.tmp 95) 30 rfl rfl rfl (by kernel_rfl) (by rfl) 9 i0 _ 16 strs_under HI.out.1 HI.out.2.1 HI.out.2.2.1 HI.out.2.2.2 rfl sA sn sc ((mm p).map txt) rfl (HL8.out.mz.row p _ HS2.out) ⟨w7.heap.size, 0, none⟩ 1 (txt (full x.l)) rfl (row_new w7 [txt (full x.l)] _) rfl (by have := HSNB.out; omega) (by have := HSNB.out; omega) ?_
                intro A2 c2 w9 o9 g9 a9
                have HL10 := Lib.hid (HL8.out.side (HL8.out.mz.app p HLT2.out _ HS2.out A2 c2 (full x.l) o9 g9 a9))
                have HS9 := Lib.hid (HL8.out.fo.k.grown g9 (fun i e => .inr (HL8.out.fr i (.inr ⟨p, _, HS2.out, e⟩))))
                have hb9 := HL8.out.mz.blk.keep ((Kp.refl (fun i => ab sA = some i) _).grown g9 (fun k e => .inl e)) (HL8.out.mz.far p _ HS2.out)
                have c9 : w9.cell? ⟨gm, p, none⟩ = some (.slice sA sn sc) := by rw [hb9.cell, List.getElem?_map, HS2.out]; rfl
                have f9 : w9.frozen? ⟨gm, p, none⟩ = false := hb9.frozen p
                clear o9 g9 a9 hb9
                refine ⟨HS9.out, fun _ => ?_⟩
                simp only [Act.put, List.setIfInBounds_toArray, List.set_cons_zero, List.set_cons_succ]
                refine reg_take (v := .pointer (some ⟨gm, p, none⟩)) 12 (some 97) rfl rfl (by kernel_rfl) (by kernel_rfl) (by kernel_rfl) (by rfl) HS9.out (fun w' hw => by go_simp; intro h9; exact absurd h9 (by omega)) ?_
                simp only [Act.put, List.setIfInBounds_toArray, List.set_cons_zero, List.set_cons_succ]
                refine reg_mute (w' := w9.setCell ⟨gm, p, none⟩ (.slice A2 (sn + 1) c2)) 13 none rfl rfl (by kernel_rfl) (by rfl) (by go_simp) HL10.out.fo.k (fun _ => ?_)
                simp only [Act.put, List.setIfInBounds_toArray, List.set_cons_zero, List.set_cons_succ]
                refine reg_end (by kernel_rfl) ?_
                clear c9 f9
                go_wp2_with fail
                go_meet
                exact ⟨_, HL10.out⟩
              · clear q1
                refine (fFull x.l w6 HX6.out).mono ?_
                rintro e w7 ⟨rfl, k7⟩
                have HL7 := Lib.hid (HLA.out.keep0 k7)
                have c7' : w7.cell? ⟨gm, p, none⟩ = some (.slice sA sn sc) := cell_keep k7 HC6.out
                clear k7
                refine ⟨_, rfl, HL7.out.fo.k, fun _ => ?_⟩
                simp only [Act.put, List.setIfInBounds_toArray, List.set_cons_zero, List.set_cons_succ]
                refine reg_stepOr (v := .slice sA sn sc) (wi := w7) (u := .slice (some ⟨w7.heap.size, 0, none⟩) 1 1) (wj := w7.alloc (.cells #[.string (str (full x.l))] 9)) 3 10 (some 88) (some 95) rfl rfl rfl rfl (by kernel_rfl) (by rfl) (by rfl) (by go_simp) (by clear c7'; go_simp) HL7.out.fo.k (HL7.out.fo.k.alloc _) (fun _ => ?_) (fun _ => ?_)
                · simp only [Act.put, List.setIfInBounds_toArray, List.set_cons_zero, List.set_cons_succ]
                  refine reg_step (v := .slice (some ⟨w7.heap.size, 0, none⟩) 1 1) (w' := w7.alloc (.cells #[.string (str (full x.l))] 9)) 10 (some 95) rfl rfl (by kernel_rfl) (by rfl) (by clear c7'; go_simp) (HL7.out.fo.k.alloc _) (fun _ => ?_)
                  simp only [Act.put, List.setIfInBounds_toArray, List.set_cons_zero, List.set_cons_succ]
                  clear c7'
                  have HL8 := Lib.hid (HL7.out.keep0 ((Kp.refl nob w7).alloc (.cells #[.string (str (full x.l))] 9)))
                  refine reg_appAt 11 (some 96) (.tmp 88) (.tmp 95) 30 rfl rfl rfl (by kernel_rfl) (by rfl) 9 i0 _ 16 strs_under HI.out.1 HI.out.2.1 HI.out.2.2.1 HI.out.2.2.2 rfl sA sn sc ((mm p).map txt) rfl (HL8.out.mz.row p _ HS2.out) ⟨w7.heap.size, 0, none⟩ 1 (txt (full x.l)) rfl (row_new w7 [txt (full x.l)] _) rfl (by have := HSNB.out; omega) (by have := HSNB.out; omega) ?_
                  intro A2 c2 w9 o9 g9 a9
                  have HL10 := Lib.hid (HL8.out.side (HL8.out.mz.app p HLT2.out _ HS2.out A2 c2 (full x.l) o9 g9 a9))
                  have HS9 := Lib.hid (HL8.out.fo.k.grown g9 (fun i e => .inr (HL8.out.fr i (.inr ⟨p, _, HS2.out, e⟩))))
                  have hb9 := HL8.out.mz.blk.keep ((Kp.refl (fun i => ab sA = some i) _).grown g9 (fun k e => .inl e)) (HL8.out.mz.far p _ HS2.out)
                  have c9 : w9.cell? ⟨gm, p, none⟩ = some (.slice sA sn sc) := by rw [hb9.cell, List.getElem?_map, HS2.out]; rfl
                  have f9 : w9.frozen? ⟨gm, p, none⟩ = false := hb9.frozen p
                  clear o9 g9 a9 hb9
                  refine ⟨HS9.out, fun _ => ?_⟩
                  simp only [Act.put, List.setIfInBounds_toArray, List.set_cons_zero, List.set_cons_succ]
                  refine reg_take (v := .pointer (some ⟨gm, p, none⟩)) 12 (some 97) rfl rfl (by kernel_rfl) (by kernel_rfl) (by kernel_rfl) (by rfl) HS9.out (fun w' hw => by go_simp; intro h9; exact absurd h9 (by omega)) ?_
                  simp only [Act.put, List.setIfInBounds_toArray, List.set_cons_zero, List.set_cons_succ]
                  refine reg_mute (w' := w9.setCell ⟨gm, p, none⟩ (.slice A2 (sn + 1) c2)) 13 none rfl rfl (by kernel_rfl) (by rfl) (by go_simp) HL10.out.fo.k (fun _ => ?_)
                  simp only [Act.put, List.setIfInBounds_toArray, List.set_cons_zero, List.set_cons_succ]
                  refine reg_end (by kernel_rfl) ?_
                  clear c9 f9
                  go_wp2_with fail
                  go_meet
                  exact ⟨_, HL10.out⟩
                · simp only [Act.put, List.setIfInBounds_toArray, List.set_cons_zero, List.set_cons_succ]
                  have c8' : (w7.alloc (.cells #[.string (str (full x.l))] 9)).cell? ⟨gm, p, none⟩ = some (.slice sA sn sc) := cell_keep ((Kp.refl nob w7).alloc _) c7'
                  clear c7'
                  refine reg_step (w' := w7.alloc (.cells #[.string (str (full x.l))] 9)) (v := .slice sA sn sc) 3 (some 88) rfl rfl (by kernel_rfl) (by rfl) (by go_simp) (HL7.out.fo.k.alloc _) (fun _ => ?_)
                  simp only [Act.put, List.setIfInBounds_toArray, List.set_cons_zero, List.set_cons_succ]
                  clear c8'
                  have HL8 := Lib.hid (HL7.out.keep0 ((Kp.refl nob w7).alloc (.cells #[.string (str (full x.l))] 9)))
                  refine reg_appAt 11 (some 96) (.tmp 88) (.tmp 95) 30 rfl rfl rfl (by kernel_rfl) (by rfl) 9 i0 _ 16 strs_under HI.out.1 HI.out.2.1 HI.out.2.2.1 HI.out.2.2.2 rfl sA sn sc ((mm p).map txt) rfl (HL8.out.mz.row p _ HS2.out) ⟨w7.heap.size, 0, none⟩ 1 (txt (full x.l)) rfl (row_new w7 [txt (full x.l)] _) rfl (by have := HSNB.out; omega) (by have := HSNB.out; omega) ?_
                  intro A2 c2 w9 o9 g9 a9
                  have HL10 := Lib.hid (HL8.out.side (HL8.out.mz.app p HLT2.out _ HS2.out A2 c2 (full x.l) o9 g9 a9))
                  have HS9 := Lib.hid (HL8.out.fo.k.grown g9 (fun i e => .inr (HL8.out.fr i (.inr ⟨p, _, HS2.out, e⟩))))
                  have hb9 := HL8.out.mz.blk.keep ((Kp.refl (fun i => ab sA = some i) _).grown g9 (fun k e => .inl e)) (HL8.out.mz.far p _ HS2.out)
                  have c9 : w9.cell? ⟨gm, p, none⟩ = some (.slice sA sn sc) := by rw [hb9.cell, List.getElem?_map, HS2.out]; rfl
                  have f9 : w9.frozen? ⟨gm, p, none⟩ = false := hb9.frozen p
                  clear o9 g9 a9 hb9
                  refine ⟨HS9.out, fun _ => ?_⟩
                  simp only [Act.put, List.setIfInBounds_toArray, List.set_cons_zero, List.set_cons_succ]
                  refine reg_take (v := .pointer (some ⟨gm, p, none⟩)) 12 (some 97) rfl rfl (by kernel_rfl) (by kernel_rfl) (by kernel_rfl) (by rfl) HS9.out (fun w' hw => by go_simp; intro h9; exact absurd h9 (by omega)) ?_
                  simp only [Act.put, List.setIfInBounds_toArray, List.set_cons_zero, List.set_cons_succ]
                  refine reg_mute (w' := w9.setCell ⟨gm, p, none⟩ (.slice A2 (sn + 1) c2)) 13 none rfl rfl (by kernel_rfl) (by rfl) (by go_simp) HL10.out.fo.k (fun _ => ?_)
                  simp only [Act.put, List.setIfInBounds_toArray, List.set_cons_zero, List.set_cons_succ]
                  refine reg_end (by kernel_rfl) ?_
                  clear c9 f9
                  go_wp2_with fail
                  go_meet
                  exact ⟨_, HL10.out⟩
            case rest =>
              obtain ⟨sl5, hl5⟩ := hcut
              have HL6 := Lib.hid hl5
              have HLEN6 := Lib.hid (add_len HLEN.out p (full x.l))
              obtain ⟨m5, hm5⟩ : ∃ m5, m5 = add mm p (full x.l) := ⟨_, rfl⟩
              rw [← hm5] at HL6 HLEN6 HM5
              clear hl5 hm5 HL HL5 HMAY HLEN
              have hcy : wc.cell? ⟨by_, oy + k, none⟩ = some (.bool y) := HYC.out wc HL6.out.fo.k
              rcases HT5.out with ⟨e0, hoff⟩ | e0
              · have HOF := Lib.hid hoff
                clear hoff
                cases y with
                | false =>
                  rw [e0]
                  clear e0
                  go_wp2
                  go_roundw
                  case rel => exact ⟨k + 1, W5, c5, R.1, sl5, m5, HLT.out, by go_num, HL6.out, HM5.out, ⟨by have := HS5.out.acts; omega, by have := HS5.out.waits; omega, HS5.out.fuse, HS5.out.keep, HS5.out.len⟩, HOF.out, HLEN6.out⟩
                  case measure => simp [intOf]; have := HLT.out; omega
                | true =>
                  rw [e0]
                  clear e0
                  go_wp2_with fail
                  refine (sync_any R.1 g N S W5 c5 wc HL6.out.fo.d (by have := HS5.out.waits; have := H40.out; have := HLT.out; omega) (by have := HS5.out.acts; have := H40.out; have := HLT.out; omega) HS5.out.fuse HS5.out.keep).mono ?_
                  rintro e w7 ⟨rfl, z7⟩
                  obtain ⟨W7, c7, h7⟩ := HL6.out.turn z7
                  have HS7 := Lib.hid (HS5.out.sync HL6.out.fo.d.ok)
                  rcases sync_two R.1 HOF.out with ⟨e1, e2⟩ | ⟨e1, e2⟩
                  · rw [e1]
                    rw [e2] at h7 HS7
                    obtain ⟨D6, hD6⟩ : ∃ D6, D6 = { (act R.1).1 with safe := R.1.now, waits := [] } := ⟨_, rfl⟩
                    rw [← hD6] at h7 HS7
                    have HD6 := Lib.hid hD6
                    have HL7 := Lib.hid h7
                    have HOF6 := Lib.hid (show D6.off = false by rw [hD6, act_on R.1 HOF.out]; exact HOF.out)
                    clear h7 z7 e1 e2 hD6 hcy
                    go_wp2
                    go_loopw [17] (fun vi wr => ∃ (q : Nat) (sl6 : List Sl) (m6 : Nat → List (List UInt8)), q ≤ 6 ∧ vi = .int .i64 q ∧ Lo w wr g N S W7 c7 D6 gm sl6 m6 ∧ (∀ j, j < q → ∃ v, (m5 j).getLast? = some v ∧ m6 j = [v]) ∧ (∀ j, q ≤ j → m6 j = m5 j))
                      (fun vi _ => 6 - (intOf vi).toNat)
                    case atStart => exact ⟨0, sl5, m5, Nat.zero_le _, rfl, HL7.out, fun j hj => absurd hj (Nat.not_lt_zero _), fun _ _ => rfl⟩
                    case round =>
                      clear HL7
                      obtain ⟨q, sl6, m6, hq, rfl, hl, hlo, hhi⟩ := hrel
                      have HL := Lib.hid hl; have HLO := Lib.hid hlo; have HHI := Lib.hid hhi
                      clear hl hlo hhi
                      by_cases hq6 : q < 6
                      · have HQ6 := Lib.hid hq6
                        obtain ⟨v, hv⟩ : ∃ v, R.1.now[q]? = some v := ⟨_, List.getElem?_eq_getElem (by rw [HS5.out.len]; exact hq6)⟩
                        have HGL := Lib.hid (HM5.out.now HOF.out q v hv)
                        clear hv
                        go_upto_region 25 with fail
                        have HLd := Lib.hid (HL.out.keep0 (Kp.refl nob wr).drew)
                        obtain ⟨s6, hs6, q1, q2, q3⟩ := HLd.out.mz.at_ q HQ6.out
                        obtain ⟨⟨sA, sn1, sc⟩, rfl⟩ : ∃ t, t = s6 := ⟨_, rfl⟩
                        have q3 : sn1 = (m6 q).length := q3
                        have hne : (m6 q).length ≠ 0 := by
                          rw [HHI.out q (Nat.le_refl _)]
                          intro h0
                          have h1 := HGL.out
                          rw [List.length_eq_zero_iff.1 h0] at h1; cases h1
                        have hsb1 : sn1 ≤ 100 := by
                          rw [q3, HHI.out q (Nat.le_refl _)]
                          have := HLEN6.out q; have := HLT.out; have := H40.out; omega
                        obtain ⟨sn, rfl⟩ : ∃ t, sn1 = t + 1 := ⟨sn1 - 1, by omega⟩
                        have HCUT := Lib.hid (HLd.out.side (HLd.out.mz.cut q HQ6.out _ hs6 sn rfl v (by rw [HHI.out q (Nat.le_refl _)]; exact HGL.out)))
                        have hcut := strs_cut sA (sn + 1) sc sn (by omega)
                        rw [show sn + 1 - sn = 1 by omega] at hcut
                        have HCU := Lib.hid hcut
                        have hsb : sn ≤ 100 := by omega
                        have e3 : IntKind.i64.wrap (sn : Int) = (sn : Int) := IntWalk.i64_in _ (by omega)
                        have q1 : World.cell? _ ⟨gm, q, none⟩ = some (.slice sA (sn + 1) sc) := q1
                        clear hs6 q3 hne hsb1 HL hcut
                        refine reg_begin (fun _ => True) (by kernel_rfl) trivial (fun _ => ?_)
                        generalize wr.drew = w8 at *
                        refine reg_take (v := .int .i64 (q : Int)) 0 (some 116) rfl rfl (by kernel_rfl) (by kernel_rfl) (by kernel_rfl) (by rfl) trivial (fun w' hw => by clear q1 q2; go_simp) ?_
                        simp only [Act.put, List.setIfInBounds_toArray, List.set_cons_zero, List.set_cons_succ]
                        refine reg_take (v := .int .i64 (q : Int)) 1 (some 117) rfl rfl (by kernel_rfl) (by kernel_rfl) (by kernel_rfl) (by rfl) trivial (fun w' hw => by clear q1 q2; go_simp) ?_
                        simp only [Act.put, List.setIfInBounds_toArray, List.set_cons_zero, List.set_cons_succ]
                        refine reg_take (v := .pointer (some ⟨gm, q, none⟩)) 2 (some 118) rfl rfl (by kernel_rfl) (by kernel_rfl) (by kernel_rfl) (by rfl) trivial (fun w' hw => by clear q1 q2; go_simp) ?_
                        simp only [Act.put, List.setIfInBounds_toArray, List.set_cons_zero, List.set_cons_succ]
                        refine reg_take (v := .int .i64 (q : Int)) 4 (some 120) rfl rfl (by kernel_rfl) (by kernel_rfl) (by kernel_rfl) (by rfl) trivial (fun w' hw => by clear q1 q2; go_simp) ?_
                        simp only [Act.put, List.setIfInBounds_toArray, List.set_cons_zero, List.set_cons_succ]
                        refine reg_take (v := .pointer (some ⟨gm, q, none⟩)) 5 (some 121) rfl rfl (by kernel_rfl) (by kernel_rfl) (by kernel_rfl) (by rfl) trivial (fun w' hw => by clear q1 q2; go_simp) ?_
                        simp only [Act.put, List.setIfInBounds_toArray, List.set_cons_zero, List.set_cons_succ]
                        refine reg_stepOr (v := .slice sA (sn + 1) sc) (u := .slice sA (sn + 1) sc) (wi := w8) (wj := w8) 3 6 (some 119) (some 122) rfl rfl rfl rfl (by kernel_rfl) (by rfl) (by rfl) (by clear e3; go_simp) (by clear e3; go_simp) trivial trivial (fun _ => ?_) (fun _ => ?_)
                        case' refine_1 =>
                          simp only [Act.put, List.setIfInBounds_toArray, List.set_cons_zero, List.set_cons_succ]
                          refine reg_step (w' := w8) (v := .slice sA (sn + 1) sc) 6 (some 122) rfl rfl (by kernel_rfl) (by rfl) (by clear e3; go_simp) trivial (fun _ => ?_)
                          simp only [Act.put, List.setIfInBounds_toArray, List.set_cons_zero, List.set_cons_succ]
                          refine reg_take (v := .int .i64 ((sn + 1 : Nat) : Int)) 7 (some 123) rfl rfl (by kernel_rfl) (by kernel_rfl) (by kernel_rfl) (by rfl) trivial (fun w' hw => by clear q1 q2; go_simp) ?_
                          simp only [Act.put, List.setIfInBounds_toArray, List.set_cons_zero, List.set_cons_succ]
                          refine reg_take (v := .int .i64 (sn : Int)) 8 (some 124) rfl rfl (by kernel_rfl) (by kernel_rfl) (by kernel_rfl) (by rfl) trivial (fun w' hw => by clear q1 q2; go_simp) ?_
                          simp only [Act.put, List.setIfInBounds_toArray, List.set_cons_zero, List.set_cons_succ]
                        case' refine_2 =>
                          simp only [Act.put, List.setIfInBounds_toArray, List.set_cons_zero, List.set_cons_succ]
                          refine reg_take (v := .int .i64 ((sn + 1 : Nat) : Int)) 7 (some 123) rfl rfl (by kernel_rfl) (by kernel_rfl) (by kernel_rfl) (by rfl) trivial (fun w' hw => by clear q1 q2; go_simp) ?_
                          simp only [Act.put, List.setIfInBounds_toArray, List.set_cons_zero, List.set_cons_succ]
                          refine reg_take (v := .int .i64 (sn : Int)) 8 (some 124) rfl rfl (by kernel_rfl) (by kernel_rfl) (by kernel_rfl) (by rfl) trivial (fun w' hw => by clear q1 q2; go_simp) ?_
                          simp only [Act.put, List.setIfInBounds_toArray, List.set_cons_zero, List.set_cons_succ]
                          refine reg_step (w' := w8) (v := .slice sA (sn + 1) sc) 3 (some 119) rfl rfl (by kernel_rfl) (by rfl) (by clear e3; go_simp) trivial (fun _ => ?_)
                          simp only [Act.put, List.setIfInBounds_toArray, List.set_cons_zero, List.set_cons_succ]
                        all_goals
                          refine reg_take (v := .slice (cutA sA sc sn) 1 (sc - sn)) 9 (some 125) rfl rfl (by kernel_rfl) (by kernel_rfl) (by kernel_rfl) (by rfl) trivial (fun w' hw => exec_cut 30 (.tmp 119) (.tmp 124) rfl _ _ _ rfl rfl (HCU.out w')) ?_
                          simp only [Act.put, List.setIfInBounds_toArray, List.set_cons_zero, List.set_cons_succ]
                          refine reg_take (v := .pointer (some ⟨gm, q, none⟩)) 10 (some 126) rfl rfl (by kernel_rfl) (by kernel_rfl) (by kernel_rfl) (by rfl) trivial (fun w' hw => by clear q1 q2; go_simp) ?_
                          simp only [Act.put, List.setIfInBounds_toArray, List.set_cons_zero, List.set_cons_succ]
                          refine reg_mute (w' := w8.setCell ⟨gm, q, none⟩ (.slice (cutA sA sc sn) 1 (sc - sn))) 11 none rfl rfl (by kernel_rfl) (by rfl) (by clear e3; go_simp) trivial (fun _ => ?_)
                          simp only [Act.put, List.setIfInBounds_toArray, List.set_cons_zero, List.set_cons_succ]
                          refine reg_end (by kernel_rfl) ?_
                          clear q1 q2 e3
                          go_wp2
                          go_roundw
                          case rel =>
                            refine ⟨q + 1, _, _, HQ6.out, by go_num, HCUT.out, fun j hj => ?_, fun j hj => ?_⟩
                            · by_cases e : j = q
                              · subst e; exact ⟨v, HGL.out, if_pos rfl⟩
                              · obtain ⟨v2, g1, g2⟩ := HLO.out j (by omega)
                                exact ⟨v2, g1, by unfold lastOf; rw [if_neg e]; exact g2⟩
                            · unfold lastOf; rw [if_neg (by omega)]; exact HHI.out j (by omega)
                          case measure => simp [intOf]; have := HQ6.out; omega
                      · obtain rfl : q = 6 := by omega
                        have HMN := Lib.hid (show May D6 m6 by
                          rw [HD6.out]
                          refine HM5.out.synced HOF.out m6 (fun j v hv => ?_)
                          by_cases hj : j < 6
                          · obtain ⟨v2, h1, h2⟩ := HLO.out j hj
                            rw [h2, Option.some.inj (h1.symm.trans hv)]
                          · rw [HL6.out.mz.out j (by omega)] at hv; cases hv)
                        have HLN := Lib.hid (show ∀ j, (m6 j).length ≤ k + 1 + 1 from fun j => by
                          by_cases hj : j < 6
                          · obtain ⟨v2, h1, h2⟩ := HLO.out j hj
                            rw [h2]; simp
                          · rw [HHI.out j (by omega)]; exact HLEN6.out j)
                        clear hq6 hq
                        go_wp2
                        go_roundw
                        case rel => exact ⟨k + 1, W7, c7, D6, sl6, m6, HLT.out, by go_num, HL.out, HMN.out, ⟨by have := HS7.out.acts; omega, by have := HS7.out.waits; omega, HS7.out.fuse, HS7.out.keep, HS7.out.len⟩, HOF6.out, HLN.out⟩
                        case measure => simp [intOf]; have := HLT.out; omega
                  · rw [e1, show E8.down = 8 from rfl]
                    have HMD := Lib.hid (HM5.out.down R.1.keep)
                    rw [e2] at h7 HS7
                    have HL7 := Lib.hid h7
                    clear h7 z7 e1 e2 hcy
                    go_wp2
                    go_loopw [17] (fun vi wr => vi = .int .i64 0 ∧ wr = w7)
                      (fun _ _ => 0)
                    case atStart => exact ⟨rfl, rfl⟩
                    case round =>
                      obtain ⟨rfl, rfl⟩ := hrel
                      go_wp2
                      go_meet
                      exact ⟨W7, c7, _, sl5, m5, HL7.out, HMD.out, ⟨by have := HS7.out.acts; have := H40.out; have := HLT.out; omega, by have := HS7.out.waits; have := H40.out; have := HLT.out; omega, HS7.out.fuse, HS7.out.keep, HS7.out.len⟩⟩
              · rw [e0, show E8.down = 8 from rfl]
                clear e0 hcy
                go_wp2
                go_meet
                exact ⟨W5, c5, R.1, sl5, m5, HL6.out, HM5.out, ⟨by have := HS5.out.acts; have := H40.out; have := HLT.out; omega, by have := HS5.out.waits; have := H40.out; have := HLT.out; omega, HS5.out.fuse, HS5.out.keep, HS5.out.len⟩⟩
          · have HKN := Lib.hid HL.out
            obtain rfl : k = n := by omega
            clear hlt hk
            go_wp2
            go_meet
            exact ⟨W, cW, D, sl2, mm, HKN.out, HMAY.out, ⟨by have := HSM.out.acts; have := H40.out; omega, by have := HSM.out.waits; have := H40.out; omega, HSM.out.fuse, HSM.out.keep, HSM.out.len⟩⟩
      case rest =>
        obtain ⟨W, cW, D, sl2, mm, hl, hmay, hsm⟩ := hcut
        have HL := Lib.hid hl; have HMAY := Lib.hid hmay
        have HWL := Lib.hid (show D.waits.length ≤ 100000 by have := hsm.waits; omega)
        have HNL := Lib.hid (show (on (lose D K)).now.length = 6 by show (lose D K).now.length = 6; rw [lose_length D K hmay.ok, hsm.len])
        have HMEM := Lib.hid (show ∀ p v, (on (lose D K)).now[p]? = some v → v ∈ mm p from hmay.lose K)
        clear hl hmay hsm HL6 HM0 HS0 HO0
        go_wp2_with fail
        refine (off_any D K g N S W cW wc HL.out.fo.d HWL.out HK.out).mono ?_
        rintro e w6 ⟨rfl, z6⟩
        obtain ⟨W6, c6, h6⟩ := HL.out.turn z6
        have HL6 := Lib.hid h6
        clear h6 z6
        go_wp2_with fail
        refine (on_any (lose D K) g N S W6 c6 w6 HL6.out.fo.d).mono ?_
        rintro e w7 ⟨rfl, z7⟩
        obtain ⟨W7, c7, h7⟩ := HL6.out.turn (one_z z7.1 z7.2)
        have HL7 := Lib.hid h7
        clear h7 z7 HL HL6
        obtain ⟨D3, hD3⟩ : ∃ D3, D3 = on (lose D K) := ⟨_, rfl⟩
        rw [← hD3] at HNL HMEM HL7
        have HO3 := Lib.hid (show D3.off = false by rw [hD3]; rfl)
        clear hD3 HMAY HWL
        go_wp2
        go_loopw [135] (fun vi wr => ∃ k : Nat, k ≤ 6 ∧ vi = .int .i64 k ∧ Lo w wr g N S W7 c7 D3 gm sl2 mm)
          (fun vi _ => 6 - (intOf vi).toNat)
        case atStart => exact ⟨0, Nat.zero_le _, rfl, HL7.out⟩
        case round =>
          obtain ⟨k, hk, rfl, hl⟩ := hrel
          have HL := Lib.hid hl
          clear hl
          by_cases hlt : k < 6
          · have HLT := Lib.hid hlt
            obtain ⟨v, hv⟩ : ∃ v, D3.now[k]? = some v := ⟨_, List.getElem?_eq_getElem (by rw [HNL.out]; exact hlt)⟩
            have HV := Lib.hid hv
            have HVL := Lib.hid (HL.out.fo.d.ok.now v (List.mem_of_getElem? hv))
            have HVM := Lib.hid (hasIt_all v (mm k) (HMEM.out k v hv))
            clear hv
            go_wp2_with fail
            refine (read_yes D3 k v g N S W7 c7 _ HL.out.fo.d HO3.out HV.out).mono ?_
            rintro e w9 ⟨u, rfl, h9, k9, n9⟩
            have HL9 := Lib.hid (HL.out.keep0 k9)
            have HCV := Lib.hid (conv_row w9 (some ⟨u, 0, none⟩) 256 256 v HVL.out h9.row)
            clear h9 k9 n9
            obtain ⟨s2, hs2, q1, _, q3⟩ := HL9.out.mz.at_ k hlt
            obtain ⟨⟨sA, sn, sc⟩, rfl⟩ : ∃ t, t = s2 := ⟨_, rfl⟩
            have HROW := Lib.hid ((HL9.out.mz.row k _ hs2).row)
            have HSN := Lib.hid (show sn = (mm k).length from q3)
            have HSB := Lib.hid (show sn ≤ 9223372036854775807 by have := (HL9.out.mz.row k _ hs2).cap; simp only [maxLen] at this; omega)
            clear hs2 q3
            go_wp2
            clear q1
            go_loopw [21, 148] (fun vo vi wr => ∃ (j : Nat) (b : Bool), j ≤ sn ∧ vi = .int .i64 j ∧ vo = .bool b ∧ b = hasIt v ((mm k).take j) ∧ wr = w9)
              (fun _ vi _ => sn - (intOf vi).toNat)
            case atStart => exact ⟨0, false, Nat.zero_le _, rfl, rfl, rfl, rfl⟩
            case round =>
              obtain ⟨j, b, hj, rfl, rfl, hb, rfl⟩ := hrel
              have HB := Lib.hid hb
              clear hb
              by_cases hjs : j < sn
              · have HJS := Lib.hid hjs
                obtain ⟨a, ha⟩ : ∃ a, (mm k)[j]? = some a := ⟨_, List.getElem?_eq_getElem (by rw [← HSN.out]; exact hjs)⟩
                have HNX := Lib.hid (hasIt_next v (mm k) j a ha)
                obtain ⟨b2, o2, hA2, _, hc2⟩ := HROW.out.at_ (i := j) (by rw [List.length_map, ← HSN.out]; exact hjs)
                have hA2 : sA = some ⟨b2, o2, none⟩ := hA2
                subst hA2
                have hc3 : wr.cell? ⟨b2, o2 + j, none⟩ = some (.string (str a)) := by
                  rw [hc2, List.getElem_map]
                  rw [List.getElem?_eq_getElem (by rw [← HSN.out]; exact hjs)] at ha
                  rw [Option.some.inj ha]; rfl
                clear hc2 ha
                have hsb := HSB.out
                have hcv := HCV.out
                have heq := eqs v a
                cases b with
                | true =>
                  go_wp2
                  clear hcv heq hc3
                  refine ⟨⟨j + 1, true, HJS.out, by go_num, rfl, by rw [HNX.out, ← HB.out]; rfl, trivial⟩, by simp [intOf]; have := HJS.out; omega⟩
                | false =>
                  by_cases hva : v = a
                  · rw [decide_eq_true hva] at heq HNX
                    clear hva
                    go_wp2
                    clear hcv heq hc3
                    refine ⟨⟨j + 1, true, HJS.out, by go_num, rfl, by rw [HNX.out, ← HB.out]; rfl, trivial⟩, by simp [intOf]; have := HJS.out; omega⟩
                  · rw [decide_eq_false hva] at heq HNX
                    clear hva
                    go_wp2
                    clear hcv heq hc3
                    refine ⟨⟨j + 1, false, HJS.out, by go_num, rfl, by rw [HNX.out, ← HB.out]; rfl, trivial⟩, by simp [intOf]; have := HJS.out; omega⟩
              · obtain rfl : j = sn := by omega
                obtain rfl : b = true := by rw [HB.out, List.take_of_length_le (by rw [HSN.out]; exact Nat.le_refl _)]; exact HVM.out
                clear hjs hj
                go_wp2
                refine ⟨⟨k + 1, HLT.out, by go_num, HL9.out⟩, by simp [intOf]; have := HLT.out; omega⟩
          · obtain rfl : k = 6 := by omega
            clear hlt hk
            go_wp2
            go_ret
            exact ⟨rfl, HL.out.fo.k⟩
end Go.Proofs.Ytfbdjjcnibgjnaa.Disk
