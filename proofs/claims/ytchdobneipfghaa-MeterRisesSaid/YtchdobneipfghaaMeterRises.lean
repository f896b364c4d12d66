/- MeterRises: the count and the epoch never go down, whatever happens; what a Next that was OK told is said until the next one. -/
import Derived.Test.YtchdobneipfghaaMtG
import Derived.Deep.Cut
import Derived.Deep.DeepCutAuto
import Derived.Deep.CutRange
namespace Go.Proofs.Ytchdobneipfghaa.Meter
set_option linter.unusedVariables false
set_option linter.unusedSimpArgs false
open Go Go.RowKit Kit Disk

/-- What a call of the script does to a register that is asked between any two. -/
structure Ri (x : Mc) (t t2 : Mt) (e : Int) : Prop where
  cnt : t2.count = t.count ∨ t2.count = t.count + 1
  ep : t.epoch ≤ t2.epoch
  ok0 : x.kind = 0 → e = 0 → t2 = t.on x.ep x.r
  no : x.kind ≠ 0 → t2 = t ∧ e = 0
  no2 : x.kind = 0 → e ≠ 0 → e ≠ 8 → t2 = t
theorem Ri.none {x : Mc} (t : Mt) (h : x.kind ≠ 0) : Ri x t t 0 := ⟨.inl rfl, Int.le_refl _, fun e => absurd e h, fun _ => ⟨rfl, rfl⟩, fun e => absurd e h⟩
theorem Ri.next {x : Mc} (t : Mt) (D : Dk) (h : x.kind = 0) : Ri x t (nxt t D x.ep x.r).1 (nxt t D x.ep x.r).2.2 := by
  by_cases hw : why t D.off x.ep = 0
  · have hw0 := why_0 hw
    have hon : t.epoch ≤ (t.on x.ep x.r).epoch := by show t.epoch ≤ x.ep; omega
    cases ha : (act D).2 with
    | false => rw [nxt_on hw ha]; exact ⟨.inr rfl, hon, fun _ _ => rfl, fun e => absurd h e, fun _ e => absurd rfl e⟩
    | true =>
      cases hk : high D.keep with
      | true => rw [nxt_hi hw ha hk]; exact ⟨.inr rfl, hon, (fun _ e => by cases e), fun e => absurd h e, fun _ _ e => absurd rfl e⟩
      | false => rw [nxt_lo hw ha hk]; exact ⟨.inl rfl, Int.le_refl _, (fun _ e => by cases e), fun e => absurd h e, fun _ _ e => absurd rfl e⟩
  · rw [nxt_no hw]; exact ⟨.inl rfl, Int.le_refl _, (fun _ e => absurd e hw), fun e => absurd h e, fun _ _ _ => rfl⟩
set_option maxHeartbeats 8000000 in
set_option maxRecDepth 100000 in
theorem rises_yes (mo : Int) (A : Option Addr) (n c : Nat) (cs : List Mc) (w : World) (hn : cs.length = n) (hr : Row w A (cs.flatMap Mc.cells)) (hl : ∀ c ∈ cs, McOk c) (h80 : n ≤ 80) :
    Calls Try.prog 4 #[.int .i64 mo, .slice A n c] w fun e w' => e = .returned (.bool true) ∧ Kp nob w w' := by
  have HN := Lib.hid hn; have HR := Lib.hid hr; have HL := Lib.hid hl
  have d0 : decide ((80 : Int) < (n : Int)) = false := decide_eq_false (by omega)
  have H80 := Lib.hid h80
  have hz := zval_run
  clear hn hr hl h80
  go_enter Try.func4, Try.ntmps4
  go_wp2_with fail
  refine (alive_yes w).mono ?_
  rintro e w1 ⟨rfl, k1⟩
  have K1 := Lib.hid k1
  clear k1
  go_wp2_with fail
  refine (Disk.new_any 2 w1).mono ?_
  rintro e w2 ⟨g, N, S, rfl, h2, k2, n2⟩
  have H2 := Lib.hid h2; have K2 := Lib.hid (K1.out.trans k2 (fun _ e => e.elim)); have N2 := Lib.hid (show ∀ k, dF g N S none k → w.heap.size ≤ k from fun k e => Nat.le_trans K1.out.size (n2 k e))
  clear h2 k2 n2
  go_wp2_with fail
  refine (new_any mo (some ⟨g, 0, none⟩) w2).mono ?_
  rintro e w3 ⟨rfl, h3, k3⟩
  obtain ⟨m, hm⟩ : ∃ m, m = w2.heap.size := ⟨_, rfl⟩
  rw [← hm] at h3 ⊢
  have hmd := Md.first H2.out K2.out N2.out h3 k3 (Nat.le_of_eq hm.symm)
  have HD0 := Lib.hid (show Mr w w3 m g N S [] (fresh mo) (Disk.new (clamp 2)) 0 none 0 from ⟨hmd, ⟨Nat.zero_le _, Nat.zero_le _, by decide, by decide, rfl⟩, fun b hb => by cases hb⟩)
  clear h3 k3 hm d0 hmd
  go_upto_region 8 with fail
  obtain ⟨g7, hg7⟩ : ∃ g7, g7 = w3.heap.size := ⟨_, rfl⟩
  have HD := Lib.hid (HD0.out.add ((Kp.refl nob w3).alloc (.cells (vcells none_).toArray 48)) g7 48 (vcells none_) (Blk.new' hg7 rfl) (Nat.le_of_eq hg7.symm))
  rw [← hg7]
  generalize w3.alloc (.cells (vcells none_).toArray 48) = w4 at *
  clear hg7 HD0 hz
  go_wp2
  go_loopw [24] (fun vi wr => ∃ (k : Nat) (t : Mt) (D : Dk) (W : Option Addr) (cW : Nat), k ≤ n ∧ vi = .int .i64 k ∧ Mr w wr m g N S [(g7, 48, vcells t)] t D k W cW ∧ D.off = false)
    (fun vi _ => n - (intOf vi).toNat)
  case atStart => exact ⟨0, fresh mo, _, none, 0, Nat.zero_le _, rfl, HD.out, rfl⟩
  case round =>
    obtain ⟨k, t, D, W, cW, hk, rfl, hmr, hoff⟩ := hrel
    have ht0 : t.root.length = 32 := hmr.md.me.k.root
    have HM := Lib.hid hmr; have HO := Lib.hid hoff; have HT0 := Lib.hid ht0
    clear hmr hoff HD ht0
    by_cases hlt : k < n
    · obtain ⟨x, hx⟩ : ∃ x, cs[k]? = some x := ⟨_, List.getElem?_eq_getElem (by rw [HN.out]; exact hlt)⟩
      obtain ⟨b, o, rfl, hrg⟩ := mcs_at HL.out (HR.out.keep0 HM.out.md.k) k x hx
      have HRG := Lib.hid hrg
      have HX := Lib.hid (HL.out x (List.mem_of_getElem? hx))
      have HLT := Lib.hid hlt
      have HLK := Lib.hid (show k ≤ 80 by have := H80.out; omega)
      obtain ⟨k1', hk1⟩ : ∃ k1, k1 = k + 1 := ⟨_, rfl⟩
      have HE5 := Lib.hid (show IntKind.i64.wrap ((k : Int) + 1) = (k1' : Int) by have := HLK.out; rw [IntWalk.i64_in _ (by omega)]; omega)
      have HK1 := Lib.hid hk1
      clear hx hrg hlt hk hk1
      go_upto_if 30 with ((with_reducible refine wpList_here ?_); first
        | (refine wpList_load_mid rfl 35 (.tmp 26) rfl b (o + k * 35) rfl x.cells _ HRG.out call_under rfl (call_size x HX.out.r) ?_)
        | (refine wpList_store_new rfl 35 (.tmp 9) (.tmp 27) rfl _ x.cells rfl rfl (by rw [x.len HX.out.r]; rfl) (call_size x HX.out.r) x.one ?_
           intro w5 hB5 k5 z5
           obtain ⟨g9, hg9⟩ : ∃ g, g = wr.heap.size := ⟨_, rfl⟩
           rw [← hg9] at hB5 ⊢
           have HM5 := Lib.hid (HM.out.add k5 g9 _ _ hB5 (Nat.le_of_eq hg9.symm))
           have HC5 := Lib.hid (call_c x HX.out.r hB5)
           obtain ⟨q0, q1, q2⟩ := HC5.out
           clear q1 q2
           clear hB5 k5 z5 hg9))
      go_cut [] from 28 to 34 (fun wx => ∃ (D2 : Dk) (W2 : Option Addr) (c2 : Nat), Mr w wx m g N S [(g9, 35, x.cells), (g7, 48, vcells t)] t D2 k W2 c2 ∧ (x.kind = 0 → D2.off = false))
      case first =>
        rcases (show x.kind = 1 ∨ x.kind ≠ 1 by omega) with hkd | hkd
        · have t1 : (x.kind == 1) = true := beq_iff_eq.2 hkd
          have c3 := HC5.out.2.2
          have HKD := Lib.hid hkd
          clear hkd
          go_wp2_with fail
          refine (off_any D x.K g N S W cW w5 HM5.out.md.d (by have := HM5.out.sm.waits; have := HLK.out; omega) HX.out.K).mono ?_
          rintro e w6 ⟨rfl, z6⟩
          obtain ⟨W6, c6, h6⟩ := HM5.out.disk z6 (HM5.out.sm.lose HM5.out.md.d.ok x.K)
          have H6 := Lib.hid h6
          clear h6 z6 c3 q0
          go_wp2
          go_meet
          exact ⟨_, W6, c6, H6.out, fun e => by have := HKD.out; omega⟩
        · have t1 : (x.kind == 1) = false := beq_eq_false_iff_ne.2 hkd
          clear hkd
          go_wp2
          go_meet
          exact ⟨D, W, cW, HM5.out, fun _ => HO.out⟩
      case rest =>
        obtain ⟨D1, W1, c1, hm1, ho1⟩ := hcut
        have HM1 := Lib.hid hm1; have HO1 := Lib.hid ho1
        obtain ⟨q0, q1, q2⟩ := call_c x HX.out.r (hm1.bl _ List.mem_cons_self).1
        clear hm1 ho1 HM5 HO HM q1 q2
        go_upto_if 37 with fail
        go_cut [] from 35 to 43 (fun wx => ∃ (D2 : Dk) (W2 : Option Addr) (c2 : Nat), Mr w wx m g N S [(g9, 35, x.cells), (g7, 48, vcells t)] t D2 k W2 c2 ∧ (x.kind = 0 → D2.off = false))
        case first =>
          rcases (show x.kind = 3 ∨ x.kind ≠ 3 by omega) with hkd | hkd
          · have t1 : (x.kind == 3) = true := beq_iff_eq.2 hkd
            obtain ⟨_, q1, q2⟩ := call_c x HX.out.r (HM1.out.bl _ List.mem_cons_self).1
            have HKD := Lib.hid hkd
            clear hkd
            go_wp2_with fail
            refine (arm_any D1 x.ep x.K g N S W1 c1 wc HM1.out.md.d).mono ?_
            rintro e w6 ⟨rfl, h6, k6⟩
            have H6 := Lib.hid (HM1.out.one h6 k6 (Sm.arm HM1.out.sm x.ep x.K HX.out.ep HX.out.K))
            clear h6 k6 q0 q1 q2
            go_wp2
            go_meet
            exact ⟨_, W1, c1, H6.out, fun e => by have := HKD.out; omega⟩
          · have t1 : (x.kind == 3) = false := beq_eq_false_iff_ne.2 hkd
            clear hkd
            go_wp2
            go_meet
            exact ⟨D1, W1, c1, HM1.out, HO1.out⟩
        case rest =>
          rename World => wc1
          obtain ⟨D2, W2, c2, hm2, ho2⟩ := hcut
          have HM2 := Lib.hid hm2; have HO2 := Lib.hid ho2
          clear q0 HM1 HO1
          obtain ⟨q0, q1, q2⟩ := call_c x HX.out.r (hm2.bl _ List.mem_cons_self).1
          clear hm2 ho2 q1 q2
          go_upto_if 46 with fail
          go_cut [10] from 44 to 52 (fun v10 wx => ∃ (t3 : Mt) (D3 : Dk) (W3 : Option Addr) (c3 : Nat) (e3 : Int), v10 = .int .i64 e3 ∧ Mr w wx m g N S [(g9, 35, x.cells), (g7, 48, vcells t)] t3 D3 (k + 1) W3 c3 ∧ Ri x t t3 e3)
          case first =>
            rcases (show x.kind = 0 ∨ x.kind ≠ 0 by omega) with hkd | hkd
            · have t1 : (x.kind == 0) = true := beq_iff_eq.2 hkd
              obtain ⟨_, q1, _⟩ := call_c x HX.out.r (HM2.out.bl _ List.mem_cons_self).1
              have HRR := Lib.hid (call_r x (HM2.out.bl _ List.mem_cons_self).1)
              have HRI := Lib.hid (Ri.next t D2 hkd)
              clear hkd
              go_wp2_with (refine wpList_load_mid rfl 32 (.tmp 50) rfl g9 2 rfl (bvs x.r) _ HRR.out root_under rfl (root_size _ HX.out.r) ?_)
              refine (nxt_any HM2.out.md x.ep x.r HX.out.r HM2.out.sm (by have := HLK.out; omega)).mono ?_
              rintro e w6 ⟨rfl, z6⟩
              obtain ⟨W6, c6, h6⟩ := HM2.out.both z6 (Sm.next HM2.out.sm HM2.out.md.d.ok t x.ep x.r)
              have H6 := Lib.hid h6
              clear h6 z6 q0 q1
              go_wp2
              go_meet
              exact ⟨_, _, W6, c6, _, rfl, H6.out, HRI.out⟩
            · have t1 : (x.kind == 0) = false := beq_eq_false_iff_ne.2 hkd
              have HRI := Lib.hid (Ri.none (x := x) t hkd)
              clear hkd
              go_wp2
              go_meet
              exact ⟨t, D2, W2, c2, 0, rfl, ⟨HM2.out.md, HM2.out.sm.up, HM2.out.bl⟩, HRI.out⟩
          case rest =>
            obtain ⟨t3, D3, W3, c3, e3, rfl, hm3, hri⟩ := hcut
            have HM3 := Lib.hid hm3; have HRI := Lib.hid hri
            clear hm3 hri q0 HM2 HO2
            go_wp2_with fail
            refine (on_any D3 g N S W3 c3 wc HM3.out.md.d).mono ?_
            rintro e w7 ⟨rfl, h7, k7⟩
            have HM7 := Lib.hid (HM3.out.one h7 k7 (Sm.on HM3.out.sm))
            clear h7 k7
            go_wp2_with fail
            refine (get_any t3 m (some ⟨g, 0, none⟩) false w7 HM7.out.md.me (Cd.pow HM7.out.md.d)).mono ?_
            rintro e w8 ⟨rfl, k8⟩
            have HM8 := Lib.hid (HM7.out.keep0 k8)
            have HTK := Lib.hid HM7.out.md.me.k
            have HUL := Lib.hid (show (vcells t).length = 34 from vcells_length t HT0.out)
            have HVL := Lib.hid (vcells_length t3 HTK.out.root)
            have HVS := Lib.hid (val_size t3 HTK.out.root)
            have HUS := Lib.hid (val_size t HT0.out)
            clear k8
            go_upto_region 20 with ((with_reducible refine wpList_here ?_); first
              | (refine wpList_store_new rfl 48 (.tmp 11) (.tmp 58) rfl _ (vcells t3) rfl rfl (by rw [HVL.out]; rfl) HVS.out (vcells_one _) ?_
                 intro w9 hB9 k9 z9
                 obtain ⟨gv, hgv⟩ : ∃ gv, gv = w8.heap.size := ⟨_, rfl⟩
                 rw [← hgv] at hB9 ⊢
                 have HM9 := Lib.hid (HM8.out.add k9 gv _ _ hB9 (Nat.le_of_eq hgv.symm))
                 clear hB9 k9 z9 hgv))
            have HV := Lib.hid (HM9.out.bl _ List.mem_cons_self).1
            have HU := Lib.hid (HM9.out.bl _ (List.mem_cons_of_mem _ (List.mem_cons_of_mem _ List.mem_cons_self))).1
            have HCB := Lib.hid (HM9.out.bl _ (List.mem_cons_of_mem _ List.mem_cons_self)).1
            have v0 : w9.cell? ⟨gv, 0, none⟩ = some (.int .i64 (t3.count : Int)) := HV.out.cell 0
            have v1 : w9.cell? ⟨gv, 1, none⟩ = some (.int .i64 t3.epoch) := HV.out.cell 1
            have u0' : w9.cell? ⟨g7, 0, none⟩ = some (.int .i64 (t.count : Int)) := HU.out.cell 0
            have u1' : w9.cell? ⟨g7, 1, none⟩ = some (.int .i64 t.epoch) := HU.out.cell 1
            obtain ⟨q0, q1, _⟩ := call_c x HX.out.r HCB.out
            obtain ⟨p, hp⟩ : ∃ p, p = t.count + 1 := ⟨_, rfl⟩
            have hcm : t.count ≤ 1099511627776 := by have := HTK.out.le; have := HTK.out.most; have := HRI.out.cnt; omega
            have e1 : IntKind.i64.wrap ((t.count : Int) + 1) = (p : Int) := by rw [IntWalk.i64_in _ (by omega)]; omega
            have d1 : decide ((t3.count : Int) < (t.count : Int)) = false := decide_eq_false (by have := HRI.out.cnt; omega)
            have d2 : decide ((p : Int) < (t3.count : Int)) = false := decide_eq_false (by have := HRI.out.cnt; omega)
            have d1n : decide (t3.count < t.count) = false := decide_eq_false (by have := HRI.out.cnt; omega)
            have d2n : decide (p < t3.count) = false := decide_eq_false (by have := HRI.out.cnt; omega)
            have d3 : decide (t3.epoch < t.epoch) = false := decide_eq_false (by have := HRI.out.ep; omega)
            have HP := Lib.hid hp
            have HCR := Lib.hid (call_r x HCB.out)
            have HSP := Lib.hid (fun (w' : World) (k' : Kp (oneB g7) w9 w') (hb : Blk w' g7 48 (vcells t3)) => Mr.turn g7 48 (vcells t) (vcells t3) (HM9.out.sub (bs2 := [(g7, 48, vcells t)]) (fun b hb => by rw [List.mem_singleton.1 hb]; exact List.mem_cons_of_mem _ (List.mem_cons_of_mem _ List.mem_cons_self))) k' hb)
            clear hp hcm
            by_cases hkd : x.kind = 0
            case' pos =>
              by_cases he : e3 = 0
              case' pos =>
                -- told OK
                have HT3 := Lib.hid (show t3 = t.on x.ep x.r from HRI.out.ok0 hkd he)
                have t1 : (x.kind == 0) = true := beq_iff_eq.2 hkd
                have HKD := Lib.hid hkd
                obtain rfl : e3 = 0 := he
                have HBV := Lib.hid (fun w => build_value t3 (p : Int) x.ep x.r (by rw [HT3.out, HP.out]; rfl) (by rw [HT3.out]; rfl) (by rw [HT3.out]; rfl) HX.out.r w)
                clear hkd
                go_upto_region 24 with ((with_reducible refine wpList_here ?_); first
                  | (refine wpList_exec_gd (by rfl) (exec_neV_same 92 100 _ t3 HTK.out.root rfl rfl rfl) ?_)
                  | (refine wpList_load_gd 48 (.tmp 11) rfl (by rfl) _ _ (vcells t3) HV.out rfl _ val_under rfl HVS.out ?_)
                  | (refine wpList_load_gdm 32 (.tmp 98) rfl (by rfl) g9 2 (bvs x.r) HCR.out rfl _ root_under rfl (root_size _ HX.out.r) ?_)
                  | (refine wpList_exec_gd (by rfl) (by exact exec_bld _ _ rfl [(0, .int .i64 (p : Int)), (1, .int .i64 x.ep), (2, .agg (bvs x.r).toArray)] _ rfl (HBV.out _)) ?_))
                go_upto_region 26 with fail
                go_wp2_with ((with_reducible refine wpList_here ?_); first
                  | (refine wpList_store_blk rfl 48 (.tmp 7) (.tmp 119) rfl _ _ (vcells t) (vcells t3) HU.out rfl rfl (HVL.out.trans HUL.out.symm) HVS.out (vcells_one _) ?_
                     intro wz hBz kz zz
                     have HMz := Lib.hid (HSP.out wz kz hBz)
                     have e5 := HE5.out
                     clear hBz kz zz q0 q1 v0 v1 u0' u1' e1 d1 d2 d3 d1n d2n)
                  | (refine wpList_load_blk rfl 48 (.tmp 11) rfl _ _ (vcells t3) HV.out rfl _ val_under rfl HVS.out ?_))
                clear e5
                go_roundw
                case rel => exact ⟨k1', t3, Disk.on D3, W3, c3, by rw [HK1.out]; exact HLT.out, rfl, by rw [HK1.out]; exact HMz.out, rfl⟩
                case measure => have := HK1.out; have := HLT.out; simp [intOf]; omega
              case' neg =>
                by_cases he8 : e3 = 8
                case' pos =>
                  -- the power went
                  have t1 : (x.kind == 0) = true := beq_iff_eq.2 hkd
                  have HKD := Lib.hid hkd
                  obtain rfl : e3 = 8 := he8
                  clear hkd he
                  go_upto_region 26 with fail
                  go_wp2_with ((with_reducible refine wpList_here ?_); first
                    | (refine wpList_store_blk rfl 48 (.tmp 7) (.tmp 119) rfl _ _ (vcells t) (vcells t3) HU.out rfl rfl (HVL.out.trans HUL.out.symm) HVS.out (vcells_one _) ?_
                       intro wz hBz kz zz
                       have HMz := Lib.hid (HSP.out wz kz hBz)
                       have e5 := HE5.out
                       clear hBz kz zz q0 q1 v0 v1 u0' u1' e1 d1 d2 d3 d1n d2n)
                    | (refine wpList_load_blk rfl 48 (.tmp 11) rfl _ _ (vcells t3) HV.out rfl _ val_under rfl HVS.out ?_))
                  clear e5
                  go_roundw
                  case rel => exact ⟨k1', t3, Disk.on D3, W3, c3, by rw [HK1.out]; exact HLT.out, rfl, by rw [HK1.out]; exact HMz.out, rfl⟩
                  case measure => have := HK1.out; have := HLT.out; simp [intOf]; omega
                case' neg =>
                  -- refused
                  obtain rfl : t3 = t := HRI.out.no2 hkd he he8
                  have t1 : (x.kind == 0) = true := beq_iff_eq.2 hkd
                  have t2 : (e3 == 0) = false := beq_eq_false_iff_ne.2 he
                  have t4 : (e3 == 8) = false := beq_eq_false_iff_ne.2 he8
                  have hb0 : (e3 != 0) = true := by simp [he]
                  have hb8 : (e3 != 8) = true := by simp [he8]
                  have HKD := Lib.hid hkd
                  clear hkd he he8
                  go_upto_region 24 with fail
                  go_upto_region 26 with ((with_reducible refine wpList_here ?_); first
                    | (refine wpList_exec_gd (by rfl) (exec_neV_same 115 116 _ t3 HTK.out.root rfl rfl rfl) ?_)
                    | (refine wpList_load_gd 48 (.tmp 11) rfl (by rfl) _ _ (vcells t3) HV.out rfl _ val_under rfl HVS.out ?_)
                    | (refine wpList_load_gd 48 (.tmp 7) rfl (by rfl) _ _ (vcells t3) HU.out rfl _ val_under rfl HVS.out ?_))
                  go_wp2_with ((with_reducible refine wpList_here ?_); first
                    | (refine wpList_store_blk rfl 48 (.tmp 7) (.tmp 119) rfl _ _ (vcells t3) (vcells t3) HU.out rfl rfl (HVL.out.trans HUL.out.symm) HVS.out (vcells_one _) ?_
                       intro wz hBz kz zz
                       have HMz := Lib.hid (HSP.out wz kz hBz)
                       have e5 := HE5.out
                       clear hBz kz zz q0 q1 v0 v1 u0' u1' e1 d1 d2 d3 d1n d2n)
                    | (refine wpList_load_blk rfl 48 (.tmp 11) rfl _ _ (vcells t3) HV.out rfl _ val_under rfl HVS.out ?_))
                  clear e5
                  go_roundw
                  case rel => exact ⟨k1', t3, Disk.on D3, W3, c3, by rw [HK1.out]; exact HLT.out, rfl, by rw [HK1.out]; exact HMz.out, rfl⟩
                  case measure => have := HK1.out; have := HLT.out; simp [intOf]; omega
            case' neg =>
              -- nothing of its own
              obtain ⟨h1, rfl⟩ := HRI.out.no hkd
              obtain rfl : t3 = t := h1
              have t1 : (x.kind == 0) = false := beq_eq_false_iff_ne.2 hkd
              have HKD := Lib.hid hkd
              clear hkd
              go_upto_region 24 with fail
              go_upto_region 26 with ((with_reducible refine wpList_here ?_); first
                | (refine wpList_exec_gd (by rfl) (exec_neV_same 115 116 _ t3 HTK.out.root rfl rfl rfl) ?_)
                | (refine wpList_load_gd 48 (.tmp 11) rfl (by rfl) _ _ (vcells t3) HV.out rfl _ val_under rfl HVS.out ?_)
                | (refine wpList_load_gd 48 (.tmp 7) rfl (by rfl) _ _ (vcells t3) HU.out rfl _ val_under rfl HVS.out ?_))
              go_wp2_with ((with_reducible refine wpList_here ?_); first
                | (refine wpList_store_blk rfl 48 (.tmp 7) (.tmp 119) rfl _ _ (vcells t3) (vcells t3) HU.out rfl rfl (HVL.out.trans HUL.out.symm) HVS.out (vcells_one _) ?_
                   intro wz hBz kz zz
                   have HMz := Lib.hid (HSP.out wz kz hBz)
                   have e5 := HE5.out
                   clear hBz kz zz q0 q1 v0 v1 u0' u1' e1 d1 d2 d3 d1n d2n)
                | (refine wpList_load_blk rfl 48 (.tmp 11) rfl _ _ (vcells t3) HV.out rfl _ val_under rfl HVS.out ?_))
              clear e5
              go_roundw
              case rel => exact ⟨k1', t3, Disk.on D3, W3, c3, by rw [HK1.out]; exact HLT.out, rfl, by rw [HK1.out]; exact HMz.out, rfl⟩
              case measure => have := HK1.out; have := HLT.out; simp [intOf]; omega
    · obtain rfl : k = n := by omega
      clear hlt hk
      go_wp2
      go_ret
      exact ⟨rfl, HM.out.md.k⟩
theorem rises_walk (mo : Int) (A : Option Addr) (n c : Nat) (cs : List Mc) (w : World) (w0 : (Lit.int .i64 mo).wf = true) (hn : cs.length = n) (hn0 : A = none → c = 0) (hr : Row w A (cs.flatMap Mc.cells)) (hc : n ≤ c) (hm : c ≤ maxLen) (hw : ∀ c ∈ cs, McOk c) :
    Calls Try.prog 4 #[.int .i64 mo, .slice A n c] w fun e w' => e = .returned (.bool true) ∧ Kp nob w w' := by
  by_cases h : 80 < n
  · have d1 : decide ((80 : Int) < (n : Int)) = true := decide_eq_true (by omega)
    clear hn hr hw hc hm hn0 w0 h
    go_enter Try.func4, Try.ntmps4
    go_wp2_with fail
    refine (alive_yes w).mono ?_
    rintro e w1 ⟨rfl, k1⟩
    go_wp2
    go_ret
    exact ⟨rfl, k1⟩
  · exact rises_yes mo A n c cs w hn hr hw (by omega)
end Go.Proofs.Ytchdobneipfghaa.Meter
