/- coffretlaw16.ChainBack. -/
import Derived.Test.YtndkmfflpphoiaaZChaBk
import Derived.Test.YtndkmfflpphoiaaZG19
set_option linter.unusedVariables false
set_option linter.unusedSimpArgs false
namespace Go.Proofs.Ytndkmfflpphoiaa.Disk
open Go Go.RowKit Kit
theorem mk2_bvs (u : UInt8) (i : Nat) (h : i < 256) : bvs (mk2 u i) = [.int .u8 (u.toNat : Int), .int .u8 (i : Int)] := by
  simp only [mk2, bvs, List.map_cons, List.map_nil, bv_ofNat, bv]
  rw [show (UInt8.ofNat i).toNat = i by simp; omega]
theorem full_cells (u : UInt8) (i : Nat) (h : i < 256) : (bvs (full (mk2 u i)))[0]? = some (.int .u8 (u.toNat : Int)) ∧ (bvs (full (mk2 u i)))[1]? = some (.int .u8 (i : Int)) := by
  rw [full, bvs_append, mk2_bvs u i h]
  exact ⟨rfl, rfl⟩
theorem u64_range {n : Int} (h : (Lit.int .u64 n).wf = true) : 0 ≤ n ∧ n ≤ 18446744073709551615 := by
  simp [Lit.wf, IntKind.min, IntKind.max, IntKind.signed, IntKind.bits] at h
  omega
set_option maxHeartbeats 4000000 in
set_option maxRecDepth 100000 in
theorem back_walk (n epoch : Int) (T0 : Option Addr) (p cp : Nat) (ts : List (List UInt8)) (keep x : Int) (w : World) (hn : (Lit.int .i64 n).wf = true) (he : (Lit.int .i64 epoch).wf = true)
    (hl : ts.length = p) (hn1 : T0 = none → cp = 0) (hr : Row w T0 (ts.map fun s => .string (str s))) (hc : p ≤ cp) (hm : cp ≤ maxLen) (hw : ∀ s ∈ ts, s.length ≤ 140737488355328) (hk : (Lit.int .u64 keep).wf = true) (hx : (Lit.int .u8 x).wf = true) :
    Calls Try.prog 4 #[.int .i64 n, .int .i64 epoch, .slice T0 p cp, .int .u64 keep, .int .u8 x] w fun e w' => e = .returned (.bool true) ∧ Kp nob w w' := by
  have HAL := Lib.hid (fun w => alive_yes areaP half_c left_c add_c w)
  have HI := Lib.hid (i64_range he)
  have hkr := u64_range hk
  obtain ⟨u, hu⟩ := u8_wf hx
  obtain rfl : (u.toNat : Int) = x := by simp only [bv, Value.int.injEq] at hu; exact hu.2.symm
  clear hn he hk hx hu
  by_cases hbad : n < 0 ∨ 200 < n ∨ epoch < 0 ∨ 20 < p
  · have hb : (n < 0 ∨ ¬ n < 0 ∧ 200 < n) ∨ (¬ n < 0 ∧ ¬ 200 < n ∧ epoch < 0) ∨ (¬ n < 0 ∧ ¬ 200 < n ∧ ¬ epoch < 0 ∧ (20 : Int) < (p : Int)) := by omega
    clear hbad
    rcases hb with (h | ⟨h, h2⟩) | ⟨h, h2, h3⟩ | ⟨h, h2, h3, h4⟩
    all_goals
      go_enter Try.func4, Try.ntmps4
      go_wp2_with fail
      refine (HAL.out _).mono ?_
      rintro e w1 ⟨rfl, k1⟩
      go_wp2
      go_ret
      exact ⟨rfl, k1⟩
  obtain ⟨N0, rfl⟩ := Int.eq_ofNat_of_zero_le (show 0 ≤ n by omega)
  obtain ⟨K, rfl⟩ := Int.eq_ofNat_of_zero_le hkr.1
  have HKR := Lib.hid (show K < 18446744073709551616 by omega)
  have hcl : clamp (N0 : Int) = N0 := by unfold clamp; omega
  have hnew := new_any (N0 : Int)
  rw [hcl] at hnew
  have HNW := Lib.hid hnew
  have HP := Lib.hid (And.intro hl (And.intro hr hw))
  have hb1 : ¬ (N0 : Int) < 0 := by omega
  have hb2 : ¬ (200 : Int) < (N0 : Int) := by omega
  have hb3 : ¬ epoch < 0 := by omega
  have hb4 : ¬ (20 : Int) < (p : Int) := by omega
  have HBB : Hid (N0 ≤ 200 ∧ p ≤ 20 ∧ 0 ≤ epoch) := Lib.hid (by omega)
  obtain ⟨odd, hodd⟩ : ∃ odd, odd = decide (epoch % 2 = 1) := ⟨_, rfl⟩
  obtain ⟨h, hh⟩ : ∃ h, h = N0 / 2 := ⟨_, rfl⟩
  obtain ⟨O, hO⟩ : ∃ O, O = othO N0 odd := ⟨_, rfl⟩
  obtain ⟨r, hr2⟩ : ∃ r, r = epoch % 2 := ⟨_, rfl⟩
  have hr01 : (r = 0 ∧ odd = false) ∨ (r = 1 ∧ odd = true) := by
    rcases (show epoch % 2 = 0 ∨ epoch % 2 = 1 by omega) with e | e
    · left; rw [hr2, hodd, e]; exact ⟨rfl, rfl⟩
    · right; rw [hr2, hodd, e]; exact ⟨rfl, rfl⟩
  have HQ1 : IsQuo (N0 : Int) 2 (h : Int) := ⟨by decide, by rw [Int.tdiv_eq_ediv_of_nonneg (by omega), IntWalk.i64_in _ (by omega)]; omega⟩
  have HQ2 : IsRem epoch 2 r := ⟨by decide, by rw [Int.tmod_eq_emod_of_nonneg (by omega), hr2]⟩
  obtain ⟨o, ho⟩ : ∃ o : Int, o = 1 - r := ⟨_, rfl⟩
  have e1 : IntKind.i64.wrap (1 - r) = o := by rw [IntWalk.i64_in _ (by omega), ho]
  have hoh : o * (h : Int) = (O : Int) := by
    rcases hr01 with ⟨h1, h2⟩ | ⟨h1, h2⟩
    · rw [ho, h1, hO, h2, hh]; simp [othO]
    · rw [ho, h1, hO, h2]; simp [othO]
  have hO2 : O + h ≤ N0 := by
    rw [hO, hh]; unfold othO; cases odd <;> simp <;> omega
  have e2 : IntKind.i64.wrap (o * (h : Int)) = (O : Int) := by rw [hoh, IntWalk.i64_in _ (by omega)]
  have HE := Lib.hid (And.intro e1 (And.intro e2 (And.intro hO2 (And.intro hh (And.intro hO hodd)))))
  have hh100 : h ≤ 100 := by omega
  clear hnew hcl hl hr hc hm hw hn1 hbad hodd hh hO hr2 hr01 ho hoh hO2 hkr e1 e2
  go_enter Try.func4, Try.ntmps4
  go_wp2_with fail
  refine (HAL.out _).mono ?_
  rintro e w0 ⟨rfl, k0⟩
  have HK0 := Lib.hid k0
  clear k0
  go_wp2_with fail
  refine (HNW.out _).mono ?_
  rintro e w1 ⟨g, N, S, rfl, hd1, k1, hn1⟩
  have hg1 : Gd w w1 g N S none 0 (new N0) noA nob := Gd.first hd1 (HK0.out.trans k1 (fun _ e => e.elim)) (fun j e => Nat.le_trans HK0.out.size (hn1 j e))
  have HG1 := Lib.hid hg1
  clear hd1 k1 hn1 hg1
  go_wp2_with ((with_reducible refine at_list ?_); first | (refine wpList_gd (by rfl) (exec_quo (.tmp 49) (.const (.int .i64 2)) (N0 : Int) 2 (h : Int) rfl rfl rfl HQ1) ?_))
  go_loopw [13] (fun iv wr => ∃ i : Nat, iv = .int .i64 i ∧ i ≤ h ∧ ∃ (D : Dk) (W : Option Addr) (cW : Nat), Gd w wr g N S W cW D noA nob ∧ Fo1 N0 O u i D)
    (fun iv _ => h - (intOf iv).toNat)
  case atStart => exact ⟨0, rfl, Nat.zero_le _, new N0, none, 0, HG1.out, fo1_new N0 O u⟩
  case round =>
    rename World => wr
    obtain ⟨i, rfl, hi, D, W, cW, hg, hf⟩ := hrel
    have HG := Lib.hid hg
    have HF := Lib.hid hf
    clear hg hf
    by_cases hlt : i < h
    · have hlt2 : (i : Int) < (h : Int) := by omega
      have e1 := HE.out.1
      have e2 := HE.out.2.1
      have e3 : IntKind.i64.wrap ((O : Int) + (i : Int)) = (O : Int) + (i : Int) := by have := HE.out.2.2.1; have := HBB.out; rw [IntWalk.i64_in _ (by omega)]
      have e4 : IntKind.u8.wrap (i : Int) = (i : Int) := by simp [IntKind.wrap, IntKind.bits, IntKind.signed]; omega
      have hb : Row (wr.alloc (.cells #[.int .u8 (u.toNat : Int), .int .u8 (i : Int)] 5)) (some ⟨wr.heap.size, 0, none⟩) (bvs (mk2 u i)) := by
        rw [mk2_bvs u i (by omega)]; exact row_new wr _ _
      have ka : Kp nob wr (wr.alloc (.cells #[.int .u8 (u.toNat : Int), .int .u8 (i : Int)] 5)) := (Kp.refl nob wr).alloc _
      have hfg := forge_any D ((O + i : Nat) : Int) (some ⟨wr.heap.size, 0, none⟩) 2 2 (mk2 u i) g N S W cW _ (HG.out.cd.keep0 ka) rfl hb (by omega) (by rw [HF.out.waits]; simp)
      rw [Int.natCast_add] at hfg
      have HFG := Lib.hid hfg
      have hfo := HF.out.forge (i := i) (by have := HE.out.2.2.1; omega)
      rw [Int.natCast_add] at hfo
      have HF2 := Lib.hid hfo
      have HKA := Lib.hid ka
      clear hfg hfo ka hb hi
      go_wp2_with ((with_reducible refine at_list ?_); first | (refine wpList_gd (by rfl) (exec_rem (.tmp 57) (.const (.int .i64 2)) epoch 2 r rfl rfl rfl HQ2) ?_))
      refine HFG.out.mono ?_
      rintro e w5 ⟨rfl, hz⟩
      obtain ⟨W2, c2, hg2, _⟩ := (HG.out.keep0 HKA.out).disk hz
      have HG2 := Lib.hid hg2
      clear hz hg2
      go_wp2
      go_roundw
      case rel => exact ⟨i + 1, by go_num, hlt, _, W2, c2, HG2.out, HF2.out⟩
      case measure => simp [intOf]; omega
    · obtain rfl : h = i := by omega
      clear hlt hi
      go_wp2_with fail
      refine (half_c D g N S W cW epoch wr HG.out.cd (by have := HI.out; have := HBB.out; omega)).mono ?_
      rintro e w2 ⟨a, rfl, ha, k2, hna⟩
      rw [HF.out.len, ← HE.out.2.2.2.2.2] at ha
      have hg2 := HG.out.half k2 ha hna
      have hbk : Bk N0 O h (aHalf N0 odd).pos u D (aHalf N0 odd) [] 0 := by
        have h1 := HE.out.2.2.2.1
        have h2 := HE.out.2.2.2.2.1
        have h3 := HF.out
        rw [h1, h2] at h3 ⊢
        exact bk_new h3
      obtain ⟨A0, hA0⟩ : ∃ A0, A0 = aHalf N0 odd := ⟨_, rfl⟩
      rw [← hA0] at hg2 hbk
      have HG2 := Lib.hid (And.intro hg2 (And.intro hbk hA0))
      clear hg2 hbk hA0 ha k2 hna
      go_wp2
      go_loopw [15, 74] (fun v15 iv wx => ∃ k : Nat, iv = .int .i64 k ∧ k ≤ p ∧ ∃ (D : Dk) (W : Option Addr) (cW : Nat) (A : Ar) (U : Option Addr) (m c : Nat) (us : List (List UInt8)) (B : Nat → Prop), v15 = .slice U m c ∧ Gd w wx g N S W cW D (upA noA a A) B ∧ Lst wx U m c us B ∧ Bk N0 O h A0.pos u D A us k ∧ m ≤ k ∧ A.top = A0.top)
        (fun _ iv _ => p - (intOf iv).toNat)
      case atStart => exact ⟨0, rfl, Nat.zero_le _, D, W, cW, A0, none, 0, 0, [], nob, rfl, HG2.out.1, Lst.nil _ _, HG2.out.2.1, Nat.le_refl _, rfl⟩
      case round =>
        rename World => wx
        obtain ⟨k, rfl, hk, D, W, cW, A, U, m, c, us, B, rfl, hg, hu, hb, hmk, hat⟩ := hrel
        have HS := Lib.hid (And.intro hg (And.intro hu (And.intro hb (And.intro hmk hat))))
        clear hg hu hb hmk hat
        have htw : (upA noA a A) a = some A := upA_same _ _ _
        have HTW := Lib.hid htw
        clear htw
        by_cases hip : k < p
        · obtain ⟨bb, oo, s, rfl, hcell, hsm⟩ := row_str (HP.out.2.1.keep0 HS.out.1.kp) (k := k) (by rw [HP.out.1]; exact hip)
          have hsz := str_size s
          have hip2 : (k : Int) < (p : Int) := by omega
          by_cases hlen : 4096 < s.length
          · have hlen2 : (4096 : Int) < (s.length : Int) := by omega
            clear hip hsm hlen
            go_wp2
            go_ret
            exact ⟨rfl, HS.out.1.kp⟩
          · have hlen2 : ¬ ((4096 : Int) < (s.length : Int)) := by omega
            have hF := fun w' => framed_any s w' (by omega)
            have hfl := frm_flen s (by omega)
            have hf0 := frm_pos s
            have hfn : (frm s).length ≤ 4200 := by rw [frm_length]; omega
            obtain ⟨fr, hfr⟩ : ∃ fr, fr = frm s := ⟨_, rfl⟩
            rw [← hfr] at hF hfl hf0 hfn
            obtain ⟨n1, hn1⟩ : ∃ n1, n1 = fr.length := ⟨_, rfl⟩
            rw [← hn1] at hF
            have HF := Lib.hid hF
            have HX := Lib.hid (And.intro hfl (And.intro hf0 (And.intro hfn hn1)))
            have HIP := Lib.hid (show k < p ∧ k ≤ 20 by have := HBB.out; omega)
            have hk20 := HIP.out.2
            clear hF hfl hf0 hfn hfr hn1 hip hlen hsm hk
            go_wp2_with fail
            refine (HF.out wx).mono ?_
            rintro e w4 ⟨X1, c1, rfl, hr4, k4, hc1, hc2, hc3, hn4⟩
            have hg4 := HS.out.1.grow k4 (fun j e => e.elim)
            have hu4 := (HS.out.2.1.keep0 k4).more (B2 := plusB B wx.heap.size w4.heap.size) (fun j e => .inl e)
            have hbk := HS.out.2.2.1
            have hrl := hr4.lt (fun e => HX.out.2.1 (by rw [← bvs_length fr, e]; rfl))
            have hadd := add_c D g N S W cW a A X1 n1 c1 fr w4 hg4.cd (hg4.ar a A HTW.out).1 (hg4.ar a A HTW.out).2.2 hbk.ad.pos (by rw [hbk.ad.size]; exact hbk.ad.top) (hbk.far (by have := HIP.out; omega)) HX.out.2.2.2.symm hr4 hc1 hc2 hc3 (.inr (fun j e => hg4.apart HTW.out (.inr ⟨hn4 j e, hrl j e⟩))) (by have := HX.out; omega)
            have hcase := hbk.add fr HX.out.1 HX.out.2.1
            have hr4' : Hid (Row w4 X1 (bvs fr) ∧ ∀ j, ab X1 = some j → plusB B wx.heap.size w4.heap.size j) := Lib.hid ⟨hr4, fun j e => .inr ⟨hn4 j e, hrl j e⟩⟩
            have H4 := Lib.hid (And.intro hg4 hu4)
            rcases hcase with ⟨hok, hb2⟩ | hfull
            · rw [hok] at hadd
              have HAD := Lib.hid hadd
              have HB2 := Lib.hid hb2
              clear hadd hok hb2 hbk hg4 hu4 hrl hr4 k4 hc1 hc2 hc3 hn4
              go_wp2_with fail
              refine HAD.out.mono ?_
              rintro e w5 ⟨rfl, p5⟩
              obtain ⟨W5, c5, hg5, k5⟩ := H4.out.1.add HTW.out p5
              rw [upA_upA] at hg5
              have hu5 := H4.out.2.keep k5 (fun j e e2 => H4.out.1.apart HTW.out e2 e)
              have hr5 : Row w5 X1 (bvs fr) := hr4'.out.1.keep k5 (fun j e e2 => H4.out.1.apart HTW.out (hr4'.out.2 j e) e2)
              have k6a : Kp nob w5 (w5.alloc (.cells #[.string (str fr)] 9)) := (Kp.refl nob w5).alloc _
              have hg6 := hg5.grow k6a (fun j e => e.elim)
              have hu6 := (hu5.keep0 k6a).more (B2 := plusB (plusB B wx.heap.size w4.heap.size) w5.heap.size (w5.alloc (.cells #[.string (str fr)] 9)).heap.size) (fun j e => .inl e)
              have H6 := Lib.hid (And.intro hg6 hu6)
              obtain ⟨i0, hi1, hi2, hi3, hi4⟩ := info_parts strI_
              have HN1 := Lib.hid HX.out.2.2.2
              have hm30 : m ≤ 100 := by have := HS.out.2.2.2.1; omega
              clear hg5 hu5 k5 p5 hg6 hu6 k6a
              go_wp2_with (first
                | (refine wpList_gd (by rfl) (exec_bs2 (.tmp 91) X1 n1 c1 fr rfl rfl HN1.out.symm hr5) ?_)
                | (refine wpList_appKO_gd _ (.tmp 90) (.tmp 93) 47 rfl (by rfl) 1 (by decide) 9 i0 _ 16 strs_under hi1 hi2 hi3 hi4 rfl U m c (lsv us) rfl H6.out.2.own (some ⟨w5.heap.size, 0, none⟩) 1 1 [.string (str fr)] rfl (fun e => by cases e) rfl (row_new w5 [.string (str fr)] _) (fun u hu => by rcases List.mem_singleton.1 hu with rfl; rfl) (by omega) (by simp [maxLen]; omega) ?_)
                | fail)
              intro U2 cu w7 hU hgr hab7
              have hap := H6.out.1.app H6.out.2 hU hgr (hab7.imp id (fun h => by rw [h]; simp))
              have HAP := Lib.hid (And.intro hap.1 hap.2.1)
              clear hap hU hgr hab7 hr5 hm30 hi1 hi2 hi3 hi4
              go_wp2
              go_roundw
              case rel => exact ⟨k + 1, by go_num, HIP.out.1, _, W5, c5, _, U2, m + 1, cu, us ++ [fr], _, rfl, HAP.out.1, HAP.out.2, HB2.out, by have := HS.out.2.2.2.1; omega, by rw [aAdd_top]; exact HS.out.2.2.2.2⟩
              case measure => simp [intOf]; have := HIP.out; omega
            · have HAD := Lib.hid hadd
              have HFU := Lib.hid hfull
              rw [hfull] at HAD
              clear hadd hfull hbk hg4 hu4 hrl hr4 k4 hc1 hc2 hc3 hn4
              go_wp2_with fail
              refine HAD.out.mono ?_
              rintro e w5 ⟨rfl, p5⟩
              obtain ⟨W5, c5, hg5, k5⟩ := H4.out.1.add HTW.out p5
              rw [upA_upA, HFU.out] at hg5
              have hu5 := H4.out.2.keep k5 (fun j e e2 => H4.out.1.apart HTW.out e2 e)
              have H5 := Lib.hid (And.intro hg5 hu5)
              clear hg5 hu5 k5 p5
              go_wp2
              go_roundw
              case rel => exact ⟨k + 1, by go_num, HIP.out.1, D, W5, c5, A, U, m, c, us, _, rfl, H5.out.1, H5.out.2, HS.out.2.2.1.up, by have := HS.out.2.2.2.1; omega, HS.out.2.2.2.2⟩
              case measure => simp [intOf]; have := HIP.out; omega
        · obtain rfl : p = k := by omega
          clear hip hk
          have hbk := HS.out.2.2.1
          have hsy := sync_yes D hbk.ad.off hbk.ad.fuse
          have hp20 : p ≤ 20 := HBB.out.2.1
          have hcs := sync_any D g N S W cW wx HS.out.1.cd (by have := hbk.wt; omega) (by have := hbk.ac; omega) (by rw [hbk.ad.fuse]; omega) (by rw [hbk.kp]; omega)
          obtain ⟨D1, hD1⟩ : ∃ D1, D1 = (sync E8 D).1 := ⟨_, rfl⟩
          have h2 : (sync E8 D).2 = 0 := by rw [hsy]
          have hw1 : D1.waits = [] := by rw [hD1, hsy]
          have hback := hbk.ad.back K
          rw [← hD1] at hback hcs
          rw [h2] at hcs
          obtain ⟨D2, hD2⟩ : ∃ D2, D2 = lose D1 K := ⟨_, rfl⟩
          rw [← hD2] at hback
          obtain ⟨D3, hD3⟩ : ∃ D3, D3 = on D2 := ⟨_, rfl⟩
          rw [← hD3] at hback
          have HC := Lib.hid hcs
          have HBK := Lib.hid hback
          have HD := Lib.hid (And.intro hw1 (And.intro hD2 hD3))
          have HOT : Hid (∀ j, j < h → D3.now[O + j]? = some (full (mk2 u j))) := Lib.hid (fun j hj => by rw [hback.2]; exact hbk.oth j hj)
          have HKB := Lib.hid hbk.kp
          clear hbk hsy hcs hD1 h2 hw1 hback hD2 hD3 hp20
          have hmb : m ≤ 100 := by have := HS.out.2.2.2.1; have := HBB.out; omega
          have HMB := Lib.hid hmb
          clear hmb
          go_wp2_with fail
          refine HC.out.mono ?_
          rintro e w2 ⟨rfl, hz⟩
          obtain ⟨W2, c2, hg2, k2⟩ := HS.out.1.disk hz
          have hu2 := HS.out.2.1.keep k2 (fun j e e2 => (HS.out.1.be j e2).2.2.1 e)
          have H2 := Lib.hid (And.intro hg2 hu2)
          clear hz hg2 hu2 k2
          go_wp2_with fail
          refine (off_any D1 K g N S W2 c2 w2 H2.out.1.cd (by rw [HD.out.1]; simp) HKR.out).mono ?_
          rintro e w3 ⟨rfl, hz⟩
          rw [← HD.out.2.1] at hz
          obtain ⟨W3, c3, hg3, k3⟩ := H2.out.1.disk hz
          have hu3 := H2.out.2.keep k3 (fun j e e2 => (H2.out.1.be j e2).2.2.1 e)
          have H3 := Lib.hid (And.intro hg3 hu3)
          clear hz hg3 hu3 k3
          go_wp2_with fail
          refine (on_any D2 g N S W3 c3 w3 H3.out.1.cd).mono ?_
          rintro e w4 ⟨rfl, hcd, kk⟩
          rw [← HD.out.2.2] at hcd
          obtain ⟨W4, c4, hg4, k4⟩ := H3.out.1.disk (one_z hcd kk)
          have hu4 := H3.out.2.keep k4 (fun j e e2 => (H3.out.1.be j e2).2.2.1 e)
          have H4 := Lib.hid (And.intro hg4 hu4)
          clear hcd kk hg4 hu4 k4
          go_wp2_with fail
          refine (half_c D3 g N S W4 c4 epoch w4 H4.out.1.cd (by have := HI.out; have := HBB.out; omega)).mono ?_
          rintro e w5 ⟨b, rfl, hb, k5, hnb⟩
          rw [HBK.out.1.size, ← HE.out.2.2.2.2.2, ← HG2.out.2.2] at hb
          have hg5 := H4.out.1.half k5 hb hnb
          have hu5 := H4.out.2.keep0 k5
          have hba : b ≠ a := by have := Blk.lt (H4.out.1.ar a _ HTW.out).1; omega
          have H5 := Lib.hid (And.intro hg5 (And.intro hu5 hba))
          clear hg5 hu5 hba hb k5 hnb
          have hmb : m ≤ 100 := HMB.out
          go_wp2
          go_loopw [108] (fun iv wy => ∃ k : Nat, iv = .int .i64 k ∧ k ≤ m ∧ ∃ (P : Nat) (t : Nat → Option Ar), t b = some ⟨A0.top, P⟩ ∧ t a = some A ∧ Gd w wy g N S W4 c4 D3 t B ∧ Lst wy U m c us B ∧ Fr D3.now P (us.drop k) A.pos)
            (fun iv _ => m - (intOf iv).toNat)
          case atStart => exact ⟨0, rfl, Nat.zero_le _, A0.pos, _, upA_same _ _ _, by rw [upA_ne _ _ _ _ (fun e => H5.out.2.2 e.symm)]; exact HTW.out, H5.out.1, H5.out.2.1, HBK.out.1.fr⟩
          case round =>
            rename World => wy
            obtain ⟨k2, rfl, hk, P, t, htb, hta, hg, hu, hfr⟩ := hrel
            have HR := Lib.hid (And.intro htb (And.intro hta (And.intro hg (And.intro hu hfr))))
            clear htb hta hg hu hfr
            have hxp : A.pos ≤ A0.top := by have h1 := HBK.out.1.pos; have h2 := HS.out.2.2.2.2; omega
            have htop : A0.top ≤ D3.now.length := by rw [HBK.out.1.size]; have h1 := HBK.out.1.top; have h2 := HS.out.2.2.2.2; omega
            have HXP := Lib.hid (And.intro hxp htop)
            clear hxp htop
            by_cases hkm : k2 < m
            · have hkm2 : (k2 : Int) < (m : Int) := by omega
              obtain ⟨bb, oo, s, rfl, hcell, hdrop⟩ := HR.out.2.2.2.1.at_ hkm
              have hfr := HR.out.2.2.2.2
              rw [hdrop] at hfr
              obtain ⟨hnx, hfr2⟩ := read_on HBK.out.1.off hfr HXP.out.1
              have hnp : (⟨A0.top, P⟩ : Ar).pos ≤ (⟨A0.top, P⟩ : Ar).top := by have h1 := hfr.le; have h2 := HXP.out.1; show P ≤ A0.top; omega
              have hcall := next_c D3 g N S W4 c4 b ⟨A0.top, P⟩ wy HR.out.2.2.1.cd (HR.out.2.2.1.ar b _ HR.out.1).1 (HR.out.2.2.1.ar b _ HR.out.1).2.2 hnp HXP.out.2
              rw [hnx] at hcall
              obtain ⟨n1, hn1⟩ : ∃ n1, n1 = s.length := ⟨_, rfl⟩
              simp only at hcall
              rw [← hn1] at hcall
              have HCC := Lib.hid hcall
              have HX := Lib.hid (And.intro hfr2 (And.intro hn1 hkm))
              clear hcall hnx hfr hfr2 hn1 hnp hdrop hkm hk
              go_wp2_with fail
              refine HCC.out.mono ?_
              rintro e w6 ⟨X5, c5, rfl, hr5, _, _, _, _, k6, hi5⟩
              have hg6 := HR.out.2.2.1.next HR.out.1 k6 hi5
              have hap : ∀ j, oneB b j → ¬ B j := fun j e e2 => HR.out.2.2.1.apart HR.out.1 e2 (.inr e)
              have hu6 := HR.out.2.2.2.1.keep k6 hap
              have H6 := Lib.hid (And.intro hg6 hu6)
              clear hg6 hu6 k6 hi5 hap
              go_wp2_with (first
                | (refine wpList_gd (by rfl) (exec_bs2 (.tmp 120) X5 n1 c5 s rfl rfl HX.out.2.1.symm hr5) ?_)
                | fail)
              go_roundw
              case rel => exact ⟨k2 + 1, by go_num, HX.out.2.2, _, _, upA_same _ _ _, by rw [upA_ne _ _ _ _ (fun e => H5.out.2.2 e.symm)]; exact HR.out.2.1, H6.out.1, H6.out.2, HX.out.1⟩
              case measure => simp [intOf]; have := HX.out.2.2; omega
            · obtain rfl : m = k2 := by omega
              have hP : P = A.pos := by
                have hfr := HR.out.2.2.2.2
                rw [List.drop_of_length_le (by rw [HR.out.2.2.2.1.len]; exact Nat.le_refl _)] at hfr
                exact hfr.end_
              have hAA : (⟨A0.top, P⟩ : Ar) = A := by rw [hP, ← HS.out.2.2.2.2]
              have htb := HR.out.1
              rw [hAA] at htb
              have hnx := next_end HBK.out.1
              have hcall := next_c D3 g N S W4 c4 b A wy HR.out.2.2.1.cd (HR.out.2.2.1.ar b _ htb).1 (HR.out.2.2.1.ar b _ htb).2.2 HBK.out.1.pos (by rw [HBK.out.1.size]; exact HBK.out.1.top)
              rw [hnx] at hcall
              have HCC := Lib.hid hcall
              have HTB := Lib.hid htb
              clear hcall hnx htb hAA hP hkm hk
              go_wp2_with fail
              refine HCC.out.mono ?_
              rintro e w6 ⟨X5, c5, rfl, _, _, _, _, _, k6, hi5⟩
              have hg6 := HR.out.2.2.1.next HTB.out k6 hi5
              have H6 := Lib.hid (And.intro hg6 (And.intro (upA_same t b A) (show (upA t b A) a = some A by rw [upA_ne _ _ _ _ (fun e => H5.out.2.2 e.symm)]; exact HR.out.2.1)))
              clear hg6 k6 hi5
              have hh3 : h ≤ 100 := by have := HE.out.2.2.1; have := HE.out.2.2.2.1; have := HBB.out; omega
              go_wp2
              go_loopw [27] (fun iv wz => ∃ i : Nat, iv = .int .i64 i ∧ i ≤ h ∧ ∃ t : Nat → Option Ar, Gd w wz g N S W4 c4 D3 t B ∧ t b = some A ∧ t a = some A)
                (fun iv _ => h - (intOf iv).toNat)
              case atStart => exact ⟨0, rfl, Nat.zero_le _, _, H6.out⟩
              case round =>
                rename World => wz
                obtain ⟨i, rfl, hi, t2, hg, htb, hta⟩ := hrel
                have HR := Lib.hid (And.intro hg (And.intro htb hta))
                clear hg htb hta
                by_cases hlt : i < h
                · have hlt2 : (i : Int) < (h : Int) := by omega
                  have e1 := HE.out.1
                  have e2 := HE.out.2.1
                  have e3 : IntKind.i64.wrap ((O : Int) + (i : Int)) = (O : Int) + (i : Int) := by have := HE.out.2.2.1; have := HBB.out; rw [IntWalk.i64_in _ (by omega)]
                  have e4 : IntKind.u8.wrap (i : Int) = (i : Int) := by simp [IntKind.wrap, IntKind.bits, IntKind.signed]; omega
                  have hrd := read_yes D3 (O + i) (full (mk2 u i)) g N S W4 c4 wz HR.out.1.cd HBK.out.1.off (HOT.out i hlt)
                  rw [Int.natCast_add] at hrd
                  have HRD := Lib.hid hrd
                  clear hrd hi
                  go_wp2_with ((with_reducible refine at_list ?_); first | (refine wpList_gd (by rfl) (exec_rem (.tmp 138) (.const (.int .i64 2)) epoch 2 r rfl rfl rfl HQ2) ?_))
                  refine HRD.out.mono ?_
                  rintro e w7 ⟨kb, rfl, hbk, k7, _⟩
                  obtain ⟨q0, q1⟩ := full_cells u i (by omega)
                  have c0 : w7.cell? ⟨kb, 0, none⟩ = some (.int .u8 (u.toNat : Int)) := (hbk.cell 0).trans q0
                  have c1 : w7.cell? ⟨kb, 1, none⟩ = some (.int .u8 (i : Int)) := (hbk.cell 1).trans q1
                  have HG7 := Lib.hid (HR.out.1.keep0 k7)
                  clear hbk k7 q0 q1
                  go_wp2
                  go_roundw
                  case rel => exact ⟨i + 1, by go_num, hlt, t2, HG7.out, HR.out.2⟩
                  case measure => simp [intOf]; omega
                · obtain rfl : h = i := by omega
                  have hat := HS.out.2.2.2.2
                  have hl1 := fun wq (hq : IsA wq b g A) => left_c b g A wq hq HBK.out.1.pos (by have h1 := HBK.out.1.top; have := HBB.out; omega)
                  have hl2 := fun wq (hq : IsA wq a g A) => left_c a g A wq hq HBK.out.1.pos (by have h1 := HBK.out.1.top; have := HBB.out; omega)
                  obtain ⟨LL, hLL⟩ : ∃ LL, LL = A.top - A.pos := ⟨_, rfl⟩
                  rw [← hLL] at hl1 hl2
                  have HL1 := Lib.hid hl1
                  have HL2 := Lib.hid hl2
                  clear hl1 hl2 hLL hat hlt hi
                  go_wp2_with fail
                  refine (HL1.out wz (HR.out.1.ar b A HR.out.2.1).1).mono ?_
                  rintro e w7 ⟨rfl, k7⟩
                  have HG7 := Lib.hid (HR.out.1.keep0 k7)
                  clear k7
                  go_wp2_with fail
                  refine (HL2.out w7 (HG7.out.ar a A HR.out.2.2).1).mono ?_
                  rintro e w8 ⟨rfl, k8⟩
                  have HKE := Lib.hid ((HG7.out.keep0 k8).kp)
                  clear k8
                  go_wp2
                  go_ret
                  exact ⟨rfl, HKE.out⟩
end Go.Proofs.Ytndkmfflpphoiaa.Disk
