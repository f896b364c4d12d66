/- Contract of the document's own digest. -/
import Derived.Test.YtnpidcehioljaaaDoorShaG
import Derived.Test.YtnpidcehioljaaaDoorStill
namespace Go.Proofs.YtnpidcehioljaaaDoor.Sha
open Go Go.RowKit Kit

theorem dig_zero (s : St) : dig s 0 = List.replicate 32 0 := by simp [dig]
theorem uvs8 (s : St) : (uvs s.list).length = 8 := rfl
theorem padded_mod (l : List UInt8) : (padded l).length % 64 = 0 := by rw [padded_eq, List.length_append]; exact tail_length _

set_option maxHeartbeats 2000000 in
set_option maxRecDepth 100000 in
theorem fOf (A : Option Addr) (n c : Nat) (l : List UInt8) (w : World) (hn : l.length = n) (hl : n ≤ 1099511627776) (hA : A = none → c = 0) (hr : Row w A (bvs l)) :
    Calls Tryd.prog 17 #[.slice A n c] w fun e w' => e = .returned (.agg (bvs (of l)).toArray) ∧ Kp nob w w' := by
  go_enter Tryd.func17, Tryd.ntmps17
  go_wp2_with (first
    | (refine wpList_built rfl 53 _ rfl (.agg (uvs H0.list).toArray) (by kernel_rfl) ?_)
    | (refine wpList_store_newAt rfl 53 (.tmp 3) (.tmp 11) rfl _ (uvs H0.list) (w.heap.size + 1) (by simp) rfl rfl rfl (by kernel_rfl) (uvs_one _) ?_
       intro w2 hB2 k2 z2
       have hR2 : Hid (∃ z, Blk w2 w.heap.size 34 z ∧ z.length = 32) := Lib.hid ⟨_, (Blk.new' (w := w) rfl rfl).keep k2 (fun e => e), rfl⟩
       have K2 : Kp nob w w2 := ((Kp.refl nob w).alloc _).trans k2 (fun _ e => e.elim)
       have HB2 := Lib.hid hB2; have HZ2 := Lib.hid z2
       clear k2 hB2 z2))
  refine (fPadded A n c l _ hn hl hA (hr.keep0 K2)).mono ?_
  rintro e w3 ⟨P, cP, rfl, hP, k3, g3⟩
  have hB3 := HB2.out.keep k3 (fun e => e)
  have K3 := K2.trans k3 (fun _ e => e.elim)
  have hR3 : Hid (∃ z, Blk w3 w.heap.size 34 z ∧ z.length = 32) := by
    obtain ⟨z, h1, h2⟩ := hR2.out
    exact Lib.hid ⟨z, h1.keep k3 (fun e => e), h2⟩
  have ltP := hP.lt
  have HP := Lib.hid hP; have HB3 := Lib.hid hB3; have HS3 := Lib.hid k3.size
  clear hP hB3 hR2 HB2 k3 K2
  obtain ⟨N, hN⟩ : ∃ N, N = (padded l).length := ⟨_, rfl⟩
  have hNm : N % 64 = 0 := by rw [hN]; exact padded_mod l
  have hNl : N ≤ 1099511627776 + 200 := by rw [hN, padded_eq, List.length_append, tail]; simp; omega
  rw [← hN] at HP ⊢
  have HN := Lib.hid hN; clear hN
  go_wp2_with fail
  refine (fNumbers _).mono ?_
  rintro e w4 ⟨rfl, k4⟩
  have HB4 := Lib.hid (HB3.out.keep k4 (fun e => e)); have HP4 := Lib.hid (HP.out.keep k4 (fun _ _ e => e))
  have K4 := K3.trans k4 (fun _ e => e.elim)
  have hR4 : Hid (∃ z, Blk w4 w.heap.size 34 z ∧ z.length = 32) := by
    obtain ⟨z, h1, h2⟩ := hR3.out
    exact Lib.hid ⟨z, h1.keep k4 (fun e => e), h2⟩
  have HS4 := Lib.hid k4.size
  clear hR3 HB3 HP K3 k4
  go_wp2_with (refine wpList_store_new rfl 55 (.tmp 5) (.tmp 14) rfl _ (uvs Ks) rfl rfl rfl (by kernel_rfl) (uvs_one _) ?_; intro w5 hB5 k5 z5)
  have K5 := K4.trans k5 (fun _ e => e.elim)
  have q1 : Hid (Blk w5 (w.heap.size + 1) 53 (uvs H0.list)) := Lib.hid (HB4.out.keep k5 (fun e => e))
  have q2 : Hid (Own 5 w5 P N cP (bvs (padded l))) := Lib.hid (HP4.out.keep k5 (fun _ _ e => e))
  have q3 : Hid (∃ z, Blk w5 w.heap.size 34 z ∧ z.length = 32) := by
    obtain ⟨z, h1, h2⟩ := hR4.out
    exact Lib.hid ⟨z, h1.keep k5 (fun e => e), h2⟩
  have q4 := Lib.hid hB5
  have hs4 : w.heap.size + 2 ≤ w4.heap.size := by
    have := HB4.out.lt; omega
  have fP : ∀ k, ab P = some k → w.heap.size + 2 ≤ k ∧ k < w4.heap.size := fun k e => by
    have h1 := g3 k e; have h2 := ltP k e; have h3 := HS4.out; have h4 := HZ2.out; omega
  clear HB4 HP4 hR4 HS4 hB5 k5 z5 K4 HZ2
  go_wp2
  go_loopw [6] (fun vi wr => ∃ i : Nat, i ≤ N ∧ i % 64 = 0 ∧ vi = .int .i64 i ∧ Blk wr (w.heap.size + 1) 53 (uvs (run H0 (padded l) (i / 64)).list) ∧ Blk wr w4.heap.size 55 (uvs Ks) ∧ Own 5 wr P N cP (bvs (padded l)) ∧ (∃ z, Blk wr w.heap.size 34 z ∧ z.length = 32) ∧ Kp nob w wr)
    (fun vi _ => N - (intOf vi).toNat)
  case atStart => exact ⟨0, by omega, rfl, rfl, by rw [show 0 / 64 = 0 from rfl, run_zero]; exact q1.out, q4.out, q2.out, q3.out, K5⟩
  case round =>
    clear q1 q2 q3 q4 K5
    obtain ⟨i, hi, him, rfl, h1, h2, h3, ⟨z, h4, hz⟩, hkp⟩ := hrel
    have H1 := Lib.hid h1; have H2 := Lib.hid h2; have H3 := Lib.hid h3; have H4 := Lib.hid h4; have HZ := Lib.hid hz; have HIM := Lib.hid him
    have hcap := h3.cap.1
    clear h1 h2 h4 hz
    by_cases hlt : i < N
    · have hi64 : i + 64 ≤ N := by have := HIM.out; omega
      obtain ⟨p, oo, hPe, hpb, _⟩ := h3.row.at_ (i := i) (by rw [bvs_length, ← HN.out]; exact hlt)
      have hrow : Row wr (some ⟨p, oo + i, none⟩) (bvs (((padded l).drop i).take 64)) := by
        have := (h3.row.drop i).take 64
        rw [hPe] at this
        rw [bvs, List.map_take, List.map_drop]
        rw [Option.map_some, Addr.add_mid] at this
        exact this
      obtain ⟨j, hj⟩ : ∃ j, j = i + 64 := ⟨_, rfl⟩
      have hji : IntKind.i64.wrap ((i : Int) + 64) = (j : Int) := by rw [IntWalk.i64_in _ (by omega)]; omega
      have hsl : ∀ wx, (Instr.slice 22 (.slice P N cP) (some (.int .i64 i)) (some (.int .i64 j)) none).run Tryd.prog wx = .ok (.slice (some ⟨p, oo + i, none⟩) 64 (cP - i)) wx := fun wx => by
        have hz : ∀ w, (sizeOf 5).run Tryd.prog w = .ok 1 w := fun _ => by kernel_rfl
        have he : Tryd.prog.elem 22 = 5 := by kernel_rfl
        rw [run_slice_lh wx 22 P N cP (by kernel_rfl) .i64 .i64 i j (by omega) (by omega) (by omega), he, hz]
        simp only [Result.andThen, sliced, hPe, Int.toNat_natCast, Nat.mul_one, Option.map_some, Addr.add_mid]
        rw [if_neg (by omega), show j - i = 64 by omega]
      have hld1 : ∀ wx, Kp nob wr wx → (Instr.loadAt 53 (.pointer (some ⟨w.heap.size + 1, 0, none⟩))).run Tryd.prog wx = .ok (.agg (uvs (run H0 (padded l) (i / 64)).list).toArray) wx := fun wx hx =>
        run_loadAt_mid wx (w.heap.size + 1) 0 _ _ _ (H1.out.keep hx (fun e => e)).range arr8u rfl (by rw [uvs8]; kernel_rfl)
      have hld2 : ∀ wx, Kp nob wr wx → (Instr.loadAt 55 (.pointer (some ⟨w4.heap.size, 0, none⟩))).run Tryd.prog wx = .ok (.agg (uvs Ks).toArray) wx := fun wx hx =>
        run_loadAt_mid wx w4.heap.size 0 _ _ _ (H2.out.keep hx (fun e => e)).range arr32 rfl (by kernel_rfl)
      have hld1' := hld1 _ (Kp.refl nob wr).drew
      have hld2' := hld2 _ (Kp.refl nob wr).drew
      have hkd := (Kp.refl nob wr).drew
      have HROW := Lib.hid hrow; have H3' := Lib.hid h3
      have HJ := Lib.hid hj
      clear hld1 hld2 hPe hrow him h3 hj
      go_wp2
      refine wp_region_still_tail 7 (by kernel_rfl) (by kernel_rfl) ?_
      change wpStill _ _ wr.drew (fun a' => wpList _ _ _ _ a' wr.drew) _ _
      generalize wr.drew = wd at *
      simp only [List.take_succ_cons, List.take_zero, List.drop_succ_cons, List.drop_zero]
      refine wpStill_load rfl 53 (.tmp 3) rfl _ _ rfl hld1' ?_
      still_step
      still_step
      still_step
      still_step
      still_step
      refine wpStill_load rfl 55 (.tmp 5) rfl _ _ rfl hld2' ?_
      refine wpStill_nil ?_
      have HKD := Lib.hid hkd
      clear hld1' hld2' hsl hji hkd
      go_wp2_with fail
      refine (fNext _ _ _ _ _ (by rw [List.length_take, List.length_drop, ← HN.out]; omega) (HROW.out.keep0 HKD.out)).mono ?_
      rintro e w6 ⟨rfl, k6⟩
      have K6 : Kp nob wr w6 := HKD.out.trans k6 (fun _ e => e.elim)
      go_wp2_with (refine wpList_store_blk rfl 53 (.tmp 3) (.tmp 28) rfl (w.heap.size + 1) _ _ (uvs (next (run H0 (padded l) (i / 64)) (((padded l).drop i).take 64)).list) (H1.out.keep K6 (fun e => e)) rfl rfl (by rw [uvs8, uvs8]) (by rw [uvs8]; kernel_rfl) (uvs_one _) ?_; intro w7 hB7 k7 z7)
      have K7 := (K6.nob (oneB (w.heap.size + 1))).trans k7 (fun _ e => .inl e)
      refine ⟨?rel, by simp [intOf]; omega⟩
      case rel =>
        refine ⟨i + 64, hi64, by have := HIM.out; omega, by go_num, ?_, H2.out.keep K7 (fun e => by unfold oneB at e; omega), H3'.out.keep K7 (fun k e e' => by unfold oneB at e'; have := fP k e; omega), ⟨z, H4.out.keep K7 (fun e => by unfold oneB at e; omega), HZ.out⟩, hkp.since K7 (fun i e => by unfold oneB at e; omega)⟩
        have e1 : (i + 64) / 64 = i / 64 + 1 := by omega
        have e2 : 64 * (i / 64) = i := by have := HIM.out; omega
        rw [e1, run_snoc, e2]
        exact hB7
    · obtain ⟨fin, hfin⟩ : ∃ x, x = run H0 (padded l) (i / 64) := ⟨_, rfl⟩
      rw [← hfin] at H1
      have HF : Hid (bvs (of l) = bvs (digest fin)) := Lib.hid (by rw [of_eq, hfin, ← HN.out, show i = N by omega])
      have hsz : w.heap.size + 2 ≤ wr.heap.size := by have := H1.out.lt; omega
      clear hfin hcap h3 H3 him fP ltP g3 hNm hNl hs4
      have KR := Lib.hid hkp; clear hkp
      go_wp2_with (refine wpList_load_blk rfl 53 (.tmp 3) rfl (w.heap.size + 1) _ _ (H1.out.alloc _) rfl _ arr8u rfl (by rw [uvs8]; kernel_rfl) ?_)
      have hB0 : Hid (∀ c : Array Value, c = (bvs (dig fin 0)).toArray → Blk (wr.alloc (.cells c 34)) wr.heap.size 34 (bvs (dig fin 0))) := Lib.hid (fun c hc => Blk.new' rfl hc)
      have hA4 : Hid (∀ o, Blk (wr.alloc o) w.heap.size 34 z) := Lib.hid (fun o => H4.out.alloc _)
      have hAK : Hid (∀ o, Kp nob w (wr.alloc o)) := Lib.hid (fun o => KR.out.alloc _)
      generalize hg : wr.heap.size = g at *
      have HG := Lib.hid hg; clear hg
      go_loopw [30] (fun vi wq => ∃ m : Nat, m ≤ 8 ∧ vi = .int .i64 m ∧ Blk wq g 34 (bvs (dig fin (4 * m))) ∧ Blk wq w.heap.size 34 z ∧ Kp nob w wq)
        (fun vi _ => 8 - (intOf vi).toNat)
      case atStart => exact ⟨0, by omega, rfl, hB0.out _ (by rw [dig_zero]; rfl), hA4.out _, hAK.out _⟩
      case round =>
        clear hB0 hA4 hAK H1 H2 H4 KR HG
        obtain ⟨m, hm, rfl, h1, h2, hk⟩ := hrel
        have H1 := Lib.hid h1; have H2 := Lib.hid h2; have HKK := Lib.hid hk; clear h1 h2 hk
        by_cases hm8 : m < 8
        · obtain ⟨X, hX⟩ : ∃ x, x = fin.list[m]'(hm8) := ⟨_, rfl⟩
          have hix := fun wx => run_index_agg (P := Tryd.prog) wx 53 52 8 (uvs fin.list).toArray .i64 m (.int .u32 (cw X)) .u32 (by kernel_rfl) (by kernel_rfl) (by kernel_rfl) hm8 (by
            rw [List.getElem?_toArray, uvs, List.getElem?_map, List.getElem?_eq_getElem hm8, ← hX]; rfl)
          have HX := Lib.hid hX; clear hX
          go_wp2
          go_loopw [10] (fun vj wq => ∃ j : Nat, j ≤ 4 ∧ vj = .int .i64 j ∧ Blk wq g 34 (bvs (dig fin (4 * m + j))) ∧ Blk wq w.heap.size 34 z ∧ Kp nob w wq)
            (fun vj _ => 4 - (intOf vj).toNat)
          case atStart => exact ⟨0, by omega, rfl, H1.out, H2.out, HKK.out⟩
          case round =>
            clear H1 H2 HKK
            obtain ⟨j, hj, rfl, h1, h2, hk⟩ := hrel
            have H1 := Lib.hid h1; have H2 := Lib.hid h2; have HKK := Lib.hid hk; clear h1 h2 hk
            by_cases hj4 : j < 4
            · obtain ⟨q, hq⟩ : ∃ q, q = 24 - 8 * j := ⟨_, rfl⟩
              have hq1 : IntKind.u64.wrap (24 - 8 * (j : Int)) = (q : Int) := by rw [IntKind.wrap_u64]; omega
              have hq2 : (24 : Int) - 8 * (j : Int) = (q : Int) := by omega
              have hq3 : q ≤ 32 := by omega
              obtain ⟨t, htt⟩ : ∃ t, t = 4 * m + j := ⟨_, rfl⟩
              have ht1 : 4 * (m : Int) + (j : Int) = (t : Int) := by omega
              have ht2 : t < 32 := by omega
              obtain ⟨y, hy⟩ : ∃ y, wr.cell? ⟨g, t, none⟩ = some (.int .u8 y) := ⟨_, by
                rw [H1.out.cell, bvs_get (show t < (dig fin (4 * m + j)).length by simp [dig, digest_length]; omega)]; rfl⟩
              have hf : wr.frozen? ⟨g, t, none⟩ = false := H1.out.frozen _
              have HQ := Lib.hid hq; have HT := Lib.hid htt
              clear hq htt
              go_wp2
              go_roundw
              case rel =>
                rw [cw_byte, ← bv_ofNat]
                refine ⟨j + 1, by omega, by go_num, ?_, H2.out.far (by simp; omega) _, HKK.out.setCell (p := ⟨g, t, none⟩) (.inr (by simp; omega)) _⟩
                have e1 : t / 4 = m := by have := HT.out; omega
                have e2 : t % 4 = j := by have := HT.out; omega
                have e3 : fin.list.getD m 0 = X := by rw [List.getD, List.getElem?_eq_getElem hm8, HX.out]; rfl
                have := H1.out.set_ t (bv (UInt8.ofNat (X.toNat / 2 ^ q)))
                rw [← HT.out, bvs, ← List.map_set] at this
                have hd := dig_set fin t ht2
                rw [e1, e2, e3, ← HQ.out] at hd
                rw [hd] at this
                rw [show 4 * m + (j + 1) = t + 1 by have := HT.out; omega]
                exact this
              case measure => simp [intOf]; omega
            · have HJ4 : Hid (j = 4) := Lib.hid (by omega)
              go_wp2
              refine ⟨?rel, by simp [intOf]; omega⟩
              case rel => exact ⟨m + 1, by omega, by go_num, by have := H1.out; rwa [HJ4.out, show 4 * m + 4 = 4 * (m + 1) by omega] at this, H2.out, HKK.out⟩
        · have HM8 : Hid (m = 8) := Lib.hid (by omega)
          have H1' : Hid (Blk wr g 34 (bvs (digest fin))) := Lib.hid (by have := H1.out; rwa [HM8.out, show 4 * 8 = 32 from rfl, dig_end] at this)
          have hdl : (bvs (digest fin)).length = 32 := by rw [bvs_length, digest_length]
          have HDL := Lib.hid hdl; clear hdl
          go_wp2_with (first
            | (refine wpList_load_blk rfl 34 (.tmp 7) rfl g _ _ H1'.out rfl _ arr32b rfl (by rw [HDL.out]; kernel_rfl) ?_)
            | (refine wpList_store_blk rfl 34 (.tmp 2) (.tmp 51) rfl w.heap.size _ z (bvs (digest fin)) H2.out rfl rfl (by rw [HZ.out, HDL.out]) (by rw [HDL.out]; kernel_rfl) (bvs_one _) ?_; intro w9 hB9 k9 z9))
          have hsz9 : (Tryd.prog.info? 34).map (·.size) = some (bvs (digest fin)).toArray.size := by rw [List.size_toArray, HDL.out]; kernel_rfl
          refine bodyPost_ret (results_cell_row rfl _ _ w.heap.size _ _ _ _ rfl hB9 arr32b rfl hsz9) rfl ⟨by rw [HF.out], HKK.out.since k9 (fun i e => by unfold oneB at e; omega)⟩
end Go.Proofs.YtnpidcehioljaaaDoor.Sha
