/- The disk: the writes that aren't safe, settled. -/
import Derived.Test.YtchdobneipfghaaZDskB
namespace Go.Proofs.Ytchdobneipfghaa.Disk
set_option linter.unusedVariables false
set_option linter.unusedSimpArgs false
open Go Go.RowKit Kit

def zwr : List Value := .int .i64 0 :: zsec
theorem zwr_one : ∀ u ∈ zwr, u.oneCell' = true := by
  intro u hu
  rcases List.mem_cons.1 hu with rfl | hu
  · rfl
  · exact zsec_one u hu
theorem zwr_length : zwr.length = 257 := by rw [zwr, List.length_cons, zsec_length]
set_option maxRecDepth 100000 in
theorem zwr_run (w : World) : (zeroValue 78).run Try.prog w = .ok (.agg zwr.toArray) w := by kernel_rfl
theorem wait_at {w : World} {W : Option Addr} {n c : Nat} {xs : List (Nat × List UInt8)} (h : OwnK 257 78 w W n c (xs.flatMap wcell)) (hn : xs.length = n) (hl : ∀ x ∈ xs, x.2.length = 256) (k : Nat) (x : Nat × List UInt8) (hx : xs[k]? = some x) : ∃ b, W = some ⟨b, 0, none⟩ ∧ w.rangeAt b (k * 257) (wcell x) := by
  have hk : k < xs.length := (List.getElem?_eq_some_iff.1 hx).1
  obtain ⟨b, rfl⟩ := h.some_ (by omega)
  obtain ⟨cur, hB, h1, h2, h3, h4⟩ := h.blk
  refine ⟨b, rfl, fun j v hv => ?_⟩
  have hf := fm_part xs (fun a ha => wcell_length a (hl a ha)) k x hx j v hv
  rw [hB.cell]
  rw [← h2, List.getElem?_take] at hf
  split at hf
  · exact hf
  · cases hf
theorem flat_len (ls : List (List UInt8)) (h : ∀ s ∈ ls, s.length = 256) : (ls.flatMap bvs).length = ls.length * 256 := fm_length ls (fun a ha => by rw [bvs_length, h a ha])
theorem flat_set (ls : List (List UInt8)) (h : ∀ s ∈ ls, s.length = 256) (i : Nat) (s : List UInt8) (hi : i < ls.length) (hs : s.length = 256) : splice (ls.flatMap bvs) (i * 256) (bvs s) = (ls.set i s).flatMap bvs := fm_set ls (fun a ha => by rw [bvs_length, h a ha]) i s hi (by rw [bvs_length, hs])
theorem over_256 (keep : Nat) (xs : List (Nat × List UInt8)) (i : Nat) (s : List (List UInt8)) (h1 : ∀ x ∈ xs, x.2.length = 256) (h2 : ∀ v ∈ s, v.length = 256) : ∀ v ∈ over keep i xs s, v.length = 256 := fun v hv => by
  rcases over_mem keep _ _ _ _ hv with h | ⟨x, hx, rfl⟩
  · exact h2 v h
  · exact h1 x hx
theorem back_256 (safe : List (List UInt8)) {n : Nat} (h1 : ∀ v ∈ safe, v.length = 256) (hl : safe.length = n) : ∀ (xs : List (Nat × List UInt8)) (now : List (List UInt8)), (∀ x ∈ xs, x.1 < n) → (∀ v ∈ now, v.length = 256) → ∀ v ∈ back safe xs now, v.length = 256
  | [], _, _, h => h
  | x :: xs, now, hx, h => by
    rw [back]
    refine back_256 safe h1 hl xs _ (fun y hy => hx y (List.mem_cons_of_mem _ hy)) (set_all h ?_)
    have hp : x.1 < safe.length := by rw [hl]; exact hx x (by simp)
    rw [List.getD_eq_getElem?_getD, List.getElem?_eq_getElem hp]
    exact h1 _ (List.getElem_mem hp)

set_option maxHeartbeats 4000000 in
set_option maxRecDepth 100000 in
theorem settle_any (D : Dk) (keep : Nat) (g N S : Nat) (W : Option Addr) (cW : Nat) (w : World) (h : Cd w g N S W cW D) (hw : D.waits.length ≤ 100000) (hk : keep < 18446744073709551616) :
    Calls Try.prog 30 #[.pointer (some ⟨g, 0, none⟩), .int .u64 (keep : Int)] w fun e w' => e = .returned (.tuple #[]) ∧ Cd w' g N S none 0 { D with now := over keep 0 D.waits D.safe, safe := over keep 0 D.waits D.safe, waits := [] } ∧ Kp (dF g N S W) w w' := by
  obtain ⟨c0, c1, c2, c3, c4, c5, c6⟩ := h.cells
  have HD := Lib.hid h
  have HW := Lib.hid hw; have HK := Lib.hid hk
  have HL := Lib.hid (show ∀ x ∈ D.waits, x.2.length = 256 from fun x hx => (h.ok.waits x hx).2)
  have hz := zwr_run
  clear c0 c1 c3 c4 c5 c6 h
  go_enter Try.func30, Try.ntmps30
  go_wp2
  go_loopw [13] (fun vi wr => ∃ (k : Nat), k ≤ D.waits.length ∧ vi = .int .i64 k ∧ Blk wr S 74 ((over keep 0 (D.waits.take k) D.safe).flatMap bvs) ∧ Kp (oneB S) w wr)
    (fun vi _ => D.waits.length - (intOf vi).toNat)
  case atStart => exact ⟨0, by omega, rfl, HD.out.safe, Kp.refl _ _⟩
  case round =>
    obtain ⟨k, hk, rfl, hb, hkp⟩ := hrel
    have HBr := Lib.hid hb; have HKP := Lib.hid hkp
    clear hb hkp
    by_cases hlt : k < D.waits.length
    · obtain ⟨x, hx⟩ : ∃ x, D.waits[k]? = some x := ⟨_, List.getElem?_eq_getElem hlt⟩
      obtain ⟨B, rfl, hrg⟩ := wait_at (HD.out.waits.keep HKP.out (fun j e e2 => (HD.out.nw j e).2.2 e2)) rfl HL.out k x hx
      have HRG := Lib.hid hrg
      have HNX := Lib.hid (over_next keep D.waits D.safe k x hx)
      have HX1 := Lib.hid (show x.1 < D.now.length from (HD.out.ok.waits x (List.mem_of_getElem? hx)).1)
      have HX2 := Lib.hid (HL.out x (List.mem_of_getElem? hx))
      obtain ⟨m, hm⟩ : ∃ m, m = k % 64 := ⟨_, rfl⟩
      obtain ⟨z, hz1, hz2⟩ := kept_bit keep k m hm HK.out
      have e1 : (k : Int).tmod 64 = (m : Int) := by rw [Int.tmod_eq_emod_of_nonneg (by omega)]; omega
      have hmm : min m 64 = m := by omega
      have hwr : IntKind.u64.wrap ((2 : Int) ^ m) = ((2 ^ m : Nat) : Int) := by
        have hp : 2 ^ m < 18446744073709551616 := Nat.pow_lt_pow_right (by decide : 1 < 2) (show m < 64 by omega)
        rw [show ((2 : Int) ^ m) = ((2 ^ m : Nat) : Int) by simp]
        generalize 2 ^ m = q at hp ⊢
        rw [IntKind.wrap_u64]
        omega
      have hb : (bits BinOp.and IntKind.u64 (keep : Int) (IntKind.u64.wrap ((2 : Int) ^ m)) != 0) = kept keep k := by
        rw [hwr, hz1]
        cases hkk : kept keep k with
        | false => rw [hz2.2 hkk]; rfl
        | true =>
          have : z ≠ 0 := fun e => by rw [hz2.1 e] at hkk; cases hkk
          rw [bne_iff_ne]; omega
      have HE := Lib.hid (And.intro e1 hmm)
      clear hm hx hrg hz1 hz2 e1 hmm hwr
      cases hkk : kept keep k with
      | false =>
        have HNN := Lib.hid (show over keep 0 (D.waits.take (k + 1)) D.safe = over keep 0 (D.waits.take k) D.safe by rw [HNX.out, hkk]; rfl)
        rw [hkk] at hb
        have HBB := Lib.hid hb
        clear hkk hb
        go_wp2_with (first
          | (refine wpList_load_mid rfl 78 (.tmp 16) rfl B (k * 257) rfl (wcell x) _ HRG.out wr_under rfl (wr_size' x HX2.out) ?_)
          | (refine wpList_store_blk rfl 78 (.tmp 5) (.tmp 17) rfl _ _ zwr (wcell x) (Blk.new _ _ _) rfl rfl (by rw [wcell_length x HX2.out, zwr_length]) (wr_size' x HX2.out) (wcell_one x) ?_
             intro w5 hB5 k5 z5
             have HK5 := Lib.hid (((Kp.refl nob wr).alloc _).since k5 (fun i e => Nat.le_of_eq e.symm))
             have e1 := HE.out.1; have hmm := HE.out.2; have hb := HBB.out
             clear hB5 k5 z5))
        clear e1 hmm hb
        refine ⟨⟨k + 1, hlt, by go_num, ?_, HKP.out.trans HK5.out (fun _ e => e.elim)⟩, by simp [intOf]; omega⟩
        rw [HNN.out]
        exact HBr.out.keep HK5.out (fun e => e)
      | true =>
        have HNN := Lib.hid (show over keep 0 (D.waits.take (k + 1)) D.safe = (over keep 0 (D.waits.take k) D.safe).set x.1 x.2 by rw [HNX.out, hkk]; rfl)
        rw [hkk] at hb
        have HBB := Lib.hid hb
        have HFS := Lib.hid (flat_set (over keep 0 (D.waits.take k) D.safe) (over_256 keep _ _ _ (fun y hy => HL.out y (List.mem_of_mem_take hy)) HD.out.ok.safe2) x.1 x.2 (by rw [over_length, HD.out.ok.safe]; exact HX1.out) HX2.out)
        have HFL := Lib.hid (show x.1 * 256 + (bvs x.2).length ≤ ((over keep 0 (D.waits.take k) D.safe).flatMap bvs).length by
          rw [flat_len _ (over_256 keep _ _ _ (fun y hy => HL.out y (List.mem_of_mem_take hy)) HD.out.ok.safe2), over_length, HD.out.ok.safe, bvs_length, HX2.out]
          have := HX1.out
          omega)
        have HSZ := Lib.hid (sec_size' x.2 HX2.out)
        clear hkk hb
        go_wp2_with (first
          | (refine wpList_load_mid rfl 78 (.tmp 16) rfl B (k * 257) rfl (wcell x) _ HRG.out wr_under rfl (wr_size' x HX2.out) ?_)
          | (refine wpList_store_blk rfl 78 (.tmp 5) (.tmp 17) rfl _ _ zwr (wcell x) (Blk.new _ _ _) rfl rfl (by rw [wcell_length x HX2.out, zwr_length]) (wr_size' x HX2.out) (wcell_one x) ?_
             intro w5 hB5 k5 z5
             obtain ⟨g5, hg5⟩ : ∃ g, g = wr.heap.size := ⟨_, rfl⟩
             rw [← hg5] at hB5 ⊢
             have HB5 := Lib.hid hB5
             have HK5 := Lib.hid (((Kp.refl nob wr).alloc _).since k5 (fun i e => Nat.le_of_eq e.symm))
             have HG5 := Lib.hid hg5
             have e1 := HE.out.1; have hmm := HE.out.2; have hb := HBB.out
             clear hB5 k5 z5 hg5))
        clear e1 hmm hb
        refine wp_region_still_tail 9 (by kernel_rfl) (by kernel_rfl) ?_
        change wpStill _ _ w5.drew (fun a' => wpList _ _ _ _ a' w5.drew) _ _
        have HB6 := Lib.hid (HB5.out.keep (Kp.refl nob w5).drew (fun e => e))
        have HK6 := Lib.hid HK5.out.drew
        have HS6 := Lib.hid ((HBr.out.keep HK5.out (fun e => e)).keep (Kp.refl nob w5).drew (fun e => e))
        have hc1 : w5.drew.cell? ⟨g, 1, none⟩ = some (.slice (some ⟨S, 0, none⟩) D.now.length D.now.length) := by
          have h1 := HD.out.b.keep (HKP.out.trans HK6.out (fun _ e => e.elim)) (fun e => HD.out.ne.2.1 e.symm)
          rw [h1.cell]; rfl
        have hx0 : w5.drew.cell? ⟨g5, 0, none⟩ = some (.int .i64 (x.1 : Int)) := by rw [HB6.out.cell]; rfl
        have hld := run_loadAt_mid (P := Try.prog) w5.drew g5 1 74 (bvs x.2) _ (HB6.out.part 1 (bvs x.2) (fun j v hv => by rw [Nat.add_comm, wcell, List.getElem?_cons_succ]; exact hv)) sec_under rfl HSZ.out
        have hx1 := HX1.out
        generalize w5.drew = w6 at *
        clear HB5 HK5 HBr
        simp only [List.take_succ_cons, List.take_zero, List.drop_succ_cons, List.drop_zero]
        repeat (first | still_step | (refine wpStill_load rfl 74 (.tmp 30) rfl _ _ rfl hld ?_))
        refine wpStill_nil ?_
        clear hld hx0 hc1 hx1
        go_wp2_with (refine wpList_store_in rfl 74 (.tmp 32) (.tmp 31) rfl S (x.1 * 256) _ _ (bvs x.2) HS6.out rfl rfl HFL.out HSZ.out (bvs_one _) ?_; intro w7 hB7 k7 z7; rw [HFS.out] at hB7; have HB7 := Lib.hid hB7; have HK7 := Lib.hid k7; clear hB7 k7 z7)
        refine ⟨⟨k + 1, hlt, by go_num, ?_, (HKP.out.trans HK6.out (fun _ e => e.elim)).trans HK7.out (fun _ e => .inl e)⟩, by simp [intOf]; omega⟩
        rw [HNN.out]
        exact HB7.out
    · obtain rfl : k = D.waits.length := by omega
      have HS1 := Lib.hid (show Blk wr S 74 ((over keep 0 D.waits D.safe).flatMap bvs) by have := HBr.out; rwa [List.take_length] at this)
      obtain ⟨SF, hSF⟩ : ∃ SF, SF = over keep 0 D.waits D.safe := ⟨_, rfl⟩
      rw [← hSF] at HS1
      have HSF := Lib.hid hSF
      have HSL := Lib.hid (show SF.length = D.now.length by rw [hSF, over_length, HD.out.ok.safe])
      have HS2 := Lib.hid (show ∀ v ∈ SF, v.length = 256 by rw [hSF]; exact over_256 keep _ _ _ HL.out HD.out.ok.safe2)
      have hc2 : wr.cell? ⟨g, 2, none⟩ = some (.slice W D.waits.length cW) := by rw [(HD.out.b.keep HKP.out (fun e => HD.out.ne.2.1 e.symm)).cell]; rfl
      clear hlt hk HBr hSF c2
      rename World => wo
      go_wp2
      go_loopw [39] (fun vi wr => ∃ (k : Nat), k ≤ D.waits.length ∧ vi = .int .i64 k ∧ Blk wr N 74 ((back SF (D.waits.take k) D.now).flatMap bvs) ∧ Kp (oneB N) wo wr)
        (fun vi _ => D.waits.length - (intOf vi).toNat)
      case atStart => exact ⟨0, by omega, rfl, HD.out.now.keep HKP.out (fun e => HD.out.ne.2.2 e), Kp.refl _ _⟩
      case round =>
        obtain ⟨k, hk, rfl, hb, hkp⟩ := hrel
        have HBr := Lib.hid hb; have HKQ := Lib.hid hkp
        clear hb hkp
        by_cases hlt : k < D.waits.length
        · obtain ⟨x, hx⟩ : ∃ x, D.waits[k]? = some x := ⟨_, List.getElem?_eq_getElem hlt⟩
          obtain ⟨B, rfl, hrg⟩ := wait_at ((HD.out.waits.keep HKP.out (fun j e e2 => (HD.out.nw j e).2.2 e2)).keep HKQ.out (fun j e e2 => (HD.out.nw j e).2.1 e2)) rfl HL.out k x hx
          have HRG := Lib.hid hrg
          have HNX := Lib.hid (back_next SF D.waits D.now k x hx)
          have HX1 := Lib.hid (show x.1 < D.now.length from (HD.out.ok.waits x (List.mem_of_getElem? hx)).1)
          have HX2 := Lib.hid (HL.out x (List.mem_of_getElem? hx))
          obtain ⟨v, hv⟩ : ∃ v, SF[x.1]? = some v := ⟨_, List.getElem?_eq_getElem (by rw [HSL.out]; exact HX1.out)⟩
          have HVD := Lib.hid (show SF.getD x.1 [] = v by rw [List.getD_eq_getElem?_getD, hv]; rfl)
          have HV2 := Lib.hid (HS2.out v (List.mem_of_getElem? hv))
          have HVR := Lib.hid (fun j u (hu : (bvs v)[j]? = some u) => fm_part SF (k := 256) (f := bvs) (fun a ha => by rw [bvs_length, HS2.out a ha]) x.1 v hv j u hu)
          have HB2 := Lib.hid (show ∀ s ∈ back SF (D.waits.take k) D.now, s.length = 256 from back_256 SF HS2.out HSL.out _ _ (fun y hy => (HD.out.ok.waits y (List.mem_of_mem_take hy)).1) HD.out.ok.now)
          have HFS := Lib.hid (flat_set (back SF (D.waits.take k) D.now) HB2.out x.1 v (by rw [back_length]; exact HX1.out) HV2.out)
          have HFL := Lib.hid (show x.1 * 256 + (bvs v).length ≤ ((back SF (D.waits.take k) D.now).flatMap bvs).length by
            rw [flat_len _ HB2.out, back_length, bvs_length, HV2.out]
            have := HX1.out
            omega)
          have HSZ := Lib.hid (sec_size' v HV2.out)
          clear hx hrg hv
          go_wp2_with (first
            | (refine wpList_load_mid rfl 78 (.tmp 41) rfl B (k * 257) rfl (wcell x) _ HRG.out wr_under rfl (wr_size' x HX2.out) ?_)
            | (refine wpList_store_blk rfl 78 (.tmp 7) (.tmp 42) rfl _ _ zwr (wcell x) (Blk.new _ _ _) rfl rfl (by rw [wcell_length x HX2.out, zwr_length]) (wr_size' x HX2.out) (wcell_one x) ?_
               intro w5 hB5 k5 z5
               obtain ⟨g5, hg5⟩ : ∃ g, g = wr.heap.size := ⟨_, rfl⟩
               rw [← hg5] at hB5 ⊢
               have HB5 := Lib.hid hB5
               have HK5 := Lib.hid (((Kp.refl nob wr).alloc _).since k5 (fun i e => Nat.le_of_eq e.symm))
               clear hB5 k5 z5 hg5))
          refine wp_region_still_tail 15 (by kernel_rfl) (by kernel_rfl) ?_
          change wpStill _ _ w5.drew (fun a' => wpList _ _ _ _ a' w5.drew) _ _
          have HB6 := Lib.hid (HB5.out.keep (Kp.refl nob w5).drew (fun e => e))
          have HK6 := Lib.hid HK5.out.drew
          have HN6 := Lib.hid ((HBr.out.keep HK5.out (fun e => e)).keep (Kp.refl nob w5).drew (fun e => e))
          have HS6 := Lib.hid ((HS1.out.keep HKQ.out (fun e => HD.out.ne.2.2 e.symm)).keep HK6.out (fun e => e))
          have HD6 := Lib.hid ((HD.out.b.keep HKP.out (fun e => HD.out.ne.2.1 e.symm)).keep (HKQ.out.trans HK6.out (fun _ e => e.elim)) (fun e => HD.out.ne.1 e.symm))
          have hc0 : w5.drew.cell? ⟨g, 0, none⟩ = some (.slice (some ⟨N, 0, none⟩) D.now.length D.now.length) := by rw [HD6.out.cell]; rfl
          have hc1 : w5.drew.cell? ⟨g, 1, none⟩ = some (.slice (some ⟨S, 0, none⟩) D.now.length D.now.length) := by rw [HD6.out.cell]; rfl
          have hx0 : w5.drew.cell? ⟨g5, 0, none⟩ = some (.int .i64 (x.1 : Int)) := by rw [HB6.out.cell]; rfl
          have hld := run_loadAt_mid (P := Try.prog) w5.drew S (x.1 * 256) 74 (bvs v) _ (HS6.out.part _ _ HVR.out) sec_under rfl HSZ.out
          have hx1 := HX1.out
          generalize w5.drew = w6 at *
          clear HB5 HK5 HBr
          simp only [List.take_succ_cons, List.take_zero, List.drop_succ_cons, List.drop_zero]
          repeat (first | still_step | (refine wpStill_load rfl 74 (.tmp 55) rfl _ _ rfl hld ?_))
          refine wpStill_nil ?_
          clear hld hx0 hc1 hx1 hc0
          go_wp2_with (refine wpList_store_in rfl 74 (.tmp 57) (.tmp 56) rfl N (x.1 * 256) _ _ (bvs v) HN6.out rfl rfl HFL.out HSZ.out (bvs_one _) ?_; intro w7 hB7 k7 z7; rw [HFS.out] at hB7; have HB7 := Lib.hid hB7; have HK7 := Lib.hid k7; clear hB7 k7 z7)
          refine ⟨⟨k + 1, hlt, by go_num, ?_, (HKQ.out.trans HK6.out (fun _ e => e.elim)).trans HK7.out (fun _ e => .inl e)⟩, by simp [intOf]; omega⟩
          rw [HNX.out, HVD.out]
          exact HB7.out
        · obtain rfl : k = D.waits.length := by omega
          have HN1 := Lib.hid (show Blk wr N 74 (SF.flatMap bvs) by
            have := HBr.out
            rw [List.take_length, HD.out.al] at this
            rw [HSF.out] at this ⊢
            rwa [back_all] at this)
          have hb2 := (HD.out.b.keep HKP.out (fun e => HD.out.ne.2.1 e.symm)).keep HKQ.out (fun e => HD.out.ne.1 e.symm)
          have HG := Lib.hid hb2
          have HSE := Lib.hid (HS1.out.keep HKQ.out (fun e => HD.out.ne.2.2 e.symm))
          have hc2 : wr.cell? ⟨g, 2, none⟩ = some (.slice W D.waits.length cW) := by rw [hb2.cell]; rfl
          have hf2 : wr.frozen? ⟨g, 2, none⟩ = false := hb2.frozen _
          clear hlt hk HBr hb2
          go_wp2
          have kg : Kp (oneB g) wr (wr.setCell ⟨g, 2, none⟩ (.slice none 0 0)) := (Kp.refl (oneB g) wr).setCell (p := ⟨g, 2, none⟩) (.inl rfl) _
          have hbg := HG.out.set_ 2 (.slice none 0 0)
          have k1 : Kp (dF g N S W) w wo := HKP.out.mono (fun i _ e => .inr (.inr (.inl e)))
          have k2 : Kp (dF g N S W) w wr := k1.trans HKQ.out (fun i e => .inl (.inr (.inl e)))
          have k3 := k2.trans kg (fun i e => .inl (.inl e))
          refine bodyPost_end (results_none rfl _ _ _) rfl ⟨rfl, ?_, k3⟩
          rw [← HSF.out]
          have hn := HN1.out.keep kg HD.out.ne.1
          have hs := HSE.out.keep kg HD.out.ne.2.1
          refine ⟨?_, hn, hs, OwnK.nil 257 _ _, ⟨rfl, HS2.out, HS2.out, fun x hx => by cases hx⟩, rfl, by rw [HSL.out]; exact HD.out.max, HD.out.ne, fun k e => by cases e⟩
          show Blk _ _ _ [.slice _ SF.length SF.length, .slice _ SF.length SF.length, _, _, _, _, _]
          rw [HSL.out]
          exact hbg
end Go.Proofs.Ytchdobneipfghaa.Disk
