/- Contracts of package gcm: the tag of a text that was taken. -/
import Derived.Test.YtbainiblffcjgaaDoorZGcmE
import Derived.Test.YtbainiblffcjgaaDoorZGhashH
import Derived.Test.YtbainiblffcjgaaDoorZGa
namespace Go.Proofs.YtbainiblffcjgaaDoor.Gcm
set_option linter.unusedVariables false
set_option linter.unusedSimpArgs false
open Go Go.RowKit Kit
open Aes (gb tb tb_length tb_gb arrB blk_byte enc enc_length Ciph pt pt_zero pt_all pt_set pt_get bvs_setb)
open Ghash (none16 none_length len16 plus plus_eq sum sum_length)
open Field (cb cb_inj)
open Sha (Pc PcsOk catP)

set_option maxHeartbeats 2000000 in
set_option maxRecDepth 100000 in
theorem tag_any (p : Nat) (W : List UInt8) (R : Nat) (nn l : List UInt8) (A : Option Addr) (n c : Nat) (B : Option Addr) (m d : Nat) (ps : List Pc) (w : World) (hS : SealAt w p W R) (hnn : nn.length = 12) (hl : l.length = n) (hc : n ≤ c) (hn : n ≤ 1099511627776) (hr : Row w A (bvs l))
    (hm : ps.length = m) (hrp : Row w B (ps.map Pc.v)) (hp : PcsOk w nob ps) (hnil : ∀ p ∈ ps, p.A = none → p.c = 0) (hmm : m ≤ 1099511627776) (hlp : (catP ps).length ≤ 1099511627776) :
    Calls Tryd.prog 19 #[.pointer (some ⟨p, 0, none⟩), .agg (bvs nn).toArray, .slice A n c, .slice B m d] w fun e w' => e = .returned (.agg (bvs (tag W R nn (catP ps) l)).toArray) ∧ Kp nob w w' := by
  obtain ⟨g, hg1, hg2⟩ := hS.c
  have HG := Lib.hid (And.intro hg1 hg2)
  have HNN := Lib.hid hnn; have HL := Lib.hid hl; have HR := Lib.hid hr; have HC := Lib.hid hc; have HN := Lib.hid hn
  have HP := Lib.hid (And.intro hm (And.intro hrp (And.intro hp hnil))); have HLP := Lib.hid (And.intro hmm hlp)
  have HNL := Lib.hid (show (bvs nn).length = 12 by rw [bvs_length, hnn])
  have HZ := Lib.hid (len16 none_length)
  obtain ⟨H, hH⟩ : ∃ H, H = enc W R none16 := ⟨_, rfl⟩
  obtain ⟨E, hE⟩ : ∃ E, E = enc W R (nb nn 1) := ⟨_, rfl⟩
  obtain ⟨U, hU⟩ : ∃ U, U = sum H (catP ps) l := ⟨_, rfl⟩
  have HT := Lib.hid (show tag W R nn (catP ps) l = plus U E by rw [tag_eq, hU, hE, hH])
  rw [HT.out]
  have HH := Lib.hid hH; have HE := Lib.hid hE; have HU := Lib.hid hU
  have HHL := Lib.hid (show (bvs H).length = 16 by rw [bvs_length, hH, enc_length])
  have HEL := Lib.hid (show (bvs E).length = 16 by rw [bvs_length, hE, enc_length])
  have HUL := Lib.hid (show (bvs U).length = 16 by rw [bvs_length, hU, sum_length])
  have c0 : w.cell? ⟨p, 0, none⟩ = some (.pointer (some ⟨g, 0, none⟩)) := hg1.cell 0
  clear hS hg1 hg2 hnn hl hr hc hn hm hrp hp hnil hmm hlp hH hE hU
  have hz0 : ((w.alloc (.cells (bvs nn).toArray 38)).alloc (.cells #[.int .u8 0, .int .u8 0, .int .u8 0, .int .u8 0, .int .u8 0, .int .u8 0, .int .u8 0, .int .u8 0, .int .u8 0, .int .u8 0, .int .u8 0, .int .u8 0, .int .u8 0, .int .u8 0, .int .u8 0, .int .u8 0] 51)).cell? ⟨p, 0, none⟩ = some (.pointer (some ⟨g, 0, none⟩)) := ((HG.out.1.alloc _).alloc _).cell 0
  go_enter Tryd.func19, Tryd.ntmps19
  have K0 : Kp nob w ((w.alloc (.cells (bvs nn).toArray 38)).alloc (.cells (bvs none16).toArray 51)) := ((Kp.refl nob w).alloc _).alloc _
  have hN0 : Blk ((w.alloc (.cells (bvs nn).toArray 38)).alloc (.cells (bvs none16).toArray 51)) w.heap.size 38 (bvs nn) := (Blk.new' rfl rfl).alloc _
  have hZ0 : Blk ((w.alloc (.cells (bvs nn).toArray 38)).alloc (.cells (bvs none16).toArray 51)) (w.heap.size + 1) 51 (bvs none16) := Blk.new' (by simp) rfl
  go_wp2_with fail
  refine (Aes.seal_any none16 W g R _ none_length (HG.out.2.keep0 K0)).mono ?_
  rintro e w3 ⟨rfl, k3⟩
  rw [← HH.out]
  have H3 : Hid (Blk w3 w.heap.size 38 (bvs nn) ∧ Blk w3 (w.heap.size + 1) 51 (bvs none16) ∧ Kp nob w w3) := Lib.hid ⟨hN0.keep k3 (fun e => e), hZ0.keep k3 (fun e => e), K0.trans k3 (fun _ e => e.elim)⟩
  clear K0 hN0 hZ0 k3 hz0
  go_wp2_with (refine wpList_store_new rfl 51 (.tmp 9) (.tmp 18) rfl _ (bvs H) rfl rfl (by rw [HHL.out]; rfl) (by rw [HHL.out]; kernel_rfl) (bvs_one _) ?_
               intro w4 hB4 k4 z4
               have H4 : Hid (Blk w4 w.heap.size 38 (bvs nn) ∧ Blk w4 (w.heap.size + 1) 51 (bvs none16) ∧ Kp nob w w4) := Lib.hid ⟨H3.out.1.keep k4 (fun e => e), H3.out.2.1.keep k4 (fun e => e), H3.out.2.2.trans k4 (fun _ e => e.elim)⟩
               have HB4 := Lib.hid hB4
               clear hB4 k4 z4)
  rename_i K1 hK1
  have hcont : ∀ (Ac : Option Addr) (cc m1 : Nat) (w9 : World), Kp nob w4 w9 → Blk w9 m1 51 (bvs U) → w4.heap.size ≤ m1 → K1 { tmps := #[.pointer (some ⟨p, 0, none⟩), .agg (bvs nn).toArray, .slice A n c, .slice B m d, undef, .pointer (some ⟨w.heap.size, 0, none⟩), undef, undef, .pointer (some ⟨w.heap.size + 1, 0, none⟩), .pointer (some ⟨w3.heap.size, 0, none⟩), .pointer (some ⟨m1, 0, none⟩), undef, undef, .pointer (some ⟨p, 0, none⟩), .pointer (some ⟨p, 0, none⟩), .pointer (some ⟨p, 0, none⟩), .pointer (some ⟨g, 0, none⟩), .agg #[.int .u8 0, .int .u8 0, .int .u8 0, .int .u8 0, .int .u8 0, .int .u8 0, .int .u8 0, .int .u8 0, .int .u8 0, .int .u8 0, .int .u8 0, .int .u8 0, .int .u8 0, .int .u8 0, .int .u8 0, .int .u8 0], .agg (bvs H).toArray, .agg (bvs H).toArray, .slice B m d, .slice Ac (catP ps).length cc, .slice A n c, .agg (bvs U).toArray, undef, undef, undef, undef, undef, undef, undef, undef, undef, undef, undef, undef, undef, undef, undef, undef, undef, undef, undef, undef], defers := [] } w9 := by
    intro Ac cc m1 w9 k9 hb9 hm9
    have H9 : Hid (Blk w9 w.heap.size 38 (bvs nn) ∧ Blk w9 (w.heap.size + 1) 51 (bvs none16) ∧ Kp nob w w9) := Lib.hid ⟨H4.out.1.keep k9 (fun e => e), H4.out.2.1.keep k9 (fun e => e), H4.out.2.2.trans k9 (fun _ e => e.elim)⟩
    have HB9 := Lib.hid hb9
    have HM9 := Lib.hid (show w.heap.size + 1 < m1 by have := H4.out.2.1.lt; omega)
    apply hK1
    clear hK1 k9 hb9 hm9
    go_wp2
    rename_i K2 hK2
    have hcont : ∀ (m2 : Nat) (w10 : World), Kp nob w9 w10 → Blk w10 m2 51 (bvs E) → w9.heap.size ≤ m2 → K2 { tmps := #[.pointer (some ⟨p, 0, none⟩), .agg (bvs nn).toArray, .slice A n c, .slice B m d, undef, .pointer (some ⟨w.heap.size, 0, none⟩), undef, undef, .pointer (some ⟨w.heap.size + 1, 0, none⟩), .pointer (some ⟨w3.heap.size, 0, none⟩), .pointer (some ⟨m1, 0, none⟩), .pointer (some ⟨m2, 0, none⟩), undef, .pointer (some ⟨p, 0, none⟩), .pointer (some ⟨p, 0, none⟩), .pointer (some ⟨p, 0, none⟩), .pointer (some ⟨g, 0, none⟩), .agg #[.int .u8 0, .int .u8 0, .int .u8 0, .int .u8 0, .int .u8 0, .int .u8 0, .int .u8 0, .int .u8 0, .int .u8 0, .int .u8 0, .int .u8 0, .int .u8 0, .int .u8 0, .int .u8 0, .int .u8 0, .int .u8 0], .agg (bvs H).toArray, .agg (bvs H).toArray, .slice B m d, .slice Ac (catP ps).length cc, .slice A n c, .agg (bvs U).toArray, .pointer (some ⟨p, 0, none⟩), .pointer (some ⟨p, 0, none⟩), .pointer (some ⟨p, 0, none⟩), .pointer (some ⟨g, 0, none⟩), .agg (bvs nn).toArray, .agg (bvs (nb nn 1)).toArray, .agg (bvs E).toArray, undef, undef, undef, undef, undef, undef, undef, undef, undef, undef, undef, undef, undef], defers := [] } w10 := by
      intro m2 w10 k10 hb10 hm10
      have H10 : Hid (Blk w10 (w.heap.size + 1) 51 (bvs none16) ∧ Kp nob w w10 ∧ Blk w10 m1 51 (bvs U) ∧ Blk w10 m2 51 (bvs E)) := Lib.hid ⟨H9.out.2.1.keep k10 (fun e => e), H9.out.2.2.trans k10 (fun _ e => e.elim), HB9.out.keep k10 (fun e => e), hb10⟩
      have HM10 := Lib.hid (show m1 < m2 by have := HB9.out.lt; omega)
      apply hK2
      clear hK2 k10 hb10 hm10
      go_wp2
      go_loopw [31] (fun vi wr => ∃ k : Nat, k ≤ 16 ∧ vi = .int .i64 (k : Int) ∧ Blk wr m1 51 (bvs (pt (fun i => gb U i ^^^ gb E i) (gb U) k)) ∧ Blk wr m2 51 (bvs E) ∧ Blk wr (w.heap.size + 1) 51 (bvs none16) ∧ Kp nob w wr)
        (fun vi _ => 16 - (intOf vi).toNat)
      case atStart => exact ⟨0, by omega, rfl, by rw [pt_zero, tb_gb _ (by have := HUL.out; rw [bvs_length] at this; exact this)]; exact H10.out.2.2.1, H10.out.2.2.2, H10.out.1, H10.out.2.1⟩
      case round =>
        obtain ⟨k, hk, rfl, h1, h2, h3, hkp⟩ := hrel
        have H1 := Lib.hid h1; have H2 := Lib.hid h2; have H3' := Lib.hid h3; clear h1 h2 h3
        by_cases hlt : k < 16
        · have hc1 : wr.cell? ⟨m1, k, none⟩ = some (.int .u8 (cb (gb U k))) := by rw [H1.out.cell, pt_get _ _ _ hlt]
          have hc2 := blk_byte H2.out k (by have := HEL.out; rw [bvs_length] at this; omega)
          have hf1 : wr.frozen? ⟨m1, k, none⟩ = false := H1.out.frozen _
          go_wp2
          go_region
          go_wp2
          go_roundw
          case rel =>
            refine ⟨k + 1, by omega, by go_num, ?_, ?_, ?_, ?_⟩
            · have := (H1.out.keep (Kp.refl nob wr).drew (fun e => e)).set_ k (.int .u8 (cb (gb U k ^^^ gb E k)))
              rw [bvs_setb, pt_set (fun i => gb U i ^^^ gb E i)] at this
              exact this
            · exact (H2.out.keep (Kp.refl nob wr).drew (fun e => e)).far (by have := HM10.out; simp only; omega) _
            · exact (H3'.out.keep (Kp.refl nob wr).drew (fun e => e)).far (by have := HM9.out; simp only; omega) _
            · exact hkp.drew.setCell (.inr (by have := HM9.out; simp only; omega)) _
          case measure => simp [intOf]; omega
        · obtain rfl : k = 16 := by omega
          have h1 := H1.out
          rw [pt_all, ← plus_eq] at h1
          have HB1 := Lib.hid h1
          have HPL := Lib.hid (show (bvs (plus U E)).length = 16 by rw [bvs_length, Ghash.plus_length])
          clear H1 h1
          go_wp2_with (first
            | (refine wpList_load_blk rfl 51 (.tmp 10) rfl _ _ _ HB1.out rfl _ arrB rfl (by rw [HPL.out]; kernel_rfl) ?_)
            | (refine wpList_store_blk rfl 51 (.tmp 8) (.tmp 43) rfl _ _ (bvs none16) (bvs (plus U E)) H3'.out rfl rfl (by rw [HZ.out, HPL.out]) (by rw [HPL.out]; kernel_rfl) (bvs_one _) ?_; intro w5 hB5 k5 z5))
          have hsz : (Tryd.prog.info? 51).map (·.size) = some (bvs (plus U E)).toArray.size := by
            rw [List.size_toArray, HPL.out]; kernel_rfl
          refine bodyPost_ret (results_cell_row rfl _ _ (w.heap.size + 1) _ _ _ _ rfl hB5 arrB rfl hsz) rfl ⟨rfl, hkp.since k5 (fun i e => by cases e; omega)⟩
    clear hK2
    refine reg_start (fun w' => Kp nob w9 w') (by kernel_rfl) (Kp.refl nob w9).drew (fun wd hd => ?_)
    have H0 := Lib.hid hd
    clear hd
    refine reg_take (v := .pointer (some ⟨p, 0, none⟩)) 0 (some 24) rfl rfl (by kernel_rfl) (by kernel_rfl) (by kernel_rfl) (by rfl) H0.out (fun w hw => by go_simp) ?_
    simp only [Act.put, List.setIfInBounds_toArray, List.set_cons_zero, List.set_cons_succ]
    refine reg_take (v := .pointer (some ⟨p, 0, none⟩)) 1 (some 25) rfl rfl (by kernel_rfl) (by kernel_rfl) (by kernel_rfl) (by rfl) H0.out (fun w hw => by go_simp) ?_
    simp only [Act.put, List.setIfInBounds_toArray, List.set_cons_zero, List.set_cons_succ]
    refine reg_take (v := .pointer (some ⟨p, 0, none⟩)) 2 (some 26) rfl rfl (by kernel_rfl) (by kernel_rfl) (by kernel_rfl) (by rfl) H0.out (fun w hw => by go_simp) ?_
    simp only [Act.put, List.setIfInBounds_toArray, List.set_cons_zero, List.set_cons_succ]
    refine reg_take (v := .pointer (some ⟨g, 0, none⟩)) 3 (some 27) rfl rfl (by kernel_rfl) (by kernel_rfl) (by kernel_rfl) (by rfl) H0.out (fun w hw => by have c0 : w.cell? ⟨p, 0, none⟩ = _ := (HG.out.1.keep (H9.out.2.2.trans hw (fun _ e => e.elim)) (fun e => e)).cell 0; go_simp) ?_
    simp only [Act.put, List.setIfInBounds_toArray, List.set_cons_zero, List.set_cons_succ]
    refine reg_load 4 (some 28) 38 (.tmp 5) rfl rfl rfl (by kernel_rfl) (by kernel_rfl) (by kernel_rfl) (by rfl) H0.out w.heap.size 0 rfl (bvs nn) _ (fun _ x => (H9.out.1.keep x (fun e => e)).range) arrN rfl (by rw [HNL.out]; kernel_rfl) ?_
    simp only [Act.put, List.setIfInBounds_toArray, List.set_cons_zero, List.set_cons_succ]
    refine reg_callOr (w' := wd.alloc (.cells (bvs none16).toArray 51)) (v := .pointer (some ⟨wd.heap.size, 0, none⟩)) 5 7 (some 29) (some 11) rfl rfl rfl rfl (by kernel_rfl) (by rfl) (by rfl) _ _ (exec_func 31 _ _ [.agg (bvs nn).toArray, .int .i64 1] rfl (by kernel_rfl) rfl) (by go_simp; rfl) (H0.out.alloc _) ?wa1 (fun _ => ?wb1)
    case wa1 =>
      refine (block_any nn 1 wd HNN.out (by omega)).mono ?_
      rintro e w1 ⟨rfl, k1⟩
      have H1 := Lib.hid (H0.out.trans k1 (fun _ e => e.elim))
      refine ⟨_, rfl, H1.out, fun _ => ?_⟩
      simp only [Act.put, List.setIfInBounds_toArray, List.set_cons_zero, List.set_cons_succ]
      refine reg_callOr (w' := w1.alloc (.cells (bvs none16).toArray 51)) (v := .pointer (some ⟨w1.heap.size, 0, none⟩)) 6 7 (some 30) (some 11) rfl rfl rfl rfl (by kernel_rfl) (by rfl) (by rfl) _ _ (exec_func 30 _ _ [.pointer (some ⟨g, 0, none⟩), .agg (bvs (nb nn 1)).toArray] rfl (by kernel_rfl) rfl) (by go_simp; rfl) (H1.out.alloc _) ?wa2 (fun _ => ?wb2)
      case wa2 =>
        refine (Aes.seal_any (nb nn 1) W g R w1 (nb_length _ _ HNN.out) (HG.out.2.keep0 (H9.out.2.2.trans H1.out (fun _ e => e.elim)))).mono ?_
        rintro e w2 ⟨rfl, k2⟩
        rw [← HE.out]
        have H2 := Lib.hid (H1.out.trans k2 (fun _ e => e.elim))
        refine ⟨_, rfl, H2.out, fun _ => ?_⟩
        simp only [Act.put, List.setIfInBounds_toArray, List.set_cons_zero, List.set_cons_succ]
        refine reg_step (w' := w2.alloc (.cells (bvs none16).toArray 51)) (v := .pointer (some ⟨w2.heap.size, 0, none⟩)) 7 (some 11) rfl rfl (by kernel_rfl) (by rfl) (by go_simp; rfl) (H2.out.alloc _) (fun _ => ?_)
        simp only [Act.put, List.setIfInBounds_toArray, List.set_cons_zero, List.set_cons_succ]
        have hbk : Blk (w2.alloc (.cells (bvs none16).toArray 51)) w2.heap.size 51 (bvs none16) := Blk.new' rfl rfl
        have hge := H2.out.size
        refine reg_store 8 none 51 (.tmp 11) (.tmp 30) rfl rfl rfl (by kernel_rfl) (by rfl) w2.heap.size _ _ (bvs E) hbk rfl rfl (by rw [HEL.out, HZ.out]) (by rw [HEL.out]; kernel_rfl) (bvs_one _) ?_
        intro w99 hB99 k99 z99
        have hkk : Kp nob w9 w99 := (H2.out.alloc _).since k99 (fun i e => by unfold oneB at e; omega)
        refine ⟨hkk, fun _ => ?_⟩
        simp only [Act.put, List.setIfInBounds_toArray, List.set_cons_zero, List.set_cons_succ]
        exact reg_end (by kernel_rfl) (hcont w2.heap.size w99 hkk hB99 hge)
      case wb2 =>
        simp only [Act.put, List.setIfInBounds_toArray, List.set_cons_zero, List.set_cons_succ]
        have hbk : Blk (w1.alloc (.cells (bvs none16).toArray 51)) w1.heap.size 51 (bvs none16) := Blk.new' rfl rfl
        have hge := H1.out.size
        have H1a := Lib.hid (H1.out.alloc (.cells (bvs none16).toArray 51))
        generalize w1.alloc (.cells (bvs none16).toArray 51) = w1a at *
        refine reg_call 6 (some 30) rfl rfl (by kernel_rfl) (by rfl) _ _ (exec_func 30 _ _ [.pointer (some ⟨g, 0, none⟩), .agg (bvs (nb nn 1)).toArray] rfl (by kernel_rfl) rfl) ?_
        refine (Aes.seal_any (nb nn 1) W g R w1a (nb_length _ _ HNN.out) (HG.out.2.keep0 (H9.out.2.2.trans H1a.out (fun _ e => e.elim)))).mono ?_
        rintro e w2 ⟨rfl, k2⟩
        rw [← HE.out]
        have H2 := Lib.hid (H1a.out.trans k2 (fun _ e => e.elim))
        refine ⟨_, rfl, H2.out, fun _ => ?_⟩
        simp only [Act.put, List.setIfInBounds_toArray, List.set_cons_zero, List.set_cons_succ]
        have hbk2 := hbk.keep k2 (fun e => e)
        refine reg_store 8 none 51 (.tmp 11) (.tmp 30) rfl rfl rfl (by kernel_rfl) (by rfl) w1.heap.size _ _ (bvs E) hbk2 rfl rfl (by rw [HEL.out, HZ.out]) (by rw [HEL.out]; kernel_rfl) (bvs_one _) ?_
        intro w99 hB99 k99 z99
        have hkk : Kp nob w9 w99 := (H2.out).since k99 (fun i e => by unfold oneB at e; omega)
        refine ⟨hkk, fun _ => ?_⟩
        simp only [Act.put, List.setIfInBounds_toArray, List.set_cons_zero, List.set_cons_succ]
        exact reg_end (by kernel_rfl) (hcont w1.heap.size w99 hkk hB99 hge)
    case wb1 =>
      simp only [Act.put, List.setIfInBounds_toArray, List.set_cons_zero, List.set_cons_succ]
      have hbk : Blk (wd.alloc (.cells (bvs none16).toArray 51)) wd.heap.size 51 (bvs none16) := Blk.new' rfl rfl
      have hge := H0.out.size
      have H0a := Lib.hid (H0.out.alloc (.cells (bvs none16).toArray 51))
      generalize wd.alloc (.cells (bvs none16).toArray 51) = wda at *
      refine reg_call 5 (some 29) rfl rfl (by kernel_rfl) (by rfl) _ _ (exec_func 31 _ _ [.agg (bvs nn).toArray, .int .i64 1] rfl (by kernel_rfl) rfl) ?_
      refine (block_any nn 1 wda HNN.out (by omega)).mono ?_
      rintro e w1 ⟨rfl, k1⟩
      have H1 := Lib.hid (H0a.out.trans k1 (fun _ e => e.elim))
      refine ⟨_, rfl, H1.out, fun _ => ?_⟩
      simp only [Act.put, List.setIfInBounds_toArray, List.set_cons_zero, List.set_cons_succ]
      refine reg_call 6 (some 30) rfl rfl (by kernel_rfl) (by rfl) _ _ (exec_func 30 _ _ [.pointer (some ⟨g, 0, none⟩), .agg (bvs (nb nn 1)).toArray] rfl (by kernel_rfl) rfl) ?_
      refine (Aes.seal_any (nb nn 1) W g R w1 (nb_length _ _ HNN.out) (HG.out.2.keep0 (H9.out.2.2.trans H1.out (fun _ e => e.elim)))).mono ?_
      rintro e w2 ⟨rfl, k2⟩
      rw [← HE.out]
      have H2 := Lib.hid (H1.out.trans k2 (fun _ e => e.elim))
      refine ⟨_, rfl, H2.out, fun _ => ?_⟩
      simp only [Act.put, List.setIfInBounds_toArray, List.set_cons_zero, List.set_cons_succ]
      have hbk2 := (hbk.keep k1 (fun e => e)).keep k2 (fun e => e)
      refine reg_store 8 none 51 (.tmp 11) (.tmp 30) rfl rfl rfl (by kernel_rfl) (by rfl) wd.heap.size _ _ (bvs E) hbk2 rfl rfl (by rw [HEL.out, HZ.out]) (by rw [HEL.out]; kernel_rfl) (bvs_one _) ?_
      intro w99 hB99 k99 z99
      have hkk : Kp nob w9 w99 := (H2.out).since k99 (fun i e => by unfold oneB at e; omega)
      refine ⟨hkk, fun _ => ?_⟩
      simp only [Act.put, List.setIfInBounds_toArray, List.set_cons_zero, List.set_cons_succ]
      exact reg_end (by kernel_rfl) (hcont wd.heap.size w99 hkk hB99 hge)
  clear hK1
  refine reg_start (fun w' => Kp nob w4 w') (by kernel_rfl) (Kp.refl nob w4).drew (fun wd hd => ?_)
  have H0 := Lib.hid hd
  clear hd
  refine reg_load 0 (some 19) 51 (.tmp 9) rfl rfl rfl (by kernel_rfl) (by kernel_rfl) (by kernel_rfl) (by rfl) H0.out w3.heap.size 0 rfl (bvs H) _ (fun _ x => (HB4.out.keep x (fun e => e)).range) arrB rfl (by rw [HHL.out]; kernel_rfl) ?_
  simp only [Act.put, List.setIfInBounds_toArray, List.set_cons_zero, List.set_cons_succ]
  refine reg_take (v := .slice B m d) 1 (some 20) rfl rfl (by kernel_rfl) (by kernel_rfl) (by kernel_rfl) (by rfl) H0.out (fun w hw => by go_simp) ?_
  simp only [Act.put, List.setIfInBounds_toArray, List.set_cons_zero, List.set_cons_succ]
  refine reg_take (v := .slice A n c) 3 (some 22) rfl rfl (by kernel_rfl) (by kernel_rfl) (by kernel_rfl) (by rfl) H0.out (fun w hw => by go_simp) ?_
  simp only [Act.put, List.setIfInBounds_toArray, List.set_cons_zero, List.set_cons_succ]
  refine reg_callOr (w' := wd.alloc (.cells (bvs none16).toArray 51)) (v := .pointer (some ⟨wd.heap.size, 0, none⟩)) 2 5 (some 21) (some 10) rfl rfl rfl rfl (by kernel_rfl) (by rfl) (by rfl) _ _ (exec_func 33 _ _ [.slice B m d] rfl (by kernel_rfl) rfl) (by go_simp; rfl) (H0.out.alloc _) ?wa1 (fun _ => ?wb1)
  case wa1 =>
    refine (concat_any B m d ps wd HP.out.1 (HP.out.2.1.keep0 (H4.out.2.2.trans H0.out (fun _ e => e.elim))) (HP.out.2.2.1.keep0 (H4.out.2.2.trans H0.out (fun _ e => e.elim))) HP.out.2.2.2 HLP.out.1 HLP.out.2).mono ?_
    rintro e w1 ⟨Ac, cc, rfl, hOc, k1, hAc⟩
    have H1 := Lib.hid (H0.out.trans k1 (fun _ e => e.elim))
    refine ⟨_, rfl, H1.out, fun _ => ?_⟩
    simp only [Act.put, List.setIfInBounds_toArray, List.set_cons_zero, List.set_cons_succ]
    refine reg_callOr (w' := w1.alloc (.cells (bvs none16).toArray 51)) (v := .pointer (some ⟨w1.heap.size, 0, none⟩)) 4 5 (some 23) (some 10) rfl rfl rfl rfl (by kernel_rfl) (by rfl) (by rfl) _ _ (exec_func 32 _ _ [.agg (bvs H).toArray, .slice Ac (catP ps).length cc, .slice A n c] rfl (by kernel_rfl) rfl) (by go_simp; rfl) (H1.out.alloc _) ?wa2 (fun _ => ?wb2)
    case wa2 =>
      refine (Ghash.of_any H (catP ps) l Ac _ cc A n c w1 (by have := HHL.out; rw [bvs_length] at this; exact this) rfl hOc.cap.1 (by have := HLP.out.2; omega) hOc.row HL.out HC.out (by have := HN.out; omega) (HR.out.keep0 (H4.out.2.2.trans H1.out (fun _ e => e.elim)))).mono ?_
      rintro e w2 ⟨rfl, k2⟩
      rw [← HU.out]
      have H2 := Lib.hid (H1.out.trans k2 (fun _ e => e.elim))
      refine ⟨_, rfl, H2.out, fun _ => ?_⟩
      simp only [Act.put, List.setIfInBounds_toArray, List.set_cons_zero, List.set_cons_succ]
      refine reg_step (w' := w2.alloc (.cells (bvs none16).toArray 51)) (v := .pointer (some ⟨w2.heap.size, 0, none⟩)) 5 (some 10) rfl rfl (by kernel_rfl) (by rfl) (by go_simp; rfl) (H2.out.alloc _) (fun _ => ?_)
      simp only [Act.put, List.setIfInBounds_toArray, List.set_cons_zero, List.set_cons_succ]
      have hbk : Blk (w2.alloc (.cells (bvs none16).toArray 51)) w2.heap.size 51 (bvs none16) := Blk.new' rfl rfl
      have hge := H2.out.size
      refine reg_store 6 none 51 (.tmp 10) (.tmp 23) rfl rfl rfl (by kernel_rfl) (by rfl) w2.heap.size _ _ (bvs U) hbk rfl rfl (by rw [HUL.out, HZ.out]) (by rw [HUL.out]; kernel_rfl) (bvs_one _) ?_
      intro w99 hB99 k99 z99
      have hkk : Kp nob w4 w99 := (H2.out.alloc _).since k99 (fun i e => by unfold oneB at e; omega)
      refine ⟨hkk, fun _ => ?_⟩
      simp only [Act.put, List.setIfInBounds_toArray, List.set_cons_zero, List.set_cons_succ]
      exact reg_end (by kernel_rfl) (hcont Ac cc w2.heap.size w99 hkk hB99 hge)
    case wb2 =>
      simp only [Act.put, List.setIfInBounds_toArray, List.set_cons_zero, List.set_cons_succ]
      have hbk : Blk (w1.alloc (.cells (bvs none16).toArray 51)) w1.heap.size 51 (bvs none16) := Blk.new' rfl rfl
      have hge := H1.out.size
      have H1a := Lib.hid (H1.out.alloc (.cells (bvs none16).toArray 51))
      have hOc := hOc.alloc (.cells (bvs none16).toArray 51)
      generalize w1.alloc (.cells (bvs none16).toArray 51) = w1a at *
      refine reg_call 4 (some 23) rfl rfl (by kernel_rfl) (by rfl) _ _ (exec_func 32 _ _ [.agg (bvs H).toArray, .slice Ac (catP ps).length cc, .slice A n c] rfl (by kernel_rfl) rfl) ?_
      refine (Ghash.of_any H (catP ps) l Ac _ cc A n c w1a (by have := HHL.out; rw [bvs_length] at this; exact this) rfl hOc.cap.1 (by have := HLP.out.2; omega) hOc.row HL.out HC.out (by have := HN.out; omega) (HR.out.keep0 (H4.out.2.2.trans H1a.out (fun _ e => e.elim)))).mono ?_
      rintro e w2 ⟨rfl, k2⟩
      rw [← HU.out]
      have H2 := Lib.hid (H1a.out.trans k2 (fun _ e => e.elim))
      refine ⟨_, rfl, H2.out, fun _ => ?_⟩
      simp only [Act.put, List.setIfInBounds_toArray, List.set_cons_zero, List.set_cons_succ]
      have hbk2 := hbk.keep k2 (fun e => e)
      refine reg_store 6 none 51 (.tmp 10) (.tmp 23) rfl rfl rfl (by kernel_rfl) (by rfl) w1.heap.size _ _ (bvs U) hbk2 rfl rfl (by rw [HUL.out, HZ.out]) (by rw [HUL.out]; kernel_rfl) (bvs_one _) ?_
      intro w99 hB99 k99 z99
      have hkk : Kp nob w4 w99 := (H2.out).since k99 (fun i e => by unfold oneB at e; omega)
      refine ⟨hkk, fun _ => ?_⟩
      simp only [Act.put, List.setIfInBounds_toArray, List.set_cons_zero, List.set_cons_succ]
      exact reg_end (by kernel_rfl) (hcont Ac cc w1.heap.size w99 hkk hB99 hge)
  case wb1 =>
    simp only [Act.put, List.setIfInBounds_toArray, List.set_cons_zero, List.set_cons_succ]
    have hbk : Blk (wd.alloc (.cells (bvs none16).toArray 51)) wd.heap.size 51 (bvs none16) := Blk.new' rfl rfl
    have hge := H0.out.size
    have H0a := Lib.hid (H0.out.alloc (.cells (bvs none16).toArray 51))
    generalize wd.alloc (.cells (bvs none16).toArray 51) = wda at *
    refine reg_call 2 (some 21) rfl rfl (by kernel_rfl) (by rfl) _ _ (exec_func 33 _ _ [.slice B m d] rfl (by kernel_rfl) rfl) ?_
    refine (concat_any B m d ps wda HP.out.1 (HP.out.2.1.keep0 (H4.out.2.2.trans H0a.out (fun _ e => e.elim))) (HP.out.2.2.1.keep0 (H4.out.2.2.trans H0a.out (fun _ e => e.elim))) HP.out.2.2.2 HLP.out.1 HLP.out.2).mono ?_
    rintro e w1 ⟨Ac, cc, rfl, hOc, k1, hAc⟩
    have H1 := Lib.hid (H0a.out.trans k1 (fun _ e => e.elim))
    refine ⟨_, rfl, H1.out, fun _ => ?_⟩
    simp only [Act.put, List.setIfInBounds_toArray, List.set_cons_zero, List.set_cons_succ]
    refine reg_call 4 (some 23) rfl rfl (by kernel_rfl) (by rfl) _ _ (exec_func 32 _ _ [.agg (bvs H).toArray, .slice Ac (catP ps).length cc, .slice A n c] rfl (by kernel_rfl) rfl) ?_
    refine (Ghash.of_any H (catP ps) l Ac _ cc A n c w1 (by have := HHL.out; rw [bvs_length] at this; exact this) rfl hOc.cap.1 (by have := HLP.out.2; omega) hOc.row HL.out HC.out (by have := HN.out; omega) (HR.out.keep0 (H4.out.2.2.trans H1.out (fun _ e => e.elim)))).mono ?_
    rintro e w2 ⟨rfl, k2⟩
    rw [← HU.out]
    have H2 := Lib.hid (H1.out.trans k2 (fun _ e => e.elim))
    refine ⟨_, rfl, H2.out, fun _ => ?_⟩
    simp only [Act.put, List.setIfInBounds_toArray, List.set_cons_zero, List.set_cons_succ]
    have hbk2 := (hbk.keep k1 (fun e => e)).keep k2 (fun e => e)
    refine reg_store 6 none 51 (.tmp 10) (.tmp 23) rfl rfl rfl (by kernel_rfl) (by rfl) wd.heap.size _ _ (bvs U) hbk2 rfl rfl (by rw [HUL.out, HZ.out]) (by rw [HUL.out]; kernel_rfl) (bvs_one _) ?_
    intro w99 hB99 k99 z99
    have hkk : Kp nob w4 w99 := (H2.out).since k99 (fun i e => by unfold oneB at e; omega)
    refine ⟨hkk, fun _ => ?_⟩
    simp only [Act.put, List.setIfInBounds_toArray, List.set_cons_zero, List.set_cons_succ]
    exact reg_end (by kernel_rfl) (hcont Ac cc wd.heap.size w99 hkk hB99 hge)
end Go.Proofs.YtbainiblffcjgaaDoor.Gcm
