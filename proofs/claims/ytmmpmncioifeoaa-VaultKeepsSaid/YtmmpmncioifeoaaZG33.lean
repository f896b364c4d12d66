/- Contracts of package aes: a key's cipher; how many rounds it has. · Contracts of package aes: a block under a key. · Contracts of package gcm: a nonce's block. -/
import Derived.Test.YtmmpmncioifeoaaZG32
import Derived.Test.YtmmpmncioifeoaaZG28
import Derived.Deep.RegionLaw
namespace Go.Proofs.Ytmmpmncioifeoaa.Aes
set_option linter.unusedVariables false
set_option linter.unusedSimpArgs false
open Go Go.RowKit Kit
open Field (cb cb_inj Sq)

/-- A cipher of the words W, of R rounds and one more. -/
structure Ciph [Inhabited Field.SqTab] (w : World) (g : Nat) (W : List UInt8) (R : Nat) : Prop where
  b : ∃ K : List UInt8, K.length = 240 ∧ (∀ j, j < 16 * (R + 2) → gb K j = gb W j) ∧ Blk w g 166 (cph (R + 1) K BX BK)
  r : R ≤ 13
  l : W.length = 16 * (R + 2)
theorem Ciph.keep [Inhabited Field.SqTab] {F : Nat → Prop} {w w2 : World} {g R : Nat} {W : List UInt8} (h : Ciph w g W R) (k : Kp F w w2) (hF : ¬ F g) : Ciph w2 g W R :=
  ⟨(let ⟨K, h1, h2, h3⟩ := h.b; ⟨K, h1, h2, h3.keep k hF⟩), h.r, h.l⟩
theorem Ciph.keep0 [Inhabited Field.SqTab] {w w2 : World} {g R : Nat} {W : List UInt8} (h : Ciph w g W R) (k : Kp nob w w2) : Ciph w2 g W R := h.keep k (fun e => e)
theorem Ciph.lt [Inhabited Field.SqTab] {w : World} {g R : Nat} {W : List UInt8} (h : Ciph w g W R) : g < w.heap.size := let ⟨_, _, _, h3⟩ := h.b; h3.lt
theorem Ciph.num [Inhabited Field.SqTab] {w : World} {g R : Nat} {W : List UInt8} (h : Ciph w g W R) : w.cell? ⟨g, 0, none⟩ = some (.int .i64 ((R + 1 : Nat) : Int)) := by
  obtain ⟨K, _, _, h3⟩ := h.b
  rw [h3.cell, cph_zero]
theorem Ciph.box [Inhabited Field.SqTab] {w : World} {g R : Nat} {W : List UInt8} (h : Ciph w g W R) : Tab w g 241 Field.gbox := by
  obtain ⟨K, h1, _, h3⟩ := h.b
  exact ⟨h3.lt, fun x => by rw [h3.cell]; exact cph_bx h1 BX_length _ _ (BX_get x)⟩
/-- A round's key. -/
theorem Ciph.key [Inhabited Field.SqTab] {w : World} {g R : Nat} {W : List UInt8} (h : Ciph w g W R) (r : Nat) (hr : r ≤ R + 1) : w.rangeAt g (1 + r * 16) (bvs (rk W r)) := by
  obtain ⟨K, h1, h2, h3⟩ := h.b
  have h13 := h.r
  refine h3.part _ _ fun j v hv => ?_
  have hj : j < 16 := by have := (List.getElem?_eq_some_iff.1 hv).1; rwa [bvs_length, rk_length] at this
  rw [gb_get _ _ (by rw [rk_length]; exact hj), rk_eq, gb_tb _ _ hj] at hv
  rw [Nat.add_assoc, cph_key h1 _ (by omega), h2 _ (by omega), ← hv, Nat.mul_comm]

def cz (N : Nat) : List Value := cph N (List.replicate 240 0) (List.replicate 256 0) (List.replicate 256 0)
theorem cz_eq (N : Nat) : cz N = cph N (List.replicate 240 0) (List.replicate 256 0) (List.replicate 256 0) := rfl
attribute [irreducible] cz
theorem new_no (A : Option Addr) (n c : Nat) (w : World) (h1 : n ≠ 16) (h2 : n ≠ 32) (hn : n ≤ 140737488355328) :
    Calls Try.prog 102 #[.slice A n c] w fun e w' => e = .returned (.tuple #[.pointer none, .int .i64 1]) ∧ w = w' := by
  have d1 : ((n : Int) != 16) = true := by rw [bne_iff_ne]; omega
  have d2 : ((n : Int) != 32) = true := by rw [bne_iff_ne]; omega
  go_enter Try.func102, Try.ntmps102
  go_wp2
  go_ret2
  exact ⟨rfl, rfl⟩
set_option maxHeartbeats 1000000 in
set_option maxRecDepth 100000 in
theorem new_yes [Inhabited Field.SqTab] (n : Nat) (key : List UInt8) (A : Option Addr) (cA : Nat) (w : World) (ht : Sq w) (hk : key.length = 4 * n) (hn : n = 4 ∨ n = 8) (hr : Row w A (bvs key)) (hc : 4 * n ≤ cA) :
    Calls Try.prog 102 #[.slice A (4 * n) cA] w fun e w' => ∃ g, e = .returned (.tuple #[.pointer (some ⟨g, 0, none⟩), .int .i64 0]) ∧ Ciph w' g (allW key) (n + 5) ∧ w.heap.size ≤ g ∧ Kp nob w w' := by
  have HK := Lib.hid hk; have HR := Lib.hid hr; have HT := Lib.hid ht
  have e1 : ((4 * n : Nat) : Int).tdiv 4 = (n : Int) := by rw [Int.tdiv_eq_ediv_of_nonneg (by omega)]; omega
  have e2 : IntKind.i64.wrap ((n : Int) + 6) = ((n + 6 : Nat) : Int) := wrap_to _ _ (by omega) (by omega)
  have hlt : ∀ k, ab A = some k → k < w.heap.size := hr.lt (fun e => by have h1 := congrArg List.length e; rw [bvs_length, hk] at h1; simp at h1; omega)
  clear hk hr ht
  go_enter Try.func102, Try.ntmps102
  rcases hn with rfl | rfl
  case' inl =>
    go_wp2_with (refine wpList_built rfl 166 _ rfl (.agg (cz 10).toArray) (by kernel_rfl) ?_)
    refine (fillBoxes_any w.heap.size 10 (List.replicate 240 0) _ (by rw [List.length_replicate]) (HT.out.keep0 ((Kp.refl nob w).alloc _)) (sq_lt HT.out) (by rw [bxs_zero, bks_zero]; exact (cz_eq 10) ▸ Blk.new w _ _)).mono ?_
    rintro e w1 ⟨rfl, hb1, k1⟩
    have HB1 := Lib.hid (show Blk w1 w.heap.size 166 (cph (4 + 6) (kz key 4 0) BX BK) by rw [kz_zero]; exact hb1)
    have HN := Lib.hid (show 4 + 6 = 4 + 5 + 1 from rfl)
  case' inr =>
    go_wp2_with (refine wpList_built rfl 166 _ rfl (.agg (cz 14).toArray) (by kernel_rfl) ?_)
    refine (fillBoxes_any w.heap.size 14 (List.replicate 240 0) _ (by rw [List.length_replicate]) (HT.out.keep0 ((Kp.refl nob w).alloc _)) (sq_lt HT.out) (by rw [bxs_zero, bks_zero]; exact (cz_eq 14) ▸ Blk.new w _ _)).mono ?_
    rintro e w1 ⟨rfl, hb1, k1⟩
    have HB1 := Lib.hid (show Blk w1 w.heap.size 166 (cph (8 + 6) (kz key 8 0) BX BK) by rw [kz_zero]; exact hb1)
    have HN := Lib.hid (show 8 + 6 = 8 + 5 + 1 from rfl)
  all_goals
    have K1 := Lib.hid (((Kp.refl nob w).alloc _).since k1 (fun i e => by unfold oneB at e; omega))
    clear hb1 k1
    go_wp2_with fail
    refine (fillKeys_any w.heap.size _ key A cA w1 HK.out (by omega) (by omega) (HR.out.keep0 K1.out) hc (fun k e => by have := hlt k e; omega) HB1.out).mono ?_
    rintro e w2 ⟨rfl, hb2, k2⟩
    have HF := Lib.hid hb2
    have HKK := Lib.hid (K1.out.since k2 (fun i e => by unfold oneB at e; omega))
    clear hb2 k2 K1 HB1
    go_wp2
    go_ret2
    refine ⟨w.heap.size, rfl, ⟨⟨_, kz_length key _ _ (by omega), fun j hj => ?_, HF.out⟩, by omega, ?_⟩, Nat.le_refl _, HKK.out⟩
    · rw [kz_at _ _ _ _ (by omega), allW_eq, HK.out]
    · rw [allW_length, HK.out]
end Go.Proofs.Ytmmpmncioifeoaa.Aes
namespace Go.Proofs.Ytmmpmncioifeoaa.Aes
set_option linter.unusedVariables false
set_option linter.unusedSimpArgs false
open Go Go.RowKit Kit
open Field (cb cb_inj)

/-- What stands while a block is sealed, or opened: the block, the answer. -/
structure Sl [Inhabited Field.SqTab] (w : World) (B : List UInt8) (w2 : World) : Prop where
  p : Blk w2 w.heap.size 142 (bvs B)
  z : ∃ z : List Value, z.length = 16 ∧ Blk w2 (w.heap.size + 1) 142 z
  kp : Kp nob w w2
theorem Sl.keep [Inhabited Field.SqTab] {w w2 w3 : World} {B : List UInt8} (h : Sl w B w2) (k : Kp nob w2 w3) : Sl w B w3 :=
  ⟨h.p.keep k (fun e => e), (let ⟨z, hz, hb⟩ := h.z; ⟨z, hz, hb.keep k (fun e => e)⟩), h.kp.trans k (fun _ e => e.elim)⟩
theorem Sl.all [Inhabited Field.SqTab] {w w2 w3 : World} {B C : List UInt8} (h : Sl w B w2) (hB : Blk w3 w.heap.size 142 (bvs C)) (k : Kp (oneB w.heap.size) w2 w3) : Sl w C w3 :=
  ⟨hB, (let ⟨z, hz, hb⟩ := h.z; ⟨z, hz, hb.keep k (fun e => by unfold oneB at e; omega)⟩), h.kp.since k (fun i e => by unfold oneB at e; omega)⟩
theorem Sl.new [Inhabited Field.SqTab] (w : World) (B : List UInt8) : Sl w B ((w.alloc (.cells (bvs B).toArray 142)).alloc (.cells #[.int .u8 0, .int .u8 0, .int .u8 0, .int .u8 0, .int .u8 0, .int .u8 0, .int .u8 0, .int .u8 0, .int .u8 0, .int .u8 0, .int .u8 0, .int .u8 0, .int .u8 0, .int .u8 0, .int .u8 0, .int .u8 0] 142)) :=
  ⟨(Blk.new w _ _).alloc _, ⟨bvs noughts, rfl, Blk.new' (by simp) rfl⟩, ((Kp.refl nob w).alloc _).alloc _⟩
theorem load_b [Inhabited Field.SqTab] {w w2 : World} {B : List UInt8} (h : Sl w B w2) (hB : (bvs B).length = 16) : (Instr.loadAt 142 (.pointer (some ⟨w.heap.size, 0, none⟩))).run Try.prog w2 = .ok (.agg (bvs B).toArray) w2 :=
  run_loadAt_mid w2 _ 0 _ (bvs B) _ h.p.range arrB rfl (by rw [hB]; kernel_rfl)
theorem load_k [Inhabited Field.SqTab] {w : World} {g R : Nat} {W : List UInt8} (h : Ciph w g W R) (r : Nat) (hr : r ≤ R + 1) : (Instr.loadAt 142 (.pointer (some ⟨g, 1 + r * 16, none⟩))).run Try.prog w = .ok (.agg (bvs (rk W r)).toArray) w :=
  run_loadAt_mid w _ _ _ (bvs (rk W r)) _ (h.key r hr) arrB rfl (by rw [bvs_length, rk_length]; kernel_rfl)
theorem blen {B : List UInt8} (h : B.length = 16) : (bvs B).length = 16 := by rw [bvs_length, h]
theorem bsize {B : List UInt8} (h : B.length = 16) : (Try.prog.info? 142).map (·.size) = some (bvs B).length := by rw [blen h]; kernel_rfl

set_option maxHeartbeats 1000000 in
set_option maxRecDepth 100000 in
theorem seal_nil [Inhabited Field.SqTab] (b : List UInt8) (w : World) (hb : b.length = 16) :
    Calls Try.prog 103 #[.pointer none, .agg (bvs b).toArray] w fun e w' => e = .returned (.agg (bvs noughts).toArray) ∧ Kp nob w w' := by
  have HB := Lib.hid hb; clear hb
  have HS := Lib.hid (Sl.new w b)
  go_enter Try.func103, Try.ntmps103
  go_wp2
  have hB : Blk ((w.alloc (.cells (bvs b).toArray 142)).alloc (.cells #[.int .u8 0, .int .u8 0, .int .u8 0, .int .u8 0, .int .u8 0, .int .u8 0, .int .u8 0, .int .u8 0, .int .u8 0, .int .u8 0, .int .u8 0, .int .u8 0, .int .u8 0, .int .u8 0, .int .u8 0, .int .u8 0] 142)) (w.heap.size + 1) 142 (bvs noughts) := Blk.new' (by simp) rfl
  have hsz : (Try.prog.info? 142).map (·.size) = some (bvs noughts).toArray.size := by kernel_rfl
  refine bodyPost_ret (results_cell_row rfl _ _ (w.heap.size + 1) _ _ _ _ rfl hB arrB rfl hsz) rfl ⟨rfl, HS.out.kp⟩
set_option maxHeartbeats 2000000 in
set_option maxRecDepth 100000 in
theorem seal_any [Inhabited Field.SqTab] (b W : List UInt8) (g R : Nat) (w : World) (hb : b.length = 16) (hc : Ciph w g W R) :
    Calls Try.prog 103 #[.pointer (some ⟨g, 0, none⟩), .agg (bvs b).toArray] w fun e w' => e = .returned (.agg (bvs (enc W R b)).toArray) ∧ Kp nob w w' := by
  have HB := Lib.hid hb; clear hb
  have HC := Lib.hid hc
  have h13 := hc.r
  clear hc
  have HS := Lib.hid (Sl.new w b)
  go_enter Try.func103, Try.ntmps103
  go_wp2
  refine wp_region_still_tail 6 (by kernel_rfl) (by kernel_rfl) ?_
  generalize hw0 : (w.alloc (.cells (bvs b).toArray 142)).alloc (.cells #[.int .u8 0, .int .u8 0, .int .u8 0, .int .u8 0, .int .u8 0, .int .u8 0, .int .u8 0, .int .u8 0, .int .u8 0, .int .u8 0, .int .u8 0, .int .u8 0, .int .u8 0, .int .u8 0, .int .u8 0, .int .u8 0] 142) = w0 at *
  change wpStill _ _ w0.drew (fun a' => wpList _ _ _ _ a' w0.drew) _ _
  have HS1 := Lib.hid (HS.out.keep (Kp.refl nob w0).drew)
  clear HS hw0
  generalize w0.drew = wd at *
  have HL1 := Lib.hid (load_b HS1.out (blen HB.out))
  have HL2 := Lib.hid (load_k (HC.out.keep0 HS1.out.kp) 0 (by omega))
  simp only [List.take_succ_cons, List.take_zero, List.drop_succ_cons, List.drop_zero]
  refine wpStill_load rfl 142 (.tmp 3) rfl _ _ rfl HL1.out ?_
  iterate 4 still_step
  refine wpStill_load rfl 142 (.tmp 13) rfl _ _ rfl HL2.out ?_
  refine wpStill_nil ?_
  clear HL1 HL2
  go_wp2_with fail
  refine (sum_any b (rk W 0) _ HB.out (rk_length _ _)).mono ?_
  rintro e w1 ⟨rfl, k1⟩
  rw [← going_zero W b]
  have HG := Lib.hid (fun i => going_length W b i)
  have HS2 := Lib.hid (HS1.out.keep k1)
  clear HS1 k1
  go_wp2_with (refine wpList_store_blk rfl 142 (.tmp 3) (.tmp 15) rfl _ _ (bvs b) (bvs (going W b 0)) HS2.out.p rfl rfl (by rw [blen HB.out, blen (HG.out 0)]) (bsize (HG.out 0)) (bvs_one _) ?_; intro w2 hB2 k2 z2)
  have HS3 := Lib.hid (HS2.out.all hB2 k2)
  clear HS2 hB2 k2 z2
  go_wp2
  go_loopw [5] (fun vr wr => ∃ i : Nat, i ≤ R ∧ vr = .int .i64 ((i : Int) + 1) ∧ Sl w (going W b i) wr)
    (fun vr _ => R + 5 - (intOf vr).toNat)
  case atStart => exact ⟨0, by omega, rfl, HS3.out⟩
  case round =>
    obtain ⟨i, hi, rfl, hs⟩ := hrel
    have HS := Lib.hid hs; clear hs HS3
    have hnum := (HC.out.keep0 HS.out.kp).num
    have hnum' : wr.cell? ⟨g, 0, none⟩ = some (.int .i64 ((R : Int) + 1)) := hnum
    clear hnum
    obtain ⟨B, hB⟩ : ∃ B, B = going W b i := ⟨_, rfl⟩
    rw [← hB] at HS
    have HBL := Lib.hid (show B.length = 16 by rw [hB]; exact HG.out i)
    by_cases hlt : i < R
    · have HU := Lib.hid (going_succ W b i)
      rw [← hB] at HU
      have HBD := Lib.hid hB; clear hB
      have b1 : (0 : Int) ≤ (i : Int) + 1 ∧ (i : Int) + 1 < 15 := by omega
      go_wp2
      refine wp_region_still_tail 4 (by kernel_rfl) (by kernel_rfl) ?_
      change wpStill _ _ wr.drew (fun a' => wpList _ _ _ _ a' wr.drew) _ _
      have HS1 := Lib.hid (HS.out.keep (Kp.refl nob wr).drew)
      clear HS hnum'
      generalize wr.drew = wd at *
      have HL1 := Lib.hid (load_b HS1.out (blen HBL.out))
      simp only [List.take_succ_cons, List.take_zero, List.drop_succ_cons, List.drop_zero]
      refine wpStill_load rfl 142 (.tmp 3) rfl _ _ rfl HL1.out ?_
      iterate 3 still_step
      refine wpStill_nil ?_
      clear HL1
      go_wp2_with fail
      refine (swapped_any B g 241 Field.gbox _ HBL.out (HC.out.keep0 HS1.out.kp).box).mono ?_
      rintro e w1 ⟨rfl, k1⟩
      rw [← sub_eq B]
      go_wp2_with fail
      refine (turned_any (sub B) 1 _ (sub_length _) (by omega)).mono ?_
      rintro e w2 ⟨rfl, k2⟩
      rw [trn_one]
      go_wp2_with fail
      refine (mixed_any (rows (sub B)) _ (rows_length _)).mono ?_
      rintro e w3 ⟨rfl, k3⟩
      have HS2 := Lib.hid (((HS1.out.keep k1).keep k2).keep k3)
      clear HS1 k1 k2 k3
      obtain ⟨C, hC⟩ : ∃ C, C = mix (rows (sub B)) := ⟨_, rfl⟩
      have HCL := Lib.hid (show C.length = 16 by rw [hC]; exact mix_length _)
      rw [← hC] at HU ⊢
      clear hC
      go_wp2_with (refine wpList_store_blk rfl 142 (.tmp 3) (.tmp 30) rfl _ _ (bvs B) (bvs C) HS2.out.p rfl rfl (by rw [blen HBL.out, blen HCL.out]) (bsize HCL.out) (bvs_one _) ?_; intro w4 hB4 k4 z4)
      have HS3 := Lib.hid (HS2.out.all hB4 k4)
      clear HS2 hB4 k4 z4
      go_wp2
      refine wp_region_still_tail 7 (by kernel_rfl) (by kernel_rfl) ?_
      change wpStill _ _ w4.drew (fun a' => wpList _ _ _ _ a' w4.drew) _ _
      have HS4 := Lib.hid (HS3.out.keep (Kp.refl nob w4).drew)
      clear HS3
      generalize w4.drew = we at *
      have HL1 := Lib.hid (load_b HS4.out (blen HCL.out))
      have HL2 := Lib.hid (load_k (HC.out.keep0 HS4.out.kp) (i + 1) (by omega))
      simp only [List.take_succ_cons, List.take_zero, List.drop_succ_cons, List.drop_zero]
      refine wpStill_load rfl 142 (.tmp 3) rfl _ _ rfl HL1.out ?_
      iterate 5 still_step
      refine wpStill_load rfl 142 (.tmp 36) rfl _ _ rfl HL2.out ?_
      refine wpStill_nil ?_
      clear HL1 HL2
      go_wp2_with fail
      refine (sum_any C (rk W (i + 1)) _ HCL.out (rk_length _ _)).mono ?_
      rintro e w5 ⟨rfl, k5⟩
      rw [← HU.out]
      have HS5 := Lib.hid (HS4.out.keep k5)
      clear HS4 k5
      go_wp2_with (refine wpList_store_blk rfl 142 (.tmp 3) (.tmp 38) rfl _ _ (bvs C) (bvs (going W b (i + 1))) HS5.out.p rfl rfl (by rw [blen HCL.out, blen (HG.out (i + 1))]) (bsize (HG.out (i + 1))) (bvs_one _) ?_; intro w6 hB6 k6 z6)
      have HS6 := Lib.hid (HS5.out.all hB6 k6)
      clear HS5 hB6 k6 z6
      go_wp2
      exact ⟨⟨i + 1, by omega, by go_num, HS6.out⟩, by simp [intOf]; omega⟩
    · have HU := Lib.hid (enc_eq W R b)
      rw [show R = i by omega, ← hB] at HU
      obtain rfl : i = R := by omega
      clear hB
      have HEL := Lib.hid (enc_length W i b)
      have b1 : (0 : Int) ≤ (i : Int) + 1 ∧ (i : Int) + 1 < 15 := by omega
      go_wp2
      refine wp_region_still_tail 4 (by kernel_rfl) (by kernel_rfl) ?_
      change wpStill _ _ wr.drew (fun a' => wpList _ _ _ _ a' wr.drew) _ _
      have HS1 := Lib.hid (HS.out.keep (Kp.refl nob wr).drew)
      clear HS hnum'
      generalize wr.drew = wd at *
      have HL1 := Lib.hid (load_b HS1.out (blen HBL.out))
      simp only [List.take_succ_cons, List.take_zero, List.drop_succ_cons, List.drop_zero]
      refine wpStill_load rfl 142 (.tmp 3) rfl _ _ rfl HL1.out ?_
      iterate 3 still_step
      refine wpStill_nil ?_
      clear HL1
      go_wp2_with fail
      refine (swapped_any B g 241 Field.gbox _ HBL.out (HC.out.keep0 HS1.out.kp).box).mono ?_
      rintro e w1 ⟨rfl, k1⟩
      rw [← sub_eq B]
      go_wp2_with fail
      refine (turned_any (sub B) 1 _ (sub_length _) (by omega)).mono ?_
      rintro e w2 ⟨rfl, k2⟩
      rw [trn_one]
      have HS2 := Lib.hid ((HS1.out.keep k1).keep k2)
      clear HS1 k1 k2
      obtain ⟨C, hC⟩ : ∃ C, C = rows (sub B) := ⟨_, rfl⟩
      have HCL := Lib.hid (show C.length = 16 by rw [hC]; exact rows_length _)
      rw [← hC] at HU ⊢
      clear hC
      go_wp2_with (refine wpList_store_blk rfl 142 (.tmp 3) (.tmp 44) rfl _ _ (bvs B) (bvs C) HS2.out.p rfl rfl (by rw [blen HBL.out, blen HCL.out]) (bsize HCL.out) (bvs_one _) ?_; intro w4 hB4 k4 z4)
      have HS3 := Lib.hid (HS2.out.all hB4 k4)
      clear HS2 hB4 k4 z4
      go_wp2
      refine wp_region_still_tail 10 (by kernel_rfl) (by kernel_rfl) ?_
      change wpStill _ _ w4.drew (fun a' => wpList _ _ _ _ a' w4.drew) _ _
      have HS4 := Lib.hid (HS3.out.keep (Kp.refl nob w4).drew)
      clear HS3
      generalize w4.drew = we at *
      have HL1 := Lib.hid (load_b HS4.out (blen HCL.out))
      have HL2 := Lib.hid (load_k (HC.out.keep0 HS4.out.kp) (i + 1) (by omega))
      have hnum2 : we.cell? ⟨g, 0, none⟩ = some (.int .i64 ((i : Int) + 1)) := (HC.out.keep0 HS4.out.kp).num
      simp only [List.take_succ_cons, List.take_zero, List.drop_succ_cons, List.drop_zero]
      refine wpStill_load rfl 142 (.tmp 3) rfl _ _ rfl HL1.out ?_
      iterate 8 still_step
      refine wpStill_load rfl 142 (.tmp 53) rfl _ _ rfl HL2.out ?_
      refine wpStill_nil ?_
      clear HL1 HL2 hnum2
      go_wp2_with fail
      refine (sum_any C (rk W (i + 1)) _ HCL.out (rk_length _ _)).mono ?_
      rintro e w5 ⟨rfl, k5⟩
      rw [← HU.out]
      obtain ⟨z, hz, hbz⟩ := (HS4.out.keep k5).z
      have HZ := Lib.hid hz; have HBZ := Lib.hid hbz
      have HKP := Lib.hid (HS4.out.keep k5).kp
      clear HS4 k5 hz hbz
      go_wp2_with (refine wpList_store_blk rfl 142 (.tmp 4) (.tmp 55) rfl _ _ z (bvs (enc W i b)) HBZ.out rfl rfl (by rw [HZ.out, blen HEL.out]) (bsize HEL.out) (bvs_one _) ?_; intro w6 hB6 k6 z6)
      have hsz : (Try.prog.info? 142).map (·.size) = some (bvs (enc W i b)).toArray.size := by
        rw [List.size_toArray]; exact bsize HEL.out
      refine bodyPost_ret (results_cell_row rfl _ _ (w.heap.size + 1) _ _ _ _ rfl hB6 arrB rfl hsz) rfl ⟨rfl, HKP.out.since k6 (fun i e => by cases e; omega)⟩
end Go.Proofs.Ytmmpmncioifeoaa.Aes
namespace Go.Proofs.Ytmmpmncioifeoaa.Gcm
set_option linter.unusedVariables false
set_option linter.unusedSimpArgs false
open Go Go.RowKit Kit
open Aes (gb tb tb_length gb_tb tb_gb tb_ext tb_eq pt pt_all pt_zero pt_set pt_get blk_byte set_tb bvs_setb arrB)
open Ghash (none16 none_tb none_length len16 pow_next)
open Field (cb cb_inj)

theorem arrN : Try.prog.underlying 53 = some (.array 12 5) := by kernel_rfl
theorem u8s_under : Try.prog.underlying 29 = some (.slice 5) := by kernel_rfl
theorem nonce_all (g o : Nat) (w : World) : (Instr.sliceAt 53 (.pointer (some ⟨g, o, none⟩)) none none none).run Try.prog w = .ok (.slice (some ⟨g, o, none⟩) 12 12) w := by
  have ha : Try.prog.underlying 53 = some (.array (Try.prog.arrayLen 53) (Try.prog.elem 53)) := by kernel_rfl
  have hl : Try.prog.arrayLen 53 = 12 := by kernel_rfl
  have he : Try.prog.elem 53 = 5 := by kernel_rfl
  have hz : (sizeOf 5).run Try.prog w = .ok 1 w := by kernel_rfl
  rw [run_sliceAt_array_all w _ _ ha, hl, he, hz]
  simp [Result.andThen, slicedAt, Addr.add]
theorem block_all (g o : Nat) (w : World) : (Instr.sliceAt 142 (.pointer (some ⟨g, o, none⟩)) none none none).run Try.prog w = .ok (.slice (some ⟨g, o, none⟩) 16 16) w := by
  have ha : Try.prog.underlying 142 = some (.array (Try.prog.arrayLen 142) (Try.prog.elem 142)) := by kernel_rfl
  have hl : Try.prog.arrayLen 142 = 16 := by kernel_rfl
  have he : Try.prog.elem 142 = 5 := by kernel_rfl
  have hz : (sizeOf 5).run Try.prog w = .ok 1 w := by kernel_rfl
  rw [run_sliceAt_array_all w _ _ ha, hl, he, hz]
  simp [Result.andThen, slicedAt, Addr.add]
/-- Three blocks: the nonce's, the answer's, the one that is made. -/
structure M3 (w : World) (n o : List UInt8) (w2 : World) : Prop where
  n : Blk w2 w.heap.size 53 (bvs n)
  z : Blk w2 (w.heap.size + 1) 142 (bvs none16)
  o : Blk w2 (w.heap.size + 2) 142 (bvs o)
  kp : Kp nob w w2
theorem M3.set {w w2 : World} {n o : List UInt8} (x : M3 w n o w2) (i : Nat) (u : UInt8) : M3 w n (o.set i u) (w2.setCell ⟨w.heap.size + 2, i, none⟩ (.int .u8 (cb u))) :=
  ⟨x.n.far (by simp) _, x.z.far (by simp) _, by have := x.o.set_ i (.int .u8 (cb u)); rwa [bvs_setb] at this, x.kp.setCell (.inr (by simp)) _⟩
theorem splice_nonce (n : List UInt8) (i : Nat) (hn : n.length = 12) : splice (bvs none16) 0 (bvs n) = bvs (bz n i 0) := by
  rw [← bz_zero, Aes.pt_eq]
  have h : n ++ List.replicate 4 0 = tb fun p => if p < 12 then gb n p else 0 := by
    refine (tb_eq (by simp [hn]) fun p hp => ?_).symm
    by_cases h : p < 12
    · rw [if_pos h, gb, gb, List.getD, List.getD, List.getElem?_append_left (by omega)]
    · rw [if_neg h, gb, List.getD, List.getElem?_append_right (by omega), List.getElem?_replicate, if_pos (by omega)]; rfl
  rw [← h, bvs_append, splice, bvs_length, hn]
  rfl

set_option maxHeartbeats 2000000 in
set_option maxRecDepth 100000 in
theorem block_any (n : List UInt8) (i : Nat) (w : World) (hn : n.length = 12) (hi : i ≤ 1099511627776) :
    Calls Try.prog 74 #[.agg (bvs n).toArray, .int .i64 i] w fun e w' => e = .returned (.agg (bvs (nb n i)).toArray) ∧ Kp nob w w' := by
  have HN := Lib.hid hn
  have HNB := Lib.hid (show (bvs n).length = 12 by rw [bvs_length, hn])
  have HB := Lib.hid (splice_nonce n i hn)
  have HA := Lib.hid (bz_all n i hn)
  have HNL := Lib.hid (len16 (nb_length n i hn))
  have HZ := Lib.hid (len16 none_length)
  have f1 := nonce_all w.heap.size 0
  have f2 := block_all (w.heap.size + 2) 0
  clear hn
  go_enter Try.func74, Try.ntmps74
  have H0 : Hid (M3 w n none16 (((w.alloc (.cells (bvs n).toArray 53)).alloc (.cells (bvs none16).toArray 142)).alloc (.cells (bvs none16).toArray 142)).drew) := Lib.hid (by
    have h : M3 w n none16 (((w.alloc (.cells (bvs n).toArray 53)).alloc (.cells (bvs none16).toArray 142)).alloc (.cells (bvs none16).toArray 142)) := ⟨((Blk.new' rfl rfl).alloc _).alloc _, (Blk.new' (by simp) rfl).alloc _, Blk.new' (by simp) rfl, (((Kp.refl _ _).alloc _).alloc _).alloc _⟩
    exact ⟨h.n.keep (Kp.refl nob _).drew (fun e => e), h.z.keep (Kp.refl nob _).drew (fun e => e), h.o.keep (Kp.refl nob _).drew (fun e => e), h.kp.drew⟩)
  go_wp2_with fail
  go_region_law (first | (refine step_copy_blk rfl (.tmp 7) (.tmp 8) 29 29 rfl 5 u8s_under (by kernel_rfl) (w.heap.size + 2) 0 _ _ _ _ _ _ rfl rfl (bvs none16) 142 H0.out.o (bvs n) (by rw [HNB.out]; rfl) (fun _ => rfl) (.inr ⟨w.heap.size, 0, rfl, H0.out.n.lt, fun i u hu => by rw [Nat.zero_add]; exact (H0.out.n.cell i).trans hu⟩) (by rw [HNB.out, HZ.out]; omega) (bvs_one _) ?_; intro w4 hB4 k4 z4))
  rw [HB.out] at hB4
  have H1 : Hid (M3 w n (bz n i 0) w4) := Lib.hid ⟨H0.out.n.keep k4 (fun e => by unfold oneB at e; omega), H0.out.z.keep k4 (fun e => by unfold oneB at e; omega), hB4, H0.out.kp.since k4 (fun i e => by unfold oneB at e; omega)⟩
  clear hB4 k4 z4 H0 HB f1 f2
  go_wp2
  go_loopw [1, 6] (fun vn vk wr => ∃ (j : Nat) (I : Int), j ≤ 4 ∧ I = 15 - (j : Int) ∧ vn = .int .i64 ((i / 256 ^ j : Nat) : Int) ∧ vk = .int .i64 I ∧ M3 w n (bz n i j) wr)
    (fun _ vk _ => (intOf vk + 1 - 12).toNat)
  case atStart => exact ⟨0, 15, by omega, by omega, by simp, rfl, H1.out⟩
  case round =>
    obtain ⟨j, I, hj, hI, rfl, rfl, h5⟩ := hrel
    have H5 := Lib.hid h5; clear h5 H1
    by_cases hlj : j < 4
    · obtain ⟨q, rfl⟩ : ∃ q : Nat, I = q := ⟨15 - j, by omega⟩
      have HST := Lib.hid (bz_step n i j q (by omega) hlj)
      have hN := Nat.div_le_self i (256 ^ j)
      have HPN := Lib.hid (pow_next i j)
      generalize i / 256 ^ j = N at *
      have hq15 : q ≤ 15 := by omega
      have hq12 : 12 ≤ q := by omega
      have HIJ := Lib.hid (show (q : Int) - 1 = 15 - ((j + 1 : Nat) : Int) by omega)
      have hc1 := blk_byte H5.out.o q (by rw [bz_length]; omega)
      have hf1 := H5.out.o.frozen q
      have eN : IntKind.u8.wrap (N : Int) = cb (UInt8.ofNat N) := by unfold cb; simp [IntKind.wrap, IntKind.signed, IntKind.bits]
      have hN2 : N ≤ 9007199254740992 := by omega
      have hb := H5.out.set q (UInt8.ofNat N)
      rw [HST.out] at hb
      have HBB := Lib.hid hb
      clear hI hN hb
      go_wp2
      exact ⟨⟨j + 1, (q : Int) - 1, by omega, HIJ.out, by rw [HPN.out]; simp, rfl, HBB.out⟩, by simp only [intOf]; omega⟩
    · have h5 := H5.out
      rw [show j = 4 by omega, HA.out] at h5
      have H7 := Lib.hid h5; clear h5 H5
      obtain rfl : I = 11 := by omega
      go_wp2_with (first
        | (refine wpList_load_blk rfl 142 (.tmp 5) rfl _ _ _ H7.out.o rfl _ arrB rfl (by rw [HNL.out]; kernel_rfl) ?_)
        | (refine wpList_store_blk rfl 142 (.tmp 4) (.tmp 20) rfl _ _ _ (bvs (nb n i)) H7.out.z rfl rfl (by rw [HZ.out, HNL.out]) (by rw [HNL.out]; kernel_rfl) (bvs_one _) ?_; intro w2 hB2 k2 z2))
      have hsz : (Try.prog.info? 142).map (·.size) = some (bvs (nb n i)).toArray.size := by
        rw [List.size_toArray, HNL.out]; kernel_rfl
      refine bodyPost_ret (results_cell_row rfl _ _ (w.heap.size + 1) _ _ _ _ rfl hB2 arrB rfl hsz) rfl ⟨rfl, H7.out.kp.since k2 (fun i e => by cases e; omega)⟩
end Go.Proofs.Ytmmpmncioifeoaa.Gcm
