/- Contracts of package ghash: a block as two words, and back; sums, the product with x, a bit, products. · Contracts of package ghash: a block as two words, and back. · Contracts of package ghash: products. -/
import Derived.Test.YtmmpmncioifeoaaZG25
import Derived.Test.YtmmpmncioifeoaaZG35
import Derived.Test.YtmmpmncioifeoaaZG05
import Derived.Test.YtmmpmncioifeoaaZG07
namespace Go.Proofs.Ytmmpmncioifeoaa.Ghash
set_option linter.unusedVariables false
set_option linter.unusedSimpArgs false
open Go Go.RowKit Kit
open Aes (gb tb tb_length gb_tb tb_gb tb_ext tb_eq pt pt_all pt_zero pt_get pt_set bvs_setb blk_byte arr16)
open Field (cb cb_inj)

/-- A block as the code's element. -/
def ev (b : List UInt8) : List Value := [.int .u64 (dw (hi b)), .int .u64 (dw (lo b))]
theorem ev_length (b : List UInt8) : (ev b).length = 2 := rfl
theorem elU : Try.prog.underlying 175 = some (.struct (Try.prog.fieldsOf 175)) := by kernel_rfl
theorem elS (b : List UInt8) : (Try.prog.info? 175).map (·.size) = some (ev b).toArray.size := by rw [List.size_toArray, ev_length]; kernel_rfl
theorem ev_eq (b : List UInt8) : ev b = [.int .u64 (dw (hi b)), .int .u64 (dw (lo b))] := rfl

set_option maxHeartbeats 1000000 in
theorem plus_any [Inhabited Field.SqTab] (a b : List UInt8) (w : World) :
    Calls Try.prog 127 #[.agg (ev a).toArray, .agg (ev b).toArray] w fun e w' => e = .returned (.agg (ev (plus a b)).toArray) ∧ Kp nob w w' := by
  have H1 := Lib.hid (hi_plus a b); have H2 := Lib.hid (lo_plus a b)
  rw [ev_eq a, ev_eq b]
  go_enter Try.func127, Try.ntmps127
  go_wp2
  refine bodyPost_ret (results_cell_row rfl _ _ (w.heap.size + 2) _ _ _ _ rfl (show Blk _ _ _ (ev (plus a b)) from Blk.new' (by simp) (by rw [ev_eq, H1.out, H2.out])) elU rfl (elS _)) rfl ⟨rfl, (((Kp.refl nob w).alloc _).alloc _).alloc _⟩
set_option maxHeartbeats 1000000 in
theorem kept_any [Inhabited Field.SqTab] (a : List UInt8) (q : Nat) (w : World) (hq : q < 2) :
    Calls Try.prog 135 #[.agg (ev a).toArray, .int .u64 (dw (UInt64.ofNat q))] w fun e w' => e = .returned (.agg (ev (keep a q)).toArray) ∧ Kp nob w w' := by
  have H1 := Lib.hid (hi_keep a q hq); have H2 := Lib.hid (lo_keep a q hq)
  clear hq
  generalize UInt64.ofNat q = x at *
  rw [ev_eq a]
  go_enter Try.func135, Try.ntmps135
  go_wp2
  refine bodyPost_ret (results_cell_row rfl _ _ (w.heap.size + 1) _ _ _ _ rfl (show Blk _ _ _ (ev (keep a q)) from Blk.new' (by simp) (by rw [ev_eq, ← H1.out, ← H2.out])) elU rfl (elS _)) rfl ⟨rfl, ((Kp.refl nob w).alloc _).alloc _⟩
set_option maxHeartbeats 1000000 in
theorem next_any [Inhabited Field.SqTab] (a : List UInt8) (w : World) :
    Calls Try.prog 137 #[.agg (ev a).toArray] w fun e w' => e = .returned (.agg (ev (shift a)).toArray) ∧ Kp nob w w' := by
  have H1 := Lib.hid (hi_shift a); have H2 := Lib.hid (lo_shift a)
  have h3 := lo_last_dw a
  generalize UInt64.ofNat (bit a 127) = x at *
  rw [ev_eq a]
  go_enter Try.func137, Try.ntmps137
  go_wp2
  refine bodyPost_ret (results_cell_row rfl _ _ (w.heap.size + 1) _ _ _ _ rfl (show Blk _ _ _ (ev (shift a)) from Blk.new' (by simp) (by rw [ev_eq, H1.out, H2.out])) elU rfl (elS _)) rfl ⟨rfl, ((Kp.refl nob w).alloc _).alloc _⟩
set_option maxHeartbeats 1000000 in
theorem bit_any (b : List UInt8) (i : Nat) (w : World) (hi : i < 128) :
    Calls Try.prog 136 #[.agg (ev b).toArray, .int .i64 i] w fun e w' => e = .returned (.int .u64 (dw (UInt64.ofNat (bit b i)))) ∧ Kp nob w w' := by
  rw [ev_eq]
  by_cases h64 : i < 64
  · have H := hi_shr b i h64
    generalize UInt64.ofNat (bit b i) = x at *
    obtain ⟨j, hj⟩ : ∃ j, j = 63 - i := ⟨_, rfl⟩
    rw [← hj] at H
    have e1 : ((i : Int).tmod 64) = (i : Int) := by rw [Int.tmod_eq_emod_of_nonneg (by omega)]; omega
    have e2 : IntKind.i64.wrap (63 - (i : Int)) = (j : Int) := by rw [IntWalk.i64_in _ (by omega)]; omega
    have hm : min j 64 = j := by omega
    have hc : decide ((i : Int) ≥ 64) = false := decide_eq_false (by omega)
    clear hj
    go_enter Try.func136, Try.ntmps136
    go_wp2
    go_ret
    exact ⟨rfl, (Kp.refl nob w).alloc _⟩
  · have H := lo_shr b i (by omega) hi
    generalize UInt64.ofNat (bit b i) = x at *
    obtain ⟨j, hj⟩ : ∃ j, j = 127 - i := ⟨_, rfl⟩
    rw [← hj] at H
    obtain ⟨m, hm0⟩ : ∃ m, m = i - 64 := ⟨_, rfl⟩
    have e1 : ((i : Int).tmod 64) = (m : Int) := by rw [Int.tmod_eq_emod_of_nonneg (by omega)]; omega
    have e2 : IntKind.i64.wrap (63 - (m : Int)) = (j : Int) := by rw [IntWalk.i64_in _ (by omega)]; omega
    have hm : min j 64 = j := by omega
    clear hj hm0
    go_enter Try.func136, Try.ntmps136
    go_wp2
    go_ret
    exact ⟨rfl, (Kp.refl nob w).alloc _⟩
end Go.Proofs.Ytmmpmncioifeoaa.Ghash
namespace Go.Proofs.Ytmmpmncioifeoaa.Ghash
set_option linter.unusedVariables false
set_option linter.unusedSimpArgs false
open Go Go.RowKit Kit
open Aes (gb tb tb_length gb_tb tb_gb tb_ext tb_eq pt pt_all pt_zero pt_get pt_set bvs_setb blk_byte arr16)
open Field (cb cb_inj)

theorem arrB : Try.prog.underlying 142 = some (.array 16 5) := by kernel_rfl
/-- The words so far. -/
def pv [Inhabited Field.SqTab] (b : List UInt8) (k : Nat) : List Value := [.int .u64 (dw (wd b 0 k)), .int .u64 (dw (wd b 8 k))]
theorem pv_all [Inhabited Field.SqTab] (b : List UInt8) : pv b 8 = ev b := by rw [ev_eq, hi_eq, lo_eq]; rfl
theorem pv_eq [Inhabited Field.SqTab] (b : List UInt8) (k : Nat) : pv b k = [.int .u64 (dw (wd b 0 k)), .int .u64 (dw (wd b 8 k))] := rfl
theorem oneCell_ev (b : List UInt8) : ∀ u ∈ ev b, u.oneCell' = true := by
  intro u hu
  rw [ev_eq] at hu
  simp at hu
  rcases hu with rfl | rfl <;> rfl
set_option maxHeartbeats 1000000 in
set_option maxRecDepth 100000 in
theorem elementOf_any [Inhabited Field.SqTab] (b : List UInt8) (w : World) (hb : b.length = 16) :
    Calls Try.prog 125 #[.agg (bvs b).toArray] w fun e w' => e = .returned (.agg (ev b).toArray) ∧ Kp nob w w' := by
  have HB := Lib.hid hb; clear hb
  go_enter Try.func125, Try.ntmps125
  go_wp2
  go_loopw [5] (fun vi wr => ∃ k : Nat, k ≤ 8 ∧ vi = .int .i64 k ∧ Blk wr w.heap.size 142 (bvs b) ∧ (∃ z, z.length = 2 ∧ Blk wr (w.heap.size + 1) 175 z) ∧ Blk wr (w.heap.size + 2) 175 (pv b k) ∧ Kp nob w wr)
    (fun vi _ => 8 - (intOf vi).toNat)
  case atStart => exact ⟨0, by omega, rfl, ((Blk.new' rfl rfl).alloc _).alloc _, ⟨_, rfl, (Blk.new' (by simp) rfl).alloc _⟩, Blk.new' (by simp) (by rw [pv_eq, wd_zero, wd_zero, dw_zero]), (((Kp.refl _ _).alloc _).alloc _).alloc _⟩
  case round =>
    obtain ⟨k, hk, rfl, h1, h2, h3, hkp⟩ := hrel
    have H1 := Lib.hid h1; have H2 := Lib.hid h2; have H3 := Lib.hid h3; clear h1 h2 h3
    by_cases hlt : k < 8
    · have hc1 := blk_byte H1.out k (by rw [HB.out]; omega)
      have hc2 := blk_byte H1.out (8 + k) (by rw [HB.out]; omega)
      have hf1 : wr.cell? ⟨w.heap.size + 2, 0, none⟩ = some (.int .u64 (dw (wd b 0 k))) := H3.out.cell 0
      have hf2 : wr.cell? ⟨w.heap.size + 2, 1, none⟩ = some (.int .u64 (dw (wd b 8 k))) := H3.out.cell 1
      have hg1 : wr.frozen? ⟨w.heap.size + 2, 0, none⟩ = false := H3.out.frozen _
      have hg2 : wr.frozen? ⟨w.heap.size + 2, 1, none⟩ = false := H3.out.frozen _
      go_wp2
      go_region
      go_wp2
      go_region
      go_wp2
      go_roundw
      case rel =>
        obtain ⟨z, hz, h2⟩ := H2.out
        refine ⟨k + 1, by omega, by go_num, ((H1.out.far (by show w.heap.size ≠ w.heap.size + 2; omega) _).far (by show w.heap.size ≠ w.heap.size + 2; omega) _).keep (Kp.refl nob _).drew.drew (fun e => e), ⟨z, hz, ((h2.far (by show w.heap.size + 1 ≠ w.heap.size + 2; omega) _).far (by show w.heap.size + 1 ≠ w.heap.size + 2; omega) _).keep (Kp.refl nob _).drew.drew (fun e => e)⟩, ?_, ((hkp.setCell (.inr (Nat.le_add_right _ 2)) _).setCell (.inr (Nat.le_add_right _ 2)) _).drew.drew⟩
        have := ((H3.out.set_ 0 (.int .u64 (dw (wd b 0 (k + 1))))).set_ 1 (.int .u64 (dw (wd b 8 (k + 1))))).keep (Kp.refl nob _).drew.drew (fun e => e)
        rw [pv_eq, wd_succ, wd_succ, Nat.zero_add] at this
        rw [pv_eq, wd_succ, wd_succ, Nat.zero_add]
        exact this
      case measure => simp [intOf]; omega
    · obtain rfl : k = 8 := by omega
      obtain ⟨z, hz, h2⟩ := H2.out
      have h3 := H3.out
      rw [pv_all] at h3
      have H3 := Lib.hid h3
      have HZ := Lib.hid hz; have H2 := Lib.hid h2
      clear h3 hz h2
      go_wp2_with (first
        | (refine wpList_load_blk rfl 175 (.tmp 3) rfl _ _ _ H3.out rfl _ elU rfl (by rw [ev_length]; kernel_rfl) ?_)
        | (refine wpList_store_blk rfl 175 (.tmp 2) (.tmp 28) rfl _ _ z (ev b) H2.out rfl rfl (by rw [HZ.out, ev_length]) (by rw [ev_length]; kernel_rfl) (oneCell_ev _) ?_; intro w2 hB2 k2 z2))
      refine bodyPost_ret (results_cell_row rfl _ _ (w.heap.size + 1) _ _ _ _ rfl hB2 elU rfl (elS _)) rfl ⟨rfl, hkp.since k2 (fun i e => by cases e; omega)⟩
/-- The bytes of a block whose words give k bytes each, so far. -/
def pb [Inhabited Field.SqTab] (b : List UInt8) (k : Nat) : List UInt8 := tb fun i => if i % 8 < k then gb b i else 0
theorem pb_length [Inhabited Field.SqTab] (b : List UInt8) (k : Nat) : (pb b k).length = 16 := tb_length _
theorem none_tb2 : none16 = tb fun _ => 0 := by decide +kernel
theorem pb_zero [Inhabited Field.SqTab] (b : List UInt8) : pb b 0 = none16 := by
  rw [none_tb2]; exact tb_ext fun i _ => if_neg (by omega)
theorem pb_all [Inhabited Field.SqTab] (b : List UInt8) (h : b.length = 16) : pb b 8 = b := (tb_ext fun i _ => if_pos (by omega)).trans (tb_gb b h)
theorem pb_set [Inhabited Field.SqTab] (b : List UInt8) (k : Nat) (hk : k < 8) : ((pb b k).set k (gb b k)).set (8 + k) (gb b (8 + k)) = pb b (k + 1) := by
  rw [pb, Aes.set_tb, Aes.set_tb, pb]
  refine tb_ext fun i hi => ?_
  by_cases h1 : i = 8 + k
  · subst h1; rw [if_pos rfl, if_pos (by omega)]
  · rw [if_neg h1]
    by_cases h2 : i = k
    · subst h2; rw [if_pos rfl, if_pos (by omega)]
    · rw [if_neg h2]
      by_cases h3 : i % 8 < k
      · rw [if_pos h3, if_pos (by omega)]
      · rw [if_neg h3, if_neg (by omega)]
attribute [irreducible] pb
set_option maxHeartbeats 1000000 in
set_option maxRecDepth 100000 in
theorem blockOf_any [Inhabited Field.SqTab] (b : List UInt8) (w : World) (hb : b.length = 16) :
    Calls Try.prog 128 #[.agg (ev b).toArray] w fun e w' => e = .returned (.agg (bvs b).toArray) ∧ Kp nob w w' := by
  have HB := Lib.hid hb; clear hb
  have HL := Lib.hid (show (bvs b).length = 16 by rw [bvs_length, HB.out])
  rw [ev_eq]
  go_enter Try.func128, Try.ntmps128
  go_wp2
  go_loopw [6] (fun vi wr => ∃ k : Nat, k ≤ 8 ∧ vi = .int .i64 k ∧ Blk wr w.heap.size 175 (ev b) ∧ (∃ z, z.length = 16 ∧ Blk wr (w.heap.size + 1) 142 z) ∧ Blk wr (w.heap.size + 2) 142 (bvs (pb b k)) ∧ Kp nob w wr)
    (fun vi _ => 8 - (intOf vi).toNat)
  case atStart => exact ⟨0, by omega, rfl, ((Blk.new' rfl rfl).alloc _).alloc _, ⟨_, rfl, (Blk.new' (by simp) rfl).alloc _⟩, Blk.new' (by simp) (by rw [pb_zero]; rfl), (((Kp.refl _ _).alloc _).alloc _).alloc _⟩
  case round =>
    obtain ⟨k, hk, rfl, h1, h2, h3, hkp⟩ := hrel
    have H1 := Lib.hid h1; have H2 := Lib.hid h2; have H3 := Lib.hid h3; clear h1 h2 h3
    by_cases hlt : k < 8
    · have hc1 : wr.cell? ⟨w.heap.size, 0, none⟩ = some (.int .u64 (dw (hi b))) := H1.out.cell 0
      have hc2 : wr.cell? ⟨w.heap.size, 1, none⟩ = some (.int .u64 (dw (lo b))) := H1.out.cell 1
      have hf1 := blk_byte H3.out k (by rw [pb_length]; omega)
      have hf2 := blk_byte H3.out (8 + k) (by rw [pb_length]; omega)
      have hg1 : wr.frozen? ⟨w.heap.size + 2, k, none⟩ = false := H3.out.frozen _
      have hg2 : wr.frozen? ⟨w.heap.size + 2, 8 + k, none⟩ = false := H3.out.frozen _
      have ha := hi_cb b k hlt
      have hb := lo_cb b k hlt
      obtain ⟨j, hj⟩ : ∃ j, j = 56 - 8 * k := ⟨_, rfl⟩
      obtain ⟨m, hm⟩ : ∃ m, m = 8 * (k + 1) := ⟨_, rfl⟩
      obtain ⟨k1, hk1⟩ : ∃ k1, k1 = k + 1 := ⟨_, rfl⟩
      rw [← hj] at ha hb
      have e1 : IntKind.i64.wrap ((k : Int) + 1) = (k1 : Int) := by rw [IntWalk.i64_in _ (by omega)]; omega
      have e2 : IntKind.i64.wrap (8 * (k1 : Int)) = (m : Int) := by rw [IntWalk.i64_in _ (by omega)]; omega
      have e3 : IntKind.i64.wrap (64 - (m : Int)) = (j : Int) := by rw [IntWalk.i64_in _ (by omega)]; omega
      have hmj : min j 64 = j := by omega
      have HK := Lib.hid hk1
      clear hj hm hk1
      go_wp2
      go_roundw
      case rel =>
        obtain ⟨z, hz, h2⟩ := H2.out
        refine ⟨k1, by rw [HK.out]; omega, rfl, (H1.out.far (by show w.heap.size ≠ w.heap.size + 2; omega) _).far (by show w.heap.size ≠ w.heap.size + 2; omega) _, ⟨z, hz, (h2.far (by show w.heap.size + 1 ≠ w.heap.size + 2; omega) _).far (by show w.heap.size + 1 ≠ w.heap.size + 2; omega) _⟩, ?_, (hkp.setCell (.inr (Nat.le_add_right _ 2)) _).setCell (.inr (Nat.le_add_right _ 2)) _⟩
        have := (H3.out.set_ k (.int .u8 (cb (gb b k)))).set_ (8 + k) (.int .u8 (cb (gb b (8 + k))))
        rw [bvs_setb, bvs_setb, pb_set b k hlt, ← HK.out] at this
        exact this
      case measure => have := HK.out; simp [intOf]; omega
    · obtain rfl : k = 8 := by omega
      obtain ⟨z, hz, h2⟩ := H2.out
      have h3 := H3.out
      rw [pb_all b HB.out] at h3
      have H3 := Lib.hid h3
      have HZ := Lib.hid hz; have H2 := Lib.hid h2
      clear h3 hz h2
      go_wp2_with (first
        | (refine wpList_load_blk rfl 142 (.tmp 3) rfl _ _ _ H3.out rfl _ arrB rfl (by rw [HL.out]; kernel_rfl) ?_)
        | (refine wpList_store_blk rfl 142 (.tmp 2) (.tmp 29) rfl _ _ z (bvs b) H2.out rfl rfl (by rw [HZ.out, HL.out]) (by rw [HL.out]; kernel_rfl) (bvs_one _) ?_; intro w2 hB2 k2 z2))
      have hsz : (Try.prog.info? 142).map (·.size) = some (bvs b).toArray.size := by
        rw [List.size_toArray, HL.out]; kernel_rfl
      refine bodyPost_ret (results_cell_row rfl _ _ (w.heap.size + 1) _ _ _ _ rfl hB2 arrB rfl hsz) rfl ⟨rfl, hkp.since k2 (fun i e => by cases e; omega)⟩
end Go.Proofs.Ytmmpmncioifeoaa.Ghash
namespace Go.Proofs.Ytmmpmncioifeoaa.Ghash
set_option linter.unusedVariables false
set_option linter.unusedSimpArgs false
open Go Go.RowKit Kit
open Aes (gb tb tb_length gb_tb tb_gb tb_ext tb_eq pt pt_all pt_zero pt_get pt_set bvs_setb blk_byte arr16)
open Field (cb cb_inj)

/-- What stands while a product is made. -/
structure P4 (w : World) (a b s : List UInt8) (w2 : World) : Prop where
  a : Blk w2 w.heap.size 175 (ev a)
  b : Blk w2 (w.heap.size + 1) 175 (ev b)
  r : ∃ z, z.length = 2 ∧ Blk w2 (w.heap.size + 2) 175 z
  s : Blk w2 (w.heap.size + 3) 175 (ev s)
  kp : Kp nob w w2
theorem P4.keep {w w2 w3 : World} {a b s : List UInt8} {F : Nat → Prop} (x : P4 w a b s w2) (k : Kp F w2 w3) (hF : ∀ i, F i → w.heap.size + 3 < i) : P4 w a b s w3 :=
  ⟨x.a.keep k (fun e => by have := hF _ e; omega), x.b.keep k (fun e => by have := hF _ e; omega), (x.r.elim fun z y => ⟨z, y.1, y.2.keep k (fun e => by have := hF _ e; omega)⟩), x.s.keep k (fun e => by have := hF _ e; omega), x.kp.since k (fun i e => by have := hF i e; omega)⟩
theorem P4.outS {w w2 w3 : World} {a b s s2 : List UInt8} (x : P4 w a b s w2) (k : Kp (oneB (w.heap.size + 3)) w2 w3) (hs : Blk w3 (w.heap.size + 3) 175 (ev s2)) : P4 w a b s2 w3 :=
  ⟨x.a.keep k (fun e => by unfold oneB at e; omega), x.b.keep k (fun e => by unfold oneB at e; omega), (x.r.elim fun z y => ⟨z, y.1, y.2.keep k (fun e => by unfold oneB at e; omega)⟩), hs, x.kp.since k (fun i e => by unfold oneB at e; omega)⟩
theorem P4.outA {w w2 w3 : World} {a b s a2 : List UInt8} (x : P4 w a b s w2) (k : Kp (oneB w.heap.size) w2 w3) (ha : Blk w3 w.heap.size 175 (ev a2)) : P4 w a2 b s w3 :=
  ⟨ha, x.b.keep k (fun e => by unfold oneB at e; omega), (x.r.elim fun z y => ⟨z, y.1, y.2.keep k (fun e => by unfold oneB at e; omega)⟩), x.s.keep k (fun e => by unfold oneB at e; omega), x.kp.since k (fun i e => by unfold oneB at e; omega)⟩
theorem prod_keep2 (a b : List UInt8) (k : Nat) : plus (prod b a k) (keep (shifts a k) (bit b k)) = prod b a (k + 1) := prod_keep b a k

set_option maxHeartbeats 2000000 in
set_option maxRecDepth 100000 in
theorem product_any [Inhabited Field.SqTab] (a b : List UInt8) (w : World) (ha : a.length = 16) (hb : b.length = 16) :
    Calls Try.prog 126 #[.agg (ev a).toArray, .agg (ev b).toArray] w fun e w' => e = .returned (.agg (ev (tms a b)).toArray) ∧ Kp nob w w' := by
  have HT := Lib.hid (show prod b a 128 = tms a b by rw [prod_tms, tms_comm])
  have HA := Lib.hid ha; clear ha hb
  go_enter Try.func126, Try.ntmps126
  go_wp2
  go_loopw [7] (fun vi wr => ∃ k : Nat, k ≤ 128 ∧ vi = .int .i64 k ∧ P4 w (shifts a k) b (prod b a k) wr)
    (fun vi _ => 128 - (intOf vi).toNat)
  case atStart => exact ⟨0, by omega, rfl, ⟨by rw [shifts_zero]; exact (((Blk.new' rfl rfl).alloc _).alloc _).alloc _, (((Blk.new' (by simp) rfl)).alloc _).alloc _, ⟨_, rfl, (Blk.new' (by simp) rfl).alloc _⟩, Blk.new' (by simp) (by rw [prod_zero, ev_eq, hi_none, lo_none, dw_zero]), ((((Kp.refl _ _).alloc _).alloc _).alloc _).alloc _⟩⟩
  case round =>
    obtain ⟨k, hk, rfl, h3⟩ := hrel
    have H3 := Lib.hid h3; clear h3
    by_cases hlt : k < 128
    · have HP := Lib.hid (prod_keep2 a b k)
      have HSH := Lib.hid (shifts_succ a k)
      have hq := bit_lt b k
      have HE := Lib.hid ev_length
      go_wp2
      have H8 := Lib.hid (H3.out.keep (Kp.refl nob wr).drew (fun _ e => e.elim))
      have hS0 : ∃ s', P4 w (shifts a k) b s' wr.drew := ⟨_, H8.out⟩
      refine reg_begin (fun w' => ∃ s', P4 w (shifts a k) b s' w') (by kernel_rfl) hS0 (fun _ => ?_)
      generalize wr.drew = w7 at *
      refine reg_load 1 (some 11) 175 (.tmp 2) rfl rfl rfl (by kernel_rfl) (by kernel_rfl) (by kernel_rfl) (by rfl) (by assumption) w.heap.size 0 rfl (ev (shifts a k)) _ (fun _ x => x.elim fun _ y => y.a.range) elU rfl (by rw [HE.out]; kernel_rfl) ?_
      simp only [Act.put, List.setIfInBounds_toArray, List.set_cons_zero, List.set_cons_succ]
      refine reg_load 2 (some 12) 175 (.tmp 3) rfl rfl rfl (by kernel_rfl) (by kernel_rfl) (by kernel_rfl) (by rfl) (by assumption) (w.heap.size + 1) 0 rfl (ev b) _ (fun _ x => x.elim fun _ y => y.b.range) elU rfl (by rw [HE.out]; kernel_rfl) ?_
      simp only [Act.put, List.setIfInBounds_toArray, List.set_cons_zero, List.set_cons_succ]
      refine reg_take 3 (some 13) rfl rfl (by kernel_rfl) (by kernel_rfl) (by kernel_rfl) (by rfl) (by assumption) (v := .int .i64 k) (fun _ _ => by go_simp) ?_
      simp only [Act.put, List.setIfInBounds_toArray, List.set_cons_zero, List.set_cons_succ]
      refine reg_loadOr 0 4 (some 10) (some 14) 175 (.tmp 5) rfl rfl rfl rfl rfl (by kernel_rfl) (by rfl) (by rfl) (by assumption) (w.heap.size + 3) 0 rfl (ev (prod b a k)) _ H8.out.s.range elU rfl (by rw [HE.out]; kernel_rfl) _ _ (exec_func 136 _ _ [.agg (ev b).toArray, .int .i64 k] rfl (by kernel_rfl) rfl) ?_ ?_
      · simp only [Act.put, List.setIfInBounds_toArray, List.set_cons_zero, List.set_cons_succ]
        refine reg_call 4 (some 14) rfl rfl (by kernel_rfl) (by rfl) _ _ (exec_func 136 _ _ [.agg (ev b).toArray, .int .i64 k] rfl (by kernel_rfl) rfl) ?_
        refine (bit_any b k w7 hlt).mono ?_
        rintro e w8 ⟨rfl, k8⟩
        have H9 := Lib.hid (H8.out.keep k8 (fun _ e => e.elim))
        refine ⟨_, rfl, ⟨_, H9.out⟩, fun _ => ?_⟩
        simp only [Act.put, List.setIfInBounds_toArray, List.set_cons_zero, List.set_cons_succ]
        refine reg_call 5 (some 15) rfl rfl (by kernel_rfl) (by rfl) _ _ (exec_func 135 _ _ [.agg (ev (shifts a k)).toArray, .int .u64 (dw (UInt64.ofNat (bit b k)))] rfl (by kernel_rfl) rfl) ?_
        refine (kept_any (shifts a k) (bit b k) w8 hq).mono ?_
        rintro e w9 ⟨rfl, k9⟩
        have H10 := Lib.hid (H9.out.keep k9 (fun _ e => e.elim))
        refine ⟨_, rfl, ⟨_, H10.out⟩, fun _ => ?_⟩
        simp only [Act.put, List.setIfInBounds_toArray, List.set_cons_zero, List.set_cons_succ]
        refine reg_call 6 (some 16) rfl rfl (by kernel_rfl) (by rfl) _ _ (exec_func 127 _ _ [.agg (ev (prod b a k)).toArray, .agg (ev (keep (shifts a k) (bit b k))).toArray] rfl (by kernel_rfl) rfl) ?_
        refine (plus_any (prod b a k) (keep (shifts a k) (bit b k)) w9).mono ?_
        rintro e w10 ⟨rfl, k10⟩
        rw [HP.out]
        have H11 := Lib.hid (H10.out.keep k10 (fun _ e => e.elim))
        refine ⟨_, rfl, ⟨_, H11.out⟩, fun _ => ?_⟩
        simp only [Act.put, List.setIfInBounds_toArray, List.set_cons_zero, List.set_cons_succ]
        refine reg_store 7 none 175 (.tmp 5) (.tmp 16) rfl rfl rfl (by kernel_rfl) (by rfl) (w.heap.size + 3) _ _ (ev (prod b a (k + 1))) H11.out.s rfl rfl (by rw [HE.out, HE.out]) (by rw [HE.out]; kernel_rfl) (oneCell_ev _) ?_
        intro w12 hB12 k12 z12
        have H20 := Lib.hid (H11.out.outS k12 hB12)
        refine ⟨⟨_, H20.out⟩, fun _ => ?_⟩
        simp only [Act.put, List.setIfInBounds_toArray, List.set_cons_zero, List.set_cons_succ]
        refine reg_end (by kernel_rfl) ?_
        clear hB12 k12 z12
        go_wp2_with (refine wpList_load_blk rfl 175 (.tmp 2) rfl _ _ _ H20.out.a rfl _ elU rfl (by rw [HE.out]; kernel_rfl) ?_)
        refine (next_any (shifts a k) w12).mono ?_
        rintro e w13 ⟨rfl, k13⟩
        rw [← HSH.out]
        have H21 := Lib.hid (H20.out.keep k13 (fun _ e => e.elim))
        go_wp2_with (refine wpList_store_blk rfl 175 (.tmp 2) (.tmp 18) rfl _ _ _ (ev (shifts a (k + 1))) H21.out.a rfl rfl (by rw [HE.out, HE.out]) (by rw [HE.out]; kernel_rfl) (oneCell_ev _) ?_; intro w14 hB14 k14 z14)
        have H22 := Lib.hid (H21.out.outA k14 hB14)
        clear hB14 k14 z14
        go_wp2
        go_roundw
        case rel => exact ⟨k + 1, by omega, by go_num, H22.out⟩
        case measure => simp [intOf]; omega
      · refine (bit_any b k w7 hlt).mono ?_
        rintro e w8 ⟨rfl, k8⟩
        have H9 := Lib.hid (H8.out.keep k8 (fun _ e => e.elim))
        refine ⟨_, rfl, ⟨_, H9.out⟩, fun _ => ?_⟩
        simp only [Act.put, List.setIfInBounds_toArray, List.set_cons_zero, List.set_cons_succ]
        refine reg_loadOr 0 5 (some 10) (some 15) 175 (.tmp 5) rfl rfl rfl rfl rfl (by kernel_rfl) (by rfl) (by rfl) (by assumption) (w.heap.size + 3) 0 rfl (ev (prod b a k)) _ H9.out.s.range elU rfl (by rw [HE.out]; kernel_rfl) _ _ (exec_func 135 _ _ [.agg (ev (shifts a k)).toArray, .int .u64 (dw (UInt64.ofNat (bit b k)))] rfl (by kernel_rfl) rfl) ?_ ?_
        · simp only [Act.put, List.setIfInBounds_toArray, List.set_cons_zero, List.set_cons_succ]
          refine reg_call 5 (some 15) rfl rfl (by kernel_rfl) (by rfl) _ _ (exec_func 135 _ _ [.agg (ev (shifts a k)).toArray, .int .u64 (dw (UInt64.ofNat (bit b k)))] rfl (by kernel_rfl) rfl) ?_
          refine (kept_any (shifts a k) (bit b k) w8 hq).mono ?_
          rintro e w9 ⟨rfl, k9⟩
          have H10 := Lib.hid (H9.out.keep k9 (fun _ e => e.elim))
          refine ⟨_, rfl, ⟨_, H10.out⟩, fun _ => ?_⟩
          simp only [Act.put, List.setIfInBounds_toArray, List.set_cons_zero, List.set_cons_succ]
          refine reg_call 6 (some 16) rfl rfl (by kernel_rfl) (by rfl) _ _ (exec_func 127 _ _ [.agg (ev (prod b a k)).toArray, .agg (ev (keep (shifts a k) (bit b k))).toArray] rfl (by kernel_rfl) rfl) ?_
          refine (plus_any (prod b a k) (keep (shifts a k) (bit b k)) w9).mono ?_
          rintro e w10 ⟨rfl, k10⟩
          rw [HP.out]
          have H11 := Lib.hid (H10.out.keep k10 (fun _ e => e.elim))
          refine ⟨_, rfl, ⟨_, H11.out⟩, fun _ => ?_⟩
          simp only [Act.put, List.setIfInBounds_toArray, List.set_cons_zero, List.set_cons_succ]
          refine reg_store 7 none 175 (.tmp 5) (.tmp 16) rfl rfl rfl (by kernel_rfl) (by rfl) (w.heap.size + 3) _ _ (ev (prod b a (k + 1))) H11.out.s rfl rfl (by rw [HE.out, HE.out]) (by rw [HE.out]; kernel_rfl) (oneCell_ev _) ?_
          intro w12 hB12 k12 z12
          have H20 := Lib.hid (H11.out.outS k12 hB12)
          refine ⟨⟨_, H20.out⟩, fun _ => ?_⟩
          simp only [Act.put, List.setIfInBounds_toArray, List.set_cons_zero, List.set_cons_succ]
          refine reg_end (by kernel_rfl) ?_
          clear hB12 k12 z12
          go_wp2_with (refine wpList_load_blk rfl 175 (.tmp 2) rfl _ _ _ H20.out.a rfl _ elU rfl (by rw [HE.out]; kernel_rfl) ?_)
          refine (next_any (shifts a k) w12).mono ?_
          rintro e w13 ⟨rfl, k13⟩
          rw [← HSH.out]
          have H21 := Lib.hid (H20.out.keep k13 (fun _ e => e.elim))
          go_wp2_with (refine wpList_store_blk rfl 175 (.tmp 2) (.tmp 18) rfl _ _ _ (ev (shifts a (k + 1))) H21.out.a rfl rfl (by rw [HE.out, HE.out]) (by rw [HE.out]; kernel_rfl) (oneCell_ev _) ?_; intro w14 hB14 k14 z14)
          have H22 := Lib.hid (H21.out.outA k14 hB14)
          clear hB14 k14 z14
          go_wp2
          go_roundw
          case rel => exact ⟨k + 1, by omega, by go_num, H22.out⟩
          case measure => simp [intOf]; omega
        · refine (kept_any (shifts a k) (bit b k) w8 hq).mono ?_
          rintro e w9 ⟨rfl, k9⟩
          have H10 := Lib.hid (H9.out.keep k9 (fun _ e => e.elim))
          refine ⟨_, rfl, ⟨_, H10.out⟩, fun _ => ?_⟩
          simp only [Act.put, List.setIfInBounds_toArray, List.set_cons_zero, List.set_cons_succ]
          refine reg_loadNow 0 (some 10) 175 (.tmp 5) rfl rfl rfl (by kernel_rfl) (by rfl) (by assumption) (w.heap.size + 3) 0 rfl (ev (prod b a k)) _ H10.out.s.range elU rfl (by rw [HE.out]; kernel_rfl) ?_
          simp only [Act.put, List.setIfInBounds_toArray, List.set_cons_zero, List.set_cons_succ]
          refine reg_call 6 (some 16) rfl rfl (by kernel_rfl) (by rfl) _ _ (exec_func 127 _ _ [.agg (ev (prod b a k)).toArray, .agg (ev (keep (shifts a k) (bit b k))).toArray] rfl (by kernel_rfl) rfl) ?_
          refine (plus_any (prod b a k) (keep (shifts a k) (bit b k)) w9).mono ?_
          rintro e w10 ⟨rfl, k10⟩
          rw [HP.out]
          have H11 := Lib.hid (H10.out.keep k10 (fun _ e => e.elim))
          refine ⟨_, rfl, ⟨_, H11.out⟩, fun _ => ?_⟩
          simp only [Act.put, List.setIfInBounds_toArray, List.set_cons_zero, List.set_cons_succ]
          refine reg_store 7 none 175 (.tmp 5) (.tmp 16) rfl rfl rfl (by kernel_rfl) (by rfl) (w.heap.size + 3) _ _ (ev (prod b a (k + 1))) H11.out.s rfl rfl (by rw [HE.out, HE.out]) (by rw [HE.out]; kernel_rfl) (oneCell_ev _) ?_
          intro w12 hB12 k12 z12
          have H20 := Lib.hid (H11.out.outS k12 hB12)
          refine ⟨⟨_, H20.out⟩, fun _ => ?_⟩
          simp only [Act.put, List.setIfInBounds_toArray, List.set_cons_zero, List.set_cons_succ]
          refine reg_end (by kernel_rfl) ?_
          clear hB12 k12 z12
          go_wp2_with (refine wpList_load_blk rfl 175 (.tmp 2) rfl _ _ _ H20.out.a rfl _ elU rfl (by rw [HE.out]; kernel_rfl) ?_)
          refine (next_any (shifts a k) w12).mono ?_
          rintro e w13 ⟨rfl, k13⟩
          rw [← HSH.out]
          have H21 := Lib.hid (H20.out.keep k13 (fun _ e => e.elim))
          go_wp2_with (refine wpList_store_blk rfl 175 (.tmp 2) (.tmp 18) rfl _ _ _ (ev (shifts a (k + 1))) H21.out.a rfl rfl (by rw [HE.out, HE.out]) (by rw [HE.out]; kernel_rfl) (oneCell_ev _) ?_; intro w14 hB14 k14 z14)
          have H22 := Lib.hid (H21.out.outA k14 hB14)
          clear hB14 k14 z14
          go_wp2
          go_roundw
          case rel => exact ⟨k + 1, by omega, by go_num, H22.out⟩
          case measure => simp [intOf]; omega
    · obtain rfl : k = 128 := by omega
      obtain ⟨z, hz, h2⟩ := H3.out.r
      have h3 := H3.out.s
      rw [HT.out] at h3
      have H4 := Lib.hid h3
      have HZ := Lib.hid hz; have H2 := Lib.hid h2
      clear h3 hz h2
      go_wp2_with (first
        | (refine wpList_load_blk rfl 175 (.tmp 5) rfl _ _ _ H4.out rfl _ elU rfl (by rw [ev_length]; kernel_rfl) ?_)
        | (refine wpList_store_blk rfl 175 (.tmp 4) (.tmp 20) rfl _ _ z (ev (tms a b)) H2.out rfl rfl (by rw [HZ.out, ev_length]) (by rw [ev_length]; kernel_rfl) (oneCell_ev _) ?_; intro w2 hB2 k2 z2))
      refine bodyPost_ret (results_cell_row rfl _ _ (w.heap.size + 2) _ _ _ _ rfl hB2 elU rfl (elS _)) rfl ⟨rfl, H3.out.kp.since k2 (fun i e => by cases e; omega)⟩
end Go.Proofs.Ytmmpmncioifeoaa.Ghash
