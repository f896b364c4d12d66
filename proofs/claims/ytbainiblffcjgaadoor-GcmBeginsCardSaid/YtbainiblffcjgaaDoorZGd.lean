/- The words of the document's own field: bits of numbers, what stays within a machine's whole number. No program is named here. · A byte of a block known whole; arrays of sixteen bytes. · Contracts of the document's own GHASH: bits, sums, the product with x, products. · Contracts of the document's own GHASH: the product with x, products. · Contracts of the document's own GHASH: products. · Contracts of the document's own GHASH: bytes taken in. · Contracts of the document's own GHASH: the sum of two texts. · Contracts of the document's own GCM: a nonce's block. -/
import Derived.Test.YtbainiblffcjgaaDoorZGc
import Derived.Test.YtbainiblffcjgaaDoorZGa
import Derived.Test.YtbainiblffcjgaaDoorZGb
import Derived.Test.YtbainiblffcjgaaDoorRows
import Derived.BigQuiet
import Derived.Deep.QuietTactic
import Derived.StillTailTactics
import Derived.RegionTactic
namespace Go.Proofs.YtbainiblffcjgaaDoor.Field
set_option linter.unusedVariables false
set_option linter.unusedSimpArgs false
open Go Go.RowKit Kit

theorem wrap64_in (n : Int) (h : -9223372036854775808 ≤ n ∧ n ≤ 9223372036854775807) : wrap64 n = n := by unfold wrap64; omega
theorem bits_xor_i64_nat (a b : Nat) (ha : a < 9223372036854775808) (hb : b < 9223372036854775808) :
    bits .xor .i64 (a : Int) (b : Int) = ((a ^^^ b : Nat) : Int) := by
  have hx : a ^^^ b < 2 ^ 63 := Nat.xor_lt_two_pow (by omega) (by omega)
  have h1 : (BitVec.ofInt 64 (a : Int)).toNat = a := by
    rw [BitVec.ofInt_natCast, BitVec.toNat_ofNat]; exact Nat.mod_eq_of_lt (by omega)
  have h2 : (BitVec.ofInt 64 (b : Int)).toNat = b := by
    rw [BitVec.ofInt_natCast, BitVec.toNat_ofNat]; exact Nat.mod_eq_of_lt (by omega)
  show IntKind.i64.wrap ((BitVec.ofInt 64 (a : Int) ^^^ BitVec.ofInt 64 (b : Int)).toNat : Int) = _
  rw [BitVec.toNat_xor, h1, h2]
  rw [IntKind.wrap_i64]
  omega

theorem xor_small (a b : Nat) (ha : a < 65536) (hb : b < 65536) : bits .xor .i64 (a : Int) (b : Int) = ((a ^^^ b : Nat) : Int) :=
  bits_xor_i64_nat a b (Nat.lt_of_lt_of_le ha (by decide)) (Nat.lt_of_lt_of_le hb (by decide))
theorem small_wrap (x : Nat) (h : x < 65536) : wrap64 (x : Int) = x := wrap64_in _ (by omega)

theorem up_lt (a b : Nat) (ha : a < 256) (i : Nat) : i ≤ 8 → up a b i < 2 ^ (8 + i) := by
  induction i with
  | zero => intro _; exact Nat.two_pow_pos _
  | succ i ih =>
    intro h
    have h1 := ih (by omega)
    have h2 : a * 2 ^ i < 2 ^ (8 + (i + 1)) := by
      rw [show 8 + (i + 1) = 9 + i by omega, Nat.pow_add]
      exact Nat.mul_lt_mul_of_pos_right (by omega) (Nat.two_pow_pos i)
    have h3 : up a b i < 2 ^ (8 + (i + 1)) := Nat.lt_trans h1 (Nat.pow_lt_pow_right (by omega) (by omega))
    rw [up]
    split
    · exact Nat.xor_lt_two_pow h3 h2
    · exact h3
theorem down_lt (x : Nat) (hx : x < 65536) (k : Nat) : k ≤ 8 → down x k < 65536 := by
  induction k with
  | zero => intro _; exact hx
  | succ k ih =>
    intro h
    have h1 := ih (by omega)
    rw [down]
    split
    · have h2 : 283 * 2 ^ (7 - k) < 2 ^ 16 := by
        have : 2 ^ (7 - k) ≤ 2 ^ 7 := Nat.pow_le_pow_right (by omega) (by omega)
        omega
      exact Nat.xor_lt_two_pow (n := 16) h1 h2
    · exact h1
theorem up_zero (a b : Nat) : up a b 0 = 0 := rfl
theorem up_one (a b i : Nat) (h : b / 2 ^ i % 2 = 1) : up a b (i + 1) = up a b i ^^^ (a * 2 ^ i) := by rw [up, if_pos h]
theorem up_none (a b i : Nat) (h : b / 2 ^ i % 2 = 0) : up a b (i + 1) = up a b i := by rw [up, if_neg (by omega)]
theorem down_zero (x : Nat) : down x 0 = x := rfl
theorem down_one (x i : Nat) (h : down x i / 2 ^ (15 - i) % 2 = 1) : down x (i + 1) = down x i ^^^ (283 * 2 ^ (7 - i)) := by rw [down, if_pos h]
theorem down_none (x i : Nat) (h : down x i / 2 ^ (15 - i) % 2 = 0) : down x (i + 1) = down x i := by rw [down, if_neg (by omega)]
theorem bit_tmod (b i q : Nat) (h : b / 2 ^ i % 2 = q) : ((b : Int) / 2 ^ i).tmod 2 = (q : Int) := by
  have e : (b : Int) / 2 ^ i = ((b / 2 ^ i : Nat) : Int) := by simp
  rw [e]; clear e
  generalize b / 2 ^ i = m at *
  rw [Int.tmod_eq_emod_of_nonneg (by omega)]; omega
theorem cb_wrap (a : UInt8) : wrap64 (cb a) = (a.toNat : Int) := by have := a.toNat_lt; exact wrap64_in _ (by unfold cb; omega)

end Go.Proofs.YtbainiblffcjgaaDoor.Field
namespace Go.Proofs.YtbainiblffcjgaaDoor.Aes
set_option linter.unusedVariables false
set_option linter.unusedSimpArgs false
open Go Go.RowKit Kit
open Field (cb cb_inj)

theorem arr16 : Tryd.prog.underlying 50 = some (.array 16 5) := by kernel_rfl
theorem blk_byte {w : World} {g : Nat} {t : TypeId} {b : List UInt8} (h : Blk w g t (bvs b)) (i : Nat) (hi : i < b.length) : w.cell? ⟨g, i, none⟩ = some (.int .u8 (cb (gb b i))) := by rw [h.cell, gb_get b i hi]

end Go.Proofs.YtbainiblffcjgaaDoor.Aes
namespace Go.Proofs.YtbainiblffcjgaaDoor.Ghash
set_option linter.unusedVariables false
set_option linter.unusedSimpArgs false
open Go Go.RowKit Kit
open Aes (gb tb tb_length gb_tb tb_gb tb_ext tb_eq pt pt_all pt_zero pt_get pt_set bvs_setb blk_byte arr16)
open Field (cb cb_inj wrap64_in bit_tmod u8_shl)

theorem bit_cb (b : List UInt8) (i : Nat) (q : Nat) (h : bit b i = q) : (cb (gb b (i / 8)) / 2 ^ (7 - i % 8)).tmod 2 = (q : Int) := by
  rw [cb]; exact bit_tmod _ _ _ h
set_option maxHeartbeats 1000000 in
set_option maxRecDepth 100000 in
theorem fBit (b : List UInt8) (i : Nat) (w : World) (hb : b.length = 16) (hi : i < 128) :
    Calls Tryd.prog 64 #[.agg (bvs b).toArray, .int .i64 i] w fun e w' => e = .returned (.bool (decide (bit b i = 1))) ∧ Kp nob w w' := by
  obtain ⟨q, hq⟩ : ∃ q, bit b i = q := ⟨_, rfl⟩
  have e1 := bit_cb b i q hq
  have hbk := Blk.new w 50 (bvs b)
  have hx := blk_byte hbk (i / 8) (by omega)
  have HB := Lib.hid hb
  rw [hq]
  clear hq hb hbk
  go_enter Tryd.func64, Tryd.ntmps64
  have e2 : ((q : Int) == 1) = decide (q = 1) := by
    by_cases h : q = 1
    · subst h; rfl
    · rw [decide_eq_false h]; exact beq_eq_false_iff_ne.2 (by omega)
  go_wp2
  go_ret
  exact ⟨by rw [← e2]; rfl, (Kp.refl nob w).alloc _⟩
set_option maxHeartbeats 1000000 in
set_option maxRecDepth 100000 in
theorem fPlus (a b : List UInt8) (w : World) (ha : a.length = 16) (hb : b.length = 16) :
    Calls Tryd.prog 25 #[.agg (bvs a).toArray, .agg (bvs b).toArray] w fun e w' => e = .returned (.agg (bvs (plus a b)).toArray) ∧ Kp nob w w' := by
  have HA := Lib.hid ha; have HB := Lib.hid hb; clear ha hb
  go_enter Tryd.func25, Tryd.ntmps25
  go_wp2
  go_loopw [6] (fun vi wr => ∃ k : Nat, k ≤ 16 ∧ vi = .int .i64 k ∧ Blk wr w.heap.size 50 (bvs (pt (fun i => gb a i ^^^ gb b i) (gb a) k)) ∧ Blk wr (w.heap.size + 1) 50 (bvs b) ∧ (∃ z, z.length = 16 ∧ Blk wr (w.heap.size + 2) 50 z) ∧ Kp nob w wr)
    (fun vi _ => 16 - (intOf vi).toNat)
  case atStart => exact ⟨0, by omega, rfl, by rw [pt_zero, tb_gb _ HA.out]; simpa using ((Blk.new' rfl rfl).alloc _).alloc _, (Blk.new' (by simp) rfl).alloc _, ⟨_, rfl, Blk.new' (by simp) rfl⟩, (((Kp.refl _ _).alloc _).alloc _).alloc _⟩
  case round =>
    obtain ⟨k, hk, rfl, h1, h3, h2, hkp⟩ := hrel
    have H1 := Lib.hid h1; have H2 := Lib.hid h2; have H3 := Lib.hid h3; clear h1 h2 h3
    by_cases hlt : k < 16
    · have hc2 := blk_byte H3.out k (by rw [HB.out]; omega)
      have hc1 : wr.cell? ⟨w.heap.size, k, none⟩ = some (.int .u8 (cb (gb a k))) := by rw [H1.out.cell, pt_get _ _ _ hlt]
      have hf1 : wr.frozen? ⟨w.heap.size, k, none⟩ = false := H1.out.frozen _
      go_wp2
      go_region
      go_wp2
      go_roundw
      case rel =>
        refine ⟨k + 1, by omega, by go_num, ?_, ?_, ?_, ?_⟩
        · have := (H1.out.keep (Kp.refl nob wr).drew (fun e => e)).set_ k (.int .u8 (cb (gb a k ^^^ gb b k)))
          rw [bvs_setb, pt_set (fun i => gb a i ^^^ gb b i)] at this
          exact this
        · exact (H3.out.keep (Kp.refl nob wr).drew (fun e => e)).far (by simp) _
        · obtain ⟨z, hz, h2⟩ := H2.out
          exact ⟨z, hz, (h2.keep (Kp.refl nob wr).drew (fun e => e)).far (by simp) _⟩
        · exact hkp.drew.setCell (.inr (Nat.le_refl _)) _
      case measure => simp [intOf]; omega
    · obtain rfl : k = 16 := by omega
      obtain ⟨z, hz, h2⟩ := H2.out
      have h1 := H1.out
      rw [pt_all, ← plus_pt] at h1
      have HB1 := Lib.hid h1; have HB2 := Lib.hid h2; have HZ := Lib.hid hz
      have HM : Hid ((bvs (plus a b)).length = 16) := Lib.hid (by rw [bvs_length, plus_length])
      clear H1 H2 h1 h2 hz
      go_wp2_with (first
        | (refine wpList_load_blk rfl 50 (.tmp 2) rfl _ _ _ HB1.out rfl _ arr16 rfl (by rw [HM.out]; kernel_rfl) ?_)
        | (refine wpList_store_blk rfl 50 (.tmp 4) (.tmp 19) rfl _ _ z (bvs (plus a b)) HB2.out rfl rfl (by rw [HZ.out, HM.out]) (by rw [HM.out]; kernel_rfl) (bvs_one _) ?_; intro w2 hB2 k2 z2))
      have hsz : (Tryd.prog.info? 50).map (·.size) = some (bvs (plus a b)).toArray.size := by
        rw [List.size_toArray, HM.out]; kernel_rfl
      refine bodyPost_ret (results_cell_row rfl _ _ (w.heap.size + 2) _ _ _ _ rfl hB2 arr16 rfl hsz) rfl ⟨rfl, hkp.since k2 (fun i e => by cases e; omega)⟩
theorem shl_one (k : Nat) (h : k < 8) : IntKind.u8.wrap ((1 : Int) * 2 ^ k) = cb (1 <<< UInt8.ofNat k) := u8_shl 1 k h
set_option maxHeartbeats 1000000 in
set_option maxRecDepth 100000 in
theorem fFlip (b : List UInt8) (i : Nat) (w : World) (hb : b.length = 16) (hi : i < 128) :
    Calls Tryd.prog 73 #[.agg (bvs b).toArray, .int .i64 i] w fun e w' => e = .returned (.agg (bvs (flip b i)).toArray) ∧ Kp nob w w' := by
  have h1 : Blk ((w.alloc (.cells (bvs b).toArray 50)).alloc (.cells #[.int .u8 0, .int .u8 0, .int .u8 0, .int .u8 0, .int .u8 0, .int .u8 0, .int .u8 0, .int .u8 0, .int .u8 0, .int .u8 0, .int .u8 0, .int .u8 0, .int .u8 0, .int .u8 0, .int .u8 0, .int .u8 0] 50)) w.heap.size 50 (bvs b) := (Blk.new w _ _).alloc _
  have hx := blk_byte h1 (i / 8) (by omega)
  have hf := h1.frozen (i / 8)
  have es : (2 : Int) ^ (7 - i % 8) % (256 : Int) = cb (1 <<< UInt8.ofNat (7 - i % 8)) := by have := shl_one (7 - i % 8) (by omega); rwa [Int.one_mul, IntKind.wrap_u8] at this
  have h3 : Blk ((w.alloc (.cells ((bvs b).set (i / 8) (.int .u8 (cb (gb b (i / 8) ^^^ (1 <<< UInt8.ofNat (7 - i % 8)))))).toArray 50)).alloc (.cells #[.int .u8 0, .int .u8 0, .int .u8 0, .int .u8 0, .int .u8 0, .int .u8 0, .int .u8 0, .int .u8 0, .int .u8 0, .int .u8 0, .int .u8 0, .int .u8 0, .int .u8 0, .int .u8 0, .int .u8 0, .int .u8 0] 50)) w.heap.size 50 (bvs (b.set (i / 8) (gb b (i / 8) ^^^ (1 <<< UInt8.ofNat (7 - i % 8))))) := (Blk.new' rfl (by rw [bvs_setb])).alloc _
  have h4 : Blk ((w.alloc (.cells ((bvs b).set (i / 8) (.int .u8 (cb (gb b (i / 8) ^^^ (1 <<< UInt8.ofNat (7 - i % 8)))))).toArray 50)).alloc (.cells #[.int .u8 0, .int .u8 0, .int .u8 0, .int .u8 0, .int .u8 0, .int .u8 0, .int .u8 0, .int .u8 0, .int .u8 0, .int .u8 0, .int .u8 0, .int .u8 0, .int .u8 0, .int .u8 0, .int .u8 0, .int .u8 0] 50)) (w.heap.size + 1) 50 (bvs (tb fun _ => 0)) := Blk.new' (by simp) rfl
  have K3 : Kp nob w ((w.alloc (.cells ((bvs b).set (i / 8) (.int .u8 (cb (gb b (i / 8) ^^^ (1 <<< UInt8.ofNat (7 - i % 8)))))).toArray 50)).alloc (.cells #[.int .u8 0, .int .u8 0, .int .u8 0, .int .u8 0, .int .u8 0, .int .u8 0, .int .u8 0, .int .u8 0, .int .u8 0, .int .u8 0, .int .u8 0, .int .u8 0, .int .u8 0, .int .u8 0, .int .u8 0, .int .u8 0] 50)) := ((Kp.refl nob w).alloc _).alloc _
  have HF := Lib.hid (flip_eq b i)
  have H3 := Lib.hid h3; have H4 := Lib.hid h4; have HK3 := Lib.hid K3
  have HB := Lib.hid hb
  have HM : Hid ((bvs (b.set (i / 8) (gb b (i / 8) ^^^ (1 <<< UInt8.ofNat (7 - i % 8))))).length = 16) := Lib.hid (by rw [bvs_length, List.length_set, hb])
  clear h1 h3 h4 K3 hb
  go_enter Tryd.func73, Tryd.ntmps73
  go_wp2_with (first
    | (refine wpList_load_blk rfl 50 (.tmp 2) rfl _ _ _ H3.out rfl _ arr16 rfl (by rw [HM.out]; kernel_rfl) ?_)
    | (refine wpList_store_blk rfl 50 (.tmp 4) (.tmp 18) rfl _ _ (bvs (tb fun _ => 0)) _ H4.out rfl rfl (by rw [HM.out, bvs_length, tb_length]) (by rw [HM.out]; kernel_rfl) (bvs_one _) ?_; intro w2 hB2 k2 z2))
  rw [HF.out]
  have hsz : (Tryd.prog.info? 50).map (·.size) = some (bvs (b.set (i / 8) (gb b (i / 8) ^^^ (1 <<< UInt8.ofNat (7 - i % 8))))).toArray.size := by
    rw [List.size_toArray, HM.out]; kernel_rfl
  refine bodyPost_ret (results_cell_row rfl _ _ (w.heap.size + 1) _ _ _ _ rfl hB2 arr16 rfl hsz) rfl ⟨rfl, HK3.out.since k2 (fun i e => by cases e; omega)⟩
end Go.Proofs.YtbainiblffcjgaaDoor.Ghash
namespace Go.Proofs.YtbainiblffcjgaaDoor.Ghash
set_option linter.unusedVariables false
set_option linter.unusedSimpArgs false
open Go Go.RowKit Kit
open Aes (gb tb tb_length gb_tb tb_gb tb_ext tb_eq arr16)
open Field (cb cb_inj)

/-- Three blocks of sixteen bytes, one behind the other, made by the call. -/
structure B3 (w : World) (a z o : List UInt8) (w2 : World) : Prop where
  a : Blk w2 w.heap.size 50 (bvs a)
  z : Blk w2 (w.heap.size + 1) 50 (bvs z)
  o : Blk w2 (w.heap.size + 2) 50 (bvs o)
  kp : Kp nob w w2
theorem B3.keep0 {w w2 w3 : World} {a z o : List UInt8} (h : B3 w a z o w2) (k : Kp nob w2 w3) : B3 w a z o w3 :=
  ⟨h.a.keep k (fun e => e), h.z.keep k (fun e => e), h.o.keep k (fun e => e), h.kp.trans k (fun _ e => e.elim)⟩
theorem B3.outO {w w2 w3 : World} {a z o o2 : List UInt8} (h : B3 w a z o w2) (k : Kp (oneB (w.heap.size + 2)) w2 w3) (ho : Blk w3 (w.heap.size + 2) 50 (bvs o2)) : B3 w a z o2 w3 :=
  ⟨h.a.keep k (fun e => by unfold oneB at e; omega), h.z.keep k (fun e => by unfold oneB at e; omega), ho, h.kp.since k (fun i e => by unfold oneB at e; omega)⟩
theorem B3.outA {w w2 w3 : World} {a z o a2 : List UInt8} (h : B3 w a z o w2) (k : Kp (oneB w.heap.size) w2 w3) (ha : Blk w3 w.heap.size 50 (bvs a2)) : B3 w a2 z o w3 :=
  ⟨ha, h.z.keep k (fun e => by unfold oneB at e; omega), h.o.keep k (fun e => by unfold oneB at e; omega), h.kp.since k (fun i e => by unfold oneB at e; omega)⟩
theorem none_tb : none16 = tb fun _ => 0 := by decide +kernel
theorem KQ_get (j : Nat) (h : j < 4) : (#[Value.int .i64 0, Value.int .i64 1, Value.int .i64 2, Value.int .i64 7] : Array Value)[j]? = some (.int .i64 ((KQ.getD j 0 : Nat) : Int)) := by
  have : j = 0 ∨ j = 1 ∨ j = 2 ∨ j = 3 := by omega
  rcases this with rfl | rfl | rfl | rfl <;> rfl
theorem KQ_le (j : Nat) : KQ.getD j 0 < 128 := by
  by_cases h : j < 4
  · have : j = 0 ∨ j = 1 ∨ j = 2 ∨ j = 3 := by omega
    rcases this with rfl | rfl | rfl | rfl <;> decide
  · have : KQ.getD j 0 = 0 := by rw [List.getD_eq_getElem?_getD, List.getElem?_eq_none (by simp [KQ]; omega)]; rfl
    omega
theorem arr4i : Tryd.prog.underlying 112 = some (.array 4 3) := by kernel_rfl
theorem len16 {b : List UInt8} (h : b.length = 16) : (bvs b).length = 16 := by rw [bvs_length, h]

set_option maxHeartbeats 2000000 in
set_option maxRecDepth 100000 in
theorem fShift (b : List UInt8) (w : World) (hb : b.length = 16) :
    Calls Tryd.prog 65 #[.agg (bvs b).toArray] w fun e w' => e = .returned (.agg (bvs (shift b)).toArray) ∧ Kp nob w w' := by
  have HL := Lib.hid (len16 hb)
  have HB := Lib.hid hb; clear hb
  have HS := Lib.hid (fun k => len16 (shp_length b k))
  have HZ := Lib.hid (len16 none_length)
  have HSH := Lib.hid (len16 (shift_length b))
  go_enter Tryd.func65, Tryd.ntmps65
  go_wp2
  go_loopw [4] (fun vk wr => ∃ k : Nat, k ≤ 127 ∧ vk = .int .i64 k ∧ B3 w b none16 (shp b k) wr)
    (fun vk _ => 127 - (intOf vk).toNat)
  case atStart => exact ⟨0, by omega, rfl, ⟨((Blk.new' rfl rfl).alloc _).alloc _, (Blk.new' (by simp) rfl).alloc _, by rw [shp_zero]; exact Blk.new' (by simp) rfl, (((Kp.refl _ _).alloc _).alloc _).alloc _⟩⟩
  case round =>
    obtain ⟨k, hk, rfl, h3⟩ := hrel
    have H3 := Lib.hid h3; clear h3
    by_cases hlt : k < 127
    · go_wp2_with (refine wpList_load_blk rfl 50 (.tmp 1) rfl _ _ _ H3.out.a rfl _ arr16 rfl (by rw [HL.out]; kernel_rfl) ?_)
      refine (fBit b k wr HB.out (by omega)).mono ?_
      rintro e w5 ⟨rfl, k5⟩
      have H5 := Lib.hid (H3.out.keep0 k5); clear k5
      by_cases hq : bit b k = 1
      · have HN := Lib.hid (shp_one b k hq)
        rw [decide_eq_true hq]
        clear hq
        go_wp2_with (refine wpList_load_blk rfl 50 (.tmp 3) rfl _ _ _ H5.out.o rfl _ arr16 rfl (by rw [HS.out]; kernel_rfl) ?_)
        refine (fFlip (shp b k) (k + 1) w5 (shp_length b k) (by omega)).mono ?_
        rintro e w6 ⟨rfl, k6⟩
        rw [← HN.out]
        have H6 := Lib.hid (H5.out.keep0 k6); clear k6
        go_wp2_with (refine wpList_store_blk rfl 50 (.tmp 3) (.tmp 17) rfl _ _ _ (bvs (shp b (k + 1))) H6.out.o rfl rfl (by rw [HS.out, HS.out]) (by rw [HS.out]; kernel_rfl) (bvs_one _) ?_; intro w7 hB7 k7 z7)
        have H7 := Lib.hid (H6.out.outO k7 hB7)
        clear hB7 k7 z7
        go_wp2
        go_roundw
        case rel => exact ⟨k + 1, by omega, by go_num, H7.out⟩
        case measure => simp [intOf]; omega
      · have HN := Lib.hid (shp_none b k hq)
        rw [decide_eq_false hq]
        clear hq
        go_wp2
        go_roundw
        case rel => exact ⟨k + 1, by omega, by go_num, by rw [HN.out]; exact H5.out⟩
        case measure => simp [intOf]; omega
    · have h3 := H3.out
      rw [show k = 127 by omega] at h3
      have H3 := Lib.hid h3; clear h3
      go_wp2_with (refine wpList_load_blk rfl 50 (.tmp 1) rfl _ _ _ H3.out.a rfl _ arr16 rfl (by rw [HL.out]; kernel_rfl) ?_)
      refine (fBit b 127 wr HB.out (by omega)).mono ?_
      rintro e w5 ⟨rfl, k5⟩
      have H5 := Lib.hid (H3.out.keep0 k5); clear k5
      by_cases hq : bit b 127 = 1
      · have HN := Lib.hid (shift_yes b hq)
        have HFL := Lib.hid (fun j => len16 ((fls_length (shp b 127) j).trans (shp_length b 127)))
        rw [decide_eq_true hq]
        clear hq
        go_wp2
        go_loopw [21] (fun vj wr => ∃ j : Nat, j ≤ 4 ∧ vj = .int .i64 j ∧ B3 w b none16 (fls (shp b 127) j) wr)
          (fun vj _ => 4 - (intOf vj).toNat)
        case atStart => exact ⟨0, by omega, rfl, by rw [fls_zero]; exact H5.out⟩
        case round =>
          obtain ⟨j, hj, rfl, h6⟩ := hrel
          have H6 := Lib.hid h6; clear h6
          by_cases hlj : j < 4
          · have hix := fun wx => run_index_agg (P := Tryd.prog) wx 112 3 4 _ .i64 j _ .i64 arr4i (by kernel_rfl) (by kernel_rfl) hlj (KQ_get j hlj)
            have hk := KQ_le j
            have HN2 := Lib.hid (fls_succ (shp b 127) j)
            generalize KQ.getD j 0 = q at *
            go_wp2_with (refine wpList_load_blk rfl 50 (.tmp 3) rfl _ _ _ H6.out.o rfl _ arr16 rfl (by rw [HFL.out]; kernel_rfl) ?_)
            refine (fFlip (fls (shp b 127) j) q _ ((fls_length _ _).trans (shp_length _ _)) hk).mono ?_
            rintro e w7 ⟨rfl, k7⟩
            rw [← HN2.out]
            have H7 := Lib.hid (H6.out.keep0 k7); clear k7
            go_wp2_with (refine wpList_store_blk rfl 50 (.tmp 3) (.tmp 26) rfl _ _ _ (bvs (fls (shp b 127) (j + 1))) H7.out.o rfl rfl (by rw [HFL.out, HFL.out]) (by rw [HFL.out]; kernel_rfl) (bvs_one _) ?_; intro w8 hB8 k8 z8)
            have H8 := Lib.hid (H7.out.outO k8 hB8)
            clear hB8 k8 z8
            go_wp2
            go_roundw
            case rel => exact ⟨j + 1, by omega, by go_num, H8.out⟩
            case measure => simp [intOf]; omega
          · have h6 := H6.out
            rw [show j = 4 by omega, HN.out] at h6
            have H7 := Lib.hid h6; clear h6
            go_wp2_with (first
              | (refine wpList_load_blk rfl 50 (.tmp 3) rfl _ _ _ H7.out.o rfl _ arr16 rfl (by rw [HSH.out]; kernel_rfl) ?_)
              | (refine wpList_store_blk rfl 50 (.tmp 2) (.tmp 28) rfl _ _ _ (bvs (shift b)) H7.out.z rfl rfl (by rw [HZ.out, HSH.out]) (by rw [HSH.out]; kernel_rfl) (bvs_one _) ?_; intro w2 hB2 k2 z2))
            have hsz : (Tryd.prog.info? 50).map (·.size) = some (bvs (shift b)).toArray.size := by
              rw [List.size_toArray, HSH.out]; kernel_rfl
            refine bodyPost_ret (results_cell_row rfl _ _ (w.heap.size + 1) _ _ _ _ rfl hB2 arr16 rfl hsz) rfl ⟨rfl, H7.out.kp.since k2 (fun i e => by cases e; omega)⟩
      · have h6 := H5.out
        rw [shift_no b hq] at h6
        have H7 := Lib.hid h6; clear h6
        rw [decide_eq_false hq]
        clear hq
        go_wp2_with (first
          | (refine wpList_load_blk rfl 50 (.tmp 3) rfl _ _ _ H7.out.o rfl _ arr16 rfl (by rw [HSH.out]; kernel_rfl) ?_)
          | (refine wpList_store_blk rfl 50 (.tmp 2) (.tmp 28) rfl _ _ _ (bvs (shift b)) H7.out.z rfl rfl (by rw [HZ.out, HSH.out]) (by rw [HSH.out]; kernel_rfl) (bvs_one _) ?_; intro w2 hB2 k2 z2))
        have hsz : (Tryd.prog.info? 50).map (·.size) = some (bvs (shift b)).toArray.size := by
          rw [List.size_toArray, HSH.out]; kernel_rfl
        refine bodyPost_ret (results_cell_row rfl _ _ (w.heap.size + 1) _ _ _ _ rfl hB2 arr16 rfl hsz) rfl ⟨rfl, H7.out.kp.since k2 (fun i e => by cases e; omega)⟩
end Go.Proofs.YtbainiblffcjgaaDoor.Ghash
namespace Go.Proofs.YtbainiblffcjgaaDoor.Ghash
set_option linter.unusedVariables false
set_option linter.unusedSimpArgs false
open Go Go.RowKit Kit
open Aes (gb tb tb_length gb_tb tb_gb tb_ext tb_eq arr16)
open Field (cb cb_inj)

/-- Four blocks of sixteen bytes, one behind the other, made by the call. -/
structure B4 (w : World) (a b z o : List UInt8) (w2 : World) : Prop where
  a : Blk w2 w.heap.size 50 (bvs a)
  b : Blk w2 (w.heap.size + 1) 50 (bvs b)
  z : Blk w2 (w.heap.size + 2) 50 (bvs z)
  o : Blk w2 (w.heap.size + 3) 50 (bvs o)
  kp : Kp nob w w2
theorem B4.keep0 {w w2 w3 : World} {a b z o : List UInt8} (h : B4 w a b z o w2) (k : Kp nob w2 w3) : B4 w a b z o w3 :=
  ⟨h.a.keep k (fun e => e), h.b.keep k (fun e => e), h.z.keep k (fun e => e), h.o.keep k (fun e => e), h.kp.trans k (fun _ e => e.elim)⟩
theorem B4.outO {w w2 w3 : World} {a b z o o2 : List UInt8} (h : B4 w a b z o w2) (k : Kp (oneB (w.heap.size + 3)) w2 w3) (ho : Blk w3 (w.heap.size + 3) 50 (bvs o2)) : B4 w a b z o2 w3 :=
  ⟨h.a.keep k (fun e => by unfold oneB at e; omega), h.b.keep k (fun e => by unfold oneB at e; omega), h.z.keep k (fun e => by unfold oneB at e; omega), ho, h.kp.since k (fun i e => by unfold oneB at e; omega)⟩
theorem B4.outB {w w2 w3 : World} {a b z o b2 : List UInt8} (h : B4 w a b z o w2) (k : Kp (oneB (w.heap.size + 1)) w2 w3) (hb : Blk w3 (w.heap.size + 1) 50 (bvs b2)) : B4 w a b2 z o w3 :=
  ⟨h.a.keep k (fun e => by unfold oneB at e; omega), hb, h.z.keep k (fun e => by unfold oneB at e; omega), h.o.keep k (fun e => by unfold oneB at e; omega), h.kp.since k (fun i e => by unfold oneB at e; omega)⟩

set_option maxHeartbeats 2000000 in
set_option maxRecDepth 100000 in
theorem fTimes (a b : List UInt8) (w : World) (ha : a.length = 16) (hb : b.length = 16) :
    Calls Tryd.prog 54 #[.agg (bvs a).toArray, .agg (bvs b).toArray] w fun e w' => e = .returned (.agg (bvs (tms a b)).toArray) ∧ Kp nob w w' := by
  have HA := Lib.hid (len16 ha)
  have HAL := Lib.hid ha
  have HS := Lib.hid (fun k => len16 (shifts_length b hb k))
  have HSL := Lib.hid (fun k => shifts_length b hb k)
  have HP := Lib.hid (fun k => len16 (prod_length a b k))
  have HZ := Lib.hid (len16 none_length)
  have HT := Lib.hid (prod_tms a b)
  have HTL := Lib.hid (len16 (tms_length a b))
  clear ha hb
  go_enter Tryd.func54, Tryd.ntmps54
  go_wp2
  go_loopw [6] (fun vk wr => ∃ k : Nat, k ≤ 128 ∧ vk = .int .i64 k ∧ B4 w a (shifts b k) none16 (prod a b k) wr)
    (fun vk _ => 128 - (intOf vk).toNat)
  case atStart => exact ⟨0, by omega, rfl, ⟨(((Blk.new' rfl rfl).alloc _).alloc _).alloc _, by rw [shifts_zero]; exact ((Blk.new' (by simp) rfl).alloc _).alloc _, (Blk.new' (by simp) rfl).alloc _, by rw [prod_zero]; exact Blk.new' (by simp) rfl, ((((Kp.refl _ _).alloc _).alloc _).alloc _).alloc _⟩⟩
  case round =>
    obtain ⟨k, hk, rfl, h3⟩ := hrel
    have H3 := Lib.hid h3; clear h3
    by_cases hlt : k < 128
    · go_wp2_with (refine wpList_load_blk rfl 50 (.tmp 2) rfl _ _ _ H3.out.a rfl _ arr16 rfl (by rw [HA.out]; kernel_rfl) ?_)
      refine (fBit a k wr HAL.out hlt).mono ?_
      rintro e w5 ⟨rfl, k5⟩
      have H5 := Lib.hid (H3.out.keep0 k5); clear k5
      have HSH := Lib.hid (shifts_succ b k)
      by_cases hq : bit a k = 1
      · have HN := Lib.hid (prod_one a b k hq)
        rw [decide_eq_true hq]
        clear hq
        go_wp2_with (first
          | (refine wpList_load_blk rfl 50 (.tmp 5) rfl _ _ _ H5.out.o rfl _ arr16 rfl (by rw [HP.out]; kernel_rfl) ?_)
          | (refine wpList_load_blk rfl 50 (.tmp 3) rfl _ _ _ H5.out.b rfl _ arr16 rfl (by rw [HS.out]; kernel_rfl) ?_))
        refine (fPlus (prod a b k) (shifts b k) w5 (prod_length _ _ _) (HSL.out k)).mono ?_
        rintro e w6 ⟨rfl, k6⟩
        rw [← HN.out]
        have H6 := Lib.hid (H5.out.keep0 k6); clear k6
        go_wp2_with (first
          | (refine wpList_store_blk rfl 50 (.tmp 5) (.tmp 16) rfl _ _ _ (bvs (prod a b (k + 1))) H6.out.o rfl rfl (by rw [HP.out, HP.out]) (by rw [HP.out]; kernel_rfl) (bvs_one _) ?_
             intro w7 hB7 k7 z7
             have H7 := Lib.hid (H6.out.outO k7 hB7)
             clear hB7 k7 z7)
          | (refine wpList_load_blk rfl 50 (.tmp 3) rfl _ _ _ H7.out.b rfl _ arr16 rfl (by rw [HS.out]; kernel_rfl) ?_))
        refine (fShift (shifts b k) w7 (HSL.out k)).mono ?_
        rintro e w8 ⟨rfl, k8⟩
        rw [← HSH.out]
        have H8 := Lib.hid (H7.out.keep0 k8); clear k8
        go_wp2_with (refine wpList_store_blk rfl 50 (.tmp 3) (.tmp 18) rfl _ _ _ (bvs (shifts b (k + 1))) H8.out.b rfl rfl (by rw [HS.out, HS.out]) (by rw [HS.out]; kernel_rfl) (bvs_one _) ?_; intro w9 hB9 k9 z9)
        have H9 := Lib.hid (H8.out.outB k9 hB9)
        clear hB9 k9 z9
        go_wp2
        go_roundw
        case rel => exact ⟨k + 1, by omega, by go_num, H9.out⟩
        case measure => simp [intOf]; omega
      · have HN := Lib.hid (prod_no a b k hq)
        rw [decide_eq_false hq]
        clear hq
        go_wp2_with (refine wpList_load_blk rfl 50 (.tmp 3) rfl _ _ _ H5.out.b rfl _ arr16 rfl (by rw [HS.out]; kernel_rfl) ?_)
        refine (fShift (shifts b k) w5 (HSL.out k)).mono ?_
        rintro e w8 ⟨rfl, k8⟩
        rw [← HSH.out]
        have H8 := Lib.hid (H5.out.keep0 k8); clear k8
        go_wp2_with (refine wpList_store_blk rfl 50 (.tmp 3) (.tmp 18) rfl _ _ _ (bvs (shifts b (k + 1))) H8.out.b rfl rfl (by rw [HS.out, HS.out]) (by rw [HS.out]; kernel_rfl) (bvs_one _) ?_; intro w9 hB9 k9 z9)
        have H9 := Lib.hid (H8.out.outB k9 hB9)
        clear hB9 k9 z9
        go_wp2
        go_roundw
        case rel => exact ⟨k + 1, by omega, by go_num, by rw [HN.out]; exact H9.out⟩
        case measure => simp [intOf]; omega
    · have h6 := H3.out
      rw [show k = 128 by omega, HT.out] at h6
      have H7 := Lib.hid h6; clear h6
      go_wp2_with (first
        | (refine wpList_load_blk rfl 50 (.tmp 5) rfl _ _ _ H7.out.o rfl _ arr16 rfl (by rw [HTL.out]; kernel_rfl) ?_)
        | (refine wpList_store_blk rfl 50 (.tmp 4) (.tmp 19) rfl _ _ _ (bvs (tms a b)) H7.out.z rfl rfl (by rw [HZ.out, HTL.out]) (by rw [HTL.out]; kernel_rfl) (bvs_one _) ?_; intro w2 hB2 k2 z2))
      have hsz : (Tryd.prog.info? 50).map (·.size) = some (bvs (tms a b)).toArray.size := by
        rw [List.size_toArray, HTL.out]; kernel_rfl
      refine bodyPost_ret (results_cell_row rfl _ _ (w.heap.size + 2) _ _ _ _ rfl hB2 arr16 rfl hsz) rfl ⟨rfl, H7.out.kp.since k2 (fun i e => by cases e; omega)⟩
end Go.Proofs.YtbainiblffcjgaaDoor.Ghash
namespace Go.Proofs.YtbainiblffcjgaaDoor.Ghash
set_option linter.unusedVariables false
set_option linter.unusedSimpArgs false
open Go Go.RowKit Kit
open Aes (gb tb tb_length gb_tb tb_gb tb_ext tb_eq arr16)
open Field (cb cb_inj)

theorem part_copied (l : List UInt8) (k : Nat) (hk : 16 * k < l.length) : bvs ((l.drop (16 * k)).take 16) ++ (bvs none16).drop (min (l.drop (16 * k)).length 16) = bvs (part l k) := by
  have e : (bvs none16).drop (min (l.drop (16 * k)).length 16) = bvs (none16.drop (min (l.drop (16 * k)).length 16)) := by rw [bvs, bvs, List.map_drop]
  rw [e, ← bvs_append, part_eq]
  congr 1
  symm
  refine tb_eq (by simp [none16]; omega) fun i hi => ?_
  by_cases h : i < ((l.drop (16 * k)).take 16).length
  · rw [gb, gb, List.getD, List.getD, List.getElem?_append_left h, List.getElem?_take, if_pos (by omega), List.getElem?_drop]
  · have h2 : l.length ≤ 16 * k + i := by simp at h; omega
    rw [gb, gb, List.getD, List.getD, List.getElem?_append_right (by omega), List.getElem?_eq_none h2, List.getElem?_drop]
    rw [none16, List.getElem?_replicate]
    split <;> rfl

theorem str_extract (m : List UInt8) (a b : Nat) : (str m).extract a b = str ((m.take b).drop a) := by
  apply ByteArray.ext
  simp [str]
  rw [List.drop_take]
theorem drop_next (l : List UInt8) (k : Nat) (h : 16 * k < l.length) : (str (l.drop (16 * k))).extract (min ((l.length - 16 * k : Nat) : Int) 16).toNat (l.length - 16 * k) = str (l.drop (16 * (k + 1))) := by
  rw [str_extract, List.take_of_length_le (by rw [List.length_drop]; exact Nat.le_refl _), List.drop_drop]
  congr 1
  by_cases h2 : l.length - 16 * k < 16
  · rw [List.drop_eq_nil_of_le (by omega), List.drop_eq_nil_of_le (by omega)]
  · congr 1
    omega
def lenS : Value → Nat
  | .string s => s.size
  | _ => 0
/-- What stands while bytes are taken in. -/
structure B5 (w : World) (h s : List UInt8) (w2 : World) : Prop where
  h : Blk w2 w.heap.size 50 (bvs h)
  s : Blk w2 (w.heap.size + 1) 50 (bvs s)
  z : Blk w2 (w.heap.size + 2) 50 (bvs none16)
  kp : Kp nob w w2
theorem B5.keep {w w2 w3 : World} {h s : List UInt8} {F : Nat → Prop} (x : B5 w h s w2) (k : Kp F w2 w3) (hF : ∀ i, F i → w.heap.size + 2 < i) : B5 w h s w3 :=
  ⟨x.h.keep k (fun e => by have := hF _ e; omega), x.s.keep k (fun e => by have := hF _ e; omega), x.z.keep k (fun e => by have := hF _ e; omega), x.kp.since k (fun i e => by have := hF i e; omega)⟩
theorem B5.outS {w w2 w3 : World} {h s s2 : List UInt8} (x : B5 w h s w2) (k : Kp (oneB (w.heap.size + 1)) w2 w3) (hs : Blk w3 (w.heap.size + 1) 50 (bvs s2)) : B5 w h s2 w3 :=
  ⟨x.h.keep k (fun e => by unfold oneB at e; omega), hs, x.z.keep k (fun e => by unfold oneB at e; omega), x.kp.since k (fun i e => by unfold oneB at e; omega)⟩
theorem B5.lt {w w2 : World} {h s : List UInt8} (x : B5 w h s w2) : w.heap.size + 2 < w2.heap.size := x.z.lt

set_option maxHeartbeats 2000000 in
set_option maxRecDepth 100000 in
theorem fTake (h s : List UInt8) (str0 : ByteArray) (w : World) (hh : h.length = 16) (hs : s.length = 16) (hl : str0.size ≤ 140737488355328) :
    Calls Tryd.prog 37 #[.agg (bvs h).toArray, .agg (bvs s).toArray, .string str0] w fun e w' => e = .returned (.agg (bvs (taken h s (sl str0))).toArray) ∧ Kp nob w w' := by
  obtain ⟨l, rfl⟩ : ∃ l, str0 = str l := ⟨sl str0, rfl⟩
  rw [sl_str]
  rw [str_size] at hl
  have HH := Lib.hid hh
  have HHL := Lib.hid (len16 hh)
  have HTK := Lib.hid (fun k => len16 (tk_length h s l hs k))
  have HTL := Lib.hid (fun k => tk_length h s l hs k)
  have HZ := Lib.hid (len16 none_length)
  have HPL := Lib.hid (fun k => len16 (part_length l k))
  clear hh hs
  go_enter Tryd.func37, Tryd.ntmps37
  go_wp2
  go_loopw [2] (fun vs wr => ∃ k : Nat, 16 * k ≤ l.length + 15 ∧ vs = .string (str (l.drop (16 * k))) ∧ B5 w h (tk h s l k) wr)
    (fun vs _ => lenS vs)
  case atStart => exact ⟨0, by omega, by rw [Nat.mul_zero, List.drop_zero], ⟨((Blk.new' rfl rfl).alloc _).alloc _, by rw [tk_zero]; exact (Blk.new' (by simp) rfl).alloc _, Blk.new' (by simp) rfl, (((Kp.refl _ _).alloc _).alloc _).alloc _⟩⟩
  case round =>
    obtain ⟨k, hk, rfl, h5⟩ := hrel
    have H5 := Lib.hid h5; clear h5
    by_cases hlt : 16 * k < l.length
    · obtain ⟨g7, hg7⟩ : ∃ g, g = wr.heap.size := ⟨_, rfl⟩
      have hg : w.heap.size + 2 < g7 := by rw [hg7]; exact H5.out.lt
      have hb7 : Blk (wr.alloc (.cells (bvs none16).toArray 50)) wr.heap.size 50 (bvs none16) := Blk.new' rfl rfl
      have HB7 := Lib.hid hb7
      have H6 := Lib.hid (H5.out.keep ((Kp.refl nob wr).alloc (.cells (bvs none16).toArray 50)) (fun _ e => e.elim))
      have HPC := Lib.hid (part_copied l k hlt)
      have HSZ := Lib.hid (show (str (l.drop (16 * k))).size = (l.drop (16 * k)).length from str_size _)
      clear hb7 H5
      go_wp2_with (first
        | (refine wpList_copyS_blk rfl (.tmp 12) (.tmp 13) 24 9 rfl 5 (by kernel_rfl) (by kernel_rfl) wr.heap.size 16 16 (str (l.drop (16 * k))) rfl rfl (bvs none16) 50 HB7.out (by rw [HZ.out]; exact Nat.le_refl _) ?_
           intro w6 hB6 k6 z6
           rw [sl_str, HSZ.out, HPC.out] at hB6
           have HP6 := Lib.hid hB6
           have H7 := Lib.hid (H6.out.keep k6 (fun i e => by unfold oneB at e; omega))
           clear hB6 k6 z6))
      rw [← hg7] at HP6 ⊢
      rw [drop_next l k hlt]
      have H8 := Lib.hid (H7.out.keep (Kp.refl nob w6).drew (fun _ e => e.elim))
      have HP8 := Lib.hid (HP6.out.keep (Kp.refl nob w6).drew (fun e => e))
      have HTS := Lib.hid (tk_succ h s l k)
      have hS0 : (∃ s', s'.length = 16 ∧ B5 w h s' w6.drew) ∧ Blk w6.drew g7 50 (bvs (part l k)) := ⟨⟨_, HTL.out k, H8.out⟩, HP8.out⟩
      refine reg_begin (fun w' => (∃ s', s'.length = 16 ∧ B5 w h s' w') ∧ Blk w' g7 50 (bvs (part l k))) (by kernel_rfl) hS0 (fun _ => ?_)
      clear H7 HP6
      generalize w6.drew = w7 at *
      refine reg_load 1 (some 19) 50 (.tmp 7) rfl rfl rfl (by kernel_rfl) (by kernel_rfl) (by kernel_rfl) (by rfl) (by assumption) g7 0 rfl (bvs (part l k)) _ (fun _ x => x.2.range) arr16 rfl (by rw [HPL.out]; kernel_rfl) ?_
      simp only [Act.put, List.setIfInBounds_toArray, List.set_cons_zero, List.set_cons_succ]
      refine reg_load 3 (some 21) 50 (.tmp 3) rfl rfl rfl (by kernel_rfl) (by kernel_rfl) (by kernel_rfl) (by rfl) (by assumption) w.heap.size 0 rfl (bvs h) _ (fun _ x => x.1.elim fun _ y => y.2.h.range) arr16 rfl (by rw [HHL.out]; kernel_rfl) ?_
      simp only [Act.put, List.setIfInBounds_toArray, List.set_cons_zero, List.set_cons_succ]
      refine reg_loadNow 0 (some 18) 50 (.tmp 4) rfl rfl rfl (by kernel_rfl) (by rfl) (by assumption) (w.heap.size + 1) 0 rfl (bvs (tk h s l k)) _ H8.out.s.range arr16 rfl (by rw [HTK.out]; kernel_rfl) ?_
      simp only [Act.put, List.setIfInBounds_toArray, List.set_cons_zero, List.set_cons_succ]
      refine reg_call 2 (some 20) rfl rfl (by kernel_rfl) (by rfl) _ _ (exec_func 25 _ _ [.agg (bvs (tk h s l k)).toArray, .agg (bvs (part l k)).toArray] rfl (by kernel_rfl) rfl) ?_
      refine (fPlus (tk h s l k) (part l k) w7 (HTL.out k) (part_length l k)).mono ?_
      rintro e w8 ⟨rfl, k8⟩
      have H9 := Lib.hid (H8.out.keep k8 (fun _ e => e.elim))
      have HP9 := Lib.hid (HP8.out.keep k8 (fun e => e))
      refine ⟨_, rfl, ⟨⟨_, HTL.out k, H9.out⟩, HP9.out⟩, fun _ => ?_⟩
      simp only [Act.put, List.setIfInBounds_toArray, List.set_cons_zero, List.set_cons_succ]
      refine reg_call 4 (some 22) rfl rfl (by kernel_rfl) (by rfl) _ _ (exec_func 54 _ _ [.agg (bvs (plus (tk h s l k) (part l k))).toArray, .agg (bvs h).toArray] rfl (by kernel_rfl) rfl) ?_
      refine (fTimes (plus (tk h s l k) (part l k)) h w8 (plus_length _ _) HH.out).mono ?_
      rintro e w9 ⟨rfl, k9⟩
      rw [← HTS.out]
      have H10 := Lib.hid (H9.out.keep k9 (fun _ e => e.elim))
      have HP10 := Lib.hid (HP9.out.keep k9 (fun e => e))
      refine ⟨_, rfl, ⟨⟨_, HTL.out k, H10.out⟩, HP10.out⟩, fun _ => ?_⟩
      simp only [Act.put, List.setIfInBounds_toArray, List.set_cons_zero, List.set_cons_succ]
      refine reg_store 5 none 50 (.tmp 4) (.tmp 22) rfl rfl rfl (by kernel_rfl) (by rfl) (w.heap.size + 1) _ _ (bvs (tk h s l (k + 1))) H10.out.s rfl rfl (by rw [HTK.out, HTK.out]) (by rw [HTK.out]; kernel_rfl) (bvs_one _) ?_
      intro w10 hB10 k10 z10
      have H11 := Lib.hid (H10.out.outS k10 hB10)
      refine ⟨⟨⟨_, HTL.out (k + 1), H11.out⟩, HP10.out.keep k10 (fun e => by unfold oneB at e; omega)⟩, fun _ => ?_⟩
      simp only [Act.put, List.setIfInBounds_toArray, List.set_cons_zero, List.set_cons_succ]
      refine reg_end (by kernel_rfl) ?_
      clear hB10 k10 z10
      go_wp2
      exact ⟨⟨k + 1, by omega, rfl, H11.out⟩, by simp only [lenS, str_size, List.length_drop]; omega⟩
    · have h5 := H5.out
      rw [show k = (l.length + 15) / 16 by omega, ← taken_eq] at h5
      have HD := Lib.hid (show l.drop (16 * k) = [] from List.drop_eq_nil_of_le (by omega))
      have HT2 := Lib.hid (show (bvs (taken h s l)).length = 16 by rw [taken_eq]; exact HTK.out _)
      have H7 := Lib.hid h5; clear h5 H5
      rw [HD.out]
      go_wp2_with (first
        | (refine wpList_load_blk rfl 50 (.tmp 4) rfl _ _ _ H7.out.s rfl _ arr16 rfl (by rw [HT2.out]; kernel_rfl) ?_)
        | (refine wpList_store_blk rfl 50 (.tmp 6) (.tmp 23) rfl _ _ _ (bvs (taken h s l)) H7.out.z rfl rfl (by rw [HZ.out, HT2.out]) (by rw [HT2.out]; kernel_rfl) (bvs_one _) ?_; intro w2 hB2 k2 z2))
      have hsz : (Tryd.prog.info? 50).map (·.size) = some (bvs (taken h s l)).toArray.size := by
        rw [List.size_toArray, HT2.out]; kernel_rfl
      refine bodyPost_ret (results_cell_row rfl _ _ (w.heap.size + 2) _ _ _ _ rfl hB2 arr16 rfl hsz) rfl ⟨rfl, H7.out.kp.since k2 (fun i e => by cases e; omega)⟩
end Go.Proofs.YtbainiblffcjgaaDoor.Ghash
namespace Go.Proofs.YtbainiblffcjgaaDoor.Ghash
set_option linter.unusedVariables false
set_option linter.unusedSimpArgs false
open Go Go.RowKit Kit
open Aes (gb tb tb_length gb_tb tb_gb tb_ext tb_eq arr16 pt pt_all pt_zero blk_byte)
open Field (cb cb_inj)

/-- What stands: the element, the answer's block. -/
structure Bo (w : World) (h : List UInt8) (w2 : World) : Prop where
  h : Blk w2 w.heap.size 50 (bvs h)
  z : Blk w2 (w.heap.size + 1) 50 (bvs none16)
  kp : Kp nob w w2
theorem Bo.keep {w w2 w3 : World} {h : List UInt8} {F : Nat → Prop} (x : Bo w h w2) (k : Kp F w2 w3) (hF : ∀ i, F i → w.heap.size + 1 < i) : Bo w h w3 :=
  ⟨x.h.keep k (fun e => by have := hF _ e; omega), x.z.keep k (fun e => by have := hF _ e; omega), x.kp.since k (fun i e => by have := hF i e; omega)⟩
theorem Bo.keep0 {w w2 w3 : World} {h : List UInt8} (x : Bo w h w2) (k : Kp nob w2 w3) : Bo w h w3 := x.keep k (fun _ e => e.elim)
theorem Bo.lt {w w2 : World} {h : List UInt8} (x : Bo w h w2) : w.heap.size + 1 < w2.heap.size := x.z.lt
theorem Bo.alloc {w w2 : World} {h : List UInt8} (x : Bo w h w2) (o : Obj) : Bo w h (w2.alloc o) := x.keep0 ((Kp.refl nob _).alloc o)
theorem take_len (h s l : List UInt8) (hs : s.length = 16) : (bvs (taken h s l)).length = 16 := len16 (taken_length h s l hs)

/-- The sizes' block, j bytes of each made, from the end on. -/
def pz (n m j : Nat) : List UInt8 := tb fun p => if p < 8 then (if 8 ≤ p + j then UInt8.ofNat (n / 256 ^ (7 - p)) else 0) else (if 16 ≤ p + j then UInt8.ofNat (m / 256 ^ (15 - p)) else 0)
theorem pz_zero (n m : Nat) : pz n m 0 = none16 := by
  rw [none_tb]
  refine tb_ext fun p hp => ?_
  by_cases h : p < 8
  · rw [if_pos h, if_neg (by omega)]
  · rw [if_neg h, if_neg (by omega)]
theorem pz_all (a t : List UInt8) : pz (8 * a.length) (8 * t.length) 8 = sizes a t := by
  refine tb_eq (sizes_length a t) fun p hp => ?_
  have h8 : ∀ n, (big8 n).length = 8 := fun n => by simp [big8]
  have hb : ∀ n q, q < 8 → gb (big8 n) q = UInt8.ofNat (n / 256 ^ (7 - q)) := fun n q hq => by
    rw [gb, List.getD, big8, List.getElem?_map, List.getElem?_range hq]; rfl
  rw [sizes_eq, gb, List.getD]
  by_cases h : p < 8
  · rw [if_pos h, if_pos (by omega), List.getElem?_append_left (by rw [h8]; exact h)]
    exact (hb _ p h).symm
  · rw [if_neg h, if_pos (by omega), List.getElem?_append_right (by rw [h8]; omega), h8]
    have := hb (8 * t.length) (p - 8) (by omega)
    rw [show 7 - (p - 8) = 15 - p by omega] at this
    exact this.symm
theorem pz_step (n m i j : Nat) (hi : i = 7 - j) (hj : j < 8) : ((pz n m j).set i (UInt8.ofNat (n / 256 ^ j))).set (8 + i) (UInt8.ofNat (m / 256 ^ j)) = pz n m (j + 1) := by
  rw [pz, Aes.set_tb, Aes.set_tb, pz]
  refine tb_ext fun p hp => ?_
  by_cases h1 : p = 8 + i
  · rw [if_pos h1, if_neg (by omega), if_pos (by omega), show 15 - p = j by omega]
  · rw [if_neg h1]
    by_cases h2 : p = i
    · rw [if_pos h2, if_pos (by omega), if_pos (by omega), show 7 - p = j by omega]
    · rw [if_neg h2]
      by_cases h : p < 8
      · rw [if_pos h, if_pos h]
        by_cases h3 : 8 ≤ p + j
        · rw [if_pos h3, if_pos (by omega)]
        · rw [if_neg h3, if_neg (by omega)]
      · rw [if_neg h, if_neg h]
        by_cases h3 : 16 ≤ p + j
        · rw [if_pos h3, if_pos (by omega)]
        · rw [if_neg h3, if_neg (by omega)]
theorem pz_length (n m j : Nat) : (pz n m j).length = 16 := tb_length _
attribute [irreducible] pz
/-- What stands while the sizes are made. -/
structure Bz (w : World) (h : List UInt8) (g7 : Nat) (s : List UInt8) (g8 : Nat) (z : List UInt8) (w2 : World) : Prop where
  b : Bo w h w2
  s : Blk w2 g7 50 (bvs s)
  n : Blk w2 g8 50 (bvs z)
theorem Bz.set {w w2 : World} {h s z : List UInt8} {g7 g8 : Nat} (x : Bz w h g7 s g8 z w2) (h7 : w.heap.size + 1 < g7) (h8 : g7 < g8) (i : Nat) (u : UInt8) : Bz w h g7 s g8 (z.set i u) (w2.setCell ⟨g8, i, none⟩ (.int .u8 (cb u))) :=
  ⟨x.b.keep (F := fun k => k = g8) ((Kp.refl (fun k => k = g8) w2).setCell (.inl rfl) _) (fun j e => by omega), x.s.far (by simp; omega) _, by have := x.n.set_ i (.int .u8 (cb u)); rwa [Aes.bvs_setb] at this⟩
theorem pow_next (n j : Nat) : n / 256 ^ (j + 1) = n / 256 ^ j / 256 := by rw [Nat.pow_succ, Nat.div_div_eq_div_mul]

set_option maxHeartbeats 4000000 in
set_option maxRecDepth 100000 in
theorem fOf (h : List UInt8) (sa st : ByteArray) (w : World) (hh : h.length = 16) (ha : sa.size ≤ 1099511627776) (ht : st.size ≤ 1099511627776) :
    Calls Tryd.prog 23 #[.agg (bvs h).toArray, .string sa, .string st] w fun e w' => e = .returned (.agg (bvs (sum h (sl sa) (sl st))).toArray) ∧ Kp nob w w' := by
  obtain ⟨a, rfl⟩ : ∃ l, sa = str l := ⟨sl sa, rfl⟩
  obtain ⟨t, rfl⟩ : ∃ l, st = str l := ⟨sl st, rfl⟩
  rw [sl_str, sl_str]
  rw [str_size] at ha ht
  have HH := Lib.hid hh
  have HHL := Lib.hid (len16 hh)
  have HZ := Lib.hid (len16 none_length)
  have HTA := Lib.hid (taken_length h none16 a none_length)
  have HTT := Lib.hid (take_len h (taken h none16 a) t (taken_length h none16 a none_length))
  clear hh
  go_enter Tryd.func23, Tryd.ntmps23
  go_wp2
  have H0 : Bo w h ((w.alloc (.cells (bvs h).toArray 50)).alloc (.cells (bvs none16).toArray 50)) := ⟨(Blk.new w _ _).alloc _, Blk.new' (by simp) rfl, ((Kp.refl nob w).alloc _).alloc _⟩
  have H1 := Lib.hid (H0.keep0 (Kp.refl nob _).drew)
  refine reg_begin (fun w' => Bo w h w') (by kernel_rfl) H1.out (fun _ => ?_)
  clear H0
  change wpAnyH _ _ _ _ _ _ _ _ (((w.alloc (.cells (bvs h).toArray 50)).alloc (.cells (bvs none16).toArray 50)).drew)
  generalize ((w.alloc (.cells (bvs h).toArray 50)).alloc (.cells (bvs none16).toArray 50)).drew = w7 at *
  refine reg_load 0 (some 12) 50 (.tmp 3) rfl rfl rfl (by kernel_rfl) (by kernel_rfl) (by kernel_rfl) (by rfl) (by assumption) w.heap.size 0 rfl (bvs h) _ (fun _ x => x.h.range) arr16 rfl (by rw [HHL.out]; kernel_rfl) ?_
  simp only [Act.put, List.setIfInBounds_toArray, List.set_cons_zero, List.set_cons_succ]
  refine reg_load 1 (some 13) 50 (.tmp 3) rfl rfl rfl (by kernel_rfl) (by kernel_rfl) (by kernel_rfl) (by rfl) (by assumption) w.heap.size 0 rfl (bvs h) _ (fun _ x => x.h.range) arr16 rfl (by rw [HHL.out]; kernel_rfl) ?_
  simp only [Act.put, List.setIfInBounds_toArray, List.set_cons_zero, List.set_cons_succ]
  refine reg_take (v := .agg (bvs none16).toArray) 2 (some 14) rfl rfl (by kernel_rfl) (by kernel_rfl) (by kernel_rfl) (by rfl) (by assumption) ?h2 ?r2
  case h2 => intro w hw; go_simp; rfl
  simp only [Act.put, List.setIfInBounds_toArray, List.set_cons_zero, List.set_cons_succ]
  refine reg_take (v := ?v3) 3 (some 15) rfl rfl (by kernel_rfl) (by kernel_rfl) (by kernel_rfl) (by rfl) (by assumption) ?h3 ?r3
  case h3 => intro w hw; go_simp; try with_reducible rfl
  simp only [Act.put, List.setIfInBounds_toArray, List.set_cons_zero, List.set_cons_succ]
  refine reg_take (v := ?v5) 5 (some 17) rfl rfl (by kernel_rfl) (by kernel_rfl) (by kernel_rfl) (by rfl) (by assumption) ?h5 ?r5
  case h5 => intro w hw; go_simp; try with_reducible rfl
  simp only [Act.put, List.setIfInBounds_toArray, List.set_cons_zero, List.set_cons_succ]
  refine reg_callOr (w' := w7.alloc (.cells (bvs none16).toArray 50)) (v := .pointer (some ⟨w7.heap.size, 0, none⟩)) 4 7 (some 16) (some 7) rfl rfl rfl rfl (by kernel_rfl) (by rfl) (by rfl) _ _ (exec_func 37 _ _ [.agg (bvs h).toArray, .agg (bvs none16).toArray, .string (str a)] rfl (by kernel_rfl) rfl) (by go_simp; rfl) (H1.out.alloc _) ?first4 (fun _ => ?first7)
  case' first4 =>
    refine (fTake h none16 (str a) w7 HH.out none_length (by rw [str_size]; omega)).mono ?_
    rintro e w8 ⟨rfl, k8⟩
    have H8 := Lib.hid (H1.out.keep0 k8)
    refine ⟨_, rfl, H8.out, fun _ => ?_⟩
    simp only [Act.put, List.setIfInBounds_toArray, List.set_cons_zero, List.set_cons_succ]
    refine reg_callOr (w' := w8.alloc (.cells (bvs none16).toArray 50)) (v := .pointer (some ⟨w8.heap.size, 0, none⟩)) 6 7 (some 18) (some 7) rfl rfl rfl rfl (by kernel_rfl) (by rfl) (by rfl) _ _ (exec_func 37 _ _ [.agg (bvs h).toArray, .agg (bvs (taken h none16 a)).toArray, .string (str t)] rfl (by kernel_rfl) rfl) (by go_simp; rfl) (H8.out.alloc _) ?first6 (fun _ => ?first7b)
    case' first6 =>
      refine (fTake h (taken h none16 a) (str t) w8 HH.out HTA.out (by rw [str_size]; omega)).mono ?_
      rintro e w9 ⟨rfl, k9⟩
      have H9 := Lib.hid (H8.out.keep0 k9)
      refine ⟨_, rfl, H9.out, fun _ => ?_⟩
      simp only [Act.put, List.setIfInBounds_toArray, List.set_cons_zero, List.set_cons_succ]
      refine reg_step (w' := w9.alloc (.cells (bvs none16).toArray 50)) (v := .pointer (some ⟨w9.heap.size, 0, none⟩)) 7 (some 7) rfl rfl (by kernel_rfl) (by rfl) (by go_simp; rfl) (H9.out.alloc _) (fun _ => ?_)
      simp only [Act.put, List.setIfInBounds_toArray, List.set_cons_zero, List.set_cons_succ]
      have hgg := Lib.hid H9.out.lt
      have H10 := Lib.hid (H9.out.alloc (.cells (bvs none16).toArray 50))
      have hb10 : Blk (w9.alloc (.cells (bvs none16).toArray 50)) w9.heap.size 50 (bvs none16) := Blk.new' rfl rfl
      refine reg_store 8 none 50 (.tmp 7) (.tmp 18) rfl rfl rfl (by kernel_rfl) (by rfl) w9.heap.size _ _ (bvs (taken h (taken h none16 a) t)) hb10 rfl rfl (by rw [HTT.out, HZ.out]) (by rw [HTT.out]; kernel_rfl) (bvs_one _) ?_
      intro w11 hB11 k11 z11
      have hg0 : w.heap.size + 1 < w9.heap.size := hgg.out
      have HE := Lib.hid (H10.out.keep k11 (fun i e => by unfold oneB at e; omega))
      have HS := Lib.hid hB11
      refine ⟨HE.out, fun _ => ?_⟩
      simp only [Act.put, List.setIfInBounds_toArray, List.set_cons_zero, List.set_cons_succ]
      refine reg_end (by kernel_rfl) ?_
      obtain ⟨g7, hg7⟩ : ∃ g, g = w9.heap.size := ⟨_, rfl⟩
      rw [← hg7] at HS hg0 ⊢
      clear hB11 k11 z11 hg7
    case' first7b =>
      simp only [Act.put, List.setIfInBounds_toArray, List.set_cons_zero, List.set_cons_succ]
      have hgg := Lib.hid H8.out.lt
      have H9 := Lib.hid (H8.out.alloc (.cells (bvs none16).toArray 50))
      have hb9 : Blk (w8.alloc (.cells (bvs none16).toArray 50)) w8.heap.size 50 (bvs none16) := Blk.new' rfl rfl
      refine reg_call 6 (some 18) rfl rfl (by kernel_rfl) (by rfl) _ _ (exec_func 37 _ _ [.agg (bvs h).toArray, .agg (bvs (taken h none16 a)).toArray, .string (str t)] rfl (by kernel_rfl) rfl) ?_
      refine (fTake h (taken h none16 a) (str t) _ HH.out HTA.out (by rw [str_size]; omega)).mono ?_
      rintro e w10 ⟨rfl, k9⟩
      have H10 := Lib.hid (H9.out.keep0 k9)
      refine ⟨_, rfl, H10.out, fun _ => ?_⟩
      have hb10 := hb9.keep k9 (fun e => e)
      simp only [Act.put, List.setIfInBounds_toArray, List.set_cons_zero, List.set_cons_succ]
      refine reg_store 8 none 50 (.tmp 7) (.tmp 18) rfl rfl rfl (by kernel_rfl) (by rfl) w8.heap.size _ _ (bvs (taken h (taken h none16 a) t)) hb10 rfl rfl (by rw [HTT.out, HZ.out]) (by rw [HTT.out]; kernel_rfl) (bvs_one _) ?_
      intro w11 hB11 k11 z11
      have hg0 : w.heap.size + 1 < w8.heap.size := hgg.out
      have HE := Lib.hid (H10.out.keep k11 (fun i e => by unfold oneB at e; omega))
      have HS := Lib.hid hB11
      refine ⟨HE.out, fun _ => ?_⟩
      simp only [Act.put, List.setIfInBounds_toArray, List.set_cons_zero, List.set_cons_succ]
      refine reg_end (by kernel_rfl) ?_
      obtain ⟨g7, hg7⟩ : ∃ g, g = w8.heap.size := ⟨_, rfl⟩
      rw [← hg7] at HS hg0 ⊢
      clear hB11 k11 z11 hg7
  case' first7 =>
    simp only [Act.put, List.setIfInBounds_toArray, List.set_cons_zero, List.set_cons_succ]
    have hgg := Lib.hid H1.out.lt
    have H8 := Lib.hid (H1.out.alloc (.cells (bvs none16).toArray 50))
    have hb8 : Blk (w7.alloc (.cells (bvs none16).toArray 50)) w7.heap.size 50 (bvs none16) := Blk.new' rfl rfl
    refine reg_call 4 (some 16) rfl rfl (by kernel_rfl) (by rfl) _ _ (exec_func 37 _ _ [.agg (bvs h).toArray, .agg (bvs none16).toArray, .string (str a)] rfl (by kernel_rfl) rfl) ?_
    refine (fTake h none16 (str a) _ HH.out none_length (by rw [str_size]; omega)).mono ?_
    rintro e w9 ⟨rfl, k8⟩
    have H9 := Lib.hid (H8.out.keep0 k8)
    refine ⟨_, rfl, H9.out, fun _ => ?_⟩
    have hb9 := hb8.keep k8 (fun e => e)
    simp only [Act.put, List.setIfInBounds_toArray, List.set_cons_zero, List.set_cons_succ]
    refine reg_call 6 (some 18) rfl rfl (by kernel_rfl) (by rfl) _ _ (exec_func 37 _ _ [.agg (bvs h).toArray, .agg (bvs (taken h none16 a)).toArray, .string (str t)] rfl (by kernel_rfl) rfl) ?_
    refine (fTake h (taken h none16 a) (str t) _ HH.out HTA.out (by rw [str_size]; omega)).mono ?_
    rintro e w10 ⟨rfl, k9⟩
    have H10 := Lib.hid (H9.out.keep0 k9)
    refine ⟨_, rfl, H10.out, fun _ => ?_⟩
    have hb10 := hb9.keep k9 (fun e => e)
    simp only [Act.put, List.setIfInBounds_toArray, List.set_cons_zero, List.set_cons_succ]
    refine reg_store 8 none 50 (.tmp 7) (.tmp 18) rfl rfl rfl (by kernel_rfl) (by rfl) w7.heap.size _ _ (bvs (taken h (taken h none16 a) t)) hb10 rfl rfl (by rw [HTT.out, HZ.out]) (by rw [HTT.out]; kernel_rfl) (bvs_one _) ?_
    intro w11 hB11 k11 z11
    have hg0 : w.heap.size + 1 < w7.heap.size := hgg.out
    have HE := Lib.hid (H10.out.keep k11 (fun i e => by unfold oneB at e; omega))
    have HS := Lib.hid hB11
    refine ⟨HE.out, fun _ => ?_⟩
    simp only [Act.put, List.setIfInBounds_toArray, List.set_cons_zero, List.set_cons_succ]
    refine reg_end (by kernel_rfl) ?_
    obtain ⟨g7, hg7⟩ : ∃ g, g = w7.heap.size := ⟨_, rfl⟩
    rw [← hg7] at HS hg0 ⊢
    clear hB11 k11 z11 hg7
  all_goals
    obtain ⟨g8, hg8⟩ : ∃ g, g = w11.heap.size := ⟨_, rfl⟩
    have h78 : g7 < g8 := by rw [hg8]; exact HS.out.lt
    have hz0 : Bz w h g7 (taken h (taken h none16 a) t) g8 (pz (8 * a.length) (8 * t.length) 0) (w11.alloc (.cells (bvs none16).toArray 50)) := by
      rw [pz_zero]; exact ⟨HE.out.alloc _, HS.out.alloc _, Blk.new' hg8 rfl⟩
    have HZ0 := Lib.hid hz0
    clear hz0
    go_wp2
    rw [← hg8]
    clear hg8
    go_loopw [9, 10, 11] (fun vn vm vi w3 => ∃ (j : Nat) (I : Int), j ≤ 8 ∧ I = 7 - (j : Int) ∧ vn = .int .i64 ((8 * a.length / 256 ^ j : Nat) : Int) ∧ vm = .int .i64 ((8 * t.length / 256 ^ j : Nat) : Int) ∧ vi = .int .i64 I ∧ Bz w h g7 (taken h (taken h none16 a) t) g8 (pz (8 * a.length) (8 * t.length) j) w3)
      (fun _ _ vi _ => (intOf vi + 1).toNat)
    case' atStart => exact ⟨0, 7, by omega, rfl, by simp, by simp, rfl, HZ0.out⟩
    case' round =>
      obtain ⟨j, I, hj, hI, rfl, rfl, rfl, hz⟩ := hrel
      have HZ1 := Lib.hid hz; clear hz HZ0
      by_cases hlt : j < 8
      case' pos =>
        obtain ⟨i, rfl⟩ : ∃ i : Nat, I = i := ⟨7 - j, by omega⟩
        have HST := Lib.hid (pz_step (8 * a.length) (8 * t.length) i j (by omega) hlt)
        have hN := Nat.div_le_self (8 * a.length) (256 ^ j)
        have hM := Nat.div_le_self (8 * t.length) (256 ^ j)
        have HPN := Lib.hid (pow_next (8 * a.length) j)
        have HPM := Lib.hid (pow_next (8 * t.length) j)
        generalize 8 * a.length / 256 ^ j = N at *
        generalize 8 * t.length / 256 ^ j = M at *
        have hi7 : i ≤ 7 := by omega
        have HIJ := Lib.hid (show (i : Int) - 1 = 7 - ((j + 1 : Nat) : Int) by omega)
        have hc1 := blk_byte HZ1.out.n i (by rw [pz_length]; omega)
        have hc2 := blk_byte HZ1.out.n (8 + i) (by rw [pz_length]; omega)
        have hf1 := HZ1.out.n.frozen i
        have hf2 := HZ1.out.n.frozen (8 + i)
        have eN : (N : Int) % 256 = cb (UInt8.ofNat N) := by unfold cb; simp
        have eM : (M : Int) % 256 = cb (UInt8.ofNat M) := by unfold cb; simp
        have hN2 : N ≤ 9007199254740992 := by omega
        have hM2 : M ≤ 9007199254740992 := by omega
        clear hI hN hM
        go_wp2
        have hb := (HZ1.out.set hg0 h78 i (UInt8.ofNat N)).set hg0 h78 (8 + i) (UInt8.ofNat M)
        rw [HST.out] at hb
        exact ⟨⟨j + 1, (i : Int) - 1, by omega, HIJ.out, by rw [HPN.out]; simp, by rw [HPM.out]; simp, rfl, hb⟩, by simp only [intOf]; omega⟩
      case' neg =>
        have hz1 := HZ1.out
        rw [show j = 8 by omega, pz_all] at hz1
        have HZ2 := Lib.hid hz1
        obtain rfl : I = -1 := by omega
        have HSZ := Lib.hid (sizes_length a t)
        have HSU := Lib.hid (sum_eq h a t)
        have HSL := Lib.hid (len16 (sum_length h a t))
        have HTL := Lib.hid (taken_length h (taken h none16 a) t HTA.out)
        clear hz1 HZ1 HE HS
        go_wp2
        obtain ⟨Q0, hQ0⟩ : ∃ Q0, Q0 = wr.drew := ⟨_, rfl⟩
        have HB0 := Lib.hid (HZ2.out.b.keep0 (Kp.refl nob wr).drew)
        have hS0 : Blk wr.drew w.heap.size 50 (bvs h) ∧ Blk wr.drew g7 50 (bvs (taken h (taken h none16 a) t)) ∧ Blk wr.drew g8 50 (bvs (sizes a t)) ∧ Kp nob w wr.drew :=
          ⟨HB0.out.h, HZ2.out.s.keep (Kp.refl nob wr).drew (fun e => e), HZ2.out.n.keep (Kp.refl nob wr).drew (fun e => e), HB0.out.kp⟩
        refine reg_begin (fun w' => Blk w' w.heap.size 50 (bvs h) ∧ Blk w' g7 50 (bvs (taken h (taken h none16 a) t)) ∧ Blk w' g8 50 (bvs (sizes a t)) ∧ Kp nob w w') (by kernel_rfl) hS0 (fun _ => ?_)
        clear HZ2 hQ0
        generalize wr.drew = w20 at *
        refine reg_load 0 (some 44) 50 (.tmp 3) rfl rfl rfl (by kernel_rfl) (by kernel_rfl) (by kernel_rfl) (by rfl) hS0 w.heap.size 0 rfl (bvs h) _ (fun _ x => x.1.range) arr16 rfl (by rw [HHL.out]; kernel_rfl) ?_
        simp only [Act.put, List.setIfInBounds_toArray, List.set_cons_zero, List.set_cons_succ]
        refine reg_load 1 (some 45) 50 (.tmp 7) rfl rfl rfl (by kernel_rfl) (by kernel_rfl) (by kernel_rfl) (by rfl) hS0 g7 0 rfl (bvs (taken h (taken h none16 a) t)) _ (fun _ x => x.2.1.range) arr16 rfl (by rw [HTT.out]; kernel_rfl) ?_
        simp only [Act.put, List.setIfInBounds_toArray, List.set_cons_zero, List.set_cons_succ]
        refine reg_take (v := .slice (some ⟨g8, 0, none⟩) 16 16) 2 (some 46) rfl rfl (by kernel_rfl) (by kernel_rfl) (by kernel_rfl) (by rfl) hS0 (fun w hw => by go_simp) ?_
        simp only [Act.put, List.setIfInBounds_toArray, List.set_cons_zero, List.set_cons_succ]
        refine reg_bytesStr 3 (some 47) 24 9 5 (.tmp 46) rfl rfl rfl (by kernel_rfl) (by kernel_rfl) (by kernel_rfl) (by rfl) hS0 (by kernel_rfl) (by kernel_rfl) (by kernel_rfl) (some ⟨g8, 0, none⟩) 16 16 (sizes a t) HSZ.out rfl (fun _ x => x.2.2.1.row) ?_
        simp only [Act.put, List.setIfInBounds_toArray, List.set_cons_zero, List.set_cons_succ]
        refine reg_call 4 (some 48) rfl rfl (by kernel_rfl) (by rfl) _ _ (exec_func 37 _ _ [.agg (bvs h).toArray, .agg (bvs (taken h (taken h none16 a) t)).toArray, .string (str (sizes a t))] rfl (by kernel_rfl) rfl) ?_
        refine (fTake h (taken h (taken h none16 a) t) (str (sizes a t)) w20 HH.out HTL.out (by rw [str_size, HSZ.out]; omega)).mono ?_
        rintro e w21 ⟨rfl, k21⟩
        rw [sl_str, ← HSU.out]
        have HB1 := Lib.hid (HB0.out.keep0 k21)
        have hS1 : Blk w21 w.heap.size 50 (bvs h) ∧ Blk w21 g7 50 (bvs (taken h (taken h none16 a) t)) ∧ Blk w21 g8 50 (bvs (sizes a t)) ∧ Kp nob w w21 :=
          ⟨HB1.out.h, hS0.2.1.keep k21 (fun e => e), hS0.2.2.1.keep k21 (fun e => e), HB1.out.kp⟩
        refine ⟨_, rfl, hS1, fun _ => ?_⟩
        simp only [Act.put, List.setIfInBounds_toArray, List.set_cons_zero, List.set_cons_succ]
        refine reg_store 5 none 50 (.tmp 6) (.tmp 48) rfl rfl rfl (by kernel_rfl) (by rfl) (w.heap.size + 1) _ _ (bvs (sum h a t)) HB1.out.z rfl rfl (by rw [HSL.out, HZ.out]) (by rw [HSL.out]; kernel_rfl) (bvs_one _) ?_
        intro w22 hB22 k22 z22
        have K22 : Kp nob w w22 := hS1.2.2.2.since k22 (fun i e => by unfold oneB at e; omega)
        refine ⟨⟨hS1.1.keep k22 (fun e => by unfold oneB at e; omega), hS1.2.1.keep k22 (fun e => by unfold oneB at e; omega), hS1.2.2.1.keep k22 (fun e => by unfold oneB at e; omega), K22⟩, fun _ => ?_⟩
        simp only [Act.put, List.setIfInBounds_toArray, List.set_cons_zero, List.set_cons_succ]
        refine reg_end (by kernel_rfl) ?_
        go_wp2
        have hsz : (Tryd.prog.info? 50).map (·.size) = some (bvs (sum h a t)).toArray.size := by
          rw [List.size_toArray, HSL.out]; kernel_rfl
        exact bodyPost_ret (results_cell_row rfl _ _ (w.heap.size + 1) _ _ _ _ rfl hB22 arr16 rfl hsz) rfl ⟨rfl, K22⟩
end Go.Proofs.YtbainiblffcjgaaDoor.Ghash
namespace Go.Proofs.YtbainiblffcjgaaDoor.Gcm
set_option linter.unusedVariables false
set_option linter.unusedSimpArgs false
open Go Go.RowKit Kit
open Aes (gb tb tb_length gb_tb tb_gb tb_ext tb_eq arr16 pt pt_all pt_zero pt_set pt_get blk_byte set_tb bvs_setb)
open Ghash (none16 none_tb none_length len16 pow_next)
open Field (cb cb_inj)

/-- A nonce's block, j bytes of the number made, from the end on. -/
def bz (n : List UInt8) (i j : Nat) : List UInt8 := tb fun p => if p < 12 then gb n p else if 16 ≤ p + j then UInt8.ofNat (i / 256 ^ (15 - p)) else 0
theorem bz_length (n : List UInt8) (i j : Nat) : (bz n i j).length = 16 := tb_length _
theorem bz_zero (n : List UInt8) (i : Nat) : pt (gb n) (fun _ => 0) 12 = bz n i 0 := by
  rw [Aes.pt_eq, bz]
  refine tb_ext fun p hp => ?_
  by_cases h : p < 12
  · rw [if_pos h, if_pos h]
  · rw [if_neg h, if_neg h, if_neg (by omega)]
theorem bz_step (n : List UInt8) (i j k : Nat) (hk : k = 15 - j) (hj : j < 4) : (bz n i j).set k (UInt8.ofNat (i / 256 ^ j)) = bz n i (j + 1) := by
  rw [bz, set_tb, bz]
  refine tb_ext fun p hp => ?_
  by_cases h1 : p = k
  · rw [if_pos h1, if_neg (by omega), if_pos (by omega), show 15 - p = j by omega]
  · rw [if_neg h1]
    by_cases h : p < 12
    · rw [if_pos h, if_pos h]
    · rw [if_neg h, if_neg h]
      by_cases h3 : 16 ≤ p + j
      · rw [if_pos h3, if_pos (by omega)]
      · rw [if_neg h3, if_neg (by omega)]
theorem bz_all (n : List UInt8) (i : Nat) (hn : n.length = 12) : bz n i 4 = nb n i := by
  refine tb_eq (nb_length n i hn) fun p hp => ?_
  rw [nb_eq]
  by_cases h : p < 12
  · rw [if_pos h, gb, gb, List.getD, List.getD, List.getElem?_append_left (by omega)]
  · rw [if_neg h, if_pos (by omega), gb, List.getD, List.getElem?_append_right (by omega), hn, big4, List.getElem?_map, List.getElem?_range (by omega)]
    simp only [Option.map_some, Option.getD_some]
    rw [show 3 - (p - 12) = 15 - p by omega]
attribute [irreducible] bz
/-- Three blocks: the nonce's, the answer's, the one that is made. -/
structure N3 (w : World) (n o : List UInt8) (w2 : World) : Prop where
  n : Blk w2 w.heap.size 23 (bvs n)
  z : Blk w2 (w.heap.size + 1) 50 (bvs none16)
  o : Blk w2 (w.heap.size + 2) 50 (bvs o)
  kp : Kp nob w w2
theorem N3.set {w w2 : World} {n o : List UInt8} (x : N3 w n o w2) (i : Nat) (u : UInt8) : N3 w n (o.set i u) (w2.setCell ⟨w.heap.size + 2, i, none⟩ (.int .u8 (cb u))) :=
  ⟨x.n.far (by simp) _, x.z.far (by simp) _, by have := x.o.set_ i (.int .u8 (cb u)); rwa [bvs_setb] at this, x.kp.setCell (.inr (by simp)) _⟩

set_option maxHeartbeats 2000000 in
set_option maxRecDepth 100000 in
theorem fBlock (n : List UInt8) (i : Nat) (w : World) (hn : n.length = 12) (hi : i ≤ 1099511627776) :
    Calls Tryd.prog 26 #[.agg (bvs n).toArray, .int .i64 i] w fun e w' => e = .returned (.agg (bvs (nb n i)).toArray) ∧ Kp nob w w' := by
  have HN := Lib.hid hn
  have HB := Lib.hid (bz_zero n i)
  have HA := Lib.hid (bz_all n i hn)
  have HNL := Lib.hid (len16 (nb_length n i hn))
  have HZ := Lib.hid (len16 none_length)
  clear hn
  go_enter Tryd.func26, Tryd.ntmps26
  go_wp2
  go_loopw [8] (fun vk wr => ∃ k : Nat, k ≤ 12 ∧ vk = .int .i64 k ∧ N3 w n (pt (gb n) (fun _ => 0) k) wr)
    (fun vk _ => 12 - (intOf vk).toNat)
  case atStart => exact ⟨0, by omega, rfl, ⟨((Blk.new' rfl rfl).alloc _).alloc _, (Blk.new' (by simp) rfl).alloc _, by rw [pt_zero]; exact Blk.new' (by simp) rfl, (((Kp.refl _ _).alloc _).alloc _).alloc _⟩⟩
  case round =>
    obtain ⟨k, hk, rfl, h3⟩ := hrel
    have H3 := Lib.hid h3; clear h3
    by_cases hlt : k < 12
    · have hc1 := blk_byte H3.out.n k (by rw [HN.out]; omega)
      have hc2 := H3.out.o.cell k
      rw [pt_get _ _ _ (by omega)] at hc2
      have hf := H3.out.o.frozen k
      go_wp2
      go_roundw
      case rel =>
        refine ⟨k + 1, by omega, by go_num, ?_⟩
        have := H3.out.set k (gb n k)
        rw [pt_set] at this
        exact this
      case measure => simp [intOf]; omega
    · have h3 := H3.out
      rw [show k = 12 by omega, HB.out] at h3
      have H4 := Lib.hid h3; clear h3 H3
      go_wp2
      go_loopw [1, 7] (fun vn vk wr => ∃ (j : Nat) (I : Int), j ≤ 4 ∧ I = 15 - (j : Int) ∧ vn = .int .i64 ((i / 256 ^ j : Nat) : Int) ∧ vk = .int .i64 I ∧ N3 w n (bz n i j) wr)
        (fun _ vk _ => (intOf vk + 1 - 12).toNat)
      case atStart => exact ⟨0, 15, by omega, by omega, by simp, rfl, H4.out⟩
      case round =>
        obtain ⟨j, I, hj, hI, rfl, rfl, h5⟩ := hrel
        have H5 := Lib.hid h5; clear h5 H4
        by_cases hlj : j < 4
        · obtain ⟨q, rfl⟩ : ∃ q : Nat, I = q := ⟨15 - j, by omega⟩
          have HST := Lib.hid (bz_step n i j q (by omega) hlj)
          have hN := Nat.div_le_self i (256 ^ j)
          have HPN := Lib.hid (pow_next i j)
          generalize i / 256 ^ j = N at *
          have hq15 : q ≤ 15 := by omega
          have hq12 : 12 ≤ q := by omega
          have HIJ := Lib.hid (show (q : Int) - 1 = 15 - ((j + 1 : Nat) : Int) by omega)
          have hc1 := blk_byte H5.out.o q (by rw [bz_length]; omega)
          have hf1 := H5.out.o.frozen q
          have eN : (N : Int) % 256 = cb (UInt8.ofNat N) := by unfold cb; simp
          have hN2 : N ≤ 9007199254740992 := by omega
          have hb := H5.out.set q (UInt8.ofNat N)
          rw [HST.out] at hb
          have HBB := Lib.hid hb
          clear hI hN hb
          go_wp2
          exact ⟨⟨j + 1, (q : Int) - 1, by omega, HIJ.out, by rw [HPN.out]; simp, rfl, HBB.out⟩, by simp only [intOf]; omega⟩
        · have h5 := H5.out
          rw [show j = 4 by omega, HA.out] at h5
          have H7 := Lib.hid h5; clear h5 H5
          obtain rfl : I = 11 := by omega
          go_wp2_with (first
            | (refine wpList_load_blk rfl 50 (.tmp 5) rfl _ _ _ H7.out.o rfl _ arr16 rfl (by rw [HNL.out]; kernel_rfl) ?_)
            | (refine wpList_store_blk rfl 50 (.tmp 4) (.tmp 28) rfl _ _ _ (bvs (nb n i)) H7.out.z rfl rfl (by rw [HZ.out, HNL.out]) (by rw [HNL.out]; kernel_rfl) (bvs_one _) ?_; intro w2 hB2 k2 z2))
          have hsz : (Tryd.prog.info? 50).map (·.size) = some (bvs (nb n i)).toArray.size := by
            rw [List.size_toArray, HNL.out]; kernel_rfl
          refine bodyPost_ret (results_cell_row rfl _ _ (w.heap.size + 1) _ _ _ _ rfl hB2 arr16 rfl hsz) rfl ⟨rfl, H7.out.kp.since k2 (fun i e => by cases e; omega)⟩
end Go.Proofs.YtbainiblffcjgaaDoor.Gcm
