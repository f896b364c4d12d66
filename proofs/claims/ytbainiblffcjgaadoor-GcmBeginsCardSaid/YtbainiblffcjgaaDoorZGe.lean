/- Contracts of the document's own field: products by long multiplication and division, inverses by trying, what the box makes. · Contracts of the document's own field: what the box makes. · Contracts of the document's own AES: a round's key taken in. · Contracts of the document's own AES: a block sealed under words. · Contracts of the document's own AES: all words of a key. -/
import Derived.Test.YtbainiblffcjgaaDoorZGd
import Derived.Test.YtbainiblffcjgaaDoorZGa
import Derived.Test.YtbainiblffcjgaaDoorRows
import Derived.BigQuiet
import Derived.Deep.QuietTactic
import Derived.StillTailTactics
import Derived.RegionTactic
namespace Go.Proofs.YtbainiblffcjgaaDoor.Field
set_option linter.unusedVariables false
set_option linter.unusedSimpArgs false
open Go Go.RowKit Kit

set_option maxHeartbeats 1000000 in
theorem fTimes (a b : UInt8) (w : World) :
    Calls Tryd.prog 36 #[.int .u8 (cb a), .int .u8 (cb b)] w fun e w' => e = .returned (.int .u8 (cb (tm a b))) ∧ w = w' := by
  have hA := cb_wrap a
  have hB := cb_wrap b
  have HT := Lib.hid (long_tm a b)
  have lA := a.toNat_lt
  have hul := up_lt a.toNat b.toNat lA
  generalize a.toNat = X at *
  generalize b.toNat = Y at *
  go_enter Tryd.func36, Tryd.ntmps36
  go_wp2
  go_loopw [5, 6] (fun vx vi wr => ∃ i : Nat, i ≤ 8 ∧ vx = .int .i64 (up X Y i : Nat) ∧ vi = .int .i64 i ∧ w = wr)
    (fun _ vi _ => 8 - (intOf vi).toNat)
  case atStart => exact ⟨0, by omega, rfl, rfl, rfl⟩
  case round =>
    obtain ⟨i, hi, rfl, rfl, rfl⟩ := hrel
    by_cases hlt : i < 8
    · have hm : min i 64 = i := by omega
      have hi64 : IntKind.u64.wrap (i : Int) = (i : Int) := by rw [IntKind.wrap_u64]; omega
      have hU : up X Y i < 65536 := Nat.lt_of_lt_of_le (hul i hi) (Nat.pow_le_pow_right (by omega) (show 8 + i ≤ 16 by omega))
      have hS : X * 2 ^ i < 65536 := by
        have h1 : 2 ^ i ≤ 2 ^ 7 := Nat.pow_le_pow_right (by omega) (by omega)
        have h2 : X * 2 ^ i ≤ 255 * 2 ^ 7 := Nat.mul_le_mul (by omega) h1
        omega
      rcases Nat.mod_two_eq_zero_or_one (Y / 2 ^ i) with hq | hq
      · have ht := bit_tmod Y i 0 hq
        have H1 := Lib.hid (up_none X Y i hq)
        clear hq
        go_wp2
        go_roundw
        case rel => exact ⟨i + 1, by omega, by rw [H1.out], by go_num, trivial⟩
        case measure => simp [intOf]; omega
      · have ht := bit_tmod Y i 1 hq
        have H1 := Lib.hid (up_one X Y i hq)
        clear hq
        obtain ⟨Z, hZ⟩ : ∃ Z, Z = X * 2 ^ i := ⟨_, rfl⟩
        have hs : wrap64 ((X : Int) * 2 ^ i) = (Z : Int) := by
          have e : (X : Int) * 2 ^ i = ((X * 2 ^ i : Nat) : Int) := by simp
          rw [e, small_wrap _ hS, hZ]
        rw [← hZ] at hS H1
        clear hZ
        have hx := xor_small (up X Y i) Z hU hS
        go_wp2
        go_roundw
        case rel => exact ⟨i + 1, by omega, by rw [H1.out], by go_num, trivial⟩
        case measure => simp [intOf]; omega
    · obtain rfl : i = 8 := by omega
      obtain ⟨U, hU⟩ : ∃ U, U = up X Y 8 := ⟨_, rfl⟩
      have hUl := hul 8 (by omega)
      have hdl := down_lt (up X Y 8) hUl
      have HL := Lib.hid (show down (up X Y 8) 8 = (tm a b).toNat by rw [← HT.out, long])
      rw [← hU] at hUl hdl HL ⊢
      clear hU
      go_wp2
      go_loopw [5, 7] (fun vx vi wr => ∃ (i : Nat) (j : Int), i ≤ 8 ∧ j = 15 - (i : Int) ∧ vx = .int .i64 (down U i : Nat) ∧ vi = .int .i64 j ∧ w = wr)
        (fun _ vi _ => (intOf vi + 1 - 8).toNat)
      case atStart => exact ⟨0, 15, by omega, by omega, rfl, rfl, rfl⟩
      case round =>
        obtain ⟨i, j, hi, hj, rfl, rfl, rfl⟩ := hrel
        by_cases hlt : i < 8
        · have hj2 : IntKind.u64.wrap j = ((15 - i : Nat) : Int) := by rw [IntKind.wrap_u64]; omega
          have hm : min (15 - i) 64 = 15 - i := by omega
          have d1 : decide (8 ≤ j) = true := by simp; omega
          have hD := hdl i hi
          rcases Nat.mod_two_eq_zero_or_one (down U i / 2 ^ (15 - i)) with hq | hq
          · have ht := bit_tmod (down U i) (15 - i) 0 hq
            have H1 := Lib.hid (down_none U i hq)
            clear hq
            go_wp2
            go_roundw
            case rel => exact ⟨i + 1, j - 1, by omega, by omega, by rw [H1.out], by go_num, trivial⟩
            case measure => simp [intOf]; omega
          · have ht := bit_tmod (down U i) (15 - i) 1 hq
            have H1 := Lib.hid (down_one U i hq)
            clear hq
            have hj3 : IntKind.u64.wrap (wrap64 (j - 8)) = ((7 - i : Nat) : Int) := by rw [wrap64_in _ (by omega), IntKind.wrap_u64]; omega
            have hm3 : min (7 - i) 64 = 7 - i := by omega
            obtain ⟨Z, hZ⟩ : ∃ Z, Z = 283 * 2 ^ (7 - i) := ⟨_, rfl⟩
            have hS : Z < 65536 := by
              have : 2 ^ (7 - i) ≤ 2 ^ 7 := Nat.pow_le_pow_right (by omega) (by omega)
              omega
            have hs : wrap64 ((283 : Int) * 2 ^ (7 - i)) = (Z : Int) := by
              have e : (283 : Int) * 2 ^ (7 - i) = ((283 * 2 ^ (7 - i) : Nat) : Int) := by simp
              rw [e, ← hZ, small_wrap _ hS]
            have hs' : wrap64 ((283 : Int) * 2 ^ (15 - i - 8)) = (Z : Int) := by rw [show 15 - i - 8 = 7 - i by omega]; exact hs
            rw [← hZ] at H1
            clear hZ
            have hx := xor_small (down U i) Z hD hS
            go_wp2
            go_roundw
            case rel => exact ⟨i + 1, j - 1, by omega, by omega, by rw [H1.out], by go_num, trivial⟩
            case measure => simp [intOf]; omega
        · obtain rfl : i = 8 := by omega
          obtain rfl : j = 7 := by omega
          have hw : IntKind.u8.wrap ((down U 8 : Nat) : Int) = cb (tm a b) := by rw [HL.out, IntKind.wrap_u8]; have := cb_range (tm a b); unfold cb at *; omega
          go_wp2
          go_ret
          exact ⟨rfl, rfl⟩

theorem u8_of (j : Nat) (_ : j < 256) : IntKind.u8.wrap (j : Int) = cb (UInt8.ofNat j) := wrap_u8 j
set_option maxHeartbeats 1000000 in
theorem fPower (a : UInt8) (w : World) :
    Calls Tryd.prog 53 #[.int .u8 (cb a)] w fun e w' => e = .returned (.int .u8 (cb (inv a))) ∧ w = w' := by
  have HP := Lib.hid (power_inv a)
  go_enter Tryd.func53, Tryd.ntmps53
  go_wp2
  go_loopw [3, 4, 5] (fun va vs vi wr => ∃ i : Nat, i ≤ 7 ∧ vs = .int .u8 (cb (power a i).2) ∧ va = .int .u8 (cb (power a i).1) ∧ vi = .int .i64 i ∧ w = wr)
    (fun _ _ vi _ => 7 - (intOf vi).toNat)
  case atStart => exact ⟨0, by omega, rfl, rfl, rfl, rfl⟩
  case round =>
    obtain ⟨i, hi, rfl, rfl, rfl, rfl⟩ := hrel
    by_cases hlt : i < 7
    · have H1 := Lib.hid (power_fst a i)
      have H2 := Lib.hid (power_snd a i)
      go_wp2_with fail
      refine (fTimes (power a i).1 (power a i).1 _).mono ?_
      rintro e w1 ⟨rfl, rfl⟩
      go_wp2_with fail
      refine (fTimes (power a i).2 (tm (power a i).1 (power a i).1) _).mono ?_
      rintro e w2 ⟨rfl, rfl⟩
      go_wp2
      go_roundw
      case rel => exact ⟨i + 1, by omega, by rw [H2.out, H1.out], by rw [H1.out], by go_num, trivial⟩
      case measure => simp [intOf]; omega
    · obtain rfl : i = 7 := by omega
      go_wp2
      go_ret
      rw [← HP.out]
      exact ⟨rfl, rfl⟩
end Go.Proofs.YtbainiblffcjgaaDoor.Field
namespace Go.Proofs.YtbainiblffcjgaaDoor.Field
set_option linter.unusedVariables false
set_option linter.unusedSimpArgs false
open Go Go.RowKit Kit

def KS : List Nat := [0, 4, 5, 6, 7]
/-- The sum of a bit, so far. -/
def part (c i : Nat) : Nat → Nat
  | 0 => 99 / 2 ^ i % 2
  | j + 1 => part c i j + c / 2 ^ ((i + KS.getD j 0) % 8) % 2
theorem part_zero (c i : Nat) : part c i 0 = 99 / 2 ^ i % 2 := rfl
theorem part_succ (c i j : Nat) : part c i (j + 1) = part c i j + c / 2 ^ ((i + KS.getD j 0) % 8) % 2 := rfl
theorem part_le (c i j : Nat) : part c i j ≤ j + 1 := by
  induction j with
  | zero => have := Nat.mod_lt (99 / 2 ^ i) (show 0 < 2 by decide); rw [part_zero]; omega
  | succ j ih => have := Nat.mod_lt (c / 2 ^ ((i + KS.getD j 0) % 8)) (show 0 < 2 by decide); rw [part_succ]; omega
theorem part_all (c i : Nat) : part c i 5 % 2 = bendBit c i := by rw [bendBit_eq]; rfl
theorem bendN_lt (c i : Nat) : bendN c i < 2 ^ i := by
  induction i with
  | zero => rw [bendN_zero]; exact Nat.one_pos
  | succ i ih =>
    have h1 := bendBit_lt c i
    have h2 : bendBit c i * 2 ^ i ≤ 1 * 2 ^ i := Nat.mul_le_mul_right _ (by omega)
    rw [bendN_succ, Nat.pow_succ]; omega
theorem KS_get (j : Nat) (h : j < 5) : (#[Value.int .i64 0, Value.int .i64 4, Value.int .i64 5, Value.int .i64 6, Value.int .i64 7] : Array Value)[j]? = some (.int .i64 ((KS.getD j 0 : Nat) : Int)) := by
  have : j = 0 ∨ j = 1 ∨ j = 2 ∨ j = 3 ∨ j = 4 := by omega
  rcases this with rfl | rfl | rfl | rfl | rfl <;> rfl
theorem KS_le (j : Nat) : KS.getD j 0 ≤ 7 := by
  by_cases h : j < 5
  · have : j = 0 ∨ j = 1 ∨ j = 2 ∨ j = 3 ∨ j = 4 := by omega
    rcases this with rfl | rfl | rfl | rfl | rfl <;> decide
  · have : KS.getD j 0 = 0 := by rw [List.getD_eq_getElem?_getD, List.getElem?_eq_none (by simp [KS]; omega)]; rfl
    omega
attribute [irreducible] part
theorem min_small (m : Nat) (h : m < 8) : min m 64 = m := by omega
theorem bit_two (C m q : Nat) (h : C / 2 ^ m % 2 = q) : q < 2 := by rw [← h]; exact Nat.mod_lt _ (by decide)
theorem sums_wrap (p q : Nat) (hp : p ≤ 6) (hq : q < 2) : wrap64 ((p : Int) + (q : Int)) = ((p + q : Nat) : Int) := by rw [wrap64_in ((p : Int) + (q : Int)) (by omega)]; omega
theorem bend_small (C i : Nat) (h : i ≤ 8) : bendN C i < 512 := Nat.lt_of_lt_of_le (bendN_lt C i) (Nat.le_trans (Nat.pow_le_pow_right (by decide) h) (by decide))
theorem shl_small (r i z : Nat) (hi : i < 8) (hr : r < 2) (hz : z = r * 2 ^ i) : z < 512 := by
  have h1 : 2 ^ i ≤ 2 ^ 7 := Nat.pow_le_pow_right (by decide) (by omega)
  have h2 : r * 2 ^ i ≤ 1 * 2 ^ 7 := Nat.mul_le_mul (by omega) h1
  omega
theorem shl_wrap (r i z : Nat) (hi : i < 8) (hr : r < 2) (hz : z = r * 2 ^ i) : wrap64 ((r : Int) * 2 ^ i) = (z : Int) := by
  have h := shl_small r i z hi hr hz
  have e : (r : Int) * 2 ^ i = (z : Int) := by rw [hz]; simp
  rw [e, small_wrap z (by omega)]
theorem adds_wrap (p q : Nat) (hp : p < 512) (hq : q < 512) : wrap64 ((p : Int) + (q : Int)) = ((p + q : Nat) : Int) := by rw [wrap64_in ((p : Int) + (q : Int)) (by omega)]; omega
theorem tmod_two (p r : Nat) (h : p % 2 = r) : (p : Int).tmod 2 = (r : Int) := by rw [Int.tmod_eq_emod_of_nonneg (by omega)]; omega
theorem arrK : Tryd.prog.underlying 105 = some (.array 5 3) := by kernel_rfl
theorem intK : Tryd.prog.underlying 3 = some (.int .i64) := by kernel_rfl

set_option maxHeartbeats 400000 in
set_option maxRecDepth 100000 in
theorem fBend (a : UInt8) (w : World) :
    Calls Tryd.prog 52 #[.int .u8 (cb a)] w fun e w' => e = .returned (.int .u8 (cb (bend a))) ∧ w = w' := by
  have hA := cb_wrap a
  have HB := Lib.hid (show bend a = UInt8.ofNat (bendN a.toNat 8) from rfl)
  generalize a.toNat = C at *
  go_enter Tryd.func52, Tryd.ntmps52
  go_wp2
  go_loopw [3, 4] (fun vx vi wr => ∃ i : Nat, i ≤ 8 ∧ vx = .int .i64 (bendN C i : Nat) ∧ vi = .int .i64 i ∧ w = wr)
    (fun _ vi _ => 8 - (intOf vi).toNat)
  case atStart => exact ⟨0, by omega, by rw [bendN_zero]; rfl, rfl, rfl⟩
  case round =>
    obtain ⟨i, hi, rfl, rfl, rfl⟩ := hrel
    by_cases hlt : i < 8
    · have hm : min i 64 = i := by omega
      have hi64 : IntKind.u64.wrap (i : Int) = (i : Int) := by rw [IntKind.wrap_u64]; omega
      have h99 : ((99 : Int) / 2 ^ i).tmod 2 = ((part C i 0 : Nat) : Int) := bit_tmod 99 i _ (part_zero C i).symm
      have HP := Lib.hid (part_all C i)
      go_wp2
      go_loopw [5, 17] (fun vs vj wr => ∃ j : Nat, j ≤ 5 ∧ vs = .int .i64 (part C i j : Nat) ∧ vj = .int .i64 j ∧ w = wr)
        (fun _ vj _ => 5 - (intOf vj).toNat)
      case atStart => exact ⟨0, by omega, rfl, rfl, rfl⟩
      case round =>
        obtain ⟨j, hj, rfl, rfl, rfl⟩ := hrel
        by_cases hlj : j < 5
        · have H1 := Lib.hid (part_succ C i j)
          have hP := part_le C i j
          have hix := fun wx => run_index_agg (P := Tryd.prog) wx 105 3 5 _ .i64 j _ .i64 arrK intK (by kernel_rfl) hlj (KS_get j hlj)
          have hk := KS_le j
          generalize KS.getD j 0 = k at *
          have hm8 : (i + k) % 8 < 8 := Nat.mod_lt _ (by decide)
          have e4 := min_small _ hm8
          obtain ⟨q, hq⟩ : ∃ q, C / 2 ^ ((i + k) % 8) % 2 = q := ⟨_, rfl⟩
          have e5 := bit_tmod C ((i + k) % 8) q hq
          have hq2 := bit_two C _ q hq
          obtain ⟨T, hT⟩ : ∃ T, T = part C i j + q := ⟨_, rfl⟩
          have H2 := Lib.hid (show part C i (j + 1) = T by rw [H1.out, hq, hT])
          have e6 := sums_wrap (part C i j) q (by omega) hq2
          rw [← hT] at e6
          clear hq hm8 hT hP hq2
          go_wp2
          go_roundw
          case rel => exact ⟨j + 1, by omega, by rw [H2.out, e6], by go_num, trivial⟩
          case measure => simp [intOf]; omega
        · obtain rfl : j = 5 := by omega
          have hb := bendBit_lt C i
          have hO := bend_small C i hi
          obtain ⟨r, hr⟩ : ∃ r, r = bendBit C i := ⟨_, rfl⟩
          have e1 : ((part C i 5 : Nat) : Int).tmod 2 = (r : Int) := tmod_two _ r (HP.out.trans hr.symm)
          have HS := Lib.hid (bendN_succ C i)
          rw [← hr] at hb HS
          clear hr
          obtain ⟨z, hz⟩ : ∃ z, z = r * 2 ^ i := ⟨_, rfl⟩
          have e2 := shl_wrap r i z hlt hb hz
          have hz2 := shl_small r i z hlt hb hz
          rw [← hz] at HS
          clear hz
          have e3 := adds_wrap (bendN C i) z hO hz2
          obtain ⟨T, hT⟩ : ∃ T, T = bendN C i + z := ⟨_, rfl⟩
          rw [← hT] at e3 HS
          clear hT hb hO hz2
          go_wp2
          go_roundw
          case rel => exact ⟨i + 1, by omega, by rw [HS.out, e3], by go_num, trivial⟩
          case measure => simp [intOf]; omega
    · obtain rfl : i = 8 := by omega
      have hw := u8_of _ (bendN_lt C 8)
      rw [← HB.out] at hw
      go_wp2
      go_ret
      exact ⟨rfl, rfl⟩
set_option maxHeartbeats 1000000 in
theorem fBox (a : UInt8) (w : World) :
    Calls Tryd.prog 35 #[.int .u8 (cb a)] w fun e w' => e = .returned (.int .u8 (cb (box a))) ∧ w = w' := by
  go_enter Tryd.func35, Tryd.ntmps35
  go_wp2_with fail
  refine (fPower a _).mono ?_
  rintro e w1 ⟨rfl, rfl⟩
  go_wp2_with fail
  refine (fBend (inv a) _).mono ?_
  rintro e w1 ⟨rfl, rfl⟩
  go_wp2
  go_ret
  exact ⟨rfl, rfl⟩
end Go.Proofs.YtbainiblffcjgaaDoor.Field
namespace Go.Proofs.YtbainiblffcjgaaDoor.Aes
set_option linter.unusedVariables false
set_option linter.unusedSimpArgs false
open Go Go.RowKit Kit
open Field (cb cb_inj)

theorem arr4 : Tryd.prog.underlying 74 = some (.array 4 5) := by kernel_rfl

set_option maxHeartbeats 1000000 in
set_option maxRecDepth 100000 in
theorem fAdded (b W : List UInt8) (A : Option Addr) (m c r : Nat) (w : World) (hb : b.length = 16) (hW : W.length = 4 * m) (hr : Row w A (bvs W)) (hc : m ≤ c) (hm : m ≤ 1000) (hrr : 4 * r + 4 ≤ m) :
    Calls Tryd.prog 38 #[.agg (bvs b).toArray, .slice A m c, .int .i64 r] w fun e w' => e = .returned (.agg (bvs (add (rk W r) b)).toArray) ∧ Kp nob w w' := by
  have HB := Lib.hid hb; have HW := Lib.hid hW; clear hb hW
  have HR := Lib.hid hr; clear hr
  go_enter Tryd.func38, Tryd.ntmps38
  go_wp2
  go_loopw [8] (fun vi wr => ∃ k : Nat, k ≤ 16 ∧ vi = .int .i64 k ∧ Blk wr w.heap.size 50 (bvs (pt (fun i => gb b i ^^^ gb W (16 * r + i)) (gb b) k)) ∧ (∃ z, z.length = 16 ∧ Blk wr (w.heap.size + 1) 50 z) ∧ Kp nob w wr)
    (fun vi _ => 16 - (intOf vi).toNat)
  case atStart => exact ⟨0, by omega, rfl, by rw [pt_zero, tb_gb _ HB.out]; simpa using (Blk.new' rfl rfl).alloc _, ⟨_, rfl, Blk.new' (by simp) rfl⟩, ((Kp.refl _ _).alloc _).alloc _⟩
  case round =>
    obtain ⟨k, hk, rfl, h1, h2, hkp⟩ := hrel
    have H1 := Lib.hid h1; have H2 := Lib.hid h2; clear h1 h2
    by_cases hlt : k < 16
    · have hq0 : 0 < W.length := by rw [HW.out]; omega
      have hrow := HR.out.keep0 hkp
      obtain ⟨B, o, hA, hcell⟩ := row_byte hrow hq0
      have hc2 := hcell (16 * r + k) (by rw [HW.out]; omega)
      rw [show o + (16 * r + k) = o + (4 * r + k / 4) * 4 + k % 4 by omega] at hc2
      have hc1 : wr.cell? ⟨w.heap.size, k, none⟩ = some (.int .u8 (cb (gb b k))) := by rw [H1.out.cell, pt_get _ _ _ hlt]
      have hf1 : wr.frozen? ⟨w.heap.size, k, none⟩ = false := H1.out.frozen _
      subst hA
      clear hcell hrow
      go_wp2
      go_region
      go_wp2
      go_roundw
      case rel =>
        refine ⟨k + 1, by omega, by go_num, ?_, ?_, ?_⟩
        · have := (H1.out.keep (Kp.refl nob wr).drew (fun e => e)).set_ k (.int .u8 (cb (gb b k ^^^ gb W (16 * r + k))))
          rw [bvs_setb, pt_set (fun i => gb b i ^^^ gb W (16 * r + i))] at this
          exact this
        · obtain ⟨z, hz, h2⟩ := H2.out
          exact ⟨z, hz, (h2.keep (Kp.refl nob wr).drew (fun e => e)).far (by simp) _⟩
        · exact hkp.drew.setCell (.inr (Nat.le_refl _)) _
      case measure => simp [intOf]; omega
    · obtain rfl : k = 16 := by omega
      obtain ⟨z, hz, h2⟩ := H2.out
      have h1 := H1.out
      rw [pt_all, ← add_pt] at h1
      have HB1 := Lib.hid h1; have HB2 := Lib.hid h2; have HZ := Lib.hid hz
      have HM : Hid ((bvs (add (rk W r) b)).length = 16) := Lib.hid (by rw [bvs_length, add_length])
      clear H1 H2 h1 h2 hz
      go_wp2_with (first
        | (refine wpList_load_blk rfl 50 (.tmp 3) rfl _ _ _ HB1.out rfl _ arr16 rfl (by rw [HM.out]; kernel_rfl) ?_)
        | (refine wpList_store_blk rfl 50 (.tmp 6) (.tmp 29) rfl _ _ z (bvs (add (rk W r) b)) HB2.out rfl rfl (by rw [HZ.out, HM.out]) (by rw [HM.out]; kernel_rfl) (bvs_one _) ?_; intro w2 hB2 k2 z2))
      have hsz : (Tryd.prog.info? 50).map (·.size) = some (bvs (add (rk W r) b)).toArray.size := by
        rw [List.size_toArray, HM.out]; kernel_rfl
      refine bodyPost_ret (results_cell_row rfl _ _ (w.heap.size + 1) _ _ _ _ rfl hB2 arr16 rfl hsz) rfl ⟨rfl, hkp.since k2 (fun i e => by cases e; omega)⟩
end Go.Proofs.YtbainiblffcjgaaDoor.Aes
namespace Go.Proofs.YtbainiblffcjgaaDoor.Aes
set_option linter.unusedVariables false
set_option linter.unusedSimpArgs false
open Go Go.RowKit Kit
open Field (cb cb_inj fBox fTimes)

/-- A byte of the rows that are turned, each boxed. -/
def sr (B : List UInt8) (i : Nat) : UInt8 := Field.box (gb B (4 * ((i / 4 + i % 4) % 4) + i % 4))
theorem sr_eq (B : List UInt8) (i : Nat) : sr B i = Field.box (gb B (4 * ((i / 4 + i % 4) % 4) + i % 4)) := rfl
theorem sr_all (B : List UInt8) : tb (sr B) = rows (sub B) := by
  rw [rows_eq]
  refine tb_ext fun i hi => ?_
  rw [sub_eq, gb_tb _ _ (by omega)]; rfl
/-- A column's byte, so far. -/
def cs (X : List UInt8) (i : Nat) : Nat → UInt8
  | 0 => 0
  | j + 1 => cs X i j ^^^ Field.tm (gb X (4 * (i / 4) + j)) (fac j (i % 4))
theorem cs_zero (X : List UInt8) (i : Nat) : cs X i 0 = 0 := rfl
theorem cs_succ (X : List UInt8) (i j : Nat) : cs X i (j + 1) = cs X i j ^^^ Field.tm (gb X (4 * (i / 4) + j)) (fac j (i % 4)) := rfl
theorem cs_all (X : List UInt8) : tb (fun i => cs X i 4) = mix X := by
  rw [mix_eq]
  refine tb_ext fun i hi => ?_
  rw [cs_succ, cs_succ, cs_succ, cs_succ, cs_zero, UInt8.zero_xor]; rfl
/-- The columns, so far: i bytes, and j parts of one more. -/
def ms (X : List UInt8) (q j : Nat) : List UInt8 := tb fun i => if i < q then cs X i 4 else if i = q then cs X i j else 0
theorem ms_zero (X : List UInt8) : ms X 0 0 = tb fun _ => 0 := tb_ext fun i _ => by
  rw [if_neg (by omega)]; split <;> rfl
theorem ms_all (X : List UInt8) : ms X 16 0 = mix X := by
  rw [← cs_all]; exact tb_ext fun i h => if_pos h
theorem ms_get (X : List UInt8) (q j : Nat) (h : q < 16) : (bvs (ms X q j))[q]? = some (.int .u8 (cb (cs X q j))) := by
  rw [ms, tb_get _ _ h, if_neg (Nat.lt_irrefl q), if_pos rfl]
theorem ms_step (X : List UInt8) (q j : Nat) : (ms X q j).set q (cs X q (j + 1)) = ms X q (j + 1) := by
  rw [ms, set_tb, ms]
  refine tb_ext fun i _ => ?_
  by_cases h : i = q
  · subst h; rw [if_pos rfl, if_neg (Nat.lt_irrefl i), if_pos rfl]
  · rw [if_neg h]
    by_cases h2 : i < q
    · rw [if_pos h2, if_pos h2]
    · rw [if_neg h2, if_neg h2, if_neg h, if_neg h]
theorem ms_next (X : List UInt8) (q : Nat) : ms X q 4 = ms X (q + 1) 0 := by
  refine tb_ext fun i _ => ?_
  by_cases h : i = q
  · subst h; rw [if_neg (Nat.lt_irrefl i), if_pos rfl, if_pos (Nat.lt_succ_self _)]
  · by_cases h2 : i < q
    · rw [if_pos h2, if_pos (by omega)]
    · rw [if_neg h2, if_neg h, if_neg (by omega)]
      split <;> rfl
theorem ms_length (X : List UInt8) (q j : Nat) : (ms X q j).length = 16 := tb_length _
attribute [irreducible] sr cs ms
theorem zero16 : (tb fun _ => 0) = List.replicate 16 0 := by decide +kernel

/-- The state behind i rounds of R + 1. -/
def stt (W : List UInt8) (R : Nat) (b : List UInt8) (i : Nat) : List UInt8 := if i ≤ R then going W b i else enc W R b
theorem stt_zero (W : List UInt8) (R : Nat) (b : List UInt8) : stt W R b 0 = add (rk W 0) b := by rw [stt, if_pos (by omega), going_zero]
theorem stt_mid (W : List UInt8) (R : Nat) (b : List UInt8) (i : Nat) (h : i < R) : stt W R b (i + 1) = add (rk W (i + 1)) (mix (rows (sub (stt W R b i)))) := by
  rw [stt, stt, if_pos (by omega), if_pos (by omega), going_succ]
theorem stt_end (W : List UInt8) (R : Nat) (b : List UInt8) : stt W R b (R + 1) = add (rk W (R + 1)) (rows (sub (stt W R b R))) := by
  rw [stt, stt, if_neg (by omega), if_pos (by omega), enc_eq]
theorem stt_all (W : List UInt8) (R : Nat) (b : List UInt8) : stt W R b (R + 1) = enc W R b := by rw [stt, if_neg (by omega)]
theorem stt_length (W : List UInt8) (R : Nat) (b : List UInt8) (i : Nat) : (stt W R b i).length = 16 := by
  rw [stt]; split
  · exact going_length _ _ _
  · exact enc_length _ _ _
attribute [irreducible] stt
theorem sr_at (B : List UInt8) (c q : Nat) (hc : c < 4) (hq : q < 4) : sr B (4 * c + q) = Field.box (gb B (4 * ((c + q) % 4) + q)) := by
  rw [sr_eq, show (4 * c + q) / 4 = c by omega, show (4 * c + q) % 4 = q by omega]
theorem cs_at (X : List UInt8) (c k j : Nat) (hc : c < 4) (hk : k < 4) : cs X (4 * c + k) (j + 1) = cs X (4 * c + k) j ^^^ Field.tm (gb X (4 * c + j)) (fac j k) := by
  rw [cs_succ, show (4 * c + k) / 4 = c by omega, show (4 * c + k) % 4 = k by omega]

/-- What a round leaves as it is: the state's block, and the answer's. -/
structure Base (w : World) (B : List UInt8) (z : List Value) (w2 : World) : Prop where
  state : Blk w2 w.heap.size 50 (bvs B)
  ans : Blk w2 (w.heap.size + 1) 50 z
  kp : Kp nob w w2
theorem Base.drew {w w2 : World} {B : List UInt8} {z : List Value} (h : Base w B z w2) : Base w B z w2.drew :=
  ⟨h.state.keep (Kp.refl nob _).drew (fun e => e), h.ans.keep (Kp.refl nob _).drew (fun e => e), h.kp.drew⟩
theorem Base.alloc {w w2 : World} {B : List UInt8} {z : List Value} (h : Base w B z w2) (o : Obj) : Base w B z (w2.alloc o) := ⟨h.state.alloc o, h.ans.alloc o, h.kp.alloc o⟩
theorem Base.set {w w2 : World} {B : List UInt8} {z : List Value} (h : Base w B z w2) {p : Addr} (hp : w.heap.size + 1 < p.block) (u : Value) : Base w B z (w2.setCell p u) :=
  ⟨h.state.far (by omega) u, h.ans.far (by omega) u, h.kp.setCell (.inr (by omega)) u⟩
theorem Base.keep {w w2 w3 : World} {F : Nat → Prop} {B : List UInt8} {z : List Value} (h : Base w B z w2) (k : Kp F w2 w3) (hF : ∀ i, F i → w.heap.size + 1 < i) : Base w B z w3 :=
  ⟨h.state.keep k (fun e => by have := hF _ e; omega), h.ans.keep k (fun e => by have := hF _ e; omega), h.kp.since k (fun i e => by have := hF i e; omega)⟩
theorem Base.lt {w w2 : World} {B : List UInt8} {z : List Value} (h : Base w B z w2) : w.heap.size + 1 < w2.heap.size := h.ans.lt

theorem fac_at (j k : Nat) : gb [2, 3, 1, 1] ((j + 4 - k) % 4) = fac j k := rfl
theorem wrap_to (x : Int) (n : Nat) (h : x = (n : Int)) (hn : n < 1000000) : IntKind.i64.wrap x = (n : Int) := by rw [h, IntKind.wrap_i64]; omega
theorem wrap_toI (x y : Int) (h : x = y) (hn : -1000000 < y ∧ y < 1000000) : IntKind.i64.wrap x = y := by rw [h, IntKind.wrap_i64]; omega
theorem tmod_four (E F : Nat) (h : F = E % 4) : (E : Int).tmod 4 = (F : Int) := by rw [Int.tmod_eq_emod_of_nonneg (by omega)]; omega
/-- What stands while the columns are made. -/
structure Mix (w : World) (B X : List UInt8) (g1 g2 : Nat) (Y : List UInt8) (w2 : World) : Prop where
  y : Blk w2 g2 50 (bvs Y)
  f : Blk w2 (g2 + 1) 74 (bvs [2, 3, 1, 1])
  x : Blk w2 g1 50 (bvs X)
  base : Base w B (bvs (tb fun _ => 0)) w2
theorem Mix.drewN {w w2 : World} {B X Y : List UInt8} {g1 g2 : Nat} (h : Mix w B X g1 g2 Y w2) (n : Nat) : Mix w B X g1 g2 Y (w2.drewN n) :=
  have k := (Kp.refl nob w2).drewN n
  ⟨h.y.keep k (fun e => e), h.f.keep k (fun e => e), h.x.keep k (fun e => e), h.base.keep k (fun _ e => e.elim)⟩
theorem Mix.drew {w w2 : World} {B X Y : List UInt8} {g1 g2 : Nat} (h : Mix w B X g1 g2 Y w2) : Mix w B X g1 g2 Y w2.drew :=
  have k := (Kp.refl nob w2).drew
  ⟨h.y.keep k (fun e => e), h.f.keep k (fun e => e), h.x.keep k (fun e => e), h.base.keep k (fun _ e => e.elim)⟩
theorem Mix.set {w w2 : World} {B X Y : List UInt8} {g1 g2 : Nat} (h : Mix w B X g1 g2 Y w2) (h1 : w.heap.size + 1 < g1) (h2 : g1 < g2) (i : Nat) (u : UInt8) : Mix w B X g1 g2 (Y.set i u) (w2.setCell ⟨g2, i, none⟩ (.int .u8 (cb u))) :=
  ⟨by have := h.y.set_ i (.int .u8 (cb u)); rwa [bvs_setb] at this, h.f.far (by simp) _, h.x.far (by simp; omega) _, h.base.set (by simp; omega) _⟩

set_option maxHeartbeats 4000000 in
set_option maxRecDepth 100000 in
theorem fSeal (b W : List UInt8) (A : Option Addr) (cA R : Nat) (w : World) (hb : b.length = 16) (hW : W.length = 16 * (R + 2)) (hr : Row w A (bvs W)) (hc : 4 * (R + 2) ≤ cA) (hR : R ≤ 100) :
    Calls Tryd.prog 24 #[.slice A (4 * (R + 2)) cA, .agg (bvs b).toArray] w fun e w' => e = .returned (.agg (bvs (enc W R b)).toArray) ∧ Kp nob w w' := by
  have HB := Lib.hid hb; have HW := Lib.hid hW; clear hb hW
  have HR := Lib.hid hr; clear hr
  have HL := Lib.hid (show (bvs b).length = 16 by rw [bvs_length, HB.out])
  have h0 : Base w b (bvs (tb fun _ => 0)) ((w.alloc (.cells (bvs b).toArray 50)).alloc (.cells (bvs (tb fun _ => 0)).toArray 50)) :=
    ⟨(Blk.new w _ _).alloc _, Blk.new' (by simp) rfl, ((Kp.refl nob w).alloc _).alloc _⟩
  have H0 := Lib.hid h0; clear h0
  go_enter Tryd.func24, Tryd.ntmps24
  go_wp2_with (first
    | (refine wpList_load_blk rfl 50 (.tmp 3) rfl _ _ _ H0.out.state rfl _ arr16 rfl (by rw [HL.out]; kernel_rfl) ?_)
    | fail)
  refine (fAdded b W A (4 * (R + 2)) cA 0 _ HB.out (by rw [HW.out]; omega) (HR.out.keep0 H0.out.kp) hc (by omega) (by omega)).mono ?_
  rintro e w1 ⟨rfl, k1⟩
  rw [← stt_zero W R b]
  have H1 := Lib.hid (H0.out.keep k1 (fun _ e => e.elim))
  have HS := Lib.hid (show ∀ i, (bvs (stt W R b i)).length = 16 from fun i => by rw [bvs_length, stt_length])
  clear H0 k1
  go_wp2_with (refine wpList_store_blk rfl 50 (.tmp 3) (.tmp 21) rfl _ _ (bvs b) (bvs (stt W R b 0)) H1.out.state rfl rfl (by rw [HL.out, HS.out]) (by rw [HS.out]; kernel_rfl) (bvs_one _) ?_; intro w2 hB2 k2 z2)
  have HB2 := Lib.hid (show Base w (stt W R b 0) (bvs (tb fun _ => 0)) w2 from ⟨hB2, H1.out.ans.keep k2 (fun e => by unfold oneB at e; omega), H1.out.kp.since k2 (fun i e => by unfold oneB at e; omega)⟩)
  clear H1 hB2 k2 z2
  go_wp2
  go_loopw [6] (fun vr wr => ∃ i : Nat, i ≤ R + 1 ∧ vr = .int .i64 ((i : Int) + 1) ∧ Base w (stt W R b i) (bvs (tb fun _ => 0)) wr)
    (fun vr _ => R + 5 - (intOf vr).toNat)
  case atStart => exact ⟨0, by omega, rfl, HB2.out⟩
  case round =>
    obtain ⟨i, hi, rfl, hbase⟩ := hrel
    clear HB2
    have HBS := Lib.hid hbase; clear hbase
    obtain ⟨B, hBd⟩ : ∃ B, B = stt W R b i := ⟨_, rfl⟩
    rw [← hBd] at HBS
    have HBD := Lib.hid hBd; clear hBd
    by_cases hlt : i ≤ R
    · obtain ⟨g1, hg1⟩ : ∃ g, g = wr.heap.size := ⟨_, rfl⟩
      have hX0 : Blk (wr.alloc (.cells (bvs (tb fun _ => 0)).toArray 50)) g1 50 (bvs (pt (sr B) (fun _ => 0) (4 * 0))) := by rw [pt_zero]; exact Blk.new' hg1 rfl
      have HX0 := Lib.hid (And.intro hX0 (HBS.out.alloc (.cells (bvs (tb fun _ => 0)).toArray 50))); clear hX0
      have hg : w.heap.size + 1 < g1 := by rw [hg1]; exact HBS.out.lt
      go_wp2
      rw [← hg1]
      clear hg1
      go_loopw [8] (fun vc w3 => ∃ c : Nat, c ≤ 4 ∧ vc = .int .i64 c ∧ Blk w3 g1 50 (bvs (pt (sr B) (fun _ => 0) (4 * c))) ∧ Base w B (bvs (tb fun _ => 0)) w3)
        (fun vc _ => 4 - (intOf vc).toNat)
      case atStart => exact ⟨0, by omega, rfl, HX0.out.1, HX0.out.2⟩
      case round =>
        obtain ⟨c, hc4, rfl, hX, hb3⟩ := hrel
        have HX := Lib.hid (And.intro hX hb3); clear hX hb3 HX0
        by_cases hlc : c < 4
        · go_wp2
          go_loopw [9] (fun vq w4 => ∃ q : Nat, q ≤ 4 ∧ vq = .int .i64 q ∧ Blk w4 g1 50 (bvs (pt (sr B) (fun _ => 0) (4 * c + q))) ∧ Base w B (bvs (tb fun _ => 0)) w4)
            (fun vq _ => 4 - (intOf vq).toNat)
          case atStart => exact ⟨0, by omega, rfl, by rw [Nat.add_zero]; exact HX.out.1, HX.out.2⟩
          case round =>
            obtain ⟨q, hq4, rfl, hX4, hb4⟩ := hrel
            have HX4 := Lib.hid (And.intro hX4 hb4); clear hX4 hb4 HX
            by_cases hlq : q < 4
            · have hcell := blk_byte HX4.out.2.state (4 * ((c + q) % 4) + q) (by rw [HBD.out, stt_length]; omega)
              have hx := HX4.out.1.cell (4 * c + q)
              rw [pt_get _ _ _ (by omega)] at hx
              have hf := HX4.out.1.frozen (4 * c + q)
              have HSR := Lib.hid (sr_at B c q hlc hlq)
              go_wp2_with fail
              refine (fBox (gb B (4 * ((c + q) % 4) + q)) _).mono ?_
              rintro e w5 ⟨rfl, rfl⟩
              rw [← HSR.out]
              go_wp2
              go_roundw
              case rel =>
                refine ⟨q + 1, by omega, by go_num, ?_, HX4.out.2.set (by simpa using hg) _⟩
                have := HX4.out.1.set_ (4 * c + q) (.int .u8 (cb (sr B (4 * c + q))))
                rw [bvs_setb, pt_set] at this
                exact this
              case measure => simp [intOf]; omega
            · obtain rfl : q = 4 := by omega
              go_wp2
              go_roundw
              case rel => exact ⟨c + 1, by omega, by go_num, HX4.out.1, HX4.out.2⟩
              case measure => simp [intOf]; omega
        · have hX1 := HX.out.1
          rw [show 4 * c = 16 by omega, pt_all, sr_all] at hX1
          have HX1 := Lib.hid (And.intro hX1 HX.out.2)
          obtain ⟨X, hXd⟩ : ∃ X, X = rows (sub B) := ⟨_, rfl⟩
          have HXL := Lib.hid (show (bvs X).length = 16 by rw [bvs_length, hXd, rows_length])
          rw [← hXd] at HX1
          have HXD := Lib.hid hXd
          clear hX1 HX hXd
          by_cases hlr : i < R
          · obtain ⟨g2, hg2⟩ : ∃ g, g = wr.heap.size := ⟨_, rfl⟩
            have hY0 : Blk (wr.alloc (.cells (bvs (tb fun _ => 0)).toArray 50)) g2 50 (bvs (ms X (4 * 0) 0)) := by rw [Nat.mul_zero, ms_zero]; exact Blk.new' hg2 rfl
            have hF0 : Blk ((wr.alloc (.cells (bvs (tb fun _ => 0)).toArray 50)).alloc (.cells (bvs [2, 3, 1, 1]).toArray 74)) (g2 + 1) 74 (bvs [2, 3, 1, 1]) := Blk.new' (by rw [hg2]; simp) rfl
            have hg3 : g1 < g2 := by rw [hg2]; exact HX1.out.1.lt
            have HM0 := Lib.hid (Mix.mk (hY0.alloc _) hF0 ((HX1.out.1.alloc _).alloc _) ((HX1.out.2.alloc _).alloc _))
            clear hY0 hF0 HX1
            go_wp2
            rw [← hg2]
            clear hg2
            go_loopw [12] (fun vc w3 => ∃ c : Nat, c ≤ 4 ∧ vc = .int .i64 c ∧ Mix w B X g1 g2 (ms X (4 * c) 0) w3)
              (fun vc _ => 4 - (intOf vc).toNat)
            case atStart => exact ⟨0, by omega, rfl, HM0.out⟩
            case round =>
              obtain ⟨c, hc4, rfl, hm⟩ := hrel
              have HM := Lib.hid hm; clear hm HM0
              by_cases hlc : c < 4
              · go_wp2
                go_loopw [13] (fun vk w4 => ∃ k : Nat, k ≤ 4 ∧ vk = .int .i64 k ∧ Mix w B X g1 g2 (ms X (4 * c + k) 0) w4)
                  (fun vk _ => 4 - (intOf vk).toNat)
                case atStart => exact ⟨0, by omega, rfl, by rw [Nat.add_zero]; exact HM.out⟩
                case round =>
                  obtain ⟨k, hk4, rfl, hm⟩ := hrel
                  have HK := Lib.hid hm; clear hm HM
                  by_cases hlk : k < 4
                  · go_wp2
                    go_loopw [14] (fun vj w5 => ∃ j : Nat, j ≤ 4 ∧ vj = .int .i64 j ∧ Mix w B X g1 g2 (ms X (4 * c + k) j) w5)
                      (fun vj _ => 4 - (intOf vj).toNat)
                    case atStart => exact ⟨0, by omega, rfl, HK.out⟩
                    case round =>
                      obtain ⟨j, hj4, rfl, hm⟩ := hrel
                      have HJ := Lib.hid hm; clear hm HK
                      by_cases hlj : j < 4
                      · have HCS := Lib.hid (cs_at X c k j hlc hlk)
                        have HJD := Lib.hid HJ.out.drew
                        go_wp2
                        refine wp_region_still_tail 25 (by kernel_rfl) (by kernel_rfl) ?_
                        change wpStill _ _ wr.drew (fun a' => wpList _ _ _ _ a' wr.drew) _ _
                        clear HJ
                        generalize wr.drew = wd at *
                        obtain ⟨C, hC⟩ : ∃ C, C = 4 * c := ⟨_, rfl⟩
                        obtain ⟨P, hP⟩ : ∃ P, P = C + k := ⟨_, rfl⟩
                        obtain ⟨Q, hQ⟩ : ∃ Q, Q = C + j := ⟨_, rfl⟩
                        obtain ⟨D, hD⟩ : ∃ D : Int, D = (j : Int) - (k : Int) := ⟨_, rfl⟩
                        obtain ⟨E, hE⟩ : ∃ E, E = j + 4 - k := ⟨_, rfl⟩
                        obtain ⟨F, hF⟩ : ∃ F, F = E % 4 := ⟨_, rfl⟩
                        rw [← hC, ← hP, ← hQ] at HCS
                        rw [← hC, ← hP] at HJD
                        have hP16 : P < 16 := by omega
                        have hQ16 : Q < 16 := by omega
                        have hF4 : F < 4 := by omega
                        have hy := HJD.out.y.cell P
                        rw [ms_get _ _ _ hP16] at hy
                        have hx := blk_byte HJD.out.x Q (by have := HXL.out; rw [bvs_length] at this; omega)
                        have hf := blk_byte HJD.out.f F hF4
                        rw [hF, hE, fac_at j k, ← hE, ← hF] at hf
                        have hfr := HJD.out.y.frozen P
                        have e1 : IntKind.i64.wrap (4 * (c : Int)) = (C : Int) := wrap_to _ _ (by omega) (by omega)
                        have e2 : IntKind.i64.wrap ((C : Int) + (k : Int)) = (P : Int) := wrap_to _ _ (by omega) (by omega)
                        have e3 : IntKind.i64.wrap ((C : Int) + (j : Int)) = (Q : Int) := wrap_to _ _ (by omega) (by omega)
                        have e4 : IntKind.i64.wrap ((j : Int) - (k : Int)) = D := wrap_toI _ _ (by omega) (by omega)
                        have e5 : IntKind.i64.wrap (D + 4) = (E : Int) := wrap_to _ _ (by omega) (by omega)
                        have e6 : (E : Int).tmod 4 = (F : Int) := tmod_four _ _ hF
                        have e7 : IntKind.i64.wrap (F : Int) = (F : Int) := wrap_to _ _ rfl (by omega)
                        have b1 : (0 : Int) ≤ (P : Int) ∧ (P : Int) < 16 := by omega
                        have b2 : (0 : Int) ≤ (Q : Int) ∧ (Q : Int) < 16 := by omega
                        have b3 : (0 : Int) ≤ (F : Int) ∧ (F : Int) < 4 := by omega
                        have HPP := Lib.hid (show P = 4 * c + k by rw [hP, hC])
                        clear hC hP hQ hD hE hF
                        simp only [List.take_succ_cons, List.take_zero, List.drop_succ_cons, List.drop_zero]
                        repeat still_step
                        still_call ((fTimes (gb X Q) (fac j k) _).mono fun _ _ h => ⟨h.1, h.2.symm⟩)
                        repeat still_step
                        refine wpStill_nil ?_
                        go_wp2
                        refine ⟨?rel, by simp [intOf]; omega⟩
                        case rel =>
                          have q1 : decide ((i : Int) + 1 < (R : Int) + 2 - 1) = true := by simp; omega
                          have q2 : decide ((c : Int) < 4) = true := by simp; omega
                          have q3 : decide ((k : Int) < 4) = true := by simp; omega
                          simp only [q1, q2, q3]
                          (repeat apply Exists.intro)
                          refine ⟨?_, rfl⟩
                          refine ⟨j + 1, by omega, by go_num, ?_⟩
                          have := HJD.out.set hg hg3 P (cs X P (j + 1))
                          rw [ms_step, HCS.out] at this
                          rw [← HPP.out]
                          exact this
                      · obtain rfl : j = 4 := by omega
                        go_wp2
                        go_roundw
                        case rel => exact ⟨k + 1, by omega, by go_num, by rw [← Nat.add_assoc, ← ms_next]; exact HJ.out⟩
                        case measure => simp [intOf]; omega
                  · obtain rfl : k = 4 := by omega
                    go_wp2
                    go_roundw
                    case rel => exact ⟨c + 1, by omega, by go_num, HK.out⟩
                    case measure => simp [intOf]; omega
              · obtain rfl : c = 4 := by omega
                have hm := HM.out
                rw [show 4 * 4 = 16 from rfl, ms_all] at hm
                have HE := Lib.hid hm; clear hm HM
                have HML := Lib.hid (show (bvs (mix X)).length = 16 by rw [bvs_length, mix_length])
                have HST := Lib.hid (stt_mid W R b i hlr)
                go_wp2_with (first
                  | (refine wpList_load_blk rfl 50 (.tmp 10) rfl _ _ _ HE.out.y rfl _ arr16 rfl (by rw [HML.out]; kernel_rfl) ?_)
                  | (refine wpList_store_blk rfl 50 (.tmp 7) (.tmp 92) rfl _ _ (bvs X) (bvs (mix X)) HE.out.x rfl rfl (by rw [HML.out, HXL.out]) (by rw [HML.out]; kernel_rfl) (bvs_one _) ?_
                     intro w5 hB5 k5 z5
                     have HB5 := Lib.hid hB5
                     have HS5 := Lib.hid (HE.out.base.keep k5 (fun i e => by unfold oneB at e; omega))
                     clear hB5 k5 z5)
                  | (refine wpList_load_blk rfl 50 (.tmp 7) rfl _ _ _ HB5.out rfl _ arr16 rfl (by rw [HML.out]; kernel_rfl) ?_))
                have hrr := HR.out.keep0 HS5.out.kp
                refine (fAdded (mix X) W A (4 * (R + 2)) cA (i + 1) w5 (mix_length X) (by rw [HW.out]; omega) hrr hc (by omega) (by omega)).mono ?_
                rintro e w6 ⟨rfl, k6⟩
                rw [show add (rk W (i + 1)) (mix X) = stt W R b (i + 1) by rw [HST.out, HXD.out, HBD.out]]
                have HS6 := Lib.hid (HS5.out.keep k6 (fun _ e => e.elim))
                have HBL := Lib.hid (show (bvs B).length = 16 by rw [HBD.out, HS.out])
                clear k6 hrr
                go_wp2_with (refine wpList_store_blk rfl 50 (.tmp 3) (.tmp 96) rfl _ _ (bvs B) (bvs (stt W R b (i + 1))) HS6.out.state rfl rfl (by rw [HBL.out, HS.out]) (by rw [HS.out]; kernel_rfl) (bvs_one _) ?_; intro w7 hB7 k7 z7)
                have HB7 := Lib.hid (show Base w (stt W R b (i + 1)) (bvs (tb fun _ => 0)) w7 from ⟨hB7, HS6.out.ans.keep k7 (fun e => by unfold oneB at e; omega), HS6.out.kp.since k7 (fun i e => by unfold oneB at e; omega)⟩)
                clear hB7 k7 z7
                go_wp2
                exact ⟨⟨i + 1, by omega, by go_num, HB7.out⟩, by simp [intOf]; omega⟩
          · have HIR := Lib.hid (show i = R by omega)
            have d0 : decide ((i : Int) + 1 < (R : Int) + 2 - 1) = false := by simp; omega
            have HST := Lib.hid (stt_end W R b)
            go_wp2_with (refine wpList_load_blk rfl 50 (.tmp 7) rfl _ _ _ HX1.out.1 rfl _ arr16 rfl (by rw [HXL.out]; kernel_rfl) ?_)
            have hrr := HR.out.keep0 HX1.out.2.kp
            refine (fAdded X W A (4 * (R + 2)) cA (i + 1) wr (by have := HXL.out; rwa [bvs_length] at this) (by rw [HW.out]; omega) hrr hc (by omega) (by omega)).mono ?_
            rintro e w6 ⟨rfl, k6⟩
            rw [show add (rk W (i + 1)) X = stt W R b (i + 1) by rw [HIR.out, HST.out, HXD.out, HBD.out, HIR.out]]
            have HS6 := Lib.hid (HX1.out.2.keep k6 (fun _ e => e.elim))
            have HBL := Lib.hid (show (bvs B).length = 16 by rw [HBD.out, HS.out])
            clear k6 hrr
            go_wp2_with (refine wpList_store_blk rfl 50 (.tmp 3) (.tmp 96) rfl _ _ (bvs B) (bvs (stt W R b (i + 1))) HS6.out.state rfl rfl (by rw [HBL.out, HS.out]) (by rw [HS.out]; kernel_rfl) (bvs_one _) ?_; intro w7 hB7 k7 z7)
            have HB7 := Lib.hid (show Base w (stt W R b (i + 1)) (bvs (tb fun _ => 0)) w7 from ⟨hB7, HS6.out.ans.keep k7 (fun e => by unfold oneB at e; omega), HS6.out.kp.since k7 (fun i e => by unfold oneB at e; omega)⟩)
            clear hB7 k7 z7
            go_wp2
            exact ⟨⟨i + 1, by omega, by go_num, HB7.out⟩, by simp [intOf]; omega⟩
    · have hir : i = R + 1 := by omega
      have HE := HBS.out
      rw [HBD.out, hir, stt_all] at HE
      have HF := Lib.hid HE
      have HM := Lib.hid (show (bvs (enc W R b)).length = 16 by rw [bvs_length, enc_length])
      have HZ := Lib.hid (show (bvs (tb fun _ => 0)).length = 16 by rw [bvs_length, tb_length])
      clear HE hir
      go_wp2_with (first
        | (refine wpList_load_blk rfl 50 (.tmp 3) rfl _ _ _ HF.out.state rfl _ arr16 rfl (by rw [HM.out]; kernel_rfl) ?_)
        | (refine wpList_store_blk rfl 50 (.tmp 4) (.tmp 97) rfl _ _ (bvs (tb fun _ => 0)) (bvs (enc W R b)) HF.out.ans rfl rfl (by rw [HZ.out, HM.out]) (by rw [HM.out]; kernel_rfl) (bvs_one _) ?_; intro w2 hB2 k2 z2))
      have hsz : (Tryd.prog.info? 50).map (·.size) = some (bvs (enc W R b)).toArray.size := by
        rw [List.size_toArray, HM.out]; kernel_rfl
      refine bodyPost_ret (results_cell_row rfl _ _ (w.heap.size + 1) _ _ _ _ rfl hB2 arr16 rfl hsz) rfl ⟨rfl, HF.out.kp.since k2 (fun i e => by cases e; omega)⟩
end Go.Proofs.YtbainiblffcjgaaDoor.Aes
namespace Go.Proofs.YtbainiblffcjgaaDoor.Aes
set_option linter.unusedVariables false
set_option linter.unusedSimpArgs false
open Go Go.RowKit Kit
open Field (cb cb_inj fBox fTimes)

/-- Four bytes by their places. -/
def t4 (f : Nat → UInt8) : List UInt8 := [f 0, f 1, f 2, f 3]
theorem t4_length (f : Nat → UInt8) : (t4 f).length = 4 := rfl
theorem t4_ext {f g : Nat → UInt8} (h : ∀ i, i < 4 → f i = g i) : t4 f = t4 g := by
  rw [t4, t4, h 0 (by omega), h 1 (by omega), h 2 (by omega), h 3 (by omega)]
theorem t4_get (f : Nat → UInt8) (k : Nat) (h : k < 4) : (bvs (t4 f))[k]? = some (.int .u8 (cb (f k))) := by
  have : k = 0 ∨ k = 1 ∨ k = 2 ∨ k = 3 := by omega
  rcases this with rfl | rfl | rfl | rfl <;> rfl
theorem t4_set (f : Nat → UInt8) (k : Nat) (x : UInt8) (h : k < 4) : (t4 f).set k x = t4 fun i => if i = k then x else f i := by
  have : k = 0 ∨ k = 1 ∨ k = 2 ∨ k = 3 := by omega
  rcases this with rfl | rfl | rfl | rfl <;> simp [t4]
/-- The first k of four are made. -/
def p4 (f g : Nat → UInt8) (k : Nat) : List UInt8 := t4 fun i => if i < k then f i else g i
theorem p4_length (f g : Nat → UInt8) (k : Nat) : (p4 f g k).length = 4 := rfl
theorem p4_zero (f g : Nat → UInt8) : p4 f g 0 = t4 g := t4_ext fun i _ => if_neg (by omega)
theorem p4_all (f g : Nat → UInt8) : p4 f g 4 = t4 f := t4_ext fun i h => if_pos h
theorem p4_get (f g : Nat → UInt8) (k : Nat) (h : k < 4) : (bvs (p4 f g k))[k]? = some (.int .u8 (cb (g k))) := by rw [p4, t4_get _ _ h, if_neg (Nat.lt_irrefl k)]
theorem p4_set (f g : Nat → UInt8) (k : Nat) (h : k < 4) : (p4 f g k).set k (f k) = p4 f g (k + 1) := by
  rw [p4, t4_set _ _ _ h, p4]
  refine t4_ext fun i _ => ?_
  by_cases hi : i = k
  · subst hi; rw [if_pos rfl, if_pos (Nat.lt_succ_self _)]
  · rw [if_neg hi]
    by_cases h2 : i < k
    · rw [if_pos h2, if_pos (by omega)]
    · rw [if_neg h2, if_neg (by omega)]
attribute [irreducible] p4
theorem next_t4 (key : List UInt8) (n : Nat) (W : List UInt8) (i : Nat) : next key n W i = t4 (nextB key n W i) := rfl
theorem w4_info : (Tryd.prog.info? 74).map (fun i => (i.zero, i.size, i.bytes)) = some (some (.agg #[.int .u8 0, .int .u8 0, .int .u8 0, .int .u8 0]), 4, 4) := by kernel_rfl
theorem w4s_under : Tryd.prog.underlying 54 = some (.slice 74) := by kernel_rfl

/-- What stands in a round: the words ahead, the one that is made. -/
structure Ws (w : World) (key : List UInt8) (n i : Nat) (X : Option Addr) (cX g : Nat) (L : List UInt8) (w2 : World) : Prop where
  o : OwnK 4 74 w2 X i cX (bvs (words key n i))
  b : Blk w2 g 74 (bvs L)
  kp : Kp nob w w2
  far : ∀ k, ab X = some k → k < g
  lt : w.heap.size ≤ g
theorem Ws.drew {w w2 : World} {key : List UInt8} {n i : Nat} {X : Option Addr} {cX g : Nat} {L : List UInt8} (h : Ws w key n i X cX g L w2) : Ws w key n i X cX g L w2.drew :=
  have k := (Kp.refl nob w2).drew
  ⟨h.o.keep k (fun _ _ e => e), h.b.keep k (fun e => e), h.kp.drew, h.far, h.lt⟩
theorem Ws.set {w w2 : World} {key : List UInt8} {n i : Nat} {X : Option Addr} {cX g : Nat} {L : List UInt8} (h : Ws w key n i X cX g L w2) (k : Nat) (u : UInt8) : Ws w key n i X cX g (L.set k u) (w2.setCell ⟨g, k, none⟩ (.int .u8 (cb u))) :=
  ⟨h.o.keep (F := fun k => k = g) ((Kp.refl (fun k => k = g) w2).setCell (.inl rfl) _) (fun k e e' => by have := h.far k e; omega),
   by have := h.b.set_ k (.int .u8 (cb u)); rwa [bvs_setb] at this, h.kp.setCell (.inr h.lt) _, h.far, h.lt⟩
theorem Ws.keep {w w2 w3 : World} {key : List UInt8} {n i : Nat} {X : Option Addr} {cX g : Nat} {L : List UInt8} {F : Nat → Prop} (h : Ws w key n i X cX g L w2) (k : Kp F w2 w3) (hF : ∀ j, F j → g < j) : Ws w key n i X cX g L w3 :=
  ⟨h.o.keep k (fun j e e' => by have := h.far j e; have := hF j e'; omega), h.b.keep k (fun e => by have := hF _ e; omega), h.kp.since k (fun j e => by have := hF j e; have := h.lt; omega), h.far, h.lt⟩
/-- One word more. -/
theorem words_more {w w2 w5 : World} {key : List UInt8} {n i : Nat} {X X2 : Option Addr} {cX cX2 g : Nat} {L : List UInt8} {a : Obj} (h : Ws w key n i X cX g L w2) (hs : words key n (i + 1) = words key n i ++ L)
    (ho : OwnK 4 74 w5 X2 (i + 1) cX2 (bvs (words key n i) ++ bvs L)) (hg : (w2.alloc a).grownBy w5 (ab X)) (hab : ab X2 = ab X ∨ ab X2 = some (w2.alloc a).heap.size) (gX : ∀ k, ab X = some k → w.heap.size ≤ k) :
    OwnK 4 74 w5 X2 (i + 1) cX2 (bvs (words key n (i + 1))) ∧ (∀ k, ab X2 = some k → w.heap.size ≤ k) ∧ Kp nob w w5 := by
  refine ⟨by rw [hs, bvs_append]; exact ho, fun k e => ?_, ?_⟩
  · rcases hab with h1 | h1 <;> rw [h1] at e
    · exact gX k e
    · cases e; have := h.kp.size; simp; omega
  · exact h.kp.since (((Kp.refl (rowF X) w2).alloc a).grown hg (fun k e => .inl e)) (fun k e => gX k e)
/-- Four bytes of a row. -/
theorem row_four {w : World} {A : Option Addr} {W : List UInt8} (h : Row w A (bvs W)) (j : Nat) (hj : 4 * j + 4 ≤ W.length) : ∃ B o, A = some ⟨B, o, none⟩ ∧ w.rangeAt B (o + j * 4) (bvs (t4 fun k => gb W (4 * j + k))) := by
  obtain ⟨B, o, hA, hc⟩ := row_byte h (i := 0) (by omega)
  refine ⟨B, o, hA, fun k v hv => ?_⟩
  have hk : k < 4 := (List.getElem?_eq_some_iff.1 hv).1
  rw [t4_get _ _ hk] at hv
  rw [show o + j * 4 + k = o + (4 * j + k) by omega, hc _ (by omega), ← hv]
/-- .. and the one that it is made of. -/
structure Wt (w : World) (key : List UInt8) (n i : Nat) (X : Option Addr) (cX g : Nat) (L : List UInt8) (g2 : Nat) (M : List UInt8) (w2 : World) : Prop where
  s : Ws w key n i X cX g L w2
  t : Blk w2 g2 74 (bvs M)
theorem Wt.drew {w w2 : World} {key : List UInt8} {n i : Nat} {X : Option Addr} {cX g g2 : Nat} {L M : List UInt8} (h : Wt w key n i X cX g L g2 M w2) : Wt w key n i X cX g L g2 M w2.drew :=
  ⟨h.s.drew, h.t.keep (Kp.refl nob w2).drew (fun e => e)⟩
theorem Wt.sets {w w2 : World} {key : List UInt8} {n i : Nat} {X : Option Addr} {cX g g2 : Nat} {L M : List UInt8} (h : Wt w key n i X cX g L g2 M w2) (hg : g < g2) (k : Nat) (u : UInt8) : Wt w key n i X cX g (L.set k u) g2 M (w2.setCell ⟨g, k, none⟩ (.int .u8 (cb u))) :=
  ⟨h.s.set k u, h.t.far (by simp; omega) _⟩
theorem Wt.sett {w w2 : World} {key : List UInt8} {n i : Nat} {X : Option Addr} {cX g g2 : Nat} {L M : List UInt8} (h : Wt w key n i X cX g L g2 M w2) (hg : g < g2) (k : Nat) (u : UInt8) : Wt w key n i X cX g L g2 (M.set k u) (w2.setCell ⟨g2, k, none⟩ (.int .u8 (cb u))) :=
  ⟨h.s.keep (F := fun k => k = g2) ((Kp.refl (fun k => k = g2) w2).setCell (.inl rfl) _) (fun j e => by omega), by have := h.t.set_ k (.int .u8 (cb u)); rwa [bvs_setb] at this⟩
theorem four_ways (n i : Nat) : i % n = 0 ∨ (i % n ≠ 0 ∧ n = 8 ∧ i % 8 = 4) ∨ (i % n ≠ 0 ∧ n ≠ 8) ∨ (i % n ≠ 0 ∧ n = 8 ∧ i % 8 ≠ 4) := by
  by_cases h1 : i % n = 0
  · exact .inl h1
  · by_cases h2 : n = 8
    · by_cases h3 : i % 8 = 4
      · exact .inr (.inl ⟨h1, h2, h3⟩)
      · exact .inr (.inr (.inr ⟨h1, h2, h3⟩))
    · exact .inr (.inr (.inl ⟨h1, h2⟩))
theorem turned_a (n i : Nat) (P : Nat → UInt8) (h : i % n = 0) : t4 (turned n i P) = (t4 fun k => Field.box (P ((k + 1) % 4))).set 0 (Field.box (P 1) ^^^ rc (i / n - 1)) := by
  rw [t4_set _ _ _ (by omega)]
  refine t4_ext fun k hk => ?_
  rw [turned, if_pos h]
  by_cases h0 : k = 0
  · subst h0; rw [if_pos rfl, if_pos rfl]
  · rw [if_neg h0, if_neg h0, UInt8.xor_zero]
theorem turned_b (n i : Nat) (P : Nat → UInt8) (h : i % n ≠ 0) (h2 : n = 8 ∧ i % 8 = 4) : t4 (turned n i P) = t4 fun k => Field.box (P k) :=
  t4_ext fun k _ => by rw [turned, if_neg h, if_pos h2]
theorem turned_c (n i : Nat) (P : Nat → UInt8) (h : i % n ≠ 0) (h2 : ¬ (n = 8 ∧ i % 8 = 4)) : t4 (turned n i P) = [P 0, P 1, P 2, P 3] :=
  t4_ext (g := P) fun k _ => by rw [turned, if_neg h, if_neg h2]
theorem zero4 : bvs (t4 fun _ => 0) = [.int .u8 0, .int .u8 0, .int .u8 0, .int .u8 0] := rfl

set_option maxHeartbeats 1000000 in
set_option maxRecDepth 100000 in
theorem fWords (key : List UInt8) (n : Nat) (A : Option Addr) (cA : Nat) (w : World) (hk : key.length = 4 * n) (hr : Row w A (bvs key)) (hc : 4 * n ≤ cA) (hn : 1 ≤ n) (hn8 : n ≤ 8) :
    Calls Tryd.prog 21 #[.slice A (4 * n) cA] w fun e w' => (∃ X cX, e = .returned (.slice X (4 * (n + 7)) cX) ∧ Row w' X (bvs (allW key)) ∧ 4 * (n + 7) ≤ cX ∧ ∀ k, ab X = some k → w.heap.size ≤ k) ∧ Kp nob w w' := by
  have HK := Lib.hid hk; clear hk
  have HR := Lib.hid hr; clear hr
  go_enter Tryd.func21, Tryd.ntmps21
  go_wp2
  go_loopw [3, 5] (fun vo vi wr => ∃ (i : Nat) (X : Option Addr) (cX : Nat), i ≤ 4 * (n + 7) ∧ vo = .slice X i cX ∧ vi = .int .i64 i ∧ OwnK 4 74 wr X i cX (bvs (words key n i)) ∧ (∀ k, ab X = some k → w.heap.size ≤ k) ∧ Kp nob w wr)
    (fun _ vi _ => 4 * (n + 7) - (intOf vi).toNat)
  case atStart => exact ⟨0, none, 0, by omega, rfl, rfl, by rw [words_zero]; exact OwnK.nil _ _ _, fun k e => (by cases e), Kp.refl _ _⟩
  case round =>
    obtain ⟨i, X, cX, hi, rfl, rfl, hO, gX, hkp⟩ := hrel
    have HO := Lib.hid hO; clear hO
    by_cases hlt : i < 4 * (n + 7)
    · obtain ⟨g1, hg1⟩ : ∃ g, g = wr.heap.size := ⟨_, rfl⟩
      obtain ⟨T, hT⟩ : ∃ T, T = words key n i := ⟨_, rfl⟩
      obtain ⟨f, hf⟩ : ∃ f, f = nextB key n T i := ⟨_, rfl⟩
      have hw0 : Ws w key n i X cX g1 (p4 f (fun _ => 0) 0) (wr.alloc (.cells (bvs (t4 fun _ => 0)).toArray 74)) := by
        rw [p4_zero]
        exact ⟨HO.out.alloc _, Blk.new' hg1 rfl, hkp.alloc _, fun k e => by rw [hg1]; exact HO.out.lt k e, by rw [hg1]; exact hkp.size⟩
      have HSU := Lib.hid (show words key n (i + 1) = words key n i ++ t4 f by rw [words_succ, next_t4, hf, hT])
      have HW0 := Lib.hid hw0
      have HF := Lib.hid hf; have HT := Lib.hid hT
      obtain ⟨i0, hi0, hz0, hz1, hz2⟩ := info_parts w4_info
      have HI0 := Lib.hid hi0; have HZ0 := Lib.hid hz0; have HZ1 := Lib.hid hz1; have HZ2 := Lib.hid hz2
      clear hw0 hf hT hi0 hz0 hz1 hz2 HO
      by_cases hin : i < n
      · go_wp2
        rw [← hg1]
        clear hg1
        go_loopw [26] (fun vk w3 => ∃ k : Nat, k ≤ 4 ∧ vk = .int .i64 k ∧ Ws w key n i X cX g1 (p4 f (fun _ => 0) k) w3)
          (fun vk _ => 4 - (intOf vk).toNat)
        case atStart => exact ⟨0, by omega, rfl, HW0.out⟩
        case round =>
          obtain ⟨k, hk4, rfl, hw⟩ := hrel
          have HW := Lib.hid hw; clear hw HW0
          by_cases hlk : k < 4
          · have hq0 : 0 < key.length := by rw [HK.out]; omega
            have hrow := HR.out.keep0 HW.out.kp
            obtain ⟨B, o, hA, hcell⟩ := row_byte hrow hq0
            have hc2 := hcell (4 * i + k) (by rw [HK.out]; omega)
            have hx := HW.out.b.cell k
            rw [p4_get _ _ _ hlk] at hx
            have hfr := HW.out.b.frozen k
            have HFK := Lib.hid (show gb key (4 * i + k) = f k by rw [HF.out, nextB, if_pos hin])
            rw [HFK.out] at hc2
            clear hcell hrow
            subst hA
            go_wp2
            go_roundw
            case rel =>
              refine ⟨k + 1, by omega, by go_num, ?_⟩
              have := HW.out.set k (f k)
              rw [p4_set _ _ _ hlk] at this
              exact this
            case measure => simp [intOf]; omega
          · have HE := Lib.hid (show Ws w key n i X cX g1 (t4 f) wr by have := HW.out; rwa [show k = 4 by omega, p4_all] at this)
            clear HW
            go_wp2_with (first
              | (refine wpList_load_blk rfl 74 (.tmp 6) rfl g1 _ [.int .u8 (cb (f 0)), .int .u8 (cb (f 1)), .int .u8 (cb (f 2)), .int .u8 (cb (f 3))] HE.out.b rfl _ arr4 rfl (by kernel_rfl) ?_)
              | (at_builtin
                 refine wpList_appK _ rfl (.tmp 39) (.tmp 41) 54 rfl 4 (by decide) 74 i0 _ 4 w4s_under HI0.out HZ0.out HZ1.out HZ2.out rfl X i cX (bvs (words key n i)) rfl (HE.out.o.alloc _) ⟨wr.heap.size, 0, none⟩ 1 1 (bvs (t4 f)) rfl rfl (row_new wr (bvs (t4 f)) _) (bvs_one _) (by omega) (by omega) ?_
                 intro X2 cX2 w5 hown5 hg5 hab5))
            have HN := Lib.hid (words_more HE.out HSU.out hown5 hg5 hab5 gX)
            clear hown5 hg5 hab5
            go_wp2
            exact ⟨⟨i + 1, X2, cX2, by omega, rfl, by go_num, HN.out.1, HN.out.2.1, HN.out.2.2⟩, by simp [intOf]; omega⟩
      · have hil : (words key n i).length = 4 * i := words_length _ _ _
        obtain ⟨b, o, hX, hrg⟩ := row_four HW0.out.o.row (i - 1) (by rw [hil]; omega)
        obtain ⟨P, hP⟩ : ∃ P : Nat → UInt8, P = fun k => gb (words key n i) (4 * (i - 1) + k) := ⟨_, rfl⟩
        rw [← hP] at hrg
        have c0 : (wr.alloc (.cells #[.int .u8 0, .int .u8 0, .int .u8 0, .int .u8 0] 74)).cell? ⟨b, o + (i - 1) * 4, none⟩ = some (.int .u8 (cb (P 0))) := hrg 0 _ rfl
        have c1 : (wr.alloc (.cells #[.int .u8 0, .int .u8 0, .int .u8 0, .int .u8 0] 74)).cell? ⟨b, o + (i - 1) * 4 + 1, none⟩ = some (.int .u8 (cb (P 1))) := hrg 1 _ rfl
        have c2 : (wr.alloc (.cells #[.int .u8 0, .int .u8 0, .int .u8 0, .int .u8 0] 74)).cell? ⟨b, o + (i - 1) * 4 + 2, none⟩ = some (.int .u8 (cb (P 2))) := hrg 2 _ rfl
        have c3 : (wr.alloc (.cells #[.int .u8 0, .int .u8 0, .int .u8 0, .int .u8 0] 74)).cell? ⟨b, o + (i - 1) * 4 + 3, none⟩ = some (.int .u8 (cb (P 3))) := hrg 3 _ rfl
        have hw1 : ∀ (a0 a1 a2 a3 : UInt8), Wt w key n i X cX g1 (p4 f (fun _ => 0) 0) (g1 + 1) [a0, a1, a2, a3] ((wr.alloc (.cells #[.int .u8 0, .int .u8 0, .int .u8 0, .int .u8 0] 74)).alloc (.cells #[.int .u8 (cb a0), .int .u8 (cb a1), .int .u8 (cb a2), .int .u8 (cb a3)] 74)) :=
          fun a0 a1 a2 a3 => ⟨HW0.out.keep ((Kp.refl nob _).alloc _) (fun _ e => e.elim), Blk.new' (by rw [hg1]; simp) rfl⟩
        have HW1 := Lib.hid hw1
        have HP := Lib.hid hP
        clear hil hrg hP hw1
        have hn0 : ¬ (n : Int) = 0 := by omega
        obtain ⟨d, hd⟩ : ∃ d, d = i - n := ⟨_, rfl⟩
        have e2 : (i : Int) - (n : Int) = (d : Int) := by omega
        have hdl : d < i := by omega
        have HD := Lib.hid hd; clear hd
        rcases four_ways n i with hm | ⟨hm, h8, h4⟩ | ⟨hm, h8⟩ | ⟨hm, h8, h4⟩
        case' inl =>
          have d1 : ((i : Int) % (n : Int) == 0) = true := by rw [beq_iff_eq]; omega
          have HTU := Lib.hid (turned_a n i P hm)
          obtain ⟨q, hq⟩ : ∃ q, q = i / n := ⟨_, rfl⟩
          have e1 : (i : Int) / (n : Int) = (q : Int) := by rw [hq]; rfl
          have hq1 : 1 ≤ q := by rw [hq]; exact (Nat.one_le_div_iff (by omega)).2 (by omega)
          have hq2 : q ≤ 1000 := by rw [hq]; exact Nat.le_trans (Nat.div_le_self _ _) (by omega)
          rw [← hq] at HTU
          clear hq hm
          have HB0 := Lib.hid (show Wt w key n i X cX g1 (p4 f (fun _ => 0) 0) (g1 + 1) (p4 (fun k => Field.box (P ((k + 1) % 4))) (fun k => P ((k + 1) % 4)) 0) _ from by rw [p4_zero (fun k => Field.box (P ((k + 1) % 4)))]; exact HW1.out (P 1) (P 2) (P 3) (P 0))
          go_wp2
          rw [← hg1]
          clear hg1
          go_loopw [74] (fun vk w3 => ∃ k : Nat, k ≤ 4 ∧ vk = .int .i64 k ∧ Wt w key n i X cX g1 (p4 f (fun _ => 0) 0) (g1 + 1) (p4 (fun k => Field.box (P ((k + 1) % 4))) (fun k => P ((k + 1) % 4)) k) w3)
            (fun vk _ => 4 - (intOf vk).toNat)
          case' atStart => exact ⟨0, by omega, rfl, HB0.out⟩
          case' round =>
            obtain ⟨k, hk4, rfl, hw⟩ := hrel
            have HB := Lib.hid hw; clear hw HB0
            by_cases hlk : k < 4
            case' pos =>
              have hx := HB.out.t.cell k
              rw [p4_get _ _ _ hlk] at hx
              have hfr := HB.out.t.frozen k
              have HST := Lib.hid (p4_set (fun k => Field.box (P ((k + 1) % 4))) (fun k => P ((k + 1) % 4)) k hlk)
              go_wp2_with fail
              refine (fBox (P ((k + 1) % 4)) _).mono ?_
              rintro e w5 ⟨rfl, rfl⟩
              go_wp2
              go_roundw
              case rel =>
                refine ⟨k + 1, by omega, by go_num, ?_⟩
                have := HB.out.sett (by omega) k (Field.box (P ((k + 1) % 4)))
                rw [HST.out] at this
                exact this
              case measure => simp [intOf]; omega
            case' neg =>
              have HE := Lib.hid (show Wt w key n i X cX g1 (p4 f (fun _ => 0) 0) (g1 + 1) (t4 fun k => Field.box (P ((k + 1) % 4))) wr by have := HB.out; rwa [show k = 4 by omega, p4_all] at this)
              clear HB
              go_wp2
              go_loopw [10, 11] (fun vp vm w3 => ∃ m : Nat, m + 1 ≤ q ∧ vp = .int .u8 (cb (rc m)) ∧ vm = .int .i64 ((m : Int) + 1) ∧ wr = w3)
                (fun _ vm _ => q - (intOf vm).toNat)
              case' atStart => exact ⟨0, by omega, by rw [rc_zero]; rfl, rfl, rfl⟩
              case' round =>
                obtain ⟨m, hmq, rfl, rfl, rfl⟩ := hrel
                by_cases hlm : m + 1 < q
                case' pos =>
                  have HRC := Lib.hid (rc_succ m)
                  go_wp2_with fail
                  refine (fTimes (rc m) 2 _).mono ?_
                  rintro e w5 ⟨rfl, rfl⟩
                  rw [← HRC.out]
                  go_wp2
                  go_roundw
                  case rel => exact ⟨m + 1, by omega, rfl, by go_num, trivial⟩
                  case measure => simp [intOf]; omega
                case' neg =>
                  have hx : wr.cell? ⟨g1 + 1, 0, none⟩ = some (.int .u8 (cb (Field.box (P 1)))) := HE.out.t.cell 0
                  have hfr : wr.frozen? ⟨g1 + 1, 0, none⟩ = false := HE.out.t.frozen 0
                  have HQ := Lib.hid (show (t4 fun k => Field.box (P ((k + 1) % 4))).set 0 (Field.box (P 1) ^^^ rc m) = t4 (turned n i P) by rw [HTU.out, show m = q - 1 by omega])
                  have ht2 := HE.out.sett (by omega) 0 (Field.box (P 1) ^^^ rc m)
                  rw [HQ.out] at ht2
                  have HT2 := Lib.hid ht2
                  clear HE HQ ht2
                  go_wp2
        case' inr.inl =>
          have d1 : ((i : Int) % (n : Int) == 0) = false := by rw [beq_eq_false_iff_ne]; omega
          have d2 : ((n : Int) == 8) = true := by rw [beq_iff_eq]; omega
          have d3 : ((i : Int) % 8 == 4) = true := by rw [beq_iff_eq]; omega
          have d4 : ((i : Int) % 8 == 0) = false := by rw [beq_eq_false_iff_ne]; omega
          have HTU := Lib.hid (turned_b n i P hm ⟨h8, h4⟩)
          have HB0 := Lib.hid (show Wt w key n i X cX g1 (p4 f (fun _ => 0) 0) (g1 + 1) (p4 (fun k => Field.box (P k)) P 0) _ from by rw [p4_zero (fun k => Field.box (P k))]; exact HW1.out (P 0) (P 1) (P 2) (P 3))
          clear hm h8 h4
          go_wp2
          rw [← hg1]
          clear hg1
          go_loopw [74] (fun vk w3 => ∃ k : Nat, k ≤ 4 ∧ vk = .int .i64 k ∧ Wt w key n i X cX g1 (p4 f (fun _ => 0) 0) (g1 + 1) (p4 (fun k => Field.box (P k)) P k) w3)
            (fun vk _ => 4 - (intOf vk).toNat)
          case' atStart => exact ⟨0, by omega, rfl, HB0.out⟩
          case' round =>
            obtain ⟨k, hk4, rfl, hw⟩ := hrel
            have HB := Lib.hid hw; clear hw HB0
            by_cases hlk : k < 4
            case' pos =>
              have hx := HB.out.t.cell k
              rw [p4_get _ _ _ hlk] at hx
              have hfr := HB.out.t.frozen k
              have HST := Lib.hid (p4_set (fun k => Field.box (P k)) P k hlk)
              go_wp2_with fail
              refine (fBox (P k) _).mono ?_
              rintro e w5 ⟨rfl, rfl⟩
              go_wp2
              go_roundw
              case rel =>
                refine ⟨k + 1, by omega, by go_num, ?_⟩
                have := HB.out.sett (by omega) k (Field.box (P k))
                rw [HST.out] at this
                exact this
              case measure => simp [intOf]; omega
            case' neg =>
              have HT2 := Lib.hid (show Wt w key n i X cX g1 (p4 f (fun _ => 0) 0) (g1 + 1) (t4 (turned n i P)) wr by have := HB.out; rwa [show k = 4 by omega, p4_all, ← HTU.out] at this)
              clear HB
              go_wp2
        case' inr.inr.inl =>
          have d1 : ((i : Int) % (n : Int) == 0) = false := by rw [beq_eq_false_iff_ne]; omega
          have d2 : ((n : Int) == 8) = false := by rw [beq_eq_false_iff_ne]; omega
          have HT2 := Lib.hid (show Wt w key n i X cX g1 (p4 f (fun _ => 0) 0) (g1 + 1) (t4 (turned n i P)) _ from by rw [turned_c n i P hm (fun h => h8 h.1)]; exact HW1.out (P 0) (P 1) (P 2) (P 3))
          clear hm h8
          go_wp2
          rw [← hg1]
          clear hg1
        case' inr.inr.inr =>
          have d1 : ((i : Int) % (n : Int) == 0) = false := by rw [beq_eq_false_iff_ne]; omega
          have d2 : ((n : Int) == 8) = true := by rw [beq_iff_eq]; omega
          have d3 : ((i : Int) % 8 == 4) = false := by rw [beq_eq_false_iff_ne]; omega
          have hm8 : i % 8 ≠ 0 := by rw [← h8]; exact hm
          have d4 : ((i : Int) % 8 == 0) = false := by rw [beq_eq_false_iff_ne]; omega
          have HT2 := Lib.hid (show Wt w key n i X cX g1 (p4 f (fun _ => 0) 0) (g1 + 1) (t4 (turned n i P)) _ from by rw [turned_c n i P hm (fun h => h4 h.2)]; exact HW1.out (P 0) (P 1) (P 2) (P 3))
          clear hm h8 h4 hm8
          go_wp2
          rw [← hg1]
          clear hg1
        all_goals
          go_loopw [102] (fun vk w3 => ∃ k : Nat, k ≤ 4 ∧ vk = .int .i64 k ∧ Wt w key n i X cX g1 (p4 f (fun _ => 0) k) (g1 + 1) (t4 (turned n i P)) w3)
            (fun vk _ => 4 - (intOf vk).toNat)
        all_goals first
          | exact ⟨0, by omega, rfl, HT2.out⟩
          | skip
        all_goals
          obtain ⟨k2, hk24, rfl, hw⟩ := hrel
          have HC := Lib.hid hw
          clear hw HT2
          by_cases hlk2 : k2 < 4
          · have hq0 : 0 < (words key n i).length := by rw [words_length]; omega
            obtain ⟨B2, o2, hX2, hcell⟩ := row_byte HC.out.s.o.row hq0
            have hbo : B2 = b ∧ o2 = o := by rw [hX] at hX2; cases hX2; exact ⟨rfl, rfl⟩
            obtain ⟨rfl, rfl⟩ := hbo
            have hcc := hcell (4 * d + k2) (by rw [words_length]; omega)
            rw [show o2 + (4 * d + k2) = o2 + d * 4 + k2 by omega] at hcc
            have hx := HC.out.t.cell k2
            rw [t4_get _ _ hlk2] at hx
            have hy := HC.out.s.b.cell k2
            rw [p4_get _ _ _ hlk2] at hy
            have hfr := HC.out.s.b.frozen k2
            have HFK := Lib.hid (show f k2 = gb (words key n i) (4 * d + k2) ^^^ turned n i P k2 by rw [HF.out, nextB, if_neg hin, HT.out, HD.out, HP.out])
            have HPS := Lib.hid (p4_set f (fun _ => 0) k2 hlk2)
            clear hcell hX2 hq0
            go_wp2
            go_region
            go_wp2
            go_roundw
            case rel =>
              refine ⟨k2 + 1, by omega, by go_num, ?_⟩
              have := HC.out.drew.sets (by omega) k2 (f k2)
              rw [HPS.out, HFK.out] at this
              exact this
            case measure => simp [intOf]; omega
          · have HE := Lib.hid (show Ws w key n i X cX g1 (t4 f) wr by have := HC.out.s; rwa [show k2 = 4 by omega, p4_all] at this)
            clear HC
            go_wp2_with (first
              | (refine wpList_load_blk rfl 74 (.tmp 6) rfl g1 _ [.int .u8 (cb (f 0)), .int .u8 (cb (f 1)), .int .u8 (cb (f 2)), .int .u8 (cb (f 3))] HE.out.b rfl _ arr4 rfl (by kernel_rfl) ?_)
              | (at_builtin
                 refine wpList_appK _ rfl (.tmp 120) (.tmp 122) 54 rfl 4 (by decide) 74 i0 _ 4 w4s_under HI0.out HZ0.out HZ1.out HZ2.out rfl X i cX (bvs (words key n i)) (by rw [hX]; rfl) (HE.out.o.alloc _) ⟨wr.heap.size, 0, none⟩ 1 1 (bvs (t4 f)) rfl rfl (row_new wr (bvs (t4 f)) _) (bvs_one _) (by omega) (by omega) ?_
                 intro X2 cX2 w5 hown5 hg5 hab5))
            have HN := Lib.hid (words_more HE.out HSU.out hown5 hg5 hab5 gX)
            clear hown5 hg5 hab5
            go_wp2
            exact ⟨⟨i + 1, X2, cX2, by omega, rfl, by go_num, HN.out.1, HN.out.2.1, HN.out.2.2⟩, by simp [intOf]; omega⟩
    · have hie : i = 4 * (n + 7) := by omega
      have hfin : Row wr X (bvs (allW key)) := by
        have := HO.out.row
        rwa [hie, show n = key.length / 4 by rw [HK.out]; omega, ← allW_eq] at this
      have hcap := HO.out.cap
      have HFI := Lib.hid hfin; clear hfin HO
      go_wp2
      go_ret
      exact ⟨⟨X, cX, by rw [hie]; rfl, HFI.out, by omega, gX⟩, hkp⟩
end Go.Proofs.YtbainiblffcjgaaDoor.Aes
