/- Contracts of the document's own field: products by long multiplication and division, inverses by trying, what the box makes. -/
import Derived.Test.YtdoioldlaehkhaaDoorRows
import Derived.Test.YtdoioldlaehkhaaDoorFieldT
import Derived.Test.YtdoioldlaehkhaaDoorBlk
import Derived.BigQuiet
import Derived.Deep.QuietTactic
import Derived.StillTailTactics
import Derived.RegionTactic
namespace Go.Proofs.YtdoioldlaehkhaaDoor.Field
open Go Go.RowKit Kit

theorem wrap64_in (n : Int) (h : -9223372036854775808 ≤ n ∧ n ≤ 9223372036854775807) : wrap64 n = n := by unfold wrap64; omega
theorem bits_xor_i64_nat (a b : Nat) (ha : a < 9223372036854775808) (hb : b < 9223372036854775808) :
    bits .xor .i64 (a : Int) (b : Int) = ((a ^^^ b : Nat) : Int) := by
  have hx : a ^^^ b < 2 ^ 63 := Nat.xor_lt_two_pow (by omega) (by omega)
  have h1 : (BitVec.ofInt 64 (a : Int)).toNat = a := by
    rw [BitVec.ofInt_natCast, BitVec.toNat_ofNat]; exact Nat.mod_eq_of_lt (by omega)
  have h2 : (BitVec.ofInt 64 (b : Int)).toNat = b := by
    rw [BitVec.ofInt_natCast, BitVec.toNat_ofNat]; exact Nat.mod_eq_of_lt (by omega)
  show IntKind.i64.wrap ((BitVec.ofInt 64 (a : Int) ^^^ BitVec.ofInt 64 (b : Int)).toNat : Int) = _
  rw [BitVec.toNat_xor, h1, h2]
  rw [IntKind.wrap_i64]
  omega

theorem xor_small (a b : Nat) (ha : a < 65536) (hb : b < 65536) : bits .xor .i64 (a : Int) (b : Int) = ((a ^^^ b : Nat) : Int) :=
  bits_xor_i64_nat a b (Nat.lt_of_lt_of_le ha (by decide)) (Nat.lt_of_lt_of_le hb (by decide))
theorem small_wrap (x : Nat) (h : x < 65536) : wrap64 (x : Int) = x := wrap64_in _ (by omega)

theorem up_lt (a b : Nat) (ha : a < 256) (i : Nat) : i ≤ 8 → up a b i < 2 ^ (8 + i) := by
  induction i with
  | zero => intro _; exact Nat.two_pow_pos _
  | succ i ih =>
    intro h
    have h1 := ih (by omega)
    have h2 : a * 2 ^ i < 2 ^ (8 + (i + 1)) := by
      rw [show 8 + (i + 1) = 9 + i by omega, Nat.pow_add]
      exact Nat.mul_lt_mul_of_pos_right (by omega) (Nat.two_pow_pos i)
    have h3 : up a b i < 2 ^ (8 + (i + 1)) := Nat.lt_trans h1 (Nat.pow_lt_pow_right (by omega) (by omega))
    rw [up]
    split
    · exact Nat.xor_lt_two_pow h3 h2
    · exact h3
theorem down_lt (x : Nat) (hx : x < 65536) (k : Nat) : k ≤ 8 → down x k < 65536 := by
  induction k with
  | zero => intro _; exact hx
  | succ k ih =>
    intro h
    have h1 := ih (by omega)
    rw [down]
    split
    · have h2 : 283 * 2 ^ (7 - k) < 2 ^ 16 := by
        have : 2 ^ (7 - k) ≤ 2 ^ 7 := Nat.pow_le_pow_right (by omega) (by omega)
        omega
      exact Nat.xor_lt_two_pow (n := 16) h1 h2
    · exact h1
theorem up_zero (a b : Nat) : up a b 0 = 0 := rfl
theorem up_one (a b i : Nat) (h : b / 2 ^ i % 2 = 1) : up a b (i + 1) = up a b i ^^^ (a * 2 ^ i) := by rw [up, if_pos h]
theorem up_none (a b i : Nat) (h : b / 2 ^ i % 2 = 0) : up a b (i + 1) = up a b i := by rw [up, if_neg (by omega)]
theorem down_zero (x : Nat) : down x 0 = x := rfl
theorem down_one (x i : Nat) (h : down x i / 2 ^ (15 - i) % 2 = 1) : down x (i + 1) = down x i ^^^ (283 * 2 ^ (7 - i)) := by rw [down, if_pos h]
theorem down_none (x i : Nat) (h : down x i / 2 ^ (15 - i) % 2 = 0) : down x (i + 1) = down x i := by rw [down, if_neg (by omega)]
theorem bit_tmod (b i q : Nat) (h : b / 2 ^ i % 2 = q) : ((b : Int) / 2 ^ i).tmod 2 = (q : Int) := by
  have e : (b : Int) / 2 ^ i = ((b / 2 ^ i : Nat) : Int) := by simp
  rw [e]; clear e
  generalize b / 2 ^ i = m at *
  rw [Int.tmod_eq_emod_of_nonneg (by omega)]; omega
theorem cb_wrap (a : UInt8) : wrap64 (cb a) = (a.toNat : Int) := by have := a.toNat_lt; exact wrap64_in _ (by unfold cb; omega)

set_option maxHeartbeats 1000000 in
theorem fTimes (a b : UInt8) (w : World) :
    Calls Tryd.prog 23 #[.int .u8 (cb a), .int .u8 (cb b)] w fun e w' => e = .returned (.int .u8 (cb (tm a b))) ∧ w = w' := by
  have hA := cb_wrap a
  have hB := cb_wrap b
  have HT := Lib.hid (long_tm a b)
  have lA := a.toNat_lt
  have hul := up_lt a.toNat b.toNat lA
  generalize a.toNat = X at *
  generalize b.toNat = Y at *
  go_enter Tryd.func23, Tryd.ntmps23
  go_wp2
  go_loopw [5, 6] (fun vx vi wr => ∃ i : Nat, i ≤ 8 ∧ vx = .int .i64 (up X Y i : Nat) ∧ vi = .int .i64 i ∧ w = wr)
    (fun _ vi _ => 8 - (intOf vi).toNat)
  case atStart => exact ⟨0, by omega, rfl, rfl, rfl⟩
  case round =>
    obtain ⟨i, hi, rfl, rfl, rfl⟩ := hrel
    by_cases hlt : i < 8
    · have hm : min i 64 = i := by omega
      have hi64 : IntKind.u64.wrap (i : Int) = (i : Int) := by rw [IntKind.wrap_u64]; omega
      have hU : up X Y i < 65536 := Nat.lt_of_lt_of_le (hul i hi) (Nat.pow_le_pow_right (by omega) (show 8 + i ≤ 16 by omega))
      have hS : X * 2 ^ i < 65536 := by
        have h1 : 2 ^ i ≤ 2 ^ 7 := Nat.pow_le_pow_right (by omega) (by omega)
        have h2 : X * 2 ^ i ≤ 255 * 2 ^ 7 := Nat.mul_le_mul (by omega) h1
        omega
      rcases Nat.mod_two_eq_zero_or_one (Y / 2 ^ i) with hq | hq
      · have ht := bit_tmod Y i 0 hq
        have H1 := Lib.hid (up_none X Y i hq)
        clear hq
        go_wp2
        go_roundw
        case rel => exact ⟨i + 1, by omega, by rw [H1.out], by go_num, trivial⟩
        case measure => simp [intOf]; omega
      · have ht := bit_tmod Y i 1 hq
        have H1 := Lib.hid (up_one X Y i hq)
        clear hq
        obtain ⟨Z, hZ⟩ : ∃ Z, Z = X * 2 ^ i := ⟨_, rfl⟩
        have hs : wrap64 ((X : Int) * 2 ^ i) = (Z : Int) := by
          have e : (X : Int) * 2 ^ i = ((X * 2 ^ i : Nat) : Int) := by simp
          rw [e, small_wrap _ hS, hZ]
        rw [← hZ] at hS H1
        clear hZ
        have hx := xor_small (up X Y i) Z hU hS
        go_wp2
        go_roundw
        case rel => exact ⟨i + 1, by omega, by rw [H1.out], by go_num, trivial⟩
        case measure => simp [intOf]; omega
    · obtain rfl : i = 8 := by omega
      obtain ⟨U, hU⟩ : ∃ U, U = up X Y 8 := ⟨_, rfl⟩
      have hUl := hul 8 (by omega)
      have hdl := down_lt (up X Y 8) hUl
      have HL := Lib.hid (show down (up X Y 8) 8 = (tm a b).toNat by rw [← HT.out, long])
      rw [← hU] at hUl hdl HL ⊢
      clear hU
      go_wp2
      go_loopw [5, 7] (fun vx vi wr => ∃ (i : Nat) (j : Int), i ≤ 8 ∧ j = 15 - (i : Int) ∧ vx = .int .i64 (down U i : Nat) ∧ vi = .int .i64 j ∧ w = wr)
        (fun _ vi _ => (intOf vi + 1 - 8).toNat)
      case atStart => exact ⟨0, 15, by omega, by omega, rfl, rfl, rfl⟩
      case round =>
        obtain ⟨i, j, hi, hj, rfl, rfl, rfl⟩ := hrel
        by_cases hlt : i < 8
        · have hj2 : IntKind.u64.wrap j = ((15 - i : Nat) : Int) := by rw [IntKind.wrap_u64]; omega
          have hm : min (15 - i) 64 = 15 - i := by omega
          have d1 : decide (8 ≤ j) = true := by simp; omega
          have hD := hdl i hi
          rcases Nat.mod_two_eq_zero_or_one (down U i / 2 ^ (15 - i)) with hq | hq
          · have ht := bit_tmod (down U i) (15 - i) 0 hq
            have H1 := Lib.hid (down_none U i hq)
            clear hq
            go_wp2
            go_roundw
            case rel => exact ⟨i + 1, j - 1, by omega, by omega, by rw [H1.out], by go_num, trivial⟩
            case measure => simp [intOf]; omega
          · have ht := bit_tmod (down U i) (15 - i) 1 hq
            have H1 := Lib.hid (down_one U i hq)
            clear hq
            have hj3 : IntKind.u64.wrap (wrap64 (j - 8)) = ((7 - i : Nat) : Int) := by rw [wrap64_in _ (by omega), IntKind.wrap_u64]; omega
            have hm3 : min (7 - i) 64 = 7 - i := by omega
            obtain ⟨Z, hZ⟩ : ∃ Z, Z = 283 * 2 ^ (7 - i) := ⟨_, rfl⟩
            have hS : Z < 65536 := by
              have : 2 ^ (7 - i) ≤ 2 ^ 7 := Nat.pow_le_pow_right (by omega) (by omega)
              omega
            have hs : wrap64 ((283 : Int) * 2 ^ (7 - i)) = (Z : Int) := by
              have e : (283 : Int) * 2 ^ (7 - i) = ((283 * 2 ^ (7 - i) : Nat) : Int) := by simp
              rw [e, ← hZ, small_wrap _ hS]
            have hs' : wrap64 ((283 : Int) * 2 ^ (15 - i - 8)) = (Z : Int) := by rw [show 15 - i - 8 = 7 - i by omega]; exact hs
            rw [← hZ] at H1
            clear hZ
            have hx := xor_small (down U i) Z hD hS
            go_wp2
            go_roundw
            case rel => exact ⟨i + 1, j - 1, by omega, by omega, by rw [H1.out], by go_num, trivial⟩
            case measure => simp [intOf]; omega
        · obtain rfl : i = 8 := by omega
          obtain rfl : j = 7 := by omega
          have hw : IntKind.u8.wrap ((down U 8 : Nat) : Int) = cb (tm a b) := by rw [HL.out, IntKind.wrap_u8]; have := cb_range (tm a b); unfold cb at *; omega
          go_wp2
          go_ret
          exact ⟨rfl, rfl⟩

theorem u8_of (j : Nat) (_ : j < 256) : IntKind.u8.wrap (j : Int) = cb (UInt8.ofNat j) := wrap_u8 j
set_option maxHeartbeats 1000000 in
theorem fPower (a : UInt8) (w : World) :
    Calls Tryd.prog 28 #[.int .u8 (cb a)] w fun e w' => e = .returned (.int .u8 (cb (inv a))) ∧ w = w' := by
  have HP := Lib.hid (power_inv a)
  go_enter Tryd.func28, Tryd.ntmps28
  go_wp2
  go_loopw [3, 4, 5] (fun va vs vi wr => ∃ i : Nat, i ≤ 7 ∧ vs = .int .u8 (cb (power a i).2) ∧ va = .int .u8 (cb (power a i).1) ∧ vi = .int .i64 i ∧ w = wr)
    (fun _ _ vi _ => 7 - (intOf vi).toNat)
  case atStart => exact ⟨0, by omega, rfl, rfl, rfl, rfl⟩
  case round =>
    obtain ⟨i, hi, rfl, rfl, rfl, rfl⟩ := hrel
    by_cases hlt : i < 7
    · have H1 := Lib.hid (power_fst a i)
      have H2 := Lib.hid (power_snd a i)
      go_wp2_with fail
      refine (fTimes (power a i).1 (power a i).1 _).mono ?_
      rintro e w1 ⟨rfl, rfl⟩
      go_wp2_with fail
      refine (fTimes (power a i).2 (tm (power a i).1 (power a i).1) _).mono ?_
      rintro e w2 ⟨rfl, rfl⟩
      go_wp2
      go_roundw
      case rel => exact ⟨i + 1, by omega, by rw [H2.out, H1.out], by rw [H1.out], by go_num, trivial⟩
      case measure => simp [intOf]; omega
    · obtain rfl : i = 7 := by omega
      go_wp2
      go_ret
      rw [← HP.out]
      exact ⟨rfl, rfl⟩
end Go.Proofs.YtdoioldlaehkhaaDoor.Field
