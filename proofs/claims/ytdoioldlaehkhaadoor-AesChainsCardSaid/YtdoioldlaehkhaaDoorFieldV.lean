/- Contracts of the document's own field: what the box makes. -/
import Derived.Test.YtdoioldlaehkhaaDoorFieldR
namespace Go.Proofs.YtdoioldlaehkhaaDoor.Field
open Go Go.RowKit Kit

def KS : List Nat := [0, 4, 5, 6, 7]
/-- The sum of a bit, so far. -/
def part (c i : Nat) : Nat → Nat
  | 0 => 99 / 2 ^ i % 2
  | j + 1 => part c i j + c / 2 ^ ((i + KS.getD j 0) % 8) % 2
theorem part_zero (c i : Nat) : part c i 0 = 99 / 2 ^ i % 2 := rfl
theorem part_succ (c i j : Nat) : part c i (j + 1) = part c i j + c / 2 ^ ((i + KS.getD j 0) % 8) % 2 := rfl
theorem part_le (c i j : Nat) : part c i j ≤ j + 1 := by
  induction j with
  | zero => have := Nat.mod_lt (99 / 2 ^ i) (show 0 < 2 by decide); rw [part_zero]; omega
  | succ j ih => have := Nat.mod_lt (c / 2 ^ ((i + KS.getD j 0) % 8)) (show 0 < 2 by decide); rw [part_succ]; omega
theorem part_all (c i : Nat) : part c i 5 % 2 = bendBit c i := by rw [bendBit_eq]; rfl
theorem bendN_lt (c i : Nat) : bendN c i < 2 ^ i := by
  induction i with
  | zero => rw [bendN_zero]; exact Nat.one_pos
  | succ i ih =>
    have h1 := bendBit_lt c i
    have h2 : bendBit c i * 2 ^ i ≤ 1 * 2 ^ i := Nat.mul_le_mul_right _ (by omega)
    rw [bendN_succ, Nat.pow_succ]; omega
theorem KS_get (j : Nat) (h : j < 5) : (#[Value.int .i64 0, Value.int .i64 4, Value.int .i64 5, Value.int .i64 6, Value.int .i64 7] : Array Value)[j]? = some (.int .i64 ((KS.getD j 0 : Nat) : Int)) := by
  have : j = 0 ∨ j = 1 ∨ j = 2 ∨ j = 3 ∨ j = 4 := by omega
  rcases this with rfl | rfl | rfl | rfl | rfl <;> rfl
theorem KS_le (j : Nat) : KS.getD j 0 ≤ 7 := by
  by_cases h : j < 5
  · have : j = 0 ∨ j = 1 ∨ j = 2 ∨ j = 3 ∨ j = 4 := by omega
    rcases this with rfl | rfl | rfl | rfl | rfl <;> decide
  · have : KS.getD j 0 = 0 := by rw [List.getD_eq_getElem?_getD, List.getElem?_eq_none (by simp [KS]; omega)]; rfl
    omega
attribute [irreducible] part
theorem min_small (m : Nat) (h : m < 8) : min m 64 = m := by omega
theorem bit_two (C m q : Nat) (h : C / 2 ^ m % 2 = q) : q < 2 := by rw [← h]; exact Nat.mod_lt _ (by decide)
theorem sums_wrap (p q : Nat) (hp : p ≤ 6) (hq : q < 2) : wrap64 ((p : Int) + (q : Int)) = ((p + q : Nat) : Int) := by rw [wrap64_in ((p : Int) + (q : Int)) (by omega)]; omega
theorem bend_small (C i : Nat) (h : i ≤ 8) : bendN C i < 512 := Nat.lt_of_lt_of_le (bendN_lt C i) (Nat.le_trans (Nat.pow_le_pow_right (by decide) h) (by decide))
theorem shl_small (r i z : Nat) (hi : i < 8) (hr : r < 2) (hz : z = r * 2 ^ i) : z < 512 := by
  have h1 : 2 ^ i ≤ 2 ^ 7 := Nat.pow_le_pow_right (by decide) (by omega)
  have h2 : r * 2 ^ i ≤ 1 * 2 ^ 7 := Nat.mul_le_mul (by omega) h1
  omega
theorem shl_wrap (r i z : Nat) (hi : i < 8) (hr : r < 2) (hz : z = r * 2 ^ i) : wrap64 ((r : Int) * 2 ^ i) = (z : Int) := by
  have h := shl_small r i z hi hr hz
  have e : (r : Int) * 2 ^ i = (z : Int) := by rw [hz]; simp
  rw [e, small_wrap z (by omega)]
theorem adds_wrap (p q : Nat) (hp : p < 512) (hq : q < 512) : wrap64 ((p : Int) + (q : Int)) = ((p + q : Nat) : Int) := by rw [wrap64_in ((p : Int) + (q : Int)) (by omega)]; omega
theorem tmod_two (p r : Nat) (h : p % 2 = r) : (p : Int).tmod 2 = (r : Int) := by rw [Int.tmod_eq_emod_of_nonneg (by omega)]; omega
theorem arrK : Tryd.prog.underlying 61 = some (.array 5 3) := by kernel_rfl
theorem intK : Tryd.prog.underlying 3 = some (.int .i64) := by kernel_rfl

set_option maxHeartbeats 400000 in
set_option maxRecDepth 100000 in
theorem fBend (a : UInt8) (w : World) :
    Calls Tryd.prog 27 #[.int .u8 (cb a)] w fun e w' => e = .returned (.int .u8 (cb (bend a))) ∧ w = w' := by
  have hA := cb_wrap a
  have HB := Lib.hid (show bend a = UInt8.ofNat (bendN a.toNat 8) from rfl)
  generalize a.toNat = C at *
  go_enter Tryd.func27, Tryd.ntmps27
  go_wp2
  go_loopw [3, 4] (fun vx vi wr => ∃ i : Nat, i ≤ 8 ∧ vx = .int .i64 (bendN C i : Nat) ∧ vi = .int .i64 i ∧ w = wr)
    (fun _ vi _ => 8 - (intOf vi).toNat)
  case atStart => exact ⟨0, by omega, by rw [bendN_zero]; rfl, rfl, rfl⟩
  case round =>
    obtain ⟨i, hi, rfl, rfl, rfl⟩ := hrel
    by_cases hlt : i < 8
    · have hm : min i 64 = i := by omega
      have hi64 : IntKind.u64.wrap (i : Int) = (i : Int) := by rw [IntKind.wrap_u64]; omega
      have h99 : ((99 : Int) / 2 ^ i).tmod 2 = ((part C i 0 : Nat) : Int) := bit_tmod 99 i _ (part_zero C i).symm
      have HP := Lib.hid (part_all C i)
      go_wp2
      go_loopw [5, 17] (fun vs vj wr => ∃ j : Nat, j ≤ 5 ∧ vs = .int .i64 (part C i j : Nat) ∧ vj = .int .i64 j ∧ w = wr)
        (fun _ vj _ => 5 - (intOf vj).toNat)
      case atStart => exact ⟨0, by omega, rfl, rfl, rfl⟩
      case round =>
        obtain ⟨j, hj, rfl, rfl, rfl⟩ := hrel
        by_cases hlj : j < 5
        · have H1 := Lib.hid (part_succ C i j)
          have hP := part_le C i j
          have hix := fun wx => run_index_agg (P := Tryd.prog) wx 61 3 5 _ .i64 j _ .i64 arrK intK (by kernel_rfl) hlj (KS_get j hlj)
          have hk := KS_le j
          generalize KS.getD j 0 = k at *
          have hm8 : (i + k) % 8 < 8 := Nat.mod_lt _ (by decide)
          have e4 := min_small _ hm8
          obtain ⟨q, hq⟩ : ∃ q, C / 2 ^ ((i + k) % 8) % 2 = q := ⟨_, rfl⟩
          have e5 := bit_tmod C ((i + k) % 8) q hq
          have hq2 := bit_two C _ q hq
          obtain ⟨T, hT⟩ : ∃ T, T = part C i j + q := ⟨_, rfl⟩
          have H2 := Lib.hid (show part C i (j + 1) = T by rw [H1.out, hq, hT])
          have e6 := sums_wrap (part C i j) q (by omega) hq2
          rw [← hT] at e6
          clear hq hm8 hT hP hq2
          go_wp2
          go_roundw
          case rel => exact ⟨j + 1, by omega, by rw [H2.out, e6], by go_num, trivial⟩
          case measure => simp [intOf]; omega
        · obtain rfl : j = 5 := by omega
          have hb := bendBit_lt C i
          have hO := bend_small C i hi
          obtain ⟨r, hr⟩ : ∃ r, r = bendBit C i := ⟨_, rfl⟩
          have e1 : ((part C i 5 : Nat) : Int).tmod 2 = (r : Int) := tmod_two _ r (HP.out.trans hr.symm)
          have HS := Lib.hid (bendN_succ C i)
          rw [← hr] at hb HS
          clear hr
          obtain ⟨z, hz⟩ : ∃ z, z = r * 2 ^ i := ⟨_, rfl⟩
          have e2 := shl_wrap r i z hlt hb hz
          have hz2 := shl_small r i z hlt hb hz
          rw [← hz] at HS
          clear hz
          have e3 := adds_wrap (bendN C i) z hO hz2
          obtain ⟨T, hT⟩ : ∃ T, T = bendN C i + z := ⟨_, rfl⟩
          rw [← hT] at e3 HS
          clear hT hb hO hz2
          go_wp2
          go_roundw
          case rel => exact ⟨i + 1, by omega, by rw [HS.out, e3], by go_num, trivial⟩
          case measure => simp [intOf]; omega
    · obtain rfl : i = 8 := by omega
      have hw := u8_of _ (bendN_lt C 8)
      rw [← HB.out] at hw
      go_wp2
      go_ret
      exact ⟨rfl, rfl⟩
set_option maxHeartbeats 1000000 in
theorem fBox (a : UInt8) (w : World) :
    Calls Tryd.prog 22 #[.int .u8 (cb a)] w fun e w' => e = .returned (.int .u8 (cb (box a))) ∧ w = w' := by
  go_enter Tryd.func22, Tryd.ntmps22
  go_wp2_with fail
  refine (fPower a _).mono ?_
  rintro e w1 ⟨rfl, rfl⟩
  go_wp2_with fail
  refine (fBend (inv a) _).mono ?_
  rintro e w1 ⟨rfl, rfl⟩
  go_wp2
  go_ret
  exact ⟨rfl, rfl⟩
end Go.Proofs.YtdoioldlaehkhaaDoor.Field
