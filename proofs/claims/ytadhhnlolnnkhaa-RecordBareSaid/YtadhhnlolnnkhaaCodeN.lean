/- Contracts of the document's own numbers and texts (layer 1). -/
import Derived.Test.YtadhhnlolnnkhaaCodeN0
import Derived.Deep.Slices
import Derived.Deep.Fields
import Derived.ChangeSame
namespace Go.Proofs.Ytadhhnlolnnkhaa
set_option linter.unusedVariables false
set_option linter.unusedSimpArgs false
open Go Go.RowKit Kit

theorem str_append (l m : List UInt8) : str l ++ str m = str (l ++ m) := by
  apply ByteArray.ext; simp [str]
theorem conv_one (w : World) (v : Value) (b : UInt8) (t : TypeId) (hv : v = bv b) : (convert 27 9 (.slice (some ⟨w.heap.size, 0, none⟩) 1 1)).run Try.prog (w.alloc (.cells #[v] t)) = .ok (.string (str [b])) (w.alloc (.cells #[v] t)) :=
  conv_row _ _ 1 1 [b] rfl (by subst hv; exact row_one w (bv b) t)

theorem u64_quo (y : Int) (c : Nat) (h0 : 0 ≤ y) (h1 : y < 18446744073709551616) : IntKind.u64.wrap (y.tdiv c) = y / c := by
  obtain ⟨n, rfl⟩ := Int.eq_ofNat_of_zero_le h0
  rw [IntKind.wrap_u64, ← Int.ofNat_tdiv]
  have : n / c ≤ n := Nat.div_le_self _ _
  have e : ((n : Int) / (c : Int)) = ((n / c : Nat) : Int) := by simp
  rw [e]
  generalize n / c = q at *
  omega

set_option maxHeartbeats 1000000 in
set_option maxRecDepth 100000 in
theorem fNum (n : Int) (w : World) : Calls Try.prog 25 #[.int .i64 n] w fun e w' => e = .returned (.string (str (num8 n))) ∧ Kp nob w w' := by
  obtain ⟨x, hx⟩ : ∃ x : Nat, (x : Int) = n % 18446744073709551616 := ⟨(n % 18446744073709551616).toNat, by omega⟩
  have hx1 : x < 18446744073709551616 := by omega
  have hnum : num8 n = le 8 x := by unfold num8; rw [← hx]; rfl
  rw [hnum]
  have HX := Lib.hid hnum; clear hnum
  have hx2 : IntKind.u64.wrap n = (x : Int) := by rw [IntKind.wrap_u64, hx]
  have HX1 := Lib.hid hx; clear hx
  go_enter Try.func25, Try.ntmps25
  go_wp2
  go_loopw [3, 4, 5] (fun y s i wr => ∃ k : Nat, k ≤ 8 ∧ i = .int .i64 k ∧ y = .int .u64 ((x : Int) / 256 ^ k) ∧ s = .string (str (le k x)) ∧ Kp nob w wr)
    (fun _ _ i _ => 8 - (intOf i).toNat)
  case atStart => exact ⟨0, by omega, rfl, by simp, rfl, Kp.refl _ _⟩
  case round =>
    obtain ⟨k, hk, rfl, rfl, rfl, kr⟩ := hrel
    by_cases hlt : k < 8
    · have h0 : (0 : Int) ≤ (x : Int) / 256 ^ k := Int.ediv_nonneg (by omega) (Int.pow_nonneg (by omega))
      have hcv := conv_one wr (.int .u8 ((x : Int) / 256 ^ k % 256)) (UInt8.ofNat (x / 256 ^ k)) 5 (by rw [bv_ofNat]; simp)
      go_wp2
      go_roundw
      case rel =>
        refine ⟨k + 1, by omega, by go_num, ?_, ?_, kr.alloc _⟩
        · have hle : (x : Int) / 256 ^ k ≤ x := Int.ediv_le_self _ (by omega)
          have := u64_quo ((x : Int) / 256 ^ k) 256 h0 (by omega)
          rw [show ((256 : Nat) : Int) = 256 from rfl] at this
          have h2 := congrArg (fun q : Nat => (q : Int)) (Nat.div_div_eq_div_mul x (256 ^ k) 256)
          simp only [Int.natCast_ediv, Int.natCast_mul, Int.natCast_pow] at h2
          rw [this, Int.pow_succ]
          exact congrArg _ h2
        · rw [le_snoc, ← str_append]
      case measure => simp [intOf]; omega
    · go_wp2
      go_ret
      obtain rfl : k = 8 := by omega
      exact ⟨rfl, kr⟩

theorem conv_three (w : World) (v0 v1 v2 : Value) (b0 b1 b2 : UInt8) (t : TypeId) (h0 : v0 = bv b0) (h1 : v1 = bv b1) (h2 : v2 = bv b2) :
    (convert 27 9 (.slice (some ⟨w.heap.size, 0, none⟩) 3 3)).run Try.prog (w.alloc (.cells #[v0, v1, v2] t)) = .ok (.string (str [b0, b1, b2])) (w.alloc (.cells #[v0, v1, v2] t)) :=
  conv_row _ _ 3 3 [b0, b1, b2] rfl (by subst h0; subst h1; subst h2; exact row_new w [bv b0, bv b1, bv b2] t)
set_option maxHeartbeats 1000000 in
set_option maxRecDepth 100000 in
theorem fText (s : ByteArray) (w : World) (hs : s.size ≤ maxLen) : Calls Try.prog 26 #[.string s] w fun e w' => e = .returned (.string (str (textB s))) ∧ Kp nob w w' := by
  unfold maxLen at hs
  by_cases hbig : s.size < 16777216
  · have htx : textB s = le 3 s.size ++ sl s := if_pos hbig
    have hbd : decide ((16777216 : Int) ≤ (s.size : Int)) = false := by simp; omega
    have hs2 : 3 + s.size ≤ 9223372036854775807 := by omega
    have HT := Lib.hid htx; have HG := Lib.hid hbig; clear htx hbig
    have hcv := conv_three w (.int .u8 ((s.size : Int) % 256)) (.int .u8 ((s.size : Int) / 256 % 256)) (.int .u8 ((s.size : Int) / 65536 % 256)) (UInt8.ofNat s.size) (UInt8.ofNat (s.size / 256)) (UInt8.ofNat (s.size / 65536)) 5 (by rw [bv_ofNat]) (by rw [bv_ofNat]; simp) (by rw [bv_ofNat]; simp)
    go_enter Try.func26, Try.ntmps26
    go_wp2
    go_ret
    have e : le 3 s.size = [UInt8.ofNat s.size, UInt8.ofNat (s.size / 256), UInt8.ofNat (s.size / 65536)] := by simp [le, Nat.div_div_eq_div_mul]
    rw [HT.out, e, ← str_append, str_sl]
    exact ⟨rfl, (Kp.refl _ _).alloc _⟩
  · have htx : textB s = [] := if_neg hbig
    have hbd : decide ((16777216 : Int) ≤ (s.size : Int)) = true := by simp; omega
    have HT := Lib.hid htx; have HG := Lib.hid hbig; clear htx hbig
    go_enter Try.func26, Try.ntmps26
    go_wp2
    go_ret
    rw [HT.out]
    exact ⟨rfl, Kp.refl _ _⟩
end Go.Proofs.Ytadhhnlolnnkhaa
