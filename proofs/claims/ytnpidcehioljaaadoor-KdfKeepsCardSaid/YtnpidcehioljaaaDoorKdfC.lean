/- Contracts of the document's own answers: what is expanded, what is derived. -/
import Derived.Test.YtnpidcehioljaaaDoorKdfB
namespace Go.Proofs.YtnpidcehioljaaaDoor.Kdf
open Go Go.RowKit Kit
open Sha (Tabs Far Has Pc PcsOk catP u8s_under arr32b u8s_info row_marked u8_string conv_row)
open Hmac (mac mac_length ik ik_length MacIs)

@[go_sem] theorem str_cat (l m : List UInt8) : str l ++ str m = str (l ++ m) := by
  apply ByteArray.ext
  simp [str]
theorem str_take (l : List UInt8) (n : Nat) : (str l).extract 0 n = str (l.take n) := by
  apply ByteArray.ext
  simp [str]
theorem str_nil : (⟨#[]⟩ : ByteArray) = str [] := rfl

set_option maxHeartbeats 1000000 in
theorem fexpand_neg (s : ByteArray) (N : Int) (t : ByteArray) (w : World) (h : N < 0) :
    Calls Tryd.prog 10 #[.string s, .int .i64 N, .string t] w fun e w' => e = .returned (.tuple #[.string (str []), .int .i64 1]) ∧ w = w' := by
  have d1 : decide (N < 0) = true := by simp; omega
  go_enter Tryd.func10, Tryd.ntmps10
  go_wp2
  go_ret2
  exact ⟨rfl, rfl⟩
set_option maxHeartbeats 1000000 in
theorem fexpand_long (s : ByteArray) (N : Int) (t : ByteArray) (w : World) (h : 8160 < N) :
    Calls Tryd.prog 10 #[.string s, .int .i64 N, .string t] w fun e w' => e = .returned (.tuple #[.string (str []), .int .i64 3]) ∧ w = w' := by
  have d1 : decide (N < 0) = false := by simp; omega
  have d2 : decide (8160 < N) = true := by simp; omega
  go_enter Tryd.func10, Tryd.ntmps10
  go_wp2
  go_ret2
  exact ⟨rfl, rfl⟩

set_option maxHeartbeats 2000000 in
set_option maxRecDepth 100000 in
theorem fexpand_yes (k P : List UInt8) (N : Nat) (w : World) (hN : N ≤ 8160) (hk : k.length ≤ 1099511627776) (hl : P.length ≤ 1099510000000) :
    Calls Tryd.prog 10 #[.string (str k), .int .i64 (N : Int), .string (str P)] w fun e w' => e = .returned (.tuple #[.string (str (expand k P N)), .int .i64 0]) ∧ Kp nob w w' := by
  have d1 : decide ((N : Int) < 0) = false := by simp
  have d2 : decide (8160 < (N : Int)) = false := by simp; omega
  go_enter Tryd.func10, Tryd.ntmps10
  go_wp2
  go_loopw [8, 9, 10] (fun vo vl vi wr => ∃ i : Nat, i ≤ 255 ∧ vo = .string (str (okm k P i)) ∧ vl = .string (str (T k P i)) ∧ vi = .int .i64 i ∧ Kp nob w wr)
    (fun _ _ vi _ => 300 - (intOf vi).toNat)
  case atStart => exact ⟨0, by omega, by rw [okm_zero]; rfl, by rw [T_zero]; rfl, rfl, Kp.refl _ _⟩
  case round =>
    obtain ⟨i, hi255, rfl, rfl, rfl, hkp⟩ := hrel
    have hol := okm_length k P i
    have HON := Lib.hid (okm_succ k P i)
    have HST := Lib.hid (T_succ k P i)
    have HTN := Lib.hid (T_length k P i)
    have hTl : (T k P i).length ≤ 32 := by
      cases i with
      | zero => rw [T_zero]; simp
      | succ i => rw [T_length]; omega
    obtain ⟨O, hO⟩ : ∃ O, O = okm k P i := ⟨_, rfl⟩
    obtain ⟨Y, hY⟩ : ∃ Y, Y = T k P i := ⟨_, rfl⟩
    obtain ⟨D, hD⟩ : ∃ D, D = T k P (i + 1) := ⟨_, rfl⟩
    rw [← hY] at HST hTl ⊢
    rw [← hO] at hol HON ⊢
    rw [← hD] at HTN HON HST
    have HD := Lib.hid hD; have HO := Lib.hid hO
    clear hO hY hD
    by_cases hlt : 32 * i < N
    · have c1 : Y.length + P.length ≤ 9223372036854775807 := by omega
      have c2 : Y.length + (P.length + 1) ≤ 9223372036854775807 := by omega
      have c3 : O.length + D.length ≤ 9223372036854775807 := by rw [hol, HTN.out]; omega
      obtain ⟨x, hx⟩ : ∃ x, x = UInt8.ofNat (i + 1) := ⟨_, rfl⟩
      rw [← hx] at HST
      have rb : Row (wr.alloc (.cells #[.int .u8 ((i : Int) + 1)] 5)) (some ⟨wr.heap.size, 0, none⟩) (bvs [x]) := by
        have := row_one wr (.int .u8 ((i : Int) + 1)) 5
        rwa [show bvs [x] = [.int .u8 ((i : Int) + 1)] by
          rw [hx, bvs, List.map_cons, List.map_nil, bv_ofNat, show (((i + 1 : Nat) : Int) % 256) = (i : Int) + 1 by omega]]
      have HRB := Lib.hid rb; have HKL := Lib.hid hk
      clear rb hx
      go_wp2_with (first
        | (refine wpList_bytes_str rfl 22 9 5 (.tmp 28) rfl u8s_under (by kernel_rfl) u8_string _ 1 1 [x] rfl HRB.out rfl ?_))
      refine (Hmac.fMac (str k) (str (Y ++ (P ++ [x]))) _ (by rw [str_size]; exact hk) (by rw [str_size]; simp; omega)).mono ?_
      rintro e w2 ⟨rfl, k2⟩
      rw [sl_str, sl_str, show mac k (Y ++ (P ++ [x])) = D by rw [HST.out, List.append_assoc]]
      have K2 : Kp nob w w2 := (hkp.alloc _).trans k2 (fun _ e => e.elim)
      clear k2 HRB
      go_wp2_with (first
        | (refine wpList_store_new rfl 34 (.tmp 11) (.tmp 31) rfl _ (bvs D) rfl rfl (by rw [bvs_length, HTN.out]; rfl) (by rw [bvs_length, HTN.out]; kernel_rfl) (bvs_one _) ?_
           intro w3 hB3 k3 z3
           have HB3 := Lib.hid hB3
           have K3 : Kp nob w w3 := K2.trans k3 (fun _ e => e.elim)
           clear hB3 k3)
        | (refine wpList_bytes_str rfl 22 9 5 (.tmp 32) rfl u8s_under (by kernel_rfl) u8_string _ 32 32 D HTN.out HB3.out.row rfl ?_))
      refine ⟨?rel, ?meas⟩
      case rel => exact ⟨i + 1, by omega, by rw [HON.out], by rw [← HD.out], by simp, K3⟩
      case meas => simp [intOf]; omega
    · have hsx : ∀ wx, (Instr.slice 9 (.string (str O)) none (some (.int .i64 (N : Int))) none).run Tryd.prog wx = .ok (.string (str (O.take N))) wx := fun wx => by
        rw [run_slice_string_h wx 9 (str O) u8_string .i64 N (by omega) (by rw [str_size]; omega)]
        simp [str_take]
      go_wp2
      go_ret2
      exact ⟨by rw [← expand_of k P i N (by omega), ← HO.out]; rfl, hkp⟩
theorem fexpand_any (k P : List UInt8) (N : Int) (w : World) (hk : k.length ≤ 1099511627776) (hl : P.length ≤ 1099510000000) :
    Calls Tryd.prog 10 #[.string (str k), .int .i64 N, .string (str P)] w fun e w' => e = .returned (.tuple #[.string (str (out k P N)), .int .i64 (err N)]) ∧ Kp nob w w' := by
  by_cases h1 : N < 0
  · refine (fexpand_neg _ N _ w h1).mono ?_
    rintro e w' ⟨rfl, rfl⟩
    exact ⟨by rw [err_neg h1, out_neg _ _ h1], Kp.refl _ _⟩
  · by_cases h2 : 8160 < N
    · refine (fexpand_long _ N _ w h2).mono ?_
      rintro e w' ⟨rfl, rfl⟩
      exact ⟨by rw [err_long h2, out_long _ _ h2], Kp.refl _ _⟩
    · obtain ⟨x, rfl⟩ : ∃ x : Nat, N = x := ⟨N.toNat, by omega⟩
      refine (fexpand_yes k P x w (by omega) hk hl).mono ?_
      rintro e w' ⟨rfl, K⟩
      exact ⟨by rw [err_ok x (by omega), out_ok _ _ x (by omega)], K⟩
end Go.Proofs.YtnpidcehioljaaaDoor.Kdf
