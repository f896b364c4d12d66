/- Contracts of package kdf: what is expanded. -/
import Derived.Test.YtnpidcehioljaaaDoorKdfA
namespace Go.Proofs.YtnpidcehioljaaaDoor.Kdf
open Go Go.RowKit Kit
open Sha (Tabs Far Has Pc PcsOk catP u8s_under arr32b u8s_info row_marked)
open Hmac (mac mac_length ik ik_length MacIs)

theorem make_cap (n : Nat) (hn : n ≤ 8160) (w : World) : (Instr.makeSlice 22 (.int .i64 0) (.int .i64 (n : Int))).run Tryd.prog w = .ok (.slice (some ⟨w.heap.size, 0, none⟩) 0 n) (w.alloc (.cells (madeCells #[.int .u8 0] n) 5)) := by
  obtain ⟨i0, hi, hz0, hz1, hz2⟩ := info_parts u8s_info
  have hr := run_make (P := Tryd.prog) w 22 5 i0 (.int .u8 0) u8s_under hi hz0 .i64 .i64 0 n (by omega) (by omega) (by rw [hz2]; omega) (by omega)
  simpa [hz1, Value.cells] using hr
theorem cut32 (g q : Nat) (h : Int) (hh : h = q) (hq : q ≤ 32) (w : World) : (Instr.sliceAt 34 (.pointer (some ⟨g, 0, none⟩)) none (some (.int .i64 h)) none).run Tryd.prog w = .ok (.slice (some ⟨g, 0, none⟩) q 32) w := by
  have ha : Tryd.prog.underlying 34 = some (.array (Tryd.prog.arrayLen 34) (Tryd.prog.elem 34)) := by kernel_rfl
  have hl : Tryd.prog.arrayLen 34 = 32 := by kernel_rfl
  have he : Tryd.prog.elem 34 = 5 := by kernel_rfl
  have hz : (sizeOf 5).run Tryd.prog w = .ok 1 w := by kernel_rfl
  subst hh
  rw [run_sliceAt_array_h w _ _ ha _ _ (by omega) (by rw [hl]; omega), hl, he, hz]
  simp [Result.andThen, slicedAt, Addr.add]
theorem row_take {w : World} {A : Option Addr} {l : List UInt8} (h : Row w A (bvs l)) (k : Nat) : Row w A (bvs (l.take k)) := by
  have := h.take k
  rwa [bvs, ← List.map_take, ← bvs] at this
/-- The length of a slice. -/
def lenV : Value → Nat
  | .slice _ n _ => n
  | _ => 0

set_option maxHeartbeats 1000000 in
theorem expand_neg (A : Option Addr) (n c : Nat) (N : Int) (V : Value) (w : World) (h : N < 0) :
    Calls Tryd.prog 9 #[.slice A n c, .int .i64 N, V] w fun e w' => e = .returned (.tuple #[.slice none 0 0, .int .i64 1]) ∧ w = w' := by
  have d1 : decide (N < 0) = true := by simp; omega
  go_enter Tryd.func9, Tryd.ntmps9
  go_wp2
  go_ret2
  exact ⟨rfl, rfl⟩
set_option maxHeartbeats 1000000 in
theorem expand_long (A : Option Addr) (n c : Nat) (N : Int) (V : Value) (w : World) (h : 8160 < N) :
    Calls Tryd.prog 9 #[.slice A n c, .int .i64 N, V] w fun e w' => e = .returned (.tuple #[.slice none 0 0, .int .i64 3]) ∧ w = w' := by
  have d1 : decide (N < 0) = false := by simp; omega
  have d2 : decide (8160 < N) = true := by simp; omega
  go_enter Tryd.func9, Tryd.ntmps9
  go_wp2
  go_ret2
  exact ⟨rfl, rfl⟩

set_option maxHeartbeats 2000000 in
set_option maxRecDepth 100000 in
theorem expand_yes (A : Option Addr) (n c : Nat) (k : List UInt8) (N : Nat) (B : Option Addr) (m d : Nat) (ps : List Pc) (w : World) (ht : Tabs w) (hN : N ≤ 8160)
    (hk : k.length = n) (hr : Row w A (bvs k)) (hc : n ≤ c) (hm : c ≤ maxLen) (hn2 : n ≤ 1099511627776)
    (hps : ps.length = m) (hrp : Row w B (ps.map Pc.v)) (hp : PcsOk w nob ps) (hmm : m ≤ 1099511627776) (hl : (catP ps).length ≤ 1099510000000) :
    Calls Tryd.prog 9 #[.slice A n c, .int .i64 (N : Int), .slice B m d] w fun e w' => ∃ X cX, e = .returned (.tuple #[.slice X N cX, .int .i64 0]) ∧ Own 5 w' X N cX (bvs (expand k (catP ps) N)) ∧ (∀ k, ab X = some k → w.heap.size ≤ k) ∧ Kp nob w w' := by
  obtain ⟨i0, hi, hz0, hz1, hz2⟩ := info_parts u8s_info
  have d1 : decide ((N : Int) < 0) = false := by simp
  have d2 : decide (8160 < (N : Int)) = false := by simp; omega
  have mk := make_cap N hN
  obtain ⟨P, hP⟩ : ∃ P, P = catP ps := ⟨_, rfl⟩
  have HP := Lib.hid hP
  have HK := Lib.hid hk; have HPS := Lib.hid hps; clear hk hps
  have K0 : Kp nob w (w.alloc (.cells (madeCells #[.int .u8 0] N) 5)) := (Kp.refl nob w).alloc _
  have O0 : Own 5 (w.alloc (.cells (madeCells #[.int .u8 0] N) 5)) (some ⟨w.heap.size, 0, none⟩) 0 N [] := World.ownsRow_made w (madeCells #[.int .u8 0] N) N (Nat.zero_le _) (by unfold maxLen; omega) (by simp [size_madeCells])
  rw [← hP] at hl ⊢
  clear hP
  go_enter Tryd.func9, Tryd.ntmps9
  go_wp2
  generalize w.alloc (.cells (madeCells #[.int .u8 0] N) 5) = w0 at *
  go_loopw [8, 9, 10] (fun ve va vx wr => ∃ (i : Nat) (X : Option Addr) (cX : Nat) (G : Option Addr) (u : Nat), i ≤ 255 ∧ ve = .slice X (min (32 * i) N) cX ∧ va = .slice G u u ∧ vx = .int .u8 (UInt8.ofNat (i + 1)).toNat ∧ Own 5 wr X (min (32 * i) N) cX (bvs ((okm k P i).take N)) ∧ (T k P i).length = u ∧ u ≤ 32 ∧ Row wr G (bvs (T k P i)) ∧ (∀ k, ab X = some k → w.heap.size ≤ k) ∧ Kp nob w wr)
    (fun ve _ _ _ => N - lenV ve)
  case atStart => exact ⟨0, some ⟨w.heap.size, 0, none⟩, N, none, 0, by omega, by simp, rfl, rfl, by simpa [okm_zero, bvs] using O0, by rw [T_zero]; rfl, by omega, by rw [T_zero]; exact Row.nil _ _, fun k e => by cases e; exact Nat.le_refl _, K0⟩
  case round =>
    obtain ⟨i, X, cX, G, u, hi255, rfl, rfl, rfl, hX, hTl, hu, hG, gX, hkp⟩ := hrel
    clear mk K0 O0
    by_cases hlt : 32 * i < N
    · have hmin : min (32 * i) N = 32 * i := by omega
      rw [hmin] at hX ⊢
      have e1 : decide (((32 * i : Nat) : Int) < (N : Int)) = true := by simp; omega
      have HX := Lib.hid hX; have HTL := Lib.hid hTl
      have HST := Lib.hid (T_succ k P i); have HOS := Lib.hid (okm_step k P i N hlt)
      have HTN := Lib.hid (T_length k P i)
      have ltX := hX.lt
      clear hX hTl
      go_wp2_with fail
      refine (block_any G u u (T k P i) A n c k B m d ps (UInt8.ofNat (i + 1)) wr (ht.keep0 hkp) HTL.out hG (Nat.le_refl _) (by unfold maxLen; omega) (by omega) HK.out (hr.keep0 hkp) hc hm hn2 HPS.out (hrp.keep0 hkp) (hp.keep0 hkp) hmm (by rw [← HP.out]; exact hl)).mono ?_
      rintro e w2 ⟨rfl, k2⟩
      rw [← HP.out, ← HST.out]
      obtain ⟨D, hD⟩ : ∃ D, D = T k P (i + 1) := ⟨_, rfl⟩
      rw [← hD] at HTN HOS ⊢
      have HD := Lib.hid hD; clear hD
      have K2 : Kp nob w w2 := hkp.trans k2 (fun _ e => e.elim)
      have HX2 := Lib.hid (HX.out.keep k2 (fun _ _ e => e))
      have s2 := k2.size
      clear k2
      obtain ⟨q, hq⟩ : ∃ q, q = min 32 (N - 32 * i) := ⟨_, rfl⟩
      have hmn : (if (N : Int) - 32 * (i : Int) < 32 then (N : Int) - 32 * (i : Int) else 32) = (q : Int) := by split <;> omega
      have hs := fun wx => cut32 w2.heap.size q q rfl (by omega) wx
      have hqn : 32 * i + q = min (32 * (i + 1)) N := by omega
      have HOQ : Hid (bvs ((okm k P i).take N) ++ bvs (D.take q) = bvs ((okm k P (i + 1)).take N)) := Lib.hid (by
        rw [← bvs_append, ← HOS.out]
        congr 2
        by_cases h : N - 32 * i ≤ 32
        · rw [hq, Nat.min_eq_right h]
        · rw [hq, Nat.min_eq_left (by omega), List.take_of_length_le (by rw [HTN.out]; omega), List.take_of_length_le (by rw [HTN.out]; omega)])
      have hq32 : q ≤ 32 := by omega
      have HQ := Lib.hid hq; clear hq
      go_wp2_with (first
        | (refine wpList_store_new rfl 34 (.tmp 11) (.tmp 28) rfl _ (bvs D) rfl rfl (by rw [bvs_length, HTN.out]; rfl) (by rw [bvs_length, HTN.out]; kernel_rfl) (bvs_one _) ?_
           intro w3 hB3 k3 z3
           have HB3 := Lib.hid hB3
           have K3 : Kp nob w w3 := K2.trans k3 (fun _ e => e.elim)
           have HX3 := Lib.hid (HX2.out.keep k3 (fun _ _ e => e))
           clear hB3 k3)
        | (at_builtin
           refine wpList_appR _ rfl (.tmp 29) (.tmp 35) 22 rfl 5 i0 (.int .u8 0) 1 u8s_under hi hz0 hz1 hz2 rfl X (32 * i) cX (bvs ((okm k P i).take N)) rfl HX3.out (some ⟨w2.heap.size, 0, none⟩) q 32 (bvs (D.take q)) rfl (fun h => by cases h) (by rw [bvs_length, List.length_take, HTN.out]; omega) (row_take HB3.out.row q) (bvs_one _) (by omega) (by omega) ?_
           intro X4 cX4 w4 hX4 hg4 hab4
           have kx : Kp (rowF X) w3 w4 := (Kp.refl _ w3).grown hg4 (fun k e => .inl e)
           have K4 : Kp nob w w4 := K3.since kx (fun k e => gX k e)
           have HX4 : Hid (Own 5 w4 X4 (min (32 * (i + 1)) N) cX4 (bvs ((okm k P (i + 1)).take N))) := Lib.hid (by rw [← hqn, ← HOQ.out]; exact hX4)
           have HR4 : Hid (Row w4 (some ⟨w2.heap.size, 0, none⟩) (bvs D)) := Lib.hid (HB3.out.row.keep kx (fun k e e' => by
             have h1 : w2.heap.size = k := by simpa [ab] using e
             have h2 := ltX k e'
             omega))
           have gX4 : ∀ k, ab X4 = some k → w.heap.size ≤ k := fun k e => by
             rcases hab4 with h | h <;> rw [h] at e
             · exact gX k e
             · cases e; exact K3.size
           clear kx hX4 hg4 hab4))
      refine ⟨?rel, ?meas⟩
      case rel => exact ⟨i + 1, X4, cX4, some ⟨w2.heap.size, 0, none⟩, 32, by omega, rfl, rfl, by simp, HX4.out, by rw [← HD.out]; exact HTN.out, by omega, by rw [← HD.out]; exact HR4.out, gX4, K4⟩
      case meas => simp [lenV]; omega
    · have hmin : min (32 * i) N = N := by omega
      rw [hmin] at hX ⊢
      have e1 : decide ((N : Int) < (N : Int)) = false := by simp
      have HE := Lib.hid (expand_of k P i N (by omega))
      rw [HE.out] at hX
      have HX := Lib.hid hX
      clear hX hTl hG
      go_wp2
      go_ret2
      exact ⟨X, cX, rfl, HX.out, gX, hkp⟩

/-- WHAT A CALL ANSWERS, of any number. -/
theorem expand_any (A : Option Addr) (n c : Nat) (k : List UInt8) (N : Int) (B : Option Addr) (m d : Nat) (ps : List Pc) (w : World) (ht : Tabs w)
    (hk : k.length = n) (hr : Row w A (bvs k)) (hc : n ≤ c) (hm : c ≤ maxLen) (hn2 : n ≤ 1099511627776)
    (hps : ps.length = m) (hrp : Row w B (ps.map Pc.v)) (hp : PcsOk w nob ps) (hmm : m ≤ 1099511627776) (hl : (catP ps).length ≤ 1099510000000) :
    Calls Tryd.prog 9 #[.slice A n c, .int .i64 N, .slice B m d] w fun e w' => (∃ X l cX, e = .returned (.tuple #[.slice X l cX, .int .i64 (err N)]) ∧ (out k (catP ps) N).length = l ∧ Row w' X (bvs (out k (catP ps) N))) ∧ Kp nob w w' := by
  by_cases h1 : N < 0
  · refine (expand_neg A n c N _ w h1).mono ?_
    rintro e w' ⟨rfl, rfl⟩
    exact ⟨⟨none, 0, 0, by rw [err_neg h1], by rw [out_neg _ _ h1]; rfl, by rw [out_neg _ _ h1]; exact Row.nil _ _⟩, Kp.refl _ _⟩
  · by_cases h2 : 8160 < N
    · refine (expand_long A n c N _ w h2).mono ?_
      rintro e w' ⟨rfl, rfl⟩
      exact ⟨⟨none, 0, 0, by rw [err_long h2], by rw [out_long _ _ h2]; rfl, by rw [out_long _ _ h2]; exact Row.nil _ _⟩, Kp.refl _ _⟩
    · obtain ⟨x, rfl⟩ : ∃ x : Nat, N = x := ⟨N.toNat, by omega⟩
      refine (expand_yes A n c k x B m d ps w ht (by omega) hk hr hc hm hn2 hps hrp hp hmm hl).mono ?_
      rintro e w' ⟨X, cX, rfl, hX, _, K⟩
      exact ⟨⟨X, x, cX, by rw [err_ok x (by omega)], by rw [out_ok _ _ x (by omega), expand_length], by rw [out_ok _ _ x (by omega)]; exact hX.row⟩, K⟩
end Go.Proofs.YtnpidcehioljaaaDoor.Kdf
