/- Lemmas: KdfSg KdfAg KdfBg. -/
import Derived.Test.YtiimfhacnfdmhaaGreatZG23
set_option linter.unusedVariables false
set_option linter.unusedSimpArgs false
namespace Go.Proofs.YtiimfhacnfdmhaaGreat.Kdf
open Go Go.RowKit Kit
open Hmac (mac mac_length)
def T [Inhabited Sha.ShaTab] (k p : List UInt8) : Nat → List UInt8
  | 0 => []
  | i + 1 => mac k (T k p i ++ p ++ [UInt8.ofNat (i + 1)])
theorem T_zero [Inhabited Sha.ShaTab] (k p : List UInt8) : T k p 0 = [] := rfl
theorem T_succ [Inhabited Sha.ShaTab] (k p : List UInt8) (i : Nat) : T k p (i + 1) = mac k (T k p i ++ p ++ [UInt8.ofNat (i + 1)]) := rfl
theorem T_length [Inhabited Sha.ShaTab] (k p : List UInt8) (i : Nat) : (T k p (i + 1)).length = 32 := mac_length _ _
def okm [Inhabited Sha.ShaTab] (k p : List UInt8) : Nat → List UInt8
  | 0 => []
  | i + 1 => okm k p i ++ T k p (i + 1)
theorem okm_zero [Inhabited Sha.ShaTab] (k p : List UInt8) : okm k p 0 = [] := rfl
theorem okm_succ [Inhabited Sha.ShaTab] (k p : List UInt8) (i : Nat) : okm k p (i + 1) = okm k p i ++ T k p (i + 1) := rfl
theorem okm_length [Inhabited Sha.ShaTab] (k p : List UInt8) (i : Nat) : (okm k p i).length = 32 * i := by
  induction i with
  | zero => rfl
  | succ i ih => rw [okm_succ, List.length_append, ih, T_length]; omega
theorem okm_take [Inhabited Sha.ShaTab] (k p : List UInt8) (i d : Nat) : (okm k p (i + d)).take (32 * i) = okm k p i := by
  induction d with
  | zero => rw [Nat.add_zero, List.take_of_length_le (by rw [okm_length]; omega)]
  | succ d ih => rw [← Nat.add_assoc, okm_succ, List.take_append_of_le_length (by rw [okm_length]; omega), ih]
def expand [Inhabited Sha.ShaTab] (k p : List UInt8) (n : Nat) : List UInt8 := (okm k p ((n + 31) / 32)).take n
theorem expand_length [Inhabited Sha.ShaTab] (k p : List UInt8) (n : Nat) : (expand k p n).length = n := by
  rw [expand, List.length_take, okm_length]; omega
theorem expand_of [Inhabited Sha.ShaTab] (k p : List UInt8) (i n : Nat) (h : n ≤ 32 * i) : (okm k p i).take n = expand k p n := by
  have hm : (n + 31) / 32 ≤ i := by omega
  have := okm_take k p ((n + 31) / 32) (i - (n + 31) / 32)
  rw [show (n + 31) / 32 + (i - (n + 31) / 32) = i by omega] at this
  rw [expand, ← this, List.take_take, Nat.min_eq_left (by omega)]
def err (N : Int) : Int := if N < 0 then 1 else if 8160 < N then 3 else 0
def out [Inhabited Sha.ShaTab] (k p : List UInt8) (N : Int) : List UInt8 := if N < 0 ∨ 8160 < N then [] else expand k p N.toNat
theorem out_length [Inhabited Sha.ShaTab] (k p : List UInt8) (N : Int) : (out k p N).length ≤ 8160 := by
  unfold out; split
  · simp
  · rw [expand_length]; omega
theorem okm_step [Inhabited Sha.ShaTab] (k p : List UInt8) (i n : Nat) (_ : 32 * i < n) : (okm k p i).take n ++ (T k p (i + 1)).take (n - 32 * i) = (okm k p (i + 1)).take n := by
  rw [okm_succ, List.take_append, okm_length]
attribute [irreducible] T okm expand err out
end Go.Proofs.YtiimfhacnfdmhaaGreat.Kdf
namespace Go.Proofs.YtiimfhacnfdmhaaGreat.Kdf
open Go Go.RowKit Kit
open Sha (Tabs Far Has Pc PcsOk catP u8s_under arr32b u8s_info)
open Hmac (mac mac_length ik ik_length MacIs)
set_option maxHeartbeats 1000000 in
set_option maxRecDepth 100000 in
theorem block_any [Inhabited Sha.ShaTab] (G : Option Addr) (u v : Nat) (a : List UInt8) (A : Option Addr) (n c : Nat) (k : List UInt8) (B : Option Addr) (m d : Nat) (ps : List Pc) (x : UInt8) (w : World) (ht : Tabs w)
    (ha : a.length = u) (hra : Row w G (bvs a)) (huv : u ≤ v) (hvm : v ≤ maxLen) (hu : u ≤ 4096)
    (hk : k.length = n) (hr : Row w A (bvs k)) (hc : n ≤ c) (hm : c ≤ maxLen) (hn2 : n ≤ 1099511627776)
    (hps : ps.length = m) (hrp : Row w B (ps.map Pc.v)) (hp : PcsOk w nob ps) (hmm : m ≤ 1099511627776) (hl : (catP ps).length ≤ 1099510000000) :
    Calls Tryz.prog 141 #[.slice G u v, .slice A n c, .slice B m d, .int .u8 x.toNat] w fun e w' => e = .returned (.agg (bvs (mac k (a ++ catP ps ++ [x]))).toArray) ∧ Kp nob w w' := by
  obtain ⟨L, hL⟩ : ∃ L, L = a ++ catP ps ++ [x] := ⟨_, rfl⟩
  rw [← hL]
  have HLL : Hid (L.length ≤ 1099511000000) := Lib.hid (by rw [hL, List.length_append, List.length_append, ha]; simp; omega)
  have HLE := Lib.hid hL
  have HML := Lib.hid (mac_length k L)
  have HIL := Lib.hid (ik_length k)
  clear hL
  have K0 : ∀ o : Obj, Kp nob w (w.alloc o) := fun o => (Kp.refl nob w).alloc o
  have HK := Lib.hid hk; have HPS := Lib.hid hps; have HA := Lib.hid ha; clear hk hps ha
  go_enter Tryz.func141, Tryz.ntmps141
  go_wp2_with fail
  refine (Hmac.new_any A n c k _ (ht.keep0 (K0 _)) HK.out (hr.alloc _) hc hm hn2).mono ?_
  rintro e w2 ⟨b, h, rfl, hM, hH, k2, nb, nh⟩
  obtain ⟨z, hz1, hz2⟩ : ∃ z, Blk w2 w.heap.size 32 z ∧ z.length = 32 := ⟨_, (Blk.new' (w := w) rfl rfl).keep k2 (fun e => e), rfl⟩
  have K2 : Kp nob w w2 := (K0 _).trans k2 (fun _ e => e.elim)
  have HZ1 := Lib.hid hz1; have HZ2 := Lib.hid hz2
  simp only [World.alloc, Array.size_push] at nb nh
  have hc0 := hM.hash
  have old : ∀ {xs : List Value} {X : Option Addr}, Row w X xs → xs = [] ∨ ∀ k, ab X = some k → ¬ oneB h k := fun {xs X} hq => by
    by_cases hl : xs = []
    · exact .inl hl
    · exact .inr (fun k e1 e2 => by have := hq.lt hl k e1; unfold oneB at e2; omega)
  have pA : a = [] ∨ ∀ k, ab G = some k → ¬ oneB h k := (old hra).imp (fun e => by simpa [bvs] using e) (fun e => e)
  have pB : ps = [] ∨ ∀ k, ab B = some k → k ≠ h := (old hrp).imp (fun e => by simpa using e) (fun e => e)
  have pP := hp.old (oneB h) (fun k e => by unfold oneB at e; omega)
  clear k2 hz1 hz2 K0 old
  go_wp2_with fail
  refine (Sha.write_one h (ik k) ⟨G, u, v, a⟩ w2 _ _ rfl hH (ht.keep0 K2) hM.far (Sha.pcs_one HA.out (hra.keep0 K2) pA huv hvm) (by show (ik k).length + a.length ≤ _; rw [HIL.out, HA.out]; omega)).mono ?_
  rintro e w3 ⟨rfl, h3, k3⟩
  have M3 := hM.keep k3 (fun e => hM.ne e.symm)
  have K3 := K2.since k3 (fun i e => by unfold oneB at e; omega)
  have HZ3 := Lib.hid (HZ1.out.keep k3 (fun e => by unfold oneB at e; omega))
  have hc3 := M3.hash
  clear hc0 k3
  go_wp2_with fail
  refine (Sha.write_any h (ik k ++ a) B m d ps _ h3 (ht.keep0 K3) hM.far HPS.out (hrp.keep0 K3) pB (pP.keep K3 (fun _ e => e.elim)) hmm (by rw [List.length_append, HIL.out, HA.out]; omega)).mono ?_
  rintro e w4 ⟨rfl, h4, k4⟩
  have M4 := M3.keep k4 (fun e => hM.ne e.symm)
  have K4 := K3.since k4 (fun i e => by unfold oneB at e; omega)
  have HZ4 := Lib.hid (HZ3.out.keep k4 (fun e => by unfold oneB at e; omega))
  have hc4 := M4.hash
  have n4 := h4.lt
  clear hc3 k4 M3 h3
  go_wp2_with fail
  have kx : Kp nob w4 (w4.alloc (.cells #[.int .u8 x.toNat] 5)) := (Kp.refl nob w4).alloc _
  have n4' : w4.heap.size ≠ h := by omega
  refine (Sha.write_one h (ik k ++ a ++ catP ps) ⟨some ⟨w4.heap.size, 0, none⟩, 1, 1, [x]⟩ (w4.alloc (.cells #[.int .u8 x.toNat] 5)) _ _ (by simp) (h4.keep kx (fun e => e)) (ht.keep0 (K4.trans kx (fun _ e => e.elim))) hM.far
    (Sha.pcs_one rfl (row_one w4 _ _) (.inr (Hmac.off_block n4')) (Nat.le_refl _) (by simp [maxLen])) (by show (ik k ++ a ++ catP ps).length + 1 ≤ _; rw [List.length_append, List.length_append, HIL.out, HA.out]; omega)).mono ?_
  rintro e w5 ⟨rfl, h5, k5⟩
  have k45 := (kx.nob (oneB h)).trans k5 (fun _ e => .inl e)
  have M5 := M4.keep k45 (fun e => hM.ne e.symm)
  have K5 := K4.since k45 (fun i e => by unfold oneB at e; omega)
  have HZ5 := Lib.hid (HZ4.out.keep k45 (fun e => by unfold oneB at e; omega))
  rw [show ik k ++ a ++ catP ps ++ Pc.l ⟨some ⟨w4.heap.size, 0, none⟩, 1, 1, [x]⟩ = ik k ++ L by rw [HLE.out]; simp] at h5
  clear hc4 k45 k5 kx M4 h4 HZ4 HZ3
  go_wp2_with fail
  refine (Hmac.sum_any b h k L _ M5 h5 (ht.keep0 K5) HLL.out).mono ?_
  rintro e w6 ⟨rfl, k6⟩
  have HZ6 := Lib.hid (HZ5.out.keep k6 (fun e => e))
  go_wp2_with (refine wpList_store_blk rfl 32 (.tmp 8) (.tmp 34) rfl _ _ z (bvs (mac k L)) HZ6.out rfl rfl (by rw [HZ2.out, bvs_length, HML.out]) (by rw [bvs_length, HML.out]; kernel_rfl) (bvs_one _) ?_; intro w7 hB7 k7 z7)
  have hsz7 : (Tryz.prog.info? 32).map (·.size) = some (bvs (mac k L)).toArray.size := by
    rw [List.size_toArray, bvs_length, HML.out]; kernel_rfl
  refine bodyPost_ret (results_cell_row rfl _ _ w.heap.size _ _ _ _ rfl hB7 arr32b rfl hsz7) rfl ⟨rfl, (K5.trans k6 (fun _ e => e.elim)).since k7 (fun i e => by unfold oneB at e; omega)⟩
theorem make_cap (n : Nat) (hn : n ≤ 8160) (w : World) : (Instr.makeSlice 42 (.int .i64 0) (.int .i64 (n : Int))).run Tryz.prog w = .ok (.slice (some ⟨w.heap.size, 0, none⟩) 0 n) (w.alloc (.cells (madeCells #[.int .u8 0] n) 5)) := by
  obtain ⟨i0, hi, hz0, hz1, hz2⟩ := info_parts u8s_info
  have hr := run_make (P := Tryz.prog) w 42 5 i0 (.int .u8 0) u8s_under hi hz0 .i64 .i64 0 n (by omega) (by omega) (by rw [hz2]; omega) (by omega)
  simpa [hz1, Value.cells] using hr
theorem cut32 (g q : Nat) (h : Int) (hh : h = q) (hq : q ≤ 32) (w : World) : (Instr.sliceAt 32 (.pointer (some ⟨g, 0, none⟩)) none (some (.int .i64 h)) none).run Tryz.prog w = .ok (.slice (some ⟨g, 0, none⟩) q 32) w := by
  have ha : Tryz.prog.underlying 32 = some (.array (Tryz.prog.arrayLen 32) (Tryz.prog.elem 32)) := by kernel_rfl
  have hl : Tryz.prog.arrayLen 32 = 32 := by kernel_rfl
  have he : Tryz.prog.elem 32 = 5 := by kernel_rfl
  have hz : (sizeOf 5).run Tryz.prog w = .ok 1 w := by kernel_rfl
  subst hh
  rw [run_sliceAt_array_h w _ _ ha _ _ (by omega) (by rw [hl]; omega), hl, he, hz]
  simp [Result.andThen, slicedAt, Addr.add]
theorem row_take {w : World} {A : Option Addr} {l : List UInt8} (h : Row w A (bvs l)) (k : Nat) : Row w A (bvs (l.take k)) := by
  have := h.take k
  rwa [bvs, ← List.map_take, ← bvs] at this
def lenV : Value → Nat
  | .slice _ n _ => n
  | _ => 0
set_option maxHeartbeats 2000000 in
set_option maxRecDepth 100000 in
theorem expand_yes [Inhabited Sha.ShaTab] (A : Option Addr) (n c : Nat) (k : List UInt8) (N : Nat) (B : Option Addr) (m d : Nat) (ps : List Pc) (w : World) (ht : Tabs w) (hN : N ≤ 8160)
    (hk : k.length = n) (hr : Row w A (bvs k)) (hc : n ≤ c) (hm : c ≤ maxLen) (hn2 : n ≤ 1099511627776)
    (hps : ps.length = m) (hrp : Row w B (ps.map Pc.v)) (hp : PcsOk w nob ps) (hmm : m ≤ 1099511627776) (hl : (catP ps).length ≤ 1099510000000) :
    Calls Tryz.prog 136 #[.slice A n c, .int .i64 (N : Int), .slice B m d] w fun e w' => ∃ X cX, e = .returned (.tuple #[.slice X N cX, .int .i64 0]) ∧ Kit.Own 5 w' X N cX (bvs (expand k (catP ps) N)) ∧ (∀ k, ab X = some k → w.heap.size ≤ k) ∧ Kp nob w w' := by
  obtain ⟨i0, hi, hz0, hz1, hz2⟩ := info_parts u8s_info
  have d1 : decide ((N : Int) < 0) = false := by simp
  have d2 : decide (8160 < (N : Int)) = false := by simp; omega
  have mk := make_cap N hN
  obtain ⟨P, hP⟩ : ∃ P, P = catP ps := ⟨_, rfl⟩
  have HP := Lib.hid hP
  have HK := Lib.hid hk; have HPS := Lib.hid hps; clear hk hps
  have K0 : Kp nob w (w.alloc (.cells (madeCells #[.int .u8 0] N) 5)) := (Kp.refl nob w).alloc _
  have O0 : Kit.Own 5 (w.alloc (.cells (madeCells #[.int .u8 0] N) 5)) (some ⟨w.heap.size, 0, none⟩) 0 N [] := World.ownsRow_made w (madeCells #[.int .u8 0] N) N (Nat.zero_le _) (by unfold maxLen; omega) (by simp [size_madeCells])
  rw [← hP] at hl ⊢
  clear hP
  go_enter Tryz.func136, Tryz.ntmps136
  go_wp2
  generalize w.alloc (.cells (madeCells #[.int .u8 0] N) 5) = w0 at *
  go_loopw [8, 9, 10] (fun ve va vx wr => ∃ (i : Nat) (X : Option Addr) (cX : Nat) (G : Option Addr) (u : Nat), i ≤ 255 ∧ ve = .slice X (min (32 * i) N) cX ∧ va = .slice G u u ∧ vx = .int .u8 (UInt8.ofNat (i + 1)).toNat ∧ Kit.Own 5 wr X (min (32 * i) N) cX (bvs ((okm k P i).take N)) ∧ (T k P i).length = u ∧ u ≤ 32 ∧ Row wr G (bvs (T k P i)) ∧ (∀ k, ab X = some k → w.heap.size ≤ k) ∧ Kp nob w wr)
    (fun ve _ _ _ => N - lenV ve)
  case atStart => exact ⟨0, some ⟨w.heap.size, 0, none⟩, N, none, 0, by omega, by simp, rfl, rfl, by simpa [okm_zero, bvs] using O0, by rw [T_zero]; rfl, by omega, by rw [T_zero]; exact Row.nil _ _, fun k e => by cases e; exact Nat.le_refl _, K0⟩
  case round =>
    obtain ⟨i, X, cX, G, u, hi255, rfl, rfl, rfl, hX, hTl, hu, hG, gX, hkp⟩ := hrel
    clear mk K0 O0
    by_cases hlt : 32 * i < N
    · have hmin : min (32 * i) N = 32 * i := by omega
      rw [hmin] at hX ⊢
      have e1 : decide (((32 * i : Nat) : Int) < (N : Int)) = true := by simp; omega
      have HX := Lib.hid hX; have HTL := Lib.hid hTl
      have HST := Lib.hid (T_succ k P i); have HOS := Lib.hid (okm_step k P i N hlt)
      have HTN := Lib.hid (T_length k P i)
      have ltX := hX.lt
      clear hX hTl
      go_wp2_with fail
      refine (block_any G u u (T k P i) A n c k B m d ps (UInt8.ofNat (i + 1)) wr (ht.keep0 hkp) HTL.out hG (Nat.le_refl _) (by unfold maxLen; omega) (by omega) HK.out (hr.keep0 hkp) hc hm hn2 HPS.out (hrp.keep0 hkp) (hp.keep0 hkp) hmm (by rw [← HP.out]; exact hl)).mono ?_
      rintro e w2 ⟨rfl, k2⟩
      rw [← HP.out, ← HST.out]
      obtain ⟨D, hD⟩ : ∃ D, D = T k P (i + 1) := ⟨_, rfl⟩
      rw [← hD] at HTN HOS ⊢
      have HD := Lib.hid hD; clear hD
      have K2 : Kp nob w w2 := hkp.trans k2 (fun _ e => e.elim)
      have HX2 := Lib.hid (HX.out.keep k2 (fun _ _ e => e))
      have s2 := k2.size
      clear k2
      obtain ⟨q, hq⟩ : ∃ q, q = min 32 (N - 32 * i) := ⟨_, rfl⟩
      have hmn : (if (N : Int) - 32 * (i : Int) < 32 then (N : Int) - 32 * (i : Int) else 32) = (q : Int) := by split <;> omega
      have hs := fun wx => cut32 w2.heap.size q q rfl (by omega) wx
      have hqn : 32 * i + q = min (32 * (i + 1)) N := by omega
      have HOQ : Hid (bvs ((okm k P i).take N) ++ bvs (D.take q) = bvs ((okm k P (i + 1)).take N)) := Lib.hid (by
        rw [← bvs_append, ← HOS.out]
        congr 2
        by_cases h : N - 32 * i ≤ 32
        · rw [hq, Nat.min_eq_right h]
        · rw [hq, Nat.min_eq_left (by omega), List.take_of_length_le (by rw [HTN.out]; omega), List.take_of_length_le (by rw [HTN.out]; omega)])
      have hq32 : q ≤ 32 := by omega
      have HQ := Lib.hid hq; clear hq
      go_wp2_with (first
        | (refine wpList_store_new rfl 32 (.tmp 11) (.tmp 28) rfl _ (bvs D) rfl rfl (by rw [bvs_length, HTN.out]; rfl) (by rw [bvs_length, HTN.out]; kernel_rfl) (bvs_one _) ?_
           intro w3 hB3 k3 z3
           have HB3 := Lib.hid hB3
           have K3 : Kp nob w w3 := K2.trans k3 (fun _ e => e.elim)
           have HX3 := Lib.hid (HX2.out.keep k3 (fun _ _ e => e))
           clear hB3 k3)
        | (at_builtin
           refine wpList_appR _ rfl (.tmp 29) (.tmp 35) 42 rfl 5 i0 (.int .u8 0) 1 u8s_under hi hz0 hz1 hz2 rfl X (32 * i) cX (bvs ((okm k P i).take N)) rfl HX3.out (some ⟨w2.heap.size, 0, none⟩) q 32 (bvs (D.take q)) rfl (fun h => by cases h) (by rw [bvs_length, List.length_take, HTN.out]; omega) (row_take HB3.out.row q) (bvs_one _) (by omega) (by omega) ?_
           intro X4 cX4 w4 hX4 hg4 hab4
           have kx : Kp (rowF X) w3 w4 := (Kp.refl _ w3).grown hg4 (fun k e => .inl e)
           have K4 : Kp nob w w4 := K3.since kx (fun k e => gX k e)
           have HX4 : Hid (Kit.Own 5 w4 X4 (min (32 * (i + 1)) N) cX4 (bvs ((okm k P (i + 1)).take N))) := Lib.hid (by rw [← hqn, ← HOQ.out]; exact hX4)
           have HR4 : Hid (Row w4 (some ⟨w2.heap.size, 0, none⟩) (bvs D)) := Lib.hid (HB3.out.row.keep kx (fun k e e' => by
             have h1 : w2.heap.size = k := by simpa [ab] using e
             have h2 := ltX k e'
             omega))
           have gX4 : ∀ k, ab X4 = some k → w.heap.size ≤ k := fun k e => by
             rcases hab4 with h | h <;> rw [h] at e
             · exact gX k e
             · cases e; exact K3.size
           clear kx hX4 hg4 hab4))
      refine ⟨?rel, ?meas⟩
      case rel => exact ⟨i + 1, X4, cX4, some ⟨w2.heap.size, 0, none⟩, 32, by omega, rfl, rfl, by simp, HX4.out, by rw [← HD.out]; exact HTN.out, by omega, by rw [← HD.out]; exact HR4.out, gX4, K4⟩
      case meas => simp [lenV]; omega
    · have hmin : min (32 * i) N = N := by omega
      rw [hmin] at hX ⊢
      have e1 : decide ((N : Int) < (N : Int)) = false := by simp
      have HE := Lib.hid (expand_of k P i N (by omega))
      rw [HE.out] at hX
      have HX := Lib.hid hX
      clear hX hTl hG
      go_wp2
      go_ret2
      exact ⟨X, cX, rfl, HX.out, gX, hkp⟩
end Go.Proofs.YtiimfhacnfdmhaaGreat.Kdf
