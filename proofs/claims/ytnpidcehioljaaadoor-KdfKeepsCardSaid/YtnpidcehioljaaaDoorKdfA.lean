/- Contracts of package kdf: the block behind another, what is extracted. -/
import Derived.Test.YtnpidcehioljaaaDoorHmacG
import Derived.Test.YtnpidcehioljaaaDoorKdfS
namespace Go.Proofs.YtnpidcehioljaaaDoor.Kdf
open Go Go.RowKit Kit
open Sha (Tabs Far Has Pc PcsOk catP u8s_under arr32b u8s_info row_marked)
open Hmac (mac mac_length ik ik_length MacIs)

set_option maxHeartbeats 1000000 in
set_option maxRecDepth 100000 in
theorem block_any (G : Option Addr) (u v : Nat) (a : List UInt8) (A : Option Addr) (n c : Nat) (k : List UInt8) (B : Option Addr) (m d : Nat) (ps : List Pc) (x : UInt8) (w : World) (ht : Tabs w)
    (ha : a.length = u) (hra : Row w G (bvs a)) (huv : u ≤ v) (hvm : v ≤ maxLen) (hu : u ≤ 4096)
    (hk : k.length = n) (hr : Row w A (bvs k)) (hc : n ≤ c) (hm : c ≤ maxLen) (hn2 : n ≤ 1099511627776)
    (hps : ps.length = m) (hrp : Row w B (ps.map Pc.v)) (hp : PcsOk w nob ps) (hmm : m ≤ 1099511627776) (hl : (catP ps).length ≤ 1099510000000) :
    Calls Tryd.prog 15 #[.slice G u v, .slice A n c, .slice B m d, .int .u8 x.toNat] w fun e w' => e = .returned (.agg (bvs (mac k (a ++ catP ps ++ [x]))).toArray) ∧ Kp nob w w' := by
  obtain ⟨L, hL⟩ : ∃ L, L = a ++ catP ps ++ [x] := ⟨_, rfl⟩
  rw [← hL]
  have HLL : Hid (L.length ≤ 1099511000000) := Lib.hid (by rw [hL, List.length_append, List.length_append, ha]; simp; omega)
  have HLE := Lib.hid hL
  have HML := Lib.hid (mac_length k L)
  have HIL := Lib.hid (ik_length k)
  clear hL
  have K0 : ∀ o : Obj, Kp nob w (w.alloc o) := fun o => (Kp.refl nob w).alloc o
  have HK := Lib.hid hk; have HPS := Lib.hid hps; have HA := Lib.hid ha; clear hk hps ha
  go_enter Tryd.func15, Tryd.ntmps15
  go_wp2_with fail
  refine (Hmac.new_any A n c k _ (ht.keep0 (K0 _)) HK.out (hr.alloc _) hc hm hn2).mono ?_
  rintro e w2 ⟨b, h, rfl, hM, hH, k2, nb, nh⟩
  obtain ⟨z, hz1, hz2⟩ : ∃ z, Blk w2 w.heap.size 34 z ∧ z.length = 32 := ⟨_, (Blk.new' (w := w) rfl rfl).keep k2 (fun e => e), rfl⟩
  have K2 : Kp nob w w2 := (K0 _).trans k2 (fun _ e => e.elim)
  have HZ1 := Lib.hid hz1; have HZ2 := Lib.hid hz2
  simp only [World.alloc, Array.size_push] at nb nh
  have hc0 := hM.hash
  have old : ∀ {xs : List Value} {X : Option Addr}, Row w X xs → xs = [] ∨ ∀ k, ab X = some k → ¬ oneB h k := fun {xs X} hq => by
    by_cases hl : xs = []
    · exact .inl hl
    · exact .inr (fun k e1 e2 => by have := hq.lt hl k e1; unfold oneB at e2; omega)
  have pA : a = [] ∨ ∀ k, ab G = some k → ¬ oneB h k := (old hra).imp (fun e => by simpa [bvs] using e) (fun e => e)
  have pB : ps = [] ∨ ∀ k, ab B = some k → k ≠ h := (old hrp).imp (fun e => by simpa using e) (fun e => e)
  have pP := hp.old (oneB h) (fun k e => by unfold oneB at e; omega)
  clear k2 hz1 hz2 K0 old
  go_wp2_with fail
  refine (Sha.write_one h (ik k) ⟨G, u, v, a⟩ w2 _ _ rfl hH (ht.keep0 K2) hM.far (Sha.pcs_one HA.out (hra.keep0 K2) pA huv hvm) (by show (ik k).length + a.length ≤ _; rw [HIL.out, HA.out]; omega)).mono ?_
  rintro e w3 ⟨rfl, h3, k3⟩
  have M3 := hM.keep k3 (fun e => hM.ne e.symm)
  have K3 := K2.since k3 (fun i e => by unfold oneB at e; omega)
  have HZ3 := Lib.hid (HZ1.out.keep k3 (fun e => by unfold oneB at e; omega))
  have hc3 := M3.hash
  clear hc0 k3
  go_wp2_with fail
  refine (Sha.write_any h (ik k ++ a) B m d ps _ h3 (ht.keep0 K3) hM.far HPS.out (hrp.keep0 K3) pB (pP.keep K3 (fun _ e => e.elim)) hmm (by rw [List.length_append, HIL.out, HA.out]; omega)).mono ?_
  rintro e w4 ⟨rfl, h4, k4⟩
  have M4 := M3.keep k4 (fun e => hM.ne e.symm)
  have K4 := K3.since k4 (fun i e => by unfold oneB at e; omega)
  have HZ4 := Lib.hid (HZ3.out.keep k4 (fun e => by unfold oneB at e; omega))
  have hc4 := M4.hash
  have n4 := h4.lt
  clear hc3 k4 M3 h3
  go_wp2_with fail
  have kx : Kp nob w4 (w4.alloc (.cells #[.int .u8 x.toNat] 5)) := (Kp.refl nob w4).alloc _
  have n4' : w4.heap.size ≠ h := by omega
  refine (Sha.write_one h (ik k ++ a ++ catP ps) ⟨some ⟨w4.heap.size, 0, none⟩, 1, 1, [x]⟩ (w4.alloc (.cells #[.int .u8 x.toNat] 5)) _ _ (by simp) (h4.keep kx (fun e => e)) (ht.keep0 (K4.trans kx (fun _ e => e.elim))) hM.far
    (Sha.pcs_one rfl (row_one w4 _ _) (.inr (Hmac.off_block n4')) (Nat.le_refl _) (by simp [maxLen])) (by show (ik k ++ a ++ catP ps).length + 1 ≤ _; rw [List.length_append, List.length_append, HIL.out, HA.out]; omega)).mono ?_
  rintro e w5 ⟨rfl, h5, k5⟩
  have k45 := (kx.nob (oneB h)).trans k5 (fun _ e => .inl e)
  have M5 := M4.keep k45 (fun e => hM.ne e.symm)
  have K5 := K4.since k45 (fun i e => by unfold oneB at e; omega)
  have HZ5 := Lib.hid (HZ4.out.keep k45 (fun e => by unfold oneB at e; omega))
  rw [show ik k ++ a ++ catP ps ++ Pc.l ⟨some ⟨w4.heap.size, 0, none⟩, 1, 1, [x]⟩ = ik k ++ L by rw [HLE.out]; simp] at h5
  clear hc4 k45 k5 kx M4 h4 HZ4 HZ3
  go_wp2_with fail
  refine (Hmac.sum_any b h k L _ M5 h5 (ht.keep0 K5) HLL.out).mono ?_
  rintro e w6 ⟨rfl, k6⟩
  have HZ6 := Lib.hid (HZ5.out.keep k6 (fun e => e))
  go_wp2_with (refine wpList_store_blk rfl 34 (.tmp 8) (.tmp 34) rfl _ _ z (bvs (mac k L)) HZ6.out rfl rfl (by rw [HZ2.out, bvs_length, HML.out]) (by rw [bvs_length, HML.out]; kernel_rfl) (bvs_one _) ?_; intro w7 hB7 k7 z7)
  have hsz7 : (Tryd.prog.info? 34).map (·.size) = some (bvs (mac k L)).toArray.size := by
    rw [List.size_toArray, bvs_length, HML.out]; kernel_rfl
  refine bodyPost_ret (results_cell_row rfl _ _ w.heap.size _ _ _ _ rfl hB7 arr32b rfl hsz7) rfl ⟨rfl, (K5.trans k6 (fun _ e => e.elim)).since k7 (fun i e => by unfold oneB at e; omega)⟩

set_option maxHeartbeats 1000000 in
set_option maxRecDepth 100000 in
theorem extract_any (A : Option Addr) (n c : Nat) (k : List UInt8) (B : Option Addr) (m d : Nat) (l : List UInt8) (w : World) (ht : Tabs w) (hk : k.length = n) (hr : Row w A (bvs k)) (hc : n ≤ c) (hm : c ≤ maxLen) (hn2 : n ≤ 1099511627776)
    (hb : l.length = m) (hrb : Row w B (bvs l)) (hd : m ≤ d) (hdm : d ≤ maxLen) (hm2 : m ≤ 1099511000000) :
    Calls Tryd.prog 13 #[.slice A n c, .slice B m d] w fun e w' => e = .returned (.agg (bvs (mac k l)).toArray) ∧ Kp nob w w' := by
  have HML := Lib.hid (mac_length k l)
  have K0 : ∀ o : Obj, Kp nob w (w.alloc o) := fun o => (Kp.refl nob w).alloc o
  have HK := Lib.hid hk; have HB := Lib.hid hb; clear hk hb
  go_enter Tryd.func13, Tryd.ntmps13
  go_wp2_with fail
  refine (Hmac.of_pcs1 A n c k ⟨B, m, d, l⟩ (w.alloc (.cells (bvs (List.replicate 32 0)).toArray 34)) _ _ (by simp) (ht.keep0 (K0 _)) HK.out (hr.alloc _) hc hm hn2 (Sha.pcs_one HB.out (hrb.alloc _) (.inr (fun _ _ e => e)) hd hdm) (by show l.length ≤ _; rw [HB.out]; exact hm2)).mono ?_
  rintro e w2 ⟨rfl, k2⟩
  rw [show mac k (Pc.l ⟨B, m, d, l⟩) = mac k l from rfl]
  obtain ⟨z, hz1, hz2⟩ : ∃ z, Blk w2 w.heap.size 34 z ∧ z.length = 32 := ⟨_, (Blk.new' (w := w) rfl rfl).keep k2 (fun e => e), rfl⟩
  have K2 : Kp nob w w2 := (K0 _).trans k2 (fun _ e => e.elim)
  have HZ1 := Lib.hid hz1; have HZ2 := Lib.hid hz2
  clear k2 hz1 hz2 K0
  go_wp2_with (refine wpList_store_blk rfl 34 (.tmp 4) (.tmp 8) rfl _ _ z (bvs (mac k l)) HZ1.out rfl rfl (by rw [HZ2.out, bvs_length, HML.out]) (by rw [bvs_length, HML.out]; kernel_rfl) (bvs_one _) ?_; intro w7 hB7 k7 z7)
  have hsz7 : (Tryd.prog.info? 34).map (·.size) = some (bvs (mac k l)).toArray.size := by
    rw [List.size_toArray, bvs_length, HML.out]; kernel_rfl
  refine bodyPost_ret (results_cell_row rfl _ _ w.heap.size _ _ _ _ rfl hB7 arr32b rfl hsz7) rfl ⟨rfl, K2.since k7 (fun i e => by unfold oneB at e; omega)⟩
end Go.Proofs.YtnpidcehioljaaaDoor.Kdf
