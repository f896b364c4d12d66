/- Contracts of package hmac: the key's 64 bytes. -/
import Derived.Test.YtnpidcehioljaaaDoorHmacA
import Derived.Deep.RegionLaw
namespace Go.Proofs.YtnpidcehioljaaaDoor.Hmac
open Go Go.RowKit Kit
open Sha (Tabs Far Has Pc PcsOk catP u8s_under arr32b)

theorem splice_pad (cs : List UInt8) (_ : cs.length ≤ 64) : splice (bvs (List.replicate 64 0)) 0 (bvs cs) = bvs (pad cs) := by
  rw [pad, splice, bvs_append, bvs_length, Nat.zero_add, List.take_zero, List.nil_append]
  congr 1
  rw [bvs, ← List.map_drop, List.drop_replicate]; rfl

set_option maxHeartbeats 1000000 in
set_option maxRecDepth 100000 in
theorem filled_short (A : Option Addr) (n c : Nat) (k : List UInt8) (w : World) (hk : k.length = n) (hr : Row w A (bvs k)) (hn : n ≤ 64) :
    Calls Tryd.prog 24 #[.slice A n c] w fun e w' => e = .returned (.agg (bvs (pad k)).toArray) ∧ Kp nob w w' := by
  have d1 : decide ((64 : Int) < (n : Int)) = false := by simp; omega
  have hpl := pad_length (l := k) (by omega)
  have HP : Hid ((bvs (pad k)).length = 64) := Lib.hid (by rw [bvs_length, hpl])
  have HK := Lib.hid hk; clear hk hpl
  go_enter Tryd.func24, Tryd.ntmps24
  go_wp2_with (first
    | (refine wpList_copy_blk rfl (.tmp 14) (.tmp 15) 22 22 rfl 5 u8s_under (by kernel_rfl) (w.heap.size + 1) 0 _ _ _ _ _ _ rfl rfl (bvs (List.replicate 64 0)) 48 (Blk.new' (by simp) rfl) (bvs k) (by rw [bvs_length, HK.out]; exact (Nat.min_eq_left hn).symm) (fun _ => rfl) ((hr.alloc _).alloc _) (by simp [HK.out]; omega) (bvs_one _) ?_
       intro w2 hB2 k2 z2
       have HB2 : Hid (Blk w2 (w.heap.size + 1) 48 (bvs (pad k))) := Lib.hid (by rw [← splice_pad _ (by rw [HK.out]; exact hn)]; exact hB2)
       obtain ⟨z, hz1, hz2⟩ : ∃ z, Blk w2 w.heap.size 48 z ∧ z.length = 64 := ⟨_, ((Blk.new' (w := w) rfl rfl).alloc _).keep k2 (fun e => by unfold oneB at e; omega), rfl⟩
       have K2 : Kp nob w w2 := (((Kp.refl nob w).alloc _).alloc _).since k2 (fun i e => by unfold oneB at e; omega)
       have HZ1 := Lib.hid hz1; have HZ2 := Lib.hid hz2
       clear k2 hB2 z2 hz1 hz2)
    | (refine wpList_load_blk rfl 48 (.tmp 3) rfl _ _ _ HB2.out rfl _ arr64 rfl (by rw [HP.out]; kernel_rfl) ?_)
    | (refine wpList_store_blk rfl 48 (.tmp 2) (.tmp 17) rfl _ _ z (bvs (pad k)) HZ1.out rfl rfl (by rw [HZ2.out, HP.out]) (by rw [HP.out]; kernel_rfl) (bvs_one _) ?_; intro w3 hB3 k3 z3))
  have hsz : (Tryd.prog.info? 48).map (·.size) = some (bvs (pad k)).toArray.size := by
    rw [List.size_toArray, HP.out]; kernel_rfl
  refine bodyPost_ret (results_cell_row rfl _ _ w.heap.size _ _ _ _ rfl hB3 arr64 rfl hsz) rfl ⟨rfl, K2.since k3 (fun i e => by cases e; omega)⟩

set_option maxHeartbeats 1000000 in
set_option maxRecDepth 100000 in
theorem filled_long (A : Option Addr) (n c : Nat) (k : List UInt8) (w : World) (ht : Tabs w) (hk : k.length = n) (hr : Row w A (bvs k)) (hc : n ≤ c) (hm : c ≤ maxLen) (hn : 64 < n) (hn2 : n ≤ 1099511627776) :
    Calls Tryd.prog 24 #[.slice A n c] w fun e w' => e = .returned (.agg (bvs (pad (Sha.of k))).toArray) ∧ Kp nob w w' := by
  have d1 : decide ((64 : Int) < (n : Int)) = true := by simp; omega
  obtain ⟨D, hD⟩ : ∃ D, D = Sha.of k := ⟨_, rfl⟩
  have hdl : D.length = 32 := by rw [hD, Sha.of_length]
  rw [← hD]
  have hpl := pad_length (l := D) (by omega)
  have HP : Hid ((bvs (pad D)).length = 64) := Lib.hid (by rw [bvs_length, hpl])
  have HK := Lib.hid hk; have HD := Lib.hid hD; have HDL := Lib.hid hdl
  clear hk hpl hD hdl
  go_enter Tryd.func24, Tryd.ntmps24
  go_wp2_with fail
  have K1 := fun (o1 o2 : Obj) => ((Kp.refl nob w).alloc o1).alloc o2
  refine (Sha.of_one ⟨A, n, c, k⟩ _ _ _ (by simp) (ht.keep0 (K1 _ _)) (Sha.pcs_one HK.out ((hr.alloc _).alloc _) (.inr (fun _ _ e => e)) hc hm) (by show k.length ≤ _; rw [HK.out]; exact hn2)).mono ?_
  rintro e w2 ⟨rfl, k2⟩
  have K2 := (K1 _ _).trans k2 (fun _ e => e.elim)
  rw [show Sha.of (Pc.l ⟨A, n, c, k⟩) = D from HD.out.symm]
  have H3 : Hid (Blk w2 (w.heap.size + 1) 48 (bvs (List.replicate 64 0))) := Lib.hid ((Blk.new' (by simp) rfl).keep k2 (fun e => e))
  obtain ⟨z, hz1, hz2⟩ : ∃ z, Blk w2 w.heap.size 48 z ∧ z.length = 64 := ⟨_, ((Blk.new' (w := w) rfl rfl).alloc _).keep k2 (fun e => e), rfl⟩
  have HZ1 := Lib.hid hz1; have HZ2 := Lib.hid hz2
  clear k2 K1 hz1 hz2
  go_wp2_with (refine wpList_store_new rfl 34 (.tmp 4) (.tmp 10) rfl _ (bvs D) rfl rfl (by rw [bvs_length, HDL.out]; rfl) (by rw [bvs_length, HDL.out]; kernel_rfl) (bvs_one _) ?_
               intro w3 hB3 k3 z3
               have HB3 := Lib.hid (hB3.keep (Kp.refl nob w3).drew (fun e => e))
               have H33 := Lib.hid ((H3.out.keep k3 (fun e => e)).keep (Kp.refl nob w3).drew (fun e => e))
               have HZ3 := Lib.hid ((HZ1.out.keep k3 (fun e => e)).keep (Kp.refl nob w3).drew (fun e => e))
               have K3 := K2.trans (k3.drew) (fun _ e => e.elim)
               clear k3 hB3 z3 K2)
  go_region_law (first | (refine step_copy_blk rfl (.tmp 11) (.tmp 12) 22 22 rfl 5 u8s_under (by kernel_rfl) (w.heap.size + 1) 0 _ _ _ _ _ _ rfl rfl (bvs (List.replicate 64 0)) 48 H33.out (bvs D) (by rw [bvs_length, HDL.out]; rfl) (fun _ => rfl) (.inr ⟨w2.heap.size, 0, rfl, HB3.out.lt, fun i u hu => by rw [Nat.zero_add, HB3.out.cell]; exact hu⟩) (by simp [HDL.out]) (bvs_one _) ?_; intro w4 hB4 k4 z4))
  have HB4 : Hid (Blk w4 (w.heap.size + 1) 48 (bvs (pad D))) := Lib.hid (by rw [← splice_pad _ (by rw [HDL.out]; omega)]; exact hB4)
  have HZ4 := Lib.hid (HZ3.out.keep k4 (fun e => by unfold oneB at e; omega))
  have K4 : Kp nob w w4 := K3.since k4 (fun i e => by unfold oneB at e; omega)
  clear k4 hB4 z4
  go_wp2_with (first
    | (refine wpList_load_blk rfl 48 (.tmp 3) rfl _ _ _ HB4.out rfl _ arr64 rfl (by rw [HP.out]; kernel_rfl) ?_)
    | (refine wpList_store_blk rfl 48 (.tmp 2) (.tmp 17) rfl _ _ z (bvs (pad D)) HZ4.out rfl rfl (by rw [HZ2.out, HP.out]) (by rw [HP.out]; kernel_rfl) (bvs_one _) ?_; intro w5 hB5 k5 z5))
  have hsz : (Tryd.prog.info? 48).map (·.size) = some (bvs (pad D)).toArray.size := by
    rw [List.size_toArray, HP.out]; kernel_rfl
  refine bodyPost_ret (results_cell_row rfl _ _ w.heap.size _ _ _ _ rfl hB5 arr64 rfl hsz) rfl ⟨rfl, K4.since k5 (fun i e => by cases e; omega)⟩

theorem filled_any (A : Option Addr) (n c : Nat) (k : List UInt8) (w : World) (ht : Tabs w) (hk : k.length = n) (hr : Row w A (bvs k)) (hc : n ≤ c) (hm : c ≤ maxLen) (hn2 : n ≤ 1099511627776) :
    Calls Tryd.prog 24 #[.slice A n c] w fun e w' => e = .returned (.agg (bvs (full k)).toArray) ∧ Kp nob w w' := by
  rw [full_eq]
  by_cases h : n ≤ 64
  · rw [if_neg (by omega)]; exact filled_short A n c k w hk hr h
  · rw [if_pos (by omega)]; exact filled_long A n c k w ht hk hr hc hm (by omega) hn2
end Go.Proofs.YtnpidcehioljaaaDoor.Hmac
