/- Contracts of package ghash: a sum's value, how many bits, bytes taken in. -/
import Derived.Test.YtbainiblffcjgaaDoorZGh
import Derived.Test.YtbainiblffcjgaaDoorZGd
namespace Go.Proofs.YtbainiblffcjgaaDoor.Ghash
set_option linter.unusedVariables false
set_option linter.unusedSimpArgs false
open Go Go.RowKit Kit
open Aes (gb tb tb_length gb_tb tb_gb tb_ext tb_eq pt pt_all pt_zero pt_get pt_set bvs_setb blk_byte arr16)
open Field (cb cb_inj)

set_option maxHeartbeats 1000000 in
set_option maxRecDepth 100000 in
theorem value_any (p : Nat) (h s : List UInt8) (w : World) (hs : s.length = 16) (hS : SumAt w p h s) :
    Calls Tryd.prog 50 #[.pointer (some ⟨p, 0, none⟩)] w fun e w' => e = .returned (.agg (bvs s).toArray) ∧ Kp nob w w' := by
  have HE := Lib.hid ev_length
  have HSL := Lib.hid hs
  have HS := Lib.hid hS
  have HL := Lib.hid (show (bvs s).length = 16 by rw [bvs_length, hs])
  have HZ := Lib.hid (show (bvs none16).length = 16 from rfl)
  clear hs hS
  go_enter Tryd.func50, Tryd.ntmps50
  go_wp2_with (refine wpList_load_mid rfl 94 (.tmp 8) rfl p 2 rfl (ev s) _ (HS.out.keep ((Kp.refl nob w).alloc _) (fun e => e)).value elU rfl (by rw [HE.out]; kernel_rfl) ?_)
  refine (blockOf_any s _ HSL.out).mono ?_
  rintro e w2 ⟨rfl, k2⟩
  have hr : Blk w2 w.heap.size 51 (bvs none16) := (show Blk _ _ _ (bvs none16) from Blk.new' rfl rfl).keep k2 (fun e => e)
  have HR := Lib.hid hr
  have HK : Hid (Kp nob w w2) := Lib.hid (((Kp.refl nob w).alloc _).trans k2 (fun _ e => e.elim))
  clear hr k2
  go_wp2_with (refine wpList_store_blk rfl 51 (.tmp 2) (.tmp 10) rfl _ _ (bvs none16) (bvs s) HR.out rfl rfl (by rw [HZ.out, HL.out]) (by rw [HL.out]; kernel_rfl) (bvs_one _) ?_; intro w3 hB3 k3 z3)
  have hsz : (Tryd.prog.info? 51).map (·.size) = some (bvs s).toArray.size := by
    rw [List.size_toArray, HL.out]; kernel_rfl
  exact bodyPost_ret (results_cell_row rfl _ _ w.heap.size _ _ _ _ rfl hB3 arrB rfl hsz) rfl ⟨rfl, HK.out.since k3 (fun i e => by cases e; omega)⟩
set_option maxHeartbeats 1000000 in
set_option maxRecDepth 100000 in
theorem value_nil (w : World) :
    Calls Tryd.prog 50 #[.pointer none] w fun e w' => e = .returned (.agg (bvs none16).toArray) ∧ Kp nob w w' := by
  go_enter Tryd.func50, Tryd.ntmps50
  go_wp2
  have hsz : (Tryd.prog.info? 51).map (·.size) = some (bvs none16).toArray.size := by kernel_rfl
  exact bodyPost_ret (results_cell_row rfl _ _ w.heap.size _ _ _ _ rfl (show Blk _ _ _ (bvs none16) from Blk.new' rfl rfl) arrB rfl hsz) rfl ⟨rfl, (Kp.refl nob w).alloc _⟩
theorem bitsOf_any (A : Option Addr) (n c : Nat) (w : World) (hn : n ≤ 140737488355328) :
    Calls Tryd.prog 49 #[.slice A n c] w fun e w' => e = .returned (.int .u64 ((8 * n : Nat) : Int)) ∧ w = w' := by
  obtain ⟨m, hm⟩ : ∃ m, m = 8 * n := ⟨_, rfl⟩
  have e1 : IntKind.u64.wrap (n : Int) = (n : Int) := by rw [IntKind.wrap_u64]; omega
  have e2 : IntKind.u64.wrap (8 * (n : Int)) = (m : Int) := by rw [IntKind.wrap_u64]; omega
  rw [← hm]
  clear hm hn
  go_enter Tryd.func49, Tryd.ntmps49
  go_wp2
  go_ret
  exact ⟨rfl, rfl⟩
theorem write_nil (A : Option Addr) (n c : Nat) (w : World) :
    Calls Tryd.prog 47 #[.pointer none, .slice A n c] w fun e w' => e = .returned (.tuple #[]) ∧ w = w' := by
  go_enter Tryd.func47, Tryd.ntmps47
  go_wp2
  exact bodyPost_ret (results_none rfl _ _ _) rfl ⟨rfl, rfl⟩
theorem u8s_under : Tryd.prog.underlying 24 = some (.slice 5) := by kernel_rfl
def lenV : Value → Nat
  | .slice _ n _ => n
  | _ => 0
set_option maxHeartbeats 2000000 in
set_option maxRecDepth 100000 in
theorem write_any (p : Nat) (h s l : List UInt8) (A : Option Addr) (n c : Nat) (w : World) (hh : h.length = 16) (hs : s.length = 16) (hS : SumAt w p h s) (hn : l.length = n) (hc : n ≤ c) (hn2 : n ≤ 140737488355328) (hr : Row w A (bvs l)) (hA : l = [] ∨ ∀ k, ab A = some k → k ≠ p) :
    Calls Tryd.prog 47 #[.pointer (some ⟨p, 0, none⟩), .slice A n c] w fun e w' => e = .returned (.tuple #[]) ∧ SumAt w' p h (taken h s l) ∧ Kp (oneB p) w w' := by
  have HH := Lib.hid hh
  have HPL := Lib.hid (fun k => len16 (part_length l k))
  have HPP := Lib.hid (fun k => part_length l k)
  have HZ := Lib.hid (len16 none_length)
  have HN := Lib.hid hn; have HS := Lib.hid hS; have HR := Lib.hid hr; have HA := Lib.hid hA; have HC := Lib.hid hc; have HN2 := Lib.hid hn2
  clear hh hs hS hn hr hA hc hn2
  go_enter Tryd.func47, Tryd.ntmps47
  go_wp2
  go_loopw [1] (fun vb wr => ∃ (k : Nat) (A' : Option Addr) (c' : Nat), 16 * k ≤ n + 15 ∧ vb = .slice A' (n - 16 * k : Nat) c' ∧ n - 16 * k ≤ c' ∧ SumAt wr p h (tk h s l k) ∧ Row wr A' (bvs (l.drop (16 * k))) ∧ (l = [] ∨ ∀ j, ab A' = some j → j ≠ p) ∧ Kp (oneB p) w wr)
    (fun vb _ => lenV vb)
  case atStart => exact ⟨0, A, c, by omega, rfl, by have := HC.out; omega, by rw [tk_zero]; exact HS.out, by rw [Nat.mul_zero, List.drop_zero]; exact HR.out, HA.out, Kp.refl _ _⟩
  case round =>
    obtain ⟨k, A', c', hk, rfl, hcc, hS, hrow, hA', hkp⟩ := hrel
    have HS2 := Lib.hid hS; have HRW := Lib.hid hrow; have HA2 := Lib.hid hA'; have HKP := Lib.hid hkp
    clear hS hrow hA' hkp
    by_cases hlt : 16 * k < n
    · obtain ⟨R, hR⟩ : ∃ R, R = n - 16 * k := ⟨_, rfl⟩
      have hR0 : 0 < R := by omega
      obtain ⟨cs, hcs⟩ : ∃ cs, cs = (l.drop (16 * k)).take 16 := ⟨_, rfl⟩
      obtain ⟨r, hr⟩ : ∃ r, r = cs.length := ⟨_, rfl⟩
      have hr2 : r = min R 16 := by rw [hr, hcs, List.length_take, List.length_drop, HN.out, hR, Nat.min_comm]
      have HCL : Hid ((bvs cs).length = Nat.min R 16) := Lib.hid (by rw [bvs_length, ← hr, hr2])
      have HCR : Hid (cs.length = r) := Lib.hid hr.symm
      have HRC : Hid (Row wr A' (bvs cs)) := Lib.hid (by have := HRW.out.take 16; rwa [bvs, ← List.map_take, ← hcs] at this)
      have HPC : Hid (splice (bvs none16) 0 (bvs cs) = bvs (part l k)) := Lib.hid (by
        have := part_copied l k (by rw [HN.out]; exact hlt)
        rw [← this, splice, List.take_zero, List.nil_append, Nat.zero_add, hcs, bvs_length, List.length_take, Nat.min_comm])
      have HFIT : Hid (0 + (bvs cs).length ≤ (bvs none16).length) := Lib.hid (by rw [HZ.out, bvs_length, ← hr, hr2, Nat.zero_add]; exact Nat.min_le_right _ _)
      have HQ : Hid (R = n - 16 * k ∧ r = min R 16 ∧ 16 * k < n ∧ n - 16 * k ≤ c') := Lib.hid ⟨hR, hr2, hlt, hcc⟩
      have hcut : ∀ wx, (Instr.slice 24 (.slice A' R c') (some (.int .i64 r)) none none).run Tryd.prog wx = .ok (.slice (cutA A' c' r) (R - r) (c' - r)) wx := run_slice_from _ _ u8s_under (fun _ => by kernel_rfl) A' R c' r (by omega)
      have HG : Hid (∀ j, ab (cutA A' c' r) = some j → j ≠ p) := Lib.hid (by rw [ab_cut]; exact HA2.out.resolve_left (fun e => by have := HN.out; rw [e] at this; simp at this; omega))
      have HRN : Hid (Row wr (cutA A' c' r) (bvs (l.drop (16 * (k + 1))))) := Lib.hid (by
        have := HRW.out.cut (c := c') (k := r) (by rw [bvs_length, List.length_drop, HN.out]; exact hcc)
        rw [bvs, ← List.map_drop, List.drop_drop] at this
        by_cases h16 : R < 16
        · rw [List.drop_eq_nil_of_le (by rw [HN.out]; omega)]; exact Row.nil _ _
        · rwa [show 16 * k + r = 16 * (k + 1) by omega] at this)
      generalize cutA A' c' r = A2 at hcut HG HRN
      obtain ⟨R2, hR2⟩ : ∃ x, x = R - r := ⟨_, rfl⟩
      obtain ⟨c2, hc2⟩ : ∃ x, x = c' - r := ⟨_, rfl⟩
      rw [← hR2, ← hc2] at hcut
      have HRR := Lib.hid hR2; have HC2 := Lib.hid hc2
      rw [← hR]
      have HKS := Lib.hid (tk_succ h s l k)
      clear hR hr hr2 hcs hR2 hc2 hlt hcc hk
      obtain ⟨g7, hg7⟩ : ∃ g, g = wr.heap.size := ⟨_, rfl⟩
      have HG7 := Lib.hid hg7
      have HB7 : Hid (Blk (wr.alloc (.cells (bvs none16).toArray 51)) wr.heap.size 51 (bvs none16)) := Lib.hid (Blk.new' rfl rfl)
      clear hg7
      go_wp2_with (first
        | (refine wpList_copy_blk rfl (.tmp 11) (.tmp 12) 24 24 rfl 5 u8s_under (by kernel_rfl) wr.heap.size 0 _ _ _ _ _ _ rfl rfl (bvs none16) 51 HB7.out (bvs cs) HCL.out (fun _ => rfl) (HRC.out.alloc _) HFIT.out (bvs_one _) ?_
           rw [bvs_length, HCR.out, HPC.out]
           intro w2 hB2 k2 z2
           have HB2 := Lib.hid hB2
           have HK2 : Hid (Kp nob wr w2) := Lib.hid (((Kp.refl nob wr).alloc _).since k2 (fun i e => by unfold oneB at e; omega))
           clear hB2 k2 z2)
        | (refine wpList_load_blk rfl 51 (.tmp 4) rfl _ _ _ HB2.out rfl _ arrB rfl (by rw [HPL.out]; kernel_rfl) ?_))
      refine (elementOf_any (part l k) w2 (HPP.out k)).mono ?_
      rintro e w3 ⟨rfl, k3⟩
      have HS3 : Hid (SumAt w3 p h (tk h s l k)) := Lib.hid ((HS2.out.keep HK2.out (fun e => e)).keep k3 (fun e => e))
      have HK3 : Hid (Kp nob wr w3) := Lib.hid (HK2.out.trans k3 (fun _ e => e.elim))
      clear k3
      go_wp2_with fail
      refine (take_any p h (tk h s l k) (part l k) w3 HH.out HS3.out).mono ?_
      rintro e w4 ⟨rfl, hS4, k4⟩
      rw [← HKS.out] at hS4
      have HS4 := Lib.hid hS4
      have HK4 : Hid (Kp (oneB p) wr w4) := Lib.hid ((HK3.out.nob (oneB p)).trans k4 (fun _ e => .inl e))
      clear hS4 k4
      go_wp2
      refine ⟨⟨k + 1, A2, c2, ?_, ?_, ?_, HS4.out, HRN.out.keep HK4.out (fun j e e2 => HG.out j e e2), .inr HG.out, HKP.out.trans HK4.out (fun _ e => .inl e)⟩, ?_⟩
      · have := HQ.out; omega
      · rw [show n - 16 * (k + 1) = R2 by have := HQ.out; have := HRR.out; omega]
      · have := HQ.out; have := HRR.out; have := HC2.out; omega
      · show R2 < R; have := HRR.out; have := HQ.out; omega
    · have h0 : n - 16 * k = 0 := by omega
      have HS5 : Hid (SumAt wr p h (taken h s l)) := Lib.hid (by
        rw [taken_eq, show (l.length + 15) / 16 = k by have := HN.out; omega]; exact HS2.out)
      rw [h0]
      clear hk hlt h0
      go_wp2
      exact bodyPost_end (results_none rfl _ _ _) rfl ⟨rfl, HS5.out, HKP.out⟩
end Go.Proofs.YtbainiblffcjgaaDoor.Ghash
