/- Contracts of package gcm: Open. -/
import Derived.Test.YtbainiblffcjgaaDoorZGcmG
import Derived.BigQuiet
import Derived.Deep.QuietTactic
namespace Go.Proofs.YtbainiblffcjgaaDoor.Gcm
set_option linter.unusedVariables false
set_option linter.unusedSimpArgs false
open Go Go.RowKit Kit
open Aes (gb tb tb_length arrB enc enc_length)
open Ghash (none16 none_length len16)
open Field (cb cb_inj)
open Sha (Pc PcsOk catP)

theorem kp_drewN {F : Nat → Prop} {a b : World} (h : Kp F a b) (k : Nat) : Kp F a (b.drewN k) := ⟨h.os, h.tape, h.output, h.size, h.block⟩
theorem open_short (p : Nat) (nn : List UInt8) (A : Option Addr) (n c : Nat) (B : Option Addr) (m d : Nat) (w : World) (hn : n < 16) :
    Calls Tryd.prog 13 #[.pointer (some ⟨p, 0, none⟩), .agg (bvs nn).toArray, .slice A n c, .slice B m d] w fun e w' => e = .returned (.tuple #[.slice none 0 0, .int .i64 9]) ∧ Kp nob w w' := by
  obtain ⟨I, hI⟩ : ∃ I : Int, I = (n : Int) - 16 := ⟨_, rfl⟩
  have e1 : IntKind.i64.wrap ((n : Int) - 16) = I := by rw [IntKind.wrap_i64]; omega
  have d1 : decide (I < 0) = true := by simp; omega
  clear hI hn
  go_enter Tryd.func13, Tryd.ntmps13
  go_wp2
  go_ret2
  exact ⟨rfl, (Kp.refl _ _).alloc _⟩

set_option maxHeartbeats 2000000 in
set_option maxRecDepth 100000 in
theorem open_long (p : Nat) (nn : List UInt8) (A : Option Addr) (n c : Nat) (B : Option Addr) (m d : Nat) (ps : List Pc) (w : World) (hc : n + 16 ≤ c) (hn : n ≤ 1099511627776) (ha : Aad w B m ps) (hx : 1048576 < n ∨ 1048576 < (catP ps).length) :
    Calls Tryd.prog 13 #[.pointer (some ⟨p, 0, none⟩), .agg (bvs nn).toArray, .slice A (n + 16) c, .slice B m d] w fun e w' => e = .returned (.tuple #[.slice none 0 0, .int .i64 3]) ∧ Kp nob w w' := by
  have HX := Lib.hid (show (decide (1048576 < n) || decide (1048576 < (catP ps).length)) = true by simpa using hx)
  have HA := Lib.hid ha; have HN := Lib.hid hn
  have hs1 := slice_to A (n + 16) c n (by omega)
  have hs2 := slice_from A (n + 16) c n (by omega)
  have e1 : IntKind.i64.wrap (((n + 16 : Nat) : Int) - 16) = (n : Int) := by rw [IntKind.wrap_i64]; omega
  have d1 : decide ((n : Int) < 0) = false := by simp
  obtain ⟨N, hN⟩ : ∃ N, N = n + 16 := ⟨_, rfl⟩
  rw [← hN] at e1 hs1 hs2 ⊢
  clear hx ha hn hc hN
  go_enter Tryd.func13, Tryd.ntmps13
  go_wp2
  go_quiet (fail)
  have hk0 : Kp nob w ((w.alloc (.cells (bvs nn).toArray 38)).drewN nq) := kp_drewN ((Kp.refl nob w).alloc _) nq
  have HK := Lib.hid hk0
  generalize (w.alloc (.cells (bvs nn).toArray 38)).drewN nq = w1 at *
  clear hk0
  go_wp2_with fail
  refine (long_any A n c B m d ps _ HA.out.q (HA.out.r.keep0 HK.out) (HA.out.p.keep0 HK.out) HN.out HA.out.l HA.out.c).mono ?_
  rintro e w2 ⟨rfl, rfl⟩
  rw [HX.out]
  go_wp2
  go_ret2
  exact ⟨rfl, HK.out⟩
set_option maxHeartbeats 2000000 in
set_option maxRecDepth 100000 in
theorem open_any (p : Nat) (W : List UInt8) (R : Nat) (nn l : List UInt8) (A : Option Addr) (n c : Nat) (B : Option Addr) (m d : Nat) (ps : List Pc) (w : World) (hS : SealAt w p W R) (hnn : nn.length = 12) (hl : l.length = n + 16) (hc : n + 16 ≤ c) (hr : Row w A (bvs l)) (ha : Aad w B m ps) (hx : n ≤ 1048576) (hx2 : (catP ps).length ≤ 1048576) (y : Bool) (hy : (tag W R nn (catP ps) (l.take n) == l.drop n) = y) :
    Calls Tryd.prog 13 #[.pointer (some ⟨p, 0, none⟩), .agg (bvs nn).toArray, .slice A (n + 16) c, .slice B m d] w fun e w' => Kp nob w w' ∧ (y = true → ∃ A' c', e = .returned (.tuple #[.slice A' n c', .int .i64 0]) ∧ Kit.Own 5 w' A' n c' (bvs (stream W R nn (l.take n))) ∧ ∀ k, ab A' = some k → w.heap.size ≤ k) ∧ (y = false → e = .returned (.tuple #[.slice none 0 0, .int .i64 9])) := by
  have HX := Lib.hid (show (decide (1048576 < n) || decide (1048576 < (catP ps).length)) = false by simp; omega)
  have HA := Lib.hid ha; have HNN := Lib.hid hnn; have HN := Lib.hid hx; have HS := Lib.hid hS
  have HNL := Lib.hid (show (bvs nn).length = 12 by rw [bvs_length, hnn])
  have hs1 := slice_to A (n + 16) c n (by omega)
  have hs2 : ∀ w, (Instr.slice 24 (.slice A (n + 16) c) (some (.int .i64 n)) none none).run Tryd.prog w = .ok (.slice (cutA A c n) 16 (c - n)) w := fun w => by
    have := slice_from A (n + 16) c n (by omega) w
    rw [show n + 16 - n = 16 by omega] at this; exact this
  have e1 : IntKind.i64.wrap (((n + 16 : Nat) : Int) - 16) = (n : Int) := by rw [IntKind.wrap_i64]; omega
  have d1 : decide ((n : Int) < 0) = false := by simp
  have HR1 := Lib.hid (show Row w A (bvs (l.take n)) by have := hr.take n; rw [bvs, ← List.map_take] at this; exact this)
  have HR2 := Lib.hid (show Row w (cutA A c n) (bvs (l.drop n)) by
    have := hr.cut (c := c) (k := n) (by rw [bvs_length]; omega)
    rw [bvs, ← List.map_drop] at this; exact this)
  obtain ⟨T, hT⟩ : ∃ T, T = l.take n := ⟨_, rfl⟩
  obtain ⟨D, hD⟩ : ∃ D, D = l.drop n := ⟨_, rfl⟩
  obtain ⟨G, hG⟩ : ∃ G, G = tag W R nn (catP ps) T := ⟨_, rfl⟩
  rw [← hT] at HR1; rw [← hD] at HR2
  rw [← hT, ← hD, ← hG] at hy
  rw [← hT]
  have HG := Lib.hid hG; have HY := Lib.hid hy
  have HTL := Lib.hid (show T.length = n by rw [hT, List.length_take]; omega)
  have HDL := Lib.hid (show D.length = 16 by rw [hD, List.length_drop]; omega)
  have HGL := Lib.hid (show (bvs G).length = 16 by rw [bvs_length, hG, tag_length])
  have HC := Lib.hid (show n ≤ c by omega)
  obtain ⟨N, hN⟩ : ∃ N, N = n + 16 := ⟨_, rfl⟩
  rw [← hN] at e1 hs1 hs2 ⊢
  clear hx hx2 ha hnn hl hr hc hS hG hT hD hy hN
  go_enter Tryd.func13, Tryd.ntmps13
  go_wp2
  go_quiet (fail)
  have h0 : Blk ((w.alloc (.cells (bvs nn).toArray 38)).drewN nq) w.heap.size 38 (bvs nn) ∧ Kp nob w ((w.alloc (.cells (bvs nn).toArray 38)).drewN nq) := ⟨Blk.new' (w := w) rfl rfl, kp_drewN ((Kp.refl nob w).alloc _) nq⟩
  have H0 := Lib.hid h0
  generalize (w.alloc (.cells (bvs nn).toArray 38)).drewN nq = w1 at *
  clear h0 hs1 hs2
  go_wp2_with fail
  refine (long_any A n c B m d ps _ HA.out.q (HA.out.r.keep0 H0.out.2) (HA.out.p.keep0 H0.out.2) (by have := HN.out; omega) HA.out.l HA.out.c).mono ?_
  rintro e w2 ⟨rfl, rfl⟩
  rw [HX.out]
  go_wp2_with (first
    | (refine wpList_load_blk rfl 38 (.tmp 5) rfl _ _ _ H0.out.1 rfl _ arrN rfl (by rw [HNL.out]; kernel_rfl) ?_)
    | fail)
  refine (tag_any p W R nn T A n c B m d ps w1 (HS.out.keep0 H0.out.2) HNN.out HTL.out HC.out (by have := HN.out; omega) (HR1.out.keep0 H0.out.2) HA.out.q (HA.out.r.keep0 H0.out.2) (HA.out.p.keep0 H0.out.2) HA.out.n HA.out.l HA.out.c).mono ?_
  rintro e w3 ⟨rfl, k3⟩
  rw [← HG.out]
  have H3 : Hid (Blk w3 w.heap.size 38 (bvs nn) ∧ Kp nob w w3) := Lib.hid ⟨H0.out.1.keep k3 (fun e => e), H0.out.2.trans k3 (fun _ e => e.elim)⟩
  clear k3 H0
  have hba := block_all w3.heap.size 0
  go_wp2_with (first
    | (refine wpList_store_new rfl 51 (.tmp 13) (.tmp 34) rfl _ (bvs G) rfl rfl (by rw [HGL.out]; rfl) (by rw [HGL.out]; kernel_rfl) (bvs_one _) ?_
       intro w4 hB4 k4 z4
       have H4 : Hid (Blk w4 w.heap.size 38 (bvs nn) ∧ Kp nob w w4 ∧ Blk w4 w3.heap.size 51 (bvs G)) := Lib.hid ⟨H3.out.1.keep k4 (fun e => e), H3.out.2.trans k4 (fun _ e => e.elim), hB4⟩
       clear hB4 k4 z4)
    | fail)
  refine (Tags.same_any (some ⟨w3.heap.size, 0, none⟩) 16 16 G (cutA A c n) 16 (c - n) D w4 (by have := HGL.out; rw [bvs_length] at this; exact this) H4.out.2.2.row (by omega) HDL.out (HR2.out.keep0 H4.out.2.1) (by omega)).mono ?_
  rintro e w5 ⟨rfl, rfl⟩
  rw [HY.out]
  clear hba H3
  cases y with
  | false =>
    go_wp2
    go_ret2
    exact ⟨H4.out.2.1, rfl⟩
  | true =>
    go_wp2_with (first
      | (refine wpList_load_blk rfl 38 (.tmp 5) rfl _ _ _ H4.out.1 rfl _ arrN rfl (by rw [HNL.out]; kernel_rfl) ?_)
      | fail)
    refine (masked_any p W R nn T A n c w4 (HS.out.keep0 H4.out.2.1) HNN.out HTL.out HC.out (by have := HN.out; omega) (HR1.out.keep0 H4.out.2.1)).mono ?_
    rintro e w6 ⟨A6, c6, rfl, hO, k6, hA6⟩
    have hz := H4.out.2.1.size
    go_wp2
    go_ret2
    exact ⟨H4.out.2.1.trans k6 (fun _ e => e.elim), A6, c6, rfl, hO, fun k e => by have := hA6 k e; omega⟩
end Go.Proofs.YtbainiblffcjgaaDoor.Gcm
