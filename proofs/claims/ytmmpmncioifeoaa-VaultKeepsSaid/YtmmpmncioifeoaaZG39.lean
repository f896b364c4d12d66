/- Contracts of package gcm: Seal, Open. · Contracts of package gcm: Open. · Package vault: what makes things really: seals, and what is opened. -/
import Derived.Test.YtmmpmncioifeoaaZG38
import Derived.Test.YtmmpmncioifeoaaZG16
import Derived.BigQuiet
import Derived.Deep.QuietTactic
namespace Go.Proofs.Ytmmpmncioifeoaa.Gcm
set_option linter.unusedVariables false
set_option linter.unusedSimpArgs false
open Go Go.RowKit Kit
open Aes (gb tb tb_length arrB enc enc_length)
open Ghash (none16 none_length len16)
open Field (cb cb_inj)
open Sha (Pc PcsOk catP)

theorem seal_none (nn : List UInt8) (A : Option Addr) (n c : Nat) (B : Option Addr) (m d : Nat) (w : World) :
    Calls Try.prog 85 #[.pointer none, .agg (bvs nn).toArray, .slice A n c, .slice B m d] w fun e w' => e = .returned (.tuple #[.slice none 0 0, .int .i64 2]) ∧ Kp nob w w' := by
  go_enter Try.func85, Try.ntmps85
  go_wp2
  go_ret2
  exact ⟨rfl, (Kp.refl _ _).alloc _⟩
theorem open_none (nn : List UInt8) (A : Option Addr) (n c : Nat) (B : Option Addr) (m d : Nat) (w : World) :
    Calls Try.prog 84 #[.pointer none, .agg (bvs nn).toArray, .slice A n c, .slice B m d] w fun e w' => e = .returned (.tuple #[.slice none 0 0, .int .i64 2]) ∧ Kp nob w w' := by
  go_enter Try.func84, Try.ntmps84
  go_wp2
  go_ret2
  exact ⟨rfl, (Kp.refl _ _).alloc _⟩
/-- What is known besides, as a call hands it in. -/
structure Aad (w : World) (B : Option Addr) (m : Nat) (ps : List Pc) : Prop where
  q : ps.length = m
  r : Row w B (ps.map Pc.v)
  p : PcsOk w nob ps
  n : ∀ p ∈ ps, p.A = none → p.c = 0
  l : m ≤ 1099511627776
  c : (catP ps).length ≤ 1099511627776
theorem Aad.keep0 {w w2 : World} {B : Option Addr} {m : Nat} {ps : List Pc} (h : Aad w B m ps) (k : Kp nob w w2) : Aad w2 B m ps := ⟨h.q, h.r.keep0 k, h.p.keep0 k, h.n, h.l, h.c⟩

set_option maxHeartbeats 2000000 in
set_option maxRecDepth 100000 in
theorem seal_long (p : Nat) (nn : List UInt8) (A : Option Addr) (n c : Nat) (B : Option Addr) (m d : Nat) (ps : List Pc) (w : World) (hn : n ≤ 1099511627776) (ha : Aad w B m ps) (hx : 1048576 < n ∨ 1048576 < (catP ps).length) :
    Calls Try.prog 85 #[.pointer (some ⟨p, 0, none⟩), .agg (bvs nn).toArray, .slice A n c, .slice B m d] w fun e w' => e = .returned (.tuple #[.slice none 0 0, .int .i64 3]) ∧ Kp nob w w' := by
  have HX := Lib.hid (show (decide (1048576 < n) || decide (1048576 < (catP ps).length)) = true by simpa using hx)
  have HA := Lib.hid ha; have HN := Lib.hid hn
  clear hx ha hn
  go_enter Try.func85, Try.ntmps85
  go_wp2_with fail
  refine (long_any A n c B m d ps _ HA.out.q (HA.out.r.alloc _) (HA.out.p.keep0 ((Kp.refl nob w).alloc _)) HN.out HA.out.l HA.out.c).mono ?_
  rintro e w1 ⟨rfl, rfl⟩
  rw [HX.out]
  go_wp2
  go_ret2
  exact ⟨rfl, (Kp.refl _ _).alloc _⟩
set_option maxHeartbeats 2000000 in
set_option maxRecDepth 100000 in
theorem seal_yes [Inhabited Field.SqTab] (p : Nat) (W : List UInt8) (R : Nat) (nn l : List UInt8) (A : Option Addr) (n c : Nat) (B : Option Addr) (m d : Nat) (ps : List Pc) (w : World) (hS : SealAt w p W R) (hnn : nn.length = 12) (hl : l.length = n) (hc : n ≤ c) (hr : Row w A (bvs l)) (ha : Aad w B m ps) (hx : n ≤ 1048576) (hx2 : (catP ps).length ≤ 1048576) :
    Calls Try.prog 85 #[.pointer (some ⟨p, 0, none⟩), .agg (bvs nn).toArray, .slice A n c, .slice B m d] w fun e w' => ∃ A' c', e = .returned (.tuple #[.slice A' (n + 16) c', .int .i64 0]) ∧ Kit.Own 5 w' A' (n + 16) c' (bvs (gs W R nn l (catP ps))) ∧ Kp nob w w' ∧ ∀ k, ab A' = some k → w.heap.size ≤ k := by
  have HX := Lib.hid (show (decide (1048576 < n) || decide (1048576 < (catP ps).length)) = false by simp; omega)
  have HA := Lib.hid ha; have HNN := Lib.hid hnn; have HL := Lib.hid hl; have HR := Lib.hid hr; have HC := Lib.hid hc; have HN := Lib.hid hx; have HS := Lib.hid hS
  have HNL := Lib.hid (show (bvs nn).length = 12 by rw [bvs_length, hnn])
  obtain ⟨T, hT⟩ : ∃ T, T = stream W R nn l := ⟨_, rfl⟩
  obtain ⟨G, hG⟩ : ∃ G, G = tag W R nn (catP ps) T := ⟨_, rfl⟩
  have HGS := Lib.hid (show gs W R nn l (catP ps) = T ++ G by rw [gs_eq, hG, hT])
  have HT := Lib.hid hT; have HG := Lib.hid hG
  have HTL := Lib.hid (show T.length = n by rw [hT, stream_length, hl])
  have HGL := Lib.hid (show (bvs G).length = 16 by rw [bvs_length, hG, tag_length])
  clear hx hx2 ha hnn hl hr hc hS hT hG
  go_enter Try.func85, Try.ntmps85
  go_wp2_with fail
  refine (long_any A n c B m d ps _ HA.out.q (HA.out.r.alloc _) (HA.out.p.keep0 ((Kp.refl nob w).alloc _)) (by have := HN.out; omega) HA.out.l HA.out.c).mono ?_
  rintro e w1 ⟨rfl, rfl⟩
  rw [HX.out]
  have hn0 : Blk (w.alloc (.cells (bvs nn).toArray 53)) w.heap.size 53 (bvs nn) := Blk.new' rfl rfl
  have hk0 : Kp nob w (w.alloc (.cells (bvs nn).toArray 53)) := (Kp.refl _ _).alloc _
  have H0 := Lib.hid (And.intro hn0 hk0)
  clear hn0 hk0
  generalize w.alloc (.cells (bvs nn).toArray 53) = w1 at *
  go_wp2_with (first
    | (refine wpList_load_blk rfl 53 (.tmp 5) rfl _ _ _ H0.out.1 rfl _ arrN rfl (by rw [HNL.out]; kernel_rfl) ?_)
    | fail)
  refine (masked_any p W R nn l A n c w1 (HS.out.keep0 H0.out.2) HNN.out HL.out HC.out (by have := HN.out; omega) (HR.out.keep0 H0.out.2)).mono ?_
  rintro e w2 ⟨A2, c2, rfl, hO, k2, hA2⟩
  rw [← HT.out] at hO
  have H2 : Hid (Blk w2 w.heap.size 53 (bvs nn) ∧ Kp nob w w2) := Lib.hid ⟨H0.out.1.keep k2 (fun e => e), H0.out.2.trans k2 (fun _ e => e.elim)⟩
  have HO2 := Lib.hid hO
  have HA2 : Hid (∀ k, ab A2 = some k → w.heap.size ≤ k) := Lib.hid (fun k e => by have := hA2 k e; have := H0.out.2.size; omega)
  clear hO k2 hA2
  go_wp2_with (first
    | (refine wpList_load_blk rfl 53 (.tmp 5) rfl _ _ _ H2.out.1 rfl _ arrN rfl (by rw [HNL.out]; kernel_rfl) ?_)
    | fail)
  refine (tag_any p W R nn T A2 n c2 B m d ps w2 (HS.out.keep0 H2.out.2) HNN.out HTL.out HO2.out.cap.1 (by have := HN.out; omega) HO2.out.row HA.out.q (HA.out.r.keep0 H2.out.2) (HA.out.p.keep0 H2.out.2) HA.out.n HA.out.l HA.out.c).mono ?_
  rintro e w3 ⟨rfl, k3⟩
  rw [← HG.out]
  have HK3 := Lib.hid (H2.out.2.trans k3 (fun _ e => e.elim))
  have HO3 := Lib.hid (HO2.out.keep k3 (fun _ _ e => e))
  clear k3 H2 HO2
  have hba := block_all w3.heap.size 0
  have b1 : (n + 16) * 1 ≤ 140737488355328 := by have := HN.out; omega
  have b2 : n + 16 ≤ 140737488355328 := by have := HN.out; omega
  obtain ⟨i0, hi0, hz0, hz1, hz2⟩ := info_parts (show (Try.prog.info? 5).map (fun i => (i.zero, i.size, i.bytes)) = some (some (.int .u8 0), 1, 1) by kernel_rfl)
  have HI := Lib.hid (And.intro hi0 (And.intro hz0 (And.intro hz1 hz2)))
  clear hi0 hz0 hz1 hz2
  go_wp2_with (first
    | (refine wpList_store_new rfl 142 (.tmp 11) (.tmp 27) rfl _ (bvs G) rfl rfl (by rw [HGL.out]; rfl) (by rw [HGL.out]; kernel_rfl) (bvs_one _) ?_
       intro w4 hB4 k4 z4
       have HB4 := Lib.hid hB4
       have HK4 := Lib.hid (HK3.out.trans k4 (fun _ e => e.elim))
       have HO4 := Lib.hid (HO3.out.keep k4 (fun _ _ e => e))
       clear hB4 k4 z4)
    | (refine wpList_appR _ rfl (.tmp 28) (.tmp 29) 29 rfl 5 i0 (.int .u8 0) 1 u8s_under HI.out.1 HI.out.2.1 HI.out.2.2.1 HI.out.2.2.2 rfl A2 n c2 _ rfl HO4.out (some ⟨w3.heap.size, 0, none⟩) 16 16 (bvs G) rfl (fun e => by cases e) HGL.out HB4.out.row (bvs_one _) b1 b2 ?_
       intro A5 c5 w5 hown hg hab
       have HO5 := Lib.hid (show Kit.Own 5 w5 A5 (n + 16) c5 (bvs (gs W R nn l (catP ps))) by rw [HGS.out, bvs_append]; exact hown)
       have HK5 := Lib.hid (HK4.out.since (Kp.of_grown (F := rowF A2) hg (fun k e => e)) (fun k e => HA2.out k e))
       have HA5 : Hid (∀ k, ab A5 = some k → w.heap.size ≤ k) := Lib.hid (fun k e => by
         rcases hab with h | h
         · exact HA2.out k (by rw [← h]; exact e)
         · rw [h] at e; cases e; exact HK4.out.size)
       clear hown hg hab)
    | fail)
  go_ret2
  exact ⟨A5, c5, rfl, HO5.out, HK5.out, HA5.out⟩
end Go.Proofs.Ytmmpmncioifeoaa.Gcm
namespace Go.Proofs.Ytmmpmncioifeoaa.Gcm
set_option linter.unusedVariables false
set_option linter.unusedSimpArgs false
open Go Go.RowKit Kit
open Aes (gb tb tb_length arrB enc enc_length)
open Ghash (none16 none_length len16)
open Field (cb cb_inj)
open Sha (Pc PcsOk catP)

theorem kp_drewN {F : Nat → Prop} {a b : World} (h : Kp F a b) (k : Nat) : Kp F a (b.drewN k) := ⟨h.os, h.tape, h.output, h.size, h.block⟩
theorem open_short (p : Nat) (nn : List UInt8) (A : Option Addr) (n c : Nat) (B : Option Addr) (m d : Nat) (w : World) (hn : n < 16) :
    Calls Try.prog 84 #[.pointer (some ⟨p, 0, none⟩), .agg (bvs nn).toArray, .slice A n c, .slice B m d] w fun e w' => e = .returned (.tuple #[.slice none 0 0, .int .i64 9]) ∧ Kp nob w w' := by
  obtain ⟨I, hI⟩ : ∃ I : Int, I = (n : Int) - 16 := ⟨_, rfl⟩
  have e1 : IntKind.i64.wrap ((n : Int) - 16) = I := by rw [IntKind.wrap_i64]; omega
  have d1 : decide (I < 0) = true := by simp; omega
  clear hI hn
  go_enter Try.func84, Try.ntmps84
  go_wp2
  go_ret2
  exact ⟨rfl, (Kp.refl _ _).alloc _⟩

set_option maxHeartbeats 2000000 in
set_option maxRecDepth 100000 in
theorem open_long (p : Nat) (nn : List UInt8) (A : Option Addr) (n c : Nat) (B : Option Addr) (m d : Nat) (ps : List Pc) (w : World) (hc : n + 16 ≤ c) (hn : n ≤ 1099511627776) (ha : Aad w B m ps) (hx : 1048576 < n ∨ 1048576 < (catP ps).length) :
    Calls Try.prog 84 #[.pointer (some ⟨p, 0, none⟩), .agg (bvs nn).toArray, .slice A (n + 16) c, .slice B m d] w fun e w' => e = .returned (.tuple #[.slice none 0 0, .int .i64 3]) ∧ Kp nob w w' := by
  have HX := Lib.hid (show (decide (1048576 < n) || decide (1048576 < (catP ps).length)) = true by simpa using hx)
  have HA := Lib.hid ha; have HN := Lib.hid hn
  have hs1 := slice_to A (n + 16) c n (by omega)
  have hs2 := slice_from A (n + 16) c n (by omega)
  have e1 : IntKind.i64.wrap (((n + 16 : Nat) : Int) - 16) = (n : Int) := by rw [IntKind.wrap_i64]; omega
  have d1 : decide ((n : Int) < 0) = false := by simp
  obtain ⟨N, hN⟩ : ∃ N, N = n + 16 := ⟨_, rfl⟩
  rw [← hN] at e1 hs1 hs2 ⊢
  clear hx ha hn hc hN
  go_enter Try.func84, Try.ntmps84
  go_wp2
  go_quiet (fail)
  have hk0 : Kp nob w ((w.alloc (.cells (bvs nn).toArray 53)).drewN nq) := kp_drewN ((Kp.refl nob w).alloc _) nq
  have HK := Lib.hid hk0
  generalize (w.alloc (.cells (bvs nn).toArray 53)).drewN nq = w1 at *
  clear hk0
  go_wp2_with fail
  refine (long_any A n c B m d ps _ HA.out.q (HA.out.r.keep0 HK.out) (HA.out.p.keep0 HK.out) HN.out HA.out.l HA.out.c).mono ?_
  rintro e w2 ⟨rfl, rfl⟩
  rw [HX.out]
  go_wp2
  go_ret2
  exact ⟨rfl, HK.out⟩
set_option maxHeartbeats 2000000 in
set_option maxRecDepth 100000 in
theorem open_any [Inhabited Field.SqTab] (p : Nat) (W : List UInt8) (R : Nat) (nn l : List UInt8) (A : Option Addr) (n c : Nat) (B : Option Addr) (m d : Nat) (ps : List Pc) (w : World) (hS : SealAt w p W R) (hnn : nn.length = 12) (hl : l.length = n + 16) (hc : n + 16 ≤ c) (hr : Row w A (bvs l)) (ha : Aad w B m ps) (hx : n ≤ 1048576) (hx2 : (catP ps).length ≤ 1048576) (y : Bool) (hy : (tag W R nn (catP ps) (l.take n) == l.drop n) = y) :
    Calls Try.prog 84 #[.pointer (some ⟨p, 0, none⟩), .agg (bvs nn).toArray, .slice A (n + 16) c, .slice B m d] w fun e w' => Kp nob w w' ∧ (y = true → ∃ A' c', e = .returned (.tuple #[.slice A' n c', .int .i64 0]) ∧ Kit.Own 5 w' A' n c' (bvs (stream W R nn (l.take n))) ∧ ∀ k, ab A' = some k → w.heap.size ≤ k) ∧ (y = false → e = .returned (.tuple #[.slice none 0 0, .int .i64 9])) := by
  have HX := Lib.hid (show (decide (1048576 < n) || decide (1048576 < (catP ps).length)) = false by simp; omega)
  have HA := Lib.hid ha; have HNN := Lib.hid hnn; have HN := Lib.hid hx; have HS := Lib.hid hS
  have HNL := Lib.hid (show (bvs nn).length = 12 by rw [bvs_length, hnn])
  have hs1 := slice_to A (n + 16) c n (by omega)
  have hs2 : ∀ w, (Instr.slice 29 (.slice A (n + 16) c) (some (.int .i64 n)) none none).run Try.prog w = .ok (.slice (cutA A c n) 16 (c - n)) w := fun w => by
    have := slice_from A (n + 16) c n (by omega) w
    rw [show n + 16 - n = 16 by omega] at this; exact this
  have e1 : IntKind.i64.wrap (((n + 16 : Nat) : Int) - 16) = (n : Int) := by rw [IntKind.wrap_i64]; omega
  have d1 : decide ((n : Int) < 0) = false := by simp
  have HR1 := Lib.hid (show Row w A (bvs (l.take n)) by have := hr.take n; rw [bvs, ← List.map_take] at this; exact this)
  have HR2 := Lib.hid (show Row w (cutA A c n) (bvs (l.drop n)) by
    have := hr.cut (c := c) (k := n) (by rw [bvs_length]; omega)
    rw [bvs, ← List.map_drop] at this; exact this)
  obtain ⟨T, hT⟩ : ∃ T, T = l.take n := ⟨_, rfl⟩
  obtain ⟨D, hD⟩ : ∃ D, D = l.drop n := ⟨_, rfl⟩
  obtain ⟨G, hG⟩ : ∃ G, G = tag W R nn (catP ps) T := ⟨_, rfl⟩
  rw [← hT] at HR1; rw [← hD] at HR2
  rw [← hT, ← hD, ← hG] at hy
  rw [← hT]
  have HG := Lib.hid hG; have HY := Lib.hid hy
  have HTL := Lib.hid (show T.length = n by rw [hT, List.length_take]; omega)
  have HDL := Lib.hid (show D.length = 16 by rw [hD, List.length_drop]; omega)
  have HGL := Lib.hid (show (bvs G).length = 16 by rw [bvs_length, hG, tag_length])
  have HC := Lib.hid (show n ≤ c by omega)
  obtain ⟨N, hN⟩ : ∃ N, N = n + 16 := ⟨_, rfl⟩
  rw [← hN] at e1 hs1 hs2 ⊢
  clear hx hx2 ha hnn hl hr hc hS hG hT hD hy hN
  go_enter Try.func84, Try.ntmps84
  go_wp2
  go_quiet (fail)
  have h0 : Blk ((w.alloc (.cells (bvs nn).toArray 53)).drewN nq) w.heap.size 53 (bvs nn) ∧ Kp nob w ((w.alloc (.cells (bvs nn).toArray 53)).drewN nq) := ⟨Blk.new' (w := w) rfl rfl, kp_drewN ((Kp.refl nob w).alloc _) nq⟩
  have H0 := Lib.hid h0
  generalize (w.alloc (.cells (bvs nn).toArray 53)).drewN nq = w1 at *
  clear h0 hs1 hs2
  go_wp2_with fail
  refine (long_any A n c B m d ps _ HA.out.q (HA.out.r.keep0 H0.out.2) (HA.out.p.keep0 H0.out.2) (by have := HN.out; omega) HA.out.l HA.out.c).mono ?_
  rintro e w2 ⟨rfl, rfl⟩
  rw [HX.out]
  go_wp2_with (first
    | (refine wpList_load_blk rfl 53 (.tmp 5) rfl _ _ _ H0.out.1 rfl _ arrN rfl (by rw [HNL.out]; kernel_rfl) ?_)
    | fail)
  refine (tag_any p W R nn T A n c B m d ps w1 (HS.out.keep0 H0.out.2) HNN.out HTL.out HC.out (by have := HN.out; omega) (HR1.out.keep0 H0.out.2) HA.out.q (HA.out.r.keep0 H0.out.2) (HA.out.p.keep0 H0.out.2) HA.out.n HA.out.l HA.out.c).mono ?_
  rintro e w3 ⟨rfl, k3⟩
  rw [← HG.out]
  have H3 : Hid (Blk w3 w.heap.size 53 (bvs nn) ∧ Kp nob w w3) := Lib.hid ⟨H0.out.1.keep k3 (fun e => e), H0.out.2.trans k3 (fun _ e => e.elim)⟩
  clear k3 H0
  have hba := block_all w3.heap.size 0
  go_wp2_with (first
    | (refine wpList_store_new rfl 142 (.tmp 13) (.tmp 34) rfl _ (bvs G) rfl rfl (by rw [HGL.out]; rfl) (by rw [HGL.out]; kernel_rfl) (bvs_one _) ?_
       intro w4 hB4 k4 z4
       have H4 : Hid (Blk w4 w.heap.size 53 (bvs nn) ∧ Kp nob w w4 ∧ Blk w4 w3.heap.size 142 (bvs G)) := Lib.hid ⟨H3.out.1.keep k4 (fun e => e), H3.out.2.trans k4 (fun _ e => e.elim), hB4⟩
       clear hB4 k4 z4)
    | fail)
  refine (Tags.same_any (some ⟨w3.heap.size, 0, none⟩) 16 16 G (cutA A c n) 16 (c - n) D w4 (by have := HGL.out; rw [bvs_length] at this; exact this) H4.out.2.2.row (by omega) HDL.out (HR2.out.keep0 H4.out.2.1) (by omega)).mono ?_
  rintro e w5 ⟨rfl, rfl⟩
  rw [HY.out]
  clear hba H3
  cases y with
  | false =>
    go_wp2
    go_ret2
    exact ⟨H4.out.2.1, rfl⟩
  | true =>
    go_wp2_with (first
      | (refine wpList_load_blk rfl 53 (.tmp 5) rfl _ _ _ H4.out.1 rfl _ arrN rfl (by rw [HNL.out]; kernel_rfl) ?_)
      | fail)
    refine (masked_any p W R nn T A n c w4 (HS.out.keep0 H4.out.2.1) HNN.out HTL.out HC.out (by have := HN.out; omega) (HR1.out.keep0 H4.out.2.1)).mono ?_
    rintro e w6 ⟨A6, c6, rfl, hO, k6, hA6⟩
    have hz := H4.out.2.1.size
    go_wp2
    go_ret2
    exact ⟨H4.out.2.1.trans k6 (fun _ e => e.elim), A6, c6, rfl, hO, fun k e => by have := hA6 k e; omega⟩
end Go.Proofs.Ytmmpmncioifeoaa.Gcm
namespace Go.Proofs.Ytmmpmncioifeoaa.Vault
set_option linter.unusedVariables false
set_option linter.unusedSimpArgs false
open Go Go.RowKit Kit
open Ideal (Arg Args)
open Sha (Pc PcsOk catP)
open Gcm (SealAt Aad gs opened opened_gs gs_length tag stream)
open Aes (allW)
open Field (Sq)

def rmk : Value := .iface 73 (.agg #[])
theorem args_aad {w : World} {F : Nat → Prop} {B : Option Addr} {m : Nat} {ps : List Pc} (h : Args w F B m ps) (hl : (catP ps).length ≤ 1048576) : Aad w B m ps := ⟨h.len, h.row, h.pcs.mono (fun _ e => e.elim), h.nil, h.max, by omega⟩
theorem nonce_size (l : List UInt8) (h : l.length = 12) : (Try.prog.info? 53).map (·.size) = some (bvs l).length := by rw [bvs_length, h]; kernel_rfl
theorem key_size' (l : List UInt8) (h : l.length = 32) : (Try.prog.info? 28).map (·.size) = some (bvs l).length := by rw [bvs_length, h]; kernel_rfl
set_option maxHeartbeats 1000000 in
set_option maxRecDepth 100000 in
theorem sealerOf_any [Inhabited Field.SqTab] (key : List UInt8) (hk : key.length = 32) (w : World) (hs : Sq w) :
    Calls Try.prog 83 #[.agg (bvs key).toArray] w fun e w' => ∃ p, e = .returned (.pointer (some ⟨p, 0, none⟩)) ∧ SealAt w' p (allW key) 13 ∧ Kp nob w w' := by
  have kall := key_all w.heap.size 0 (w.alloc (.cells (bvs key).toArray 28))
  have HB := Lib.hid (Blk.new w 28 (bvs key))
  have HK := Lib.hid hk
  have k0 := (Kp.refl nob w).alloc (.cells (bvs key).toArray 28)
  have HK0 := Lib.hid k0
  have HSQ := Lib.hid (hs.keep0 k0)
  clear hk hs k0
  go_enter Try.func83, Try.ntmps83
  go_wp2_with fail
  refine (Gcm.new_yes 8 key (some ⟨w.heap.size, 0, none⟩) 32 _ HSQ.out (by rw [HK.out]) (.inr rfl) (.inr ⟨w.heap.size, 0, rfl, HB.out.lt, fun i u hu => by rw [Nat.zero_add, HB.out.cell]; exact hu⟩) (by omega)).mono ?_
  rintro e w1 ⟨p, rfl, h1, h2, h3⟩
  have H1 := Lib.hid h1; have H3 := Lib.hid (HK0.out.trans h3 (fun _ e => e.elim))
  clear h1 h2 h3 kall
  go_wp2
  go_ret
  exact ⟨p, rfl, H1.out, H3.out⟩
/-- A place's block. -/
structure Rb (w0 : World) (l : List UInt8) (w : World) : Prop where
  p : Blk w (w0.heap.size + 1) 56 (bvs l)
  k : Kp nob w0 w
theorem Rb.keep {w0 w w2 : World} {l : List UInt8} (h : Rb w0 l w) (k : Kp nob w w2) : Rb w0 l w2 := ⟨h.p.keep k (fun e => e), h.k.trans k (fun _ e => e.elim)⟩
theorem Rb.key {w0 w : World} {k n : List UInt8} (h : Rb w0 (k ++ n) w) : w.rangeAt (w0.heap.size + 1) 0 (bvs k) := fun i v hv => by
  rw [Nat.zero_add, h.p.cell, bvs_append, List.getElem?_append_left (List.getElem?_eq_some_iff.1 hv).1]; exact hv
theorem Rb.nonce {w0 w : World} {k n : List UInt8} (h : Rb w0 (k ++ n) w) (hk : k.length = 32) : w.rangeAt (w0.heap.size + 1) 32 (bvs n) := fun i v hv => by
  rw [h.p.cell, bvs_append, List.getElem?_append_right (by rw [bvs_length, hk]; omega), bvs_length, hk, show 32 + i - 32 = i by omega]; exact hv
theorem Rb.new (w0 : World) (l : List UInt8) : Rb w0 l ((w0.alloc (.cells #[] 73)).alloc (.cells (bvs l).toArray 56)).drew :=
  ⟨(Blk.new' (by simp) rfl).keep (Kp.refl nob _).drew (fun e => e), (((Kp.refl _ _).alloc _).alloc _).drew⟩
set_option maxHeartbeats 2000000 in
set_option maxRecDepth 100000 in
theorem rm_seal [Inhabited Field.SqTab] (key nonce : List UInt8) (hk : key.length = 32) (hn : nonce.length = 12) (T : Option Addr) (nt ct' : Nat) (text : List UInt8) (B : Option Addr) (m d : Nat) (ps : List Pc) (F : Nat → Prop) (w0 : World)
    (hs : Sq w0) (ht : Arg w0 nob T nt ct' text) (hp : Args w0 F B m ps) (lt : text.length ≤ 1048576) (lp : (catP ps).length ≤ 1048576) :
    Calls Try.prog 79 #[.agg #[], .agg (bvs (key ++ nonce)).toArray, .slice T nt ct', .slice B m d] w0 fun e w' => ∃ X cX, e = .returned (.tuple #[.slice X (text.length + 16) cX, .int .i64 0]) ∧ Kit.Own 5 w' X (text.length + 16) cX (bvs (gs (allW key) 13 nonce text (catP ps))) ∧ Kp nob w0 w' ∧ ∀ k, ab X = some k → w0.heap.size ≤ k := by
  have HT := Lib.hid ht; have HP := Lib.hid (args_aad hp lp)
  have HKN := Lib.hid (And.intro hk hn)
  have HLT := Lib.hid (And.intro lt lp)
  have HM := Lib.hid (Rb.new w0 (key ++ nonce))
  have HSQ := Lib.hid hs
  clear ht hp lp hk hn hs lt
  go_enter Try.func79, Try.ntmps79
  go_wp2
  generalize hw1 : ((w0.alloc (.cells #[] 73)).alloc (.cells (bvs (key ++ nonce)).toArray 56)) = wb at *
  have HS : Hid (Rb w0 (key ++ nonce) wb.drew) := HM
  clear hw1
  have HKS := Lib.hid (key_size' key HKN.out.1)
  have HNS := Lib.hid (nonce_size nonce HKN.out.2)
  refine reg_begin (Rb w0 (key ++ nonce)) (by kernel_rfl) HS.out (fun _ => ?_)
  refine reg_take (v := .pointer (some ⟨w0.heap.size + 1, 0, none⟩)) 0 (some 10) rfl rfl (by kernel_rfl) (by kernel_rfl) (by kernel_rfl) (by rfl) HS.out (fun w hw => by go_simp) ?_
  simp only [Act.put, List.setIfInBounds_toArray, List.set_cons_zero, List.set_cons_succ]
  refine reg_load 1 (some 11) 28 (.tmp 10) rfl rfl rfl (by kernel_rfl) (by kernel_rfl) (by kernel_rfl) (by rfl) HS.out (w0.heap.size + 1) 0 rfl (bvs key) _ (fun w hw => hw.key) key_under rfl HKS.out ?_
  simp only [Act.put, List.setIfInBounds_toArray, List.set_cons_zero, List.set_cons_succ]
  refine reg_take (v := .pointer (some ⟨w0.heap.size + 1, 32, none⟩)) 3 (some 13) rfl rfl (by kernel_rfl) (by kernel_rfl) (by kernel_rfl) (by rfl) HS.out (fun w hw => by go_simp) ?_
  simp only [Act.put, List.setIfInBounds_toArray, List.set_cons_zero, List.set_cons_succ]
  refine reg_load 4 (some 14) 53 (.tmp 13) rfl rfl rfl (by kernel_rfl) (by kernel_rfl) (by kernel_rfl) (by rfl) HS.out (w0.heap.size + 1) 32 rfl (bvs nonce) _ (fun w hw => hw.nonce HKN.out.1) arrN rfl HNS.out ?_
  simp only [Act.put, List.setIfInBounds_toArray, List.set_cons_zero, List.set_cons_succ]
  refine reg_take (v := .slice T nt ct') 5 (some 15) rfl rfl (by kernel_rfl) (by kernel_rfl) (by kernel_rfl) (by rfl) HS.out (fun w hw => by go_simp) ?_
  simp only [Act.put, List.setIfInBounds_toArray, List.set_cons_zero, List.set_cons_succ]
  refine reg_take (v := .slice B m d) 6 (some 16) rfl rfl (by kernel_rfl) (by kernel_rfl) (by kernel_rfl) (by rfl) HS.out (fun w hw => by go_simp) ?_
  simp only [Act.put, List.setIfInBounds_toArray, List.set_cons_zero, List.set_cons_succ]
  refine reg_call 2 (some 12) rfl rfl (by kernel_rfl) (by rfl) _ _ (exec_func 83 _ _ [.agg (bvs key).toArray] rfl (by kernel_rfl) rfl) ?_
  refine (sealerOf_any key HKN.out.1 _ (HSQ.out.keep0 HS.out.k)).mono ?_
  rintro e w2 ⟨q, rfl, h1, k2⟩
  have HS2 : Hid (Rb w0 (key ++ nonce) w2) := Lib.hid (HS.out.keep k2)
  have H1 := Lib.hid h1
  clear h1 k2 HS HM
  refine ⟨_, rfl, HS2.out, fun _ => ?_⟩
  simp only [Act.put, List.setIfInBounds_toArray, List.set_cons_zero, List.set_cons_succ]
  refine reg_call 7 (some 17) rfl rfl (by kernel_rfl) (by rfl) _ _ (exec_func 85 _ _ [.pointer (some ⟨q, 0, none⟩), .agg (bvs nonce).toArray, .slice T nt ct', .slice B m d] rfl (by kernel_rfl) rfl) ?_
  refine (Gcm.seal_yes q (allW key) 13 nonce text T nt ct' B m d ps w2 H1.out HKN.out.2 HT.out.len HT.out.cap (HT.out.row.keep0 HS2.out.k) (HP.out.keep0 HS2.out.k) (by rw [← HT.out.len]; exact HLT.out.1) HLT.out.2).mono ?_
  rintro e w3 ⟨X, cX, rfl, hx, k3, f3⟩
  rw [← HT.out.len] at hx ⊢
  have HX := Lib.hid hx
  have HFX := Lib.hid (fun k e => Nat.le_trans HS2.out.k.size (f3 k e))
  have HS3 : Hid (Rb w0 (key ++ nonce) w3) := Lib.hid (HS2.out.keep k3)
  clear hx k3 f3
  refine ⟨_, rfl, HS3.out, fun _ => ?_⟩
  simp only [Act.put, List.setIfInBounds_toArray, List.set_cons_zero, List.set_cons_succ]
  refine reg_take (v := .slice X (text.length + 16) cX) 8 (some 18) rfl rfl (by kernel_rfl) (by kernel_rfl) (by kernel_rfl) (by rfl) HS3.out (fun w hw => by go_simp) ?_
  simp only [Act.put, List.setIfInBounds_toArray, List.set_cons_zero, List.set_cons_succ]
  refine reg_take (v := .int .i64 0) 9 (some 19) rfl rfl (by kernel_rfl) (by kernel_rfl) (by kernel_rfl) (by rfl) HS3.out (fun w hw => by go_simp) ?_
  simp only [Act.put, List.setIfInBounds_toArray, List.set_cons_zero, List.set_cons_succ]
  refine reg_take (v := .slice X (text.length + 16) cX) 10 (some 8) rfl rfl (by kernel_rfl) (by kernel_rfl) (by kernel_rfl) (by rfl) HS3.out (fun w hw => by go_simp) ?_
  simp only [Act.put, List.setIfInBounds_toArray, List.set_cons_zero, List.set_cons_succ]
  refine reg_take (v := .int .i64 0) 11 (some 9) rfl rfl (by kernel_rfl) (by kernel_rfl) (by kernel_rfl) (by rfl) HS3.out (fun w hw => by go_simp) ?_
  simp only [Act.put, List.setIfInBounds_toArray, List.set_cons_zero, List.set_cons_succ]
  refine reg_end (by kernel_rfl) ?_
  go_wp2
  go_ret2
  exact ⟨X, cX, rfl, HX.out, HS3.out.k, HFX.out⟩
set_option maxHeartbeats 2000000 in
set_option maxRecDepth 100000 in
theorem rm_open [Inhabited Field.SqTab] (key nonce : List UInt8) (hk : key.length = 32) (hn : nonce.length = 12) (T : Option Addr) (nt ct' : Nat) (b text : List UInt8) (B : Option Addr) (m d : Nat) (ps : List Pc) (F : Nat → Prop) (w0 : World)
    (hs : Sq w0) (ht : Arg w0 nob T nt ct' b) (hp : Args w0 F B m ps) (lt : text.length ≤ 1048576) (hb : b = gs (allW key) 13 nonce text (catP ps)) (lp : (catP ps).length ≤ 1048576) :
    Calls Try.prog 78 #[.agg #[], .agg (bvs (key ++ nonce)).toArray, .slice T nt ct', .slice B m d] w0 fun e w' => ∃ X cX, e = .returned (.tuple #[.slice X text.length cX, .int .i64 0]) ∧ Row w' X (bvs text) ∧ Kp nob w0 w' ∧ ∀ k, ab X = some k → w0.heap.size ≤ k := by
  have HT := Lib.hid ht; have HP := Lib.hid (args_aad hp lp)
  have HKN := Lib.hid (And.intro hk hn)
  have HLT := Lib.hid (And.intro lt lp)
  have HM := Lib.hid (Rb.new w0 (key ++ nonce))
  have HSQ := Lib.hid hs
  have HBB := Lib.hid hb
  clear hb
  clear ht hp lp hk hn hs lt
  go_enter Try.func78, Try.ntmps78
  go_wp2
  generalize hw1 : ((w0.alloc (.cells #[] 73)).alloc (.cells (bvs (key ++ nonce)).toArray 56)) = wb at *
  have HS : Hid (Rb w0 (key ++ nonce) wb.drew) := HM
  clear hw1
  have HKS := Lib.hid (key_size' key HKN.out.1)
  have HNS := Lib.hid (nonce_size nonce HKN.out.2)
  refine reg_begin (Rb w0 (key ++ nonce)) (by kernel_rfl) HS.out (fun _ => ?_)
  refine reg_take (v := .pointer (some ⟨w0.heap.size + 1, 0, none⟩)) 0 (some 13) rfl rfl (by kernel_rfl) (by kernel_rfl) (by kernel_rfl) (by rfl) HS.out (fun w hw => by go_simp) ?_
  simp only [Act.put, List.setIfInBounds_toArray, List.set_cons_zero, List.set_cons_succ]
  refine reg_load 1 (some 14) 28 (.tmp 13) rfl rfl rfl (by kernel_rfl) (by kernel_rfl) (by kernel_rfl) (by rfl) HS.out (w0.heap.size + 1) 0 rfl (bvs key) _ (fun w hw => hw.key) key_under rfl HKS.out ?_
  simp only [Act.put, List.setIfInBounds_toArray, List.set_cons_zero, List.set_cons_succ]
  refine reg_take (v := .pointer (some ⟨w0.heap.size + 1, 32, none⟩)) 3 (some 16) rfl rfl (by kernel_rfl) (by kernel_rfl) (by kernel_rfl) (by rfl) HS.out (fun w hw => by go_simp) ?_
  simp only [Act.put, List.setIfInBounds_toArray, List.set_cons_zero, List.set_cons_succ]
  refine reg_load 4 (some 17) 53 (.tmp 16) rfl rfl rfl (by kernel_rfl) (by kernel_rfl) (by kernel_rfl) (by rfl) HS.out (w0.heap.size + 1) 32 rfl (bvs nonce) _ (fun w hw => hw.nonce HKN.out.1) arrN rfl HNS.out ?_
  simp only [Act.put, List.setIfInBounds_toArray, List.set_cons_zero, List.set_cons_succ]
  refine reg_take (v := .slice T nt ct') 5 (some 18) rfl rfl (by kernel_rfl) (by kernel_rfl) (by kernel_rfl) (by rfl) HS.out (fun w hw => by go_simp) ?_
  simp only [Act.put, List.setIfInBounds_toArray, List.set_cons_zero, List.set_cons_succ]
  refine reg_take (v := .slice B m d) 6 (some 19) rfl rfl (by kernel_rfl) (by kernel_rfl) (by kernel_rfl) (by rfl) HS.out (fun w hw => by go_simp) ?_
  simp only [Act.put, List.setIfInBounds_toArray, List.set_cons_zero, List.set_cons_succ]
  refine reg_call 2 (some 15) rfl rfl (by kernel_rfl) (by rfl) _ _ (exec_func 83 _ _ [.agg (bvs key).toArray] rfl (by kernel_rfl) rfl) ?_
  refine (sealerOf_any key HKN.out.1 _ (HSQ.out.keep0 HS.out.k)).mono ?_
  rintro e w2 ⟨q, rfl, h1, k2⟩
  have HS2 : Hid (Rb w0 (key ++ nonce) w2) := Lib.hid (HS.out.keep k2)
  have H1 := Lib.hid h1
  clear h1 k2 HS HM
  refine ⟨_, rfl, HS2.out, fun _ => ?_⟩
  simp only [Act.put, List.setIfInBounds_toArray, List.set_cons_zero, List.set_cons_succ]
  have hbl : b.length = text.length + 16 := by rw [HBB.out, gs_length]
  have hnt : nt = text.length + 16 := by rw [← HT.out.len, hbl]
  have hy : (tag (allW key) 13 nonce (catP ps) (b.take text.length) == b.drop text.length) = true := by
    rw [HBB.out, Gcm.gs_take, Gcm.gs_drop]; simp
  have hst : stream (allW key) 13 nonce (b.take text.length) = text := by rw [HBB.out, Gcm.gs_take, Gcm.stream_stream]
  subst hnt
  refine reg_call 7 (some 20) rfl rfl (by kernel_rfl) (by rfl) _ _ (exec_func 84 _ _ [.pointer (some ⟨q, 0, none⟩), .agg (bvs nonce).toArray, .slice T (text.length + 16) ct', .slice B m d] rfl (by kernel_rfl) rfl) ?_
  refine (Gcm.open_any q (allW key) 13 nonce b T text.length ct' B m d ps w2 H1.out HKN.out.2 hbl HT.out.cap (HT.out.row.keep0 HS2.out.k) (HP.out.keep0 HS2.out.k) HLT.out.1 HLT.out.2 true hy).mono ?_
  rintro e w3 ⟨k3, hx, _⟩
  obtain ⟨X, cX, rfl, ho, f3⟩ := hx rfl
  rw [hst] at ho
  have HX := Lib.hid ho.row
  have HFX := Lib.hid (fun k e => Nat.le_trans HS2.out.k.size (f3 k e))
  have HS3 : Hid (Rb w0 (key ++ nonce) w3) := Lib.hid (HS2.out.keep k3)
  clear ho hx k3 f3 hbl hy hst
  refine ⟨_, rfl, HS3.out, fun _ => ?_⟩
  simp only [Act.put, List.setIfInBounds_toArray, List.set_cons_zero, List.set_cons_succ]
  refine reg_take (v := .tuple #[.slice X text.length cX, .int .i64 0]) 8 (some 12) rfl rfl (by kernel_rfl) (by kernel_rfl) (by kernel_rfl) (by rfl) HS3.out (fun w hw => by go_simp) ?_
  simp only [Act.put, List.setIfInBounds_toArray, List.set_cons_zero, List.set_cons_succ]
  refine reg_take (v := .slice X text.length cX) 9 (some 21) rfl rfl (by kernel_rfl) (by kernel_rfl) (by kernel_rfl) (by rfl) HS3.out (fun w hw => by go_simp) ?_
  simp only [Act.put, List.setIfInBounds_toArray, List.set_cons_zero, List.set_cons_succ]
  refine reg_take (v := .int .i64 0) 10 (some 22) rfl rfl (by kernel_rfl) (by kernel_rfl) (by kernel_rfl) (by rfl) HS3.out (fun w hw => by go_simp) ?_
  simp only [Act.put, List.setIfInBounds_toArray, List.set_cons_zero, List.set_cons_succ]
  refine reg_take (v := .slice X text.length cX) 11 (some 10) rfl rfl (by kernel_rfl) (by kernel_rfl) (by kernel_rfl) (by rfl) HS3.out (fun w hw => by go_simp) ?_
  simp only [Act.put, List.setIfInBounds_toArray, List.set_cons_zero, List.set_cons_succ]
  refine reg_take (v := .int .i64 0) 12 (some 11) rfl rfl (by kernel_rfl) (by kernel_rfl) (by kernel_rfl) (by rfl) HS3.out (fun w hw => by go_simp) ?_
  simp only [Act.put, List.setIfInBounds_toArray, List.set_cons_zero, List.set_cons_succ]
  refine reg_end (by kernel_rfl) ?_
  go_wp2
  go_ret2
  exact ⟨X, cX, rfl, HX.out, HS3.out.k, HFX.out⟩
end Go.Proofs.Ytmmpmncioifeoaa.Vault
