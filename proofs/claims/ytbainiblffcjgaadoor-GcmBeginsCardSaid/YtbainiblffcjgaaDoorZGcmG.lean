/- Contracts of package gcm: Seal, Open. -/
import Derived.Test.YtbainiblffcjgaaDoorZGcmF
import Derived.Test.YtbainiblffcjgaaDoorZTags
namespace Go.Proofs.YtbainiblffcjgaaDoor.Gcm
set_option linter.unusedVariables false
set_option linter.unusedSimpArgs false
open Go Go.RowKit Kit
open Aes (gb tb tb_length arrB enc enc_length)
open Ghash (none16 none_length len16)
open Field (cb cb_inj)
open Sha (Pc PcsOk catP)

theorem seal_none (nn : List UInt8) (A : Option Addr) (n c : Nat) (B : Option Addr) (m d : Nat) (w : World) :
    Calls Tryd.prog 12 #[.pointer none, .agg (bvs nn).toArray, .slice A n c, .slice B m d] w fun e w' => e = .returned (.tuple #[.slice none 0 0, .int .i64 2]) ∧ Kp nob w w' := by
  go_enter Tryd.func12, Tryd.ntmps12
  go_wp2
  go_ret2
  exact ⟨rfl, (Kp.refl _ _).alloc _⟩
theorem open_none (nn : List UInt8) (A : Option Addr) (n c : Nat) (B : Option Addr) (m d : Nat) (w : World) :
    Calls Tryd.prog 13 #[.pointer none, .agg (bvs nn).toArray, .slice A n c, .slice B m d] w fun e w' => e = .returned (.tuple #[.slice none 0 0, .int .i64 2]) ∧ Kp nob w w' := by
  go_enter Tryd.func13, Tryd.ntmps13
  go_wp2
  go_ret2
  exact ⟨rfl, (Kp.refl _ _).alloc _⟩
/-- What is known besides, as a call hands it in. -/
structure Aad (w : World) (B : Option Addr) (m : Nat) (ps : List Pc) : Prop where
  q : ps.length = m
  r : Row w B (ps.map Pc.v)
  p : PcsOk w nob ps
  n : ∀ p ∈ ps, p.A = none → p.c = 0
  l : m ≤ 1099511627776
  c : (catP ps).length ≤ 1099511627776
theorem Aad.keep0 {w w2 : World} {B : Option Addr} {m : Nat} {ps : List Pc} (h : Aad w B m ps) (k : Kp nob w w2) : Aad w2 B m ps := ⟨h.q, h.r.keep0 k, h.p.keep0 k, h.n, h.l, h.c⟩

set_option maxHeartbeats 2000000 in
set_option maxRecDepth 100000 in
theorem seal_long (p : Nat) (nn : List UInt8) (A : Option Addr) (n c : Nat) (B : Option Addr) (m d : Nat) (ps : List Pc) (w : World) (hn : n ≤ 1099511627776) (ha : Aad w B m ps) (hx : 1048576 < n ∨ 1048576 < (catP ps).length) :
    Calls Tryd.prog 12 #[.pointer (some ⟨p, 0, none⟩), .agg (bvs nn).toArray, .slice A n c, .slice B m d] w fun e w' => e = .returned (.tuple #[.slice none 0 0, .int .i64 3]) ∧ Kp nob w w' := by
  have HX := Lib.hid (show (decide (1048576 < n) || decide (1048576 < (catP ps).length)) = true by simpa using hx)
  have HA := Lib.hid ha; have HN := Lib.hid hn
  clear hx ha hn
  go_enter Tryd.func12, Tryd.ntmps12
  go_wp2_with fail
  refine (long_any A n c B m d ps _ HA.out.q (HA.out.r.alloc _) (HA.out.p.keep0 ((Kp.refl nob w).alloc _)) HN.out HA.out.l HA.out.c).mono ?_
  rintro e w1 ⟨rfl, rfl⟩
  rw [HX.out]
  go_wp2
  go_ret2
  exact ⟨rfl, (Kp.refl _ _).alloc _⟩
set_option maxHeartbeats 2000000 in
set_option maxRecDepth 100000 in
theorem seal_yes (p : Nat) (W : List UInt8) (R : Nat) (nn l : List UInt8) (A : Option Addr) (n c : Nat) (B : Option Addr) (m d : Nat) (ps : List Pc) (w : World) (hS : SealAt w p W R) (hnn : nn.length = 12) (hl : l.length = n) (hc : n ≤ c) (hr : Row w A (bvs l)) (ha : Aad w B m ps) (hx : n ≤ 1048576) (hx2 : (catP ps).length ≤ 1048576) :
    Calls Tryd.prog 12 #[.pointer (some ⟨p, 0, none⟩), .agg (bvs nn).toArray, .slice A n c, .slice B m d] w fun e w' => ∃ A' c', e = .returned (.tuple #[.slice A' (n + 16) c', .int .i64 0]) ∧ Kit.Own 5 w' A' (n + 16) c' (bvs (gs W R nn l (catP ps))) ∧ Kp nob w w' ∧ ∀ k, ab A' = some k → w.heap.size ≤ k := by
  have HX := Lib.hid (show (decide (1048576 < n) || decide (1048576 < (catP ps).length)) = false by simp; omega)
  have HA := Lib.hid ha; have HNN := Lib.hid hnn; have HL := Lib.hid hl; have HR := Lib.hid hr; have HC := Lib.hid hc; have HN := Lib.hid hx; have HS := Lib.hid hS
  have HNL := Lib.hid (show (bvs nn).length = 12 by rw [bvs_length, hnn])
  obtain ⟨T, hT⟩ : ∃ T, T = stream W R nn l := ⟨_, rfl⟩
  obtain ⟨G, hG⟩ : ∃ G, G = tag W R nn (catP ps) T := ⟨_, rfl⟩
  have HGS := Lib.hid (show gs W R nn l (catP ps) = T ++ G by rw [gs_eq, hG, hT])
  have HT := Lib.hid hT; have HG := Lib.hid hG
  have HTL := Lib.hid (show T.length = n by rw [hT, stream_length, hl])
  have HGL := Lib.hid (show (bvs G).length = 16 by rw [bvs_length, hG, tag_length])
  clear hx hx2 ha hnn hl hr hc hS hT hG
  go_enter Tryd.func12, Tryd.ntmps12
  go_wp2_with fail
  refine (long_any A n c B m d ps _ HA.out.q (HA.out.r.alloc _) (HA.out.p.keep0 ((Kp.refl nob w).alloc _)) (by have := HN.out; omega) HA.out.l HA.out.c).mono ?_
  rintro e w1 ⟨rfl, rfl⟩
  rw [HX.out]
  have hn0 : Blk (w.alloc (.cells (bvs nn).toArray 38)) w.heap.size 38 (bvs nn) := Blk.new' rfl rfl
  have hk0 : Kp nob w (w.alloc (.cells (bvs nn).toArray 38)) := (Kp.refl _ _).alloc _
  have H0 := Lib.hid (And.intro hn0 hk0)
  clear hn0 hk0
  generalize w.alloc (.cells (bvs nn).toArray 38) = w1 at *
  go_wp2_with (first
    | (refine wpList_load_blk rfl 38 (.tmp 5) rfl _ _ _ H0.out.1 rfl _ arrN rfl (by rw [HNL.out]; kernel_rfl) ?_)
    | fail)
  refine (masked_any p W R nn l A n c w1 (HS.out.keep0 H0.out.2) HNN.out HL.out HC.out (by have := HN.out; omega) (HR.out.keep0 H0.out.2)).mono ?_
  rintro e w2 ⟨A2, c2, rfl, hO, k2, hA2⟩
  rw [← HT.out] at hO
  have H2 : Hid (Blk w2 w.heap.size 38 (bvs nn) ∧ Kp nob w w2) := Lib.hid ⟨H0.out.1.keep k2 (fun e => e), H0.out.2.trans k2 (fun _ e => e.elim)⟩
  have HO2 := Lib.hid hO
  have HA2 : Hid (∀ k, ab A2 = some k → w.heap.size ≤ k) := Lib.hid (fun k e => by have := hA2 k e; have := H0.out.2.size; omega)
  clear hO k2 hA2
  go_wp2_with (first
    | (refine wpList_load_blk rfl 38 (.tmp 5) rfl _ _ _ H2.out.1 rfl _ arrN rfl (by rw [HNL.out]; kernel_rfl) ?_)
    | fail)
  refine (tag_any p W R nn T A2 n c2 B m d ps w2 (HS.out.keep0 H2.out.2) HNN.out HTL.out HO2.out.cap.1 (by have := HN.out; omega) HO2.out.row HA.out.q (HA.out.r.keep0 H2.out.2) (HA.out.p.keep0 H2.out.2) HA.out.n HA.out.l HA.out.c).mono ?_
  rintro e w3 ⟨rfl, k3⟩
  rw [← HG.out]
  have HK3 := Lib.hid (H2.out.2.trans k3 (fun _ e => e.elim))
  have HO3 := Lib.hid (HO2.out.keep k3 (fun _ _ e => e))
  clear k3 H2 HO2
  have hba := block_all w3.heap.size 0
  have b1 : (n + 16) * 1 ≤ 140737488355328 := by have := HN.out; omega
  have b2 : n + 16 ≤ 140737488355328 := by have := HN.out; omega
  obtain ⟨i0, hi0, hz0, hz1, hz2⟩ := info_parts (show (Tryd.prog.info? 5).map (fun i => (i.zero, i.size, i.bytes)) = some (some (.int .u8 0), 1, 1) by kernel_rfl)
  have HI := Lib.hid (And.intro hi0 (And.intro hz0 (And.intro hz1 hz2)))
  clear hi0 hz0 hz1 hz2
  go_wp2_with (first
    | (refine wpList_store_new rfl 51 (.tmp 11) (.tmp 27) rfl _ (bvs G) rfl rfl (by rw [HGL.out]; rfl) (by rw [HGL.out]; kernel_rfl) (bvs_one _) ?_
       intro w4 hB4 k4 z4
       have HB4 := Lib.hid hB4
       have HK4 := Lib.hid (HK3.out.trans k4 (fun _ e => e.elim))
       have HO4 := Lib.hid (HO3.out.keep k4 (fun _ _ e => e))
       clear hB4 k4 z4)
    | (refine wpList_appR _ rfl (.tmp 28) (.tmp 29) 24 rfl 5 i0 (.int .u8 0) 1 u8s_under HI.out.1 HI.out.2.1 HI.out.2.2.1 HI.out.2.2.2 rfl A2 n c2 _ rfl HO4.out (some ⟨w3.heap.size, 0, none⟩) 16 16 (bvs G) rfl (fun e => by cases e) HGL.out HB4.out.row (bvs_one _) b1 b2 ?_
       intro A5 c5 w5 hown hg hab
       have HO5 := Lib.hid (show Kit.Own 5 w5 A5 (n + 16) c5 (bvs (gs W R nn l (catP ps))) by rw [HGS.out, bvs_append]; exact hown)
       have HK5 := Lib.hid (HK4.out.since (Kp.of_grown (F := rowF A2) hg (fun k e => e)) (fun k e => HA2.out k e))
       have HA5 : Hid (∀ k, ab A5 = some k → w.heap.size ≤ k) := Lib.hid (fun k e => by
         rcases hab with h | h
         · exact HA2.out k (by rw [← h]; exact e)
         · rw [h] at e; cases e; exact HK4.out.size)
       clear hown hg hab)
    | fail)
  go_ret2
  exact ⟨A5, c5, rfl, HO5.out, HK5.out, HA5.out⟩
end Go.Proofs.YtbainiblffcjgaaDoor.Gcm
