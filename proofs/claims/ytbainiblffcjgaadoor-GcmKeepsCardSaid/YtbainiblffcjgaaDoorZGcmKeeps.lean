/- GcmKeeps: what is handed in stays, and isn't kept; what is answered is new memory. -/
import Derived.Test.YtbainiblffcjgaaDoorZGcmL
import Derived.Test.YtbainiblffcjgaaDoorZGcmV
import Derived.Test.YtbainiblffcjgaaDoorZGa
namespace Go.Proofs.YtbainiblffcjgaaDoor.Gcm
set_option linter.unusedVariables false
set_option linter.unusedSimpArgs false
open Go Go.RowKit Kit
open Aes (Ciph gb tb tb_length arrB enc enc_length allW noughts)
open Ghash (none16 none_length len16)
open Field (cb cb_inj Sq)
open Sha (Pc PcsOk catP catP_one catP_nil)

theorem new_yesG (n : Nat) (key : List UInt8) (A : Option Addr) (cA : Nat) (w : World) (ht : Sq w) (hk : key.length = 4 * n) (hn : n = 4 ∨ n = 8) (hr : Row w A (bvs key)) (hc : 4 * n ≤ cA) :
    Calls Tryd.prog 10 #[.slice A (4 * n) cA] w fun e w' => ∃ p g, e = .returned (.tuple #[.pointer (some ⟨p, 0, none⟩), .int .i64 0]) ∧ Blk w' p 46 [.pointer (some ⟨g, 0, none⟩)] ∧ Ciph w' g (allW key) (n + 5) ∧ w.heap.size ≤ p ∧ w.heap.size ≤ g ∧ Kp nob w w' := by
  have HK := Lib.hid hk; have HR := Lib.hid hr; have HT := Lib.hid ht; have HN := Lib.hid hn; have HC := Lib.hid hc
  clear hk hr ht hn hc
  go_enter Tryd.func10, Tryd.ntmps10
  go_wp2_with fail
  refine (Aes.new_yes n key A cA w HT.out HK.out HN.out HR.out HC.out).mono ?_
  rintro e w1 ⟨g, rfl, hg, hge, k1⟩
  have HG := Lib.hid hg; have K1 := Lib.hid k1
  have hs := k1.size
  clear hg k1
  go_wp2
  go_ret2
  exact ⟨w1.heap.size, g, rfl, Blk.new w1 _ _, HG.out.keep0 ((Kp.refl nob w1).alloc _), hs, hge, K1.out.alloc _⟩
/-- A copy of a row: in new memory. -/
theorem copied {w1 w2 : World} {M : Option Addr} {m cM H : Nat} {l : List UInt8} (hH : H = w1.heap.size + 1) (hown : Kit.Own 5 w2 M (0 + m) cM ([] ++ bvs l)) (hg : (w1.alloc (.cells #[] 5)).grownBy w2 (some w1.heap.size)) (hab : ab M = some w1.heap.size ∨ ab M = some H) : Kit.Own 5 w2 M m cM (bvs l) ∧ Kp nob w1 w2 ∧ ∀ k, ab M = some k → w1.heap.size ≤ k := by
  refine ⟨by rw [Nat.zero_add, List.nil_append] at hown; exact hown, ((Kp.refl nob w1).alloc _).since (Kp.of_grown (F := fun k => k = w1.heap.size) hg (fun k e => by cases e; rfl)) (fun k e => Nat.le_of_eq e.symm), fun k e => ?_⟩
  rcases hab with h | h
  · rw [h] at e; cases e; exact Nat.le_refl _
  · rw [h] at e; cases e; omega
theorem own_empty (w1 : World) : Kit.Own 5 (w1.alloc (.cells #[] 5)) (some ⟨w1.heap.size, 0, none⟩) 0 0 [] := World.ownsRow_made w1 #[] 0 (Nat.zero_le _) (by simp [maxLen]) rfl

set_option maxHeartbeats 1000000 in
set_option maxRecDepth 100000 in
theorem keeps_no (l nn : List UInt8) (A : Option Addr) (n c : Nat) (B : Option Addr) (m d : Nat) (w : World) (ht : Sq w) (h : 1024 < n ∨ 1024 < m) :
    Calls Tryd.prog 7 #[.agg (bvs l).toArray, .agg (bvs nn).toArray, .slice A n c, .slice B m d] w fun e w' => e = .returned (.bool true) ∧ Kp nob w w' := by
  have HT := Lib.hid ht; clear ht
  go_enter Tryd.func7, Tryd.ntmps7
  go_wp2_with fail
  refine (alive_yes _ (HT.out.keep0 (((Kp.refl nob w).alloc _).alloc _))).mono ?_
  rintro e w1 ⟨rfl, k1⟩
  have K1 := Lib.hid ((((Kp.refl nob w).alloc (.cells (bvs l).toArray 22)).alloc (.cells (bvs nn).toArray 23)).trans k1 (fun _ e => e.elim)); clear k1
  by_cases h1 : 1024 < n
  · have d1 : decide ((1024 : Int) < (n : Int)) = true := by simp; omega
    clear h1 h
    go_wp2
    go_ret
    exact ⟨rfl, K1.out⟩
  · have d1 : decide ((1024 : Int) < (n : Int)) = false := by simp; omega
    have d2 : decide ((1024 : Int) < (m : Int)) = true := by simp; omega
    clear h1 h
    go_wp2
    go_ret
    exact ⟨rfl, K1.out⟩
set_option maxHeartbeats 4000000 in
set_option maxRecDepth 100000 in
theorem keeps_yes (l nn : List UInt8) (A : Option Addr) (n c : Nat) (x : List UInt8) (B : Option Addr) (m d : Nat) (o : List UInt8) (w : World) (ht : Sq w) (hl : l.length = 32) (hnn : nn.length = 12)
    (h1 : x.length = n) (h2 : A = none → c = 0) (h3 : Row w A (bvs x)) (h4 : n ≤ c) (g1 : o.length = m) (g2 : B = none → d = 0) (g3 : Row w B (bvs o)) (g4 : m ≤ d) (hn : n ≤ 1024) (hm : m ≤ 1024) :
    Calls Tryd.prog 7 #[.agg (bvs l).toArray, .agg (bvs nn).toArray, .slice A n c, .slice B m d] w fun e w' => e = .returned (.bool true) ∧ Kp nob w w' := by
  have HT := Lib.hid ht; have HL := Lib.hid hl; have HNN := Lib.hid hnn
  have HNL := Lib.hid (show (bvs nn).length = 12 by rw [bvs_length, hnn])
  have HKL := Lib.hid (show (bvs l).length = 32 by rw [bvs_length, hl])
  have HXL := Lib.hid (show (bvs x).length = n by rw [bvs_length, h1])
  have HOL := Lib.hid (show (bvs o).length = m by rw [bvs_length, g1])
  have HX := Lib.hid (And.intro h1 (And.intro h3 h4)); have HO := Lib.hid (And.intro g1 (And.intro g2 (And.intro g3 g4))); have HB := Lib.hid (And.intro hn hm); have HNA := Lib.hid h2; have HNB := Lib.hid g2
  have d1 : decide ((1024 : Int) < (n : Int)) = false := by simp; omega
  have d2 : decide ((1024 : Int) < (m : Int)) = false := by simp; omega
  have hka := key_all w.heap.size 0
  obtain ⟨i0, hi, z0, z1, z2⟩ := info_parts (show (Tryd.prog.info? 5).map (fun i => (i.zero, i.size, i.bytes)) = some (some (.int .u8 0), 1, 1) by kernel_rfl)
  have HI := Lib.hid (And.intro hi (And.intro z0 (And.intro z1 z2)))
  obtain ⟨W, hW⟩ : ∃ W, W = allW l := ⟨_, rfl⟩
  obtain ⟨Y, hop⟩ : ∃ Y, Y = gs W 13 nn x o := ⟨_, rfl⟩
  have HYL := Lib.hid (show Y.length = n + 16 by rw [hop, gs_length, h1])
  have HYL2 := Lib.hid (show (bvs Y).length = n + 16 by rw [bvs_length, hop, gs_length, h1])
  have HW := Lib.hid hW; have HOP := Lib.hid hop
  clear ht hl hnn h1 h2 h3 h4 g1 g2 g3 g4 hn hm hW hop hi z0 z1 z2
  go_enter Tryd.func7, Tryd.ntmps7
  go_wp2_with fail
  refine (alive_yes _ (HT.out.keep0 (((Kp.refl nob w).alloc _).alloc _))).mono ?_
  rintro e w1 ⟨rfl, k1⟩
  have H1 : Hid (Blk w1 w.heap.size 22 (bvs l) ∧ Blk w1 (w.heap.size + 1) 23 (bvs nn) ∧ Kp nob w w1) := Lib.hid ⟨((Blk.new w _ _).alloc _).keep k1 (fun e => e), (Blk.new' (by simp) rfl).keep k1 (fun e => e), (((Kp.refl nob w).alloc _).alloc _).trans k1 (fun _ e => e.elim)⟩
  clear k1
  go_wp2_with (first
    | (refine wpList_appR _ rfl (.tmp 33) (.tmp 34) 24 rfl 5 i0 (.int .u8 0) 1 u8s_under HI.out.1 HI.out.2.1 HI.out.2.2.1 HI.out.2.2.2 rfl (some ⟨w1.heap.size, 0, none⟩) 0 0 [] rfl (own_empty w1) (some ⟨w.heap.size, 0, none⟩) 32 32 (bvs l) rfl (fun e => by cases e) HKL.out (H1.out.1.row.alloc _) (bvs_one _) (by omega) (by omega) ?_
       intro M cM w2 hown hg hab
       have HM := Lib.hid (copied (by simp) hown hg hab)
       clear hown hg hab)
    | (refine wpList_appR _ rfl (.tmp 36) (.tmp 37) 24 rfl 5 i0 (.int .u8 0) 1 u8s_under HI.out.1 HI.out.2.1 HI.out.2.2.1 HI.out.2.2.2 rfl (some ⟨w2.heap.size, 0, none⟩) 0 0 [] rfl (own_empty w2) A n c (bvs x) rfl HNA.out HXL.out ((HX.out.2.1.keep0 (H1.out.2.2.trans HM.out.2.1 (fun _ e => e.elim))).alloc _) (bvs_one _) (by have := HB.out; omega) (by have := HB.out; omega) ?_
       intro T cT w3 hown hg hab
       have HTT := Lib.hid (copied (by simp) hown hg hab)
       clear hown hg hab)
    | (refine wpList_appR _ rfl (.tmp 39) (.tmp 40) 24 rfl 5 i0 (.int .u8 0) 1 u8s_under HI.out.1 HI.out.2.1 HI.out.2.2.1 HI.out.2.2.2 rfl (some ⟨w3.heap.size, 0, none⟩) 0 0 [] rfl (own_empty w3) B m d (bvs o) rfl HNB.out HOL.out ((HO.out.2.2.1.keep0 (H1.out.2.2.trans (HM.out.2.1.trans HTT.out.2.1 (fun _ e => e.elim)) (fun _ e => e.elim))).alloc _) (bvs_one _) (by have := HB.out; omega) (by have := HB.out; omega) ?_
       intro Q cQ w4 hown hg hab
       have HAA := Lib.hid (copied (by simp) hown hg hab)
       clear hown hg hab)
    | fail)
  have K4 := Lib.hid (HM.out.2.1.trans (HTT.out.2.1.trans HAA.out.2.1 (fun _ e => e.elim)) (fun _ e => e.elim))
  have H4 : Hid (Kp nob w w4 ∧ Blk w4 w.heap.size 22 (bvs l) ∧ Blk w4 (w.heap.size + 1) 23 (bvs nn) ∧ Kit.Own 5 w4 M 32 cM (bvs l) ∧ Row w4 T (bvs x) ∧ Row w4 Q (bvs o) ∧ n ≤ cT ∧ m ≤ cQ ∧ cQ ≤ maxLen ∧ (Q = none → cQ = 0)) := Lib.hid ⟨H1.out.2.2.trans K4.out (fun _ e => e.elim), H1.out.1.keep K4.out (fun e => e), H1.out.2.1.keep K4.out (fun e => e), (HM.out.1.keep HTT.out.2.1 (fun _ _ e => e)).keep HAA.out.2.1 (fun _ _ e => e), HTT.out.1.row.keep0 HAA.out.2.1, HAA.out.1.row, HTT.out.1.cap.1, HAA.out.1.cap.1, HAA.out.1.cap.2, HAA.out.1.none_⟩
  have HMB : Hid (∀ k, ab M = some k → w1.heap.size ≤ k ∧ k < w2.heap.size) := Lib.hid (fun k e => ⟨HM.out.2.2 k e, HM.out.1.lt k e⟩)
  have HTB : Hid (∀ k, ab T = some k → w2.heap.size ≤ k ∧ k < w4.heap.size) := Lib.hid (fun k e => ⟨HTT.out.2.2 k e, Nat.lt_of_lt_of_le (HTT.out.1.lt k e) HAA.out.2.1.size⟩)
  have HQB : Hid (∀ k, ab Q = some k → w2.heap.size ≤ k ∧ k < w4.heap.size) := Lib.hid (fun k e => ⟨Nat.le_trans HTT.out.2.1.size (HAA.out.2.2 k e), HAA.out.1.lt k e⟩)
  have HZ4 := Lib.hid (show w.heap.size + 1 < w1.heap.size ∧ w2.heap.size ≤ w4.heap.size from ⟨H1.out.2.1.lt, Nat.le_trans HTT.out.2.1.size HAA.out.2.1.size⟩)
  have HMN := Lib.hid (show M = none → False from fun e => by
    obtain ⟨bb, hb, _⟩ := HM.out.1.at_ (i := 0) (by omega)
    rw [hb] at e; cases e)
  clear HM HTT HAA K4 H1
  go_wp2_with fail
  refine (new_yesG 8 l M cM w4 (HT.out.keep0 H4.out.1) HL.out (.inr rfl) H4.out.2.2.2.1.row H4.out.2.2.2.1.cap.1).mono ?_
  rintro e w5 ⟨p, g, rfl, hp, hg, hpz, hgz, k5⟩
  rw [← HW.out] at hg
  have H5 : Hid (Kp nob w w5 ∧ Blk w5 w.heap.size 22 (bvs l) ∧ Blk w5 (w.heap.size + 1) 23 (bvs nn) ∧ Kit.Own 5 w5 M 32 cM (bvs l) ∧ Row w5 T (bvs x) ∧ Row w5 Q (bvs o) ∧ Blk w5 p 46 [.pointer (some ⟨g, 0, none⟩)] ∧ Ciph w5 g W 13) := Lib.hid ⟨H4.out.1.trans k5 (fun _ e => e.elim), H4.out.2.1.keep k5 (fun e => e), H4.out.2.2.1.keep k5 (fun e => e), H4.out.2.2.2.1.keep k5 (fun _ _ e => e), H4.out.2.2.2.2.1.keep0 k5, H4.out.2.2.2.2.2.1.keep0 k5, hp, hg⟩
  have HC4 := Lib.hid H4.out.2.2.2.2.2.2
  have HZ5 := Lib.hid (show w4.heap.size ≤ p ∧ p < w5.heap.size ∧ w4.heap.size ≤ g ∧ g < w5.heap.size from ⟨hpz, hp.lt, hgz, hg.lt⟩)
  clear hp hg hpz hgz k5 H4
  go_wp2_with (first
    | (refine wpList_load_blk rfl 23 (.tmp 5) rfl _ _ _ H5.out.2.2.1 rfl _ arr12 rfl (by rw [HNL.out]; kernel_rfl) ?_)
    | fail)
  have ha := aad_one (w := w5) ⟨Q, m, cQ, o⟩ HO.out.1 H5.out.2.2.2.2.2.1 HC4.out.2.1 HC4.out.2.2.1 HC4.out.2.2.2 (by have := HB.out; show m ≤ _; omega)
  have k56 : Kp nob w5 (w5.alloc (.cells #[.slice Q m cQ] 24)) := (Kp.refl nob w5).alloc _
  refine (seal_yes p W 13 nn x T n cT _ 1 1 _ _ ⟨g, H5.out.2.2.2.2.2.2.1.keep k56 (fun e => e), H5.out.2.2.2.2.2.2.2.keep0 k56⟩ HNN.out HX.out.1 HC4.out.1 (H5.out.2.2.2.2.1.keep0 k56) ha (by have := HB.out; omega) (by rw [catP_one]; show o.length ≤ _; have := HB.out; have := HO.out.1; omega)).mono ?_
  rintro e w6 ⟨A6, c6, rfl, hO6, k6, hA6⟩
  rw [catP_one, ← HOP.out] at hO6
  have k := k56.trans k6 (fun _ e => e.elim)
  have H6 : Hid (Kp nob w w6 ∧ Blk w6 w.heap.size 22 (bvs l) ∧ Blk w6 (w.heap.size + 1) 23 (bvs nn) ∧ Kit.Own 5 w6 M 32 cM (bvs l) ∧ Row w6 T (bvs x) ∧ Row w6 Q (bvs o) ∧ Blk w6 p 46 [.pointer (some ⟨g, 0, none⟩)] ∧ Ciph w6 g W 13 ∧ Row w6 A6 (bvs Y)) := Lib.hid ⟨H5.out.1.trans k (fun _ e => e.elim), H5.out.2.1.keep k (fun e => e), H5.out.2.2.1.keep k (fun e => e), H5.out.2.2.2.1.keep k (fun _ _ e => e), H5.out.2.2.2.2.1.keep0 k, H5.out.2.2.2.2.2.1.keep0 k, H5.out.2.2.2.2.2.2.1.keep k (fun e => e), H5.out.2.2.2.2.2.2.2.keep0 k, hO6.row⟩
  have H6B : Hid (w5.heap.size ≤ w6.heap.size ∧ ∀ k, ab A6 = some k → w5.heap.size ≤ k ∧ k < w6.heap.size) := Lib.hid ⟨k.size, fun j e => ⟨by have := hA6 j e; have := k56.size; omega, hO6.lt j e⟩⟩
  have HN6 := Lib.hid hO6.none_
  clear ha k56 k6 k hO6 hA6 H5
  go_wp2_with (first
    | (refine wpList_appR _ rfl (.tmp 56) (.tmp 57) 24 rfl 5 i0 (.int .u8 0) 1 u8s_under HI.out.1 HI.out.2.1 HI.out.2.2.1 HI.out.2.2.2 rfl (some ⟨w6.heap.size, 0, none⟩) 0 0 [] rfl (own_empty w6) A6 (n + 16) c6 (bvs Y) rfl HN6.out HYL2.out (H6.out.2.2.2.2.2.2.2.2.alloc _) (bvs_one _) (by have := HB.out; omega) (by have := HB.out; omega) ?_
       intro C cC w7 hown hg hab
       have HCC := Lib.hid (copied (by simp) hown hg hab)
       clear hown hg hab)
    | (refine wpList_load_blk rfl 23 (.tmp 5) rfl _ _ _ (H6.out.2.2.1.keep HCC.out.2.1 (fun e => e)) rfl _ arr12 rfl (by rw [HNL.out]; kernel_rfl) ?_)
    | fail)
  have H7 : Hid (Kp nob w w7 ∧ Blk w7 w.heap.size 22 (bvs l) ∧ Blk w7 (w.heap.size + 1) 23 (bvs nn) ∧ Kit.Own 5 w7 M 32 cM (bvs l) ∧ Row w7 T (bvs x) ∧ Row w7 Q (bvs o) ∧ Blk w7 p 46 [.pointer (some ⟨g, 0, none⟩)] ∧ Ciph w7 g W 13 ∧ Row w7 A6 (bvs Y) ∧ Kit.Own 5 w7 C (n + 16) cC (bvs Y)) := Lib.hid (have k := HCC.out.2.1; ⟨H6.out.1.trans k (fun _ e => e.elim), H6.out.2.1.keep k (fun e => e), H6.out.2.2.1.keep k (fun e => e), H6.out.2.2.2.1.keep k (fun _ _ e => e), H6.out.2.2.2.2.1.keep0 k, H6.out.2.2.2.2.2.1.keep0 k, H6.out.2.2.2.2.2.2.1.keep k (fun e => e), H6.out.2.2.2.2.2.2.2.1.keep0 k, H6.out.2.2.2.2.2.2.2.2.keep0 k, HCC.out.1⟩)
  have H7B : Hid (∀ k, ab C = some k → w6.heap.size ≤ k ∧ k < w7.heap.size) := Lib.hid (fun k e => ⟨HCC.out.2.2 k e, HCC.out.1.lt k e⟩)
  clear HCC H6
  have ha := aad_one (w := w7) ⟨Q, m, cQ, o⟩ HO.out.1 H7.out.2.2.2.2.2.1 HC4.out.2.1 HC4.out.2.2.1 HC4.out.2.2.2 (by have := HB.out; show m ≤ _; omega)
  have k78 : Kp nob w7 (w7.alloc (.cells #[.slice Q m cQ] 24)) := (Kp.refl nob w7).alloc _
  refine (open_any p W 13 nn Y C n cC _ 1 1 _ _ ⟨g, H7.out.2.2.2.2.2.2.1.keep k78 (fun e => e), H7.out.2.2.2.2.2.2.2.1.keep0 k78⟩ HNN.out HYL.out H7.out.2.2.2.2.2.2.2.2.2.cap.1 (H7.out.2.2.2.2.2.2.2.2.2.row.keep0 k78) ha (by have := HB.out; omega) (by rw [catP_one]; show o.length ≤ _; have := HB.out; have := HO.out.1; omega) true (by rw [catP_one, HOP.out, gs_take_at _ _ _ _ _ _ HX.out.1, gs_drop_at _ _ _ _ _ _ HX.out.1]; exact beq_self_eq_true _)).mono ?_
  rintro e w8 ⟨k8, h8, _⟩
  obtain ⟨X, cX, rfl, hOX, hAX⟩ := h8 rfl
  rw [HOP.out, gs_take_at _ _ _ _ _ _ HX.out.1, stream_stream] at hOX
  have k := k78.trans k8 (fun _ e => e.elim)
  have H8 : Hid (Kp nob w w8 ∧ Blk w8 w.heap.size 22 (bvs l) ∧ Blk w8 (w.heap.size + 1) 23 (bvs nn) ∧ Kit.Own 5 w8 M 32 cM (bvs l) ∧ Row w8 T (bvs x) ∧ Row w8 Q (bvs o) ∧ Blk w8 p 46 [.pointer (some ⟨g, 0, none⟩)] ∧ Ciph w8 g W 13 ∧ Row w8 A6 (bvs Y) ∧ Kit.Own 5 w8 C (n + 16) cC (bvs Y) ∧ Row w8 X (bvs x)) := Lib.hid ⟨H7.out.1.trans k (fun _ e => e.elim), H7.out.2.1.keep k (fun e => e), H7.out.2.2.1.keep k (fun e => e), H7.out.2.2.2.1.keep k (fun _ _ e => e), H7.out.2.2.2.2.1.keep0 k, H7.out.2.2.2.2.2.1.keep0 k, H7.out.2.2.2.2.2.2.1.keep k (fun e => e), H7.out.2.2.2.2.2.2.2.1.keep0 k, H7.out.2.2.2.2.2.2.2.2.1.keep0 k, H7.out.2.2.2.2.2.2.2.2.2.keep k (fun _ _ e => e), hOX.row⟩
  have H8B : Hid (∀ k, ab X = some k → w7.heap.size ≤ k) := Lib.hid (fun j e => by have := hAX j e; have := k78.size; omega)
  clear ha k78 k8 h8 k hOX hAX H7
  go_wp2
  have HS0 := Lib.hid (show Kp nob w8 w8.drew from (Kp.refl nob w8).drew)
  refine reg_begin (fun w' => Kp nob w8 w') (by kernel_rfl) HS0.out (fun _ => ?_)
  generalize w8.drew = wd at *
  refine reg_take (v := .slice T n cT) 0 (some 68) rfl rfl (by kernel_rfl) (by kernel_rfl) (by kernel_rfl) (by rfl) HS0.out (fun w hw => by go_simp) ?_
  simp only [Act.put, List.setIfInBounds_toArray, List.set_cons_zero, List.set_cons_succ]
  refine reg_bytesStr 1 (some 69) 24 9 5 (.tmp 68) rfl rfl rfl (by kernel_rfl) (by kernel_rfl) (by kernel_rfl) (by rfl) HS0.out u8s_under (by kernel_rfl) (by kernel_rfl) T n cT x HX.out.1 rfl (fun _ zz => H8.out.2.2.2.2.1.keep0 zz) ?_
  simp only [Act.put, List.setIfInBounds_toArray, List.set_cons_zero, List.set_cons_succ]
  refine reg_take (v := .slice A n c) 2 (some 70) rfl rfl (by kernel_rfl) (by kernel_rfl) (by kernel_rfl) (by rfl) HS0.out (fun w hw => by go_simp) ?_
  simp only [Act.put, List.setIfInBounds_toArray, List.set_cons_zero, List.set_cons_succ]
  refine reg_bytesStr 3 (some 71) 24 9 5 (.tmp 70) rfl rfl rfl (by kernel_rfl) (by kernel_rfl) (by kernel_rfl) (by rfl) HS0.out u8s_under (by kernel_rfl) (by kernel_rfl) A n c x HX.out.1 rfl (fun _ zz => HX.out.2.1.keep0 (H8.out.1.trans zz (fun _ e => e.elim))) ?_
  simp only [Act.put, List.setIfInBounds_toArray, List.set_cons_zero, List.set_cons_succ]
  refine reg_take (v := .bool false) 4 (some 72) rfl rfl (by kernel_rfl) (by kernel_rfl) (by kernel_rfl) (by rfl) HS0.out (fun w hw => by go_simp) ?_
  simp only [Act.put, List.setIfInBounds_toArray, List.set_cons_zero, List.set_cons_succ]
  refine reg_take (v := .bool false) 5 (some 73) rfl rfl (by kernel_rfl) (by kernel_rfl) (by kernel_rfl) (by rfl) HS0.out (fun w hw => by go_simp) ?_
  simp only [Act.put, List.setIfInBounds_toArray, List.set_cons_zero, List.set_cons_succ]
  refine reg_take (v := .slice Q m cQ) 6 (some 74) rfl rfl (by kernel_rfl) (by kernel_rfl) (by kernel_rfl) (by rfl) HS0.out (fun w hw => by go_simp) ?_
  simp only [Act.put, List.setIfInBounds_toArray, List.set_cons_zero, List.set_cons_succ]
  refine reg_bytesStr 7 (some 75) 24 9 5 (.tmp 74) rfl rfl rfl (by kernel_rfl) (by kernel_rfl) (by kernel_rfl) (by rfl) HS0.out u8s_under (by kernel_rfl) (by kernel_rfl) Q m cQ o HO.out.1 rfl (fun _ zz => H8.out.2.2.2.2.2.1.keep0 zz) ?_
  simp only [Act.put, List.setIfInBounds_toArray, List.set_cons_zero, List.set_cons_succ]
  refine reg_take (v := .slice B m d) 8 (some 76) rfl rfl (by kernel_rfl) (by kernel_rfl) (by kernel_rfl) (by rfl) HS0.out (fun w hw => by go_simp) ?_
  simp only [Act.put, List.setIfInBounds_toArray, List.set_cons_zero, List.set_cons_succ]
  refine reg_bytesStr 9 (some 77) 24 9 5 (.tmp 76) rfl rfl rfl (by kernel_rfl) (by kernel_rfl) (by kernel_rfl) (by rfl) HS0.out u8s_under (by kernel_rfl) (by kernel_rfl) B m d o HO.out.1 rfl (fun _ zz => HO.out.2.2.1.keep0 (H8.out.1.trans zz (fun _ e => e.elim))) ?_
  simp only [Act.put, List.setIfInBounds_toArray, List.set_cons_zero, List.set_cons_succ]
  refine reg_take (v := .bool false) 10 (some 78) rfl rfl (by kernel_rfl) (by kernel_rfl) (by kernel_rfl) (by rfl) HS0.out (fun w hw => by go_simp) ?_
  simp only [Act.put, List.setIfInBounds_toArray, List.set_cons_zero, List.set_cons_succ]
  refine reg_take (v := .bool false) 11 (some 79) rfl rfl (by kernel_rfl) (by kernel_rfl) (by kernel_rfl) (by rfl) HS0.out (fun w hw => by go_simp) ?_
  simp only [Act.put, List.setIfInBounds_toArray, List.set_cons_zero, List.set_cons_succ]
  refine reg_take (v := .bool false) 12 (some 80) rfl rfl (by kernel_rfl) (by kernel_rfl) (by kernel_rfl) (by rfl) HS0.out (fun w hw => by go_simp) ?_
  simp only [Act.put, List.setIfInBounds_toArray, List.set_cons_zero, List.set_cons_succ]
  refine reg_take (v := .slice C (n + 16) cC) 13 (some 81) rfl rfl (by kernel_rfl) (by kernel_rfl) (by kernel_rfl) (by rfl) HS0.out (fun w hw => by go_simp) ?_
  simp only [Act.put, List.setIfInBounds_toArray, List.set_cons_zero, List.set_cons_succ]
  refine reg_bytesStr 14 (some 82) 24 9 5 (.tmp 81) rfl rfl rfl (by kernel_rfl) (by kernel_rfl) (by kernel_rfl) (by rfl) HS0.out u8s_under (by kernel_rfl) (by kernel_rfl) C (n + 16) cC Y HYL.out rfl (fun _ zz => H8.out.2.2.2.2.2.2.2.2.2.1.row.keep0 zz) ?_
  simp only [Act.put, List.setIfInBounds_toArray, List.set_cons_zero, List.set_cons_succ]
  refine reg_take (v := .slice A6 (n + 16) c6) 15 (some 83) rfl rfl (by kernel_rfl) (by kernel_rfl) (by kernel_rfl) (by rfl) HS0.out (fun w hw => by go_simp) ?_
  simp only [Act.put, List.setIfInBounds_toArray, List.set_cons_zero, List.set_cons_succ]
  refine reg_bytesStr 16 (some 84) 24 9 5 (.tmp 83) rfl rfl rfl (by kernel_rfl) (by kernel_rfl) (by kernel_rfl) (by rfl) HS0.out u8s_under (by kernel_rfl) (by kernel_rfl) A6 (n + 16) c6 Y HYL.out rfl (fun _ zz => H8.out.2.2.2.2.2.2.2.2.1.keep0 zz) ?_
  simp only [Act.put, List.setIfInBounds_toArray, List.set_cons_zero, List.set_cons_succ]
  refine reg_take (v := .bool false) 17 (some 85) rfl rfl (by kernel_rfl) (by kernel_rfl) (by kernel_rfl) (by rfl) HS0.out (fun w hw => by go_simp) ?_
  simp only [Act.put, List.setIfInBounds_toArray, List.set_cons_zero, List.set_cons_succ]
  refine reg_take (v := .bool false) 18 (some 86) rfl rfl (by kernel_rfl) (by kernel_rfl) (by kernel_rfl) (by rfl) HS0.out (fun w hw => by go_simp) ?_
  simp only [Act.put, List.setIfInBounds_toArray, List.set_cons_zero, List.set_cons_succ]
  refine reg_take (v := .bool false) 19 (some 87) rfl rfl (by kernel_rfl) (by kernel_rfl) (by kernel_rfl) (by rfl) HS0.out (fun w hw => by go_simp) ?_
  simp only [Act.put, List.setIfInBounds_toArray, List.set_cons_zero, List.set_cons_succ]
  refine reg_take (v := .slice M 32 cM) 20 (some 88) rfl rfl (by kernel_rfl) (by kernel_rfl) (by kernel_rfl) (by rfl) HS0.out (fun w hw => by go_simp) ?_
  simp only [Act.put, List.setIfInBounds_toArray, List.set_cons_zero, List.set_cons_succ]
  refine reg_bytesStr 21 (some 89) 24 9 5 (.tmp 88) rfl rfl rfl (by kernel_rfl) (by kernel_rfl) (by kernel_rfl) (by rfl) HS0.out u8s_under (by kernel_rfl) (by kernel_rfl) M 32 cM l HL.out rfl (fun _ zz => H8.out.2.2.2.1.row.keep0 zz) ?_
  simp only [Act.put, List.setIfInBounds_toArray, List.set_cons_zero, List.set_cons_succ]
  refine reg_take (v := .slice (some ⟨w.heap.size, 0, none⟩) 32 32) 22 (some 90) rfl rfl (by kernel_rfl) (by kernel_rfl) (by kernel_rfl) (by rfl) HS0.out (fun w hw => by go_simp) ?_
  simp only [Act.put, List.setIfInBounds_toArray, List.set_cons_zero, List.set_cons_succ]
  refine reg_bytesStr 23 (some 91) 24 9 5 (.tmp 90) rfl rfl rfl (by kernel_rfl) (by kernel_rfl) (by kernel_rfl) (by rfl) HS0.out u8s_under (by kernel_rfl) (by kernel_rfl) (some ⟨w.heap.size, 0, none⟩) 32 32 l HL.out rfl (fun _ zz => (H8.out.2.1.keep zz (fun e => e)).row) ?_
  simp only [Act.put, List.setIfInBounds_toArray, List.set_cons_zero, List.set_cons_succ]
  refine reg_take (v := .bool false) 24 (some 92) rfl rfl (by kernel_rfl) (by kernel_rfl) (by kernel_rfl) (by rfl) HS0.out (fun w hw => by go_simp) ?_
  simp only [Act.put, List.setIfInBounds_toArray, List.set_cons_zero, List.set_cons_succ]
  refine reg_take (v := .bool false) 25 (some 93) rfl rfl (by kernel_rfl) (by kernel_rfl) (by kernel_rfl) (by rfl) HS0.out (fun w hw => by go_simp) ?_
  simp only [Act.put, List.setIfInBounds_toArray, List.set_cons_zero, List.set_cons_succ]
  refine reg_end (by kernel_rfl) ?_
  have H9 : Hid (Kp nob w wd ∧ Blk wd (w.heap.size + 1) 23 (bvs nn) ∧ Kit.Own 5 wd M 32 cM (bvs l) ∧ Row wd T (bvs x) ∧ Row wd Q (bvs o) ∧ Blk wd p 46 [.pointer (some ⟨g, 0, none⟩)] ∧ Ciph wd g W 13 ∧ Row wd A6 (bvs Y) ∧ Kit.Own 5 wd C (n + 16) cC (bvs Y) ∧ Row wd X (bvs x)) := Lib.hid (have k := HS0.out; ⟨H8.out.1.trans k (fun _ e => e.elim), H8.out.2.2.1.keep k (fun e => e), H8.out.2.2.2.1.keep k (fun _ _ e => e), H8.out.2.2.2.2.1.keep0 k, H8.out.2.2.2.2.2.1.keep0 k, H8.out.2.2.2.2.2.2.1.keep k (fun e => e), H8.out.2.2.2.2.2.2.2.1.keep0 k, H8.out.2.2.2.2.2.2.2.2.1.keep0 k, H8.out.2.2.2.2.2.2.2.2.2.1.keep k (fun _ _ e => e), H8.out.2.2.2.2.2.2.2.2.2.2.keep0 k⟩)
  clear HS0 H8 hka d1 d2
  go_wp2
  go_loopw [96] (fun vi wr => ∃ (k : Nat) (lm : List UInt8), k ≤ 32 ∧ vi = .int .i64 (k : Int) ∧ Kit.Own 5 wr M 32 cM (bvs lm) ∧ Kp (rowF M) wd wr)
    (fun vi _ => 32 - (intOf vi).toNat)
  case atStart => exact ⟨0, l, Nat.zero_le _, rfl, H9.out.2.2.1, Kp.refl _ _⟩
  case round =>
    obtain ⟨k, lm, hk, rfl, oM, kr⟩ := hrel
    by_cases hlt : k < 32
    · obtain ⟨bm, rfl, hbm, hcm, hfm, hsm⟩ := oM.at_ hlt
      have hml : lm.length = 32 := by simpa using oM.len
      obtain ⟨xm, hxm⟩ : ∃ x, x = lm[k]'(by omega) := ⟨_, rfl⟩
      have hcm' : wr.cell? ⟨bm, k, none⟩ = some (.int .u8 xm.toNat) := by rw [hcm, hxm]; simp [bvs, bv]
      have hb1 := xm.toNat_lt
      clear hcm hxm
      go_wp2
      go_roundw
      case rel =>
        refine ⟨k + 1, lm.set k (UInt8.ofNat (xm.toNat + 1)), by omega, by go_num, ?_, ?_⟩
        · rw [← bvs_set]
          exact oM.set k _
        · exact kr.setCell (p := ⟨bm, k, none⟩) (.inl rfl) _
      case measure => simp [intOf]; omega
    · have HNM : Hid (∀ j, (j < w1.heap.size ∨ w2.heap.size ≤ j) → ¬ rowF M j) := Lib.hid (fun j hj e => by have := HMB.out j e; omega)
      have HZA := Lib.hid (show ∀ (Z : Option Addr) (xs : List UInt8), Row wd Z (bvs xs) → (∀ k, ab Z = some k → k < w1.heap.size ∨ w2.heap.size ≤ k) → Row wr Z (bvs xs) from fun Z xs hz hk => hz.keep kr (fun j e e' => HNM.out j (hk j e) e'))
      have HA0 := Lib.hid (show w4.heap.size ≤ w5.heap.size by have := HZ5.out; omega)
      have H10 : Hid (Kp nob w wr ∧ Blk wr (w.heap.size + 1) 23 (bvs nn) ∧ Row wr T (bvs x) ∧ Row wr Q (bvs o) ∧ Blk wr p 46 [.pointer (some ⟨g, 0, none⟩)] ∧ Ciph wr g W 13 ∧ Row wr A6 (bvs Y) ∧ Kit.Own 5 wr C (n + 16) cC (bvs Y) ∧ Row wr X (bvs x)) := Lib.hid ⟨H9.out.1.since kr (fun j e => by have := HMB.out j e; have := HZ4.out; omega), H9.out.2.1.keep kr (HNM.out _ (by have := HZ4.out; omega)), HZA.out _ _ H9.out.2.2.2.1 (fun j e => by have := HTB.out j e; omega), HZA.out _ _ H9.out.2.2.2.2.1 (fun j e => by have := HQB.out j e; omega), H9.out.2.2.2.2.2.1.keep kr (HNM.out _ (by have := HZ5.out; have := HZ4.out; omega)), H9.out.2.2.2.2.2.2.1.keep kr (HNM.out _ (by have := HZ5.out; have := HZ4.out; omega)), HZA.out _ _ H9.out.2.2.2.2.2.2.2.1 (fun j e => by have := H6B.out.2 j e; have := HZ4.out; have := HA0.out; omega), H9.out.2.2.2.2.2.2.2.2.1.keep kr (fun j e => HNM.out j (by have := H7B.out j e; have := H6B.out.1; have := HZ4.out; have := HA0.out; omega)), HZA.out _ _ H9.out.2.2.2.2.2.2.2.2.2 (fun j e => by
        have h1 := H8B.out j e
        have h2 := H6B.out.1; have h3 := HZ4.out; have h4 := HA0.out
        have h5 := H9.out.2.2.2.2.2.2.2.2.1
        obtain ⟨bb, hb, _⟩ := h5.at_ (i := 0) (by omega)
        have h6 := H7B.out bb (by rw [hb]; rfl)
        omega)⟩
      clear HZA oM kr H9
      go_wp2
      rename World => wo
      go_loopw [108] (fun vi wr => ∃ (k : Nat) (lm : List UInt8), k ≤ n + 16 ∧ vi = .int .i64 (k : Int) ∧ Kit.Own 5 wr C (n + 16) cC (bvs lm) ∧ Kp (rowF C) wo wr)
        (fun vi _ => n + 16 - (intOf vi).toNat)
      case atStart => exact ⟨0, Y, Nat.zero_le _, rfl, H10.out.2.2.2.2.2.2.2.1, Kp.refl _ _⟩
      case round =>
        obtain ⟨k, lm, hk, rfl, oC, kq⟩ := hrel
        by_cases hlt : k < n + 16
        · obtain ⟨bm, rfl, hbm, hcm, hfm, hsm⟩ := oC.at_ hlt
          have hml : lm.length = n + 16 := by simpa using oC.len
          obtain ⟨xm, hxm⟩ : ∃ x, x = lm[k]'(by omega) := ⟨_, rfl⟩
          have hcm' : wr.cell? ⟨bm, k, none⟩ = some (.int .u8 xm.toNat) := by rw [hcm, hxm]; simp [bvs, bv]
          have hb1 := xm.toNat_lt
          have hn24 := HB.out.1
          clear hcm hxm
          go_wp2
          go_roundw
          case rel =>
            refine ⟨k + 1, lm.set k (UInt8.ofNat (xm.toNat + 1)), by omega, by go_num, ?_, ?_⟩
            · rw [← bvs_set]
              exact oC.set k _
            · exact kq.setCell (p := ⟨bm, k, none⟩) (.inl rfl) _
          case measure => simp [intOf]; omega
        · have HNC : Hid (∀ j, (j < w6.heap.size ∨ w7.heap.size ≤ j) → ¬ rowF C j) := Lib.hid (fun j hj e => by have := H7B.out j e; omega)
          have HZZ := Lib.hid (show w.heap.size + 1 < w6.heap.size ∧ w4.heap.size ≤ w6.heap.size ∧ w5.heap.size ≤ w6.heap.size ∧ p < w6.heap.size ∧ g < w6.heap.size by
            have h1 := HZ4.out; have h2 := HZ5.out; have h3 := H6B.out.1
            have h4 : w1.heap.size ≤ w2.heap.size := by
              obtain ⟨bb, hb⟩ : ∃ bb, ab M = some bb := by
                cases hM : M with
                | none => exact (HMN.out hM).elim
                | some a => exact ⟨a.block, rfl⟩
              have := HMB.out bb hb; omega
            omega)
          have HZC := Lib.hid (show ∀ (Z : Option Addr) (xs : List UInt8), Row wo Z (bvs xs) → (∀ k, ab Z = some k → k < w6.heap.size ∨ w7.heap.size ≤ k) → Row wr Z (bvs xs) from fun Z xs hz hk => hz.keep kq (fun j e e' => HNC.out j (hk j e) e'))
          have H11 : Hid (Kp nob w wr ∧ Blk wr (w.heap.size + 1) 23 (bvs nn) ∧ Row wr T (bvs x) ∧ Row wr Q (bvs o) ∧ Blk wr p 46 [.pointer (some ⟨g, 0, none⟩)] ∧ Ciph wr g W 13 ∧ Row wr A6 (bvs Y) ∧ Row wr X (bvs x)) := Lib.hid ⟨H10.out.1.since kq (fun j e => by have := H7B.out j e; have := HZZ.out; omega), H10.out.2.1.keep kq (HNC.out _ (by have := HZZ.out; omega)), HZC.out _ _ H10.out.2.2.1 (fun j e => by have := HTB.out j e; have := HZZ.out; omega), HZC.out _ _ H10.out.2.2.2.1 (fun j e => by have := HQB.out j e; have := HZZ.out; omega), H10.out.2.2.2.2.1.keep kq (HNC.out _ (by have := HZZ.out; omega)), H10.out.2.2.2.2.2.1.keep kq (HNC.out _ (by have := HZZ.out; omega)), HZC.out _ _ H10.out.2.2.2.2.2.2.1 (fun j e => by have := H6B.out.2 j e; omega), HZC.out _ _ H10.out.2.2.2.2.2.2.2.2 (fun j e => by have := H8B.out j e; omega)⟩
          clear HZC oC kq H10
          go_wp2_with (first
            | (refine wpList_load_blk rfl 23 (.tmp 5) rfl _ _ _ H11.out.2.1 rfl _ arr12 rfl (by rw [HNL.out]; kernel_rfl) ?_)
            | fail)
          have ha := aad_one (w := wr) ⟨Q, m, cQ, o⟩ HO.out.1 H11.out.2.2.2.1 HC4.out.2.1 HC4.out.2.2.1 HC4.out.2.2.2 (by have := HB.out; show m ≤ _; omega)
          have k56 : Kp nob wr (wr.alloc (.cells #[.slice Q m cQ] 24)) := (Kp.refl nob wr).alloc _
          refine (seal_yes p W 13 nn x T n cT _ 1 1 _ _ ⟨g, H11.out.2.2.2.2.1.keep k56 (fun e => e), H11.out.2.2.2.2.2.1.keep0 k56⟩ HNN.out HX.out.1 HC4.out.1 (H11.out.2.2.1.keep0 k56) ha (by have := HB.out; omega) (by rw [catP_one]; show o.length ≤ _; have := HB.out; have := HO.out.1; omega)).mono ?_
          rintro e wz ⟨DD, cD, rfl, hOD, kz, _⟩
          rw [catP_one, ← HOP.out] at hOD
          have k := k56.trans kz (fun _ e => e.elim)
          have H12 : Hid (Kp nob w wz ∧ Row wz A6 (bvs Y) ∧ Row wz X (bvs x) ∧ Row wz DD (bvs Y) ∧ Row wz A (bvs x)) := Lib.hid (have kk := H11.out.1.trans k (fun _ e => e.elim); ⟨kk, H11.out.2.2.2.2.2.2.1.keep0 k, H11.out.2.2.2.2.2.2.2.keep0 k, hOD.row, HX.out.2.1.keep0 kk⟩)
          clear ha k56 kz k hOD H11
          have cv1 := run_bytes_str (P := Tryd.prog) wz 24 9 5 u8s_under (by kernel_rfl) (by kernel_rfl) DD (n + 16) cD Y HYL.out H12.out.2.2.2.1
          have cv2 := run_bytes_str (P := Tryd.prog) wz 24 9 5 u8s_under (by kernel_rfl) (by kernel_rfl) A6 (n + 16) c6 Y HYL.out H12.out.2.1
          have cv3 := run_bytes_str (P := Tryd.prog) wz 24 9 5 u8s_under (by kernel_rfl) (by kernel_rfl) X n cX x HX.out.1 H12.out.2.2.1
          have cv4 := run_bytes_str (P := Tryd.prog) wz 24 9 5 u8s_under (by kernel_rfl) (by kernel_rfl) A n c x HX.out.1 H12.out.2.2.2.2
          go_wp2
          go_ret
          exact ⟨rfl, H12.out.1⟩
theorem keeps_walk (l nn : List UInt8) (A : Option Addr) (n c : Nat) (x : List UInt8) (B : Option Addr) (m d : Nat) (o : List UInt8) (w : World) (ht : Sq w) (hl : l.length = 32) (hnn : nn.length = 12)
    (h1 : x.length = n) (h2 : A = none → c = 0) (h3 : Row w A (bvs x)) (h4 : n ≤ c) (_ : c ≤ maxLen) (g1 : o.length = m) (g2 : B = none → d = 0) (g3 : Row w B (bvs o)) (g4 : m ≤ d) (_ : d ≤ maxLen) :
    Calls Tryd.prog 7 #[.agg (bvs l).toArray, .agg (bvs nn).toArray, .slice A n c, .slice B m d] w fun e w' => e = .returned (.bool true) ∧ Kp nob w w' := by
  by_cases h : 1024 < n ∨ 1024 < m
  · exact keeps_no l nn A n c B m d w ht h
  · exact keeps_yes l nn A n c x B m d o w ht hl hnn h1 h2 h3 h4 g1 g2 g3 g4 (by omega) (by omega)
end Go.Proofs.YtbainiblffcjgaaDoor.Gcm
