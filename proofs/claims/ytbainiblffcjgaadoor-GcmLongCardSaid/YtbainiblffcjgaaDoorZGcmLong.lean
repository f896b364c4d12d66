/- GcmLong: what is longer than may be is refused, both ways. -/
import Derived.Test.YtbainiblffcjgaaDoorZGcmL
namespace Go.Proofs.YtbainiblffcjgaaDoor.Gcm
set_option linter.unusedVariables false
set_option linter.unusedSimpArgs false
open Go Go.RowKit Kit
open Aes (gb tb tb_length arrB enc enc_length allW noughts)
open Ghash (none16 none_length len16)
open Field (cb cb_inj Sq)
open Sha (Pc PcsOk catP catP_one)

set_option maxHeartbeats 1000000 in
set_option maxRecDepth 100000 in
theorem long_no (n : Int) (w : World) (ht : Sq w) (h : n < -2 ∨ 2 < n) :
    Calls Tryd.prog 6 #[.int .i64 n] w fun e w' => e = .returned (.bool true) ∧ Kp nob w w' := by
  have HT := Lib.hid ht; clear ht
  go_enter Tryd.func6, Tryd.ntmps6
  go_wp2_with fail
  refine (alive_yes w HT.out).mono ?_
  rintro e w1 ⟨rfl, k1⟩
  have K1 := Lib.hid k1; clear k1
  by_cases h1 : n < -2
  · have d1 : decide (n < -2) = true := by simp [h1]
    go_wp2
    go_ret
    exact ⟨rfl, K1.out⟩
  · have d1 : decide (n < -2) = false := by simp; omega
    have d2 : decide (2 < n) = true := by simp; omega
    go_wp2
    go_ret
    exact ⟨rfl, K1.out⟩
set_option maxHeartbeats 4000000 in
set_option maxRecDepth 100000 in
theorem long_yes (n : Int) (m : Nat) (w : World) (ht : Sq w) (h : -2 ≤ n ∧ n ≤ 2) (hm : (m : Int) = 1048576 - n) :
    Calls Tryd.prog 6 #[.int .i64 n] w fun e w' => e = .returned (.bool true) ∧ Kp nob w w' := by
  have HT := Lib.hid ht; clear ht
  have d1 : decide (n < -2) = false := by simp; omega
  have d2 : decide (2 < n) = false := by simp; omega
  have e1 : IntKind.i64.wrap (1048576 - n) = (m : Int) := by rw [IntKind.wrap_i64]; omega
  have hmk : ∀ w, (Instr.makeSlice 24 (.int .i64 16) (.int .i64 16)).run Tryd.prog w = .ok (.slice (some ⟨w.heap.size, 0, none⟩) 16 16) (w.alloc (.cells (bvs noughts).toArray 5)) := make_u8 16 (by omega)
  have hmm := make_u8 m (by omega)
  have HM := Lib.hid (And.intro h hm)
  have HML := Lib.hid (show (List.replicate m (0 : UInt8)).length = m from List.length_replicate ..)
  clear h hm
  go_enter Tryd.func6, Tryd.ntmps6
  go_wp2_with fail
  refine (alive_yes w HT.out).mono ?_
  rintro e w1 ⟨rfl, k1⟩
  have K1 := Lib.hid k1; clear k1
  go_wp2_with fail
  refine (new_yes 4 noughts (some ⟨w1.heap.size, 0, none⟩) 16 _ (HT.out.keep0 (K1.out.alloc _)) rfl (.inl rfl) (row_new w1 (bvs noughts) _) (by omega)).mono ?_
  rintro e w2 ⟨p, rfl, hs, hp, k2⟩
  have HS := Lib.hid hs
  have K2 := Lib.hid ((K1.out.alloc (.cells (bvs noughts).toArray 5)).trans k2 (fun _ e => e.elim))
  clear hs hp k2 K1
  go_wp2_with fail
  have hb := row_new w2 (bvs (List.replicate m 0)) 5
  have ha3 := aad_one (w := w2.alloc (.cells (bvs (List.replicate m 0)).toArray 5)) ⟨some ⟨w2.heap.size, 0, none⟩, m, m, List.replicate m 0⟩ HML.out hb (Nat.le_refl _) (by have := HM.out; show m ≤ maxLen; unfold maxLen; omega) (fun e => by cases e) (by have := HM.out; show m ≤ _; omega)
  rw [show (w2.alloc (.cells (bvs (List.replicate m 0)).toArray 5)).heap.size = w2.heap.size + 1 by simp] at ha3
  have HA3 := Lib.hid ha3
  have HCL := Lib.hid (show (catP [(⟨some ⟨w2.heap.size, 0, none⟩, m, m, List.replicate m 0⟩ : Pc)]).length = m by rw [catP_one]; exact HML.out)
  have HCT := Lib.hid (show catP [(⟨some ⟨w2.heap.size, 0, none⟩, m, m, List.replicate m 0⟩ : Pc)] = List.replicate m 0 by rw [catP_one])
  have K3 := Lib.hid ((K2.out.alloc (.cells (bvs (List.replicate m 0)).toArray 5)).alloc (.cells #[.slice (some ⟨w2.heap.size, 0, none⟩) m m] 24))
  have HS3 := Lib.hid (HS.out.keep0 (((Kp.refl nob w2).alloc (.cells (bvs (List.replicate m 0)).toArray 5)).alloc (.cells #[.slice (some ⟨w2.heap.size, 0, none⟩) m m] 24)))
  have HB3 := Lib.hid (hb.alloc (.cells #[.slice (some ⟨w2.heap.size, 0, none⟩) m m] 24))
  clear hb ha3 HS K2
  generalize (w2.alloc (.cells (bvs (List.replicate m 0)).toArray 5)).alloc (.cells #[.slice (some ⟨w2.heap.size, 0, none⟩) m m] 24) = w3 at *
  by_cases hneg : n < 0
  · have d3 : decide (n < 0) = true := by simp [hneg]
    have HBIG := Lib.hid (show 1048576 < m by have := HM.out; omega)
    clear hneg
    refine (seal_long p none12 none 0 0 _ 1 1 _ w3 (by omega) HA3.out (.inr (by rw [HCL.out]; exact HBIG.out))).mono ?_
    rintro e w4 ⟨rfl, k4⟩
    have K4 := Lib.hid (K3.out.trans k4 (fun _ e => e.elim))
    have HB4 := Lib.hid (HB3.out.keep0 k4)
    clear k4 HB3 K3 HA3 HS3
    go_wp2_with fail
    have ha5 := aad_one (w := w4.alloc (.cells (bvs noughts).toArray 5)) ⟨some ⟨w2.heap.size, 0, none⟩, m, m, List.replicate m 0⟩ HML.out (HB4.out.alloc _) (Nat.le_refl _) (by have := HM.out; show m ≤ maxLen; unfold maxLen; omega) (fun e => by cases e) (by have := HM.out; show m ≤ _; omega)
    rw [show (w4.alloc (.cells (bvs noughts).toArray 5)).heap.size = w4.heap.size + 1 by simp] at ha5
    have K5 := Lib.hid ((K4.out.alloc (.cells (bvs noughts).toArray 5)).alloc (.cells #[.slice (some ⟨w2.heap.size, 0, none⟩) m m] 24))
    refine (open_long p none12 (some ⟨w4.heap.size, 0, none⟩) 0 16 _ 1 1 _ _ (by omega) (by omega) ha5 (.inr (by rw [HCL.out]; exact HBIG.out))).mono ?_
    rintro e w6 ⟨rfl, k6⟩
    have K6 := Lib.hid (K5.out.trans k6 (fun _ e => e.elim))
    clear k6 ha5
    go_wp2
    go_ret
    exact ⟨rfl, K6.out⟩
  · have d3 : decide (n < 0) = false := by simp [hneg]
    have HSM := Lib.hid (show m ≤ 1048576 by have := HM.out; omega)
    have HTG := Lib.hid (tag_rep_no m (by have := HM.out; omega))
    clear hneg
    refine (seal_yes p (allW noughts) 9 none12 [] none 0 0 _ 1 1 _ w3 HS3.out rfl rfl (by omega) (Row.nil _ _) HA3.out (by omega) (by rw [HCL.out]; exact HSM.out)).mono ?_
    rintro e w4 ⟨A4, c4, rfl, _, k4, _⟩
    have K4 := Lib.hid (K3.out.trans k4 (fun _ e => e.elim))
    have HB4 := Lib.hid (HB3.out.keep0 k4)
    have HS4 := Lib.hid (HS3.out.keep0 k4)
    clear k4 HB3 K3 HA3 HS3
    go_wp2_with fail
    have ha5 := aad_one (w := w4.alloc (.cells (bvs noughts).toArray 5)) ⟨some ⟨w2.heap.size, 0, none⟩, m, m, List.replicate m 0⟩ HML.out (HB4.out.alloc _) (Nat.le_refl _) (by have := HM.out; show m ≤ maxLen; unfold maxLen; omega) (fun e => by cases e) (by have := HM.out; show m ≤ _; omega)
    rw [show (w4.alloc (.cells (bvs noughts).toArray 5)).heap.size = w4.heap.size + 1 by simp] at ha5
    have K5 := Lib.hid ((K4.out.alloc (.cells (bvs noughts).toArray 5)).alloc (.cells #[.slice (some ⟨w2.heap.size, 0, none⟩) m m] 24))
    have k45 : Kp nob w4 ((w4.alloc (.cells (bvs noughts).toArray 5)).alloc (.cells #[.slice (some ⟨w2.heap.size, 0, none⟩) m m] 24)) := ((Kp.refl nob w4).alloc _).alloc _
    refine (open_any p (allW noughts) 9 none12 noughts (some ⟨w4.heap.size, 0, none⟩) 0 16 _ 1 1 _ _ (HS4.out.keep0 k45) rfl rfl (by omega) ((row_new w4 (bvs noughts) _).alloc _) ha5 (by omega) (by rw [HCL.out]; exact HSM.out) false (by rw [HCT.out]; exact HTG.out)).mono ?_
    rintro e w6 ⟨k6, _, h6⟩
    obtain rfl := h6 rfl
    have K6 := Lib.hid (K5.out.trans k6 (fun _ e => e.elim))
    clear k6 ha5 k45
    go_wp2
    go_ret
    exact ⟨rfl, K6.out⟩
theorem long_walk (n : Int) (w : World) (ht : Sq w) (_h : (Lit.int .i64 n).wf = true) :
    Calls Tryd.prog 6 #[.int .i64 n] w fun e w' => e = .returned (.bool true) ∧ Kp nob w w' := by
  by_cases hn : n < -2 ∨ 2 < n
  · exact long_no n w ht hn
  · exact long_yes n (1048576 - n).toNat w ht (by omega) (by omega)
end Go.Proofs.YtbainiblffcjgaaDoor.Gcm
