/- Contracts of the document's own GCM: what is opened. -/
import Derived.Test.YtbainiblffcjgaaDoorZGcmW
namespace Go.Proofs.YtbainiblffcjgaaDoor.Gcm
set_option linter.unusedVariables false
set_option linter.unusedSimpArgs false
open Go Go.RowKit Kit
open Aes (gb tb tb_length arr16 enc enc_length fSeal fWords allW allW_length)
open Ghash (none16 none_length len16 str_extract)
open Field (cb cb_inj)

/-- What a call answers: the text, and whether it was sealed. -/
def opn (W : List UInt8) (R : Nat) (n x aad : List UInt8) : List UInt8 × Bool :=
  if x.length < 16 then ([], false) else if gs W R n (stream W R n (x.take (x.length - 16))) aad = x then (stream W R n (x.take (x.length - 16)), true) else ([], false)
theorem opn_short (W : List UInt8) (R : Nat) (n x aad : List UInt8) (h : x.length < 16) : opn W R n x aad = ([], false) := if_pos h
theorem opn_yes (W : List UInt8) (R : Nat) (n x aad : List UInt8) (h : 16 ≤ x.length) (h2 : gs W R n (stream W R n (x.take (x.length - 16))) aad = x) : opn W R n x aad = (stream W R n (x.take (x.length - 16)), true) := by rw [opn, if_neg (by omega), if_pos h2]
theorem opn_no (W : List UInt8) (R : Nat) (n x aad : List UInt8) (h2 : gs W R n (stream W R n (x.take (x.length - 16))) aad ≠ x) : opn W R n x aad = ([], false) := by rw [opn, if_neg h2]; split <;> rfl
/-- It is the text that was sealed, if any. -/
theorem opn_opened (W : List UInt8) (R : Nat) (n x aad : List UInt8) : opened W R n x aad = if (opn W R n x aad).2 then some (opn W R n x aad).1 else none := by
  by_cases h : x.length < 16
  · rw [opn_short _ _ _ _ _ h, opened_eq, if_pos h]; rfl
  · by_cases h2 : gs W R n (stream W R n (x.take (x.length - 16))) aad = x
    · rw [opn_yes _ _ _ _ _ (by omega) h2, opened_eq, if_neg h, if_pos ((opened_iff W R n x aad (by omega)).2 h2)]; rfl
    · rw [opn_no _ _ _ _ _ h2, opened_eq, if_neg h, if_neg (fun e => h2 ((opened_iff W R n x aad (by omega)).1 e))]; rfl
attribute [irreducible] opn
theorem str_cut (l : List UInt8) (b : Nat) : (str l).extract 0 b = str (l.take b) := by rw [str_extract, List.drop_zero]
theorem toList_beq (a b : List UInt8) : ((str a).toList == (str b).toList) = decide (a = b) := by
  rw [str_toList, str_toList]
  by_cases h : a = b
  · subst h; simp
  · rw [decide_eq_false h]; exact beq_eq_false_iff_ne.2 h

set_option maxHeartbeats 4000000 in
set_option maxRecDepth 100000 in
theorem fOpenG (key : List UInt8) (nk : Nat) (A : Option Addr) (cA : Nat) (n : List UInt8) (x : ByteArray) (aad : ByteArray) (w : World) (hk : key.length = 4 * nk) (hr : Row w A (bvs key)) (hc : 4 * nk ≤ cA) (hn1 : 1 ≤ nk) (hn8 : nk ≤ 8) (hn : n.length = 12) (ht : x.size ≤ 1000000000000) (ha : aad.size ≤ 1000000000000) :
    Calls Tryd.prog 15 #[.slice A (4 * nk) cA, .agg (bvs n).toArray, .string x, .string aad] w fun e w' => e = .returned (.tuple #[.string (str (opn (allW key) (nk + 5) n (sl x) (sl aad)).1), .bool (opn (allW key) (nk + 5) n (sl x) (sl aad)).2]) ∧ Kp nob w w' := by
  obtain ⟨l, rfl⟩ : ∃ l, x = str l := ⟨sl x, rfl⟩
  rw [sl_str]
  rw [str_size] at ht
  have HN := Lib.hid hn
  have HNL := Lib.hid (show (bvs n).length = 12 by rw [bvs_length, hn])
  have HWL := Lib.hid (show (allW key).length = 16 * ((nk + 5) + 2) by rw [allW_length, hk]; omega)
  have H0 : Blk (w.alloc (.cells (bvs n).toArray 23)) w.heap.size 23 (bvs n) := Blk.new w _ _
  have HB0 := Lib.hid H0
  have HR := Lib.hid (hr.alloc (.cells (bvs n).toArray 23))
  have HK := Lib.hid hk
  clear hn H0 hr hk
  by_cases hl : l.length < 16
  · have HO := Lib.hid (opn_short (allW key) (nk + 5) n l (sl aad) hl)
    rw [HO.out]
    go_enter Tryd.func15, Tryd.ntmps15
    go_wp2
    go_ret2
    exact ⟨rfl, (Kp.refl nob w).alloc _⟩
  · go_enter Tryd.func15, Tryd.ntmps15
    go_wp2
    have H2 := Lib.hid (And.intro (HB0.out.keep (Kp.refl nob _).drew (fun e => e)) (And.intro (HR.out.keep (Kp.refl nob _).drew (fun _ _ e => e)) ((Kp.refl nob w).alloc (.cells (bvs n).toArray 23)).drew))
    refine reg_begin (fun w' => Blk w' w.heap.size 23 (bvs n) ∧ Row w' A (bvs key) ∧ Kp nob w w') (by kernel_rfl) H2.out (fun _ => ?_)
    generalize (w.alloc (.cells (bvs n).toArray 23)).drew = w2 at *
    clear HB0 HR
    have HCT := Lib.hid (str_cut l (l.length - 16))
    have HTL := Lib.hid (show (l.take (l.length - 16)).length ≤ 1000000000000 by rw [List.length_take]; omega)
    refine reg_take (v := .slice A (4 * nk) cA) 0 (some 14) rfl rfl (by kernel_rfl) (by kernel_rfl) (by kernel_rfl) (by rfl) H2.out (fun w hw => by go_simp) ?_
    simp only [Act.put, List.setIfInBounds_toArray, List.set_cons_zero, List.set_cons_succ]
    refine reg_load 2 (some 16) 23 (.tmp 5) rfl rfl rfl (by kernel_rfl) (by kernel_rfl) (by kernel_rfl) (by rfl) H2.out w.heap.size 0 rfl (bvs n) _ (fun _ x => x.1.range) arr12 rfl (by rw [HNL.out]; kernel_rfl) ?_
    simp only [Act.put, List.setIfInBounds_toArray, List.set_cons_zero, List.set_cons_succ]
    refine reg_take (v := .string (str l)) 3 (some 17) rfl rfl (by kernel_rfl) (by kernel_rfl) (by kernel_rfl) (by rfl) H2.out (fun w hw => by go_simp) ?_
    simp only [Act.put, List.setIfInBounds_toArray, List.set_cons_zero, List.set_cons_succ]
    refine reg_take (v := .string (str l)) 4 (some 18) rfl rfl (by kernel_rfl) (by kernel_rfl) (by kernel_rfl) (by rfl) H2.out (fun w hw => by go_simp) ?_
    simp only [Act.put, List.setIfInBounds_toArray, List.set_cons_zero, List.set_cons_succ]
    refine reg_take (v := .int .i64 (l.length : Int)) 5 (some 19) rfl rfl (by kernel_rfl) (by kernel_rfl) (by kernel_rfl) (by rfl) H2.out (fun w hw => by go_simp) ?_
    simp only [Act.put, List.setIfInBounds_toArray, List.set_cons_zero, List.set_cons_succ]
    refine reg_take (v := .int .i64 ((l.length - 16 : Nat) : Int)) 6 (some 20) rfl rfl (by kernel_rfl) (by kernel_rfl) (by kernel_rfl) (by rfl) H2.out (fun w hw => by go_simp; rw [IntKind.wrap_i64]; omega) ?_
    simp only [Act.put, List.setIfInBounds_toArray, List.set_cons_zero, List.set_cons_succ]
    refine reg_take (v := .string (str (l.take (l.length - 16)))) 7 (some 21) rfl rfl (by kernel_rfl) (by kernel_rfl) (by kernel_rfl) (by rfl) H2.out (fun w hw => by go_simp; first | done | (rw [HCT.out])) ?_
    simp only [Act.put, List.setIfInBounds_toArray, List.set_cons_zero, List.set_cons_succ]
    refine reg_call 1 (some 15) rfl rfl (by kernel_rfl) (by rfl) _ _ (by go_simp; exact ⟨rfl, rfl⟩) ?_
    refine (fWords key nk A cA _ HK.out H2.out.2.1 hc hn1 hn8).mono ?_
    rintro e w3 ⟨⟨X, cX, rfl, hx, hcX, hXge⟩, k3⟩
    have H3 := Lib.hid (And.intro (H2.out.1.keep k3 (fun e => e)) (And.intro (H2.out.2.1.keep k3 (fun _ _ e => e)) (H2.out.2.2.trans k3 (fun _ e => e.elim))))
    have HX := Lib.hid hx
    refine ⟨_, rfl, H3.out, fun _ => ?_⟩
    clear hx hXge k3
    simp only [Act.put, List.setIfInBounds_toArray, List.set_cons_zero, List.set_cons_succ]
    refine reg_call 8 (some 22) rfl rfl (by kernel_rfl) (by rfl) _ _ (by go_simp; exact ⟨rfl, rfl⟩) ?_
    refine (fStream (allW key) X cX (nk + 5) n (str (l.take (l.length - 16))) w3 HWL.out HX.out (by omega) (by omega) HN.out (by rw [str_size]; have := HTL.out; omega)).mono ?_
    rintro e w4 ⟨rfl, k4⟩
    rw [sl_str]
    have H4 := Lib.hid (And.intro (H3.out.1.keep k4 (fun e => e)) (And.intro (H3.out.2.1.keep k4 (fun _ _ e => e)) (H3.out.2.2.trans k4 (fun _ e => e.elim))))
    refine ⟨_, rfl, H4.out, fun _ => ?_⟩
    clear k4
    simp only [Act.put, List.setIfInBounds_toArray, List.set_cons_zero, List.set_cons_succ]
    refine reg_take (v := .string (str (stream (allW key) (nk + 5) n (l.take (l.length - 16))))) 9 (some 10) rfl rfl (by kernel_rfl) (by kernel_rfl) (by kernel_rfl) (by rfl) H4.out (fun w hw => by go_simp) ?_
    simp only [Act.put, List.setIfInBounds_toArray, List.set_cons_zero, List.set_cons_succ]
    refine reg_end (by kernel_rfl) ?_
    have HSL := Lib.hid (show (str (stream (allW key) (nk + 5) n (l.take (l.length - 16)))).size ≤ 1000000000000 by rw [str_size, stream_length]; exact HTL.out)
    go_wp2_with (first
      | (refine wpList_load_blk rfl 23 (.tmp 5) rfl _ _ _ H4.out.1 rfl _ arr12 rfl (by rw [HNL.out]; kernel_rfl) ?_)
      | fail)
    refine (fSealG key nk A cA n (str (stream (allW key) (nk + 5) n (l.take (l.length - 16)))) aad w4 HK.out H4.out.2.1 hc hn1 hn8 HN.out HSL.out ha).mono ?_
    rintro e w5 ⟨rfl, k5⟩
    rw [sl_str]
    have K5 := H4.out.2.2.trans k5 (fun _ e => e.elim)
    have hb := toList_beq (gs (allW key) (nk + 5) n (stream (allW key) (nk + 5) n (l.take (l.length - 16))) (sl aad)) l
    by_cases hq : gs (allW key) (nk + 5) n (stream (allW key) (nk + 5) n (l.take (l.length - 16))) (sl aad) = l
    · have HO := Lib.hid (opn_yes (allW key) (nk + 5) n l (sl aad) (by omega) hq)
      rw [decide_eq_true hq] at hb
      clear hq
      go_wp2
      rw [HO.out]
      go_ret2
      exact ⟨rfl, K5⟩
    · have HO := Lib.hid (opn_no (allW key) (nk + 5) n l (sl aad) hq)
      rw [decide_eq_false hq] at hb
      clear hq
      go_wp2
      rw [HO.out]
      go_ret2
      exact ⟨rfl, K5⟩
end Go.Proofs.YtbainiblffcjgaaDoor.Gcm
