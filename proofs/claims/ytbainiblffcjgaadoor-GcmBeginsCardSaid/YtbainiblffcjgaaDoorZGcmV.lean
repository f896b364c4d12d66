/- Contracts of the document's own GCM: the stream. -/
import Derived.Test.YtbainiblffcjgaaDoorZGd
import Derived.Test.YtbainiblffcjgaaDoorZGe
namespace Go.Proofs.YtbainiblffcjgaaDoor.Gcm
set_option linter.unusedVariables false
set_option linter.unusedSimpArgs false
open Go Go.RowKit Kit
open Aes (gb tb tb_length gb_tb tb_gb tb_ext tb_eq arr16 blk_byte enc enc_length fSeal)
open Ghash (none16 none_length len16 str_extract lenS)
open Field (cb cb_inj)

@[go_sem] theorem str_catG (l m : List UInt8) : str l ++ str m = str (l ++ m) := by
  apply ByteArray.ext
  simp [str]
theorem str_nilG : (⟨#[]⟩ : ByteArray) = str [] := rfl
theorem first_byte (l : List UInt8) (i : Nat) (h : 0 < (str (l.drop i)).size) : (((str (l.drop i))[0]'h).toNat : Int) = cb (gb l i) := by
  have hl : i < l.length := by rw [str_size, List.length_drop] at h; omega
  unfold cb
  congr 2
  show (l.drop i)[0]'(by rw [List.length_drop]; omega) = gb l i
  rw [List.getElem_drop, gb, List.getD, List.getElem?_eq_getElem (by omega)]
  rfl
theorem drop_one (l : List UInt8) (m : Nat) (h : m < l.length) : (str (l.drop m)).extract 1 (l.length - m) = str (l.drop (m + 1)) := by
  rw [str_extract, List.take_of_length_le (by rw [List.length_drop]; exact Nat.le_refl _), List.drop_drop]
theorem drop_same (l : List UInt8) (q k : Nat) (hk : k ≤ 16) (hl : 16 * q + k ≤ l.length) (h : ¬ (k < 16 ∧ 16 * q + k < l.length)) : l.drop (16 * q + k) = l.drop (16 * (q + 1)) := by
  by_cases h2 : k < 16
  · rw [List.drop_eq_nil_of_le (by omega), List.drop_eq_nil_of_le (by omega)]
  · rw [show 16 * q + k = 16 * (q + 1) by omega]
theorem take_same (l : List UInt8) (q k : Nat) (hk : k ≤ 16) (hl : 16 * q + k ≤ l.length) (h : ¬ (k < 16 ∧ 16 * q + k < l.length)) : l.take (16 * q + k) = l.take (16 * (q + 1)) := by
  by_cases h2 : k < 16
  · rw [List.take_of_length_le (by omega), List.take_of_length_le (by omega)]
  · rw [show 16 * q + k = 16 * (q + 1) by omega]
/-- What stands in a round of the stream. -/
structure St (w : World) (n : List UInt8) (A : Option Addr) (W : List UInt8) (w2 : World) : Prop where
  n : Blk w2 w.heap.size 23 (bvs n)
  r : Row w2 A (bvs W)
  kp : Kp nob w w2
theorem St.keep {w w2 w3 : World} {n : List UInt8} {A : Option Addr} {W : List UInt8} {F : Nat → Prop} (x : St w n A W w2) (hA : ∀ k, ab A = some k → k < w.heap.size) (k : Kp F w2 w3) (hF : ∀ i, F i → w.heap.size < i) : St w n A W w3 :=
  ⟨x.n.keep k (fun e => by have := hF _ e; omega), x.r.keep k (fun j e e' => by have := hF _ e'; have := hA j e; omega), x.kp.since k (fun i e => by have := hF i e; omega)⟩
theorem arr12 : Tryd.prog.underlying 23 = some (.array 12 5) := by kernel_rfl
set_option maxHeartbeats 2000000 in
set_option maxRecDepth 100000 in
theorem fStream (W : List UInt8) (A : Option Addr) (cA R : Nat) (n : List UInt8) (s : ByteArray) (w : World) (hW : W.length = 16 * (R + 2)) (hr : Row w A (bvs W)) (hc : 4 * (R + 2) ≤ cA) (hR : R ≤ 100) (hn : n.length = 12) (hs : s.size ≤ 1099511627776) :
    Calls Tryd.prog 22 #[.slice A (4 * (R + 2)) cA, .agg (bvs n).toArray, .string s] w fun e w' => e = .returned (.string (str (stream W R n (sl s)))) ∧ Kp nob w w' := by
  obtain ⟨l, rfl⟩ : ∃ l, s = str l := ⟨sl s, rfl⟩
  rw [sl_str]
  rw [str_size] at hs
  have HN := Lib.hid hn
  have HNL := Lib.hid (show (bvs n).length = 12 by rw [bvs_length, hn])
  have HW := Lib.hid hW
  have hA : ∀ k, ab A = some k → k < w.heap.size := hr.lt (by intro e; have := congrArg List.length e; rw [bvs_length, hW] at this; simp at this)
  have HAA := Lib.hid hA
  have H0 : St w n A W (w.alloc (.cells (bvs n).toArray 23)) := ⟨Blk.new w _ _, hr.alloc _, (Kp.refl nob w).alloc _⟩
  have HS0 := Lib.hid H0
  clear hn hW hr hA H0
  go_enter Tryd.func22, Tryd.ntmps22
  go_wp2
  go_loopw [2, 7, 8] (fun vt vo vi wr => ∃ q : Nat, 16 * q ≤ l.length + 15 ∧ vt = .string (str (l.drop (16 * q))) ∧ vo = .string (str (stream W R n (l.take (16 * q)))) ∧ vi = .int .i64 ((q : Int) + 2) ∧ St w n A W wr)
    (fun vt _ _ _ => lenS vt)
  case atStart => exact ⟨0, by omega, by rw [Nat.mul_zero, List.drop_zero], by rw [Nat.mul_zero, List.take_zero, stream_nil]; rfl, rfl, HS0.out⟩
  case round =>
    obtain ⟨q, hq, rfl, rfl, rfl, h1⟩ := hrel
    have H1 := Lib.hid h1; clear h1 HS0
    by_cases hlt : 16 * q < l.length
    · go_wp2_with (first
        | (refine wpList_load_blk rfl 23 (.tmp 4) rfl _ _ _ H1.out.n rfl _ arr12 rfl (by rw [HNL.out]; kernel_rfl) ?_)
        | fail)
      refine (fBlock n (q + 2) _ HN.out (by omega)).mono ?_
      rintro e w2 ⟨rfl, k2⟩
      have H2 := Lib.hid (H1.out.keep HAA.out k2 (fun _ e => e.elim))
      have HNB := Lib.hid (nb_length n (q + 2) HN.out)
      clear k2
      go_wp2_with fail
      refine (fSeal (nb n (q + 2)) W A cA R _ HNB.out HW.out H2.out.r hc hR).mono ?_
      rintro e w3 ⟨rfl, k3⟩
      have H3 := Lib.hid (H2.out.keep HAA.out k3 (fun _ e => e.elim))
      obtain ⟨E, hE⟩ : ∃ E, E = enc W R (nb n (q + 2)) := ⟨_, rfl⟩
      have HEL := Lib.hid (show E.length = 16 by rw [hE, enc_length])
      have HES := Lib.hid (show ∀ k, k < 16 → sb W R n (16 * q + k) = gb E k from fun k hk => by rw [sb_eq, hE, show (16 * q + k) / 16 = q by omega, show (16 * q + k) % 16 = k by omega])
      rw [← hE]
      clear k3 hE
      go_wp2_with (first
        | (refine wpList_store_new rfl 50 (.tmp 9) (.tmp 20) rfl _ (bvs E) rfl rfl (by rw [bvs_length, HEL.out]; rfl) (by rw [bvs_length, HEL.out]; kernel_rfl) (bvs_one _) ?_
           intro w4 hB4 k4 z4
           have HB4 := Lib.hid hB4
           have H4 := Lib.hid (H3.out.keep HAA.out k4 (fun _ e => e.elim))
           have hg9 : w.heap.size < w3.heap.size := H3.out.n.lt
           clear hB4 k4 z4)
        | fail)
      obtain ⟨g9, hgd⟩ : ∃ g, g = w3.heap.size := ⟨_, rfl⟩
      rw [← hgd] at HB4 hg9 ⊢
      clear hgd
      go_loopw [2, 7, 10] (fun vt vo vk wr => ∃ k : Nat, k ≤ 16 ∧ 16 * q + k ≤ l.length ∧ vt = .string (str (l.drop (16 * q + k))) ∧ vo = .string (str (stream W R n (l.take (16 * q + k)))) ∧ vk = .int .i64 k ∧ St w n A W wr ∧ Blk wr g9 50 (bvs E))
        (fun _ _ vk _ => 16 - (intOf vk).toNat)
      case atStart => exact ⟨0, by omega, by omega, rfl, rfl, rfl, H4.out, HB4.out⟩
      case round =>
        obtain ⟨k, hk, hkl, rfl, rfl, rfl, h5, hb5⟩ := hrel
        have H5 := Lib.hid h5; have HB5 := Lib.hid hb5
        clear h5 hb5 HB4
        by_cases hlk : k < 16 ∧ 16 * q + k < l.length
        · obtain ⟨hlk, hll⟩ := hlk
          have hcell := blk_byte HB5.out k (by rw [HEL.out]; exact hlk)
          have hd0 : 0 < (str (l.drop (16 * q + k))).size := by rw [str_size, List.length_drop]; omega
          have e0 : (((str (l.drop (16 * q + k)))[0]'hd0).toNat : Int) = cb (gb l (16 * q + k)) := first_byte l _ hd0
          have HSN := Lib.hid (stream_snoc W R n l (16 * q + k) hll)
          obtain ⟨x, hx⟩ : ∃ x, x = gb l (16 * q + k) ^^^ gb E k := ⟨_, rfl⟩
          have HX := Lib.hid hx
          have hcv : (convert 24 9 (.slice (some ⟨wr.heap.size, 0, none⟩) 1 1)).run Tryd.prog (wr.alloc (.cells #[.int .u8 (cb x)] 5)).drew = .ok (.string (str [x])) (wr.alloc (.cells #[.int .u8 (cb x)] 5)).drew :=
            run_bytes_str _ 24 9 5 (by kernel_rfl) (by kernel_rfl) (by kernel_rfl) _ 1 1 [x] rfl ((row_one wr (bv x) _).keep (Kp.refl nob _).drew (fun _ _ e => e))
          have hxx := hx.symm
          have c1 : (stream W R n (l.take (16 * q + k))).length ≤ 2000000000000 := by rw [stream_length, List.length_take]; omega
          clear hx
          go_wp2
          go_region
          go_wp2
          have HD1 := Lib.hid (drop_one l (16 * q + k) hll)
          have HT1 := Lib.hid (show stream W R n (l.take (16 * q + k)) ++ [x] = stream W R n (l.take (16 * q + (k + 1))) by rw [show 16 * q + (k + 1) = 16 * q + k + 1 by omega, HSN.out, HES.out k hlk, ← HX.out])
          have HKA := Lib.hid (((Kp.refl nob wr).alloc (.cells #[.int .u8 (cb x)] 5)).drew)
          exact ⟨⟨k + 1, by omega, by omega, by rw [HD1.out, Nat.add_assoc], by rw [HT1.out], by go_num, H5.out.keep HAA.out HKA.out (fun _ e => e.elim), HB5.out.keep HKA.out (fun e => e)⟩, by simp only [intOf]; omega⟩
        · have HDE := Lib.hid (show l.drop (16 * q + k) = l.drop (16 * (q + 1)) from drop_same l q k hk hkl hlk)
          have HTE := Lib.hid (show l.take (16 * q + k) = l.take (16 * (q + 1)) from take_same l q k hk hkl hlk)
          by_cases hk16 : k < 16
          · have hz : l.length - (16 * q + k) = 0 := by omega
            go_wp2
            exact ⟨⟨q + 1, by omega, by rw [HDE.out], by rw [HTE.out], by congr 1, H5.out⟩, by simp only [lenS, str_size, List.length_drop]; omega⟩
          · go_wp2
            exact ⟨⟨q + 1, by omega, by rw [HDE.out], by rw [HTE.out], by congr 1, H5.out⟩, by simp only [lenS, str_size, List.length_drop]; omega⟩
    · have hz : l.length - 16 * q = 0 := by omega
      have HTE := Lib.hid (show l.take (16 * q) = l from List.take_of_length_le (by omega))
      rw [HTE.out]
      go_wp2
      go_ret
      exact ⟨rfl, H1.out.kp⟩
end Go.Proofs.YtbainiblffcjgaaDoor.Gcm
