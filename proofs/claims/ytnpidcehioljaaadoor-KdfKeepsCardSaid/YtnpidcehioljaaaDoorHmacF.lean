/- Contract of the document's own keyed digest. -/
import Derived.Test.YtnpidcehioljaaaDoorHmacE
namespace Go.Proofs.YtnpidcehioljaaaDoor.Hmac
open Go Go.RowKit Kit
open Sha (Tabs Far Has Pc PcsOk catP u8s_under arr32b u8s_info own_new own_one own_none u8_string)

theorem pad_at (K : List UInt8) (i : Nat) (hi : i < 64) (hK : K.length ≤ 64) : (pad K)[i]'(by rw [pad_length hK]; exact hi) = byteAt K i := by
  unfold pad byteAt
  by_cases h : i < K.length
  · rw [List.getElem_append_left h, List.getD, List.getElem?_eq_getElem h]; rfl
  · rw [List.getElem_append_right (by omega), List.getElem_replicate, List.getD, List.getElem?_eq_none (by omega)]; rfl
theorem mask_snoc (c : UInt8) (K : List UInt8) (i : Nat) (hi : i < 64) (hK : K.length ≤ 64) : (mask c (pad K)).take (i + 1) = (mask c (pad K)).take i ++ [byteAt K i ^^^ c] := by
  rw [List.take_succ_eq_append_getElem (by rw [mask_length, pad_length hK]; exact hi)]
  congr 2
  rw [← pad_at K i hi hK]; simp [mask]
theorem xor_cell (x c : UInt8) : bvs [x ^^^ c] = [.int .u8 (bits BinOp.xor IntKind.u8 (x.toNat : Int) (c.toNat : Int))] := by rw [u8_xor]; rfl
theorem run_index_str {P : Program} (w : World) (t : TypeId) (l : List UInt8) (i : Nat) (h : P.underlying t = some .string) (hi : i < l.length) : (Instr.index t (.string (str l)) (.int .i64 i)).run P w = .ok (.int .u8 (byteAt l i).toNat) w := by
  have e : (str l)[i]? = some (byteAt l i) := by
    have hs : i < (str l).size := by rw [str_size]; exact hi
    rw [getElem?_pos (str l) i hs]
    congr 1
    rw [byteAt, List.getD, List.getElem?_eq_getElem hi]
    rfl
  have h1 : (0 : Int) ≤ (i : Int) := by omega
  simp [Instr.index, asIntOf, run_underlying h, e]
/-- The key as it is filled up. -/
def short (k : List UInt8) : List UInt8 := if 64 < k.length then Sha.of k else k
theorem short_len (k : List UInt8) : (short k).length ≤ 64 := by
  unfold short; split
  · rw [Sha.of_length]; omega
  · omega
theorem ik_short (k : List UInt8) : ik k = mask 54 (pad (short k)) := by rw [ik_eq, full_eq]; rfl
theorem ok_short (k : List UInt8) : ok k = mask 92 (pad (short k)) := by rw [ok_eq, full_eq]; rfl
theorem short_long (k : List UInt8) (h : 64 < k.length) : short k = Sha.of k := by rw [short, if_pos h]
theorem short_same (k : List UInt8) (h : ¬ 64 < k.length) : short k = k := by rw [short, if_neg h]
attribute [irreducible] short

set_option maxHeartbeats 2000000 in
set_option maxRecDepth 100000 in
theorem fMac (s t : ByteArray) (w : World) (hs : s.size ≤ 1099511627776) (ht : t.size ≤ 1099511000000) :
    Calls Tryd.prog 14 #[.string s, .string t] w fun e w' => e = .returned (.agg (bvs (mac (sl s) (sl t))).toArray) ∧ Kp nob w w' := by
  obtain ⟨i0, hi, hz0, hz1, hz2⟩ := info_parts u8s_info
  obtain ⟨M, hM⟩ : ∃ M, M = mac (sl s) (sl t) := ⟨_, rfl⟩
  rw [← hM]
  obtain ⟨I, hI⟩ : ∃ I, I = ik (sl s) := ⟨_, rfl⟩
  obtain ⟨O, hO⟩ : ∃ O, O = ok (sl s) := ⟨_, rfl⟩
  obtain ⟨K, hK⟩ : ∃ K, K = short (sl s) := ⟨_, rfl⟩
  have HML : Hid (M.length = 32) := Lib.hid (by rw [hM]; exact mac_length _ _)
  have HME : Hid (M = Sha.of (O ++ Sha.of (I ++ sl t))) := Lib.hid (by rw [hM, hO, hI]; exact mac_eq _ _)
  have HI : Hid (I = mask 54 (pad K)) := Lib.hid (by rw [hI, hK]; exact ik_short _)
  have HO : Hid (O = mask 92 (pad K)) := Lib.hid (by rw [hO, hK]; exact ok_short _)
  have hKl : K.length ≤ 64 := by rw [hK]; exact short_len _
  have HSL := Lib.hid (sl_length s)
  have HTL := Lib.hid (sl_length t)
  clear hM hI hO
  by_cases h : 64 < s.size
  case' pos =>
    have d1 : decide ((64 : Int) < (s.size : Int)) = true := by simp; omega
    have HKK : Hid (K = Sha.of (sl s)) := Lib.hid (by rw [hK]; exact short_long _ (by rw [HSL.out]; omega))
    have HK32 : Hid (K.length = 32) := Lib.hid (by rw [HKK.out, Sha.of_length])
    clear hK
    go_enter Tryd.func14, Tryd.ntmps14
    go_wp2_with (refine wpList_str_bytes rfl 9 22 5 (.tmp 14) rfl u8_string u8s_under (by kernel_rfl) s rfl ?_
                 intro c1 w1 r1 k1 z1)
    obtain ⟨z, hz1', hz2'⟩ : ∃ z, Blk w1 w.heap.size 34 z ∧ z.length = 32 := ⟨_, (Blk.new' (w := w) rfl rfl).keep k1 (fun e => e), rfl⟩
    have K1 : Kp nob w w1 := ((Kp.refl nob w).alloc _).trans k1 (fun _ e => e.elim)
    have HZ1 := Lib.hid hz1'; have HZ2 := Lib.hid hz2'
    have hz : ∀ o, (w.alloc o).heap.size = w.heap.size + 1 := fun o => by simp
    rw [hz] at r1
    clear k1 hz1' hz2' z1 hz
    refine (Sha.fOf (some ⟨w.heap.size + 1, 0, none⟩) s.size c1 (sl s) w1 HSL.out (by omega) (fun e => by cases e) r1).mono ?_
    rintro e w2 ⟨rfl, k2⟩
    rw [← HKK.out]
    go_wp2_with (first
      | (refine wpList_store_new rfl 34 (.tmp 5) (.tmp 16) rfl _ (bvs K) rfl rfl (by rw [bvs_length, HK32.out]; rfl) (by rw [bvs_length, HK32.out]; kernel_rfl) (bvs_one _) ?_
         intro w3 hB3 k3 z3
         have HB3 := Lib.hid hB3
         have KL : Kp nob w w3 := (K1.trans k2 (fun _ e => e.elim)).trans k3 (fun _ e => e.elim)
         have HZ := Lib.hid ((HZ1.out.keep k2 (fun e => e)).keep k3 (fun e => e))
         clear hB3 z3 k3)
      | (refine wpList_bytes_str rfl 22 9 5 (.tmp 17) rfl u8s_under (by kernel_rfl) u8_string _ 32 32 K HK32.out HB3.out.row rfl ?_))
  case' neg =>
    have d1 : decide ((64 : Int) < (s.size : Int)) = false := by simp; omega
    obtain rfl : s = str K := by rw [hK, short_same _ (by rw [HSL.out]; exact h)]; simp
    rw [str_size] at d1 h
    clear hK
    go_enter Tryd.func14, Tryd.ntmps14
    go_wp2
    obtain ⟨z, hz1', hz2'⟩ : ∃ z, Blk (w.alloc (.cells (bvs (List.replicate 32 0)).toArray 34)) w.heap.size 34 z ∧ z.length = 32 := ⟨_, Blk.new' (w := w) rfl rfl, rfl⟩
    have KL := (Kp.refl nob w).alloc (.cells (bvs (List.replicate 32 0)).toArray 34)
    have HZ := Lib.hid hz1'; have HZ2 := Lib.hid hz2'
    clear hz1' hz2'
    change Code.wp _ _ _ _ (w.alloc (.cells (bvs (List.replicate 32 0)).toArray 34))
    generalize w.alloc (.cells (bvs (List.replicate 32 0)).toArray 34) = w3 at *
  all_goals
    have sz := KL.size
    have ltz := HZ.out.lt
    go_loopw [6, 7, 8] (fun vx vy vi wr => ∃ (i : Nat) (X : Option Addr) (cX : Nat) (Y : Option Addr) (cY : Nat), i ≤ 64 ∧ vi = .int .i64 i ∧ vx = .slice X i cX ∧ vy = .slice Y i cY ∧ Own 5 wr X i cX (bvs ((mask 54 (pad K)).take i)) ∧ Own 5 wr Y i cY (bvs ((mask 92 (pad K)).take i)) ∧ Blk wr w.heap.size 34 z ∧ Kp nob w wr ∧ (∀ k, ab X = some k → w.heap.size < k) ∧ (∀ k, ab Y = some k → w.heap.size < k) ∧ ∀ k, ab X = some k → ab Y ≠ some k)
      (fun _ _ vi _ => 64 - (intOf vi).toNat)
    case atStart => exact ⟨0, none, 0, none, 0, by omega, rfl, rfl, rfl, Own.nil _ _, Own.nil _ _, HZ.out, KL, fun _ e => (by cases e), fun _ e => (by cases e), fun _ e => (by cases e)⟩
    clear sz ltz KL HZ
    obtain ⟨i, X, cX, Y, cY, hk, rfl, rfl, rfl, oX, oY0, hzr, hkp, gX, gY, hXY⟩ := hrel
    have ltY := oY0.lt
    have HX := Lib.hid oX; have HY := Lib.hid oY0; have HZR := Lib.hid hzr
    have sw := hkp.size
    have swz := hzr.lt
    clear oX oY0 hzr
    by_cases hlt : i < 64
    · by_cases hik : i < K.length
      · obtain ⟨x, hx⟩ : ∃ x, x = byteAt K i := ⟨_, rfl⟩
        have hix := fun wx => run_index_str (P := Tryd.prog) wx 9 K i u8_string hik
        rw [← hx] at hix
        have HXX := Lib.hid hx
        clear hx
        go_wp2_with (first
          | (at_builtin
             refine wpList_appR _ rfl (.tmp 30) (.tmp 33) 22 rfl 5 i0 (.int .u8 0) 1 u8s_under hi hz0 hz1 hz2 rfl X i cX (bvs ((mask 54 (pad K)).take i)) rfl (HX.out.alloc _) (some ⟨wr.heap.size, 0, none⟩) 1 1 [(.int .u8 (bits BinOp.xor IntKind.u8 (x.toNat : Int) 54))] rfl (fun h => by cases h) rfl (row_one wr _ _) (by intro u hu; simp at hu; subst hu; rfl) (by omega) (by omega) ?_
             intro X2 cX2 w5 hown5 hg5 hab5
             have kx : Kp (rowF X) wr w5 := ((Kp.refl _ wr).alloc _).grown hg5 (fun k e => .inl e)
             have K5 : Kp nob w w5 := hkp.since kx (fun k e => by have := gX k e; omega)
             have g5 : ∀ k, ab X2 = some k → w.heap.size < k ∧ ab Y ≠ some k := fun k e => by
               rcases hab5 with h | h <;> rw [h] at e
               · exact ⟨gX k e, hXY k e⟩
               · cases e; simp only [World.alloc, Array.size_push]; exact ⟨by omega, fun e => by have := ltY _ e; omega⟩
             have o5 : Hid (Own 5 w5 X2 (i + 1) cX2 (bvs ((mask 54 (pad K)).take (i + 1)))) := Lib.hid (by rw [mask_snoc 54 K i hlt hKl, bvs_append, show bvs [byteAt K i ^^^ 54] = [.int .u8 (bits BinOp.xor IntKind.u8 (x.toNat : Int) 54)] by rw [← HXX.out]; exact xor_cell x 54]; exact hown5)
             have oY : Hid (Own 5 w5 Y i cY (bvs ((mask 92 (pad K)).take i))) := Lib.hid (HY.out.keep kx (fun k e e' => hXY k e' e))
             have hz5 : Hid (Blk w5 w.heap.size 34 z) := Lib.hid (HZR.out.keep kx (fun e => by have := gX _ e; omega))
             have kz := kx.size
             have l5 := hown5.lt
             clear hg5 hab5 hown5 kx)
          | (at_builtin
             refine wpList_appR _ rfl (.tmp 35) (.tmp 38) 22 rfl 5 i0 (.int .u8 0) 1 u8s_under hi hz0 hz1 hz2 rfl Y i cY (bvs ((mask 92 (pad K)).take i)) rfl (oY.out.alloc _) (some ⟨w5.heap.size, 0, none⟩) 1 1 [(.int .u8 (bits BinOp.xor IntKind.u8 (x.toNat : Int) 92))] rfl (fun h => by cases h) rfl (row_one w5 _ _) (by intro u hu; simp at hu; subst hu; rfl) (by omega) (by omega) ?_
             intro Y2 cY2 w6 hown6 hg6 hab6
             have ky : Kp (rowF Y) w5 w6 := ((Kp.refl _ w5).alloc _).grown hg6 (fun k e => .inl e)
             have K6 : Kp nob w w6 := K5.since ky (fun k e => by have := gY k e; omega)
             have g6 : ∀ k, ab Y2 = some k → w.heap.size < k := fun k e => by
               rcases hab6 with h | h <;> rw [h] at e
               · exact gY k e
               · cases e; simp only [World.alloc, Array.size_push]; omega
             have n6 : ∀ k, ab X2 = some k → ab Y2 ≠ some k := fun k e e' => by
               rcases hab6 with h | h <;> rw [h] at e'
               · exact (g5 k e).2 e'
               · cases e'; have := l5 _ e; simp only [World.alloc, Array.size_push] at this; omega
             have o6 : Hid (Own 5 w6 Y2 (i + 1) cY2 (bvs ((mask 92 (pad K)).take (i + 1)))) := Lib.hid (by rw [mask_snoc 92 K i hlt hKl, bvs_append, show bvs [byteAt K i ^^^ 92] = [.int .u8 (bits BinOp.xor IntKind.u8 (x.toNat : Int) 92)] by rw [← HXX.out]; exact xor_cell x 92]; exact hown6)
             have o5' : Hid (Own 5 w6 X2 (i + 1) cX2 (bvs ((mask 54 (pad K)).take (i + 1)))) := Lib.hid (o5.out.keep ky (fun k e e' => (g5 k e).2 e'))
             have hz6 : Hid (Blk w6 w.heap.size 34 z) := Lib.hid (hz5.out.keep ky (fun e => by have := gY _ e; omega))
             clear hg6 hab6 hown6 ky))
        refine ⟨?rel, by simp [intOf]; omega⟩
        case rel => exact ⟨i + 1, X2, cX2, Y2, cY2, by omega, by go_num, rfl, rfl, o5'.out, o6.out, hz6.out, K6, fun k e => (g5 k e).1, g6, n6⟩
      · have HXX : Hid (byteAt K i = 0) := Lib.hid (by rw [byteAt, List.getD, List.getElem?_eq_none (by omega)]; rfl)
        have dk : decide ((i : Int) < (K.length : Int)) = false := by simp; omega
        go_wp2_with (first
          | (at_builtin
             refine wpList_appR _ rfl (.tmp 30) (.tmp 33) 22 rfl 5 i0 (.int .u8 0) 1 u8s_under hi hz0 hz1 hz2 rfl X i cX (bvs ((mask 54 (pad K)).take i)) rfl (HX.out.alloc _) (some ⟨wr.heap.size, 0, none⟩) 1 1 [.int .u8 (bits BinOp.xor IntKind.u8 0 54)] rfl (fun h => by cases h) rfl (row_one wr _ _) (by intro u hu; simp at hu; subst hu; rfl) (by omega) (by omega) ?_
             intro X2 cX2 w5 hown5 hg5 hab5
             have kx : Kp (rowF X) wr w5 := ((Kp.refl _ wr).alloc _).grown hg5 (fun k e => .inl e)
             have K5 : Kp nob w w5 := hkp.since kx (fun k e => by have := gX k e; omega)
             have g5 : ∀ k, ab X2 = some k → w.heap.size < k ∧ ab Y ≠ some k := fun k e => by
               rcases hab5 with h | h <;> rw [h] at e
               · exact ⟨gX k e, hXY k e⟩
               · cases e; simp only [World.alloc, Array.size_push]; exact ⟨by omega, fun e => by have := ltY _ e; omega⟩
             have o5 : Hid (Own 5 w5 X2 (i + 1) cX2 (bvs ((mask 54 (pad K)).take (i + 1)))) := Lib.hid (by rw [mask_snoc 54 K i hlt hKl, bvs_append, show bvs [byteAt K i ^^^ 54] = [.int .u8 (bits BinOp.xor IntKind.u8 0 54)] by rw [HXX.out]; exact xor_cell 0 54]; exact hown5)
             have oY : Hid (Own 5 w5 Y i cY (bvs ((mask 92 (pad K)).take i))) := Lib.hid (HY.out.keep kx (fun k e e' => hXY k e' e))
             have hz5 : Hid (Blk w5 w.heap.size 34 z) := Lib.hid (HZR.out.keep kx (fun e => by have := gX _ e; omega))
             have kz := kx.size
             have l5 := hown5.lt
             clear hg5 hab5 hown5 kx)
          | (at_builtin
             refine wpList_appR _ rfl (.tmp 35) (.tmp 38) 22 rfl 5 i0 (.int .u8 0) 1 u8s_under hi hz0 hz1 hz2 rfl Y i cY (bvs ((mask 92 (pad K)).take i)) rfl (oY.out.alloc _) (some ⟨w5.heap.size, 0, none⟩) 1 1 [.int .u8 (bits BinOp.xor IntKind.u8 0 92)] rfl (fun h => by cases h) rfl (row_one w5 _ _) (by intro u hu; simp at hu; subst hu; rfl) (by omega) (by omega) ?_
             intro Y2 cY2 w6 hown6 hg6 hab6
             have ky : Kp (rowF Y) w5 w6 := ((Kp.refl _ w5).alloc _).grown hg6 (fun k e => .inl e)
             have K6 : Kp nob w w6 := K5.since ky (fun k e => by have := gY k e; omega)
             have g6 : ∀ k, ab Y2 = some k → w.heap.size < k := fun k e => by
               rcases hab6 with h | h <;> rw [h] at e
               · exact gY k e
               · cases e; simp only [World.alloc, Array.size_push]; omega
             have n6 : ∀ k, ab X2 = some k → ab Y2 ≠ some k := fun k e e' => by
               rcases hab6 with h | h <;> rw [h] at e'
               · exact (g5 k e).2 e'
               · cases e'; have := l5 _ e; simp only [World.alloc, Array.size_push] at this; omega
             have o6 : Hid (Own 5 w6 Y2 (i + 1) cY2 (bvs ((mask 92 (pad K)).take (i + 1)))) := Lib.hid (by rw [mask_snoc 92 K i hlt hKl, bvs_append, show bvs [byteAt K i ^^^ 92] = [.int .u8 (bits BinOp.xor IntKind.u8 0 92)] by rw [HXX.out]; exact xor_cell 0 92]; exact hown6)
             have o5' : Hid (Own 5 w6 X2 (i + 1) cX2 (bvs ((mask 54 (pad K)).take (i + 1)))) := Lib.hid (o5.out.keep ky (fun k e e' => (g5 k e).2 e'))
             have hz6 : Hid (Blk w6 w.heap.size 34 z) := Lib.hid (hz5.out.keep ky (fun e => by have := gY _ e; omega))
             clear hg6 hab6 hown6 ky))
        refine ⟨?rel, by simp [intOf]; omega⟩
        case rel => exact ⟨i + 1, X2, cX2, Y2, cY2, by omega, by go_num, rfl, rfl, o5'.out, o6.out, hz6.out, K6, fun k e => (g5 k e).1, g6, n6⟩
    · obtain rfl : i = 64 := by omega
      have HIL : Hid (I.length = 64) := Lib.hid (by rw [HI.out, mask_length, pad_length hKl])
      have HOL : Hid (O.length = 64) := Lib.hid (by rw [HO.out, mask_length, pad_length hKl])
      have oI : Hid (Own 5 wr X 64 cX (bvs I)) := Lib.hid (by
        have := HX.out; rwa [← HI.out, List.take_of_length_le (by rw [HIL.out]; omega)] at this)
      have oO : Hid (Own 5 wr Y 64 cY (bvs O)) := Lib.hid (by
        have := HY.out; rwa [← HO.out, List.take_of_length_le (by rw [HOL.out]; omega)] at this)
      obtain ⟨D, hD⟩ : ∃ D, D = Sha.of (I ++ sl t) := ⟨_, rfl⟩
      have HDL : Hid (D.length = 32) := Lib.hid (by rw [hD, Sha.of_length])
      have HD := Lib.hid hD
      clear HX HY hD hlt
      go_wp2_with (at_builtin
                   refine wpList_appS _ rfl (.tmp 40) (.tmp 41) 22 9 rfl 5 i0 u8s_under u8_string hi hz0 hz1 hz2 X 64 cX (bvs I) rfl oI.out t rfl (by omega) ?_
                   intro X2 cX2 w5 hown5 hg5 hab5
                   have kx : Kp (rowF X) wr w5 := (Kp.refl _ wr).grown hg5 (fun k e => .inl e)
                   have K5 : Kp nob w w5 := hkp.since kx (fun k e => by have := gX k e; omega)
                   have o5 : Hid (Own 5 w5 X2 (64 + t.size) cX2 (bvs (I ++ sl t))) := Lib.hid (by rw [bvs_append]; exact hown5)
                   have oO5 : Hid (Own 5 w5 Y 64 cY (bvs O)) := Lib.hid (oO.out.keep kx (fun k e e' => hXY k e' e))
                   have hz5 : Hid (Blk w5 w.heap.size 34 z) := Lib.hid (HZR.out.keep kx (fun e => by have := gX _ e; omega))
                   clear hg5 hab5 hown5 kx)
      refine (Sha.fOf X2 (64 + t.size) cX2 (I ++ sl t) w5 (by rw [List.length_append, HIL.out, HTL.out]) (by omega) (own_none o5.out) o5.out.row).mono ?_
      rintro e w6 ⟨rfl, k6⟩
      rw [← HD.out]
      have s6 := k6.size
      go_wp2_with (first
        | (refine wpList_store_new rfl 34 (.tmp 10) (.tmp 43) rfl _ (bvs D) rfl rfl (by rw [bvs_length, HDL.out]; rfl) (by rw [bvs_length, HDL.out]; kernel_rfl) (bvs_one _) ?_
           intro w7 hB7 k7 z7
           have HB7 := Lib.hid hB7
           have K7 : Kp nob w w7 := (K5.trans k6 (fun _ e => e.elim)).trans k7 (fun _ e => e.elim)
           have oO7 : Hid (Own 5 w7 Y 64 cY (bvs O)) := Lib.hid ((oO5.out.keep k6 (fun _ _ e => e)).keep k7 (fun _ _ e => e))
           have hz7 : Hid (Blk w7 w.heap.size 34 z) := Lib.hid ((hz5.out.keep k6 (fun e => e)).keep k7 (fun e => e))
           clear hB7 z7 k7)
        | (at_builtin
           refine wpList_appR _ rfl (.tmp 44) (.tmp 45) 22 rfl 5 i0 (.int .u8 0) 1 u8s_under hi hz0 hz1 hz2 rfl Y 64 cY (bvs O) rfl oO7.out (some ⟨w6.heap.size, 0, none⟩) 32 32 (bvs D) rfl (fun h => by cases h) (by rw [bvs_length, HDL.out]) HB7.out.row (bvs_one _) (by omega) (by omega) ?_
           intro Y2 cY2 w8 hown8 hg8 hab8
           have ky : Kp (rowF Y) w7 w8 := (Kp.refl _ w7).grown hg8 (fun k e => .inl e)
           have K8 : Kp nob w w8 := K7.since ky (fun k e => by have := gY k e; omega)
           have o8 : Hid (Own 5 w8 Y2 (64 + 32) cY2 (bvs (O ++ D))) := Lib.hid (by rw [bvs_append]; exact hown8)
           have hz8 : Hid (Blk w8 w.heap.size 34 z) := Lib.hid (hz7.out.keep ky (fun e => by have := gY _ e; omega))
           clear hg8 hab8 hown8 ky))
      refine (Sha.fOf Y2 (64 + 32) cY2 (O ++ D) w8 (by rw [List.length_append, HOL.out, HDL.out]) (by omega) (own_none o8.out) o8.out.row).mono ?_
      rintro e w9 ⟨rfl, k9⟩
      rw [show Sha.of (O ++ D) = M by rw [HME.out, HD.out]]
      have hz9 := Lib.hid (hz8.out.keep k9 (fun e => e))
      go_wp2_with (refine wpList_store_blk rfl 34 (.tmp 4) (.tmp 47) rfl _ _ z (bvs M) hz9.out rfl rfl (by rw [HZ2.out, bvs_length, HML.out]) (by rw [bvs_length, HML.out]; kernel_rfl) (bvs_one _) ?_; intro wA hBA kA zA)
      have hszA : (Tryd.prog.info? 34).map (·.size) = some (bvs M).toArray.size := by
        rw [List.size_toArray, bvs_length, HML.out]; kernel_rfl
      refine bodyPost_ret (results_cell_row rfl _ _ w.heap.size _ _ _ _ rfl hBA arr32b rfl hszA) rfl ⟨rfl, (K8.trans k9 (fun _ e => e.elim)).since kA (fun i e => by unfold oneB at e; omega)⟩
end Go.Proofs.YtnpidcehioljaaaDoor.Hmac
