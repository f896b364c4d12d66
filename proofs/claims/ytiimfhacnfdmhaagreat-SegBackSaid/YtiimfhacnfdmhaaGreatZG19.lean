/- Lemmas: GhashGg GhashHg GcmFg Tagsg GcmGg GcmOg. -/
import Derived.Test.YtiimfhacnfdmhaaGreatZG17
import Derived.Test.YtiimfhacnfdmhaaGreatZG18
import Derived.Deep.Matrix
set_option linter.unusedVariables false
set_option linter.unusedSimpArgs false
namespace Go.Proofs.YtiimfhacnfdmhaaGreat.Ghash
open Go Go.RowKit Kit
open Aes (gb tb tb_length gb_tb tb_gb tb_ext tb_eq pt pt_all pt_zero pt_get pt_set bvs_setb blk_byte)
open Field (cb)
set_option maxHeartbeats 1000000 in
set_option maxRecDepth 100000 in
theorem value_any [Inhabited Field.SqTab] (p : Nat) (h s : List UInt8) (w : World) (hs : s.length = 16) (hS : SumAt w p h s) :
    Calls Tryz.prog 175 #[.pointer (some ⟨p, 0, none⟩)] w fun e w' => e = .returned (.agg (bvs s).toArray) ∧ Kp nob w w' := by
  have HE := Lib.hid ev_length
  have HSL := Lib.hid hs
  have HS := Lib.hid hS
  have HL := Lib.hid (show (bvs s).length = 16 by rw [bvs_length, hs])
  have HZ := Lib.hid (show (bvs none16).length = 16 from rfl)
  clear hs hS
  go_enter Tryz.func175, Tryz.ntmps175
  go_wp2_with (refine wpList_load_mid rfl 249 (.tmp 8) rfl p 2 rfl (ev s) _ (HS.out.keep ((Kp.refl nob w).alloc _) (fun e => e)).value elU rfl (by rw [HE.out]; kernel_rfl) ?_)
  refine (blockOf_any s _ HSL.out).mono ?_
  rintro e w2 ⟨rfl, k2⟩
  have hr : Blk w2 w.heap.size 210 (bvs none16) := (show Blk _ _ _ (bvs none16) from Blk.new' rfl rfl).keep k2 (fun e => e)
  have HR := Lib.hid hr
  have HK : Hid (Kp nob w w2) := Lib.hid (((Kp.refl nob w).alloc _).trans k2 (fun _ e => e.elim))
  clear hr k2
  go_wp2_with (refine wpList_store_blk rfl 210 (.tmp 2) (.tmp 10) rfl _ _ (bvs none16) (bvs s) HR.out rfl rfl (by rw [HZ.out, HL.out]) (by rw [HL.out]; kernel_rfl) (bvs_one _) ?_; intro w3 hB3 k3 z3)
  have hsz : (Tryz.prog.info? 210).map (·.size) = some (bvs s).toArray.size := by
    rw [List.size_toArray, HL.out]; kernel_rfl
  exact bodyPost_ret (results_cell_row rfl _ _ w.heap.size _ _ _ _ rfl hB3 arrB rfl hsz) rfl ⟨rfl, HK.out.since k3 (fun i e => by cases e; omega)⟩
theorem bitsOf_any (A : Option Addr) (n c : Nat) (w : World) (hn : n ≤ 140737488355328) :
    Calls Tryz.prog 174 #[.slice A n c] w fun e w' => e = .returned (.int .u64 ((8 * n : Nat) : Int)) ∧ w = w' := by
  obtain ⟨m, hm⟩ : ∃ m, m = 8 * n := ⟨_, rfl⟩
  have e1 : IntKind.u64.wrap (n : Int) = (n : Int) := by rw [IntKind.wrap_u64]; omega
  have e2 : IntKind.u64.wrap (8 * (n : Int)) = (m : Int) := by rw [IntKind.wrap_u64]; omega
  rw [← hm]
  clear hm hn
  go_enter Tryz.func174, Tryz.ntmps174
  go_wp2
  go_ret
  exact ⟨rfl, rfl⟩
theorem u8s_under : Tryz.prog.underlying 42 = some (.slice 5) := by kernel_rfl
def lenV : Value → Nat
  | .slice _ n _ => n
  | _ => 0
set_option maxHeartbeats 2000000 in
set_option maxRecDepth 100000 in
theorem write_any [Inhabited Field.SqTab] (p : Nat) (h s l : List UInt8) (A : Option Addr) (n c : Nat) (w : World) (hh : h.length = 16) (hs : s.length = 16) (hS : SumAt w p h s) (hn : l.length = n) (hc : n ≤ c) (hn2 : n ≤ 140737488355328) (hr : Row w A (bvs l)) (hA : l = [] ∨ ∀ k, ab A = some k → k ≠ p) :
    Calls Tryz.prog 172 #[.pointer (some ⟨p, 0, none⟩), .slice A n c] w fun e w' => e = .returned (.tuple #[]) ∧ SumAt w' p h (taken h s l) ∧ Kp (oneB p) w w' := by
  have HH := Lib.hid hh
  have HPL := Lib.hid (fun k => len16 (part_length l k))
  have HPP := Lib.hid (fun k => part_length l k)
  have HZ := Lib.hid (len16 none_length)
  have HN := Lib.hid hn; have HS := Lib.hid hS; have HR := Lib.hid hr; have HA := Lib.hid hA; have HC := Lib.hid hc; have HN2 := Lib.hid hn2
  clear hh hs hS hn hr hA hc hn2
  go_enter Tryz.func172, Tryz.ntmps172
  go_wp2
  go_loopw [1] (fun vb wr => ∃ (k : Nat) (A' : Option Addr) (c' : Nat), 16 * k ≤ n + 15 ∧ vb = .slice A' (n - 16 * k : Nat) c' ∧ n - 16 * k ≤ c' ∧ SumAt wr p h (tk h s l k) ∧ Row wr A' (bvs (l.drop (16 * k))) ∧ (l = [] ∨ ∀ j, ab A' = some j → j ≠ p) ∧ Kp (oneB p) w wr)
    (fun vb _ => lenV vb)
  case atStart => exact ⟨0, A, c, by omega, rfl, by have := HC.out; omega, by rw [tk_zero]; exact HS.out, by rw [Nat.mul_zero, List.drop_zero]; exact HR.out, HA.out, Kp.refl _ _⟩
  case round =>
    obtain ⟨k, A', c', hk, rfl, hcc, hS, hrow, hA', hkp⟩ := hrel
    have HS2 := Lib.hid hS; have HRW := Lib.hid hrow; have HA2 := Lib.hid hA'; have HKP := Lib.hid hkp
    clear hS hrow hA' hkp
    by_cases hlt : 16 * k < n
    · obtain ⟨R, hR⟩ : ∃ R, R = n - 16 * k := ⟨_, rfl⟩
      have hR0 : 0 < R := by omega
      obtain ⟨cs, hcs⟩ : ∃ cs, cs = (l.drop (16 * k)).take 16 := ⟨_, rfl⟩
      obtain ⟨r, hr⟩ : ∃ r, r = cs.length := ⟨_, rfl⟩
      have hr2 : r = min R 16 := by rw [hr, hcs, List.length_take, List.length_drop, HN.out, hR, Nat.min_comm]
      have HCL : Hid ((bvs cs).length = Nat.min R 16) := Lib.hid (by rw [bvs_length, ← hr, hr2])
      have HCR : Hid (cs.length = r) := Lib.hid hr.symm
      have HRC : Hid (Row wr A' (bvs cs)) := Lib.hid (by have := HRW.out.take 16; rwa [bvs, ← List.map_take, ← hcs] at this)
      have HPC : Hid (splice (bvs none16) 0 (bvs cs) = bvs (part l k)) := Lib.hid (by
        have := part_copied l k (by rw [HN.out]; exact hlt)
        rw [← this, splice, List.take_zero, List.nil_append, Nat.zero_add, hcs, bvs_length, List.length_take, Nat.min_comm])
      have HFIT : Hid (0 + (bvs cs).length ≤ (bvs none16).length) := Lib.hid (by rw [HZ.out, bvs_length, ← hr, hr2, Nat.zero_add]; exact Nat.min_le_right _ _)
      have HQ : Hid (R = n - 16 * k ∧ r = min R 16 ∧ 16 * k < n ∧ n - 16 * k ≤ c') := Lib.hid ⟨hR, hr2, hlt, hcc⟩
      have hcut : ∀ wx, (Instr.slice 42 (.slice A' R c') (some (.int .i64 r)) none none).run Tryz.prog wx = .ok (.slice (cutA A' c' r) (R - r) (c' - r)) wx := run_slice_from _ _ u8s_under (fun _ => by kernel_rfl) A' R c' r (by omega)
      have HG : Hid (∀ j, ab (cutA A' c' r) = some j → j ≠ p) := Lib.hid (by rw [ab_cut]; exact HA2.out.resolve_left (fun e => by have := HN.out; rw [e] at this; simp at this; omega))
      have HRN : Hid (Row wr (cutA A' c' r) (bvs (l.drop (16 * (k + 1))))) := Lib.hid (by
        have := HRW.out.cut (c := c') (k := r) (by rw [bvs_length, List.length_drop, HN.out]; exact hcc)
        rw [bvs, ← List.map_drop, List.drop_drop] at this
        by_cases h16 : R < 16
        · rw [List.drop_eq_nil_of_le (by rw [HN.out]; omega)]; exact Row.nil _ _
        · rwa [show 16 * k + r = 16 * (k + 1) by omega] at this)
      generalize cutA A' c' r = A2 at hcut HG HRN
      obtain ⟨R2, hR2⟩ : ∃ x, x = R - r := ⟨_, rfl⟩
      obtain ⟨c2, hc2⟩ : ∃ x, x = c' - r := ⟨_, rfl⟩
      rw [← hR2, ← hc2] at hcut
      have HRR := Lib.hid hR2; have HC2 := Lib.hid hc2
      rw [← hR]
      have HKS := Lib.hid (tk_succ h s l k)
      clear hR hr hr2 hcs hR2 hc2 hlt hcc hk
      obtain ⟨g7, hg7⟩ : ∃ g, g = wr.heap.size := ⟨_, rfl⟩
      have HG7 := Lib.hid hg7
      have HB7 : Hid (Blk (wr.alloc (.cells (bvs none16).toArray 210)) wr.heap.size 210 (bvs none16)) := Lib.hid (Blk.new' rfl rfl)
      clear hg7
      go_wp2_with (first
        | (refine wpList_copy_blk rfl (.tmp 11) (.tmp 12) 42 42 rfl 5 u8s_under (by kernel_rfl) wr.heap.size 0 _ _ _ _ _ _ rfl rfl (bvs none16) 210 HB7.out (bvs cs) HCL.out (fun _ => rfl) (HRC.out.alloc _) HFIT.out (bvs_one _) ?_
           rw [bvs_length, HCR.out, HPC.out]
           intro w2 hB2 k2 z2
           have HB2 := Lib.hid hB2
           have HK2 : Hid (Kp nob wr w2) := Lib.hid (((Kp.refl nob wr).alloc _).since k2 (fun i e => by unfold oneB at e; omega))
           clear hB2 k2 z2)
        | (refine wpList_load_blk rfl 210 (.tmp 4) rfl _ _ _ HB2.out rfl _ arrB rfl (by rw [HPL.out]; kernel_rfl) ?_))
      refine (elementOf_any (part l k) w2 (HPP.out k)).mono ?_
      rintro e w3 ⟨rfl, k3⟩
      have HS3 : Hid (SumAt w3 p h (tk h s l k)) := Lib.hid ((HS2.out.keep HK2.out (fun e => e)).keep k3 (fun e => e))
      have HK3 : Hid (Kp nob wr w3) := Lib.hid (HK2.out.trans k3 (fun _ e => e.elim))
      clear k3
      go_wp2_with fail
      refine (take_any p h (tk h s l k) (part l k) w3 HH.out HS3.out).mono ?_
      rintro e w4 ⟨rfl, hS4, k4⟩
      rw [← HKS.out] at hS4
      have HS4 := Lib.hid hS4
      have HK4 : Hid (Kp (oneB p) wr w4) := Lib.hid ((HK3.out.nob (oneB p)).trans k4 (fun _ e => .inl e))
      clear hS4 k4
      go_wp2
      refine ⟨⟨k + 1, A2, c2, ?_, ?_, ?_, HS4.out, HRN.out.keep HK4.out (fun j e e2 => HG.out j e e2), .inr HG.out, HKP.out.trans HK4.out (fun _ e => .inl e)⟩, ?_⟩
      · have := HQ.out; omega
      · rw [show n - 16 * (k + 1) = R2 by have := HQ.out; have := HRR.out; omega]
      · have := HQ.out; have := HRR.out; have := HC2.out; omega
      · show R2 < R; have := HRR.out; have := HQ.out; omega
    · have h0 : n - 16 * k = 0 := by omega
      have HS5 : Hid (SumAt wr p h (taken h s l)) := Lib.hid (by
        rw [taken_eq, show (l.length + 15) / 16 = k by have := HN.out; omega]; exact HS2.out)
      rw [h0]
      clear hk hlt h0
      go_wp2
      exact bodyPost_end (results_none rfl _ _ _) rfl ⟨rfl, HS5.out, HKP.out⟩
theorem sizes_gb (a t : List UInt8) (p : Nat) (hp : p < 16) : (gb (sizes a t) p).toNat = (if p < 8 then 8 * a.length / 256 ^ (7 - p) else 8 * t.length / 256 ^ (15 - p)) % 256 := by
  rw [← pz_all, pz, gb_tb _ _ hp]
  by_cases h : p < 8
  · rw [if_pos h, if_pos h, if_pos (by omega), UInt8.toNat_ofNat']
  · rw [if_neg h, if_neg h, if_pos (by omega), UInt8.toNat_ofNat']
theorem word_whole (n : Nat) (h : n < 18446744073709551616) (f : Nat → Nat) (hf : ∀ i, i < 8 → f i = n / 256 ^ (7 - i) % 256) : (((((((f 0 * 256 + f 1) * 256 + f 2) * 256 + f 3) * 256 + f 4) * 256 + f 5) * 256 + f 6) * 256 + f 7) = n := by
  rw [hf 0 (by decide), hf 1 (by decide), hf 2 (by decide), hf 3 (by decide), hf 4 (by decide), hf 5 (by decide), hf 6 (by decide), hf 7 (by decide)]
  simp only [Nat.reducePow, Nat.reduceSub]
  omega
theorem wn_eight (b : List UInt8) (o : Nat) : wn b o 8 = ((((((((gb b o).toNat * 256 + (gb b (o + 1)).toNat) * 256 + (gb b (o + 2)).toNat) * 256 + (gb b (o + 3)).toNat) * 256 + (gb b (o + 4)).toNat) * 256 + (gb b (o + 5)).toNat) * 256 + (gb b (o + 6)).toNat) * 256 + (gb b (o + 7)).toNat) := by
  simp only [wn, Nat.add_zero, Nat.zero_mul, Nat.zero_add]
theorem hi_sizes (a t : List UInt8) (h : a.length ≤ 140737488355328) : dw (hi (sizes a t)) = ((8 * a.length : Nat) : Int) := by
  have e : (hi (sizes a t)).toNat = 8 * a.length := by
    rw [hi_eq, wd_nat _ _ _ (Nat.le_refl _), wn_eight]
    simp only [Nat.zero_add]
    exact word_whole (8 * a.length) (by omega) (fun i => (gb (sizes a t) i).toNat) (fun i hi => by rw [sizes_gb _ _ _ (by omega), if_pos hi])
  unfold dw
  rw [e]
theorem lo_sizes (a t : List UInt8) (h : t.length ≤ 140737488355328) : dw (lo (sizes a t)) = ((8 * t.length : Nat) : Int) := by
  have e : (lo (sizes a t)).toNat = 8 * t.length := by
    rw [lo_eq, wd_nat _ _ _ (Nat.le_refl _), wn_eight]
    exact word_whole (8 * t.length) (by omega) (fun i => (gb (sizes a t) (8 + i)).toNat) (fun i hi => by rw [sizes_gb _ _ _ (by omega), if_neg (by omega), show 15 - (8 + i) = 7 - i by omega])
  unfold dw
  rw [e]
theorem sizes_ev (a t : List UInt8) (ha : a.length ≤ 140737488355328) (ht : t.length ≤ 140737488355328) : [.int .u64 ((8 * a.length : Nat) : Int), .int .u64 ((8 * t.length : Nat) : Int)] = ev (sizes a t) := by
  rw [ev_eq, hi_sizes a t ha, lo_sizes a t ht]
structure Fo (w : World) (h : List UInt8) (w2 : World) : Prop where
  h : Blk w2 w.heap.size 210 (bvs h)
  r : Blk w2 (w.heap.size + 1) 210 (bvs none16)
  kp : Kp nob w w2
theorem Fo.keep {w w2 w3 : World} {h : List UInt8} {F : Nat → Prop} (x : Fo w h w2) (k : Kp F w2 w3) (hF : ∀ i, F i → w.heap.size + 1 < i) : Fo w h w3 :=
  ⟨x.h.keep k (fun e => by have := hF _ e; omega), x.r.keep k (fun e => by have := hF _ e; omega), x.kp.since k (fun i e => by have := hF i e; omega)⟩
set_option maxHeartbeats 2000000 in
set_option maxRecDepth 100000 in
theorem of_any [Inhabited Field.SqTab] (h a t : List UInt8) (A : Option Addr) (n c : Nat) (B : Option Addr) (m d : Nat) (w : World) (hh : h.length = 16) (hn : a.length = n) (hc : n ≤ c) (hn2 : n ≤ 140737488355328) (hr : Row w A (bvs a))
    (hm : t.length = m) (hd : m ≤ d) (hm2 : m ≤ 140737488355328) (hr2 : Row w B (bvs t)) :
    Calls Tryz.prog 157 #[.agg (bvs h).toArray, .slice A n c, .slice B m d] w fun e w' => e = .returned (.agg (bvs (sum h a t)).toArray) ∧ Kp nob w w' := by
  have HH := Lib.hid hh; have HHL := Lib.hid (len16 hh)
  have HL1 := Lib.hid (taken_length h none16 a none_length)
  have HL2 := Lib.hid (taken_length h (taken h none16 a) t HL1.out)
  have HSM := Lib.hid (show tms (plus (taken h (taken h none16 a) t) (sizes a t)) h = sum h a t by rw [sum_eq, taken_one _ _ _ (sizes_length a t)])
  have HSL := Lib.hid (sum_length h a t)
  have HEV := Lib.hid (show (#[.int .u64 (8 * (n : Int)), .int .u64 (8 * (m : Int))] : Array Value) = (ev (sizes a t)).toArray by rw [show 8 * (n : Int) = ((8 * n : Nat) : Int) by omega, show 8 * (m : Int) = ((8 * m : Nat) : Int) by omega, ← hn, ← hm, ← sizes_ev a t (by omega) (by omega)])
  have HR1 := Lib.hid hr; have HR2 := Lib.hid hr2; have HA : Hid (a = [] ∨ ∀ k, ab A = some k → k < w.heap.size) := Lib.hid (by
    by_cases e : a = []
    · exact .inl e
    · exact .inr (hr.lt (by simpa [bvs] using e)))
  have HB : Hid (t = [] ∨ ∀ k, ab B = some k → k < w.heap.size) := Lib.hid (by
    by_cases e : t = []
    · exact .inl e
    · exact .inr (hr2.lt (by simpa [bvs] using e)))
  have HN := Lib.hid hn; have HM := Lib.hid hm; have HQ := Lib.hid (And.intro hc hd); have HQ2 := Lib.hid (And.intro hn2 hm2)
  have HZ := Lib.hid (len16 none_length)
  clear hh hn hc hn2 hr hm hd hm2 hr2
  go_enter Tryz.func157, Tryz.ntmps157
  have H0 : Hid (Fo w h ((w.alloc (.cells (bvs h).toArray 210)).alloc (.cells (bvs none16).toArray 210))) := Lib.hid ⟨(Blk.new' rfl rfl).alloc _, Blk.new' (by simp) rfl, ((Kp.refl _ _).alloc _).alloc _⟩
  go_wp2_with (refine wpList_load_blk rfl 210 (.tmp 3) rfl _ _ _ H0.out.h rfl _ arrB rfl (by rw [HHL.out]; kernel_rfl) ?_)
  refine (new_any h _ HH.out).mono ?_
  rintro e w1 ⟨p, rfl, hp, hS, k1⟩
  have H1 := Lib.hid (H0.out.keep k1 (fun _ e => e.elim))
  have HS1 := Lib.hid hS
  have HP : Hid (w.heap.size + 1 < p) := Lib.hid (Nat.lt_of_lt_of_le (by simp) hp)
  clear hp hS k1 H0
  go_wp2_with fail
  refine (write_any p h none16 a A n c w1 HH.out none_length HS1.out HN.out HQ.out.1 HQ2.out.1 (HR1.out.keep0 H1.out.kp) (HA.out.imp_right fun f k hk => by have := f k hk; have := HP.out; omega)).mono ?_
  rintro e w2 ⟨rfl, hS, k2⟩
  have H2 := Lib.hid (H1.out.keep k2 (fun i e => by have := HP.out; unfold oneB at e; omega))
  have HS2 := Lib.hid hS
  clear hS k2 H1 HS1
  go_wp2_with fail
  refine (write_any p h (taken h none16 a) t B m d w2 HH.out HL1.out HS2.out HM.out HQ.out.2 HQ2.out.2 (HR2.out.keep0 H2.out.kp) (HB.out.imp_right fun f k hk => by have := f k hk; have := HP.out; omega)).mono ?_
  rintro e w3 ⟨rfl, hS, k3⟩
  have H3 := Lib.hid (H2.out.keep k3 (fun i e => by have := HP.out; unfold oneB at e; omega))
  have HS3 := Lib.hid hS
  clear hS k3 H2 HS2
  go_wp2_with fail
  refine (bitsOf_any A n c w3 HQ2.out.1).mono ?_
  rintro e w' ⟨rfl, rfl⟩
  go_wp2_with fail
  refine (bitsOf_any B m d w3 HQ2.out.2).mono ?_
  rintro e w' ⟨rfl, rfl⟩
  go_wp2_with fail
  rw [HEV.out]
  refine (take_any p h (taken h (taken h none16 a) t) (sizes a t) w3 HH.out HS3.out).mono ?_
  rintro e w4 ⟨rfl, hS, k4⟩
  rw [HSM.out] at hS
  have H4 := Lib.hid (H3.out.keep k4 (fun i e => by have := HP.out; unfold oneB at e; omega))
  have HS4 := Lib.hid hS
  clear hS k4 H3 HS3
  go_wp2_with fail
  refine (value_any p h (sum h a t) w4 HSL.out HS4.out).mono ?_
  rintro e w5 ⟨rfl, k5⟩
  have H5 := Lib.hid (H4.out.keep k5 (fun _ e => e.elim))
  have HML := Lib.hid (len16 HSL.out)
  clear k5 H4 HS4
  go_wp2_with (refine wpList_store_blk rfl 210 (.tmp 6) (.tmp 24) rfl _ _ (bvs none16) (bvs (sum h a t)) H5.out.r rfl rfl (by rw [HZ.out, HML.out]) (by rw [HML.out]; kernel_rfl) (bvs_one _) ?_; intro w6 hB6 k6 z6)
  have hsz : (Tryz.prog.info? 210).map (·.size) = some (bvs (sum h a t)).toArray.size := by
    rw [List.size_toArray, HML.out]; kernel_rfl
  exact bodyPost_ret (results_cell_row rfl _ _ (w.heap.size + 1) _ _ _ _ rfl hB6 arrB rfl hsz) rfl ⟨rfl, H5.out.kp.since k6 (fun i e => by cases e; omega)⟩
theorem own : ownKnob Tryz.prog.godebug = none := by kernel_rfl
theorem laidOut : laidOutB Tryz.prog = true := by kernel_rfl
end Go.Proofs.YtiimfhacnfdmhaaGreat.Ghash
namespace Go.Proofs.YtiimfhacnfdmhaaGreat.Gcm
open Go Go.RowKit Kit
open Aes (gb tb tb_length tb_gb arrB blk_byte enc enc_length Ciph pt pt_zero pt_all pt_set pt_get bvs_setb)
open Ghash (none16 none_length len16 plus plus_eq sum sum_length)
open Field (cb)
open Sha (Pc PcsOk catP)
set_option maxHeartbeats 2000000 in
set_option maxRecDepth 100000 in
theorem tag_any [Inhabited Field.SqTab] (p : Nat) (W : List UInt8) (R : Nat) (nn l : List UInt8) (A : Option Addr) (n c : Nat) (B : Option Addr) (m d : Nat) (ps : List Pc) (w : World) (hS : SealAt w p W R) (hnn : nn.length = 12) (hl : l.length = n) (hc : n ≤ c) (hn : n ≤ 1099511627776) (hr : Row w A (bvs l))
    (hm : ps.length = m) (hrp : Row w B (ps.map Pc.v)) (hp : PcsOk w nob ps) (hnil : ∀ p ∈ ps, p.A = none → p.c = 0) (hmm : m ≤ 1099511627776) (hlp : (catP ps).length ≤ 1099511627776) :
    Calls Tryz.prog 147 #[.pointer (some ⟨p, 0, none⟩), .agg (bvs nn).toArray, .slice A n c, .slice B m d] w fun e w' => e = .returned (.agg (bvs (tag W R nn (catP ps) l)).toArray) ∧ Kp nob w w' := by
  obtain ⟨g, hg1, hg2⟩ := hS.c
  have HG := Lib.hid (And.intro hg1 hg2)
  have HNN := Lib.hid hnn; have HL := Lib.hid hl; have HR := Lib.hid hr; have HC := Lib.hid hc; have HN := Lib.hid hn
  have HP := Lib.hid (And.intro hm (And.intro hrp (And.intro hp hnil))); have HLP := Lib.hid (And.intro hmm hlp)
  have HNL := Lib.hid (show (bvs nn).length = 12 by rw [bvs_length, hnn])
  have HZ := Lib.hid (len16 none_length)
  obtain ⟨H, hH⟩ : ∃ H, H = enc W R none16 := ⟨_, rfl⟩
  obtain ⟨E, hE⟩ : ∃ E, E = enc W R (nb nn 1) := ⟨_, rfl⟩
  obtain ⟨U, hU⟩ : ∃ U, U = sum H (catP ps) l := ⟨_, rfl⟩
  have HT := Lib.hid (show tag W R nn (catP ps) l = plus U E by rw [tag_eq, hU, hE, hH])
  rw [HT.out]
  have HH := Lib.hid hH; have HE := Lib.hid hE; have HU := Lib.hid hU
  have HHL := Lib.hid (show (bvs H).length = 16 by rw [bvs_length, hH, enc_length])
  have HEL := Lib.hid (show (bvs E).length = 16 by rw [bvs_length, hE, enc_length])
  have HUL := Lib.hid (show (bvs U).length = 16 by rw [bvs_length, hU, sum_length])
  have c0 : w.cell? ⟨p, 0, none⟩ = some (.pointer (some ⟨g, 0, none⟩)) := hg1.cell 0
  clear hS hg1 hg2 hnn hl hr hc hn hm hrp hp hnil hmm hlp hH hE hU
  have hz0 : ((w.alloc (.cells (bvs nn).toArray 154)).alloc (.cells #[.int .u8 0, .int .u8 0, .int .u8 0, .int .u8 0, .int .u8 0, .int .u8 0, .int .u8 0, .int .u8 0, .int .u8 0, .int .u8 0, .int .u8 0, .int .u8 0, .int .u8 0, .int .u8 0, .int .u8 0, .int .u8 0] 210)).cell? ⟨p, 0, none⟩ = some (.pointer (some ⟨g, 0, none⟩)) := ((HG.out.1.alloc _).alloc _).cell 0
  go_enter Tryz.func147, Tryz.ntmps147
  have K0 : Kp nob w ((w.alloc (.cells (bvs nn).toArray 154)).alloc (.cells (bvs none16).toArray 210)) := ((Kp.refl nob w).alloc _).alloc _
  have hN0 : Blk ((w.alloc (.cells (bvs nn).toArray 154)).alloc (.cells (bvs none16).toArray 210)) w.heap.size 154 (bvs nn) := (Blk.new' rfl rfl).alloc _
  have hZ0 : Blk ((w.alloc (.cells (bvs nn).toArray 154)).alloc (.cells (bvs none16).toArray 210)) (w.heap.size + 1) 210 (bvs none16) := Blk.new' (by simp) rfl
  go_wp2_with fail
  refine (Aes.seal_any none16 W g R _ none_length (HG.out.2.keep0 K0)).mono ?_
  rintro e w3 ⟨rfl, k3⟩
  rw [← HH.out]
  have H3 : Hid (Blk w3 w.heap.size 154 (bvs nn) ∧ Blk w3 (w.heap.size + 1) 210 (bvs none16) ∧ Kp nob w w3) := Lib.hid ⟨hN0.keep k3 (fun e => e), hZ0.keep k3 (fun e => e), K0.trans k3 (fun _ e => e.elim)⟩
  clear K0 hN0 hZ0 k3 hz0
  go_wp2_with (refine wpList_store_new rfl 210 (.tmp 9) (.tmp 18) rfl _ (bvs H) rfl rfl (by rw [HHL.out]; rfl) (by rw [HHL.out]; kernel_rfl) (bvs_one _) ?_
               intro w4 hB4 k4 z4
               have H4 : Hid (Blk w4 w.heap.size 154 (bvs nn) ∧ Blk w4 (w.heap.size + 1) 210 (bvs none16) ∧ Kp nob w w4) := Lib.hid ⟨H3.out.1.keep k4 (fun e => e), H3.out.2.1.keep k4 (fun e => e), H3.out.2.2.trans k4 (fun _ e => e.elim)⟩
               have HB4 := Lib.hid hB4
               clear hB4 k4 z4)
  rename_i K1 hK1
  have hcont : ∀ (Ac : Option Addr) (cc m1 : Nat) (w9 : World), Kp nob w4 w9 → Blk w9 m1 210 (bvs U) → w4.heap.size ≤ m1 → K1 { tmps := #[.pointer (some ⟨p, 0, none⟩), .agg (bvs nn).toArray, .slice A n c, .slice B m d, undef, .pointer (some ⟨w.heap.size, 0, none⟩), undef, undef, .pointer (some ⟨w.heap.size + 1, 0, none⟩), .pointer (some ⟨w3.heap.size, 0, none⟩), .pointer (some ⟨m1, 0, none⟩), undef, undef, .pointer (some ⟨p, 0, none⟩), .pointer (some ⟨p, 0, none⟩), .pointer (some ⟨p, 0, none⟩), .pointer (some ⟨g, 0, none⟩), .agg #[.int .u8 0, .int .u8 0, .int .u8 0, .int .u8 0, .int .u8 0, .int .u8 0, .int .u8 0, .int .u8 0, .int .u8 0, .int .u8 0, .int .u8 0, .int .u8 0, .int .u8 0, .int .u8 0, .int .u8 0, .int .u8 0], .agg (bvs H).toArray, .agg (bvs H).toArray, .slice B m d, .slice Ac (catP ps).length cc, .slice A n c, .agg (bvs U).toArray, undef, undef, undef, undef, undef, undef, undef, undef, undef, undef, undef, undef, undef, undef, undef, undef, undef, undef, undef, undef], defers := [] } w9 := by
    intro Ac cc m1 w9 k9 hb9 hm9
    have H9 : Hid (Blk w9 w.heap.size 154 (bvs nn) ∧ Blk w9 (w.heap.size + 1) 210 (bvs none16) ∧ Kp nob w w9) := Lib.hid ⟨H4.out.1.keep k9 (fun e => e), H4.out.2.1.keep k9 (fun e => e), H4.out.2.2.trans k9 (fun _ e => e.elim)⟩
    have HB9 := Lib.hid hb9
    have HM9 := Lib.hid (show w.heap.size + 1 < m1 by have := H4.out.2.1.lt; omega)
    apply hK1
    clear hK1 k9 hb9 hm9
    go_wp2
    rename_i K2 hK2
    have hcont : ∀ (m2 : Nat) (w10 : World), Kp nob w9 w10 → Blk w10 m2 210 (bvs E) → w9.heap.size ≤ m2 → K2 { tmps := #[.pointer (some ⟨p, 0, none⟩), .agg (bvs nn).toArray, .slice A n c, .slice B m d, undef, .pointer (some ⟨w.heap.size, 0, none⟩), undef, undef, .pointer (some ⟨w.heap.size + 1, 0, none⟩), .pointer (some ⟨w3.heap.size, 0, none⟩), .pointer (some ⟨m1, 0, none⟩), .pointer (some ⟨m2, 0, none⟩), undef, .pointer (some ⟨p, 0, none⟩), .pointer (some ⟨p, 0, none⟩), .pointer (some ⟨p, 0, none⟩), .pointer (some ⟨g, 0, none⟩), .agg #[.int .u8 0, .int .u8 0, .int .u8 0, .int .u8 0, .int .u8 0, .int .u8 0, .int .u8 0, .int .u8 0, .int .u8 0, .int .u8 0, .int .u8 0, .int .u8 0, .int .u8 0, .int .u8 0, .int .u8 0, .int .u8 0], .agg (bvs H).toArray, .agg (bvs H).toArray, .slice B m d, .slice Ac (catP ps).length cc, .slice A n c, .agg (bvs U).toArray, .pointer (some ⟨p, 0, none⟩), .pointer (some ⟨p, 0, none⟩), .pointer (some ⟨p, 0, none⟩), .pointer (some ⟨g, 0, none⟩), .agg (bvs nn).toArray, .agg (bvs (nb nn 1)).toArray, .agg (bvs E).toArray, undef, undef, undef, undef, undef, undef, undef, undef, undef, undef, undef, undef, undef], defers := [] } w10 := by
      intro m2 w10 k10 hb10 hm10
      have H10 : Hid (Blk w10 (w.heap.size + 1) 210 (bvs none16) ∧ Kp nob w w10 ∧ Blk w10 m1 210 (bvs U) ∧ Blk w10 m2 210 (bvs E)) := Lib.hid ⟨H9.out.2.1.keep k10 (fun e => e), H9.out.2.2.trans k10 (fun _ e => e.elim), HB9.out.keep k10 (fun e => e), hb10⟩
      have HM10 := Lib.hid (show m1 < m2 by have := HB9.out.lt; omega)
      apply hK2
      clear hK2 k10 hb10 hm10
      go_wp2
      go_loopw [31] (fun vi wr => ∃ k : Nat, k ≤ 16 ∧ vi = .int .i64 (k : Int) ∧ Blk wr m1 210 (bvs (pt (fun i => gb U i ^^^ gb E i) (gb U) k)) ∧ Blk wr m2 210 (bvs E) ∧ Blk wr (w.heap.size + 1) 210 (bvs none16) ∧ Kp nob w wr)
        (fun vi _ => 16 - (intOf vi).toNat)
      case atStart => exact ⟨0, by omega, rfl, by rw [pt_zero, tb_gb _ (by have := HUL.out; rw [bvs_length] at this; exact this)]; exact H10.out.2.2.1, H10.out.2.2.2, H10.out.1, H10.out.2.1⟩
      case round =>
        obtain ⟨k, hk, rfl, h1, h2, h3, hkp⟩ := hrel
        have H1 := Lib.hid h1; have H2 := Lib.hid h2; have H3' := Lib.hid h3; clear h1 h2 h3
        by_cases hlt : k < 16
        · have hc1 : wr.cell? ⟨m1, k, none⟩ = some (.int .u8 (cb (gb U k))) := by rw [H1.out.cell, pt_get _ _ _ hlt]
          have hc2 := blk_byte H2.out k (by have := HEL.out; rw [bvs_length] at this; omega)
          have hf1 : wr.frozen? ⟨m1, k, none⟩ = false := H1.out.frozen _
          go_wp2
          go_region
          go_wp2
          go_roundw
          case rel =>
            refine ⟨k + 1, by omega, by go_num, ?_, ?_, ?_, ?_⟩
            · have := (H1.out.keep (Kp.refl nob wr).drew (fun e => e)).set_ k (.int .u8 (cb (gb U k ^^^ gb E k)))
              rw [bvs_setb, pt_set (fun i => gb U i ^^^ gb E i)] at this
              exact this
            · exact (H2.out.keep (Kp.refl nob wr).drew (fun e => e)).far (by have := HM10.out; simp only; omega) _
            · exact (H3'.out.keep (Kp.refl nob wr).drew (fun e => e)).far (by have := HM9.out; simp only; omega) _
            · exact hkp.drew.setCell (.inr (by have := HM9.out; simp only; omega)) _
          case measure => simp [intOf]; omega
        · obtain rfl : k = 16 := by omega
          have h1 := H1.out
          rw [pt_all, ← plus_eq] at h1
          have HB1 := Lib.hid h1
          have HPL := Lib.hid (show (bvs (plus U E)).length = 16 by rw [bvs_length, Ghash.plus_length])
          clear H1 h1
          go_wp2_with (first
            | (refine wpList_load_blk rfl 210 (.tmp 10) rfl _ _ _ HB1.out rfl _ arrB rfl (by rw [HPL.out]; kernel_rfl) ?_)
            | (refine wpList_store_blk rfl 210 (.tmp 8) (.tmp 43) rfl _ _ (bvs none16) (bvs (plus U E)) H3'.out rfl rfl (by rw [HZ.out, HPL.out]) (by rw [HPL.out]; kernel_rfl) (bvs_one _) ?_; intro w5 hB5 k5 z5))
          have hsz : (Tryz.prog.info? 210).map (·.size) = some (bvs (plus U E)).toArray.size := by
            rw [List.size_toArray, HPL.out]; kernel_rfl
          refine bodyPost_ret (results_cell_row rfl _ _ (w.heap.size + 1) _ _ _ _ rfl hB5 arrB rfl hsz) rfl ⟨rfl, hkp.since k5 (fun i e => by cases e; omega)⟩
    clear hK2
    refine reg_start (fun w' => Kp nob w9 w') (by kernel_rfl) (Kp.refl nob w9).drew (fun wd hd => ?_)
    have H0 := Lib.hid hd
    clear hd
    refine reg_take (v := .pointer (some ⟨p, 0, none⟩)) 0 (some 24) rfl rfl (by kernel_rfl) (by kernel_rfl) (by kernel_rfl) (by rfl) H0.out (fun w hw => by go_simp) ?_
    simp only [Act.put, List.setIfInBounds_toArray, List.set_cons_zero, List.set_cons_succ]
    refine reg_take (v := .pointer (some ⟨p, 0, none⟩)) 1 (some 25) rfl rfl (by kernel_rfl) (by kernel_rfl) (by kernel_rfl) (by rfl) H0.out (fun w hw => by go_simp) ?_
    simp only [Act.put, List.setIfInBounds_toArray, List.set_cons_zero, List.set_cons_succ]
    refine reg_take (v := .pointer (some ⟨p, 0, none⟩)) 2 (some 26) rfl rfl (by kernel_rfl) (by kernel_rfl) (by kernel_rfl) (by rfl) H0.out (fun w hw => by go_simp) ?_
    simp only [Act.put, List.setIfInBounds_toArray, List.set_cons_zero, List.set_cons_succ]
    refine reg_take (v := .pointer (some ⟨g, 0, none⟩)) 3 (some 27) rfl rfl (by kernel_rfl) (by kernel_rfl) (by kernel_rfl) (by rfl) H0.out (fun w hw => by have c0 : w.cell? ⟨p, 0, none⟩ = _ := (HG.out.1.keep (H9.out.2.2.trans hw (fun _ e => e.elim)) (fun e => e)).cell 0; go_simp) ?_
    simp only [Act.put, List.setIfInBounds_toArray, List.set_cons_zero, List.set_cons_succ]
    refine reg_load 4 (some 28) 154 (.tmp 5) rfl rfl rfl (by kernel_rfl) (by kernel_rfl) (by kernel_rfl) (by rfl) H0.out w.heap.size 0 rfl (bvs nn) _ (fun _ x => (H9.out.1.keep x (fun e => e)).range) arrN rfl (by rw [HNL.out]; kernel_rfl) ?_
    simp only [Act.put, List.setIfInBounds_toArray, List.set_cons_zero, List.set_cons_succ]
    refine reg_callOr (w' := wd.alloc (.cells (bvs none16).toArray 210)) (v := .pointer (some ⟨wd.heap.size, 0, none⟩)) 5 7 (some 29) (some 11) rfl rfl rfl rfl (by kernel_rfl) (by rfl) (by rfl) _ _ (exec_func 159 _ _ [.agg (bvs nn).toArray, .int .i64 1] rfl (by kernel_rfl) rfl) (by go_simp; rfl) (H0.out.alloc _) ?wa1 (fun _ => ?wb1)
    case wa1 =>
      refine (block_any nn 1 wd HNN.out (by omega)).mono ?_
      rintro e w1 ⟨rfl, k1⟩
      have H1 := Lib.hid (H0.out.trans k1 (fun _ e => e.elim))
      refine ⟨_, rfl, H1.out, fun _ => ?_⟩
      simp only [Act.put, List.setIfInBounds_toArray, List.set_cons_zero, List.set_cons_succ]
      refine reg_callOr (w' := w1.alloc (.cells (bvs none16).toArray 210)) (v := .pointer (some ⟨w1.heap.size, 0, none⟩)) 6 7 (some 30) (some 11) rfl rfl rfl rfl (by kernel_rfl) (by rfl) (by rfl) _ _ (exec_func 156 _ _ [.pointer (some ⟨g, 0, none⟩), .agg (bvs (nb nn 1)).toArray] rfl (by kernel_rfl) rfl) (by go_simp; rfl) (H1.out.alloc _) ?wa2 (fun _ => ?wb2)
      case wa2 =>
        refine (Aes.seal_any (nb nn 1) W g R w1 (nb_length _ _ HNN.out) (HG.out.2.keep0 (H9.out.2.2.trans H1.out (fun _ e => e.elim)))).mono ?_
        rintro e w2 ⟨rfl, k2⟩
        rw [← HE.out]
        have H2 := Lib.hid (H1.out.trans k2 (fun _ e => e.elim))
        refine ⟨_, rfl, H2.out, fun _ => ?_⟩
        simp only [Act.put, List.setIfInBounds_toArray, List.set_cons_zero, List.set_cons_succ]
        refine reg_step (w' := w2.alloc (.cells (bvs none16).toArray 210)) (v := .pointer (some ⟨w2.heap.size, 0, none⟩)) 7 (some 11) rfl rfl (by kernel_rfl) (by rfl) (by go_simp; rfl) (H2.out.alloc _) (fun _ => ?_)
        simp only [Act.put, List.setIfInBounds_toArray, List.set_cons_zero, List.set_cons_succ]
        have hbk : Blk (w2.alloc (.cells (bvs none16).toArray 210)) w2.heap.size 210 (bvs none16) := Blk.new' rfl rfl
        have hge := H2.out.size
        refine reg_store 8 none 210 (.tmp 11) (.tmp 30) rfl rfl rfl (by kernel_rfl) (by rfl) w2.heap.size _ _ (bvs E) hbk rfl rfl (by rw [HEL.out, HZ.out]) (by rw [HEL.out]; kernel_rfl) (bvs_one _) ?_
        intro w99 hB99 k99 z99
        have hkk : Kp nob w9 w99 := (H2.out.alloc _).since k99 (fun i e => by unfold oneB at e; omega)
        refine ⟨hkk, fun _ => ?_⟩
        simp only [Act.put, List.setIfInBounds_toArray, List.set_cons_zero, List.set_cons_succ]
        exact reg_end (by kernel_rfl) (hcont w2.heap.size w99 hkk hB99 hge)
      case wb2 =>
        simp only [Act.put, List.setIfInBounds_toArray, List.set_cons_zero, List.set_cons_succ]
        have hbk : Blk (w1.alloc (.cells (bvs none16).toArray 210)) w1.heap.size 210 (bvs none16) := Blk.new' rfl rfl
        have hge := H1.out.size
        have H1a := Lib.hid (H1.out.alloc (.cells (bvs none16).toArray 210))
        generalize w1.alloc (.cells (bvs none16).toArray 210) = w1a at *
        refine reg_call 6 (some 30) rfl rfl (by kernel_rfl) (by rfl) _ _ (exec_func 156 _ _ [.pointer (some ⟨g, 0, none⟩), .agg (bvs (nb nn 1)).toArray] rfl (by kernel_rfl) rfl) ?_
        refine (Aes.seal_any (nb nn 1) W g R w1a (nb_length _ _ HNN.out) (HG.out.2.keep0 (H9.out.2.2.trans H1a.out (fun _ e => e.elim)))).mono ?_
        rintro e w2 ⟨rfl, k2⟩
        rw [← HE.out]
        have H2 := Lib.hid (H1a.out.trans k2 (fun _ e => e.elim))
        refine ⟨_, rfl, H2.out, fun _ => ?_⟩
        simp only [Act.put, List.setIfInBounds_toArray, List.set_cons_zero, List.set_cons_succ]
        have hbk2 := hbk.keep k2 (fun e => e)
        refine reg_store 8 none 210 (.tmp 11) (.tmp 30) rfl rfl rfl (by kernel_rfl) (by rfl) w1.heap.size _ _ (bvs E) hbk2 rfl rfl (by rw [HEL.out, HZ.out]) (by rw [HEL.out]; kernel_rfl) (bvs_one _) ?_
        intro w99 hB99 k99 z99
        have hkk : Kp nob w9 w99 := (H2.out).since k99 (fun i e => by unfold oneB at e; omega)
        refine ⟨hkk, fun _ => ?_⟩
        simp only [Act.put, List.setIfInBounds_toArray, List.set_cons_zero, List.set_cons_succ]
        exact reg_end (by kernel_rfl) (hcont w1.heap.size w99 hkk hB99 hge)
    case wb1 =>
      simp only [Act.put, List.setIfInBounds_toArray, List.set_cons_zero, List.set_cons_succ]
      have hbk : Blk (wd.alloc (.cells (bvs none16).toArray 210)) wd.heap.size 210 (bvs none16) := Blk.new' rfl rfl
      have hge := H0.out.size
      have H0a := Lib.hid (H0.out.alloc (.cells (bvs none16).toArray 210))
      generalize wd.alloc (.cells (bvs none16).toArray 210) = wda at *
      refine reg_call 5 (some 29) rfl rfl (by kernel_rfl) (by rfl) _ _ (exec_func 159 _ _ [.agg (bvs nn).toArray, .int .i64 1] rfl (by kernel_rfl) rfl) ?_
      refine (block_any nn 1 wda HNN.out (by omega)).mono ?_
      rintro e w1 ⟨rfl, k1⟩
      have H1 := Lib.hid (H0a.out.trans k1 (fun _ e => e.elim))
      refine ⟨_, rfl, H1.out, fun _ => ?_⟩
      simp only [Act.put, List.setIfInBounds_toArray, List.set_cons_zero, List.set_cons_succ]
      refine reg_call 6 (some 30) rfl rfl (by kernel_rfl) (by rfl) _ _ (exec_func 156 _ _ [.pointer (some ⟨g, 0, none⟩), .agg (bvs (nb nn 1)).toArray] rfl (by kernel_rfl) rfl) ?_
      refine (Aes.seal_any (nb nn 1) W g R w1 (nb_length _ _ HNN.out) (HG.out.2.keep0 (H9.out.2.2.trans H1.out (fun _ e => e.elim)))).mono ?_
      rintro e w2 ⟨rfl, k2⟩
      rw [← HE.out]
      have H2 := Lib.hid (H1.out.trans k2 (fun _ e => e.elim))
      refine ⟨_, rfl, H2.out, fun _ => ?_⟩
      simp only [Act.put, List.setIfInBounds_toArray, List.set_cons_zero, List.set_cons_succ]
      have hbk2 := (hbk.keep k1 (fun e => e)).keep k2 (fun e => e)
      refine reg_store 8 none 210 (.tmp 11) (.tmp 30) rfl rfl rfl (by kernel_rfl) (by rfl) wd.heap.size _ _ (bvs E) hbk2 rfl rfl (by rw [HEL.out, HZ.out]) (by rw [HEL.out]; kernel_rfl) (bvs_one _) ?_
      intro w99 hB99 k99 z99
      have hkk : Kp nob w9 w99 := (H2.out).since k99 (fun i e => by unfold oneB at e; omega)
      refine ⟨hkk, fun _ => ?_⟩
      simp only [Act.put, List.setIfInBounds_toArray, List.set_cons_zero, List.set_cons_succ]
      exact reg_end (by kernel_rfl) (hcont wd.heap.size w99 hkk hB99 hge)
  clear hK1
  refine reg_start (fun w' => Kp nob w4 w') (by kernel_rfl) (Kp.refl nob w4).drew (fun wd hd => ?_)
  have H0 := Lib.hid hd
  clear hd
  refine reg_load 0 (some 19) 210 (.tmp 9) rfl rfl rfl (by kernel_rfl) (by kernel_rfl) (by kernel_rfl) (by rfl) H0.out w3.heap.size 0 rfl (bvs H) _ (fun _ x => (HB4.out.keep x (fun e => e)).range) arrB rfl (by rw [HHL.out]; kernel_rfl) ?_
  simp only [Act.put, List.setIfInBounds_toArray, List.set_cons_zero, List.set_cons_succ]
  refine reg_take (v := .slice B m d) 1 (some 20) rfl rfl (by kernel_rfl) (by kernel_rfl) (by kernel_rfl) (by rfl) H0.out (fun w hw => by go_simp) ?_
  simp only [Act.put, List.setIfInBounds_toArray, List.set_cons_zero, List.set_cons_succ]
  refine reg_take (v := .slice A n c) 3 (some 22) rfl rfl (by kernel_rfl) (by kernel_rfl) (by kernel_rfl) (by rfl) H0.out (fun w hw => by go_simp) ?_
  simp only [Act.put, List.setIfInBounds_toArray, List.set_cons_zero, List.set_cons_succ]
  refine reg_callOr (w' := wd.alloc (.cells (bvs none16).toArray 210)) (v := .pointer (some ⟨wd.heap.size, 0, none⟩)) 2 5 (some 21) (some 10) rfl rfl rfl rfl (by kernel_rfl) (by rfl) (by rfl) _ _ (exec_func 158 _ _ [.slice B m d] rfl (by kernel_rfl) rfl) (by go_simp; rfl) (H0.out.alloc _) ?wa1 (fun _ => ?wb1)
  case wa1 =>
    refine (concat_any B m d ps wd HP.out.1 (HP.out.2.1.keep0 (H4.out.2.2.trans H0.out (fun _ e => e.elim))) (HP.out.2.2.1.keep0 (H4.out.2.2.trans H0.out (fun _ e => e.elim))) HP.out.2.2.2 HLP.out.1 HLP.out.2).mono ?_
    rintro e w1 ⟨Ac, cc, rfl, hOc, k1, hAc⟩
    have H1 := Lib.hid (H0.out.trans k1 (fun _ e => e.elim))
    refine ⟨_, rfl, H1.out, fun _ => ?_⟩
    simp only [Act.put, List.setIfInBounds_toArray, List.set_cons_zero, List.set_cons_succ]
    refine reg_callOr (w' := w1.alloc (.cells (bvs none16).toArray 210)) (v := .pointer (some ⟨w1.heap.size, 0, none⟩)) 4 5 (some 23) (some 10) rfl rfl rfl rfl (by kernel_rfl) (by rfl) (by rfl) _ _ (exec_func 157 _ _ [.agg (bvs H).toArray, .slice Ac (catP ps).length cc, .slice A n c] rfl (by kernel_rfl) rfl) (by go_simp; rfl) (H1.out.alloc _) ?wa2 (fun _ => ?wb2)
    case wa2 =>
      refine (Ghash.of_any H (catP ps) l Ac _ cc A n c w1 (by have := HHL.out; rw [bvs_length] at this; exact this) rfl hOc.cap.1 (by have := HLP.out.2; omega) hOc.row HL.out HC.out (by have := HN.out; omega) (HR.out.keep0 (H4.out.2.2.trans H1.out (fun _ e => e.elim)))).mono ?_
      rintro e w2 ⟨rfl, k2⟩
      rw [← HU.out]
      have H2 := Lib.hid (H1.out.trans k2 (fun _ e => e.elim))
      refine ⟨_, rfl, H2.out, fun _ => ?_⟩
      simp only [Act.put, List.setIfInBounds_toArray, List.set_cons_zero, List.set_cons_succ]
      refine reg_step (w' := w2.alloc (.cells (bvs none16).toArray 210)) (v := .pointer (some ⟨w2.heap.size, 0, none⟩)) 5 (some 10) rfl rfl (by kernel_rfl) (by rfl) (by go_simp; rfl) (H2.out.alloc _) (fun _ => ?_)
      simp only [Act.put, List.setIfInBounds_toArray, List.set_cons_zero, List.set_cons_succ]
      have hbk : Blk (w2.alloc (.cells (bvs none16).toArray 210)) w2.heap.size 210 (bvs none16) := Blk.new' rfl rfl
      have hge := H2.out.size
      refine reg_store 6 none 210 (.tmp 10) (.tmp 23) rfl rfl rfl (by kernel_rfl) (by rfl) w2.heap.size _ _ (bvs U) hbk rfl rfl (by rw [HUL.out, HZ.out]) (by rw [HUL.out]; kernel_rfl) (bvs_one _) ?_
      intro w99 hB99 k99 z99
      have hkk : Kp nob w4 w99 := (H2.out.alloc _).since k99 (fun i e => by unfold oneB at e; omega)
      refine ⟨hkk, fun _ => ?_⟩
      simp only [Act.put, List.setIfInBounds_toArray, List.set_cons_zero, List.set_cons_succ]
      exact reg_end (by kernel_rfl) (hcont Ac cc w2.heap.size w99 hkk hB99 hge)
    case wb2 =>
      simp only [Act.put, List.setIfInBounds_toArray, List.set_cons_zero, List.set_cons_succ]
      have hbk : Blk (w1.alloc (.cells (bvs none16).toArray 210)) w1.heap.size 210 (bvs none16) := Blk.new' rfl rfl
      have hge := H1.out.size
      have H1a := Lib.hid (H1.out.alloc (.cells (bvs none16).toArray 210))
      have hOc := hOc.alloc (.cells (bvs none16).toArray 210)
      generalize w1.alloc (.cells (bvs none16).toArray 210) = w1a at *
      refine reg_call 4 (some 23) rfl rfl (by kernel_rfl) (by rfl) _ _ (exec_func 157 _ _ [.agg (bvs H).toArray, .slice Ac (catP ps).length cc, .slice A n c] rfl (by kernel_rfl) rfl) ?_
      refine (Ghash.of_any H (catP ps) l Ac _ cc A n c w1a (by have := HHL.out; rw [bvs_length] at this; exact this) rfl hOc.cap.1 (by have := HLP.out.2; omega) hOc.row HL.out HC.out (by have := HN.out; omega) (HR.out.keep0 (H4.out.2.2.trans H1a.out (fun _ e => e.elim)))).mono ?_
      rintro e w2 ⟨rfl, k2⟩
      rw [← HU.out]
      have H2 := Lib.hid (H1a.out.trans k2 (fun _ e => e.elim))
      refine ⟨_, rfl, H2.out, fun _ => ?_⟩
      simp only [Act.put, List.setIfInBounds_toArray, List.set_cons_zero, List.set_cons_succ]
      have hbk2 := hbk.keep k2 (fun e => e)
      refine reg_store 6 none 210 (.tmp 10) (.tmp 23) rfl rfl rfl (by kernel_rfl) (by rfl) w1.heap.size _ _ (bvs U) hbk2 rfl rfl (by rw [HUL.out, HZ.out]) (by rw [HUL.out]; kernel_rfl) (bvs_one _) ?_
      intro w99 hB99 k99 z99
      have hkk : Kp nob w4 w99 := (H2.out).since k99 (fun i e => by unfold oneB at e; omega)
      refine ⟨hkk, fun _ => ?_⟩
      simp only [Act.put, List.setIfInBounds_toArray, List.set_cons_zero, List.set_cons_succ]
      exact reg_end (by kernel_rfl) (hcont Ac cc w1.heap.size w99 hkk hB99 hge)
  case wb1 =>
    simp only [Act.put, List.setIfInBounds_toArray, List.set_cons_zero, List.set_cons_succ]
    have hbk : Blk (wd.alloc (.cells (bvs none16).toArray 210)) wd.heap.size 210 (bvs none16) := Blk.new' rfl rfl
    have hge := H0.out.size
    have H0a := Lib.hid (H0.out.alloc (.cells (bvs none16).toArray 210))
    generalize wd.alloc (.cells (bvs none16).toArray 210) = wda at *
    refine reg_call 2 (some 21) rfl rfl (by kernel_rfl) (by rfl) _ _ (exec_func 158 _ _ [.slice B m d] rfl (by kernel_rfl) rfl) ?_
    refine (concat_any B m d ps wda HP.out.1 (HP.out.2.1.keep0 (H4.out.2.2.trans H0a.out (fun _ e => e.elim))) (HP.out.2.2.1.keep0 (H4.out.2.2.trans H0a.out (fun _ e => e.elim))) HP.out.2.2.2 HLP.out.1 HLP.out.2).mono ?_
    rintro e w1 ⟨Ac, cc, rfl, hOc, k1, hAc⟩
    have H1 := Lib.hid (H0a.out.trans k1 (fun _ e => e.elim))
    refine ⟨_, rfl, H1.out, fun _ => ?_⟩
    simp only [Act.put, List.setIfInBounds_toArray, List.set_cons_zero, List.set_cons_succ]
    refine reg_call 4 (some 23) rfl rfl (by kernel_rfl) (by rfl) _ _ (exec_func 157 _ _ [.agg (bvs H).toArray, .slice Ac (catP ps).length cc, .slice A n c] rfl (by kernel_rfl) rfl) ?_
    refine (Ghash.of_any H (catP ps) l Ac _ cc A n c w1 (by have := HHL.out; rw [bvs_length] at this; exact this) rfl hOc.cap.1 (by have := HLP.out.2; omega) hOc.row HL.out HC.out (by have := HN.out; omega) (HR.out.keep0 (H4.out.2.2.trans H1.out (fun _ e => e.elim)))).mono ?_
    rintro e w2 ⟨rfl, k2⟩
    rw [← HU.out]
    have H2 := Lib.hid (H1.out.trans k2 (fun _ e => e.elim))
    refine ⟨_, rfl, H2.out, fun _ => ?_⟩
    simp only [Act.put, List.setIfInBounds_toArray, List.set_cons_zero, List.set_cons_succ]
    have hbk2 := (hbk.keep k1 (fun e => e)).keep k2 (fun e => e)
    refine reg_store 6 none 210 (.tmp 10) (.tmp 23) rfl rfl rfl (by kernel_rfl) (by rfl) wd.heap.size _ _ (bvs U) hbk2 rfl rfl (by rw [HUL.out, HZ.out]) (by rw [HUL.out]; kernel_rfl) (bvs_one _) ?_
    intro w99 hB99 k99 z99
    have hkk : Kp nob w4 w99 := (H2.out).since k99 (fun i e => by unfold oneB at e; omega)
    refine ⟨hkk, fun _ => ?_⟩
    simp only [Act.put, List.setIfInBounds_toArray, List.set_cons_zero, List.set_cons_succ]
    exact reg_end (by kernel_rfl) (hcont Ac cc wd.heap.size w99 hkk hB99 hge)
end Go.Proofs.YtiimfhacnfdmhaaGreat.Gcm
namespace Go.Proofs.YtiimfhacnfdmhaaGreat.Tags
open Go Go.RowKit Kit
open Aes (gb)
open Field (cb)
theorem gb_eq (l : List UInt8) (i : Nat) : gb l i = l.getD i 0 := rfl
set_option maxHeartbeats 1000000 in
theorem at_any (A : Option Addr) (n c : Nat) (l : List UInt8) (i : Nat) (w : World) (hl : l.length = n) (hr : Row w A (bvs l)) (_ : n ≤ 1099511627776) :
    Calls Tryz.prog 160 #[.slice A n c, .int .i64 i] w fun e w' => e = .returned (.int .u8 (cb (gb l i))) ∧ w = w' := by
  by_cases h : i < n
  · obtain ⟨b, o, rfl, hb, hcell⟩ := hr.at_ (i := i) (by rw [bvs_length, hl]; exact h)
    obtain ⟨x, hx⟩ : ∃ x, x = gb l i := ⟨_, rfl⟩
    have hc : w.cell? ⟨b, o + i, none⟩ = some (.int .u8 (cb x)) := by
      rw [hcell, hx, gb_eq, List.getD, List.getElem?_eq_getElem (by omega)]; simp [bvs, bv, cb]
    rw [← hx]
    clear hcell hx hl
    go_enter Tryz.func160, Tryz.ntmps160
    go_wp2
    go_ret
    exact ⟨rfl, rfl⟩
  · have hx : gb l i = 0 := by rw [gb_eq, List.getD, List.getElem?_eq_none (by omega)]; rfl
    rw [hx]
    clear hx hl
    have d1 : decide ((i : Int) < (n : Int)) = false := by simp; omega
    go_enter Tryz.func160, Tryz.ntmps160
    go_wp2
    go_ret
    exact ⟨rfl, rfl⟩
def diff (l m : List UInt8) : Nat → UInt8
  | 0 => 0
  | k + 1 => diff l m k ||| (gb l k ^^^ gb m k)
theorem u8_or_zero (a b : UInt8) : a ||| b = 0 ↔ a = 0 ∧ b = 0 := by
  constructor
  · intro h
    have h1 : (a ||| b).toBitVec = 0#8 := by rw [h]; rfl
    rw [UInt8.toBitVec_or] at h1
    rw [BitVec.or_eq_zero_iff] at h1
    exact ⟨UInt8.toBitVec_inj.1 h1.1, UInt8.toBitVec_inj.1 h1.2⟩
  · rintro ⟨rfl, rfl⟩; rfl
theorem diff_zero (l m : List UInt8) (k : Nat) : diff l m k = 0 ↔ ∀ i, i < k → gb l i = gb m i := by
  induction k with
  | zero => simp [diff]
  | succ k ih =>
    rw [diff, u8_or_zero, ih, UInt8.xor_eq_zero_iff]
    constructor
    · rintro ⟨h1, h2⟩ i hi
      by_cases h : i = k
      · subst h; exact h2
      · exact h1 i (by omega)
    · intro h
      exact ⟨fun i hi => h i (by omega), h k (by omega)⟩
theorem diff_same (l m : List UInt8) (h : l.length = m.length) : diff l m (max l.length m.length) = 0 ↔ l = m := by
  rw [diff_zero, h, Nat.max_self]
  constructor
  · intro hd
    apply List.ext_getElem h
    intro i h1 h2
    have := hd i h2
    rwa [gb_eq, gb_eq, List.getD, List.getD, List.getElem?_eq_getElem h1, List.getElem?_eq_getElem h2] at this
  · rintro rfl i _; rfl
theorem diff_none (l m : List UInt8) : diff l m 0 = 0 := rfl
theorem diff_more (l m : List UInt8) (k : Nat) : diff l m (k + 1) = diff l m k ||| (gb l k ^^^ gb m k) := rfl
attribute [irreducible] diff
set_option maxHeartbeats 1000000 in
theorem same_left (A : Option Addr) (n c : Nat) (l : List UInt8) (B : Option Addr) (m d : Nat) (q : List UInt8) (w : World) (hl : l.length = n) (hr : Row w A (bvs l)) (hn : n ≤ 1099511627776) (hq : q.length = m) (hr2 : Row w B (bvs q)) (hm : m ≤ 1099511627776) (hx : m ≤ n) :
    Calls Tryz.prog 148 #[.slice A n c, .slice B m d] w fun e w' => e = .returned (.bool (l == q)) ∧ w = w' := by
  have hN : max l.length q.length = n := by rw [hl, hq]; omega
  have HL := Lib.hid hl; have HQ := Lib.hid hq; have HN := Lib.hid hN
  clear hl hq hN
  go_enter Tryz.func148, Tryz.ntmps148
  go_wp2
  go_loop [5, 12] (fun vd vi => ∃ k : Nat, k ≤ n ∧ vi = .int .i64 k ∧ vd = .int .u8 (cb (diff l q k)))
    (fun _ vi => n - (intOf vi).toNat)
  case atStart => exact ⟨0, by omega, rfl, by rw [diff_none]; rfl⟩
  case round =>
    obtain ⟨k, hk, rfl, rfl⟩ := hrel
    have HD := Lib.hid (diff_more l q k)
    by_cases hlt : k < n
    · generalize diff l q k = D at *
      go_wp2_with (first
        | (go_at_call_of 160 (Value.slice A n c)
           refine (at_any A n c l k _ HL.out hr hn).mono ?_
           rintro e w' ⟨rfl, rfl⟩)
        | (go_at_call_of 160 (Value.slice B m d)
           refine (at_any B m d q k _ HQ.out hr2 hm).mono ?_
           rintro e w' ⟨rfl, rfl⟩))
      go_round
      case rel => exact ⟨k + 1, by omega, by go_num, by rw [HD.out]⟩
      case measure => simp [intOf]; omega
    · obtain rfl : n = k := by omega
      have HS := Lib.hid (diff_same l q)
      rw [HN.out] at HS
      obtain ⟨D, hD⟩ : ∃ D, D = diff l q n := ⟨_, rfl⟩
      rw [← hD] at HS ⊢
      clear hD
      by_cases h0 : D = 0
      · have d0 : ((cb D : Int) == 0) = true := by rw [h0]; rfl
        by_cases hnm : n = m
        · have d1 : ((n : Int) == (m : Int)) = true := by rw [beq_iff_eq]; omega
          have E : Hid ((l == q) = true) := Lib.hid (by
            rw [beq_iff_eq]; exact (HS.out (by rw [HL.out, HQ.out]; exact hnm)).1 h0)
          clear HS h0
          have HNM := Lib.hid hnm; clear hnm
          go_wp2
          go_ret
          exact ⟨by rw [E.out]; rfl, rfl⟩
        · have d1 : ((n : Int) == (m : Int)) = false := by rw [beq_eq_false_iff_ne]; omega
          have E : Hid ((l == q) = false) := Lib.hid (by
            rw [beq_eq_false_iff_ne]; rintro rfl; exact hnm (HL.out.symm.trans HQ.out))
          clear HS h0
          go_wp2
          go_ret
          exact ⟨by rw [E.out]; rfl, rfl⟩
      · have d0 : ((cb D : Int) == 0) = false := by
          rw [beq_eq_false_iff_ne]; intro e; exact h0 (UInt8.toNat_inj.1 (by have : D.toNat = 0 := by unfold cb at e; omega
                                                                             rw [this]; rfl))
        have E : Hid ((l == q) = false) := Lib.hid (by
          rw [beq_eq_false_iff_ne]; rintro rfl; exact h0 ((HS.out rfl).2 rfl))
        clear HS h0
        go_wp2
        go_ret
        exact ⟨by rw [E.out]; rfl, rfl⟩
set_option maxHeartbeats 1000000 in
theorem same_right (A : Option Addr) (n c : Nat) (l : List UInt8) (B : Option Addr) (m d : Nat) (q : List UInt8) (w : World) (hl : l.length = n) (hr : Row w A (bvs l)) (hn : n ≤ 1099511627776) (hq : q.length = m) (hr2 : Row w B (bvs q)) (hm : m ≤ 1099511627776) (hx : n < m) :
    Calls Tryz.prog 148 #[.slice A n c, .slice B m d] w fun e w' => e = .returned (.bool (l == q)) ∧ w = w' := by
  have hN : max l.length q.length = m := by rw [hl, hq]; omega
  have HL := Lib.hid hl; have HQ := Lib.hid hq; have HN := Lib.hid hN
  clear hl hq hN
  go_enter Tryz.func148, Tryz.ntmps148
  go_wp2
  go_loop [5, 12] (fun vd vi => ∃ k : Nat, k ≤ m ∧ vi = .int .i64 k ∧ vd = .int .u8 (cb (diff l q k)))
    (fun _ vi => m - (intOf vi).toNat)
  case atStart => exact ⟨0, by omega, rfl, by rw [diff_none]; rfl⟩
  case round =>
    obtain ⟨k, hk, rfl, rfl⟩ := hrel
    have HD := Lib.hid (diff_more l q k)
    by_cases hlt : k < m
    · generalize diff l q k = D at *
      go_wp2_with (first
        | (go_at_call_of 160 (Value.slice A n c)
           refine (at_any A n c l k _ HL.out hr hn).mono ?_
           rintro e w' ⟨rfl, rfl⟩)
        | (go_at_call_of 160 (Value.slice B m d)
           refine (at_any B m d q k _ HQ.out hr2 hm).mono ?_
           rintro e w' ⟨rfl, rfl⟩))
      go_round
      case rel => exact ⟨k + 1, by omega, by go_num, by rw [HD.out]⟩
      case measure => simp [intOf]; omega
    · obtain rfl : m = k := by omega
      have HS := Lib.hid (diff_same l q)
      rw [HN.out] at HS
      obtain ⟨D, hD⟩ : ∃ D, D = diff l q m := ⟨_, rfl⟩
      rw [← hD] at HS ⊢
      clear hD
      by_cases h0 : D = 0
      · have d0 : ((cb D : Int) == 0) = true := by rw [h0]; rfl
        by_cases hnm : n = m
        · have d1 : ((n : Int) == (m : Int)) = true := by rw [beq_iff_eq]; omega
          have E : Hid ((l == q) = true) := Lib.hid (by
            rw [beq_iff_eq]; exact (HS.out (by rw [HL.out, HQ.out]; exact hnm)).1 h0)
          clear HS h0
          have HNM := Lib.hid hnm; clear hnm
          go_wp2
          go_ret
          exact ⟨by rw [E.out]; rfl, rfl⟩
        · have d1 : ((n : Int) == (m : Int)) = false := by rw [beq_eq_false_iff_ne]; omega
          have E : Hid ((l == q) = false) := Lib.hid (by
            rw [beq_eq_false_iff_ne]; rintro rfl; exact hnm (HL.out.symm.trans HQ.out))
          clear HS h0
          go_wp2
          go_ret
          exact ⟨by rw [E.out]; rfl, rfl⟩
      · have d0 : ((cb D : Int) == 0) = false := by
          rw [beq_eq_false_iff_ne]; intro e; exact h0 (UInt8.toNat_inj.1 (by have : D.toNat = 0 := by unfold cb at e; omega
                                                                             rw [this]; rfl))
        have E : Hid ((l == q) = false) := Lib.hid (by
          rw [beq_eq_false_iff_ne]; rintro rfl; exact h0 ((HS.out rfl).2 rfl))
        clear HS h0
        go_wp2
        go_ret
        exact ⟨by rw [E.out]; rfl, rfl⟩
theorem same_any (A : Option Addr) (n c : Nat) (l : List UInt8) (B : Option Addr) (m d : Nat) (q : List UInt8) (w : World) (hl : l.length = n) (hr : Row w A (bvs l)) (hn : n ≤ 1099511627776) (hq : q.length = m) (hr2 : Row w B (bvs q)) (hm : m ≤ 1099511627776) :
    Calls Tryz.prog 148 #[.slice A n c, .slice B m d] w fun e w' => e = .returned (.bool (l == q)) ∧ w = w' := by
  by_cases h : m ≤ n
  · exact same_left A n c l B m d q w hl hr hn hq hr2 hm h
  · exact same_right A n c l B m d q w hl hr hn hq hr2 hm (by omega)
end Go.Proofs.YtiimfhacnfdmhaaGreat.Tags
namespace Go.Proofs.YtiimfhacnfdmhaaGreat.Gcm
open Go Go.RowKit Kit
open Aes (gb tb tb_length arrB enc enc_length)
open Ghash (none16 none_length len16)
open Field (cb)
open Sha (Pc PcsOk catP)
structure Aad (w : World) (B : Option Addr) (m : Nat) (ps : List Pc) : Prop where
  q : ps.length = m
  r : Row w B (ps.map Pc.v)
  p : PcsOk w nob ps
  n : ∀ p ∈ ps, p.A = none → p.c = 0
  l : m ≤ 1099511627776
  c : (catP ps).length ≤ 1099511627776
theorem Aad.keep0 {w w2 : World} {B : Option Addr} {m : Nat} {ps : List Pc} (h : Aad w B m ps) (k : Kp nob w w2) : Aad w2 B m ps := ⟨h.q, h.r.keep0 k, h.p.keep0 k, h.n, h.l, h.c⟩
set_option maxHeartbeats 2000000 in
set_option maxRecDepth 100000 in
theorem seal_yes [Inhabited Field.SqTab] (p : Nat) (W : List UInt8) (R : Nat) (nn l : List UInt8) (A : Option Addr) (n c : Nat) (B : Option Addr) (m d : Nat) (ps : List Pc) (w : World) (hS : SealAt w p W R) (hnn : nn.length = 12) (hl : l.length = n) (hc : n ≤ c) (hr : Row w A (bvs l)) (ha : Aad w B m ps) (hx : n ≤ 1048576) (hx2 : (catP ps).length ≤ 1048576) :
    Calls Tryz.prog 140 #[.pointer (some ⟨p, 0, none⟩), .agg (bvs nn).toArray, .slice A n c, .slice B m d] w fun e w' => ∃ A' c', e = .returned (.tuple #[.slice A' (n + 16) c', .int .i64 0]) ∧ Kit.Own 5 w' A' (n + 16) c' (bvs (gs W R nn l (catP ps))) ∧ Kp nob w w' ∧ ∀ k, ab A' = some k → w.heap.size ≤ k := by
  have HX := Lib.hid (show (decide (1048576 < n) || decide (1048576 < (catP ps).length)) = false by simp; omega)
  have HA := Lib.hid ha; have HNN := Lib.hid hnn; have HL := Lib.hid hl; have HR := Lib.hid hr; have HC := Lib.hid hc; have HN := Lib.hid hx; have HS := Lib.hid hS
  have HNL := Lib.hid (show (bvs nn).length = 12 by rw [bvs_length, hnn])
  obtain ⟨T, hT⟩ : ∃ T, T = stream W R nn l := ⟨_, rfl⟩
  obtain ⟨G, hG⟩ : ∃ G, G = tag W R nn (catP ps) T := ⟨_, rfl⟩
  have HGS := Lib.hid (show gs W R nn l (catP ps) = T ++ G by rw [gs_eq, hG, hT])
  have HT := Lib.hid hT; have HG := Lib.hid hG
  have HTL := Lib.hid (show T.length = n by rw [hT, stream_length, hl])
  have HGL := Lib.hid (show (bvs G).length = 16 by rw [bvs_length, hG, tag_length])
  clear hx hx2 ha hnn hl hr hc hS hT hG
  go_enter Tryz.func140, Tryz.ntmps140
  go_wp2_with fail
  refine (long_any A n c B m d ps _ HA.out.q (HA.out.r.alloc _) (HA.out.p.keep0 ((Kp.refl nob w).alloc _)) (by have := HN.out; omega) HA.out.l HA.out.c).mono ?_
  rintro e w1 ⟨rfl, rfl⟩
  rw [HX.out]
  have hn0 : Blk (w.alloc (.cells (bvs nn).toArray 154)) w.heap.size 154 (bvs nn) := Blk.new' rfl rfl
  have hk0 : Kp nob w (w.alloc (.cells (bvs nn).toArray 154)) := (Kp.refl _ _).alloc _
  have H0 := Lib.hid (And.intro hn0 hk0)
  clear hn0 hk0
  generalize w.alloc (.cells (bvs nn).toArray 154) = w1 at *
  go_wp2_with (first
    | (refine wpList_load_blk rfl 154 (.tmp 5) rfl _ _ _ H0.out.1 rfl _ arrN rfl (by rw [HNL.out]; kernel_rfl) ?_)
    | fail)
  refine (masked_any p W R nn l A n c w1 (HS.out.keep0 H0.out.2) HNN.out HL.out HC.out (by have := HN.out; omega) (HR.out.keep0 H0.out.2)).mono ?_
  rintro e w2 ⟨A2, c2, rfl, hO, k2, hA2⟩
  rw [← HT.out] at hO
  have H2 : Hid (Blk w2 w.heap.size 154 (bvs nn) ∧ Kp nob w w2) := Lib.hid ⟨H0.out.1.keep k2 (fun e => e), H0.out.2.trans k2 (fun _ e => e.elim)⟩
  have HO2 := Lib.hid hO
  have HA2 : Hid (∀ k, ab A2 = some k → w.heap.size ≤ k) := Lib.hid (fun k e => by have := hA2 k e; have := H0.out.2.size; omega)
  clear hO k2 hA2
  go_wp2_with (first
    | (refine wpList_load_blk rfl 154 (.tmp 5) rfl _ _ _ H2.out.1 rfl _ arrN rfl (by rw [HNL.out]; kernel_rfl) ?_)
    | fail)
  refine (tag_any p W R nn T A2 n c2 B m d ps w2 (HS.out.keep0 H2.out.2) HNN.out HTL.out HO2.out.cap.1 (by have := HN.out; omega) HO2.out.row HA.out.q (HA.out.r.keep0 H2.out.2) (HA.out.p.keep0 H2.out.2) HA.out.n HA.out.l HA.out.c).mono ?_
  rintro e w3 ⟨rfl, k3⟩
  rw [← HG.out]
  have HK3 := Lib.hid (H2.out.2.trans k3 (fun _ e => e.elim))
  have HO3 := Lib.hid (HO2.out.keep k3 (fun _ _ e => e))
  clear k3 H2 HO2
  have hba := block_all w3.heap.size 0
  have b1 : (n + 16) * 1 ≤ 140737488355328 := by have := HN.out; omega
  have b2 : n + 16 ≤ 140737488355328 := by have := HN.out; omega
  obtain ⟨i0, hi0, hz0, hz1, hz2⟩ := info_parts (show (Tryz.prog.info? 5).map (fun i => (i.zero, i.size, i.bytes)) = some (some (.int .u8 0), 1, 1) by kernel_rfl)
  have HI := Lib.hid (And.intro hi0 (And.intro hz0 (And.intro hz1 hz2)))
  clear hi0 hz0 hz1 hz2
  go_wp2_with (first
    | (refine wpList_store_new rfl 210 (.tmp 11) (.tmp 27) rfl _ (bvs G) rfl rfl (by rw [HGL.out]; rfl) (by rw [HGL.out]; kernel_rfl) (bvs_one _) ?_
       intro w4 hB4 k4 z4
       have HB4 := Lib.hid hB4
       have HK4 := Lib.hid (HK3.out.trans k4 (fun _ e => e.elim))
       have HO4 := Lib.hid (HO3.out.keep k4 (fun _ _ e => e))
       clear hB4 k4 z4)
    | (refine wpList_appR _ rfl (.tmp 28) (.tmp 29) 42 rfl 5 i0 (.int .u8 0) 1 u8s_under HI.out.1 HI.out.2.1 HI.out.2.2.1 HI.out.2.2.2 rfl A2 n c2 _ rfl HO4.out (some ⟨w3.heap.size, 0, none⟩) 16 16 (bvs G) rfl (fun e => by cases e) HGL.out HB4.out.row (bvs_one _) b1 b2 ?_
       intro A5 c5 w5 hown hg hab
       have HO5 := Lib.hid (show Kit.Own 5 w5 A5 (n + 16) c5 (bvs (gs W R nn l (catP ps))) by rw [HGS.out, bvs_append]; exact hown)
       have HK5 := Lib.hid (HK4.out.since (Kp.of_grown (F := rowF A2) hg (fun k e => e)) (fun k e => HA2.out k e))
       have HA5 : Hid (∀ k, ab A5 = some k → w.heap.size ≤ k) := Lib.hid (fun k e => by
         rcases hab with h | h
         · exact HA2.out k (by rw [← h]; exact e)
         · rw [h] at e; cases e; exact HK4.out.size)
       clear hown hg hab)
    | fail)
  go_ret2
  exact ⟨A5, c5, rfl, HO5.out, HK5.out, HA5.out⟩
theorem kp_drewN {F : Nat → Prop} {a b : World} (h : Kp F a b) (k : Nat) : Kp F a (b.drewN k) := ⟨h.os, h.tape, h.output, h.size, h.block⟩
set_option maxHeartbeats 2000000 in
set_option maxRecDepth 100000 in
theorem open_any [Inhabited Field.SqTab] (p : Nat) (W : List UInt8) (R : Nat) (nn l : List UInt8) (A : Option Addr) (n c : Nat) (B : Option Addr) (m d : Nat) (ps : List Pc) (w : World) (hS : SealAt w p W R) (hnn : nn.length = 12) (hl : l.length = n + 16) (hc : n + 16 ≤ c) (hr : Row w A (bvs l)) (ha : Aad w B m ps) (hx : n ≤ 1048576) (hx2 : (catP ps).length ≤ 1048576) (y : Bool) (hy : (tag W R nn (catP ps) (l.take n) == l.drop n) = y) :
    Calls Tryz.prog 139 #[.pointer (some ⟨p, 0, none⟩), .agg (bvs nn).toArray, .slice A (n + 16) c, .slice B m d] w fun e w' => Kp nob w w' ∧ (y = true → ∃ A' c', e = .returned (.tuple #[.slice A' n c', .int .i64 0]) ∧ Kit.Own 5 w' A' n c' (bvs (stream W R nn (l.take n))) ∧ ∀ k, ab A' = some k → w.heap.size ≤ k) ∧ (y = false → e = .returned (.tuple #[.slice none 0 0, .int .i64 9])) := by
  have HX := Lib.hid (show (decide (1048576 < n) || decide (1048576 < (catP ps).length)) = false by simp; omega)
  have HA := Lib.hid ha; have HNN := Lib.hid hnn; have HN := Lib.hid hx; have HS := Lib.hid hS
  have HNL := Lib.hid (show (bvs nn).length = 12 by rw [bvs_length, hnn])
  have hs1 := slice_to A (n + 16) c n (by omega)
  have hs2 : ∀ w, (Instr.slice 42 (.slice A (n + 16) c) (some (.int .i64 n)) none none).run Tryz.prog w = .ok (.slice (cutA A c n) 16 (c - n)) w := fun w => by
    have := slice_from A (n + 16) c n (by omega) w
    rw [show n + 16 - n = 16 by omega] at this; exact this
  have e1 : IntKind.i64.wrap (((n + 16 : Nat) : Int) - 16) = (n : Int) := by rw [IntKind.wrap_i64]; omega
  have d1 : decide ((n : Int) < 0) = false := by simp
  have HR1 := Lib.hid (show Row w A (bvs (l.take n)) by have := hr.take n; rw [bvs, ← List.map_take] at this; exact this)
  have HR2 := Lib.hid (show Row w (cutA A c n) (bvs (l.drop n)) by
    have := hr.cut (c := c) (k := n) (by rw [bvs_length]; omega)
    rw [bvs, ← List.map_drop] at this; exact this)
  obtain ⟨T, hT⟩ : ∃ T, T = l.take n := ⟨_, rfl⟩
  obtain ⟨D, hD⟩ : ∃ D, D = l.drop n := ⟨_, rfl⟩
  obtain ⟨G, hG⟩ : ∃ G, G = tag W R nn (catP ps) T := ⟨_, rfl⟩
  rw [← hT] at HR1; rw [← hD] at HR2
  rw [← hT, ← hD, ← hG] at hy
  rw [← hT]
  have HG := Lib.hid hG; have HY := Lib.hid hy
  have HTL := Lib.hid (show T.length = n by rw [hT, List.length_take]; omega)
  have HDL := Lib.hid (show D.length = 16 by rw [hD, List.length_drop]; omega)
  have HGL := Lib.hid (show (bvs G).length = 16 by rw [bvs_length, hG, tag_length])
  have HC := Lib.hid (show n ≤ c by omega)
  obtain ⟨N, hN⟩ : ∃ N, N = n + 16 := ⟨_, rfl⟩
  rw [← hN] at e1 hs1 hs2 ⊢
  clear hx hx2 ha hnn hl hr hc hS hG hT hD hy hN
  go_enter Tryz.func139, Tryz.ntmps139
  go_wp2
  go_quiet (fail)
  have h0 : Blk ((w.alloc (.cells (bvs nn).toArray 154)).drewN nq) w.heap.size 154 (bvs nn) ∧ Kp nob w ((w.alloc (.cells (bvs nn).toArray 154)).drewN nq) := ⟨Blk.new' (w := w) rfl rfl, kp_drewN ((Kp.refl nob w).alloc _) nq⟩
  have H0 := Lib.hid h0
  generalize (w.alloc (.cells (bvs nn).toArray 154)).drewN nq = w1 at *
  clear h0 hs1 hs2
  go_wp2_with fail
  refine (long_any A n c B m d ps _ HA.out.q (HA.out.r.keep0 H0.out.2) (HA.out.p.keep0 H0.out.2) (by have := HN.out; omega) HA.out.l HA.out.c).mono ?_
  rintro e w2 ⟨rfl, rfl⟩
  rw [HX.out]
  go_wp2_with (first
    | (refine wpList_load_blk rfl 154 (.tmp 5) rfl _ _ _ H0.out.1 rfl _ arrN rfl (by rw [HNL.out]; kernel_rfl) ?_)
    | fail)
  refine (tag_any p W R nn T A n c B m d ps w1 (HS.out.keep0 H0.out.2) HNN.out HTL.out HC.out (by have := HN.out; omega) (HR1.out.keep0 H0.out.2) HA.out.q (HA.out.r.keep0 H0.out.2) (HA.out.p.keep0 H0.out.2) HA.out.n HA.out.l HA.out.c).mono ?_
  rintro e w3 ⟨rfl, k3⟩
  rw [← HG.out]
  have H3 : Hid (Blk w3 w.heap.size 154 (bvs nn) ∧ Kp nob w w3) := Lib.hid ⟨H0.out.1.keep k3 (fun e => e), H0.out.2.trans k3 (fun _ e => e.elim)⟩
  clear k3 H0
  have hba := block_all w3.heap.size 0
  go_wp2_with (first
    | (refine wpList_store_new rfl 210 (.tmp 13) (.tmp 34) rfl _ (bvs G) rfl rfl (by rw [HGL.out]; rfl) (by rw [HGL.out]; kernel_rfl) (bvs_one _) ?_
       intro w4 hB4 k4 z4
       have H4 : Hid (Blk w4 w.heap.size 154 (bvs nn) ∧ Kp nob w w4 ∧ Blk w4 w3.heap.size 210 (bvs G)) := Lib.hid ⟨H3.out.1.keep k4 (fun e => e), H3.out.2.trans k4 (fun _ e => e.elim), hB4⟩
       clear hB4 k4 z4)
    | fail)
  refine (Tags.same_any (some ⟨w3.heap.size, 0, none⟩) 16 16 G (cutA A c n) 16 (c - n) D w4 (by have := HGL.out; rw [bvs_length] at this; exact this) H4.out.2.2.row (by omega) HDL.out (HR2.out.keep0 H4.out.2.1) (by omega)).mono ?_
  rintro e w5 ⟨rfl, rfl⟩
  rw [HY.out]
  clear hba H3
  cases y with
  | false =>
    go_wp2
    go_ret2
    exact ⟨H4.out.2.1, rfl⟩
  | true =>
    go_wp2_with (first
      | (refine wpList_load_blk rfl 154 (.tmp 5) rfl _ _ _ H4.out.1 rfl _ arrN rfl (by rw [HNL.out]; kernel_rfl) ?_)
      | fail)
    refine (masked_any p W R nn T A n c w4 (HS.out.keep0 H4.out.2.1) HNN.out HTL.out HC.out (by have := HN.out; omega) (HR1.out.keep0 H4.out.2.1)).mono ?_
    rintro e w6 ⟨A6, c6, rfl, hO, k6, hA6⟩
    have hz := H4.out.2.1.size
    go_wp2
    go_ret2
    exact ⟨H4.out.2.1.trans k6 (fun _ e => e.elim), A6, c6, rfl, hO, fun k e => by have := hA6 k e; omega⟩
end Go.Proofs.YtiimfhacnfdmhaaGreat.Gcm
