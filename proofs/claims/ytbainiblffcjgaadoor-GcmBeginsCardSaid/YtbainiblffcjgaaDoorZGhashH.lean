/- Contracts of package ghash: the sum of two texts; what the laws of layer 7 play. -/
import Derived.Test.YtbainiblffcjgaaDoorZGhashG
import Derived.Test.YtbainiblffcjgaaDoorZGd
import Derived.Stop.BytesEq
import Derived.Deep.Matrix
namespace Go.Proofs.YtbainiblffcjgaaDoor.Ghash
set_option linter.unusedVariables false
set_option linter.unusedSimpArgs false
open Go Go.RowKit Kit
open Aes (gb tb tb_length gb_tb tb_gb tb_ext tb_eq pt pt_all pt_zero pt_get pt_set bvs_setb blk_byte arr16)
open Field (cb cb_inj)

theorem sizes_gb (a t : List UInt8) (p : Nat) (hp : p < 16) : (gb (sizes a t) p).toNat = (if p < 8 then 8 * a.length / 256 ^ (7 - p) else 8 * t.length / 256 ^ (15 - p)) % 256 := by
  rw [← pz_all, pz, gb_tb _ _ hp]
  by_cases h : p < 8
  · rw [if_pos h, if_pos h, if_pos (by omega), UInt8.toNat_ofNat']
  · rw [if_neg h, if_neg h, if_pos (by omega), UInt8.toNat_ofNat']
theorem word_whole (n : Nat) (h : n < 18446744073709551616) (f : Nat → Nat) (hf : ∀ i, i < 8 → f i = n / 256 ^ (7 - i) % 256) : (((((((f 0 * 256 + f 1) * 256 + f 2) * 256 + f 3) * 256 + f 4) * 256 + f 5) * 256 + f 6) * 256 + f 7) = n := by
  rw [hf 0 (by decide), hf 1 (by decide), hf 2 (by decide), hf 3 (by decide), hf 4 (by decide), hf 5 (by decide), hf 6 (by decide), hf 7 (by decide)]
  simp only [Nat.reducePow, Nat.reduceSub]
  omega
theorem wn_eight (b : List UInt8) (o : Nat) : wn b o 8 = ((((((((gb b o).toNat * 256 + (gb b (o + 1)).toNat) * 256 + (gb b (o + 2)).toNat) * 256 + (gb b (o + 3)).toNat) * 256 + (gb b (o + 4)).toNat) * 256 + (gb b (o + 5)).toNat) * 256 + (gb b (o + 6)).toNat) * 256 + (gb b (o + 7)).toNat) := by
  simp only [wn, Nat.add_zero, Nat.zero_mul, Nat.zero_add]
theorem hi_sizes (a t : List UInt8) (h : a.length ≤ 140737488355328) : dw (hi (sizes a t)) = ((8 * a.length : Nat) : Int) := by
  have e : (hi (sizes a t)).toNat = 8 * a.length := by
    rw [hi_eq, wd_nat _ _ _ (Nat.le_refl _), wn_eight]
    simp only [Nat.zero_add]
    exact word_whole (8 * a.length) (by omega) (fun i => (gb (sizes a t) i).toNat) (fun i hi => by rw [sizes_gb _ _ _ (by omega), if_pos hi])
  unfold dw
  rw [e]
theorem lo_sizes (a t : List UInt8) (h : t.length ≤ 140737488355328) : dw (lo (sizes a t)) = ((8 * t.length : Nat) : Int) := by
  have e : (lo (sizes a t)).toNat = 8 * t.length := by
    rw [lo_eq, wd_nat _ _ _ (Nat.le_refl _), wn_eight]
    exact word_whole (8 * t.length) (by omega) (fun i => (gb (sizes a t) (8 + i)).toNat) (fun i hi => by rw [sizes_gb _ _ _ (by omega), if_neg (by omega), show 15 - (8 + i) = 7 - i by omega])
  unfold dw
  rw [e]
theorem sizes_ev (a t : List UInt8) (ha : a.length ≤ 140737488355328) (ht : t.length ≤ 140737488355328) : [.int .u64 ((8 * a.length : Nat) : Int), .int .u64 ((8 * t.length : Nat) : Int)] = ev (sizes a t) := by
  rw [ev_eq, hi_sizes a t ha, lo_sizes a t ht]

/-- What stands while a sum of two texts is made. -/
structure Fo (w : World) (h : List UInt8) (w2 : World) : Prop where
  h : Blk w2 w.heap.size 51 (bvs h)
  r : Blk w2 (w.heap.size + 1) 51 (bvs none16)
  kp : Kp nob w w2
theorem Fo.keep {w w2 w3 : World} {h : List UInt8} {F : Nat → Prop} (x : Fo w h w2) (k : Kp F w2 w3) (hF : ∀ i, F i → w.heap.size + 1 < i) : Fo w h w3 :=
  ⟨x.h.keep k (fun e => by have := hF _ e; omega), x.r.keep k (fun e => by have := hF _ e; omega), x.kp.since k (fun i e => by have := hF i e; omega)⟩

set_option maxHeartbeats 2000000 in
set_option maxRecDepth 100000 in
theorem of_any (h a t : List UInt8) (A : Option Addr) (n c : Nat) (B : Option Addr) (m d : Nat) (w : World) (hh : h.length = 16) (hn : a.length = n) (hc : n ≤ c) (hn2 : n ≤ 140737488355328) (hr : Row w A (bvs a))
    (hm : t.length = m) (hd : m ≤ d) (hm2 : m ≤ 140737488355328) (hr2 : Row w B (bvs t)) :
    Calls Tryd.prog 32 #[.agg (bvs h).toArray, .slice A n c, .slice B m d] w fun e w' => e = .returned (.agg (bvs (sum h a t)).toArray) ∧ Kp nob w w' := by
  have HH := Lib.hid hh; have HHL := Lib.hid (len16 hh)
  have HL1 := Lib.hid (taken_length h none16 a none_length)
  have HL2 := Lib.hid (taken_length h (taken h none16 a) t HL1.out)
  have HSM := Lib.hid (show tms (plus (taken h (taken h none16 a) t) (sizes a t)) h = sum h a t by rw [sum_eq, taken_one _ _ _ (sizes_length a t)])
  have HSL := Lib.hid (sum_length h a t)
  have HEV := Lib.hid (show (#[.int .u64 (8 * (n : Int)), .int .u64 (8 * (m : Int))] : Array Value) = (ev (sizes a t)).toArray by rw [show 8 * (n : Int) = ((8 * n : Nat) : Int) by omega, show 8 * (m : Int) = ((8 * m : Nat) : Int) by omega, ← hn, ← hm, ← sizes_ev a t (by omega) (by omega)])
  have HR1 := Lib.hid hr; have HR2 := Lib.hid hr2; have HA : Hid (a = [] ∨ ∀ k, ab A = some k → k < w.heap.size) := Lib.hid (by
    by_cases e : a = []
    · exact .inl e
    · exact .inr (hr.lt (by simpa [bvs] using e)))
  have HB : Hid (t = [] ∨ ∀ k, ab B = some k → k < w.heap.size) := Lib.hid (by
    by_cases e : t = []
    · exact .inl e
    · exact .inr (hr2.lt (by simpa [bvs] using e)))
  have HN := Lib.hid hn; have HM := Lib.hid hm; have HQ := Lib.hid (And.intro hc hd); have HQ2 := Lib.hid (And.intro hn2 hm2)
  have HZ := Lib.hid (len16 none_length)
  clear hh hn hc hn2 hr hm hd hm2 hr2
  go_enter Tryd.func32, Tryd.ntmps32
  have H0 : Hid (Fo w h ((w.alloc (.cells (bvs h).toArray 51)).alloc (.cells (bvs none16).toArray 51))) := Lib.hid ⟨(Blk.new' rfl rfl).alloc _, Blk.new' (by simp) rfl, ((Kp.refl _ _).alloc _).alloc _⟩
  go_wp2_with (refine wpList_load_blk rfl 51 (.tmp 3) rfl _ _ _ H0.out.h rfl _ arrB rfl (by rw [HHL.out]; kernel_rfl) ?_)
  refine (new_any h _ HH.out).mono ?_
  rintro e w1 ⟨p, rfl, hp, hS, k1⟩
  have H1 := Lib.hid (H0.out.keep k1 (fun _ e => e.elim))
  have HS1 := Lib.hid hS
  have HP : Hid (w.heap.size + 1 < p) := Lib.hid (Nat.lt_of_lt_of_le (by simp) hp)
  clear hp hS k1 H0
  go_wp2_with fail
  refine (write_any p h none16 a A n c w1 HH.out none_length HS1.out HN.out HQ.out.1 HQ2.out.1 (HR1.out.keep0 H1.out.kp) (HA.out.imp_right fun f k hk => by have := f k hk; have := HP.out; omega)).mono ?_
  rintro e w2 ⟨rfl, hS, k2⟩
  have H2 := Lib.hid (H1.out.keep k2 (fun i e => by have := HP.out; unfold oneB at e; omega))
  have HS2 := Lib.hid hS
  clear hS k2 H1 HS1
  go_wp2_with fail
  refine (write_any p h (taken h none16 a) t B m d w2 HH.out HL1.out HS2.out HM.out HQ.out.2 HQ2.out.2 (HR2.out.keep0 H2.out.kp) (HB.out.imp_right fun f k hk => by have := f k hk; have := HP.out; omega)).mono ?_
  rintro e w3 ⟨rfl, hS, k3⟩
  have H3 := Lib.hid (H2.out.keep k3 (fun i e => by have := HP.out; unfold oneB at e; omega))
  have HS3 := Lib.hid hS
  clear hS k3 H2 HS2
  go_wp2_with fail
  refine (bitsOf_any A n c w3 HQ2.out.1).mono ?_
  rintro e w' ⟨rfl, rfl⟩
  go_wp2_with fail
  refine (bitsOf_any B m d w3 HQ2.out.2).mono ?_
  rintro e w' ⟨rfl, rfl⟩
  go_wp2_with fail
  rw [HEV.out]
  refine (take_any p h (taken h (taken h none16 a) t) (sizes a t) w3 HH.out HS3.out).mono ?_
  rintro e w4 ⟨rfl, hS, k4⟩
  rw [HSM.out] at hS
  have H4 := Lib.hid (H3.out.keep k4 (fun i e => by have := HP.out; unfold oneB at e; omega))
  have HS4 := Lib.hid hS
  clear hS k4 H3 HS3
  go_wp2_with fail
  refine (value_any p h (sum h a t) w4 HSL.out HS4.out).mono ?_
  rintro e w5 ⟨rfl, k5⟩
  have H5 := Lib.hid (H4.out.keep k5 (fun _ e => e.elim))
  have HML := Lib.hid (len16 HSL.out)
  clear k5 H4 HS4
  go_wp2_with (refine wpList_store_blk rfl 51 (.tmp 6) (.tmp 24) rfl _ _ (bvs none16) (bvs (sum h a t)) H5.out.r rfl rfl (by rw [HZ.out, HML.out]) (by rw [HML.out]; kernel_rfl) (bvs_one _) ?_; intro w6 hB6 k6 z6)
  have hsz : (Tryd.prog.info? 51).map (·.size) = some (bvs (sum h a t)).toArray.size := by
    rw [List.size_toArray, HML.out]; kernel_rfl
  exact bodyPost_ret (results_cell_row rfl _ _ (w.heap.size + 1) _ _ _ _ rfl hB6 arrB rfl hsz) rfl ⟨rfl, H5.out.kp.since k6 (fun i e => by cases e; omega)⟩
theorem own : ownKnob Tryd.prog.godebug = none := by kernel_rfl
theorem laidOut : laidOutB Tryd.prog = true := by kernel_rfl
theorem eqB (xs ys : List UInt8) (hx : xs.length = 16) (hy : ys.length = 16) (w : World) : (Op.equalIn 10000 51 (.agg (bvs xs).toArray) (.agg (bvs ys).toArray)).run Tryd.prog w = .ok (xs == ys) w :=
  run_equalIn_bytes w 9998 51 5 16 arrB (by kernel_rfl) (fun _ => by kernel_rfl) xs ys hx hy
theorem eq16 (xs ys : List UInt8) (hx : xs.length = 16) (hy : ys.length = 16) (w : World) : (Op.equalIn 10000 50 (.agg (bvs xs).toArray) (.agg (bvs ys).toArray)).run Tryd.prog w = .ok (xs == ys) w :=
  run_equalIn_bytes w 9998 50 5 16 arr16 (by kernel_rfl) (fun _ => by kernel_rfl) xs ys hx hy
theorem eqB_same (l : List UInt8) (h : l.length = 16) (w : World) : (Op.equalIn 10000 51 (.agg (bvs l).toArray) (.agg (bvs l).toArray)).run Tryd.prog w = .ok true w := by
  rw [eqB _ _ h h]; simp
theorem eq16_same (l : List UInt8) (h : l.length = 16) (w : World) : (Op.equalIn 10000 50 (.agg (bvs l).toArray) (.agg (bvs l).toArray)).run Tryd.prog w = .ok true w := by
  rw [eq16 _ _ h h]; simp
end Go.Proofs.YtbainiblffcjgaaDoor.Ghash
