/- Contracts of package ghash: the sum of two texts; what the laws of layer 7 play. · Contracts of package gcm: the tag of a text that was taken. · Contract of package hmac: whether two tags are the same; by bytes as stages 6 and later have them, without anything else of the package. -/
import Derived.Test.YtmmpmncioifeoaaZG37
import Derived.Test.YtmmpmncioifeoaaZG27
import Derived.Test.YtmmpmncioifeoaaZG35
import Derived.Test.YtmmpmncioifeoaaZG07
import Derived.Test.YtmmpmncioifeoaaZG25
import Derived.Test.YtmmpmncioifeoaaZG22
import Derived.Stop.BytesEq
import Derived.Deep.Matrix
import Derived.Test.YtmmpmncioifeoaaRows
namespace Go.Proofs.Ytmmpmncioifeoaa.Ghash
set_option linter.unusedVariables false
set_option linter.unusedSimpArgs false
open Go Go.RowKit Kit
open Aes (gb tb tb_length gb_tb tb_gb tb_ext tb_eq pt pt_all pt_zero pt_get pt_set bvs_setb blk_byte arr16)
open Field (cb cb_inj)

theorem sizes_gb (a t : List UInt8) (p : Nat) (hp : p < 16) : (gb (sizes a t) p).toNat = (if p < 8 then 8 * a.length / 256 ^ (7 - p) else 8 * t.length / 256 ^ (15 - p)) % 256 := by
  rw [← pz_all, pz, gb_tb _ _ hp]
  by_cases h : p < 8
  · rw [if_pos h, if_pos h, if_pos (by omega), UInt8.toNat_ofNat']
  · rw [if_neg h, if_neg h, if_pos (by omega), UInt8.toNat_ofNat']
theorem word_whole (n : Nat) (h : n < 18446744073709551616) (f : Nat → Nat) (hf : ∀ i, i < 8 → f i = n / 256 ^ (7 - i) % 256) : (((((((f 0 * 256 + f 1) * 256 + f 2) * 256 + f 3) * 256 + f 4) * 256 + f 5) * 256 + f 6) * 256 + f 7) = n := by
  rw [hf 0 (by decide), hf 1 (by decide), hf 2 (by decide), hf 3 (by decide), hf 4 (by decide), hf 5 (by decide), hf 6 (by decide), hf 7 (by decide)]
  simp only [Nat.reducePow, Nat.reduceSub]
  omega
theorem wn_eight (b : List UInt8) (o : Nat) : wn b o 8 = ((((((((gb b o).toNat * 256 + (gb b (o + 1)).toNat) * 256 + (gb b (o + 2)).toNat) * 256 + (gb b (o + 3)).toNat) * 256 + (gb b (o + 4)).toNat) * 256 + (gb b (o + 5)).toNat) * 256 + (gb b (o + 6)).toNat) * 256 + (gb b (o + 7)).toNat) := by
  simp only [wn, Nat.add_zero, Nat.zero_mul, Nat.zero_add]
theorem hi_sizes (a t : List UInt8) (h : a.length ≤ 140737488355328) : dw (hi (sizes a t)) = ((8 * a.length : Nat) : Int) := by
  have e : (hi (sizes a t)).toNat = 8 * a.length := by
    rw [hi_eq, wd_nat _ _ _ (Nat.le_refl _), wn_eight]
    simp only [Nat.zero_add]
    exact word_whole (8 * a.length) (by omega) (fun i => (gb (sizes a t) i).toNat) (fun i hi => by rw [sizes_gb _ _ _ (by omega), if_pos hi])
  unfold dw
  rw [e]
theorem lo_sizes (a t : List UInt8) (h : t.length ≤ 140737488355328) : dw (lo (sizes a t)) = ((8 * t.length : Nat) : Int) := by
  have e : (lo (sizes a t)).toNat = 8 * t.length := by
    rw [lo_eq, wd_nat _ _ _ (Nat.le_refl _), wn_eight]
    exact word_whole (8 * t.length) (by omega) (fun i => (gb (sizes a t) (8 + i)).toNat) (fun i hi => by rw [sizes_gb _ _ _ (by omega), if_neg (by omega), show 15 - (8 + i) = 7 - i by omega])
  unfold dw
  rw [e]
theorem sizes_ev (a t : List UInt8) (ha : a.length ≤ 140737488355328) (ht : t.length ≤ 140737488355328) : [.int .u64 ((8 * a.length : Nat) : Int), .int .u64 ((8 * t.length : Nat) : Int)] = ev (sizes a t) := by
  rw [ev_eq, hi_sizes a t ha, lo_sizes a t ht]

/-- What stands while a sum of two texts is made. -/
structure Fo (w : World) (h : List UInt8) (w2 : World) : Prop where
  h : Blk w2 w.heap.size 142 (bvs h)
  r : Blk w2 (w.heap.size + 1) 142 (bvs none16)
  kp : Kp nob w w2
theorem Fo.keep {w w2 w3 : World} {h : List UInt8} {F : Nat → Prop} (x : Fo w h w2) (k : Kp F w2 w3) (hF : ∀ i, F i → w.heap.size + 1 < i) : Fo w h w3 :=
  ⟨x.h.keep k (fun e => by have := hF _ e; omega), x.r.keep k (fun e => by have := hF _ e; omega), x.kp.since k (fun i e => by have := hF i e; omega)⟩

set_option maxHeartbeats 2000000 in
set_option maxRecDepth 100000 in
theorem of_any [Inhabited Field.SqTab] (h a t : List UInt8) (A : Option Addr) (n c : Nat) (B : Option Addr) (m d : Nat) (w : World) (hh : h.length = 16) (hn : a.length = n) (hc : n ≤ c) (hn2 : n ≤ 140737488355328) (hr : Row w A (bvs a))
    (hm : t.length = m) (hd : m ≤ d) (hm2 : m ≤ 140737488355328) (hr2 : Row w B (bvs t)) :
    Calls Try.prog 104 #[.agg (bvs h).toArray, .slice A n c, .slice B m d] w fun e w' => e = .returned (.agg (bvs (sum h a t)).toArray) ∧ Kp nob w w' := by
  have HH := Lib.hid hh; have HHL := Lib.hid (len16 hh)
  have HL1 := Lib.hid (taken_length h none16 a none_length)
  have HL2 := Lib.hid (taken_length h (taken h none16 a) t HL1.out)
  have HSM := Lib.hid (show tms (plus (taken h (taken h none16 a) t) (sizes a t)) h = sum h a t by rw [sum_eq, taken_one _ _ _ (sizes_length a t)])
  have HSL := Lib.hid (sum_length h a t)
  have HEV := Lib.hid (show (#[.int .u64 (8 * (n : Int)), .int .u64 (8 * (m : Int))] : Array Value) = (ev (sizes a t)).toArray by rw [show 8 * (n : Int) = ((8 * n : Nat) : Int) by omega, show 8 * (m : Int) = ((8 * m : Nat) : Int) by omega, ← hn, ← hm, ← sizes_ev a t (by omega) (by omega)])
  have HR1 := Lib.hid hr; have HR2 := Lib.hid hr2; have HA : Hid (a = [] ∨ ∀ k, ab A = some k → k < w.heap.size) := Lib.hid (by
    by_cases e : a = []
    · exact .inl e
    · exact .inr (hr.lt (by simpa [bvs] using e)))
  have HB : Hid (t = [] ∨ ∀ k, ab B = some k → k < w.heap.size) := Lib.hid (by
    by_cases e : t = []
    · exact .inl e
    · exact .inr (hr2.lt (by simpa [bvs] using e)))
  have HN := Lib.hid hn; have HM := Lib.hid hm; have HQ := Lib.hid (And.intro hc hd); have HQ2 := Lib.hid (And.intro hn2 hm2)
  have HZ := Lib.hid (len16 none_length)
  clear hh hn hc hn2 hr hm hd hm2 hr2
  go_enter Try.func104, Try.ntmps104
  have H0 : Hid (Fo w h ((w.alloc (.cells (bvs h).toArray 142)).alloc (.cells (bvs none16).toArray 142))) := Lib.hid ⟨(Blk.new' rfl rfl).alloc _, Blk.new' (by simp) rfl, ((Kp.refl _ _).alloc _).alloc _⟩
  go_wp2_with (refine wpList_load_blk rfl 142 (.tmp 3) rfl _ _ _ H0.out.h rfl _ arrB rfl (by rw [HHL.out]; kernel_rfl) ?_)
  refine (new_any h _ HH.out).mono ?_
  rintro e w1 ⟨p, rfl, hp, hS, k1⟩
  have H1 := Lib.hid (H0.out.keep k1 (fun _ e => e.elim))
  have HS1 := Lib.hid hS
  have HP : Hid (w.heap.size + 1 < p) := Lib.hid (Nat.lt_of_lt_of_le (by simp) hp)
  clear hp hS k1 H0
  go_wp2_with fail
  refine (write_any p h none16 a A n c w1 HH.out none_length HS1.out HN.out HQ.out.1 HQ2.out.1 (HR1.out.keep0 H1.out.kp) (HA.out.imp_right fun f k hk => by have := f k hk; have := HP.out; omega)).mono ?_
  rintro e w2 ⟨rfl, hS, k2⟩
  have H2 := Lib.hid (H1.out.keep k2 (fun i e => by have := HP.out; unfold oneB at e; omega))
  have HS2 := Lib.hid hS
  clear hS k2 H1 HS1
  go_wp2_with fail
  refine (write_any p h (taken h none16 a) t B m d w2 HH.out HL1.out HS2.out HM.out HQ.out.2 HQ2.out.2 (HR2.out.keep0 H2.out.kp) (HB.out.imp_right fun f k hk => by have := f k hk; have := HP.out; omega)).mono ?_
  rintro e w3 ⟨rfl, hS, k3⟩
  have H3 := Lib.hid (H2.out.keep k3 (fun i e => by have := HP.out; unfold oneB at e; omega))
  have HS3 := Lib.hid hS
  clear hS k3 H2 HS2
  go_wp2_with fail
  refine (bitsOf_any A n c w3 HQ2.out.1).mono ?_
  rintro e w' ⟨rfl, rfl⟩
  go_wp2_with fail
  refine (bitsOf_any B m d w3 HQ2.out.2).mono ?_
  rintro e w' ⟨rfl, rfl⟩
  go_wp2_with fail
  rw [HEV.out]
  refine (take_any p h (taken h (taken h none16 a) t) (sizes a t) w3 HH.out HS3.out).mono ?_
  rintro e w4 ⟨rfl, hS, k4⟩
  rw [HSM.out] at hS
  have H4 := Lib.hid (H3.out.keep k4 (fun i e => by have := HP.out; unfold oneB at e; omega))
  have HS4 := Lib.hid hS
  clear hS k4 H3 HS3
  go_wp2_with fail
  refine (value_any p h (sum h a t) w4 HSL.out HS4.out).mono ?_
  rintro e w5 ⟨rfl, k5⟩
  have H5 := Lib.hid (H4.out.keep k5 (fun _ e => e.elim))
  have HML := Lib.hid (len16 HSL.out)
  clear k5 H4 HS4
  go_wp2_with (refine wpList_store_blk rfl 142 (.tmp 6) (.tmp 24) rfl _ _ (bvs none16) (bvs (sum h a t)) H5.out.r rfl rfl (by rw [HZ.out, HML.out]) (by rw [HML.out]; kernel_rfl) (bvs_one _) ?_; intro w6 hB6 k6 z6)
  have hsz : (Try.prog.info? 142).map (·.size) = some (bvs (sum h a t)).toArray.size := by
    rw [List.size_toArray, HML.out]; kernel_rfl
  exact bodyPost_ret (results_cell_row rfl _ _ (w.heap.size + 1) _ _ _ _ rfl hB6 arrB rfl hsz) rfl ⟨rfl, H5.out.kp.since k6 (fun i e => by cases e; omega)⟩
theorem own : ownKnob Try.prog.godebug = none := by kernel_rfl
theorem laidOut : laidOutB Try.prog = true := by kernel_rfl
theorem eqB (xs ys : List UInt8) (hx : xs.length = 16) (hy : ys.length = 16) (w : World) : (Op.equalIn 10000 142 (.agg (bvs xs).toArray) (.agg (bvs ys).toArray)).run Try.prog w = .ok (xs == ys) w :=
  run_equalIn_bytes w 9998 142 5 16 arrB (by kernel_rfl) (fun _ => by kernel_rfl) xs ys hx hy
theorem eq16 (xs ys : List UInt8) (hx : xs.length = 16) (hy : ys.length = 16) (w : World) : (Op.equalIn 10000 141 (.agg (bvs xs).toArray) (.agg (bvs ys).toArray)).run Try.prog w = .ok (xs == ys) w :=
  run_equalIn_bytes w 9998 141 5 16 arr16 (by kernel_rfl) (fun _ => by kernel_rfl) xs ys hx hy
theorem eqB_same (l : List UInt8) (h : l.length = 16) (w : World) : (Op.equalIn 10000 142 (.agg (bvs l).toArray) (.agg (bvs l).toArray)).run Try.prog w = .ok true w := by
  rw [eqB _ _ h h]; simp
theorem eq16_same (l : List UInt8) (h : l.length = 16) (w : World) : (Op.equalIn 10000 141 (.agg (bvs l).toArray) (.agg (bvs l).toArray)).run Try.prog w = .ok true w := by
  rw [eq16 _ _ h h]; simp
end Go.Proofs.Ytmmpmncioifeoaa.Ghash
namespace Go.Proofs.Ytmmpmncioifeoaa.Gcm
set_option linter.unusedVariables false
set_option linter.unusedSimpArgs false
open Go Go.RowKit Kit
open Aes (gb tb tb_length tb_gb arrB blk_byte enc enc_length Ciph pt pt_zero pt_all pt_set pt_get bvs_setb)
open Ghash (none16 none_length len16 plus plus_eq sum sum_length)
open Field (cb cb_inj)
open Sha (Pc PcsOk catP)

set_option maxHeartbeats 2000000 in
set_option maxRecDepth 100000 in
theorem tag_any [Inhabited Field.SqTab] (p : Nat) (W : List UInt8) (R : Nat) (nn l : List UInt8) (A : Option Addr) (n c : Nat) (B : Option Addr) (m d : Nat) (ps : List Pc) (w : World) (hS : SealAt w p W R) (hnn : nn.length = 12) (hl : l.length = n) (hc : n ≤ c) (hn : n ≤ 1099511627776) (hr : Row w A (bvs l))
    (hm : ps.length = m) (hrp : Row w B (ps.map Pc.v)) (hp : PcsOk w nob ps) (hnil : ∀ p ∈ ps, p.A = none → p.c = 0) (hmm : m ≤ 1099511627776) (hlp : (catP ps).length ≤ 1099511627776) :
    Calls Try.prog 94 #[.pointer (some ⟨p, 0, none⟩), .agg (bvs nn).toArray, .slice A n c, .slice B m d] w fun e w' => e = .returned (.agg (bvs (tag W R nn (catP ps) l)).toArray) ∧ Kp nob w w' := by
  obtain ⟨g, hg1, hg2⟩ := hS.c
  have HG := Lib.hid (And.intro hg1 hg2)
  have HNN := Lib.hid hnn; have HL := Lib.hid hl; have HR := Lib.hid hr; have HC := Lib.hid hc; have HN := Lib.hid hn
  have HP := Lib.hid (And.intro hm (And.intro hrp (And.intro hp hnil))); have HLP := Lib.hid (And.intro hmm hlp)
  have HNL := Lib.hid (show (bvs nn).length = 12 by rw [bvs_length, hnn])
  have HZ := Lib.hid (len16 none_length)
  obtain ⟨H, hH⟩ : ∃ H, H = enc W R none16 := ⟨_, rfl⟩
  obtain ⟨E, hE⟩ : ∃ E, E = enc W R (nb nn 1) := ⟨_, rfl⟩
  obtain ⟨U, hU⟩ : ∃ U, U = sum H (catP ps) l := ⟨_, rfl⟩
  have HT := Lib.hid (show tag W R nn (catP ps) l = plus U E by rw [tag_eq, hU, hE, hH])
  rw [HT.out]
  have HH := Lib.hid hH; have HE := Lib.hid hE; have HU := Lib.hid hU
  have HHL := Lib.hid (show (bvs H).length = 16 by rw [bvs_length, hH, enc_length])
  have HEL := Lib.hid (show (bvs E).length = 16 by rw [bvs_length, hE, enc_length])
  have HUL := Lib.hid (show (bvs U).length = 16 by rw [bvs_length, hU, sum_length])
  have c0 : w.cell? ⟨p, 0, none⟩ = some (.pointer (some ⟨g, 0, none⟩)) := hg1.cell 0
  clear hS hg1 hg2 hnn hl hr hc hn hm hrp hp hnil hmm hlp hH hE hU
  have hz0 : ((w.alloc (.cells (bvs nn).toArray 53)).alloc (.cells #[.int .u8 0, .int .u8 0, .int .u8 0, .int .u8 0, .int .u8 0, .int .u8 0, .int .u8 0, .int .u8 0, .int .u8 0, .int .u8 0, .int .u8 0, .int .u8 0, .int .u8 0, .int .u8 0, .int .u8 0, .int .u8 0] 142)).cell? ⟨p, 0, none⟩ = some (.pointer (some ⟨g, 0, none⟩)) := ((HG.out.1.alloc _).alloc _).cell 0
  go_enter Try.func94, Try.ntmps94
  have K0 : Kp nob w ((w.alloc (.cells (bvs nn).toArray 53)).alloc (.cells (bvs none16).toArray 142)) := ((Kp.refl nob w).alloc _).alloc _
  have hN0 : Blk ((w.alloc (.cells (bvs nn).toArray 53)).alloc (.cells (bvs none16).toArray 142)) w.heap.size 53 (bvs nn) := (Blk.new' rfl rfl).alloc _
  have hZ0 : Blk ((w.alloc (.cells (bvs nn).toArray 53)).alloc (.cells (bvs none16).toArray 142)) (w.heap.size + 1) 142 (bvs none16) := Blk.new' (by simp) rfl
  go_wp2_with fail
  refine (Aes.seal_any none16 W g R _ none_length (HG.out.2.keep0 K0)).mono ?_
  rintro e w3 ⟨rfl, k3⟩
  rw [← HH.out]
  have H3 : Hid (Blk w3 w.heap.size 53 (bvs nn) ∧ Blk w3 (w.heap.size + 1) 142 (bvs none16) ∧ Kp nob w w3) := Lib.hid ⟨hN0.keep k3 (fun e => e), hZ0.keep k3 (fun e => e), K0.trans k3 (fun _ e => e.elim)⟩
  clear K0 hN0 hZ0 k3 hz0
  go_wp2_with (refine wpList_store_new rfl 142 (.tmp 9) (.tmp 18) rfl _ (bvs H) rfl rfl (by rw [HHL.out]; rfl) (by rw [HHL.out]; kernel_rfl) (bvs_one _) ?_
               intro w4 hB4 k4 z4
               have H4 : Hid (Blk w4 w.heap.size 53 (bvs nn) ∧ Blk w4 (w.heap.size + 1) 142 (bvs none16) ∧ Kp nob w w4) := Lib.hid ⟨H3.out.1.keep k4 (fun e => e), H3.out.2.1.keep k4 (fun e => e), H3.out.2.2.trans k4 (fun _ e => e.elim)⟩
               have HB4 := Lib.hid hB4
               clear hB4 k4 z4)
  rename_i K1 hK1
  have hcont : ∀ (Ac : Option Addr) (cc m1 : Nat) (w9 : World), Kp nob w4 w9 → Blk w9 m1 142 (bvs U) → w4.heap.size ≤ m1 → K1 { tmps := #[.pointer (some ⟨p, 0, none⟩), .agg (bvs nn).toArray, .slice A n c, .slice B m d, undef, .pointer (some ⟨w.heap.size, 0, none⟩), undef, undef, .pointer (some ⟨w.heap.size + 1, 0, none⟩), .pointer (some ⟨w3.heap.size, 0, none⟩), .pointer (some ⟨m1, 0, none⟩), undef, undef, .pointer (some ⟨p, 0, none⟩), .pointer (some ⟨p, 0, none⟩), .pointer (some ⟨p, 0, none⟩), .pointer (some ⟨g, 0, none⟩), .agg #[.int .u8 0, .int .u8 0, .int .u8 0, .int .u8 0, .int .u8 0, .int .u8 0, .int .u8 0, .int .u8 0, .int .u8 0, .int .u8 0, .int .u8 0, .int .u8 0, .int .u8 0, .int .u8 0, .int .u8 0, .int .u8 0], .agg (bvs H).toArray, .agg (bvs H).toArray, .slice B m d, .slice Ac (catP ps).length cc, .slice A n c, .agg (bvs U).toArray, undef, undef, undef, undef, undef, undef, undef, undef, undef, undef, undef, undef, undef, undef, undef, undef, undef, undef, undef, undef], defers := [] } w9 := by
    intro Ac cc m1 w9 k9 hb9 hm9
    have H9 : Hid (Blk w9 w.heap.size 53 (bvs nn) ∧ Blk w9 (w.heap.size + 1) 142 (bvs none16) ∧ Kp nob w w9) := Lib.hid ⟨H4.out.1.keep k9 (fun e => e), H4.out.2.1.keep k9 (fun e => e), H4.out.2.2.trans k9 (fun _ e => e.elim)⟩
    have HB9 := Lib.hid hb9
    have HM9 := Lib.hid (show w.heap.size + 1 < m1 by have := H4.out.2.1.lt; omega)
    apply hK1
    clear hK1 k9 hb9 hm9
    go_wp2
    rename_i K2 hK2
    have hcont : ∀ (m2 : Nat) (w10 : World), Kp nob w9 w10 → Blk w10 m2 142 (bvs E) → w9.heap.size ≤ m2 → K2 { tmps := #[.pointer (some ⟨p, 0, none⟩), .agg (bvs nn).toArray, .slice A n c, .slice B m d, undef, .pointer (some ⟨w.heap.size, 0, none⟩), undef, undef, .pointer (some ⟨w.heap.size + 1, 0, none⟩), .pointer (some ⟨w3.heap.size, 0, none⟩), .pointer (some ⟨m1, 0, none⟩), .pointer (some ⟨m2, 0, none⟩), undef, .pointer (some ⟨p, 0, none⟩), .pointer (some ⟨p, 0, none⟩), .pointer (some ⟨p, 0, none⟩), .pointer (some ⟨g, 0, none⟩), .agg #[.int .u8 0, .int .u8 0, .int .u8 0, .int .u8 0, .int .u8 0, .int .u8 0, .int .u8 0, .int .u8 0, .int .u8 0, .int .u8 0, .int .u8 0, .int .u8 0, .int .u8 0, .int .u8 0, .int .u8 0, .int .u8 0], .agg (bvs H).toArray, .agg (bvs H).toArray, .slice B m d, .slice Ac (catP ps).length cc, .slice A n c, .agg (bvs U).toArray, .pointer (some ⟨p, 0, none⟩), .pointer (some ⟨p, 0, none⟩), .pointer (some ⟨p, 0, none⟩), .pointer (some ⟨g, 0, none⟩), .agg (bvs nn).toArray, .agg (bvs (nb nn 1)).toArray, .agg (bvs E).toArray, undef, undef, undef, undef, undef, undef, undef, undef, undef, undef, undef, undef, undef], defers := [] } w10 := by
      intro m2 w10 k10 hb10 hm10
      have H10 : Hid (Blk w10 (w.heap.size + 1) 142 (bvs none16) ∧ Kp nob w w10 ∧ Blk w10 m1 142 (bvs U) ∧ Blk w10 m2 142 (bvs E)) := Lib.hid ⟨H9.out.2.1.keep k10 (fun e => e), H9.out.2.2.trans k10 (fun _ e => e.elim), HB9.out.keep k10 (fun e => e), hb10⟩
      have HM10 := Lib.hid (show m1 < m2 by have := HB9.out.lt; omega)
      apply hK2
      clear hK2 k10 hb10 hm10
      go_wp2
      go_loopw [31] (fun vi wr => ∃ k : Nat, k ≤ 16 ∧ vi = .int .i64 (k : Int) ∧ Blk wr m1 142 (bvs (pt (fun i => gb U i ^^^ gb E i) (gb U) k)) ∧ Blk wr m2 142 (bvs E) ∧ Blk wr (w.heap.size + 1) 142 (bvs none16) ∧ Kp nob w wr)
        (fun vi _ => 16 - (intOf vi).toNat)
      case atStart => exact ⟨0, by omega, rfl, by rw [pt_zero, tb_gb _ (by have := HUL.out; rw [bvs_length] at this; exact this)]; exact H10.out.2.2.1, H10.out.2.2.2, H10.out.1, H10.out.2.1⟩
      case round =>
        obtain ⟨k, hk, rfl, h1, h2, h3, hkp⟩ := hrel
        have H1 := Lib.hid h1; have H2 := Lib.hid h2; have H3' := Lib.hid h3; clear h1 h2 h3
        by_cases hlt : k < 16
        · have hc1 : wr.cell? ⟨m1, k, none⟩ = some (.int .u8 (cb (gb U k))) := by rw [H1.out.cell, pt_get _ _ _ hlt]
          have hc2 := blk_byte H2.out k (by have := HEL.out; rw [bvs_length] at this; omega)
          have hf1 : wr.frozen? ⟨m1, k, none⟩ = false := H1.out.frozen _
          go_wp2
          go_region
          go_wp2
          go_roundw
          case rel =>
            refine ⟨k + 1, by omega, by go_num, ?_, ?_, ?_, ?_⟩
            · have := (H1.out.keep (Kp.refl nob wr).drew (fun e => e)).set_ k (.int .u8 (cb (gb U k ^^^ gb E k)))
              rw [bvs_setb, pt_set (fun i => gb U i ^^^ gb E i)] at this
              exact this
            · exact (H2.out.keep (Kp.refl nob wr).drew (fun e => e)).far (by have := HM10.out; simp only; omega) _
            · exact (H3'.out.keep (Kp.refl nob wr).drew (fun e => e)).far (by have := HM9.out; simp only; omega) _
            · exact hkp.drew.setCell (.inr (by have := HM9.out; simp only; omega)) _
          case measure => simp [intOf]; omega
        · obtain rfl : k = 16 := by omega
          have h1 := H1.out
          rw [pt_all, ← plus_eq] at h1
          have HB1 := Lib.hid h1
          have HPL := Lib.hid (show (bvs (plus U E)).length = 16 by rw [bvs_length, Ghash.plus_length])
          clear H1 h1
          go_wp2_with (first
            | (refine wpList_load_blk rfl 142 (.tmp 10) rfl _ _ _ HB1.out rfl _ arrB rfl (by rw [HPL.out]; kernel_rfl) ?_)
            | (refine wpList_store_blk rfl 142 (.tmp 8) (.tmp 43) rfl _ _ (bvs none16) (bvs (plus U E)) H3'.out rfl rfl (by rw [HZ.out, HPL.out]) (by rw [HPL.out]; kernel_rfl) (bvs_one _) ?_; intro w5 hB5 k5 z5))
          have hsz : (Try.prog.info? 142).map (·.size) = some (bvs (plus U E)).toArray.size := by
            rw [List.size_toArray, HPL.out]; kernel_rfl
          refine bodyPost_ret (results_cell_row rfl _ _ (w.heap.size + 1) _ _ _ _ rfl hB5 arrB rfl hsz) rfl ⟨rfl, hkp.since k5 (fun i e => by cases e; omega)⟩
    clear hK2
    refine reg_start (fun w' => Kp nob w9 w') (by kernel_rfl) (Kp.refl nob w9).drew (fun wd hd => ?_)
    have H0 := Lib.hid hd
    clear hd
    refine reg_take (v := .pointer (some ⟨p, 0, none⟩)) 0 (some 24) rfl rfl (by kernel_rfl) (by kernel_rfl) (by kernel_rfl) (by rfl) H0.out (fun w hw => by go_simp) ?_
    simp only [Act.put, List.setIfInBounds_toArray, List.set_cons_zero, List.set_cons_succ]
    refine reg_take (v := .pointer (some ⟨p, 0, none⟩)) 1 (some 25) rfl rfl (by kernel_rfl) (by kernel_rfl) (by kernel_rfl) (by rfl) H0.out (fun w hw => by go_simp) ?_
    simp only [Act.put, List.setIfInBounds_toArray, List.set_cons_zero, List.set_cons_succ]
    refine reg_take (v := .pointer (some ⟨p, 0, none⟩)) 2 (some 26) rfl rfl (by kernel_rfl) (by kernel_rfl) (by kernel_rfl) (by rfl) H0.out (fun w hw => by go_simp) ?_
    simp only [Act.put, List.setIfInBounds_toArray, List.set_cons_zero, List.set_cons_succ]
    refine reg_take (v := .pointer (some ⟨g, 0, none⟩)) 3 (some 27) rfl rfl (by kernel_rfl) (by kernel_rfl) (by kernel_rfl) (by rfl) H0.out (fun w hw => by have c0 : w.cell? ⟨p, 0, none⟩ = _ := (HG.out.1.keep (H9.out.2.2.trans hw (fun _ e => e.elim)) (fun e => e)).cell 0; go_simp) ?_
    simp only [Act.put, List.setIfInBounds_toArray, List.set_cons_zero, List.set_cons_succ]
    refine reg_load 4 (some 28) 53 (.tmp 5) rfl rfl rfl (by kernel_rfl) (by kernel_rfl) (by kernel_rfl) (by rfl) H0.out w.heap.size 0 rfl (bvs nn) _ (fun _ x => (H9.out.1.keep x (fun e => e)).range) arrN rfl (by rw [HNL.out]; kernel_rfl) ?_
    simp only [Act.put, List.setIfInBounds_toArray, List.set_cons_zero, List.set_cons_succ]
    refine reg_callOr (w' := wd.alloc (.cells (bvs none16).toArray 142)) (v := .pointer (some ⟨wd.heap.size, 0, none⟩)) 5 7 (some 29) (some 11) rfl rfl rfl rfl (by kernel_rfl) (by rfl) (by rfl) _ _ (exec_func 74 _ _ [.agg (bvs nn).toArray, .int .i64 1] rfl (by kernel_rfl) rfl) (by go_simp; rfl) (H0.out.alloc _) ?wa1 (fun _ => ?wb1)
    case wa1 =>
      refine (block_any nn 1 wd HNN.out (by omega)).mono ?_
      rintro e w1 ⟨rfl, k1⟩
      have H1 := Lib.hid (H0.out.trans k1 (fun _ e => e.elim))
      refine ⟨_, rfl, H1.out, fun _ => ?_⟩
      simp only [Act.put, List.setIfInBounds_toArray, List.set_cons_zero, List.set_cons_succ]
      refine reg_callOr (w' := w1.alloc (.cells (bvs none16).toArray 142)) (v := .pointer (some ⟨w1.heap.size, 0, none⟩)) 6 7 (some 30) (some 11) rfl rfl rfl rfl (by kernel_rfl) (by rfl) (by rfl) _ _ (exec_func 103 _ _ [.pointer (some ⟨g, 0, none⟩), .agg (bvs (nb nn 1)).toArray] rfl (by kernel_rfl) rfl) (by go_simp; rfl) (H1.out.alloc _) ?wa2 (fun _ => ?wb2)
      case wa2 =>
        refine (Aes.seal_any (nb nn 1) W g R w1 (nb_length _ _ HNN.out) (HG.out.2.keep0 (H9.out.2.2.trans H1.out (fun _ e => e.elim)))).mono ?_
        rintro e w2 ⟨rfl, k2⟩
        rw [← HE.out]
        have H2 := Lib.hid (H1.out.trans k2 (fun _ e => e.elim))
        refine ⟨_, rfl, H2.out, fun _ => ?_⟩
        simp only [Act.put, List.setIfInBounds_toArray, List.set_cons_zero, List.set_cons_succ]
        refine reg_step (w' := w2.alloc (.cells (bvs none16).toArray 142)) (v := .pointer (some ⟨w2.heap.size, 0, none⟩)) 7 (some 11) rfl rfl (by kernel_rfl) (by rfl) (by go_simp; rfl) (H2.out.alloc _) (fun _ => ?_)
        simp only [Act.put, List.setIfInBounds_toArray, List.set_cons_zero, List.set_cons_succ]
        have hbk : Blk (w2.alloc (.cells (bvs none16).toArray 142)) w2.heap.size 142 (bvs none16) := Blk.new' rfl rfl
        have hge := H2.out.size
        refine reg_store 8 none 142 (.tmp 11) (.tmp 30) rfl rfl rfl (by kernel_rfl) (by rfl) w2.heap.size _ _ (bvs E) hbk rfl rfl (by rw [HEL.out, HZ.out]) (by rw [HEL.out]; kernel_rfl) (bvs_one _) ?_
        intro w99 hB99 k99 z99
        have hkk : Kp nob w9 w99 := (H2.out.alloc _).since k99 (fun i e => by unfold oneB at e; omega)
        refine ⟨hkk, fun _ => ?_⟩
        simp only [Act.put, List.setIfInBounds_toArray, List.set_cons_zero, List.set_cons_succ]
        exact reg_end (by kernel_rfl) (hcont w2.heap.size w99 hkk hB99 hge)
      case wb2 =>
        simp only [Act.put, List.setIfInBounds_toArray, List.set_cons_zero, List.set_cons_succ]
        have hbk : Blk (w1.alloc (.cells (bvs none16).toArray 142)) w1.heap.size 142 (bvs none16) := Blk.new' rfl rfl
        have hge := H1.out.size
        have H1a := Lib.hid (H1.out.alloc (.cells (bvs none16).toArray 142))
        generalize w1.alloc (.cells (bvs none16).toArray 142) = w1a at *
        refine reg_call 6 (some 30) rfl rfl (by kernel_rfl) (by rfl) _ _ (exec_func 103 _ _ [.pointer (some ⟨g, 0, none⟩), .agg (bvs (nb nn 1)).toArray] rfl (by kernel_rfl) rfl) ?_
        refine (Aes.seal_any (nb nn 1) W g R w1a (nb_length _ _ HNN.out) (HG.out.2.keep0 (H9.out.2.2.trans H1a.out (fun _ e => e.elim)))).mono ?_
        rintro e w2 ⟨rfl, k2⟩
        rw [← HE.out]
        have H2 := Lib.hid (H1a.out.trans k2 (fun _ e => e.elim))
        refine ⟨_, rfl, H2.out, fun _ => ?_⟩
        simp only [Act.put, List.setIfInBounds_toArray, List.set_cons_zero, List.set_cons_succ]
        have hbk2 := hbk.keep k2 (fun e => e)
        refine reg_store 8 none 142 (.tmp 11) (.tmp 30) rfl rfl rfl (by kernel_rfl) (by rfl) w1.heap.size _ _ (bvs E) hbk2 rfl rfl (by rw [HEL.out, HZ.out]) (by rw [HEL.out]; kernel_rfl) (bvs_one _) ?_
        intro w99 hB99 k99 z99
        have hkk : Kp nob w9 w99 := (H2.out).since k99 (fun i e => by unfold oneB at e; omega)
        refine ⟨hkk, fun _ => ?_⟩
        simp only [Act.put, List.setIfInBounds_toArray, List.set_cons_zero, List.set_cons_succ]
        exact reg_end (by kernel_rfl) (hcont w1.heap.size w99 hkk hB99 hge)
    case wb1 =>
      simp only [Act.put, List.setIfInBounds_toArray, List.set_cons_zero, List.set_cons_succ]
      have hbk : Blk (wd.alloc (.cells (bvs none16).toArray 142)) wd.heap.size 142 (bvs none16) := Blk.new' rfl rfl
      have hge := H0.out.size
      have H0a := Lib.hid (H0.out.alloc (.cells (bvs none16).toArray 142))
      generalize wd.alloc (.cells (bvs none16).toArray 142) = wda at *
      refine reg_call 5 (some 29) rfl rfl (by kernel_rfl) (by rfl) _ _ (exec_func 74 _ _ [.agg (bvs nn).toArray, .int .i64 1] rfl (by kernel_rfl) rfl) ?_
      refine (block_any nn 1 wda HNN.out (by omega)).mono ?_
      rintro e w1 ⟨rfl, k1⟩
      have H1 := Lib.hid (H0a.out.trans k1 (fun _ e => e.elim))
      refine ⟨_, rfl, H1.out, fun _ => ?_⟩
      simp only [Act.put, List.setIfInBounds_toArray, List.set_cons_zero, List.set_cons_succ]
      refine reg_call 6 (some 30) rfl rfl (by kernel_rfl) (by rfl) _ _ (exec_func 103 _ _ [.pointer (some ⟨g, 0, none⟩), .agg (bvs (nb nn 1)).toArray] rfl (by kernel_rfl) rfl) ?_
      refine (Aes.seal_any (nb nn 1) W g R w1 (nb_length _ _ HNN.out) (HG.out.2.keep0 (H9.out.2.2.trans H1.out (fun _ e => e.elim)))).mono ?_
      rintro e w2 ⟨rfl, k2⟩
      rw [← HE.out]
      have H2 := Lib.hid (H1.out.trans k2 (fun _ e => e.elim))
      refine ⟨_, rfl, H2.out, fun _ => ?_⟩
      simp only [Act.put, List.setIfInBounds_toArray, List.set_cons_zero, List.set_cons_succ]
      have hbk2 := (hbk.keep k1 (fun e => e)).keep k2 (fun e => e)
      refine reg_store 8 none 142 (.tmp 11) (.tmp 30) rfl rfl rfl (by kernel_rfl) (by rfl) wd.heap.size _ _ (bvs E) hbk2 rfl rfl (by rw [HEL.out, HZ.out]) (by rw [HEL.out]; kernel_rfl) (bvs_one _) ?_
      intro w99 hB99 k99 z99
      have hkk : Kp nob w9 w99 := (H2.out).since k99 (fun i e => by unfold oneB at e; omega)
      refine ⟨hkk, fun _ => ?_⟩
      simp only [Act.put, List.setIfInBounds_toArray, List.set_cons_zero, List.set_cons_succ]
      exact reg_end (by kernel_rfl) (hcont wd.heap.size w99 hkk hB99 hge)
  clear hK1
  refine reg_start (fun w' => Kp nob w4 w') (by kernel_rfl) (Kp.refl nob w4).drew (fun wd hd => ?_)
  have H0 := Lib.hid hd
  clear hd
  refine reg_load 0 (some 19) 142 (.tmp 9) rfl rfl rfl (by kernel_rfl) (by kernel_rfl) (by kernel_rfl) (by rfl) H0.out w3.heap.size 0 rfl (bvs H) _ (fun _ x => (HB4.out.keep x (fun e => e)).range) arrB rfl (by rw [HHL.out]; kernel_rfl) ?_
  simp only [Act.put, List.setIfInBounds_toArray, List.set_cons_zero, List.set_cons_succ]
  refine reg_take (v := .slice B m d) 1 (some 20) rfl rfl (by kernel_rfl) (by kernel_rfl) (by kernel_rfl) (by rfl) H0.out (fun w hw => by go_simp) ?_
  simp only [Act.put, List.setIfInBounds_toArray, List.set_cons_zero, List.set_cons_succ]
  refine reg_take (v := .slice A n c) 3 (some 22) rfl rfl (by kernel_rfl) (by kernel_rfl) (by kernel_rfl) (by rfl) H0.out (fun w hw => by go_simp) ?_
  simp only [Act.put, List.setIfInBounds_toArray, List.set_cons_zero, List.set_cons_succ]
  refine reg_callOr (w' := wd.alloc (.cells (bvs none16).toArray 142)) (v := .pointer (some ⟨wd.heap.size, 0, none⟩)) 2 5 (some 21) (some 10) rfl rfl rfl rfl (by kernel_rfl) (by rfl) (by rfl) _ _ (exec_func 61 _ _ [.slice B m d] rfl (by kernel_rfl) rfl) (by go_simp; rfl) (H0.out.alloc _) ?wa1 (fun _ => ?wb1)
  case wa1 =>
    refine (concat_any B m d ps wd HP.out.1 (HP.out.2.1.keep0 (H4.out.2.2.trans H0.out (fun _ e => e.elim))) (HP.out.2.2.1.keep0 (H4.out.2.2.trans H0.out (fun _ e => e.elim))) HP.out.2.2.2 HLP.out.1 HLP.out.2).mono ?_
    rintro e w1 ⟨Ac, cc, rfl, hOc, k1, hAc⟩
    have H1 := Lib.hid (H0.out.trans k1 (fun _ e => e.elim))
    refine ⟨_, rfl, H1.out, fun _ => ?_⟩
    simp only [Act.put, List.setIfInBounds_toArray, List.set_cons_zero, List.set_cons_succ]
    refine reg_callOr (w' := w1.alloc (.cells (bvs none16).toArray 142)) (v := .pointer (some ⟨w1.heap.size, 0, none⟩)) 4 5 (some 23) (some 10) rfl rfl rfl rfl (by kernel_rfl) (by rfl) (by rfl) _ _ (exec_func 104 _ _ [.agg (bvs H).toArray, .slice Ac (catP ps).length cc, .slice A n c] rfl (by kernel_rfl) rfl) (by go_simp; rfl) (H1.out.alloc _) ?wa2 (fun _ => ?wb2)
    case wa2 =>
      refine (Ghash.of_any H (catP ps) l Ac _ cc A n c w1 (by have := HHL.out; rw [bvs_length] at this; exact this) rfl hOc.cap.1 (by have := HLP.out.2; omega) hOc.row HL.out HC.out (by have := HN.out; omega) (HR.out.keep0 (H4.out.2.2.trans H1.out (fun _ e => e.elim)))).mono ?_
      rintro e w2 ⟨rfl, k2⟩
      rw [← HU.out]
      have H2 := Lib.hid (H1.out.trans k2 (fun _ e => e.elim))
      refine ⟨_, rfl, H2.out, fun _ => ?_⟩
      simp only [Act.put, List.setIfInBounds_toArray, List.set_cons_zero, List.set_cons_succ]
      refine reg_step (w' := w2.alloc (.cells (bvs none16).toArray 142)) (v := .pointer (some ⟨w2.heap.size, 0, none⟩)) 5 (some 10) rfl rfl (by kernel_rfl) (by rfl) (by go_simp; rfl) (H2.out.alloc _) (fun _ => ?_)
      simp only [Act.put, List.setIfInBounds_toArray, List.set_cons_zero, List.set_cons_succ]
      have hbk : Blk (w2.alloc (.cells (bvs none16).toArray 142)) w2.heap.size 142 (bvs none16) := Blk.new' rfl rfl
      have hge := H2.out.size
      refine reg_store 6 none 142 (.tmp 10) (.tmp 23) rfl rfl rfl (by kernel_rfl) (by rfl) w2.heap.size _ _ (bvs U) hbk rfl rfl (by rw [HUL.out, HZ.out]) (by rw [HUL.out]; kernel_rfl) (bvs_one _) ?_
      intro w99 hB99 k99 z99
      have hkk : Kp nob w4 w99 := (H2.out.alloc _).since k99 (fun i e => by unfold oneB at e; omega)
      refine ⟨hkk, fun _ => ?_⟩
      simp only [Act.put, List.setIfInBounds_toArray, List.set_cons_zero, List.set_cons_succ]
      exact reg_end (by kernel_rfl) (hcont Ac cc w2.heap.size w99 hkk hB99 hge)
    case wb2 =>
      simp only [Act.put, List.setIfInBounds_toArray, List.set_cons_zero, List.set_cons_succ]
      have hbk : Blk (w1.alloc (.cells (bvs none16).toArray 142)) w1.heap.size 142 (bvs none16) := Blk.new' rfl rfl
      have hge := H1.out.size
      have H1a := Lib.hid (H1.out.alloc (.cells (bvs none16).toArray 142))
      have hOc := hOc.alloc (.cells (bvs none16).toArray 142)
      generalize w1.alloc (.cells (bvs none16).toArray 142) = w1a at *
      refine reg_call 4 (some 23) rfl rfl (by kernel_rfl) (by rfl) _ _ (exec_func 104 _ _ [.agg (bvs H).toArray, .slice Ac (catP ps).length cc, .slice A n c] rfl (by kernel_rfl) rfl) ?_
      refine (Ghash.of_any H (catP ps) l Ac _ cc A n c w1a (by have := HHL.out; rw [bvs_length] at this; exact this) rfl hOc.cap.1 (by have := HLP.out.2; omega) hOc.row HL.out HC.out (by have := HN.out; omega) (HR.out.keep0 (H4.out.2.2.trans H1a.out (fun _ e => e.elim)))).mono ?_
      rintro e w2 ⟨rfl, k2⟩
      rw [← HU.out]
      have H2 := Lib.hid (H1a.out.trans k2 (fun _ e => e.elim))
      refine ⟨_, rfl, H2.out, fun _ => ?_⟩
      simp only [Act.put, List.setIfInBounds_toArray, List.set_cons_zero, List.set_cons_succ]
      have hbk2 := hbk.keep k2 (fun e => e)
      refine reg_store 6 none 142 (.tmp 10) (.tmp 23) rfl rfl rfl (by kernel_rfl) (by rfl) w1.heap.size _ _ (bvs U) hbk2 rfl rfl (by rw [HUL.out, HZ.out]) (by rw [HUL.out]; kernel_rfl) (bvs_one _) ?_
      intro w99 hB99 k99 z99
      have hkk : Kp nob w4 w99 := (H2.out).since k99 (fun i e => by unfold oneB at e; omega)
      refine ⟨hkk, fun _ => ?_⟩
      simp only [Act.put, List.setIfInBounds_toArray, List.set_cons_zero, List.set_cons_succ]
      exact reg_end (by kernel_rfl) (hcont Ac cc w1.heap.size w99 hkk hB99 hge)
  case wb1 =>
    simp only [Act.put, List.setIfInBounds_toArray, List.set_cons_zero, List.set_cons_succ]
    have hbk : Blk (wd.alloc (.cells (bvs none16).toArray 142)) wd.heap.size 142 (bvs none16) := Blk.new' rfl rfl
    have hge := H0.out.size
    have H0a := Lib.hid (H0.out.alloc (.cells (bvs none16).toArray 142))
    generalize wd.alloc (.cells (bvs none16).toArray 142) = wda at *
    refine reg_call 2 (some 21) rfl rfl (by kernel_rfl) (by rfl) _ _ (exec_func 61 _ _ [.slice B m d] rfl (by kernel_rfl) rfl) ?_
    refine (concat_any B m d ps wda HP.out.1 (HP.out.2.1.keep0 (H4.out.2.2.trans H0a.out (fun _ e => e.elim))) (HP.out.2.2.1.keep0 (H4.out.2.2.trans H0a.out (fun _ e => e.elim))) HP.out.2.2.2 HLP.out.1 HLP.out.2).mono ?_
    rintro e w1 ⟨Ac, cc, rfl, hOc, k1, hAc⟩
    have H1 := Lib.hid (H0a.out.trans k1 (fun _ e => e.elim))
    refine ⟨_, rfl, H1.out, fun _ => ?_⟩
    simp only [Act.put, List.setIfInBounds_toArray, List.set_cons_zero, List.set_cons_succ]
    refine reg_call 4 (some 23) rfl rfl (by kernel_rfl) (by rfl) _ _ (exec_func 104 _ _ [.agg (bvs H).toArray, .slice Ac (catP ps).length cc, .slice A n c] rfl (by kernel_rfl) rfl) ?_
    refine (Ghash.of_any H (catP ps) l Ac _ cc A n c w1 (by have := HHL.out; rw [bvs_length] at this; exact this) rfl hOc.cap.1 (by have := HLP.out.2; omega) hOc.row HL.out HC.out (by have := HN.out; omega) (HR.out.keep0 (H4.out.2.2.trans H1.out (fun _ e => e.elim)))).mono ?_
    rintro e w2 ⟨rfl, k2⟩
    rw [← HU.out]
    have H2 := Lib.hid (H1.out.trans k2 (fun _ e => e.elim))
    refine ⟨_, rfl, H2.out, fun _ => ?_⟩
    simp only [Act.put, List.setIfInBounds_toArray, List.set_cons_zero, List.set_cons_succ]
    have hbk2 := (hbk.keep k1 (fun e => e)).keep k2 (fun e => e)
    refine reg_store 6 none 142 (.tmp 10) (.tmp 23) rfl rfl rfl (by kernel_rfl) (by rfl) wd.heap.size _ _ (bvs U) hbk2 rfl rfl (by rw [HUL.out, HZ.out]) (by rw [HUL.out]; kernel_rfl) (bvs_one _) ?_
    intro w99 hB99 k99 z99
    have hkk : Kp nob w4 w99 := (H2.out).since k99 (fun i e => by unfold oneB at e; omega)
    refine ⟨hkk, fun _ => ?_⟩
    simp only [Act.put, List.setIfInBounds_toArray, List.set_cons_zero, List.set_cons_succ]
    exact reg_end (by kernel_rfl) (hcont Ac cc wd.heap.size w99 hkk hB99 hge)
end Go.Proofs.Ytmmpmncioifeoaa.Gcm
namespace Go.Proofs.Ytmmpmncioifeoaa.Tags
set_option linter.unusedVariables false
set_option linter.unusedSimpArgs false
open Go Go.RowKit Kit
open Aes (gb)
open Field (cb cb_inj)

theorem gb_eq (l : List UInt8) (i : Nat) : gb l i = l.getD i 0 := rfl
set_option maxHeartbeats 1000000 in
theorem at_any (A : Option Addr) (n c : Nat) (l : List UInt8) (i : Nat) (w : World) (hl : l.length = n) (hr : Row w A (bvs l)) (_ : n ≤ 1099511627776) :
    Calls Try.prog 105 #[.slice A n c, .int .i64 i] w fun e w' => e = .returned (.int .u8 (cb (gb l i))) ∧ w = w' := by
  by_cases h : i < n
  · obtain ⟨b, o, rfl, hb, hcell⟩ := hr.at_ (i := i) (by rw [bvs_length, hl]; exact h)
    obtain ⟨x, hx⟩ : ∃ x, x = gb l i := ⟨_, rfl⟩
    have hc : w.cell? ⟨b, o + i, none⟩ = some (.int .u8 (cb x)) := by
      rw [hcell, hx, gb_eq, List.getD, List.getElem?_eq_getElem (by omega)]; simp [bvs, bv, cb]
    rw [← hx]
    clear hcell hx hl
    go_enter Try.func105, Try.ntmps105
    go_wp2
    go_ret
    exact ⟨rfl, rfl⟩
  · have hx : gb l i = 0 := by rw [gb_eq, List.getD, List.getElem?_eq_none (by omega)]; rfl
    rw [hx]
    clear hx hl
    have d1 : decide ((i : Int) < (n : Int)) = false := by simp; omega
    go_enter Try.func105, Try.ntmps105
    go_wp2
    go_ret
    exact ⟨rfl, rfl⟩
/-- How the first bytes of two lists differ. -/
def diff (l m : List UInt8) : Nat → UInt8
  | 0 => 0
  | k + 1 => diff l m k ||| (gb l k ^^^ gb m k)
theorem u8_or_zero (a b : UInt8) : a ||| b = 0 ↔ a = 0 ∧ b = 0 := by
  constructor
  · intro h
    have h1 : (a ||| b).toBitVec = 0#8 := by rw [h]; rfl
    rw [UInt8.toBitVec_or] at h1
    rw [BitVec.or_eq_zero_iff] at h1
    exact ⟨UInt8.toBitVec_inj.1 h1.1, UInt8.toBitVec_inj.1 h1.2⟩
  · rintro ⟨rfl, rfl⟩; rfl
theorem diff_zero (l m : List UInt8) (k : Nat) : diff l m k = 0 ↔ ∀ i, i < k → gb l i = gb m i := by
  induction k with
  | zero => simp [diff]
  | succ k ih =>
    rw [diff, u8_or_zero, ih, UInt8.xor_eq_zero_iff]
    constructor
    · rintro ⟨h1, h2⟩ i hi
      by_cases h : i = k
      · subst h; exact h2
      · exact h1 i (by omega)
    · intro h
      exact ⟨fun i hi => h i (by omega), h k (by omega)⟩
theorem diff_same (l m : List UInt8) (h : l.length = m.length) : diff l m (max l.length m.length) = 0 ↔ l = m := by
  rw [diff_zero, h, Nat.max_self]
  constructor
  · intro hd
    apply List.ext_getElem h
    intro i h1 h2
    have := hd i h2
    rwa [gb_eq, gb_eq, List.getD, List.getD, List.getElem?_eq_getElem h1, List.getElem?_eq_getElem h2] at this
  · rintro rfl i _; rfl
theorem diff_none (l m : List UInt8) : diff l m 0 = 0 := rfl
theorem diff_more (l m : List UInt8) (k : Nat) : diff l m (k + 1) = diff l m k ||| (gb l k ^^^ gb m k) := rfl
attribute [irreducible] diff

set_option maxHeartbeats 1000000 in
theorem same_left (A : Option Addr) (n c : Nat) (l : List UInt8) (B : Option Addr) (m d : Nat) (q : List UInt8) (w : World) (hl : l.length = n) (hr : Row w A (bvs l)) (hn : n ≤ 1099511627776) (hq : q.length = m) (hr2 : Row w B (bvs q)) (hm : m ≤ 1099511627776) (hx : m ≤ n) :
    Calls Try.prog 95 #[.slice A n c, .slice B m d] w fun e w' => e = .returned (.bool (l == q)) ∧ w = w' := by
  have hN : max l.length q.length = n := by rw [hl, hq]; omega
  have HL := Lib.hid hl; have HQ := Lib.hid hq; have HN := Lib.hid hN
  clear hl hq hN
  go_enter Try.func95, Try.ntmps95
  go_wp2
  go_loop [5, 12] (fun vd vi => ∃ k : Nat, k ≤ n ∧ vi = .int .i64 k ∧ vd = .int .u8 (cb (diff l q k)))
    (fun _ vi => n - (intOf vi).toNat)
  case atStart => exact ⟨0, by omega, rfl, by rw [diff_none]; rfl⟩
  case round =>
    obtain ⟨k, hk, rfl, rfl⟩ := hrel
    have HD := Lib.hid (diff_more l q k)
    by_cases hlt : k < n
    · generalize diff l q k = D at *
      go_wp2_with (first
        | (go_at_call_of 105 (Value.slice A n c)
           refine (at_any A n c l k _ HL.out hr hn).mono ?_
           rintro e w' ⟨rfl, rfl⟩)
        | (go_at_call_of 105 (Value.slice B m d)
           refine (at_any B m d q k _ HQ.out hr2 hm).mono ?_
           rintro e w' ⟨rfl, rfl⟩))
      go_round
      case rel => exact ⟨k + 1, by omega, by go_num, by rw [HD.out]⟩
      case measure => simp [intOf]; omega
    · obtain rfl : n = k := by omega
      have HS := Lib.hid (diff_same l q)
      rw [HN.out] at HS
      obtain ⟨D, hD⟩ : ∃ D, D = diff l q n := ⟨_, rfl⟩
      rw [← hD] at HS ⊢
      clear hD
      by_cases h0 : D = 0
      · have d0 : ((cb D : Int) == 0) = true := by rw [h0]; rfl
        by_cases hnm : n = m
        · have d1 : ((n : Int) == (m : Int)) = true := by rw [beq_iff_eq]; omega
          have E : Hid ((l == q) = true) := Lib.hid (by
            rw [beq_iff_eq]; exact (HS.out (by rw [HL.out, HQ.out]; exact hnm)).1 h0)
          clear HS h0
          have HNM := Lib.hid hnm; clear hnm
          go_wp2
          go_ret
          exact ⟨by rw [E.out]; rfl, rfl⟩
        · have d1 : ((n : Int) == (m : Int)) = false := by rw [beq_eq_false_iff_ne]; omega
          have E : Hid ((l == q) = false) := Lib.hid (by
            rw [beq_eq_false_iff_ne]; rintro rfl; exact hnm (HL.out.symm.trans HQ.out))
          clear HS h0
          go_wp2
          go_ret
          exact ⟨by rw [E.out]; rfl, rfl⟩
      · have d0 : ((cb D : Int) == 0) = false := by
          rw [beq_eq_false_iff_ne]; intro e; exact h0 (UInt8.toNat_inj.1 (by have : D.toNat = 0 := by unfold cb at e; omega
                                                                             rw [this]; rfl))
        have E : Hid ((l == q) = false) := Lib.hid (by
          rw [beq_eq_false_iff_ne]; rintro rfl; exact h0 ((HS.out rfl).2 rfl))
        clear HS h0
        go_wp2
        go_ret
        exact ⟨by rw [E.out]; rfl, rfl⟩
set_option maxHeartbeats 1000000 in
theorem same_right (A : Option Addr) (n c : Nat) (l : List UInt8) (B : Option Addr) (m d : Nat) (q : List UInt8) (w : World) (hl : l.length = n) (hr : Row w A (bvs l)) (hn : n ≤ 1099511627776) (hq : q.length = m) (hr2 : Row w B (bvs q)) (hm : m ≤ 1099511627776) (hx : n < m) :
    Calls Try.prog 95 #[.slice A n c, .slice B m d] w fun e w' => e = .returned (.bool (l == q)) ∧ w = w' := by
  have hN : max l.length q.length = m := by rw [hl, hq]; omega
  have HL := Lib.hid hl; have HQ := Lib.hid hq; have HN := Lib.hid hN
  clear hl hq hN
  go_enter Try.func95, Try.ntmps95
  go_wp2
  go_loop [5, 12] (fun vd vi => ∃ k : Nat, k ≤ m ∧ vi = .int .i64 k ∧ vd = .int .u8 (cb (diff l q k)))
    (fun _ vi => m - (intOf vi).toNat)
  case atStart => exact ⟨0, by omega, rfl, by rw [diff_none]; rfl⟩
  case round =>
    obtain ⟨k, hk, rfl, rfl⟩ := hrel
    have HD := Lib.hid (diff_more l q k)
    by_cases hlt : k < m
    · generalize diff l q k = D at *
      go_wp2_with (first
        | (go_at_call_of 105 (Value.slice A n c)
           refine (at_any A n c l k _ HL.out hr hn).mono ?_
           rintro e w' ⟨rfl, rfl⟩)
        | (go_at_call_of 105 (Value.slice B m d)
           refine (at_any B m d q k _ HQ.out hr2 hm).mono ?_
           rintro e w' ⟨rfl, rfl⟩))
      go_round
      case rel => exact ⟨k + 1, by omega, by go_num, by rw [HD.out]⟩
      case measure => simp [intOf]; omega
    · obtain rfl : m = k := by omega
      have HS := Lib.hid (diff_same l q)
      rw [HN.out] at HS
      obtain ⟨D, hD⟩ : ∃ D, D = diff l q m := ⟨_, rfl⟩
      rw [← hD] at HS ⊢
      clear hD
      by_cases h0 : D = 0
      · have d0 : ((cb D : Int) == 0) = true := by rw [h0]; rfl
        by_cases hnm : n = m
        · have d1 : ((n : Int) == (m : Int)) = true := by rw [beq_iff_eq]; omega
          have E : Hid ((l == q) = true) := Lib.hid (by
            rw [beq_iff_eq]; exact (HS.out (by rw [HL.out, HQ.out]; exact hnm)).1 h0)
          clear HS h0
          have HNM := Lib.hid hnm; clear hnm
          go_wp2
          go_ret
          exact ⟨by rw [E.out]; rfl, rfl⟩
        · have d1 : ((n : Int) == (m : Int)) = false := by rw [beq_eq_false_iff_ne]; omega
          have E : Hid ((l == q) = false) := Lib.hid (by
            rw [beq_eq_false_iff_ne]; rintro rfl; exact hnm (HL.out.symm.trans HQ.out))
          clear HS h0
          go_wp2
          go_ret
          exact ⟨by rw [E.out]; rfl, rfl⟩
      · have d0 : ((cb D : Int) == 0) = false := by
          rw [beq_eq_false_iff_ne]; intro e; exact h0 (UInt8.toNat_inj.1 (by have : D.toNat = 0 := by unfold cb at e; omega
                                                                             rw [this]; rfl))
        have E : Hid ((l == q) = false) := Lib.hid (by
          rw [beq_eq_false_iff_ne]; rintro rfl; exact h0 ((HS.out rfl).2 rfl))
        clear HS h0
        go_wp2
        go_ret
        exact ⟨by rw [E.out]; rfl, rfl⟩
theorem same_any (A : Option Addr) (n c : Nat) (l : List UInt8) (B : Option Addr) (m d : Nat) (q : List UInt8) (w : World) (hl : l.length = n) (hr : Row w A (bvs l)) (hn : n ≤ 1099511627776) (hq : q.length = m) (hr2 : Row w B (bvs q)) (hm : m ≤ 1099511627776) :
    Calls Try.prog 95 #[.slice A n c, .slice B m d] w fun e w' => e = .returned (.bool (l == q)) ∧ w = w' := by
  by_cases h : m ≤ n
  · exact same_left A n c l B m d q w hl hr hn hq hr2 hm h
  · exact same_right A n c l B m d q w hl hr hn hq hr2 hm (by omega)
theorem same_self (A : Option Addr) (n c : Nat) (l : List UInt8) (B : Option Addr) (d : Nat) (w : World) (hl : l.length = n) (hr : Row w A (bvs l)) (hn : n ≤ 1099511627776) (hr2 : Row w B (bvs l)) :
    Calls Try.prog 95 #[.slice A n c, .slice B n d] w fun e w' => e = .returned (.bool true) ∧ w = w' := by
  have := same_any A n c l B n d l w hl hr hn hl hr2 hn
  rwa [show (l == l) = true by simp] at this
end Go.Proofs.Ytmmpmncioifeoaa.Tags
