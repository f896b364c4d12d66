/- Contracts of the document's own GHASH: the sum of two texts. -/
import Derived.Test.YtefpdnfogdioeaaGhashX
namespace Go.Proofs.Ytefpdnfogdioeaa.Ghash
set_option linter.unusedVariables false
set_option linter.unusedSimpArgs false
open Go Go.RowKit Kit
open Aes (gb tb tb_length gb_tb tb_gb tb_ext tb_eq arr16 pt pt_all pt_zero blk_byte)
open Field (cb cb_inj)

/-- What stands: the element, the answer's block. -/
structure Bo (w : World) (h : List UInt8) (w2 : World) : Prop where
  h : Blk w2 w.heap.size 22 (bvs h)
  z : Blk w2 (w.heap.size + 1) 22 (bvs none16)
  kp : Kp nob w w2
theorem Bo.keep {w w2 w3 : World} {h : List UInt8} {F : Nat → Prop} (x : Bo w h w2) (k : Kp F w2 w3) (hF : ∀ i, F i → w.heap.size + 1 < i) : Bo w h w3 :=
  ⟨x.h.keep k (fun e => by have := hF _ e; omega), x.z.keep k (fun e => by have := hF _ e; omega), x.kp.since k (fun i e => by have := hF i e; omega)⟩
theorem Bo.keep0 {w w2 w3 : World} {h : List UInt8} (x : Bo w h w2) (k : Kp nob w2 w3) : Bo w h w3 := x.keep k (fun _ e => e.elim)
theorem Bo.lt {w w2 : World} {h : List UInt8} (x : Bo w h w2) : w.heap.size + 1 < w2.heap.size := x.z.lt
theorem Bo.alloc {w w2 : World} {h : List UInt8} (x : Bo w h w2) (o : Obj) : Bo w h (w2.alloc o) := x.keep0 ((Kp.refl nob _).alloc o)
theorem take_len (h s l : List UInt8) (hs : s.length = 16) : (bvs (taken h s l)).length = 16 := len16 (taken_length h s l hs)

/-- The sizes' block, j bytes of each made, from the end on. -/
def pz (n m j : Nat) : List UInt8 := tb fun p => if p < 8 then (if 8 ≤ p + j then UInt8.ofNat (n / 256 ^ (7 - p)) else 0) else (if 16 ≤ p + j then UInt8.ofNat (m / 256 ^ (15 - p)) else 0)
theorem pz_zero (n m : Nat) : pz n m 0 = none16 := by
  rw [none_tb]
  refine tb_ext fun p hp => ?_
  by_cases h : p < 8
  · rw [if_pos h, if_neg (by omega)]
  · rw [if_neg h, if_neg (by omega)]
theorem pz_all (a t : List UInt8) : pz (8 * a.length) (8 * t.length) 8 = sizes a t := by
  refine tb_eq (sizes_length a t) fun p hp => ?_
  have h8 : ∀ n, (big8 n).length = 8 := fun n => by simp [big8]
  have hb : ∀ n q, q < 8 → gb (big8 n) q = UInt8.ofNat (n / 256 ^ (7 - q)) := fun n q hq => by
    rw [gb, List.getD, big8, List.getElem?_map, List.getElem?_range hq]; rfl
  rw [sizes_eq, gb, List.getD]
  by_cases h : p < 8
  · rw [if_pos h, if_pos (by omega), List.getElem?_append_left (by rw [h8]; exact h)]
    exact (hb _ p h).symm
  · rw [if_neg h, if_pos (by omega), List.getElem?_append_right (by rw [h8]; omega), h8]
    have := hb (8 * t.length) (p - 8) (by omega)
    rw [show 7 - (p - 8) = 15 - p by omega] at this
    exact this.symm
theorem pz_step (n m i j : Nat) (hi : i = 7 - j) (hj : j < 8) : ((pz n m j).set i (UInt8.ofNat (n / 256 ^ j))).set (8 + i) (UInt8.ofNat (m / 256 ^ j)) = pz n m (j + 1) := by
  rw [pz, Aes.set_tb, Aes.set_tb, pz]
  refine tb_ext fun p hp => ?_
  by_cases h1 : p = 8 + i
  · rw [if_pos h1, if_neg (by omega), if_pos (by omega), show 15 - p = j by omega]
  · rw [if_neg h1]
    by_cases h2 : p = i
    · rw [if_pos h2, if_pos (by omega), if_pos (by omega), show 7 - p = j by omega]
    · rw [if_neg h2]
      by_cases h : p < 8
      · rw [if_pos h, if_pos h]
        by_cases h3 : 8 ≤ p + j
        · rw [if_pos h3, if_pos (by omega)]
        · rw [if_neg h3, if_neg (by omega)]
      · rw [if_neg h, if_neg h]
        by_cases h3 : 16 ≤ p + j
        · rw [if_pos h3, if_pos (by omega)]
        · rw [if_neg h3, if_neg (by omega)]
theorem pz_length (n m j : Nat) : (pz n m j).length = 16 := tb_length _
attribute [irreducible] pz
/-- What stands while the sizes are made. -/
structure Bz (w : World) (h : List UInt8) (g7 : Nat) (s : List UInt8) (g8 : Nat) (z : List UInt8) (w2 : World) : Prop where
  b : Bo w h w2
  s : Blk w2 g7 22 (bvs s)
  n : Blk w2 g8 22 (bvs z)
theorem Bz.set {w w2 : World} {h s z : List UInt8} {g7 g8 : Nat} (x : Bz w h g7 s g8 z w2) (h7 : w.heap.size + 1 < g7) (h8 : g7 < g8) (i : Nat) (u : UInt8) : Bz w h g7 s g8 (z.set i u) (w2.setCell ⟨g8, i, none⟩ (.int .u8 (cb u))) :=
  ⟨x.b.keep (F := fun k => k = g8) ((Kp.refl (fun k => k = g8) w2).setCell (.inl rfl) _) (fun j e => by omega), x.s.far (by simp; omega) _, by have := x.n.set_ i (.int .u8 (cb u)); rwa [Aes.bvs_setb] at this⟩
theorem pow_next (n j : Nat) : n / 256 ^ (j + 1) = n / 256 ^ j / 256 := by rw [Nat.pow_succ, Nat.div_div_eq_div_mul]

set_option maxHeartbeats 4000000 in
set_option maxRecDepth 100000 in
theorem fOf (h : List UInt8) (sa st : ByteArray) (w : World) (hh : h.length = 16) (ha : sa.size ≤ 1099511627776) (ht : st.size ≤ 1099511627776) :
    Calls Try.prog 18 #[.agg (bvs h).toArray, .string sa, .string st] w fun e w' => e = .returned (.agg (bvs (sum h (sl sa) (sl st))).toArray) ∧ Kp nob w w' := by
  obtain ⟨a, rfl⟩ : ∃ l, sa = str l := ⟨sl sa, rfl⟩
  obtain ⟨t, rfl⟩ : ∃ l, st = str l := ⟨sl st, rfl⟩
  rw [sl_str, sl_str]
  rw [str_size] at ha ht
  have HH := Lib.hid hh
  have HHL := Lib.hid (len16 hh)
  have HZ := Lib.hid (len16 none_length)
  have HTA := Lib.hid (taken_length h none16 a none_length)
  have HTT := Lib.hid (take_len h (taken h none16 a) t (taken_length h none16 a none_length))
  clear hh
  go_enter Try.func18, Try.ntmps18
  go_wp2
  have H0 : Bo w h ((w.alloc (.cells (bvs h).toArray 22)).alloc (.cells (bvs none16).toArray 22)) := ⟨(Blk.new w _ _).alloc _, Blk.new' (by simp) rfl, ((Kp.refl nob w).alloc _).alloc _⟩
  have H1 := Lib.hid (H0.keep0 (Kp.refl nob _).drew)
  refine reg_begin (fun w' => Bo w h w') (by kernel_rfl) H1.out (fun _ => ?_)
  clear H0
  change wpAnyH _ _ _ _ _ _ _ _ (((w.alloc (.cells (bvs h).toArray 22)).alloc (.cells (bvs none16).toArray 22)).drew)
  generalize ((w.alloc (.cells (bvs h).toArray 22)).alloc (.cells (bvs none16).toArray 22)).drew = w7 at *
  refine reg_load 0 (some 12) 22 (.tmp 3) rfl rfl rfl (by kernel_rfl) (by kernel_rfl) (by kernel_rfl) (by rfl) (by assumption) w.heap.size 0 rfl (bvs h) _ (fun _ x => x.h.range) arr16 rfl (by rw [HHL.out]; kernel_rfl) ?_
  simp only [Act.put, List.setIfInBounds_toArray, List.set_cons_zero, List.set_cons_succ]
  refine reg_load 1 (some 13) 22 (.tmp 3) rfl rfl rfl (by kernel_rfl) (by kernel_rfl) (by kernel_rfl) (by rfl) (by assumption) w.heap.size 0 rfl (bvs h) _ (fun _ x => x.h.range) arr16 rfl (by rw [HHL.out]; kernel_rfl) ?_
  simp only [Act.put, List.setIfInBounds_toArray, List.set_cons_zero, List.set_cons_succ]
  refine reg_take (v := .agg (bvs none16).toArray) 2 (some 14) rfl rfl (by kernel_rfl) (by kernel_rfl) (by kernel_rfl) (by rfl) (by assumption) ?h2 ?r2
  case h2 => intro w hw; go_simp; rfl
  simp only [Act.put, List.setIfInBounds_toArray, List.set_cons_zero, List.set_cons_succ]
  refine reg_take (v := ?v3) 3 (some 15) rfl rfl (by kernel_rfl) (by kernel_rfl) (by kernel_rfl) (by rfl) (by assumption) ?h3 ?r3
  case h3 => intro w hw; go_simp; try with_reducible rfl
  simp only [Act.put, List.setIfInBounds_toArray, List.set_cons_zero, List.set_cons_succ]
  refine reg_take (v := ?v5) 5 (some 17) rfl rfl (by kernel_rfl) (by kernel_rfl) (by kernel_rfl) (by rfl) (by assumption) ?h5 ?r5
  case h5 => intro w hw; go_simp; try with_reducible rfl
  simp only [Act.put, List.setIfInBounds_toArray, List.set_cons_zero, List.set_cons_succ]
  refine reg_callOr (w' := w7.alloc (.cells (bvs none16).toArray 22)) (v := .pointer (some ⟨w7.heap.size, 0, none⟩)) 4 7 (some 16) (some 7) rfl rfl rfl rfl (by kernel_rfl) (by rfl) (by rfl) _ _ (by go_simp; exact ⟨rfl, rfl⟩) (by go_simp; rfl) (H1.out.alloc _) ?first4 (fun _ => ?first7)
  case' first4 =>
    refine (fTake h none16 (str a) w7 HH.out none_length (by rw [str_size]; omega)).mono ?_
    rintro e w8 ⟨rfl, k8⟩
    have H8 := Lib.hid (H1.out.keep0 k8)
    refine ⟨_, rfl, H8.out, fun _ => ?_⟩
    simp only [Act.put, List.setIfInBounds_toArray, List.set_cons_zero, List.set_cons_succ]
    refine reg_callOr (w' := w8.alloc (.cells (bvs none16).toArray 22)) (v := .pointer (some ⟨w8.heap.size, 0, none⟩)) 6 7 (some 18) (some 7) rfl rfl rfl rfl (by kernel_rfl) (by rfl) (by rfl) _ _ (by go_simp; exact ⟨rfl, rfl⟩) (by go_simp; rfl) (H8.out.alloc _) ?first6 (fun _ => ?first7b)
    case' first6 =>
      refine (fTake h (taken h none16 a) (str t) w8 HH.out HTA.out (by rw [str_size]; omega)).mono ?_
      rintro e w9 ⟨rfl, k9⟩
      have H9 := Lib.hid (H8.out.keep0 k9)
      refine ⟨_, rfl, H9.out, fun _ => ?_⟩
      simp only [Act.put, List.setIfInBounds_toArray, List.set_cons_zero, List.set_cons_succ]
      refine reg_step (w' := w9.alloc (.cells (bvs none16).toArray 22)) (v := .pointer (some ⟨w9.heap.size, 0, none⟩)) 7 (some 7) rfl rfl (by kernel_rfl) (by rfl) (by go_simp; rfl) (H9.out.alloc _) (fun _ => ?_)
      simp only [Act.put, List.setIfInBounds_toArray, List.set_cons_zero, List.set_cons_succ]
      have hgg := Lib.hid H9.out.lt
      have H10 := Lib.hid (H9.out.alloc (.cells (bvs none16).toArray 22))
      have hb10 : Blk (w9.alloc (.cells (bvs none16).toArray 22)) w9.heap.size 22 (bvs none16) := Blk.new' rfl rfl
      refine reg_store 8 none 22 (.tmp 7) (.tmp 18) rfl rfl rfl (by kernel_rfl) (by rfl) w9.heap.size _ _ (bvs (taken h (taken h none16 a) t)) hb10 rfl rfl (by rw [HTT.out, HZ.out]) (by rw [HTT.out]; kernel_rfl) (bvs_one _) ?_
      intro w11 hB11 k11 z11
      have hg0 : w.heap.size + 1 < w9.heap.size := hgg.out
      have HE := Lib.hid (H10.out.keep k11 (fun i e => by unfold oneB at e; omega))
      have HS := Lib.hid hB11
      refine ⟨HE.out, fun _ => ?_⟩
      simp only [Act.put, List.setIfInBounds_toArray, List.set_cons_zero, List.set_cons_succ]
      refine reg_end (by kernel_rfl) ?_
      obtain ⟨g7, hg7⟩ : ∃ g, g = w9.heap.size := ⟨_, rfl⟩
      rw [← hg7] at HS hg0 ⊢
      clear hB11 k11 z11 hg7
    case' first7b =>
      simp only [Act.put, List.setIfInBounds_toArray, List.set_cons_zero, List.set_cons_succ]
      have hgg := Lib.hid H8.out.lt
      have H9 := Lib.hid (H8.out.alloc (.cells (bvs none16).toArray 22))
      have hb9 : Blk (w8.alloc (.cells (bvs none16).toArray 22)) w8.heap.size 22 (bvs none16) := Blk.new' rfl rfl
      refine reg_call 6 (some 18) rfl rfl (by kernel_rfl) (by rfl) _ _ (by go_simp; exact ⟨rfl, rfl⟩) ?_
      refine (fTake h (taken h none16 a) (str t) _ HH.out HTA.out (by rw [str_size]; omega)).mono ?_
      rintro e w10 ⟨rfl, k9⟩
      have H10 := Lib.hid (H9.out.keep0 k9)
      refine ⟨_, rfl, H10.out, fun _ => ?_⟩
      have hb10 := hb9.keep k9 (fun e => e)
      simp only [Act.put, List.setIfInBounds_toArray, List.set_cons_zero, List.set_cons_succ]
      refine reg_store 8 none 22 (.tmp 7) (.tmp 18) rfl rfl rfl (by kernel_rfl) (by rfl) w8.heap.size _ _ (bvs (taken h (taken h none16 a) t)) hb10 rfl rfl (by rw [HTT.out, HZ.out]) (by rw [HTT.out]; kernel_rfl) (bvs_one _) ?_
      intro w11 hB11 k11 z11
      have hg0 : w.heap.size + 1 < w8.heap.size := hgg.out
      have HE := Lib.hid (H10.out.keep k11 (fun i e => by unfold oneB at e; omega))
      have HS := Lib.hid hB11
      refine ⟨HE.out, fun _ => ?_⟩
      simp only [Act.put, List.setIfInBounds_toArray, List.set_cons_zero, List.set_cons_succ]
      refine reg_end (by kernel_rfl) ?_
      obtain ⟨g7, hg7⟩ : ∃ g, g = w8.heap.size := ⟨_, rfl⟩
      rw [← hg7] at HS hg0 ⊢
      clear hB11 k11 z11 hg7
  case' first7 =>
    simp only [Act.put, List.setIfInBounds_toArray, List.set_cons_zero, List.set_cons_succ]
    have hgg := Lib.hid H1.out.lt
    have H8 := Lib.hid (H1.out.alloc (.cells (bvs none16).toArray 22))
    have hb8 : Blk (w7.alloc (.cells (bvs none16).toArray 22)) w7.heap.size 22 (bvs none16) := Blk.new' rfl rfl
    refine reg_call 4 (some 16) rfl rfl (by kernel_rfl) (by rfl) _ _ (by go_simp; exact ⟨rfl, rfl⟩) ?_
    refine (fTake h none16 (str a) _ HH.out none_length (by rw [str_size]; omega)).mono ?_
    rintro e w9 ⟨rfl, k8⟩
    have H9 := Lib.hid (H8.out.keep0 k8)
    refine ⟨_, rfl, H9.out, fun _ => ?_⟩
    have hb9 := hb8.keep k8 (fun e => e)
    simp only [Act.put, List.setIfInBounds_toArray, List.set_cons_zero, List.set_cons_succ]
    refine reg_call 6 (some 18) rfl rfl (by kernel_rfl) (by rfl) _ _ (by go_simp; exact ⟨rfl, rfl⟩) ?_
    refine (fTake h (taken h none16 a) (str t) _ HH.out HTA.out (by rw [str_size]; omega)).mono ?_
    rintro e w10 ⟨rfl, k9⟩
    have H10 := Lib.hid (H9.out.keep0 k9)
    refine ⟨_, rfl, H10.out, fun _ => ?_⟩
    have hb10 := hb9.keep k9 (fun e => e)
    simp only [Act.put, List.setIfInBounds_toArray, List.set_cons_zero, List.set_cons_succ]
    refine reg_store 8 none 22 (.tmp 7) (.tmp 18) rfl rfl rfl (by kernel_rfl) (by rfl) w7.heap.size _ _ (bvs (taken h (taken h none16 a) t)) hb10 rfl rfl (by rw [HTT.out, HZ.out]) (by rw [HTT.out]; kernel_rfl) (bvs_one _) ?_
    intro w11 hB11 k11 z11
    have hg0 : w.heap.size + 1 < w7.heap.size := hgg.out
    have HE := Lib.hid (H10.out.keep k11 (fun i e => by unfold oneB at e; omega))
    have HS := Lib.hid hB11
    refine ⟨HE.out, fun _ => ?_⟩
    simp only [Act.put, List.setIfInBounds_toArray, List.set_cons_zero, List.set_cons_succ]
    refine reg_end (by kernel_rfl) ?_
    obtain ⟨g7, hg7⟩ : ∃ g, g = w7.heap.size := ⟨_, rfl⟩
    rw [← hg7] at HS hg0 ⊢
    clear hB11 k11 z11 hg7
  all_goals
    obtain ⟨g8, hg8⟩ : ∃ g, g = w11.heap.size := ⟨_, rfl⟩
    have h78 : g7 < g8 := by rw [hg8]; exact HS.out.lt
    have hz0 : Bz w h g7 (taken h (taken h none16 a) t) g8 (pz (8 * a.length) (8 * t.length) 0) (w11.alloc (.cells (bvs none16).toArray 22)) := by
      rw [pz_zero]; exact ⟨HE.out.alloc _, HS.out.alloc _, Blk.new' hg8 rfl⟩
    have HZ0 := Lib.hid hz0
    clear hz0
    go_wp2
    rw [← hg8]
    clear hg8
    go_loopw [9, 10, 11] (fun vn vm vi w3 => ∃ (j : Nat) (I : Int), j ≤ 8 ∧ I = 7 - (j : Int) ∧ vn = .int .i64 ((8 * a.length / 256 ^ j : Nat) : Int) ∧ vm = .int .i64 ((8 * t.length / 256 ^ j : Nat) : Int) ∧ vi = .int .i64 I ∧ Bz w h g7 (taken h (taken h none16 a) t) g8 (pz (8 * a.length) (8 * t.length) j) w3)
      (fun _ _ vi _ => (intOf vi + 1).toNat)
    case' atStart => exact ⟨0, 7, by omega, rfl, by simp, by simp, rfl, HZ0.out⟩
    case' round =>
      obtain ⟨j, I, hj, hI, rfl, rfl, rfl, hz⟩ := hrel
      have HZ1 := Lib.hid hz; clear hz HZ0
      by_cases hlt : j < 8
      case' pos =>
        obtain ⟨i, rfl⟩ : ∃ i : Nat, I = i := ⟨7 - j, by omega⟩
        have HST := Lib.hid (pz_step (8 * a.length) (8 * t.length) i j (by omega) hlt)
        have hN := Nat.div_le_self (8 * a.length) (256 ^ j)
        have hM := Nat.div_le_self (8 * t.length) (256 ^ j)
        have HPN := Lib.hid (pow_next (8 * a.length) j)
        have HPM := Lib.hid (pow_next (8 * t.length) j)
        generalize 8 * a.length / 256 ^ j = N at *
        generalize 8 * t.length / 256 ^ j = M at *
        have hi7 : i ≤ 7 := by omega
        have HIJ := Lib.hid (show (i : Int) - 1 = 7 - ((j + 1 : Nat) : Int) by omega)
        have hc1 := blk_byte HZ1.out.n i (by rw [pz_length]; omega)
        have hc2 := blk_byte HZ1.out.n (8 + i) (by rw [pz_length]; omega)
        have hf1 := HZ1.out.n.frozen i
        have hf2 := HZ1.out.n.frozen (8 + i)
        have eN : (N : Int) % 256 = cb (UInt8.ofNat N) := by unfold cb; simp
        have eM : (M : Int) % 256 = cb (UInt8.ofNat M) := by unfold cb; simp
        have hN2 : N ≤ 9007199254740992 := by omega
        have hM2 : M ≤ 9007199254740992 := by omega
        clear hI hN hM
        go_wp2
        have hb := (HZ1.out.set hg0 h78 i (UInt8.ofNat N)).set hg0 h78 (8 + i) (UInt8.ofNat M)
        rw [HST.out] at hb
        exact ⟨⟨j + 1, (i : Int) - 1, by omega, HIJ.out, by rw [HPN.out]; simp, by rw [HPM.out]; simp, rfl, hb⟩, by simp only [intOf]; omega⟩
      case' neg =>
        have hz1 := HZ1.out
        rw [show j = 8 by omega, pz_all] at hz1
        have HZ2 := Lib.hid hz1
        obtain rfl : I = -1 := by omega
        have HSZ := Lib.hid (sizes_length a t)
        have HSU := Lib.hid (sum_eq h a t)
        have HSL := Lib.hid (len16 (sum_length h a t))
        have HTL := Lib.hid (taken_length h (taken h none16 a) t HTA.out)
        clear hz1 HZ1 HE HS
        go_wp2
        obtain ⟨Q0, hQ0⟩ : ∃ Q0, Q0 = wr.drew := ⟨_, rfl⟩
        have HB0 := Lib.hid (HZ2.out.b.keep0 (Kp.refl nob wr).drew)
        have hS0 : Blk wr.drew w.heap.size 22 (bvs h) ∧ Blk wr.drew g7 22 (bvs (taken h (taken h none16 a) t)) ∧ Blk wr.drew g8 22 (bvs (sizes a t)) ∧ Kp nob w wr.drew :=
          ⟨HB0.out.h, HZ2.out.s.keep (Kp.refl nob wr).drew (fun e => e), HZ2.out.n.keep (Kp.refl nob wr).drew (fun e => e), HB0.out.kp⟩
        refine reg_begin (fun w' => Blk w' w.heap.size 22 (bvs h) ∧ Blk w' g7 22 (bvs (taken h (taken h none16 a) t)) ∧ Blk w' g8 22 (bvs (sizes a t)) ∧ Kp nob w w') (by kernel_rfl) hS0 (fun _ => ?_)
        clear HZ2 hQ0
        generalize wr.drew = w20 at *
        refine reg_load 0 (some 44) 22 (.tmp 3) rfl rfl rfl (by kernel_rfl) (by kernel_rfl) (by kernel_rfl) (by rfl) hS0 w.heap.size 0 rfl (bvs h) _ (fun _ x => x.1.range) arr16 rfl (by rw [HHL.out]; kernel_rfl) ?_
        simp only [Act.put, List.setIfInBounds_toArray, List.set_cons_zero, List.set_cons_succ]
        refine reg_load 1 (some 45) 22 (.tmp 7) rfl rfl rfl (by kernel_rfl) (by kernel_rfl) (by kernel_rfl) (by rfl) hS0 g7 0 rfl (bvs (taken h (taken h none16 a) t)) _ (fun _ x => x.2.1.range) arr16 rfl (by rw [HTT.out]; kernel_rfl) ?_
        simp only [Act.put, List.setIfInBounds_toArray, List.set_cons_zero, List.set_cons_succ]
        refine reg_take (v := .slice (some ⟨g8, 0, none⟩) 16 16) 2 (some 46) rfl rfl (by kernel_rfl) (by kernel_rfl) (by kernel_rfl) (by rfl) hS0 (fun w hw => by go_simp) ?_
        simp only [Act.put, List.setIfInBounds_toArray, List.set_cons_zero, List.set_cons_succ]
        refine reg_bytesStr 3 (some 47) 29 9 5 (.tmp 46) rfl rfl rfl (by kernel_rfl) (by kernel_rfl) (by kernel_rfl) (by rfl) hS0 (by kernel_rfl) (by kernel_rfl) (by kernel_rfl) (some ⟨g8, 0, none⟩) 16 16 (sizes a t) HSZ.out rfl (fun _ x => x.2.2.1.row) ?_
        simp only [Act.put, List.setIfInBounds_toArray, List.set_cons_zero, List.set_cons_succ]
        refine reg_call 4 (some 48) rfl rfl (by kernel_rfl) (by rfl) _ _ (by go_simp; exact ⟨rfl, rfl⟩) ?_
        refine (fTake h (taken h (taken h none16 a) t) (str (sizes a t)) w20 HH.out HTL.out (by rw [str_size, HSZ.out]; omega)).mono ?_
        rintro e w21 ⟨rfl, k21⟩
        rw [sl_str, ← HSU.out]
        have HB1 := Lib.hid (HB0.out.keep0 k21)
        have hS1 : Blk w21 w.heap.size 22 (bvs h) ∧ Blk w21 g7 22 (bvs (taken h (taken h none16 a) t)) ∧ Blk w21 g8 22 (bvs (sizes a t)) ∧ Kp nob w w21 :=
          ⟨HB1.out.h, hS0.2.1.keep k21 (fun e => e), hS0.2.2.1.keep k21 (fun e => e), HB1.out.kp⟩
        refine ⟨_, rfl, hS1, fun _ => ?_⟩
        simp only [Act.put, List.setIfInBounds_toArray, List.set_cons_zero, List.set_cons_succ]
        refine reg_store 5 none 22 (.tmp 6) (.tmp 48) rfl rfl rfl (by kernel_rfl) (by rfl) (w.heap.size + 1) _ _ (bvs (sum h a t)) HB1.out.z rfl rfl (by rw [HSL.out, HZ.out]) (by rw [HSL.out]; kernel_rfl) (bvs_one _) ?_
        intro w22 hB22 k22 z22
        have K22 : Kp nob w w22 := hS1.2.2.2.since k22 (fun i e => by unfold oneB at e; omega)
        refine ⟨⟨hS1.1.keep k22 (fun e => by unfold oneB at e; omega), hS1.2.1.keep k22 (fun e => by unfold oneB at e; omega), hS1.2.2.1.keep k22 (fun e => by unfold oneB at e; omega), K22⟩, fun _ => ?_⟩
        simp only [Act.put, List.setIfInBounds_toArray, List.set_cons_zero, List.set_cons_succ]
        refine reg_end (by kernel_rfl) ?_
        go_wp2
        have hsz : (Try.prog.info? 22).map (·.size) = some (bvs (sum h a t)).toArray.size := by
          rw [List.size_toArray, HSL.out]; kernel_rfl
        exact bodyPost_ret (results_cell_row rfl _ _ (w.heap.size + 1) _ _ _ _ rfl hB22 arr16 rfl hsz) rfl ⟨rfl, K22⟩
end Go.Proofs.Ytefpdnfogdioeaa.Ghash
