/- Contracts of package aes: a cipher's tables. · A key's words in a block of 60, in a cipher's cells: four bytes more. · Contracts of package aes: a cipher's keys. -/
import Derived.Test.YtmmpmncioifeoaaZG31
import Derived.Test.YtmmpmncioifeoaaZG30
import Derived.Test.YtmmpmncioifeoaaZG06
import Derived.Test.YtmmpmncioifeoaaZG10
import Derived.Test.YtmmpmncioifeoaaZG07
namespace Go.Proofs.Ytmmpmncioifeoaa.Aes
set_option linter.unusedVariables false
set_option linter.unusedSimpArgs false
open Go Go.RowKit Kit
open Field (cb cb_inj Sq)

theorem sq_lt [Inhabited Field.SqTab] {w : World} (h : Sq w) : 3 < w.heap.size := by
  have h1 := h 0 _ (bvs_get (l := Field.gSQ) (i := 0) (by rw [Field.gSQ_length]; omega))
  rcases Nat.lt_or_ge 3 w.heap.size with hlt | hge
  · exact hlt
  · unfold World.cell? at h1
    rw [show w.heap[(⟨3, 0 + 0, none⟩ : Addr).block]? = none from Array.getElem?_eq_none hge] at h1
    cases h1
theorem sq_keep [Inhabited Field.SqTab] {w w2 : World} {F : Nat → Prop} (h : Sq w) (k : Kp F w w2) (hF : ¬ F 3) : Sq w2 := range_keep h k hF

set_option maxHeartbeats 1000000 in
set_option maxRecDepth 100000 in
theorem fillBoxes_any [Inhabited Field.SqTab] (g N : Nat) (K : List UInt8) (w : World) (hK : K.length = 240) (ht : Sq w) (hg : 3 < g) (hb : Blk w g 166 (cph N K (bxs 0) (bks 0))) :
    Calls Try.prog 108 #[.pointer (some ⟨g, 0, none⟩)] w fun e w' => e = .returned (.tuple #[]) ∧ Blk w' g 166 (cph N K BX BK) ∧ Kp (oneB g) w w' := by
  have HK := Lib.hid hK; have HT := Lib.hid ht; have HB := Lib.hid hb; clear hK ht hb
  go_enter Try.func108, Try.ntmps108
  go_wp2
  go_loopw [4] (fun vi wr => ∃ i : Nat, i ≤ 256 ∧ vi = .int .i64 i ∧ Blk wr g 166 (cph N K (bxs i) (bks i)) ∧ Kp (oneB g) w wr)
    (fun vi _ => 256 - (intOf vi).toNat)
  case atStart => exact ⟨0, by omega, rfl, HB.out, Kp.refl _ _⟩
  case round =>
    obtain ⟨i, hi, rfl, h1, hkp⟩ := hrel
    have H1 := Lib.hid h1; have HKP := Lib.hid hkp; clear h1 hkp HB
    by_cases hlt : i < 256
    · obtain ⟨x, hx⟩ : ∃ x, x = UInt8.ofNat i := ⟨_, rfl⟩
      have e1 : IntKind.u8.wrap (i : Int) = cb x := by
        have : x.toNat = i := by rw [hx, UInt8.toNat_ofNat']; omega
        unfold cb; rw [this, IntKind.wrap_u8]; omega
      have HX := Lib.hid hx; clear hx
      have HT1 := Lib.hid (sq_keep HT.out HKP.out (fun e => by unfold oneB at e; omega))
      go_wp2_with fail
      refine (Field.box_any x _ HT1.out).mono ?_
      rintro e w1 ⟨rfl, k1⟩
      obtain ⟨y, hy⟩ : ∃ y, y = Field.gbox x := ⟨_, rfl⟩
      rw [← hy]
      have H2 := Lib.hid (H1.out.keep k1 (fun e => e))
      have HK2 := Lib.hid (HKP.out.trans k1 (fun _ e => e.elim))
      clear H1 HKP k1 HT1
      have hX := HX.out
      have hKl := HK.out
      have e2 : (cph N K (bxs i) (bks i)).set (241 + i) (.int .u8 (cb y)) = cph N K (bxs (i + 1)) (bks i) := by
        rw [cph_setx hKl i y (by rw [bxs_length]; exact hlt), hy, hX, bxs_set]
      have e3 : (cph N K (bxs (i + 1)) (bks i)).set (497 + (cb y).toNat) (.int .u8 (cb x)) = cph N K (bxs (i + 1)) (bks (i + 1)) := by
        rw [show (cb y).toNat = y.toNat from rfl, cph_setk hKl (bxs_length _), hy, hX, bks_set i hlt]
      obtain ⟨v1, hv1⟩ : ∃ v, (cph N K (bxs i) (bks i))[241 + i]? = some v := ⟨_, List.getElem?_eq_getElem (by rw [cph_length hKl (bxs_length _) (bks_length _)]; omega)⟩
      obtain ⟨v2, hv2⟩ : ∃ v, (cph N K (bxs (i + 1)) (bks i))[497 + (cb y).toNat]? = some v := ⟨_, List.getElem?_eq_getElem (by rw [cph_length hKl (bxs_length _) (bks_length _)]; have := cb_in y; omega)⟩
      have h3 := H2.out.set_ (241 + i) (.int .u8 (cb y))
      rw [e2] at h3
      have h4 := h3.set_ (497 + (cb y).toNat) (.int .u8 (cb x))
      rw [e3] at h4
      have c1 : w1.cell? ⟨g, 241 + i, none⟩ = some v1 := by rw [H2.out.cell, hv1]
      have c2 : (w1.setCell ⟨g, 241 + i, none⟩ (.int .u8 (cb y))).cell? ⟨g, 497 + (cb y).toNat, none⟩ = some v2 := by rw [h3.cell, hv2]
      have f1 : w1.frozen? ⟨g, 241 + i, none⟩ = false := H2.out.frozen _
      have f2 : (w1.setCell ⟨g, 241 + i, none⟩ (.int .u8 (cb y))).frozen? ⟨g, 497 + (cb y).toNat, none⟩ = false := h3.frozen _
      have b1 : 0 ≤ cb y ∧ cb y < 256 := cb_in _
      have H4 := Lib.hid h4
      clear h3 h4 hv1 hv2 e2 e3 hX hy
      go_wp2
      go_roundw
      case rel => exact ⟨i + 1, by omega, by go_num, H4.out, (HK2.out.setCell (p := ⟨g, 241 + i, none⟩) (.inl rfl) _).setCell (p := ⟨g, 497 + (cb y).toNat, none⟩) (.inl rfl) _⟩
      case measure => simp [intOf]; omega
    · obtain rfl : i = 256 := by omega
      have h1 := H1.out
      rw [bxs_all, bks_all] at h1
      have HF := Lib.hid h1; clear h1 H1
      go_wp2
      refine bodyPost_end (results_none rfl _ _ _) rfl ?_
      exact ⟨rfl, HF.out, HKP.out⟩
end Go.Proofs.Ytmmpmncioifeoaa.Aes
namespace Go.Proofs.Ytmmpmncioifeoaa.Aes
set_option linter.unusedVariables false
set_option linter.unusedSimpArgs false
open Go Go.RowKit Kit
open Field (cb gbox)

/-- The first i words, noughts behind them. -/
def kz [Inhabited Field.SqTab] (key : List UInt8) (n i : Nat) : List UInt8 := words key n i ++ List.replicate (240 - 4 * i) 0
theorem kz_length [Inhabited Field.SqTab] (key : List UInt8) (n i : Nat) (h : i ≤ 60) : (kz key n i).length = 240 := by
  rw [kz, List.length_append, words_length, List.length_replicate]; omega
theorem kz_zero [Inhabited Field.SqTab] (key : List UInt8) (n : Nat) : kz key n 0 = List.replicate 240 0 := by rw [kz, words_zero]; rfl
theorem kz_at [Inhabited Field.SqTab] (key : List UInt8) (n i j : Nat) (h : j < 4 * i) : gb (kz key n i) j = gb (words key n i) j := by
  rw [kz, gb, List.getD, List.getElem?_append_left (by rw [words_length]; exact h)]; rfl
theorem kz_next [Inhabited Field.SqTab] (key : List UInt8) (n i : Nat) (L : List UInt8) (h : i < 60) (hL : words key n (i + 1) = words key n i ++ L) (h4 : L.length = 4) : splice (kz key n i) (4 * i) L = kz key n (i + 1) := by
  have hw : (words key n i).length = 4 * i := words_length _ _ _
  rw [splice, kz, kz, hL, h4, List.append_assoc]
  congr 1
  · rw [List.take_append_of_le_length (by omega), List.take_of_length_le (by omega)]
  · congr 1
    rw [List.drop_append, List.drop_eq_nil_of_le (by omega), List.nil_append, hw, List.drop_replicate]
    congr 1; omega
theorem bvs_splice (l : List UInt8) (off : Nat) (L : List UInt8) : splice (bvs l) off (bvs L) = bvs (splice l off L) := by
  simp only [splice, bvs, List.map_append, List.map_take, List.map_drop, List.length_map]
theorem cph_next [Inhabited Field.SqTab] (N : Nat) (key : List UInt8) (n i : Nat) (L bx bk : List UInt8) (h : i < 60) (hL : words key n (i + 1) = words key n i ++ L) (h4 : L.length = 4) : splice (cph N (kz key n i) bx bk) (1 + 4 * i) (bvs L) = cph N (kz key n (i + 1)) bx bk := by
  rw [← kz_next key n i L h hL h4, cph, cph]
  have hk := kz_length key n i (by omega)
  show splice (_ :: bvs (kz key n i ++ (bx ++ bk))) (1 + 4 * i) (bvs L) = _ :: bvs (splice (kz key n i) (4 * i) L ++ (bx ++ bk))
  rw [splice, Nat.add_comm 1, List.take_succ_cons, List.cons_append, show 4 * i + 1 + (bvs L).length = (4 * i + (bvs L).length) + 1 by omega, List.drop_succ_cons]
  congr 1
  have := bvs_splice (kz key n i ++ (bx ++ bk)) (4 * i) L
  rw [splice] at this
  rw [this]
  congr 1
  rw [splice, splice, h4, List.take_append_of_le_length (by omega), List.drop_append_of_le_length (by omega)]
  simp
theorem four_of (l : List UInt8) (j : Nat) (h : 4 * j + 4 ≤ l.length) : ((bvs l).drop (4 * j)).take 4 = bvs (t4 fun k => gb l (4 * j + k)) := by
  apply List.ext_getElem?
  intro k
  rw [List.getElem?_take]
  by_cases hk : k < 4
  · rw [if_pos hk, List.getElem?_drop, gb_get l _ (by omega), t4_get _ _ hk]
  · rw [if_neg hk, List.getElem?_eq_none (by rw [bvs_length, t4_length]; omega)]
theorem row_four_of {w : World} {A : Option Addr} {c : Nat} {l : List UInt8} (h : Row w A (bvs l)) (j : Nat) (hj : 4 * j + 4 ≤ l.length) (hc : l.length ≤ c) : Row w (cutA A c (4 * j)) (bvs (t4 fun k => gb l (4 * j + k))) := by
  rw [← four_of l j hj]
  exact (h.cut (by rw [bvs_length]; exact hc)).take 4
theorem kz_part [Inhabited Field.SqTab] {w : World} {H : Nat} {t : TypeId} {key : List UInt8} {n i : Nat} (h : Blk w H t (bvs (kz key n i))) (j : Nat) (hj : j < i) (hi : i ≤ 60) : w.rangeAt H (j * 4) (bvs (t4 fun k => gb (words key n i) (4 * j + k))) := by
  refine h.part _ _ fun k v hv => ?_
  have hk : k < 4 := (List.getElem?_eq_some_iff.1 hv).1
  rw [t4_get _ _ hk] at hv
  rw [gb_get _ _ (by rw [kz_length _ _ _ hi]; omega), kz_at _ _ _ _ (by omega), ← hv, Nat.mul_comm]
theorem kz_part' [Inhabited Field.SqTab] {w : World} {H : Nat} {t : TypeId} {key : List UInt8} {n i : Nat} (h : Blk w H t (bvs (kz key n (i + 1)))) (j : Nat) (hj : j < i) (hi : i < 60) : w.rangeAt H (j * 4) (bvs (t4 fun k => gb (words key n i) (4 * j + k))) := by
  have := kz_part h j (by omega) (by omega)
  rwa [t4_ext (g := fun k => gb (words key n i) (4 * j + k)) fun k hk => words_at key n i 1 (4 * j + k) (by omega)] at this
theorem nextB_low [Inhabited Field.SqTab] (key : List UInt8) (n i : Nat) (h : i < n) (W : List UInt8) : t4 (nextB key n W i) = t4 fun k => gb key (4 * i + k) := t4_ext fun k _ => by rw [nextB, if_pos h]
theorem nextB_high [Inhabited Field.SqTab] (key : List UInt8) (n i : Nat) (h : n ≤ i) (W : List UInt8) : t4 (nextB key n W i) = t4 fun k => (fun k => gb W (4 * (i - n) + k)) k ^^^ turned n i (fun k => gb W (4 * (i - 1) + k)) k := t4_ext fun k _ => by rw [nextB, if_neg (by omega)]
attribute [irreducible] kz
end Go.Proofs.Ytmmpmncioifeoaa.Aes
namespace Go.Proofs.Ytmmpmncioifeoaa.Aes
set_option linter.unusedVariables false
set_option linter.unusedSimpArgs false
open Go Go.RowKit Kit
open Field (cb cb_inj Sq)

/-- What stands while the keys are made: the words, the cipher. -/
structure Fk [Inhabited Field.SqTab] (w : World) (g N : Nat) (key : List UInt8) (n i : Nat) (w2 : World) : Prop where
  ws : Blk w2 w.heap.size 185 (bvs (kz key n i))
  c : Blk w2 g 166 (cph N (kz key n i) BX BK)
  kp : Kp (oneB g) w w2
theorem Fk.keep [Inhabited Field.SqTab] {w w2 w3 : World} {g N n i : Nat} {key : List UInt8} (h : Fk w g N key n i w2) (k : Kp nob w2 w3) : Fk w g N key n i w3 :=
  ⟨h.ws.keep k (fun e => e), h.c.keep k (fun e => e), h.kp.trans k (fun _ e => e.elim)⟩

/-- .. and between: the words are ahead. -/
structure Fh [Inhabited Field.SqTab] (w : World) (g N : Nat) (key : List UInt8) (n i : Nat) (w2 : World) : Prop where
  ws : Blk w2 w.heap.size 185 (bvs (kz key n (i + 1)))
  c : Blk w2 g 166 (cph N (kz key n i) BX BK)
  kp : Kp (oneB g) w w2
theorem Fh.keep [Inhabited Field.SqTab] {w w2 w3 : World} {g N n i : Nat} {key : List UInt8} (h : Fh w g N key n i w2) (k : Kp nob w2 w3) : Fh w g N key n i w3 :=
  ⟨h.ws.keep k (fun e => e), h.c.keep k (fun e => e), h.kp.trans k (fun _ e => e.elim)⟩

theorem u8sl_under : Try.prog.underlying 29 = some (.slice 5) := by kernel_rfl
theorem word_all (g o : Nat) (w : World) : (Instr.sliceAt 184 (.pointer (some ⟨g, o, none⟩)) none none none).run Try.prog w = .ok (.slice (some ⟨g, o, none⟩) 4 4) w := by
  have ha : Try.prog.underlying 184 = some (.array (Try.prog.arrayLen 184) (Try.prog.elem 184)) := by kernel_rfl
  have hl : Try.prog.arrayLen 184 = 4 := by kernel_rfl
  have he : Try.prog.elem 184 = 5 := by kernel_rfl
  have hz : (sizeOf 5).run Try.prog w = .ok 1 w := by kernel_rfl
  rw [run_sliceAt_array_all w _ _ ha, hl, he, hz]
  simp [Result.andThen, slicedAt, Addr.add]
theorem block_from (g o q : Nat) (h : Int) (hh : h = q) (hq : q < 16) (w : World) : (Instr.sliceAt 142 (.pointer (some ⟨g, o, none⟩)) (some (.int .i64 h)) none none).run Try.prog w = .ok (.slice (some ⟨g, o + q, none⟩) (16 - q) (16 - q)) w := by
  have ha : Try.prog.underlying 142 = some (.array (Try.prog.arrayLen 142) (Try.prog.elem 142)) := by kernel_rfl
  have hl : Try.prog.arrayLen 142 = 16 := by kernel_rfl
  have he : Try.prog.elem 142 = 5 := by kernel_rfl
  have hz : (sizeOf 5).run Try.prog w = .ok 1 w := by kernel_rfl
  subst hh
  rw [run_sliceAt_array_l w _ _ ha _ _ (by omega) (by rw [hl]; omega), hl, he, hz]
  by_cases h0 : q = 0
  · subst h0; simp [Result.andThen, slicedAt, Addr.add]
  · simp [Result.andThen, slicedAt, Addr.add, h0, show ¬ 16 = q by omega]

def wz0 : List Value := bvs (List.replicate 240 0)
theorem wz0_run (w : World) : (zeroValue 185).run Try.prog w = .ok (.agg wz0.toArray) w := by kernel_rfl
theorem wz0_eq [Inhabited Field.SqTab] (key : List UInt8) (n : Nat) : wz0 = bvs (kz key n 0) := by rw [kz_zero]; rfl
attribute [irreducible] wz0

set_option maxHeartbeats 2000000 in
set_option maxRecDepth 100000 in
theorem fillKeys_any [Inhabited Field.SqTab] (g n : Nat) (key : List UInt8) (A : Option Addr) (cA : Nat) (w : World) (hk : key.length = 4 * n) (hn : 1 ≤ n) (hn8 : n ≤ 8) (hr : Row w A (bvs key)) (hc : 4 * n ≤ cA) (hA : ∀ k, ab A = some k → k ≠ g)
    (hb : Blk w g 166 (cph (n + 6) (kz key n 0) BX BK)) :
    Calls Try.prog 109 #[.pointer (some ⟨g, 0, none⟩), .slice A (4 * n) cA] w fun e w' => e = .returned (.tuple #[]) ∧ Blk w' g 166 (cph (n + 6) (kz key n (4 * (n + 7))) BX BK) ∧ Kp (oneB g) w w' := by
  have HK := Lib.hid hk; have HR := Lib.hid hr; have HA := Lib.hid hA
  have HB := Lib.hid hb
  have HLT := Lib.hid hb.lt
  clear hk hr hA hb
  go_enter Try.func109, Try.ntmps109
  have hz := wz0_run
  have hw0 : Fk w g (n + 6) key n 0 (w.alloc (.cells wz0.toArray 185)) :=
    ⟨by rw [← wz0_eq]; exact Blk.new w _ _, HB.out.alloc _, (Kp.refl _ _).alloc _⟩
  have HW0 := Lib.hid hw0; clear hw0
  have c0 : (w.alloc (.cells wz0.toArray 185)).cell? ⟨g, 0, none⟩ = some (.int .i64 ((n : Int) + 6)) := by rw [HW0.out.c.cell, cph_zero]; rfl
  obtain ⟨M, hM⟩ : ∃ M, M = n + 7 := ⟨_, rfl⟩
  obtain ⟨T, hT⟩ : ∃ T, T = 4 * M := ⟨_, rfl⟩
  have e1 : ((4 * n : Nat) : Int).tdiv 4 = (n : Int) := by rw [Int.tdiv_eq_ediv_of_nonneg (by omega)]; omega
  have e2 : IntKind.i64.wrap ((n : Int) + 6 + 1) = (M : Int) := wrap_to _ _ (by omega) (by omega)
  have e3 : IntKind.i64.wrap (4 * (M : Int)) = (T : Int) := wrap_to _ _ (by omega) (by omega)
  have HTT := Lib.hid (show T = 4 * (n + 7) by omega)
  have hT60 : T ≤ 60 := by omega
  clear hM hT
  go_wp2
  go_loopw [16] (fun vi wr => ∃ i : Nat, i ≤ T ∧ vi = .int .i64 i ∧ Fk w g (n + 6) key n i wr)
    (fun vi _ => T - (intOf vi).toNat)
  case atStart => exact ⟨0, by omega, rfl, HW0.out⟩
  case round =>
    obtain ⟨i, hi, rfl, hf⟩ := hrel
    have HF := Lib.hid hf; clear hf HW0
    by_cases hlt : i < T
    · have hi60 : i < 60 := by omega
      obtain ⟨P, hP⟩ : ∃ P, P = nextB key n (words key n i) i := ⟨_, rfl⟩
      have HSU := Lib.hid (show words key n (i + 1) = words key n i ++ t4 P by rw [words_succ, next_t4, hP])
      have HP := Lib.hid hP; clear hP
      have HKZ := Lib.hid (show splice (bvs (kz key n i)) (i * 4) (bvs (t4 P)) = bvs (kz key n (i + 1)) by rw [bvs_splice, Nat.mul_comm, kz_next key n i (t4 P) hi60 HSU.out rfl])
      have HLZ := Lib.hid (show (bvs (kz key n i)).length = 240 by rw [bvs_length, kz_length _ _ _ (by omega)])
      have HLP := Lib.hid (show (bvs (t4 P)).length = 4 from rfl)
      have f3 : (0 : Int) ≤ (i : Int) ∧ (i : Int) < 60 := by omega
      by_cases hin : i < n
      case' pos =>
        obtain ⟨C, hC⟩ : ∃ C, C = 4 * i := ⟨_, rfl⟩
        have f1 : IntKind.i64.wrap (4 * (i : Int)) = (C : Int) := wrap_to _ _ (by omega) (by omega)
        have f2 := word_all w.heap.size (i * 4)
        have hcut : ∀ wx, (Instr.slice 29 (.slice A (4 * n) cA) (some (.int .i64 C)) none none).run Try.prog wx = .ok (.slice (cutA A cA C) (4 * n - C) (cA - C)) wx := run_slice_from _ 5 u8sl_under (fun _ => by kernel_rfl) A (4 * n) cA C (by omega)
        have HROW := Lib.hid (show ∀ wx, Kp (oneB g) w wx → Row wx (cutA A cA C) (bvs (t4 P)) from fun wx kx => by
          rw [HP.out, nextB_low key n i hin, hC]
          exact row_four_of (HR.out.keep kx (fun k e e' => HA.out k e e')) i (by rw [HK.out]; omega) (by rw [HK.out]; exact hc))
        have HMIN := Lib.hid (show (bvs (t4 P)).length = Nat.min (4 * n - C) 4 by rw [HLP.out]; show 4 = min _ 4; omega)
        clear hC
        go_wp2
        refine wp_region_still_tail 7 (by kernel_rfl) (by kernel_rfl) ?_
        change wpStill _ _ wr.drew (fun a' => wpList _ _ _ _ a' wr.drew) _ _
        have HF2 := Lib.hid (HF.out.keep (Kp.refl nob wr).drew)
        clear HF
        generalize wr.drew = wd at *
        simp only [List.take_succ_cons, List.take_zero, List.drop_succ_cons, List.drop_zero]
        repeat still_step
        refine wpStill_nil ?_
        clear f1 f2 hcut
        go_wp2_with (refine wpList_copy_blk rfl (.tmp 24) (.tmp 28) 29 29 rfl 5 u8sl_under (by kernel_rfl) w.heap.size (i * 4) _ _ _ _ _ _ rfl rfl (bvs (kz key n i)) 185 HF2.out.ws (bvs (t4 P)) HMIN.out (fun _ => rfl) (HROW.out _ HF2.out.kp) (by rw [HLZ.out, HLP.out]; omega) (bvs_one _) ?_; intro w2 hB2 k2 z2)
        rw [HKZ.out] at hB2
        have HH := Lib.hid (show Fh w g (n + 6) key n i w2 from ⟨hB2, HF2.out.c.keep k2 (fun e => by have := HLT.out; unfold oneB at e; omega), HF2.out.kp.trans k2 (fun j e => .inr (by unfold oneB at e; omega))⟩)
        clear hB2 k2 z2 HF2 HROW HMIN
        go_wp2
      case' neg =>
        obtain ⟨D, hD⟩ : ∃ D, D = i - n := ⟨_, rfl⟩
        obtain ⟨E, hE⟩ : ∃ E, E = i - 1 := ⟨_, rfl⟩
        have f1 : IntKind.i64.wrap ((i : Int) - (n : Int)) = (D : Int) := wrap_to _ _ (by omega) (by omega)
        have f2 : IntKind.i64.wrap ((i : Int) - 1) = (E : Int) := wrap_to _ _ (by omega) (by omega)
        have f4 : (0 : Int) ≤ (D : Int) ∧ (D : Int) < 60 := by omega
        have f5 : (0 : Int) ≤ (E : Int) ∧ (E : Int) < 60 := by omega
        obtain ⟨X1, hX1⟩ : ∃ X : Nat → UInt8, X = fun k => gb (words key n i) (4 * D + k) := ⟨_, rfl⟩
        obtain ⟨X2, hX2⟩ : ∃ X : Nat → UInt8, X = fun k => gb (words key n i) (4 * E + k) := ⟨_, rfl⟩
        have HPP := Lib.hid (show t4 (fun k => X1 k ^^^ turned n i X2 k) = t4 P by rw [HP.out, nextB_high key n i (by omega), hX1, hX2, hD, hE])
        have HDE := Lib.hid (show D < i ∧ E < i by omega)
        have hni : n ≤ i := by omega
        clear hD hE
        go_wp2
        have HF2 := Lib.hid (HF.out.keep (Kp.refl nob wr).drew)
        obtain ⟨H, hH⟩ : ∃ H, H = w.heap.size := ⟨_, rfl⟩
        have HHS := Lib.hid hH
        have HS0 : Hid (wr.drew.rangeAt H (D * 4) (bvs (t4 X1)) ∧ wr.drew.rangeAt H (E * 4) (bvs (t4 X2))) :=
          Lib.hid ⟨by rw [hH, hX1]; exact kz_part HF2.out.ws D HDE.out.1 (by omega), by rw [hH, hX2]; exact kz_part HF2.out.ws E HDE.out.2 (by omega)⟩
        rw [← hH]
        have HX1 := Lib.hid hX1; have HX2 := Lib.hid hX2
        clear HF hX1 hX2 hH
        refine reg_begin (fun w' => w'.rangeAt H (D * 4) (bvs (t4 X1)) ∧ w'.rangeAt H (E * 4) (bvs (t4 X2))) (by kernel_rfl) HS0.out (fun _ => ?_)
        generalize wr.drew = wd at *
        refine reg_take (v := .int .i64 i) 0 (some 30) rfl rfl (by kernel_rfl) (by kernel_rfl) (by kernel_rfl) (by rfl) HS0.out (fun w hw => by go_simp) ?_
        simp only [Act.put, List.setIfInBounds_toArray, List.set_cons_zero, List.set_cons_succ]
        refine reg_take (v := .pointer (some ⟨g, 0, none⟩)) 1 (some 31) rfl rfl (by kernel_rfl) (by kernel_rfl) (by kernel_rfl) (by rfl) HS0.out (fun w hw => by go_simp) ?_
        simp only [Act.put, List.setIfInBounds_toArray, List.set_cons_zero, List.set_cons_succ]
        refine reg_take (v := .int .i64 i) 2 (some 32) rfl rfl (by kernel_rfl) (by kernel_rfl) (by kernel_rfl) (by rfl) HS0.out (fun w hw => by go_simp) ?_
        simp only [Act.put, List.setIfInBounds_toArray, List.set_cons_zero, List.set_cons_succ]
        refine reg_take (v := .int .i64 n) 3 (some 33) rfl rfl (by kernel_rfl) (by kernel_rfl) (by kernel_rfl) (by rfl) HS0.out (fun w hw => by go_simp) ?_
        simp only [Act.put, List.setIfInBounds_toArray, List.set_cons_zero, List.set_cons_succ]
        refine reg_take (v := .int .i64 i) 4 (some 34) rfl rfl (by kernel_rfl) (by kernel_rfl) (by kernel_rfl) (by rfl) HS0.out (fun w hw => by go_simp) ?_
        simp only [Act.put, List.setIfInBounds_toArray, List.set_cons_zero, List.set_cons_succ]
        refine reg_take (v := .int .i64 n) 5 (some 35) rfl rfl (by kernel_rfl) (by kernel_rfl) (by kernel_rfl) (by rfl) HS0.out (fun w hw => by go_simp) ?_
        simp only [Act.put, List.setIfInBounds_toArray, List.set_cons_zero, List.set_cons_succ]
        refine reg_take (v := .int .i64 D) 6 (some 36) rfl rfl (by kernel_rfl) (by kernel_rfl) (by kernel_rfl) (by rfl) HS0.out (fun w hw => by go_simp) ?_
        simp only [Act.put, List.setIfInBounds_toArray, List.set_cons_zero, List.set_cons_succ]
        refine reg_take (v := .pointer (some ⟨H, D * 4, none⟩)) 7 (some 37) rfl rfl (by kernel_rfl) (by kernel_rfl) (by kernel_rfl) (by rfl) HS0.out (fun w hw => by go_simp) ?_
        simp only [Act.put, List.setIfInBounds_toArray, List.set_cons_zero, List.set_cons_succ]
        refine reg_load 8 (some 38) 184 (.tmp 37) rfl rfl rfl (by kernel_rfl) (by kernel_rfl) (by kernel_rfl) (by rfl) HS0.out H (D * 4) rfl (bvs (t4 X1)) _ (fun _ x => x.1) arrW rfl (by kernel_rfl) ?_
        simp only [Act.put, List.setIfInBounds_toArray, List.set_cons_zero, List.set_cons_succ]
        refine reg_take (v := .int .i64 i) 9 (some 39) rfl rfl (by kernel_rfl) (by kernel_rfl) (by kernel_rfl) (by rfl) HS0.out (fun w hw => by go_simp) ?_
        simp only [Act.put, List.setIfInBounds_toArray, List.set_cons_zero, List.set_cons_succ]
        refine reg_take (v := .int .i64 E) 10 (some 40) rfl rfl (by kernel_rfl) (by kernel_rfl) (by kernel_rfl) (by rfl) HS0.out (fun w hw => by go_simp) ?_
        simp only [Act.put, List.setIfInBounds_toArray, List.set_cons_zero, List.set_cons_succ]
        refine reg_take (v := .pointer (some ⟨H, E * 4, none⟩)) 11 (some 41) rfl rfl (by kernel_rfl) (by kernel_rfl) (by kernel_rfl) (by rfl) HS0.out (fun w hw => by go_simp) ?_
        simp only [Act.put, List.setIfInBounds_toArray, List.set_cons_zero, List.set_cons_succ]
        refine reg_load 12 (some 42) 184 (.tmp 41) rfl rfl rfl (by kernel_rfl) (by kernel_rfl) (by kernel_rfl) (by rfl) HS0.out H (E * 4) rfl (bvs (t4 X2)) _ (fun _ x => x.2) arrW rfl (by kernel_rfl) ?_
        simp only [Act.put, List.setIfInBounds_toArray, List.set_cons_zero, List.set_cons_succ]
        have HTB := Lib.hid (show Tab wd g 241 Field.gbox from ⟨HF2.out.c.lt, fun x => by rw [HF2.out.c.cell]; exact cph_bx (kz_length _ _ _ (by omega)) BX_length _ _ (BX_get x)⟩)
        refine reg_call 13 (some 43) rfl rfl (by kernel_rfl) (by rfl) _ _ (by go_simp; exact ⟨rfl, rfl⟩) ?_
        refine (further_any X1 X2 i n g wd HTB.out hn hni (by omega)).mono ?_
        rintro e w3 ⟨rfl, k3⟩
        rw [HPP.out]
        have HF3 := Lib.hid (HF2.out.keep k3)
        have HS3 := Lib.hid (show w3.rangeAt H (D * 4) (bvs (t4 X1)) ∧ w3.rangeAt H (E * 4) (bvs (t4 X2)) from ⟨range_keep HS0.out.1 k3 (fun e => e), range_keep HS0.out.2 k3 (fun e => e)⟩)
        clear k3 HF2 HTB HPP HS0
        refine ⟨_, rfl, HS3.out, fun _ => ?_⟩
        simp only [Act.put, List.setIfInBounds_toArray, List.set_cons_zero, List.set_cons_succ]
        refine reg_take (v := .pointer (some ⟨H, i * 4, none⟩)) 14 (some 44) rfl rfl (by kernel_rfl) (by kernel_rfl) (by kernel_rfl) (by rfl) HS3.out (fun w hw => by go_simp) ?_
        simp only [Act.put, List.setIfInBounds_toArray, List.set_cons_zero, List.set_cons_succ]
        have HB3 := Lib.hid (show Blk w3 H 185 (bvs (kz key n i)) by rw [HHS.out]; exact HF3.out.ws)
        refine reg_storeIn 15 none 184 (.tmp 44) (.tmp 43) rfl rfl rfl (by kernel_rfl) (by rfl) H (i * 4) 185 (bvs (kz key n i)) (bvs (t4 P)) HB3.out rfl rfl (by rw [HLZ.out, HLP.out]; omega) (by rw [HLP.out]; kernel_rfl) (bvs_one _) ?_
        intro w2 hB2 k2 z2
        rw [HKZ.out] at hB2
        refine ⟨⟨by rw [HX1.out]; exact kz_part' hB2 D HDE.out.1 hi60, by rw [HX2.out]; exact kz_part' hB2 E HDE.out.2 hi60⟩, fun _ => ?_⟩
        rw [HHS.out] at hB2 k2
        have HH := Lib.hid (show Fh w g (n + 6) key n i w2 from ⟨hB2, HF3.out.c.keep k2 (fun e => by have := HLT.out; unfold oneB at e; omega), HF3.out.kp.trans k2 (fun j e => .inr (by unfold oneB at e; omega))⟩)
        clear hB2 k2 z2 HF3 HS3 HB3 f1 f2 f4 f5 HDE HX1 HX2
        rw [HHS.out]
        clear HHS
        simp only [Act.put, List.setIfInBounds_toArray, List.set_cons_zero, List.set_cons_succ]
        refine reg_end (by kernel_rfl) ?_
        go_wp2
      all_goals
        obtain ⟨q, hq⟩ : ∃ q, q = i / 4 := ⟨_, rfl⟩
        obtain ⟨r, hr⟩ : ∃ r, r = i % 4 := ⟨_, rfl⟩
        obtain ⟨R, hR⟩ : ∃ R, R = 4 * r := ⟨_, rfl⟩
        have a1 : (i : Int).tdiv 4 = (q : Int) := by rw [Int.tdiv_eq_ediv_of_nonneg (by omega)]; omega
        have a2 : (i : Int).tmod 4 = (r : Int) := tmod_four _ _ hr
        have a3 : IntKind.i64.wrap (4 * (r : Int)) = (R : Int) := wrap_to _ _ (by omega) (by omega)
        have a4 : IntKind.i64.wrap (q : Int) = (q : Int) := wrap_to _ _ rfl (by omega)
        have a5 : IntKind.i64.wrap (r : Int) = (r : Int) := wrap_to _ _ rfl (by omega)
        have a6 : (0 : Int) ≤ (q : Int) ∧ (q : Int) < 15 := by omega
        have a7 := word_all w.heap.size (i * 4)
        have a8 := block_from g (1 + q * 16) R R rfl (by omega)
        have HAD := Lib.hid (show 1 + q * 16 + R = 1 + 4 * i by omega)
        have HMIN := Lib.hid (show (bvs (t4 P)).length = Nat.min 4 (16 - R) by rw [HLP.out]; show 4 = min 4 _; omega)
        have HCN := Lib.hid (cph_next (n + 6) key n i (t4 P) BX BK hi60 HSU.out rfl)
        have HCL := Lib.hid (show (cph (n + 6) (kz key n i) BX BK).length = 753 from cph_length (kz_length _ _ _ (by omega)) BX_length BK_length)
        have HWR := Lib.hid (show ∀ wx, Blk wx w.heap.size 185 (bvs (kz key n (i + 1))) → Row wx (some ⟨w.heap.size, i * 4, none⟩) (bvs (t4 P)) from fun wx hx => .inr ⟨w.heap.size, i * 4, rfl, hx.lt, fun j v hv => by
          have h1 := hx.cell (i * 4 + j)
          rw [h1]
          have hj : j < 4 := (List.getElem?_eq_some_iff.1 hv).1
          rw [← HKZ.out, splice, List.getElem?_append_right (by rw [List.length_take, HLZ.out]; omega), List.length_take, HLZ.out, Nat.min_eq_left (by omega), show i * 4 + j - i * 4 = j by omega, List.getElem?_append_left (by rw [HLP.out]; exact hj)]
          exact hv⟩)
        clear hq hr hR
        refine wp_region_still_tail 13 (by kernel_rfl) (by kernel_rfl) ?_
        change wpStill _ _ w2.drew (fun a' => wpList _ _ _ _ a' w2.drew) _ _
        have HH2 := Lib.hid (HH.out.keep (Kp.refl nob w2).drew)
        clear HH
        generalize w2.drew = wd at *
        simp only [List.take_succ_cons, List.take_zero, List.drop_succ_cons, List.drop_zero]
        repeat still_step
        refine wpStill_nil ?_
        clear a1 a2 a3 a4 a5 a6 a7 a8
        go_wp2_with (refine wpList_copy_blk rfl (.tmp 54) (.tmp 57) 29 29 rfl 5 u8sl_under (by kernel_rfl) g (1 + 4 * i) _ _ _ _ _ _ rfl rfl (cph (n + 6) (kz key n i) BX BK) 166 HH2.out.c (bvs (t4 P)) HMIN.out (fun _ => by rw [HAD.out]) (HWR.out _ HH2.out.ws) (by rw [HCL.out, HLP.out]; omega) (bvs_one _) ?_; intro w6 hB6 k6 z6)
        rw [HCN.out] at hB6
        have HF6 := Lib.hid (show Fk w g (n + 6) key n (i + 1) w6 from ⟨HH2.out.ws.keep k6 (fun e => by have := HLT.out; unfold oneB at e; omega), hB6, HH2.out.kp.trans k6 (fun j e => .inl e)⟩)
        clear hB6 k6 z6 HH2
        go_wp2
        exact ⟨⟨i + 1, by omega, by go_num, HF6.out⟩, by simp [intOf]; omega⟩
    · have hf := HF.out
      obtain rfl : i = T := by omega
      rw [HTT.out] at hf
      have HFF := Lib.hid hf; clear hf HF
      go_wp2
      refine bodyPost_end (results_none rfl _ _ _) rfl ?_
      exact ⟨rfl, HFF.out.c, HFF.out.kp⟩
end Go.Proofs.Ytmmpmncioifeoaa.Aes
