/- Lemmas: AesQg AesDg AesEg AesFg AesGg AesHg. -/
import Derived.Test.YtiimfhacnfdmhaaGreatZG07
import Derived.Test.YtiimfhacnfdmhaaGreatZG15
set_option linter.unusedVariables false
set_option linter.unusedSimpArgs false
namespace Go.Proofs.YtiimfhacnfdmhaaGreat.Aes
open Go Go.RowKit Kit
open Field (cb gbox)
def tt (f : Nat → UInt8) : List UInt8 := (List.range 256).map f
theorem tt_length (f : Nat → UInt8) : (tt f).length = 256 := by simp [tt]
theorem tt_get (f : Nat → UInt8) (k : Nat) (h : k < 256) : (tt f)[k]? = some (f k) := by
  rw [tt, List.getElem?_map, List.getElem?_range h]; rfl
theorem tt_ext {f g : Nat → UInt8} (h : ∀ i, i < 256 → f i = g i) : tt f = tt g := List.map_congr_left fun i hi => h i (List.mem_range.1 hi)
theorem tt_set (f : Nat → UInt8) (k : Nat) (x : UInt8) : (tt f).set k x = tt fun i => if i = k then x else f i := by
  apply List.ext_getElem (by simp [tt_length])
  intro i h1 h2
  rw [List.getElem_set]
  simp only [tt, List.getElem_map, List.getElem_range]
  by_cases h : i = k
  · rw [if_pos h.symm, if_pos h]
  · rw [if_neg (fun e => h e.symm), if_neg h]
theorem tt_zero : (tt fun _ => 0) = List.replicate 256 0 := by decide +kernel
def BX [Inhabited Field.SqTab] : List UInt8 := tt fun i => gbox (UInt8.ofNat i)
def bxs [Inhabited Field.SqTab] (i : Nat) : List UInt8 := tt fun j => if j < i then gbox (UInt8.ofNat j) else 0
def bks [Inhabited Field.SqTab] : Nat → List UInt8
  | 0 => List.replicate 256 0
  | i + 1 => (bks i).set (gbox (UInt8.ofNat i)).toNat (UInt8.ofNat i)
def BK [Inhabited Field.SqTab] : List UInt8 := bks 256
theorem bxs_zero [Inhabited Field.SqTab] : bxs 0 = List.replicate 256 0 := by rw [← tt_zero]; exact tt_ext fun i _ => if_neg (by omega)
theorem bks_zero [Inhabited Field.SqTab] : bks 0 = List.replicate 256 0 := rfl
theorem bxs_all [Inhabited Field.SqTab] : bxs 256 = BX := tt_ext fun i h => if_pos h
theorem bks_all [Inhabited Field.SqTab] : bks 256 = BK := rfl
theorem bxs_set [Inhabited Field.SqTab] (i : Nat) : (bxs i).set i (gbox (UInt8.ofNat i)) = bxs (i + 1) := by
  rw [bxs, tt_set]
  refine tt_ext fun j _ => ?_
  by_cases h : j = i
  · subst h; rw [if_pos rfl, if_pos (Nat.lt_succ_self _)]
  · rw [if_neg h]
    by_cases h2 : j < i
    · rw [if_pos h2, if_pos (by omega)]
    · rw [if_neg h2, if_neg (by omega)]
theorem bks_set [Inhabited Field.SqTab] (i : Nat) (hi : i < 256) : (bks i).set (gbox (UInt8.ofNat i)).toNat (UInt8.ofNat i) = bks (i + 1) := rfl
theorem BX_get [Inhabited Field.SqTab] (x : UInt8) : BX[x.toNat]? = some (gbox x) := by rw [BX, tt_get _ _ x.toNat_lt, UInt8.ofNat_toNat]
theorem bks_length [Inhabited Field.SqTab] (i : Nat) : (bks i).length = 256 := by
  induction i with
  | zero => exact List.length_replicate
  | succ i ih => rw [← ih]; exact List.length_set
theorem bxs_length [Inhabited Field.SqTab] (i : Nat) : (bxs i).length = 256 := tt_length _
theorem BX_length [Inhabited Field.SqTab] : BX.length = 256 := tt_length _
theorem BK_length [Inhabited Field.SqTab] : BK.length = 256 := bks_length _
attribute [irreducible] BX BK bxs bks
set_option maxRecDepth 100000
def cph (N : Nat) (K bx bk : List UInt8) : List Value := .int .i64 (N : Int) :: bvs (K ++ (bx ++ bk))
theorem cph_length {N : Nat} {K bx bk : List UInt8} (hK : K.length = 240) (hx : bx.length = 256) (hk : bk.length = 256) : (cph N K bx bk).length = 753 := by
  rw [cph, List.length_cons, bvs_length, List.length_append, List.length_append, hK, hx, hk]
theorem cph_zero (N : Nat) (K bx bk : List UInt8) : (cph N K bx bk)[0]? = some (.int .i64 (N : Int)) := rfl
theorem bvs_at {l : List UInt8} {i : Nat} {x : UInt8} (h : l[i]? = some x) : (bvs l)[i]? = some (.int .u8 (cb x)) := by
  rw [bvs, List.getElem?_map, h]; rfl
theorem cph_key {N : Nat} {K bx bk : List UInt8} (hK : K.length = 240) (i : Nat) (h : i < 240) : (cph N K bx bk)[1 + i]? = some (.int .u8 (cb (gb K i))) := by
  rw [cph, Nat.add_comm, List.getElem?_cons_succ]
  exact bvs_at (by rw [List.getElem?_append_left (by omega), List.getElem?_eq_getElem (by omega), gb, List.getD, List.getElem?_eq_getElem (by omega)]; rfl)
theorem cph_bx {N : Nat} {K bx bk : List UInt8} (hK : K.length = 240) (hx : bx.length = 256) (i : Nat) (x : UInt8) (h : bx[i]? = some x) : (cph N K bx bk)[241 + i]? = some (.int .u8 (cb x)) := by
  have hi : i < 256 := by rw [← hx]; exact (List.getElem?_eq_some_iff.1 h).1
  rw [cph, show 241 + i = (240 + i) + 1 by omega, List.getElem?_cons_succ]
  exact bvs_at (by rw [List.getElem?_append_right (by omega), hK, List.getElem?_append_left (by omega), ← h]; congr 1; omega)
theorem cph_setx {N : Nat} {K bx bk : List UInt8} (hK : K.length = 240) (i : Nat) (x : UInt8) (hi : i < bx.length) : (cph N K bx bk).set (241 + i) (.int .u8 (cb x)) = cph N K (bx.set i x) bk := by
  rw [cph, show 241 + i = (240 + i) + 1 by omega, List.set_cons_succ, bvs_setb, List.set_append_right _ _ (by omega), hK, show 240 + i - 240 = i by omega, List.set_append_left _ _ hi]
  rfl
theorem cph_setk {N : Nat} {K bx bk : List UInt8} (hK : K.length = 240) (hx : bx.length = 256) (i : Nat) (x : UInt8) : (cph N K bx bk).set (497 + i) (.int .u8 (cb x)) = cph N K bx (bk.set i x) := by
  rw [cph, show 497 + i = (496 + i) + 1 by omega, List.set_cons_succ, bvs_setb, List.set_append_right _ _ (by omega), hK, List.set_append_right _ _ (by omega), hx, show 496 + i - 240 - 256 = i by omega]
  rfl
attribute [irreducible] cph
end Go.Proofs.YtiimfhacnfdmhaaGreat.Aes
namespace Go.Proofs.YtiimfhacnfdmhaaGreat.Aes
open Go Go.RowKit Kit
open Field (cb Sq)
theorem sq_lt [Inhabited Field.SqTab] {w : World} (h : Sq w) : 2 < w.heap.size := by
  have h1 := h 0 _ (bvs_get (l := Field.gSQ) (i := 0) (by rw [Field.gSQ_length]; omega))
  rcases Nat.lt_or_ge 2 w.heap.size with hlt | hge
  · exact hlt
  · unfold World.cell? at h1
    rw [show w.heap[(⟨2, 0 + 0, none⟩ : Addr).block]? = none from Array.getElem?_eq_none hge] at h1
    cases h1
theorem sq_keep [Inhabited Field.SqTab] {w w2 : World} {F : Nat → Prop} (h : Sq w) (k : Kp F w w2) (hF : ¬ F 2) : Sq w2 := range_keep h k hF
set_option maxHeartbeats 1000000 in
set_option maxRecDepth 100000 in
theorem fillBoxes_any [Inhabited Field.SqTab] (g N : Nat) (K : List UInt8) (w : World) (hK : K.length = 240) (ht : Sq w) (hg : 2 < g) (hb : Blk w g 240 (cph N K (bxs 0) (bks 0))) :
    Calls Tryz.prog 165 #[.pointer (some ⟨g, 0, none⟩)] w fun e w' => e = .returned (.tuple #[]) ∧ Blk w' g 240 (cph N K BX BK) ∧ Kp (oneB g) w w' := by
  have HK := Lib.hid hK; have HT := Lib.hid ht; have HB := Lib.hid hb; clear hK ht hb
  go_enter Tryz.func165, Tryz.ntmps165
  go_wp2
  go_loopw [4] (fun vi wr => ∃ i : Nat, i ≤ 256 ∧ vi = .int .i64 i ∧ Blk wr g 240 (cph N K (bxs i) (bks i)) ∧ Kp (oneB g) w wr)
    (fun vi _ => 256 - (intOf vi).toNat)
  case atStart => exact ⟨0, by omega, rfl, HB.out, Kp.refl _ _⟩
  case round =>
    obtain ⟨i, hi, rfl, h1, hkp⟩ := hrel
    have H1 := Lib.hid h1; have HKP := Lib.hid hkp; clear h1 hkp HB
    by_cases hlt : i < 256
    · obtain ⟨x, hx⟩ : ∃ x, x = UInt8.ofNat i := ⟨_, rfl⟩
      have e1 : IntKind.u8.wrap (i : Int) = cb x := by
        have : x.toNat = i := by rw [hx, UInt8.toNat_ofNat']; omega
        unfold cb; rw [this, IntKind.wrap_u8]; omega
      have HX := Lib.hid hx; clear hx
      have HT1 := Lib.hid (sq_keep HT.out HKP.out (fun e => by unfold oneB at e; omega))
      go_wp2_with fail
      refine (Field.box_any x _ HT1.out).mono ?_
      rintro e w1 ⟨rfl, k1⟩
      obtain ⟨y, hy⟩ : ∃ y, y = Field.gbox x := ⟨_, rfl⟩
      rw [← hy]
      have H2 := Lib.hid (H1.out.keep k1 (fun e => e))
      have HK2 := Lib.hid (HKP.out.trans k1 (fun _ e => e.elim))
      clear H1 HKP k1 HT1
      have hX := HX.out
      have hKl := HK.out
      have e2 : (cph N K (bxs i) (bks i)).set (241 + i) (.int .u8 (cb y)) = cph N K (bxs (i + 1)) (bks i) := by
        rw [cph_setx hKl i y (by rw [bxs_length]; exact hlt), hy, hX, bxs_set]
      have e3 : (cph N K (bxs (i + 1)) (bks i)).set (497 + (cb y).toNat) (.int .u8 (cb x)) = cph N K (bxs (i + 1)) (bks (i + 1)) := by
        rw [show (cb y).toNat = y.toNat from rfl, cph_setk hKl (bxs_length _), hy, hX, bks_set i hlt]
      obtain ⟨v1, hv1⟩ : ∃ v, (cph N K (bxs i) (bks i))[241 + i]? = some v := ⟨_, List.getElem?_eq_getElem (by rw [cph_length hKl (bxs_length _) (bks_length _)]; omega)⟩
      obtain ⟨v2, hv2⟩ : ∃ v, (cph N K (bxs (i + 1)) (bks i))[497 + (cb y).toNat]? = some v := ⟨_, List.getElem?_eq_getElem (by rw [cph_length hKl (bxs_length _) (bks_length _)]; have := cb_in y; omega)⟩
      have h3 := H2.out.set_ (241 + i) (.int .u8 (cb y))
      rw [e2] at h3
      have h4 := h3.set_ (497 + (cb y).toNat) (.int .u8 (cb x))
      rw [e3] at h4
      have c1 : w1.cell? ⟨g, 241 + i, none⟩ = some v1 := by rw [H2.out.cell, hv1]
      have c2 : (w1.setCell ⟨g, 241 + i, none⟩ (.int .u8 (cb y))).cell? ⟨g, 497 + (cb y).toNat, none⟩ = some v2 := by rw [h3.cell, hv2]
      have f1 : w1.frozen? ⟨g, 241 + i, none⟩ = false := H2.out.frozen _
      have f2 : (w1.setCell ⟨g, 241 + i, none⟩ (.int .u8 (cb y))).frozen? ⟨g, 497 + (cb y).toNat, none⟩ = false := h3.frozen _
      have b1 : 0 ≤ cb y ∧ cb y < 256 := cb_in _
      have H4 := Lib.hid h4
      clear h3 h4 hv1 hv2 e2 e3 hX hy
      go_wp2
      go_roundw
      case rel => exact ⟨i + 1, by omega, by go_num, H4.out, (HK2.out.setCell (p := ⟨g, 241 + i, none⟩) (.inl rfl) _).setCell (p := ⟨g, 497 + (cb y).toNat, none⟩) (.inl rfl) _⟩
      case measure => simp [intOf]; omega
    · obtain rfl : i = 256 := by omega
      have h1 := H1.out
      rw [bxs_all, bks_all] at h1
      have HF := Lib.hid h1; clear h1 H1
      go_wp2
      refine bodyPost_end (results_none rfl _ _ _) rfl ?_
      exact ⟨rfl, HF.out, HKP.out⟩
end Go.Proofs.YtiimfhacnfdmhaaGreat.Aes
namespace Go.Proofs.YtiimfhacnfdmhaaGreat.Aes
open Go Go.RowKit Kit
open Field (cb gbox)
def kz [Inhabited Field.SqTab] (key : List UInt8) (n i : Nat) : List UInt8 := words key n i ++ List.replicate (240 - 4 * i) 0
theorem kz_length [Inhabited Field.SqTab] (key : List UInt8) (n i : Nat) (h : i ≤ 60) : (kz key n i).length = 240 := by
  rw [kz, List.length_append, words_length, List.length_replicate]; omega
theorem kz_zero [Inhabited Field.SqTab] (key : List UInt8) (n : Nat) : kz key n 0 = List.replicate 240 0 := by rw [kz, words_zero]; rfl
theorem kz_at [Inhabited Field.SqTab] (key : List UInt8) (n i j : Nat) (h : j < 4 * i) : gb (kz key n i) j = gb (words key n i) j := by
  rw [kz, gb, List.getD, List.getElem?_append_left (by rw [words_length]; exact h)]; rfl
theorem kz_next [Inhabited Field.SqTab] (key : List UInt8) (n i : Nat) (L : List UInt8) (h : i < 60) (hL : words key n (i + 1) = words key n i ++ L) (h4 : L.length = 4) : splice (kz key n i) (4 * i) L = kz key n (i + 1) := by
  have hw : (words key n i).length = 4 * i := words_length _ _ _
  rw [splice, kz, kz, hL, h4, List.append_assoc]
  congr 1
  · rw [List.take_append_of_le_length (by omega), List.take_of_length_le (by omega)]
  · congr 1
    rw [List.drop_append, List.drop_eq_nil_of_le (by omega), List.nil_append, hw, List.drop_replicate]
    congr 1; omega
theorem bvs_splice (l : List UInt8) (off : Nat) (L : List UInt8) : splice (bvs l) off (bvs L) = bvs (splice l off L) := by
  simp only [splice, bvs, List.map_append, List.map_take, List.map_drop, List.length_map]
theorem cph_next [Inhabited Field.SqTab] (N : Nat) (key : List UInt8) (n i : Nat) (L bx bk : List UInt8) (h : i < 60) (hL : words key n (i + 1) = words key n i ++ L) (h4 : L.length = 4) : splice (cph N (kz key n i) bx bk) (1 + 4 * i) (bvs L) = cph N (kz key n (i + 1)) bx bk := by
  rw [← kz_next key n i L h hL h4, cph, cph]
  have hk := kz_length key n i (by omega)
  show splice (_ :: bvs (kz key n i ++ (bx ++ bk))) (1 + 4 * i) (bvs L) = _ :: bvs (splice (kz key n i) (4 * i) L ++ (bx ++ bk))
  rw [splice, Nat.add_comm 1, List.take_succ_cons, List.cons_append, show 4 * i + 1 + (bvs L).length = (4 * i + (bvs L).length) + 1 by omega, List.drop_succ_cons]
  congr 1
  have := bvs_splice (kz key n i ++ (bx ++ bk)) (4 * i) L
  rw [splice] at this
  rw [this]
  congr 1
  rw [splice, splice, h4, List.take_append_of_le_length (by omega), List.drop_append_of_le_length (by omega)]
  simp
theorem four_of (l : List UInt8) (j : Nat) (h : 4 * j + 4 ≤ l.length) : ((bvs l).drop (4 * j)).take 4 = bvs (t4 fun k => gb l (4 * j + k)) := by
  apply List.ext_getElem?
  intro k
  rw [List.getElem?_take]
  by_cases hk : k < 4
  · rw [if_pos hk, List.getElem?_drop, gb_get l _ (by omega), t4_get _ _ hk]
  · rw [if_neg hk, List.getElem?_eq_none (by rw [bvs_length, t4_length]; omega)]
theorem row_four_of {w : World} {A : Option Addr} {c : Nat} {l : List UInt8} (h : Row w A (bvs l)) (j : Nat) (hj : 4 * j + 4 ≤ l.length) (hc : l.length ≤ c) : Row w (cutA A c (4 * j)) (bvs (t4 fun k => gb l (4 * j + k))) := by
  rw [← four_of l j hj]
  exact (h.cut (by rw [bvs_length]; exact hc)).take 4
theorem kz_part [Inhabited Field.SqTab] {w : World} {H : Nat} {t : TypeId} {key : List UInt8} {n i : Nat} (h : Blk w H t (bvs (kz key n i))) (j : Nat) (hj : j < i) (hi : i ≤ 60) : w.rangeAt H (j * 4) (bvs (t4 fun k => gb (words key n i) (4 * j + k))) := by
  refine h.part _ _ fun k v hv => ?_
  have hk : k < 4 := (List.getElem?_eq_some_iff.1 hv).1
  rw [t4_get _ _ hk] at hv
  rw [gb_get _ _ (by rw [kz_length _ _ _ hi]; omega), kz_at _ _ _ _ (by omega), ← hv, Nat.mul_comm]
theorem kz_part' [Inhabited Field.SqTab] {w : World} {H : Nat} {t : TypeId} {key : List UInt8} {n i : Nat} (h : Blk w H t (bvs (kz key n (i + 1)))) (j : Nat) (hj : j < i) (hi : i < 60) : w.rangeAt H (j * 4) (bvs (t4 fun k => gb (words key n i) (4 * j + k))) := by
  have := kz_part h j (by omega) (by omega)
  rwa [t4_ext (g := fun k => gb (words key n i) (4 * j + k)) fun k hk => words_at key n i 1 (4 * j + k) (by omega)] at this
theorem nextB_low [Inhabited Field.SqTab] (key : List UInt8) (n i : Nat) (h : i < n) (W : List UInt8) : t4 (nextB key n W i) = t4 fun k => gb key (4 * i + k) := t4_ext fun k _ => by rw [nextB, if_pos h]
theorem nextB_high [Inhabited Field.SqTab] (key : List UInt8) (n i : Nat) (h : n ≤ i) (W : List UInt8) : t4 (nextB key n W i) = t4 fun k => (fun k => gb W (4 * (i - n) + k)) k ^^^ turned n i (fun k => gb W (4 * (i - 1) + k)) k := t4_ext fun k _ => by rw [nextB, if_neg (by omega)]
attribute [irreducible] kz
end Go.Proofs.YtiimfhacnfdmhaaGreat.Aes
namespace Go.Proofs.YtiimfhacnfdmhaaGreat.Aes
open Go Go.RowKit Kit
open Field (cb Sq)
structure Fk [Inhabited Field.SqTab] (w : World) (g N : Nat) (key : List UInt8) (n i : Nat) (w2 : World) : Prop where
  ws : Blk w2 w.heap.size 257 (bvs (kz key n i))
  c : Blk w2 g 240 (cph N (kz key n i) BX BK)
  kp : Kp (oneB g) w w2
theorem Fk.keep [Inhabited Field.SqTab] {w w2 w3 : World} {g N n i : Nat} {key : List UInt8} (h : Fk w g N key n i w2) (k : Kp nob w2 w3) : Fk w g N key n i w3 :=
  ⟨h.ws.keep k (fun e => e), h.c.keep k (fun e => e), h.kp.trans k (fun _ e => e.elim)⟩
structure Fh [Inhabited Field.SqTab] (w : World) (g N : Nat) (key : List UInt8) (n i : Nat) (w2 : World) : Prop where
  ws : Blk w2 w.heap.size 257 (bvs (kz key n (i + 1)))
  c : Blk w2 g 240 (cph N (kz key n i) BX BK)
  kp : Kp (oneB g) w w2
theorem Fh.keep [Inhabited Field.SqTab] {w w2 w3 : World} {g N n i : Nat} {key : List UInt8} (h : Fh w g N key n i w2) (k : Kp nob w2 w3) : Fh w g N key n i w3 :=
  ⟨h.ws.keep k (fun e => e), h.c.keep k (fun e => e), h.kp.trans k (fun _ e => e.elim)⟩
theorem u8sl_under : Tryz.prog.underlying 42 = some (.slice 5) := by kernel_rfl
theorem word_all (g o : Nat) (w : World) : (Instr.sliceAt 256 (.pointer (some ⟨g, o, none⟩)) none none none).run Tryz.prog w = .ok (.slice (some ⟨g, o, none⟩) 4 4) w := by
  have ha : Tryz.prog.underlying 256 = some (.array (Tryz.prog.arrayLen 256) (Tryz.prog.elem 256)) := by kernel_rfl
  have hl : Tryz.prog.arrayLen 256 = 4 := by kernel_rfl
  have he : Tryz.prog.elem 256 = 5 := by kernel_rfl
  have hz : (sizeOf 5).run Tryz.prog w = .ok 1 w := by kernel_rfl
  rw [run_sliceAt_array_all w _ _ ha, hl, he, hz]
  simp [Result.andThen, slicedAt, Addr.add]
theorem block_from (g o q : Nat) (h : Int) (hh : h = q) (hq : q < 16) (w : World) : (Instr.sliceAt 210 (.pointer (some ⟨g, o, none⟩)) (some (.int .i64 h)) none none).run Tryz.prog w = .ok (.slice (some ⟨g, o + q, none⟩) (16 - q) (16 - q)) w := by
  have ha : Tryz.prog.underlying 210 = some (.array (Tryz.prog.arrayLen 210) (Tryz.prog.elem 210)) := by kernel_rfl
  have hl : Tryz.prog.arrayLen 210 = 16 := by kernel_rfl
  have he : Tryz.prog.elem 210 = 5 := by kernel_rfl
  have hz : (sizeOf 5).run Tryz.prog w = .ok 1 w := by kernel_rfl
  subst hh
  rw [run_sliceAt_array_l w _ _ ha _ _ (by omega) (by rw [hl]; omega), hl, he, hz]
  by_cases h0 : q = 0
  · subst h0; simp [Result.andThen, slicedAt, Addr.add]
  · simp [Result.andThen, slicedAt, Addr.add, h0, show ¬ 16 = q by omega]
def wz0 : List Value := bvs (List.replicate 240 0)
theorem wz0_run (w : World) : (zeroValue 257).run Tryz.prog w = .ok (.agg wz0.toArray) w := by kernel_rfl
theorem wz0_eq [Inhabited Field.SqTab] (key : List UInt8) (n : Nat) : wz0 = bvs (kz key n 0) := by rw [kz_zero]; rfl
attribute [irreducible] wz0
set_option maxHeartbeats 2000000 in
set_option maxRecDepth 100000 in
theorem fillKeys_any [Inhabited Field.SqTab] (g n : Nat) (key : List UInt8) (A : Option Addr) (cA : Nat) (w : World) (hk : key.length = 4 * n) (hn : 1 ≤ n) (hn8 : n ≤ 8) (hr : Row w A (bvs key)) (hc : 4 * n ≤ cA) (hA : ∀ k, ab A = some k → k ≠ g)
    (hb : Blk w g 240 (cph (n + 6) (kz key n 0) BX BK)) :
    Calls Tryz.prog 166 #[.pointer (some ⟨g, 0, none⟩), .slice A (4 * n) cA] w fun e w' => e = .returned (.tuple #[]) ∧ Blk w' g 240 (cph (n + 6) (kz key n (4 * (n + 7))) BX BK) ∧ Kp (oneB g) w w' := by
  have HK := Lib.hid hk; have HR := Lib.hid hr; have HA := Lib.hid hA
  have HB := Lib.hid hb
  have HLT := Lib.hid hb.lt
  clear hk hr hA hb
  go_enter Tryz.func166, Tryz.ntmps166
  have hz := wz0_run
  have hw0 : Fk w g (n + 6) key n 0 (w.alloc (.cells wz0.toArray 257)) :=
    ⟨by rw [← wz0_eq]; exact Blk.new w _ _, HB.out.alloc _, (Kp.refl _ _).alloc _⟩
  have HW0 := Lib.hid hw0; clear hw0
  have c0 : (w.alloc (.cells wz0.toArray 257)).cell? ⟨g, 0, none⟩ = some (.int .i64 ((n : Int) + 6)) := by rw [HW0.out.c.cell, cph_zero]; rfl
  obtain ⟨M, hM⟩ : ∃ M, M = n + 7 := ⟨_, rfl⟩
  obtain ⟨T, hT⟩ : ∃ T, T = 4 * M := ⟨_, rfl⟩
  have e1 : ((4 * n : Nat) : Int).tdiv 4 = (n : Int) := by rw [Int.tdiv_eq_ediv_of_nonneg (by omega)]; omega
  have e2 : IntKind.i64.wrap ((n : Int) + 6 + 1) = (M : Int) := wrap_to _ _ (by omega) (by omega)
  have e3 : IntKind.i64.wrap (4 * (M : Int)) = (T : Int) := wrap_to _ _ (by omega) (by omega)
  have HTT := Lib.hid (show T = 4 * (n + 7) by omega)
  have hT60 : T ≤ 60 := by omega
  clear hM hT
  go_wp2
  go_loopw [16] (fun vi wr => ∃ i : Nat, i ≤ T ∧ vi = .int .i64 i ∧ Fk w g (n + 6) key n i wr)
    (fun vi _ => T - (intOf vi).toNat)
  case atStart => exact ⟨0, by omega, rfl, HW0.out⟩
  case round =>
    obtain ⟨i, hi, rfl, hf⟩ := hrel
    have HF := Lib.hid hf; clear hf HW0
    by_cases hlt : i < T
    · have hi60 : i < 60 := by omega
      obtain ⟨P, hP⟩ : ∃ P, P = nextB key n (words key n i) i := ⟨_, rfl⟩
      have HSU := Lib.hid (show words key n (i + 1) = words key n i ++ t4 P by rw [words_succ, next_t4, hP])
      have HP := Lib.hid hP; clear hP
      have HKZ := Lib.hid (show splice (bvs (kz key n i)) (i * 4) (bvs (t4 P)) = bvs (kz key n (i + 1)) by rw [bvs_splice, Nat.mul_comm, kz_next key n i (t4 P) hi60 HSU.out rfl])
      have HLZ := Lib.hid (show (bvs (kz key n i)).length = 240 by rw [bvs_length, kz_length _ _ _ (by omega)])
      have HLP := Lib.hid (show (bvs (t4 P)).length = 4 from rfl)
      have f3 : (0 : Int) ≤ (i : Int) ∧ (i : Int) < 60 := by omega
      by_cases hin : i < n
      case' pos =>
        obtain ⟨C, hC⟩ : ∃ C, C = 4 * i := ⟨_, rfl⟩
        have f1 : IntKind.i64.wrap (4 * (i : Int)) = (C : Int) := wrap_to _ _ (by omega) (by omega)
        have f2 := word_all w.heap.size (i * 4)
        have hcut : ∀ wx, (Instr.slice 42 (.slice A (4 * n) cA) (some (.int .i64 C)) none none).run Tryz.prog wx = .ok (.slice (cutA A cA C) (4 * n - C) (cA - C)) wx := run_slice_from _ 5 u8sl_under (fun _ => by kernel_rfl) A (4 * n) cA C (by omega)
        have HROW := Lib.hid (show ∀ wx, Kp (oneB g) w wx → Row wx (cutA A cA C) (bvs (t4 P)) from fun wx kx => by
          rw [HP.out, nextB_low key n i hin, hC]
          exact row_four_of (HR.out.keep kx (fun k e e' => HA.out k e e')) i (by rw [HK.out]; omega) (by rw [HK.out]; exact hc))
        have HMIN := Lib.hid (show (bvs (t4 P)).length = Nat.min (4 * n - C) 4 by rw [HLP.out]; show 4 = min _ 4; omega)
        clear hC
        go_wp2
        refine wp_region_still_tail 7 (by kernel_rfl) (by kernel_rfl) ?_
        change wpStill _ _ wr.drew (fun a' => wpList _ _ _ _ a' wr.drew) _ _
        have HF2 := Lib.hid (HF.out.keep (Kp.refl nob wr).drew)
        clear HF
        generalize wr.drew = wd at *
        simp only [List.take_succ_cons, List.take_zero, List.drop_succ_cons, List.drop_zero]
        repeat still_step
        refine wpStill_nil ?_
        clear f1 f2 hcut
        go_wp2_with (refine wpList_copy_blk rfl (.tmp 24) (.tmp 28) 42 42 rfl 5 u8sl_under (by kernel_rfl) w.heap.size (i * 4) _ _ _ _ _ _ rfl rfl (bvs (kz key n i)) 257 HF2.out.ws (bvs (t4 P)) HMIN.out (fun _ => rfl) (HROW.out _ HF2.out.kp) (by rw [HLZ.out, HLP.out]; omega) (bvs_one _) ?_; intro w2 hB2 k2 z2)
        rw [HKZ.out] at hB2
        have HH := Lib.hid (show Fh w g (n + 6) key n i w2 from ⟨hB2, HF2.out.c.keep k2 (fun e => by have := HLT.out; unfold oneB at e; omega), HF2.out.kp.trans k2 (fun j e => .inr (by unfold oneB at e; omega))⟩)
        clear hB2 k2 z2 HF2 HROW HMIN
        go_wp2
      case' neg =>
        obtain ⟨D, hD⟩ : ∃ D, D = i - n := ⟨_, rfl⟩
        obtain ⟨E, hE⟩ : ∃ E, E = i - 1 := ⟨_, rfl⟩
        have f1 : IntKind.i64.wrap ((i : Int) - (n : Int)) = (D : Int) := wrap_to _ _ (by omega) (by omega)
        have f2 : IntKind.i64.wrap ((i : Int) - 1) = (E : Int) := wrap_to _ _ (by omega) (by omega)
        have f4 : (0 : Int) ≤ (D : Int) ∧ (D : Int) < 60 := by omega
        have f5 : (0 : Int) ≤ (E : Int) ∧ (E : Int) < 60 := by omega
        obtain ⟨X1, hX1⟩ : ∃ X : Nat → UInt8, X = fun k => gb (words key n i) (4 * D + k) := ⟨_, rfl⟩
        obtain ⟨X2, hX2⟩ : ∃ X : Nat → UInt8, X = fun k => gb (words key n i) (4 * E + k) := ⟨_, rfl⟩
        have HPP := Lib.hid (show t4 (fun k => X1 k ^^^ turned n i X2 k) = t4 P by rw [HP.out, nextB_high key n i (by omega), hX1, hX2, hD, hE])
        have HDE := Lib.hid (show D < i ∧ E < i by omega)
        have hni : n ≤ i := by omega
        clear hD hE
        go_wp2
        have HF2 := Lib.hid (HF.out.keep (Kp.refl nob wr).drew)
        obtain ⟨H, hH⟩ : ∃ H, H = w.heap.size := ⟨_, rfl⟩
        have HHS := Lib.hid hH
        have HS0 : Hid (wr.drew.rangeAt H (D * 4) (bvs (t4 X1)) ∧ wr.drew.rangeAt H (E * 4) (bvs (t4 X2))) :=
          Lib.hid ⟨by rw [hH, hX1]; exact kz_part HF2.out.ws D HDE.out.1 (by omega), by rw [hH, hX2]; exact kz_part HF2.out.ws E HDE.out.2 (by omega)⟩
        rw [← hH]
        have HX1 := Lib.hid hX1; have HX2 := Lib.hid hX2
        clear HF hX1 hX2 hH
        refine reg_begin (fun w' => w'.rangeAt H (D * 4) (bvs (t4 X1)) ∧ w'.rangeAt H (E * 4) (bvs (t4 X2))) (by kernel_rfl) HS0.out (fun _ => ?_)
        generalize wr.drew = wd at *
        refine reg_take (v := .int .i64 i) 0 (some 30) rfl rfl (by kernel_rfl) (by kernel_rfl) (by kernel_rfl) (by rfl) HS0.out (fun w hw => by go_simp) ?_
        simp only [Act.put, List.setIfInBounds_toArray, List.set_cons_zero, List.set_cons_succ]
        refine reg_take (v := .pointer (some ⟨g, 0, none⟩)) 1 (some 31) rfl rfl (by kernel_rfl) (by kernel_rfl) (by kernel_rfl) (by rfl) HS0.out (fun w hw => by go_simp) ?_
        simp only [Act.put, List.setIfInBounds_toArray, List.set_cons_zero, List.set_cons_succ]
        refine reg_take (v := .int .i64 i) 2 (some 32) rfl rfl (by kernel_rfl) (by kernel_rfl) (by kernel_rfl) (by rfl) HS0.out (fun w hw => by go_simp) ?_
        simp only [Act.put, List.setIfInBounds_toArray, List.set_cons_zero, List.set_cons_succ]
        refine reg_take (v := .int .i64 n) 3 (some 33) rfl rfl (by kernel_rfl) (by kernel_rfl) (by kernel_rfl) (by rfl) HS0.out (fun w hw => by go_simp) ?_
        simp only [Act.put, List.setIfInBounds_toArray, List.set_cons_zero, List.set_cons_succ]
        refine reg_take (v := .int .i64 i) 4 (some 34) rfl rfl (by kernel_rfl) (by kernel_rfl) (by kernel_rfl) (by rfl) HS0.out (fun w hw => by go_simp) ?_
        simp only [Act.put, List.setIfInBounds_toArray, List.set_cons_zero, List.set_cons_succ]
        refine reg_take (v := .int .i64 n) 5 (some 35) rfl rfl (by kernel_rfl) (by kernel_rfl) (by kernel_rfl) (by rfl) HS0.out (fun w hw => by go_simp) ?_
        simp only [Act.put, List.setIfInBounds_toArray, List.set_cons_zero, List.set_cons_succ]
        refine reg_take (v := .int .i64 D) 6 (some 36) rfl rfl (by kernel_rfl) (by kernel_rfl) (by kernel_rfl) (by rfl) HS0.out (fun w hw => by go_simp) ?_
        simp only [Act.put, List.setIfInBounds_toArray, List.set_cons_zero, List.set_cons_succ]
        refine reg_take (v := .pointer (some ⟨H, D * 4, none⟩)) 7 (some 37) rfl rfl (by kernel_rfl) (by kernel_rfl) (by kernel_rfl) (by rfl) HS0.out (fun w hw => by go_simp) ?_
        simp only [Act.put, List.setIfInBounds_toArray, List.set_cons_zero, List.set_cons_succ]
        refine reg_load 8 (some 38) 256 (.tmp 37) rfl rfl rfl (by kernel_rfl) (by kernel_rfl) (by kernel_rfl) (by rfl) HS0.out H (D * 4) rfl (bvs (t4 X1)) _ (fun _ x => x.1) arrW rfl (by kernel_rfl) ?_
        simp only [Act.put, List.setIfInBounds_toArray, List.set_cons_zero, List.set_cons_succ]
        refine reg_take (v := .int .i64 i) 9 (some 39) rfl rfl (by kernel_rfl) (by kernel_rfl) (by kernel_rfl) (by rfl) HS0.out (fun w hw => by go_simp) ?_
        simp only [Act.put, List.setIfInBounds_toArray, List.set_cons_zero, List.set_cons_succ]
        refine reg_take (v := .int .i64 E) 10 (some 40) rfl rfl (by kernel_rfl) (by kernel_rfl) (by kernel_rfl) (by rfl) HS0.out (fun w hw => by go_simp) ?_
        simp only [Act.put, List.setIfInBounds_toArray, List.set_cons_zero, List.set_cons_succ]
        refine reg_take (v := .pointer (some ⟨H, E * 4, none⟩)) 11 (some 41) rfl rfl (by kernel_rfl) (by kernel_rfl) (by kernel_rfl) (by rfl) HS0.out (fun w hw => by go_simp) ?_
        simp only [Act.put, List.setIfInBounds_toArray, List.set_cons_zero, List.set_cons_succ]
        refine reg_load 12 (some 42) 256 (.tmp 41) rfl rfl rfl (by kernel_rfl) (by kernel_rfl) (by kernel_rfl) (by rfl) HS0.out H (E * 4) rfl (bvs (t4 X2)) _ (fun _ x => x.2) arrW rfl (by kernel_rfl) ?_
        simp only [Act.put, List.setIfInBounds_toArray, List.set_cons_zero, List.set_cons_succ]
        have HTB := Lib.hid (show Tab wd g 241 Field.gbox from ⟨HF2.out.c.lt, fun x => by rw [HF2.out.c.cell]; exact cph_bx (kz_length _ _ _ (by omega)) BX_length _ _ (BX_get x)⟩)
        refine reg_call 13 (some 43) rfl rfl (by kernel_rfl) (by rfl) _ _ (by go_simp; exact ⟨rfl, rfl⟩) ?_
        refine (further_any X1 X2 i n g wd HTB.out hn hni (by omega)).mono ?_
        rintro e w3 ⟨rfl, k3⟩
        rw [HPP.out]
        have HF3 := Lib.hid (HF2.out.keep k3)
        have HS3 := Lib.hid (show w3.rangeAt H (D * 4) (bvs (t4 X1)) ∧ w3.rangeAt H (E * 4) (bvs (t4 X2)) from ⟨range_keep HS0.out.1 k3 (fun e => e), range_keep HS0.out.2 k3 (fun e => e)⟩)
        clear k3 HF2 HTB HPP HS0
        refine ⟨_, rfl, HS3.out, fun _ => ?_⟩
        simp only [Act.put, List.setIfInBounds_toArray, List.set_cons_zero, List.set_cons_succ]
        refine reg_take (v := .pointer (some ⟨H, i * 4, none⟩)) 14 (some 44) rfl rfl (by kernel_rfl) (by kernel_rfl) (by kernel_rfl) (by rfl) HS3.out (fun w hw => by go_simp) ?_
        simp only [Act.put, List.setIfInBounds_toArray, List.set_cons_zero, List.set_cons_succ]
        have HB3 := Lib.hid (show Blk w3 H 257 (bvs (kz key n i)) by rw [HHS.out]; exact HF3.out.ws)
        refine reg_storeIn 15 none 256 (.tmp 44) (.tmp 43) rfl rfl rfl (by kernel_rfl) (by rfl) H (i * 4) 257 (bvs (kz key n i)) (bvs (t4 P)) HB3.out rfl rfl (by rw [HLZ.out, HLP.out]; omega) (by rw [HLP.out]; kernel_rfl) (bvs_one _) ?_
        intro w2 hB2 k2 z2
        rw [HKZ.out] at hB2
        refine ⟨⟨by rw [HX1.out]; exact kz_part' hB2 D HDE.out.1 hi60, by rw [HX2.out]; exact kz_part' hB2 E HDE.out.2 hi60⟩, fun _ => ?_⟩
        rw [HHS.out] at hB2 k2
        have HH := Lib.hid (show Fh w g (n + 6) key n i w2 from ⟨hB2, HF3.out.c.keep k2 (fun e => by have := HLT.out; unfold oneB at e; omega), HF3.out.kp.trans k2 (fun j e => .inr (by unfold oneB at e; omega))⟩)
        clear hB2 k2 z2 HF3 HS3 HB3 f1 f2 f4 f5 HDE HX1 HX2
        rw [HHS.out]
        clear HHS
        simp only [Act.put, List.setIfInBounds_toArray, List.set_cons_zero, List.set_cons_succ]
        refine reg_end (by kernel_rfl) ?_
        go_wp2
      all_goals
        obtain ⟨q, hq⟩ : ∃ q, q = i / 4 := ⟨_, rfl⟩
        obtain ⟨r, hr⟩ : ∃ r, r = i % 4 := ⟨_, rfl⟩
        obtain ⟨R, hR⟩ : ∃ R, R = 4 * r := ⟨_, rfl⟩
        have a1 : (i : Int).tdiv 4 = (q : Int) := by rw [Int.tdiv_eq_ediv_of_nonneg (by omega)]; omega
        have a2 : (i : Int).tmod 4 = (r : Int) := tmod_four _ _ hr
        have a3 : IntKind.i64.wrap (4 * (r : Int)) = (R : Int) := wrap_to _ _ (by omega) (by omega)
        have a4 : IntKind.i64.wrap (q : Int) = (q : Int) := wrap_to _ _ rfl (by omega)
        have a5 : IntKind.i64.wrap (r : Int) = (r : Int) := wrap_to _ _ rfl (by omega)
        have a6 : (0 : Int) ≤ (q : Int) ∧ (q : Int) < 15 := by omega
        have a7 := word_all w.heap.size (i * 4)
        have a8 := block_from g (1 + q * 16) R R rfl (by omega)
        have HAD := Lib.hid (show 1 + q * 16 + R = 1 + 4 * i by omega)
        have HMIN := Lib.hid (show (bvs (t4 P)).length = Nat.min 4 (16 - R) by rw [HLP.out]; show 4 = min 4 _; omega)
        have HCN := Lib.hid (cph_next (n + 6) key n i (t4 P) BX BK hi60 HSU.out rfl)
        have HCL := Lib.hid (show (cph (n + 6) (kz key n i) BX BK).length = 753 from cph_length (kz_length _ _ _ (by omega)) BX_length BK_length)
        have HWR := Lib.hid (show ∀ wx, Blk wx w.heap.size 257 (bvs (kz key n (i + 1))) → Row wx (some ⟨w.heap.size, i * 4, none⟩) (bvs (t4 P)) from fun wx hx => .inr ⟨w.heap.size, i * 4, rfl, hx.lt, fun j v hv => by
          have h1 := hx.cell (i * 4 + j)
          rw [h1]
          have hj : j < 4 := (List.getElem?_eq_some_iff.1 hv).1
          rw [← HKZ.out, splice, List.getElem?_append_right (by rw [List.length_take, HLZ.out]; omega), List.length_take, HLZ.out, Nat.min_eq_left (by omega), show i * 4 + j - i * 4 = j by omega, List.getElem?_append_left (by rw [HLP.out]; exact hj)]
          exact hv⟩)
        clear hq hr hR
        refine wp_region_still_tail 13 (by kernel_rfl) (by kernel_rfl) ?_
        change wpStill _ _ w2.drew (fun a' => wpList _ _ _ _ a' w2.drew) _ _
        have HH2 := Lib.hid (HH.out.keep (Kp.refl nob w2).drew)
        clear HH
        generalize w2.drew = wd at *
        simp only [List.take_succ_cons, List.take_zero, List.drop_succ_cons, List.drop_zero]
        repeat still_step
        refine wpStill_nil ?_
        clear a1 a2 a3 a4 a5 a6 a7 a8
        go_wp2_with (refine wpList_copy_blk rfl (.tmp 54) (.tmp 57) 42 42 rfl 5 u8sl_under (by kernel_rfl) g (1 + 4 * i) _ _ _ _ _ _ rfl rfl (cph (n + 6) (kz key n i) BX BK) 240 HH2.out.c (bvs (t4 P)) HMIN.out (fun _ => by rw [HAD.out]) (HWR.out _ HH2.out.ws) (by rw [HCL.out, HLP.out]; omega) (bvs_one _) ?_; intro w6 hB6 k6 z6)
        rw [HCN.out] at hB6
        have HF6 := Lib.hid (show Fk w g (n + 6) key n (i + 1) w6 from ⟨HH2.out.ws.keep k6 (fun e => by have := HLT.out; unfold oneB at e; omega), hB6, HH2.out.kp.trans k6 (fun j e => .inl e)⟩)
        clear hB6 k6 z6 HH2
        go_wp2
        exact ⟨⟨i + 1, by omega, by go_num, HF6.out⟩, by simp [intOf]; omega⟩
    · have hf := HF.out
      obtain rfl : i = T := by omega
      rw [HTT.out] at hf
      have HFF := Lib.hid hf; clear hf HF
      go_wp2
      refine bodyPost_end (results_none rfl _ _ _) rfl ?_
      exact ⟨rfl, HFF.out.c, HFF.out.kp⟩
structure Ciph [Inhabited Field.SqTab] (w : World) (g : Nat) (W : List UInt8) (R : Nat) : Prop where
  b : ∃ K : List UInt8, K.length = 240 ∧ (∀ j, j < 16 * (R + 2) → gb K j = gb W j) ∧ Blk w g 240 (cph (R + 1) K BX BK)
  r : R ≤ 13
  l : W.length = 16 * (R + 2)
theorem Ciph.keep [Inhabited Field.SqTab] {F : Nat → Prop} {w w2 : World} {g R : Nat} {W : List UInt8} (h : Ciph w g W R) (k : Kp F w w2) (hF : ¬ F g) : Ciph w2 g W R :=
  ⟨(let ⟨K, h1, h2, h3⟩ := h.b; ⟨K, h1, h2, h3.keep k hF⟩), h.r, h.l⟩
theorem Ciph.keep0 [Inhabited Field.SqTab] {w w2 : World} {g R : Nat} {W : List UInt8} (h : Ciph w g W R) (k : Kp nob w w2) : Ciph w2 g W R := h.keep k (fun e => e)
theorem Ciph.lt [Inhabited Field.SqTab] {w : World} {g R : Nat} {W : List UInt8} (h : Ciph w g W R) : g < w.heap.size := let ⟨_, _, _, h3⟩ := h.b; h3.lt
theorem Ciph.num [Inhabited Field.SqTab] {w : World} {g R : Nat} {W : List UInt8} (h : Ciph w g W R) : w.cell? ⟨g, 0, none⟩ = some (.int .i64 ((R + 1 : Nat) : Int)) := by
  obtain ⟨K, _, _, h3⟩ := h.b
  rw [h3.cell, cph_zero]
theorem Ciph.box [Inhabited Field.SqTab] {w : World} {g R : Nat} {W : List UInt8} (h : Ciph w g W R) : Tab w g 241 Field.gbox := by
  obtain ⟨K, h1, _, h3⟩ := h.b
  exact ⟨h3.lt, fun x => by rw [h3.cell]; exact cph_bx h1 BX_length _ _ (BX_get x)⟩
theorem Ciph.key [Inhabited Field.SqTab] {w : World} {g R : Nat} {W : List UInt8} (h : Ciph w g W R) (r : Nat) (hr : r ≤ R + 1) : w.rangeAt g (1 + r * 16) (bvs (rk W r)) := by
  obtain ⟨K, h1, h2, h3⟩ := h.b
  have h13 := h.r
  refine h3.part _ _ fun j v hv => ?_
  have hj : j < 16 := by have := (List.getElem?_eq_some_iff.1 hv).1; rwa [bvs_length, rk_length] at this
  rw [gb_get _ _ (by rw [rk_length]; exact hj), rk_eq, gb_tb _ _ hj] at hv
  rw [Nat.add_assoc, cph_key h1 _ (by omega), h2 _ (by omega), ← hv, Nat.mul_comm]
def cz (N : Nat) : List Value := cph N (List.replicate 240 0) (List.replicate 256 0) (List.replicate 256 0)
theorem cz_eq (N : Nat) : cz N = cph N (List.replicate 240 0) (List.replicate 256 0) (List.replicate 256 0) := rfl
attribute [irreducible] cz
set_option maxHeartbeats 1000000 in
set_option maxRecDepth 100000 in
theorem new_yes [Inhabited Field.SqTab] (n : Nat) (key : List UInt8) (A : Option Addr) (cA : Nat) (w : World) (ht : Sq w) (hk : key.length = 4 * n) (hn : n = 4 ∨ n = 8) (hr : Row w A (bvs key)) (hc : 4 * n ≤ cA) :
    Calls Tryz.prog 155 #[.slice A (4 * n) cA] w fun e w' => ∃ g, e = .returned (.tuple #[.pointer (some ⟨g, 0, none⟩), .int .i64 0]) ∧ Ciph w' g (allW key) (n + 5) ∧ w.heap.size ≤ g ∧ Kp nob w w' := by
  have HK := Lib.hid hk; have HR := Lib.hid hr; have HT := Lib.hid ht
  have e1 : ((4 * n : Nat) : Int).tdiv 4 = (n : Int) := by rw [Int.tdiv_eq_ediv_of_nonneg (by omega)]; omega
  have e2 : IntKind.i64.wrap ((n : Int) + 6) = ((n + 6 : Nat) : Int) := wrap_to _ _ (by omega) (by omega)
  have hlt : ∀ k, ab A = some k → k < w.heap.size := hr.lt (fun e => by have h1 := congrArg List.length e; rw [bvs_length, hk] at h1; simp at h1; omega)
  clear hk hr ht
  go_enter Tryz.func155, Tryz.ntmps155
  rcases hn with rfl | rfl
  case' inl =>
    go_wp2_with (refine wpList_built rfl 240 _ rfl (.agg (cz 10).toArray) (by kernel_rfl) ?_)
    refine (fillBoxes_any w.heap.size 10 (List.replicate 240 0) _ (by rw [List.length_replicate]) (HT.out.keep0 ((Kp.refl nob w).alloc _)) (sq_lt HT.out) (by rw [bxs_zero, bks_zero]; exact (cz_eq 10) ▸ Blk.new w _ _)).mono ?_
    rintro e w1 ⟨rfl, hb1, k1⟩
    have HB1 := Lib.hid (show Blk w1 w.heap.size 240 (cph (4 + 6) (kz key 4 0) BX BK) by rw [kz_zero]; exact hb1)
    have HN := Lib.hid (show 4 + 6 = 4 + 5 + 1 from rfl)
  case' inr =>
    go_wp2_with (refine wpList_built rfl 240 _ rfl (.agg (cz 14).toArray) (by kernel_rfl) ?_)
    refine (fillBoxes_any w.heap.size 14 (List.replicate 240 0) _ (by rw [List.length_replicate]) (HT.out.keep0 ((Kp.refl nob w).alloc _)) (sq_lt HT.out) (by rw [bxs_zero, bks_zero]; exact (cz_eq 14) ▸ Blk.new w _ _)).mono ?_
    rintro e w1 ⟨rfl, hb1, k1⟩
    have HB1 := Lib.hid (show Blk w1 w.heap.size 240 (cph (8 + 6) (kz key 8 0) BX BK) by rw [kz_zero]; exact hb1)
    have HN := Lib.hid (show 8 + 6 = 8 + 5 + 1 from rfl)
  all_goals
    have K1 := Lib.hid (((Kp.refl nob w).alloc _).since k1 (fun i e => by unfold oneB at e; omega))
    clear hb1 k1
    go_wp2_with fail
    refine (fillKeys_any w.heap.size _ key A cA w1 HK.out (by omega) (by omega) (HR.out.keep0 K1.out) hc (fun k e => by have := hlt k e; omega) HB1.out).mono ?_
    rintro e w2 ⟨rfl, hb2, k2⟩
    have HF := Lib.hid hb2
    have HKK := Lib.hid (K1.out.since k2 (fun i e => by unfold oneB at e; omega))
    clear hb2 k2 K1 HB1
    go_wp2
    go_ret2
    refine ⟨w.heap.size, rfl, ⟨⟨_, kz_length key _ _ (by omega), fun j hj => ?_, HF.out⟩, by omega, ?_⟩, Nat.le_refl _, HKK.out⟩
    · rw [kz_at _ _ _ _ (by omega), allW_eq, HK.out]
    · rw [allW_length, HK.out]
end Go.Proofs.YtiimfhacnfdmhaaGreat.Aes
namespace Go.Proofs.YtiimfhacnfdmhaaGreat.Aes
open Go Go.RowKit Kit
open Field (cb)
structure Sl [Inhabited Field.SqTab] (w : World) (B : List UInt8) (w2 : World) : Prop where
  p : Blk w2 w.heap.size 210 (bvs B)
  z : ∃ z : List Value, z.length = 16 ∧ Blk w2 (w.heap.size + 1) 210 z
  kp : Kp nob w w2
theorem Sl.keep [Inhabited Field.SqTab] {w w2 w3 : World} {B : List UInt8} (h : Sl w B w2) (k : Kp nob w2 w3) : Sl w B w3 :=
  ⟨h.p.keep k (fun e => e), (let ⟨z, hz, hb⟩ := h.z; ⟨z, hz, hb.keep k (fun e => e)⟩), h.kp.trans k (fun _ e => e.elim)⟩
theorem Sl.all [Inhabited Field.SqTab] {w w2 w3 : World} {B C : List UInt8} (h : Sl w B w2) (hB : Blk w3 w.heap.size 210 (bvs C)) (k : Kp (oneB w.heap.size) w2 w3) : Sl w C w3 :=
  ⟨hB, (let ⟨z, hz, hb⟩ := h.z; ⟨z, hz, hb.keep k (fun e => by unfold oneB at e; omega)⟩), h.kp.since k (fun i e => by unfold oneB at e; omega)⟩
theorem Sl.new [Inhabited Field.SqTab] (w : World) (B : List UInt8) : Sl w B ((w.alloc (.cells (bvs B).toArray 210)).alloc (.cells #[.int .u8 0, .int .u8 0, .int .u8 0, .int .u8 0, .int .u8 0, .int .u8 0, .int .u8 0, .int .u8 0, .int .u8 0, .int .u8 0, .int .u8 0, .int .u8 0, .int .u8 0, .int .u8 0, .int .u8 0, .int .u8 0] 210)) :=
  ⟨(Blk.new w _ _).alloc _, ⟨bvs noughts, rfl, Blk.new' (by simp) rfl⟩, ((Kp.refl nob w).alloc _).alloc _⟩
theorem load_b [Inhabited Field.SqTab] {w w2 : World} {B : List UInt8} (h : Sl w B w2) (hB : (bvs B).length = 16) : (Instr.loadAt 210 (.pointer (some ⟨w.heap.size, 0, none⟩))).run Tryz.prog w2 = .ok (.agg (bvs B).toArray) w2 :=
  run_loadAt_mid w2 _ 0 _ (bvs B) _ h.p.range arrB rfl (by rw [hB]; kernel_rfl)
theorem load_k [Inhabited Field.SqTab] {w : World} {g R : Nat} {W : List UInt8} (h : Ciph w g W R) (r : Nat) (hr : r ≤ R + 1) : (Instr.loadAt 210 (.pointer (some ⟨g, 1 + r * 16, none⟩))).run Tryz.prog w = .ok (.agg (bvs (rk W r)).toArray) w :=
  run_loadAt_mid w _ _ _ (bvs (rk W r)) _ (h.key r hr) arrB rfl (by rw [bvs_length, rk_length]; kernel_rfl)
theorem blen {B : List UInt8} (h : B.length = 16) : (bvs B).length = 16 := by rw [bvs_length, h]
theorem bsize {B : List UInt8} (h : B.length = 16) : (Tryz.prog.info? 210).map (·.size) = some (bvs B).length := by rw [blen h]; kernel_rfl
set_option maxHeartbeats 2000000 in
set_option maxRecDepth 100000 in
theorem seal_any [Inhabited Field.SqTab] (b W : List UInt8) (g R : Nat) (w : World) (hb : b.length = 16) (hc : Ciph w g W R) :
    Calls Tryz.prog 156 #[.pointer (some ⟨g, 0, none⟩), .agg (bvs b).toArray] w fun e w' => e = .returned (.agg (bvs (enc W R b)).toArray) ∧ Kp nob w w' := by
  have HB := Lib.hid hb; clear hb
  have HC := Lib.hid hc
  have h13 := hc.r
  clear hc
  have HS := Lib.hid (Sl.new w b)
  go_enter Tryz.func156, Tryz.ntmps156
  go_wp2
  refine wp_region_still_tail 6 (by kernel_rfl) (by kernel_rfl) ?_
  generalize hw0 : (w.alloc (.cells (bvs b).toArray 210)).alloc (.cells #[.int .u8 0, .int .u8 0, .int .u8 0, .int .u8 0, .int .u8 0, .int .u8 0, .int .u8 0, .int .u8 0, .int .u8 0, .int .u8 0, .int .u8 0, .int .u8 0, .int .u8 0, .int .u8 0, .int .u8 0, .int .u8 0] 210) = w0 at *
  change wpStill _ _ w0.drew (fun a' => wpList _ _ _ _ a' w0.drew) _ _
  have HS1 := Lib.hid (HS.out.keep (Kp.refl nob w0).drew)
  clear HS hw0
  generalize w0.drew = wd at *
  have HL1 := Lib.hid (load_b HS1.out (blen HB.out))
  have HL2 := Lib.hid (load_k (HC.out.keep0 HS1.out.kp) 0 (by omega))
  simp only [List.take_succ_cons, List.take_zero, List.drop_succ_cons, List.drop_zero]
  refine wpStill_load rfl 210 (.tmp 3) rfl _ _ rfl HL1.out ?_
  iterate 4 still_step
  refine wpStill_load rfl 210 (.tmp 13) rfl _ _ rfl HL2.out ?_
  refine wpStill_nil ?_
  clear HL1 HL2
  go_wp2_with fail
  refine (sum_any b (rk W 0) _ HB.out (rk_length _ _)).mono ?_
  rintro e w1 ⟨rfl, k1⟩
  rw [← going_zero W b]
  have HG := Lib.hid (fun i => going_length W b i)
  have HS2 := Lib.hid (HS1.out.keep k1)
  clear HS1 k1
  go_wp2_with (refine wpList_store_blk rfl 210 (.tmp 3) (.tmp 15) rfl _ _ (bvs b) (bvs (going W b 0)) HS2.out.p rfl rfl (by rw [blen HB.out, blen (HG.out 0)]) (bsize (HG.out 0)) (bvs_one _) ?_; intro w2 hB2 k2 z2)
  have HS3 := Lib.hid (HS2.out.all hB2 k2)
  clear HS2 hB2 k2 z2
  go_wp2
  go_loopw [5] (fun vr wr => ∃ i : Nat, i ≤ R ∧ vr = .int .i64 ((i : Int) + 1) ∧ Sl w (going W b i) wr)
    (fun vr _ => R + 5 - (intOf vr).toNat)
  case atStart => exact ⟨0, by omega, rfl, HS3.out⟩
  case round =>
    obtain ⟨i, hi, rfl, hs⟩ := hrel
    have HS := Lib.hid hs; clear hs HS3
    have hnum := (HC.out.keep0 HS.out.kp).num
    have hnum' : wr.cell? ⟨g, 0, none⟩ = some (.int .i64 ((R : Int) + 1)) := hnum
    clear hnum
    obtain ⟨B, hB⟩ : ∃ B, B = going W b i := ⟨_, rfl⟩
    rw [← hB] at HS
    have HBL := Lib.hid (show B.length = 16 by rw [hB]; exact HG.out i)
    by_cases hlt : i < R
    · have HU := Lib.hid (going_succ W b i)
      rw [← hB] at HU
      have HBD := Lib.hid hB; clear hB
      have b1 : (0 : Int) ≤ (i : Int) + 1 ∧ (i : Int) + 1 < 15 := by omega
      go_wp2
      refine wp_region_still_tail 4 (by kernel_rfl) (by kernel_rfl) ?_
      change wpStill _ _ wr.drew (fun a' => wpList _ _ _ _ a' wr.drew) _ _
      have HS1 := Lib.hid (HS.out.keep (Kp.refl nob wr).drew)
      clear HS hnum'
      generalize wr.drew = wd at *
      have HL1 := Lib.hid (load_b HS1.out (blen HBL.out))
      simp only [List.take_succ_cons, List.take_zero, List.drop_succ_cons, List.drop_zero]
      refine wpStill_load rfl 210 (.tmp 3) rfl _ _ rfl HL1.out ?_
      iterate 3 still_step
      refine wpStill_nil ?_
      clear HL1
      go_wp2_with fail
      refine (swapped_any B g 241 Field.gbox _ HBL.out (HC.out.keep0 HS1.out.kp).box).mono ?_
      rintro e w1 ⟨rfl, k1⟩
      rw [← sub_eq B]
      go_wp2_with fail
      refine (turned_any (sub B) 1 _ (sub_length _) (by omega)).mono ?_
      rintro e w2 ⟨rfl, k2⟩
      rw [trn_one]
      go_wp2_with fail
      refine (mixed_any (rows (sub B)) _ (rows_length _)).mono ?_
      rintro e w3 ⟨rfl, k3⟩
      have HS2 := Lib.hid (((HS1.out.keep k1).keep k2).keep k3)
      clear HS1 k1 k2 k3
      obtain ⟨C, hC⟩ : ∃ C, C = mix (rows (sub B)) := ⟨_, rfl⟩
      have HCL := Lib.hid (show C.length = 16 by rw [hC]; exact mix_length _)
      rw [← hC] at HU ⊢
      clear hC
      go_wp2_with (refine wpList_store_blk rfl 210 (.tmp 3) (.tmp 30) rfl _ _ (bvs B) (bvs C) HS2.out.p rfl rfl (by rw [blen HBL.out, blen HCL.out]) (bsize HCL.out) (bvs_one _) ?_; intro w4 hB4 k4 z4)
      have HS3 := Lib.hid (HS2.out.all hB4 k4)
      clear HS2 hB4 k4 z4
      go_wp2
      refine wp_region_still_tail 7 (by kernel_rfl) (by kernel_rfl) ?_
      change wpStill _ _ w4.drew (fun a' => wpList _ _ _ _ a' w4.drew) _ _
      have HS4 := Lib.hid (HS3.out.keep (Kp.refl nob w4).drew)
      clear HS3
      generalize w4.drew = we at *
      have HL1 := Lib.hid (load_b HS4.out (blen HCL.out))
      have HL2 := Lib.hid (load_k (HC.out.keep0 HS4.out.kp) (i + 1) (by omega))
      simp only [List.take_succ_cons, List.take_zero, List.drop_succ_cons, List.drop_zero]
      refine wpStill_load rfl 210 (.tmp 3) rfl _ _ rfl HL1.out ?_
      iterate 5 still_step
      refine wpStill_load rfl 210 (.tmp 36) rfl _ _ rfl HL2.out ?_
      refine wpStill_nil ?_
      clear HL1 HL2
      go_wp2_with fail
      refine (sum_any C (rk W (i + 1)) _ HCL.out (rk_length _ _)).mono ?_
      rintro e w5 ⟨rfl, k5⟩
      rw [← HU.out]
      have HS5 := Lib.hid (HS4.out.keep k5)
      clear HS4 k5
      go_wp2_with (refine wpList_store_blk rfl 210 (.tmp 3) (.tmp 38) rfl _ _ (bvs C) (bvs (going W b (i + 1))) HS5.out.p rfl rfl (by rw [blen HCL.out, blen (HG.out (i + 1))]) (bsize (HG.out (i + 1))) (bvs_one _) ?_; intro w6 hB6 k6 z6)
      have HS6 := Lib.hid (HS5.out.all hB6 k6)
      clear HS5 hB6 k6 z6
      go_wp2
      exact ⟨⟨i + 1, by omega, by go_num, HS6.out⟩, by simp [intOf]; omega⟩
    · have HU := Lib.hid (enc_eq W R b)
      rw [show R = i by omega, ← hB] at HU
      obtain rfl : i = R := by omega
      clear hB
      have HEL := Lib.hid (enc_length W i b)
      have b1 : (0 : Int) ≤ (i : Int) + 1 ∧ (i : Int) + 1 < 15 := by omega
      go_wp2
      refine wp_region_still_tail 4 (by kernel_rfl) (by kernel_rfl) ?_
      change wpStill _ _ wr.drew (fun a' => wpList _ _ _ _ a' wr.drew) _ _
      have HS1 := Lib.hid (HS.out.keep (Kp.refl nob wr).drew)
      clear HS hnum'
      generalize wr.drew = wd at *
      have HL1 := Lib.hid (load_b HS1.out (blen HBL.out))
      simp only [List.take_succ_cons, List.take_zero, List.drop_succ_cons, List.drop_zero]
      refine wpStill_load rfl 210 (.tmp 3) rfl _ _ rfl HL1.out ?_
      iterate 3 still_step
      refine wpStill_nil ?_
      clear HL1
      go_wp2_with fail
      refine (swapped_any B g 241 Field.gbox _ HBL.out (HC.out.keep0 HS1.out.kp).box).mono ?_
      rintro e w1 ⟨rfl, k1⟩
      rw [← sub_eq B]
      go_wp2_with fail
      refine (turned_any (sub B) 1 _ (sub_length _) (by omega)).mono ?_
      rintro e w2 ⟨rfl, k2⟩
      rw [trn_one]
      have HS2 := Lib.hid ((HS1.out.keep k1).keep k2)
      clear HS1 k1 k2
      obtain ⟨C, hC⟩ : ∃ C, C = rows (sub B) := ⟨_, rfl⟩
      have HCL := Lib.hid (show C.length = 16 by rw [hC]; exact rows_length _)
      rw [← hC] at HU ⊢
      clear hC
      go_wp2_with (refine wpList_store_blk rfl 210 (.tmp 3) (.tmp 44) rfl _ _ (bvs B) (bvs C) HS2.out.p rfl rfl (by rw [blen HBL.out, blen HCL.out]) (bsize HCL.out) (bvs_one _) ?_; intro w4 hB4 k4 z4)
      have HS3 := Lib.hid (HS2.out.all hB4 k4)
      clear HS2 hB4 k4 z4
      go_wp2
      refine wp_region_still_tail 10 (by kernel_rfl) (by kernel_rfl) ?_
      change wpStill _ _ w4.drew (fun a' => wpList _ _ _ _ a' w4.drew) _ _
      have HS4 := Lib.hid (HS3.out.keep (Kp.refl nob w4).drew)
      clear HS3
      generalize w4.drew = we at *
      have HL1 := Lib.hid (load_b HS4.out (blen HCL.out))
      have HL2 := Lib.hid (load_k (HC.out.keep0 HS4.out.kp) (i + 1) (by omega))
      have hnum2 : we.cell? ⟨g, 0, none⟩ = some (.int .i64 ((i : Int) + 1)) := (HC.out.keep0 HS4.out.kp).num
      simp only [List.take_succ_cons, List.take_zero, List.drop_succ_cons, List.drop_zero]
      refine wpStill_load rfl 210 (.tmp 3) rfl _ _ rfl HL1.out ?_
      iterate 8 still_step
      refine wpStill_load rfl 210 (.tmp 53) rfl _ _ rfl HL2.out ?_
      refine wpStill_nil ?_
      clear HL1 HL2 hnum2
      go_wp2_with fail
      refine (sum_any C (rk W (i + 1)) _ HCL.out (rk_length _ _)).mono ?_
      rintro e w5 ⟨rfl, k5⟩
      rw [← HU.out]
      obtain ⟨z, hz, hbz⟩ := (HS4.out.keep k5).z
      have HZ := Lib.hid hz; have HBZ := Lib.hid hbz
      have HKP := Lib.hid (HS4.out.keep k5).kp
      clear HS4 k5 hz hbz
      go_wp2_with (refine wpList_store_blk rfl 210 (.tmp 4) (.tmp 55) rfl _ _ z (bvs (enc W i b)) HBZ.out rfl rfl (by rw [HZ.out, blen HEL.out]) (bsize HEL.out) (bvs_one _) ?_; intro w6 hB6 k6 z6)
      have hsz : (Tryz.prog.info? 210).map (·.size) = some (bvs (enc W i b)).toArray.size := by
        rw [List.size_toArray]; exact bsize HEL.out
      refine bodyPost_ret (results_cell_row rfl _ _ (w.heap.size + 1) _ _ _ _ rfl hB6 arrB rfl hsz) rfl ⟨rfl, HKP.out.since k6 (fun i e => by cases e; omega)⟩
end Go.Proofs.YtiimfhacnfdmhaaGreat.Aes
