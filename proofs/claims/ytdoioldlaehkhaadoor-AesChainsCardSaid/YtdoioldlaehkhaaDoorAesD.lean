/- Contracts of package aes: a cipher's tables. -/
import Derived.Test.YtdoioldlaehkhaaDoorAesC
import Derived.Test.YtdoioldlaehkhaaDoorAesQ
namespace Go.Proofs.YtdoioldlaehkhaaDoor.Aes
open Go Go.RowKit Kit
open Field (cb cb_inj Sq)

theorem sq_lt {w : World} (h : Sq w) : 0 < w.heap.size := by
  have h1 := h 0 _ (bvs_get (l := Field.SQ) (i := 0) (by rw [Field.SQ_length]; omega))
  rcases Nat.lt_or_ge 0 w.heap.size with hlt | hge
  · exact hlt
  · unfold World.cell? at h1
    rw [show w.heap[(⟨0, 0 + 0, none⟩ : Addr).block]? = none from Array.getElem?_eq_none hge] at h1
    cases h1
theorem sq_keep {w w2 : World} {F : Nat → Prop} (h : Sq w) (k : Kp F w w2) (hF : ¬ F 0) : Sq w2 := range_keep h k hF

set_option maxHeartbeats 1000000 in
set_option maxRecDepth 100000 in
theorem fillBoxes_any (g N : Nat) (K : List UInt8) (w : World) (hK : K.length = 240) (ht : Sq w) (hg : 0 < g) (hb : Blk w g 44 (cph N K (bxs 0) (bks 0))) :
    Calls Tryd.prog 14 #[.pointer (some ⟨g, 0, none⟩)] w fun e w' => e = .returned (.tuple #[]) ∧ Blk w' g 44 (cph N K BX BK) ∧ Kp (oneB g) w w' := by
  have HK := Lib.hid hK; have HT := Lib.hid ht; have HB := Lib.hid hb; clear hK ht hb
  go_enter Tryd.func14, Tryd.ntmps14
  go_wp2
  go_loopw [4] (fun vi wr => ∃ i : Nat, i ≤ 256 ∧ vi = .int .i64 i ∧ Blk wr g 44 (cph N K (bxs i) (bks i)) ∧ Kp (oneB g) w wr)
    (fun vi _ => 256 - (intOf vi).toNat)
  case atStart => exact ⟨0, by omega, rfl, HB.out, Kp.refl _ _⟩
  case round =>
    obtain ⟨i, hi, rfl, h1, hkp⟩ := hrel
    have H1 := Lib.hid h1; have HKP := Lib.hid hkp; clear h1 hkp HB
    by_cases hlt : i < 256
    · obtain ⟨x, hx⟩ : ∃ x, x = UInt8.ofNat i := ⟨_, rfl⟩
      have e1 : IntKind.u8.wrap (i : Int) = cb x := by
        have : x.toNat = i := by rw [hx, UInt8.toNat_ofNat']; omega
        unfold cb; rw [this, IntKind.wrap_u8]; omega
      have HX := Lib.hid hx; clear hx
      have HT1 := Lib.hid (sq_keep HT.out HKP.out (fun e => by unfold oneB at e; omega))
      go_wp2_with fail
      refine (Field.box_any x _ HT1.out).mono ?_
      rintro e w1 ⟨rfl, k1⟩
      obtain ⟨y, hy⟩ : ∃ y, y = Field.box x := ⟨_, rfl⟩
      rw [← hy]
      have H2 := Lib.hid (H1.out.keep k1 (fun e => e))
      have HK2 := Lib.hid (HKP.out.trans k1 (fun _ e => e.elim))
      clear H1 HKP k1 HT1
      have hX := HX.out
      have hKl := HK.out
      have e2 : (cph N K (bxs i) (bks i)).set (241 + i) (.int .u8 (cb y)) = cph N K (bxs (i + 1)) (bks i) := by
        rw [cph_setx hKl i y (by rw [bxs_length]; exact hlt), hy, hX, bxs_set]
      have e3 : (cph N K (bxs (i + 1)) (bks i)).set (497 + (cb y).toNat) (.int .u8 (cb x)) = cph N K (bxs (i + 1)) (bks (i + 1)) := by
        rw [show (cb y).toNat = y.toNat from rfl, cph_setk hKl (bxs_length _), hy, hX, bks_set i hlt]
      obtain ⟨v1, hv1⟩ : ∃ v, (cph N K (bxs i) (bks i))[241 + i]? = some v := ⟨_, List.getElem?_eq_getElem (by rw [cph_length hKl (bxs_length _) (bks_length _)]; omega)⟩
      obtain ⟨v2, hv2⟩ : ∃ v, (cph N K (bxs (i + 1)) (bks i))[497 + (cb y).toNat]? = some v := ⟨_, List.getElem?_eq_getElem (by rw [cph_length hKl (bxs_length _) (bks_length _)]; have := cb_in y; omega)⟩
      have h3 := H2.out.set_ (241 + i) (.int .u8 (cb y))
      rw [e2] at h3
      have h4 := h3.set_ (497 + (cb y).toNat) (.int .u8 (cb x))
      rw [e3] at h4
      have c1 : w1.cell? ⟨g, 241 + i, none⟩ = some v1 := by rw [H2.out.cell, hv1]
      have c2 : (w1.setCell ⟨g, 241 + i, none⟩ (.int .u8 (cb y))).cell? ⟨g, 497 + (cb y).toNat, none⟩ = some v2 := by rw [h3.cell, hv2]
      have f1 : w1.frozen? ⟨g, 241 + i, none⟩ = false := H2.out.frozen _
      have f2 : (w1.setCell ⟨g, 241 + i, none⟩ (.int .u8 (cb y))).frozen? ⟨g, 497 + (cb y).toNat, none⟩ = false := h3.frozen _
      have b1 : 0 ≤ cb y ∧ cb y < 256 := cb_in _
      have H4 := Lib.hid h4
      clear h3 h4 hv1 hv2 e2 e3 hX hy
      go_wp2
      go_roundw
      case rel => exact ⟨i + 1, by omega, by go_num, H4.out, (HK2.out.setCell (p := ⟨g, 241 + i, none⟩) (.inl rfl) _).setCell (p := ⟨g, 497 + (cb y).toNat, none⟩) (.inl rfl) _⟩
      case measure => simp [intOf]; omega
    · obtain rfl : i = 256 := by omega
      have h1 := H1.out
      rw [bxs_all, bks_all] at h1
      have HF := Lib.hid h1; clear h1 H1
      go_wp2
      refine bodyPost_end (results_none rfl _ _ _) rfl ?_
      exact ⟨rfl, HF.out, HKP.out⟩
end Go.Proofs.YtdoioldlaehkhaaDoor.Aes
