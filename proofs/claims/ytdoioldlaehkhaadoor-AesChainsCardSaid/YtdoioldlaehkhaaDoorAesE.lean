/- A key's words in a block of 60, in a cipher's cells: four bytes more. -/
import Derived.Test.YtdoioldlaehkhaaDoorAesQ
import Derived.Test.YtdoioldlaehkhaaDoorAesW
import Derived.Test.YtdoioldlaehkhaaDoorBlkF
namespace Go.Proofs.YtdoioldlaehkhaaDoor.Aes
open Go Go.RowKit Kit
open Field (cb box back)

/-- The first i words, noughts behind them. -/
def kz (key : List UInt8) (n i : Nat) : List UInt8 := words key n i ++ List.replicate (240 - 4 * i) 0
theorem kz_length (key : List UInt8) (n i : Nat) (h : i ≤ 60) : (kz key n i).length = 240 := by
  rw [kz, List.length_append, words_length, List.length_replicate]; omega
theorem kz_zero (key : List UInt8) (n : Nat) : kz key n 0 = List.replicate 240 0 := by rw [kz, words_zero]; rfl
theorem kz_at (key : List UInt8) (n i j : Nat) (h : j < 4 * i) : gb (kz key n i) j = gb (words key n i) j := by
  rw [kz, gb, List.getD, List.getElem?_append_left (by rw [words_length]; exact h)]; rfl
theorem kz_next (key : List UInt8) (n i : Nat) (L : List UInt8) (h : i < 60) (hL : words key n (i + 1) = words key n i ++ L) (h4 : L.length = 4) : splice (kz key n i) (4 * i) L = kz key n (i + 1) := by
  have hw : (words key n i).length = 4 * i := words_length _ _ _
  rw [splice, kz, kz, hL, h4, List.append_assoc]
  congr 1
  · rw [List.take_append_of_le_length (by omega), List.take_of_length_le (by omega)]
  · congr 1
    rw [List.drop_append, List.drop_eq_nil_of_le (by omega), List.nil_append, hw, List.drop_replicate]
    congr 1; omega
theorem bvs_splice (l : List UInt8) (off : Nat) (L : List UInt8) : splice (bvs l) off (bvs L) = bvs (splice l off L) := by
  simp only [splice, bvs, List.map_append, List.map_take, List.map_drop, List.length_map]
theorem cph_next (N : Nat) (key : List UInt8) (n i : Nat) (L bx bk : List UInt8) (h : i < 60) (hL : words key n (i + 1) = words key n i ++ L) (h4 : L.length = 4) : splice (cph N (kz key n i) bx bk) (1 + 4 * i) (bvs L) = cph N (kz key n (i + 1)) bx bk := by
  rw [← kz_next key n i L h hL h4, cph, cph]
  have hk := kz_length key n i (by omega)
  show splice (_ :: bvs (kz key n i ++ (bx ++ bk))) (1 + 4 * i) (bvs L) = _ :: bvs (splice (kz key n i) (4 * i) L ++ (bx ++ bk))
  rw [splice, Nat.add_comm 1, List.take_succ_cons, List.cons_append, show 4 * i + 1 + (bvs L).length = (4 * i + (bvs L).length) + 1 by omega, List.drop_succ_cons]
  congr 1
  have := bvs_splice (kz key n i ++ (bx ++ bk)) (4 * i) L
  rw [splice] at this
  rw [this]
  congr 1
  rw [splice, splice, h4, List.take_append_of_le_length (by omega), List.drop_append_of_le_length (by omega)]
  simp
theorem four_of (l : List UInt8) (j : Nat) (h : 4 * j + 4 ≤ l.length) : ((bvs l).drop (4 * j)).take 4 = bvs (t4 fun k => gb l (4 * j + k)) := by
  apply List.ext_getElem?
  intro k
  rw [List.getElem?_take]
  by_cases hk : k < 4
  · rw [if_pos hk, List.getElem?_drop, gb_get l _ (by omega), t4_get _ _ hk]
  · rw [if_neg hk, List.getElem?_eq_none (by rw [bvs_length, t4_length]; omega)]
theorem row_four_of {w : World} {A : Option Addr} {c : Nat} {l : List UInt8} (h : Row w A (bvs l)) (j : Nat) (hj : 4 * j + 4 ≤ l.length) (hc : l.length ≤ c) : Row w (cutA A c (4 * j)) (bvs (t4 fun k => gb l (4 * j + k))) := by
  rw [← four_of l j hj]
  exact (h.cut (by rw [bvs_length]; exact hc)).take 4
theorem kz_part {w : World} {H : Nat} {t : TypeId} {key : List UInt8} {n i : Nat} (h : Blk w H t (bvs (kz key n i))) (j : Nat) (hj : j < i) (hi : i ≤ 60) : w.rangeAt H (j * 4) (bvs (t4 fun k => gb (words key n i) (4 * j + k))) := by
  refine h.part _ _ fun k v hv => ?_
  have hk : k < 4 := (List.getElem?_eq_some_iff.1 hv).1
  rw [t4_get _ _ hk] at hv
  rw [gb_get _ _ (by rw [kz_length _ _ _ hi]; omega), kz_at _ _ _ _ (by omega), ← hv, Nat.mul_comm]
theorem kz_part' {w : World} {H : Nat} {t : TypeId} {key : List UInt8} {n i : Nat} (h : Blk w H t (bvs (kz key n (i + 1)))) (j : Nat) (hj : j < i) (hi : i < 60) : w.rangeAt H (j * 4) (bvs (t4 fun k => gb (words key n i) (4 * j + k))) := by
  have := kz_part h j (by omega) (by omega)
  rwa [t4_ext (g := fun k => gb (words key n i) (4 * j + k)) fun k hk => words_at key n i 1 (4 * j + k) (by omega)] at this
theorem nextB_low (key : List UInt8) (n i : Nat) (h : i < n) (W : List UInt8) : t4 (nextB key n W i) = t4 fun k => gb key (4 * i + k) := t4_ext fun k _ => by rw [nextB, if_pos h]
theorem nextB_high (key : List UInt8) (n i : Nat) (h : n ≤ i) (W : List UInt8) : t4 (nextB key n W i) = t4 fun k => (fun k => gb W (4 * (i - n) + k)) k ^^^ turned n i (fun k => gb W (4 * (i - 1) + k)) k := t4_ext fun k _ => by rw [nextB, if_neg (by omega)]
attribute [irreducible] kz
end Go.Proofs.YtdoioldlaehkhaaDoor.Aes
