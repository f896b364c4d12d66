/- A cipher's cells: how many rounds, their keys, two tables of 256 bytes; tables that are filled byte by byte. No program is named here. -/
import Derived.Test.YtdoioldlaehkhaaDoorAesT
namespace Go.Proofs.YtdoioldlaehkhaaDoor.Aes
open Go Go.RowKit Kit
open Field (cb box back)

/-- 256 bytes by their places. -/
def tt (f : Nat → UInt8) : List UInt8 := (List.range 256).map f
theorem tt_length (f : Nat → UInt8) : (tt f).length = 256 := by simp [tt]
theorem tt_get (f : Nat → UInt8) (k : Nat) (h : k < 256) : (tt f)[k]? = some (f k) := by
  rw [tt, List.getElem?_map, List.getElem?_range h]; rfl
theorem tt_ext {f g : Nat → UInt8} (h : ∀ i, i < 256 → f i = g i) : tt f = tt g := List.map_congr_left fun i hi => h i (List.mem_range.1 hi)
theorem tt_set (f : Nat → UInt8) (k : Nat) (x : UInt8) : (tt f).set k x = tt fun i => if i = k then x else f i := by
  apply List.ext_getElem (by simp [tt_length])
  intro i h1 h2
  rw [List.getElem_set]
  simp only [tt, List.getElem_map, List.getElem_range]
  by_cases h : i = k
  · rw [if_pos h.symm, if_pos h]
  · rw [if_neg (fun e => h e.symm), if_neg h]
theorem tt_zero : (tt fun _ => 0) = List.replicate 256 0 := by decide +kernel

def BX : List UInt8 := tt fun i => box (UInt8.ofNat i)
def BK : List UInt8 := tt fun i => back (UInt8.ofNat i)
/-- The tables so far: of the first i bytes. -/
def bxs (i : Nat) : List UInt8 := tt fun j => if j < i then box (UInt8.ofNat j) else 0
def bks (i : Nat) : List UInt8 := tt fun j => if (back (UInt8.ofNat j)).toNat < i then back (UInt8.ofNat j) else 0
theorem bxs_zero : bxs 0 = List.replicate 256 0 := by rw [← tt_zero]; exact tt_ext fun i _ => if_neg (by omega)
theorem bks_zero : bks 0 = List.replicate 256 0 := by rw [← tt_zero]; exact tt_ext fun i _ => if_neg (by omega)
theorem bxs_all : bxs 256 = BX := tt_ext fun i h => if_pos h
theorem bks_all : bks 256 = BK := tt_ext fun i _ => if_pos (UInt8.toNat_lt _)
theorem bxs_set (i : Nat) : (bxs i).set i (box (UInt8.ofNat i)) = bxs (i + 1) := by
  rw [bxs, tt_set]
  refine tt_ext fun j _ => ?_
  by_cases h : j = i
  · subst h; rw [if_pos rfl, if_pos (Nat.lt_succ_self _)]
  · rw [if_neg h]
    by_cases h2 : j < i
    · rw [if_pos h2, if_pos (by omega)]
    · rw [if_neg h2, if_neg (by omega)]
theorem bks_set (i : Nat) (hi : i < 256) : (bks i).set (box (UInt8.ofNat i)).toNat (UInt8.ofNat i) = bks (i + 1) := by
  rw [bks, tt_set]
  refine tt_ext fun j hj => ?_
  have hn : (UInt8.ofNat i).toNat = i := by rw [UInt8.toNat_ofNat']; omega
  by_cases h : j = (box (UInt8.ofNat i)).toNat
  · have hb : back (UInt8.ofNat j) = UInt8.ofNat i := by rw [h, UInt8.ofNat_toNat, Field.back_box]
    rw [if_pos h, hb, hn, if_pos (Nat.lt_succ_self _)]
  · rw [if_neg h]
    have hne : (back (UInt8.ofNat j)).toNat ≠ i := fun e => h (by
      have h1 : back (UInt8.ofNat j) = UInt8.ofNat i := by rw [← e, UInt8.ofNat_toNat]
      rw [← h1, Field.box_back, UInt8.toNat_ofNat']; omega)
    by_cases h2 : (back (UInt8.ofNat j)).toNat < i
    · rw [if_pos h2, if_pos (by omega)]
    · rw [if_neg h2, if_neg (by omega)]
theorem BX_get (x : UInt8) : BX[x.toNat]? = some (box x) := by rw [BX, tt_get _ _ x.toNat_lt, UInt8.ofNat_toNat]
theorem BK_get (x : UInt8) : BK[x.toNat]? = some (back x) := by rw [BK, tt_get _ _ x.toNat_lt, UInt8.ofNat_toNat]
theorem bxs_length (i : Nat) : (bxs i).length = 256 := tt_length _
theorem bks_length (i : Nat) : (bks i).length = 256 := tt_length _
theorem BX_length : BX.length = 256 := tt_length _
theorem BK_length : BK.length = 256 := tt_length _
attribute [irreducible] BX BK bxs bks

set_option maxRecDepth 100000
/-- A cipher's cells. -/
def cph (N : Nat) (K bx bk : List UInt8) : List Value := .int .i64 (N : Int) :: bvs (K ++ (bx ++ bk))
theorem cph_length {N : Nat} {K bx bk : List UInt8} (hK : K.length = 240) (hx : bx.length = 256) (hk : bk.length = 256) : (cph N K bx bk).length = 753 := by
  rw [cph, List.length_cons, bvs_length, List.length_append, List.length_append, hK, hx, hk]
theorem cph_zero (N : Nat) (K bx bk : List UInt8) : (cph N K bx bk)[0]? = some (.int .i64 (N : Int)) := rfl
theorem bvs_at {l : List UInt8} {i : Nat} {x : UInt8} (h : l[i]? = some x) : (bvs l)[i]? = some (.int .u8 (cb x)) := by
  rw [bvs, List.getElem?_map, h]; rfl
theorem cph_key {N : Nat} {K bx bk : List UInt8} (hK : K.length = 240) (i : Nat) (h : i < 240) : (cph N K bx bk)[1 + i]? = some (.int .u8 (cb (gb K i))) := by
  rw [cph, Nat.add_comm, List.getElem?_cons_succ]
  exact bvs_at (by rw [List.getElem?_append_left (by omega), List.getElem?_eq_getElem (by omega), gb, List.getD, List.getElem?_eq_getElem (by omega)]; rfl)
theorem cph_bx {N : Nat} {K bx bk : List UInt8} (hK : K.length = 240) (hx : bx.length = 256) (i : Nat) (x : UInt8) (h : bx[i]? = some x) : (cph N K bx bk)[241 + i]? = some (.int .u8 (cb x)) := by
  have hi : i < 256 := by rw [← hx]; exact (List.getElem?_eq_some_iff.1 h).1
  rw [cph, show 241 + i = (240 + i) + 1 by omega, List.getElem?_cons_succ]
  exact bvs_at (by rw [List.getElem?_append_right (by omega), hK, List.getElem?_append_left (by omega), ← h]; congr 1; omega)
theorem cph_bk {N : Nat} {K bx bk : List UInt8} (hK : K.length = 240) (hx : bx.length = 256) (i : Nat) (x : UInt8) (h : bk[i]? = some x) : (cph N K bx bk)[497 + i]? = some (.int .u8 (cb x)) := by
  rw [cph, show 497 + i = (496 + i) + 1 by omega, List.getElem?_cons_succ]
  exact bvs_at (by rw [List.getElem?_append_right (by omega), hK, List.getElem?_append_right (by omega), hx, ← h]; congr 1; omega)
theorem cph_setx {N : Nat} {K bx bk : List UInt8} (hK : K.length = 240) (i : Nat) (x : UInt8) (hi : i < bx.length) : (cph N K bx bk).set (241 + i) (.int .u8 (cb x)) = cph N K (bx.set i x) bk := by
  rw [cph, show 241 + i = (240 + i) + 1 by omega, List.set_cons_succ, bvs_setb, List.set_append_right _ _ (by omega), hK, show 240 + i - 240 = i by omega, List.set_append_left _ _ hi]
  rfl
theorem cph_setk {N : Nat} {K bx bk : List UInt8} (hK : K.length = 240) (hx : bx.length = 256) (i : Nat) (x : UInt8) : (cph N K bx bk).set (497 + i) (.int .u8 (cb x)) = cph N K bx (bk.set i x) := by
  rw [cph, show 497 + i = (496 + i) + 1 by omega, List.set_cons_succ, bvs_setb, List.set_append_right _ _ (by omega), hK, List.set_append_right _ _ (by omega), hx, show 496 + i - 240 - 256 = i by omega]
  rfl
attribute [irreducible] cph
end Go.Proofs.YtdoioldlaehkhaaDoor.Aes
