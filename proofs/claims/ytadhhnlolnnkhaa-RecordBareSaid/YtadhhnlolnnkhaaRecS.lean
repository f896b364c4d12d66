/- Records as bytes, on lists: which can be, what they are written as, what is read. No program is named here. -/
import Derived.Test.YtadhhnlolnnkhaaCodeNS
namespace Go.Proofs.Ytadhhnlolnnkhaa.Rec
set_option linter.unusedVariables false
set_option linter.unusedSimpArgs false
open Go Go.RowKit Kit

theorem sNum_app (n : Int) (W : List UInt8) (h : -9223372036854775808 ≤ n ∧ n ≤ 9223372036854775807) : sNum (num8 n ++ W, false) = (n, (W, false)) := by
  unfold sNum
  rw [sTake_app (num8 n) W 8 (by simp)]
  simp only [num8_forth n h]
theorem sNum_split (s : List UInt8 × Bool) (h : (sNum s).2.2 = false) : num8 (sNum s).1 ++ (sNum s).2.1 = s.1 ∧ s.2 = false ∧ -9223372036854775808 ≤ (sNum s).1 ∧ (sNum s).1 ≤ 9223372036854775807 := by
  simp only [sNum] at *
  have := sTake_split s 8 h
  refine ⟨?_, this.2.1, ?_⟩
  · rw [num8_back _ (by omega)]
    exact this.1
  · have h2 := lowN_lt (sTake s 8).1.1
    generalize lowN (sTake s 8).1.1 = x
    unfold wrap64; omega
theorem sNum_bad (s : List UInt8 × Bool) (h : s.2 = true) : (sNum s).2 = bust := by
  simp only [sNum, sTake_no s 8 (.inr h)]
theorem sText_app (l W : List UInt8) (most : Int) (h : (l.length : Int) ≤ most) (h2 : l.length ≤ 65536) : sText (textB (str l) ++ W, false) most = (l, (W, false)) := by
  have ht : textB (str l) = le 3 l.length ++ l := by unfold textB; rw [str_size, if_pos (by omega), sl_str]
  have e1 : sTake (textB (str l) ++ W, false) 3 = ((le 3 l.length, true), (l ++ W, false)) := by
    rw [ht, List.append_assoc]; exact sTake_app _ _ _ (by simp)
  have e2 : lowN (le 3 l.length) = l.length := by rw [lowN_le]; exact Nat.mod_eq_of_lt (by omega)
  have e3 : sTake (l ++ W, false) (l.length : Int) = ((l, true), (W, false)) := sTake_app _ _ _ (by simp)
  unfold sText
  rw [e1]
  simp only [e2, e3]
  rw [if_neg (by omega)]
theorem sText_split (s : List UInt8 × Bool) (most : Int) (h : (sText s most).2.2 = false) : textB (str (sText s most).1) ++ (sText s most).2.1 = s.1 ∧ s.2 = false ∧ ((sText s most).1.length : Int) ≤ most := by
  unfold sText at *
  split at h
  · simp [bust] at h
  · rename_i hmin
    rw [if_neg hmin]
    have h2 := sTake_split _ _ h
    have h1 := sTake_split s 3 h2.2.1
    have hN := lowN_lt (sTake s 3).1.1
    rw [show (sTake s 3).1.1.length = 3 by omega] at hN
    have hlen : (sTake (sTake s 3).2 (lowN (sTake s 3).1.1 : Nat)).1.1.length = lowN (sTake s 3).1.1 := by omega
    refine ⟨?_, h1.2.1, by simp only [hlen]; omega⟩
    simp only [textB, str_size, sl_str, hlen, if_pos hN]
    rw [List.append_assoc, h2.1]
    have := le_lowN (sTake s 3).1.1
    rw [show (sTake s 3).1.1.length = 3 by omega] at this
    rw [this, h1.1]

structure Rec where
  kind : Int
  queue : Int
  id : Int
  num : Int
  wait : Int
  body : List UInt8
deriving DecidableEq
def inB (n lo hi : Int) : Bool := decide (lo ≤ n) && decide (n ≤ hi)
/-- Which records can be. -/
def good (r : Rec) : Bool :=
  let queue := inB r.queue 1 16
  let id := inB r.id 1 1099511627776
  let body := decide (r.body.length ≤ 512)
  let bare := r.body.isEmpty
  if r.kind = 1 then queue && inB r.id 1 16 && inB r.num 1 64 && inB r.wait 1 1048576 && bare
  else if r.kind = 2 then queue && decide (r.id = 0) && decide (r.num = 0) && decide (r.wait = 0) && bare
  else if r.kind = 3 then queue && id && decide (r.num = 0) && decide (r.wait = 0) && body
  else if r.kind = 4 then queue && id && inB r.num 1 1125899907891200 && decide (r.wait = 0) && bare
  else if r.kind = 5 ∨ r.kind = 6 ∨ r.kind = 10 then queue && id && decide (r.num = 0) && decide (r.wait = 0) && bare
  else if r.kind = 13 then queue && inB r.id 1 1099511627777 && decide (r.num = 0) && decide (r.wait = 0) && bare
  else if r.kind = 7 then decide (r.queue = 0) && decide (r.id = 0) && inB r.num 0 1125899906842624 && decide (r.wait = 0) && bare
  else if r.kind = 8 ∨ r.kind = 9 then decide (r.queue = 0) && id && decide (r.num = 0) && decide (r.wait = 0) && bare
  else if r.kind = 11 then queue && id && inB r.num 0 1125899907891200 && inB r.wait 0 16 && body
  else if r.kind = 12 then queue && id && decide (r.num = 0) && inB r.wait 0 16 && body
  else false
/-- What a record that can be is bounded by. -/
theorem good_bounds (r : Rec) (h : good r = true) : 1 ≤ r.kind ∧ r.kind ≤ 13 ∧ 0 ≤ r.queue ∧ r.queue ≤ 16 ∧ 0 ≤ r.id ∧ r.id ≤ 1099511627777 ∧ 0 ≤ r.num ∧ r.num ≤ 1125899907891200 ∧ 0 ≤ r.wait ∧ r.wait ≤ 1048576 ∧ r.body.length ≤ 512 := by
  obtain ⟨kind, queue, id, num, wait, body⟩ := r
  unfold good at h
  simp only [inB] at h
  show 1 ≤ kind ∧ kind ≤ 13 ∧ 0 ≤ queue ∧ queue ≤ 16 ∧ 0 ≤ id ∧ id ≤ 1099511627777 ∧ 0 ≤ num ∧ num ≤ 1125899907891200 ∧ 0 ≤ wait ∧ wait ≤ 1048576 ∧ body.length ≤ 512
  have hb : body.isEmpty = true → body.length ≤ 512 := fun e => by simp at e; simp [e]
  split at h
  · simp at h; refine ⟨by omega, by omega, by omega, by omega, by omega, by omega, by omega, by omega, by omega, by omega, hb (by simp [h])⟩
  split at h
  · simp at h; refine ⟨by omega, by omega, by omega, by omega, by omega, by omega, by omega, by omega, by omega, by omega, hb (by simp [h])⟩
  split at h
  · simp at h; refine ⟨by omega, by omega, by omega, by omega, by omega, by omega, by omega, by omega, by omega, by omega, h.2⟩
  split at h
  · simp at h; refine ⟨by omega, by omega, by omega, by omega, by omega, by omega, by omega, by omega, by omega, by omega, hb (by simp [h])⟩
  split at h
  · simp at h; refine ⟨by omega, by omega, by omega, by omega, by omega, by omega, by omega, by omega, by omega, by omega, hb (by simp [h])⟩
  split at h
  · simp at h; refine ⟨by omega, by omega, by omega, by omega, by omega, by omega, by omega, by omega, by omega, by omega, hb (by simp [h])⟩
  split at h
  · simp at h; refine ⟨by omega, by omega, by omega, by omega, by omega, by omega, by omega, by omega, by omega, by omega, hb (by simp [h])⟩
  split at h
  · simp at h; refine ⟨by omega, by omega, by omega, by omega, by omega, by omega, by omega, by omega, by omega, by omega, hb (by simp [h])⟩
  split at h
  · simp at h; refine ⟨by omega, by omega, by omega, by omega, by omega, by omega, by omega, by omega, by omega, by omega, h.2⟩
  split at h
  · simp at h; refine ⟨by omega, by omega, by omega, by omega, by omega, by omega, by omega, by omega, by omega, by omega, h.2⟩
  · cases h
/-- Its bytes. -/
def recB (r : Rec) : List UInt8 := UInt8.ofNat r.kind.toNat :: (num8 r.queue ++ (num8 r.id ++ (num8 r.num ++ (num8 r.wait ++ textB (str r.body)))))
theorem recB_length (r : Rec) (h : r.body.length ≤ 4096) : (recB r).length = 36 + r.body.length := by
  have ht : textB (str r.body) = le 3 r.body.length ++ r.body := by unfold textB; rw [str_size, if_pos (by omega), sl_str]
  rw [recB, ht]; simp; omega
/-- The record of bytes. -/
def recRead (l : List UInt8) : Rec × (List UInt8 × Bool) :=
  let s0 := (sTake (l, false) 1)
  let q := sNum s0.2
  let i := sNum q.2
  let n := sNum i.2
  let t := sNum n.2
  let b := sText t.2 512
  (⟨((gbA s0.1.1 : Nat) : Int), q.1, i.1, n.1, t.1, b.1⟩, b.2)
where gbA (l : List UInt8) : Nat := (l.getD 0 0).toNat
def recGet (l : List UInt8) : Option Rec :=
  if l = [] then none
  else if (recRead l).2.2 = false ∧ (recRead l).2.1 = [] ∧ good (recRead l).1 = true then some (recRead l).1 else none
theorem sTake_one (b : UInt8) (l : List UInt8) : sTake (b :: l, false) 1 = (([b], true), (l, false)) := sTake_app [b] l 1 rfl
theorem recRead_cons (b : UInt8) (l : List UInt8) : recRead (b :: l) = (⟨(b.toNat : Int), (sNum (l, false)).1, (sNum (sNum (l, false)).2).1, (sNum (sNum (sNum (l, false)).2).2).1, (sNum (sNum (sNum (sNum (l, false)).2).2).2).1, (sText (sNum (sNum (sNum (sNum (l, false)).2).2).2).2 512).1⟩, (sText (sNum (sNum (sNum (sNum (l, false)).2).2).2).2 512).2) := by
  unfold recRead
  rw [sTake_one]
  rfl
theorem recRead_app (r : Rec) (W : List UInt8) (h : good r = true) : recRead (recB r ++ W) = (r, (W, false)) := by
  have hb := good_bounds r h
  have e1 := sNum_app r.queue (num8 r.id ++ (num8 r.num ++ (num8 r.wait ++ (textB (str r.body) ++ W)))) (by omega)
  have e2 := sNum_app r.id (num8 r.num ++ (num8 r.wait ++ (textB (str r.body) ++ W))) (by omega)
  have e3 := sNum_app r.num (num8 r.wait ++ (textB (str r.body) ++ W)) (by omega)
  have e4 := sNum_app r.wait (textB (str r.body) ++ W) (by omega)
  have e5 := sText_app r.body W 512 (by omega) (by omega)
  have e0 : recB r ++ W = UInt8.ofNat r.kind.toNat :: (num8 r.queue ++ (num8 r.id ++ (num8 r.num ++ (num8 r.wait ++ (textB (str r.body) ++ W))))) := by
    unfold recB; simp
  rw [e0, recRead_cons, e1]
  simp only [e2, e3, e4, e5]
  have ek : (((UInt8.ofNat r.kind.toNat).toNat : Nat) : Int) = r.kind := by rw [UInt8.toNat_ofNat']; omega
  rw [ek]
theorem recRead_recB (r : Rec) (h : good r = true) : recRead (recB r) = (r, ([], false)) := by
  have := recRead_app r [] h
  rwa [List.append_nil] at this
theorem recB_ne (r : Rec) : recB r ≠ [] := by unfold recB; simp
/-- THERE AND BACK. -/
theorem recGet_recB (r : Rec) (h : good r = true) : recGet (recB r) = some r := by
  rw [recGet, if_neg (recB_ne r), recRead_recB r h, if_pos ⟨rfl, rfl, h⟩]
theorem recGet_some (l : List UInt8) (r : Rec) (h : recGet l = some r) : good r = true ∧ recB r = l := by
  unfold recGet at h
  split at h
  · cases h
  · rename_i hn
    split at h
    · rename_i hg
      obtain ⟨h1, h2, h3⟩ := hg
      obtain rfl := Option.some.inj h
      refine ⟨h3, ?_⟩
      cases l with
      | nil => exact absurd rfl hn
      | cons b l =>
        rw [recRead_cons] at *
        simp only at h1 h2 h3
        have t5 := sText_split _ _ h1
        have t4 := sNum_split _ t5.2.1
        have t3 := sNum_split _ t4.2.1
        have t2 := sNum_split _ t3.2.1
        have t1 := sNum_split _ t2.2.1
        rw [h2, List.append_nil] at t5
        unfold recB
        simp only
        rw [t5.1, t4.1, t3.1, t2.1, t1.1]
        simp
    · cases h
theorem recB_inj (a b : Rec) (ha : good a = true) (hb : good b = true) (h : recB a = recB b) : a = b := by
  have := recGet_recB a ha
  rw [h, recGet_recB b hb] at this
  exact (Option.some.inj this).symm
/-- One byte less, or one more. -/
theorem recGet_more (r : Rec) (z : UInt8) (h : good r = true) : recGet (recB r ++ [z]) = none := by
  rw [recGet, if_neg (by simp), recRead_app r [z] h, if_neg (by simp)]
theorem recGet_less (r : Rec) (h : good r = true) (l : List UInt8) (z : UInt8) (hl : l ++ [z] = recB r) : recGet l = none := by
  cases hq : recGet l with
  | none => rfl
  | some x =>
    exfalso
    obtain ⟨hx, rfl⟩ := recGet_some _ _ hq
    have := recGet_more x z hx
    rw [hl, recGet_recB r h] at this
    cases this
attribute [irreducible] good recB recRead recGet
end Go.Proofs.Ytadhhnlolnnkhaa.Rec
