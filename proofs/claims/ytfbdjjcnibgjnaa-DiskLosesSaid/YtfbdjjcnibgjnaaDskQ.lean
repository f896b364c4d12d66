/- What each sector may be behind a loss of power, as slices of texts in a block. No call is walked here. -/
import Derived.Test.YtfbdjjcnibgjnaaDskO
import Derived.Test.YtfbdjjcnibgjnaaRegN
namespace Go.Proofs.Ytfbdjjcnibgjnaa.Disk
set_option linter.unusedVariables false
set_option linter.unusedSimpArgs false
open Go Go.RowKit Kit

structure Sl where
  A : Option Addr
  n : Nat
  c : Nat
def Sl.v (s : Sl) : Value := .slice s.A s.n s.c
def txt (l : List UInt8) : Value := .string (str l)
/-- The block of six slices, each in a block of its own. -/
structure Mz (w : World) (gm : Nat) (sl : List Sl) (m : Nat → List (List UInt8)) : Prop where
  len : sl.length = 6
  blk : Blk w gm 31 (sl.map Sl.v)
  row : ∀ (q : Nat) (s : Sl), sl[q]? = some s → RowAt 9 w s.A s.n s.c ((m q).map txt)
  far : ∀ (q : Nat) (s : Sl), sl[q]? = some s → ab s.A ≠ some gm
  ap : ∀ (q r : Nat) (s t : Sl), q ≠ r → sl[q]? = some s → sl[r]? = some t → ab s.A ≠ ab t.A
  out : ∀ q, 6 ≤ q → m q = []
def Fm (gm : Nat) (sl : List Sl) : Nat → Prop := fun k => k = gm ∨ ∃ (q : Nat) (s : Sl), sl[q]? = some s ∧ ab s.A = some k
theorem Mz.lt {w : World} {gm : Nat} {sl : List Sl} {m : Nat → List (List UInt8)} (h : Mz w gm sl m) : ∀ k, Fm gm sl k → k < w.heap.size := by
  rintro k (rfl | ⟨q, s, hs, e⟩)
  · exact h.blk.lt
  · exact (h.row q s hs).lt k e
theorem Mz.keep {F : Nat → Prop} {w w2 : World} {gm : Nat} {sl : List Sl} {m : Nat → List (List UInt8)} (h : Mz w gm sl m) (k : Kp F w w2) (hF : ∀ k, Fm gm sl k → ¬ F k) : Mz w2 gm sl m :=
  ⟨h.len, h.blk.keep k (hF _ (.inl rfl)), fun q s hs => (h.row q s hs).keep k (fun j e => hF j (.inr ⟨q, s, hs, e⟩)), h.far, h.ap, h.out⟩
theorem Mz.at_ {w : World} {gm : Nat} {sl : List Sl} {m : Nat → List (List UInt8)} (h : Mz w gm sl m) (p : Nat) (hp : p < 6) : ∃ s, sl[p]? = some s ∧ w.cell? ⟨gm, p, none⟩ = some (.slice s.A s.n s.c) ∧ w.frozen? ⟨gm, p, none⟩ = false ∧ s.n = (m p).length := by
  obtain ⟨s, hs⟩ : ∃ s, sl[p]? = some s := ⟨_, List.getElem?_eq_getElem (by rw [h.len]; exact hp)⟩
  refine ⟨s, hs, ?_, h.blk.frozen p, ?_⟩
  · rw [h.blk.cell, List.getElem?_map, hs]; rfl
  · have := (h.row p s hs).len; rw [List.length_map] at this; exact this.symm
/-- One slice is another now. -/
theorem Mz.set {w1 : World} {gm : Nat} {sl : List Sl} {m m2 : Nat → List (List UInt8)} (p : Nat) (s t : Sl) (hs : sl[p]? = some s) (hp : p < 6) (hlen : sl.length = 6) (hblk : Blk w1 gm 31 (sl.map Sl.v))
    (hrow : ∀ (q : Nat) (u : Sl), q ≠ p → sl[q]? = some u → RowAt 9 w1 u.A u.n u.c ((m q).map txt)) (ht : RowAt 9 w1 t.A t.n t.c ((m2 p).map txt))
    (hfar : ∀ (q : Nat) (s : Sl), sl[q]? = some s → ab s.A ≠ some gm) (htf : ab t.A ≠ some gm) (hap : ∀ (q r : Nat) (s t : Sl), q ≠ r → sl[q]? = some s → sl[r]? = some t → ab s.A ≠ ab t.A) (hta : ∀ (q : Nat) (u : Sl), q ≠ p → sl[q]? = some u → ab u.A ≠ ab t.A)
    (hm : ∀ q, q ≠ p → m2 q = m q) (hout : ∀ q, 6 ≤ q → m q = []) : Mz (w1.setCell ⟨gm, p, none⟩ t.v) gm (sl.set p t) m2 := by
  have kg : Kp (oneB gm) w1 (w1.setCell ⟨gm, p, none⟩ t.v) := (Kp.refl (oneB gm) w1).setCell (p := ⟨gm, p, none⟩) (.inl rfl) _
  have hsp : (sl.set p t)[p]? = some t := by rw [List.getElem?_set, if_pos rfl, if_pos (by omega)]
  have hsq : ∀ q, q ≠ p → (sl.set p t)[q]? = sl[q]? := fun q hq => by rw [List.getElem?_set, if_neg (fun e => hq e.symm)]
  refine ⟨by rw [List.length_set]; exact hlen, ?_, fun q u hu => ?_, fun q u hu => ?_, fun q r u v hqr hu hv => ?_, fun q hq => ?_⟩
  · rw [List.map_set]; exact hblk.set_ p t.v
  · by_cases e : q = p
    · subst e
      rw [hsp] at hu; cases hu
      exact ht.keep kg (fun j e1 e2 => htf (by rw [e1]; exact congrArg some e2))
    · rw [hsq q e] at hu
      rw [hm q e]
      exact (hrow q u e hu).keep kg (fun j e1 e2 => hfar q u hu (by rw [e1]; exact congrArg some e2))
  · by_cases e : q = p
    · subst e; rw [hsp] at hu; cases hu; exact htf
    · rw [hsq q e] at hu; exact hfar q u hu
  · by_cases e : q = p
    · subst e
      rw [hsp] at hu; cases hu
      rw [hsq r (fun x => hqr x.symm)] at hv
      exact fun x => hta r v (fun y => hqr y.symm) hv x.symm
    · rw [hsq q e] at hu
      by_cases e2 : r = p
      · subst e2; rw [hsp] at hv; cases hv; exact hta q u e hu
      · rw [hsq r e2] at hv; exact hap q r u v hqr hu hv
  · rw [hm q (by omega)]; exact hout q hq
theorem fm_set {gm : Nat} {sl : List Sl} {p : Nat} {t : Sl} {B : Nat} (ht : ∀ k, ab t.A = some k → Fm gm sl k ∨ B ≤ k) : ∀ k, Fm gm (sl.set p t) k → Fm gm sl k ∨ B ≤ k := by
  rintro k (e | ⟨q, s, hs, e⟩)
  · exact .inl (.inl e)
  · by_cases hq : q = p
    · subst hq
      rw [List.getElem?_set, if_pos rfl] at hs
      split at hs
      · cases hs; exact ht k e
      · cases hs
    · rw [List.getElem?_set, if_neg (fun x => hq x.symm)] at hs
      exact .inl (.inr ⟨q, s, hs, e⟩)
/-- A text is appended. -/
theorem Mz.app {w w2 : World} {gm : Nat} {sl : List Sl} {m : Nat → List (List UInt8)} (h : Mz w gm sl m) (p : Nat) (hp : p < 6) (s : Sl) (hs : sl[p]? = some s) (A' : Option Addr) (c' : Nat) (l : List UInt8)
    (ho : RowAt 9 w2 A' (s.n + 1) c' ((m p).map txt ++ [txt l])) (hg : w.grownBy w2 (ab s.A)) (ha : ab A' = ab s.A ∨ ab A' = some w.heap.size) :
    Mz (w2.setCell ⟨gm, p, none⟩ (.slice A' (s.n + 1) c')) gm (sl.set p ⟨A', s.n + 1, c'⟩) (add m p l) ∧ (∀ k, Fm gm (sl.set p ⟨A', s.n + 1, c'⟩) k → Fm gm sl k ∨ w.heap.size ≤ k) ∧ Kp (Fm gm sl) w (w2.setCell ⟨gm, p, none⟩ (.slice A' (s.n + 1) c')) := by
  have kF : Kp (fun i => ab s.A = some i) w w2 := (Kp.refl _ _).grown hg (fun k e => .inl e)
  have hsz := h.blk.lt
  refine ⟨Mz.set p s ⟨A', s.n + 1, c'⟩ hs hp h.len (h.blk.keep kF (h.far p s hs)) (fun q u hq hu => (h.row q u hu).keep kF (fun j e1 e2 => h.ap q p u s hq hu hs (by rw [e1, e2]))) ?_ h.far ?_ h.ap (fun q u hq hu e => ?_) (fun q hq => by unfold add; rw [if_neg hq]) h.out, fm_set (fun k e => ?_), ?_⟩
  · show RowAt _ _ _ _ _ ((add m p l p).map txt)
    unfold add
    rw [if_pos rfl, List.map_append]
    exact ho
  · show ab A' ≠ some gm
    rcases ha with e | e
    · rw [e]; exact h.far p s hs
    · rw [e]; intro x; injection x with x; omega
  · have e : ab u.A = ab A' := e
    rcases ha with e2 | e2
    · exact h.ap q p u s hq hu hs (e.trans e2)
    · have := (h.row q u hu).lt w.heap.size (e.trans e2); omega
  · have e : ab A' = some k := e
    rcases ha with e2 | e2
    · exact .inl (.inr ⟨p, s, hs, by rw [← e2]; exact e⟩)
    · right; rw [e2] at e; injection e with e; omega
  · exact (kF.mono (fun i _ e => .inr ⟨p, s, hs, e⟩)).setCell (p := ⟨gm, p, none⟩) (.inl (.inl rfl)) _
def lastOf (m : Nat → List (List UInt8)) (p : Nat) (v : List UInt8) : Nat → List (List UInt8) := fun q => if q = p then [v] else m q
theorem drop_last {α : Type} (l : List α) (n : Nat) (v : α) (hn : l.length = n + 1) (h : l.getLast? = some v) : l.drop n = [v] := by
  rw [List.getLast?_eq_getElem?, hn, Nat.add_sub_cancel] at h
  rw [List.drop_eq_getElem_cons (by omega), List.drop_of_length_le (by omega)]
  rw [List.getElem?_eq_getElem (by omega)] at h
  rw [Option.some.inj h]
/-- All but the last are cut away. -/
theorem Mz.cut {w : World} {gm : Nat} {sl : List Sl} {m : Nat → List (List UInt8)} (h : Mz w gm sl m) (p : Nat) (hp : p < 6) (s : Sl) (hs : sl[p]? = some s) (n : Nat) (hn : s.n = n + 1) (v : List UInt8) (hv : (m p).getLast? = some v) :
    Mz (w.setCell ⟨gm, p, none⟩ (.slice (cutA s.A s.c n) 1 (s.c - n))) gm (sl.set p ⟨cutA s.A s.c n, 1, s.c - n⟩) (lastOf m p v) ∧ (∀ k, Fm gm (sl.set p ⟨cutA s.A s.c n, 1, s.c - n⟩) k → Fm gm sl k ∨ w.heap.size ≤ k) ∧ Kp (Fm gm sl) w (w.setCell ⟨gm, p, none⟩ (.slice (cutA s.A s.c n) 1 (s.c - n))) := by
  have hr := h.row p s hs
  have hl := hr.len
  rw [List.length_map] at hl
  have hcap := hr.cap
  have hd := drop_last (m p) n v (by omega) hv
  have hc := hr.cut n (by omega)
  rw [← List.map_drop, hd] at hc
  have ha : ab (cutA s.A s.c n) = ab s.A := by
    obtain ⟨g, o, cur, e, _⟩ := hr
    rw [e]; unfold cutA
    rw [if_neg (by omega)]
    show some ((⟨g, o, none⟩ : Addr).add n).block = some g
    congr 1
    unfold Addr.add; split <;> rfl
  refine ⟨Mz.set p s ⟨cutA s.A s.c n, 1, s.c - n⟩ hs hp h.len h.blk (fun q u hq hu => h.row q u hu) ?_ h.far (by show ab (cutA s.A s.c n) ≠ _; rw [ha]; exact h.far p s hs) h.ap (fun q u hq hu => by show ab u.A ≠ ab (cutA s.A s.c n); rw [ha]; exact h.ap q p u s hq hu hs) (fun q hq => by unfold lastOf; rw [if_neg hq]) h.out, fm_set (fun k e => .inl (.inr ⟨p, s, hs, by rw [← ha]; exact e⟩)), (Kp.refl _ w).setCell (p := ⟨gm, p, none⟩) (.inl (.inl rfl)) _⟩
  show RowAt _ _ _ _ _ ((lastOf m p v p).map txt)
  unfold lastOf
  rw [if_pos rfl]
  rw [show s.n - n = 1 by omega] at hc
  exact hc
/-- The disk, and what its sectors may be, apart, in blocks that are new since w. -/
structure Lo (w wr : World) (g N S : Nat) (W : Option Addr) (cW : Nat) (D : Dk) (gm : Nat) (sl : List Sl) (m : Nat → List (List UInt8)) : Prop where
  fo : Fo w wr g N S W cW D
  mz : Mz wr gm sl m
  ap : ∀ k, Fm gm sl k → ¬ dF g N S W k
  fr : ∀ k, Fm gm sl k → w.heap.size ≤ k
theorem Lo.keep0 {w wr w2 : World} {g N S : Nat} {W : Option Addr} {cW : Nat} {D : Dk} {gm : Nat} {sl : List Sl} {m : Nat → List (List UInt8)} (h : Lo w wr g N S W cW D gm sl m) (k : Kp nob wr w2) : Lo w w2 g N S W cW D gm sl m :=
  ⟨h.fo.keep0 k, h.mz.keep k (fun _ _ e => e), h.ap, h.fr⟩
theorem Lo.turn {w wr w2 : World} {g N S : Nat} {W : Option Addr} {cW : Nat} {D D2 : Dk} {gm : Nat} {sl : List Sl} {m : Nat → List (List UInt8)} (h : Lo w wr g N S W cW D gm sl m) (hz : Dz wr g N S W D2 w2) : ∃ W2 c2, Lo w w2 g N S W2 c2 D2 gm sl m := by
  obtain ⟨W2, c2, h1, h2, h3⟩ := hz
  refine ⟨W2, c2, ⟨h1, fun k e => ?_, h.fo.k.since h2 h.fo.f⟩, h.mz.keep h2 h.ap, fun k e e2 => ?_, h.fr⟩
  · rcases Dz.df (w := wr) (w2 := w2) h3 k e with h4 | h4
    · exact h.fo.f k h4
    · exact Nat.le_trans h.fo.k.size h4
  · rcases Dz.df (w := wr) (w2 := w2) h3 k e2 with h4 | h4
    · exact h.ap k e h4
    · have := h.mz.lt k e; omega
theorem Lo.side {w wr w2 : World} {g N S : Nat} {W : Option Addr} {cW : Nat} {D : Dk} {gm : Nat} {sl sl2 : List Sl} {m m2 : Nat → List (List UInt8)} (h : Lo w wr g N S W cW D gm sl m) (hz : Mz w2 gm sl2 m2 ∧ (∀ k, Fm gm sl2 k → Fm gm sl k ∨ wr.heap.size ≤ k) ∧ Kp (Fm gm sl) wr w2) : Lo w w2 g N S W cW D gm sl2 m2 := by
  obtain ⟨h1, h2, h3⟩ := hz
  refine ⟨⟨h.fo.d.keep h3 (fun k e e2 => h.ap k e2 e), h.fo.f, h.fo.k.since h3 h.fr⟩, h1, fun k e e2 => ?_, fun k e => ?_⟩
  · rcases h2 k e with h4 | h4
    · exact h.ap k h4 e2
    · have := h.fo.d.lt k e2; omega
  · rcases h2 k e with h4 | h4
    · exact h.fr k h4
    · exact Nat.le_trans h.fo.k.size h4
/-- What all is at first. -/
def m0 : Nat → List (List UInt8) := fun q => if q < 6 then [full []] else []
theorem may_new : May (new 6) m0 := by
  have hv : ∀ p v, (List.replicate 6 (full []))[p]? = some v → m0 p = [v] := fun p v h => by
    rw [List.getElem?_replicate] at h
    split at h
    · rename_i h6; unfold m0; rw [if_pos h6, Option.some.inj h]
    · cases h
  refine ⟨new_ok 6, fun _ p v h => ?_, fun p v h => ?_, (fun x hx => by cases hx), (fun e => by cases e)⟩
  · rw [hv p v h]; rfl
  · rw [hv p v h]; simp
theorem May.arm {d : Dk} {m : Nat → List (List UInt8)} (h : May d m) (n : Int) (k : Nat) : May (Disk.arm d n k) m := ⟨⟨h.ok.safe, h.ok.now, h.ok.safe2, h.ok.waits⟩, h.now, h.safe, h.waits, h.off⟩
theorem eqs (a b : List UInt8) : ((str a).toList == (str b).toList) = decide (a = b) := by
  rw [Bool.eq_iff_iff, decide_eq_true_iff, beq_iff_eq]
  constructor
  · intro h; simpa [str] using h
  · rintro rfl; rfl
end Go.Proofs.Ytfbdjjcnibgjnaa.Disk
