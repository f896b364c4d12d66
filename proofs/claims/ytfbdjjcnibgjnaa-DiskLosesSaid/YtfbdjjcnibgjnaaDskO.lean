/- Sectors as one row of bytes, behind a forgery; a disk whose power stays on. No call is walked here. -/
import Derived.Test.YtfbdjjcnibgjnaaDskN
namespace Go.Proofs.Ytfbdjjcnibgjnaa.Disk
set_option linter.unusedVariables false
set_option linter.unusedSimpArgs false
open Go Go.RowKit Kit

theorem flat_at (ls : List (List UInt8)) (h : ∀ s ∈ ls, s.length = 256) (q r : Nat) (s : List UInt8) (hs : ls[q]? = some s) (hr : r < 256) : ls.flatten[q * 256 + r]? = s[r]? := by
  induction ls generalizing q with
  | nil => cases hs
  | cons a ls ih =>
    have ha : a.length = 256 := h a (by simp)
    rw [List.flatten_cons]
    cases q with
    | zero =>
      simp only [List.getElem?_cons_zero, Option.some.injEq] at hs
      subst hs
      rw [List.getElem?_append_left (by omega)]; congr 1; omega
    | succ q =>
      rw [List.getElem?_append_right (by omega), ha]
      rw [List.getElem?_cons_succ] at hs
      rw [show (q + 1) * 256 + r - 256 = q * 256 + r by omega]
      exact ih (fun a ha => h a (by simp [ha])) q hs
/-- What a byte of the image is behind a forgery. -/
theorem forged_image (D : Dk) (hok : Ok D) (p : Nat) (b : List UInt8) (hp : p < D.now.length) (hb : b.length ≤ 256) (k q r : Nat) (hk : k = q * 256 + r) (hr : r < 256) (hq : q < D.now.length) :
    ∃ x y : UInt8, (image D)[k]? = some x ∧ (image (forged D p b))[k]? = some y ∧ (q ≠ p → y = x) ∧ (q = p → ∀ h : r < b.length, y = b[r]) ∧ (q = p → b.length ≤ r → y = 0) := by
  have hfo := forged_ok D p b hok hb
  obtain ⟨s, hs⟩ : ∃ s, D.now[q]? = some s := ⟨_, List.getElem?_eq_getElem hq⟩
  have hsl := hok.now s (List.mem_of_getElem? hs)
  have h1 : (image D)[k]? = some (s[r]'(by omega)) := by rw [hk]; show D.now.flatten[_]? = _; rw [flat_at _ hok.now q r s hs hr, List.getElem?_eq_getElem]
  by_cases hqp : q = p
  · subst hqp
    have h2 : (forged D q b).now[q]? = some (full b) := forged_at D q b hq
    have hl := full_length b hb
    have h3 : (image (forged D q b))[k]? = some ((full b)[r]'(by omega)) := by rw [hk]; show (forged D q b).now.flatten[_]? = _; rw [flat_at _ hfo.now q r _ h2 hr, List.getElem?_eq_getElem]
    refine ⟨_, _, h1, h3, fun e => absurd rfl e, fun _ h => ?_, fun _ h => ?_⟩
    · simp only [full]; rw [List.getElem_append_left h]
    · simp only [full]; rw [List.getElem_append_right h, List.getElem_replicate]
  · have h2 : (forged D p b).now[q]? = some s := by rw [forged_far D p q b hqp]; exact hs
    have h3 : (image (forged D p b))[k]? = some (s[r]'(by omega)) := by rw [hk]; show (forged D p b).now.flatten[_]? = _; rw [flat_at _ hfo.now q r s h2 hr, List.getElem?_eq_getElem]
    exact ⟨_, _, h1, h3, fun _ => rfl, fun e => absurd e hqp, fun e => absurd e hqp⟩
/-- The power is on, and there is no fuse. -/
structure Qt (D : Dk) : Prop where
  off : D.off = false
  fuse : D.fuse = 0
theorem Qt.no {D : Dk} (h : Qt D) : (act D).2 = false := by
  rw [act_on D h.off, h.fuse]; rfl
theorem Qt.act {D : Dk} (h : Qt D) : Qt (act D).1 := by
  rw [act_on D h.off]
  exact ⟨h.off, by show D.fuse - 1 = 0; rw [h.fuse]⟩
theorem Qt.write {D : Dk} (h : Qt D) (i : Int) (b : List UInt8) : Qt (write E8 D i b).1 := by
  unfold Disk.write
  split
  · exact h
  · split
    · exact h
    · split
      · exact h
      · rw [h.no]
        exact ⟨h.act.off, h.act.fuse⟩
theorem Qt.sync {D : Dk} (h : Qt D) : Qt (sync E8 D).1 := by
  unfold Disk.sync
  split
  · exact h
  · rw [h.no]
    exact ⟨h.act.off, h.act.fuse⟩
theorem Qt.lost {D : Dk} (h : Qt D) (q : Nat) : Qt (on (lose D q)) := by
  rw [lose_on D q h.off]; exact ⟨rfl, rfl⟩
/-- What a call of DiskForges' script leaves of a disk. -/
def stepF (D : Dk) (x : Cc) : Dk := if x.kind = 0 then (write E8 D x.i x.l).1 else if x.kind = 2 then (sync E8 D).1 else if x.kind = 3 then on (lose D x.K) else D
theorem sf0 (D : Dk) (x : Cc) (h : x.kind = 0) : stepF D x = (write E8 D x.i x.l).1 := by rw [stepF, if_pos h]
theorem sf2 (D : Dk) (x : Cc) (h : x.kind = 2) : stepF D x = (sync E8 D).1 := by rw [stepF, if_neg (by omega), if_pos h]
theorem sf3 (D : Dk) (x : Cc) (h : x.kind = 3) : stepF D x = on (lose D x.K) := by rw [stepF, if_neg (by omega), if_neg (by omega), if_pos h]
theorem sf7 (D : Dk) (x : Cc) (h : x.kind ≠ 0 ∧ x.kind ≠ 2 ∧ x.kind ≠ 3) : stepF D x = D := by rw [stepF, if_neg h.1, if_neg h.2.1, if_neg h.2.2]
theorem kindf (k : Int) : k = 0 ∨ k = 2 ∨ k = 3 ∨ (k ≠ 0 ∧ k ≠ 2 ∧ k ≠ 3) := by omega
theorem Qt.step {D : Dk} (h : Qt D) (x : Cc) : Qt (stepF D x) := by
  rcases kindf x.kind with e | e | e | e
  · rw [sf0 D x e]; exact h.write _ _
  · rw [sf2 D x e]; exact h.sync
  · rw [sf3 D x e]; exact h.lost _
  · rw [sf7 D x e]; exact h
theorem Sm.stepF {D : Dk} {k m : Nat} {x : Cc} (h : Sm D k m) (hok : Ok D) : Sm (stepF D x) (k + 1) m := by
  rcases kindf x.kind with e | e | e | e
  · rw [sf0 D x e]; exact h.write hok _ _
  · rw [sf2 D x e]; exact h.sync hok
  · rw [sf3 D x e]
    have h1 := (h.lose hok x.K).up
    exact ⟨h1.acts, h1.waits, h1.fuse, h1.keep, h1.len⟩
  · rw [sf7 D x e]; exact h.up
/-- One disk, in blocks that are new since w. -/
structure Fo (w wr : World) (g N S : Nat) (W : Option Addr) (cW : Nat) (D : Dk) : Prop where
  d : Cd wr g N S W cW D
  f : ∀ k, dF g N S W k → w.heap.size ≤ k
  k : Kp nob w wr
theorem Fo.keep0 {w wr w2 : World} {g N S : Nat} {W : Option Addr} {cW : Nat} {D : Dk} (h : Fo w wr g N S W cW D) (k : Kp nob wr w2) : Fo w w2 g N S W cW D := ⟨h.d.keep0 k, h.f, h.k.trans k (fun _ e => e.elim)⟩
theorem Fo.turn {w wr w2 : World} {g N S : Nat} {W : Option Addr} {cW : Nat} {D D2 : Dk} (h : Fo w wr g N S W cW D) (hz : Dz wr g N S W D2 w2) : ∃ W2 c2, Fo w w2 g N S W2 c2 D2 := by
  obtain ⟨W2, c2, h1, h2, h3⟩ := hz
  refine ⟨W2, c2, h1, fun k e => ?_, h.k.since h2 h.f⟩
  rcases Dz.df (w := wr) (w2 := w2) h3 k e with h4 | h4
  · exact h.f k h4
  · exact Nat.le_trans h.k.size h4
theorem Fo.far {w wr : World} {g N S : Nat} {W : Option Addr} {cW : Nat} {D : Dk} (h : Fo w wr g N S W cW D) (q : Nat) (hq : wr.heap.size ≤ q) : ¬ dF g N S W q := fun e => by have := h.d.lt q e; omega
theorem lost_at (D : Dk) (p : Nat) (b : List UInt8) (K : Nat) (hok : Ok D) (hp : p < D.now.length) : (on (lose (forged D p b) K)).now[p]? = some (full b) := forged_lose D p b K hok hp
end Go.Proofs.Ytfbdjjcnibgjnaa.Disk
