/- The disk: a write of any bytes anywhere; a disk that a law plays with. -/
import Derived.Test.YtchdobneipfghaaZDskE
namespace Go.Proofs.Ytchdobneipfghaa.Disk
set_option linter.unusedVariables false
set_option linter.unusedSimpArgs false
open Go Go.RowKit Kit

/-- A write, whatever it is. -/
theorem write_any (D : Dk) (i : Int) (A : Option Addr) (n c : Nat) (b : List UInt8) (g N S : Nat) (W : Option Addr) (cW : Nat) (w : World) (h : Cd w g N S W cW D) (hn : b.length = n) (hr : Row w A (bvs b)) (hm : n ≤ 140737488355328)
    (hw : D.waits.length ≤ 99999) (ha : D.acts ≤ 1000000000000) (hf : D.fuse ≤ 9223372036854775807) (hk : D.keep < 18446744073709551616) :
    Calls Try.prog 19 #[.pointer (some ⟨g, 0, none⟩), .int .i64 i, .slice A n c] w fun e w' => e = .returned (.int .i64 (write E8 D i b).2) ∧ Dz w g N S W (write E8 D i b).1 w' := by
  by_cases hno : D.off = true ∨ (i < 0 ∨ (D.now.length : Int) ≤ i) ∨ 256 < b.length
  · refine (write_no D i A n c b g N S W cW w h hn hr (by simp [maxLen]; omega) hno).mono ?_
    rintro e w' ⟨rfl, h2, k⟩
    rw [h2]
    exact ⟨rfl, h.self.then k⟩
  · have h1 : D.off = false := by
      cases ho : D.off with
      | false => rfl
      | true => exact absurd (.inl ho) hno
    obtain ⟨p, rfl⟩ : ∃ p : Nat, i = p := ⟨i.toNat, by omega⟩
    exact write_yes D p A n c b g N S W cW w h hn hr h1 (by omega) (by omega) hw ha hf hk
/-- A disk that a law plays with: small. -/
structure Sm (D : Dk) (k m : Nat) : Prop where
  acts : D.acts ≤ k
  waits : D.waits.length ≤ k
  fuse : D.fuse ≤ 9223372036854775807
  keep : D.keep < 18446744073709551616
  len : D.now.length = m
theorem Sm.act {D : Dk} {k m : Nat} (h : Sm D k m) : Sm (act D).1 (k + 1) m := by
  cases ho : D.off with
  | true => rw [act_off D ho]; exact ⟨by have := h.acts; show D.acts ≤ _; omega, by have := h.waits; show D.waits.length ≤ _; omega, h.fuse, h.keep, h.len⟩
  | false => rw [act_on D ho]; exact ⟨by have := h.acts; show D.acts + 1 ≤ _; omega, by have := h.waits; show D.waits.length ≤ _; omega, by have := h.fuse; show D.fuse - 1 ≤ _; omega, h.keep, h.len⟩
theorem Sm.lose {D : Dk} {k m : Nat} (h : Sm D k m) (hok : Ok D) (q : Nat) : Sm (lose D q) k m := by
  have hl := lose_length D q hok
  cases ho : D.off with
  | true => rw [lose_off D q ho]; exact h
  | false =>
    refine ⟨?_, ?_, ?_, ?_, by rw [hl, h.len]⟩ <;> rw [lose_on D q ho]
    · exact h.acts
    · exact Nat.zero_le _
    · exact Nat.zero_le _
    · exact h.keep
theorem Sm.write {D : Dk} {k m : Nat} (h : Sm D k m) (hok : Ok D) (i : Int) (b : List UInt8) : Sm (write E8 D i b).1 (k + 1) m := by
  have h0 : Sm D (k + 1) m := ⟨by have := h.acts; omega, by have := h.waits; omega, h.fuse, h.keep, h.len⟩
  unfold Disk.write
  split
  · exact h0
  · split
    · exact h0
    · split
      · exact h0
      · rename_i h1 h2 h3
        have ha := h.act
        have hon := act_on D (by simpa using h1)
        have hw : Sm (wrote (Disk.act D).1 i.toNat b) (k + 1) m := by
          refine ⟨ha.acts, ?_, ha.fuse, ha.keep, by show ((Disk.act D).1.now.set _ _).length = _; rw [List.length_set]; exact ha.len⟩
          show ((Disk.act D).1.waits ++ [_]).length ≤ _
          rw [act_length, List.length_append]
          have := h.waits
          simp; omega
        split
        · exact hw.lose (wrote_ok _ _ _ (act_ok D hok) (by rw [hon]; simp only; omega) (by omega)) _
        · exact hw
theorem Sm.sync {D : Dk} {k m : Nat} (h : Sm D k m) (hok : Ok D) : Sm (sync E8 D).1 (k + 1) m := by
  have h0 : Sm D (k + 1) m := ⟨by have := h.acts; omega, by have := h.waits; omega, h.fuse, h.keep, h.len⟩
  unfold Disk.sync
  split
  · exact h0
  · split
    · exact h.act.lose (act_ok D hok) _
    · exact ⟨h.act.acts, Nat.zero_le _, h.act.fuse, h.act.keep, h.act.len⟩
theorem Sm.forge {D : Dk} {k m : Nat} (h : Sm D k m) (i : Int) (b : List UInt8) : Sm (forge E8 D i b).1 k m := by
  unfold Disk.forge
  split
  · exact h
  · split
    · exact h
    · exact ⟨h.acts, Nat.le_trans (List.length_filter_le _ _) h.waits, h.fuse, h.keep, by show (D.now.set _ _).length = _; rw [List.length_set]; exact h.len⟩
theorem Sm.up {D : Dk} {k m : Nat} (h : Sm D k m) : Sm D (k + 1) m := ⟨by have := h.acts; omega, by have := h.waits; omega, h.fuse, h.keep, h.len⟩
theorem one_z {w w2 : World} {g N S : Nat} {W : Option Addr} {c : Nat} {D2 : Dk} (h : Cd w2 g N S W c D2) (k : Kp (oneB g) w w2) : Dz w g N S W D2 w2 := ⟨W, c, h, k.mono (fun i _ e => .inl e), fun _ e => .inl e⟩
end Go.Proofs.Ytchdobneipfghaa.Disk
