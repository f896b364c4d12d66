/- Contracts of the document's own disk: is there such a sector, one act more, the fuse. -/
import Derived.Test.YtchdobneipfghaaZDiskR
namespace Go.Proofs.Ytchdobneipfghaa.Disk
set_option linter.unusedVariables false
set_option linter.unusedSimpArgs false
open Go Go.RowKit Kit

theorem Dd.cells {w : World} {g : Nat} {F : Nat → Prop} {N S W : Option Addr} {cN cS cW : Nat} {D : Dk} (h : Dd w g F N S W cN cS cW D) :
    w.cell? ⟨g, 0, none⟩ = some (.slice N D.now.length cN) ∧ w.cell? ⟨g, 1, none⟩ = some (.slice S D.safe.length cS) ∧ w.cell? ⟨g, 2, none⟩ = some (.slice W D.waits.length cW) ∧ w.cell? ⟨g, 3, none⟩ = some (.bool D.off) ∧ w.cell? ⟨g, 4, none⟩ = some (.int .i64 (D.acts : Int)) ∧ w.cell? ⟨g, 5, none⟩ = some (.int .i64 (D.fuse : Int)) ∧ w.cell? ⟨g, 6, none⟩ = some (.int .u64 (D.keep : Int)) :=
  ⟨h.b.cell 0, h.b.cell 1, h.b.cell 2, h.b.cell 3, h.b.cell 4, h.b.cell 5, h.b.cell 6⟩
/-- What stands where the disk's own cells alone are turned. -/
theorem Dd.own {w w2 : World} {g : Nat} {F : Nat → Prop} {N S W : Option Addr} {cN cS cW : Nat} {D D2 : Dk} (h : Dd w g F N S W cN cS cW D) (k : Kp (oneB g) w w2) (hn : D2.now = D.now) (hs : D2.safe = D.safe) (hw : D2.waits = D.waits)
    (hb : Blk w2 g 42 [.slice N D.now.length cN, .slice S D.safe.length cS, .slice W D.waits.length cW, .bool D2.off, .int .i64 (D2.acts : Int), .int .i64 (D2.fuse : Int), .int .u64 (D2.keep : Int)]) : Dd w2 g F N S W cN cS cW D2 :=
  ⟨by rw [hn, hs, hw]; exact hb, by rw [hn]; exact h.now.keep k (fun j e e2 => (h.fn j e).2 e2), by rw [hs]; exact h.safe.keep k (fun j e e2 => (h.fs j e).2 e2), by rw [hw]; exact h.waits.keep k (fun j e e2 => (h.fw j e).2 e2), by rw [hn, hs, hw]; exact h.caps, h.fn, h.fs, h.fw, h.g, fun j e => Nat.lt_of_lt_of_le (h.lt j e) k.size⟩
set_option maxHeartbeats 1000000 in
theorem fmay (D : Dk) (i : Int) (g : Nat) (F : Nat → Prop) (N S W : Option Addr) (cN cS cW : Nat) (w : World) (h : Dd w g F N S W cN cS cW D) :
    Calls Try.prog 34 #[.pointer (some ⟨g, 0, none⟩), .int .i64 i] w fun e w' => e = .returned (.int .i64 (may E8 D i)) ∧ w = w' := by
  obtain ⟨c0, c1, c2, c3, c4, c5, c6⟩ := h.cells
  clear c1 c2 c4 c5 c6 h
  cases ho : D.off with
  | true =>
    rw [ho] at c3
    have HM := Lib.hid (show may E8 D i = 8 by rw [may, if_pos ho]; rfl)
    clear ho
    go_enter Try.func34, Try.ntmps34
    go_wp2
    go_ret
    rw [HM.out]; exact ⟨rfl, rfl⟩
  | false =>
    rw [ho] at c3
    by_cases h1 : i < 0
    · have HM := Lib.hid (show may E8 D i = 1 by rw [may, if_neg (by rw [ho]; decide), if_pos (.inl h1)]; rfl)
      clear ho
      go_enter Try.func34, Try.ntmps34
      go_wp2
      go_ret
      rw [HM.out]; exact ⟨rfl, rfl⟩
    · by_cases h2 : (D.now.length : Int) ≤ i
      · have HM := Lib.hid (show may E8 D i = 1 by rw [may, if_neg (by rw [ho]; decide), if_pos (.inr h2)]; rfl)
        clear ho
        go_enter Try.func34, Try.ntmps34
        go_wp2
        go_ret
        rw [HM.out]; exact ⟨rfl, rfl⟩
      · have HM := Lib.hid (show may E8 D i = 0 by rw [may, if_neg (by rw [ho]; decide), if_neg (by omega)]; rfl)
        clear ho
        go_enter Try.func34, Try.ntmps34
        go_wp2
        go_ret
        rw [HM.out]; exact ⟨rfl, rfl⟩
set_option maxHeartbeats 1000000 in
theorem fAct (D : Dk) (g : Nat) (F : Nat → Prop) (N S W : Option Addr) (cN cS cW : Nat) (w : World) (h : Dd w g F N S W cN cS cW D) (ha : D.acts ≤ 1000000000) (hf : D.fuse ≤ 9223372036854775807) :
    Calls Try.prog 28 #[.pointer (some ⟨g, 0, none⟩)] w fun e w' => e = .returned (.bool (act D).2) ∧ Dd w' g F N S W cN cS cW (act D).1 ∧ Kp (oneB g) w w' := by
  obtain ⟨c0, c1, c2, c3, c4, c5, c6⟩ := h.cells
  have f4 : w.frozen? ⟨g, 4, none⟩ = false := h.b.frozen _
  have f5 : w.frozen? ⟨g, 5, none⟩ = false := h.b.frozen _
  have HD := Lib.hid h
  clear c0 c1 c2 c6 h
  cases ho : D.off with
  | true =>
    rw [ho] at c3
    have HA := Lib.hid (act_off D ho)
    clear ho
    go_enter Try.func28, Try.ntmps28
    go_wp2
    go_ret
    rw [HA.out]; exact ⟨rfl, HD.out, Kp.refl _ _⟩
  | false =>
    rw [ho] at c3
    have HA := Lib.hid (act_on D ho)
    obtain ⟨a1, ha1⟩ : ∃ a, a = D.acts + 1 := ⟨_, rfl⟩
    have e1 : IntKind.i64.wrap ((D.acts : Int) + 1) = (a1 : Int) := by rw [IntWalk.i64_in _ (by omega)]; omega
    have HA1 := Lib.hid ha1
    have K := Lib.hid (((Kp.refl (oneB g) w).setCell (p := ⟨g, 4, none⟩) (.inl rfl) (.int .i64 (a1 : Int))))
    have HB1 := Lib.hid (HD.out.b.set_ 4 (.int .i64 (a1 : Int)))
    by_cases h0 : D.fuse = 0
    · have HR := Lib.hid (show (act D).1 = { D with acts := a1, fuse := 0 } ∧ (act D).2 = false by rw [HA.out, h0, ha1]; exact ⟨rfl, rfl⟩)
      rw [h0] at c5
      have HO := Lib.hid ho; have H0 := Lib.hid h0
      clear ho ha1 ha h0 hf
      go_enter Try.func28, Try.ntmps28
      go_wp2
      go_ret
      rw [HR.out.1, HR.out.2]
      refine ⟨rfl, HD.out.own K.out rfl rfl rfl ?_, K.out⟩
      have := HB1.out
      rw [H0.out] at this
      exact this
    · obtain ⟨f1, hf1⟩ : ∃ f, f = D.fuse - 1 := ⟨_, rfl⟩
      have e2 : IntKind.i64.wrap ((D.fuse : Int) - 1) = (f1 : Int) := by rw [IntWalk.i64_in _ (by omega)]; omega
      have HR := Lib.hid (show (act D).1 = { D with acts := a1, fuse := f1 } ∧ (act D).2 = decide (f1 = 0) by rw [HA.out, ha1, hf1]; exact ⟨rfl, by simp only; congr 1; rw [eq_iff_iff]; omega⟩)
      have h0' : ((D.fuse : Int) == 0) = false := beq_eq_false_iff_ne.2 (by omega)
      have HZ := Lib.hid (show ((f1 : Int) == 0) = decide (f1 = 0) by rw [Bool.eq_iff_iff, beq_iff_eq, decide_eq_true_iff]; omega)
      have K2 := Lib.hid (K.out.setCell (p := ⟨g, 5, none⟩) (.inl rfl) (.int .i64 (f1 : Int)))
      have HB2 := Lib.hid (HB1.out.set_ 5 (.int .i64 (f1 : Int)))
      have HO := Lib.hid ho
      clear ho ha1 ha h0 hf hf1
      go_enter Try.func28, Try.ntmps28
      go_wp2
      go_ret
      rw [HR.out.1, HR.out.2, ← HZ.out]
      exact ⟨rfl, HD.out.own K2.out rfl rfl rfl HB2.out, K2.out⟩
set_option maxHeartbeats 1000000 in
theorem fArm (D : Dk) (n : Int) (keep : Nat) (g : Nat) (F : Nat → Prop) (N S W : Option Addr) (cN cS cW : Nat) (w : World) (h : Dd w g F N S W cN cS cW D) :
    Calls Try.prog 18 #[.pointer (some ⟨g, 0, none⟩), .int .i64 n, .int .u64 (keep : Int)] w fun e w' => e = .returned (.tuple #[]) ∧ Dd w' g F N S W cN cS cW (arm D n keep) ∧ Kp (oneB g) w w' := by
  obtain ⟨c0, c1, c2, c3, c4, c5, c6⟩ := h.cells
  have f5 : w.frozen? ⟨g, 5, none⟩ = false := h.b.frozen _
  have f6 : w.frozen? ⟨g, 6, none⟩ = false := h.b.frozen _
  have HD := Lib.hid h
  have K1 := Lib.hid ((Kp.refl (oneB g) w).setCell (p := ⟨g, 5, none⟩) (.inl rfl) (.int .i64 0))
  have HB1 := Lib.hid (HD.out.b.set_ 5 (.int .i64 0))
  clear h c0 c1 c2 c3 c4
  by_cases hn : 0 < n
  · have HN := Lib.hid (show ((n.toNat : Nat) : Int) = n by omega)
    go_enter Try.func18, Try.ntmps18
    go_wp2
    have K2 := (K1.out.setCell (p := ⟨g, 5, none⟩) (.inl rfl) (.int .i64 n)).setCell (p := ⟨g, 6, none⟩) (.inl rfl) (.int .u64 (keep : Int))
    have HB2 := (HB1.out.set_ 5 (.int .i64 n)).set_ 6 (.int .u64 (keep : Int))
    refine bodyPost_end (results_none rfl _ _ _) rfl ⟨rfl, HD.out.own K2 rfl rfl rfl ?_, K2⟩
    show Blk _ _ _ [.slice N D.now.length cN, .slice S D.safe.length cS, .slice W D.waits.length cW, .bool D.off, .int .i64 (D.acts : Int), .int .i64 ((n.toNat : Nat) : Int), .int .u64 (keep : Int)]
    rw [HN.out]
    exact HB2
  · have HN := Lib.hid (show ((n.toNat : Nat) : Int) = 0 by omega)
    go_enter Try.func18, Try.ntmps18
    go_wp2
    have K2 := K1.out.setCell (p := ⟨g, 6, none⟩) (.inl rfl) (.int .u64 (keep : Int))
    have HB2 := HB1.out.set_ 6 (.int .u64 (keep : Int))
    refine bodyPost_end (results_none rfl _ _ _) rfl ⟨rfl, HD.out.own K2 rfl rfl rfl ?_, K2⟩
    show Blk _ _ _ [.slice N D.now.length cN, .slice S D.safe.length cS, .slice W D.waits.length cW, .bool D.off, .int .i64 (D.acts : Int), .int .i64 ((n.toNat : Nat) : Int), .int .u64 (keep : Int)]
    rw [HN.out]
    exact HB2
end Go.Proofs.Ytchdobneipfghaa.Disk
