/- The disk in memory, whole; contracts of its small functions. -/
import Derived.Test.YtchdobneipfghaaZG00
import Derived.Test.YtchdobneipfghaaZG01
import Derived.Test.YtchdobneipfghaaZRowAt
import Derived.Test.YtchdobneipfghaaZG02
import Derived.Test.YtchdobneipfghaaZStill
import Derived.Test.YtchdobneipfghaaRows
import Derived.BigQuiet
import Derived.Deep.QuietTactic
namespace Go.Proofs.Ytchdobneipfghaa.Disk
set_option linter.unusedVariables false
set_option linter.unusedSimpArgs false
open Go Go.RowKit Kit

/-- A write that isn't safe, as cells. -/
def wcell (x : Nat × List UInt8) : List Value := .int .i64 (x.1 : Int) :: bvs x.2
theorem wcell_length (x : Nat × List UInt8) (h : x.2.length = 256) : (wcell x).length = 257 := by simp [wcell, h]
theorem wcell_one (x : Nat × List UInt8) : ∀ u ∈ wcell x, u.oneCell' = true := by
  intro u hu
  rcases List.mem_cons.1 hu with rfl | hu
  · rfl
  · exact bvs_one _ u hu
/-- The disk at g: its sectors at N, what is safe of them at S, what waits at W. -/
structure Cd (w : World) (g N S : Nat) (W : Option Addr) (cW : Nat) (D : Dk) : Prop where
  b : Blk w g 64 [.slice (some ⟨N, 0, none⟩) D.now.length D.now.length, .slice (some ⟨S, 0, none⟩) D.now.length D.now.length, .slice W D.waits.length cW, .bool D.off, .int .i64 (D.acts : Int), .int .i64 (D.fuse : Int), .int .u64 (D.keep : Int)]
  now : Blk w N 74 (D.now.flatMap bvs)
  safe : Blk w S 74 (D.safe.flatMap bvs)
  waits : OwnK 257 78 w W D.waits.length cW (D.waits.flatMap wcell)
  ok : Ok D
  al : D.now = allw D.waits D.safe
  max : D.now.length ≤ 4096
  ne : N ≠ g ∧ S ≠ g ∧ N ≠ S
  nw : ∀ k, ab W = some k → k ≠ g ∧ k ≠ N ∧ k ≠ S
/-- Its blocks. -/
def dF (g N S : Nat) (W : Option Addr) : Nat → Prop := fun k => k = g ∨ k = N ∨ k = S ∨ ab W = some k
theorem Cd.keep {w w2 : World} {g N S : Nat} {W : Option Addr} {cW : Nat} {D : Dk} {G : Nat → Prop} (h : Cd w g N S W cW D) (k : Kp G w w2) (hF : ∀ i, dF g N S W i → ¬ G i) : Cd w2 g N S W cW D :=
  ⟨h.b.keep k (hF _ (.inl rfl)), h.now.keep k (hF _ (.inr (.inl rfl))), h.safe.keep k (hF _ (.inr (.inr (.inl rfl)))), h.waits.keep k (fun j e => hF j (.inr (.inr (.inr e)))), h.ok, h.al, h.max, h.ne, h.nw⟩
theorem Cd.keep0 {w w2 : World} {g N S : Nat} {W : Option Addr} {cW : Nat} {D : Dk} (h : Cd w g N S W cW D) (k : Kp nob w w2) : Cd w2 g N S W cW D := h.keep k (fun _ _ e => e)
theorem Cd.lt {w : World} {g N S : Nat} {W : Option Addr} {cW : Nat} {D : Dk} (h : Cd w g N S W cW D) : ∀ k, dF g N S W k → k < w.heap.size := by
  intro k e
  rcases e with rfl | rfl | rfl | e
  · exact h.b.lt
  · exact h.now.lt
  · exact h.safe.lt
  · exact h.waits.lt k e
theorem Cd.cells {w : World} {g N S : Nat} {W : Option Addr} {cW : Nat} {D : Dk} (h : Cd w g N S W cW D) :
    w.cell? ⟨g, 0, none⟩ = some (.slice (some ⟨N, 0, none⟩) D.now.length D.now.length) ∧ w.cell? ⟨g, 1, none⟩ = some (.slice (some ⟨S, 0, none⟩) D.now.length D.now.length) ∧ w.cell? ⟨g, 2, none⟩ = some (.slice W D.waits.length cW) ∧ w.cell? ⟨g, 3, none⟩ = some (.bool D.off) ∧ w.cell? ⟨g, 4, none⟩ = some (.int .i64 (D.acts : Int)) ∧ w.cell? ⟨g, 5, none⟩ = some (.int .i64 (D.fuse : Int)) ∧ w.cell? ⟨g, 6, none⟩ = some (.int .u64 (D.keep : Int)) :=
  ⟨h.b.cell 0, h.b.cell 1, h.b.cell 2, h.b.cell 3, h.b.cell 4, h.b.cell 5, h.b.cell 6⟩
/-- Where the disk's own cells alone are turned. -/
theorem Cd.own {w w2 : World} {g N S : Nat} {W : Option Addr} {cW : Nat} {D D2 : Dk} (h : Cd w g N S W cW D) (k : Kp (oneB g) w w2) (hn : D2.now = D.now) (hs : D2.safe = D.safe) (hw : D2.waits = D.waits)
    (hb : Blk w2 g 64 [.slice (some ⟨N, 0, none⟩) D.now.length D.now.length, .slice (some ⟨S, 0, none⟩) D.now.length D.now.length, .slice W D.waits.length cW, .bool D2.off, .int .i64 (D2.acts : Int), .int .i64 (D2.fuse : Int), .int .u64 (D2.keep : Int)]) : Cd w2 g N S W cW D2 :=
  ⟨by rw [hn, hw]; exact hb, by rw [hn]; exact h.now.keep k h.ne.1, by rw [hs]; exact h.safe.keep k h.ne.2.1, by rw [hw]; exact h.waits.keep k (fun j e => (h.nw j e).1), ⟨by rw [hs, hn]; exact h.ok.safe, by rw [hn]; exact h.ok.now, by rw [hs]; exact h.ok.safe2, by rw [hw, hn]; exact h.ok.waits⟩, by rw [hn, hw, hs]; exact h.al, by rw [hn]; exact h.max, h.ne, h.nw⟩
/-- Behind a call that turns the disk: it is D2 now; what else was there is as it was. -/
def Dz (w : World) (g N S : Nat) (W : Option Addr) (D2 : Dk) (w2 : World) : Prop := ∃ (W2 : Option Addr) (c2 : Nat), Cd w2 g N S W2 c2 D2 ∧ Kp (dF g N S W) w w2 ∧ ∀ k, ab W2 = some k → ab W = some k ∨ w.heap.size ≤ k
theorem Dz.df {w w2 : World} {g N S : Nat} {W W2 : Option Addr} (h : ∀ k, ab W2 = some k → ab W = some k ∨ w.heap.size ≤ k) : ∀ k, dF g N S W2 k → dF g N S W k ∨ w.heap.size ≤ k := by
  intro k e
  rcases e with e | e | e | e
  · exact .inl (.inl e)
  · exact .inl (.inr (.inl e))
  · exact .inl (.inr (.inr (.inl e)))
  · rcases h k e with h | h
    · exact .inl (.inr (.inr (.inr h)))
    · exact .inr h
/-- Two such calls. -/
theorem Dz.trans {w w2 w3 : World} {g N S : Nat} {W W2 : Option Addr} {D3 : Dk} (k : Kp (dF g N S W) w w2) (hw : ∀ k, ab W2 = some k → ab W = some k ∨ w.heap.size ≤ k) (h : Dz w2 g N S W2 D3 w3) : Dz w g N S W D3 w3 := by
  obtain ⟨W3, c3, h1, h2, h3⟩ := h
  refine ⟨W3, c3, h1, k.trans h2 (fun i e => Dz.df (w2 := w) hw i e), fun i e => ?_⟩
  rcases h3 i e with h | h
  · exact hw i h
  · exact .inr (Nat.le_trans k.size h)
theorem Dz.since {w w2 w3 : World} {g N S : Nat} {W : Option Addr} {D3 : Dk} (k : Kp nob w w2) (h : Dz w2 g N S W D3 w3) : Dz w g N S W D3 w3 := Dz.trans (k.nob _) (fun _ e => .inl e) h
theorem Dz.then {w w2 w3 : World} {g N S : Nat} {W : Option Addr} {D3 : Dk} (h : Dz w g N S W D3 w2) (k : Kp nob w2 w3) : Dz w g N S W D3 w3 := by
  obtain ⟨W3, c3, h1, h2, h3⟩ := h
  exact ⟨W3, c3, h1.keep0 k, h2.trans k (fun _ e => e.elim), h3⟩
theorem Cd.self {w : World} {g N S : Nat} {W : Option Addr} {cW : Nat} {D : Dk} (h : Cd w g N S W cW D) : Dz w g N S W D w := ⟨W, cW, h, Kp.refl _ _, fun _ e => .inl e⟩

theorem sec_under : Try.prog.underlying 74 = some (.array 256 5) := by kernel_rfl
theorem sec_size : (Try.prog.info? 74).map (·.size) = some 256 := by kernel_rfl
theorem sec_size' (s : List UInt8) (h : s.length = 256) : (Try.prog.info? 74).map (·.size) = some (bvs s).length := by rw [bvs_length, h]; exact sec_size
theorem wr_under : Try.prog.underlying 78 = some (.struct (Try.prog.fieldsOf 78)) := by kernel_rfl
theorem wr_size' (x : Nat × List UInt8) (h : x.2.length = 256) : (Try.prog.info? 78).map (·.size) = some (wcell x).length := by rw [wcell_length x h]; kernel_rfl
theorem u8s_under : Try.prog.underlying 45 = some (.slice 5) := by kernel_rfl
theorem u8_size : (Try.prog.info? 5).map (·.size) = some 1 := by kernel_rfl

theorem refused_any (D : Dk) (g N S : Nat) (W : Option Addr) (cW : Nat) (w : World) (h : Cd w g N S W cW D) :
    Calls Try.prog 29 #[.pointer (some ⟨g, 0, none⟩)] w fun e w' => e = .returned (.int .i64 (if D.off then 8 else 0)) ∧ w = w' := by
  obtain ⟨c0, c1, c2, c3, c4, c5, c6⟩ := h.cells
  clear c0 c1 c2 c4 c5 c6 h
  cases ho : D.off with
  | true =>
    rw [ho] at c3; clear ho
    go_enter Try.func29, Try.ntmps29
    go_wp2
    go_ret
    exact ⟨rfl, rfl⟩
  | false =>
    rw [ho] at c3; clear ho
    go_enter Try.func29, Try.ntmps29
    go_wp2
    go_ret
    exact ⟨rfl, rfl⟩
/-- Is there such a sector? -/
def has (D : Dk) (i : Int) : Bool := decide (0 ≤ i ∧ i < (D.now.length : Int))
theorem has_any (D : Dk) (i : Int) (g N S : Nat) (W : Option Addr) (cW : Nat) (w : World) (h : Cd w g N S W cW D) :
    Calls Try.prog 36 #[.pointer (some ⟨g, 0, none⟩), .int .i64 i] w fun e w' => e = .returned (.bool (has D i)) ∧ w = w' := by
  obtain ⟨c0, c1, c2, c3, c4, c5, c6⟩ := h.cells
  clear c1 c2 c3 c4 c5 c6 h
  by_cases h1 : 0 ≤ i
  · by_cases h2 : i < (D.now.length : Int)
    · have HM := Lib.hid (show has D i = true by unfold has; exact decide_eq_true ⟨h1, h2⟩)
      go_enter Try.func36, Try.ntmps36
      go_wp2
      go_ret
      rw [HM.out]; exact ⟨rfl, rfl⟩
    · have HM := Lib.hid (show has D i = false by unfold has; exact decide_eq_false (fun e => h2 e.2))
      go_enter Try.func36, Try.ntmps36
      go_wp2
      go_ret
      rw [HM.out]; exact ⟨rfl, rfl⟩
  · have HM := Lib.hid (show has D i = false by unfold has; exact decide_eq_false (fun e => h1 e.1))
    go_enter Try.func36, Try.ntmps36
    go_wp2
    go_ret
    rw [HM.out]; exact ⟨rfl, rfl⟩
theorem acts_any (D : Dk) (g N S : Nat) (W : Option Addr) (cW : Nat) (w : World) (h : Cd w g N S W cW D) :
    Calls Try.prog 23 #[.pointer (some ⟨g, 0, none⟩)] w fun e w' => e = .returned (.int .i64 (D.acts : Int)) ∧ w = w' := by
  obtain ⟨c0, c1, c2, c3, c4, c5, c6⟩ := h.cells
  clear c0 c1 c2 c3 c5 c6 h
  go_enter Try.func23, Try.ntmps23
  go_wp2
  go_ret
  exact ⟨rfl, rfl⟩
theorem down_any (D : Dk) (g N S : Nat) (W : Option Addr) (cW : Nat) (w : World) (h : Cd w g N S W cW D) :
    Calls Try.prog 24 #[.pointer (some ⟨g, 0, none⟩)] w fun e w' => e = .returned (.bool D.off) ∧ w = w' := by
  obtain ⟨c0, c1, c2, c3, c4, c5, c6⟩ := h.cells
  clear c0 c1 c2 c4 c5 c6 h
  go_enter Try.func24, Try.ntmps24
  go_wp2
  go_ret
  exact ⟨rfl, rfl⟩
theorem on_any (D : Dk) (g N S : Nat) (W : Option Addr) (cW : Nat) (w : World) (h : Cd w g N S W cW D) :
    Calls Try.prog 16 #[.pointer (some ⟨g, 0, none⟩)] w fun e w' => e = .returned (.tuple #[]) ∧ Cd w' g N S W cW (on D) ∧ Kp (oneB g) w w' := by
  have f3 : w.frozen? ⟨g, 3, none⟩ = false := h.b.frozen _
  have c3 := h.cells.2.2.2.1
  have K1 := Lib.hid ((Kp.refl (oneB g) w).setCell (p := ⟨g, 3, none⟩) (.inl rfl) (.bool false))
  have HB1 := Lib.hid (h.b.set_ 3 (.bool false))
  have HD := Lib.hid h
  clear h
  go_enter Try.func16, Try.ntmps16
  go_wp2
  exact bodyPost_end (results_none rfl _ _ _) rfl ⟨rfl, HD.out.own K1.out rfl rfl rfl HB1.out, K1.out⟩
set_option maxHeartbeats 1000000 in
theorem arm_any (D : Dk) (n : Int) (keep : Nat) (g N S : Nat) (W : Option Addr) (cW : Nat) (w : World) (h : Cd w g N S W cW D) :
    Calls Try.prog 17 #[.pointer (some ⟨g, 0, none⟩), .int .i64 n, .int .u64 (keep : Int)] w fun e w' => e = .returned (.tuple #[]) ∧ Cd w' g N S W cW (arm D n keep) ∧ Kp (oneB g) w w' := by
  have f5 : w.frozen? ⟨g, 5, none⟩ = false := h.b.frozen _
  have f6 : w.frozen? ⟨g, 6, none⟩ = false := h.b.frozen _
  have c5 := h.cells.2.2.2.2.2.1
  have c6 := h.cells.2.2.2.2.2.2
  have HD := Lib.hid h
  obtain ⟨m, hm⟩ : ∃ m : Nat, m = n.toNat := ⟨_, rfl⟩
  have hmx : (if 0 < n then n else 0) = (m : Int) := by split <;> omega
  have hmx2 : (if n < 0 then 0 else n) = (m : Int) := by split <;> omega
  have hmx3 : (if 0 > n then 0 else n) = (m : Int) := by split <;> omega
  have HM := Lib.hid hm
  have K1 := Lib.hid (((Kp.refl (oneB g) w).setCell (p := ⟨g, 5, none⟩) (.inl rfl) (.int .i64 (m : Int))).setCell (p := ⟨g, 6, none⟩) (.inl rfl) (.int .u64 (keep : Int)))
  have HB1 := Lib.hid ((h.b.set_ 5 (.int .i64 (m : Int))).set_ 6 (.int .u64 (keep : Int)))
  clear h hm
  go_enter Try.func17, Try.ntmps17
  go_wp2
  refine bodyPost_end (results_none rfl _ _ _) rfl ⟨rfl, HD.out.own K1.out rfl rfl rfl ?_, K1.out⟩
  show Blk _ _ _ [_, _, _, _, _, .int .i64 ((n.toNat : Nat) : Int), _]
  rw [← HM.out]
  exact HB1.out
/-- What Act answers. -/
def told (D : Dk) : Value := .tuple #[.bool (act D).2, .int .u64 (if (act D).2 then (D.keep : Int) else 0)]
theorem told_no (D : Dk) (h : (act D).2 = false) : told D = .tuple #[.bool false, .int .u64 0] := by rw [told, h]; rfl
theorem told_yes (D : Dk) (h : (act D).2 = true) : told D = .tuple #[.bool true, .int .u64 (D.keep : Int)] := by rw [told, h]; rfl
set_option maxHeartbeats 1000000 in
theorem act1_any (D : Dk) (g N S : Nat) (W : Option Addr) (cW : Nat) (w : World) (h : Cd w g N S W cW D) (ha : D.acts ≤ 1000000000000) (hf : D.fuse ≤ 9223372036854775807) :
    Calls Try.prog 26 #[.pointer (some ⟨g, 0, none⟩)] w fun e w' => e = .returned (told D) ∧ Cd w' g N S W cW (act D).1 ∧ Kp (oneB g) w w' := by
  obtain ⟨c0, c1, c2, c3, c4, c5, c6⟩ := h.cells
  have f4 : w.frozen? ⟨g, 4, none⟩ = false := h.b.frozen _
  have f5 : w.frozen? ⟨g, 5, none⟩ = false := h.b.frozen _
  have HD := Lib.hid h
  have HR := Lib.hid (refused_any D g N S W cW w h)
  clear c0 c1 c2 h
  cases ho : D.off with
  | true =>
    rw [ho] at HR
    have HA := Lib.hid (act_off D ho)
    clear ho
    go_enter Try.func26, Try.ntmps26
    go_wp2_with fail
    refine HR.out.mono ?_
    rintro e w1 ⟨rfl, rfl⟩
    go_wp2
    go_ret2
    rw [told_no D (by rw [HA.out]), HA.out]; exact ⟨rfl, HD.out, Kp.refl _ _⟩
  | false =>
    rw [ho] at HR
    have HA := Lib.hid (act_on D ho)
    obtain ⟨a1, ha1⟩ : ∃ a, a = D.acts + 1 := ⟨_, rfl⟩
    have e1 : IntKind.i64.wrap ((D.acts : Int) + 1) = (a1 : Int) := by rw [IntWalk.i64_in _ (by omega)]; omega
    have HA1 := Lib.hid ha1
    have K := Lib.hid (((Kp.refl (oneB g) w).setCell (p := ⟨g, 4, none⟩) (.inl rfl) (.int .i64 (a1 : Int))))
    have HB1 := Lib.hid (HD.out.b.set_ 4 (.int .i64 (a1 : Int)))
    by_cases h0 : D.fuse = 0
    · have HRR := Lib.hid (show (act D).1 = { D with acts := a1, fuse := 0 } ∧ (act D).2 = false by rw [HA.out, h0, ha1]; exact ⟨rfl, rfl⟩)
      rw [h0] at c5
      have H0 := Lib.hid h0
      clear ho ha1 ha h0 hf
      go_enter Try.func26, Try.ntmps26
      go_wp2_with fail
      refine HR.out.mono ?_
      rintro e w1 ⟨rfl, rfl⟩
      go_wp2
      go_ret2
      rw [told_no D HRR.out.2, HRR.out.1]
      refine ⟨rfl, HD.out.own K.out rfl rfl rfl ?_, K.out⟩
      have := HB1.out
      rw [H0.out] at this
      exact this
    · obtain ⟨f1, hf1⟩ : ∃ f, f = D.fuse - 1 := ⟨_, rfl⟩
      have e2 : IntKind.i64.wrap ((D.fuse : Int) - 1) = (f1 : Int) := by rw [IntWalk.i64_in _ (by omega)]; omega
      have h0' : ((D.fuse : Int) == 0) = false := beq_eq_false_iff_ne.2 (by omega)
      have HRR := Lib.hid (show (act D).1 = { D with acts := a1, fuse := f1 } ∧ (act D).2 = decide (f1 = 0) by rw [HA.out, ha1, hf1]; exact ⟨rfl, by simp only; congr 1; rw [eq_iff_iff]; omega⟩)
      have K2 := Lib.hid (K.out.setCell (p := ⟨g, 5, none⟩) (.inl rfl) (.int .i64 (f1 : Int)))
      have HB2 := Lib.hid (HB1.out.set_ 5 (.int .i64 (f1 : Int)))
      by_cases hz : f1 = 0
      · have hg : decide (0 < f1) = false := by simp; omega
        have HZ := Lib.hid hz
        clear ho ha1 ha h0 hf hf1 hz
        go_enter Try.func26, Try.ntmps26
        go_wp2_with fail
        refine HR.out.mono ?_
        rintro e w1 ⟨rfl, rfl⟩
        go_wp2_with fail
        go_quiet (fail)
        go_wp2
        go_ret2
        rw [told_yes D (by rw [HRR.out.2, HZ.out]; rfl), HRR.out.1]
        exact ⟨rfl, (HD.out.own (D2 := { D with acts := a1, fuse := f1 }) K2.out rfl rfl rfl HB2.out).keep0 ((Kp.refl nob _).drewN _), K2.out.drewN _⟩
      · have hg : decide (0 < f1) = true := by simp; omega
        have HZ := Lib.hid (show decide (f1 = 0) = false from decide_eq_false hz)
        clear ho ha1 ha h0 hf hf1 hz
        go_enter Try.func26, Try.ntmps26
        go_wp2_with fail
        refine HR.out.mono ?_
        rintro e w1 ⟨rfl, rfl⟩
        go_wp2
        go_ret2
        rw [told_no D (HRR.out.2.trans HZ.out), HRR.out.1]
        exact ⟨rfl, HD.out.own K2.out rfl rfl rfl HB2.out, K2.out⟩
end Go.Proofs.Ytchdobneipfghaa.Disk
