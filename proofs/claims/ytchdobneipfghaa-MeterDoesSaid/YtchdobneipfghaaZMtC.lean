/- The register: one more, over a disk's power, and over none. -/
import Derived.Test.YtchdobneipfghaaZMtB
namespace Go.Proofs.Ytchdobneipfghaa.Meter
set_option linter.unusedVariables false
set_option linter.unusedSimpArgs false
open Go Go.RowKit Kit Disk

/-- The blocks of a register and of its disk. -/
def mF (m g N S : Nat) (W : Option Addr) : Nat → Prop := fun k => k = m ∨ dF g N S W k
/-- The register at m, with its disk at g, behind a call. -/
def Mz (w : World) (m g N S : Nat) (W : Option Addr) (t : Mt) (D : Dk) (w2 : World) : Prop := ∃ (W2 : Option Addr) (c2 : Nat), Cd w2 g N S W2 c2 D ∧ Mb w2 m (some ⟨g, 0, none⟩) t ∧ Kp (mF m g N S W) w w2 ∧ ∀ k, ab W2 = some k → ab W = some k ∨ w.heap.size ≤ k
set_option maxHeartbeats 1000000 in
set_option maxRecDepth 100000 in
/-- It doesn't go on. -/
theorem next_no (t : Mt) (e : Int) (r : List UInt8) (m : Nat) (X : Option Addr) (off : Bool) (w : World) (h : Mb w m X t) (hr : r.length = 32) (hp : Pow w X off) (hno : why t off e ≠ 0) :
    Calls Try.prog 12 #[.pointer (some ⟨m, 0, none⟩), .int .i64 e, .agg (bvs r).toArray] w fun e' w' => e' = .returned (.int .i64 (why t off e)) ∧ Kp nob w w' := by
  have HK1 := Lib.hid ((Kp.refl nob w).alloc (.cells (bvs r).toArray 32))
  have HRF := Lib.hid (refused_any t m X off (w.alloc (.cells (bvs r).toArray 32)) (h.keep0 HK1.out) (fun w2 k2 => hp w2 (HK1.out.trans k2 (fun _ e => e.elim))))
  have HM1 := Lib.hid (h.keep0 HK1.out)
  clear hp h
  cases off with
  | true =>
    rw [why_off]
    clear hno
    go_enter Try.func12, Try.ntmps12
    go_wp2_with fail
    refine HRF.out.mono ?_
    rintro e w1 ⟨rfl, rfl⟩
    go_wp2
    go_ret
    exact ⟨rfl, HK1.out⟩
  | false =>
    have c1 := HM1.out.cells.2.1
    by_cases he : e < t.epoch
    · rw [why_arg t e he]
      clear hno
      go_enter Try.func12, Try.ntmps12
      go_wp2_with fail
      refine HRF.out.mono ?_
      rintro e w1 ⟨rfl, rfl⟩
      go_wp2
      go_ret
      exact ⟨rfl, HK1.out⟩
    · by_cases hs : t.most ≤ t.count
      · rw [why_spent t e he hs]
        have HL := Lib.hid (left_any t m X (w.alloc (.cells (bvs r).toArray 32)) HM1.out)
        rw [show t.most - t.count = 0 by omega] at HL
        clear hno hs
        go_enter Try.func12, Try.ntmps12
        go_wp2_with fail
        refine HRF.out.mono ?_
        rintro e w1 ⟨rfl, rfl⟩
        go_wp2_with fail
        refine HL.out.mono ?_
        rintro e w2 ⟨rfl, k2⟩
        have HK2 := Lib.hid (HK1.out.trans k2 (fun _ e => e.elim))
        clear k2
        go_wp2
        go_ret
        exact ⟨rfl, HK2.out⟩
      · exact absurd (why_no t e he hs) hno
theorem act_nil (w : World) : Calls Try.prog 26 #[.pointer none] w fun e w' => e = .returned (.tuple #[.bool false, .int .u64 0]) ∧ w = w' := by
  have HR : Hid (Calls Try.prog 29 #[.pointer none] w fun e w' => e = .returned (.int .i64 2) ∧ w = w') := Lib.hid (by
    go_enter Try.func29, Try.ntmps29
    go_wp2
    go_ret
    exact ⟨rfl, rfl⟩)
  go_enter Try.func26, Try.ntmps26
  go_wp2_with fail
  refine HR.out.mono ?_
  rintro e w1 ⟨rfl, rfl⟩
  go_wp2
  go_ret2
  exact ⟨rfl, rfl⟩
set_option maxHeartbeats 1000000 in
set_option maxRecDepth 100000 in
/-- Its power is nobody's: always on. -/
theorem next_nil (t : Mt) (e : Int) (r : List UInt8) (m : Nat) (w : World) (h : Mb w m none t) (hr : r.length = 32) (hno : why t false e = 0) :
    Calls Try.prog 12 #[.pointer (some ⟨m, 0, none⟩), .int .i64 e, .agg (bvs r).toArray] w fun e' w' => e' = .returned (.int .i64 0) ∧ Mb w' m none (t.on e r) ∧ Kp (oneB m) w w' := by
  obtain ⟨_, he, hs⟩ := why_0 hno
  obtain ⟨g1, hg1⟩ : ∃ g, g = w.heap.size := ⟨_, rfl⟩
  have HK1 := Lib.hid ((Kp.refl nob w).alloc (.cells (bvs r).toArray 32))
  have HB1 := Lib.hid (Blk.new w 32 (bvs r))
  have HRF := Lib.hid (refused_any t m none false (w.alloc (.cells (bvs r).toArray 32)) (h.keep0 HK1.out) (pow_nil _))
  have HL := Lib.hid (left_any t m none (w.alloc (.cells (bvs r).toArray 32)) (h.keep0 HK1.out))
  have HM1 := Lib.hid (h.keep0 HK1.out)
  have HR := Lib.hid hr
  have HRZ := Lib.hid (root_size r hr)
  have HS := Lib.hid (show t.count < t.most by omega)
  obtain ⟨q, hq⟩ : ∃ q, q = t.most - t.count := ⟨_, rfl⟩
  rw [← hq] at HL
  have hq0 : ((q : Int) == 0) = false := beq_eq_false_iff_ne.2 (by omega)
  have c1 := HM1.out.cells.2.1
  clear h hr hno hs hq hg1
  go_enter Try.func12, Try.ntmps12
  go_wp2_with fail
  refine HRF.out.mono ?_
  rintro e w1 ⟨rfl, rfl⟩
  go_wp2_with fail
  refine HL.out.mono ?_
  rintro e w2 ⟨rfl, k2⟩
  have HK2 := Lib.hid (HK1.out.trans k2 (fun _ e => e.elim))
  have HB2 := Lib.hid (HB1.out.keep k2 (fun e => e))
  have HM2 := Lib.hid (HM1.out.keep0 k2)
  have c3 := HM2.out.cells.2.2.2
  clear k2 c1
  go_wp2_with fail
  refine (act_nil w2).mono ?_
  rintro e w3 ⟨rfl, rfl⟩
  go_wp2_with (refine wpList_load_blk rfl 32 (.tmp 5) rfl _ _ _ HB2.out rfl _ root_under rfl HRZ.out ?_)
  refine (goOn_any t _ r m none w2 HM2.out HR.out HS.out).mono ?_
  rintro e w4 ⟨rfl, h4, k4⟩
  have H4 := Lib.hid h4; have K4 := Lib.hid k4
  clear h4 k4 c3
  go_wp2
  go_ret
  exact ⟨rfl, H4.out, (HK2.out.nob _).trans K4.out (fun i e => .inl e)⟩
end Go.Proofs.Ytchdobneipfghaa.Meter
