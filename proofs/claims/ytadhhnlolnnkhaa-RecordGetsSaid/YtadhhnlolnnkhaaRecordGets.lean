/- RecordGets: Get answers what the document says, of any bytes. -/
import Derived.Test.YtadhhnlolnnkhaaRecN
namespace Go.Proofs.Ytadhhnlolnnkhaa.Rec
set_option linter.unusedVariables false
set_option linter.unusedSimpArgs false
open Go Go.RowKit Kit

set_option maxHeartbeats 4000000 in
set_option maxRecDepth 100000 in
theorem gets_walk (A : Option Addr) (n c : Nat) (l : List UInt8) (w : World) (hl : l.length = n) (hn : A = none → c = 0) (hr : Row w A (bvs l)) (hc : n ≤ c) (hm : c ≤ maxLen) :
    Calls Try.prog 4 #[.slice A n c] w fun e w' => e = .returned (.bool true) ∧ Kp nob w w' := by
  have HR := Lib.hid hr; have HNN := Lib.hid hn; have HLN := Lib.hid hl
  clear hr hn hl hm
  by_cases hg : 4096 < n
  · have hb : decide ((4096 : Int) < (n : Int)) = true := by simp; omega
    go_enter Try.func4, Try.ntmps4
    go_wp2_with fail
    refine (alive_yes _).mono ?_
    rintro e w1 ⟨rfl, k1⟩
    go_wp2
    go_ret
    exact ⟨rfl, k1⟩
  · have hb : decide ((4096 : Int) < (n : Int)) = false := by simp; omega
    have HL := Lib.hid (show n ≤ 4096 by omega)
    clear hg hc
    obtain ⟨R, hR⟩ : ∃ R, R = gotR l := ⟨_, rfl⟩
    have hgt := fun w' => get_any A n c l w' HLN.out (by have := HL.out; omega) HNN.out
    have hdg := fun w' => dGet l w' (by have := HL.out; have := HLN.out; omega)
    have hE : gotE l = if (recGet l).isSome then 0 else 4 := rfl
    rw [← hR] at hgt
    simp only [← hR] at hdg
    obtain ⟨ok, hok⟩ : ∃ ok, ok = (recGet l).isSome := ⟨_, rfl⟩
    rw [← hok] at hE
    simp only [← hok] at hdg
    rw [hE] at hgt
    obtain ⟨kind, queue, id, num, wait, body⟩ := R
    unfold rv at hgt hdg
    clear hE hok hR
    cases ok
    all_goals
      simp only [if_true, if_false, Bool.false_eq_true] at hgt
      have HG := Lib.hid hgt; have HD := Lib.hid hdg
      clear hgt hdg
      go_enter Try.func4, Try.ntmps4
      go_wp2_with fail
      refine (alive_yes _).mono ?_
      rintro e w1 ⟨rfl, k1⟩
      have HR1 := Lib.hid (HR.out.keep0 k1)
      have HK1 := Lib.hid k1
      clear k1 HR
      go_wp2_with fail
      refine (HG.out w1 HR1.out).mono ?_
      rintro e w2 ⟨rfl, k2⟩
      have hcv := conv_row (w2.alloc (.cells #[.int .i64 kind, .int .i64 queue, .int .i64 id, .int .i64 num, .int .i64 wait, .string (str body)] 23)) A n c l HLN.out ((HR1.out.keep0 k2).alloc _)
      have HK2 := Lib.hid ((HK1.out.trans k2 (fun _ e => e.elim)).alloc (.cells #[.int .i64 kind, .int .i64 queue, .int .i64 id, .int .i64 num, .int .i64 wait, .string (str body)] 23))
      have HB2 := Lib.hid (Blk.new w2 23 (rcells ⟨kind, queue, id, num, wait, body⟩))
      clear HK1 HR1 k2
      go_wp2_with fail
      refine (HD.out _).mono ?_
      rintro e w3 ⟨rfl, k3⟩
      obtain ⟨c0, c1, c2, c3, c4, c5⟩ := box_cells (HB2.out.keep k3 (fun e => e))
      have HK3 := Lib.hid (HK2.out.trans k3 (fun _ e => e.elim))
      have hlt : w2.heap.size < w3.heap.size := by have := k3.size; simp at this; omega
      clear HB2 HK2 k3 hcv
      simp only at c0 c1 c2 c3 c4 c5
      go_wp2
      go_ret
      refine ⟨?_, by repeat (first | exact HK3.out | apply Kp.alloc)⟩
      simp
end Go.Proofs.Ytadhhnlolnnkhaa.Rec
