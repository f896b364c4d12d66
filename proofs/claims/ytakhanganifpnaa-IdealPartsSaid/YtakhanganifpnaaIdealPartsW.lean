import Derived.Test.YtakhanganifpnaaIdealParts
namespace Go.Proofs.Ytakhanganifpnaa.Ideal
set_option linter.unusedVariables false
set_option linter.unusedSimpArgs false
open Go Go.RowKit Kit
open Sha (Pc PcsOk catP)

set_option maxRecDepth 100000 in
theorem parts_great (A : Option Addr) (n cA : Nat) (cs : List CallI) (a b : CallI) (w : World) (hl : cs.length = n) (hr : Row w A (cs.flatMap CallI.cells)) (hok : ∀ c ∈ cs, c.ok) (hy : ¬ (tot cs ≤ 4096 ∧ n ≤ 40)) (hm : n ≤ 9223372036854775807) :
    Calls Try.prog 4 #[.slice A n cA, .agg a.cells.toArray, .agg b.cells.toArray] w fun e w' => e = .returned (.bool true) ∧ Kp nob w w' := by
  have hgr : (decide (4096 < tot cs) || decide (40 < n)) = true := by simp; omega
  have HR := Lib.hid hr; have HOK := Lib.hid hok; have HL := Lib.hid hl; have HG := Lib.hid hgr; have HN := Lib.hid hm
  have HKX := Lib.hid (((Kp.refl nob w).alloc (.cells a.cells.toArray 33)).alloc (.cells b.cells.toArray 33))
  clear hr hok hl hy hgr hm
  go_enter Try.func4, Try.ntmps4
  go_wp2_with fail
  generalize hwX : (w.alloc (.cells a.cells.toArray 33)).alloc (.cells b.cells.toArray 33) = wX at *
  clear hwX
  refine (alive_yes _).mono ?_
  rintro e w1 ⟨rfl, k1⟩
  have HK1 := Lib.hid (HKX.out.trans k1 (fun _ e => e.elim)); clear k1
  go_wp2_with fail
  refine (great_any A n cA cs w1 HL.out (HR.out.keep0 HK1.out) HOK.out HN.out).mono ?_
  rintro e w2 ⟨rfl, k2⟩
  rw [HG.out]
  have HK2 := Lib.hid (HK1.out.trans k2 (fun _ e => e.elim))
  clear k2 HK1
  go_wp2
  go_ret
  exact ⟨rfl, HK2.out⟩
set_option maxRecDepth 100000 in
theorem parts_great2 (A : Option Addr) (n cA : Nat) (cs : List CallI) (a b : CallI) (w : World) (hl : cs.length = n) (hr : Row w A (cs.flatMap CallI.cells)) (hok : ∀ c ∈ cs, c.ok) (ha : a.ok) (hb : b.ok) (ht : tot cs ≤ 4096) (hn : n ≤ 40) (ht2 : ¬ tot [a, b] ≤ 4096) :
    Calls Try.prog 4 #[.slice A n cA, .agg a.cells.toArray, .agg b.cells.toArray] w fun e w' => e = .returned (.bool true) ∧ Kp nob w w' := by
  obtain ⟨dT, hdT, hdR⟩ := C_under
  have HDT := Lib.hid hdT; have HDR := Lib.hid hdR
  have HR := Lib.hid hr; have HOK := Lib.hid hok; have HL := Lib.hid hl; have HT := Lib.hid ht; have HT2 := Lib.hid ht2; have HOA := Lib.hid ha; have HOB := Lib.hid hb
  have HKX := Lib.hid (((Kp.refl nob w).alloc (.cells a.cells.toArray 33)).alloc (.cells b.cells.toArray 33))
  have HBA := Lib.hid ((Blk.new w 33 a.cells).alloc (.cells b.cells.toArray 33))
  have HBB : Hid (Blk ((w.alloc (.cells a.cells.toArray 33)).alloc (.cells b.cells.toArray 33)) (w.heap.size + 1) 33 b.cells) := Lib.hid (Blk.new' (by simp) rfl)
  clear hdT hdR hr hok hl ht ht2 ha hb
  go_enter Try.func4, Try.ntmps4
  go_wp2_with fail
  generalize hwX : (w.alloc (.cells a.cells.toArray 33)).alloc (.cells b.cells.toArray 33) = wX at *
  clear hwX
  refine (alive_yes _).mono ?_
  rintro e w1 ⟨rfl, k1⟩
  have HK1 := Lib.hid (HKX.out.trans k1 (fun _ e => e.elim)); have HBA1 := Lib.hid (HBA.out.keep k1 (fun e => e)); have HBB1 := Lib.hid (HBB.out.keep k1 (fun e => e)); clear k1
  go_wp2_with fail
  refine (great_any A n cA cs w1 HL.out (HR.out.keep0 HK1.out) HOK.out (by omega)).mono ?_
  rintro e w2 ⟨rfl, k2⟩
  have hg : (decide (4096 < tot cs) || decide (40 < n)) = false := by have := HT.out; simp; omega
  rw [hg]
  have HK2 := Lib.hid (HK1.out.trans k2 (fun _ e => e.elim)); have HBA2 := Lib.hid (HBA1.out.keep k2 (fun e => e)); have HBB2 := Lib.hid (HBB1.out.keep k2 (fun e => e))
  clear k2 hg HK1 HBA1 HBB1 HBA HBB HKX
  go_wp2_with (first
    | (refine wpList_load_gd 33 (.tmp 4) rfl (by rfl) _ _ _ HBA2.out rfl dT HDT.out HDR.out (csize a) ?_)
    | (refine wpList_load_gd 33 (.tmp 5) rfl (by rfl) _ _ _ HBB2.out rfl dT HDT.out HDR.out (csize b) ?_)
    | (refine wpList_exec_gd (by rfl) (exec_calls2 (.tmp 24) (.tmp 25) a b rfl rfl rfl) ?_)
    | fail)
  refine (great_any _ 2 2 [a, b] _ rfl (by rw [List.flatMap_cons, List.flatMap_cons, List.flatMap_nil, List.append_nil]; exact row_new w2 (a.cells ++ b.cells) _) (fun c' h => by
    rcases List.mem_cons.1 h with rfl | h
    · exact HOA.out
    · rw [List.mem_singleton.1 h]; exact HOB.out) (by omega)).mono ?_
  rintro e w3 ⟨rfl, k3⟩
  have hg : (decide (4096 < tot [a, b]) || decide (40 < 2)) = true := by have := HT2.out; simp; omega
  rw [hg]
  have k23 := ((Kp.refl nob w2).alloc (.cells (a.cells ++ b.cells).toArray 33)).trans k3 (fun _ e => e.elim)
  have HK3 := Lib.hid (HK2.out.trans k23 (fun _ e => e.elim))
  clear k3 k23 hg HK2 HBA2 HBB2
  go_wp2
  go_ret
  exact ⟨rfl, HK3.out⟩
set_option maxRecDepth 100000 in
theorem parts_walk (A : Option Addr) (n cA : Nat) (cs : List CallI) (a b : CallI) (w : World) (hl : cs.length = n) (hn : A = none → cA = 0) (hr : Row w A (cs.flatMap CallI.cells)) (hc : n ≤ cA) (hm : cA ≤ maxLen) (hok : ∀ c ∈ cs, c.ok) (ha : a.ok) (hb : b.ok) :
    Calls Try.prog 4 #[.slice A n cA, .agg a.cells.toArray, .agg b.cells.toArray] w fun e w' => e = .returned (.bool true) ∧ Kp nob w w' := by
  unfold maxLen at hm
  by_cases hy : tot cs ≤ 4096 ∧ n ≤ 40
  · by_cases hz : tot [a, b] ≤ 4096
    · exact parts_yes A n cA cs a b w hl hr hok ha hb hy.1 hy.2 hz
    · exact parts_great2 A n cA cs a b w hl hr hok ha hb hy.1 hy.2 hz
  · exact parts_great A n cA cs a b w hl hr hok hy (by omega)
end Go.Proofs.Ytakhanganifpnaa.Ideal
