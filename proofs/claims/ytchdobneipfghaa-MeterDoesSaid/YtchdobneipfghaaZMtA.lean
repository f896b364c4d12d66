/- The register in memory; contracts of its small functions. -/
import Derived.Test.YtchdobneipfghaaZG00
import Derived.Test.YtchdobneipfghaaZDskD
namespace Go.Proofs.Ytchdobneipfghaa.Meter
set_option linter.unusedVariables false
set_option linter.unusedSimpArgs false
open Go Go.RowKit Kit Disk

/-- What it says, as cells. -/
def vcells (t : Mt) : List Value := .int .i64 (t.count : Int) :: .int .i64 t.epoch :: bvs t.root
theorem vcells_length (t : Mt) (h : t.root.length = 32) : (vcells t).length = 34 := by simp [vcells, h]
theorem vcells_one (t : Mt) : ∀ u ∈ vcells t, u.oneCell' = true := by
  intro u hu
  rcases List.mem_cons.1 hu with rfl | hu
  · rfl
  · rcases List.mem_cons.1 hu with rfl | hu
    · rfl
    · exact bvs_one _ u hu
def mcells (t : Mt) (X : Option Addr) : List Value := vcells t ++ [.int .i64 (t.most : Int), .pointer X]
theorem mcells_length (t : Mt) (X : Option Addr) (h : t.root.length = 32) : (mcells t X).length = 36 := by rw [mcells, List.length_append, vcells_length t h]; rfl
/-- The register at m, whose power is X's. -/
structure Mb (w : World) (m : Nat) (X : Option Addr) (t : Mt) : Prop where
  b : Blk w m 57 (mcells t X)
  k : Mk t
theorem Mb.keep {w w2 : World} {m : Nat} {X : Option Addr} {t : Mt} {G : Nat → Prop} (h : Mb w m X t) (k : Kp G w w2) (hm : ¬ G m) : Mb w2 m X t := ⟨h.b.keep k hm, h.k⟩
theorem Mb.keep0 {w w2 : World} {m : Nat} {X : Option Addr} {t : Mt} (h : Mb w m X t) (k : Kp nob w w2) : Mb w2 m X t := h.keep k (fun e => e)
theorem Mb.cells {w : World} {m : Nat} {X : Option Addr} {t : Mt} (h : Mb w m X t) : w.cell? ⟨m, 0, none⟩ = some (.int .i64 (t.count : Int)) ∧ w.cell? ⟨m, 1, none⟩ = some (.int .i64 t.epoch) ∧ w.cell? ⟨m, 34, none⟩ = some (.int .i64 (t.most : Int)) ∧ w.cell? ⟨m, 35, none⟩ = some (.pointer X) := by
  have hl := vcells_length t h.k.root
  refine ⟨h.b.cell 0, h.b.cell 1, ?_, ?_⟩
  · rw [h.b.cell, mcells, List.getElem?_append_right (by omega), hl]; rfl
  · rw [h.b.cell, mcells, List.getElem?_append_right (by omega), hl]; rfl
theorem Mb.range {w : World} {m : Nat} {X : Option Addr} {t : Mt} (h : Mb w m X t) : w.rangeAt m 0 (vcells t) :=
  h.b.part 0 (vcells t) (fun j v hv => by rw [Nat.zero_add, mcells, List.getElem?_append_left (List.getElem?_eq_some_iff.1 hv).1]; exact hv)
theorem val_under : Try.prog.underlying 48 = some (.struct (Try.prog.fieldsOf 48)) := by kernel_rfl
theorem val_size (t : Mt) (h : t.root.length = 32) : (Try.prog.info? 48).map (·.size) = some (vcells t).length := by rw [vcells_length t h]; kernel_rfl
theorem root_under : Try.prog.underlying 32 = some (.array 32 5) := by kernel_rfl
theorem root_size (r : List UInt8) (h : r.length = 32) : (Try.prog.info? 32).map (·.size) = some (bvs r).length := by rw [bvs_length, h]; kernel_rfl
/-- What nothing says. -/
def none_ : Mt := ⟨0, 0, z32, 0⟩
set_option maxRecDepth 100000 in
theorem zval_run (w : World) : (zeroValue 48).run Try.prog w = .ok (.agg (vcells none_).toArray) w := by kernel_rfl
set_option maxRecDepth 100000 in
theorem zval_build (w : World) : (Instr.build 48 #[]).run Try.prog w = .ok (.agg (vcells none_).toArray) w := by kernel_rfl
/-- Its power. -/
def Pow (w : World) (X : Option Addr) (off : Bool) : Prop := ∀ w', Kp nob w w' → Calls Try.prog 24 #[.pointer X] w' fun e w2 => e = .returned (.bool off) ∧ w' = w2
theorem Cd.pow {w : World} {g N S : Nat} {W : Option Addr} {cW : Nat} {D : Dk} (h : Cd w g N S W cW D) : Pow w (some ⟨g, 0, none⟩) D.off := fun w' k => down_any D g N S W cW w' (h.keep0 k)
theorem pow_nil (w : World) : Pow w none false := fun w' _ => by
  go_enter Try.func24, Try.ntmps24
  go_wp2
  go_ret
  exact ⟨rfl, rfl⟩
theorem refused_any (t : Mt) (m : Nat) (X : Option Addr) (off : Bool) (w : World) (h : Mb w m X t) (hp : Pow w X off) :
    Calls Try.prog 25 #[.pointer (some ⟨m, 0, none⟩)] w fun e w' => e = .returned (.int .i64 (if off then 8 else 0)) ∧ w = w' := by
  have c := h.cells.2.2.2
  have HP := Lib.hid (hp w (Kp.refl _ _))
  clear h hp
  cases off with
  | true =>
    go_enter Try.func25, Try.ntmps25
    go_wp2_with fail
    refine HP.out.mono ?_
    rintro e w1 ⟨rfl, rfl⟩
    go_wp2
    go_ret
    exact ⟨rfl, rfl⟩
  | false =>
    go_enter Try.func25, Try.ntmps25
    go_wp2_with fail
    refine HP.out.mono ?_
    rintro e w1 ⟨rfl, rfl⟩
    go_wp2
    go_ret
    exact ⟨rfl, rfl⟩
theorem left_any (t : Mt) (m : Nat) (X : Option Addr) (w : World) (h : Mb w m X t) :
    Calls Try.prog 22 #[.pointer (some ⟨m, 0, none⟩)] w fun e w' => e = .returned (.int .i64 ((t.most - t.count : Nat) : Int)) ∧ Kp nob w w' := by
  obtain ⟨c0, c1, c2, c3⟩ := h.cells
  obtain ⟨q, hq⟩ : ∃ q, q = t.most - t.count := ⟨_, rfl⟩
  have e1 : IntKind.i64.wrap ((t.most : Int) - (t.count : Int)) = (q : Int) := by have := h.k.le; have := h.k.most; rw [IntWalk.i64_in _ (by omega)]; omega
  rw [← hq]
  clear h c1 c3 hq
  go_enter Try.func22, Try.ntmps22
  go_wp2
  go_quiet (fail)
  go_wp2
  go_ret
  exact ⟨rfl, (Kp.refl nob w).drewN _⟩
set_option maxHeartbeats 1000000 in
set_option maxRecDepth 100000 in
theorem get_any (t : Mt) (m : Nat) (X : Option Addr) (off : Bool) (w : World) (h : Mb w m X t) (hp : Pow w X off) :
    Calls Try.prog 21 #[.pointer (some ⟨m, 0, none⟩)] w fun e w' => e = .returned (.tuple #[.agg (vcells (if off then none_ else t)).toArray, .int .i64 (if off then 8 else 0)]) ∧ Kp nob w w' := by
  have hz := zval_run
  have HK := Lib.hid ((Kp.refl nob w).alloc (.cells (vcells none_).toArray 48))
  have HB := Lib.hid (Blk.new w 48 (vcells none_))
  have HRF := Lib.hid (fun w' (k : Kp nob w w') => refused_any t m X off w' (h.keep0 k) (fun w2 k2 => hp w2 (k.trans k2 (fun _ e => e.elim))))
  have HM := Lib.hid h
  have HZS := Lib.hid (val_size none_ z32_length)
  have HZO := Lib.hid (vcells_one none_)
  clear h hp
  cases off with
  | true =>
    go_enter Try.func21, Try.ntmps21
    go_wp2_with fail
    refine (HRF.out _ HK.out).mono ?_
    rintro e w1 ⟨rfl, rfl⟩
    go_wp2_with (first
      | (refine wpList_built rfl 48 _ rfl (.agg (vcells none_).toArray) (by exact exec_bld _ _ rfl [] _ rfl (zval_build _)) ?_)
      | (refine wpList_store_blk rfl 48 (.tmp 2) (.tmp 9) rfl _ _ (vcells none_) (vcells none_) HB.out rfl rfl rfl HZS.out HZO.out ?_; intro w2 hB2 k2 z2; have HB2 := Lib.hid hB2; have HK2 := Lib.hid (HK.out.since k2 (fun i e => Nat.le_of_eq e.symm)); clear hB2 k2 z2))
    exact bodyPost_ret (results_row_tmp rfl _ _ w.heap.size _ (vcells none_) _ rfl HB2.out val_under rfl HZS.out _ rfl) rfl ⟨rfl, HK2.out⟩
  | false =>
    have HVS := Lib.hid (val_size t HM.out.k.root)
    have HLE := Lib.hid (show (vcells t).length = (vcells none_).length by rw [vcells_length _ HM.out.k.root, vcells_length _ z32_length])
    go_enter Try.func21, Try.ntmps21
    go_wp2_with fail
    refine (HRF.out _ HK.out).mono ?_
    rintro e w1 ⟨rfl, rfl⟩
    go_wp2_with (first
      | (refine wpList_load_mid rfl 48 (.tmp 13) rfl m 0 rfl (vcells t) _ (HM.out.keep0 HK.out).range val_under rfl HVS.out ?_)
      | (refine wpList_store_blk rfl 48 (.tmp 2) (.tmp 14) rfl _ _ (vcells none_) (vcells t) HB.out rfl rfl HLE.out HVS.out (vcells_one _) ?_; intro w2 hB2 k2 z2; have HB2 := Lib.hid hB2; have HK2 := Lib.hid (HK.out.since k2 (fun i e => Nat.le_of_eq e.symm)); clear hB2 k2 z2))
    exact bodyPost_ret (results_row_tmp rfl _ _ w.heap.size _ (vcells t) _ rfl HB2.out val_under rfl HVS.out _ rfl) rfl ⟨rfl, HK2.out⟩
end Go.Proofs.Ytchdobneipfghaa.Meter
