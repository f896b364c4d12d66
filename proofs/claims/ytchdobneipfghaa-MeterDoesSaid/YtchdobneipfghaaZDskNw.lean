/- A new disk. -/
import Derived.Test.YtchdobneipfghaaZDskE
import Derived.Laws.MakeOwn
namespace Go.Proofs.Ytchdobneipfghaa.Disk
set_option linter.unusedVariables false
set_option linter.unusedSimpArgs false
open Go Go.RowKit Kit

theorem secs_zero (n : Nat) : (List.replicate n z256).flatMap bvs = List.replicate (n * 256) (bv 0) := by
  induction n with
  | zero => rw [Nat.zero_mul]; rfl
  | succ n ih => rw [List.replicate_succ, List.flatMap_cons, ih, z256, bvs, List.map_replicate, List.replicate_append_replicate, Nat.succ_mul, Nat.add_comm]
theorem zsec_at (j : Nat) (h : j < 256) : zsec.toArray[j]! = bv 0 := by
  have h1 : zsec[j]? = some (bv 0) := by
    rw [zsec, bvs, List.getElem?_map, z256, List.getElem?_replicate, if_pos h]; rfl
  have h2 : zsec.toArray[j]? = some (bv 0) := by rw [List.getElem?_toArray]; exact h1
  rw [getElem!_def, h2]
theorem made_secs (n : Nat) : madeCells zsec.toArray (n * 256) = ((List.replicate n z256).flatMap bvs).toArray := by
  rw [secs_zero]
  have hz : zsec.toArray.size = 256 := by rw [List.size_toArray, zsec_length]
  apply Array.ext_getElem?
  intro i
  rw [madeCells, Array.getElem?_map, List.getElem?_toArray (xs := List.replicate (n * 256) (bv 0)), List.getElem?_replicate]
  by_cases h : i < n * 256
  · rw [Array.getElem?_range, if_pos h, if_pos h, Option.map_some, hz, zsec_at _ (Nat.mod_lt _ (by decide))]
  · rw [Array.getElem?_range, if_neg h, if_neg h]; rfl
theorem secs_under : Try.prog.underlying 61 = some (.slice 74) := by kernel_rfl
set_option maxRecDepth 100000 in
theorem sec_info : (Try.prog.info? 74).map (fun i => (i.zero, i.size, i.bytes)) = some (some (.agg zsec.toArray), 256, 256) := by kernel_rfl
theorem make_secs (n : Nat) (hn : n ≤ 4096) (w : World) : (Instr.makeSlice 61 (.int .i64 (n : Int)) (.int .i64 (n : Int))).run Try.prog w = .ok (.slice (some ⟨w.heap.size, 0, none⟩) n n) (w.alloc (.cells ((List.replicate n z256).flatMap bvs).toArray 74)) := by
  obtain ⟨i0, hi, hz0, hz1, hz2⟩ := info_parts3 sec_info
  have hr := run_make (P := Try.prog) w 61 74 i0 _ secs_under hi hz0 .i64 .i64 n n (by omega) (by omega) (by rw [hz2]; omega) (by omega)
  rw [hz1, Int.toNat_natCast, show (Value.agg zsec.toArray).cells = zsec.toArray from rfl, made_secs] at hr
  exact hr
/-- How many sectors a new disk has. -/
def clamp (n : Int) : Nat := min n.toNat 4096
theorem new_cd {w : World} {g N S n : Nat} (hn : n ≤ 4096) (hB : Blk w g 64 [.slice (some ⟨N, 0, none⟩) n n, .slice (some ⟨S, 0, none⟩) n n, .slice none 0 0, .bool false, .int .i64 0, .int .i64 0, .int .u64 0])
    (hN : Blk w N 74 ((List.replicate n z256).flatMap bvs)) (hS : Blk w S 74 ((List.replicate n z256).flatMap bvs)) (ne : N ≠ g ∧ S ≠ g ∧ N ≠ S) : Cd w g N S none 0 (new n) := by
  refine ⟨?_, hN, hS, OwnK.nil _ _ _, new_ok n, rfl, ?_, ne, fun k e => by cases e⟩
  · show Blk _ _ _ [.slice _ (List.replicate n (full [])).length (List.replicate n (full [])).length, .slice _ (List.replicate n (full [])).length (List.replicate n (full [])).length, _, _, _, _, _]
    rw [List.length_replicate]
    exact hB
  · show (List.replicate n (full [])).length ≤ 4096
    rw [List.length_replicate]; exact hn
/-- A new disk's region: the two rows may be made in either order. -/
theorem dk_cells (N S m : Nat) (w : World) : (Instr.build 64 #[(0, .slice (some ⟨N, 0, none⟩) m m), (1, .slice (some ⟨S, 0, none⟩) m m)]).run Try.prog w = .ok (.agg #[.slice (some ⟨N, 0, none⟩) m m, .slice (some ⟨S, 0, none⟩) m m, .slice none 0 0, .bool false, .int .i64 0, .int .i64 0, .int .u64 0]) w := by kernel_rfl
theorem new_end {a m : Nat} {w w1 : World} {N S : Nat} (hm : m ≤ 4096) (h1 : Kp nob w w1) (ha : w1.heap.size = a) (hNS : (N = a ∧ S = a + 1) ∨ (N = a + 1 ∧ S = a)) :
    Cd (((w1.alloc (.cells ((List.replicate m z256).flatMap bvs).toArray 74)).alloc (.cells ((List.replicate m z256).flatMap bvs).toArray 74)).alloc (.cells #[.slice (some ⟨N, 0, none⟩) m m, .slice (some ⟨S, 0, none⟩) m m, .slice none 0 0, .bool false, .int .i64 0, .int .i64 0, .int .u64 0] 64)) (a + 2) N S none 0 (new m) ∧ Kp nob w (((w1.alloc (.cells ((List.replicate m z256).flatMap bvs).toArray 74)).alloc (.cells ((List.replicate m z256).flatMap bvs).toArray 74)).alloc (.cells #[.slice (some ⟨N, 0, none⟩) m m, .slice (some ⟨S, 0, none⟩) m m, .slice none 0 0, .bool false, .int .i64 0, .int .i64 0, .int .u64 0] 64)) ∧ (∀ k, dF (a + 2) N S none k → w.heap.size ≤ k) := by
  have hs := h1.size
  have b1 : Blk (w1.alloc (.cells ((List.replicate m z256).flatMap bvs).toArray 74)) a 74 ((List.replicate m z256).flatMap bvs) := Blk.new' ha.symm rfl
  have b2 : Blk ((w1.alloc (.cells ((List.replicate m z256).flatMap bvs).toArray 74)).alloc (.cells ((List.replicate m z256).flatMap bvs).toArray 74)) (a + 1) 74 ((List.replicate m z256).flatMap bvs) := Blk.new' (by simp [ha]) rfl
  refine ⟨new_cd hm (Blk.new' (by simp [ha]) rfl) ?_ ?_ ?_, ((h1.alloc _).alloc _).alloc _, ?_⟩
  · rcases hNS with ⟨rfl, rfl⟩ | ⟨rfl, rfl⟩
    · exact (b1.alloc _).alloc _
    · exact b2.alloc _
  · rcases hNS with ⟨rfl, rfl⟩ | ⟨rfl, rfl⟩
    · exact b2.alloc _
    · exact (b1.alloc _).alloc _
  · rcases hNS with ⟨rfl, rfl⟩ | ⟨rfl, rfl⟩ <;> exact ⟨by omega, by omega, by omega⟩
  · intro k e
    rcases e with e | e | e | e
    · omega
    · rcases hNS with ⟨rfl, rfl⟩ | ⟨rfl, rfl⟩ <;> omega
    · rcases hNS with ⟨rfl, rfl⟩ | ⟨rfl, rfl⟩ <;> omega
    · cases e
theorem exec_mk {act : Act} {o : Oper} {w w' : World} {r : Value} (x : Operand) (V : Int) (m : Nat) (ho : o.op = .makeSlice 61 x x) (hx : act.eval x = .int .i64 V) (h : (Instr.makeSlice 61 (.int .i64 V) (.int .i64 V)).run Try.prog w = .ok r w') :
    (execOp act.eval o).run Try.prog w = .ok (.value r) w' := by
  unfold execOp
  simp only [ho, hx, Sem.run_bind, h, Result.andThen_ok, Sem.run_pure]
set_option maxHeartbeats 2000000 in
set_option maxRecDepth 100000 in
theorem new_any (n : Int) (w : World) :
    Calls Try.prog 8 #[.int .i64 n] w fun e w' => ∃ g N S, e = .returned (.pointer (some ⟨g, 0, none⟩)) ∧ Cd w' g N S none 0 (new (clamp n)) ∧ Kp nob w w' ∧ (∀ k, dF g N S none k → w.heap.size ≤ k) := by
  obtain ⟨m, hm⟩ : ∃ m, m = clamp n := ⟨_, rfl⟩
  have h1 : m ≤ 4096 := by rw [hm]; exact Nat.min_le_right _ _
  have hmk0 := fun w => make_secs m h1 w
  rw [← hm]
  have HM := Lib.hid h1
  by_cases hn : n < 0
  · have hmk := fun w => (show _ = _ from hmk0 w)
    rw [show ((m : Nat) : Int) = 0 by unfold clamp at hm; omega] at hmk
    clear hm h1 hmk0
    go_enter Try.func8, Try.ntmps8
    go_wp2
    have HK1 := Lib.hid (Kp.refl nob w).drew
    refine reg_begin (fun _ => True) (by kernel_rfl) trivial (fun _ => ?_)
    obtain ⟨a, ha⟩ : ∃ a, w.drew.heap.size = a := ⟨_, rfl⟩
    have HA := Lib.hid ha
    generalize w.drew = w1 at *
    refine reg_take (v := .int .i64 0) 0 (some 6) rfl rfl (by kernel_rfl) (by kernel_rfl) (by kernel_rfl) (by rfl) trivial (fun w hw => by go_simp) ?_
    simp only [Act.put, List.setIfInBounds_toArray, List.set_cons_zero, List.set_cons_succ]
    refine reg_take (v := .int .i64 0) 2 (some 8) rfl rfl (by kernel_rfl) (by kernel_rfl) (by kernel_rfl) (by rfl) trivial (fun w hw => by go_simp) ?_
    simp only [Act.put, List.setIfInBounds_toArray, List.set_cons_zero, List.set_cons_succ]
    refine reg_stepOr (v := .slice (some ⟨w1.heap.size, 0, none⟩) m m) (wi := w1.alloc (.cells ((List.replicate m z256).flatMap bvs).toArray 74)) (u := .slice (some ⟨w1.heap.size, 0, none⟩) m m) (wj := w1.alloc (.cells ((List.replicate m z256).flatMap bvs).toArray 74)) 1 3 (some 7) (some 9) rfl rfl rfl rfl (by kernel_rfl) (by rfl) (by rfl) (exec_mk (.tmp 6) 0 m rfl rfl (hmk _)) (exec_mk (.tmp 8) 0 m rfl rfl (hmk _)) trivial trivial (fun _ => ?_) (fun _ => ?_)
    case' refine_1 =>
      simp only [Act.put, List.setIfInBounds_toArray, List.set_cons_zero, List.set_cons_succ]
      refine reg_step (v := .slice (some ⟨(w1.alloc (.cells ((List.replicate m z256).flatMap bvs).toArray 74)).heap.size, 0, none⟩) m m) (w' := (w1.alloc (.cells ((List.replicate m z256).flatMap bvs).toArray 74)).alloc (.cells ((List.replicate m z256).flatMap bvs).toArray 74)) 3 (some 9) rfl rfl (by kernel_rfl) (by rfl) (exec_mk (.tmp 8) 0 m rfl rfl (hmk _)) trivial (fun _ => ?_)
      simp only [Act.put, List.setIfInBounds_toArray, List.set_cons_zero, List.set_cons_succ]
      rw [show (w1.alloc (.cells ((List.replicate m z256).flatMap bvs).toArray 74)).heap.size = a + 1 by simp [HA.out], HA.out]
      refine reg_take (v := .agg #[.slice (some ⟨a, 0, none⟩) m m, .slice (some ⟨a + 1, 0, none⟩) m m, .slice none 0 0, .bool false, .int .i64 0, .int .i64 0, .int .u64 0]) 4 (some 10) rfl rfl (by kernel_rfl) (by kernel_rfl) (by kernel_rfl) (by rfl) trivial (fun w hw => by exact exec_bld _ _ rfl [(0, .slice (some ⟨a, 0, none⟩) m m), (1, .slice (some ⟨a + 1, 0, none⟩) m m)] _ rfl (dk_cells _ _ _ _)) ?_
      simp only [Act.put, List.setIfInBounds_toArray, List.set_cons_zero, List.set_cons_succ]
      refine reg_step (v := .pointer (some ⟨((w1.alloc (.cells ((List.replicate m z256).flatMap bvs).toArray 74)).alloc (.cells ((List.replicate m z256).flatMap bvs).toArray 74)).heap.size, 0, none⟩)) (w' := ((w1.alloc (.cells ((List.replicate m z256).flatMap bvs).toArray 74)).alloc (.cells ((List.replicate m z256).flatMap bvs).toArray 74)).alloc (.cells #[.slice (some ⟨a, 0, none⟩) m m, .slice (some ⟨a + 1, 0, none⟩) m m, .slice none 0 0, .bool false, .int .i64 0, .int .i64 0, .int .u64 0] 64)) 5 (some 11) rfl rfl (by kernel_rfl) (by rfl) (by kernel_rfl) trivial (fun _ => ?_)
      simp only [Act.put, List.setIfInBounds_toArray, List.set_cons_zero, List.set_cons_succ]
      rw [show ((w1.alloc (.cells ((List.replicate m z256).flatMap bvs).toArray 74)).alloc (.cells ((List.replicate m z256).flatMap bvs).toArray 74)).heap.size = a + 2 by simp [HA.out]]
      refine reg_take (v := .pointer (some ⟨a + 2, 0, none⟩)) 6 (some 2) rfl rfl (by kernel_rfl) (by kernel_rfl) (by kernel_rfl) (by rfl) trivial (fun w hw => by go_simp) ?_
      simp only [Act.put, List.setIfInBounds_toArray, List.set_cons_zero, List.set_cons_succ]
      refine reg_end (by kernel_rfl) ?_
      go_wp2
      go_ret
      exact ⟨a + 2, a, a + 1, rfl, new_end HM.out HK1.out HA.out (.inl ⟨rfl, rfl⟩)⟩
    case' refine_2 =>
      simp only [Act.put, List.setIfInBounds_toArray, List.set_cons_zero, List.set_cons_succ]
      refine reg_step (v := .slice (some ⟨(w1.alloc (.cells ((List.replicate m z256).flatMap bvs).toArray 74)).heap.size, 0, none⟩) m m) (w' := (w1.alloc (.cells ((List.replicate m z256).flatMap bvs).toArray 74)).alloc (.cells ((List.replicate m z256).flatMap bvs).toArray 74)) 1 (some 7) rfl rfl (by kernel_rfl) (by rfl) (exec_mk (.tmp 6) 0 m rfl rfl (hmk _)) trivial (fun _ => ?_)
      simp only [Act.put, List.setIfInBounds_toArray, List.set_cons_zero, List.set_cons_succ]
      rw [show (w1.alloc (.cells ((List.replicate m z256).flatMap bvs).toArray 74)).heap.size = a + 1 by simp [HA.out], HA.out]
      refine reg_take (v := .agg #[.slice (some ⟨a + 1, 0, none⟩) m m, .slice (some ⟨a, 0, none⟩) m m, .slice none 0 0, .bool false, .int .i64 0, .int .i64 0, .int .u64 0]) 4 (some 10) rfl rfl (by kernel_rfl) (by kernel_rfl) (by kernel_rfl) (by rfl) trivial (fun w hw => by exact exec_bld _ _ rfl [(0, .slice (some ⟨a + 1, 0, none⟩) m m), (1, .slice (some ⟨a, 0, none⟩) m m)] _ rfl (dk_cells _ _ _ _)) ?_
      simp only [Act.put, List.setIfInBounds_toArray, List.set_cons_zero, List.set_cons_succ]
      refine reg_step (v := .pointer (some ⟨((w1.alloc (.cells ((List.replicate m z256).flatMap bvs).toArray 74)).alloc (.cells ((List.replicate m z256).flatMap bvs).toArray 74)).heap.size, 0, none⟩)) (w' := ((w1.alloc (.cells ((List.replicate m z256).flatMap bvs).toArray 74)).alloc (.cells ((List.replicate m z256).flatMap bvs).toArray 74)).alloc (.cells #[.slice (some ⟨a + 1, 0, none⟩) m m, .slice (some ⟨a, 0, none⟩) m m, .slice none 0 0, .bool false, .int .i64 0, .int .i64 0, .int .u64 0] 64)) 5 (some 11) rfl rfl (by kernel_rfl) (by rfl) (by kernel_rfl) trivial (fun _ => ?_)
      simp only [Act.put, List.setIfInBounds_toArray, List.set_cons_zero, List.set_cons_succ]
      rw [show ((w1.alloc (.cells ((List.replicate m z256).flatMap bvs).toArray 74)).alloc (.cells ((List.replicate m z256).flatMap bvs).toArray 74)).heap.size = a + 2 by simp [HA.out]]
      refine reg_take (v := .pointer (some ⟨a + 2, 0, none⟩)) 6 (some 2) rfl rfl (by kernel_rfl) (by kernel_rfl) (by kernel_rfl) (by rfl) trivial (fun w hw => by go_simp) ?_
      simp only [Act.put, List.setIfInBounds_toArray, List.set_cons_zero, List.set_cons_succ]
      refine reg_end (by kernel_rfl) ?_
      go_wp2
      go_ret
      exact ⟨a + 2, a + 1, a, rfl, new_end HM.out HK1.out HA.out (.inr ⟨rfl, rfl⟩)⟩
  · by_cases hb : 4096 < n
    · have hmk := fun w => (show _ = _ from hmk0 w)
      rw [show ((m : Nat) : Int) = 4096 by unfold clamp at hm; omega] at hmk
      have h0 : 0 ≤ n := by omega
      clear hm h1 hmk0 hn
      go_enter Try.func8, Try.ntmps8
      go_wp2
      have HK1 := Lib.hid (Kp.refl nob w).drew
      refine reg_begin (fun _ => True) (by kernel_rfl) trivial (fun _ => ?_)
      obtain ⟨a, ha⟩ : ∃ a, w.drew.heap.size = a := ⟨_, rfl⟩
      have HA := Lib.hid ha
      generalize w.drew = w1 at *
      refine reg_take (v := .int .i64 4096) 0 (some 6) rfl rfl (by kernel_rfl) (by kernel_rfl) (by kernel_rfl) (by rfl) trivial (fun w hw => by go_simp) ?_
      simp only [Act.put, List.setIfInBounds_toArray, List.set_cons_zero, List.set_cons_succ]
      refine reg_take (v := .int .i64 4096) 2 (some 8) rfl rfl (by kernel_rfl) (by kernel_rfl) (by kernel_rfl) (by rfl) trivial (fun w hw => by go_simp) ?_
      simp only [Act.put, List.setIfInBounds_toArray, List.set_cons_zero, List.set_cons_succ]
      refine reg_stepOr (v := .slice (some ⟨w1.heap.size, 0, none⟩) m m) (wi := w1.alloc (.cells ((List.replicate m z256).flatMap bvs).toArray 74)) (u := .slice (some ⟨w1.heap.size, 0, none⟩) m m) (wj := w1.alloc (.cells ((List.replicate m z256).flatMap bvs).toArray 74)) 1 3 (some 7) (some 9) rfl rfl rfl rfl (by kernel_rfl) (by rfl) (by rfl) (exec_mk (.tmp 6) 4096 m rfl rfl (hmk _)) (exec_mk (.tmp 8) 4096 m rfl rfl (hmk _)) trivial trivial (fun _ => ?_) (fun _ => ?_)
      case' refine_1 =>
        simp only [Act.put, List.setIfInBounds_toArray, List.set_cons_zero, List.set_cons_succ]
        refine reg_step (v := .slice (some ⟨(w1.alloc (.cells ((List.replicate m z256).flatMap bvs).toArray 74)).heap.size, 0, none⟩) m m) (w' := (w1.alloc (.cells ((List.replicate m z256).flatMap bvs).toArray 74)).alloc (.cells ((List.replicate m z256).flatMap bvs).toArray 74)) 3 (some 9) rfl rfl (by kernel_rfl) (by rfl) (exec_mk (.tmp 8) 4096 m rfl rfl (hmk _)) trivial (fun _ => ?_)
        simp only [Act.put, List.setIfInBounds_toArray, List.set_cons_zero, List.set_cons_succ]
        rw [show (w1.alloc (.cells ((List.replicate m z256).flatMap bvs).toArray 74)).heap.size = a + 1 by simp [HA.out], HA.out]
        refine reg_take (v := .agg #[.slice (some ⟨a, 0, none⟩) m m, .slice (some ⟨a + 1, 0, none⟩) m m, .slice none 0 0, .bool false, .int .i64 0, .int .i64 0, .int .u64 0]) 4 (some 10) rfl rfl (by kernel_rfl) (by kernel_rfl) (by kernel_rfl) (by rfl) trivial (fun w hw => by exact exec_bld _ _ rfl [(0, .slice (some ⟨a, 0, none⟩) m m), (1, .slice (some ⟨a + 1, 0, none⟩) m m)] _ rfl (dk_cells _ _ _ _)) ?_
        simp only [Act.put, List.setIfInBounds_toArray, List.set_cons_zero, List.set_cons_succ]
        refine reg_step (v := .pointer (some ⟨((w1.alloc (.cells ((List.replicate m z256).flatMap bvs).toArray 74)).alloc (.cells ((List.replicate m z256).flatMap bvs).toArray 74)).heap.size, 0, none⟩)) (w' := ((w1.alloc (.cells ((List.replicate m z256).flatMap bvs).toArray 74)).alloc (.cells ((List.replicate m z256).flatMap bvs).toArray 74)).alloc (.cells #[.slice (some ⟨a, 0, none⟩) m m, .slice (some ⟨a + 1, 0, none⟩) m m, .slice none 0 0, .bool false, .int .i64 0, .int .i64 0, .int .u64 0] 64)) 5 (some 11) rfl rfl (by kernel_rfl) (by rfl) (by kernel_rfl) trivial (fun _ => ?_)
        simp only [Act.put, List.setIfInBounds_toArray, List.set_cons_zero, List.set_cons_succ]
        rw [show ((w1.alloc (.cells ((List.replicate m z256).flatMap bvs).toArray 74)).alloc (.cells ((List.replicate m z256).flatMap bvs).toArray 74)).heap.size = a + 2 by simp [HA.out]]
        refine reg_take (v := .pointer (some ⟨a + 2, 0, none⟩)) 6 (some 2) rfl rfl (by kernel_rfl) (by kernel_rfl) (by kernel_rfl) (by rfl) trivial (fun w hw => by go_simp) ?_
        simp only [Act.put, List.setIfInBounds_toArray, List.set_cons_zero, List.set_cons_succ]
        refine reg_end (by kernel_rfl) ?_
        go_wp2
        go_ret
        exact ⟨a + 2, a, a + 1, rfl, new_end HM.out HK1.out HA.out (.inl ⟨rfl, rfl⟩)⟩
      case' refine_2 =>
        simp only [Act.put, List.setIfInBounds_toArray, List.set_cons_zero, List.set_cons_succ]
        refine reg_step (v := .slice (some ⟨(w1.alloc (.cells ((List.replicate m z256).flatMap bvs).toArray 74)).heap.size, 0, none⟩) m m) (w' := (w1.alloc (.cells ((List.replicate m z256).flatMap bvs).toArray 74)).alloc (.cells ((List.replicate m z256).flatMap bvs).toArray 74)) 1 (some 7) rfl rfl (by kernel_rfl) (by rfl) (exec_mk (.tmp 6) 4096 m rfl rfl (hmk _)) trivial (fun _ => ?_)
        simp only [Act.put, List.setIfInBounds_toArray, List.set_cons_zero, List.set_cons_succ]
        rw [show (w1.alloc (.cells ((List.replicate m z256).flatMap bvs).toArray 74)).heap.size = a + 1 by simp [HA.out], HA.out]
        refine reg_take (v := .agg #[.slice (some ⟨a + 1, 0, none⟩) m m, .slice (some ⟨a, 0, none⟩) m m, .slice none 0 0, .bool false, .int .i64 0, .int .i64 0, .int .u64 0]) 4 (some 10) rfl rfl (by kernel_rfl) (by kernel_rfl) (by kernel_rfl) (by rfl) trivial (fun w hw => by exact exec_bld _ _ rfl [(0, .slice (some ⟨a + 1, 0, none⟩) m m), (1, .slice (some ⟨a, 0, none⟩) m m)] _ rfl (dk_cells _ _ _ _)) ?_
        simp only [Act.put, List.setIfInBounds_toArray, List.set_cons_zero, List.set_cons_succ]
        refine reg_step (v := .pointer (some ⟨((w1.alloc (.cells ((List.replicate m z256).flatMap bvs).toArray 74)).alloc (.cells ((List.replicate m z256).flatMap bvs).toArray 74)).heap.size, 0, none⟩)) (w' := ((w1.alloc (.cells ((List.replicate m z256).flatMap bvs).toArray 74)).alloc (.cells ((List.replicate m z256).flatMap bvs).toArray 74)).alloc (.cells #[.slice (some ⟨a + 1, 0, none⟩) m m, .slice (some ⟨a, 0, none⟩) m m, .slice none 0 0, .bool false, .int .i64 0, .int .i64 0, .int .u64 0] 64)) 5 (some 11) rfl rfl (by kernel_rfl) (by rfl) (by kernel_rfl) trivial (fun _ => ?_)
        simp only [Act.put, List.setIfInBounds_toArray, List.set_cons_zero, List.set_cons_succ]
        rw [show ((w1.alloc (.cells ((List.replicate m z256).flatMap bvs).toArray 74)).alloc (.cells ((List.replicate m z256).flatMap bvs).toArray 74)).heap.size = a + 2 by simp [HA.out]]
        refine reg_take (v := .pointer (some ⟨a + 2, 0, none⟩)) 6 (some 2) rfl rfl (by kernel_rfl) (by kernel_rfl) (by kernel_rfl) (by rfl) trivial (fun w hw => by go_simp) ?_
        simp only [Act.put, List.setIfInBounds_toArray, List.set_cons_zero, List.set_cons_succ]
        refine reg_end (by kernel_rfl) ?_
        go_wp2
        go_ret
        exact ⟨a + 2, a + 1, a, rfl, new_end HM.out HK1.out HA.out (.inr ⟨rfl, rfl⟩)⟩
    · have hmk := fun w => (show _ = _ from hmk0 w)
      rw [show ((m : Nat) : Int) = n by unfold clamp at hm; omega] at hmk
      have h0 : 0 ≤ n := by omega
      have hb' : n ≤ 4096 := by omega
      clear hm h1 hmk0 hn hb
      go_enter Try.func8, Try.ntmps8
      go_wp2
      have HK1 := Lib.hid (Kp.refl nob w).drew
      refine reg_begin (fun _ => True) (by kernel_rfl) trivial (fun _ => ?_)
      obtain ⟨a, ha⟩ : ∃ a, w.drew.heap.size = a := ⟨_, rfl⟩
      have HA := Lib.hid ha
      generalize w.drew = w1 at *
      refine reg_take (v := .int .i64 n) 0 (some 6) rfl rfl (by kernel_rfl) (by kernel_rfl) (by kernel_rfl) (by rfl) trivial (fun w hw => by go_simp) ?_
      simp only [Act.put, List.setIfInBounds_toArray, List.set_cons_zero, List.set_cons_succ]
      refine reg_take (v := .int .i64 n) 2 (some 8) rfl rfl (by kernel_rfl) (by kernel_rfl) (by kernel_rfl) (by rfl) trivial (fun w hw => by go_simp) ?_
      simp only [Act.put, List.setIfInBounds_toArray, List.set_cons_zero, List.set_cons_succ]
      refine reg_stepOr (v := .slice (some ⟨w1.heap.size, 0, none⟩) m m) (wi := w1.alloc (.cells ((List.replicate m z256).flatMap bvs).toArray 74)) (u := .slice (some ⟨w1.heap.size, 0, none⟩) m m) (wj := w1.alloc (.cells ((List.replicate m z256).flatMap bvs).toArray 74)) 1 3 (some 7) (some 9) rfl rfl rfl rfl (by kernel_rfl) (by rfl) (by rfl) (exec_mk (.tmp 6) n m rfl rfl (hmk _)) (exec_mk (.tmp 8) n m rfl rfl (hmk _)) trivial trivial (fun _ => ?_) (fun _ => ?_)
      case' refine_1 =>
        simp only [Act.put, List.setIfInBounds_toArray, List.set_cons_zero, List.set_cons_succ]
        refine reg_step (v := .slice (some ⟨(w1.alloc (.cells ((List.replicate m z256).flatMap bvs).toArray 74)).heap.size, 0, none⟩) m m) (w' := (w1.alloc (.cells ((List.replicate m z256).flatMap bvs).toArray 74)).alloc (.cells ((List.replicate m z256).flatMap bvs).toArray 74)) 3 (some 9) rfl rfl (by kernel_rfl) (by rfl) (exec_mk (.tmp 8) n m rfl rfl (hmk _)) trivial (fun _ => ?_)
        simp only [Act.put, List.setIfInBounds_toArray, List.set_cons_zero, List.set_cons_succ]
        rw [show (w1.alloc (.cells ((List.replicate m z256).flatMap bvs).toArray 74)).heap.size = a + 1 by simp [HA.out], HA.out]
        refine reg_take (v := .agg #[.slice (some ⟨a, 0, none⟩) m m, .slice (some ⟨a + 1, 0, none⟩) m m, .slice none 0 0, .bool false, .int .i64 0, .int .i64 0, .int .u64 0]) 4 (some 10) rfl rfl (by kernel_rfl) (by kernel_rfl) (by kernel_rfl) (by rfl) trivial (fun w hw => by exact exec_bld _ _ rfl [(0, .slice (some ⟨a, 0, none⟩) m m), (1, .slice (some ⟨a + 1, 0, none⟩) m m)] _ rfl (dk_cells _ _ _ _)) ?_
        simp only [Act.put, List.setIfInBounds_toArray, List.set_cons_zero, List.set_cons_succ]
        refine reg_step (v := .pointer (some ⟨((w1.alloc (.cells ((List.replicate m z256).flatMap bvs).toArray 74)).alloc (.cells ((List.replicate m z256).flatMap bvs).toArray 74)).heap.size, 0, none⟩)) (w' := ((w1.alloc (.cells ((List.replicate m z256).flatMap bvs).toArray 74)).alloc (.cells ((List.replicate m z256).flatMap bvs).toArray 74)).alloc (.cells #[.slice (some ⟨a, 0, none⟩) m m, .slice (some ⟨a + 1, 0, none⟩) m m, .slice none 0 0, .bool false, .int .i64 0, .int .i64 0, .int .u64 0] 64)) 5 (some 11) rfl rfl (by kernel_rfl) (by rfl) (by kernel_rfl) trivial (fun _ => ?_)
        simp only [Act.put, List.setIfInBounds_toArray, List.set_cons_zero, List.set_cons_succ]
        rw [show ((w1.alloc (.cells ((List.replicate m z256).flatMap bvs).toArray 74)).alloc (.cells ((List.replicate m z256).flatMap bvs).toArray 74)).heap.size = a + 2 by simp [HA.out]]
        refine reg_take (v := .pointer (some ⟨a + 2, 0, none⟩)) 6 (some 2) rfl rfl (by kernel_rfl) (by kernel_rfl) (by kernel_rfl) (by rfl) trivial (fun w hw => by go_simp) ?_
        simp only [Act.put, List.setIfInBounds_toArray, List.set_cons_zero, List.set_cons_succ]
        refine reg_end (by kernel_rfl) ?_
        go_wp2
        go_ret
        exact ⟨a + 2, a, a + 1, rfl, new_end HM.out HK1.out HA.out (.inl ⟨rfl, rfl⟩)⟩
      case' refine_2 =>
        simp only [Act.put, List.setIfInBounds_toArray, List.set_cons_zero, List.set_cons_succ]
        refine reg_step (v := .slice (some ⟨(w1.alloc (.cells ((List.replicate m z256).flatMap bvs).toArray 74)).heap.size, 0, none⟩) m m) (w' := (w1.alloc (.cells ((List.replicate m z256).flatMap bvs).toArray 74)).alloc (.cells ((List.replicate m z256).flatMap bvs).toArray 74)) 1 (some 7) rfl rfl (by kernel_rfl) (by rfl) (exec_mk (.tmp 6) n m rfl rfl (hmk _)) trivial (fun _ => ?_)
        simp only [Act.put, List.setIfInBounds_toArray, List.set_cons_zero, List.set_cons_succ]
        rw [show (w1.alloc (.cells ((List.replicate m z256).flatMap bvs).toArray 74)).heap.size = a + 1 by simp [HA.out], HA.out]
        refine reg_take (v := .agg #[.slice (some ⟨a + 1, 0, none⟩) m m, .slice (some ⟨a, 0, none⟩) m m, .slice none 0 0, .bool false, .int .i64 0, .int .i64 0, .int .u64 0]) 4 (some 10) rfl rfl (by kernel_rfl) (by kernel_rfl) (by kernel_rfl) (by rfl) trivial (fun w hw => by exact exec_bld _ _ rfl [(0, .slice (some ⟨a + 1, 0, none⟩) m m), (1, .slice (some ⟨a, 0, none⟩) m m)] _ rfl (dk_cells _ _ _ _)) ?_
        simp only [Act.put, List.setIfInBounds_toArray, List.set_cons_zero, List.set_cons_succ]
        refine reg_step (v := .pointer (some ⟨((w1.alloc (.cells ((List.replicate m z256).flatMap bvs).toArray 74)).alloc (.cells ((List.replicate m z256).flatMap bvs).toArray 74)).heap.size, 0, none⟩)) (w' := ((w1.alloc (.cells ((List.replicate m z256).flatMap bvs).toArray 74)).alloc (.cells ((List.replicate m z256).flatMap bvs).toArray 74)).alloc (.cells #[.slice (some ⟨a + 1, 0, none⟩) m m, .slice (some ⟨a, 0, none⟩) m m, .slice none 0 0, .bool false, .int .i64 0, .int .i64 0, .int .u64 0] 64)) 5 (some 11) rfl rfl (by kernel_rfl) (by rfl) (by kernel_rfl) trivial (fun _ => ?_)
        simp only [Act.put, List.setIfInBounds_toArray, List.set_cons_zero, List.set_cons_succ]
        rw [show ((w1.alloc (.cells ((List.replicate m z256).flatMap bvs).toArray 74)).alloc (.cells ((List.replicate m z256).flatMap bvs).toArray 74)).heap.size = a + 2 by simp [HA.out]]
        refine reg_take (v := .pointer (some ⟨a + 2, 0, none⟩)) 6 (some 2) rfl rfl (by kernel_rfl) (by kernel_rfl) (by kernel_rfl) (by rfl) trivial (fun w hw => by go_simp) ?_
        simp only [Act.put, List.setIfInBounds_toArray, List.set_cons_zero, List.set_cons_succ]
        refine reg_end (by kernel_rfl) ?_
        go_wp2
        go_ret
        exact ⟨a + 2, a + 1, a, rfl, new_end HM.out HK1.out HA.out (.inr ⟨rfl, rfl⟩)⟩
end Go.Proofs.Ytchdobneipfghaa.Disk
