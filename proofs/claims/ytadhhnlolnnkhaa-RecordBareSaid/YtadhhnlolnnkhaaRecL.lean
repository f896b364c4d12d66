/- The document's bytes of a record. -/
import Derived.Test.YtadhhnlolnnkhaaRecV
import Derived.Test.YtadhhnlolnnkhaaCodeN
import Derived.Test.YtadhhnlolnnkhaaRegC
import Derived.Test.YtadhhnlolnnkhaaRecG
namespace Go.Proofs.Ytadhhnlolnnkhaa.Rec
set_option linter.unusedVariables false
set_option linter.unusedSimpArgs false
open Go Go.RowKit Kit

/-- What the operations of the sum yield. -/
def bp (r : Rec) : Nat → List UInt8
  | 4 => [UInt8.ofNat r.kind.toNat]
  | 7 => num8 r.queue
  | 8 => [UInt8.ofNat r.kind.toNat] ++ num8 r.queue
  | 11 => num8 r.id
  | 12 => [UInt8.ofNat r.kind.toNat] ++ num8 r.queue ++ num8 r.id
  | 15 => num8 r.num
  | 16 => [UInt8.ofNat r.kind.toNat] ++ num8 r.queue ++ num8 r.id ++ num8 r.num
  | 19 => num8 r.wait
  | 20 => [UInt8.ofNat r.kind.toNat] ++ num8 r.queue ++ num8 r.id ++ num8 r.num ++ num8 r.wait
  | 23 => textB (str r.body)
  | 24 => recB r
  | _ => []
def BG (r : Rec) (i : Nat) (u : Value) (w : World) : Prop :=
  if i = 3 then ∃ q, u = .slice (some ⟨q, 0, none⟩) 1 1 ∧ Row w (some ⟨q, 0, none⟩) (bvs [UInt8.ofNat r.kind.toNat]) else u = .string (str (bp r i))
theorem BG.keep {r : Rec} {i : Nat} {u : Value} {w w' : World} (h : BG r i u w) (k : Kp nob w w') : BG r i u w' := by
  unfold BG at *
  split
  · rename_i e; rw [if_pos e] at h
    obtain ⟨q, h1, h2⟩ := h
    exact ⟨q, h1, h2.keep0 k⟩
  · rename_i e; rw [if_neg e] at h; exact h
theorem exec_cat {a : Act} {o : Oper} {w : World} (x y : Operand) (ho : o.op = .binOp .add 9 x y 9) (s t : List UInt8) (hx : a.eval x = .string (str s)) (hy : a.eval y = .string (str t)) (hl : s.length + t.length ≤ 1048576) :
    (execOp a.eval o).run Try.prog w = .ok (.value (.string (str (s ++ t)))) w := by
  have hu := u8_string
  unfold execOp
  simp only [ho, hx, hy]
  go_simp
  rw [if_neg (by omega), str_append]
theorem run_one (b : Int) (w : World) : (Instr.buildSlice 27 1 #[(0, .int .u8 b)]).run Try.prog w = .ok (.slice (some ⟨w.heap.size, 0, none⟩) 1 1) (w.alloc (.cells #[.int .u8 b] 5)) := by kernel_rfl
theorem exec_one {a : Act} {o : Oper} {w : World} (x : Operand) (b : Int) (ho : o.op = .buildSlice 27 1 #[(0, x)]) (hx : a.eval x = .int .u8 b) :
    (execOp a.eval o).run Try.prog w = .ok (.value (.slice (some ⟨w.heap.size, 0, none⟩) 1 1)) (w.alloc (.cells #[.int .u8 b] 5)) := by
  have h := run_one b w
  unfold execOp
  simp [ho, hx, h, Result.andThen]
theorem exec_str {a : Act} {o : Oper} {w : World} (x : Operand) (A : Option Addr) (n c : Nat) (l : List UInt8) (ho : o.op = .convert 27 9 x) (hx : a.eval x = .slice A n c) (hn : l.length = n) (hr : Row w A (bvs l)) :
    (execOp a.eval o).run Try.prog w = .ok (.value (.string (str l))) w := by
  have h := conv_row w A n c l hn hr
  unfold execOp
  simp [ho, hx, h, Result.andThen]
theorem bp_len (r : Rec) (hg : good r = true) (i : Nat) : (bp r i).length ≤ 4096 := by
  have hb := good_bounds r hg
  have h1 := recB_length r (by omega)
  have h2 := textB_le (str r.body)
  rw [str_size] at h2
  unfold bp
  split <;> simp <;> omega
theorem recB_flat (r : Rec) : recB r = [UInt8.ofNat r.kind.toNat] ++ num8 r.queue ++ num8 r.id ++ num8 r.num ++ num8 r.wait ++ textB (str r.body) := by unfold recB; simp

set_option maxHeartbeats 4000000 in
set_option maxRecDepth 100000 in
theorem dBytes (r : Rec) (w : World) (hg : good r = true) : Calls Try.prog 15 #[rv r] w fun e w' => e = .returned (.string (str (recB r))) ∧ Kp nob w w' := by
  have hb := good_bounds r hg
  have HG := Lib.hid hg
  have hk8 : Value.int .u8 (r.kind % 256) = bv (UInt8.ofNat r.kind.toNat) := by rw [bv_ofNat]; congr 1; omega
  have HK8 := Lib.hid hk8
  have HBD := Lib.hid hb
  unfold rv
  have HB0 := Lib.hid (Blk.new w 23 (rcells r))
  have HK0 := Lib.hid ((Kp.refl nob w).alloc (.cells (rcells r).toArray 23))
  clear hk8 hb hg
  go_enter Try.func15, Try.ntmps15
  go_wp2
  refine reg_start (fun w' : World => Blk w' w.heap.size 23 (rcells r) ∧ Kp nob w w') (by kernel_rfl) ⟨HB0.out.keep (Kp.refl nob _).drew (fun e => e), HK0.out.drew⟩ (fun wd hSd => ?_)
  have HB1 := Lib.hid hSd; clear hSd
  have hwk : IntKind.u8.wrap r.kind = r.kind % 256 := IntKind.wrap_u8 _
  clear HB0 HK0
  refine reg_take (v := .pointer (some ⟨w.heap.size, 0, none⟩)) 0 (some 3) rfl rfl (by kernel_rfl) (by kernel_rfl) (by kernel_rfl) (by rfl) HB1.out (fun w2 hw => by go_simp) ?_
  simp only [Act.put, List.setIfInBounds_toArray, List.set_cons_zero, List.set_cons_succ]
  refine reg_take (v := .int .i64 r.kind) 1 (some 4) rfl rfl (by kernel_rfl) (by kernel_rfl) (by kernel_rfl) (by rfl) HB1.out (fun w2 hw => by have hc : w2.cell? ⟨w.heap.size, 0, none⟩ = some (.int .i64 r.kind) := hw.1.cell 0; go_simp) ?_
  simp only [Act.put, List.setIfInBounds_toArray, List.set_cons_zero, List.set_cons_succ]
  refine reg_take (v := .int .u8 (r.kind % 256)) 2 (some 5) rfl rfl (by kernel_rfl) (by kernel_rfl) (by kernel_rfl) (by rfl) HB1.out (fun w2 hw => by go_simp) ?_
  simp only [Act.put, List.setIfInBounds_toArray, List.set_cons_zero, List.set_cons_succ]
  refine reg_take (v := .pointer (some ⟨w.heap.size, 1, none⟩)) 5 (some 8) rfl rfl (by kernel_rfl) (by kernel_rfl) (by kernel_rfl) (by rfl) HB1.out (fun w2 hw => by go_simp) ?_
  simp only [Act.put, List.setIfInBounds_toArray, List.set_cons_zero, List.set_cons_succ]
  refine reg_take (v := .int .i64 r.queue) 6 (some 9) rfl rfl (by kernel_rfl) (by kernel_rfl) (by kernel_rfl) (by rfl) HB1.out (fun w2 hw => by have hc : w2.cell? ⟨w.heap.size, 1, none⟩ = some (.int .i64 r.queue) := hw.1.cell 1; go_simp) ?_
  simp only [Act.put, List.setIfInBounds_toArray, List.set_cons_zero, List.set_cons_succ]
  refine reg_take (v := .pointer (some ⟨w.heap.size, 2, none⟩)) 9 (some 12) rfl rfl (by kernel_rfl) (by kernel_rfl) (by kernel_rfl) (by rfl) HB1.out (fun w2 hw => by go_simp) ?_
  simp only [Act.put, List.setIfInBounds_toArray, List.set_cons_zero, List.set_cons_succ]
  refine reg_take (v := .int .i64 r.id) 10 (some 13) rfl rfl (by kernel_rfl) (by kernel_rfl) (by kernel_rfl) (by rfl) HB1.out (fun w2 hw => by have hc : w2.cell? ⟨w.heap.size, 2, none⟩ = some (.int .i64 r.id) := hw.1.cell 2; go_simp) ?_
  simp only [Act.put, List.setIfInBounds_toArray, List.set_cons_zero, List.set_cons_succ]
  refine reg_take (v := .pointer (some ⟨w.heap.size, 3, none⟩)) 13 (some 16) rfl rfl (by kernel_rfl) (by kernel_rfl) (by kernel_rfl) (by rfl) HB1.out (fun w2 hw => by go_simp) ?_
  simp only [Act.put, List.setIfInBounds_toArray, List.set_cons_zero, List.set_cons_succ]
  refine reg_take (v := .int .i64 r.num) 14 (some 17) rfl rfl (by kernel_rfl) (by kernel_rfl) (by kernel_rfl) (by rfl) HB1.out (fun w2 hw => by have hc : w2.cell? ⟨w.heap.size, 3, none⟩ = some (.int .i64 r.num) := hw.1.cell 3; go_simp) ?_
  simp only [Act.put, List.setIfInBounds_toArray, List.set_cons_zero, List.set_cons_succ]
  refine reg_take (v := .pointer (some ⟨w.heap.size, 4, none⟩)) 17 (some 20) rfl rfl (by kernel_rfl) (by kernel_rfl) (by kernel_rfl) (by rfl) HB1.out (fun w2 hw => by go_simp) ?_
  simp only [Act.put, List.setIfInBounds_toArray, List.set_cons_zero, List.set_cons_succ]
  refine reg_take (v := .int .i64 r.wait) 18 (some 21) rfl rfl (by kernel_rfl) (by kernel_rfl) (by kernel_rfl) (by rfl) HB1.out (fun w2 hw => by have hc : w2.cell? ⟨w.heap.size, 4, none⟩ = some (.int .i64 r.wait) := hw.1.cell 4; go_simp) ?_
  simp only [Act.put, List.setIfInBounds_toArray, List.set_cons_zero, List.set_cons_succ]
  refine reg_take (v := .pointer (some ⟨w.heap.size, 5, none⟩)) 21 (some 24) rfl rfl (by kernel_rfl) (by kernel_rfl) (by kernel_rfl) (by rfl) HB1.out (fun w2 hw => by go_simp) ?_
  simp only [Act.put, List.setIfInBounds_toArray, List.set_cons_zero, List.set_cons_succ]
  refine reg_take (v := .string (str r.body)) 22 (some 25) rfl rfl (by kernel_rfl) (by kernel_rfl) (by kernel_rfl) (by rfl) HB1.out (fun w2 hw => by have hc : w2.cell? ⟨w.heap.size, 5, none⟩ = some (.string (str r.body)) := hw.1.cell 5; go_simp) ?_
  simp only [Act.put, List.setIfInBounds_toArray, List.set_cons_zero, List.set_cons_succ]
  refine reg_flow [3, 4, 7, 8, 11, 12, 15, 16, 19, 20, 23, 24] [(3, some 6), (4, some 7), (7, some 10), (8, some 11), (11, some 14), (12, some 15), (15, some 18), (16, some 19), (19, some 22), (20, some 23), (23, some 26), (24, some 27)] _ _ _ _ 1 26 (BG r) rfl rfl rfl (by kernel_rfl) (by kernel_rfl) (by kernel_rfl) (by kernel_rfl) rfl (by kernel_rfl) (fun w' k => ⟨HB1.out.1.keep k (fun e => e), HB1.out.2.trans k (fun _ e => e.elim)⟩) (fun i u w1 w2 h k => h.keep k) ?st ?hK
  case st =>
    intro i o a w1 hi ho hk e0 ev
    simp only [List.mem_cons, List.not_mem_nil, or_false] at hi
    have hbl := bp_len r HG.out
    rcases hi with rfl | rfl | rfl | rfl | rfl | rfl | rfl | rfl | rfl | rfl | rfl | rfl
    · obtain rfl := oper_is ho rfl
      have x5 : a.eval (.tmp 5) = .int .u8 (r.kind % 256) := e0 5 (by kernel_rfl)
      exact .val (w' := w1.alloc (.cells #[.int .u8 (r.kind % 256)] 5)) (.slice (some ⟨w1.heap.size, 0, none⟩) 1 1) (exec_one (.tmp 5) _ rfl x5) ⟨_, rfl, by rw [HK8.out]; exact row_one w1 _ _⟩ ((Kp.refl nob w1).alloc _)
    · obtain rfl := oper_is ho rfl
      obtain ⟨q, hq1, hq2⟩ := ev 3 (by simp) (by kernel_rfl) 6 rfl
      exact .val (w' := w1) (.string (str [UInt8.ofNat r.kind.toNat])) (exec_str (.tmp 6) _ 1 1 _ rfl hq1 rfl hq2) (by rfl) (Kp.refl _ _)
    · obtain rfl := oper_is ho rfl
      have x : a.eval (.tmp 9) = .int .i64 r.queue := e0 9 (by kernel_rfl)
      exact .call _ _ (exec_func 25 _ _ [.int .i64 r.queue] rfl (by kernel_rfl) (by show [a.eval (.tmp 9)] = _; rw [x])) ((fNum r.queue w1).mono fun e w2 h => ⟨_, h.1, rfl, h.2⟩)
    · obtain rfl := oper_is ho rfl
      have x : a.eval (.tmp 7) = .string (str (bp r 4)) := ev 4 (by simp) (by kernel_rfl) 7 rfl
      have y : a.eval (.tmp 10) = .string (str (bp r 7)) := ev 7 (by simp) (by kernel_rfl) 10 rfl
      exact .val _ (exec_cat (.tmp 7) (.tmp 10) rfl (bp r 4) (bp r 7) x y (by have := hbl 4; have := hbl 7; omega)) (by rfl) (Kp.refl _ _)
    · obtain rfl := oper_is ho rfl
      have x : a.eval (.tmp 13) = .int .i64 r.id := e0 13 (by kernel_rfl)
      exact .call _ _ (exec_func 25 _ _ [.int .i64 r.id] rfl (by kernel_rfl) (by show [a.eval (.tmp 13)] = _; rw [x])) ((fNum r.id w1).mono fun e w2 h => ⟨_, h.1, rfl, h.2⟩)
    · obtain rfl := oper_is ho rfl
      have x : a.eval (.tmp 11) = .string (str (bp r 8)) := ev 8 (by simp) (by kernel_rfl) 11 rfl
      have y : a.eval (.tmp 14) = .string (str (bp r 11)) := ev 11 (by simp) (by kernel_rfl) 14 rfl
      exact .val _ (exec_cat (.tmp 11) (.tmp 14) rfl (bp r 8) (bp r 11) x y (by have := hbl 8; have := hbl 11; omega)) (by rfl) (Kp.refl _ _)
    · obtain rfl := oper_is ho rfl
      have x : a.eval (.tmp 17) = .int .i64 r.num := e0 17 (by kernel_rfl)
      exact .call _ _ (exec_func 25 _ _ [.int .i64 r.num] rfl (by kernel_rfl) (by show [a.eval (.tmp 17)] = _; rw [x])) ((fNum r.num w1).mono fun e w2 h => ⟨_, h.1, rfl, h.2⟩)
    · obtain rfl := oper_is ho rfl
      have x : a.eval (.tmp 15) = .string (str (bp r 12)) := ev 12 (by simp) (by kernel_rfl) 15 rfl
      have y : a.eval (.tmp 18) = .string (str (bp r 15)) := ev 15 (by simp) (by kernel_rfl) 18 rfl
      exact .val _ (exec_cat (.tmp 15) (.tmp 18) rfl (bp r 12) (bp r 15) x y (by have := hbl 12; have := hbl 15; omega)) (by rfl) (Kp.refl _ _)
    · obtain rfl := oper_is ho rfl
      have x : a.eval (.tmp 21) = .int .i64 r.wait := e0 21 (by kernel_rfl)
      exact .call _ _ (exec_func 25 _ _ [.int .i64 r.wait] rfl (by kernel_rfl) (by show [a.eval (.tmp 21)] = _; rw [x])) ((fNum r.wait w1).mono fun e w2 h => ⟨_, h.1, rfl, h.2⟩)
    · obtain rfl := oper_is ho rfl
      have x : a.eval (.tmp 19) = .string (str (bp r 16)) := ev 16 (by simp) (by kernel_rfl) 19 rfl
      have y : a.eval (.tmp 22) = .string (str (bp r 19)) := ev 19 (by simp) (by kernel_rfl) 22 rfl
      exact .val _ (exec_cat (.tmp 19) (.tmp 22) rfl (bp r 16) (bp r 19) x y (by have := hbl 16; have := hbl 19; omega)) (by rfl) (Kp.refl _ _)
    · obtain rfl := oper_is ho rfl
      have x : a.eval (.tmp 25) = .string (str r.body) := e0 25 (by kernel_rfl)
      exact .call _ _ (exec_func 26 _ _ [.string (str r.body)] rfl (by kernel_rfl) (by show [a.eval (.tmp 25)] = _; rw [x])) ((fText (str r.body) w1 (by have := HBD.out; simp [maxLen]; omega)).mono fun e w2 h => ⟨_, h.1, rfl, h.2⟩)
    · obtain rfl := oper_is ho rfl
      have x : a.eval (.tmp 23) = .string (str (bp r 20)) := ev 20 (by simp) (by kernel_rfl) 23 rfl
      have y : a.eval (.tmp 26) = .string (str (bp r 23)) := ev 23 (by simp) (by kernel_rfl) 26 rfl
      exact .val _ (exec_cat (.tmp 23) (.tmp 26) rfl (bp r 20) (bp r 23) x y (by have := hbl 20; have := hbl 23; omega)) (by show _ = Value.string (str (recB r)); rw [recB_flat]; rfl) (Kp.refl _ _)
  case hK =>
    intro vals w1 hv hk
    obtain ⟨q3, v3, _⟩ := hv 3 (by simp)
    have v4 : vals 4 = .string (str (bp r 4)) := hv 4 (by simp)
    have v7 : vals 7 = .string (str (bp r 7)) := hv 7 (by simp)
    have v8 : vals 8 = .string (str (bp r 8)) := hv 8 (by simp)
    have v11 : vals 11 = .string (str (bp r 11)) := hv 11 (by simp)
    have v12 : vals 12 = .string (str (bp r 12)) := hv 12 (by simp)
    have v15 : vals 15 = .string (str (bp r 15)) := hv 15 (by simp)
    have v16 : vals 16 = .string (str (bp r 16)) := hv 16 (by simp)
    have v19 : vals 19 = .string (str (bp r 19)) := hv 19 (by simp)
    have v20 : vals 20 = .string (str (bp r 20)) := hv 20 (by simp)
    have v23 : vals 23 = .string (str (bp r 23)) := hv 23 (by simp)
    have v24 : vals 24 = .string (str (bp r 24)) := hv 24 (by simp)
    simp only [putZ, v3, v4, v7, v8, v11, v12, v15, v16, v19, v20, v23, v24]
    simp only [Act.put, List.setIfInBounds_toArray, List.set_cons_zero, List.set_cons_succ]
    refine reg_take (v := .string (str (recB r))) 25 (some 2) rfl rfl (by kernel_rfl) (by kernel_rfl) (by kernel_rfl) (by rfl) ⟨HB1.out.1.keep hk (fun e => e), HB1.out.2.trans hk (fun _ e => e.elim)⟩ (fun w2 hw => by go_simp; rfl) ?_
    simp only [Act.put, List.setIfInBounds_toArray, List.set_cons_zero, List.set_cons_succ]
    refine reg_end (by kernel_rfl) ?_
    go_wp2
    go_ret
    exact ⟨rfl, HB1.out.2.trans hk (fun _ e => e.elim)⟩
end Go.Proofs.Ytadhhnlolnnkhaa.Rec
