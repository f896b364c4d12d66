/- The disk: the power goes; an act of its own; a write, a sync. -/
import Derived.Test.YtchdobneipfghaaZDskC
namespace Go.Proofs.Ytchdobneipfghaa.Disk
set_option linter.unusedVariables false
set_option linter.unusedSimpArgs false
open Go Go.RowKit Kit

set_option maxHeartbeats 2000000 in
set_option maxRecDepth 100000 in
theorem off_any (D : Dk) (keep : Nat) (g N S : Nat) (W : Option Addr) (cW : Nat) (w : World) (h : Cd w g N S W cW D) (hw : D.waits.length ≤ 100000) (hk : keep < 18446744073709551616) :
    Calls Try.prog 14 #[.pointer (some ⟨g, 0, none⟩), .int .u64 (keep : Int)] w fun e w' => e = .returned (.tuple #[]) ∧ Dz w g N S W (lose D keep) w' := by
  have HR := Lib.hid (refused_any D g N S W cW w h)
  have HS := Lib.hid (settle_any D keep g N S W cW w h hw hk)
  have HD := Lib.hid h
  clear h hw hk
  cases ho : D.off with
  | true =>
    rw [ho] at HR
    have HL := Lib.hid (lose_off D keep ho)
    clear ho
    go_enter Try.func14, Try.ntmps14
    go_wp2_with fail
    refine HR.out.mono ?_
    rintro e w1 ⟨rfl, rfl⟩
    go_wp2
    refine bodyPost_ret (results_none rfl _ _ _) rfl ⟨rfl, ?_⟩
    rw [HL.out]; exact HD.out.self
  | false =>
    rw [ho] at HR
    have HL := Lib.hid (lose_on D keep ho)
    clear ho
    go_enter Try.func14, Try.ntmps14
    go_wp2_with fail
    refine HR.out.mono ?_
    rintro e w1 ⟨rfl, rfl⟩
    go_wp2_with fail
    refine HS.out.mono ?_
    rintro e w2 ⟨rfl, h2, k2⟩
    have c3 := h2.cells.2.2.2.1
    have c5 := h2.cells.2.2.2.2.2.1
    have f3 : w2.frozen? ⟨g, 3, none⟩ = false := h2.b.frozen _
    have f5 : w2.frozen? ⟨g, 5, none⟩ = false := h2.b.frozen _
    have H2 := Lib.hid h2; have K2 := Lib.hid k2
    clear h2 k2
    go_wp2
    have kg : Kp (oneB g) w2 ((w2.setCell ⟨g, 3, none⟩ (.bool true)).setCell ⟨g, 5, none⟩ (.int .i64 0)) := ((Kp.refl (oneB g) w2).setCell (p := ⟨g, 3, none⟩) (.inl rfl) _).setCell (p := ⟨g, 5, none⟩) (.inl rfl) _
    have hb := (H2.out.b.set_ 3 (.bool true)).set_ 5 (.int .i64 0)
    refine bodyPost_end (results_none rfl _ _ _) rfl ⟨rfl, ?_⟩
    rw [HL.out]
    refine ⟨none, 0, H2.out.own kg rfl rfl rfl hb, K2.out.trans kg (fun i e => .inl (.inl e)), fun k e => by cases e⟩
theorem act_length (D : Dk) : (act D).1.waits = D.waits := by
  cases ho : D.off with
  | true => rw [act_off D ho]
  | false => rw [act_on D ho]
theorem act_keep (D : Dk) : (act D).1.keep = D.keep := by
  cases ho : D.off with
  | true => rw [act_off D ho]
  | false => rw [act_on D ho]
/-- An act of the disk's own, behind which the power may be off. -/
def acted (D : Dk) : Dk × Int := if (act D).2 then (lose (act D).1 D.keep, 8) else ((act D).1, 0)
set_option maxHeartbeats 2000000 in
theorem actw_any (D : Dk) (g N S : Nat) (W : Option Addr) (cW : Nat) (w : World) (h : Cd w g N S W cW D) (hw : D.waits.length ≤ 100000) (ha : D.acts ≤ 1000000000000) (hf : D.fuse ≤ 9223372036854775807) (hk : D.keep < 18446744073709551616) :
    Calls Try.prog 33 #[.pointer (some ⟨g, 0, none⟩)] w fun e w' => e = .returned (.int .i64 (acted D).2) ∧ Dz w g N S W (acted D).1 w' := by
  have HA := Lib.hid (act1_any D g N S W cW w h ha hf)
  have HD := Lib.hid h
  have HW := Lib.hid hw; have HK := Lib.hid hk
  clear h hw ha hf hk
  cases hg : (act D).2 with
  | false =>
    have HE := Lib.hid (show acted D = ((act D).1, 0) by rw [acted, hg]; rfl)
    rw [told_no D hg] at HA
    clear hg
    go_enter Try.func33, Try.ntmps33
    go_wp2_with fail
    refine HA.out.mono ?_
    rintro e w1 ⟨rfl, h1, k1⟩
    have H1 := Lib.hid h1; have K1 := Lib.hid k1
    clear h1 k1
    go_wp2
    go_ret
    rw [HE.out]
    exact ⟨rfl, W, cW, H1.out, K1.out.mono (fun i _ e => .inl e), fun k e => .inl e⟩
  | true =>
    have HE := Lib.hid (show acted D = (lose (act D).1 D.keep, 8) by rw [acted, hg]; rfl)
    rw [told_yes D hg] at HA
    clear hg
    go_enter Try.func33, Try.ntmps33
    go_wp2_with fail
    refine HA.out.mono ?_
    rintro e w1 ⟨rfl, h1, k1⟩
    have H1 := Lib.hid h1; have K1 := Lib.hid k1
    clear h1 k1
    go_wp2_with fail
    refine (off_any (act D).1 D.keep g N S W cW w1 H1.out (by rw [act_length]; exact HW.out) HK.out).mono ?_
    rintro e w2 ⟨rfl, h2⟩
    have H2 := Lib.hid h2
    clear h2
    go_wp2
    go_ret
    rw [HE.out]
    exact ⟨rfl, Dz.trans (K1.out.mono (fun i _ e => .inl e)) (fun k e => .inl e) H2.out⟩
/-- A list of bytes as a function of places. -/
theorem list_fn (n : Nat) (l : List UInt8) (h : l.length = n) : ∃ f : Fin n → UInt8, l = List.ofFn f := by
  subst h
  refine ⟨fun i => l[i], ?_⟩
  apply List.ext_getElem
  · simp
  · intro i h1 h2; simp
theorem exec_bld {P : Program} {a : Act} {o : Oper} {w w' : World} (t : TypeId) (fs : Array (Nat × Operand)) (ho : o.op = .build t fs) (ps : List (Nat × Value)) (r : Value) (hp : fs.toList.map (fun p => (p.1, a.eval p.2)) = ps) (h : (Instr.build t ps.toArray).run P w = .ok r w') : (execOp a.eval o).run P w = .ok (.value r) w' := by
  subst hp
  have e : (fs.map fun p => (p.1, a.eval p.2)) = (fs.toList.map (fun p => (p.1, a.eval p.2))).toArray := by rw [← Array.toList_map, Array.toArray_toList]
  rw [← e] at h
  simp [execOp, ho, h, Result.andThen]
set_option maxRecDepth 100000 in
theorem build_wr0 (f : Fin 256 → UInt8) (i : Int) (w : World) : (Instr.build 78 #[(0, .int .i64 i), (1, .agg (bvs (List.ofFn f)).toArray)]).run Try.prog w = .ok (.agg (.int .i64 i :: bvs (List.ofFn f)).toArray) w := by kernel_rfl
theorem build_wr (i : Int) (s : List UInt8) (h : s.length = 256) (w : World) : (Instr.build 78 #[(0, .int .i64 i), (1, .agg (bvs s).toArray)]).run Try.prog w = .ok (.agg (.int .i64 i :: bvs s).toArray) w := by
  obtain ⟨f, rfl⟩ := list_fn 256 s h
  exact build_wr0 f i w
set_option maxRecDepth 100000 in
theorem slice_wr0 (f : Fin 256 → UInt8) (i : Int) (w : World) : (Instr.buildSlice 62 1 #[(0, .agg (.int .i64 i :: bvs (List.ofFn f)).toArray)]).run Try.prog w = .ok (.slice (some ⟨w.heap.size, 0, none⟩) 1 1) (w.alloc (.cells (.int .i64 i :: bvs (List.ofFn f)).toArray 78)) := by kernel_rfl
theorem exec_slice_wr {act : Act} {o : Oper} {w : World} (x : Operand) (i : Int) (s : List UInt8) (h : s.length = 256) (ho : o.op = .buildSlice 62 1 #[(0, x)]) (hx : act.eval x = .agg (.int .i64 i :: bvs s).toArray) :
    (execOp act.eval o).run Try.prog w = .ok (.value (.slice (some ⟨w.heap.size, 0, none⟩) 1 1)) (w.alloc (.cells (.int .i64 i :: bvs s).toArray 78)) := by
  obtain ⟨f, rfl⟩ := list_fn 256 s h
  have hr := slice_wr0 f i w
  unfold execOp
  simp only [ho, hx, Sem.run_bind, List.map_toArray, List.map_cons, List.map_nil, hr, Result.andThen_ok, Sem.run_pure]
/-- A value that is told, in a region's head. -/
theorem wpStill_exec {P : Program} {ops : Array Oper} {w : World} {Q : Act → Prop} {a : Act} {o : Oper} {rest : List Oper} (hgd : o.guard = none) (v : Value)
    (hr : (execOp a.eval o).run P w = .ok (.value v) w) (h : wpStill P ops w Q rest (a.put o.dst v)) : wpStill P ops w Q (o :: rest) a :=
  wpStill_step fun K hK => by
    rw [if_pos (by simp [Region.wanted, hgd])]
    unfold Oper.still
    rw [hr, Oper.stillUpon_value]
    exact hK _ h
end Go.Proofs.Ytchdobneipfghaa.Disk
