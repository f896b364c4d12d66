/- What the statements of layer 12 play: the document's example; digests of which the first byte alone isn't nought. -/
import Derived.Test.YtchdobneipfghaaZMtD
namespace Go.Proofs.Ytchdobneipfghaa.Meter
set_option linter.unusedVariables false
set_option linter.unusedSimpArgs false
open Go Go.RowKit Kit Disk

theorem wpList_exec_gd {P : Program} {w w' : World} {ops : Array Oper} {rest : List Oper} {o : Oper} {a : Act} {Q : Exit → Act → World → Prop} {v : Value} (hw : Region.wanted o (yielded ops a.tmps) = true)
    (hx : (execOp a.eval o).run P w = .ok (.value v) w') (h : wpList P ops Q rest (a.put o.dst v) w') : wpList P ops Q (o :: rest) a w :=
  wpList_step fun K hK => by
    rw [if_pos hw]
    unfold Oper.wp
    rw [hx]
    exact hK _ _ h
/-- A digest of which the first byte alone isn't nought. -/
def one32 (b : UInt8) : List UInt8 := b :: List.replicate 31 0
theorem one32_length (b : UInt8) : (one32 b).length = 32 := by simp [one32]
set_option maxRecDepth 100000 in
theorem one32_build (b : UInt8) (w : World) : (Instr.build 32 #[(0, bv b)]).run Try.prog w = .ok (.agg (bvs (one32 b)).toArray) w := by kernel_rfl
set_option maxRecDepth 100000 in
theorem z32_build (w : World) : (Instr.build 32 #[]).run Try.prog w = .ok (.agg (bvs z32).toArray) w := by kernel_rfl
theorem fresh1 : fresh 1 = ⟨0, 0, z32, 1⟩ := rfl
set_option maxHeartbeats 1000000 in
set_option maxRecDepth 100000 in
theorem alive_yes (w : World) : Calls Try.prog 7 #[] w fun e w' => e = .returned (.bool true) ∧ Kp nob w w' := by
  go_enter Try.func7, Try.ntmps7
  go_wp2_with fail
  refine (new_any 1 none w).mono ?_
  rintro e w1 ⟨rfl, h1, k1⟩
  obtain ⟨m, hm⟩ : ∃ m, m = w.heap.size := ⟨_, rfl⟩
  rw [← hm] at h1 ⊢
  have H1 := Lib.hid h1; have K1 := Lib.hid k1; have HM := Lib.hid (Nat.le_of_eq hm.symm)
  clear h1 k1 hm
  go_wp2_with fail
  refine (left_any _ m none w1 H1.out).mono ?_
  rintro e w2 ⟨rfl, k2⟩
  rw [show ((fresh 1).most - (fresh 1).count) = 1 from rfl]
  have H2 := Lib.hid (H1.out.keep0 k2); have K2 := Lib.hid (K1.out.trans k2 (fun _ e => e.elim))
  clear k2
  go_wp2_with (refine wpList_exec_gd (by rfl) (by exact exec_bld _ _ rfl [(0, bv 7)] _ rfl (one32_build 7 _)) ?_)
  refine (next_nil (fresh 1) 0 (one32 7) m w2 H2.out (one32_length 7) rfl).mono ?_
  rintro e w3 ⟨rfl, h3, k3⟩
  have H3 := Lib.hid h3; have K3 := Lib.hid (K2.out.since k3 (fun i e => by have e : i = m := e; rw [e]; exact HM.out))
  clear h3 k3
  go_wp2_with (refine wpList_exec_gd (by rfl) (by exact exec_bld _ _ rfl [] _ rfl (z32_build _)) ?_)
  refine (next_no ((fresh 1).on 0 (one32 7)) 0 z32 m none false w3 H3.out z32_length (pow_nil _) (by decide)).mono ?_
  rintro e w4 ⟨rfl, k4⟩
  rw [show why ((fresh 1).on 0 (one32 7)) false 0 = 10 from rfl]
  have c0 : w4.cell? ⟨m, 0, none⟩ = some (.int .i64 1) := (H3.out.keep0 k4).cells.1
  have c2 : w4.cell? ⟨m, 2, none⟩ = some (.int .u8 7) := (H3.out.keep0 k4).b.cell 2
  have K4 := Lib.hid (K3.out.trans k4 (fun _ e => e.elim))
  clear k4
  go_wp2
  go_ret
  exact ⟨rfl, K4.out⟩
end Go.Proofs.Ytchdobneipfghaa.Meter
