/- More on blocks that are known whole: a string copied into one, as far as there is room. No program is named here. -/
import Derived.Test.YtefpdnfogdioeaaBlkC
import Derived.Lib.BufferWrite
namespace Go.Proofs.Ytefpdnfogdioeaa.Kit
set_option linter.unusedVariables false
set_option linter.unusedSimpArgs false
open Go Go.RowKit
theorem wpList_copyS_blk {P : Program} {w : World} {ops : Array Oper} {rest : List Oper} {o : Oper} {a : Act} {Q : Exit → Act → World → Prop} (hgd : o.guard = none) (d s : Operand) (dT sT : TypeId)
    (ho : o.op = .call { callee := .builtin .copy, args := #[d, s], argTypes := #[dT, sT] }) (elem : TypeId) (hu : P.underlying dT = some (.slice elem)) (hsz : (P.info? elem).map (·.size) = some 1)
    (g : Nat) (dLen dCap : Nat) (str : ByteArray) (hd : a.eval d = .slice (some ⟨g, 0, none⟩) dLen dCap) (hs : a.eval s = .string str)
    (cur : List Value) (t : TypeId) (hg : Blk w g t cur) (hfit : dLen ≤ cur.length)
    (h : ∀ w', Blk w' g t (bvs ((sl str).take dLen) ++ cur.drop (min str.size dLen)) → Kp (oneB g) w w' → w'.heap.size = w.heap.size → wpList P ops Q rest (a.put o.dst (goInt (min str.size dLen))) w') : wpList P ops Q (o :: rest) a w := by
  refine wpList_plain hgd fun K hK => ?_
  have hl : (bvs ((sl str).take dLen)).length = min str.size dLen := by rw [bvs_length, List.length_take, sl_length, Nat.min_comm]
  have hst := run_storeCells_at P g 0 t (bvs ((sl str).take dLen)) 0 cur.toArray w hg (by rw [hl]; simp; omega) (bvs_one _)
  simp only [Nat.add_zero, hl] at hst
  have htk : List.take (min str.size dLen) (List.map (fun b : UInt8 => Value.int IntKind.u8 (b.toNat : Int)) str.data.toList) = bvs ((sl str).take dLen) := by
    rw [← List.map_take]
    show bvs _ = bvs _
    congr 1
    show (sl str).take (min str.size dLen) = (sl str).take dLen
    by_cases h1 : str.size ≤ dLen
    · rw [Nat.min_eq_left h1, List.take_of_length_le (by rw [sl_length]; exact Nat.le_refl _), List.take_of_length_le (by rw [sl_length]; exact h1)]
    · rw [Nat.min_eq_right (by omega)]
  have hrun : (Builtin.copy_ #[dT, sT] o.type #[.slice (some ⟨g, 0, none⟩) dLen dCap, .string str]).run P w = .ok (goInt (min str.size dLen)) (w.setRow g (bvs ((sl str).take dLen) ++ cur.drop (min str.size dLen)).toArray) := by
    cases hq : P.info? elem with
    | none => simp [hq] at hsz
    | some i =>
      have hm : Nat.min str.size dLen = min str.size dLen := rfl
      simp [Builtin.copy_, run_underlying hu, Builtin.lenOf, Builtin.firstCells, sizeOf, typeInfo, hq, hm]
      rw [htk, hst]
      simp [Result.andThen]
      congr 1
      omega
  unfold Oper.wp
  simp [execOp, ho, resolve, invoke, builtin, hd, hs, hrun, Result.andThen]
  exact hK _ _ (h _ (show _ = _ from setRow_heap w g _ _ t _ hg) (setRow_kp _ _ _) (by simp [World.setRow]))
end Go.Proofs.Ytefpdnfogdioeaa.Kit
