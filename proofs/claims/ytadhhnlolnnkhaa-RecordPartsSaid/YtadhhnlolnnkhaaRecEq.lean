/- Two records compared. -/
import Derived.Test.YtadhhnlolnnkhaaRecN
namespace Go.Proofs.Ytadhhnlolnnkhaa.Rec
set_option linter.unusedVariables false
set_option linter.unusedSimpArgs false
open Go Go.RowKit Kit

set_option maxRecDepth 100000 in
theorem exec_eqR {a : Act} {o : Oper} {w : World} (x y : Operand) (p q : Rec) (ho : o.op = .binOp .eql 23 x y 23) (hx : a.eval x = .agg (rcells p).toArray) (hy : a.eval y = .agg (rcells q).toArray) :
    (execOp a.eval o).run Try.prog w = .ok (.value (.bool (decide (p = q)))) w := by
  obtain ⟨k1, q1, i1, n1, w1, b1⟩ := p
  obtain ⟨k2, q2, i2, n2, w2, b2⟩ := q
  unfold rcells at hx hy
  unfold execOp
  simp only [ho, hx, hy]
  go_simp
  simp only [str_toList]
  repeat' split
  all_goals simp_all
theorem exec_eqS {a : Act} {o : Oper} {w : World} (x y : Operand) (s t : List UInt8) (ho : o.op = .binOp .eql 9 x y 9) (hx : a.eval x = .string (str s)) (hy : a.eval y = .string (str t)) :
    (execOp a.eval o).run Try.prog w = .ok (.value (.bool (decide (s = t)))) w := by
  have hu := u8_string
  unfold execOp
  simp only [ho, hx, hy]
  go_simp
  simp only [str_toList]
  by_cases h : s = t <;> simp [h]
end Go.Proofs.Ytadhhnlolnnkhaa.Rec
