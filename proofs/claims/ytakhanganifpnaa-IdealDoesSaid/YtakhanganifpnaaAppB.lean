/- Append of noughts ('append(s, make([]byte, k)...)') as a step of a walk; an owned row cut to nothing; slices of slices of bytes. No program is named here. -/
import Derived.Test.YtakhanganifpnaaApp
namespace Go.Proofs.Ytakhanganifpnaa.Kit
set_option linter.unusedVariables false
set_option linter.unusedSimpArgs false
open Go Go.RowKit

theorem wpList_appZero {P : Program} (w : World) {ops : Array Oper} {rest : List Oper} {o : Oper} {a : Act} {Q : Exit → Act → World → Prop} (hgd : o.guard = none) (s x : Operand) (t tn : TypeId)
    (ho : o.op = .call { callee := .builtin .append, args := #[s, x], argTypes := #[t, tn] })
    (e : TypeId) (i : TypeInfo) (kq kn : IntKind) (ht : P.underlying t = some (.slice e)) (htn : P.underlying tn = some (.int kn)) (hi : P.info? e = some i) (hz : i.zero = some (.int .u8 0))
    (hsize : i.size = 1) (hby : i.bytes = 1) (A : Option Addr) (n c : Nat) (xs : List Value) (hs : a.eval s = .slice A n c) (hown : Own e w A n c xs) (k : Nat) (hx : a.eval x = .int kq k) (h63 : n + k ≤ 140737488355328)
    (h : ∀ A' c' w', Own e w' A' (n + k) c' (xs ++ bvs (List.replicate k 0)) → w.grownBy w' (ab A) → (ab A' = ab A ∨ ab A' = some w.heap.size) → wpList P ops Q rest (a.put o.dst (.slice A' (n + k) c')) w') : wpList P ops Q (o :: rest) a w := by
  refine wpList_plain hgd fun _ hK => ?_
  obtain ⟨A', c', w', hr, h2, h3, h4⟩ := run_appZero (P := P) w t tn o.type e i kq kn ht htn hi hz hsize hby A n c xs hown k h63
  unfold Oper.wp execOp
  simp only [ho, resolve, invoke, builtin, Sem.run_bind, Sem.run_pure, Result.andThen_ok, List.map_toArray, List.map_cons, List.map_nil, hs, hx, hr]
  exact hK _ _ (h A' c' w' h2 h3 h4)
/-- Cut to nothing. -/
theorem Own.zero {e : TypeId} {w : World} {A : Option Addr} {n c : Nat} {xs : List Value} (h : Own e w A n c xs) : Own e w A 0 c [] := by
  refine ⟨rfl, ?_⟩
  rcases h.2 with ⟨h1, h2⟩ | ⟨g, cap, cur, h1, h0, hg, hnc, hcm, hcs, ht⟩
  · injection h1 with h1 _ h3
    exact .inl ⟨by rw [h1, h3], rfl⟩
  · injection h1 with h1 _ h3
    exact .inr ⟨g, cap, cur, by rw [h1, h3], h0, hg, Nat.zero_le _, hcm, hcs, by simp⟩
/-- A row in a block known whole, from the block's beginning. -/
theorem Own.none_ {e : TypeId} {w : World} {A : Option Addr} {n c : Nat} {xs : List Value} (h : Own e w A n c xs) : A = none → c = 0 := by
  intro hA
  rcases h.2 with ⟨h1, h2⟩ | ⟨g, cap, cur, h1, _⟩
  · injection h1
  · injection h1 with h1; rw [hA] at h1; cases h1
end Go.Proofs.Ytakhanganifpnaa.Kit
