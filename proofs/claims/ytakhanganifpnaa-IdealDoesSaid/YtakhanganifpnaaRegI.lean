/- Regions that draw their order, in a round of a range over a function: what was walked as everywhere stands there too. No program is named here. -/
import Derived.Test.YtakhanganifpnaaRegU
import Derived.RangeFuncNested
import Derived.RangeFuncCalls
import Derived.OrdersIn
import Derived.TacticsIn
namespace Go.Proofs.Ytakhanganifpnaa.Kit
set_option linter.unusedVariables false
set_option linter.unusedSimpArgs false
open Go Go.RowKit

/-- No operation of it is a defer statement. -/
def noDefer (ops : Array Oper) : Bool := ops.all fun o => match o.op with | .defer _ => false | _ => true
theorem noDefer_spec {ops : Array Oper} (h : noDefer ops = true) (j : Nat) (o : Oper) (ho : ops[j]? = some o) : ∀ c, o.op ≠ .defer c := by
  intro c hc
  obtain ⟨hj, he⟩ := Array.getElem?_eq_some_iff.1 ho
  have := Array.all_eq_true.1 h j hj
  rw [he, hc] at this
  cases this
section
variable {P : Program} {l n : Nat} {ops : Array Oper} {Q : Exit → Act → World → Prop}
theorem callsIn_of {f : FuncId} {args : Array Value} {w : World} {R : Ending → World → Prop} (h : Calls P f args w R) : CallsIn (Fence.wide.inRound l) n P f args w R := CallsIn.inRound l (callsIn_wide.2 h)
theorem rowsIn_of {row : String} {args : Array Value} {w : World} {R : Value → World → Prop} (h : Rows P row args w R) : RowsIn (Fence.wide.inRound l) n P row args w R :=
  fun c cs _ => let ⟨v, w', r, s⟩ := h c cs; ⟨v, w', r, stepsIn_wide.2 s⟩
theorem oper_in {o : Oper} {a : Act} {w : World} {K : Act → World → Prop} (hd : ∀ c, o.op ≠ .defer c) (h : o.wp P a w K (NoPanic Q)) : o.wpIn (Fence.wide.inRound l) n P a w K Q := by
  unfold Oper.wp at h
  unfold Oper.wpIn
  rw [show (Fence.wide.inRound l).round = some l from rfl, Oper.semAt_some l _ _ hd]
  refine ⟨fun _ _ => trivial, ?_⟩
  generalize (execOp a.eval o).run P w = r at *
  cases r with
  | ok x w' =>
    cases x with
    | enter f args =>
      refine ⟨(fun e => by cases e), callsIn_of (Calls.mono h ?_)⟩
      intro e w'' he
      cases e with
      | returned v => exact he
      | panicked c => exact he.elim
      | outgrown => exact he
    | row row args => exact ⟨(fun e => by cases e), rowsIn_of h⟩
    | _ => first | exact h | exact False.elim h
  | halt x w' => cases x <;> first | exact False.elim h | exact h
theorem wpOp_in (hQ : ∀ a w, ¬ Q .outgrown a w) {i : Nat} {K : Act → World → Prop} {a : Act} {w : World} (hd : noDefer ops = true) (h : wpOp P ops (NoPanic Q) i K a w) : wpOpIn (Fence.wide.inRound l) n P ops Q i K a w := by
  unfold wpOp at h
  unfold wpOpIn
  cases ho : ops[i]? with
  | none => simpa [ho] using h
  | some o =>
    simp only [ho] at h ⊢
    by_cases hw : Region.wanted o (yielded ops a.tmps) = true
    · simp only [hw, if_true] at h ⊢
      rcases h with h | ⟨_, _, _, h⟩
      · exact oper_in (noDefer_spec hd i o ho) h
      · exact (hQ _ _ h).elim
    · simp only [hw] at h ⊢
      exact ⟨fun _ _ => trivial, h⟩
theorem wpAny_in (hQ : ∀ a w, ¬ Q .outgrown a w) {md : Region.Mode} (hd : noDefer ops = true) : ∀ (fuel : Nat) (listed : Array Bool) (a : Act) (w : World), wpAny P md ops (NoPanic Q) fuel listed a w → wpAnyIn (Fence.wide.inRound l) n P md ops Q fuel listed a w
  | 0, _, _, _, h => h
  | fuel + 1, _, _, _, h => ⟨h.1, fun i hi => wpOp_in hQ hd (wpOp_mono (fun a' w' h' => wpAny_in hQ hd fuel _ a' w' h') (h.2 i hi))⟩
/-- THE BEGINNING, IN A ROUND. -/
theorem reg_beginI {id : Nat} {a : Act} {w : World} (S : World → Prop) (hQ : ∀ a w, ¬ Q .outgrown a w) (hd : noDefer ops = true) (hm : P.follows .mixedOrders = true) (hS : S w.drew)
    (h : S w.drew → wpAnyH P .any ops (NoPanic Q) S ops.size (Array.replicate ops.size false) a w.drew) : (Code.region id ops true).wpIn (Fence.wide.inRound l) n P Q a w :=
  wpIn_region_any hm (wpAny_in hQ hd _ _ _ _ (wpAny_of_held _ _ _ _ (h hS)))
theorem reg_startI {id : Nat} {a : Act} {w : World} (S : World → Prop) (hQ : ∀ a w, ¬ Q .outgrown a w) (hd : noDefer ops = true) (hm : P.follows .mixedOrders = true) (hS : S w.drew)
    (h : ∀ w', S w' → wpAnyH P .any ops (NoPanic Q) S ops.size (Array.replicate ops.size false) a w') : (Code.region id ops true).wpIn (Fence.wide.inRound l) n P Q a w :=
  reg_beginI S hQ hd hm hS (fun h1 => h _ h1)
end

/-! What was kept, in the words of the law of ranges. -/
theorem Kp.others {F : Nat → Prop} {w w' : World} (h : Kp F w w') (hF : ∀ k o, F k → w.heap[k]? = some o → o.isCells = true) : KeepsOthers w w' :=
  ⟨h.size, fun k o hk ho => by
    by_cases e : F k
    · rw [hF k o e hk] at ho; cases ho
    · exact (h.block k (Array.getElem?_eq_some_iff.1 hk).1 e).trans hk⟩
theorem Kp.others0 {w w' : World} (h : Kp Kit.nob w w') : KeepsOthers w w' := h.others (fun _ _ e => e.elim)
/-- All that lay is as it was, but F's blocks, and what lies beyond B. -/
def outF (F : Nat → Prop) (B : Nat) : Nat → Prop := fun k => F k ∨ B ≤ k
theorem kp_t {F : Nat → Prop} {A B C : World} (h : Kp F A B) (k : Kp F B C) : Kp F A C := h.trans k (fun _ e => .inl e)
theorem kp_b {F : Nat → Prop} {w : World} (hF : ∀ k, w.heap.size ≤ k → F k) (W : World) (l : Nat) (o o' : Obj) (hl : w.heap.size ≤ l) (h : W.heap[l]? = some o) (_ : o.isCells = false) (_ : o.isWalk = false) : Kp F W (W.putObj l o') := by
  have g := grownBy_putObj' W l o'
  exact ⟨g.os, g.tape, g.output, g.size, fun k hk hn => g.block k hk (fun e => hn (hF k (by cases e; exact hl)))⟩
theorem Kp.of_grown {F : Nat → Prop} {W W' : World} {row : Option Nat} (g : W.grownBy W' row) (hF : ∀ k, row = some k → F k) : Kp F W W' :=
  ⟨g.os, g.tape, g.output, g.size, fun k hk hn => g.block k hk (fun e => hn (hF k e.symm))⟩
/-- What is said of what lay below, kept but for F's blocks, goes through the law. -/
theorem ownFrom_kp {β : Type} {F : Nat → Prop} {B : Nat} {w₀ : World} (hF : ∀ k, B ≤ k → F k ∨ w₀.heap.size ≤ k) : OwnFrom B (fun (_ : β) W => Kp F w₀ W) :=
  fun _ _ _ _ hs hg hr => hs.trans (Kp.of_grown (F := fun k => B ≤ k) hg (fun k e => (hr k e).1)) hF
end Go.Proofs.Ytakhanganifpnaa.Kit
