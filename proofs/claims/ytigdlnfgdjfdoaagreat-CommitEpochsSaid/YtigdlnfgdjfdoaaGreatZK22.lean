/- Lemmas: AppI ResC PutO ChaI. -/
import Derived.Test.YtigdlnfgdjfdoaaGreatZK20
import Derived.RangeFuncBox
set_option linter.unusedVariables false
set_option linter.unusedSimpArgs false
namespace Go.Proofs.YtigdlnfgdjfdoaaGreat.Kit
open Go Go.RowKit
theorem run_loadVar_cell {P : Program} (w : World) (ty : TypeId) (g : Nat) (v : Value) (h : w.cell? ⟨g, 0, none⟩ = some v) (ha : (isAgg ty).run P w = .ok false w) : (loadVar ty ⟨g, 0, none⟩).run P w = .ok v w := by
  simp [loadVar, Sem.run_bind, ha, Result.andThen, h]
theorem results_cell1 {P : Program} {fn : Func} {p : Tmp} {ty : TypeId} (h : fn.results = #[.cell p ty]) (tmps : Array Value) (w : World) (g : Nat) (v : Value)
    (hp : tmps.getD p undef = .pointer (some ⟨g, 0, none⟩)) (hg : w.cell? ⟨g, 0, none⟩ = some v) (ha : (isAgg ty).run P w = .ok false w) : (results fn tmps).run P w = .ok v w := by
  have h1 : (results fn tmps).run P w = ((asAddr (tmps.getD p undef)).run P w).andThen fun a w₁ => (loadVar ty a).run P w₁ := by
    simp only [results, h]
    simp [Sem.run_bind, Result.andThen]
  rw [h1, hp]
  simp [asAddr, Result.andThen, run_loadVar_cell w ty g v hg ha]
theorem Kp.putO (W : World) (l : Nat) (o' : Obj) : Kp (fun j => j = l) W (W.putObj l o') := by
  have g := grownBy_putObj' W l o'
  exact ⟨g.os, g.tape, g.output, g.size, fun k hk hn => g.block k hk (fun e => hn (by cases e; rfl))⟩
theorem Blk.putO {W : World} {g l : Nat} {t : TypeId} {cs : List Value} {o : Obj} (h : Blk W g t cs) (o' : Obj) (hl : W.heap[l]? = some o) (hc : o.isCells = false) : Blk (W.putObj l o') g t cs :=
  h.keep (Kp.putO W l o') (fun e => by
    subst e
    have h1 : W.heap[g]? = _ := h
    rw [hl] at h1; cases h1; cases hc)
theorem Row.putO {W : World} {l : Nat} {A : Option Addr} {xs : List Value} {o : Obj} (h : Row W A xs) (o' : Obj) (hl : W.heap[l]? = some o) (hc : o.isCells = false) : Row (W.putObj l o') A xs := by
  rcases xs with _ | ⟨x, xs⟩
  · exact Row.nil _ _
  · refine h.keep (Kp.putO W l o') (fun j e e2 => ?_)
    subst e2
    rcases h with h | ⟨b, p, rfl, hb, hcell⟩
    · cases h
    · cases e
      have h0 := hcell 0 x rfl
      simp only [World.cell?, hl] at h0
      cases o <;> first | (exact Bool.noConfusion hc) | (exact absurd h0 (by simp))
theorem OwnK.putO {k : Nat} {e : TypeId} {W : World} {l : Nat} {A : Option Addr} {n c : Nat} {xs : List Value} {o : Obj} (h : OwnK k e W A n c xs) (o' : Obj) (hl : W.heap[l]? = some o) (hc : o.isCells = false) : OwnK k e (W.putObj l o') A n c xs :=
  ownsRow_putObj h o' hl hc
end Go.Proofs.YtigdlnfgdjfdoaaGreat.Kit
namespace Go.Proofs.YtigdlnfgdjfdoaaGreat.Disk
open Go Go.RowKit Kit
attribute [local go_sem] Oper.semAt_some
theorem agg_e (w : World) : (isAgg 30).run Tryz.prog w = .ok false w := by kernel_rfl
def sofar (D : Dk) (p i : Nat) : List UInt8 := ((List.range i).map (secAt D p)).flatten
structure Nx (B a g N S : Nat) (W : Option Addr) (cW : Nat) (D : Dk) (A : Ar) (w w5 : World) : Prop where
  sz : w5.heap.size = B + 5
  b0 : Blk w5 B 102 [.pointer (some ⟨a, 0, none⟩)]
  b1 : Blk w5 (B + 1) 58 [.slice none 0 0]
  b2 : Blk w5 (B + 2) 30 [.int .i64 0]
  b3 : Blk w5 (B + 3) 58 [.slice none 0 0]
  b4 : Blk w5 (B + 4) 102 [.pointer (some ⟨a, 0, none⟩)]
  cd : Cd w5 g N S W cW D
  ia : IsA w5 a g A
  kp : Kp nob w w5
  lt : a < B ∧ (∀ j, dF g N S W j → j < B)
def FN (B : Nat) : Nat → Prop := fun j => j = B + 3 ∨ B + 5 ≤ j
structure Nr (B : Nat) (D : Dk) (A : Ar) (w5 : World) (i : Nat) (w6 : World) : Prop where
  o : ∃ X c, Blk w6 (B + 3) 58 [.slice X (256 * i) c] ∧ OwnK 1 5 w6 X (256 * i) c (bvs (sofar D A.pos i)) ∧ ∀ j, ab X = some j → B + 5 ≤ j
  kp : Kp (FN B) w5 w6
  look : aLook D.now A.top A.pos 64 0 [] = aLook D.now A.top A.pos (64 - i) i (sofar D A.pos i)
structure Ns (B a g : Nat) (D : Dk) (A : Ar) (w w6 : World) : Prop where
  ex : ∃ (j : Nat) (t : List UInt8) (X : Option Addr) (c : Nat), aNext D A = ({ A with pos := j }, t, 0) ∧ IsA w6 a g { A with pos := j } ∧ Blk w6 (B + 1) 58 [.slice X t.length c] ∧ Blk w6 (B + 2) 30 [.int .i64 0] ∧ Row w6 X (bvs t) ∧ t.length ≤ c ∧ c ≤ maxLen ∧ (X = none → c = 0) ∧ ∀ j, ab X = some j → B + 5 ≤ j
  kp : Kp (oneB a) w w6
theorem Nr.keep {B : Nat} {D : Dk} {A : Ar} {w5 : World} {i : Nat} {w6 w7 : World} (h : Nr B D A w5 i w6) (k : Kp nob w6 w7) : Nr B D A w5 i w7 := by
  obtain ⟨X, c, h1, h2, h3⟩ := h.o
  exact ⟨⟨X, c, h1.keep k (fun e => e), h2.keep k (fun _ _ e => e), h3⟩, h.kp.trans k (fun _ e => e.elim), h.look⟩
theorem Nr.putO {B : Nat} {D : Dk} {A : Ar} {w5 : World} {i : Nat} {w6 : World} (h : Nr B D A w5 i w6) {l : Nat} {o : Obj} (o' : Obj) (hB : B + 5 ≤ l) (hl : w6.heap[l]? = some o) (hc : o.isCells = false) : Nr B D A w5 i (w6.putObj l o') := by
  obtain ⟨X, c, h1, h2, h3⟩ := h.o
  exact ⟨⟨X, c, h1.putO o' hl hc, h2.putO o' hl hc, h3⟩, h.kp.trans (Kp.putO _ _ _) (fun j e => .inl (.inr (by omega))), h.look⟩
theorem Ns.keep {B a g : Nat} {D : Dk} {A : Ar} {w w6 w7 : World} (h : Ns B a g D A w w6) (k : Kp nob w6 w7) : Ns B a g D A w w7 := by
  obtain ⟨j, t, X, c, h1, h2, h3, h4, h5, h6⟩ := h.ex
  exact ⟨⟨j, t, X, c, h1, areaP.keep h2 k (fun e => e), h3.keep k (fun e => e), h4.keep k (fun e => e), h5.keep0 k, h6⟩, h.kp.trans k (fun _ e => e.elim)⟩
theorem Ns.putO {B a g : Nat} {D : Dk} {A : Ar} {w w6 : World} (h : Ns B a g D A w w6) {l : Nat} {o : Obj} (o' : Obj) (hB : w.heap.size ≤ l) (hl : w6.heap[l]? = some o) (hc : o.isCells = false) : Ns B a g D A w (w6.putObj l o') := by
  obtain ⟨j, t, X, c, h1, h2, h3, h4, h5, h6⟩ := h.ex
  exact ⟨⟨j, t, X, c, h1, Blk.putO h2 o' hl hc, h3.putO o' hl hc, h4.putO o' hl hc, h5.putO o' hl hc, h6⟩, h.kp.trans (Kp.putO _ _ _) (fun j e => .inr (by omega))⟩
end Go.Proofs.YtigdlnfgdjfdoaaGreat.Disk
