/- Writing one thing at a time. -/
import Derived.Test.YtadhhnlolnnkhaaCodeR0
namespace Go.Proofs.Ytadhhnlolnnkhaa
set_option linter.unusedVariables false
set_option linter.unusedSimpArgs false
open Go Go.RowKit Kit

theorem IsW.alloc {w : World} {b : Nat} {A : Option Addr} {l : List UInt8} (h : IsW w b A l) (o : Obj) : IsW (w.alloc o) b A l := h.keep ((Kp.refl nob _).alloc o) (fun _ _ e => e)
theorem IsR.alloc {w : World} {b : Nat} {A : Option Addr} {l : List UInt8} {bad : Bool} (h : IsR w b A l bad) (o : Obj) : IsR (w.alloc o) b A l bad := h.keep ((Kp.refl nob _).alloc o) (fun _ _ e => e)
theorem IsW.apart {w : World} {b : Nat} {A : Option Addr} {l : List UInt8} (h : IsW w b A l) : ∀ k, ab (some (⟨w.heap.size, 0, none⟩ : Addr)) = some k → ¬ WF b A k := by
  intro k hk e; cases hk; exact absurd (h.fLt _ e) (Nat.lt_irrefl _)
theorem isW_new (w : World) : IsW (w.alloc (.cells #[.slice none 0 0] 44)) w.heap.size none [] :=
  ⟨0, heap_alloc_new w _, Own.nil _ _, by simp [ab]⟩
theorem WPost.later {w : World} {b : Nat} {A : Option Addr} {l : List UInt8} {o : Obj} {w' : World} (h : WPost (w.alloc o) b A l w') : WPost w b A l w' := by
  obtain ⟨A', h1, h2, h3⟩ := h
  exact ⟨A', h1, ((Kp.refl nob w).alloc o |>.nob (WF b A)).trans h2 (fun _ e => .inl e), (Grew.refl A w.heap.size).trans h3 (by simp)⟩
theorem WPost.keep {F : Nat → Prop} {w w1 w' : World} {b : Nat} {A : Option Addr} {l : List UInt8} (h : WPost w1 b A l w') (hk : Kp F w w1) (hF : ∀ k, F k → WF b A k ∨ w.heap.size ≤ k) : WPost w b A l w' := by
  obtain ⟨A', h1, h2, h3⟩ := h
  refine ⟨A', h1, ⟨h2.os.trans hk.os, h2.tape.trans hk.tape, h2.output.trans hk.output, Nat.le_trans hk.size h2.size, fun k hk1 hk2 => ?_⟩, (Grew.refl A w.heap.size).trans h3 hk.size⟩
  have := hk.size
  exact (h2.block k (by omega) hk2).trans (hk.block k hk1 (fun e => (hF k e).elim hk2 (by omega)))

theorem WF.ge {b N : Nat} {A : Option Addr} (hb : N ≤ b) (hA : ∀ k, ab A = some k → N ≤ k) : ∀ k, WF b A k → N ≤ k := by
  rintro k (rfl | h)
  · exact hb
  · exact hA k h
theorem wNum1 (b : Nat) (A : Option Addr) (l : List UInt8) (x : Int) (w : World) (t : TypeId) (H : Nat) (hH : w.heap.size = H) (h : IsW w b A l) (hl : l.length + 8 ≤ 1099511627776) :
    Calls Try.prog 19 #[.pointer (some ⟨b, 0, none⟩), .slice (some ⟨H, 0, none⟩) 1 1] (w.alloc (.cells #[.int .i64 x] t)) fun e w' => e = .returned (.tuple #[]) ∧ WPost w b A (l ++ num8 x) w' := by
  subst hH
  refine (wNum b A l (some ⟨w.heap.size, 0, none⟩) 1 1 [x] _ (h.alloc _) rfl (row_one _ _ _) h.apart (by omega) (by omega)).mono ?_
  rintro e w' ⟨rfl, hp⟩
  exact ⟨rfl, by simpa using hp.later⟩
end Go.Proofs.Ytadhhnlolnnkhaa
