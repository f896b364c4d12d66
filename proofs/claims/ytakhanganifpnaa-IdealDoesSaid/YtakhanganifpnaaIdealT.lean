/- The document's own ideal world in memory: its things, one behind the other; two things compared. -/
import Derived.Test.YtakhanganifpnaaRows
import Derived.Test.YtakhanganifpnaaIdealS
import Derived.Test.YtakhanganifpnaaBlkH
import Derived.Test.YtakhanganifpnaaBlkG
import Derived.Test.YtakhanganifpnaaRegT
import Derived.Test.YtakhanganifpnaaStill
import Derived.BigQuiet
import Derived.Deep.QuietTactic
import Derived.StillTailTactics
import Derived.RegionTactic
import Derived.Laws.StructEq
namespace Go.Proofs.Ytakhanganifpnaa.Ideal
set_option linter.unusedVariables false
set_option linter.unusedSimpArgs false
open Go Go.RowKit Kit

theorem u8i_under : Try.prog.underlying 34 = some (.slice 5) := by kernel_rfl
/-- A thing's cells; those of things, one behind the other. -/
def tc (t : Thing) : List Value := [bv t.kind, .string (str t.a), .string (str t.b), .string (str t.c), .string (str t.d)]
def tcs (ts : List Thing) : List Value := ts.flatMap tc
theorem tc_length (t : Thing) : (tc t).length = 5 := rfl
theorem tc_one (t : Thing) : ∀ u ∈ tc t, u.oneCell' = true := by
  intro u hu
  simp only [tc, List.mem_cons, List.not_mem_nil, or_false] at hu
  rcases hu with rfl | rfl | rfl | rfl | rfl <;> rfl
theorem tcs_length (ts : List Thing) : (tcs ts).length = ts.length * 5 := by
  induction ts with
  | nil => rfl
  | cons t ts ih => rw [tcs, List.flatMap_cons, List.length_append, tc_length, ← tcs, ih, List.length_cons]; omega
theorem tcs_snoc (ts : List Thing) (t : Thing) : tcs (ts ++ [t]) = tcs ts ++ tc t := by simp [tcs]
theorem tcs_at (ts : List Thing) (i k : Nat) (t : Thing) (h : ts[i]? = some t) (hk : k < 5) : (tcs ts)[i * 5 + k]? = (tc t)[k]? := by
  induction ts generalizing i with
  | nil => cases h
  | cons a ts ih =>
    rw [tcs, List.flatMap_cons]
    cases i with
    | zero =>
      simp only [List.getElem?_cons_zero, Option.some.injEq] at h
      subst h
      rw [List.getElem?_append_left (by rw [tc_length]; omega)]; congr 1; omega
    | succ i =>
      rw [List.getElem?_append_right (by rw [tc_length]; omega), tc_length]
      rw [List.getElem?_cons_succ] at h
      rw [show (i + 1) * 5 + k - 5 = i * 5 + k by omega]
      exact ih i h
/-- The document's world at g, with all that it has. -/
structure Wd (w : World) (g : Nat) (F : Nat → Prop) (M : Option Addr) (cM : Nat) (ts : List Thing) : Prop where
  b : Blk w g 30 [.slice M ts.length cM]
  o : OwnK 5 45 w M ts.length cM (tcs ts)
  m : ∀ k, ab M = some k → F k ∧ k ≠ g
  g : F g
  lt : ∀ k, F k → k < w.heap.size
theorem Wd.keep {w w2 : World} {g : Nat} {F G : Nat → Prop} {M : Option Addr} {cM : Nat} {ts : List Thing} (h : Wd w g F M cM ts) (k : Kp G w w2) (hF : ∀ i, F i → ¬ G i) : Wd w2 g F M cM ts :=
  ⟨h.b.keep k (hF _ h.g), h.o.keep k (fun j e => hF j (h.m j e).1), h.m, h.g, fun j e => Nat.lt_of_lt_of_le (h.lt j e) k.size⟩
theorem Wd.keep0 {w w2 : World} {g : Nat} {F : Nat → Prop} {M : Option Addr} {cM : Nat} {ts : List Thing} (h : Wd w g F M cM ts) (k : Kp nob w w2) : Wd w2 g F M cM ts := h.keep k (fun _ _ e => e)
/-- The i-th thing, whole. -/
theorem Wd.at_ {w : World} {g : Nat} {F : Nat → Prop} {M : Option Addr} {cM : Nat} {ts : List Thing} (h : Wd w g F M cM ts) (i : Nat) (t : Thing) (hi : ts[i]? = some t) : ∃ B o, M = some ⟨B, o, none⟩ ∧ w.rangeAt B (o + i * 5) (tc t) := by
  have hil := (List.getElem?_eq_some_iff.1 hi).1
  rcases h.o.row with h0 | ⟨B, o, hM, hlt, hc⟩
  · have := congrArg List.length h0
    rw [tcs_length] at this
    simp at this; omega
  · refine ⟨B, o, hM, fun k v hv => ?_⟩
    have hk : k < 5 := (List.getElem?_eq_some_iff.1 hv).1
    have := hc (i * 5 + k) v (by rw [tcs_at ts i k t hi hk]; exact hv)
    rw [← Nat.add_assoc] at this
    exact this

/-- The document's world behind a call: it has the things ts now; what else was there is as it was. -/
structure Mw (w : World) (g : Nat) (F : Nat → Prop) (M0 : Option Addr) (c0 : Nat) (q : Prop) (ts : List Thing) (F' : Nat → Prop) (M : Option Addr) (cM : Nat) (w2 : World) : Prop where
  d : Wd w2 g F' M cM ts
  f : ∀ k, F' k → F k ∨ w.heap.size ≤ k
  kp : Kp F w w2
  /-- Where nothing was made, all is as it was. -/
  s : q → (F' = F ∧ M = M0 ∧ cM = c0) ∧ Kp nob w w2
theorem Mw.keep {w w2 w3 : World} {g : Nat} {F F' : Nat → Prop} {M0 M : Option Addr} {c0 cM : Nat} {q : Prop} {ts : List Thing} (h : Mw w g F M0 c0 q ts F' M cM w2) (k : Kp nob w2 w3) : Mw w g F M0 c0 q ts F' M cM w3 :=
  ⟨h.d.keep0 k, h.f, h.kp.trans k (fun _ e => e.elim), fun e => ⟨(h.s e).1, (h.s e).2.trans k (fun _ e => e.elim)⟩⟩
/-- One thing more. -/
theorem Wd.grow {w wd w3 : World} {g : Nat} {F : Nat → Prop} {M M2 : Option Addr} {cM c2 : Nat} {ts : List Thing} {t : Thing} {a : Obj} {q : Prop} (hq : ¬ q) (h : Wd wd g F M cM ts) (hk : Kp nob w wd)
    (ho : OwnK 5 45 w3 M2 (ts.length + 1) c2 (tcs ts ++ tc t)) (hg : (wd.alloc a).grownBy w3 (ab M)) (hab : ab M2 = ab M ∨ ab M2 = some (wd.alloc a).heap.size) :
    Mw w g F M cM q (ts ++ [t]) (fun k => F k ∨ ab M2 = some k) M2 c2 (w3.setCell ⟨g, 0, none⟩ (.slice M2 (ts.length + 1) c2)) ∧ Kp (rowF M) wd w3 := by
  have k3 : Kp (rowF M) wd w3 := ((Kp.refl (rowF M) wd).alloc a).grown hg (fun k e => .inl e)
  have hgM : ¬ rowF M g := fun e => (h.m g e).2 rfl
  have hb3 := h.b.keep k3 hgM
  have hne : ∀ k, ab M2 = some k → k ≠ g := by
    intro k e
    rcases hab with h1 | h1 <;> rw [h1] at e
    · exact (h.m k e).2
    · cases e
      have := h.b.lt
      simp; omega
  have k4 : Kp (fun k => k = g) w3 (w3.setCell ⟨g, 0, none⟩ (.slice M2 (ts.length + 1) c2)) := (Kp.refl (fun k => k = g) w3).setCell (.inl rfl) _
  have ho4 := ho.keep k4 (fun j e e' => hne j e e')
  refine ⟨⟨⟨?_, ?_, fun k e => ⟨.inr e, hne k e⟩, .inl h.g, ?_⟩, ?_, ?_, fun e => absurd e hq⟩, k3⟩
  · have := hb3.set_ 0 (.slice M2 (ts.length + 1) c2)
    rw [List.length_append]
    exact this
  · rw [tcs_snoc, List.length_append]; exact ho4
  · rintro k (e | e)
    · have := h.lt k e
      have := Nat.le_trans k3.size k4.size
      omega
    · exact ho4.lt k e
  · rintro k (e | e)
    · exact .inl e
    · rcases hab with h1 | h1 <;> rw [h1] at e
      · exact .inl (h.m k e).1
      · cases e
        refine .inr ?_
        have := hk.size
        simp; omega
  · have k5 : Kp F wd w3 := k3.mono (fun i _ e => (h.m i e).1)
    have k6 : Kp F w3 (w3.setCell ⟨g, 0, none⟩ (.slice M2 (ts.length + 1) c2)) := (Kp.refl F w3).setCell (.inl h.g) _
    exact ((hk.nob F).trans k5 (fun i e => .inl e)).trans k6 (fun i e => .inl e)

theorem bv_beq (a b : UInt8) : (((a.toNat : Int)) == (b.toNat : Int)) = (a == b) := by
  rw [Bool.eq_iff_iff, beq_iff_eq, beq_iff_eq, ← UInt8.toNat_inj]; omega
theorem thing_beq (t u : Thing) : decide (t = u) = (t.kind == u.kind && (t.a == u.a && (t.b == u.b && (t.c == u.c && t.d == u.d)))) := by
  obtain ⟨k, a, b, c, d⟩ := t
  obtain ⟨k', a', b', c', d'⟩ := u
  rw [Bool.eq_iff_iff]
  simp
set_option maxRecDepth 100000 in
theorem eqT (t u : Thing) (w : World) : (Op.equalIn 10000 45 (.agg (tc t).toArray) (.agg (tc u).toArray)).run Try.prog w = .ok (decide (t = u)) w := by
  rw [run_equalIn_struct w 9999 45 _ _ (by kernel_rfl) (by kernel_rfl), thing_beq]
  simp only [tc, bv]
  go_simp
  have hk : ((t.kind.toNat : Int) = (u.kind.toNat : Int)) = (t.kind = u.kind) := propext ⟨fun h => UInt8.toNat_inj.1 (by omega), fun h => by rw [h]⟩
  simp only [str_toList, hk]
  by_cases h1 : t.kind = u.kind
  · by_cases h2 : t.a = u.a
    · by_cases h3 : t.b = u.b
      · by_cases h4 : t.c = u.c
        · by_cases h5 : t.d = u.d <;> simp [h1, h2, h3, h4, h5]
        · simp [h1, h2, h3, h4]
      · simp [h1, h2, h3]
    · simp [h1, h2]
  · simp [h1]
end Go.Proofs.Ytakhanganifpnaa.Ideal
