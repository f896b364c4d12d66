/- Lemmas: ChaT ChaU. -/
import Derived.Test.YtndkmfflpphoiaaZG16
import Derived.Test.YtndkmfflpphoiaaZG21
import Derived.Test.YtndkmfflpphoiaaZG22
set_option linter.unusedVariables false
set_option linter.unusedSimpArgs false
namespace Go.Proofs.Ytndkmfflpphoiaa.Disk
open Go Go.RowKit Kit
theorem Sm.arm_ {D : Dk} {k m : Nat} (h : Sm D k m) (n : Int) (K : Nat) (hn : n ≤ 9223372036854775807) (hK : K < 18446744073709551616) : Sm (arm D n K) k m := ⟨h.acts, h.waits, by show n.toNat ≤ _; omega, hK, h.len⟩
theorem Sm.on_ {D : Dk} {k m : Nat} (h : Sm D k m) : Sm (Disk.on D) k m := ⟨h.acts, h.waits, h.fuse, h.keep, h.len⟩
theorem Sm.le {D : Dk} {k l m : Nat} (h : Sm D k m) (hl : k ≤ l) : Sm D l m := ⟨by have := h.acts; omega, by have := h.waits; omega, h.fuse, h.keep, h.len⟩
theorem adds_sm (n : Nat) : ∀ (s : List UInt8) (D : Dk) (p k m : Nat), s.length = n → Sm D k m → Ok D → Sm (aAdds D p s).1 (k + (secs s).length) m ∧ Ok (aAdds D p s).1 ∧ ((aAdds D p s).2.2 = 0 → (aAdds D p s).2.1 = p + (secs s).length) := by
  induction n using Nat.strongRecOn with
  | ind n ih =>
    intro s D p k m hs hS hO
    by_cases h : s.length = 0
    · rw [aAdds_nil D p s h, secs_nil s h]; exact ⟨hS, hO, fun _ => rfl⟩
    · have hgo := secs_go s (by omega)
      have hlen : (secs s).length = (secs (s.drop 256)).length + 1 := by rw [hgo]; simp
      have h1 := hS.write hO p (s.take 256)
      have h2 := write_ok E8 D p (s.take 256) hO
      by_cases hw : (write E8 D p (s.take 256)).2 = 0
      · rw [aAdds_go D p s (by omega) hw]
        obtain ⟨h3, h4, h5⟩ := ih (s.drop 256).length (by simp; omega) (s.drop 256) _ (p + 1) (k + 1) m rfl h1 h2
        exact ⟨h3.le (by omega), h4, fun e => by rw [h5 e]; omega⟩
      · rw [aAdds_stop D p s (by omega) hw]
        exact ⟨h1.le (by omega), h2, fun e => absurd e hw⟩
/-- An area that stands within its disk. -/
def In (A : Ar) (n : Nat) : Prop := A.pos ≤ A.top ∧ A.top ≤ n
theorem add_sm (D : Dk) (A : Ar) (s : List UInt8) (k m : Nat) (hS : Sm D k m) (hO : Ok D) (hA : In A m) : Sm (aAdd D A s).1 (k + 64) m ∧ In (aAdd D A s).2.1 m := by
  unfold aAdd
  split
  · exact ⟨hS.le (by omega), hA⟩
  · split
    · exact ⟨hS.le (by omega), hA⟩
    · split
      · exact ⟨hS.le (by omega), hA⟩
      · rename_i h1 h2 h3
        have hf : flen s = s.length := Classical.byContradiction fun e => h1 (.inr e)
        have h0 : s.length ≠ 0 := fun e => h1 (.inl e)
        have h48 := flen_48 s hf h0
        have hn := secs_len s
        obtain ⟨h4, h5, h6⟩ := adds_sm s.length s D A.pos k m rfl hS hO
        have h7 : (secs s).length ≤ 64 := by omega
        split
        · rename_i h8
          refine ⟨h4.le (by omega), ?_, hA.2⟩
          show (aAdds D A.pos s).2.1 ≤ A.top
          rw [h6 h8]
          have := hA.1
          omega
        · exact ⟨h4.le (by omega), hA⟩
theorem next_in (D : Dk) (A : Ar) (m : Nat) (hO : Ok D) (hl : D.now.length = m) (hA : In A m) : In (aNext D A).1 m ∧ (aNext D A).2.1.length ≤ 16384 := by
  by_cases ho : D.off = true
  · unfold aNext; rw [if_pos (by simp [ho])]; exact ⟨hA, by simp⟩
  · rcases next_any D A hO (by simpa using ho) (by rw [hl]; exact hA.2) with h | ⟨t, h, hf, h48, hp⟩
    · rw [h]; exact ⟨hA, by simp⟩
    · rw [h]; exact ⟨⟨hp, hA.2⟩, by have := flen_48 t hf (by omega); exact this.2⟩
/-- Only one area matters from now on. -/
theorem Gd.only {w wr : World} {g N S : Nat} {W : Option Addr} {cW : Nat} {D : Dk} {t : Nat → Option Ar} {B : Nat → Prop} {a : Nat} {A : Ar} (h : Gd w wr g N S W cW D t B) (ha : t a = some A) : Gd w wr g N S W cW D (upA noA a A) B := by
  refine ⟨h.cd, h.kp, h.new, fun b C e => ?_, fun j e => ?_⟩
  · by_cases hb : b = a
    · subst hb; rw [upA_same] at e; cases e; exact h.ar b A ha
    · rw [upA_ne _ _ _ _ hb] at e; cases e
  · obtain ⟨h1, h2, h3, h4⟩ := h.be j e
    refine ⟨h1, h2, h3, ?_⟩
    rw [upA_ne _ _ _ _ (fun e2 => by rw [e2, ha] at h4; cases h4)]; rfl
/-- Where the document's disk lies. -/
structure Pd where
  F : Nat → Prop
  N : Option Addr
  S : Option Addr
  W : Option Addr
  cN : Nat
  cS : Nat
  cW : Nat
structure Td (w wr : World) (g N S a g2 b2 : Nat) (D : Dk) (A : Ar) (D' : Dk) (A' : Ar) (W : Option Addr) (cW : Nat) (p : Pd) (B : Nat → Prop) : Prop where
  gd : Gd w wr g N S W cW D (upA noA a A) B
  dd : Dd wr g2 p.F p.N p.S p.W p.cN p.cS p.cW D'
  da : Da wr b2 g2 A'
  ne : ¬ p.F b2
  fb : ∀ k, p.F k → B k
  bb : B b2
/-- The call at c, beside. -/
structure Cb (wr : World) (c : Nat) (x : Cc) (p : Pd) (b2 : Nat) (B : Nat → Prop) : Prop where
  b : Blk wr c 35 x.cells
  i : B c
  ne : c ≠ b2
  nf : ¬ p.F c
/-- The blocks beside, and those made since. -/
def plsB (B : Nat → Prop) (lo hi : Nat) : Nat → Prop := fun j => B j ∨ lo ≤ j ∧ j < hi
section
variable {w wr w2 : World} {g N S a g2 b2 c : Nat} {D A2D D2 D' D2' : Dk} {A A2 A' A2' : Ar} {W W2 : Option Addr} {cW c2 : Nat} {p q : Pd} {B F : Nat → Prop} {x : Cc}
theorem Gd.growT {t : Nat → Option Ar} (h : Gd w wr g N S W cW D t B) (k : Kp F wr w2) (hF : ∀ j, F j → B j ∨ wr.heap.size ≤ j) : Gd w w2 g N S W cW D t (plsB B wr.heap.size w2.heap.size) := by
  have h0 := h.side k hF
  refine ⟨h0.cd, h0.kp, h0.new, h0.ar, fun j e => ?_⟩
  rcases e with e | ⟨e1, e2⟩
  · exact h0.be j e
  · exact ⟨Nat.le_trans h.kp.size e1, e2, fun e => by have := h.cd.lt j e; omega, h.none_ j e1⟩
theorem Td.blt (h : Td w wr g N S a g2 b2 D A D' A' W cW p B) : b2 < wr.heap.size := Blk.lt h.da
theorem Td.keep0 (h : Td w wr g N S a g2 b2 D A D' A' W cW p B) (k : Kp nob wr w2) : Td w w2 g N S a g2 b2 D A D' A' W cW p B :=
  ⟨h.gd.keep0 k, h.dd.keep0 k, Blk.keep h.da k (fun e => e), h.ne, h.fb, h.bb⟩
theorem Cb.keep (h : Cb wr c x p b2 B) (k : Kp F wr w2) (hF : ¬ F c) : Cb w2 c x p b2 B := ⟨h.b.keep k hF, h.i, h.ne, h.nf⟩
theorem Cb.keep0 (h : Cb wr c x p b2 B) (k : Kp nob wr w2) : Cb w2 c x p b2 B := h.keep k (fun e => e)
/-- Something is done to the code's. -/
theorem Td.code (h : Td w wr g N S a g2 b2 D A D' A' W cW p B) {a2 : Nat} (hg : Gd w w2 g N S W2 c2 D2 (upA noA a2 A2) B) (k : Kp F wr w2) (hF : ∀ j, F j → ¬ B j) : Td w w2 g N S a2 g2 b2 D2 A2 D' A' W2 c2 p B :=
  ⟨hg, h.dd.keep k (fun i e e2 => hF i e2 (h.fb i e)), Blk.keep h.da k (fun e => hF _ e h.bb), h.ne, h.fb, h.bb⟩
theorem Td.own (h : Td w wr g N S a g2 b2 D A D' A' W cW p B) : IsA wr a g A ∧ ¬ dF g N S W a := by
  obtain ⟨h1, h2, h3⟩ := h.gd.ar a A (upA_same _ _ _); exact ⟨h1, h3⟩
theorem Td.disk (h : Td w wr g N S a g2 b2 D A D' A' W cW p B) (hz : Dz wr g N S W D2 w2) : ∃ W2 c2, Td w w2 g N S a g2 b2 D2 A D' A' W2 c2 p B ∧ ∀ c x, Cb wr c x p b2 B → Cb w2 c x p b2 B := by
  obtain ⟨W2, c2, hg, k⟩ := h.gd.disk hz
  exact ⟨W2, c2, h.code hg k (fun j e e2 => (h.gd.be j e2).2.2.1 e), fun c x hc => hc.keep k (fun e => (h.gd.be c hc.i).2.2.1 e)⟩
theorem Td.add (h : Td w wr g N S a g2 b2 D A D' A' W cW p B) {s : List UInt8} (hp : AddP areaP D g N S W a A s wr w2) : ∃ W2 c2, Td w w2 g N S a g2 b2 (aAdd D A s).1 (aAdd D A s).2.1 D' A' W2 c2 p B ∧ ∀ c x, Cb wr c x p b2 B → Cb w2 c x p b2 B := by
  obtain ⟨W2, c2, hg, k⟩ := h.gd.add (upA_same _ _ _) hp
  rw [upA_upA] at hg
  exact ⟨W2, c2, h.code hg k (fun j e e2 => h.gd.apart (upA_same _ _ _) e2 e), fun c x hc => hc.keep k (fun e => h.gd.apart (upA_same _ _ _) hc.i e)⟩
theorem Td.next (h : Td w wr g N S a g2 b2 D A D' A' W cW p B) (k : Kp (oneB a) wr w2) (hi : IsA w2 a g A2) : Td w w2 g N S a g2 b2 D A2 D' A' W cW p B ∧ ∀ c x, Cb wr c x p b2 B → Cb w2 c x p b2 B := by
  have hg := h.gd.next (upA_same _ _ _) k hi
  rw [upA_upA] at hg
  have hF : ∀ j, oneB a j → ¬ B j := fun j e e2 => h.gd.apart (upA_same _ _ _) e2 (.inr e)
  exact ⟨h.code hg k hF, fun c x hc => hc.keep k (fun e => hF _ e hc.i)⟩
theorem Td.half (h : Td w wr g N S a g2 b2 D A D' A' W cW p B) {a2 : Nat} (k : Kp nob wr w2) (hi : IsA w2 a2 g A2) (hn : wr.heap.size ≤ a2) : Td w w2 g N S a2 g2 b2 D A2 D' A' W cW p B :=
  h.code ((h.gd.half k hi hn).only (upA_same _ _ _)) k (fun _ e => e.elim)
/-- Something is done to the document's. -/
theorem Td.doc (h : Td w wr g N S a g2 b2 D A D' A' W cW p B) (hz : Dma wr g2 b2 p.F D2' A2' w2) : ∃ q, Td w w2 g N S a g2 b2 D A D2' A2' W cW q (plsB B wr.heap.size w2.heap.size) ∧ ∀ c x, Cb wr c x p b2 B → Cb w2 c x q b2 (plsB B wr.heap.size w2.heap.size) := by
  obtain ⟨F', N', S', W', x1, x2, x3, hd, hF, ha, k⟩ := hz
  have hb := h.blt
  have hne : ∀ j, j < wr.heap.size → ¬ p.F j → ¬ F' j := fun j hj hn e => (hF j e).elim hn (fun e => by omega)
  refine ⟨⟨F', N', S', W', x1, x2, x3⟩, ⟨h.gd.growT k (fun j e => .inl (e.elim (h.fb j) (fun e => by rw [e]; exact h.bb))), hd, ha, hne b2 hb h.ne, fun j e => ?_, .inl h.bb⟩, fun c x hc => ⟨hc.b.keep k (fun e => e.elim hc.nf hc.ne), .inl hc.i, hc.ne, hne c hc.b.lt hc.nf⟩⟩
  rcases hF j e with e2 | e2
  · exact .inl (h.fb j e2)
  · exact .inr ⟨e2, hd.lt j e⟩
theorem Td.docD (h : Td w wr g N S a g2 b2 D A D' A' W cW p B) (hz : Dm wr g2 p.F D2' w2) : ∃ q, Td w w2 g N S a g2 b2 D A D2' A' W cW q (plsB B wr.heap.size w2.heap.size) ∧ ∀ c x, Cb wr c x p b2 B → Cb w2 c x q b2 (plsB B wr.heap.size w2.heap.size) := by
  obtain ⟨F', N', S', W', x1, x2, x3, hd, hF, k⟩ := hz
  exact h.doc ⟨F', N', S', W', x1, x2, x3, hd, hF, Blk.keep h.da k h.ne, k.mono (fun _ _ e => .inl e)⟩
theorem Td.docA (h : Td w wr g N S a g2 b2 D A D' A' W cW p B) (ha : Da w2 b2 g2 A2') (k : Kp (oneB b2) wr w2) : ∃ q, Td w w2 g N S a g2 b2 D A D' A2' W cW q (plsB B wr.heap.size w2.heap.size) ∧ ∀ c x, Cb wr c x p b2 B → Cb w2 c x q b2 (plsB B wr.heap.size w2.heap.size) :=
  h.doc ⟨p.F, p.N, p.S, p.W, p.cN, p.cS, p.cW, h.dd.keep k (fun i e e2 => by unfold oneB at e2; rw [e2] at e; exact h.ne e), fun _ e => .inl e, ha, k.mono (fun _ _ e => .inr e)⟩
theorem Td.docO (h : Td w wr g N S a g2 b2 D A D' A' W cW p B) (hd : Dd w2 g2 p.F p.N p.S p.W p.cN p.cS p.cW D2') (k : Kp (oneB g2) wr w2) : ∃ q, Td w w2 g N S a g2 b2 D A D2' A' W cW q (plsB B wr.heap.size w2.heap.size) ∧ ∀ c x, Cb wr c x p b2 B → Cb w2 c x q b2 (plsB B wr.heap.size w2.heap.size) :=
  h.docD ⟨p.F, p.N, p.S, p.W, p.cN, p.cS, p.cW, hd, fun _ e => .inl e, k.mono (fun i _ e => by unfold oneB at e; rw [e]; exact h.dd.g)⟩
theorem Td.docH (h : Td w wr g N S a g2 b2 D A D' A' W cW p B) {b3 : Nat} (k : Kp nob wr w2) (ha : Da w2 b3 g2 A2') (hn : wr.heap.size ≤ b3) : Td w w2 g N S a g2 b3 D A D' A2' W cW p (plsB B wr.heap.size w2.heap.size) :=
  ⟨h.gd.growT k (fun _ e => e.elim), h.dd.keep0 k, ha, fun e => by have := h.dd.lt b3 e; omega, fun j e => .inl (h.fb j e), .inr ⟨hn, Blk.lt ha⟩⟩
/-- A call is laid beside. -/
theorem Td.call (h : Td w wr g N S a g2 b2 D A D' A' W cW p B) (k : Kp nob wr w2) (hb : Blk w2 c 35 x.cells) (hc : wr.heap.size ≤ c) : Td w w2 g N S a g2 b2 D A D' A' W cW p (plsB B wr.heap.size w2.heap.size) ∧ Cb w2 c x p b2 (plsB B wr.heap.size w2.heap.size) :=
  ⟨⟨h.gd.growT k (fun _ e => e.elim), h.dd.keep0 k, Blk.keep h.da k (fun e => e), h.ne, fun j e => .inl (h.fb j e), .inl h.bb⟩, ⟨hb, .inr ⟨hc, hb.lt⟩, by have := h.blt; omega, fun e => by have := h.dd.lt c e; omega⟩⟩
end
theorem fAdd_any (D : Dk) (a : Ar) (s : List UInt8) (b g : Nat) (F : Nat → Prop) (N S W : Option Addr) (cN cS cW : Nat) (w : World) (h : Dd w g F N S W cN cS cW D) (hb : ¬ F b) (ha : Da w b g a) (ho : Ok D) (hto : a.pos ≤ a.top ∧ a.top ≤ D.now.length) (hn : D.now.length ≤ 4096) (hwt : D.waits.length ≤ 90000) (hac : D.acts ≤ 900000000) (hf : D.fuse ≤ 9223372036854775807) (hs : s.length ≤ 1048576) :
    Calls Try.prog 16 #[.pointer (some ⟨b, 0, none⟩), .string (str s)] w fun e w' => e = .returned (.int .i64 (aAdd D a s).2.2) ∧ Dma w g b F (aAdd D a s).1 (aAdd D a s).2.1 w' := by
  by_cases hno : s.length = 0 ∨ flen s ≠ s.length ∨ D.off = true ∨ 256 * (a.top - a.pos) < s.length
  · refine (fAdd_no D a s b g F N S W cN cS cW w h ha ⟨hto.1, by omega⟩ (by omega) hno).mono ?_
    rintro e w' ⟨he, h1, h2, k⟩
    refine ⟨he, ?_⟩
    rw [h1, h2]
    exact ⟨F, N, S, W, cN, cS, cW, h.keep0 k, fun _ e => .inl e, Blk.keep ha k (fun e => e), k.nob _⟩
  · have h1 : s.length ≠ 0 := fun e => hno (.inl e)
    have h2 : flen s = s.length := Classical.byContradiction fun e => hno (.inr (.inl e))
    have h3 : D.off = false := by
      cases ho : D.off with
      | false => rfl
      | true => exact absurd (.inr (.inr (.inl ho))) hno
    have h4 : ¬ 256 * (a.top - a.pos) < s.length := fun e => hno (.inr (.inr (.inr e)))
    exact fAdd_yes D a s b g F N S W cN cS cW w h hb ha ho hto hn hwt hac hf (by omega) h2 h3 (by omega)
theorem fForge_any (D : Dk) (i : Int) (s : List UInt8) (g : Nat) (F : Nat → Prop) (N S W : Option Addr) (cN cS cW : Nat) (w : World) (h : Dd w g F N S W cN cS cW D) (ho : Ok D) (hn : D.now.length ≤ 4096) (hw : D.waits.length ≤ 99999) (hs : s.length ≤ 140737488355328) :
    Calls Try.prog 27 #[.pointer (some ⟨g, 0, none⟩), .int .i64 i, .string (str s)] w fun e w' => e = .returned (.int .i64 (forge E8 D i s).2) ∧ Dm w g F (forge E8 D i s).1 w' := by
  by_cases hno : i < 0 ∨ (D.now.length : Int) ≤ i ∨ 256 < s.length
  · have hf : forge E8 D i s = (D, if i < 0 ∨ (D.now.length : Int) ≤ i then 1 else 3) := by
      unfold forge
      split
      · rfl
      · rename_i h1
        rw [if_pos (by rcases hno with e | e | e; exact absurd (.inl e) h1; exact absurd (.inr e) h1; exact e)]
        rfl
    rw [hf]
    refine (fForge_no D i s g F N S W cN cS cW w h hno hs).mono ?_
    rintro e w' ⟨rfl, rfl⟩
    exact ⟨rfl, F, N, S, W, cN, cS, cW, h, fun _ e => .inl e, Kp.refl _ _⟩
  · obtain ⟨p, rfl⟩ : ∃ p : Nat, i = p := ⟨i.toNat, by omega⟩
    have hf : forge E8 D (p : Int) s = (forged D p s, 0) := by
      unfold forge
      rw [if_neg (by omega), if_neg (by omega)]
      rfl
    rw [hf]
    exact fForge_yes D p s g F N S W cN cS cW w h ho (by omega) (by omega) hn hw
theorem Td.more {w wr w2 : World} {g N S a g2 b2 : Nat} {D D' : Dk} {A A' : Ar} {W : Option Addr} {cW : Nat} {p : Pd} {B : Nat → Prop} (h : Td w wr g N S a g2 b2 D A D' A' W cW p B) (k : Kp nob wr w2) : Td w w2 g N S a g2 b2 D A D' A' W cW p (plsB B wr.heap.size w2.heap.size) :=
  ⟨h.gd.growT k (fun _ e => e.elim), h.dd.keep0 k, Blk.keep h.da k (fun e => e), h.ne, fun j e => .inl (h.fb j e), .inl h.bb⟩
theorem Cb.more {wr w2 : World} {c : Nat} {x : Cc} {p : Pd} {b2 : Nat} {B : Nat → Prop} (h : Cb wr c x p b2 B) (k : Kp nob wr w2) : Cb w2 c x p b2 (plsB B wr.heap.size w2.heap.size) := ⟨h.b.keep k (fun e => e), .inl h.i, h.ne, h.nf⟩
theorem kinds7 (k : Int) : k = 0 ∨ k = 1 ∨ k = 2 ∨ k = 3 ∨ k = 4 ∨ k = 5 ∨ k = 6 ∨ (k ≠ 0 ∧ k ≠ 1 ∧ k ≠ 2 ∧ k ≠ 3 ∧ k ≠ 4 ∧ k ≠ 5 ∧ k ≠ 6) := by omega
/-- A row beside, made since. -/
theorem Td.rowC {w wr w2 : World} {g N S a g2 b2 : Nat} {D D' : Dk} {A A' : Ar} {W : Option Addr} {cW : Nat} {p : Pd} {B : Nat → Prop} (h : Td w wr g N S a g2 b2 D A D' A' W cW p B) {X : Option Addr} {xs : List Value} (hr : Row wr X xs) (hX : ∀ j, ab X = some j → B j) {s : List UInt8} (hp : AddP areaP D g N S W a A s wr w2) : Row w2 X xs := by
  obtain ⟨_, _, _, k, _, _⟩ := hp
  exact hr.keep k (fun j e e2 => h.gd.apart (upA_same _ _ _) (hX j e) e2)
end Go.Proofs.Ytndkmfflpphoiaa.Disk
