/- Lemmas: DskSz ChaL ChaW Quo Rng. -/
import Derived.Test.YtndkmfflpphoiaaZG06
import Derived.RangeFuncFrom
import Derived.RangeFuncLeaves
set_option linter.unusedVariables false
set_option linter.unusedSimpArgs false
namespace Go.Proofs.Ytndkmfflpphoiaa.Disk
open Go Go.RowKit Kit
theorem size_any (D : Dk) (g N S : Nat) (W : Option Addr) (cW : Nat) (w : World) (h : Cd w g N S W cW D) :
    Calls Try.prog 34 #[.pointer (some ⟨g, 0, none⟩)] w fun e w' => e = .returned (.int .i64 (D.now.length : Int)) ∧ w = w' := by
  obtain ⟨c0, c1, c2, c3, c4, c5, c6⟩ := h.cells
  clear c1 c2 c3 c4 c5 c6 h
  go_enter Try.func34, Try.ntmps34
  go_wp2
  go_ret
  exact ⟨rfl, rfl⟩
theorem clamp9 : clamp 9 = 9 := by decide
theorem new_len (n : Nat) : (new n).now.length = n := by unfold new; simp
theorem far_new (n : Nat) : Far (new n) := by constructor <;> simp [new]
theorem frmx_len : (frm [120]).length = 48 := by rw [frm_length]; rfl
theorem secsx : (secs (frm [120])).length = 1 := by rw [secs_len, frmx_len]
/-- What an Add of one small frame leaves of a new disk's first half. -/
theorem add_x : (aAdd (new 9) (aHalf 9 false) (frm [120])).2.2 = 0 ∧ (aAdd (new 9) (aHalf 9 false) (frm [120])).2.1 = ⟨4, 1⟩ ∧ (aAdd (new 9) (aHalf 9 false) (frm [120])).1.now.length = 9 := by
  have h := add_yes (new 9) (aHalf 9 false) (frm [120]) (frm_flen [120] (by simp)) (frm_pos _) rfl rfl (by rw [secsx]; decide) (by rw [new_len]; decide)
  obtain ⟨d2, e2, P⟩ := h
  rw [e2]
  refine ⟨rfl, ?_, ?_⟩
  · rw [secsx]; rfl
  · show d2.now.length = 9
    rw [P.size, new_len]
set_option maxHeartbeats 2000000 in
set_option maxRecDepth 100000 in
theorem alive_yes (P : AreaP) (hH : HalfC P) (hL : LeftC P) (hA : AddC P) (w : World) :
    Calls Try.prog 8 #[] w fun e w' => e = .returned (.bool true) ∧ Kp nob w w' := by
  have hnew := new_any 9
  rw [clamp9] at hnew
  have HNW := Lib.hid hnew
  have HFR := Lib.hid (fun w' => framed_any [120] w' (by simp))
  rw [frmx_len] at HFR
  have HX := Lib.hid add_x
  clear hnew
  go_enter Try.func8, Try.ntmps8
  go_wp2_with fail
  refine (HNW.out _).mono ?_
  rintro e w1 ⟨g, N, S, rfl, hd1, k1, hn1⟩
  have HD1 := Lib.hid hd1
  have HK1 := Lib.hid k1
  have HN1 := Lib.hid hn1
  clear hd1 k1 hn1
  go_wp2_with fail
  refine (hH (new 9) g N S none 0 0 w1 HD1.out (by omega)).mono ?_
  rintro e w2 ⟨a, rfl, ha2, k2, hna⟩
  have HA2 := Lib.hid ha2
  have HD2 := Lib.hid (HD1.out.keep0 k2)
  have HK2 := Lib.hid (And.intro k2 hna)
  clear ha2 k2 hna
  go_wp2_with fail
  refine (hH (new 9) g N S none 0 3 w2 HD2.out (by omega)).mono ?_
  rintro e w3 ⟨b, rfl, hb3, k3, hnb⟩
  have HB3 := Lib.hid hb3
  have HA3 := Lib.hid (P.keep HA2.out k3 (fun e => e))
  have HD3 := Lib.hid (HD2.out.keep0 k3)
  have HK3 := Lib.hid (And.intro k3 hnb)
  clear hb3 k3 hnb
  go_wp2_with fail
  refine (HFR.out w3).mono ?_
  rintro e w4 ⟨X, c, rfl, hr4, k4, hc1, hc2, hc3, hn4⟩
  have HR4 := Lib.hid (And.intro hr4 (And.intro hc1 (And.intro hc2 (And.intro hc3 hn4))))
  have HA4 := Lib.hid (P.keep HA3.out k4 (fun e => e))
  have HB4 := Lib.hid (P.keep HB3.out k4 (fun e => e))
  have HD4 := Lib.hid (HD3.out.keep0 k4)
  have HK4 := Lib.hid k4
  clear hr4 k4 hc1 hc2 hc3 hn4
  rw [new_len] at HA4 HB4
  have e0 : aHalf 9 (decide ((0 : Int) % 2 = 1)) = ⟨4, 0⟩ := by rfl
  have e3 : aHalf 9 (decide ((3 : Int) % 2 = 1)) = ⟨8, 4⟩ := by rfl
  have ex : aHalf 9 false = ⟨4, 0⟩ := by rfl
  rw [e0] at HA4
  rw [e3] at HB4
  rw [ex] at HX
  have HL1 := Lib.hid (hL a g ⟨4, 0⟩ w4 HA4.out (by decide) (by decide))
  have hlt1 := HD1.out.lt
  have HDA : Hid (¬ dF g N S none a) := Lib.hid (fun e => by have := hlt1 _ e; have := HK2.out.2; omega)
  have HXF : Hid (∀ i, ab X = some i → ¬ aF g N S none a i) := Lib.hid (fun i e e2 => by
    have h1 := HR4.out.2.2.2.2 i e
    rcases e2 with e2 | e2
    · have h2 := hlt1 i e2; have h3 := HK2.out.1.size; have h4 := HK3.out.1.size; omega
    · have h2 := P.lt HA3.out; omega)
  clear hlt1 e0 e3 ex
  go_wp2_with fail
  refine HL1.out.mono ?_
  rintro e w5 ⟨rfl, k5⟩
  have HA5 := Lib.hid (P.keep HA4.out k5 (fun e => e))
  have HB5 := Lib.hid (P.keep HB4.out k5 (fun e => e))
  have HD5 := Lib.hid (HD4.out.keep0 k5)
  have HK5 := Lib.hid k5
  have HR5 := Lib.hid (HR4.out.1.keep0 k5)
  have HL2 := Lib.hid (hL b g ⟨8, 4⟩ w5 HB5.out (by decide) (by decide))
  clear k5
  go_wp2_with fail
  refine HL2.out.mono ?_
  rintro e w6 ⟨rfl, k6⟩
  have HA6 := Lib.hid (P.keep HA5.out k6 (fun e => e))
  have HD6 := Lib.hid (HD5.out.keep0 k6)
  have HK6 := Lib.hid k6
  have HR6 := Lib.hid (HR5.out.keep0 k6)
  have hadd := hA (new 9) g N S none 0 a ⟨4, 0⟩ X 48 c (frm [120]) w6 HD6.out HA6.out HDA.out (by decide) (by rw [new_len]; decide) (far_new 9) frmx_len HR6.out HR4.out.2.1 HR4.out.2.2.1 HR4.out.2.2.2.1 (.inr HXF.out) (by omega)
  unfold AddP at hadd
  rw [HX.out.1, HX.out.2.1] at hadd
  have HAD := Lib.hid hadd
  clear k6 hadd
  go_wp2_with fail
  refine HAD.out.mono ?_
  rintro e w7 ⟨rfl, W2, c2, hd7, k7, hw7, ha7⟩
  have HA7 := Lib.hid ha7
  have HD7 := Lib.hid hd7
  have HK7 := Lib.hid k7
  have HL3 := Lib.hid (hL a g ⟨4, 1⟩ w7 HA7.out (by decide) (by decide))
  clear hd7 k7 hw7 ha7
  go_wp2_with fail
  refine HL3.out.mono ?_
  rintro e w8 ⟨rfl, k8⟩
  have hc8 := P.disk (P.keep HA7.out k8 (fun e => e))
  have hsz := size_any _ g N S W2 c2 w8 (HD7.out.keep0 k8)
  rw [HX.out.2.2] at hsz
  have HSZ := Lib.hid hsz
  have HK8 := Lib.hid k8
  clear k8 hsz
  go_wp2_with fail
  refine HSZ.out.mono ?_
  rintro e w9 ⟨rfl, rfl⟩
  go_wp2
  go_ret
  have kk := ((((HK1.out.trans HK2.out.1 (fun _ e => e.elim)).trans HK3.out.1 (fun _ e => e.elim)).trans HK4.out (fun _ e => e.elim)).trans HK5.out (fun _ e => e.elim)).trans HK6.out (fun _ e => e.elim)
  exact ⟨rfl, (kk.since HK7.out (fun i e => by
    rcases e with e | e
    · exact HN1.out i e
    · have := HK1.out.size; have := HK2.out.2; omega)).trans HK8.out (fun _ e => e.elim)⟩
theorem adds_far (n : Nat) : ∀ (s : List UInt8) (d : Dk) (p : Nat), s.length = n → d.off = false → d.fuse = 0 → p + (secs s).length ≤ d.now.length →
    (aAdds d p s).1.waits.length = d.waits.length + (secs s).length ∧ (aAdds d p s).1.keep = d.keep := by
  induction n using Nat.strongRecOn with
  | ind n ih =>
    intro s d p hs ho hf hp
    by_cases h : s.length = 0
    · rw [aAdds_nil d p s h, secs_nil s h]; exact ⟨rfl, rfl⟩
    · have hgo := secs_go s (by omega)
      have hlen : (secs s).length = (secs (s.drop 256)).length + 1 := by rw [hgo]; simp
      have hw := write_one_ d p (s.take 256) ho hf (by omega) (by simp; omega)
      rw [aAdds_go d p s (by omega) (by rw [hw]), hw]
      have h2 := ih (s.drop 256).length (by simp; omega) (s.drop 256) (wrote { d with acts := d.acts + 1, fuse := 0 } p (s.take 256)) (p + 1) rfl ho rfl (by simp only [wrote, List.length_set]; omega)
      rw [h2.1, h2.2, hlen]
      simp only [wrote, List.length_append, List.length_cons, List.length_nil]
      exact ⟨by omega, trivial⟩
/-- i frames of k sectors each are there; nothing happened to the power. -/
structure Rm (n k i : Nat) (top lo : Nat) (D : Dk) (A : Ar) : Prop where
  off : D.off = false
  fuse : D.fuse = 0
  acts : D.acts = i * k
  size : D.now.length = n
  waits : D.waits.length = i * k
  keep : D.keep = 0
  pos : A = ⟨top, lo + i * k⟩
theorem rm_new (n : Nat) (odd : Bool) (k : Nat) : Rm n k 0 (aHalf n odd).top (aHalf n odd).pos (new n) (aHalf n odd) := by
  refine ⟨rfl, rfl, by simp [new], by simp [new], by simp [new], rfl, by simp⟩
theorem Rm.add {n k i top lo : Nat} {D : Dk} {A : Ar} (h : Rm n k i top lo D A) (s : List UInt8) (hs : flen s = s.length) (h0 : s.length ≠ 0) (hk : (secs s).length = k) (hr : lo + (i + 1) * k ≤ top) (ht : top ≤ n) :
    (aAdd D A s).2.2 = 0 ∧ Rm n k (i + 1) top lo (aAdd D A s).1 (aAdd D A s).2.1 := by
  obtain ⟨h1, h2, h3, h4, h5, h6, rfl⟩ := h
  have hi : (i + 1) * k = i * k + k := Nat.succ_mul i k
  have hroom : lo + i * k + (secs s).length ≤ top := by rw [hk]; omega
  obtain ⟨d2, e2, P⟩ := add_yes D ⟨top, lo + i * k⟩ s hs h0 h1 h2 hroom (by simp only; omega)
  have hf := adds_far s.length s D (lo + i * k) rfl h1 h2 (by omega)
  have e3 : (aAdds D (lo + i * k) s).1 = d2 := by
    obtain ⟨d3, e4, _⟩ := adds_yes s.length s D (lo + i * k) rfl h1 h2 (by omega)
    have e5 := e2
    unfold aAdd at e5
    have hn := secs_len s
    rw [if_neg (by simp [hs]; intro h; exact h0 (by rw [h]; rfl)), if_neg (by simp [h1]), if_neg (by simp only; omega)] at e5
    simp only [e4] at e5
    rw [e4]
    simp only [if_pos] at e5
    exact congrArg (·.1) e5
  rw [e2]
  rw [e3] at hf
  refine ⟨rfl, P.off, P.fuse, ?_, ?_, ?_, ?_, ?_⟩
  · rw [P.acts, h3, hk, hi]
  · rw [P.size, h4]
  · rw [hf.1, h5, hk, hi]
  · rw [hf.2, h6]
  · show (⟨top, lo + i * k + (secs s).length⟩ : Ar) = ⟨top, lo + (i + 1) * k⟩
    rw [hk, hi, Nat.add_assoc]
end Go.Proofs.Ytndkmfflpphoiaa.Disk
namespace Go.Proofs.Ytndkmfflpphoiaa.Kit
open Go Go.RowKit
theorem at_list {P : Program} {ops : Array Oper} {Q : Exit → Act → World → Prop} {l : List Oper} {a : Act} {w : World} (h : wpList P ops Q l a w) : wpList P ops Q l a w := h
/-- A quotient, under a name that no step rewrites. -/
def IsQuo (a b c : Int) : Prop := b ≠ 0 ∧ IntKind.i64.wrap (a.tdiv b) = c
theorem exec_quo {act : Act} {o : Oper} {w : World} (x y : Operand) (a b c : Int) (ho : o.op = .binOp .quo 3 x y 3) (hx : act.eval x = .int .i64 a) (hy : act.eval y = .int .i64 b) (h : IsQuo a b c) :
    (execOp act.eval o).run Try.prog w = .ok (.value (.int .i64 c)) w := by
  obtain ⟨hb, rfl⟩ := h
  unfold execOp
  simp only [ho, hx, hy]
  go_simp
def IsRem (a b c : Int) : Prop := b ≠ 0 ∧ a.tmod b = c
theorem exec_rem {act : Act} {o : Oper} {w : World} (x y : Operand) (a b c : Int) (ho : o.op = .binOp .rem 3 x y 3) (hx : act.eval x = .int .i64 a) (hy : act.eval y = .int .i64 b) (h : IsRem a b c) :
    (execOp act.eval o).run Try.prog w = .ok (.value (.int .i64 c)) w := by
  obtain ⟨hb, rfl⟩ := h
  unfold execOp
  simp only [ho, hx, hy]
  go_simp
end Go.Proofs.Ytndkmfflpphoiaa.Kit
namespace Go.Proofs.Ytndkmfflpphoiaa
open Go Go.RowKit Kit
/-- How a round may end: it goes on, or the function returns. -/
def rPost (K : World → World → Prop) (I : World → Prop) (Ir : World → Prop) (W : World) : Exit → Act → World → Prop
  | .normal, _, W' => KeepsOthers W W' ∧ K W W' ∧ I W'
  | .ret, _, W' => KeepsOthers W W' ∧ Ir W'
  | _, _, _ => False
/-- What the iterator is asked for: rounds 0 .. m - 1, or fewer, where a round tells it to stop. -/
def Iter (n : Nat) (P : Program) (gf : Nat) (lb : Array Value) (el : Nat → Nat → Array Value) (V : Nat → Nat → World → Prop) (K : World → World → Prop) (m : Nat) (w : World) : Prop :=
  ∀ (l : Nat) (J : Nat → World → Prop) (X : World → Prop) (W : World), Kp nob w W → (∀ i A B, J i A → Kp nob A B → J i B) → (∀ A B, X A → Kp nob A B → X B) →
    (∀ i k W1, J i W1 → V i k W1 → YieldAt Fence.wide (n - 1) P l (el i k) W1 fun e W' => (e = .returned (.bool true) ∧ J (i + 1) W' ∧ K W1 W') ∨ (e = .returned (.bool false) ∧ X W')) →
    J 0 W → CallsIn Fence.wide n P gf (#[.func (.yield l) #[] #[]] ++ lb) W fun e W' => (∃ v, e = .returned v) ∧ (J m W' ∨ X W')
theorem kp_same {A B : World} (k : Kp nob A B) {l : Nat} {o : Obj} (h : A.heap[l]? = some o) : B.heap[l]? = some o :=
  (k.block l (Array.getElem?_eq_some_iff.1 h).1 (fun e => e)).trans h
theorem rangeK {n : Nat} {P : Program} {g : Operand} {ps : Array Tmp} {assign body : Code} {Q : Exit → Act → World → Prop} {a : Act} {w : World} (h1 : 1 ≤ n) {gf : Nat} {lb : Array Value}
    (hg : a.eval g = .func (.func gf) #[] lb) (eg : ∀ args w, (callFunc gf args).run P w = .ok (.enter gf args) w) {el : Nat → Nat → Array Value} (hps : ∀ i k, (el i k).size = ps.size)
    {V : Nat → Nat → World → Prop} (hV : ∀ (i k : Nat) (W : World) (l : Nat) (o o' : Obj), W.heap[l]? = some o → o.isCells = false → V i k W → V i k (W.putObj l o'))
    {K : World → World → Prop} (hKt : ∀ {A B C : World}, K A B → K B C → K A C) (hKb : ∀ (W : World) (l : Nat) (o o' : Obj), w.heap.size ≤ l → W.heap[l]? = some o → o.isCells = false → K W (W.putObj l o'))
    {m : Nat} (hit : Iter (n - 1) P gf lb el V K m w) (I : Nat → World → Prop) (Ir : World → Prop)
    (hI : ∀ i A B, I i A → Kp nob A B → I i B) (hR : ∀ A B, Ir A → Kp nob A B → Ir B)
    (hIo : ∀ (i : Nat) (A : World) (l : Nat) (o o' : Obj), w.heap.size ≤ l → A.heap[l]? = some o → o.isCells = false → I i A → I i (A.putObj l o'))
    (hRo : ∀ (A : World) (l : Nat) (o o' : Obj), w.heap.size ≤ l → A.heap[l]? = some o → o.isCells = false → Ir A → Ir (A.putObj l o'))
    (h0 : I 0 w) (a₁ : Nat → Nat → Act)
    (hassign : ∀ (l i k : Nat) (W : World) (K : Act → World → Prop), K (a₁ i k) W → assign.wpIn (Fence.wide.inRound l) (n - 1 - 1) P (Exit.then K (fun _ _ _ => False)) { tmps := (ps.zip (el i k)).foldl (fun t (p, v) => t.setIfInBounds p v) a.tmps, defers := [] } W)
    (hbody : ∀ (l i k : Nat) (W : World), I i W → V i k W → body.wpIn (Fence.wide.inRound l) (n - 1 - 1) P (rPost K (I (i + 1)) Ir W) (a₁ i k) W)
    (hdone : ∀ (D : Nat) (W : World), w.heap.size ≤ D → I m W → W.heap[D]? = some (.deferred (some [])) → Q .normal { a with defers := { target := .collected D, args := #[] } :: a.defers } W)
    (hstop : ∀ (D : Nat) (W : World), w.heap.size ≤ D → Ir W → W.heap[D]? = some (.deferred (some [])) → Code.ret.wpIn Fence.wide n P Q { a with defers := { target := .collected D, args := #[] } :: a.defers } W) :
    (Code.rangeFunc g ps assign body).wpIn Fence.wide n P Q a w := by
  refine wpIn_rangeFunc fun fn hfn => ?_
  obtain ⟨B, hB⟩ : ∃ B, B = w.heap.size := ⟨_, rfl⟩
  -- the loop's record, by its state and what it is left for
  obtain ⟨lp, hlp⟩ : ∃ lp : LoopState → Option Code → Obj, lp = fun s j => .loop { state := s, pending := j, fn := fn, tmps := a.tmps, params := ps, assign := assign, body := body, defers := B } := ⟨_, rfl⟩
  have hcells : ∀ s j, (lp s j).isCells = false := fun s j => by rw [hlp]; rfl
  obtain ⟨W0, hW0⟩ : ∃ W0, W0 = (w.alloc (.deferred (some []))).alloc (lp .ready none) := ⟨_, rfl⟩
  have kW0 : Kp nob w W0 := by rw [hW0]; exact ((Kp.refl nob w).alloc _).alloc _
  have hdef : W0.heap[B]? = some (.deferred (some [])) := by
    rw [hW0, hB]; exact kp_same ((Kp.refl nob _).alloc _) (World.alloc_heap_new w _)
  have hloop : W0.heap[B + 1]? = some (lp .ready none) := by
    have h := World.alloc_heap_new (w.alloc (.deferred (some []))) (lp .ready none)
    rw [World.size_alloc] at h; rw [hW0, hB]; exact h
  refine ⟨B + 1, [{ target := .collected B, args := #[] }], W0, { target := .fn (.func gf) lb, args := #[.func (.yield (B + 1)) #[] #[]] }, W0, gf, #[.func (.yield (B + 1)) #[] #[]] ++ lb, W0, ?_, ?_, fun f' _ => trivial, ?_, fun h => h1, ?_⟩
  · rw [hW0, hlp, hB]; exact run_enterLoop_outer _ _ _ _ _
  · simp only [resolve, hg]
    simp [go_sem]
  · simp [invoke, go_sem, eg]
  -- what is known between two rounds; what is known where a round said 'no more'
  have hbk : ∀ (A : World) (l : Nat) (o' : Obj), l = B + 1 → A.heap[B]? = some (.deferred (some [])) → (A.putObj l o').heap[B]? = some (.deferred (some [])) := fun A l o' e h =>
    (World.putObj_heap_other (by omega)).trans h
  refine (hit (B + 1) (fun i A => I i A ∧ A.heap[B + 1]? = some (lp .ready none) ∧ A.heap[B]? = some (.deferred (some []))) (fun A => Ir A ∧ A.heap[B + 1]? = some (lp .done (some .ret)) ∧ A.heap[B]? = some (.deferred (some []))) W0 kW0
    (fun i A C h k => ⟨hI i A C h.1 k, kp_same k h.2.1, kp_same k h.2.2⟩) (fun A C h k => ⟨hR A C h.1 k, kp_same k h.2.1, kp_same k h.2.2⟩) ?_ ⟨hI 0 w W0 h0 kW0, hloop, hdef⟩).mono ?_
  · rintro i k W1 ⟨hi, hl, hd⟩ hv
    have hl' := hl
    rw [hlp] at hl'
    refine ⟨fn, _, assign, body, run_yield hl' (hps i k), roundIn_of_wpIn hfn (hassign (B + 1) i k W1 _ ⟨_, run_beginRound hl' rfl, ?_⟩)⟩
    have hlt : B + 1 < W1.heap.size := (Array.getElem?_eq_some_iff.1 hl).1
    obtain ⟨W2, hW2⟩ : ∃ W2, W2 = W1.putObj (B + 1) (lp .busy none) := ⟨_, rfl⟩
    have hl2 : W2.heap[B + 1]? = some (lp .busy none) := by rw [hW2]; exact World.putObj_heap_same hlt
    have hd2 : W2.heap[B]? = some (.deferred (some [])) := by rw [hW2]; exact hbk _ _ _ rfl hd
    have k2 : K W1 W2 := by rw [hW2]; exact hKb _ _ _ _ (by omega) hl (hcells _ _)
    have hend : ∀ (j : Option Code) (s : LoopState) (W3 : World), KeepsOthers W2 W3 → s = (if j.isNone then .ready else .done) →
        W3.heap[B + 1]? = some (lp .busy none) ∧ (Instr.endRound (B + 1) j).run P W3 = .ok (.bool j.isNone) (W3.putObj (B + 1) (lp s j)) ∧ (W3.putObj (B + 1) (lp s j)).heap[B + 1]? = some (lp s j) ∧ (W3.putObj (B + 1) (lp s j)).heap[B]? = some (.deferred (some [])) := by
      intro j s W3 ko hs
      have h3 := ko.same _ _ hl2 (hcells _ _)
      have h3' := h3
      rw [hlp] at h3'
      have he := run_endRound (P := P) j h3'
      refine ⟨h3, ?_, World.putObj_heap_same (Array.getElem?_eq_some_iff.1 h3).1, hbk _ _ _ rfl (ko.same _ _ hd2 rfl)⟩
      rw [he, hlp, hs]
    have hb := hbody (B + 1) i k W2 (by rw [hW2]; exact hIo i W1 _ _ _ (by omega) hl (hcells _ _) hi) (by rw [hW2]; exact hV i k W1 _ _ _ hl (hcells _ _) hv)
    have hW2' : W2 = W1.putObj (B + 1) (.loop { state := .busy, pending := none, fn := fn, tmps := a.tmps, params := ps, assign := assign, body := body, defers := B }) := by rw [hW2, hlp]
    rw [← hW2']
    refine wpIn_mono hb ?_
    intro e a3 W3 hp
    cases e with
    | normal =>
      obtain ⟨ko, k3, hi3⟩ := hp
      obtain ⟨h3, h4, h5, h6⟩ := hend none .ready W3 ko rfl
      exact ⟨_, _, h4, .inl ⟨rfl, ⟨hIo _ W3 _ _ _ (by omega) h3 (hcells _ _) hi3, h5, h6⟩, hKt (hKt k2 k3) (hKb _ _ _ _ (by omega) h3 (hcells _ _))⟩⟩
    | ret =>
      obtain ⟨ko, hi3⟩ := hp
      obtain ⟨h3, h4, h5, h6⟩ := hend (some .ret) .done W3 ko rfl
      exact ⟨_, _, h4, .inr ⟨rfl, hRo W3 _ _ _ (by omega) h3 (hcells _ _) hi3, h5, h6⟩⟩
    | exit id => exact hp.elim
    | goto t => exact hp.elim
    | panic c => exact hp.elim
    | outgrown => exact hp.elim
  · rintro e W2 ⟨⟨v, rfl⟩, h | h⟩
    · obtain ⟨hi, hl, hd⟩ := h
      have hl' := hl
      rw [hlp] at hl'
      have he := run_endLoop (P := P) hl' (by simp)
      exact ⟨none, _, he, hdone B _ (by omega) (hIo _ W2 _ _ _ (by omega) hl (hcells _ _) hi) (hbk _ _ _ rfl hd)⟩
    · obtain ⟨hi, hl, hd⟩ := h
      have hl' := hl
      rw [hlp] at hl'
      have he := run_endLoop (P := P) hl' (by simp)
      exact ⟨some .ret, _, he, hstop B _ (by omega) (hRo W2 _ _ _ (by omega) hl (hcells _ _) hi) (hbk _ _ _ rfl hd)⟩
end Go.Proofs.Ytndkmfflpphoiaa
