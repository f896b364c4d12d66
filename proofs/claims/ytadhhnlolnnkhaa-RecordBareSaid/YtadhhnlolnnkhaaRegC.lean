/- A region that draws its order: a chain of calls, one behind the other, and one new block, which may come up anywhere beside them. No program is named here. -/
import Derived.Test.YtadhhnlolnnkhaaRegF
namespace Go.Proofs.Ytadhhnlolnnkhaa.Kit
set_option linter.unusedVariables false
set_option linter.unusedSimpArgs false
open Go Go.RowKit

theorem oper_is {ops : Array Oper} {i : Nat} {o o' : Oper} (h : ops[i]? = some o) (h' : ops[i]? = some o') : o = o' := Option.some.inj (h.symm.trans h')
/-- Each call of C waits for the one ahead of it. -/
def chainB (md : Region.Mode) (ops : Array Oper) : List Nat → Bool
  | [] => true
  | i :: C => (match C with
    | [] => true
    | j :: _ => ((ops[j]?).map fun o => o.after.any fun e => e.on == i && Region.binds md e).getD false) && chainB md ops C
theorem chain_at {md : Region.Mode} {ops : Array Oper} : ∀ (C : List Nat), chainB md ops C = true → ∀ p (h : p + 1 < C.length) o, ops[C[p + 1]]? = some o → ∃ e ∈ o.after, e.on = C[p]'(by omega) ∧ Region.binds md e = true
  | [], _, p, h, _, _ => by simp at h
  | [i], _, p, h, _, _ => by simp at h
  | i :: j :: C, hc, 0, h, o, ho => by
    simp only [chainB, Bool.and_eq_true] at hc
    have h1 := hc.1
    simp only [List.getElem_cons_zero, List.getElem_cons_succ, Nat.zero_add] at ho ⊢
    rw [ho] at h1
    simp only [Option.map_some, Option.getD_some] at h1
    obtain ⟨e, he, h2⟩ := Array.any_eq_true'.1 h1
    simp only [Bool.and_eq_true, beq_iff_eq] at h2
    exact ⟨e, he, h2.1, h2.2⟩
  | i :: j :: C, hc, p + 1, h, o, ho => by
    have hc2 : chainB md ops (j :: C) = true := by
      rw [chainB] at hc
      simp only [Bool.and_eq_true] at hc
      exact hc.2
    have := chain_at (j :: C) hc2 p (by simpa using h) o (by simpa using ho)
    simpa using this

/-- A struct is built of values. -/
theorem exec_made {P : Program} {a : Act} {o : Oper} {w w' : World} (t : TypeId) (fs : Array (Nat × Operand)) (ho : o.op = .build t fs) (ps : List (Nat × Value)) (r : Value) (hp : fs.toList.map (fun p => (p.1, a.eval p.2)) = ps) (h : (Instr.build t ps.toArray).run P w = .ok r w') : (execOp a.eval o).run P w = .ok (.value r) w' := by
  subst hp
  have e : (fs.map fun p => (p.1, a.eval p.2)) = (fs.toList.map (fun p => (p.1, a.eval p.2))).toArray := by rw [← Array.toList_map, Array.toArray_toList]
  rw [← e] at h
  simp [execOp, ho, h, Result.andThen]
/-- An operation that yields, its guard told. -/
theorem wpList_gd {P : Program} {w w' : World} {ops : Array Oper} {rest : List Oper} {o : Oper} {a : Act} {Q : Exit → Act → World → Prop} {v : Value} (hw : Region.wanted o (yielded ops a.tmps) = true)
    (hx : (execOp a.eval o).run P w = .ok (.value v) w') (h : wpList P ops Q rest (a.put o.dst v) w') : wpList P ops Q (o :: rest) a w :=
  wpList_step fun K hK => by
    rw [if_pos hw]
    unfold Oper.wp
    rw [hx]
    exact hK _ _ h
/-- What an operation's step leads to. -/
def Stp (P : Program) (Q : Exit → Act → World → Prop) (F : Nat → Prop) (o : Oper) (a : Act) (w : World) (R : Value → World → Prop) : Prop :=
  ∀ K' : Act → World → Prop, (∀ u w', R u w' → Kp F w w' → K' (a.put o.dst u) w') → Oper.wp P o a w K' Q
theorem Stp.call {P : Program} {Q : Exit → Act → World → Prop} {F : Nat → Prop} {o : Oper} {a : Act} {w : World} {R : Value → World → Prop} (g : FuncId) (args : Array Value) (hx : (execOp a.eval o).run P w = .ok (.enter g args) w)
    (hc : Calls P g args w fun e w' => ∃ u, e = .returned u ∧ R u w' ∧ Kp F w w') : Stp P Q F o a w R := by
  intro K' hK
  unfold Oper.wp
  rw [hx, Oper.upon_enter]
  refine hc.mono ?_
  rintro e w' ⟨u, rfl, h1, h2⟩
  exact hK u w' h1 h2
theorem Stp.val {P : Program} {Q : Exit → Act → World → Prop} {F : Nat → Prop} {o : Oper} {a : Act} {w w' : World} {R : Value → World → Prop} (u : Value) (hx : (execOp a.eval o).run P w = .ok (.value u) w') (hR : R u w') (hk : Kp F w w') : Stp P Q F o a w R := by
  intro K' hK
  unfold Oper.wp
  rw [hx]
  exact hK u w' hR hk

section
variable {P : Program} {md : Region.Mode} {ops : Array Oper} {Q : Exit → Act → World → Prop} {S : World → Prop}
theorem reg_chain (C : List Nat) (q : Nat) (Z : List (Nat × Option Tmp)) (L0 LM : Array Bool) (a0 : Act) (w0 : World) (f n : Nat) (T : Nat → World → Prop) (v : Nat → Value) (N : Nat) (F : Nat → Prop) (ty : TypeId) (zs : List Value)
    (hn : ops.size = n) (hL0 : L0.size = n) (hZ : (C ++ [q]).map (fun i => (i, (ops[i]?).bind (·.dst))) = Z)
    (hap : apartB (fun i => (ops[i]?).bind (·.dst)) (C ++ [q]) = true) (hcl : closedB md ops (lst L0) = true) (hah : aheadB md ops (lst L0) (C ++ [q]) = true) (hch : chainB md ops C = true)
    (hsz : ((C ++ [q]).all fun i => match (ops[i]?).bind (·.dst) with | some d => decide (d < a0.tmps.size) | none => true) = true) (hLM : (C ++ [q]).foldl (fun l i => l.setIfInBounds i true) L0 = LM)
    (hw : ((C ++ [q]).all fun i => ((ops[i]?).map fun o => o.guard.isNone).getD false) = true)
    (hS : ∀ p w, T p w → S w) (hN : ∀ p w, T p w → N ≤ w.heap.size) (hF : ∀ j, F j → j < N) (hT : ∀ p w o, T p w → T p (w.alloc o)) (h0 : T 0 w0)
    (hcall : ∀ (p : Nat) (h : p < C.length) (o : Oper) (a : Act) (w : World), ops[C[p]]? = some o → (∀ t, ((C ++ [q]).all fun j => (ops[j]?).bind (·.dst) != some t) = true → a.eval (.tmp t) = a0.eval (.tmp t)) →
      (∀ r (hr : r < p) t, (ops[C[r]]?).bind (·.dst) = some t → a.eval (.tmp t) = v r) → T p w → Stp P Q F o a w (fun u w' => u = v p ∧ T (p + 1) w'))
    (hnew : ∀ (o : Oper) (a : Act) (w : World), ops[q]? = some o → (execOp a.eval o).run P w = .ok (.value (.pointer (some ⟨w.heap.size, 0, none⟩))) (w.alloc (.cells zs.toArray ty)))
    (hK : ∀ (vals : Nat → Value) (g : Nat) (w : World), (∀ p (h : p < C.length), vals C[p] = v p) → vals q = .pointer (some ⟨g, 0, none⟩) → T C.length w → N ≤ g → Blk w g ty zs → wpAnyH P md ops Q S f LM (putZ vals Z a0) w) :
    wpAnyH P md ops Q S (f + (C ++ [q]).length) L0 a0 w0 := by
  have hpw := apart_of _ _ hap
  have hne : ∀ p r (h : p < C.length) (h' : r < C.length), p ≠ r → C[p] ≠ C[r] := by
    intro p r h h' hpr e
    rcases Nat.lt_or_ge p r with hlt | hge
    · have := List.pairwise_iff_getElem.1 hpw p r (by simp; omega) (by simp; omega) hlt
      rw [List.getElem_append_left h, List.getElem_append_left h'] at this
      exact this.1 e
    · have := List.pairwise_iff_getElem.1 hpw r p (by simp; omega) (by simp; omega) (by omega)
      rw [List.getElem_append_left h, List.getElem_append_left h'] at this
      exact this.1 e.symm
  have hq : ∀ p (h : p < C.length), C[p] ≠ q := by
    intro p h e
    have := List.pairwise_iff_getElem.1 hpw p C.length (by simp; omega) (by simp) h
    rw [List.getElem_append_left h, List.getElem_append_right (Nat.le_refl _)] at this
    exact this.1 (by simpa using e)
  have hwant : ∀ i ∈ C ++ [q], ∀ (o : Oper) (y : Nat → Option Bool), ops[i]? = some o → Region.wanted o y = true := by
    intro i hi o y ho
    have := List.all_eq_true.1 hw i hi
    rw [ho] at this
    simp only [Option.map_some, Option.getD_some, Option.isNone_iff_eq_none] at this
    unfold Region.wanted; rw [this]
  refine reg_many2 (C ++ [q]) Z L0 LM a0 w0 f (fun L vals w => ∃ k, k ≤ C.length ∧ (∀ p (h : p < C.length), L C[p] = decide (p < k)) ∧ T k w ∧ (∀ p (h : p < C.length), p < k → vals C[p] = v p) ∧ (L q = true → ∃ g, vals q = .pointer (some ⟨g, 0, none⟩) ∧ N ≤ g ∧ Blk w g ty zs))
    n hn hL0 hZ hap hcl hah hsz hLM (fun L vals w h => ?s) ?h0 ?st ?fin
  case s => obtain ⟨k, _, _, h, _⟩ := h; exact hS k w h
  case h0 =>
    simp only [aheadB, Bool.and_eq_true, List.all_eq_true] at hah
    have hL : ∀ i ∈ C ++ [q], lst L0 i = false := fun i hi => by have := (hah.2 i hi).1.2; simpa using this
    refine ⟨0, Nat.zero_le _, fun p h => by rw [hL _ (List.mem_append_left _ (List.getElem_mem h))]; simp, h0, fun p h e => by omega, fun e => ?_⟩
    rw [hL q (by simp)] at e; cases e
  case st =>
    intro L vals w a i o hi ho hL hd hJ ev e0 K' hK'
    rw [if_pos (hwant i hi o _ ho)]
    obtain ⟨k, hk, hLp, hTk, hv, hB⟩ := hJ
    rcases List.mem_append.1 hi with hi | hi
    · obtain ⟨p, hp, rfl⟩ := List.mem_iff_getElem.1 hi
      have h1 := hLp p hp
      rw [hL] at h1
      have h2 : ¬ p < k := by simpa using h1.symm
      have h3 : p = k := by
        cases p with
        | zero => omega
        | succ p =>
          obtain ⟨e, he, h4, h5⟩ := chain_at C hch p hp o ho
          have := hd e he h5
          rw [h4, hLp p (by omega)] at this
          have : p < k := by simpa using this
          omega
      subst h3
      refine hcall p hp o a w ho e0 (fun r hr t ht => ?_) hTk K' ?_
      · rw [ev _ (List.mem_append_left _ (List.getElem_mem (by omega : r < C.length))) (by rw [hLp r (by omega)]; simpa using hr) t ht]
        exact hv r (by omega) hr
      rintro _ w' ⟨rfl, hT'⟩ hk'
      refine hK'.out _ _ ⟨p + 1, by omega, fun r hr => ?_, hT', fun r hr hlt => ?_, fun e => ?_⟩
      · by_cases hrp : r = p
        · subst hrp; rw [upd_same]; simp
        · rw [upd_other _ _ _ _ (hne r p hr hp hrp), hLp r hr]
          congr 1
          exact propext ⟨fun h => by omega, fun h => by omega⟩
      · by_cases hrp : r = p
        · subst hrp; rw [upd_same]
        · rw [upd_other _ _ _ _ (hne r p hr hp hrp)]
          exact hv r hr (by omega)
      · rw [upd_other _ _ _ _ (hq p hp).symm] at e ⊢
        obtain ⟨g', h5, h6, h7⟩ := hB e
        exact ⟨g', h5, h6, h7.keep hk' (fun e => by have := hF _ e; omega)⟩
    · obtain rfl : i = q := by simpa using hi
      unfold Oper.wp
      rw [hnew o a w ho]
      refine hK'.out _ _ ⟨k, hk, fun r hr => ?_, hT k w _ hTk, fun r hr hlt => ?_, fun e => ⟨w.heap.size, by rw [upd_same], hN k w hTk, Blk.new w ty zs⟩⟩
      · rw [upd_other _ _ _ _ (hq r hr)]; exact hLp r hr
      · rw [upd_other _ _ _ _ (hq r hr)]; exact hv r hr hlt
  case fin =>
    intro vals L w hall hJ
    obtain ⟨k, hk, hLp, hTk, hv, hB⟩ := hJ
    have hkC : k = C.length := by
      rcases Nat.lt_or_ge k C.length with h | h
      · have h1 := hLp k h
        rw [hall _ (List.mem_append_left _ (List.getElem_mem h))] at h1
        simp at h1
      · omega
    subst hkC
    obtain ⟨g, h5, h6, h7⟩ := hB (hall q (by simp))
    exact hK vals g w (fun p h => hv p h h) h5 hTk h6 h7
/-- OPERATIONS THAT CHANGE NOTHING THAT WAS THERE: each needs but what it waits for; what each yields stays so. -/
theorem reg_flow (M : List Nat) (Z : List (Nat × Option Tmp)) (L0 LM : Array Bool) (a0 : Act) (w0 : World) (f n : Nat) (G : Nat → Value → World → Prop)
    (hn : ops.size = n) (hL0 : L0.size = n) (hZ : M.map (fun i => (i, (ops[i]?).bind (·.dst))) = Z)
    (hap : apartB (fun i => (ops[i]?).bind (·.dst)) M = true) (hcl : closedB md ops (lst L0) = true) (hah : aheadB md ops (lst L0) M = true)
    (hsz : (M.all fun i => match (ops[i]?).bind (·.dst) with | some d => decide (d < a0.tmps.size) | none => true) = true) (hLM : M.foldl (fun l i => l.setIfInBounds i true) L0 = LM)
    (hw : (M.all fun i => ((ops[i]?).map fun o => o.guard.isNone).getD false) = true)
    (hS : ∀ w, Kp nob w0 w → S w) (hG : ∀ i u w w', G i u w → Kp nob w w' → G i u w')
    (hstep : ∀ (i : Nat) (o : Oper) (a : Act) (w : World), i ∈ M → ops[i]? = some o → Kp nob w0 w → (∀ t, (M.all fun j => (ops[j]?).bind (·.dst) != some t) = true → a.eval (.tmp t) = a0.eval (.tmp t)) →
      (∀ (j : Nat), j ∈ M → (o.after.any fun e => e.on == j && Region.binds md e) = true → ∀ t, (ops[j]?).bind (·.dst) = some t → G j (a.eval (.tmp t)) w) → Stp P Q nob o a w (fun u w' => G i u w'))
    (hK : ∀ (vals : Nat → Value) (w : World), (∀ i ∈ M, G i (vals i) w) → Kp nob w0 w → wpAnyH P md ops Q S f LM (putZ vals Z a0) w) :
    wpAnyH P md ops Q S (f + M.length) L0 a0 w0 := by
  have hwant : ∀ i ∈ M, ∀ (o : Oper) (y : Nat → Option Bool), ops[i]? = some o → Region.wanted o y = true := by
    intro i hi o y ho
    have := List.all_eq_true.1 hw i hi
    rw [ho] at this
    simp only [Option.map_some, Option.getD_some, Option.isNone_iff_eq_none] at this
    unfold Region.wanted; rw [this]
  have hL : ∀ i ∈ M, lst L0 i = false := by
    intro i hi
    simp only [aheadB, Bool.and_eq_true, List.all_eq_true] at hah
    have := (hah.2 i hi).1.2; simpa using this
  refine reg_many2 M Z L0 LM a0 w0 f (fun L vals w => Kp nob w0 w ∧ ∀ i ∈ M, L i = true → G i (vals i) w) n hn hL0 hZ hap hcl hah hsz hLM (fun L vals w h => hS w h.1)
    ⟨Kp.refl _ _, fun i hi h => by rw [hL i hi] at h; cases h⟩ ?st (fun vals L w hall hJ => hK vals w (fun i hi => hJ.2 i hi (hall i hi)) hJ.1)
  intro L vals w a i o hi ho hLi hd hJ ev e0 K' hK'
  rw [if_pos (hwant i hi o _ ho)]
  refine hstep i o a w hi ho hJ.1 e0 (fun j hj hjd t ht => ?_) K' (fun u w' hu hk => hK'.out u w' ⟨hJ.1.trans hk (fun _ e => e.elim), fun j hj hLj => ?_⟩)
  · obtain ⟨e, he, h2⟩ := Array.any_eq_true'.1 hjd
    simp only [Bool.and_eq_true, beq_iff_eq] at h2
    have hLj : L j = true := by rw [← h2.1]; exact hd e he h2.2
    rw [ev j hj hLj t ht]
    exact hJ.2 j hj hLj
  · by_cases hji : j = i
    · subst hji; rw [upd_same]; exact hu
    · rw [upd_other _ _ _ _ hji] at hLj ⊢
      exact hG j _ _ _ (hJ.2 j hj hLj) hk
end
end Go.Proofs.Ytadhhnlolnnkhaa.Kit
