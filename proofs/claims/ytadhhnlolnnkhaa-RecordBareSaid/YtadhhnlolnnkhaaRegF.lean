/- A region that draws its order: operations that may come up in many orders; each is proved once, whatever came up ahead of it. No program is named here. -/
import Derived.Test.YtadhhnlolnnkhaaRegW
namespace Go.Proofs.Ytadhhnlolnnkhaa.Kit
set_option linter.unusedVariables false
set_option linter.unusedSimpArgs false
open Go Go.RowKit

def upd {β : Type} (f : Nat → β) (i : Nat) (b : β) : Nat → β := fun j => if j = i then b else f j
theorem upd_same {β : Type} (f : Nat → β) (i : Nat) (b : β) : upd f i b i = b := if_pos rfl
theorem upd_other {β : Type} (f : Nat → β) (i j : Nat) (b : β) (h : j ≠ i) : upd f i b j = f j := if_neg h
/-- The act behind those operations of M that came up. -/
def putL (dst : Nat → Option Tmp) (vals : Nat → Value) (L : Nat → Bool) : List Nat → Act → Act
  | [], a => a
  | i :: M, a => putL dst vals L M (if L i then a.put (dst i) (vals i) else a)
/-- .. behind them all. -/
def putA (dst : Nat → Option Tmp) (vals : Nat → Value) : List Nat → Act → Act
  | [], a => a
  | i :: M, a => putA dst vals M (a.put (dst i) (vals i))
theorem put_size (a : Act) (d : Option Tmp) (v : Value) : (a.put d v).tmps.size = a.tmps.size := by
  cases d <;> simp [Act.put]
theorem put_eval_other (a : Act) (d : Option Tmp) (v : Value) (t : Tmp) (h : d ≠ some t) : (a.put d v).eval (.tmp t) = a.eval (.tmp t) := by
  cases d with
  | none => rfl
  | some d =>
    have : d ≠ t := fun e => h (by rw [e])
    show ((a.tmps.setIfInBounds d v).getD t undef) = a.tmps.getD t undef
    simp [Array.getD_eq_getD_getElem?, Array.getElem?_setIfInBounds, this]
theorem put_eval_same (a : Act) (v : Value) (t : Tmp) (h : t < a.tmps.size) : (a.put (some t) v).eval (.tmp t) = v := by
  show ((a.tmps.setIfInBounds t v).getD t undef) = v
  simp [Array.getD_eq_getD_getElem?, Array.getElem?_setIfInBounds, h]
/-- No two write one slot. -/
def Apart (dst : Nat → Option Tmp) (i j : Nat) : Prop := i ≠ j ∧ ∀ d, dst i = some d → dst j ≠ some d
theorem putL_size (dst : Nat → Option Tmp) (vals : Nat → Value) (L : Nat → Bool) : ∀ (M : List Nat) (a : Act), (putL dst vals L M a).tmps.size = a.tmps.size
  | [], a => rfl
  | i :: M, a => by
    rw [putL, putL_size dst vals L M]
    split
    · exact put_size _ _ _
    · rfl
theorem putL_comm (dst : Nat → Option Tmp) (vals : Nat → Value) (L : Nat → Bool) (d : Option Tmp) (v : Value) : ∀ (M : List Nat) (a : Act), (∀ j ∈ M, ∀ e, d = some e → dst j ≠ some e) → putL dst vals L M (a.put d v) = (putL dst vals L M a).put d v
  | [], a, _ => rfl
  | i :: M, a, h => by
    rw [putL, putL]
    have h1 := fun j hj => h j (List.mem_cons_of_mem _ hj)
    by_cases hL : L i = true
    · rw [if_pos hL, if_pos hL, ← putL_comm dst vals L d v M _ h1, Act.put_comm a v (vals i) (h i (by simp))]
    · rw [if_neg hL, if_neg hL]
      exact putL_comm dst vals L d v M a h1
theorem putL_upd (dst : Nat → Option Tmp) (vals : Nat → Value) (L : Nat → Bool) (i : Nat) (v : Value) (b : Bool) : ∀ (M : List Nat) (a : Act), i ∉ M → putL dst (upd vals i v) (upd L i b) M a = putL dst vals L M a
  | [], a, _ => rfl
  | j :: M, a, h => by
    have hji : j ≠ i := fun e => h (by rw [e]; simp)
    rw [putL, putL, upd_other _ _ _ _ hji, upd_other _ _ _ _ hji]
    exact putL_upd dst vals L i v b M _ (fun e => h (List.mem_cons_of_mem _ e))
theorem putL_new (dst : Nat → Option Tmp) (vals : Nat → Value) (L : Nat → Bool) (i : Nat) (v : Value) : ∀ (M : List Nat) (a : Act), M.Pairwise (Apart dst) → i ∈ M → L i = false → putL dst (upd vals i v) (upd L i true) M a = (putL dst vals L M a).put (dst i) v
  | [], a, _, h, _ => by cases h
  | j :: M, a, hp, h, hL => by
    obtain ⟨h1, h2⟩ := List.pairwise_cons.1 hp
    rw [putL, putL]
    by_cases hji : j = i
    · subst hji
      rw [upd_same, upd_same, if_pos rfl, hL, if_neg (by simp), putL_upd dst vals L j v true M _ (fun e => (h1 j e).1 rfl)]
      exact putL_comm dst vals L (dst j) v M a (fun k hk e he => (h1 k hk).2 e he)
    · rw [upd_other _ _ _ _ hji, upd_other _ _ _ _ hji]
      exact putL_new dst vals L i v M _ h2 ((List.mem_cons.1 h).resolve_left (fun e => hji e.symm)) hL
theorem putL_out (dst : Nat → Option Tmp) (vals : Nat → Value) (L : Nat → Bool) (t : Tmp) : ∀ (M : List Nat) (a : Act), (∀ j ∈ M, dst j ≠ some t) → (putL dst vals L M a).eval (.tmp t) = a.eval (.tmp t)
  | [], a, _ => rfl
  | j :: M, a, h => by
    rw [putL, putL_out dst vals L t M _ (fun k hk => h k (List.mem_cons_of_mem _ hk))]
    split
    · exact put_eval_other _ _ _ _ (h j (by simp))
    · rfl
theorem putL_in (dst : Nat → Option Tmp) (vals : Nat → Value) (L : Nat → Bool) (i : Nat) (t : Tmp) : ∀ (M : List Nat) (a : Act), M.Pairwise (Apart dst) → i ∈ M → L i = true → dst i = some t → t < a.tmps.size → (putL dst vals L M a).eval (.tmp t) = vals i
  | [], a, _, h, _, _, _ => by cases h
  | j :: M, a, hp, h, hL, hd, hs => by
    obtain ⟨h1, h2⟩ := List.pairwise_cons.1 hp
    rw [putL]
    by_cases hji : j = i
    · subst hji
      rw [if_pos hL, putL_out dst vals L t M _ (fun k hk => (h1 k hk).2 t hd), hd]
      exact put_eval_same _ _ _ hs
    · refine putL_in dst vals L i t M _ h2 ((List.mem_cons.1 h).resolve_left (fun e => hji e.symm)) hL hd ?_
      split
      · rw [put_size]; exact hs
      · exact hs
theorem putL_all (dst : Nat → Option Tmp) (vals : Nat → Value) (L : Nat → Bool) : ∀ (M : List Nat) (a : Act), (∀ i ∈ M, L i = true) → putL dst vals L M a = putA dst vals M a
  | [], a, _ => rfl
  | i :: M, a, h => by
    rw [putL, putA, if_pos (h i (by simp))]
    exact putL_all dst vals L M _ (fun j hj => h j (List.mem_cons_of_mem _ hj))
theorem putL_none (dst : Nat → Option Tmp) (vals : Nat → Value) (L : Nat → Bool) : ∀ (M : List Nat) (a : Act), (∀ i ∈ M, L i = false) → putL dst vals L M a = a
  | [], a, _ => rfl
  | i :: M, a, h => by
    rw [putL, h i (by simp), if_neg (by simp)]
    exact putL_none dst vals L M a (fun j hj => h j (List.mem_cons_of_mem _ hj))

/-- What an operation waits for, in so many steps. -/
def reach (md : Region.Mode) (ops : Array Oper) : Nat → Nat → Nat → Bool
  | 0, _, _ => false
  | k + 1, i, j => ((ops[i]?).map fun o => o.after.toList.any fun e => Region.binds md e && (e.on == j || reach md ops k e.on j)).getD false
/-- What is there ahead waits for what is there ahead. -/
def closedB (md : Region.Mode) (ops : Array Oper) (L : Nat → Bool) : Bool := (List.range ops.size).all fun i => !L i || ((ops[i]?).map fun o => o.after.all fun e => !Region.binds md e || L e.on).getD true
/-- All the rest waits for all of M; what M waits for is there ahead, or in M, ahead of it. -/
def aheadB (md : Region.Mode) (ops : Array Oper) (L : Nat → Bool) (M : List Nat) : Bool :=
  ((List.range ops.size).all fun i => L i || M.contains i || M.all fun j => reach md ops 6 i j) &&
  M.all fun i => (i < ops.size) && !L i && ((ops[i]?).map fun o => o.after.all fun e => !Region.binds md e || L e.on || (M.contains e.on && e.on < i)).getD false
def apartB (dst : Nat → Option Tmp) : List Nat → Bool
  | [] => true
  | i :: M => M.all (fun j => i != j && (match dst i, dst j with | some d, some e => d != e | _, _ => true)) && apartB dst M
theorem apart_of (dst : Nat → Option Tmp) : ∀ (M : List Nat), apartB dst M = true → M.Pairwise (Apart dst)
  | [], _ => .nil
  | i :: M, h => by
    simp only [apartB, Bool.and_eq_true, List.all_eq_true] at h
    refine .cons (fun j hj => ?_) (apart_of dst M h.2)
    have h1 := h.1 j hj
    refine ⟨by have := h1.1; simpa using this, fun d hd he => ?_⟩
    have h2 := h1.2
    rw [hd, he] at h2
    simp at h2

section
variable {P : Program} {md : Region.Mode} {ops : Array Oper} {Q : Exit → Act → World → Prop} {S : World → Prop}
def Closed (md : Region.Mode) (ops : Array Oper) (L : Nat → Bool) : Prop := ∀ (i : Nat) (o : Oper), L i = true → ops[i]? = some o → ∀ e ∈ o.after, Region.binds md e = true → L e.on = true
theorem closed_of {L : Nat → Bool} (h : closedB md ops L = true) : Closed md ops L := by
  intro i o hi ho e he hb
  have hlt := (Array.getElem?_eq_some_iff.1 ho).1
  have := List.all_eq_true.1 h i (List.mem_range.2 hlt)
  rw [hi, ho] at this
  simp only [Bool.not_true, Option.map_some, Option.getD_some, Bool.false_or] at this
  have := Array.all_eq_true_iff_forall_mem.1 this e he
  rw [hb] at this
  simpa using this
theorem reach_listed {L : Nat → Bool} (hc : Closed md ops L) : ∀ (k i j : Nat) (o : Oper), ops[i]? = some o → (∀ e ∈ o.after, Region.binds md e = true → L e.on = true) → reach md ops k i j = true → L j = true
  | 0, _, _, _, _, _, h => by simp [reach] at h
  | k + 1, i, j, o, ho, hd, h => by
    rw [reach, ho] at h
    simp only [Option.map_some, Option.getD_some, List.any_eq_true, Array.mem_toList_iff, Bool.and_eq_true, Bool.or_eq_true, beq_iff_eq] at h
    obtain ⟨e, he, hb, h | h⟩ := h
    · rw [← h]; exact hd e he hb
    · have h1 := hd e he hb
      cases hq : ops[e.on]? with
      | none =>
        cases k with
        | zero => simp [reach] at h
        | succ k => rw [reach, hq] at h; simp at h
      | some o' => exact reach_listed hc k e.on j o' hq (hc e.on o' h1 hq) h
theorem closed_set {L : Nat → Bool} (hc : Closed md ops L) (i : Nat) (o : Oper) (ho : ops[i]? = some o) (hd : ∀ e ∈ o.after, Region.binds md e = true → L e.on = true) : Closed md ops (upd L i true) := by
  intro j p hj hp e he hb
  have key : L e.on = true := by
    by_cases hji : j = i
    · subst hji
      rw [ho] at hp
      cases hp
      exact hd e he hb
    · rw [upd_other _ _ _ _ hji] at hj
      exact hc j p hj hp e he hb
  unfold upd; split
  · rfl
  · exact key
def lst (listed : Array Bool) : Nat → Bool := fun i => listed.getD i false
theorem lst_set (listed : Array Bool) (i : Nat) (h : i < listed.size) : lst (listed.setIfInBounds i true) = upd (lst listed) i true := by
  funext j
  unfold lst upd
  by_cases hji : j = i
  · subst hji; simp [Array.getD_eq_getD_getElem?, Array.getElem?_setIfInBounds, h]
  · simp [Array.getD_eq_getD_getElem?, Array.getElem?_setIfInBounds, hji, Ne.symm hji]
/-- The steps of the operations of M, each whatever came up ahead of it. -/
theorem reg_many (M : List Nat) (L0 LM : Array Bool) (a0 : Act) (w0 : World) (f : Nat) (J : (Nat → Bool) → (Nat → Value) → World → Prop) (n : Nat) (hn : ops.size = n) (hL0 : L0.size = n)
    (hap : apartB (fun i => (ops[i]?).bind (·.dst)) M = true) (hcl : closedB md ops (lst L0) = true) (hah : aheadB md ops (lst L0) M = true)
    (hsz : (M.all fun i => match (ops[i]?).bind (·.dst) with | some d => decide (d < a0.tmps.size) | none => true) = true) (hLM : M.foldl (fun l i => l.setIfInBounds i true) L0 = LM)
    (hS : ∀ L vals w, J L vals w → S w) (h0 : J (lst L0) (fun _ => undef) w0)
    (hstep : ∀ (L : Nat → Bool) (vals : Nat → Value) (w : World) (a : Act) (i : Nat) (o : Oper), i ∈ M → ops[i]? = some o → L i = false → (∀ e ∈ o.after, Region.binds md e = true → L e.on = true) → J L vals w →
      (∀ j ∈ M, L j = true → ∀ t, (ops[j]?).bind (·.dst) = some t → a.eval (.tmp t) = vals j) → (∀ t, (M.all fun j => (ops[j]?).bind (·.dst) != some t) = true → a.eval (.tmp t) = a0.eval (.tmp t)) →
      ∀ K' : Act → World → Prop, Shut (∀ v w', J (upd L i true) (upd vals i v) w' → K' (a.put o.dst v) w') → if Region.wanted o (yielded ops a.tmps) = true then Oper.wp P o a w K' Q else K' (a.put o.dst undef) w)
    (hK : ∀ (vals : Nat → Value) (L : Nat → Bool) (w : World), (∀ i ∈ M, L i = true) → J L vals w → wpAnyH P md ops Q S f LM (putA (fun i => (ops[i]?).bind (·.dst)) vals M a0) w) :
    wpAnyH P md ops Q S (f + M.length) L0 a0 w0 := by
  obtain ⟨dst, hdst⟩ : ∃ dst : Nat → Option Tmp, dst = fun i => (ops[i]?).bind (·.dst) := ⟨_, rfl⟩
  rw [← hdst] at hap hK
  have hpw := apart_of dst M hap
  simp only [aheadB, Bool.and_eq_true, List.all_eq_true] at hah
  obtain ⟨hah1, hah2⟩ := hah
  have hM : ∀ i ∈ M, i < n ∧ lst L0 i = false ∧ ∃ o, ops[i]? = some o ∧ ∀ e ∈ o.after, Region.binds md e = true → lst L0 e.on = true ∨ (e.on ∈ M ∧ e.on < i) := by
    intro i hi
    have h := hah2 i hi
    refine ⟨by rw [← hn]; exact of_decide_eq_true h.1.1, by have := h.1.2; simpa using this, ?_⟩
    cases ho : ops[i]? with
    | none => rw [ho] at h; simp at h
    | some o =>
      rw [ho] at h
      simp only [Option.map_some, Option.getD_some] at h
      refine ⟨o, rfl, fun e he hb => ?_⟩
      have h1 := Array.all_eq_true_iff_forall_mem.1 h.2 e he
      rw [hb] at h1
      simp only [Bool.not_true, Bool.false_or, Bool.or_eq_true, Bool.and_eq_true, List.contains_iff_mem, decide_eq_true_eq] at h1
      exact h1
  have hnd : M.Nodup := hpw.imp (fun h => h.1)
  -- all that comes up
  have main : ∀ (m : Nat) (listed : Array Bool) (vals : Nat → Value) (w : World), listed.size = n → (∀ i, i ∉ M → listed[i]? = L0[i]?) → Closed md ops (lst listed) → (M.filter (fun i => !lst listed i)).length = m → J (lst listed) vals w →
      wpAnyH P md ops Q S (f + m) listed (putL dst vals (lst listed) M a0) w := by
    intro m
    induction m with
    | zero =>
      intro listed vals w hs hag hc hm hJ
      have hall : ∀ i ∈ M, lst listed i = true := by
        intro i hi
        have h1 := List.eq_nil_of_length_eq_zero hm
        cases hq : lst listed i with
        | true => rfl
        | false =>
          have : i ∈ M.filter (fun i => !lst listed i) := List.mem_filter.2 ⟨hi, by rw [hq]; rfl⟩
          rw [h1] at this; cases this
      have hset : ∀ (N : List Nat) (l : Array Bool) (i : Nat), (N.foldl (fun l i => l.setIfInBounds i true) l)[i]? = if i ∈ N ∧ i < l.size then some true else l[i]? := by
        intro N
        induction N with
        | nil => intro l i; simp
        | cons k N ih =>
          intro l i
          rw [List.foldl_cons, ih, Array.size_setIfInBounds]
          by_cases h1 : i ∈ N ∧ i < l.size
          · rw [if_pos h1, if_pos ⟨List.mem_cons_of_mem _ h1.1, h1.2⟩]
          · rw [if_neg h1, Array.getElem?_setIfInBounds]
            by_cases hki : k = i
            · subst hki
              by_cases hlt : k < l.size
              · rw [if_pos rfl, if_pos hlt, if_pos ⟨by simp, hlt⟩]
              · rw [if_pos rfl, if_neg hlt, if_neg (fun e => hlt e.2), Array.getElem?_eq_none (by omega)]
            · rw [if_neg hki]
              by_cases h2 : i ∈ k :: N ∧ i < l.size
              · exact absurd ⟨(List.mem_cons.1 h2.1).resolve_left (fun e => hki e.symm), h2.2⟩ h1
              · rw [if_neg h2]
      have hl : listed = LM := by
        rw [← hLM]
        apply Array.ext_getElem?
        intro i
        rw [hset]
        by_cases hi : i ∈ M
        · have hlt := (hM i hi).1
          rw [if_pos ⟨hi, by omega⟩]
          have h2 := hall i hi
          unfold lst at h2
          rw [Array.getD_eq_getD_getElem?, Array.getElem?_eq_getElem (by omega)] at h2
          rw [Array.getElem?_eq_getElem (by omega)]
          simpa using h2
        · rw [if_neg (fun e => hi e.1)]
          exact hag i hi
      rw [putL_all dst vals _ M a0 hall, hl]
      rw [hl] at hJ hall
      exact hK vals _ w hall hJ
    | succ m ih =>
      intro listed vals w hs hag hc hm hJ
      have hprog : ∃ i ∈ M, lst listed i = false ∧ ∀ o, ops[i]? = some o → ∀ e ∈ o.after, Region.binds md e = true → lst listed e.on = true := by
        have hex : ∃ i, i ∈ M ∧ lst listed i = false := by
          cases hf : M.filter (fun i => !lst listed i) with
          | nil => rw [hf] at hm; simp at hm
          | cons i r =>
            have := List.mem_filter.1 (show i ∈ M.filter (fun i => !lst listed i) by rw [hf]; simp)
            exact ⟨i, this.1, by simpa using this.2⟩
        have hmin : ∀ k i, i ≤ k → i ∈ M → lst listed i = false → ∃ i ∈ M, lst listed i = false ∧ ∀ j ∈ M, j < i → lst listed j = true := by
          intro k
          induction k with
          | zero => intro i hik hi hl; exact ⟨i, hi, hl, fun j _ hj => by omega⟩
          | succ k ihk =>
            intro i hik hi hl
            by_cases hj : ∃ j ∈ M, j < i ∧ lst listed j = false
            · obtain ⟨j, hj1, hj2, hj3⟩ := hj
              exact ihk j (by omega) hj1 hj3
            · refine ⟨i, hi, hl, fun j hj1 hj2 => ?_⟩
              cases hq : lst listed j with
              | true => rfl
              | false => exact absurd ⟨j, hj1, hj2, hq⟩ hj
        obtain ⟨i0, h1, h2⟩ := hex
        obtain ⟨i, hi, hl, hlow⟩ := hmin i0 i0 (Nat.le_refl _) h1 h2
        refine ⟨i, hi, hl, fun o ho e he hb => ?_⟩
        obtain ⟨_, _, o', ho', hd⟩ := hM i hi
        rw [ho] at ho'; cases ho'
        rcases hd e he hb with h | ⟨h, h'⟩
        · by_cases hem : e.on ∈ M
          · have := (hM e.on hem).2.1
            rw [h] at this; cases this
          · have := hag e.on hem
            unfold lst at h ⊢
            rw [Array.getD_eq_getD_getElem?] at h ⊢
            rw [this]; exact h
        · exact hlow e.on h h'
      refine ⟨fun hr => ?_, fun i hi => ?_⟩
      · obtain ⟨i, hi, hl, hd⟩ := hprog
        obtain ⟨hlt, _, o, ho, _⟩ := hM i hi
        have : i ∈ Region.ready md ops listed := mem_ready.2 ⟨by
          unfold lst at hl
          rw [Array.getD_eq_getD_getElem?, Array.getElem?_eq_getElem (by omega)] at hl ⊢
          simpa using hl, o, ho, fun e he hb => hd o ho e he hb⟩
        rw [hr] at this; cases this
      · obtain ⟨hun, o, ho, hd⟩ := mem_ready.1 hi
        have hlt : i < listed.size := by
          rcases Nat.lt_or_ge i listed.size with h | h
          · exact h
          · rw [Array.getD_eq_getD_getElem?, Array.getElem?_eq_none h] at hun; simp at hun
        have hun' : lst listed i = false := by
          unfold lst
          rw [Array.getD_eq_getD_getElem?, Array.getElem?_eq_getElem hlt] at hun ⊢
          simpa using hun
        have hd' : ∀ e ∈ o.after, Region.binds md e = true → lst listed e.on = true := hd
        by_cases hiM : i ∈ M
        · refine wpOp_step ho (fun K' hK' => ?_)
          refine hstep (lst listed) vals w _ i o hiM ho hun' hd' hJ (fun j hj hLj t ht => ?_) (fun t ht => ?_) K' (fun v w' hJ' => hK' _ _ ⟨hS _ _ _ hJ', ?_⟩)
          · refine putL_in dst vals _ j t M a0 hpw hj hLj (by rw [hdst]; exact ht) ?_
            have := List.all_eq_true.1 hsz j hj
            rw [ht] at this
            exact of_decide_eq_true this
          · exact putL_out dst vals _ t M a0 (fun j hj => by
              have := List.all_eq_true.1 ht j hj
              rw [hdst]
              simpa using this)
          · have hdi : dst i = o.dst := by rw [hdst]; simp [ho]
            rw [← hdi, ← putL_new dst vals (lst listed) i v M a0 hpw hiM hun', ← lst_set listed i hlt]
            refine ih (listed.setIfInBounds i true) (upd vals i v) w' (by rw [Array.size_setIfInBounds]; exact hs) (fun j hj => ?_) ?_ ?_ ?_
            · rw [Array.getElem?_setIfInBounds, if_neg (fun e => hj (by rw [← e]; exact hiM))]
              exact hag j hj
            · rw [lst_set listed i hlt]; exact closed_set hc i o ho hd'
            · rw [lst_set listed i hlt]
              have hcount : ∀ N : List Nat, N.Nodup → i ∈ N → (N.filter (fun j => !lst listed j)).length = (N.filter (fun j => !upd (lst listed) i true j)).length + 1 := by
                intro N
                induction N with
                | nil => intro _ h; cases h
                | cons k N ihN =>
                  intro hnd hmem
                  obtain ⟨hk, hndN⟩ := List.nodup_cons.1 hnd
                  by_cases hki : k = i
                  · subst hki
                    have hrest : N.filter (fun j => !upd (lst listed) k true j) = N.filter (fun j => !lst listed j) := List.filter_congr (fun j hj => by rw [upd_other _ _ _ _ (fun e => hk (by rw [← e]; exact hj))])
                    rw [List.filter_cons_of_pos (by rw [hun']; rfl), List.filter_cons_of_neg (by rw [upd_same]; simp), hrest]; rfl
                  · have := ihN hndN ((List.mem_cons.1 hmem).resolve_left (fun e => hki e.symm))
                    rw [List.filter_cons, List.filter_cons, upd_other _ _ _ _ hki]
                    split
                    · rw [List.length_cons, List.length_cons, this]
                    · exact this
              have := hcount M hnd hiM
              omega
            · rw [lst_set listed i hlt]; exact hJ'
        · exfalso
          have hin : i < ops.size := (Array.getElem?_eq_some_iff.1 ho).1
          have h1 := hah1 i (List.mem_range.2 hin)
          simp only [Bool.or_eq_true, List.contains_iff_mem, List.all_eq_true] at h1
          rcases h1 with (h1 | h1) | h1
          · have := hag i hiM
            unfold lst at h1 hun'
            rw [Array.getD_eq_getD_getElem?] at h1 hun'
            rw [this, h1] at hun'; cases hun'
          · exact hiM h1
          · obtain ⟨j, hj, hl, _⟩ := hprog
            have := reach_listed hc 6 i j o ho hd' (h1 j hj)
            rw [hl] at this; cases this
  have hst : ∀ i ∈ M, lst L0 i = false := fun i hi => (hM i hi).2.1
  have := main M.length L0 (fun _ => undef) w0 hL0 (fun _ _ => rfl) (closed_of hcl) (by rw [List.filter_eq_self.2 (fun i hi => by rw [hst i hi]; rfl)]) h0
  rwa [putL_none dst _ _ M a0 hst] at this
/-- .. the slots written out. -/
def putZ (vals : Nat → Value) : List (Nat × Option Tmp) → Act → Act
  | [], a => a
  | x :: M, a => putZ vals M (a.put x.2 (vals x.1))
theorem putZ_eq (dst : Nat → Option Tmp) (vals : Nat → Value) : ∀ (M : List Nat) (a : Act), putZ vals (M.map fun i => (i, dst i)) a = putA dst vals M a
  | [], a => rfl
  | i :: M, a => by rw [List.map_cons, putZ, putA]; exact putZ_eq dst vals M _
theorem reg_many2 (M : List Nat) (Z : List (Nat × Option Tmp)) (L0 LM : Array Bool) (a0 : Act) (w0 : World) (f : Nat) (J : (Nat → Bool) → (Nat → Value) → World → Prop) (n : Nat) (hn : ops.size = n) (hL0 : L0.size = n) (hZ : M.map (fun i => (i, (ops[i]?).bind (·.dst))) = Z)
    (hap : apartB (fun i => (ops[i]?).bind (·.dst)) M = true) (hcl : closedB md ops (lst L0) = true) (hah : aheadB md ops (lst L0) M = true)
    (hsz : (M.all fun i => match (ops[i]?).bind (·.dst) with | some d => decide (d < a0.tmps.size) | none => true) = true) (hLM : M.foldl (fun l i => l.setIfInBounds i true) L0 = LM)
    (hS : ∀ L vals w, J L vals w → S w) (h0 : J (lst L0) (fun _ => undef) w0)
    (hstep : ∀ (L : Nat → Bool) (vals : Nat → Value) (w : World) (a : Act) (i : Nat) (o : Oper), i ∈ M → ops[i]? = some o → L i = false → (∀ e ∈ o.after, Region.binds md e = true → L e.on = true) → J L vals w →
      (∀ j ∈ M, L j = true → ∀ t, (ops[j]?).bind (·.dst) = some t → a.eval (.tmp t) = vals j) → (∀ t, (M.all fun j => (ops[j]?).bind (·.dst) != some t) = true → a.eval (.tmp t) = a0.eval (.tmp t)) →
      ∀ K' : Act → World → Prop, Shut (∀ v w', J (upd L i true) (upd vals i v) w' → K' (a.put o.dst v) w') → if Region.wanted o (yielded ops a.tmps) = true then Oper.wp P o a w K' Q else K' (a.put o.dst undef) w)
    (hK : ∀ (vals : Nat → Value) (L : Nat → Bool) (w : World), (∀ i ∈ M, L i = true) → J L vals w → wpAnyH P md ops Q S f LM (putZ vals Z a0) w) :
    wpAnyH P md ops Q S (f + M.length) L0 a0 w0 := by
  refine reg_many M L0 LM a0 w0 f J n hn hL0 hap hcl hah hsz hLM hS h0 hstep (fun vals L w hall hJ => ?_)
  have := hK vals L w hall hJ
  rwa [← hZ, putZ_eq] at this
end
end Go.Proofs.Ytadhhnlolnnkhaa.Kit
