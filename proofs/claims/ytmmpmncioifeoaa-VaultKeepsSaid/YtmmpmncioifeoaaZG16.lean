/- What is kept at each place, plainly; how a map keeps it. · Regions driven by hand: a call through an interface. No program is named here. · Package vault: Seal. -/
import Derived.Test.YtmmpmncioifeoaaZG08
import Derived.Test.YtmmpmncioifeoaaZG15
import Derived.Test.YtmmpmncioifeoaaZG07
import Derived.Test.YtmmpmncioifeoaaZG05
namespace Go.Proofs.Ytmmpmncioifeoaa.Vault
set_option linter.unusedVariables false
set_option linter.unusedSimpArgs false
open Go Go.RowKit Kit

/-- The text that was sealed last at a place. -/
def last {β : Type} : List (Pl × β) → Pl → Option β
  | [], _ => none
  | q :: r, p => if q.1 = p then some q.2 else last r p
/-- .. now this one. -/
def upd {β : Type} : List (Pl × β) → Pl → β → List (Pl × β)
  | [], p, t => [(p, t)]
  | q :: r, p, t => if q.1 = p then (p, t) :: r else q :: upd r p t
theorem last_upd {β : Type} (sl : List (Pl × β)) (p q : Pl) (t : β) : last (upd sl p t) q = if p = q then some t else last sl q := by
  induction sl with
  | nil => simp [upd, last]
  | cons x r ih =>
    by_cases h : x.1 = p
    · rw [upd, if_pos h, last, last, h]
      by_cases h2 : p = q <;> simp [h2]
    · rw [upd, if_neg h, last, ih, last]
      by_cases h2 : x.1 = q
      · subst h2
        rw [if_pos rfl, if_neg (fun e => h e.symm), if_pos rfl]
      · rw [if_neg h2, if_neg h2]
theorem last_none {β : Type} (sl : List (Pl × β)) (p : Pl) : last sl p = none ↔ ∀ q ∈ sl, q.1 ≠ p := by
  induction sl with
  | nil => simp [last]
  | cons x r ih =>
    rw [last]
    by_cases h : x.1 = p
    · simp [h]
    · simp [h, ih]
theorem upd_new {β : Type} (sl : List (Pl × β)) (p : Pl) (t : β) (h : last sl p = none) : upd sl p t = sl ++ [(p, t)] := by
  induction sl with
  | nil => rfl
  | cons x r ih =>
    rw [last] at h
    by_cases h2 : x.1 = p
    · simp [h2] at h
    · rw [if_neg h2] at h
      rw [upd, if_neg h2, ih h, List.cons_append]
theorem upd_old {β : Type} (sl : List (Pl × β)) (p : Pl) (t u : β) (h : last sl p = some u) : ∃ j, sl[j]? = some (p, u) ∧ upd sl p t = sl.set j (p, t) := by
  induction sl with
  | nil => cases h
  | cons x r ih =>
    rw [last] at h
    by_cases h2 : x.1 = p
    · rw [if_pos h2] at h
      obtain ⟨x1, x2⟩ := x
      simp only [Option.some.injEq] at h h2
      subst h; subst h2
      exact ⟨0, rfl, by rw [upd, if_pos rfl]; rfl⟩
    · rw [if_neg h2] at h
      obtain ⟨j, h3, h4⟩ := ih h
      exact ⟨j + 1, h3, by rw [upd, if_neg h2, h4]; rfl⟩
theorem upd_keys {β : Type} (sl : List (Pl × β)) (p : Pl) (t : β) (h : (sl.map (·.1)).Nodup) : ((upd sl p t).map (·.1)).Nodup := by
  cases hl : last sl p with
  | none =>
    rw [upd_new _ _ _ hl, List.map_append, List.nodup_append]
    refine ⟨h, by simp, fun a ha b hb => ?_⟩
    obtain ⟨q, hq, rfl⟩ := List.mem_map.1 ha
    simp only [List.map_cons, List.map_nil, List.mem_singleton] at hb
    subst hb
    exact (last_none _ _).1 hl q hq
  | some u =>
    obtain ⟨j, h1, h2⟩ := upd_old sl p t u hl
    rw [h2, List.map_set]
    have : (sl.map (·.1)).set j p = sl.map (·.1) := by
      apply List.ext_getElem?
      intro i
      rw [List.getElem?_set]
      by_cases hij : j = i
      · subst hij
        rw [if_pos rfl, List.getElem?_map, h1]
        simp [(List.getElem?_eq_some_iff.1 h1).1]
      · rw [if_neg hij]
    rw [this]; exact h
/-- A map's entries, of values dv. -/
def ents {β : Type} (dv : β → Value) (sl : List (Pl × β)) : List (Value × Value) := sl.map fun q => (pv q.1, dv q.2)
theorem ents_keys {β : Type} (dv : β → Value) (sl : List (Pl × β)) : ∀ p ∈ ents dv sl, ∃ a, p.1 = pv a := by
  intro p hp
  obtain ⟨q, _, rfl⟩ := List.mem_map.1 hp
  exact ⟨q.1, rfl⟩
theorem ents_not {β : Type} (dv : β → Value) (sl : List (Pl × β)) (p : Pl) (h : last sl p = none) : ∀ q ∈ ents dv sl, q.1 ≠ pv p := by
  intro q hq e
  obtain ⟨x, hx, rfl⟩ := List.mem_map.1 hq
  exact (last_none _ _).1 h x hx (pv_inj _ _ e)
theorem ents_at {β : Type} (dv : β → Value) (sl : List (Pl × β)) (p : Pl) (u : β) (j : Nat) (h : sl[j]? = some (p, u)) : (ents dv sl)[j]? = some (pv p, dv u) := by
  rw [ents, List.getElem?_map, h]; rfl
theorem ents_one {β : Type} (dv : β → Value) (sl : List (Pl × β)) (p : Pl) (u : β) (j : Nat) (hn : (sl.map (·.1)).Nodup) (h : sl[j]? = some (p, u)) (i : Nat) (v : Value) (hi : (ents dv sl)[i]? = some (pv p, v)) : i = j := by
  rw [ents, List.getElem?_map] at hi
  cases hx : sl[i]? with
  | none => rw [hx] at hi; cases hi
  | some x =>
    rw [hx] at hi
    simp only [Option.map_some, Option.some.injEq, Prod.mk.injEq] at hi
    have e := pv_inj _ _ hi.1
    have h1 : (sl.map (·.1))[i]? = some p := by rw [List.getElem?_map, hx, Option.map_some, e]
    have h2 : (sl.map (·.1))[j]? = some p := by rw [List.getElem?_map, h, Option.map_some]
    exact (List.getElem?_inj (List.getElem?_eq_some_iff.1 h1).1 hn).1 (h1.trans h2.symm)
/-- A store of the text that is sealed now. -/
theorem store_upd {β : Type} {P : Program} {t k e : TypeId} (K : KeyL P k pv) (ht : P.underlying t = some (.map k e)) (dv : β → Value) (w : World) (b : Nat) (sl : List (Pl × β)) (p : Pl) (x : β) (h : MapB w b (ents dv sl)) (hn : (sl.map (·.1)).Nodup) :
    ∃ w', (Instr.mapUpdate t (.map (some b)) (pv p) (dv x)).run P w = .ok () w' ∧ MapB w' b (ents dv (upd sl p x)) ∧ Kp (fun i => i = b) w w' ∧ w'.heap.size = w.heap.size := by
  cases hl : last sl p with
  | none =>
    have := h.store_new (t := t) K (ents_keys dv sl) ht p (dv x) (ents_not dv sl p hl)
    rw [upd_new _ _ _ hl]
    simpa [ents] using this
  | some u =>
    obtain ⟨j, h1, h2⟩ := upd_old sl p x u hl
    have := h.store_at (t := t) K (ents_keys dv sl) ht p (dv x) j _ (ents_at dv sl p u j h1) (ents_one dv sl p u j hn h1)
    rw [h2, ents, List.map_set]
    exact this
/-- A look-up. -/
theorem look_last {β : Type} {P : Program} {t k e : TypeId} (K : KeyL P k pv) (ht : P.underlying t = some (.map k e)) (dv : β → Value) {z : Value} (w : World) (hz : (zeroValue e).run P w = .ok z w) (b : Nat) (sl : List (Pl × β)) (p : Pl) (h : MapB w b (ents dv sl)) (hn : (sl.map (·.1)).Nodup) :
    (Instr.lookup t (.map (some b)) (pv p) true).run P w = .ok (.tuple (match last sl p with | none => #[z, .bool false] | some u => #[dv u, .bool true])) w := by
  cases hl : last sl p with
  | none => exact h.look_not K (ents_keys dv sl) ht hz p (ents_not dv sl p hl)
  | some u =>
    obtain ⟨j, h1, _⟩ := upd_old sl p u u hl
    have h2 := ents_at dv sl p u j h1
    refine h.look_has K (ents_keys dv sl) ht p (dv u) (List.mem_of_getElem? h2) fun v hv => ?_
    obtain ⟨i, hi, he⟩ := List.mem_iff_getElem.1 hv
    have h3 : (ents dv sl)[i]? = some (pv p, v) := by rw [List.getElem?_eq_getElem hi, he]
    have := ents_one dv sl p u j hn h1 i v h3
    subst this
    rw [h2] at h3
    simp only [Option.some.injEq, Prod.mk.injEq] at h3
    exact h3.2.symm
theorem upd_same {β : Type} (sl : List (Pl × β)) (p : Pl) (t : β) (h : last sl p = some t) : upd sl p t = sl := by
  induction sl with
  | nil => cases h
  | cons x r ih =>
    obtain ⟨x1, x2⟩ := x
    rw [last] at h
    by_cases h2 : x1 = p
    · rw [if_pos h2] at h
      simp only [Option.some.injEq] at h
      subst h; subst h2
      rw [upd, if_pos rfl]
    · rw [if_neg h2] at h
      rw [upd, if_neg h2, ih h]
theorem last_map {β γ : Type} (f : β → γ) (sl : List (Pl × β)) (p : Pl) : last (sl.map fun q => (q.1, f q.2)) p = (last sl p).map f := by
  induction sl with
  | nil => rfl
  | cons x r ih =>
    rw [List.map_cons, last, last]
    by_cases h : x.1 = p
    · rw [if_pos h, if_pos h]; rfl
    · rw [if_neg h, if_neg h, ih]
theorem upd_map {β γ : Type} (f : β → γ) (sl : List (Pl × β)) (p : Pl) (t : β) : upd (sl.map fun q => (q.1, f q.2)) p (f t) = (upd sl p t).map fun q => (q.1, f q.2) := by
  induction sl with
  | nil => rfl
  | cons x r ih =>
    rw [List.map_cons, upd, upd]
    by_cases h : x.1 = p
    · rw [if_pos h, if_pos h, List.map_cons]
    · rw [if_neg h, if_neg h, ih, List.map_cons]
theorem upd_mem {β : Type} (sl : List (Pl × β)) (p : Pl) (t : β) (q : Pl × β) (h : q ∈ upd sl p t) : q ∈ sl ∨ q = (p, t) := by
  induction sl with
  | nil => right; simpa [upd] using h
  | cons x r ih =>
    rw [upd] at h
    by_cases h2 : x.1 = p
    · rw [if_pos h2] at h
      rcases List.mem_cons.1 h with h | h
      · exact .inr h
      · exact .inl (List.mem_cons_of_mem _ h)
    · rw [if_neg h2] at h
      rcases List.mem_cons.1 h with h | h
      · exact .inl (by rw [h]; simp)
      · exact (ih h).imp (List.mem_cons_of_mem _) id
theorem last_mem {β : Type} (sl : List (Pl × β)) (p : Pl) (t : β) (h : last sl p = some t) : (p, t) ∈ sl := by
  induction sl with
  | nil => cases h
  | cons x r ih =>
    obtain ⟨x1, x2⟩ := x
    rw [last] at h
    by_cases h2 : x1 = p
    · rw [if_pos h2] at h
      simp only [Option.some.injEq] at h
      subst h; subst h2; simp
    · rw [if_neg h2] at h
      exact List.mem_cons_of_mem _ (ih h)
end Go.Proofs.Ytmmpmncioifeoaa.Vault
namespace Go.Proofs.Ytmmpmncioifeoaa.Kit
set_option linter.unusedVariables false
set_option linter.unusedSimpArgs false
open Go Go.RowKit

/-- A call through an interface whose dynamic type is known. -/
theorem exec_invoke {P : Program} {a : Act} {o : Oper} {w : World} (f : FuncId) (T : TypeId) (u v : Value) (r : Operand) (nm : String) (xs : Array Operand) (ts : Array TypeId) (args : List Value) (ho : o.op = .call { callee := .invoke r nm, args := xs, argTypes := ts })
    (hr : a.eval r = .iface T u) (hm : (method (P.types.size + Made.depth) T u nm).run P w = .ok (f, v) w)
    (hf : (P.funcs[f]?).any (fun fn => !(fn.name == "runtime.NumGoroutine") && fn.body.isSome) = true) (hx : xs.toList.map a.eval = args) : (execOp a.eval o).run P w = .ok (.enter f (v :: args).toArray) w := by
  subst hx
  cases hq : P.funcs[f]? with
  | none => rw [hq] at hf; cases hf
  | some fn =>
    rw [hq] at hf
    simp only [Option.any_some, Bool.and_eq_true, Bool.not_eq_true'] at hf
    obtain ⟨h1, h2⟩ := hf
    have h3 : fn.body.isNone = false := by cases hb : fn.body <;> simp_all
    have e : ∀ zs : Array Value, (callFunc f zs).run P w = .ok (.enter f zs) w := by
      intro zs
      unfold callFunc
      simp [go_sem, hq]
      simp at h1
      cases hb : fn.body with
      | none => simp [hb] at h3
      | some c => simp [h1]
    have e2 : (#[v] ++ xs.map a.eval) = (v :: List.map a.eval xs.toList).toArray := by apply Array.ext'; simp
    unfold execOp
    simp only [ho, resolve, Sem.run_bind, Sem.run_pure, Result.andThen_ok]
    unfold Go.invoke
    have e3 : (#[a.eval r] ++ xs.map a.eval)[0]? = some (.iface T u) := by rw [hr, ← Array.getElem?_toList, Array.toList_append]; rfl
    have e4 : (#[a.eval r] ++ xs.map a.eval).extract 1 (#[a.eval r] ++ xs.map a.eval).size = xs.map a.eval   := by apply Array.ext'; simp; exact List.take_of_length_le (by simp)
    simp only [e3, e4]
    unfold callMethod
    simp only [Sem.run_bind, run_program, Result.andThen_ok, hm, e2, e]
end Go.Proofs.Ytmmpmncioifeoaa.Kit
namespace Go.Proofs.Ytmmpmncioifeoaa.Vault
set_option linter.unusedVariables false
set_option linter.unusedSimpArgs false
open Go Go.RowKit Kit
open Ideal (Iw Iq Ans Arg Args Thing mk out sealT opn macT derT hashT z32)
open Sha (Pc PcsOk catP)

/-- A slice that a vault keeps: a copy of a text, in a block that is neither among F nor the vault's own cells. -/
def Kpt (F : Nat → Prop) (w : World) (v m : Nat) (x : Value) (t : List UInt8) : Prop := ∃ A c, x = .slice A t.length c ∧ t.length ≤ c ∧ c ≤ maxLen ∧ (A = none → c = 0) ∧ Row w A (bvs t) ∧ ∀ k, ab A = some k → ¬ F k ∧ k ≠ v ∧ k ≠ m ∧ k < w.heap.size
/-- The vault at v, with what was sealed last at each place; what it keeps lies in no block of F. -/
def Vs (F : Nat → Prop) (w : World) (v m : Nat) (mk : Value) (ms : List UInt8) (lim : Nat) (sl : List (Pl × List UInt8)) (cl : Nat) : Prop :=
  ∃ sx : List (Pl × (Value × List UInt8)), sl = sx.map (fun q => (q.1, q.2.2)) ∧ Vb w v m mk ms lim (ents (·.1) sx) cl ∧ (sx.map (·.1)).Nodup ∧ ∀ q ∈ sx, Kpt F w v m q.2.1 q.2.2
theorem Kpt.keep {F G : Nat → Prop} {w w2 : World} {v m : Nat} {x : Value} {t : List UInt8} (h : Kpt F w v m x t) (k : Kp G w w2) (hG : ∀ i, G i → F i ∨ i = v ∨ i = m) : Kpt F w2 v m x t := by
  obtain ⟨A, c, h1, h2, h3, h4, h5, h6⟩ := h
  refine ⟨A, c, h1, h2, h3, h4, h5.keep k (fun i e e2 => ?_), fun i e => ?_⟩
  · obtain ⟨a1, a2, a3, _⟩ := h6 i e
    rcases hG i e2 with h | h | h
    · exact a1 h
    · exact a2 h
    · exact a3 h
  · obtain ⟨a1, a2, a3, a4⟩ := h6 i e
    exact ⟨a1, a2, a3, Nat.lt_of_lt_of_le a4 k.size⟩
/-- What a world's call leaves of a vault. -/
theorem Vs.turn {F F2 : Nat → Prop} {w w2 : World} {v m : Nat} {mk : Value} {ms : List UInt8} {lim : Nat} {sl : List (Pl × List UInt8)} {cl : Nat} (h : Vs F w v m mk ms lim sl cl) (k : Kp F w w2) (hv : ¬ F v) (hm : ¬ F m) (hF : ∀ i, F2 i → F i ∨ w.heap.size ≤ i) : Vs F2 w2 v m mk ms lim sl cl := by
  obtain ⟨sx, h1, h2, h3, h4⟩ := h
  refine ⟨sx, h1, h2.keep k hv hm, h3, fun q hq => ?_⟩
  obtain ⟨A, c, a1, a2, a3, a4, a5, a6⟩ := (h4 q hq).keep k (fun i e => .inl e)
  refine ⟨A, c, a1, a2, a3, a4, a5, fun i e => ?_⟩
  obtain ⟨b1, b2, b3, b4⟩ := a6 i e
  refine ⟨fun e2 => (hF i e2).elim b1 (fun h => ?_), b2, b3, b4⟩
  obtain ⟨A', c', d1, _, _, _, _, d6⟩ := h4 q hq
  rw [a1] at d1
  injection d1 with d1
  subst d1
  have := (d6 i e).2.2.2
  omega
theorem Vs.keep {F : Nat → Prop} {w w2 : World} {v m : Nat} {mk : Value} {ms : List UInt8} {lim : Nat} {sl : List (Pl × List UInt8)} {cl : Nat} (h : Vs F w v m mk ms lim sl cl) (k : Kp F w w2) (hv : ¬ F v) (hm : ¬ F m) : Vs F w2 v m mk ms lim sl cl := h.turn k hv hm (fun i e => .inl e)
theorem Vs.keep0 {F : Nat → Prop} {w w2 : World} {v m : Nat} {mk : Value} {ms : List UInt8} {lim : Nat} {sl : List (Pl × List UInt8)} {cl : Nat} (h : Vs F w v m mk ms lim sl cl) (k : Kp nob w w2) : Vs F w2 v m mk ms lim sl cl := by
  obtain ⟨sx, h1, h2, h3, h4⟩ := h
  exact ⟨sx, h1, h2.keep0 k, h3, fun q hq => (h4 q hq).keep k (fun i e => e.elim)⟩
theorem Vs.vb {F : Nat → Prop} {w : World} {v m : Nat} {mk : Value} {ms : List UInt8} {lim : Nat} {sl : List (Pl × List UInt8)} {cl : Nat} (h : Vs F w v m mk ms lim sl cl) : ∃ ps, Vb w v m mk ms lim ps cl := by
  obtain ⟨sx, h1, h2, h3, h4⟩ := h
  exact ⟨_, h2⟩
noncomputable def Vs.pp {F : Nat → Prop} {w : World} {v m : Nat} {mk : Value} {ms : List UInt8} {lim : Nat} {sl : List (Pl × List UInt8)} {cl : Nat} (h : Vs F w v m mk ms lim sl cl) : List (Value × Value) := h.vb.choose
theorem Vs.b {F : Nat → Prop} {w : World} {v m : Nat} {mk : Value} {ms : List UInt8} {lim : Nat} {sl : List (Pl × List UInt8)} {cl : Nat} (h : Vs F w v m mk ms lim sl cl) : Vb w v m mk ms lim h.pp cl := h.vb.choose_spec
theorem Vs.lt {F : Nat → Prop} {w : World} {v m : Nat} {mk : Value} {ms : List UInt8} {lim : Nat} {sl : List (Pl × List UInt8)} {cl : Nat} (h : Vs F w v m mk ms lim sl cl) : v < w.heap.size ∧ m < w.heap.size := by
  obtain ⟨ps, h2⟩ := h.vb
  exact ⟨h2.b.lt, h2.s.lt⟩
theorem Vs.mk_ {F : Nat → Prop} {w : World} {v m : Nat} {mk : Value} {ms : List UInt8} {lim : Nat} {sl : List (Pl × List UInt8)} {cl : Nat} (h : Vs F w v m mk ms lim sl cl) : w.cell? ⟨v, 0, none⟩ = some mk := by
  obtain ⟨ps, h2⟩ := h.vb
  exact h2.mk_
theorem vs_new {F : Nat → Prop} {w : World} {v m : Nat} {mk : Value} {ms : List UInt8} {lim : Nat} (h : Vb w v m mk ms lim [] 0) : Vs F w v m mk ms lim [] 0 := ⟨[], rfl, h, List.nodup_nil, fun q hq => by cases hq⟩
/-- One clash more, or none. -/
def clash (dif : List UInt8 → List UInt8 → Bool) (sl : List (Pl × List UInt8)) (p : Pl) (t : List UInt8) : Nat := match last sl p with | none => 0 | some u => if dif u t then 1 else 0
/-- The blocks of a vault. -/
def vF (v m : Nat) : Nat → Prop := fun i => i = v ∨ i = m
/-- What 'note' does. -/
def NoteC (dif : List UInt8 → List UInt8 → Bool) (Z : World → Prop) : Prop :=
  ∀ (F : Nat → Prop) (v m : Nat) (mk : Value) (ms : List UInt8) (lim : Nat) (sl : List (Pl × List UInt8)) (cl : Nat) (p : Pl) (T : Option Addr) (n c : Nat) (text : List UInt8) (w : World), Z w → Vs F w v m mk ms lim sl cl → (∀ k, F k → k < w.heap.size) → Arg w (vF v m) T n c text → cl ≤ 1099511627776 → text.length ≤ 1048576 →
    Calls Try.prog 20 #[.pointer (some ⟨v, 0, none⟩), pv p, .slice T n c] w fun e w' => e = .returned (.tuple #[]) ∧ Vs F w' v m mk ms lim (upd sl p text) (cl + clash dif sl p text) ∧ Kp (vF v m) w w'

set_option maxHeartbeats 1000000 in
set_option maxRecDepth 100000 in
theorem seal_no (v m : Nat) (mk : Value) (ms : List UInt8) (lim : Nat) (ps : List (Value × Value)) (cl : Nat) (K : Value) (e s : Int) (T B : Value) (w0 : World) (key : List UInt8) (hK : K = .agg (bvs key).toArray)
    (hv : Vb w0 v m mk ms lim ps cl) (hr : refu lim e s ≠ 0) :
    Calls Try.prog 9 #[.pointer (some ⟨v, 0, none⟩), K, .int .i64 e, .int .i64 s, T, B] w0 fun x w' => x = .returned (.tuple #[.slice none 0 0, .int .i64 (refu lim e s)]) ∧ Kp nob w0 w' := by
  subst hK
  have HV := Lib.hid (hv.keep0 ((Kp.refl nob w0).alloc (.cells (bvs key).toArray 28)))
  obtain ⟨r, hr2⟩ : ∃ r, r = refu lim e s := ⟨_, rfl⟩
  rw [← hr2] at hr ⊢
  have HR := Lib.hid hr2
  clear hr2 hv
  go_enter Try.func9, Try.ntmps9
  go_wp2_with fail
  refine (refused_any v m mk ms lim ps cl e s _ HV.out).mono ?_
  rintro x w1 ⟨rfl, rfl⟩
  rw [← HR.out]
  go_wp2
  go_ret2
  exact ⟨rfl, (Kp.refl nob w0).alloc _⟩
set_option maxHeartbeats 1000000 in
set_option maxRecDepth 100000 in
theorem seal_nil (e s : Int) (T B : Value) (w0 : World) (key : List UInt8) :
    Calls Try.prog 9 #[.pointer none, .agg (bvs key).toArray, .int .i64 e, .int .i64 s, T, B] w0 fun x w' => x = .returned (.tuple #[.slice none 0 0, .int .i64 2]) ∧ Kp nob w0 w' := by
  go_enter Try.func9, Try.ntmps9
  go_wp2_with fail
  refine (refused_nil e s _).mono ?_
  rintro x w1 ⟨rfl, rfl⟩
  go_wp2
  go_ret2
  exact ⟨rfl, (Kp.refl nob w0).alloc _⟩
set_option maxHeartbeats 1000000 in
set_option maxRecDepth 100000 in
theorem open_nil (e s : Int) (T B : Value) (w0 : World) (key : List UInt8) :
    Calls Try.prog 10 #[.pointer none, .agg (bvs key).toArray, .int .i64 e, .int .i64 s, T, B] w0 fun x w' => x = .returned (.tuple #[.slice none 0 0, .int .i64 2]) ∧ Kp nob w0 w' := by
  go_enter Try.func10, Try.ntmps10
  go_wp2_with fail
  refine (refused_nil e s _).mono ?_
  rintro x w1 ⟨rfl, rfl⟩
  go_wp2
  go_ret2
  exact ⟨rfl, (Kp.refl nob w0).alloc _⟩
end Go.Proofs.Ytmmpmncioifeoaa.Vault
