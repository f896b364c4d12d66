/- A region that draws its order, its head of reads and its tail of calls and stores: steps that simp does not make. No program is named here. · A thing's cells; things, one behind the other. · The code's ideal world in memory: what has which number, what is opened; a thing's number. -/
import Derived.Test.YtmmpmncioifeoaaZG00
import Derived.Test.YtmmpmncioifeoaaZG09
import Derived.Test.YtmmpmncioifeoaaZG07
import Derived.Test.YtmmpmncioifeoaaZG01
import Derived.Test.YtmmpmncioifeoaaZG08
import Derived.StillTailTactics
import Derived.Test.YtmmpmncioifeoaaRows
import Derived.BigQuiet
import Derived.Deep.QuietTactic
import Derived.RegionTactic
import Derived.Laws.StructEq
namespace Go.Proofs.Ytmmpmncioifeoaa.Kit
set_option linter.unusedVariables false
set_option linter.unusedSimpArgs false
open Go Go.RowKit
/-- A whole value loaded. -/
theorem wpStill_load {P : Program} {ops : Array Oper} {w : World} {Q : Act → Prop} {a : Act} {o : Oper} {rest : List Oper} (hgd : o.guard = none) (ty : TypeId) (x : Operand) (ho : o.op = .load ty x) (p v : Value) (hx : a.eval x = p)
    (hr : (Instr.loadAt ty p).run P w = .ok v w) (h : wpStill P ops w Q rest (a.put o.dst v)) : wpStill P ops w Q (o :: rest) a :=
  wpStill_step fun K hK => by
    rw [if_pos (by simp [Region.wanted, hgd])]
    have e : (execOp a.eval o).run P w = .ok (.value v) w := by
      unfold execOp
      simp only [ho, hx, Sem.run_bind, hr, Result.andThen_ok, Sem.run_pure]
    unfold Oper.still
    rw [e, Oper.stillUpon_value]
    exact hK _ h
end Go.Proofs.Ytmmpmncioifeoaa.Kit
namespace Go.Proofs.Ytmmpmncioifeoaa.Ideal
set_option linter.unusedVariables false
set_option linter.unusedSimpArgs false
open Go Go.RowKit Kit

theorem u8i_under : Try.prog.underlying 29 = some (.slice 5) := by kernel_rfl
/-- A thing's cells; those of things, one behind the other. -/
def tc (t : Thing) : List Value := [bv t.kind, .string (str t.a), .string (str t.b), .string (str t.c), .string (str t.d)]
def tcs (ts : List Thing) : List Value := ts.flatMap tc
theorem tc_length (t : Thing) : (tc t).length = 5 := rfl
theorem tc_one (t : Thing) : ∀ u ∈ tc t, u.oneCell' = true := by
  intro u hu
  simp only [tc, List.mem_cons, List.not_mem_nil, or_false] at hu
  rcases hu with rfl | rfl | rfl | rfl | rfl <;> rfl
theorem tcs_length (ts : List Thing) : (tcs ts).length = ts.length * 5 := by
  induction ts with
  | nil => rfl
  | cons t ts ih => rw [tcs, List.flatMap_cons, List.length_append, tc_length, ← tcs, ih, List.length_cons]; omega
theorem tcs_snoc (ts : List Thing) (t : Thing) : tcs (ts ++ [t]) = tcs ts ++ tc t := by simp [tcs]
theorem tcs_at (ts : List Thing) (i k : Nat) (t : Thing) (h : ts[i]? = some t) (hk : k < 5) : (tcs ts)[i * 5 + k]? = (tc t)[k]? := by
  induction ts generalizing i with
  | nil => cases h
  | cons a ts ih =>
    rw [tcs, List.flatMap_cons]
    cases i with
    | zero =>
      simp only [List.getElem?_cons_zero, Option.some.injEq] at h
      subst h
      rw [List.getElem?_append_left (by rw [tc_length]; omega)]; congr 1; omega
    | succ i =>
      rw [List.getElem?_append_right (by rw [tc_length]; omega), tc_length]
      rw [List.getElem?_cons_succ] at h
      rw [show (i + 1) * 5 + k - 5 = i * 5 + k by omega]
      exact ih i h
theorem bv_beq (a b : UInt8) : (((a.toNat : Int)) == (b.toNat : Int)) = (a == b) := by
  rw [Bool.eq_iff_iff, beq_iff_eq, beq_iff_eq, ← UInt8.toNat_inj]; omega
theorem thing_beq (t u : Thing) : decide (t = u) = (t.kind == u.kind && (t.a == u.a && (t.b == u.b && (t.c == u.c && t.d == u.d)))) := by
  obtain ⟨k, a, b, c, d⟩ := t
  obtain ⟨k', a', b', c', d'⟩ := u
  rw [Bool.eq_iff_iff]
  simp
end Go.Proofs.Ytmmpmncioifeoaa.Ideal
namespace Go.Proofs.Ytmmpmncioifeoaa.Ideal
set_option linter.unusedVariables false
set_option linter.unusedSimpArgs false
open Go Go.RowKit Kit

/-- A thing as the code keeps it: its value. (Its parts: kind, key, nonce, what is known besides, text.) -/
def cv (t : Thing) : Value := .agg (tc t).toArray
theorem cv_inj (a b : Thing) (h : cv a = cv b) : a = b := by
  obtain ⟨k, x, y, z, d⟩ := a
  obtain ⟨k', x', y', z', d'⟩ := b
  have h2 : tc ⟨k, x, y, z, d⟩ = tc ⟨k', x', y', z', d'⟩ := by
    have := congrArg (fun v => match v with | Value.agg cs => cs.toList | _ => []) h
    simpa [cv] using this
  simp only [tc, bv, List.cons.injEq, Value.string.injEq, and_true, str_inj, Value.int.injEq, true_and] at h2
  obtain ⟨h0, h1, h2, h3, h4⟩ := h2
  rw [h1, h2, h3, h4, UInt8.toNat_inj.1 (by omega : k.toNat = k'.toNat)]
theorem beq_str (a : List UInt8) : (str a == str a) = true := by show ByteArray.beq _ _ = true; simp [ByteArray.beq, str]
theorem cthing_under : Try.prog.underlying 101 = some (.struct (Try.prog.fieldsOf 101)) := by kernel_rfl
set_option maxRecDepth 100000 in
theorem eqC (t u : Thing) (w : World) : (Op.equalIn 10000 101 (cv t) (cv u)).run Try.prog w = .ok (decide (t = u)) w := by
  unfold cv
  rw [run_equalIn_struct w 9999 101 _ _ (by kernel_rfl) (by kernel_rfl), thing_beq]
  simp only [tc, bv]
  go_simp
  have hk : ((t.kind.toNat : Int) = (u.kind.toNat : Int)) = (t.kind = u.kind) := propext ⟨fun h => UInt8.toNat_inj.1 (by omega), fun h => by rw [h]⟩
  simp only [str_toList, hk]
  by_cases h1 : t.kind = u.kind
  · by_cases h2 : t.a = u.a
    · by_cases h3 : t.b = u.b
      · by_cases h4 : t.c = u.c
        · by_cases h5 : t.d = u.d <;> simp [h1, h2, h3, h4, h5]
        · simp [h1, h2, h3, h4]
      · simp [h1, h2, h3]
    · simp [h1, h2]
  · simp [h1]
theorem thing_keys : KeyL Try.prog 101 cv :=
  keyL_of_equal cthing_under (fun w a b => eqC a b w) cv_inj (fun w em a => by kernel_rfl) (fun a => by simp [cv, tc, bv, Instr.sameBits, beq_str])
theorem int_keys : KeyL Try.prog 3 (fun n : Int => .int .i64 n) := keyL_int (by kernel_rfl)

/-- What the code's numbers have. -/
def nps (cs : List Thing) : List (Value × Value) := cs.zipIdx.map fun p => (cv p.1, .int .i64 ((p.2 : Int) + 1))
theorem nps_length (cs : List Thing) : (nps cs).length = cs.length := by simp [nps]
theorem nps_keys (cs : List Thing) : ∀ p ∈ nps cs, ∃ a, p.1 = cv a := by
  intro p hp
  obtain ⟨q, _, rfl⟩ := List.mem_map.1 hp
  exact ⟨q.1, rfl⟩
theorem nps_mem (cs : List Thing) (i : Nat) (t : Thing) (h : cs[i]? = some t) : (cv t, Value.int .i64 ((i : Int) + 1)) ∈ nps cs :=
  List.mem_map.2 ⟨(t, i), List.mem_zipIdx_iff_getElem?.2 h, rfl⟩
theorem nps_one (cs : List Thing) (i : Nat) (t : Thing) (h : cs[i]? = some t) (hn : cs.Nodup) (u : Value) (hu : (cv t, u) ∈ nps cs) : u = .int .i64 ((i : Int) + 1) := by
  obtain ⟨q, hq, e⟩ := List.mem_map.1 hu
  injection e with e1 e2
  have hq := List.mem_zipIdx_iff_getElem?.1 hq
  rw [cv_inj _ _ e1] at hq
  have hi := (List.getElem?_eq_some_iff.1 h).1
  have := (List.getElem?_inj hi hn).1 (h.trans hq.symm)
  rw [← e2, this]
theorem nps_not (cs : List Thing) (t : Thing) (h : t ∉ cs) : ∀ p ∈ nps cs, p.1 ≠ cv t := by
  intro p hp e
  obtain ⟨q, hq, rfl⟩ := List.mem_map.1 hp
  have hq := List.mem_zipIdx_iff_getElem?.1 hq
  exact h (by rw [← cv_inj _ _ e]; exact List.mem_of_getElem? hq)
theorem nps_snoc (cs : List Thing) (t : Thing) : nps (cs ++ [t]) = nps cs ++ [(cv t, .int .i64 ((cs.length : Int) + 1))] := by
  simp [nps, List.zipIdx_append]
/-- What the code opens: seals, by their numbers; those of U are there. -/
structure Sps (cs : List Thing) (U : Thing → Prop) (ps : List (Value × Value)) : Prop where
  all : ∀ q ∈ ps, ∃ (i : Nat) (t : Thing), cs[i]? = some t ∧ t.kind = 83 ∧ q = (.int .i64 ((i : Int) + 1), cv t)
  has : ∀ (i : Nat) (t : Thing), cs[i]? = some t → t.kind = 83 → U t → (.int .i64 ((i : Int) + 1), cv t) ∈ ps
theorem Sps.keys {cs : List Thing} {U : Thing → Prop} {ps : List (Value × Value)} (h : Sps cs U ps) : ∀ p ∈ ps, ∃ a : Int, p.1 = .int .i64 a := fun p hp => by
  obtain ⟨i, t, _, _, rfl⟩ := h.all p hp
  exact ⟨_, rfl⟩
theorem Sps.one {cs : List Thing} {U : Thing → Prop} {ps : List (Value × Value)} (h : Sps cs U ps) (i : Nat) (t : Thing) (hi : cs[i]? = some t) (u : Value) (hu : (Value.int .i64 ((i : Int) + 1), u) ∈ ps) : u = cv t := by
  obtain ⟨j, x, hj, _, e⟩ := h.all _ hu
  injection e with e1 e2
  injection e1 with _ e1
  have : i = j := by omega
  subst this
  rw [hi] at hj
  rw [e2, Option.some.inj hj]
/-- The code's world at p, its numbers at bn, what it opens at bs. -/
structure Cx (w : World) (p bn bs : Nat) (cs : List Thing) (U : Thing → Prop) : Prop where
  b : Blk w p 49 [.map (some bn), .map (some bs)]
  n : MapB w bn (nps cs)
  s : ∃ ps, MapB w bs ps ∧ Sps cs U ps
  ne : p ≠ bn ∧ p ≠ bs ∧ bn ≠ bs
  nd : cs.Nodup
  sm : ∀ t ∈ cs, t.kind = 83 → t.d.length ≤ 1048576
def Cf (p bn bs : Nat) : Nat → Prop := fun k => k = p ∨ k = bn ∨ k = bs
theorem Cx.keep {w w2 : World} {p bn bs : Nat} {G : Nat → Prop} {cs : List Thing} {U : Thing → Prop} (h : Cx w p bn bs cs U) (k : Kp G w w2) (hF : ∀ i, Cf p bn bs i → ¬ G i) : Cx w2 p bn bs cs U :=
  ⟨h.b.keep k (hF _ (.inl rfl)), h.n.keep k (hF _ (.inr (.inl rfl))), let ⟨ps, h1, h2⟩ := h.s; ⟨ps, h1.keep k (hF _ (.inr (.inr rfl))), h2⟩, h.ne, h.nd, h.sm⟩
theorem Cx.keep0 {w w2 : World} {p bn bs : Nat} {cs : List Thing} {U : Thing → Prop} (h : Cx w p bn bs cs U) (k : Kp nob w w2) : Cx w2 p bn bs cs U := h.keep k (fun _ _ e => e)
theorem Cx.lt {w : World} {p bn bs : Nat} {cs : List Thing} {U : Thing → Prop} (h : Cx w p bn bs cs U) : ∀ k, Cf p bn bs k → k < w.heap.size := by
  rintro k (rfl | rfl | rfl)
  · exact h.b.lt
  · exact h.n.lt
  · obtain ⟨ps, h1, _⟩ := h.s; exact h1.lt
theorem Cx.imp {w : World} {p bn bs : Nat} {cs : List Thing} {U V : Thing → Prop} (h : Cx w p bn bs cs U) (hV : ∀ t ∈ cs, t.kind = 83 → V t → U t) : Cx w p bn bs cs V :=
  ⟨h.b, h.n, let ⟨ps, h1, h2⟩ := h.s; ⟨ps, h1, h2.all, fun i t hi hk hv => h2.has i t hi hk (hV t (List.mem_of_getElem? hi) hk hv)⟩, h.ne, h.nd, h.sm⟩

theorem num_of_at (cs : List Thing) (t : Thing) (i : Nat) (hn : cs.Nodup) (h : cs[i]? = some t) : num cs t = i + 1 := by
  have hm : num cs t ≠ 0 := fun e => (num_none cs t).1 e (List.mem_of_getElem? h)
  have h2 := num_at cs t hm
  have := (List.getElem?_inj (List.getElem?_eq_some_iff.1 h).1 hn).1 (h.trans h2.symm)
  omega
end Go.Proofs.Ytmmpmncioifeoaa.Ideal
