/- A map's block known by its entries, one behind the other: look-ups, stores, how many there are. Keys of any kind of which sameness can be told. No program is named here. -/
import Derived.Test.YtadhhnlolnnkhaaKit
import Derived.Maps.OwnOps
import Derived.Laws.StructEq
namespace Go.Proofs.Ytadhhnlolnnkhaa.Kit
set_option linter.unusedVariables false
set_option linter.unusedSimpArgs false
open Go Go.RowKit

/-- A kind of keys: 'kv a' is the key of a. -/
structure KeyL (P : Program) (k : TypeId) {α : Type} (kv : α → Value) : Prop where
  check : ∀ (w : World) (em : Bool) (a : α), (Instr.checkKey em 10000 k (kv a)).run P w = .ok () w
  stays : ∀ (w : World) (a : α), (Instr.keyThatStays (kv a) (kv a)).run P w = .ok (kv a) w
  find : ∀ (w : World) (a : α) (es : List MapEntry), (∀ e ∈ es, ∃ b, e.key = kv b) →
    ((Instr.findKey k (kv a) es).run P w = .ok none w ∧ ∀ e ∈ es, e.key ≠ kv a) ∨ ∃ j e, (Instr.findKey k (kv a) es).run P w = .ok (some (j, e.val)) w ∧ es[j]? = some e ∧ e.key = kv a

/-- Keys that are asked one by one, by equality. -/
theorem find_asking {P : Program} {k : TypeId} {α : Type} [DecidableEq α] {kv : α → Value} (heq : ∀ (w : World) (a b : α), (Op.equal k (kv a) (kv b)).run P w = .ok (decide (a = b)) w) (hinj : ∀ a b, kv a = kv b → a = b)
    (w : World) (a : α) : ∀ (es : List MapEntry) (i : Nat), (∀ e ∈ es, ∃ b, e.key = kv b) →
    ((Instr.findAsking k (kv a) es i).run P w = .ok none w ∧ ∀ e ∈ es, e.key ≠ kv a) ∨ ∃ j e, (Instr.findAsking k (kv a) es i).run P w = .ok (some (i + j, e.val)) w ∧ es[j]? = some e ∧ e.key = kv a
  | [], i, _ => .inl ⟨rfl, fun e h => by cases h⟩
  | x :: es, i, h => by
    obtain ⟨b, hb⟩ := h x (by simp)
    by_cases hab : a = b
    · subst hab
      refine .inr ⟨0, x, ?_, rfl, hb⟩
      unfold Instr.findAsking
      simp [hb, heq, Result.andThen]
    · have hr : (Instr.findAsking k (kv a) (x :: es) i).run P w = (Instr.findAsking k (kv a) es (i + 1)).run P w := by
        conv => lhs; unfold Instr.findAsking
        simp [hb, heq, Result.andThen, hab]
      rcases find_asking heq hinj w a es (i + 1) (fun e he => h e (by simp [he])) with ⟨h1, h2⟩ | ⟨j, e, h1, h2, h3⟩
      · refine .inl ⟨by rw [hr, h1], fun e he => ?_⟩
        rcases List.mem_cons.1 he with rfl | he
        · rw [hb]; exact fun e => hab (hinj _ _ e).symm
        · exact h2 e he
      · exact .inr ⟨j + 1, e, by rw [hr, h1, show i + 1 + j = i + (j + 1) by omega], by simpa using h2, h3⟩

/-- The kind of keys that are structs. -/
theorem keyL_of_equal {P : Program} {k : TypeId} {α : Type} [DecidableEq α] {kv : α → Value} {fs : Array Field} (hu : P.underlying k = some (.struct fs)) (heq : ∀ (w : World) (a b : α), (Op.equal k (kv a) (kv b)).run P w = .ok (decide (a = b)) w) (hinj : ∀ a b, kv a = kv b → a = b)
    (hchk : ∀ (w : World) (em : Bool) (a : α), (Instr.checkKey em 10000 k (kv a)).run P w = .ok () w) (hbits : ∀ a, Instr.sameBits 10000 (kv a) (kv a) = true) : KeyL P k kv where
  check := hchk
  stays w a := by simp [Instr.keyThatStays, hbits]
  find w a es h := by
    have hr : (Instr.findKey k (kv a) es).run P w = (Instr.findAsking k (kv a) es 0).run P w := by
      unfold Instr.findKey
      cases es with
      | nil => simp [run_underlying hu, Instr.findNow, Instr.findAsking, Result.andThen]
      | cons x es => simp [run_underlying hu, Instr.findNow, Instr.sameNow, Result.andThen]
    rw [hr]
    rcases find_asking heq hinj w a es 0 h with h1 | ⟨j, e, h1, h2, h3⟩
    · exact .inl h1
    · exact .inr ⟨j, e, by simpa using h1, h2, h3⟩

/-- The kind of keys that are numbers of 64 bits. -/
theorem keyL_int {P : Program} {k : TypeId} (hu : P.underlying k = some (.int .i64)) : KeyL P k (fun n : Int => .int .i64 n) where
  check w em a := by unfold Instr.checkKey; simp [run_underlying hu, Result.andThen]
  stays w a := by simp [Instr.keyThatStays, Instr.sameBits]
  find w a es h := by
    have key : ∀ (es : List MapEntry) (i : Nat), (∀ e ∈ es, ∃ b, e.key = .int .i64 b) → (Instr.findNow (.int .i64) (.int .i64 a) es i = some none ∧ ∀ e ∈ es, e.key ≠ .int .i64 a) ∨ ∃ j e, Instr.findNow (.int .i64) (.int .i64 a) es i = some (some (i + j, e.val)) ∧ es[j]? = some e ∧ e.key = .int .i64 a := by
      intro es
      induction es with
      | nil => exact fun i _ => .inl ⟨rfl, fun e h => by cases h⟩
      | cons x es ih =>
        intro i h
        obtain ⟨b, hb⟩ := h x (by simp)
        by_cases hab : a = b
        · subst hab
          exact .inr ⟨0, x, by simp [Instr.findNow, Instr.sameNow, hb], rfl, hb⟩
        · have hr : Instr.findNow (.int .i64) (.int .i64 a) (x :: es) i = Instr.findNow (.int .i64) (.int .i64 a) es (i + 1) := by
            conv => lhs; unfold Instr.findNow
            have : (a == b) = false := by simpa using hab
            simp [Instr.sameNow, hb, this]
          rcases ih (i + 1) (fun e he => h e (by simp [he])) with ⟨h1, h2⟩ | ⟨j, e, h1, h2, h3⟩
          · refine .inl ⟨by rw [hr, h1], fun e he => ?_⟩
            rcases List.mem_cons.1 he with rfl | he
            · rw [hb]; intro e; injection e with _ e; exact hab e.symm
            · exact h2 e he
          · exact .inr ⟨j + 1, e, by rw [hr, h1, show i + 1 + j = i + (j + 1) by omega], by simpa using h2, h3⟩
    rcases key es 0 h with ⟨h1, h2⟩ | ⟨j, e, h1, h2, h3⟩
    · exact .inl ⟨by unfold Instr.findKey; simp [run_underlying hu, h1, Result.andThen], h2⟩
    · exact .inr ⟨j, e, by unfold Instr.findKey; simp [run_underlying hu, h1, Result.andThen], h2, h3⟩

/-- The map at b has the entries ps, in the order in which they were made. -/
def MapB (w : World) (b : Nat) (ps : List (Value × Value)) : Prop := ∃ es n, w.heap[b]? = some (.map es n) ∧ es.toList.map (fun e => (e.key, e.val)) = ps
theorem MapB.lt {w : World} {b : Nat} {ps : List (Value × Value)} (h : MapB w b ps) : b < w.heap.size := by
  obtain ⟨es, n, h, _⟩ := h
  rcases Nat.lt_or_ge b w.heap.size with hlt | hge
  · exact hlt
  · rw [Array.getElem?_eq_none hge] at h; cases h
theorem MapB.keep {F : Nat → Prop} {w w' : World} {b : Nat} {ps : List (Value × Value)} (h : MapB w b ps) (k : Kp F w w') (hf : ¬ F b) : MapB w' b ps := by
  have hb := h.lt
  obtain ⟨es, n, h, e⟩ := h
  exact ⟨es, n, (k.block b hb hf).trans h, e⟩
theorem mapB_new (w : World) : MapB (w.alloc (.map #[] 0)) w.heap.size [] := ⟨#[], 0, heap_alloc_new w _, rfl⟩

section
variable {P : Program} {t k e : TypeId} {α : Type} {kv : α → Value} {w : World} {b : Nat} {ps : List (Value × Value)}

theorem MapB.look_not (h : MapB w b ps) (K : KeyL P k kv) (hk : ∀ p ∈ ps, ∃ a, p.1 = kv a) (ht : P.underlying t = some (.map k e)) {z : Value} (hz : (zeroValue e).run P w = .ok z w) (a : α) (hn : ∀ p ∈ ps, p.1 ≠ kv a) :
    (Instr.lookup t (.map (some b)) (kv a) true).run P w = .ok (.tuple #[z, .bool false]) w := by
  obtain ⟨es, n, hb, rfl⟩ := h
  have hks : ∀ x ∈ es.toList, ∃ b, x.key = kv b := fun x hx => hk (x.key, x.val) (List.mem_map.2 ⟨x, hx, rfl⟩)
  rcases K.find w a es.toList hks with ⟨h1, h2⟩ | ⟨j, x, h1, h2, h3⟩
  · simp [Instr.lookup, run_underlying ht, MapKept.run_getObj_map hb, K.check, h1, hz, Result.andThen]
  · exact absurd h3 (hn (x.key, x.val) (List.mem_map.2 ⟨x, List.mem_of_getElem? h2, rfl⟩))
theorem MapB.look_has (h : MapB w b ps) (K : KeyL P k kv) (hk : ∀ p ∈ ps, ∃ a, p.1 = kv a) (ht : P.underlying t = some (.map k e)) (a : α) (v : Value) (hm : (kv a, v) ∈ ps) (hone : ∀ u, (kv a, u) ∈ ps → u = v) :
    (Instr.lookup t (.map (some b)) (kv a) true).run P w = .ok (.tuple #[v, .bool true]) w := by
  obtain ⟨es, n, hb, rfl⟩ := h
  have hks : ∀ x ∈ es.toList, ∃ b, x.key = kv b := fun x hx => hk (x.key, x.val) (List.mem_map.2 ⟨x, hx, rfl⟩)
  rcases K.find w a es.toList hks with ⟨h1, h2⟩ | ⟨j, x, h1, h2, h3⟩
  · obtain ⟨x, hx, e⟩ := List.mem_map.1 hm
    injection e with e1 e2
    exact absurd e1 (h2 x hx)
  · have hv := hone x.val (List.mem_map.2 ⟨x, List.mem_of_getElem? h2, by rw [h3]⟩)
    simp [Instr.lookup, run_underlying ht, MapKept.run_getObj_map hb, K.check, h1, hv, Result.andThen]
theorem MapB.store_new (h : MapB w b ps) (K : KeyL P k kv) (hk : ∀ p ∈ ps, ∃ a, p.1 = kv a) (ht : P.underlying t = some (.map k e)) (a : α) (v : Value) (hn : ∀ p ∈ ps, p.1 ≠ kv a) :
    ∃ w', (Instr.mapUpdate t (.map (some b)) (kv a) v).run P w = .ok () w' ∧ MapB w' b (ps ++ [(kv a, v)]) ∧ Kp (fun i => i = b) w w' ∧ w'.heap.size = w.heap.size := by
  have hlt := h.lt
  obtain ⟨es, n, hb, rfl⟩ := h
  have hks : ∀ x ∈ es.toList, ∃ b, x.key = kv b := fun x hx => hk (x.key, x.val) (List.mem_map.2 ⟨x, hx, rfl⟩)
  rcases K.find w a es.toList hks with ⟨h1, h2⟩ | ⟨j, x, h1, h2, h3⟩
  · refine ⟨ChangeMaps.setBlock w b (.map (es.push ⟨kv a, v, n⟩) (n + 1)), ?_, ⟨_, _, ChangeMaps.heap_setBlock_same hb _, by simp⟩, ⟨rfl, rfl, rfl, by simp [ChangeMaps.setBlock], fun i _ hi => ChangeMaps.heap_setBlock_other hb _ hi⟩, by simp [ChangeMaps.setBlock]⟩
    simp [Instr.mapUpdate, run_underlying ht, MapKept.run_getObj_map hb, K.check, h1, MapKept.run_setObj_map _ hb, Result.andThen, ChangeMaps.setBlock]
  · exact absurd h3 (hn (x.key, x.val) (List.mem_map.2 ⟨x, List.mem_of_getElem? h2, rfl⟩))
theorem MapB.store_old (h : MapB w b ps) (K : KeyL P k kv) (hk : ∀ p ∈ ps, ∃ a, p.1 = kv a) (ht : P.underlying t = some (.map k e)) (a : α) (v u : Value) (hm : (kv a, u) ∈ ps) (hone : ∀ u, (kv a, u) ∈ ps → u = v) :
    ∃ w', (Instr.mapUpdate t (.map (some b)) (kv a) v).run P w = .ok () w' ∧ MapB w' b ps ∧ Kp (fun i => i = b) w w' ∧ w'.heap.size = w.heap.size := by
  have hlt := h.lt
  obtain ⟨es, n, hb, rfl⟩ := h
  have hks : ∀ x ∈ es.toList, ∃ b, x.key = kv b := fun x hx => hk (x.key, x.val) (List.mem_map.2 ⟨x, hx, rfl⟩)
  rcases K.find w a es.toList hks with ⟨h1, h2⟩ | ⟨j, x, h1, h2, h3⟩
  · obtain ⟨x, hx, e⟩ := List.mem_map.1 hm
    injection e with e1 e2
    exact absurd e1 (h2 x hx)
  · have hv := hone x.val (List.mem_map.2 ⟨x, List.mem_of_getElem? h2, by rw [h3]⟩)
    have hes : es[j]? = some x := by rw [← Array.getElem?_toList]; exact h2
    refine ⟨ChangeMaps.setBlock w b (.map (es.modify j fun e => { e with key := kv a, val := v }) n), ?_, ⟨_, _, ChangeMaps.heap_setBlock_same hb _, ?_⟩, ⟨rfl, rfl, rfl, by simp [ChangeMaps.setBlock], fun i _ hi => ChangeMaps.heap_setBlock_other hb _ hi⟩, by simp [ChangeMaps.setBlock]⟩
    · simp [Instr.mapUpdate, run_underlying ht, MapKept.run_getObj_map hb, K.check, h1, hes, h3, K.stays, MapKept.run_setObj_map _ hb, Result.andThen, ChangeMaps.setBlock]
    · apply List.ext_getElem?
      intro i
      rw [List.getElem?_map, List.getElem?_map, Array.toList_modify, List.getElem?_modify]
      by_cases hi : j = i
      · subst hi
        simp [h2, h3, hv]
      · simp [hi]
theorem MapB.len (h : MapB w b ps) (ht : P.underlying t = some (.map k e)) (ty : TypeId) : (Builtin.len_ #[t] ty #[.map (some b)]).run P w = .ok (.int .i64 ps.length) w := by
  obtain ⟨es, n, hb, rfl⟩ := h
  simp [Builtin.len_, run_underlying ht, MapKept.run_getObj_map hb, goInt, Result.andThen]
end

/-- THE LOOK-UP AT THE OPERATION, by its equation. -/
theorem wpList_look_eq {P : Program} {w : World} {ops : Array Oper} {rest : List Oper} {o : Oper} {a : Act} {Q : Exit → Act → World → Prop} (hg : o.guard = none) (m x : Operand) (t : TypeId) (ok : Bool) (hop : o.op = Op.lookup t m x ok)
    (r : Value) (hr : (Instr.lookup t (a.eval m) (a.eval x) ok).run P w = .ok r w) (hK : wpList P ops Q rest (a.put o.dst r) w) : wpList P ops Q (o :: rest) a w := by
  refine wpList_plain hg fun K' hK' => ?_
  unfold Oper.wp
  simp [execOp, hop, hr, Result.andThen]
  exact hK' _ _ hK
/-- THE STORE AT THE OPERATION, by its equation. -/
theorem wpList_update_eq {P : Program} {w w' : World} {ops : Array Oper} {rest : List Oper} {o : Oper} {a : Act} {Q : Exit → Act → World → Prop} (hg : o.guard = none) (m x v : Operand) (t : TypeId) (hop : o.op = Op.mapUpdate t m x v)
    (hr : (Instr.mapUpdate t (a.eval m) (a.eval x) (a.eval v)).run P w = .ok () w') (hK : wpList P ops Q rest (a.put o.dst undef) w') : wpList P ops Q (o :: rest) a w := by
  refine wpList_plain hg fun K' hK' => ?_
  unfold Oper.wp
  simp [execOp, hop, hr, Result.andThen]
  exact hK' _ _ hK
end Go.Proofs.Ytadhhnlolnnkhaa.Kit
