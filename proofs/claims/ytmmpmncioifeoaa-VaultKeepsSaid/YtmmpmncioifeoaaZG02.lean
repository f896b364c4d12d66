/- A map's block known by its entries, one behind the other: look-ups, stores, how many there are. Keys of any kind of which sameness can be told. No program is named here. · The words of layer 1: numbers and texts as bytes, a reader of bytes, on lists. No program is named here. · Package vault in memory: a vault's cells; its limit, its clashes; what is refused. -/
import Derived.Test.YtmmpmncioifeoaaZG00
import Derived.Test.YtmmpmncioifeoaaZG01
import Derived.Maps.OwnOps
import Derived.Laws.StructEq
import Derived.Test.YtmmpmncioifeoaaRows
import Derived.BigQuiet
import Derived.Deep.QuietTactic
import Derived.StillTailTactics
import Derived.RegionTactic
namespace Go.Proofs.Ytmmpmncioifeoaa.Kit
set_option linter.unusedVariables false
set_option linter.unusedSimpArgs false
open Go Go.RowKit

/-- A kind of keys: 'kv a' is the key of a. -/
structure KeyL (P : Program) (k : TypeId) {α : Type} (kv : α → Value) : Prop where
  check : ∀ (w : World) (em : Bool) (a : α), (Instr.checkKey em 10000 k (kv a)).run P w = .ok () w
  stays : ∀ (w : World) (a : α), (Instr.keyThatStays (kv a) (kv a)).run P w = .ok (kv a) w
  find : ∀ (w : World) (a : α) (es : List MapEntry), (∀ e ∈ es, ∃ b, e.key = kv b) →
    ((Instr.findKey k (kv a) es).run P w = .ok none w ∧ ∀ e ∈ es, e.key ≠ kv a) ∨ ∃ j e, (Instr.findKey k (kv a) es).run P w = .ok (some (j, e.val)) w ∧ es[j]? = some e ∧ e.key = kv a

/-- Keys that are asked one by one, by equality. -/
theorem find_asking {P : Program} {k : TypeId} {α : Type} [DecidableEq α] {kv : α → Value} (heq : ∀ (w : World) (a b : α), (Op.equal k (kv a) (kv b)).run P w = .ok (decide (a = b)) w) (hinj : ∀ a b, kv a = kv b → a = b)
    (w : World) (a : α) : ∀ (es : List MapEntry) (i : Nat), (∀ e ∈ es, ∃ b, e.key = kv b) →
    ((Instr.findAsking k (kv a) es i).run P w = .ok none w ∧ ∀ e ∈ es, e.key ≠ kv a) ∨ ∃ j e, (Instr.findAsking k (kv a) es i).run P w = .ok (some (i + j, e.val)) w ∧ es[j]? = some e ∧ e.key = kv a
  | [], i, _ => .inl ⟨rfl, fun e h => by cases h⟩
  | x :: es, i, h => by
    obtain ⟨b, hb⟩ := h x (by simp)
    by_cases hab : a = b
    · subst hab
      refine .inr ⟨0, x, ?_, rfl, hb⟩
      unfold Instr.findAsking
      simp [hb, heq, Result.andThen]
    · have hr : (Instr.findAsking k (kv a) (x :: es) i).run P w = (Instr.findAsking k (kv a) es (i + 1)).run P w := by
        conv => lhs; unfold Instr.findAsking
        simp [hb, heq, Result.andThen, hab]
      rcases find_asking heq hinj w a es (i + 1) (fun e he => h e (by simp [he])) with ⟨h1, h2⟩ | ⟨j, e, h1, h2, h3⟩
      · refine .inl ⟨by rw [hr, h1], fun e he => ?_⟩
        rcases List.mem_cons.1 he with rfl | he
        · rw [hb]; exact fun e => hab (hinj _ _ e).symm
        · exact h2 e he
      · exact .inr ⟨j + 1, e, by rw [hr, h1, show i + 1 + j = i + (j + 1) by omega], by simpa using h2, h3⟩

/-- The kind of keys that are structs. -/
theorem keyL_of_equal {P : Program} {k : TypeId} {α : Type} [DecidableEq α] {kv : α → Value} {fs : Array Field} (hu : P.underlying k = some (.struct fs)) (heq : ∀ (w : World) (a b : α), (Op.equal k (kv a) (kv b)).run P w = .ok (decide (a = b)) w) (hinj : ∀ a b, kv a = kv b → a = b)
    (hchk : ∀ (w : World) (em : Bool) (a : α), (Instr.checkKey em 10000 k (kv a)).run P w = .ok () w) (hbits : ∀ a, Instr.sameBits 10000 (kv a) (kv a) = true) : KeyL P k kv where
  check := hchk
  stays w a := by simp [Instr.keyThatStays, hbits]
  find w a es h := by
    have hr : (Instr.findKey k (kv a) es).run P w = (Instr.findAsking k (kv a) es 0).run P w := by
      unfold Instr.findKey
      cases es with
      | nil => simp [run_underlying hu, Instr.findNow, Instr.findAsking, Result.andThen]
      | cons x es => simp [run_underlying hu, Instr.findNow, Instr.sameNow, Result.andThen]
    rw [hr]
    rcases find_asking heq hinj w a es 0 h with h1 | ⟨j, e, h1, h2, h3⟩
    · exact .inl h1
    · exact .inr ⟨j, e, by simpa using h1, h2, h3⟩

/-- The kind of keys that are numbers of 64 bits. -/
theorem keyL_int {P : Program} {k : TypeId} (hu : P.underlying k = some (.int .i64)) : KeyL P k (fun n : Int => .int .i64 n) where
  check w em a := by unfold Instr.checkKey; simp [run_underlying hu, Result.andThen]
  stays w a := by simp [Instr.keyThatStays, Instr.sameBits]
  find w a es h := by
    have key : ∀ (es : List MapEntry) (i : Nat), (∀ e ∈ es, ∃ b, e.key = .int .i64 b) → (Instr.findNow (.int .i64) (.int .i64 a) es i = some none ∧ ∀ e ∈ es, e.key ≠ .int .i64 a) ∨ ∃ j e, Instr.findNow (.int .i64) (.int .i64 a) es i = some (some (i + j, e.val)) ∧ es[j]? = some e ∧ e.key = .int .i64 a := by
      intro es
      induction es with
      | nil => exact fun i _ => .inl ⟨rfl, fun e h => by cases h⟩
      | cons x es ih =>
        intro i h
        obtain ⟨b, hb⟩ := h x (by simp)
        by_cases hab : a = b
        · subst hab
          exact .inr ⟨0, x, by simp [Instr.findNow, Instr.sameNow, hb], rfl, hb⟩
        · have hr : Instr.findNow (.int .i64) (.int .i64 a) (x :: es) i = Instr.findNow (.int .i64) (.int .i64 a) es (i + 1) := by
            conv => lhs; unfold Instr.findNow
            have : (a == b) = false := by simpa using hab
            simp [Instr.sameNow, hb, this]
          rcases ih (i + 1) (fun e he => h e (by simp [he])) with ⟨h1, h2⟩ | ⟨j, e, h1, h2, h3⟩
          · refine .inl ⟨by rw [hr, h1], fun e he => ?_⟩
            rcases List.mem_cons.1 he with rfl | he
            · rw [hb]; intro e; injection e with _ e; exact hab e.symm
            · exact h2 e he
          · exact .inr ⟨j + 1, e, by rw [hr, h1, show i + 1 + j = i + (j + 1) by omega], by simpa using h2, h3⟩
    rcases key es 0 h with ⟨h1, h2⟩ | ⟨j, e, h1, h2, h3⟩
    · exact .inl ⟨by unfold Instr.findKey; simp [run_underlying hu, h1, Result.andThen], h2⟩
    · exact .inr ⟨j, e, by unfold Instr.findKey; simp [run_underlying hu, h1, Result.andThen], h2, h3⟩

/-- The map at b has the entries ps, in the order in which they were made. -/
def MapB (w : World) (b : Nat) (ps : List (Value × Value)) : Prop := ∃ es n, w.heap[b]? = some (.map es n) ∧ es.toList.map (fun e => (e.key, e.val)) = ps
theorem MapB.lt {w : World} {b : Nat} {ps : List (Value × Value)} (h : MapB w b ps) : b < w.heap.size := by
  obtain ⟨es, n, h, _⟩ := h
  rcases Nat.lt_or_ge b w.heap.size with hlt | hge
  · exact hlt
  · rw [Array.getElem?_eq_none hge] at h; cases h
theorem MapB.keep {F : Nat → Prop} {w w' : World} {b : Nat} {ps : List (Value × Value)} (h : MapB w b ps) (k : Kp F w w') (hf : ¬ F b) : MapB w' b ps := by
  have hb := h.lt
  obtain ⟨es, n, h, e⟩ := h
  exact ⟨es, n, (k.block b hb hf).trans h, e⟩
theorem mapB_new (w : World) : MapB (w.alloc (.map #[] 0)) w.heap.size [] := ⟨#[], 0, heap_alloc_new w _, rfl⟩

section
variable {P : Program} {t k e : TypeId} {α : Type} {kv : α → Value} {w : World} {b : Nat} {ps : List (Value × Value)}

theorem MapB.look_not (h : MapB w b ps) (K : KeyL P k kv) (hk : ∀ p ∈ ps, ∃ a, p.1 = kv a) (ht : P.underlying t = some (.map k e)) {z : Value} (hz : (zeroValue e).run P w = .ok z w) (a : α) (hn : ∀ p ∈ ps, p.1 ≠ kv a) :
    (Instr.lookup t (.map (some b)) (kv a) true).run P w = .ok (.tuple #[z, .bool false]) w := by
  obtain ⟨es, n, hb, rfl⟩ := h
  have hks : ∀ x ∈ es.toList, ∃ b, x.key = kv b := fun x hx => hk (x.key, x.val) (List.mem_map.2 ⟨x, hx, rfl⟩)
  rcases K.find w a es.toList hks with ⟨h1, h2⟩ | ⟨j, x, h1, h2, h3⟩
  · simp [Instr.lookup, run_underlying ht, MapKept.run_getObj_map hb, K.check, h1, hz, Result.andThen]
  · exact absurd h3 (hn (x.key, x.val) (List.mem_map.2 ⟨x, List.mem_of_getElem? h2, rfl⟩))
theorem MapB.look_has (h : MapB w b ps) (K : KeyL P k kv) (hk : ∀ p ∈ ps, ∃ a, p.1 = kv a) (ht : P.underlying t = some (.map k e)) (a : α) (v : Value) (hm : (kv a, v) ∈ ps) (hone : ∀ u, (kv a, u) ∈ ps → u = v) :
    (Instr.lookup t (.map (some b)) (kv a) true).run P w = .ok (.tuple #[v, .bool true]) w := by
  obtain ⟨es, n, hb, rfl⟩ := h
  have hks : ∀ x ∈ es.toList, ∃ b, x.key = kv b := fun x hx => hk (x.key, x.val) (List.mem_map.2 ⟨x, hx, rfl⟩)
  rcases K.find w a es.toList hks with ⟨h1, h2⟩ | ⟨j, x, h1, h2, h3⟩
  · obtain ⟨x, hx, e⟩ := List.mem_map.1 hm
    injection e with e1 e2
    exact absurd e1 (h2 x hx)
  · have hv := hone x.val (List.mem_map.2 ⟨x, List.mem_of_getElem? h2, by rw [h3]⟩)
    simp [Instr.lookup, run_underlying ht, MapKept.run_getObj_map hb, K.check, h1, hv, Result.andThen]
theorem MapB.store_new (h : MapB w b ps) (K : KeyL P k kv) (hk : ∀ p ∈ ps, ∃ a, p.1 = kv a) (ht : P.underlying t = some (.map k e)) (a : α) (v : Value) (hn : ∀ p ∈ ps, p.1 ≠ kv a) :
    ∃ w', (Instr.mapUpdate t (.map (some b)) (kv a) v).run P w = .ok () w' ∧ MapB w' b (ps ++ [(kv a, v)]) ∧ Kp (fun i => i = b) w w' ∧ w'.heap.size = w.heap.size := by
  have hlt := h.lt
  obtain ⟨es, n, hb, rfl⟩ := h
  have hks : ∀ x ∈ es.toList, ∃ b, x.key = kv b := fun x hx => hk (x.key, x.val) (List.mem_map.2 ⟨x, hx, rfl⟩)
  rcases K.find w a es.toList hks with ⟨h1, h2⟩ | ⟨j, x, h1, h2, h3⟩
  · refine ⟨ChangeMaps.setBlock w b (.map (es.push ⟨kv a, v, n⟩) (n + 1)), ?_, ⟨_, _, ChangeMaps.heap_setBlock_same hb _, by simp⟩, ⟨rfl, rfl, rfl, by simp [ChangeMaps.setBlock], fun i _ hi => ChangeMaps.heap_setBlock_other hb _ hi⟩, by simp [ChangeMaps.setBlock]⟩
    simp [Instr.mapUpdate, run_underlying ht, MapKept.run_getObj_map hb, K.check, h1, MapKept.run_setObj_map _ hb, Result.andThen, ChangeMaps.setBlock]
  · exact absurd h3 (hn (x.key, x.val) (List.mem_map.2 ⟨x, List.mem_of_getElem? h2, rfl⟩))
theorem MapB.store_old (h : MapB w b ps) (K : KeyL P k kv) (hk : ∀ p ∈ ps, ∃ a, p.1 = kv a) (ht : P.underlying t = some (.map k e)) (a : α) (v u : Value) (hm : (kv a, u) ∈ ps) (hone : ∀ u, (kv a, u) ∈ ps → u = v) :
    ∃ w', (Instr.mapUpdate t (.map (some b)) (kv a) v).run P w = .ok () w' ∧ MapB w' b ps ∧ Kp (fun i => i = b) w w' ∧ w'.heap.size = w.heap.size := by
  have hlt := h.lt
  obtain ⟨es, n, hb, rfl⟩ := h
  have hks : ∀ x ∈ es.toList, ∃ b, x.key = kv b := fun x hx => hk (x.key, x.val) (List.mem_map.2 ⟨x, hx, rfl⟩)
  rcases K.find w a es.toList hks with ⟨h1, h2⟩ | ⟨j, x, h1, h2, h3⟩
  · obtain ⟨x, hx, e⟩ := List.mem_map.1 hm
    injection e with e1 e2
    exact absurd e1 (h2 x hx)
  · have hv := hone x.val (List.mem_map.2 ⟨x, List.mem_of_getElem? h2, by rw [h3]⟩)
    have hes : es[j]? = some x := by rw [← Array.getElem?_toList]; exact h2
    refine ⟨ChangeMaps.setBlock w b (.map (es.modify j fun e => { e with key := kv a, val := v }) n), ?_, ⟨_, _, ChangeMaps.heap_setBlock_same hb _, ?_⟩, ⟨rfl, rfl, rfl, by simp [ChangeMaps.setBlock], fun i _ hi => ChangeMaps.heap_setBlock_other hb _ hi⟩, by simp [ChangeMaps.setBlock]⟩
    · simp [Instr.mapUpdate, run_underlying ht, MapKept.run_getObj_map hb, K.check, h1, hes, h3, K.stays, MapKept.run_setObj_map _ hb, Result.andThen, ChangeMaps.setBlock]
    · apply List.ext_getElem?
      intro i
      rw [List.getElem?_map, List.getElem?_map, Array.toList_modify, List.getElem?_modify]
      by_cases hi : j = i
      · subst hi
        simp [h2, h3, hv]
      · simp [hi]
theorem MapB.len (h : MapB w b ps) (ht : P.underlying t = some (.map k e)) (ty : TypeId) : (Builtin.len_ #[t] ty #[.map (some b)]).run P w = .ok (.int .i64 ps.length) w := by
  obtain ⟨es, n, hb, rfl⟩ := h
  simp [Builtin.len_, run_underlying ht, MapKept.run_getObj_map hb, goInt, Result.andThen]
end

/-- THE LOOK-UP AT THE OPERATION, by its equation. -/
theorem wpList_look_eq {P : Program} {w : World} {ops : Array Oper} {rest : List Oper} {o : Oper} {a : Act} {Q : Exit → Act → World → Prop} (hg : o.guard = none) (m x : Operand) (t : TypeId) (ok : Bool) (hop : o.op = Op.lookup t m x ok)
    (r : Value) (hr : (Instr.lookup t (a.eval m) (a.eval x) ok).run P w = .ok r w) (hK : wpList P ops Q rest (a.put o.dst r) w) : wpList P ops Q (o :: rest) a w := by
  refine wpList_plain hg fun K' hK' => ?_
  unfold Oper.wp
  simp [execOp, hop, hr, Result.andThen]
  exact hK' _ _ hK
/-- THE STORE AT THE OPERATION, by its equation. -/
theorem wpList_update_eq {P : Program} {w w' : World} {ops : Array Oper} {rest : List Oper} {o : Oper} {a : Act} {Q : Exit → Act → World → Prop} (hg : o.guard = none) (m x v : Operand) (t : TypeId) (hop : o.op = Op.mapUpdate t m x v)
    (hr : (Instr.mapUpdate t (a.eval m) (a.eval x) (a.eval v)).run P w = .ok () w') (hK : wpList P ops Q rest (a.put o.dst undef) w') : wpList P ops Q (o :: rest) a w := by
  refine wpList_plain hg fun K' hK' => ?_
  unfold Oper.wp
  simp [execOp, hop, hr, Result.andThen]
  exact hK' _ _ hK
end Go.Proofs.Ytmmpmncioifeoaa.Kit
namespace Go.Proofs.Ytmmpmncioifeoaa
set_option linter.unusedVariables false
set_option linter.unusedSimpArgs false
open Go Go.RowKit Kit

def num8 (n : Int) : List UInt8 := le 8 (n % 18446744073709551616).toNat
@[simp] theorem num8_length (n : Int) : (num8 n).length = 8 := by simp [num8]
def textB (s : ByteArray) : List UInt8 := if s.size < 16777216 then le 3 s.size ++ sl s else []
theorem textB_le (s : ByteArray) : (textB s).length ≤ 3 + s.size := by unfold textB; split <;> simp
def oneF (b : Nat) : Nat → Prop := fun k => k = b
def bust : List UInt8 × Bool := ([], true)
def can (s : List UInt8 × Bool) (n : Int) : Bool := decide (s.2 = false ∧ 0 ≤ n ∧ n ≤ s.1.length)
def sTake (s : List UInt8 × Bool) (n : Int) : (List UInt8 × Bool) × (List UInt8 × Bool) :=
  if can s n then ((s.1.take n.toNat, true), (s.1.drop n.toNat, false)) else (([], false), bust)
def sNum (s : List UInt8 × Bool) : Int × (List UInt8 × Bool) := (wrap64 (lowN (sTake s 8).1.1 : Nat), (sTake s 8).2)
theorem sTake_length (s : List UInt8 × Bool) (n : Int) : (sTake s n).1.1.length ≤ n.toNat := by
  unfold sTake; split <;> simp; omega
def sIn (s : List UInt8 × Bool) (lo hi : Int) : Int × (List UInt8 × Bool) := if (sNum s).1 < lo ∨ hi < (sNum s).1 then (0, bust) else sNum s
def sText (s : List UInt8 × Bool) (most : Int) : List UInt8 × (List UInt8 × Bool) :=
  if min most 65536 < (lowN (sTake s 3).1.1 : Nat) then ([], bust) else ((sTake (sTake s 3).2 (lowN (sTake s 3).1.1 : Nat)).1.1, (sTake (sTake s 3).2 (lowN (sTake s 3).1.1 : Nat)).2)

/-- Numbers and texts, there and back. -/
theorem num8_back (l : List UInt8) (h : l.length = 8) : num8 (wrap64 (lowN l : Nat)) = l := by
  have h1 := lowN_lt l
  rw [h] at h1
  have e : (wrap64 (lowN l : Nat) % 18446744073709551616).toNat = lowN l := by
    have := IntKind.wrap_i64 (lowN l : Nat)
    simp only [wrap64] at *
    omega
  unfold num8
  rw [e, ← h]
  exact le_lowN l
theorem sTake_split (s : List UInt8 × Bool) (n : Int) (h : (sTake s n).2.2 = false) : (sTake s n).1.1 ++ (sTake s n).2.1 = s.1 ∧ s.2 = false ∧ ((sTake s n).1.1.length : Int) = n := by
  unfold sTake at *
  split at h <;> rename_i hc
  · simp only [can, decide_eq_true_eq] at hc
    rw [if_pos (by simpa [can] using hc)]
    refine ⟨List.take_append_drop _ _, hc.1, ?_⟩
    simp only [List.length_take]; omega
  · simp [bust] at h
theorem i64_range {n : Int} (h : (Lit.int .i64 n).wf = true) : -9223372036854775808 ≤ n ∧ n ≤ 9223372036854775807 := by
  simp [Lit.wf, IntKind.min, IntKind.max, IntKind.signed, IntKind.bits] at h
  omega
theorem num8_forth (n : Int) (h : -9223372036854775808 ≤ n ∧ n ≤ 9223372036854775807) : wrap64 (lowN (num8 n) : Nat) = n := by
  unfold num8
  rw [lowN_le, show (256 : Nat) ^ 8 = 18446744073709551616 from rfl]
  have := IntKind.wrap_i64 (((n % 18446744073709551616).toNat % 18446744073709551616 : Nat) : Int)
  simp only [wrap64] at *
  omega

theorem sTake_app (a W : List UInt8) (n : Int) (h : (a.length : Int) = n) : sTake (a ++ W, false) n = ((a, true), (W, false)) := by
  subst h
  have hc : can (a ++ W, false) (a.length : Int) = true := by simp [can]; omega
  simp [sTake, hc]
theorem sTake_no (s : List UInt8 × Bool) (n : Int) (h : s.1.length < n ∨ s.2 = true) : sTake s n = (([], false), bust) := by
  have hc : can s n = false := by
    simp only [can, decide_eq_false_iff_not]
    rcases h with h | h
    · omega
    · simp [h]
  simp [sTake, hc]
end Go.Proofs.Ytmmpmncioifeoaa
namespace Go.Proofs.Ytmmpmncioifeoaa.Vault
set_option linter.unusedVariables false
set_option linter.unusedSimpArgs false
open Go Go.RowKit Kit

/-- A vault's cells: what makes things, the master key, the limit, the map of what was sealed, the clashes. -/
def vcells (mk : Value) (ms : List UInt8) (lim m cl : Nat) : List Value := mk :: (bvs ms ++ [.int .i64 (lim : Nat), .map (some m), .int .i64 (cl : Nat)])
theorem vcells_length (mk : Value) (ms : List UInt8) (lim m cl : Nat) (h : ms.length = 32) : (vcells mk ms lim m cl).length = 36 := by simp [vcells, bvs, h]
theorem vcells_mk (mk : Value) (ms : List UInt8) (lim m cl : Nat) : (vcells mk ms lim m cl)[0]? = some mk := rfl
theorem vcells_at (mk : Value) (ms : List UInt8) (lim m cl i : Nat) (h : ms.length = 32) : (vcells mk ms lim m cl)[33 + i]? = ([.int .i64 (lim : Nat), .map (some m), .int .i64 (cl : Nat)] : List Value)[i]? := by
  rw [vcells, show 33 + i = (32 + i) + 1 by omega, List.getElem?_cons_succ, List.getElem?_append_right (by rw [bvs_length, h]; omega), bvs_length, h]
  congr 1; omega
theorem vcells_ms (mk : Value) (ms : List UInt8) (lim m cl : Nat) (i : Nat) (v : Value) (hv : (bvs ms)[i]? = some v) : (vcells mk ms lim m cl)[1 + i]? = some v := by
  rw [vcells, Nat.add_comm, List.getElem?_cons_succ, List.getElem?_append_left (List.getElem?_eq_some_iff.1 hv).1]; exact hv
theorem vcells_cl (mk : Value) (ms : List UInt8) (lim m cl cl' : Nat) (h : ms.length = 32) : (vcells mk ms lim m cl).set 35 (.int .i64 (cl' : Nat)) = vcells mk ms lim m cl' := by
  rw [vcells, show 35 = 34 + 1 from rfl, List.set_cons_succ, List.set_append_right _ _ (by rw [bvs_length, h]; omega), bvs_length, h]; rfl

/-- A place: a key and a nonce. -/
structure Pl where
  val : List UInt8
  property : val.length = 44
deriving DecidableEq
theorem Pl.same {a b : Pl} (h : a.1 = b.1) : a = b := by
  obtain ⟨a, ha⟩ := a
  obtain ⟨b, hb⟩ := b
  simp only at h
  subst h; rfl
def pl (k n : List UInt8) (hk : k.length = 32) (hn : n.length = 12) : Pl := ⟨k ++ n, by simp [hk, hn]⟩
def pv (p : Pl) : Value := .agg (bvs p.1).toArray

/-- The vault at v: what makes things is mk; its map at m has the entries that ps tells. -/
structure Vb (w : World) (v m : Nat) (mk : Value) (ms : List UInt8) (lim : Nat) (ps : List (Value × Value)) (cl : Nat) : Prop where
  b : Blk w v 62 (vcells mk ms lim m cl)
  l : ms.length = 32
  s : MapB w m ps
  ne : v ≠ m
theorem Vb.keep {w w2 : World} {v m : Nat} {mk : Value} {ms : List UInt8} {lim : Nat} {ps : List (Value × Value)} {cl : Nat} {F : Nat → Prop} (h : Vb w v m mk ms lim ps cl) (k : Kp F w w2) (hv : ¬ F v) (hm : ¬ F m) : Vb w2 v m mk ms lim ps cl :=
  ⟨h.b.keep k hv, h.l, h.s.keep k hm, h.ne⟩
theorem Vb.keep0 {w w2 : World} {v m : Nat} {mk : Value} {ms : List UInt8} {lim : Nat} {ps : List (Value × Value)} {cl : Nat} (h : Vb w v m mk ms lim ps cl) (k : Kp nob w w2) : Vb w2 v m mk ms lim ps cl := h.keep k (fun e => e) (fun e => e)
theorem Vb.mk_ {w : World} {v m : Nat} {mk : Value} {ms : List UInt8} {lim : Nat} {ps : List (Value × Value)} {cl : Nat} (h : Vb w v m mk ms lim ps cl) : w.cell? ⟨v, 0, none⟩ = some mk := by rw [h.b.cell]; rfl
theorem Vb.lim_ {w : World} {v m : Nat} {mk : Value} {ms : List UInt8} {lim : Nat} {ps : List (Value × Value)} {cl : Nat} (h : Vb w v m mk ms lim ps cl) : w.cell? ⟨v, 33, none⟩ = some (.int .i64 (lim : Nat)) := by rw [h.b.cell]; exact vcells_at mk ms lim m cl 0 h.l
theorem Vb.map_ {w : World} {v m : Nat} {mk : Value} {ms : List UInt8} {lim : Nat} {ps : List (Value × Value)} {cl : Nat} (h : Vb w v m mk ms lim ps cl) : w.cell? ⟨v, 34, none⟩ = some (.map (some m)) := by rw [h.b.cell]; exact vcells_at mk ms lim m cl 1 h.l
theorem Vb.cl_ {w : World} {v m : Nat} {mk : Value} {ms : List UInt8} {lim : Nat} {ps : List (Value × Value)} {cl : Nat} (h : Vb w v m mk ms lim ps cl) : w.cell? ⟨v, 35, none⟩ = some (.int .i64 (cl : Nat)) := by rw [h.b.cell]; exact vcells_at mk ms lim m cl 2 h.l
theorem Vb.ms_ {w : World} {v m : Nat} {mk : Value} {ms : List UInt8} {lim : Nat} {ps : List (Value × Value)} {cl : Nat} (h : Vb w v m mk ms lim ps cl) : w.rangeAt v 1 (bvs ms) := fun j u hu => by rw [h.b.cell]; exact vcells_ms mk ms lim m cl j u hu

set_option maxRecDepth 100000 in
theorem limit_any (v m : Nat) (mk : Value) (ms : List UInt8) (lim : Nat) (ps : List (Value × Value)) (cl : Nat) (w : World) (h : Vb w v m mk ms lim ps cl) :
    Calls Try.prog 11 #[.pointer (some ⟨v, 0, none⟩)] w fun e w' => e = .returned (.int .i64 (lim : Nat)) ∧ w = w' := by
  have hc := h.lim_
  clear h
  go_enter Try.func11, Try.ntmps11
  go_wp2
  go_ret
  exact ⟨rfl, rfl⟩
set_option maxRecDepth 100000 in
theorem limit_nil (w : World) : Calls Try.prog 11 #[.pointer none] w fun e w' => e = .returned (.int .i64 0) ∧ w = w' := by
  go_enter Try.func11, Try.ntmps11
  go_wp2
  go_ret
  exact ⟨rfl, rfl⟩
/-- Why nothing is sealed, or opened, with a number of an epoch. -/
def refu (lim : Nat) (e s : Int) : Int := if e < 0 ∨ s < 0 then 1 else if 4294967296 ≤ e ∨ (lim : Int) ≤ s then 10 else 0
set_option maxHeartbeats 1000000 in
set_option maxRecDepth 100000 in
theorem refused_any (v m : Nat) (mk : Value) (ms : List UInt8) (lim : Nat) (ps : List (Value × Value)) (cl : Nat) (e s : Int) (w : World) (h : Vb w v m mk ms lim ps cl) :
    Calls Try.prog 18 #[.pointer (some ⟨v, 0, none⟩), .int .i64 e, .int .i64 s] w fun x w' => x = .returned (.int .i64 (refu lim e s)) ∧ w = w' := by
  have hc := h.lim_
  clear h
  obtain ⟨L, hL⟩ : ∃ L : Int, L = (lim : Int) := ⟨_, rfl⟩
  unfold refu
  rw [← hL] at hc ⊢
  clear hL
  by_cases h1 : e < 0
  · rw [if_pos (.inl h1)]
    go_enter Try.func18, Try.ntmps18
    go_wp2
    go_ret
    exact ⟨rfl, rfl⟩
  · by_cases h2 : s < 0
    · rw [if_pos (.inr h2)]
      go_enter Try.func18, Try.ntmps18
      go_wp2
      go_ret
      exact ⟨rfl, rfl⟩
    · rw [if_neg (by rintro (h | h) <;> contradiction)]
      by_cases h3 : 4294967296 ≤ e
      · rw [if_pos (.inl h3)]
        go_enter Try.func18, Try.ntmps18
        go_wp2
        go_ret
        exact ⟨rfl, rfl⟩
      · by_cases h4 : L ≤ s
        · rw [if_pos (.inr h4)]
          go_enter Try.func18, Try.ntmps18
          go_wp2
          go_ret
          exact ⟨rfl, rfl⟩
        · rw [if_neg (by rintro (h | h) <;> contradiction)]
          go_enter Try.func18, Try.ntmps18
          go_wp2
          go_ret
          exact ⟨rfl, rfl⟩
set_option maxRecDepth 100000 in
theorem refused_nil (e s : Int) (w : World) : Calls Try.prog 18 #[.pointer none, .int .i64 e, .int .i64 s] w fun x w' => x = .returned (.int .i64 2) ∧ w = w' := by
  go_enter Try.func18, Try.ntmps18
  go_wp2
  go_ret
  exact ⟨rfl, rfl⟩
end Go.Proofs.Ytmmpmncioifeoaa.Vault
