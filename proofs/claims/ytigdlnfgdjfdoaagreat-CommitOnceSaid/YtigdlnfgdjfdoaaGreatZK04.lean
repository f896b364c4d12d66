/- Lemmas: RegU RegV MapO RegW RegF RegC RegVt. -/
import Derived.Test.YtigdlnfgdjfdoaaGreatZK03
import Derived.Maps.OwnOps
import Derived.Laws.StructEq
set_option maxHeartbeats 4000000
set_option maxRecDepth 100000
set_option linter.unusedVariables false
set_option linter.unusedSimpArgs false
namespace Go.Proofs.YtigdlnfgdjfdoaaGreat
namespace Kit
open Go Go.RowKit
section
variable {P : Program} {md : Region.Mode} {ops : Array Oper} {Q : Exit → Act → World → Prop} {S : World → Prop}
end
theorem exec_func {P : Program} {a : Act} {o : Oper} {w : World} (f : FuncId) (xs : Array Operand) (ts : Array TypeId) (args : List Value) (ho : o.op = .call { callee := .value (.func f), args := xs, argTypes := ts })
    (hf : (P.funcs[f]?).any (fun fn => !(fn.name == "runtime.NumGoroutine") && fn.body.isSome) = true) (hx : xs.toList.map a.eval = args) : (execOp a.eval o).run P w = .ok (.enter f args.toArray) w := by
 subst hx
 cases hq : P.funcs[f]? with
 | none => rw [hq] at hf; cases hf
 | some fn =>
   rw [hq] at hf
   simp only [Option.any_some, Bool.and_eq_true, Bool.not_eq_true'] at hf
   obtain ⟨h1, h2⟩ := hf
   have h3 : fn.body.isNone = false := by cases hb : fn.body <;> simp_all
   have e : (callFunc f (xs.map a.eval)).run P w = .ok (.enter f (xs.map a.eval)) w := by
    unfold callFunc
    simp [go_sem, hq]
    simp at h1
    cases hb : fn.body with
    | none => simp [hb] at h3
    | some c => simp [h1]
   have e2 : (List.map a.eval xs.toList).toArray = xs.map a.eval := by apply Array.ext'; simp
   rw [e2]
   unfold execOp
   simp [ho, resolve, go_sem]
   exact e
structure KeyL (P : Program) (k : TypeId) {α : Type} (kv : α → Value) : Prop where
 check : ∀ (w : World) (em : Bool) (a : α), (Instr.checkKey em 10000 k (kv a)).run P w = .ok () w
 stays : ∀ (w : World) (a : α), (Instr.keyThatStays (kv a) (kv a)).run P w = .ok (kv a) w
 find : ∀ (w : World) (a : α) (es : List MapEntry), (∀ e ∈ es, ∃ b, e.key = kv b) →
  ((Instr.findKey k (kv a) es).run P w = .ok none w ∧ ∀ e ∈ es, e.key ≠ kv a) ∨ ∃ j e, (Instr.findKey k (kv a) es).run P w = .ok (some (j, e.val)) w ∧ es[j]? = some e ∧ e.key = kv a
theorem find_asking {P : Program} {k : TypeId} {α : Type} [DecidableEq α] {kv : α → Value} (heq : ∀ (w : World) (a b : α), (Op.equal k (kv a) (kv b)).run P w = .ok (decide (a = b)) w) (hinj : ∀ a b, kv a = kv b → a = b)
    (w : World) (a : α) : ∀ (es : List MapEntry) (i : Nat), (∀ e ∈ es, ∃ b, e.key = kv b) →
    ((Instr.findAsking k (kv a) es i).run P w = .ok none w ∧ ∀ e ∈ es, e.key ≠ kv a) ∨ ∃ j e, (Instr.findAsking k (kv a) es i).run P w = .ok (some (i + j, e.val)) w ∧ es[j]? = some e ∧ e.key = kv a
 | [], i, _ => .inl ⟨rfl, fun e h => by cases h⟩
 | x :: es, i, h => by
   obtain ⟨b, hb⟩ := h x (by simp)
   by_cases hab : a = b
   · subst hab
     refine .inr ⟨0, x, ?_, rfl, hb⟩
     unfold Instr.findAsking
     simp [hb, heq, Result.andThen]
   · have hr : (Instr.findAsking k (kv a) (x :: es) i).run P w = (Instr.findAsking k (kv a) es (i + 1)).run P w := by
       conv => lhs; unfold Instr.findAsking
       simp [hb, heq, Result.andThen, hab]
     rcases find_asking heq hinj w a es (i + 1) (fun e he => h e (by simp [he])) with ⟨h1, h2⟩ | ⟨j, e, h1, h2, h3⟩
     · refine .inl ⟨by rw [hr, h1], fun e he => ?_⟩
       rcases List.mem_cons.1 he with rfl | he
       · rw [hb]; exact fun e => hab (hinj _ _ e).symm
       · exact h2 e he
     · exact .inr ⟨j + 1, e, by rw [hr, h1, show i + 1 + j = i + (j + 1) by omega], by simpa using h2, h3⟩
theorem keyL_of_equal {P : Program} {k : TypeId} {α : Type} [DecidableEq α] {kv : α → Value} {fs : Array Field} (hu : P.underlying k = some (.struct fs)) (heq : ∀ (w : World) (a b : α), (Op.equal k (kv a) (kv b)).run P w = .ok (decide (a = b)) w) (hinj : ∀ a b, kv a = kv b → a = b)
    (hchk : ∀ (w : World) (em : Bool) (a : α), (Instr.checkKey em 10000 k (kv a)).run P w = .ok () w) (hbits : ∀ a, Instr.sameBits 10000 (kv a) (kv a) = true) : KeyL P k kv where
 check := hchk
 stays w a := by simp [Instr.keyThatStays, hbits]
 find w a es h := by
  have hr : (Instr.findKey k (kv a) es).run P w = (Instr.findAsking k (kv a) es 0).run P w := by
   unfold Instr.findKey
   cases es with
   | nil => simp [run_underlying hu, Instr.findNow, Instr.findAsking, Result.andThen]
   | cons x es => simp [run_underlying hu, Instr.findNow, Instr.sameNow, Result.andThen]
  rw [hr]
  rcases find_asking heq hinj w a es 0 h with h1 | ⟨j, e, h1, h2, h3⟩
  · exact .inl h1
  · exact .inr ⟨j, e, by simpa using h1, h2, h3⟩
theorem keyL_int {P : Program} {k : TypeId} (hu : P.underlying k = some (.int .i64)) : KeyL P k (fun n : Int => .int .i64 n) where
 check w em a := by unfold Instr.checkKey; simp [run_underlying hu, Result.andThen]
 stays w a := by simp [Instr.keyThatStays, Instr.sameBits]
 find w a es h := by
  have key : ∀ (es : List MapEntry) (i : Nat), (∀ e ∈ es, ∃ b, e.key = .int .i64 b) → (Instr.findNow (.int .i64) (.int .i64 a) es i = some none ∧ ∀ e ∈ es, e.key ≠ .int .i64 a) ∨ ∃ j e, Instr.findNow (.int .i64) (.int .i64 a) es i = some (some (i + j, e.val)) ∧ es[j]? = some e ∧ e.key = .int .i64 a := by
   intro es
   induction es with
   | nil => exact fun i _ => .inl ⟨rfl, fun e h => by cases h⟩
   | cons x es ih =>
     intro i h
     obtain ⟨b, hb⟩ := h x (by simp)
     by_cases hab : a = b
     · subst hab
       exact .inr ⟨0, x, by simp [Instr.findNow, Instr.sameNow, hb], rfl, hb⟩
     · have hr : Instr.findNow (.int .i64) (.int .i64 a) (x :: es) i = Instr.findNow (.int .i64) (.int .i64 a) es (i + 1) := by
         conv => lhs; unfold Instr.findNow
         have : (a == b) = false := by simpa using hab
         simp [Instr.sameNow, hb, this]
       rcases ih (i + 1) (fun e he => h e (by simp [he])) with ⟨h1, h2⟩ | ⟨j, e, h1, h2, h3⟩
       · refine .inl ⟨by rw [hr, h1], fun e he => ?_⟩
         rcases List.mem_cons.1 he with rfl | he
         · rw [hb]; intro e; injection e with _ e; exact hab e.symm
         · exact h2 e he
       · exact .inr ⟨j + 1, e, by rw [hr, h1, show i + 1 + j = i + (j + 1) by omega], by simpa using h2, h3⟩
  rcases key es 0 h with ⟨h1, h2⟩ | ⟨j, e, h1, h2, h3⟩
  · exact .inl ⟨by unfold Instr.findKey; simp [run_underlying hu, h1, Result.andThen], h2⟩
  · exact .inr ⟨j, e, by unfold Instr.findKey; simp [run_underlying hu, h1, Result.andThen], h2, h3⟩
def MapB (w : World) (b : Nat) (ps : List (Value × Value)) : Prop := ∃ es n, w.heap[b]? = some (.map es n) ∧ es.toList.map (fun e => (e.key, e.val)) = ps
theorem MapB.lt {w : World} {b : Nat} {ps : List (Value × Value)} (h : MapB w b ps) : b < w.heap.size := by
 obtain ⟨es, n, h, _⟩ := h
 rcases Nat.lt_or_ge b w.heap.size with hlt | hge
 · exact hlt
 · rw [Array.getElem?_eq_none hge] at h; cases h
theorem MapB.keep {F : Nat → Prop} {w w' : World} {b : Nat} {ps : List (Value × Value)} (h : MapB w b ps) (k : Kp F w w') (hf : ¬ F b) : MapB w' b ps := by
 have hb := h.lt
 obtain ⟨es, n, h, e⟩ := h
 exact ⟨es, n, (k.block b hb hf).trans h, e⟩
theorem mapB_new (w : World) : MapB (w.alloc (.map #[] 0)) w.heap.size [] := ⟨#[], 0, heap_alloc_new w _, rfl⟩
section
variable {P : Program} {t k e : TypeId} {α : Type} {kv : α → Value} {w : World} {b : Nat} {ps : List (Value × Value)}
theorem MapB.look_not (h : MapB w b ps) (K : KeyL P k kv) (hk : ∀ p ∈ ps, ∃ a, p.1 = kv a) (ht : P.underlying t = some (.map k e)) {z : Value} (hz : (zeroValue e).run P w = .ok z w) (a : α) (hn : ∀ p ∈ ps, p.1 ≠ kv a) :
    (Instr.lookup t (.map (some b)) (kv a) true).run P w = .ok (.tuple #[z, .bool false]) w := by
 obtain ⟨es, n, hb, rfl⟩ := h
 have hks : ∀ x ∈ es.toList, ∃ b, x.key = kv b := fun x hx => hk (x.key, x.val) (List.mem_map.2 ⟨x, hx, rfl⟩)
 rcases K.find w a es.toList hks with ⟨h1, h2⟩ | ⟨j, x, h1, h2, h3⟩
 · simp [Instr.lookup, run_underlying ht, MapKept.run_getObj_map hb, K.check, h1, hz, Result.andThen]
 · exact absurd h3 (hn (x.key, x.val) (List.mem_map.2 ⟨x, List.mem_of_getElem? h2, rfl⟩))
theorem MapB.look_has (h : MapB w b ps) (K : KeyL P k kv) (hk : ∀ p ∈ ps, ∃ a, p.1 = kv a) (ht : P.underlying t = some (.map k e)) (a : α) (v : Value) (hm : (kv a, v) ∈ ps) (hone : ∀ u, (kv a, u) ∈ ps → u = v) :
    (Instr.lookup t (.map (some b)) (kv a) true).run P w = .ok (.tuple #[v, .bool true]) w := by
 obtain ⟨es, n, hb, rfl⟩ := h
 have hks : ∀ x ∈ es.toList, ∃ b, x.key = kv b := fun x hx => hk (x.key, x.val) (List.mem_map.2 ⟨x, hx, rfl⟩)
 rcases K.find w a es.toList hks with ⟨h1, h2⟩ | ⟨j, x, h1, h2, h3⟩
 · obtain ⟨x, hx, e⟩ := List.mem_map.1 hm
   injection e with e1 e2
   exact absurd e1 (h2 x hx)
 · have hv := hone x.val (List.mem_map.2 ⟨x, List.mem_of_getElem? h2, by rw [h3]⟩)
   simp [Instr.lookup, run_underlying ht, MapKept.run_getObj_map hb, K.check, h1, hv, Result.andThen]
theorem MapB.store_new (h : MapB w b ps) (K : KeyL P k kv) (hk : ∀ p ∈ ps, ∃ a, p.1 = kv a) (ht : P.underlying t = some (.map k e)) (a : α) (v : Value) (hn : ∀ p ∈ ps, p.1 ≠ kv a) :
    ∃ w', (Instr.mapUpdate t (.map (some b)) (kv a) v).run P w = .ok () w' ∧ MapB w' b (ps ++ [(kv a, v)]) ∧ Kp (fun i => i = b) w w' ∧ w'.heap.size = w.heap.size := by
 have hlt := h.lt
 obtain ⟨es, n, hb, rfl⟩ := h
 have hks : ∀ x ∈ es.toList, ∃ b, x.key = kv b := fun x hx => hk (x.key, x.val) (List.mem_map.2 ⟨x, hx, rfl⟩)
 rcases K.find w a es.toList hks with ⟨h1, h2⟩ | ⟨j, x, h1, h2, h3⟩
 · refine ⟨ChangeMaps.setBlock w b (.map (es.push ⟨kv a, v, n⟩) (n + 1)), ?_, ⟨_, _, ChangeMaps.heap_setBlock_same hb _, by simp⟩, ⟨rfl, rfl, rfl, by simp [ChangeMaps.setBlock], fun i _ hi => ChangeMaps.heap_setBlock_other hb _ hi⟩, by simp [ChangeMaps.setBlock]⟩
   simp [Instr.mapUpdate, run_underlying ht, MapKept.run_getObj_map hb, K.check, h1, MapKept.run_setObj_map _ hb, Result.andThen, ChangeMaps.setBlock]
 · exact absurd h3 (hn (x.key, x.val) (List.mem_map.2 ⟨x, List.mem_of_getElem? h2, rfl⟩))
theorem MapB.store_old (h : MapB w b ps) (K : KeyL P k kv) (hk : ∀ p ∈ ps, ∃ a, p.1 = kv a) (ht : P.underlying t = some (.map k e)) (a : α) (v u : Value) (hm : (kv a, u) ∈ ps) (hone : ∀ u, (kv a, u) ∈ ps → u = v) :
    ∃ w', (Instr.mapUpdate t (.map (some b)) (kv a) v).run P w = .ok () w' ∧ MapB w' b ps ∧ Kp (fun i => i = b) w w' ∧ w'.heap.size = w.heap.size := by
 have hlt := h.lt
 obtain ⟨es, n, hb, rfl⟩ := h
 have hks : ∀ x ∈ es.toList, ∃ b, x.key = kv b := fun x hx => hk (x.key, x.val) (List.mem_map.2 ⟨x, hx, rfl⟩)
 rcases K.find w a es.toList hks with ⟨h1, h2⟩ | ⟨j, x, h1, h2, h3⟩
 · obtain ⟨x, hx, e⟩ := List.mem_map.1 hm
   injection e with e1 e2
   exact absurd e1 (h2 x hx)
 · have hv := hone x.val (List.mem_map.2 ⟨x, List.mem_of_getElem? h2, by rw [h3]⟩)
   have hes : es[j]? = some x := by rw [← Array.getElem?_toList]; exact h2
   refine ⟨ChangeMaps.setBlock w b (.map (es.modify j fun e => { e with key := kv a, val := v }) n), ?_, ⟨_, _, ChangeMaps.heap_setBlock_same hb _, ?_⟩, ⟨rfl, rfl, rfl, by simp [ChangeMaps.setBlock], fun i _ hi => ChangeMaps.heap_setBlock_other hb _ hi⟩, by simp [ChangeMaps.setBlock]⟩
   · simp [Instr.mapUpdate, run_underlying ht, MapKept.run_getObj_map hb, K.check, h1, hes, h3, K.stays, MapKept.run_setObj_map _ hb, Result.andThen, ChangeMaps.setBlock]
   · apply List.ext_getElem?
     intro i
     rw [List.getElem?_map, List.getElem?_map, Array.toList_modify, List.getElem?_modify]
     by_cases hi : j = i
     · subst hi
       simp [h2, h3, hv]
     · simp [hi]
theorem MapB.len (h : MapB w b ps) (ht : P.underlying t = some (.map k e)) (ty : TypeId) : (Builtin.len_ #[t] ty #[.map (some b)]).run P w = .ok (.int .i64 ps.length) w := by
 obtain ⟨es, n, hb, rfl⟩ := h
 simp [Builtin.len_, run_underlying ht, MapKept.run_getObj_map hb, goInt, Result.andThen]
end
theorem wpList_look_eq {P : Program} {w : World} {ops : Array Oper} {rest : List Oper} {o : Oper} {a : Act} {Q : Exit → Act → World → Prop} (hg : o.guard = none) (m x : Operand) (t : TypeId) (ok : Bool) (hop : o.op = Op.lookup t m x ok)
    (r : Value) (hr : (Instr.lookup t (a.eval m) (a.eval x) ok).run P w = .ok r w) (hK : wpList P ops Q rest (a.put o.dst r) w) : wpList P ops Q (o :: rest) a w := by
 refine wpList_plain hg fun K' hK' => ?_
 unfold Oper.wp
 simp [execOp, hop, hr, Result.andThen]
 exact hK' _ _ hK
section
variable {P : Program} {md : Region.Mode} {ops : Array Oper} {Q : Exit → Act → World → Prop} {S : World → Prop}
theorem reg_copy {oi : Oper} {fuel : Nat} {listed : Array Bool} {a : Act} {w : World} (i : Nat) (dd : Option Tmp) (d s : Operand) (dT sT : TypeId) (hi : ops[i]? = some oi) (hdd : oi.dst = dd) (ho : oi.op = .call { callee := .builtin .copy, args := #[d, s], argTypes := #[dT, sT] }) (hr : Region.ready md ops listed = [i])
    (hgd : oi.guard = none) (elem : TypeId) (hu : P.underlying dT = some (.slice elem)) (hsz : (P.info? elem).map (·.size) = some 1)
    (g off : Nat) (dp sp : Option Addr) (dLen dCap sLen sCap : Nat) (hd : a.eval d = .slice dp dLen dCap) (hs : a.eval s = .slice sp sLen sCap)
    (cur : List Value) (t : TypeId) (hg : Blk w g t cur) (cs : List Value) (hn : cs.length = Nat.min sLen dLen) (hdp : 0 < cs.length → dp = some ⟨g, off, none⟩)
    (hrow : Row w sp cs) (hfit : off + cs.length ≤ cur.length) (h1 : ∀ v ∈ cs, v.oneCell' = true)
    (h : ∀ w', Blk w' g t (splice cur off cs) → Kp (oneB g) w w' → w'.heap.size = w.heap.size → S w' ∧ (S w' → wpAnyH P md ops (NoPanic Q) S fuel (listed.setIfInBounds i true) (a.put dd (goInt cs.length)) w')) : wpAnyH P md ops (NoPanic Q) S (fuel + 1) listed a w := by
 subst hdd
 refine wpAnyH_ready hr (by simp) (AllReadyH.cons hi (fun K' hK => ?_) AllReadyH.nil)
 exact step_copy_blk hgd d s dT sT ho elem hu hsz g off dp sp dLen dCap sLen sCap hd hs cur t hg cs hn hdp hrow hfit h1 (fun w' b k z => hK.out _ _ (h w' b k z).1 (h w' b k z).2)
theorem exec_look {a : Act} {o : Oper} {w w' : World} (m x : Operand) (t : TypeId) (ok : Bool) (ho : o.op = .lookup t m x ok) (u v r : Value) (hm : a.eval m = u) (hx : a.eval x = v) (h : (Instr.lookup t u v ok).run P w = .ok r w') : (execOp a.eval o).run P w = .ok (.value r) w' := by
 subst hm; subst hx
 simp [execOp, ho, h, Result.andThen]
theorem reg_update {oi : Oper} {fuel : Nat} {listed : Array Bool} {a : Act} {w w' : World} (i : Nat) (d : Option Tmp) (m x y : Operand) (t : TypeId) (hi : ops[i]? = some oi) (hd : oi.dst = d) (ho : oi.op = .mapUpdate t m x y) (hr : Region.ready md ops listed = [i])
    (hw : Region.wanted oi (yielded ops a.tmps) = true) (u k v : Value) (hm : a.eval m = u) (hx : a.eval x = k) (hy : a.eval y = v) (h : (Instr.mapUpdate t u k v).run P w = .ok () w') (hS : S w')
    (hK : S w' → wpAnyH P md ops (NoPanic Q) S fuel (listed.setIfInBounds i true) (a.put d undef) w') : wpAnyH P md ops (NoPanic Q) S (fuel + 1) listed a w := by
 subst hm; subst hx; subst hy; subst hd
 refine wpAnyH_ready hr (by simp) (AllReadyH.cons hi (fun K' hK' => ?_) AllReadyH.nil)
 rw [if_pos hw]
 unfold Oper.wp
 simp [execOp, ho, h, Result.andThen]
 exact hK'.out _ _ hS hK
end
def upd {β : Type} (f : Nat → β) (i : Nat) (b : β) : Nat → β := fun j => if j = i then b else f j
theorem upd_same {β : Type} (f : Nat → β) (i : Nat) (b : β) : upd f i b i = b := if_pos rfl
theorem upd_other {β : Type} (f : Nat → β) (i j : Nat) (b : β) (h : j ≠ i) : upd f i b j = f j := if_neg h
def putL (dst : Nat → Option Tmp) (vals : Nat → Value) (L : Nat → Bool) : List Nat → Act → Act
 | [], a => a
 | i :: M, a => putL dst vals L M (if L i then a.put (dst i) (vals i) else a)
def putA (dst : Nat → Option Tmp) (vals : Nat → Value) : List Nat → Act → Act
 | [], a => a
 | i :: M, a => putA dst vals M (a.put (dst i) (vals i))
theorem put_size (a : Act) (d : Option Tmp) (v : Value) : (a.put d v).tmps.size = a.tmps.size := by
 cases d <;> simp [Act.put]
theorem put_eval_other (a : Act) (d : Option Tmp) (v : Value) (t : Tmp) (h : d ≠ some t) : (a.put d v).eval (.tmp t) = a.eval (.tmp t) := by
 cases d with
 | none => rfl
 | some d =>
   have : d ≠ t := fun e => h (by rw [e])
   show ((a.tmps.setIfInBounds d v).getD t undef) = a.tmps.getD t undef
   simp [Array.getD_eq_getD_getElem?, Array.getElem?_setIfInBounds, this]
theorem put_eval_same (a : Act) (v : Value) (t : Tmp) (h : t < a.tmps.size) : (a.put (some t) v).eval (.tmp t) = v := by
 show ((a.tmps.setIfInBounds t v).getD t undef) = v
 simp [Array.getD_eq_getD_getElem?, Array.getElem?_setIfInBounds, h]
def Apart (dst : Nat → Option Tmp) (i j : Nat) : Prop := i ≠ j ∧ ∀ d, dst i = some d → dst j ≠ some d
theorem putL_size (dst : Nat → Option Tmp) (vals : Nat → Value) (L : Nat → Bool) : ∀ (M : List Nat) (a : Act), (putL dst vals L M a).tmps.size = a.tmps.size
 | [], a => rfl
 | i :: M, a => by
   rw [putL, putL_size dst vals L M]
   split
   · exact put_size _ _ _
   · rfl
theorem putL_comm (dst : Nat → Option Tmp) (vals : Nat → Value) (L : Nat → Bool) (d : Option Tmp) (v : Value) : ∀ (M : List Nat) (a : Act), (∀ j ∈ M, ∀ e, d = some e → dst j ≠ some e) → putL dst vals L M (a.put d v) = (putL dst vals L M a).put d v
 | [], a, _ => rfl
 | i :: M, a, h => by
   rw [putL, putL]
   have h1 := fun j hj => h j (List.mem_cons_of_mem _ hj)
   by_cases hL : L i = true
   · rw [if_pos hL, if_pos hL, ← putL_comm dst vals L d v M _ h1, Act.put_comm a v (vals i) (h i (by simp))]
   · rw [if_neg hL, if_neg hL]
     exact putL_comm dst vals L d v M a h1
theorem putL_upd (dst : Nat → Option Tmp) (vals : Nat → Value) (L : Nat → Bool) (i : Nat) (v : Value) (b : Bool) : ∀ (M : List Nat) (a : Act), i ∉ M → putL dst (upd vals i v) (upd L i b) M a = putL dst vals L M a
 | [], a, _ => rfl
 | j :: M, a, h => by
   have hji : j ≠ i := fun e => h (by rw [e]; simp)
   rw [putL, putL, upd_other _ _ _ _ hji, upd_other _ _ _ _ hji]
   exact putL_upd dst vals L i v b M _ (fun e => h (List.mem_cons_of_mem _ e))
theorem putL_new (dst : Nat → Option Tmp) (vals : Nat → Value) (L : Nat → Bool) (i : Nat) (v : Value) : ∀ (M : List Nat) (a : Act), M.Pairwise (Apart dst) → i ∈ M → L i = false → putL dst (upd vals i v) (upd L i true) M a = (putL dst vals L M a).put (dst i) v
 | [], a, _, h, _ => by cases h
 | j :: M, a, hp, h, hL => by
   obtain ⟨h1, h2⟩ := List.pairwise_cons.1 hp
   rw [putL, putL]
   by_cases hji : j = i
   · subst hji
     rw [upd_same, upd_same, if_pos rfl, hL, if_neg (by simp), putL_upd dst vals L j v true M _ (fun e => (h1 j e).1 rfl)]
     exact putL_comm dst vals L (dst j) v M a (fun k hk e he => (h1 k hk).2 e he)
   · rw [upd_other _ _ _ _ hji, upd_other _ _ _ _ hji]
     exact putL_new dst vals L i v M _ h2 ((List.mem_cons.1 h).resolve_left (fun e => hji e.symm)) hL
theorem putL_out (dst : Nat → Option Tmp) (vals : Nat → Value) (L : Nat → Bool) (t : Tmp) : ∀ (M : List Nat) (a : Act), (∀ j ∈ M, dst j ≠ some t) → (putL dst vals L M a).eval (.tmp t) = a.eval (.tmp t)
 | [], a, _ => rfl
 | j :: M, a, h => by
   rw [putL, putL_out dst vals L t M _ (fun k hk => h k (List.mem_cons_of_mem _ hk))]
   split
   · exact put_eval_other _ _ _ _ (h j (by simp))
   · rfl
theorem putL_in (dst : Nat → Option Tmp) (vals : Nat → Value) (L : Nat → Bool) (i : Nat) (t : Tmp) : ∀ (M : List Nat) (a : Act), M.Pairwise (Apart dst) → i ∈ M → L i = true → dst i = some t → t < a.tmps.size → (putL dst vals L M a).eval (.tmp t) = vals i
 | [], a, _, h, _, _, _ => by cases h
 | j :: M, a, hp, h, hL, hd, hs => by
   obtain ⟨h1, h2⟩ := List.pairwise_cons.1 hp
   rw [putL]
   by_cases hji : j = i
   · subst hji
     rw [if_pos hL, putL_out dst vals L t M _ (fun k hk => (h1 k hk).2 t hd), hd]
     exact put_eval_same _ _ _ hs
   · refine putL_in dst vals L i t M _ h2 ((List.mem_cons.1 h).resolve_left (fun e => hji e.symm)) hL hd ?_
     split
     · rw [put_size]; exact hs
     · exact hs
theorem putL_all (dst : Nat → Option Tmp) (vals : Nat → Value) (L : Nat → Bool) : ∀ (M : List Nat) (a : Act), (∀ i ∈ M, L i = true) → putL dst vals L M a = putA dst vals M a
 | [], a, _ => rfl
 | i :: M, a, h => by
   rw [putL, putA, if_pos (h i (by simp))]
   exact putL_all dst vals L M _ (fun j hj => h j (List.mem_cons_of_mem _ hj))
theorem putL_none (dst : Nat → Option Tmp) (vals : Nat → Value) (L : Nat → Bool) : ∀ (M : List Nat) (a : Act), (∀ i ∈ M, L i = false) → putL dst vals L M a = a
 | [], a, _ => rfl
 | i :: M, a, h => by
   rw [putL, h i (by simp), if_neg (by simp)]
   exact putL_none dst vals L M a (fun j hj => h j (List.mem_cons_of_mem _ hj))
def reach (md : Region.Mode) (ops : Array Oper) : Nat → Nat → Nat → Bool
 | 0, _, _ => false
 | k + 1, i, j => ((ops[i]?).map fun o => o.after.toList.any fun e => Region.binds md e && (e.on == j || reach md ops k e.on j)).getD false
def closedB (md : Region.Mode) (ops : Array Oper) (L : Nat → Bool) : Bool := (List.range ops.size).all fun i => !L i || ((ops[i]?).map fun o => o.after.all fun e => !Region.binds md e || L e.on).getD true
def aheadB (md : Region.Mode) (ops : Array Oper) (L : Nat → Bool) (M : List Nat) : Bool :=
 ((List.range ops.size).all fun i => L i || M.contains i || M.all fun j => reach md ops 6 i j) &&
 M.all fun i => (i < ops.size) && !L i && ((ops[i]?).map fun o => o.after.all fun e => !Region.binds md e || L e.on || (M.contains e.on && e.on < i)).getD false
def apartB (dst : Nat → Option Tmp) : List Nat → Bool
 | [] => true
 | i :: M => M.all (fun j => i != j && (match dst i, dst j with | some d, some e => d != e | _, _ => true)) && apartB dst M
theorem apart_of (dst : Nat → Option Tmp) : ∀ (M : List Nat), apartB dst M = true → M.Pairwise (Apart dst)
 | [], _ => .nil
 | i :: M, h => by
   simp only [apartB, Bool.and_eq_true, List.all_eq_true] at h
   refine .cons (fun j hj => ?_) (apart_of dst M h.2)
   have h1 := h.1 j hj
   refine ⟨by have := h1.1; simpa using this, fun d hd he => ?_⟩
   have h2 := h1.2
   rw [hd, he] at h2
   simp at h2
section
variable {P : Program} {md : Region.Mode} {ops : Array Oper} {Q : Exit → Act → World → Prop} {S : World → Prop}
def Closed (md : Region.Mode) (ops : Array Oper) (L : Nat → Bool) : Prop := ∀ (i : Nat) (o : Oper), L i = true → ops[i]? = some o → ∀ e ∈ o.after, Region.binds md e = true → L e.on = true
theorem closed_of {L : Nat → Bool} (h : closedB md ops L = true) : Closed md ops L := by
 intro i o hi ho e he hb
 have hlt := (Array.getElem?_eq_some_iff.1 ho).1
 have := List.all_eq_true.1 h i (List.mem_range.2 hlt)
 rw [hi, ho] at this
 simp only [Bool.not_true, Option.map_some, Option.getD_some, Bool.false_or] at this
 have := Array.all_eq_true_iff_forall_mem.1 this e he
 rw [hb] at this
 simpa using this
theorem reach_listed {L : Nat → Bool} (hc : Closed md ops L) : ∀ (k i j : Nat) (o : Oper), ops[i]? = some o → (∀ e ∈ o.after, Region.binds md e = true → L e.on = true) → reach md ops k i j = true → L j = true
 | 0, _, _, _, _, _, h => by simp [reach] at h
 | k + 1, i, j, o, ho, hd, h => by
   rw [reach, ho] at h
   simp only [Option.map_some, Option.getD_some, List.any_eq_true, Array.mem_toList_iff, Bool.and_eq_true, Bool.or_eq_true, beq_iff_eq] at h
   obtain ⟨e, he, hb, h | h⟩ := h
   · rw [← h]; exact hd e he hb
   · have h1 := hd e he hb
     cases hq : ops[e.on]? with
     | none =>
       cases k with
       | zero => simp [reach] at h
       | succ k => rw [reach, hq] at h; simp at h
     | some o' => exact reach_listed hc k e.on j o' hq (hc e.on o' h1 hq) h
theorem closed_set {L : Nat → Bool} (hc : Closed md ops L) (i : Nat) (o : Oper) (ho : ops[i]? = some o) (hd : ∀ e ∈ o.after, Region.binds md e = true → L e.on = true) : Closed md ops (upd L i true) := by
 intro j p hj hp e he hb
 have key : L e.on = true := by
  by_cases hji : j = i
  · subst hji
    rw [ho] at hp
    cases hp
    exact hd e he hb
  · rw [upd_other _ _ _ _ hji] at hj
    exact hc j p hj hp e he hb
 unfold upd; split
 · rfl
 · exact key
def lst (listed : Array Bool) : Nat → Bool := fun i => listed.getD i false
theorem lst_set (listed : Array Bool) (i : Nat) (h : i < listed.size) : lst (listed.setIfInBounds i true) = upd (lst listed) i true := by
 funext j
 unfold lst upd
 by_cases hji : j = i
 · subst hji; simp [Array.getD_eq_getD_getElem?, Array.getElem?_setIfInBounds, h]
 · simp [Array.getD_eq_getD_getElem?, Array.getElem?_setIfInBounds, hji, Ne.symm hji]
theorem reg_many (M : List Nat) (L0 LM : Array Bool) (a0 : Act) (w0 : World) (f : Nat) (J : (Nat → Bool) → (Nat → Value) → World → Prop) (n : Nat) (hn : ops.size = n) (hL0 : L0.size = n)
    (hap : apartB (fun i => (ops[i]?).bind (·.dst)) M = true) (hcl : closedB md ops (lst L0) = true) (hah : aheadB md ops (lst L0) M = true)
    (hsz : (M.all fun i => match (ops[i]?).bind (·.dst) with | some d => decide (d < a0.tmps.size) | none => true) = true) (hLM : M.foldl (fun l i => l.setIfInBounds i true) L0 = LM)
    (hS : ∀ L vals w, J L vals w → S w) (h0 : J (lst L0) (fun _ => undef) w0)
    (hstep : ∀ (L : Nat → Bool) (vals : Nat → Value) (w : World) (a : Act) (i : Nat) (o : Oper), i ∈ M → ops[i]? = some o → L i = false → (∀ e ∈ o.after, Region.binds md e = true → L e.on = true) → J L vals w →
      (∀ j ∈ M, L j = true → ∀ t, (ops[j]?).bind (·.dst) = some t → a.eval (.tmp t) = vals j) → (∀ t, (M.all fun j => (ops[j]?).bind (·.dst) != some t) = true → a.eval (.tmp t) = a0.eval (.tmp t)) →
      ∀ K' : Act → World → Prop, Shut (∀ v w', J (upd L i true) (upd vals i v) w' → K' (a.put o.dst v) w') → if Region.wanted o (yielded ops a.tmps) = true then Oper.wp P o a w K' Q else K' (a.put o.dst undef) w)
    (hK : ∀ (vals : Nat → Value) (L : Nat → Bool) (w : World), (∀ i ∈ M, L i = true) → J L vals w → wpAnyH P md ops Q S f LM (putA (fun i => (ops[i]?).bind (·.dst)) vals M a0) w) :
    wpAnyH P md ops Q S (f + M.length) L0 a0 w0 := by
 obtain ⟨dst, hdst⟩ : ∃ dst : Nat → Option Tmp, dst = fun i => (ops[i]?).bind (·.dst) := ⟨_, rfl⟩
 rw [← hdst] at hap hK
 have hpw := apart_of dst M hap
 simp only [aheadB, Bool.and_eq_true, List.all_eq_true] at hah
 obtain ⟨hah1, hah2⟩ := hah
 have hM : ∀ i ∈ M, i < n ∧ lst L0 i = false ∧ ∃ o, ops[i]? = some o ∧ ∀ e ∈ o.after, Region.binds md e = true → lst L0 e.on = true ∨ (e.on ∈ M ∧ e.on < i) := by
  intro i hi
  have h := hah2 i hi
  refine ⟨by rw [← hn]; exact of_decide_eq_true h.1.1, by have := h.1.2; simpa using this, ?_⟩
  cases ho : ops[i]? with
  | none => rw [ho] at h; simp at h
  | some o =>
    rw [ho] at h
    simp only [Option.map_some, Option.getD_some] at h
    refine ⟨o, rfl, fun e he hb => ?_⟩
    have h1 := Array.all_eq_true_iff_forall_mem.1 h.2 e he
    rw [hb] at h1
    simp only [Bool.not_true, Bool.false_or, Bool.or_eq_true, Bool.and_eq_true, List.contains_iff_mem, decide_eq_true_eq] at h1
    exact h1
 have hnd : M.Nodup := hpw.imp (fun h => h.1)
 -- all that comes up
 have main : ∀ (m : Nat) (listed : Array Bool) (vals : Nat → Value) (w : World), listed.size = n → (∀ i, i ∉ M → listed[i]? = L0[i]?) → Closed md ops (lst listed) → (M.filter (fun i => !lst listed i)).length = m → J (lst listed) vals w →
     wpAnyH P md ops Q S (f + m) listed (putL dst vals (lst listed) M a0) w := by
  intro m
  induction m with
  | zero =>
    intro listed vals w hs hag hc hm hJ
    have hall : ∀ i ∈ M, lst listed i = true := by
     intro i hi
     have h1 := List.eq_nil_of_length_eq_zero hm
     cases hq : lst listed i with
     | true => rfl
     | false =>
       have : i ∈ M.filter (fun i => !lst listed i) := List.mem_filter.2 ⟨hi, by rw [hq]; rfl⟩
       rw [h1] at this; cases this
    have hset : ∀ (N : List Nat) (l : Array Bool) (i : Nat), (N.foldl (fun l i => l.setIfInBounds i true) l)[i]? = if i ∈ N ∧ i < l.size then some true else l[i]? := by
     intro N
     induction N with
     | nil => intro l i; simp
     | cons k N ih =>
       intro l i
       rw [List.foldl_cons, ih, Array.size_setIfInBounds]
       by_cases h1 : i ∈ N ∧ i < l.size
       · rw [if_pos h1, if_pos ⟨List.mem_cons_of_mem _ h1.1, h1.2⟩]
       · rw [if_neg h1, Array.getElem?_setIfInBounds]
         by_cases hki : k = i
         · subst hki
           by_cases hlt : k < l.size
           · rw [if_pos rfl, if_pos hlt, if_pos ⟨by simp, hlt⟩]
           · rw [if_pos rfl, if_neg hlt, if_neg (fun e => hlt e.2), Array.getElem?_eq_none (by omega)]
         · rw [if_neg hki]
           by_cases h2 : i ∈ k :: N ∧ i < l.size
           · exact absurd ⟨(List.mem_cons.1 h2.1).resolve_left (fun e => hki e.symm), h2.2⟩ h1
           · rw [if_neg h2]
    have hl : listed = LM := by
     rw [← hLM]
     apply Array.ext_getElem?
     intro i
     rw [hset]
     by_cases hi : i ∈ M
     · have hlt := (hM i hi).1
       rw [if_pos ⟨hi, by omega⟩]
       have h2 := hall i hi
       unfold lst at h2
       rw [Array.getD_eq_getD_getElem?, Array.getElem?_eq_getElem (by omega)] at h2
       rw [Array.getElem?_eq_getElem (by omega)]
       simpa using h2
     · rw [if_neg (fun e => hi e.1)]
       exact hag i hi
    rw [putL_all dst vals _ M a0 hall, hl]
    rw [hl] at hJ hall
    exact hK vals _ w hall hJ
  | succ m ih =>
    intro listed vals w hs hag hc hm hJ
    have hprog : ∃ i ∈ M, lst listed i = false ∧ ∀ o, ops[i]? = some o → ∀ e ∈ o.after, Region.binds md e = true → lst listed e.on = true := by
     have hex : ∃ i, i ∈ M ∧ lst listed i = false := by
      cases hf : M.filter (fun i => !lst listed i) with
      | nil => rw [hf] at hm; simp at hm
      | cons i r =>
        have := List.mem_filter.1 (show i ∈ M.filter (fun i => !lst listed i) by rw [hf]; simp)
        exact ⟨i, this.1, by simpa using this.2⟩
     have hmin : ∀ k i, i ≤ k → i ∈ M → lst listed i = false → ∃ i ∈ M, lst listed i = false ∧ ∀ j ∈ M, j < i → lst listed j = true := by
      intro k
      induction k with
      | zero => intro i hik hi hl; exact ⟨i, hi, hl, fun j _ hj => by omega⟩
      | succ k ihk =>
        intro i hik hi hl
        by_cases hj : ∃ j ∈ M, j < i ∧ lst listed j = false
        · obtain ⟨j, hj1, hj2, hj3⟩ := hj
          exact ihk j (by omega) hj1 hj3
        · refine ⟨i, hi, hl, fun j hj1 hj2 => ?_⟩
          cases hq : lst listed j with
          | true => rfl
          | false => exact absurd ⟨j, hj1, hj2, hq⟩ hj
     obtain ⟨i0, h1, h2⟩ := hex
     obtain ⟨i, hi, hl, hlow⟩ := hmin i0 i0 (Nat.le_refl _) h1 h2
     refine ⟨i, hi, hl, fun o ho e he hb => ?_⟩
     obtain ⟨_, _, o', ho', hd⟩ := hM i hi
     rw [ho] at ho'; cases ho'
     rcases hd e he hb with h | ⟨h, h'⟩
     · by_cases hem : e.on ∈ M
       · have := (hM e.on hem).2.1
         rw [h] at this; cases this
       · have := hag e.on hem
         unfold lst at h ⊢
         rw [Array.getD_eq_getD_getElem?] at h ⊢
         rw [this]; exact h
     · exact hlow e.on h h'
    refine ⟨fun hr => ?_, fun i hi => ?_⟩
    · obtain ⟨i, hi, hl, hd⟩ := hprog
      obtain ⟨hlt, _, o, ho, _⟩ := hM i hi
      have : i ∈ Region.ready md ops listed := mem_ready.2 ⟨by
       unfold lst at hl
       rw [Array.getD_eq_getD_getElem?, Array.getElem?_eq_getElem (by omega)] at hl ⊢
       simpa using hl, o, ho, fun e he hb => hd o ho e he hb⟩
      rw [hr] at this; cases this
    · obtain ⟨hun, o, ho, hd⟩ := mem_ready.1 hi
      have hlt : i < listed.size := by
       rcases Nat.lt_or_ge i listed.size with h | h
       · exact h
       · rw [Array.getD_eq_getD_getElem?, Array.getElem?_eq_none h] at hun; simp at hun
      have hun' : lst listed i = false := by
       unfold lst
       rw [Array.getD_eq_getD_getElem?, Array.getElem?_eq_getElem hlt] at hun ⊢
       simpa using hun
      have hd' : ∀ e ∈ o.after, Region.binds md e = true → lst listed e.on = true := hd
      by_cases hiM : i ∈ M
      · refine wpOp_step ho (fun K' hK' => ?_)
        refine hstep (lst listed) vals w _ i o hiM ho hun' hd' hJ (fun j hj hLj t ht => ?_) (fun t ht => ?_) K' (fun v w' hJ' => hK' _ _ ⟨hS _ _ _ hJ', ?_⟩)
        · refine putL_in dst vals _ j t M a0 hpw hj hLj (by rw [hdst]; exact ht) ?_
          have := List.all_eq_true.1 hsz j hj
          rw [ht] at this
          exact of_decide_eq_true this
        · exact putL_out dst vals _ t M a0 (fun j hj => by
            have := List.all_eq_true.1 ht j hj
            rw [hdst]
            simpa using this)
        · have hdi : dst i = o.dst := by rw [hdst]; simp [ho]
          rw [← hdi, ← putL_new dst vals (lst listed) i v M a0 hpw hiM hun', ← lst_set listed i hlt]
          refine ih (listed.setIfInBounds i true) (upd vals i v) w' (by rw [Array.size_setIfInBounds]; exact hs) (fun j hj => ?_) ?_ ?_ ?_
          · rw [Array.getElem?_setIfInBounds, if_neg (fun e => hj (by rw [← e]; exact hiM))]
            exact hag j hj
          · rw [lst_set listed i hlt]; exact closed_set hc i o ho hd'
          · rw [lst_set listed i hlt]
            have hcount : ∀ N : List Nat, N.Nodup → i ∈ N → (N.filter (fun j => !lst listed j)).length = (N.filter (fun j => !upd (lst listed) i true j)).length + 1 := by
             intro N
             induction N with
             | nil => intro _ h; cases h
             | cons k N ihN =>
               intro hnd hmem
               obtain ⟨hk, hndN⟩ := List.nodup_cons.1 hnd
               by_cases hki : k = i
               · subst hki
                 have hrest : N.filter (fun j => !upd (lst listed) k true j) = N.filter (fun j => !lst listed j) := List.filter_congr (fun j hj => by rw [upd_other _ _ _ _ (fun e => hk (by rw [← e]; exact hj))])
                 rw [List.filter_cons_of_pos (by rw [hun']; rfl), List.filter_cons_of_neg (by rw [upd_same]; simp), hrest]; rfl
               · have := ihN hndN ((List.mem_cons.1 hmem).resolve_left (fun e => hki e.symm))
                 rw [List.filter_cons, List.filter_cons, upd_other _ _ _ _ hki]
                 split
                 · rw [List.length_cons, List.length_cons, this]
                 · exact this
            have := hcount M hnd hiM
            omega
          · rw [lst_set listed i hlt]; exact hJ'
      · exfalso
        have hin : i < ops.size := (Array.getElem?_eq_some_iff.1 ho).1
        have h1 := hah1 i (List.mem_range.2 hin)
        simp only [Bool.or_eq_true, List.contains_iff_mem, List.all_eq_true] at h1
        rcases h1 with (h1 | h1) | h1
        · have := hag i hiM
          unfold lst at h1 hun'
          rw [Array.getD_eq_getD_getElem?] at h1 hun'
          rw [this, h1] at hun'; cases hun'
        · exact hiM h1
        · obtain ⟨j, hj, hl, _⟩ := hprog
          have := reach_listed hc 6 i j o ho hd' (h1 j hj)
          rw [hl] at this; cases this
 have hst : ∀ i ∈ M, lst L0 i = false := fun i hi => (hM i hi).2.1
 have := main M.length L0 (fun _ => undef) w0 hL0 (fun _ _ => rfl) (closed_of hcl) (by rw [List.filter_eq_self.2 (fun i hi => by rw [hst i hi]; rfl)]) h0
 rwa [putL_none dst _ _ M a0 hst] at this
def putZ (vals : Nat → Value) : List (Nat × Option Tmp) → Act → Act
 | [], a => a
 | x :: M, a => putZ vals M (a.put x.2 (vals x.1))
theorem putZ_eq (dst : Nat → Option Tmp) (vals : Nat → Value) : ∀ (M : List Nat) (a : Act), putZ vals (M.map fun i => (i, dst i)) a = putA dst vals M a
 | [], a => rfl
 | i :: M, a => by rw [List.map_cons, putZ, putA]; exact putZ_eq dst vals M _
theorem reg_many2 (M : List Nat) (Z : List (Nat × Option Tmp)) (L0 LM : Array Bool) (a0 : Act) (w0 : World) (f : Nat) (J : (Nat → Bool) → (Nat → Value) → World → Prop) (n : Nat) (hn : ops.size = n) (hL0 : L0.size = n) (hZ : M.map (fun i => (i, (ops[i]?).bind (·.dst))) = Z)
    (hap : apartB (fun i => (ops[i]?).bind (·.dst)) M = true) (hcl : closedB md ops (lst L0) = true) (hah : aheadB md ops (lst L0) M = true)
    (hsz : (M.all fun i => match (ops[i]?).bind (·.dst) with | some d => decide (d < a0.tmps.size) | none => true) = true) (hLM : M.foldl (fun l i => l.setIfInBounds i true) L0 = LM)
    (hS : ∀ L vals w, J L vals w → S w) (h0 : J (lst L0) (fun _ => undef) w0)
    (hstep : ∀ (L : Nat → Bool) (vals : Nat → Value) (w : World) (a : Act) (i : Nat) (o : Oper), i ∈ M → ops[i]? = some o → L i = false → (∀ e ∈ o.after, Region.binds md e = true → L e.on = true) → J L vals w →
      (∀ j ∈ M, L j = true → ∀ t, (ops[j]?).bind (·.dst) = some t → a.eval (.tmp t) = vals j) → (∀ t, (M.all fun j => (ops[j]?).bind (·.dst) != some t) = true → a.eval (.tmp t) = a0.eval (.tmp t)) →
      ∀ K' : Act → World → Prop, Shut (∀ v w', J (upd L i true) (upd vals i v) w' → K' (a.put o.dst v) w') → if Region.wanted o (yielded ops a.tmps) = true then Oper.wp P o a w K' Q else K' (a.put o.dst undef) w)
    (hK : ∀ (vals : Nat → Value) (L : Nat → Bool) (w : World), (∀ i ∈ M, L i = true) → J L vals w → wpAnyH P md ops Q S f LM (putZ vals Z a0) w) :
    wpAnyH P md ops Q S (f + M.length) L0 a0 w0 := by
 refine reg_many M L0 LM a0 w0 f J n hn hL0 hap hcl hah hsz hLM hS h0 hstep (fun vals L w hall hJ => ?_)
 have := hK vals L w hall hJ
 rwa [← hZ, putZ_eq] at this
end
theorem oper_is {ops : Array Oper} {i : Nat} {o o' : Oper} (h : ops[i]? = some o) (h' : ops[i]? = some o') : o = o' := Option.some.inj (h.symm.trans h')
def chainB (md : Region.Mode) (ops : Array Oper) : List Nat → Bool
 | [] => true
 | i :: C => (match C with
   | [] => true
   | j :: _ => ((ops[j]?).map fun o => o.after.any fun e => e.on == i && Region.binds md e).getD false) && chainB md ops C
theorem chain_at {md : Region.Mode} {ops : Array Oper} : ∀ (C : List Nat), chainB md ops C = true → ∀ p (h : p + 1 < C.length) o, ops[C[p + 1]]? = some o → ∃ e ∈ o.after, e.on = C[p]'(by omega) ∧ Region.binds md e = true
 | [], _, p, h, _, _ => by simp at h
 | [i], _, p, h, _, _ => by simp at h
 | i :: j :: C, hc, 0, h, o, ho => by
   simp only [chainB, Bool.and_eq_true] at hc
   have h1 := hc.1
   simp only [List.getElem_cons_zero, List.getElem_cons_succ, Nat.zero_add] at ho ⊢
   rw [ho] at h1
   simp only [Option.map_some, Option.getD_some] at h1
   obtain ⟨e, he, h2⟩ := Array.any_eq_true'.1 h1
   simp only [Bool.and_eq_true, beq_iff_eq] at h2
   exact ⟨e, he, h2.1, h2.2⟩
 | i :: j :: C, hc, p + 1, h, o, ho => by
   have hc2 : chainB md ops (j :: C) = true := by
    rw [chainB] at hc
    simp only [Bool.and_eq_true] at hc
    exact hc.2
   have := chain_at (j :: C) hc2 p (by simpa using h) o (by simpa using ho)
   simpa using this
theorem exec_made {P : Program} {a : Act} {o : Oper} {w w' : World} (t : TypeId) (fs : Array (Nat × Operand)) (ho : o.op = .build t fs) (ps : List (Nat × Value)) (r : Value) (hp : fs.toList.map (fun p => (p.1, a.eval p.2)) = ps) (h : (Instr.build t ps.toArray).run P w = .ok r w') : (execOp a.eval o).run P w = .ok (.value r) w' := by
 subst hp
 have e : (fs.map fun p => (p.1, a.eval p.2)) = (fs.toList.map (fun p => (p.1, a.eval p.2))).toArray := by rw [← Array.toList_map, Array.toArray_toList]
 rw [← e] at h
 simp [execOp, ho, h, Result.andThen]
theorem wpList_gd {P : Program} {w w' : World} {ops : Array Oper} {rest : List Oper} {o : Oper} {a : Act} {Q : Exit → Act → World → Prop} {v : Value} (hw : Region.wanted o (yielded ops a.tmps) = true)
    (hx : (execOp a.eval o).run P w = .ok (.value v) w') (h : wpList P ops Q rest (a.put o.dst v) w') : wpList P ops Q (o :: rest) a w :=
 wpList_step fun K hK => by
  rw [if_pos hw]
  unfold Oper.wp
  rw [hx]
  exact hK _ _ h
def Stp (P : Program) (Q : Exit → Act → World → Prop) (F : Nat → Prop) (o : Oper) (a : Act) (w : World) (R : Value → World → Prop) : Prop :=
 ∀ K' : Act → World → Prop, (∀ u w', R u w' → Kp F w w' → K' (a.put o.dst u) w') → Oper.wp P o a w K' Q
theorem Stp.call {P : Program} {Q : Exit → Act → World → Prop} {F : Nat → Prop} {o : Oper} {a : Act} {w : World} {R : Value → World → Prop} (g : FuncId) (args : Array Value) (hx : (execOp a.eval o).run P w = .ok (.enter g args) w)
    (hc : Calls P g args w fun e w' => ∃ u, e = .returned u ∧ R u w' ∧ Kp F w w') : Stp P Q F o a w R := by
 intro K' hK
 unfold Oper.wp
 rw [hx, Oper.upon_enter]
 refine hc.mono ?_
 rintro e w' ⟨u, rfl, h1, h2⟩
 exact hK u w' h1 h2
theorem Stp.val {P : Program} {Q : Exit → Act → World → Prop} {F : Nat → Prop} {o : Oper} {a : Act} {w w' : World} {R : Value → World → Prop} (u : Value) (hx : (execOp a.eval o).run P w = .ok (.value u) w') (hR : R u w') (hk : Kp F w w') : Stp P Q F o a w R := by
 intro K' hK
 unfold Oper.wp
 rw [hx]
 exact hK u w' hR hk
section
variable {P : Program} {md : Region.Mode} {ops : Array Oper} {Q : Exit → Act → World → Prop} {S : World → Prop}
theorem reg_chain (C : List Nat) (q : Nat) (Z : List (Nat × Option Tmp)) (L0 LM : Array Bool) (a0 : Act) (w0 : World) (f n : Nat) (T : Nat → World → Prop) (v : Nat → Value) (N : Nat) (F : Nat → Prop) (ty : TypeId) (zs : List Value)
    (hn : ops.size = n) (hL0 : L0.size = n) (hZ : (C ++ [q]).map (fun i => (i, (ops[i]?).bind (·.dst))) = Z)
    (hap : apartB (fun i => (ops[i]?).bind (·.dst)) (C ++ [q]) = true) (hcl : closedB md ops (lst L0) = true) (hah : aheadB md ops (lst L0) (C ++ [q]) = true) (hch : chainB md ops C = true)
    (hsz : ((C ++ [q]).all fun i => match (ops[i]?).bind (·.dst) with | some d => decide (d < a0.tmps.size) | none => true) = true) (hLM : (C ++ [q]).foldl (fun l i => l.setIfInBounds i true) L0 = LM)
    (hw : ((C ++ [q]).all fun i => ((ops[i]?).map fun o => o.guard.isNone).getD false) = true)
    (hS : ∀ p w, T p w → S w) (hN : ∀ p w, T p w → N ≤ w.heap.size) (hF : ∀ j, F j → j < N) (hT : ∀ p w o, T p w → T p (w.alloc o)) (h0 : T 0 w0)
    (hcall : ∀ (p : Nat) (h : p < C.length) (o : Oper) (a : Act) (w : World), ops[C[p]]? = some o → (∀ t, ((C ++ [q]).all fun j => (ops[j]?).bind (·.dst) != some t) = true → a.eval (.tmp t) = a0.eval (.tmp t)) →
      (∀ r (hr : r < p) t, (ops[C[r]]?).bind (·.dst) = some t → a.eval (.tmp t) = v r) → T p w → Stp P Q F o a w (fun u w' => u = v p ∧ T (p + 1) w'))
    (hnew : ∀ (o : Oper) (a : Act) (w : World), ops[q]? = some o → (execOp a.eval o).run P w = .ok (.value (.pointer (some ⟨w.heap.size, 0, none⟩))) (w.alloc (.cells zs.toArray ty)))
    (hK : ∀ (vals : Nat → Value) (g : Nat) (w : World), (∀ p (h : p < C.length), vals C[p] = v p) → vals q = .pointer (some ⟨g, 0, none⟩) → T C.length w → N ≤ g → Blk w g ty zs → wpAnyH P md ops Q S f LM (putZ vals Z a0) w) :
    wpAnyH P md ops Q S (f + (C ++ [q]).length) L0 a0 w0 := by
 have hpw := apart_of _ _ hap
 have hne : ∀ p r (h : p < C.length) (h' : r < C.length), p ≠ r → C[p] ≠ C[r] := by
  intro p r h h' hpr e
  rcases Nat.lt_or_ge p r with hlt | hge
  · have := List.pairwise_iff_getElem.1 hpw p r (by simp; omega) (by simp; omega) hlt
    rw [List.getElem_append_left h, List.getElem_append_left h'] at this
    exact this.1 e
  · have := List.pairwise_iff_getElem.1 hpw r p (by simp; omega) (by simp; omega) (by omega)
    rw [List.getElem_append_left h, List.getElem_append_left h'] at this
    exact this.1 e.symm
 have hq : ∀ p (h : p < C.length), C[p] ≠ q := by
  intro p h e
  have := List.pairwise_iff_getElem.1 hpw p C.length (by simp; omega) (by simp) h
  rw [List.getElem_append_left h, List.getElem_append_right (Nat.le_refl _)] at this
  exact this.1 (by simpa using e)
 have hwant : ∀ i ∈ C ++ [q], ∀ (o : Oper) (y : Nat → Option Bool), ops[i]? = some o → Region.wanted o y = true := by
  intro i hi o y ho
  have := List.all_eq_true.1 hw i hi
  rw [ho] at this
  simp only [Option.map_some, Option.getD_some, Option.isNone_iff_eq_none] at this
  unfold Region.wanted; rw [this]
 refine reg_many2 (C ++ [q]) Z L0 LM a0 w0 f (fun L vals w => ∃ k, k ≤ C.length ∧ (∀ p (h : p < C.length), L C[p] = decide (p < k)) ∧ T k w ∧ (∀ p (h : p < C.length), p < k → vals C[p] = v p) ∧ (L q = true → ∃ g, vals q = .pointer (some ⟨g, 0, none⟩) ∧ N ≤ g ∧ Blk w g ty zs))
  n hn hL0 hZ hap hcl hah hsz hLM (fun L vals w h => ?s) ?h0 ?st ?fin
 case s => obtain ⟨k, _, _, h, _⟩ := h; exact hS k w h
 case h0 =>
  simp only [aheadB, Bool.and_eq_true, List.all_eq_true] at hah
  have hL : ∀ i ∈ C ++ [q], lst L0 i = false := fun i hi => by have := (hah.2 i hi).1.2; simpa using this
  refine ⟨0, Nat.zero_le _, fun p h => by rw [hL _ (List.mem_append_left _ (List.getElem_mem h))]; simp, h0, fun p h e => by omega, fun e => ?_⟩
  rw [hL q (by simp)] at e; cases e
 case st =>
  intro L vals w a i o hi ho hL hd hJ ev e0 K' hK'
  rw [if_pos (hwant i hi o _ ho)]
  obtain ⟨k, hk, hLp, hTk, hv, hB⟩ := hJ
  rcases List.mem_append.1 hi with hi | hi
  · obtain ⟨p, hp, rfl⟩ := List.mem_iff_getElem.1 hi
    have h1 := hLp p hp
    rw [hL] at h1
    have h2 : ¬ p < k := by simpa using h1.symm
    have h3 : p = k := by
     cases p with
     | zero => omega
     | succ p =>
       obtain ⟨e, he, h4, h5⟩ := chain_at C hch p hp o ho
       have := hd e he h5
       rw [h4, hLp p (by omega)] at this
       have : p < k := by simpa using this
       omega
    subst h3
    refine hcall p hp o a w ho e0 (fun r hr t ht => ?_) hTk K' ?_
    · rw [ev _ (List.mem_append_left _ (List.getElem_mem (by omega : r < C.length))) (by rw [hLp r (by omega)]; simpa using hr) t ht]
      exact hv r (by omega) hr
    rintro _ w' ⟨rfl, hT'⟩ hk'
    refine hK'.out _ _ ⟨p + 1, by omega, fun r hr => ?_, hT', fun r hr hlt => ?_, fun e => ?_⟩
    · by_cases hrp : r = p
      · subst hrp; rw [upd_same]; simp
      · rw [upd_other _ _ _ _ (hne r p hr hp hrp), hLp r hr]
        congr 1
        exact propext ⟨fun h => by omega, fun h => by omega⟩
    · by_cases hrp : r = p
      · subst hrp; rw [upd_same]
      · rw [upd_other _ _ _ _ (hne r p hr hp hrp)]
        exact hv r hr (by omega)
    · rw [upd_other _ _ _ _ (hq p hp).symm] at e ⊢
      obtain ⟨g', h5, h6, h7⟩ := hB e
      exact ⟨g', h5, h6, h7.keep hk' (fun e => by have := hF _ e; omega)⟩
  · obtain rfl : i = q := by simpa using hi
    unfold Oper.wp
    rw [hnew o a w ho]
    refine hK'.out _ _ ⟨k, hk, fun r hr => ?_, hT k w _ hTk, fun r hr hlt => ?_, fun e => ⟨w.heap.size, by rw [upd_same], hN k w hTk, Blk.new w ty zs⟩⟩
    · rw [upd_other _ _ _ _ (hq r hr)]; exact hLp r hr
    · rw [upd_other _ _ _ _ (hq r hr)]; exact hv r hr hlt
 case fin =>
  intro vals L w hall hJ
  obtain ⟨k, hk, hLp, hTk, hv, hB⟩ := hJ
  have hkC : k = C.length := by
   rcases Nat.lt_or_ge k C.length with h | h
   · have h1 := hLp k h
     rw [hall _ (List.mem_append_left _ (List.getElem_mem h))] at h1
     simp at h1
   · omega
  subst hkC
  obtain ⟨g, h5, h6, h7⟩ := hB (hall q (by simp))
  exact hK vals g w (fun p h => hv p h h) h5 hTk h6 h7
end
def behindB (md : Region.Mode) (ops : Array Oper) (l : Nat) (E : List Nat) : Bool := E.all fun i => ((ops[i]?).map fun o => o.after.any fun e => (e.on == l || E.contains e.on) && Region.binds md e).getD false
section
variable {P : Program} {md : Region.Mode} {ops : Array Oper} {Q : Exit → Act → World → Prop} {S : World → Prop}
theorem reg_vault {X : Type} (C D E : List Nat) (l : Nat) (Z : List (Nat × Option Tmp)) (L0 LM : Array Bool) (a0 : Act) (w0 : World) (f n : Nat) (T : Nat → X → World → Prop) (own : X → Nat → Prop) (val : Nat → X → Value) (ew : Nat → X → Value) (N : Nat) (ty : Nat → TypeId) (zs : Nat → List Value) (fv : Nat → Nat → Value)
    (hn : ops.size = n) (hL0 : L0.size = n) (hZ : (D ++ (C ++ E)).map (fun i => (i, (ops[i]?).bind (·.dst))) = Z)
    (hap : apartB (fun i => (ops[i]?).bind (·.dst)) (D ++ (C ++ E)) = true) (hcl : closedB md ops (lst L0) = true) (hah : aheadB md ops (lst L0) (D ++ (C ++ E)) = true) (hch : chainB md ops C = true) (hbe : behindB md ops l E = true) (hl : 0 < C.length ∧ C[C.length - 1]? = some l)
    (hsz : ((D ++ (C ++ E)).all fun i => match (ops[i]?).bind (·.dst) with | some d => decide (d < a0.tmps.size) | none => true) = true) (hLM : (D ++ (C ++ E)).foldl (fun l i => l.setIfInBounds i true) L0 = LM)
    (hw : ((D ++ (C ++ E)).all fun i => ((ops[i]?).map fun o => o.guard.isNone).getD false) = true)
    (hS : ∀ p x w, T p x w → S w) (hN : ∀ p x w, T p x w → N ≤ w.heap.size) (hlt : ∀ p x w, T p x w → ∀ i, own x i → i < w.heap.size) (hT : ∀ p x w o, T p x w → T p x (w.alloc o)) (x0 : X) (h0 : T 0 x0 w0)
    (hcall : ∀ (p : Nat) (h : p < C.length) (o : Oper) (a : Act) (w : World) (x : X), ops[C[p]]? = some o → (∀ t, ((D ++ (C ++ E)).all fun j => (ops[j]?).bind (·.dst) != some t) = true → a.eval (.tmp t) = a0.eval (.tmp t)) →
      (∀ r (hr : r < p) t, (ops[C[r]]?).bind (·.dst) = some t → a.eval (.tmp t) = val r x) →
      (∀ d ∈ D, (o.after.any fun e => e.on == d && Region.binds md e) = true → ∀ t, (ops[d]?).bind (·.dst) = some t → ∃ g, a.eval (.tmp t) = fv d g ∧ Blk w g (ty d) (zs d) ∧ N ≤ g ∧ ¬ own x g) → T p x w →
      ∀ K' : Act → World → Prop, (∀ u x' w', u = val p x' → (∀ r, r < p → val r x' = val r x) → T (p + 1) x' w' → (∀ i, own x' i → own x i ∨ w.heap.size ≤ i) → Kp (own x) w w' → K' (a.put o.dst u) w') → Oper.wp P o a w K' Q)
    (hnew : ∀ d ∈ D, ∀ (o : Oper) (a : Act) (w : World), ops[d]? = some o → (∀ t, ((D ++ (C ++ E)).all fun j => (ops[j]?).bind (·.dst) != some t) = true → a.eval (.tmp t) = a0.eval (.tmp t)) → (execOp a.eval o).run P w = .ok (.value (fv d w.heap.size)) (w.alloc (.cells (zs d).toArray (ty d))))
    (hqt : ∀ e ∈ E, ∀ (o : Oper) (a : Act) (w : World) (x : X), ops[e]? = some o → (∀ r (hr : r < C.length) t, (ops[C[r]]?).bind (·.dst) = some t → a.eval (.tmp t) = val r x) →
      (∀ j ∈ E, (o.after.any fun e => e.on == j && Region.binds md e) = true → ∀ t, (ops[j]?).bind (·.dst) = some t → a.eval (.tmp t) = ew j x) → T C.length x w → (execOp a.eval o).run P w = .ok (.value (ew e x)) w)
    (hK : ∀ (vals : Nat → Value) (x : X) (w : World), (∀ p (h : p < C.length), vals C[p] = val p x) → (∀ d ∈ D, ∃ g, vals d = fv d g ∧ Blk w g (ty d) (zs d) ∧ N ≤ g ∧ ¬ own x g) → (∀ e ∈ E, vals e = ew e x) → T C.length x w → wpAnyH P md ops Q S f LM (putZ vals Z a0) w) :
    wpAnyH P md ops Q S (f + (D ++ (C ++ E)).length) L0 a0 w0 := by
 have hpw := apart_of _ _ hap
 have hpC := (List.pairwise_append.1 (List.pairwise_append.1 hpw).2.1)
 have mC : ∀ p (h : p < C.length), C[p] ∈ D ++ (C ++ E) := fun p h => List.mem_append_right _ (List.mem_append_left _ (List.getElem_mem h))
 have mD : ∀ d ∈ D, d ∈ D ++ (C ++ E) := fun d h => List.mem_append_left _ h
 have mE : ∀ d ∈ E, d ∈ D ++ (C ++ E) := fun d h => List.mem_append_right _ (List.mem_append_right _ h)
 have hne : ∀ p r (h : p < C.length) (h' : r < C.length), p ≠ r → C[p] ≠ C[r] := by
  intro p r h h' hpr e
  rcases Nat.lt_or_ge p r with hlt | hge
  · exact (List.pairwise_iff_getElem.1 hpC.1 p r h h' hlt).1 e
  · exact (List.pairwise_iff_getElem.1 hpC.1 r p h' h (by omega)).1 e.symm
 have hq : ∀ d ∈ D, ∀ p (h : p < C.length), C[p] ≠ d := fun d hd p h e => ((List.pairwise_append.1 hpw).2.2 d hd C[p] (List.mem_append_left _ (List.getElem_mem h))).1 e.symm
 have hqE : ∀ d ∈ E, ∀ p (h : p < C.length), C[p] ≠ d := fun d hd p h e => (hpC.2.2 C[p] (List.getElem_mem h) d hd).1 e
 have hDE : ∀ d ∈ D, ∀ e ∈ E, d ≠ e := fun d hd e he h => ((List.pairwise_append.1 hpw).2.2 d hd e (List.mem_append_right _ he)).1 h
 have hwant : ∀ i ∈ D ++ (C ++ E), ∀ (o : Oper) (y : Nat → Option Bool), ops[i]? = some o → Region.wanted o y = true := by
  intro i hi o y ho
  have := List.all_eq_true.1 hw i hi
  rw [ho] at this
  simp only [Option.map_some, Option.getD_some, Option.isNone_iff_eq_none] at this
  unfold Region.wanted; rw [this]
 refine reg_many2 (D ++ (C ++ E)) Z L0 LM a0 w0 f (fun L vals w => ∃ x k, k ≤ C.length ∧ (∀ p (h : p < C.length), L C[p] = decide (p < k)) ∧ T k x w ∧ (∀ p (h : p < C.length), p < k → vals C[p] = val p x) ∧ (∀ d ∈ D, L d = true → ∃ g, vals d = fv d g ∧ Blk w g (ty d) (zs d) ∧ N ≤ g ∧ ¬ own x g) ∧ (∀ e ∈ E, L e = true → k = C.length ∧ vals e = ew e x))
  n hn hL0 hZ hap hcl hah hsz hLM (fun L vals w h => ?s) ?h0 ?st ?fin
 case s => obtain ⟨x, k, _, _, h, _⟩ := h; exact hS k x w h
 case h0 =>
  simp only [aheadB, Bool.and_eq_true, List.all_eq_true] at hah
  have hL : ∀ i ∈ D ++ (C ++ E), lst L0 i = false := fun i hi => by have := (hah.2 i hi).1.2; simpa using this
  refine ⟨x0, 0, Nat.zero_le _, fun p h => by rw [hL _ (mC p h)]; simp, h0, fun p h e => by omega, fun d hd e => ?_, fun d hd e => ?_⟩
  · rw [hL d (mD d hd)] at e; cases e
  · rw [hL d (mE d hd)] at e; cases e
 case st =>
  intro L vals w a i o hi ho hL hd hJ ev e0 K' hK'
  rw [if_pos (hwant i hi o _ ho)]
  obtain ⟨x, k, hk, hLp, hTk, hv, hB, hE⟩ := hJ
  rcases List.mem_append.1 hi with hi | hi
  · unfold Oper.wp
    rw [hnew i hi o a w ho e0]
    refine hK'.out _ _ ⟨x, k, hk, fun r hr => ?_, hT k x w _ hTk, fun r hr hlt2 => ?_, fun d hdD e => ?_, fun d hdE e => ?_⟩
    · rw [upd_other _ _ _ _ (hq i hi r hr)]; exact hLp r hr
    · rw [upd_other _ _ _ _ (hq i hi r hr)]; exact hv r hr hlt2
    · by_cases hdi : d = i
      · subst hdi
        exact ⟨w.heap.size, by rw [upd_same], Blk.new w (ty d) (zs d), hN k x w hTk, fun e => by have := hlt k x w hTk _ e; omega⟩
      · rw [upd_other _ _ _ _ hdi] at e ⊢
        obtain ⟨g', h5, h6, h7, h8⟩ := hB d hdD e
        exact ⟨g', h5, h6.alloc _, h7, h8⟩
    · rw [upd_other _ _ _ _ (hDE i hi d hdE).symm] at e ⊢
      exact hE d hdE e
  rcases List.mem_append.1 hi with hi | hi
  · obtain ⟨p, hp, rfl⟩ := List.mem_iff_getElem.1 hi
    have h1 := hLp p hp
    rw [hL] at h1
    have h2 : ¬ p < k := by simpa using h1.symm
    have h3 : p = k := by
     cases p with
     | zero => omega
     | succ p =>
       obtain ⟨e, he, h4, h5⟩ := chain_at C hch p hp o ho
       have := hd e he h5
       rw [h4, hLp p (by omega)] at this
       have : p < k := by simpa using this
       omega
    subst h3
    refine hcall p hp o a w x ho e0 (fun r hr t ht => ?_) (fun d hdD hany t ht => ?_) hTk K' ?_
    · rw [ev _ (mC r (by omega)) (by rw [hLp r (by omega)]; simpa using hr) t ht]
      exact hv r (by omega) hr
    · obtain ⟨e, he, h5⟩ := Array.any_eq_true'.1 hany
      simp only [Bool.and_eq_true, beq_iff_eq] at h5
      have hLd : L d = true := by have := hd e he h5.2; rw [h5.1] at this; exact this
      rw [ev d (mD d hdD) hLd t ht]
      exact hB d hdD hLd
    intro u x' w' hu hval hT' hown hkp
    refine hK'.out _ _ ⟨x', p + 1, by omega, fun r hr => ?_, hT', fun r hr hlt2 => ?_, fun d hdD e => ?_, fun d hdE e => ?_⟩
    · by_cases hrp : r = p
      · subst hrp; rw [upd_same]; simp
      · rw [upd_other _ _ _ _ (hne r p hr hp hrp), hLp r hr]
        congr 1
        exact propext ⟨fun h => by omega, fun h => by omega⟩
    · by_cases hrp : r = p
      · subst hrp; rw [upd_same]; exact hu
      · rw [upd_other _ _ _ _ (hne r p hr hp hrp), hv r hr (by omega), hval r (by omega)]
    · rw [upd_other _ _ _ _ (hq d hdD p hp).symm] at e ⊢
      obtain ⟨g', h5, h6, h7, h8⟩ := hB d hdD e
      exact ⟨g', h5, h6.keep hkp h8, h7, fun e => (hown g' e).elim h8 (fun e => by have := h6.lt; omega)⟩
    · rw [upd_other _ _ _ _ (hqE d hdE p hp).symm] at e
      have := (hE d hdE e).1
      omega
  · have hkl : k = C.length := by
      have h1 := List.all_eq_true.1 hbe i hi
      rw [ho] at h1
      simp only [Option.map_some, Option.getD_some] at h1
      obtain ⟨e, he, h5⟩ := Array.any_eq_true'.1 h1
      simp only [Bool.and_eq_true, Bool.or_eq_true, beq_iff_eq] at h5
      have hLe := hd e he h5.2
      rcases h5.1 with h6 | h6
      · obtain ⟨hpos, hlast⟩ := hl
        have hlast2 : C[C.length - 1]'(by omega) = l := by
         rw [List.getElem?_eq_getElem (by omega)] at hlast
         exact Option.some.inj hlast
        rw [h6, ← hlast2, hLp (C.length - 1) (by omega)] at hLe
        have : C.length - 1 < k := by simpa using hLe
        omega
      · exact (hE e.on (by simpa using h6) hLe).1
    subst hkl
    unfold Oper.wp
    rw [hqt i hi o a w x ho (fun r hr t ht => ?a1) (fun j hj hany t ht => ?a2) hTk]
    case a1 =>
     rw [ev _ (mC r hr) (by rw [hLp r hr]; simpa using hr) t ht]
     exact hv r hr hr
    case a2 =>
     obtain ⟨e, he, h5⟩ := Array.any_eq_true'.1 hany
     simp only [Bool.and_eq_true, beq_iff_eq] at h5
     have hLd : L j = true := by have := hd e he h5.2; rw [h5.1] at this; exact this
     rw [ev j (mE j hj) hLd t ht]
     exact (hE j hj hLd).2
    refine hK'.out _ _ ⟨x, C.length, Nat.le_refl _, fun r hr => ?_, hTk, fun r hr hlt2 => ?_, fun d hdD e => ?_, fun d hdE e => ⟨rfl, ?_⟩⟩
    · rw [upd_other _ _ _ _ (hqE i hi r hr)]; exact hLp r hr
    · rw [upd_other _ _ _ _ (hqE i hi r hr)]; exact hv r hr hlt2
    · rw [upd_other _ _ _ _ (hDE d hdD i hi)] at e ⊢
      exact hB d hdD e
    · by_cases hdi : d = i
      · subst hdi; rw [upd_same]
      · rw [upd_other _ _ _ _ hdi] at e ⊢
        exact (hE d hdE e).2
 case fin =>
  intro vals L w hall hJ
  obtain ⟨x, k, hk, hLp, hTk, hv, hB, hE⟩ := hJ
  have hkC : k = C.length := by
   rcases Nat.lt_or_ge k C.length with h | h
   · have h1 := hLp k h
     rw [hall _ (mC k h)] at h1
     simp at h1
   · omega
  subst hkC
  exact hK vals x w (fun p h => hv p h h) (fun d hd => hB d hd (hall d (mD d hd))) (fun e he => (hE e he (hall e (mE e he))).2) hTk
theorem reg_vaultS {X : Type} (C D E : List Nat) (l s d0 : Nat) (Z : List (Nat × Option Tmp)) (L0 LM : Array Bool) (a0 : Act) (w0 : World) (f n : Nat) (T : Nat → X → World → Prop) (own : X → Nat → Prop) (val : Nat → X → Value) (ew : Nat → X → Value) (N : Nat) (ty : Nat → TypeId) (zs : Nat → List Value) (fv : Nat → Nat → Value) (hs : X → List Value)
    (hn : ops.size = n) (hL0 : L0.size = n) (hZ : (D ++ (C ++ (E ++ [s]))).map (fun i => (i, (ops[i]?).bind (·.dst))) = Z)
    (hap : apartB (fun i => (ops[i]?).bind (·.dst)) (D ++ (C ++ (E ++ [s]))) = true) (hcl : closedB md ops (lst L0) = true) (hah : aheadB md ops (lst L0) (D ++ (C ++ (E ++ [s]))) = true) (hch : chainB md ops C = true) (hbe : behindB md ops l E = true) (hse : (((ops[s]?).map fun o => (o.after.any fun e => (e.on == l || E.contains e.on) && Region.binds md e) && (o.after.any fun e => e.on == d0 && Region.binds md e)).getD false) = true) (hd0 : d0 ∈ D) (hl : 0 < C.length ∧ C[C.length - 1]? = some l)
    (hsz : ((D ++ (C ++ (E ++ [s]))).all fun i => match (ops[i]?).bind (·.dst) with | some d => decide (d < a0.tmps.size) | none => true) = true) (hLM : (D ++ (C ++ (E ++ [s]))).foldl (fun l i => l.setIfInBounds i true) L0 = LM)
    (hw : ((D ++ (C ++ (E ++ [s]))).all fun i => ((ops[i]?).map fun o => o.guard.isNone).getD false) = true)
    (hS : ∀ p x w, T p x w → S w) (hN : ∀ p x w, T p x w → N ≤ w.heap.size) (hlt : ∀ p x w, T p x w → ∀ i, own x i → i < w.heap.size) (hT : ∀ p x w o, T p x w → T p x (w.alloc o)) (x0 : X) (h0 : T 0 x0 w0)
    (hcall : ∀ (p : Nat) (h : p < C.length) (o : Oper) (a : Act) (w : World) (x : X), ops[C[p]]? = some o → (∀ t, ((D ++ (C ++ (E ++ [s]))).all fun j => (ops[j]?).bind (·.dst) != some t) = true → a.eval (.tmp t) = a0.eval (.tmp t)) →
      (∀ r (hr : r < p) t, (ops[C[r]]?).bind (·.dst) = some t → a.eval (.tmp t) = val r x) →
      (∀ d ∈ D, (o.after.any fun e => e.on == d && Region.binds md e) = true → ∀ t, (ops[d]?).bind (·.dst) = some t → ∃ g, a.eval (.tmp t) = fv d g ∧ Blk w g (ty d) (zs d) ∧ N ≤ g ∧ ¬ own x g) → T p x w →
      ∀ K' : Act → World → Prop, (∀ u x' w', u = val p x' → (∀ r, r < p → val r x' = val r x) → T (p + 1) x' w' → (∀ i, own x' i → own x i ∨ w.heap.size ≤ i) → Kp (own x) w w' → K' (a.put o.dst u) w') → Oper.wp P o a w K' Q)
    (hnew : ∀ d ∈ D, ∀ (o : Oper) (a : Act) (w : World), ops[d]? = some o → (∀ t, ((D ++ (C ++ (E ++ [s]))).all fun j => (ops[j]?).bind (·.dst) != some t) = true → a.eval (.tmp t) = a0.eval (.tmp t)) → (execOp a.eval o).run P w = .ok (.value (fv d w.heap.size)) (w.alloc (.cells (zs d).toArray (ty d))))
    (hqt : ∀ e ∈ E, ∀ (o : Oper) (a : Act) (w : World) (x : X), ops[e]? = some o → (∀ r (hr : r < C.length) t, (ops[C[r]]?).bind (·.dst) = some t → a.eval (.tmp t) = val r x) →
      (∀ j ∈ E, (o.after.any fun e => e.on == j && Region.binds md e) = true → ∀ t, (ops[j]?).bind (·.dst) = some t → a.eval (.tmp t) = ew j x) → T C.length x w → (execOp a.eval o).run P w = .ok (.value (ew e x)) w)
    (hTg : ∀ x w w' g, T C.length x w → N ≤ g → ¬ own x g → Kp (fun i => i = g) w w' → T C.length x w')
    (hst : ∀ (o : Oper) (a : Act) (w : World) (x : X) (g : Nat), ops[s]? = some o → (∀ j ∈ E, (o.after.any fun e => e.on == j && Region.binds md e) = true → ∀ t, (ops[j]?).bind (·.dst) = some t → a.eval (.tmp t) = ew j x) →
      (∀ t, (ops[d0]?).bind (·.dst) = some t → a.eval (.tmp t) = fv d0 g) → Blk w g (ty d0) (zs d0) → T C.length x w → ∀ K' : Act → World → Prop, (∀ w', Blk w' g (ty d0) (hs x) → Kp (fun i => i = g) w w' → K' (a.put o.dst undef) w') → Oper.wp P o a w K' Q)
    (hK : ∀ (vals : Nat → Value) (x : X) (w : World), (∀ p (h : p < C.length), vals C[p] = val p x) → (∃ g, vals d0 = fv d0 g ∧ Blk w g (ty d0) (hs x) ∧ N ≤ g ∧ ¬ own x g) → (∀ e ∈ E, vals e = ew e x) → vals s = undef → T C.length x w → wpAnyH P md ops Q S f LM (putZ vals Z a0) w) :
    wpAnyH P md ops Q S (f + (D ++ (C ++ (E ++ [s]))).length) L0 a0 w0 := by
 have hpw := apart_of _ _ hap
 have hpC := (List.pairwise_append.1 (List.pairwise_append.1 hpw).2.1)
 have mC : ∀ p (h : p < C.length), C[p] ∈ D ++ (C ++ (E ++ [s])) := fun p h => List.mem_append_right _ (List.mem_append_left _ (List.getElem_mem h))
 have mD : ∀ d ∈ D, d ∈ D ++ (C ++ (E ++ [s])) := fun d h => List.mem_append_left _ h
 have mE : ∀ d ∈ E, d ∈ D ++ (C ++ (E ++ [s])) := fun d h => List.mem_append_right _ (List.mem_append_right _ (List.mem_append_left _ h))
 have mS : s ∈ D ++ (C ++ (E ++ [s])) := by simp
 have hne : ∀ p r (h : p < C.length) (h' : r < C.length), p ≠ r → C[p] ≠ C[r] := by
  intro p r h h' hpr e
  rcases Nat.lt_or_ge p r with hlt | hge
  · exact (List.pairwise_iff_getElem.1 hpC.1 p r h h' hlt).1 e
  · exact (List.pairwise_iff_getElem.1 hpC.1 r p h' h (by omega)).1 e.symm
 have hq : ∀ d ∈ D, ∀ p (h : p < C.length), C[p] ≠ d := fun d hd p h e => ((List.pairwise_append.1 hpw).2.2 d hd C[p] (List.mem_append_left _ (List.getElem_mem h))).1 e.symm
 have hqE : ∀ d ∈ E, ∀ p (h : p < C.length), C[p] ≠ d := fun d hd p h e => (hpC.2.2 C[p] (List.getElem_mem h) d (List.mem_append_left _ hd)).1 e
 have hqS : ∀ p (h : p < C.length), C[p] ≠ s := fun p h e => (hpC.2.2 C[p] (List.getElem_mem h) s (by simp)).1 e
 have hES : ∀ d ∈ E, d ≠ s := fun d hd e => ((List.pairwise_append.1 hpC.2.1).2.2 d hd s (by simp)).1 e
 have hDS : ∀ d ∈ D, d ≠ s := fun d hd e => ((List.pairwise_append.1 hpw).2.2 d hd s (by simp)).1 e
 have hDE : ∀ d ∈ D, ∀ e ∈ E, d ≠ e := fun d hd e he h => ((List.pairwise_append.1 hpw).2.2 d hd e (List.mem_append_right _ (List.mem_append_left _ he))).1 h
 have hwant : ∀ i ∈ D ++ (C ++ (E ++ [s])), ∀ (o : Oper) (y : Nat → Option Bool), ops[i]? = some o → Region.wanted o y = true := by
  intro i hi o y ho
  have := List.all_eq_true.1 hw i hi
  rw [ho] at this
  simp only [Option.map_some, Option.getD_some, Option.isNone_iff_eq_none] at this
  unfold Region.wanted; rw [this]
 refine reg_many2 (D ++ (C ++ (E ++ [s]))) Z L0 LM a0 w0 f (fun L vals w => ∃ x k, k ≤ C.length ∧ (∀ p (h : p < C.length), L C[p] = decide (p < k)) ∧ T k x w ∧ (∀ p (h : p < C.length), p < k → vals C[p] = val p x) ∧ (∀ d ∈ D, L d = true → ∃ g, vals d = fv d g ∧ (L s = false → Blk w g (ty d) (zs d)) ∧ (L s = true → d = d0 → Blk w g (ty d) (hs x)) ∧ N ≤ g ∧ g < w.heap.size ∧ ¬ own x g) ∧ (∀ e ∈ E, L e = true → k = C.length ∧ vals e = ew e x) ∧ (L s = true → k = C.length ∧ vals s = undef ∧ L d0 = true))
  n hn hL0 hZ hap hcl hah hsz hLM (fun L vals w h => ?s) ?h0 ?st ?fin
 case s => obtain ⟨x, k, _, _, h, _⟩ := h; exact hS k x w h
 case h0 =>
  simp only [aheadB, Bool.and_eq_true, List.all_eq_true] at hah
  have hL : ∀ i ∈ D ++ (C ++ (E ++ [s])), lst L0 i = false := fun i hi => by have := (hah.2 i hi).1.2; simpa using this
  refine ⟨x0, 0, Nat.zero_le _, fun p h => by rw [hL _ (mC p h)]; simp, h0, fun p h e => by omega, fun d hd e => ?_, fun d hd e => ?_, fun e => ?_⟩
  · rw [hL d (mD d hd)] at e; cases e
  · rw [hL d (mE d hd)] at e; cases e
  · rw [hL s mS] at e; cases e
 case st =>
  intro L vals w a i o hi ho hL hd hJ ev e0 K' hK'
  rw [if_pos (hwant i hi o _ ho)]
  obtain ⟨x, k, hk, hLp, hTk, hv, hB, hE, hSs⟩ := hJ
  rcases List.mem_append.1 hi with hi | hi
  · unfold Oper.wp
    rw [hnew i hi o a w ho e0]
    refine hK'.out _ _ ⟨x, k, hk, fun r hr => ?_, hT k x w _ hTk, fun r hr hlt2 => ?_, fun d hdD e => ?_, fun d hdE e => ?_, fun e => ?_⟩
    · rw [upd_other _ _ _ _ (hq i hi r hr)]; exact hLp r hr
    · rw [upd_other _ _ _ _ (hq i hi r hr)]; exact hv r hr hlt2
    · rw [upd_other _ _ _ _ (hDS i hi).symm]
      by_cases hdi : d = i
      · subst hdi
        exact ⟨w.heap.size, by rw [upd_same], fun _ => Blk.new w (ty d) (zs d), (fun e1 e2 => by have := (hSs e1).2.2; rw [← e2, hL] at this; cases this), hN k x w hTk, by simp, fun e => by have := hlt k x w hTk _ e; omega⟩
      · rw [upd_other _ _ _ _ hdi] at e ⊢
        obtain ⟨g', h5, h6, h9, h7, h10, h8⟩ := hB d hdD e
        exact ⟨g', h5, fun e => (h6 e).alloc _, fun e1 e2 => (h9 e1 e2).alloc _, h7, by simp; omega, h8⟩
    · rw [upd_other _ _ _ _ (hDE i hi d hdE).symm] at e ⊢
      exact hE d hdE e
    · rw [upd_other _ _ _ _ (hDS i hi).symm] at e ⊢
      obtain ⟨a1, a2, a3⟩ := hSs e
      refine ⟨a1, a2, ?_⟩
      by_cases hdi : d0 = i
      · rw [hdi, upd_same]
      · rw [upd_other _ _ _ _ hdi]; exact a3
  rcases List.mem_append.1 hi with hi | hi
  · obtain ⟨p, hp, rfl⟩ := List.mem_iff_getElem.1 hi
    have h1 := hLp p hp
    rw [hL] at h1
    have h2 : ¬ p < k := by simpa using h1.symm
    have h3 : p = k := by
     cases p with
     | zero => omega
     | succ p =>
       obtain ⟨e, he, h4, h5⟩ := chain_at C hch p hp o ho
       have := hd e he h5
       rw [h4, hLp p (by omega)] at this
       have : p < k := by simpa using this
       omega
    subst h3
    have hLs : L s = false := by
     cases h : L s with
     | false => rfl
     | true => have := (hSs h).1; omega
    refine hcall p hp o a w x ho e0 (fun r hr t ht => ?_) (fun d hdD hany t ht => ?_) hTk K' ?_
    · rw [ev _ (mC r (by omega)) (by rw [hLp r (by omega)]; simpa using hr) t ht]
      exact hv r (by omega) hr
    · obtain ⟨e, he, h5⟩ := Array.any_eq_true'.1 hany
      simp only [Bool.and_eq_true, beq_iff_eq] at h5
      have hLd : L d = true := by have := hd e he h5.2; rw [h5.1] at this; exact this
      rw [ev d (mD d hdD) hLd t ht]
      obtain ⟨g', h5, h6, h9, h7, h10, h8⟩ := hB d hdD hLd
      exact ⟨g', h5, h6 hLs, h7, h8⟩
    intro u x' w' hu hval hT' hown hkp
    refine hK'.out _ _ ⟨x', p + 1, by omega, fun r hr => ?_, hT', fun r hr hlt2 => ?_, fun d hdD e => ?_, fun d hdE e => ?_, fun e => ?_⟩
    · by_cases hrp : r = p
      · subst hrp; rw [upd_same]; simp
      · rw [upd_other _ _ _ _ (hne r p hr hp hrp), hLp r hr]
        congr 1
        exact propext ⟨fun h => by omega, fun h => by omega⟩
    · by_cases hrp : r = p
      · subst hrp; rw [upd_same]; exact hu
      · rw [upd_other _ _ _ _ (hne r p hr hp hrp), hv r hr (by omega), hval r (by omega)]
    · rw [upd_other _ _ _ _ (hq d hdD p hp).symm] at e ⊢
      rw [upd_other _ _ _ _ (hqS p hp).symm]
      obtain ⟨g', h5, h6, h9, h7, h10, h8⟩ := hB d hdD e
      exact ⟨g', h5, fun e => (h6 e).keep hkp h8, (fun e => by rw [hLs] at e; cases e), h7, Nat.lt_of_lt_of_le h10 hkp.size, fun e => (hown g' e).elim h8 (fun e => by omega)⟩
    · rw [upd_other _ _ _ _ (hqE d hdE p hp).symm] at e
      have := (hE d hdE e).1
      omega
    · rw [upd_other _ _ _ _ (hqS p hp).symm, hLs] at e; cases e
  rcases List.mem_append.1 hi with hi | hi
  · have hkl : k = C.length := by
      have h1 := List.all_eq_true.1 hbe i hi
      rw [ho] at h1
      simp only [Option.map_some, Option.getD_some] at h1
      obtain ⟨e, he, h5⟩ := Array.any_eq_true'.1 h1
      simp only [Bool.and_eq_true, Bool.or_eq_true, beq_iff_eq] at h5
      have hLe := hd e he h5.2
      rcases h5.1 with h6 | h6
      · obtain ⟨hpos, hlast⟩ := hl
        have hlast2 : C[C.length - 1]'(by omega) = l := by
         rw [List.getElem?_eq_getElem (by omega)] at hlast
         exact Option.some.inj hlast
        rw [h6, ← hlast2, hLp (C.length - 1) (by omega)] at hLe
        have : C.length - 1 < k := by simpa using hLe
        omega
      · exact (hE e.on (by simpa using h6) hLe).1
    subst hkl
    unfold Oper.wp
    rw [hqt i hi o a w x ho (fun r hr t ht => ?a1) (fun j hj hany t ht => ?a2) hTk]
    case a1 =>
     rw [ev _ (mC r hr) (by rw [hLp r hr]; simpa using hr) t ht]
     exact hv r hr hr
    case a2 =>
     obtain ⟨e, he, h5⟩ := Array.any_eq_true'.1 hany
     simp only [Bool.and_eq_true, beq_iff_eq] at h5
     have hLd : L j = true := by have := hd e he h5.2; rw [h5.1] at this; exact this
     rw [ev j (mE j hj) hLd t ht]
     exact (hE j hj hLd).2
    refine hK'.out _ _ ⟨x, C.length, Nat.le_refl _, fun r hr => ?_, hTk, fun r hr hlt2 => ?_, fun d hdD e => ?_, fun d hdE e => ⟨rfl, ?_⟩, fun e => ?_⟩
    · rw [upd_other _ _ _ _ (hqE i hi r hr)]; exact hLp r hr
    · rw [upd_other _ _ _ _ (hqE i hi r hr)]; exact hv r hr hlt2
    · rw [upd_other _ _ _ _ (hDE d hdD i hi)] at e ⊢
      rw [upd_other _ _ _ _ (hES i hi).symm]
      exact hB d hdD e
    · by_cases hdi : d = i
      · subst hdi; rw [upd_same]
      · rw [upd_other _ _ _ _ hdi] at e ⊢
        exact (hE d hdE e).2
    · rw [upd_other _ _ _ _ (hES i hi).symm] at e ⊢
      rw [upd_other _ _ _ _ (hDE d0 hd0 i hi)]
      exact hSs e
  · obtain rfl : i = s := by simpa using hi
    have h1 := hse
    rw [ho] at h1
    simp only [Option.map_some, Option.getD_some, Bool.and_eq_true] at h1
    have hkl : k = C.length := by
     obtain ⟨e, he, h5⟩ := Array.any_eq_true'.1 h1.1
     simp only [Bool.and_eq_true, Bool.or_eq_true, beq_iff_eq] at h5
     have hLe := hd e he h5.2
     rcases h5.1 with h6 | h6
     · obtain ⟨hpos, hlast⟩ := hl
       have hlast2 : C[C.length - 1]'(by omega) = l := by
        rw [List.getElem?_eq_getElem (by omega)] at hlast
        exact Option.some.inj hlast
       rw [h6, ← hlast2, hLp (C.length - 1) (by omega)] at hLe
       have : C.length - 1 < k := by simpa using hLe
       omega
     · exact (hE e.on (by simpa using h6) hLe).1
    subst hkl
    have hLd0 : L d0 = true := by
     obtain ⟨e, he, h5⟩ := Array.any_eq_true'.1 h1.2
     simp only [Bool.and_eq_true, beq_iff_eq] at h5
     have := hd e he h5.2; rw [h5.1] at this; exact this
    obtain ⟨g, h5, h6, h9, h7, h10, h8⟩ := hB d0 hd0 hLd0
    refine hst o a w x g ho (fun j hj hany t ht => ?_) (fun t ht => by rw [ev d0 (mD d0 hd0) hLd0 t ht]; exact h5) (h6 hL) hTk K' ?_
    · obtain ⟨e, he, h5⟩ := Array.any_eq_true'.1 hany
      simp only [Bool.and_eq_true, beq_iff_eq] at h5
      have hLd : L j = true := by have := hd e he h5.2; rw [h5.1] at this; exact this
      rw [ev j (mE j hj) hLd t ht]
      exact (hE j hj hLd).2
    intro w' hb' hk'
    refine hK'.out _ _ ⟨x, C.length, Nat.le_refl _, fun r hr => ?_, hTg x w w' g hTk h7 h8 hk', fun r hr hlt2 => ?_, fun d hdD e => ?_, fun d hdE e => ⟨rfl, ?_⟩, fun e => ⟨rfl, by rw [upd_same], by rw [upd_other _ _ _ _ (hDS d0 hd0)]; exact hLd0⟩⟩
    · rw [upd_other _ _ _ _ (hqS r hr)]; exact hLp r hr
    · rw [upd_other _ _ _ _ (hqS r hr)]; exact hv r hr hlt2
    · rw [upd_other _ _ _ _ (hDS d hdD)] at e ⊢
      rw [upd_same]
      by_cases hdd : d = d0
      · subst hdd
        exact ⟨g, h5, (fun e => by cases e), fun _ _ => hb', h7, hb'.lt, h8⟩
      · obtain ⟨g', b5, b6, b9, b7, b10, b8⟩ := hB d hdD e
        exact ⟨g', b5, (fun e => by cases e), fun _ e => absurd e hdd, b7, Nat.lt_of_lt_of_le b10 hk'.size, b8⟩
    · rw [upd_other _ _ _ _ (hES d hdE)] at e ⊢
      exact (hE d hdE e).2
 case fin =>
  intro vals L w hall hJ
  obtain ⟨x, k, hk, hLp, hTk, hv, hB, hE, hSs⟩ := hJ
  have hkC : k = C.length := by
   rcases Nat.lt_or_ge k C.length with h | h
   · have h1 := hLp k h
     rw [hall _ (mC k h)] at h1
     simp at h1
   · omega
  subst hkC
  obtain ⟨g, h5, h6, h9, h7, h10, h8⟩ := hB d0 hd0 (hall d0 (mD d0 hd0))
  exact hK vals x w (fun p h => hv p h h) ⟨g, h5, h9 (hall s mS) rfl, h7, h8⟩ (fun e he => (hE e he (hall e (mE e he))).2) (hSs (hall s mS)).2.1 hTk
end
end Kit
end Go.Proofs.YtigdlnfgdjfdoaaGreat
