/- Lemmas: Kit DiskS CodeNS ChaS ChaP ChaQ. -/
import Derived.WalkKit
import Derived.WalkSpells
import Derived.WalkLawsBesides
import Derived.Maps.AppendAt
import Derived.Deep.AppendLies
import Derived.Lib.AppendStr
import Derived.Lib.LazyBuf
import Derived.Lib.Hide
import Derived.SizedLaws
import Derived.Laws.IdiomStrings
set_option linter.unusedVariables false
set_option linter.unusedSimpArgs false
namespace Go.Proofs.Ytndkmfflpphoiaa.Kit
open Go Go.RowKit
/-- A byte as a cell, bytes as cells. -/
def bv (b : UInt8) : Value := .int .u8 (b.toNat : Int)
def bvs (l : List UInt8) : List Value := l.map bv
@[simp] theorem bvs_length (l : List UInt8) : (bvs l).length = l.length := by simp [bvs]
theorem bvs_append (l m : List UInt8) : bvs (l ++ m) = bvs l ++ bvs m := by simp [bvs]
theorem bvs_one (l : List UInt8) : ∀ u ∈ bvs l, u.oneCell' = true := by
  intro u hu; simp only [bvs, List.mem_map] at hu; obtain ⟨b, _, rfl⟩ := hu; rfl
theorem bvs_get {l : List UInt8} {i : Nat} (h : i < l.length) : (bvs l)[i]? = some (bv l[i]) := by simp [bvs, h]
theorem bv_ofNat (x : Nat) : bv (UInt8.ofNat x) = .int .u8 ((x : Int) % 256) := by simp [bv]
/-- What a call keeps: all blocks that were there but those of F are as they were. -/
structure Kp (F : Nat → Prop) (w w' : World) : Prop where
  os : w'.os = w.os
  tape : w'.tape = w.tape
  output : w'.output = w.output
  size : w.heap.size ≤ w'.heap.size
  block : ∀ k, k < w.heap.size → ¬ F k → w'.heap[k]? = w.heap[k]?
def nob : Nat → Prop := fun _ => False
theorem Kp.refl (F : Nat → Prop) (w : World) : Kp F w w := ⟨rfl, rfl, rfl, Nat.le_refl _, fun _ _ _ => rfl⟩
theorem Kp.trans {F G : Nat → Prop} {a b c : World} (h : Kp F a b) (k : Kp G b c) (hg : ∀ i, G i → F i ∨ a.heap.size ≤ i) : Kp F a c :=
  ⟨k.os.trans h.os, k.tape.trans h.tape, k.output.trans h.output, Nat.le_trans h.size k.size,
   fun i hi hf => (k.block i (Nat.lt_of_lt_of_le hi h.size) (fun e => (hg i e).elim hf (fun h => by omega))).trans (h.block i hi hf)⟩
theorem Kp.mono {F G : Nat → Prop} {a b : World} (h : Kp F a b) (hg : ∀ i, i < a.heap.size → F i → G i) : Kp G a b :=
  ⟨h.os, h.tape, h.output, h.size, fun i hi hf => h.block i hi (fun e => hf (hg i hi e))⟩
theorem Kp.drew {F : Nat → Prop} {a b : World} (h : Kp F a b) : Kp F a b.drew := ⟨h.os, h.tape, h.output, h.size, h.block⟩
theorem Kp.drewN {F : Nat → Prop} {a b : World} (h : Kp F a b) (n : Nat) : Kp F a (b.drewN n) := ⟨h.os, h.tape, h.output, h.size, h.block⟩
theorem Kp.alloc {F : Nat → Prop} {a b : World} (h : Kp F a b) (o : Obj) : Kp F a (b.alloc o) :=
  ⟨h.os, h.tape, h.output, Nat.le_trans h.size (by simp), fun k hk hf => (Below.heap_alloc b o k (Nat.lt_of_lt_of_le hk h.size)).trans (h.block k hk hf)⟩
theorem Kp.setCell {F : Nat → Prop} {a b : World} (h : Kp F a b) {p : Addr} (hp : F p.block ∨ a.heap.size ≤ p.block) (u : Value) : Kp F a (b.setCell p u) :=
  ⟨h.os, h.tape, h.output, Nat.le_trans h.size (by simp [World.setCell]), fun k hk hf => (Below.heap_setCell b p u k (fun e => by subst e; rcases hp with hp | hp; exact hf hp; omega)).trans (h.block k hk hf)⟩
theorem Kp.grown {F : Nat → Prop} {a b c : World} (h : Kp F a b) {row : Option Nat} (hg : b.grownBy c row) (hr : ∀ k, row = some k → F k ∨ a.heap.size ≤ k) : Kp F a c :=
  ⟨hg.os.trans h.os, hg.tape.trans h.tape, hg.output.trans h.output, Nat.le_trans h.size hg.size,
   fun k hk hf => (hg.block k (Nat.lt_of_lt_of_le hk h.size) (fun e => (hr k e.symm).elim hf (fun h => by omega))).trans (h.block k hk hf)⟩
theorem Kp.below {B : Nat} {w w' : World} {F : Nat → Prop} (h : Kp F w w') (hF : ∀ k, F k → B ≤ k) (hB : B ≤ w.heap.size) : Below B w w' :=
  ⟨h.os, h.tape, h.output, h.size, fun k hk => h.block k (by omega) (fun e => by have := hF k e; omega)⟩
theorem Kp.of_below {w w' : World} (h : Below w.heap.size w w') : Kp nob w w' :=
  ⟨h.os, h.tape, h.output, h.size, fun k hk _ => h.block k hk⟩
theorem Kp.nob {w w' : World} (h : Kp nob w w') (F : Nat → Prop) : Kp F w w' := h.mono (fun _ _ e => e.elim)
theorem Kp.to_below {w w' : World} (h : Kp Kit.nob w w') : Below w.heap.size w w' := h.below (fun _ e => e.elim) (Nat.le_refl _)
theorem Kp.cell {F : Nat → Prop} {w w' : World} (h : Kp F w w') {p : Addr} (hp : p.block < w.heap.size) (hf : ¬ F p.block) : w'.cell? p = w.cell? p := World.cell?_of_block (h.block _ hp hf)
theorem Kp.frozen {F : Nat → Prop} {w w' : World} (h : Kp F w w') {p : Addr} (hp : p.block < w.heap.size) (hf : ¬ F p.block) : w'.frozen? p = w.frozen? p := World.frozen?_of_block (h.block _ hp hf)
/-- The block of a slice's address. -/
def ab : Option Addr → Option Nat
  | some a => some a.block
  | none => none
theorem ab_own (A : Option Addr) (n c : Nat) : (Value.slice A n c).ownBlock = ab A := by cases A <;> rfl
/-- The slice '.slice A xs.length c' reads the cells xs. -/
def Row (w : World) (A : Option Addr) (xs : List Value) : Prop :=
  xs = [] ∨ ∃ b o, A = some ⟨b, o, none⟩ ∧ b < w.heap.size ∧ ∀ i u, xs[i]? = some u → w.cell? ⟨b, o + i, none⟩ = some u
theorem Row.nil (w : World) (A : Option Addr) : Row w A [] := .inl rfl
theorem Row.keep {F : Nat → Prop} {w w' : World} {A : Option Addr} {xs : List Value} (h : Row w A xs) (hk : Kp F w w') (hf : ∀ k, ab A = some k → ¬ F k) : Row w' A xs := by
  rcases h with rfl | ⟨b, o, rfl, hb, hc⟩
  · exact .inl rfl
  · exact .inr ⟨b, o, rfl, Nat.lt_of_lt_of_le hb hk.size, fun i u hu => (hk.cell (p := ⟨b, o + i, none⟩) hb (hf b rfl)).trans (hc i u hu)⟩
theorem Row.keep0 {w w' : World} {A : Option Addr} {xs : List Value} (h : Row w A xs) (hk : Kp Kit.nob w w') : Row w' A xs := h.keep hk (fun _ _ e => e)
theorem Row.lt {w : World} {A : Option Addr} {xs : List Value} (h : Row w A xs) (hx : xs ≠ []) : ∀ k, ab A = some k → k < w.heap.size := by
  rcases h with rfl | ⟨b, o, rfl, hb, _⟩
  · exact absurd rfl hx
  · intro k hk; cases hk; exact hb
theorem Row.at_ {w : World} {A : Option Addr} {xs : List Value} (h : Row w A xs) {i : Nat} (hi : i < xs.length) : ∃ b o, A = some ⟨b, o, none⟩ ∧ b < w.heap.size ∧ w.cell? ⟨b, o + i, none⟩ = some xs[i] := by
  rcases h with rfl | ⟨b, o, rfl, hb, hc⟩
  · simp at hi
  · exact ⟨b, o, rfl, hb, hc i _ (List.getElem?_eq_getElem hi)⟩
theorem Row.drop {w : World} {A : Option Addr} {xs : List Value} (h : Row w A xs) (k : Nat) : Row w (A.map (·.add k)) (xs.drop k) := by
  rcases h with rfl | ⟨b, o, rfl, hb, hc⟩
  · exact .inl (by simp)
  · refine .inr ⟨b, o + k, ?_, hb, fun i u hu => ?_⟩
    · by_cases hk : k = 0 <;> simp [Addr.add, hk]
    · rw [List.getElem?_drop] at hu
      have := hc (k + i) u hu
      rwa [← Nat.add_assoc] at this
theorem Row.take {w : World} {A : Option Addr} {xs : List Value} (h : Row w A xs) (k : Nat) : Row w A (xs.take k) := by
  rcases h with rfl | ⟨b, o, rfl, hb, hc⟩
  · exact .inl (by simp)
  · refine .inr ⟨b, o, rfl, hb, fun i u hu => ?_⟩
    rw [List.getElem?_take] at hu
    split at hu
    · exact hc i u hu
    · cases hu
/-- The slice '.slice A n c' of elements of type e owns the cells xs. -/
def Own (e : TypeId) (w : World) (A : Option Addr) (n c : Nat) (xs : List Value) : Prop := w.ownsRow 0 e 1 (.slice A n c) n xs
theorem Own.len {e : TypeId} {w : World} {A : Option Addr} {n c : Nat} {xs : List Value} (h : Own e w A n c xs) : xs.length = n := by simpa using h.1
theorem Own.nil (e : TypeId) (w : World) : Own e w none 0 0 [] := World.ownsRow_nil w 0 e 1
theorem Own.row {e : TypeId} {w : World} {A : Option Addr} {n c : Nat} {xs : List Value} (h : Own e w A n c xs) : Row w A xs := by
  rcases h.2 with ⟨h1, h2⟩ | ⟨g, cap, cur, h1, _, hg, hnc, hcm, hcs, ht⟩
  · exact .inl (List.eq_nil_of_length_eq_zero (by rw [h.len]; exact h2))
  · cases h1
    refine .inr ⟨g, 0, rfl, ?_, fun i u hu => ?_⟩
    · rcases Nat.lt_or_ge g w.heap.size with hlt | hge
      · exact hlt
      · rw [Array.getElem?_eq_none hge] at hg; cases hg
    · have := h.cells (g := g) rfl i u hu
      by_cases hi : i = 0 <;> simpa [Addr.add, hi] using this
theorem Own.lt {e : TypeId} {w : World} {A : Option Addr} {n c : Nat} {xs : List Value} (h : Own e w A n c xs) : ∀ k, ab A = some k → k < w.heap.size :=
  fun k hk => (World.ownsRow.lt h k (by rw [ab_own]; exact hk)).2
theorem Own.keep {e : TypeId} {F : Nat → Prop} {w w' : World} {A : Option Addr} {n c : Nat} {xs : List Value} (h : Own e w A n c xs) (hk : Kp F w w') (hf : ∀ k, ab A = some k → ¬ F k) : Own e w' A n c xs := by
  refine ⟨h.1, ?_⟩
  rcases h.2 with h1 | ⟨g, cap, cur, h1, h0, hg, r⟩
  · exact .inl h1
  · refine .inr ⟨g, cap, cur, h1, h0, ?_, r⟩
    have hA : A = some ⟨g, 0, none⟩ := by injection h1
    rw [hk.block g (h.lt g (by rw [hA]; rfl)) (hf g (by rw [hA]; rfl))]
    exact hg
theorem Own.alloc {e : TypeId} {w : World} {A : Option Addr} {n c : Nat} {xs : List Value} (h : Own e w A n c xs) (o : Obj) : Own e (w.alloc o) A n c xs := h.keep ((Kp.refl Kit.nob w).alloc o) (fun _ _ e => e)
theorem Row.alloc {w : World} {A : Option Addr} {xs : List Value} (h : Row w A xs) (o : Obj) : Row (w.alloc o) A xs := h.keep ((Kp.refl Kit.nob w).alloc o) (fun _ _ e => e)
theorem Own.cap {e : TypeId} {w : World} {A : Option Addr} {n c : Nat} {xs : List Value} (h : Own e w A n c xs) : n ≤ c ∧ c ≤ maxLen := by
  rcases h.2 with ⟨h1, h2⟩ | ⟨g, cap, cur, h1, _, hg, hnc, hcm, hcs, ht⟩
  · injection h1 with _ _ h3; subst h3; subst h2; exact ⟨Nat.le_refl _, by simp [maxLen]⟩
  · injection h1 with _ _ h3; subst h3; exact ⟨hnc, hcm⟩
/-- A cell of an owned row may be written. -/
theorem Own.frozen {e : TypeId} {w : World} {A : Option Addr} {n c : Nat} {xs : List Value} (h : Own e w A n c xs) {a : Addr} (ha : A = some a) (j : Nat) : w.frozen? ⟨a.block, j, none⟩ = false := by
  rcases h.2 with ⟨h1, h2⟩ | ⟨g, cap, cur, h1, _, hg, hnc, hcm, hcs, ht⟩
  · rw [ha] at h1; injection h1 with h1; cases h1
  · rw [ha] at h1; injection h1 with h1; injection h1 with h1; subst h1
    simp [World.frozen?, hg]
theorem Own.at_ {e : TypeId} {w : World} {A : Option Addr} {n c : Nat} {xs : List Value} (h : Own e w A n c xs) {i : Nat} (hi : i < n) :
    ∃ b, A = some ⟨b, 0, none⟩ ∧ b < w.heap.size ∧ w.cell? ⟨b, i, none⟩ = some (xs[i]'(by rw [h.len]; exact hi)) ∧ w.frozen? ⟨b, i, none⟩ = false ∧ ∀ u, Own e (w.setCell ⟨b, i, none⟩ u) A n c (xs.set i u) := by
  obtain ⟨b, o, hA, hb, hc⟩ := h.row.at_ (i := i) (by rw [h.len]; exact hi)
  have hf := h.frozen hA i
  rcases h.2 with ⟨h1, _⟩ | ⟨g, cap, cur, h1, _⟩
  · rw [hA] at h1; injection h1 with h1; cases h1
  · rw [hA] at h1; injection h1 with h1; injection h1 with h1; injection h1 with h1 h2
    subst h2
    refine ⟨b, hA, hb, by simpa using hc, hf, fun u => ?_⟩
    subst hA
    have := (World.ownsRow.stored (w := w) h i u).1
    simpa [Own] using this
theorem Own.set {e : TypeId} {w : World} {b n c : Nat} {xs : List Value} (h : Own e w (some ⟨b, 0, none⟩) n c xs) (i : Nat) (u : Value) : Own e (w.setCell ⟨b, i, none⟩ u) (some ⟨b, 0, none⟩) n c (xs.set i u) :=
  (World.ownsRow.stored (w := w) h i u).1
theorem Own.far {e : TypeId} {w : World} {A : Option Addr} {n c : Nat} {xs : List Value} (h : Own e w A n c xs) (p : Addr) (u : Value) (hp : ∀ k, ab A = some k → k ≠ p.block) : Own e (w.setCell p u) A n c xs :=
  h.keep (F := fun k => k = p.block) ((Kp.refl (fun k => k = p.block) w).setCell (.inl rfl) u) (fun k e e' => hp k e e')
/-- A new block known whole. -/
theorem row_new (w : World) (xs : List Value) (t : TypeId) : Row (w.alloc (.cells xs.toArray t)) (some ⟨w.heap.size, 0, none⟩) xs := by
  refine .inr ⟨w.heap.size, 0, rfl, by simp, fun i u hu => ?_⟩
  rw [World.cell?_alloc_at _ _ _ _ rfl]
  simpa using hu
theorem bvs_set (l : List UInt8) (i x : Nat) : (bvs l).set i (.int .u8 ((x : Int) % 256)) = bvs (l.set i (UInt8.ofNat x)) := by
  rw [← bv_ofNat, bvs, bvs, List.map_set]
/-- APPEND OF A ROW onto an owned row (a nil row, too). -/
theorem wpList_appR {P : Program} (w : World) {ops : Array Oper} {rest : List Oper} {o : Oper} {a : Act} {Q : Exit → Act → World → Prop} (hgd : o.guard = none) (s x : Operand) (t : TypeId)
    (ho : o.op = .call { callee := .builtin .append, args := #[s, x], argTypes := #[t, t] })
    (e : TypeId) (i : TypeInfo) (z : Value) (bytes : Nat) (ht : P.underlying t = some (.slice e)) (hi : P.info? e = some i) (hz : i.zero = some z)
    (hsize : i.size = 1) (hby : i.bytes = bytes) (hzs : z.cells.size = 1)
    (A : Option Addr) (n c : Nat) (xs : List Value) (hs : a.eval s = .slice A n c) (hown : Own e w A n c xs)
    (B : Option Addr) (m d : Nat) (ys : List Value) (hx : a.eval x = .slice B m d) (hB : B = none → d = 0) (hm : ys.length = m) (hrow : Row w B ys) (h1 : ∀ u ∈ ys, u.oneCell' = true)
    (hbytes : (n + m) * bytes ≤ 140737488355328) (h63 : n + m ≤ 140737488355328)
    (h : ∀ A' c' w', Own e w' A' (n + m) c' (xs ++ ys) → w.grownBy w' (ab A) → (ab A' = ab A ∨ ab A' = some w.heap.size) → wpList P ops Q rest (a.put o.dst (.slice A' (n + m) c')) w') : wpList P ops Q (o :: rest) a w := by
  refine wpList_plain hgd fun _ hK => ?_
  have hmx : n + m ≤ maxLen := by unfold maxLen; omega
  have key : ∃ A' c' w', (Builtin.append_ #[t, t] o.type #[.slice A n c, .slice B m d]).run P w = .ok (.slice A' (n + m) c') w' ∧ Own e w' A' (n + m) c' (xs ++ ys) ∧ w.grownBy w' (ab A) ∧ (ab A' = ab A ∨ ab A' = some w.heap.size) := by
    cases B with
    | none =>
      have hd := hB rfl
      have hy : ys = [] := by
        rcases hrow with rfl | ⟨b, o, h, _⟩
        · rfl
        · cases h
      subst hy
      obtain rfl : m = 0 := by simpa using hm.symm
      have hc := hown.cap.1
      refine ⟨A, c, w, ?_, by simpa using hown, World.grownBy.refl _ _, .inl rfl⟩
      cases A <;> simp [Builtin.append_, run_underlying ht, sizeOf, typeInfo, hi, Builtin.lenOf, Builtin.firstCells, hc, storeCells]
    | some ad =>
      have hnews : ∀ j u, ys[j]? = some u → w.cell? (ad.add j) = some u := by
        intro j u hu
        rcases hrow with rfl | ⟨b, o, h, _, hcell⟩
        · simp at hu
        · cases h
          have := hcell j u hu
          by_cases hj : j = 0 <;> simpa [Addr.add, hj] using this
      obtain ⟨v', w', hr, h2, h3, h4, h5⟩ := run_append_own_at (P := P) w 0 t o.type e i z 1 bytes ht hi hz hsize hby hzs (by decide) (.slice A n c) n xs hown ad m d ys (by simpa using hm) hnews h1 hmx hbytes (Nat.zero_le _)
      rw [ab_own] at h3 h5
      have hv : ∃ A' c', v' = .slice A' (n + m) c' := by
        rcases h2.2 with ⟨h6, h7⟩ | ⟨g, cap, _, h6, _⟩
        · exact ⟨none, 0, by rw [h6, h7]⟩
        · exact ⟨_, _, h6⟩
      obtain ⟨A', c', rfl⟩ := hv
      rw [ab_own] at h5
      exact ⟨A', c', w', hr, h2, h3, h5⟩
  obtain ⟨A', c', w', hr, h2, h3, h4⟩ := key
  unfold Oper.wp execOp
  simp only [ho, resolve, invoke, builtin, Sem.run_bind, Sem.run_pure, Result.andThen_ok, List.map_toArray, List.map_cons, List.map_nil, hs, hx, hr]
  exact hK _ _ (h A' c' w' h2 h3 h4)
/-- A string's bytes. -/
def sl (s : ByteArray) : List UInt8 := s.data.toList
@[simp] theorem sl_length (s : ByteArray) : (sl s).length = s.size := by simp [sl]
theorem strCells_bvs (s : ByteArray) : Lib.strCells s = bvs (sl s) := rfl
/-- APPEND OF A STRING's BYTES onto an owned row. -/
theorem wpList_appS {P : Program} (w : World) {ops : Array Oper} {rest : List Oper} {o : Oper} {a : Act} {Q : Exit → Act → World → Prop} (hgd : o.guard = none) (s x : Operand) (t u : TypeId)
    (ho : o.op = .call { callee := .builtin .append, args := #[s, x], argTypes := #[t, u] })
    (e : TypeId) (i : TypeInfo) (ht : P.underlying t = some (.slice e)) (hu : P.underlying u = some .string) (hi : P.info? e = some i) (hz : i.zero = some (.int .u8 0))
    (hsize : i.size = 1) (hby : i.bytes = 1)
    (A : Option Addr) (n c : Nat) (xs : List Value) (hs : a.eval s = .slice A n c) (hown : Own e w A n c xs)
    (str : ByteArray) (hx : a.eval x = .string str)
    (h63 : n + str.size ≤ 140737488355328)
    (h : ∀ A' c' w', Own e w' A' (n + str.size) c' (xs ++ bvs (sl str)) → w.grownBy w' (ab A) → (ab A' = ab A ∨ ab A' = some w.heap.size) → wpList P ops Q rest (a.put o.dst (.slice A' (n + str.size) c')) w') : wpList P ops Q (o :: rest) a w := by
  refine wpList_plain hgd fun _ hK => ?_
  have hmx : n + str.size ≤ maxLen := by unfold maxLen; omega
  have key : ∃ A' c' w', (Builtin.append_ #[t, u] o.type #[.slice A n c, .string str]).run P w = .ok (.slice A' (n + str.size) c') w' ∧ Own e w' A' (n + str.size) c' (xs ++ bvs (sl str)) ∧ w.grownBy w' (ab A) ∧ (ab A' = ab A ∨ ab A' = some w.heap.size) := by
    obtain ⟨v', w', hr, h2, h3, h4⟩ := Lib.run_append_own_string (P := P) w 0 t u o.type e i ht hu hi hz hsize hby (.slice A n c) n xs hown str hmx h63 (Nat.zero_le _)
    rw [ab_own] at h3
    have hv : ∃ A' c', v' = .slice A' (n + str.size) c' := by
      rcases h2.2 with ⟨h6, h7⟩ | ⟨g, cap, _, h6, _⟩
      · exact ⟨none, 0, by rw [h6, h7]⟩
      · exact ⟨_, _, h6⟩
    obtain ⟨A', c', rfl⟩ := hv
    refine ⟨A', c', w', hr, h2, h3, ?_⟩
    rcases hown.2 with ⟨hv, rfl⟩ | ⟨g, cap, cur, hv, hbg, hg, hnc, hcm, hcs, htake⟩
    · injection hv with hA _ hc
      subst hA; subst hc
      by_cases hm : str.size = 0
      · have := h4.2 ⟨rfl, hm⟩
        injection this with h5
        exact .inl (by rw [h5])
      · have hr2 := Go.run_append_nil_string (P := P) w t u o.type e i (.int .u8 0) ht hu hi hz str (by omega) (by omega) (by rw [hby]; omega)
        rw [hr2] at hr
        injection hr with hr _
        injection hr with hr _ _
        exact .inr (by rw [← hr]; rfl)
    · injection hv with hA _ hc
      subst hA; subst hc
      by_cases hroom : n + str.size ≤ c
      · have hcs' : cur.size = c := by simpa using hcs
        have hr2 := Lib.run_append_room_string (P := P) w t u o.type e i ht hu hi hsize g n c cur hg str hroom (by omega)
        rw [hr2] at hr
        injection hr with hr _
        injection hr with hr _ _
        exact .inl (by rw [← hr])
      · have holds : ∀ j u, xs[j]? = some u → w.cell? ((⟨g, 0, none⟩ : Addr).add j) = some u := World.ownsRow.cells (g := g) hown rfl
        have hr2 := Lib.run_append_grow_string (P := P) w t u o.type e i (.int .u8 0) ht hu hi hz ⟨g, 0, none⟩ n c xs (by rw [hsize]; simpa using hown.1) holds str (by omega) (by unfold maxLen at hmx; omega) (by rw [hby]; exact growslice_fits (by omega) (by omega))
        rw [hr2] at hr
        injection hr with hr _
        injection hr with hr _ _
        exact .inr (by rw [← hr]; rfl)
  obtain ⟨A', c', w', hr, h2, h3, h4⟩ := key
  unfold Oper.wp execOp
  simp only [ho, resolve, invoke, builtin, Sem.run_bind, Sem.run_pure, Result.andThen_ok, List.map_toArray, List.map_cons, List.map_nil, hs, hx, hr]
  exact hK _ _ (h A' c' w' h2 h3 h4)
/-- Where a row lies behind an append: where it lay, or in a block that was made since. -/
def Grew (A A' : Option Addr) (B : Nat) : Prop := ab A' = ab A ∨ ∃ k, ab A' = some k ∧ B ≤ k
theorem Grew.refl (A : Option Addr) (B : Nat) : Grew A A B := .inl rfl
theorem Grew.trans {A A' A'' : Option Addr} {B B' : Nat} (h : Grew A A' B) (k : Grew A' A'' B') (hB : B ≤ B') : Grew A A'' B := by
  rcases k with k | ⟨i, k, hi⟩
  · rcases h with h | ⟨j, h, hj⟩
    · exact .inl (k.trans h)
    · exact .inr ⟨j, k.trans h, hj⟩
  · exact .inr ⟨i, k, by omega⟩
theorem Grew.of {A A' : Option Addr} {B H : Nat} (h : ab A' = ab A ∨ ab A' = some H) (hB : B ≤ H) : Grew A A' B := by
  rcases h with h | h
  · exact .inl h
  · exact .inr ⟨H, h, hB⟩
theorem Grew.ge {A A' : Option Addr} {B N : Nat} (h : Grew A A' B) (hA : ∀ k, ab A = some k → N ≤ k) (hB : N ≤ B) : ∀ k, ab A' = some k → N ≤ k := by
  intro k hk
  rcases h with h | ⟨j, h, hj⟩
  · exact hA k (by rw [← h]; exact hk)
  · rw [h] at hk; cases hk; omega
theorem Kp.since {F : Nat → Prop} {a b c : World} (h : Kp Kit.nob a b) (k : Kp F b c) (hF : ∀ i, F i → a.heap.size ≤ i) : Kp Kit.nob a c := h.trans k (fun i e => .inr (hF i e))
/-- The blocks of a row. -/
def rowF (A : Option Addr) : Nat → Prop := fun k => ab A = some k
theorem Grew.sub {A A' : Option Addr} {B : Nat} (h : Grew A A' B) : ∀ i, rowF A' i → rowF A i ∨ B ≤ i := by
  intro i hi
  unfold rowF at *
  rcases h with h | ⟨k, h, hk⟩
  · exact .inl (by rw [← h]; exact hi)
  · rw [h] at hi; cases hi; exact .inr hk
/-- A new block of one cell. -/
theorem row_one (w : World) (v : Value) (t : TypeId) : Row (w.alloc (.cells #[v] t)) (some ⟨w.heap.size, 0, none⟩) [v] := by
  refine .inr ⟨w.heap.size, 0, rfl, by simp, fun i u hu => ?_⟩
  match i, hu with
  | 0, hu => simp at hu; subst hu; rw [World.cell?_alloc_at _ _ _ _ rfl]; rfl
/-- A number's lowest bytes, the lowest first. -/
def le : Nat → Nat → List UInt8
  | 0, _ => []
  | k + 1, x => UInt8.ofNat x :: le k (x / 256)
@[simp] theorem le_length (k x : Nat) : (le k x).length = k := by induction k generalizing x <;> simp [le, *]
theorem le_snoc (k x : Nat) : le (k + 1) x = le k x ++ [UInt8.ofNat (x / 256 ^ k)] := by
  induction k generalizing x with
  | zero => simp [le]
  | succ k ih =>
    rw [le, ih, le]
    simp [Nat.div_div_eq_div_mul, Nat.pow_succ, Nat.mul_comm]
/-- The number of which l has the lowest bytes. -/
def lowN : List UInt8 → Nat
  | [] => 0
  | b :: l => b.toNat + 256 * lowN l
theorem lowN_snoc (l : List UInt8) (b : UInt8) : lowN (l ++ [b]) = lowN l + b.toNat * 256 ^ l.length := by
  induction l with
  | nil => simp [lowN]
  | cons a l ih => simp only [List.cons_append, lowN, ih, List.length_cons, Nat.pow_succ]; rw [Nat.mul_add, Nat.mul_comm (256 ^ l.length), ← Nat.mul_assoc, Nat.mul_left_comm, ← Nat.mul_assoc]; omega
theorem lowN_lt (l : List UInt8) : lowN l < 256 ^ l.length := by
  induction l with
  | nil => simp [lowN]
  | cons a l ih => have := a.toNat_lt; simp only [lowN, List.length_cons, Nat.pow_succ]; omega
theorem lowN_le (k x : Nat) : lowN (le k x) = x % 256 ^ k := by
  induction k generalizing x with
  | zero => simp [le, lowN, Nat.mod_one]
  | succ k ih => simp only [le, lowN, ih, Nat.pow_succ]; rw [Nat.mul_comm (256 ^ k) 256, Nat.mod_mul]; simp
theorem le_lowN (l : List UInt8) : le l.length (lowN l) = l := by
  induction l with
  | nil => rfl
  | cons a l ih =>
    simp only [List.length_cons, le, lowN]
    rw [show (a.toNat + 256 * lowN l) / 256 = lowN l by have := a.toNat_lt; omega, ih]
    congr 1
    apply UInt8.toNat_inj.1
    simp
/-- One more byte above those that are there. -/
theorem or_above (a b k : Nat) (ha : a < 2 ^ k) : a ||| (b * 2 ^ k) = a + b * 2 ^ k := by
  rw [Nat.mul_comm b, Nat.or_comm, ← Nat.two_pow_add_eq_or_of_lt ha, Nat.add_comm]
theorem pow256 (k : Nat) : 2 ^ (8 * k) = 256 ^ k := by rw [Nat.pow_mul]
theorem or_u64_above (l : List UInt8) (b : UInt8) (hl : l.length ≤ 7) :
    bits BinOp.or IntKind.u64 (lowN l : Nat) (IntKind.u64.wrap ((b.toNat : Int) * 2 ^ (8 * l.length))) = (lowN (l ++ [b]) : Nat) := by
  have hb := b.toNat_lt
  have hlt := lowN_lt l
  have hp : 256 ^ l.length ≤ 256 ^ 7 := Nat.pow_le_pow_right (by omega) hl
  have hp1 : (256 : Nat) ^ 7 = 72057594037927936 := rfl
  have hbp : b.toNat * 256 ^ l.length ≤ 255 * 256 ^ l.length := Nat.mul_le_mul_right _ (by omega)
  have e : ((b.toNat : Int) * 2 ^ (8 * l.length)) = ((b.toNat * 256 ^ l.length : Nat) : Int) := by
    rw [← pow256]; simp
  rw [e, IntKind.wrap_u64, Int.emod_eq_of_lt (by omega) (by omega), bits_or_u64_nat _ _ (by omega) (by omega), lowN_snoc, ← pow256, or_above _ _ _ (by rw [pow256]; exact hlt)]
/-- Bytes as a string. -/
def str (l : List UInt8) : ByteArray := ⟨l.toArray⟩
@[simp] theorem sl_str (l : List UInt8) : sl (str l) = l := rfl
@[simp] theorem str_sl (s : ByteArray) : str (sl s) = s := rfl
@[simp] theorem str_size (l : List UInt8) : (str l).size = l.length := by rw [← sl_length, sl_str]
theorem str_toList (l : List UInt8) : (str l).toList = l := by rw [ByteArray.toList_eq]; rfl
theorem toList_sl (s : ByteArray) : s.toList = sl s := by rw [ByteArray.toList_eq]; rfl
theorem str_inj {l m : List UInt8} : str l = str m ↔ l = m := ⟨fun h => by have := congrArg sl h; simpa using this, fun h => by rw [h]⟩
theorem fold_push (l : List UInt8) (s : ByteArray) : (l.map fun b => (b.toNat : Int)).foldl (fun r n => r.push (UInt8.ofNat n.toNat)) s = str (sl s ++ l) := by
  induction l generalizing s with
  | nil => simp
  | cons b l ih =>
    simp only [List.map_cons, List.foldl_cons, ih]
    congr 1
    simp [sl, ByteArray.push]
theorem run_bytes_str {P : Program} (w : World) (src dst e : TypeId) (hs : P.underlying src = some (.slice e)) (he : P.underlying e = some (.int .u8)) (hd : P.underlying dst = some .string)
    (A : Option Addr) (n c : Nat) (l : List UInt8) (hn : l.length = n) (hr : Row w A (bvs l)) : (convert src dst (.slice A n c)).run P w = .ok (.string (str l)) w := by
  subst hn
  rw [run_convert_bytes_string w src dst e A _ _ hs he hd]
  cases A with
  | none =>
    have hl : l = [] := by
      rcases hr with h | ⟨b, o, h, _⟩
      · simpa [bvs] using h
      · cases h
    subst hl
    rfl
  | some a =>
    have hload : (loadCells a l.length).run P w = .ok ((l.map fun b => (b.toNat : Int)).map (Value.int .u8)).toArray w := by
      have hm : (l.map fun b => (b.toNat : Int)).map (Value.int .u8) = bvs l := by simp [bvs, bv]
      rw [hm]
      have := run_firstCells_some (P := P) w 1 l.length a l.length 0 (bvs l) (by simp) (fun j u hu => ?_)
      · simpa [Builtin.firstCells] using this
      · rcases hr with h | ⟨b, o, h, _, hc⟩
        · rw [h] at hu; simp at hu
        · cases h
          have := hc j u hu
          by_cases hj : j = 0 <;> simpa [Addr.add, hj] using this
    rw [run_bytesToString w a _ c _ hload, fold_push]
    rfl
/-- A row of byte cells that came in, as the opening of an argument gives it. -/
theorem row_of_ints {W : World} {x : Addr} {len cap : Nat} {zs : List Int} (hl : len ≤ cap) (hz : zs.length = cap) (hcell : ∀ i, i < zs.length → W.cell? (x.add i) = some (.int .u8 (zs.getD i 0)))
    (hw : ∀ n ∈ zs, (Lit.int .u8 n).wf = true) : ∃ l : List UInt8, l.length = len ∧ Row W (some x) (bvs l) := by
  refine ⟨(zs.take len).map fun z => UInt8.ofNat z.toNat, by simp; omega, ?_⟩
  by_cases h0 : len = 0
  · subst h0; exact .inl (by simp [bvs])
  · have hc0 := hcell 0 (by omega)
    obtain ⟨b, o, sp⟩ := x
    cases sp with
    | some j => simp [Addr.add, World.cell?] at hc0; split at hc0 <;> simp at hc0
    | none =>
      refine .inr ⟨b, o, rfl, World.block_lt_of_cell? W _ hc0, fun i u hu => ?_⟩
      simp only [bvs, List.map_map, List.getElem?_map, List.getElem?_take] at hu
      split at hu
      · rename_i hi
        have hiz : i < zs.length := by omega
        rw [List.getElem?_eq_getElem hiz] at hu
        simp at hu
        have := hcell i hiz
        have hg : zs.getD i 0 = zs[i] := by simp [hiz]
        rw [hg] at this
        have hb := hw zs[i] (List.getElem_mem hiz)
        have hr : 0 ≤ zs[i] ∧ zs[i] ≤ 255 := by
          have := hb
          simp [Lit.wf, IntKind.min, IntKind.max, IntKind.signed, IntKind.bits] at this
          omega
        have e : bv (UInt8.ofNat zs[i].toNat) = .int .u8 zs[i] := by rw [bv_ofNat]; congr 1; omega
        rw [← hu, e]
        by_cases hi0 : i = 0 <;> simpa [Addr.add, hi0] using this
      · simp at hu
theorem weightsAll_of {H : Type} {P : Program} {e : TypeId} {d : DataW H} : ∀ {l : List (DataW H)}, d ∈ l → ∀ n ∈ d.weights P e, n ∈ DataW.weightsAll P e l
  | x :: l, hd, n, hn => by
    simp only [DataW.weightsAll, List.mem_append]
    rcases List.mem_cons.1 hd with rfl | hd
    · exact .inl hn
    · exact .inr (weightsAll_of hd n hn)
theorem weights_slice {H : Type} {P : Program} {t e : TypeId} {elems spare : List (DataW H)} {d : DataW H} (hu : P.underlying t = some (.slice e)) (hd : d ∈ elems) : ∀ n ∈ d.weights P e, n ∈ (DataW.slice elems spare).weights P t := by
  intro n hn
  simp only [DataW.weights, hu, List.mem_cons, List.mem_append]
  exact .inr (.inl (weightsAll_of hd n hn))
/-- A string's bytes as a new slice. -/
theorem run_str_bytes {P : Program} (w : World) (src dst e : TypeId) (s : ByteArray) (hs : P.underlying src = some .string) (hd : P.underlying dst = some (.slice e)) (he : P.underlying e = some (.int .u8)) :
    ∃ (c : Nat) (w' : World), (convert src dst (.string s)).run P w = .ok (.slice (some ⟨w.heap.size, 0, none⟩) s.size c) w' ∧ Row w' (some ⟨w.heap.size, 0, none⟩) (bvs (sl s)) ∧ Kp Kit.nob w w' ∧ w'.heap.size = w.heap.size + 1 := by
  refine ⟨_, _, run_bytes_of_string w src dst e s hs hd he, ?_, ?_, by simp⟩
  · refine .inr ⟨w.heap.size, 0, rfl, by simp, fun i u hu => ?_⟩
    have hi : i < (bvs (sl s)).length := by
      rcases Nat.lt_or_ge i (bvs (sl s)).length with h | h
      · exact h
      · rw [List.getElem?_eq_none h] at hu; cases hu
    have h : (w.drew.alloc (.cells (bytesRow s (grownCap w s.size 0 e)) e ((bytesRow s (grownCap w s.size 0 e)).size, (bytesRow s (grownCap w s.size 0 e)).size + 1))).heap[w.heap.size]? = some (.cells (bytesRow s (grownCap w s.size 0 e)) e ((bytesRow s (grownCap w s.size 0 e)).size, (bytesRow s (grownCap w s.size 0 e)).size + 1)) := heap_alloc_new w.drew _
    simp only [World.cell?, h, Nat.zero_add]
    simp only [bvs_length, sl_length] at hi
    have hbr : (bytesRow s (grownCap w s.size 0 e))[i]? = (bvs (sl s))[i]? := by
      unfold bytesRow
      rw [Array.getElem?_append_left (by simpa using hi)]
      simp [bvs, sl]
      rfl
    simp [hbr, hu]
  · exact (Kp.refl _ _).drew.alloc _
/-- A slice of elements of z cells each that owns the cells xs. -/
def OwnZ (e : TypeId) (z : Nat) (w : World) (A : Option Addr) (n c : Nat) (xs : List Value) : Prop := w.ownsRow 0 e z (.slice A n c) n xs
theorem OwnZ.row {e : TypeId} {z : Nat} {w : World} {A : Option Addr} {n c : Nat} {xs : List Value} (h : OwnZ e z w A n c xs) : Row w A xs := by
  rcases h.2 with ⟨h1, h2⟩ | ⟨g, cap, cur, h1, _, hg, hnc, hcm, hcs, ht⟩
  · exact .inl (List.eq_nil_of_length_eq_zero (by rw [h.1, h2, Nat.zero_mul]))
  · cases h1
    refine .inr ⟨g, 0, rfl, ?_, fun i u hu => ?_⟩
    · rcases Nat.lt_or_ge g w.heap.size with hlt | hge
      · exact hlt
      · rw [Array.getElem?_eq_none hge] at hg; cases hg
    · have := World.ownsRow.cells (g := g) h rfl i u hu
      by_cases hi : i = 0 <;> simpa [Addr.add, hi] using this
theorem OwnZ.lt {e : TypeId} {z : Nat} {w : World} {A : Option Addr} {n c : Nat} {xs : List Value} (h : OwnZ e z w A n c xs) : ∀ k, ab A = some k → k < w.heap.size :=
  fun k hk => (World.ownsRow.lt h k (by rw [ab_own]; exact hk)).2
theorem OwnZ.keep {e : TypeId} {z : Nat} {F : Nat → Prop} {w w' : World} {A : Option Addr} {n c : Nat} {xs : List Value} (h : OwnZ e z w A n c xs) (hk : Kp F w w') (hf : ∀ k, ab A = some k → ¬ F k) : OwnZ e z w' A n c xs := by
  refine ⟨h.1, ?_⟩
  rcases h.2 with h1 | ⟨g, cap, cur, h1, h0, hg, r⟩
  · exact .inl h1
  · refine .inr ⟨g, cap, cur, h1, h0, ?_, r⟩
    have hA : A = some ⟨g, 0, none⟩ := by injection h1
    rw [hk.block g (h.lt g (by rw [hA]; rfl)) (hf g (by rw [hA]; rfl))]
    exact hg
theorem OwnZ.cap {e : TypeId} {z : Nat} {w : World} {A : Option Addr} {n c : Nat} {xs : List Value} (h : OwnZ e z w A n c xs) : n ≤ c ∧ c ≤ maxLen := by
  rcases h.2 with ⟨h1, h2⟩ | ⟨g, cap, cur, h1, _, hg, hnc, hcm, hcs, ht⟩
  · injection h1 with _ _ h3; subst h3; subst h2; exact ⟨Nat.le_refl _, by simp [maxLen]⟩
  · injection h1 with _ _ h3; subst h3; exact ⟨hnc, hcm⟩
theorem OwnZ.none_ {e : TypeId} {z : Nat} {w : World} {A : Option Addr} {n c : Nat} {xs : List Value} (h : OwnZ e z w A n c xs) : A = none → c = 0 := by
  rintro rfl
  rcases h.2 with ⟨h1, _⟩ | ⟨g, cap, cur, h1, _⟩
  · injection h1
  · injection h1 with h1; cases h1
/-- APPEND OF A ROW OF SUCH ELEMENTS. -/
theorem wpList_appZ {P : Program} (w : World) {ops : Array Oper} {rest : List Oper} {o : Oper} {a : Act} {Q : Exit → Act → World → Prop} (hgd : o.guard = none) (s x : Operand) (t : TypeId)
    (ho : o.op = .call { callee := .builtin .append, args := #[s, x], argTypes := #[t, t] })
    (e : TypeId) (i : TypeInfo) (zv : Value) (size bytes : Nat) (ht : P.underlying t = some (.slice e)) (hi : P.info? e = some i) (hz : i.zero = some zv)
    (hsize : i.size = size) (hby : i.bytes = bytes) (hzs : zv.cells.size = size) (hpos : 0 < size)
    (A : Option Addr) (n c : Nat) (xs : List Value) (hs : a.eval s = .slice A n c) (hown : OwnZ e size w A n c xs)
    (B : Option Addr) (m d : Nat) (ys : List Value) (hx : a.eval x = .slice B m d) (hB : B = none → m = 0) (hm : ys.length = m * size) (hrow : Row w B ys) (h1 : ∀ u ∈ ys, u.oneCell' = true)
    (hbytes : (n + m) * bytes ≤ 140737488355328) (h63 : n + m ≤ 140737488355328)
    (h : ∀ A' c' w', OwnZ e size w' A' (n + m) c' (xs ++ ys) → w.grownBy w' (ab A) → (ab A' = ab A ∨ ab A' = some w.heap.size) → wpList P ops Q rest (a.put o.dst (.slice A' (n + m) c')) w') : wpList P ops Q (o :: rest) a w := by
  refine wpList_plain hgd fun _ hK => ?_
  have hmx : n + m ≤ maxLen := by unfold maxLen; omega
  have key : ∃ A' c' w', (Builtin.append_ #[t, t] o.type #[.slice A n c, .slice B m d]).run P w = .ok (.slice A' (n + m) c') w' ∧ OwnZ e size w' A' (n + m) c' (xs ++ ys) ∧ w.grownBy w' (ab A) ∧ (ab A' = ab A ∨ ab A' = some w.heap.size) := by
    cases B with
    | none =>
      have hd := hB rfl
      subst hd
      have hy : ys = [] := List.eq_nil_of_length_eq_zero (by simpa using hm)
      subst hy
      have hc := hown.cap.1
      refine ⟨A, c, w, ?_, by simpa using hown, World.grownBy.refl _ _, .inl rfl⟩
      cases A <;> simp [Builtin.append_, run_underlying ht, sizeOf, typeInfo, hi, Builtin.lenOf, Builtin.firstCells, hc, storeCells]
    | some ad =>
      have hnews : ∀ j u, ys[j]? = some u → w.cell? (ad.add j) = some u := by
        intro j u hu
        rcases hrow with rfl | ⟨b, o, h, _, hcell⟩
        · simp at hu
        · cases h
          have := hcell j u hu
          by_cases hj : j = 0 <;> simpa [Addr.add, hj] using this
      obtain ⟨v', w', hr, h2, h3, h4, h5⟩ := run_append_own_at (P := P) w 0 t o.type e i zv size bytes ht hi hz hsize hby hzs hpos (.slice A n c) n xs hown ad m d ys hm hnews h1 hmx hbytes (Nat.zero_le _)
      rw [ab_own] at h3 h5
      have hv : ∃ A' c', v' = .slice A' (n + m) c' := by
        rcases h2.2 with ⟨h6, h7⟩ | ⟨g, cap, _, h6, _⟩
        · exact ⟨none, 0, by rw [h6, h7]⟩
        · exact ⟨_, _, h6⟩
      obtain ⟨A', c', rfl⟩ := hv
      rw [ab_own] at h5
      exact ⟨A', c', w', hr, h2, h3, h5⟩
  obtain ⟨A', c', w', hr, h2, h3, h4⟩ := key
  unfold Oper.wp execOp
  simp only [ho, resolve, invoke, builtin, Sem.run_bind, Sem.run_pure, Result.andThen_ok, List.map_toArray, List.map_cons, List.map_nil, hs, hx, hr]
  exact hK _ _ (h A' c' w' h2 h3 h4)
end Go.Proofs.Ytndkmfflpphoiaa.Kit
namespace Go.Proofs.Ytndkmfflpphoiaa.Disk
/-- A sector's bytes: noughts behind those that are given. -/
def full (b : List UInt8) : List UInt8 := b ++ List.replicate (256 - b.length) 0
theorem full_length (b : List UInt8) (h : b.length ≤ 256) : (full b).length = 256 := by rw [full, List.length_append, List.length_replicate]; omega
/-- A disk: its sectors, what of them is safe, the writes that aren't, its power, its acts, its fuse. -/
structure Dk where
  now : List (List UInt8)
  safe : List (List UInt8)
  waits : List (Nat × List UInt8)
  off : Bool
  acts : Nat
  fuse : Nat
  keep : Nat
/-- What stands always. -/
structure Ok (d : Dk) : Prop where
  safe : d.safe.length = d.now.length
  now : ∀ s ∈ d.now, s.length = 256
  safe2 : ∀ s ∈ d.safe, s.length = 256
  waits : ∀ x ∈ d.waits, x.1 < d.now.length ∧ x.2.length = 256
def new (n : Nat) : Dk := ⟨List.replicate n (full []), List.replicate n (full []), [], false, 0, 0, 0⟩
theorem new_ok (n : Nat) : Ok (new n) := ⟨by simp [new], fun s h => by rw [List.eq_of_mem_replicate h]; exact full_length [] (by decide), fun s h => by rw [List.eq_of_mem_replicate h]; exact full_length [] (by decide), fun x h => by cases h⟩
/-- Is the i-th write kept? -/
def kept (keep i : Nat) : Bool := decide (keep / 2 ^ (i % 64) % 2 = 1)
/-- The writes from the i-th on, gone over. -/
def over (keep : Nat) : Nat → List (Nat × List UInt8) → List (List UInt8) → List (List UInt8)
  | _, [], s => s
  | i, x :: xs, s => over keep (i + 1) xs (if kept keep i then s.set x.1 x.2 else s)
theorem over_length (keep : Nat) : ∀ (xs : List (Nat × List UInt8)) (i : Nat) (s : List (List UInt8)), (over keep i xs s).length = s.length
  | [], _, _ => rfl
  | x :: xs, i, s => by rw [over, over_length keep xs]; split <;> simp
theorem over_snoc (keep : Nat) (y : Nat × List UInt8) : ∀ (xs : List (Nat × List UInt8)) (i : Nat) (s : List (List UInt8)), over keep i (xs ++ [y]) s = if kept keep (i + xs.length) then (over keep i xs s).set y.1 y.2 else over keep i xs s
  | [], i, s => by simp [over]
  | x :: xs, i, s => by
    rw [List.cons_append, over, over, over_snoc keep y xs]
    rw [show i + 1 + xs.length = i + (x :: xs).length by simp; omega]
/-- A sector behind it is what it was, or one of its writes. -/
theorem over_at (keep p : Nat) : ∀ (xs : List (Nat × List UInt8)) (i : Nat) (s : List (List UInt8)) (v : List UInt8), (over keep i xs s)[p]? = some v → s[p]? = some v ∨ (p, v) ∈ xs
  | [], _, _, _, h => .inl h
  | x :: xs, i, s, v, h => by
    rw [over] at h
    rcases over_at keep p xs _ _ _ h with h1 | h1
    · split at h1
      · rw [List.getElem?_set] at h1
        split at h1
        · rename_i he
          split at h1
          · right; rw [← he]; rw [← Option.some.inj h1]; simp
          · cases h1
        · exact .inl h1
      · exact .inl h1
    · exact .inr (List.mem_cons_of_mem _ h1)
theorem over_far (keep p : Nat) : ∀ (xs : List (Nat × List UInt8)) (i : Nat) (s : List (List UInt8)), (∀ x ∈ xs, x.1 ≠ p) → (over keep i xs s)[p]? = s[p]?
  | [], _, _, _ => rfl
  | x :: xs, i, s, h => by
    rw [over, over_far keep p xs _ _ (fun y hy => h y (List.mem_cons_of_mem _ hy))]
    split
    · rw [List.getElem?_set, if_neg (h x (by simp))]
    · rfl
theorem over_mem (keep : Nat) : ∀ (xs : List (Nat × List UInt8)) (i : Nat) (s : List (List UInt8)) (v : List UInt8), v ∈ over keep i xs s → v ∈ s ∨ ∃ x ∈ xs, x.2 = v := fun xs i s v h => by
  obtain ⟨p, hp, rfl⟩ := List.mem_iff_getElem.1 h
  rcases over_at keep p xs i s _ (List.getElem?_eq_getElem hp) with h1 | h1
  · exact .inl (List.mem_of_getElem? h1)
  · exact .inr ⟨_, h1, rfl⟩
/-- The power goes. -/
def lose (d : Dk) (keep : Nat) : Dk := if d.off then d else ⟨over keep 0 d.waits d.safe, over keep 0 d.waits d.safe, [], true, d.acts, 0, d.keep⟩
theorem lose_off (d : Dk) (keep : Nat) (h : d.off = true) : lose d keep = d := by rw [lose, if_pos h]
theorem lose_on (d : Dk) (keep : Nat) (h : d.off = false) : lose d keep = ⟨over keep 0 d.waits d.safe, over keep 0 d.waits d.safe, [], true, d.acts, 0, d.keep⟩ := by rw [lose, h]; rfl
theorem lose_ok (d : Dk) (keep : Nat) (h : Ok d) : Ok (lose d keep) := by
  cases ho : d.off with
  | true => rw [lose_off d keep ho]; exact h
  | false =>
    rw [lose_on d keep ho]
    have hm : ∀ s ∈ over keep 0 d.waits d.safe, s.length = 256 := fun s hs => by
      rcases over_mem keep _ _ _ _ hs with h1 | ⟨x, hx, rfl⟩
      · exact h.safe2 s h1
      · exact (h.waits x hx).2
    exact ⟨rfl, hm, hm, fun x hx => by cases hx⟩
theorem lose_length (d : Dk) (keep : Nat) (h : Ok d) : (lose d keep).now.length = d.now.length := by
  cases ho : d.off with
  | true => rw [lose_off d keep ho]
  | false => rw [lose_on d keep ho]; simp only [over_length, h.safe]
/-- One act more; whether the power goes in it. -/
def act (d : Dk) : Dk × Bool := if d.off then (d, false) else ({ d with acts := d.acts + 1, fuse := d.fuse - 1 }, decide (d.fuse = 1))
/-- The errors' numbers are told by whoever names them. -/
structure Errs where
  ok : Int
  down : Int
  arg : Int
  long : Int
/-- The errors' numbers. -/
def E8 : Errs := ⟨0, 8, 1, 3⟩
def may (E : Errs) (d : Dk) (i : Int) : Int := if d.off then E.down else if i < 0 ∨ (d.now.length : Int) ≤ i then E.arg else E.ok
def wrote (d : Dk) (i : Nat) (b : List UInt8) : Dk := { d with now := d.now.set i (full b), waits := d.waits ++ [(i, full b)] }
def write (E : Errs) (d : Dk) (i : Int) (b : List UInt8) : Dk × Int :=
  if d.off then (d, E.down) else if i < 0 ∨ (d.now.length : Int) ≤ i then (d, E.arg) else if 256 < b.length then (d, E.long)
  else if (act d).2 then (lose (wrote (act d).1 i.toNat b) d.keep, E.down) else (wrote (act d).1 i.toNat b, E.ok)
def sync (E : Errs) (d : Dk) : Dk × Int :=
  if d.off then (d, E.down) else if (act d).2 then (lose (act d).1 d.keep, E.down) else ({ (act d).1 with safe := d.now, waits := [] }, E.ok)
def arm (d : Dk) (n : Int) (keep : Nat) : Dk := { d with fuse := n.toNat, keep := keep }
def forged (d : Dk) (i : Nat) (b : List UInt8) : Dk := { d with now := d.now.set i (full b), safe := d.safe.set i (full b), waits := d.waits.filter fun x => decide (x.1 ≠ i) }
def forge (E : Errs) (d : Dk) (i : Int) (b : List UInt8) : Dk × Int :=
  if i < 0 ∨ (d.now.length : Int) ≤ i then (d, E.arg) else if 256 < b.length then (d, E.long) else (forged d i.toNat b, E.ok)
def image (d : Dk) : List UInt8 := d.now.flatten
def on (d : Dk) : Dk := { d with off := false }
theorem act_off (d : Dk) (h : d.off = true) : act d = (d, false) := by rw [act, if_pos h]
theorem act_on (d : Dk) (h : d.off = false) : act d = ({ d with acts := d.acts + 1, fuse := d.fuse - 1 }, decide (d.fuse = 1)) := by rw [act, h]; rfl
theorem act_ok (d : Dk) (h : Ok d) : Ok (act d).1 := by
  cases ho : d.off with
  | true => rw [act_off d ho]; exact h
  | false => rw [act_on d ho]; exact ⟨h.safe, h.now, h.safe2, h.waits⟩
theorem set_all {l : List (List UInt8)} {i : Nat} {s : List UInt8} (h : ∀ x ∈ l, x.length = 256) (hs : s.length = 256) : ∀ x ∈ l.set i s, x.length = 256 := fun x hx => by
  rcases List.mem_or_eq_of_mem_set hx with h1 | h1
  · exact h x h1
  · rw [h1]; exact hs
theorem wrote_ok (d : Dk) (i : Nat) (b : List UInt8) (h : Ok d) (hi : i < d.now.length) (hb : b.length ≤ 256) : Ok (wrote d i b) := by
  refine ⟨by simp [wrote, h.safe], set_all h.now (full_length b hb), h.safe2, fun x hx => ?_⟩
  simp only [wrote, List.length_set]
  rcases List.mem_append.1 hx with h1 | h1
  · exact h.waits x h1
  · rw [List.mem_singleton.1 h1]; exact ⟨hi, full_length b hb⟩
theorem forged_ok (d : Dk) (i : Nat) (b : List UInt8) (h : Ok d) (hb : b.length ≤ 256) : Ok (forged d i b) := by
  refine ⟨by simp [forged, h.safe], set_all h.now (full_length b hb), set_all h.safe2 (full_length b hb), fun x hx => ?_⟩
  simp only [forged, List.length_set]
  exact h.waits x ((List.mem_filter.1 hx).1)
theorem write_ok (E : Errs) (d : Dk) (i : Int) (b : List UInt8) (h : Ok d) : Ok (write E d i b).1 := by
  unfold write
  split
  · exact h
  · split
    · exact h
    · split
      · exact h
      · rename_i h1 h2 h3
        have hw := wrote_ok (act d).1 i.toNat b (act_ok d h) (by rw [act_on d (by simpa using h1)]; simp only; omega) (by omega)
        split
        · exact lose_ok _ _ hw
        · exact hw
theorem sync_ok (E : Errs) (d : Dk) (h : Ok d) : Ok (sync E d).1 := by
  unfold sync
  split
  · exact h
  · rename_i h1
    split
    · exact lose_ok _ _ (act_ok d h)
    · rw [act_on d (by simpa using h1)]
      exact ⟨rfl, h.now, h.now, fun x hx => by cases hx⟩
theorem forge_ok (E : Errs) (d : Dk) (i : Int) (b : List UInt8) (h : Ok d) : Ok (forge E d i b).1 := by
  unfold forge
  split
  · exact h
  · split
    · exact h
    · exact forged_ok _ _ _ h (by omega)
/-- What a sector may be behind a loss of power: all of these; the last of them is what it is. -/
structure May (d : Dk) (m : Nat → List (List UInt8)) : Prop where
  ok : Ok d
  now : d.off = false → ∀ p v, d.now[p]? = some v → (m p).getLast? = some v
  safe : ∀ p v, d.safe[p]? = some v → v ∈ m p
  waits : ∀ x ∈ d.waits, x.2 ∈ m x.1
  off : d.off = true → ∀ p v, d.now[p]? = some v → v ∈ m p
theorem May.lose {d : Dk} {m : Nat → List (List UInt8)} (h : May d m) (keep : Nat) : ∀ p v, (lose d keep).now[p]? = some v → v ∈ m p := by
  cases ho : d.off with
  | true => rw [lose_off d keep ho]; exact h.off ho
  | false =>
    rw [lose_on d keep ho]
    intro p v hv
    rcases over_at keep p _ _ _ _ hv with h1 | h1
    · exact h.safe p v h1
    · exact h.waits _ h1
theorem May.lost {d : Dk} {m : Nat → List (List UInt8)} (h : May d m) (keep : Nat) (hoff : (Disk.lose d keep).off = true) : May (Disk.lose d keep) m := by
  have hl := h.lose keep
  refine ⟨lose_ok d keep h.ok, (fun e => by rw [hoff] at e; cases e), ?_, ?_, fun _ => hl⟩
  · cases ho : d.off with
    | true => rw [lose_off d keep ho]; exact h.safe
    | false =>
      rw [lose_on d keep ho] at hl ⊢
      exact hl
  · cases ho : d.off with
    | true => rw [lose_off d keep ho]; exact h.waits
    | false => rw [lose_on d keep ho]; intro x hx; cases hx
theorem lose_is_off (d : Dk) (keep : Nat) : (lose d keep).off = true := by
  cases ho : d.off with
  | true => rw [lose_off d keep ho]; exact ho
  | false => rw [lose_on d keep ho]
/-- One text more for a sector. -/
def add (m : Nat → List (List UInt8)) (p : Nat) (s : List UInt8) : Nat → List (List UInt8) := fun q => if q = p then m q ++ [s] else m q
theorem mem_add {m : Nat → List (List UInt8)} {p : Nat} {s : List UInt8} {q : Nat} {v : List UInt8} (h : v ∈ m q) : v ∈ add m p s q := by
  unfold add; split
  · exact List.mem_append_left _ h
  · exact h
theorem May.wrote {d : Dk} {m : Nat → List (List UInt8)} (h : May d m) (ho : d.off = false) (i : Nat) (b : List UInt8) (hi : i < d.now.length) (hb : b.length ≤ 256) : May (Disk.wrote (act d).1 i b) (add m i (full b)) := by
  rw [act_on d ho]
  refine ⟨wrote_ok _ i b ⟨h.ok.safe, h.ok.now, h.ok.safe2, h.ok.waits⟩ hi hb, fun _ p v hv => ?_, fun p v hv => mem_add (h.safe p v hv), fun x hx => ?_, fun e => ?_⟩
  · simp only [Disk.wrote, List.getElem?_set] at hv
    unfold add
    by_cases e : i = p
    · subst e
      rw [if_pos rfl, if_pos hi] at hv
      rw [if_pos rfl, List.getLast?_append, ← Option.some.inj hv]; rfl
    · rw [if_neg e] at hv
      rw [if_neg (fun x => e x.symm)]
      exact h.now ho p v hv
  · rcases List.mem_append.1 hx with h1 | h1
    · exact mem_add (h.waits x h1)
    · rw [List.mem_singleton.1 h1]; unfold add; rw [if_pos rfl]; simp
  · have : d.off = true := e
    rw [ho] at this; cases this
/-- A write that is answered. -/
theorem May.write {d : Dk} {m : Nat → List (List UInt8)} (E : Errs) (h : May d m) (ho : d.off = false) (i : Nat) (b : List UInt8) (hi : i < d.now.length) (hb : b.length ≤ 256) : May (Disk.write E d i b).1 (add m i (full b)) := by
  have hw := h.wrote ho i b hi hb
  unfold Disk.write
  rw [if_neg (by rw [ho]; simp), if_neg (by omega), if_neg (by omega), Int.toNat_natCast]
  split
  · exact hw.lost _ (lose_is_off _ _)
  · exact hw
/-- A sync that is answered OK: each sector is just its last. -/
theorem May.synced {d : Dk} {m : Nat → List (List UInt8)} (h : May d m) (ho : d.off = false) (m2 : Nat → List (List UInt8)) (hm : ∀ p v, (m p).getLast? = some v → m2 p = [v]) : May { (act d).1 with safe := d.now, waits := [] } m2 := by
  rw [act_on d ho]
  have hn : ∀ p v, d.now[p]? = some v → m2 p = [v] := fun p v hv => hm p v (h.now ho p v hv)
  refine ⟨⟨rfl, h.ok.now, h.ok.now, (fun x hx => by cases hx)⟩, (fun _ p v hv => by rw [hn p v hv]; rfl), (fun p v hv => by rw [hn p v hv]; simp), (fun x hx => by cases hx), (fun e => ?_)⟩
  have : d.off = true := e
  rw [ho] at this; cases this
/-- What somebody writes is there at once, and behind every loss of power. -/
theorem forged_at (d : Dk) (i : Nat) (b : List UInt8) (hi : i < d.now.length) : (forged d i b).now[i]? = some (full b) := by
  simp [forged, hi]
theorem forged_lose (d : Dk) (i : Nat) (b : List UInt8) (keep : Nat) (h : Ok d) (hi : i < d.now.length) : (lose (forged d i b) keep).now[i]? = some (full b) := by
  cases ho : d.off with
  | true => rw [lose_off _ keep (show (forged d i b).off = true from ho)]; exact forged_at d i b hi
  | false =>
    rw [lose_on _ keep (show (forged d i b).off = false from ho)]
    show (over keep 0 (forged d i b).waits (forged d i b).safe)[i]? = _
    rw [over_far keep i _ _ _ (fun x hx => by have := (List.mem_filter.1 hx).2; simpa using this)]
    simp [forged, h.safe, hi]
theorem forged_far (d : Dk) (i p : Nat) (b : List UInt8) (hp : p ≠ i) : (forged d i b).now[p]? = d.now[p]? := by
  simp [forged, List.getElem?_set, Ne.symm hp]
end Go.Proofs.Ytndkmfflpphoiaa.Disk
namespace Go.Proofs.Ytndkmfflpphoiaa
open Go Go.RowKit Kit
def num8 (n : Int) : List UInt8 := le 8 (n % 18446744073709551616).toNat
@[simp] theorem num8_length (n : Int) : (num8 n).length = 8 := by simp [num8]
def textB (s : ByteArray) : List UInt8 := if s.size < 16777216 then le 3 s.size ++ sl s else []
theorem textB_le (s : ByteArray) : (textB s).length ≤ 3 + s.size := by unfold textB; split <;> simp
def oneF (b : Nat) : Nat → Prop := fun k => k = b
def bust : List UInt8 × Bool := ([], true)
def can (s : List UInt8 × Bool) (n : Int) : Bool := decide (s.2 = false ∧ 0 ≤ n ∧ n ≤ s.1.length)
def sTake (s : List UInt8 × Bool) (n : Int) : (List UInt8 × Bool) × (List UInt8 × Bool) :=
  if can s n then ((s.1.take n.toNat, true), (s.1.drop n.toNat, false)) else (([], false), bust)
def sNum (s : List UInt8 × Bool) : Int × (List UInt8 × Bool) := (wrap64 (lowN (sTake s 8).1.1 : Nat), (sTake s 8).2)
theorem sTake_length (s : List UInt8 × Bool) (n : Int) : (sTake s n).1.1.length ≤ n.toNat := by
  unfold sTake; split <;> simp; omega
def sIn (s : List UInt8 × Bool) (lo hi : Int) : Int × (List UInt8 × Bool) := if (sNum s).1 < lo ∨ hi < (sNum s).1 then (0, bust) else sNum s
def sText (s : List UInt8 × Bool) (most : Int) : List UInt8 × (List UInt8 × Bool) :=
  if min most 65536 < (lowN (sTake s 3).1.1 : Nat) then ([], bust) else ((sTake (sTake s 3).2 (lowN (sTake s 3).1.1 : Nat)).1.1, (sTake (sTake s 3).2 (lowN (sTake s 3).1.1 : Nat)).2)
/-- Numbers and texts, there and back. -/
theorem num8_back (l : List UInt8) (h : l.length = 8) : num8 (wrap64 (lowN l : Nat)) = l := by
  have h1 := lowN_lt l
  rw [h] at h1
  have e : (wrap64 (lowN l : Nat) % 18446744073709551616).toNat = lowN l := by
    have := IntKind.wrap_i64 (lowN l : Nat)
    simp only [wrap64] at *
    omega
  unfold num8
  rw [e, ← h]
  exact le_lowN l
theorem sTake_split (s : List UInt8 × Bool) (n : Int) (h : (sTake s n).2.2 = false) : (sTake s n).1.1 ++ (sTake s n).2.1 = s.1 ∧ s.2 = false ∧ ((sTake s n).1.1.length : Int) = n := by
  unfold sTake at *
  split at h <;> rename_i hc
  · simp only [can, decide_eq_true_eq] at hc
    rw [if_pos (by simpa [can] using hc)]
    refine ⟨List.take_append_drop _ _, hc.1, ?_⟩
    simp only [List.length_take]; omega
  · simp [bust] at h
theorem i64_range {n : Int} (h : (Lit.int .i64 n).wf = true) : -9223372036854775808 ≤ n ∧ n ≤ 9223372036854775807 := by
  simp [Lit.wf, IntKind.min, IntKind.max, IntKind.signed, IntKind.bits] at h
  omega
theorem num8_forth (n : Int) (h : -9223372036854775808 ≤ n ∧ n ≤ 9223372036854775807) : wrap64 (lowN (num8 n) : Nat) = n := by
  unfold num8
  rw [lowN_le, show (256 : Nat) ^ 8 = 18446744073709551616 from rfl]
  have := IntKind.wrap_i64 (((n % 18446744073709551616).toNat % 18446744073709551616 : Nat) : Int)
  simp only [wrap64] at *
  omega
theorem sTake_app (a W : List UInt8) (n : Int) (h : (a.length : Int) = n) : sTake (a ++ W, false) n = ((a, true), (W, false)) := by
  subst h
  have hc : can (a ++ W, false) (a.length : Int) = true := by simp [can]; omega
  simp [sTake, hc]
theorem sTake_no (s : List UInt8 × Bool) (n : Int) (h : s.1.length < n ∨ s.2 = true) : sTake s n = (([], false), bust) := by
  have hc : can s n = false := by
    simp only [can, decide_eq_false_iff_not]
    rcases h with h | h
    · omega
    · simp [h]
  simp [sTake, hc]
end Go.Proofs.Ytndkmfflpphoiaa
namespace Go.Proofs.Ytndkmfflpphoiaa.Disk
open Go Go.RowKit Kit
def numOf (q : Int × (List UInt8 × Bool)) : Int := q.1
theorem numOf_eq (q : Int × (List UInt8 × Bool)) : numOf q = q.1 := rfl
theorem cases_of (q : Int × (List UInt8 × Bool)) (b : List UInt8 × Bool) (l h : Int) : numOf (if q.1 < l ∨ h < q.1 then ((0 : Int), b) else q) = 0 ∨ l ≤ numOf (if q.1 < l ∨ h < q.1 then ((0 : Int), b) else q) ∧ numOf (if q.1 < l ∨ h < q.1 then ((0 : Int), b) else q) ≤ h := by
  split
  · exact .inl rfl
  · rw [numOf_eq]; exact .inr (by omega)
/-- The number that a frame begins with: 0 where none stands there. -/
def fnum (s : List UInt8) : Int := numOf (sIn (s, false) 48 16384)
theorem fnum_cases (s : List UInt8) : fnum s = 0 ∨ 48 ≤ fnum s ∧ fnum s ≤ 16384 := cases_of (sNum (s, false)) bust 48 16384
theorem fnum_eq (s : List UInt8) : fnum s = (sIn (s, false) 48 16384).1 := numOf_eq (sIn (s, false) 48 16384)
attribute [irreducible] fnum
/-- How long the frame is that bytes begin with; 0: none. -/
def flen (s : List UInt8) : Nat := if (s.length : Int) < fnum s then 0 else (fnum s).toNat
theorem flen_int (s : List UInt8) : (flen s : Int) = if (s.length : Int) < fnum s then 0 else fnum s := by
  unfold flen
  have := fnum_cases s
  split
  · rfl
  · omega
theorem flen_cases (s : List UInt8) : flen s = 0 ∨ 48 ≤ flen s ∧ flen s ≤ 16384 ∧ flen s ≤ s.length := by
  have h1 := fnum_cases s
  have h2 := flen_int s
  split at h2
  · exact .inl (by omega)
  · rcases h1 with h1 | h1
    · exact .inl (by omega)
    · exact .inr (by omega)
theorem flen_le (s : List UInt8) : flen s ≤ s.length := by rcases flen_cases s with h | h <;> omega
/-- An area: its sectors' end, and where it stands. -/
structure Ar where
  top : Nat
  pos : Nat
def aHalf (n : Nat) (odd : Bool) : Ar := if odd then ⟨2 * (n / 2), n / 2⟩ else ⟨n / 2, 0⟩
theorem aHalf_ok (n : Nat) (odd : Bool) : (aHalf n odd).pos ≤ (aHalf n odd).top ∧ (aHalf n odd).top ≤ n := by unfold aHalf; split <;> constructor <;> simp <;> omega
/-- Bytes are written, sector by sector, till one can't be. -/
def aAdds (d : Dk) (p : Nat) (s : List UInt8) : Dk × Nat × Int :=
  if s.length = 0 then (d, p, 0) else if (write E8 d p (s.take 256)).2 = 0 then aAdds (write E8 d p (s.take 256)).1 (p + 1) (s.drop 256) else ((write E8 d p (s.take 256)).1, p, (write E8 d p (s.take 256)).2)
termination_by s.length
decreasing_by simp only [List.length_drop]; omega
theorem aAdds_nil (d : Dk) (p : Nat) (s : List UInt8) (h : s.length = 0) : aAdds d p s = (d, p, 0) := by rw [aAdds, if_pos h]
theorem aAdds_go (d : Dk) (p : Nat) (s : List UInt8) (h : 0 < s.length) (h2 : (write E8 d p (s.take 256)).2 = 0) : aAdds d p s = aAdds (write E8 d p (s.take 256)).1 (p + 1) (s.drop 256) := by rw [aAdds, if_neg (by omega), if_pos h2]
theorem aAdds_stop (d : Dk) (p : Nat) (s : List UInt8) (h : 0 < s.length) (h2 : (write E8 d p (s.take 256)).2 ≠ 0) : aAdds d p s = ((write E8 d p (s.take 256)).1, p, (write E8 d p (s.take 256)).2) := by rw [aAdds, if_neg (by omega), if_neg h2]
def aAdd (d : Dk) (a : Ar) (s : List UInt8) : Dk × Ar × Int :=
  if s.length = 0 ∨ flen s ≠ s.length then (d, a, 1) else if d.off then (d, a, 8) else if 256 * (a.top - a.pos) < s.length then (d, a, 7)
  else if (aAdds d a.pos s).2.2 = 0 then ((aAdds d a.pos s).1, { a with pos := (aAdds d a.pos s).2.1 }, 0) else ((aAdds d a.pos s).1, a, (aAdds d a.pos s).2.2)
/-- The frame that begins at p, looked for from the i-th sector on; s: what was read. -/
def aLook (ls : List (List UInt8)) (e p : Nat) : Nat → Nat → List UInt8 → Option (Nat × List UInt8)
  | 0, _, _ => none
  | f + 1, i, s => if p + i < e then (if 0 < flen (s ++ ls.getD (p + i) []) then some (i, (s ++ ls.getD (p + i) []).take (flen (s ++ ls.getD (p + i) []))) else aLook ls e p f (i + 1) (s ++ ls.getD (p + i) [])) else none
def aNext (d : Dk) (a : Ar) : Ar × List UInt8 × Int :=
  if d.off then (a, [], 8) else match aLook d.now a.top a.pos 64 0 [] with
    | some x => ({ a with pos := a.pos + x.1 + 1 }, x.2, 0)
    | none => (a, [], 0)
/-- A frame of n bytes: its length, and what there is behind it. -/
theorem fnum_app (n : Int) (W : List UInt8) (h : 48 ≤ n ∧ n ≤ 16384) : fnum (num8 n ++ W) = n := by
  rw [fnum_eq]
  have e : sNum (num8 n ++ W, false) = (n, (W, false)) := by
    unfold sNum
    rw [sTake_app (num8 n) W 8 (by simp)]
    simp only
    rw [num8_forth n (by omega)]
  unfold sIn
  rw [e]
  simp only
  rw [if_neg (by omega)]
theorem fnum_num (W : List UInt8) (h : 48 ≤ fnum W) : ∃ V, W = num8 (fnum W) ++ V := by
  have h0 := fnum_cases W
  rw [fnum_eq] at *
  unfold sIn at *
  by_cases hc : (sNum (W, false)).1 < 48 ∨ 16384 < (sNum (W, false)).1
  · rw [if_pos hc] at h; exact absurd h (by decide)
  · rw [if_neg hc] at h ⊢
    by_cases hl : 8 ≤ W.length
    · refine ⟨W.drop 8, ?_⟩
      have e : sTake (W, false) 8 = ((W.take 8, true), (W.drop 8, false)) := by
        have := sTake_app (W.take 8) (W.drop 8) 8 (by simp; omega)
        rwa [List.take_append_drop] at this
      unfold sNum at h ⊢
      rw [e] at h ⊢
      simp only at h ⊢
      rw [num8_back (W.take 8) (by simp; omega), List.take_append_drop]
    · exfalso
      unfold sNum at h
      rw [sTake_no (W, false) 8 (.inl (by simp; omega))] at h
      have e : wrap64 (lowN ([] : List UInt8) : Nat) = 0 := by simp [lowN, wrap64]
      change (48 : Int) ≤ wrap64 (lowN ([] : List UInt8) : Nat) at h
      omega
/-- The number stands in the first eight bytes. -/
theorem fnum_more (a W : List UInt8) (h : 8 ≤ a.length) : fnum (a ++ W) = fnum a := by
  rw [fnum_eq, fnum_eq]
  have e : ∀ X : List UInt8, (sNum (a ++ X, false)).1 = wrap64 (lowN (a.take 8) : Nat) := fun X => by
    unfold sNum
    have := sTake_app (a.take 8) (a.drop 8 ++ X) 8 (by simp; omega)
    rw [← List.append_assoc, List.take_append_drop] at this
    rw [this]
  have e0 := e W
  have e1 := e []
  rw [List.append_nil] at e1
  unfold sIn
  rw [e0, e1]
  split
  · rfl
  · rw [e0, e1]
theorem flen_part (s : List UInt8) (k : Nat) (hs : flen s = s.length) (h1 : 8 ≤ k) (h2 : k < s.length) : flen (s.take k) = 0 := by
  have e := fnum_more (s.take k) (s.drop k) (by simp; omega)
  rw [List.take_append_drop] at e
  have h := flen_int s
  rw [hs] at h
  unfold flen
  rw [← e, if_pos]
  split at h
  · omega
  · rw [← h]; simp; omega
theorem flen_app (s W : List UInt8) (hs : flen s = s.length) (h : 8 ≤ s.length) : flen (s ++ W) = s.length := by
  have h0 := flen_int s
  rw [hs] at h0
  unfold flen
  rw [fnum_more s W h]
  split at h0
  · omega
  · rw [if_neg (by simp; omega)]; omega
theorem flen_48 (s : List UInt8) (hs : flen s = s.length) (h : s.length ≠ 0) : 48 ≤ s.length ∧ s.length ≤ 16384 := by
  rcases flen_cases s with h1 | h1 <;> omega
/-- A frame's sectors. -/
def secs (s : List UInt8) : List (List UInt8) := if s.length = 0 then [] else full (s.take 256) :: secs (s.drop 256)
termination_by s.length
decreasing_by simp only [List.length_drop]; omega
theorem secs_nil (s : List UInt8) (h : s.length = 0) : secs s = [] := by rw [secs, if_pos h]
theorem secs_go (s : List UInt8) (h : 0 < s.length) : secs s = full (s.take 256) :: secs (s.drop 256) := by rw [secs, if_neg (by omega)]
theorem secs_length (n : Nat) : ∀ s : List UInt8, s.length = n → (secs s).length = (s.length + 255) / 256 := by
  induction n using Nat.strongRecOn with
  | ind n ih =>
    intro s hs
    by_cases h : s.length = 0
    · rw [secs_nil s h, h]; rfl
    · rw [secs_go s (by omega), List.length_cons, ih (s.drop 256).length (by simp; omega) (s.drop 256) rfl, List.length_drop]
      omega
theorem secs_len (s : List UInt8) : (secs s).length = (s.length + 255) / 256 := secs_length _ s rfl
theorem secs_full (n : Nat) : ∀ s : List UInt8, s.length = n → ∀ x ∈ secs s, x.length = 256 := by
  induction n using Nat.strongRecOn with
  | ind n ih =>
    intro s hs x hx
    by_cases h : s.length = 0
    · rw [secs_nil s h] at hx; cases hx
    · rw [secs_go s (by omega)] at hx
      rcases List.mem_cons.1 hx with rfl | hx
      · exact full_length _ (by simp; omega)
      · exact ih (s.drop 256).length (by simp; omega) (s.drop 256) rfl x hx
/-- What the first sectors hold. -/
theorem secs_take (n : Nat) : ∀ s : List UInt8, s.length = n → ∀ k, 256 * k ≤ s.length → ((secs s).take k).flatten = s.take (256 * k) := by
  induction n using Nat.strongRecOn with
  | ind n ih =>
    intro s hs k hk
    cases k with
    | zero => simp
    | succ k =>
      rw [secs_go s (by omega), List.take_succ_cons, List.flatten_cons, ih (s.drop 256).length (by simp; omega) (s.drop 256) rfl k (by simp; omega)]
      have hf : full (s.take 256) = s.take 256 := by unfold full; simp; omega
      rw [hf, show 256 * (k + 1) = 256 + 256 * k by omega, List.take_add]
/-- All of them hold it whole. -/
theorem secs_all (n : Nat) : ∀ s : List UInt8, s.length = n → ∃ z, (secs s).flatten = s ++ z := by
  induction n using Nat.strongRecOn with
  | ind n ih =>
    intro s hs
    by_cases h : s.length = 0
    · exact ⟨[], by rw [secs_nil s h, List.length_eq_zero_iff.1 h]; rfl⟩
    · obtain ⟨z, hz⟩ := ih (s.drop 256).length (by simp; omega) (s.drop 256) rfl
      rw [secs_go s (by omega), List.flatten_cons, hz]
      by_cases h2 : 256 ≤ s.length
      · refine ⟨z, ?_⟩
        have hf : full (s.take 256) = s.take 256 := by unfold full; simp; omega
        rw [hf, ← List.append_assoc, List.take_append_drop]
      · refine ⟨List.replicate (256 - s.length) 0 ++ z, ?_⟩
        rw [List.take_of_length_le (by omega), List.drop_of_length_le (by omega), full]
        simp
/-- Sectors from p on are those. -/
def At (ls : List (List UInt8)) (p : Nat) (xs : List (List UInt8)) : Prop := ∀ i, i < xs.length → ls[p + i]? = xs[i]?
theorem At.cons {ls : List (List UInt8)} {p : Nat} {x : List UInt8} {xs : List (List UInt8)} (h : At ls p (x :: xs)) : ls[p]? = some x ∧ At ls (p + 1) xs :=
  ⟨by have := h 0 (by simp); simpa using this, fun i hi => by have := h (i + 1) (by simp; omega); rw [show p + 1 + i = p + (i + 1) by omega, this]; simp⟩
theorem At.ext {ls l2 : List (List UInt8)} {p : Nat} {xs : List (List UInt8)} (h : At ls p xs) (e : ∀ i, p ≤ i → i < p + xs.length → l2[i]? = ls[i]?) : At l2 p xs :=
  fun i hi => by rw [e _ (by omega) (by omega)]; exact h i hi
/-- A frame that stands there is read. -/
theorem look_yes (ls : List (List UInt8)) (e p : Nat) (s : List UInt8) (hs : flen s = s.length) (h0 : s.length ≠ 0) (hA : At ls p (secs s)) (he : p + (secs s).length ≤ e) :
    aLook ls e p 64 0 [] = some ((secs s).length - 1, s) := by
  have h48 := flen_48 s hs h0
  have hn := secs_len s
  have go : ∀ f i : Nat, i < (secs s).length → (secs s).length ≤ f + i → aLook ls e p f i (s.take (256 * i)) = some ((secs s).length - 1, s) := by
    intro f
    induction f with
    | zero => intro i h1 h2; omega
    | succ f ih =>
      intro i h1 h2
      rw [aLook, if_pos (by omega)]
      have hat : ls.getD (p + i) [] = (secs s)[i] := by rw [List.getD_eq_getElem?_getD, hA i h1, List.getElem?_eq_getElem h1]; rfl
      rw [hat]
      have hpre : ((secs s).take i).flatten = s.take (256 * i) := secs_take _ s rfl i (by omega)
      have hj : s.take (256 * i) ++ (secs s)[i] = ((secs s).take (i + 1)).flatten := by
        rw [List.take_succ_eq_append_getElem h1, List.flatten_append, hpre]; simp
      rw [hj]
      by_cases hl : i + 1 = (secs s).length
      · obtain ⟨z, hz⟩ := secs_all _ s rfl
        rw [hl, List.take_length, hz, flen_app s z hs (by omega), if_pos (by omega), show i = (secs s).length - 1 by omega]
        simp
      · rw [secs_take _ s rfl (i + 1) (by omega), flen_part s (256 * (i + 1)) hs (by omega) (by omega), if_neg (by omega)]
        exact ih (i + 1) (by omega) (by omega)
  have := go 64 0 (by omega) (by omega)
  simpa using this
theorem next_yes (d : Dk) (a : Ar) (s : List UInt8) (ho : d.off = false) (hs : flen s = s.length) (h0 : s.length ≠ 0) (hA : At d.now a.pos (secs s)) (he : a.pos + (secs s).length ≤ a.top) :
    aNext d a = ({ a with pos := a.pos + (secs s).length }, s, 0) := by
  have hn := secs_len s
  unfold aNext
  rw [if_neg (by simp [ho]), look_yes d.now a.top a.pos s hs h0 hA he]
  simp only
  rw [show a.pos + ((secs s).length - 1) + 1 = a.pos + (secs s).length by omega]
/-- Noughts are no frame. -/
theorem fnum_zero (n : Nat) : fnum (List.replicate n 0) = 0 := by
  rcases fnum_cases (List.replicate n 0) with h | h
  · exact h
  · exfalso
    obtain ⟨V, hV⟩ := fnum_num _ h.1
    have e := num8_forth (fnum (List.replicate n (0 : UInt8))) (by omega)
    have hall : ∀ x ∈ num8 (fnum (List.replicate n (0 : UInt8))), x = 0 := fun x hx => by
      have : x ∈ List.replicate n (0 : UInt8) := by rw [hV]; exact List.mem_append_left _ hx
      exact List.eq_of_mem_replicate this
    have hr : num8 (fnum (List.replicate n (0 : UInt8))) = List.replicate 8 0 := List.eq_replicate_iff.2 ⟨by simp, hall⟩
    rw [hr] at e
    have e0 : wrap64 (lowN (List.replicate 8 (0 : UInt8)) : Nat) = 0 := by simp [List.replicate, lowN, wrap64]
    omega
theorem flen_zero (n : Nat) : flen (List.replicate n 0) = 0 := by
  unfold flen; rw [fnum_zero]; split <;> rfl
theorem look_no (ls : List (List UInt8)) (e p : Nat) (hz : ∀ i, p ≤ i → i < e → ls[i]? = some (full [])) : ∀ f i n : Nat, aLook ls e p f i (List.replicate n 0) = none := by
  intro f
  induction f with
  | zero => intro i n; rfl
  | succ f ih =>
    intro i n
    rw [aLook]
    by_cases h : p + i < e
    · rw [if_pos h]
      have hat : ls.getD (p + i) [] = List.replicate 256 0 := by rw [List.getD_eq_getElem?_getD, hz _ (by omega) h]; rfl
      rw [hat, List.replicate_append_replicate, flen_zero, if_neg (by omega)]
      exact ih (i + 1) (n + 256)
    · rw [if_neg h]
theorem next_no (d : Dk) (a : Ar) (ho : d.off = false) (hz : ∀ i, a.pos ≤ i → i < a.top → d.now[i]? = some (full [])) : aNext d a = (a, [], 0) := by
  unfold aNext
  have h := look_no d.now a.top a.pos hz 64 0 0
  rw [List.replicate_zero] at h
  rw [if_neg (by simp [ho]), h]
/-- A disk whose power is on and whose fuse isn't lit, after k sectors more were written from p on: what they have, all others as they were. -/
structure Put (d : Dk) (p : Nat) (xs : List (List UInt8)) (d2 : Dk) : Prop where
  off : d2.off = false
  fuse : d2.fuse = 0
  acts : d2.acts = d.acts + xs.length
  size : d2.now.length = d.now.length
  there : At d2.now p xs
  else_ : ∀ i, i < p ∨ p + xs.length ≤ i → d2.now[i]? = d.now[i]?
  safe : d2.safe = d.safe
  waits : ∀ x ∈ d2.waits, x ∈ d.waits ∨ p ≤ x.1 ∧ x.1 < p + xs.length
theorem write_one_ (d : Dk) (p : Nat) (b : List UInt8) (ho : d.off = false) (hf : d.fuse = 0) (hp : p < d.now.length) (hb : b.length ≤ 256) :
    write E8 d p b = (wrote { d with acts := d.acts + 1, fuse := 0 } p b, 0) := by
  unfold write
  rw [if_neg (by simp [ho]), if_neg (by omega), if_neg (by omega), act_on d ho, hf]
  rfl
theorem adds_yes (n : Nat) : ∀ (s : List UInt8) (d : Dk) (p : Nat), s.length = n → d.off = false → d.fuse = 0 → p + (secs s).length ≤ d.now.length →
    ∃ d2, aAdds d p s = (d2, p + (secs s).length, 0) ∧ Put d p (secs s) d2 := by
  induction n using Nat.strongRecOn with
  | ind n ih =>
    intro s d p hs ho hf hp
    by_cases h : s.length = 0
    · rw [aAdds_nil d p s h, secs_nil s h]
      exact ⟨d, rfl, ho, hf, rfl, rfl, fun i hi => by simp at hi, fun _ _ => rfl, rfl, fun x hx => .inl hx⟩
    · have hgo := secs_go s (by omega)
      have hlen : (secs s).length = (secs (s.drop 256)).length + 1 := by rw [hgo]; simp
      have hw := write_one_ d p (s.take 256) ho hf (by omega) (by simp; omega)
      rw [aAdds_go d p s (by omega) (by rw [hw]), hw]
      obtain ⟨d2, e2, P⟩ := ih (s.drop 256).length (by simp; omega) (s.drop 256) (wrote { d with acts := d.acts + 1, fuse := 0 } p (s.take 256)) (p + 1) rfl ho rfl (by simp only [wrote, List.length_set]; omega)
      refine ⟨d2, by rw [e2, hlen, show p + 1 + (secs (s.drop 256)).length = p + ((secs (s.drop 256)).length + 1) by omega], ?_⟩
      refine ⟨P.off, P.fuse, ?_, ?_, ?_, ?_, P.safe, ?_⟩
      · rw [P.acts, hlen]; simp only [wrote]; omega
      · rw [P.size]; simp only [wrote, List.length_set]
      · intro i hi
        cases i with
        | zero =>
          rw [P.else_ (p + 0) (.inl (by omega))]
          simp only [wrote, Nat.add_zero]
          rw [List.getElem?_set_self (by omega), hgo]
          rfl
        | succ i =>
          rw [show p + (i + 1) = p + 1 + i by omega, P.there i (by omega), hgo]
          rfl
      · intro i hi
        rw [P.else_ i (by omega)]
        simp only [wrote]
        rw [List.getElem?_set_ne (by omega)]
      · intro x hx
        rcases P.waits x hx with h1 | h1
        · simp only [wrote] at h1
          rcases List.mem_append.1 h1 with h2 | h2
          · exact .inl h2
          · rw [List.mem_singleton.1 h2]; exact .inr ⟨by simp, by simp; omega⟩
        · exact .inr ⟨by omega, by omega⟩
/-- A frame is added. -/
theorem add_yes (d : Dk) (a : Ar) (s : List UInt8) (hs : flen s = s.length) (h0 : s.length ≠ 0) (ho : d.off = false) (hf : d.fuse = 0) (ha : a.pos + (secs s).length ≤ a.top) (ht : a.top ≤ d.now.length) :
    ∃ d2, aAdd d a s = (d2, { a with pos := a.pos + (secs s).length }, 0) ∧ Put d a.pos (secs s) d2 := by
  obtain ⟨d2, e2, P⟩ := adds_yes s.length s d a.pos rfl ho hf (by omega)
  have hn := secs_len s
  refine ⟨d2, ?_, P⟩
  unfold aAdd
  rw [if_neg (by simp [hs]; intro h; exact h0 (by rw [h]; rfl)), if_neg (by simp [ho]), if_neg (by omega), e2]
  simp
theorem add_full (d : Dk) (a : Ar) (s : List UInt8) (hs : flen s = s.length) (h0 : s.length ≠ 0) (ho : d.off = false) (ha : a.top < a.pos + (secs s).length) (hp : a.pos ≤ a.top) : aAdd d a s = (d, a, 7) := by
  have hn := secs_len s
  unfold aAdd
  rw [if_neg (by simp [hs]; intro h; exact h0 (by rw [h]; rfl)), if_neg (by simp [ho]), if_pos (by omega)]
/-- Frames one behind the other, from p to q. -/
inductive Fr (ls : List (List UInt8)) : Nat → List (List UInt8) → Nat → Prop where
  | nil (p : Nat) : Fr ls p [] p
  | cons {p q : Nat} {s : List UInt8} {fs : List (List UInt8)} (hs : flen s = s.length) (h0 : s.length ≠ 0) (hA : At ls p (secs s)) (h : Fr ls (p + (secs s).length) fs q) : Fr ls p (s :: fs) q
theorem Fr.le {ls : List (List UInt8)} {p q : Nat} {fs : List (List UInt8)} (h : Fr ls p fs q) : p ≤ q := by
  induction h with
  | nil => exact Nat.le_refl _
  | cons _ _ _ _ ih => omega
theorem Fr.ext {ls l2 : List (List UInt8)} {p q : Nat} {fs : List (List UInt8)} (h : Fr ls p fs q) (e : ∀ i, p ≤ i → i < q → l2[i]? = ls[i]?) : Fr l2 p fs q := by
  induction h with
  | nil p => exact .nil p
  | cons hs h0 hA h ih =>
    have hle := h.le
    exact .cons hs h0 (hA.ext fun i h1 h2 => e i h1 (by omega)) (ih fun i h1 h2 => e i (by omega) h2)
theorem Fr.snoc {ls : List (List UInt8)} {p q : Nat} {fs : List (List UInt8)} (h : Fr ls p fs q) (s : List UInt8) (hs : flen s = s.length) (h0 : s.length ≠ 0) (hA : At ls q (secs s)) : Fr ls p (fs ++ [s]) (q + (secs s).length) := by
  induction h with
  | nil p => exact .cons hs h0 hA (.nil _)
  | cons h1 h2 h3 _ ih => exact .cons h1 h2 h3 (ih hA)
/-- The power goes behind a sync, and comes back: nothing is lost. -/
theorem lose_synced (d : Dk) (keep : Nat) (ho : d.off = false) (hw : d.waits = []) (hs : d.safe = d.now) : (on (lose d keep)).now = d.now ∧ (on (lose d keep)).off = false ∧ (on (lose d keep)).fuse = 0 := by
  rw [lose_on d keep ho, hw, hs]
  exact ⟨rfl, rfl, rfl⟩
theorem sync_yes (d : Dk) (ho : d.off = false) (hf : d.fuse = 0) : sync E8 d = ({ d with acts := d.acts + 1, fuse := 0, safe := d.now, waits := [] }, 0) := by
  unfold sync
  rw [if_neg (by simp [ho]), act_on d ho, hf]
  rfl
/-- Some bytes as long as a frame of them: their number, they, noughts. -/
def frm (s : List UInt8) : List UInt8 := num8 ((max s.length 40 + 8 : Nat) : Int) ++ (s ++ List.replicate (max s.length 40 - s.length) 0)
theorem frm_length (s : List UInt8) : (frm s).length = max s.length 40 + 8 := by unfold frm; simp; omega
theorem frm_flen (s : List UInt8) (h : s.length ≤ 16376) : flen (frm s) = (frm s).length := by
  have e : fnum (frm s) = ((max s.length 40 + 8 : Nat) : Int) := fnum_app _ _ (by omega)
  have hl := frm_length s
  unfold flen
  rw [e, if_neg (by omega)]
  omega
theorem frm_pos (s : List UInt8) : (frm s).length ≠ 0 := by rw [frm_length]; omega
/-- What an area's disk has, behind frames that were added: they, and noughts up to its end. -/
structure Adds (n : Nat) (a : Ar) (lo : Nat) (d : Dk) (fs : List (List UInt8)) : Prop where
  off : d.off = false
  fuse : d.fuse = 0
  size : d.now.length = n
  top : a.top ≤ n
  pos : a.pos ≤ a.top
  fr : Fr d.now lo fs a.pos
  zero : ∀ i, a.pos ≤ i → i < a.top → d.now[i]? = some (full [])
theorem Adds.add {n lo : Nat} {a : Ar} {d : Dk} {fs : List (List UInt8)} (h : Adds n a lo d fs) (s : List UInt8) (hs : flen s = s.length) (h0 : s.length ≠ 0) (hr : a.pos + (secs s).length ≤ a.top) :
    ∃ d2, aAdd d a s = (d2, { a with pos := a.pos + (secs s).length }, 0) ∧ Adds n { a with pos := a.pos + (secs s).length } lo d2 (fs ++ [s]) ∧ d2.acts = d.acts + (secs s).length ∧ (∀ i, i < a.pos ∨ a.top ≤ i → d2.now[i]? = d.now[i]?) := by
  obtain ⟨d2, e, P⟩ := add_yes d a s hs h0 h.off h.fuse hr (by have := h.top; have := h.size; omega)
  refine ⟨d2, e, ⟨P.off, P.fuse, by rw [P.size, h.size], h.top, hr, ?_, fun i h1 h2 => ?_⟩, P.acts, fun i hi => P.else_ i (by omega)⟩
  · exact (h.fr.ext fun i h1 h2 => P.else_ i (.inl h2)).snoc s hs h0 P.there
  · rw [P.else_ i (.inr h1)]; exact h.zero i (by have h1 : a.pos + (secs s).length ≤ i := h1; omega) h2
/-- A new disk's areas. -/
theorem adds_new (n : Nat) (odd : Bool) : Adds n (aHalf n odd) (aHalf n odd).pos (new n) [] :=
  ⟨rfl, rfl, by simp [new], (aHalf_ok n odd).2, (aHalf_ok n odd).1, .nil _, fun i h1 h2 => by
    have := (aHalf_ok n odd).2
    simp only [new]
    rw [List.getElem?_replicate, if_pos (by omega)]⟩
/-- Behind a sync and a loss of power, all is there. -/
theorem Adds.back {n lo : Nat} {a : Ar} {d : Dk} {fs : List (List UInt8)} (h : Adds n a lo d fs) (keep : Nat) :
    Adds n a lo (on (lose (sync E8 d).1 keep)) fs ∧ (on (lose (sync E8 d).1 keep)).now = d.now := by
  rw [sync_yes d h.off h.fuse]
  obtain ⟨e1, e2, e3⟩ := lose_synced { d with acts := d.acts + 1, fuse := 0, safe := d.now, waits := [] } keep h.off rfl rfl
  exact ⟨⟨e2, e3, by rw [e1]; exact h.size, h.top, h.pos, by rw [e1]; exact h.fr, by rw [e1]; exact h.zero⟩, e1⟩
/-- The frames are read one behind the other. -/
theorem read_on {d : Dk} {p q top : Nat} {s : List UInt8} {fs : List (List UInt8)} (ho : d.off = false) (h : Fr d.now p (s :: fs) q) (hq : q ≤ top) :
    aNext d ⟨top, p⟩ = (⟨top, p + (secs s).length⟩, s, 0) ∧ Fr d.now (p + (secs s).length) fs q := by
  cases h with
  | cons hs h0 hA h =>
    have := h.le
    exact ⟨next_yes d ⟨top, p⟩ s ho hs h0 hA (by show p + (secs s).length ≤ top; omega), h⟩
theorem flen_def (s : List UInt8) : flen s = if (s.length : Int) < fnum s then 0 else (fnum s).toNat := rfl
attribute [local irreducible] flen
theorem low_of (s g : List UInt8) (i N : Nat) (hs : s.length = 256 * i) (hi0 : i ≠ 0) (hz : flen s = 0) (hN : (N : Int) = fnum (s ++ g)) (h48 : 48 ≤ N) : 256 * i < N := by
  have h8 : 8 ≤ s.length := by omega
  have h3 := flen_def s
  rw [hz, ← fnum_more s g h8, ← hN] at h3
  by_cases hq : (s.length : Int) < (N : Int)
  · omega
  · rw [if_neg hq, Int.toNat_natCast] at h3
    omega
theorem low_all (s g : List UInt8) (i N : Nat) (hs : s.length = 256 * i) (hz : i = 0 ∨ flen s = 0) (hN : (N : Int) = fnum (s ++ g)) (h48 : 48 ≤ N) : 256 * i < N := by
  by_cases hi0 : i = 0
  · omega
  · exact low_of s g i N hs hi0 (hz.resolve_left hi0) hN h48
theorem sums1 (N i T : Nat) (h0 : 0 < N) (hc : N = 0 ∨ 48 ≤ N ∧ N ≤ 16384 ∧ N ≤ T) (hT : T = 256 * (i + 1)) : 48 ≤ N ∧ N ≤ 256 * (i + 1) ∧ min N T = N ∧ 8 ≤ N := by omega
theorem sums2 (N i : Nat) (h1 : 256 * i < N) (h2 : N ≤ 256 * (i + 1)) : i + 1 = (N + 255) / 256 := by omega
/-- What is read of any sectors is as long as it tells, and takes so many sectors. -/
theorem look_some (ls : List (List UInt8)) (e p : Nat) (hl : ∀ x ∈ ls, x.length = 256) (he : e ≤ ls.length) (x : Nat × List UInt8) : ∀ (f i : Nat) (s : List UInt8), s.length = 256 * i → (i = 0 ∨ flen s = 0) → aLook ls e p f i s = some x →
    flen x.2 = x.2.length ∧ 48 ≤ x.2.length ∧ x.1 + 1 = (x.2.length + 255) / 256 ∧ p + x.1 < e := by
  intro f
  induction f with
  | zero => intro i s _ _ h; cases h
  | succ f ih =>
    intro i s hs hz h
    rw [aLook] at h
    by_cases hp : p + i < e
    · rw [if_pos hp] at h
      have hat : (ls.getD (p + i) []).length = 256 := by
        rw [List.getD_eq_getElem?_getD, List.getElem?_eq_getElem (by omega)]
        exact hl _ (List.getElem_mem _)
      generalize hg : ls.getD (p + i) [] = g at *
      have ht : (s ++ g).length = 256 * (i + 1) := by rw [List.length_append, hs, hat]; omega
      by_cases h0 : 0 < flen (s ++ g)
      · rw [if_pos h0] at h
        have hx := Option.some.inj h
        rw [← hx]
        show flen ((s ++ g).take (flen (s ++ g))) = ((s ++ g).take (flen (s ++ g))).length ∧ 48 ≤ ((s ++ g).take (flen (s ++ g))).length ∧ i + 1 = (((s ++ g).take (flen (s ++ g))).length + 255) / 256 ∧ p + i < e
        have hi := flen_int (s ++ g)
        have hc := flen_cases (s ++ g)
        have hn : (flen (s ++ g) : Int) = fnum (s ++ g) ∧ ¬ ((s ++ g).length : Int) < fnum (s ++ g) := by
          by_cases hq : ((s ++ g).length : Int) < fnum (s ++ g)
          · rw [if_pos hq] at hi; omega
          · rw [if_neg hq] at hi; exact ⟨hi, hq⟩
        clear hi h hx ih
        obtain ⟨N, hN⟩ : ∃ N, N = flen (s ++ g) := ⟨_, rfl⟩
        rw [← hN] at h0 hc hn ⊢
        obtain ⟨hn1, hn2⟩ := hn
        obtain ⟨h48, htop, hmin, h8⟩ := sums1 N i _ h0 hc ht
        have hlen : ((s ++ g).take N).length = N := by rw [List.length_take]; exact hmin
        have hm := fnum_more ((s ++ g).take N) ((s ++ g).drop N) (hlen.symm ▸ h8)
        rw [List.take_append_drop] at hm
        have hlow := low_all s g i N hs hz hn1 h48
        rw [flen_def, hlen, ← hm, ← hn1, if_neg (Int.lt_irrefl _), Int.toNat_natCast]
        exact ⟨rfl, h48, sums2 N i hlow htop, hp⟩
      · rw [if_neg h0] at h
        exact ih (i + 1) (s ++ g) ht (.inr (by omega)) h
    · rw [if_neg hp] at h; cases h
theorem next_any (d : Dk) (a : Ar) (hk : Ok d) (ho : d.off = false) (ht : a.top ≤ d.now.length) :
    aNext d a = (a, [], 0) ∨ ∃ t, aNext d a = ({ a with pos := a.pos + (t.length + 255) / 256 }, t, 0) ∧ flen t = t.length ∧ 48 ≤ t.length ∧ a.pos + (t.length + 255) / 256 ≤ a.top := by
  unfold aNext
  rw [if_neg (by simp [ho])]
  cases h : aLook d.now a.top a.pos 64 0 [] with
  | none => exact .inl rfl
  | some x =>
    obtain ⟨h1, h2, h3, h4⟩ := look_some d.now a.top a.pos hk.now ht x 64 0 [] rfl (.inl rfl) h
    refine .inr ⟨x.2, ?_, h1, h2, by omega⟩
    simp only
    rw [show a.pos + x.1 + 1 = a.pos + (x.2.length + 255) / 256 by omega]
end Go.Proofs.Ytndkmfflpphoiaa.Disk
