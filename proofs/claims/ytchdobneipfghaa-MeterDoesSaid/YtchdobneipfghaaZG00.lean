/- Small words and laws for worlds: rows of one-cell elements that a slice reads, rows that the call owns, what a call keeps; append onto an owned row, bytes to string, string to bytes. No program is named here. · Sectors whose power can go, on lists: what is there, what is safe, what waits; what stands behind a loss of power. No program is named here. · A small register that only goes on, on numbers and lists: what it says, how it goes on, with the power of a disk. No program is named here. · More on sectors whose power can go, on lists: all writes kept; what a sector is behind them. No program is named here. · The words of layer 1: numbers and texts as bytes, a reader of bytes, on lists. No program is named here. -/
import Derived.WalkKit
import Derived.WalkSpells
import Derived.WalkLawsBesides
import Derived.Maps.AppendAt
import Derived.Deep.AppendLies
import Derived.Lib.AppendStr
import Derived.Lib.LazyBuf
import Derived.Lib.Hide
import Derived.SizedLaws
import Derived.Laws.IdiomStrings
import Derived.Laws.Bits64b
namespace Go.Proofs.Ytchdobneipfghaa.Kit
set_option linter.unusedVariables false
set_option linter.unusedSimpArgs false
open Go Go.RowKit

/-- A byte as a cell, bytes as cells. -/
def bv (b : UInt8) : Value := .int .u8 (b.toNat : Int)
def bvs (l : List UInt8) : List Value := l.map bv
@[simp] theorem bvs_length (l : List UInt8) : (bvs l).length = l.length := by simp [bvs]
theorem bvs_append (l m : List UInt8) : bvs (l ++ m) = bvs l ++ bvs m := by simp [bvs]
theorem bvs_one (l : List UInt8) : ∀ u ∈ bvs l, u.oneCell' = true := by
  intro u hu; simp only [bvs, List.mem_map] at hu; obtain ⟨b, _, rfl⟩ := hu; rfl
theorem bvs_get {l : List UInt8} {i : Nat} (h : i < l.length) : (bvs l)[i]? = some (bv l[i]) := by simp [bvs, h]

theorem bv_ofNat (x : Nat) : bv (UInt8.ofNat x) = .int .u8 ((x : Int) % 256) := by simp [bv]

/-- What a call keeps: all blocks that were there but those of F are as they were. -/
structure Kp (F : Nat → Prop) (w w' : World) : Prop where
  os : w'.os = w.os
  tape : w'.tape = w.tape
  output : w'.output = w.output
  size : w.heap.size ≤ w'.heap.size
  block : ∀ k, k < w.heap.size → ¬ F k → w'.heap[k]? = w.heap[k]?

def nob : Nat → Prop := fun _ => False

theorem Kp.refl (F : Nat → Prop) (w : World) : Kp F w w := ⟨rfl, rfl, rfl, Nat.le_refl _, fun _ _ _ => rfl⟩
theorem Kp.trans {F G : Nat → Prop} {a b c : World} (h : Kp F a b) (k : Kp G b c) (hg : ∀ i, G i → F i ∨ a.heap.size ≤ i) : Kp F a c :=
  ⟨k.os.trans h.os, k.tape.trans h.tape, k.output.trans h.output, Nat.le_trans h.size k.size,
   fun i hi hf => (k.block i (Nat.lt_of_lt_of_le hi h.size) (fun e => (hg i e).elim hf (fun h => by omega))).trans (h.block i hi hf)⟩
theorem Kp.mono {F G : Nat → Prop} {a b : World} (h : Kp F a b) (hg : ∀ i, i < a.heap.size → F i → G i) : Kp G a b :=
  ⟨h.os, h.tape, h.output, h.size, fun i hi hf => h.block i hi (fun e => hf (hg i hi e))⟩
theorem Kp.drew {F : Nat → Prop} {a b : World} (h : Kp F a b) : Kp F a b.drew := ⟨h.os, h.tape, h.output, h.size, h.block⟩
theorem Kp.drewN {F : Nat → Prop} {a b : World} (h : Kp F a b) (n : Nat) : Kp F a (b.drewN n) := ⟨h.os, h.tape, h.output, h.size, h.block⟩
theorem Kp.alloc {F : Nat → Prop} {a b : World} (h : Kp F a b) (o : Obj) : Kp F a (b.alloc o) :=
  ⟨h.os, h.tape, h.output, Nat.le_trans h.size (by simp), fun k hk hf => (Below.heap_alloc b o k (Nat.lt_of_lt_of_le hk h.size)).trans (h.block k hk hf)⟩
theorem Kp.setCell {F : Nat → Prop} {a b : World} (h : Kp F a b) {p : Addr} (hp : F p.block ∨ a.heap.size ≤ p.block) (u : Value) : Kp F a (b.setCell p u) :=
  ⟨h.os, h.tape, h.output, Nat.le_trans h.size (by simp [World.setCell]), fun k hk hf => (Below.heap_setCell b p u k (fun e => by subst e; rcases hp with hp | hp; exact hf hp; omega)).trans (h.block k hk hf)⟩
theorem Kp.grown {F : Nat → Prop} {a b c : World} (h : Kp F a b) {row : Option Nat} (hg : b.grownBy c row) (hr : ∀ k, row = some k → F k ∨ a.heap.size ≤ k) : Kp F a c :=
  ⟨hg.os.trans h.os, hg.tape.trans h.tape, hg.output.trans h.output, Nat.le_trans h.size hg.size,
   fun k hk hf => (hg.block k (Nat.lt_of_lt_of_le hk h.size) (fun e => (hr k e.symm).elim hf (fun h => by omega))).trans (h.block k hk hf)⟩
theorem Kp.below {B : Nat} {w w' : World} {F : Nat → Prop} (h : Kp F w w') (hF : ∀ k, F k → B ≤ k) (hB : B ≤ w.heap.size) : Below B w w' :=
  ⟨h.os, h.tape, h.output, h.size, fun k hk => h.block k (by omega) (fun e => by have := hF k e; omega)⟩
theorem Kp.of_below {w w' : World} (h : Below w.heap.size w w') : Kp nob w w' :=
  ⟨h.os, h.tape, h.output, h.size, fun k hk _ => h.block k hk⟩
theorem Kp.nob {w w' : World} (h : Kp nob w w') (F : Nat → Prop) : Kp F w w' := h.mono (fun _ _ e => e.elim)
theorem Kp.to_below {w w' : World} (h : Kp Kit.nob w w') : Below w.heap.size w w' := h.below (fun _ e => e.elim) (Nat.le_refl _)
theorem Kp.cell {F : Nat → Prop} {w w' : World} (h : Kp F w w') {p : Addr} (hp : p.block < w.heap.size) (hf : ¬ F p.block) : w'.cell? p = w.cell? p := World.cell?_of_block (h.block _ hp hf)
theorem Kp.frozen {F : Nat → Prop} {w w' : World} (h : Kp F w w') {p : Addr} (hp : p.block < w.heap.size) (hf : ¬ F p.block) : w'.frozen? p = w.frozen? p := World.frozen?_of_block (h.block _ hp hf)

/-- The block of a slice's address. -/
def ab : Option Addr → Option Nat
  | some a => some a.block
  | none => none
theorem ab_own (A : Option Addr) (n c : Nat) : (Value.slice A n c).ownBlock = ab A := by cases A <;> rfl

/-- The slice '.slice A xs.length c' reads the cells xs. -/
def Row (w : World) (A : Option Addr) (xs : List Value) : Prop :=
  xs = [] ∨ ∃ b o, A = some ⟨b, o, none⟩ ∧ b < w.heap.size ∧ ∀ i u, xs[i]? = some u → w.cell? ⟨b, o + i, none⟩ = some u

theorem Row.nil (w : World) (A : Option Addr) : Row w A [] := .inl rfl
theorem Row.keep {F : Nat → Prop} {w w' : World} {A : Option Addr} {xs : List Value} (h : Row w A xs) (hk : Kp F w w') (hf : ∀ k, ab A = some k → ¬ F k) : Row w' A xs := by
  rcases h with rfl | ⟨b, o, rfl, hb, hc⟩
  · exact .inl rfl
  · exact .inr ⟨b, o, rfl, Nat.lt_of_lt_of_le hb hk.size, fun i u hu => (hk.cell (p := ⟨b, o + i, none⟩) hb (hf b rfl)).trans (hc i u hu)⟩
theorem Row.keep0 {w w' : World} {A : Option Addr} {xs : List Value} (h : Row w A xs) (hk : Kp Kit.nob w w') : Row w' A xs := h.keep hk (fun _ _ e => e)
theorem Row.lt {w : World} {A : Option Addr} {xs : List Value} (h : Row w A xs) (hx : xs ≠ []) : ∀ k, ab A = some k → k < w.heap.size := by
  rcases h with rfl | ⟨b, o, rfl, hb, _⟩
  · exact absurd rfl hx
  · intro k hk; cases hk; exact hb
theorem Row.at_ {w : World} {A : Option Addr} {xs : List Value} (h : Row w A xs) {i : Nat} (hi : i < xs.length) : ∃ b o, A = some ⟨b, o, none⟩ ∧ b < w.heap.size ∧ w.cell? ⟨b, o + i, none⟩ = some xs[i] := by
  rcases h with rfl | ⟨b, o, rfl, hb, hc⟩
  · simp at hi
  · exact ⟨b, o, rfl, hb, hc i _ (List.getElem?_eq_getElem hi)⟩
theorem Row.drop {w : World} {A : Option Addr} {xs : List Value} (h : Row w A xs) (k : Nat) : Row w (A.map (·.add k)) (xs.drop k) := by
  rcases h with rfl | ⟨b, o, rfl, hb, hc⟩
  · exact .inl (by simp)
  · refine .inr ⟨b, o + k, ?_, hb, fun i u hu => ?_⟩
    · by_cases hk : k = 0 <;> simp [Addr.add, hk]
    · rw [List.getElem?_drop] at hu
      have := hc (k + i) u hu
      rwa [← Nat.add_assoc] at this
theorem Row.take {w : World} {A : Option Addr} {xs : List Value} (h : Row w A xs) (k : Nat) : Row w A (xs.take k) := by
  rcases h with rfl | ⟨b, o, rfl, hb, hc⟩
  · exact .inl (by simp)
  · refine .inr ⟨b, o, rfl, hb, fun i u hu => ?_⟩
    rw [List.getElem?_take] at hu
    split at hu
    · exact hc i u hu
    · cases hu

/-- The slice '.slice A n c' of elements of type e owns the cells xs. -/
def Own (e : TypeId) (w : World) (A : Option Addr) (n c : Nat) (xs : List Value) : Prop := w.ownsRow 0 e 1 (.slice A n c) n xs

theorem Own.len {e : TypeId} {w : World} {A : Option Addr} {n c : Nat} {xs : List Value} (h : Own e w A n c xs) : xs.length = n := by simpa using h.1
theorem Own.nil (e : TypeId) (w : World) : Own e w none 0 0 [] := World.ownsRow_nil w 0 e 1
theorem Own.row {e : TypeId} {w : World} {A : Option Addr} {n c : Nat} {xs : List Value} (h : Own e w A n c xs) : Row w A xs := by
  rcases h.2 with ⟨h1, h2⟩ | ⟨g, cap, cur, h1, _, hg, hnc, hcm, hcs, ht⟩
  · exact .inl (List.eq_nil_of_length_eq_zero (by rw [h.len]; exact h2))
  · cases h1
    refine .inr ⟨g, 0, rfl, ?_, fun i u hu => ?_⟩
    · rcases Nat.lt_or_ge g w.heap.size with hlt | hge
      · exact hlt
      · rw [Array.getElem?_eq_none hge] at hg; cases hg
    · have := h.cells (g := g) rfl i u hu
      by_cases hi : i = 0 <;> simpa [Addr.add, hi] using this
theorem Own.lt {e : TypeId} {w : World} {A : Option Addr} {n c : Nat} {xs : List Value} (h : Own e w A n c xs) : ∀ k, ab A = some k → k < w.heap.size :=
  fun k hk => (World.ownsRow.lt h k (by rw [ab_own]; exact hk)).2
theorem Own.keep {e : TypeId} {F : Nat → Prop} {w w' : World} {A : Option Addr} {n c : Nat} {xs : List Value} (h : Own e w A n c xs) (hk : Kp F w w') (hf : ∀ k, ab A = some k → ¬ F k) : Own e w' A n c xs := by
  refine ⟨h.1, ?_⟩
  rcases h.2 with h1 | ⟨g, cap, cur, h1, h0, hg, r⟩
  · exact .inl h1
  · refine .inr ⟨g, cap, cur, h1, h0, ?_, r⟩
    have hA : A = some ⟨g, 0, none⟩ := by injection h1
    rw [hk.block g (h.lt g (by rw [hA]; rfl)) (hf g (by rw [hA]; rfl))]
    exact hg
theorem Own.alloc {e : TypeId} {w : World} {A : Option Addr} {n c : Nat} {xs : List Value} (h : Own e w A n c xs) (o : Obj) : Own e (w.alloc o) A n c xs := h.keep ((Kp.refl Kit.nob w).alloc o) (fun _ _ e => e)
theorem Row.alloc {w : World} {A : Option Addr} {xs : List Value} (h : Row w A xs) (o : Obj) : Row (w.alloc o) A xs := h.keep ((Kp.refl Kit.nob w).alloc o) (fun _ _ e => e)
theorem Own.cap {e : TypeId} {w : World} {A : Option Addr} {n c : Nat} {xs : List Value} (h : Own e w A n c xs) : n ≤ c ∧ c ≤ maxLen := by
  rcases h.2 with ⟨h1, h2⟩ | ⟨g, cap, cur, h1, _, hg, hnc, hcm, hcs, ht⟩
  · injection h1 with _ _ h3; subst h3; subst h2; exact ⟨Nat.le_refl _, by simp [maxLen]⟩
  · injection h1 with _ _ h3; subst h3; exact ⟨hnc, hcm⟩
/-- A cell of an owned row may be written. -/
theorem Own.frozen {e : TypeId} {w : World} {A : Option Addr} {n c : Nat} {xs : List Value} (h : Own e w A n c xs) {a : Addr} (ha : A = some a) (j : Nat) : w.frozen? ⟨a.block, j, none⟩ = false := by
  rcases h.2 with ⟨h1, h2⟩ | ⟨g, cap, cur, h1, _, hg, hnc, hcm, hcs, ht⟩
  · rw [ha] at h1; injection h1 with h1; cases h1
  · rw [ha] at h1; injection h1 with h1; injection h1 with h1; subst h1
    simp [World.frozen?, hg]

theorem Own.at_ {e : TypeId} {w : World} {A : Option Addr} {n c : Nat} {xs : List Value} (h : Own e w A n c xs) {i : Nat} (hi : i < n) :
    ∃ b, A = some ⟨b, 0, none⟩ ∧ b < w.heap.size ∧ w.cell? ⟨b, i, none⟩ = some (xs[i]'(by rw [h.len]; exact hi)) ∧ w.frozen? ⟨b, i, none⟩ = false ∧ ∀ u, Own e (w.setCell ⟨b, i, none⟩ u) A n c (xs.set i u) := by
  obtain ⟨b, o, hA, hb, hc⟩ := h.row.at_ (i := i) (by rw [h.len]; exact hi)
  have hf := h.frozen hA i
  rcases h.2 with ⟨h1, _⟩ | ⟨g, cap, cur, h1, _⟩
  · rw [hA] at h1; injection h1 with h1; cases h1
  · rw [hA] at h1; injection h1 with h1; injection h1 with h1; injection h1 with h1 h2
    subst h2
    refine ⟨b, hA, hb, by simpa using hc, hf, fun u => ?_⟩
    subst hA
    have := (World.ownsRow.stored (w := w) h i u).1
    simpa [Own] using this

theorem Own.set {e : TypeId} {w : World} {b n c : Nat} {xs : List Value} (h : Own e w (some ⟨b, 0, none⟩) n c xs) (i : Nat) (u : Value) : Own e (w.setCell ⟨b, i, none⟩ u) (some ⟨b, 0, none⟩) n c (xs.set i u) :=
  (World.ownsRow.stored (w := w) h i u).1
theorem Own.far {e : TypeId} {w : World} {A : Option Addr} {n c : Nat} {xs : List Value} (h : Own e w A n c xs) (p : Addr) (u : Value) (hp : ∀ k, ab A = some k → k ≠ p.block) : Own e (w.setCell p u) A n c xs :=
  h.keep (F := fun k => k = p.block) ((Kp.refl (fun k => k = p.block) w).setCell (.inl rfl) u) (fun k e e' => hp k e e')
/-- A new block known whole. -/
theorem row_new (w : World) (xs : List Value) (t : TypeId) : Row (w.alloc (.cells xs.toArray t)) (some ⟨w.heap.size, 0, none⟩) xs := by
  refine .inr ⟨w.heap.size, 0, rfl, by simp, fun i u hu => ?_⟩
  rw [World.cell?_alloc_at _ _ _ _ rfl]
  simpa using hu
theorem bvs_set (l : List UInt8) (i x : Nat) : (bvs l).set i (.int .u8 ((x : Int) % 256)) = bvs (l.set i (UInt8.ofNat x)) := by
  rw [← bv_ofNat, bvs, bvs, List.map_set]

/-- APPEND OF A ROW onto an owned row (a nil row, too). -/
theorem wpList_appR {P : Program} (w : World) {ops : Array Oper} {rest : List Oper} {o : Oper} {a : Act} {Q : Exit → Act → World → Prop} (hgd : o.guard = none) (s x : Operand) (t : TypeId)
    (ho : o.op = .call { callee := .builtin .append, args := #[s, x], argTypes := #[t, t] })
    (e : TypeId) (i : TypeInfo) (z : Value) (bytes : Nat) (ht : P.underlying t = some (.slice e)) (hi : P.info? e = some i) (hz : i.zero = some z)
    (hsize : i.size = 1) (hby : i.bytes = bytes) (hzs : z.cells.size = 1)
    (A : Option Addr) (n c : Nat) (xs : List Value) (hs : a.eval s = .slice A n c) (hown : Own e w A n c xs)
    (B : Option Addr) (m d : Nat) (ys : List Value) (hx : a.eval x = .slice B m d) (hB : B = none → d = 0) (hm : ys.length = m) (hrow : Row w B ys) (h1 : ∀ u ∈ ys, u.oneCell' = true)
    (hbytes : (n + m) * bytes ≤ 140737488355328) (h63 : n + m ≤ 140737488355328)
    (h : ∀ A' c' w', Own e w' A' (n + m) c' (xs ++ ys) → w.grownBy w' (ab A) → (ab A' = ab A ∨ ab A' = some w.heap.size) → wpList P ops Q rest (a.put o.dst (.slice A' (n + m) c')) w') : wpList P ops Q (o :: rest) a w := by
  refine wpList_plain hgd fun _ hK => ?_
  have hmx : n + m ≤ maxLen := by unfold maxLen; omega
  have key : ∃ A' c' w', (Builtin.append_ #[t, t] o.type #[.slice A n c, .slice B m d]).run P w = .ok (.slice A' (n + m) c') w' ∧ Own e w' A' (n + m) c' (xs ++ ys) ∧ w.grownBy w' (ab A) ∧ (ab A' = ab A ∨ ab A' = some w.heap.size) := by
    cases B with
    | none =>
      have hd := hB rfl
      have hy : ys = [] := by
        rcases hrow with rfl | ⟨b, o, h, _⟩
        · rfl
        · cases h
      subst hy
      obtain rfl : m = 0 := by simpa using hm.symm
      have hc := hown.cap.1
      refine ⟨A, c, w, ?_, by simpa using hown, World.grownBy.refl _ _, .inl rfl⟩
      cases A <;> simp [Builtin.append_, run_underlying ht, sizeOf, typeInfo, hi, Builtin.lenOf, Builtin.firstCells, hc, storeCells]
    | some ad =>
      have hnews : ∀ j u, ys[j]? = some u → w.cell? (ad.add j) = some u := by
        intro j u hu
        rcases hrow with rfl | ⟨b, o, h, _, hcell⟩
        · simp at hu
        · cases h
          have := hcell j u hu
          by_cases hj : j = 0 <;> simpa [Addr.add, hj] using this
      obtain ⟨v', w', hr, h2, h3, h4, h5⟩ := run_append_own_at (P := P) w 0 t o.type e i z 1 bytes ht hi hz hsize hby hzs (by decide) (.slice A n c) n xs hown ad m d ys (by simpa using hm) hnews h1 hmx hbytes (Nat.zero_le _)
      rw [ab_own] at h3 h5
      have hv : ∃ A' c', v' = .slice A' (n + m) c' := by
        rcases h2.2 with ⟨h6, h7⟩ | ⟨g, cap, _, h6, _⟩
        · exact ⟨none, 0, by rw [h6, h7]⟩
        · exact ⟨_, _, h6⟩
      obtain ⟨A', c', rfl⟩ := hv
      rw [ab_own] at h5
      exact ⟨A', c', w', hr, h2, h3, h5⟩
  obtain ⟨A', c', w', hr, h2, h3, h4⟩ := key
  unfold Oper.wp execOp
  simp only [ho, resolve, invoke, builtin, Sem.run_bind, Sem.run_pure, Result.andThen_ok, List.map_toArray, List.map_cons, List.map_nil, hs, hx, hr]
  exact hK _ _ (h A' c' w' h2 h3 h4)

/-- A string's bytes. -/
def sl (s : ByteArray) : List UInt8 := s.data.toList
@[simp] theorem sl_length (s : ByteArray) : (sl s).length = s.size := by simp [sl]
theorem strCells_bvs (s : ByteArray) : Lib.strCells s = bvs (sl s) := rfl

/-- APPEND OF A STRING's BYTES onto an owned row. -/
theorem wpList_appS {P : Program} (w : World) {ops : Array Oper} {rest : List Oper} {o : Oper} {a : Act} {Q : Exit → Act → World → Prop} (hgd : o.guard = none) (s x : Operand) (t u : TypeId)
    (ho : o.op = .call { callee := .builtin .append, args := #[s, x], argTypes := #[t, u] })
    (e : TypeId) (i : TypeInfo) (ht : P.underlying t = some (.slice e)) (hu : P.underlying u = some .string) (hi : P.info? e = some i) (hz : i.zero = some (.int .u8 0))
    (hsize : i.size = 1) (hby : i.bytes = 1)
    (A : Option Addr) (n c : Nat) (xs : List Value) (hs : a.eval s = .slice A n c) (hown : Own e w A n c xs)
    (str : ByteArray) (hx : a.eval x = .string str)
    (h63 : n + str.size ≤ 140737488355328)
    (h : ∀ A' c' w', Own e w' A' (n + str.size) c' (xs ++ bvs (sl str)) → w.grownBy w' (ab A) → (ab A' = ab A ∨ ab A' = some w.heap.size) → wpList P ops Q rest (a.put o.dst (.slice A' (n + str.size) c')) w') : wpList P ops Q (o :: rest) a w := by
  refine wpList_plain hgd fun _ hK => ?_
  have hmx : n + str.size ≤ maxLen := by unfold maxLen; omega
  have key : ∃ A' c' w', (Builtin.append_ #[t, u] o.type #[.slice A n c, .string str]).run P w = .ok (.slice A' (n + str.size) c') w' ∧ Own e w' A' (n + str.size) c' (xs ++ bvs (sl str)) ∧ w.grownBy w' (ab A) ∧ (ab A' = ab A ∨ ab A' = some w.heap.size) := by
    obtain ⟨v', w', hr, h2, h3, h4⟩ := Lib.run_append_own_string (P := P) w 0 t u o.type e i ht hu hi hz hsize hby (.slice A n c) n xs hown str hmx h63 (Nat.zero_le _)
    rw [ab_own] at h3
    have hv : ∃ A' c', v' = .slice A' (n + str.size) c' := by
      rcases h2.2 with ⟨h6, h7⟩ | ⟨g, cap, _, h6, _⟩
      · exact ⟨none, 0, by rw [h6, h7]⟩
      · exact ⟨_, _, h6⟩
    obtain ⟨A', c', rfl⟩ := hv
    refine ⟨A', c', w', hr, h2, h3, ?_⟩
    rcases hown.2 with ⟨hv, rfl⟩ | ⟨g, cap, cur, hv, hbg, hg, hnc, hcm, hcs, htake⟩
    · injection hv with hA _ hc
      subst hA; subst hc
      by_cases hm : str.size = 0
      · have := h4.2 ⟨rfl, hm⟩
        injection this with h5
        exact .inl (by rw [h5])
      · have hr2 := Go.run_append_nil_string (P := P) w t u o.type e i (.int .u8 0) ht hu hi hz str (by omega) (by omega) (by rw [hby]; omega)
        rw [hr2] at hr
        injection hr with hr _
        injection hr with hr _ _
        exact .inr (by rw [← hr]; rfl)
    · injection hv with hA _ hc
      subst hA; subst hc
      by_cases hroom : n + str.size ≤ c
      · have hcs' : cur.size = c := by simpa using hcs
        have hr2 := Lib.run_append_room_string (P := P) w t u o.type e i ht hu hi hsize g n c cur hg str hroom (by omega)
        rw [hr2] at hr
        injection hr with hr _
        injection hr with hr _ _
        exact .inl (by rw [← hr])
      · have holds : ∀ j u, xs[j]? = some u → w.cell? ((⟨g, 0, none⟩ : Addr).add j) = some u := World.ownsRow.cells (g := g) hown rfl
        have hr2 := Lib.run_append_grow_string (P := P) w t u o.type e i (.int .u8 0) ht hu hi hz ⟨g, 0, none⟩ n c xs (by rw [hsize]; simpa using hown.1) holds str (by omega) (by unfold maxLen at hmx; omega) (by rw [hby]; exact growslice_fits (by omega) (by omega))
        rw [hr2] at hr
        injection hr with hr _
        injection hr with hr _ _
        exact .inr (by rw [← hr]; rfl)
  obtain ⟨A', c', w', hr, h2, h3, h4⟩ := key
  unfold Oper.wp execOp
  simp only [ho, resolve, invoke, builtin, Sem.run_bind, Sem.run_pure, Result.andThen_ok, List.map_toArray, List.map_cons, List.map_nil, hs, hx, hr]
  exact hK _ _ (h A' c' w' h2 h3 h4)

/-- Where a row lies behind an append: where it lay, or in a block that was made since. -/
def Grew (A A' : Option Addr) (B : Nat) : Prop := ab A' = ab A ∨ ∃ k, ab A' = some k ∧ B ≤ k
theorem Grew.refl (A : Option Addr) (B : Nat) : Grew A A B := .inl rfl
theorem Grew.trans {A A' A'' : Option Addr} {B B' : Nat} (h : Grew A A' B) (k : Grew A' A'' B') (hB : B ≤ B') : Grew A A'' B := by
  rcases k with k | ⟨i, k, hi⟩
  · rcases h with h | ⟨j, h, hj⟩
    · exact .inl (k.trans h)
    · exact .inr ⟨j, k.trans h, hj⟩
  · exact .inr ⟨i, k, by omega⟩
theorem Grew.of {A A' : Option Addr} {B H : Nat} (h : ab A' = ab A ∨ ab A' = some H) (hB : B ≤ H) : Grew A A' B := by
  rcases h with h | h
  · exact .inl h
  · exact .inr ⟨H, h, hB⟩
theorem Grew.ge {A A' : Option Addr} {B N : Nat} (h : Grew A A' B) (hA : ∀ k, ab A = some k → N ≤ k) (hB : N ≤ B) : ∀ k, ab A' = some k → N ≤ k := by
  intro k hk
  rcases h with h | ⟨j, h, hj⟩
  · exact hA k (by rw [← h]; exact hk)
  · rw [h] at hk; cases hk; omega
theorem Kp.since {F : Nat → Prop} {a b c : World} (h : Kp Kit.nob a b) (k : Kp F b c) (hF : ∀ i, F i → a.heap.size ≤ i) : Kp Kit.nob a c := h.trans k (fun i e => .inr (hF i e))
/-- The blocks of a row. -/
def rowF (A : Option Addr) : Nat → Prop := fun k => ab A = some k
theorem Grew.sub {A A' : Option Addr} {B : Nat} (h : Grew A A' B) : ∀ i, rowF A' i → rowF A i ∨ B ≤ i := by
  intro i hi
  unfold rowF at *
  rcases h with h | ⟨k, h, hk⟩
  · exact .inl (by rw [← h]; exact hi)
  · rw [h] at hi; cases hi; exact .inr hk

/-- A new block of one cell. -/
theorem row_one (w : World) (v : Value) (t : TypeId) : Row (w.alloc (.cells #[v] t)) (some ⟨w.heap.size, 0, none⟩) [v] := by
  refine .inr ⟨w.heap.size, 0, rfl, by simp, fun i u hu => ?_⟩
  match i, hu with
  | 0, hu => simp at hu; subst hu; rw [World.cell?_alloc_at _ _ _ _ rfl]; rfl

/-- A number's lowest bytes, the lowest first. -/
def le : Nat → Nat → List UInt8
  | 0, _ => []
  | k + 1, x => UInt8.ofNat x :: le k (x / 256)
@[simp] theorem le_length (k x : Nat) : (le k x).length = k := by induction k generalizing x <;> simp [le, *]
theorem le_snoc (k x : Nat) : le (k + 1) x = le k x ++ [UInt8.ofNat (x / 256 ^ k)] := by
  induction k generalizing x with
  | zero => simp [le]
  | succ k ih =>
    rw [le, ih, le]
    simp [Nat.div_div_eq_div_mul, Nat.pow_succ, Nat.mul_comm]

/-- The number of which l has the lowest bytes. -/
def lowN : List UInt8 → Nat
  | [] => 0
  | b :: l => b.toNat + 256 * lowN l
theorem lowN_snoc (l : List UInt8) (b : UInt8) : lowN (l ++ [b]) = lowN l + b.toNat * 256 ^ l.length := by
  induction l with
  | nil => simp [lowN]
  | cons a l ih => simp only [List.cons_append, lowN, ih, List.length_cons, Nat.pow_succ]; rw [Nat.mul_add, Nat.mul_comm (256 ^ l.length), ← Nat.mul_assoc, Nat.mul_left_comm, ← Nat.mul_assoc]; omega
theorem lowN_lt (l : List UInt8) : lowN l < 256 ^ l.length := by
  induction l with
  | nil => simp [lowN]
  | cons a l ih => have := a.toNat_lt; simp only [lowN, List.length_cons, Nat.pow_succ]; omega
theorem lowN_le (k x : Nat) : lowN (le k x) = x % 256 ^ k := by
  induction k generalizing x with
  | zero => simp [le, lowN, Nat.mod_one]
  | succ k ih => simp only [le, lowN, ih, Nat.pow_succ]; rw [Nat.mul_comm (256 ^ k) 256, Nat.mod_mul]; simp
theorem le_lowN (l : List UInt8) : le l.length (lowN l) = l := by
  induction l with
  | nil => rfl
  | cons a l ih =>
    simp only [List.length_cons, le, lowN]
    rw [show (a.toNat + 256 * lowN l) / 256 = lowN l by have := a.toNat_lt; omega, ih]
    congr 1
    apply UInt8.toNat_inj.1
    simp

/-- One more byte above those that are there. -/
theorem or_above (a b k : Nat) (ha : a < 2 ^ k) : a ||| (b * 2 ^ k) = a + b * 2 ^ k := by
  rw [Nat.mul_comm b, Nat.or_comm, ← Nat.two_pow_add_eq_or_of_lt ha, Nat.add_comm]
theorem pow256 (k : Nat) : 2 ^ (8 * k) = 256 ^ k := by rw [Nat.pow_mul]
theorem or_u64_above (l : List UInt8) (b : UInt8) (hl : l.length ≤ 7) :
    bits BinOp.or IntKind.u64 (lowN l : Nat) (IntKind.u64.wrap ((b.toNat : Int) * 2 ^ (8 * l.length))) = (lowN (l ++ [b]) : Nat) := by
  have hb := b.toNat_lt
  have hlt := lowN_lt l
  have hp : 256 ^ l.length ≤ 256 ^ 7 := Nat.pow_le_pow_right (by omega) hl
  have hp1 : (256 : Nat) ^ 7 = 72057594037927936 := rfl
  have hbp : b.toNat * 256 ^ l.length ≤ 255 * 256 ^ l.length := Nat.mul_le_mul_right _ (by omega)
  have e : ((b.toNat : Int) * 2 ^ (8 * l.length)) = ((b.toNat * 256 ^ l.length : Nat) : Int) := by
    rw [← pow256]; simp
  rw [e, IntKind.wrap_u64, Int.emod_eq_of_lt (by omega) (by omega), bits_or_u64_nat _ _ (by omega) (by omega), lowN_snoc, ← pow256, or_above _ _ _ (by rw [pow256]; exact hlt)]

/-- Bytes as a string. -/
def str (l : List UInt8) : ByteArray := ⟨l.toArray⟩
@[simp] theorem sl_str (l : List UInt8) : sl (str l) = l := rfl
@[simp] theorem str_sl (s : ByteArray) : str (sl s) = s := rfl
@[simp] theorem str_size (l : List UInt8) : (str l).size = l.length := by rw [← sl_length, sl_str]
theorem str_toList (l : List UInt8) : (str l).toList = l := by rw [ByteArray.toList_eq]; rfl
theorem toList_sl (s : ByteArray) : s.toList = sl s := by rw [ByteArray.toList_eq]; rfl
theorem str_inj {l m : List UInt8} : str l = str m ↔ l = m := ⟨fun h => by have := congrArg sl h; simpa using this, fun h => by rw [h]⟩
theorem fold_push (l : List UInt8) (s : ByteArray) : (l.map fun b => (b.toNat : Int)).foldl (fun r n => r.push (UInt8.ofNat n.toNat)) s = str (sl s ++ l) := by
  induction l generalizing s with
  | nil => simp
  | cons b l ih =>
    simp only [List.map_cons, List.foldl_cons, ih]
    congr 1
    simp [sl, ByteArray.push]
theorem run_bytes_str {P : Program} (w : World) (src dst e : TypeId) (hs : P.underlying src = some (.slice e)) (he : P.underlying e = some (.int .u8)) (hd : P.underlying dst = some .string)
    (A : Option Addr) (n c : Nat) (l : List UInt8) (hn : l.length = n) (hr : Row w A (bvs l)) : (convert src dst (.slice A n c)).run P w = .ok (.string (str l)) w := by
  subst hn
  rw [run_convert_bytes_string w src dst e A _ _ hs he hd]
  cases A with
  | none =>
    have hl : l = [] := by
      rcases hr with h | ⟨b, o, h, _⟩
      · simpa [bvs] using h
      · cases h
    subst hl
    rfl
  | some a =>
    have hload : (loadCells a l.length).run P w = .ok ((l.map fun b => (b.toNat : Int)).map (Value.int .u8)).toArray w := by
      have hm : (l.map fun b => (b.toNat : Int)).map (Value.int .u8) = bvs l := by simp [bvs, bv]
      rw [hm]
      have := run_firstCells_some (P := P) w 1 l.length a l.length 0 (bvs l) (by simp) (fun j u hu => ?_)
      · simpa [Builtin.firstCells] using this
      · rcases hr with h | ⟨b, o, h, _, hc⟩
        · rw [h] at hu; simp at hu
        · cases h
          have := hc j u hu
          by_cases hj : j = 0 <;> simpa [Addr.add, hj] using this
    rw [run_bytesToString w a _ c _ hload, fold_push]
    rfl

/-- A row of byte cells that came in, as the opening of an argument gives it. -/
theorem row_of_ints {W : World} {x : Addr} {len cap : Nat} {zs : List Int} (hl : len ≤ cap) (hz : zs.length = cap) (hcell : ∀ i, i < zs.length → W.cell? (x.add i) = some (.int .u8 (zs.getD i 0)))
    (hw : ∀ n ∈ zs, (Lit.int .u8 n).wf = true) : ∃ l : List UInt8, l.length = len ∧ Row W (some x) (bvs l) := by
  refine ⟨(zs.take len).map fun z => UInt8.ofNat z.toNat, by simp; omega, ?_⟩
  by_cases h0 : len = 0
  · subst h0; exact .inl (by simp [bvs])
  · have hc0 := hcell 0 (by omega)
    obtain ⟨b, o, sp⟩ := x
    cases sp with
    | some j => simp [Addr.add, World.cell?] at hc0; split at hc0 <;> simp at hc0
    | none =>
      refine .inr ⟨b, o, rfl, World.block_lt_of_cell? W _ hc0, fun i u hu => ?_⟩
      simp only [bvs, List.map_map, List.getElem?_map, List.getElem?_take] at hu
      split at hu
      · rename_i hi
        have hiz : i < zs.length := by omega
        rw [List.getElem?_eq_getElem hiz] at hu
        simp at hu
        have := hcell i hiz
        have hg : zs.getD i 0 = zs[i] := by simp [hiz]
        rw [hg] at this
        have hb := hw zs[i] (List.getElem_mem hiz)
        have hr : 0 ≤ zs[i] ∧ zs[i] ≤ 255 := by
          have := hb
          simp [Lit.wf, IntKind.min, IntKind.max, IntKind.signed, IntKind.bits] at this
          omega
        have e : bv (UInt8.ofNat zs[i].toNat) = .int .u8 zs[i] := by rw [bv_ofNat]; congr 1; omega
        rw [← hu, e]
        by_cases hi0 : i = 0 <;> simpa [Addr.add, hi0] using this
      · simp at hu

theorem weightsAll_of {H : Type} {P : Program} {e : TypeId} {d : DataW H} : ∀ {l : List (DataW H)}, d ∈ l → ∀ n ∈ d.weights P e, n ∈ DataW.weightsAll P e l
  | x :: l, hd, n, hn => by
    simp only [DataW.weightsAll, List.mem_append]
    rcases List.mem_cons.1 hd with rfl | hd
    · exact .inl hn
    · exact .inr (weightsAll_of hd n hn)
theorem weights_slice {H : Type} {P : Program} {t e : TypeId} {elems spare : List (DataW H)} {d : DataW H} (hu : P.underlying t = some (.slice e)) (hd : d ∈ elems) : ∀ n ∈ d.weights P e, n ∈ (DataW.slice elems spare).weights P t := by
  intro n hn
  simp only [DataW.weights, hu, List.mem_cons, List.mem_append]
  exact .inr (.inl (weightsAll_of hd n hn))

/-- A string's bytes as a new slice. -/
theorem run_str_bytes {P : Program} (w : World) (src dst e : TypeId) (s : ByteArray) (hs : P.underlying src = some .string) (hd : P.underlying dst = some (.slice e)) (he : P.underlying e = some (.int .u8)) :
    ∃ (c : Nat) (w' : World), (convert src dst (.string s)).run P w = .ok (.slice (some ⟨w.heap.size, 0, none⟩) s.size c) w' ∧ Row w' (some ⟨w.heap.size, 0, none⟩) (bvs (sl s)) ∧ Kp Kit.nob w w' ∧ w'.heap.size = w.heap.size + 1 := by
  refine ⟨_, _, run_bytes_of_string w src dst e s hs hd he, ?_, ?_, by simp⟩
  · refine .inr ⟨w.heap.size, 0, rfl, by simp, fun i u hu => ?_⟩
    have hi : i < (bvs (sl s)).length := by
      rcases Nat.lt_or_ge i (bvs (sl s)).length with h | h
      · exact h
      · rw [List.getElem?_eq_none h] at hu; cases hu
    have h : (w.drew.alloc (.cells (bytesRow s (grownCap w s.size 0 e)) e ((bytesRow s (grownCap w s.size 0 e)).size, (bytesRow s (grownCap w s.size 0 e)).size + 1))).heap[w.heap.size]? = some (.cells (bytesRow s (grownCap w s.size 0 e)) e ((bytesRow s (grownCap w s.size 0 e)).size, (bytesRow s (grownCap w s.size 0 e)).size + 1)) := heap_alloc_new w.drew _
    simp only [World.cell?, h, Nat.zero_add]
    simp only [bvs_length, sl_length] at hi
    have hbr : (bytesRow s (grownCap w s.size 0 e))[i]? = (bvs (sl s))[i]? := by
      unfold bytesRow
      rw [Array.getElem?_append_left (by simpa using hi)]
      simp [bvs, sl]
      rfl
    simp [hbr, hu]
  · exact (Kp.refl _ _).drew.alloc _

/-- A slice of elements of z cells each that owns the cells xs. -/
def OwnZ (e : TypeId) (z : Nat) (w : World) (A : Option Addr) (n c : Nat) (xs : List Value) : Prop := w.ownsRow 0 e z (.slice A n c) n xs
theorem OwnZ.row {e : TypeId} {z : Nat} {w : World} {A : Option Addr} {n c : Nat} {xs : List Value} (h : OwnZ e z w A n c xs) : Row w A xs := by
  rcases h.2 with ⟨h1, h2⟩ | ⟨g, cap, cur, h1, _, hg, hnc, hcm, hcs, ht⟩
  · exact .inl (List.eq_nil_of_length_eq_zero (by rw [h.1, h2, Nat.zero_mul]))
  · cases h1
    refine .inr ⟨g, 0, rfl, ?_, fun i u hu => ?_⟩
    · rcases Nat.lt_or_ge g w.heap.size with hlt | hge
      · exact hlt
      · rw [Array.getElem?_eq_none hge] at hg; cases hg
    · have := World.ownsRow.cells (g := g) h rfl i u hu
      by_cases hi : i = 0 <;> simpa [Addr.add, hi] using this
theorem OwnZ.lt {e : TypeId} {z : Nat} {w : World} {A : Option Addr} {n c : Nat} {xs : List Value} (h : OwnZ e z w A n c xs) : ∀ k, ab A = some k → k < w.heap.size :=
  fun k hk => (World.ownsRow.lt h k (by rw [ab_own]; exact hk)).2
theorem OwnZ.keep {e : TypeId} {z : Nat} {F : Nat → Prop} {w w' : World} {A : Option Addr} {n c : Nat} {xs : List Value} (h : OwnZ e z w A n c xs) (hk : Kp F w w') (hf : ∀ k, ab A = some k → ¬ F k) : OwnZ e z w' A n c xs := by
  refine ⟨h.1, ?_⟩
  rcases h.2 with h1 | ⟨g, cap, cur, h1, h0, hg, r⟩
  · exact .inl h1
  · refine .inr ⟨g, cap, cur, h1, h0, ?_, r⟩
    have hA : A = some ⟨g, 0, none⟩ := by injection h1
    rw [hk.block g (h.lt g (by rw [hA]; rfl)) (hf g (by rw [hA]; rfl))]
    exact hg
theorem OwnZ.cap {e : TypeId} {z : Nat} {w : World} {A : Option Addr} {n c : Nat} {xs : List Value} (h : OwnZ e z w A n c xs) : n ≤ c ∧ c ≤ maxLen := by
  rcases h.2 with ⟨h1, h2⟩ | ⟨g, cap, cur, h1, _, hg, hnc, hcm, hcs, ht⟩
  · injection h1 with _ _ h3; subst h3; subst h2; exact ⟨Nat.le_refl _, by simp [maxLen]⟩
  · injection h1 with _ _ h3; subst h3; exact ⟨hnc, hcm⟩
theorem OwnZ.none_ {e : TypeId} {z : Nat} {w : World} {A : Option Addr} {n c : Nat} {xs : List Value} (h : OwnZ e z w A n c xs) : A = none → c = 0 := by
  rintro rfl
  rcases h.2 with ⟨h1, _⟩ | ⟨g, cap, cur, h1, _⟩
  · injection h1
  · injection h1 with h1; cases h1

/-- APPEND OF A ROW OF SUCH ELEMENTS. -/
theorem wpList_appZ {P : Program} (w : World) {ops : Array Oper} {rest : List Oper} {o : Oper} {a : Act} {Q : Exit → Act → World → Prop} (hgd : o.guard = none) (s x : Operand) (t : TypeId)
    (ho : o.op = .call { callee := .builtin .append, args := #[s, x], argTypes := #[t, t] })
    (e : TypeId) (i : TypeInfo) (zv : Value) (size bytes : Nat) (ht : P.underlying t = some (.slice e)) (hi : P.info? e = some i) (hz : i.zero = some zv)
    (hsize : i.size = size) (hby : i.bytes = bytes) (hzs : zv.cells.size = size) (hpos : 0 < size)
    (A : Option Addr) (n c : Nat) (xs : List Value) (hs : a.eval s = .slice A n c) (hown : OwnZ e size w A n c xs)
    (B : Option Addr) (m d : Nat) (ys : List Value) (hx : a.eval x = .slice B m d) (hB : B = none → m = 0) (hm : ys.length = m * size) (hrow : Row w B ys) (h1 : ∀ u ∈ ys, u.oneCell' = true)
    (hbytes : (n + m) * bytes ≤ 140737488355328) (h63 : n + m ≤ 140737488355328)
    (h : ∀ A' c' w', OwnZ e size w' A' (n + m) c' (xs ++ ys) → w.grownBy w' (ab A) → (ab A' = ab A ∨ ab A' = some w.heap.size) → wpList P ops Q rest (a.put o.dst (.slice A' (n + m) c')) w') : wpList P ops Q (o :: rest) a w := by
  refine wpList_plain hgd fun _ hK => ?_
  have hmx : n + m ≤ maxLen := by unfold maxLen; omega
  have key : ∃ A' c' w', (Builtin.append_ #[t, t] o.type #[.slice A n c, .slice B m d]).run P w = .ok (.slice A' (n + m) c') w' ∧ OwnZ e size w' A' (n + m) c' (xs ++ ys) ∧ w.grownBy w' (ab A) ∧ (ab A' = ab A ∨ ab A' = some w.heap.size) := by
    cases B with
    | none =>
      have hd := hB rfl
      subst hd
      have hy : ys = [] := List.eq_nil_of_length_eq_zero (by simpa using hm)
      subst hy
      have hc := hown.cap.1
      refine ⟨A, c, w, ?_, by simpa using hown, World.grownBy.refl _ _, .inl rfl⟩
      cases A <;> simp [Builtin.append_, run_underlying ht, sizeOf, typeInfo, hi, Builtin.lenOf, Builtin.firstCells, hc, storeCells]
    | some ad =>
      have hnews : ∀ j u, ys[j]? = some u → w.cell? (ad.add j) = some u := by
        intro j u hu
        rcases hrow with rfl | ⟨b, o, h, _, hcell⟩
        · simp at hu
        · cases h
          have := hcell j u hu
          by_cases hj : j = 0 <;> simpa [Addr.add, hj] using this
      obtain ⟨v', w', hr, h2, h3, h4, h5⟩ := run_append_own_at (P := P) w 0 t o.type e i zv size bytes ht hi hz hsize hby hzs hpos (.slice A n c) n xs hown ad m d ys hm hnews h1 hmx hbytes (Nat.zero_le _)
      rw [ab_own] at h3 h5
      have hv : ∃ A' c', v' = .slice A' (n + m) c' := by
        rcases h2.2 with ⟨h6, h7⟩ | ⟨g, cap, _, h6, _⟩
        · exact ⟨none, 0, by rw [h6, h7]⟩
        · exact ⟨_, _, h6⟩
      obtain ⟨A', c', rfl⟩ := hv
      rw [ab_own] at h5
      exact ⟨A', c', w', hr, h2, h3, h5⟩
  obtain ⟨A', c', w', hr, h2, h3, h4⟩ := key
  unfold Oper.wp execOp
  simp only [ho, resolve, invoke, builtin, Sem.run_bind, Sem.run_pure, Result.andThen_ok, List.map_toArray, List.map_cons, List.map_nil, hs, hx, hr]
  exact hK _ _ (h A' c' w' h2 h3 h4)

end Go.Proofs.Ytchdobneipfghaa.Kit
namespace Go.Proofs.Ytchdobneipfghaa.Disk
set_option linter.unusedVariables false
set_option linter.unusedSimpArgs false

/-- A sector's bytes: noughts behind those that are given. -/
def full (b : List UInt8) : List UInt8 := b ++ List.replicate (256 - b.length) 0
theorem full_length (b : List UInt8) (h : b.length ≤ 256) : (full b).length = 256 := by rw [full, List.length_append, List.length_replicate]; omega
/-- A disk: its sectors, what of them is safe, the writes that aren't, its power, its acts, its fuse. -/
structure Dk where
  now : List (List UInt8)
  safe : List (List UInt8)
  waits : List (Nat × List UInt8)
  off : Bool
  acts : Nat
  fuse : Nat
  keep : Nat
/-- What stands always. -/
structure Ok (d : Dk) : Prop where
  safe : d.safe.length = d.now.length
  now : ∀ s ∈ d.now, s.length = 256
  safe2 : ∀ s ∈ d.safe, s.length = 256
  waits : ∀ x ∈ d.waits, x.1 < d.now.length ∧ x.2.length = 256
def new (n : Nat) : Dk := ⟨List.replicate n (full []), List.replicate n (full []), [], false, 0, 0, 0⟩
theorem new_ok (n : Nat) : Ok (new n) := ⟨by simp [new], fun s h => by rw [List.eq_of_mem_replicate h]; exact full_length [] (by decide), fun s h => by rw [List.eq_of_mem_replicate h]; exact full_length [] (by decide), fun x h => by cases h⟩
/-- Is the i-th write kept? -/
def kept (keep i : Nat) : Bool := decide (keep / 2 ^ (i % 64) % 2 = 1)
/-- The writes from the i-th on, gone over. -/
def over (keep : Nat) : Nat → List (Nat × List UInt8) → List (List UInt8) → List (List UInt8)
  | _, [], s => s
  | i, x :: xs, s => over keep (i + 1) xs (if kept keep i then s.set x.1 x.2 else s)
theorem over_length (keep : Nat) : ∀ (xs : List (Nat × List UInt8)) (i : Nat) (s : List (List UInt8)), (over keep i xs s).length = s.length
  | [], _, _ => rfl
  | x :: xs, i, s => by rw [over, over_length keep xs]; split <;> simp
theorem over_snoc (keep : Nat) (y : Nat × List UInt8) : ∀ (xs : List (Nat × List UInt8)) (i : Nat) (s : List (List UInt8)), over keep i (xs ++ [y]) s = if kept keep (i + xs.length) then (over keep i xs s).set y.1 y.2 else over keep i xs s
  | [], i, s => by simp [over]
  | x :: xs, i, s => by
    rw [List.cons_append, over, over, over_snoc keep y xs]
    rw [show i + 1 + xs.length = i + (x :: xs).length by simp; omega]
/-- A sector behind it is what it was, or one of its writes. -/
theorem over_at (keep p : Nat) : ∀ (xs : List (Nat × List UInt8)) (i : Nat) (s : List (List UInt8)) (v : List UInt8), (over keep i xs s)[p]? = some v → s[p]? = some v ∨ (p, v) ∈ xs
  | [], _, _, _, h => .inl h
  | x :: xs, i, s, v, h => by
    rw [over] at h
    rcases over_at keep p xs _ _ _ h with h1 | h1
    · split at h1
      · rw [List.getElem?_set] at h1
        split at h1
        · rename_i he
          split at h1
          · right; rw [← he]; rw [← Option.some.inj h1]; simp
          · cases h1
        · exact .inl h1
      · exact .inl h1
    · exact .inr (List.mem_cons_of_mem _ h1)
theorem over_far (keep p : Nat) : ∀ (xs : List (Nat × List UInt8)) (i : Nat) (s : List (List UInt8)), (∀ x ∈ xs, x.1 ≠ p) → (over keep i xs s)[p]? = s[p]?
  | [], _, _, _ => rfl
  | x :: xs, i, s, h => by
    rw [over, over_far keep p xs _ _ (fun y hy => h y (List.mem_cons_of_mem _ hy))]
    split
    · rw [List.getElem?_set, if_neg (h x (by simp))]
    · rfl
theorem over_mem (keep : Nat) : ∀ (xs : List (Nat × List UInt8)) (i : Nat) (s : List (List UInt8)) (v : List UInt8), v ∈ over keep i xs s → v ∈ s ∨ ∃ x ∈ xs, x.2 = v := fun xs i s v h => by
  obtain ⟨p, hp, rfl⟩ := List.mem_iff_getElem.1 h
  rcases over_at keep p xs i s _ (List.getElem?_eq_getElem hp) with h1 | h1
  · exact .inl (List.mem_of_getElem? h1)
  · exact .inr ⟨_, h1, rfl⟩
/-- The power goes. -/
def lose (d : Dk) (keep : Nat) : Dk := if d.off then d else ⟨over keep 0 d.waits d.safe, over keep 0 d.waits d.safe, [], true, d.acts, 0, d.keep⟩
theorem lose_off (d : Dk) (keep : Nat) (h : d.off = true) : lose d keep = d := by rw [lose, if_pos h]
theorem lose_on (d : Dk) (keep : Nat) (h : d.off = false) : lose d keep = ⟨over keep 0 d.waits d.safe, over keep 0 d.waits d.safe, [], true, d.acts, 0, d.keep⟩ := by rw [lose, h]; rfl
theorem lose_ok (d : Dk) (keep : Nat) (h : Ok d) : Ok (lose d keep) := by
  cases ho : d.off with
  | true => rw [lose_off d keep ho]; exact h
  | false =>
    rw [lose_on d keep ho]
    have hm : ∀ s ∈ over keep 0 d.waits d.safe, s.length = 256 := fun s hs => by
      rcases over_mem keep _ _ _ _ hs with h1 | ⟨x, hx, rfl⟩
      · exact h.safe2 s h1
      · exact (h.waits x hx).2
    exact ⟨rfl, hm, hm, fun x hx => by cases hx⟩
theorem lose_length (d : Dk) (keep : Nat) (h : Ok d) : (lose d keep).now.length = d.now.length := by
  cases ho : d.off with
  | true => rw [lose_off d keep ho]
  | false => rw [lose_on d keep ho]; simp only [over_length, h.safe]
/-- One act more; whether the power goes in it. -/
def act (d : Dk) : Dk × Bool := if d.off then (d, false) else ({ d with acts := d.acts + 1, fuse := d.fuse - 1 }, decide (d.fuse = 1))
/-- The errors' numbers are told by whoever names them. -/
structure Errs where
  ok : Int
  down : Int
  arg : Int
  long : Int
/-- The errors' numbers. -/
def E8 : Errs := ⟨0, 8, 1, 3⟩
def may (E : Errs) (d : Dk) (i : Int) : Int := if d.off then E.down else if i < 0 ∨ (d.now.length : Int) ≤ i then E.arg else E.ok
def wrote (d : Dk) (i : Nat) (b : List UInt8) : Dk := { d with now := d.now.set i (full b), waits := d.waits ++ [(i, full b)] }
def write (E : Errs) (d : Dk) (i : Int) (b : List UInt8) : Dk × Int :=
  if d.off then (d, E.down) else if i < 0 ∨ (d.now.length : Int) ≤ i then (d, E.arg) else if 256 < b.length then (d, E.long)
  else if (act d).2 then (lose (wrote (act d).1 i.toNat b) d.keep, E.down) else (wrote (act d).1 i.toNat b, E.ok)
def sync (E : Errs) (d : Dk) : Dk × Int :=
  if d.off then (d, E.down) else if (act d).2 then (lose (act d).1 d.keep, E.down) else ({ (act d).1 with safe := d.now, waits := [] }, E.ok)
def arm (d : Dk) (n : Int) (keep : Nat) : Dk := { d with fuse := n.toNat, keep := keep }
def forged (d : Dk) (i : Nat) (b : List UInt8) : Dk := { d with now := d.now.set i (full b), safe := d.safe.set i (full b), waits := d.waits.filter fun x => decide (x.1 ≠ i) }
def forge (E : Errs) (d : Dk) (i : Int) (b : List UInt8) : Dk × Int :=
  if i < 0 ∨ (d.now.length : Int) ≤ i then (d, E.arg) else if 256 < b.length then (d, E.long) else (forged d i.toNat b, E.ok)
def image (d : Dk) : List UInt8 := d.now.flatten
def on (d : Dk) : Dk := { d with off := false }
theorem act_off (d : Dk) (h : d.off = true) : act d = (d, false) := by rw [act, if_pos h]
theorem act_on (d : Dk) (h : d.off = false) : act d = ({ d with acts := d.acts + 1, fuse := d.fuse - 1 }, decide (d.fuse = 1)) := by rw [act, h]; rfl
theorem act_ok (d : Dk) (h : Ok d) : Ok (act d).1 := by
  cases ho : d.off with
  | true => rw [act_off d ho]; exact h
  | false => rw [act_on d ho]; exact ⟨h.safe, h.now, h.safe2, h.waits⟩
theorem set_all {l : List (List UInt8)} {i : Nat} {s : List UInt8} (h : ∀ x ∈ l, x.length = 256) (hs : s.length = 256) : ∀ x ∈ l.set i s, x.length = 256 := fun x hx => by
  rcases List.mem_or_eq_of_mem_set hx with h1 | h1
  · exact h x h1
  · rw [h1]; exact hs
theorem wrote_ok (d : Dk) (i : Nat) (b : List UInt8) (h : Ok d) (hi : i < d.now.length) (hb : b.length ≤ 256) : Ok (wrote d i b) := by
  refine ⟨by simp [wrote, h.safe], set_all h.now (full_length b hb), h.safe2, fun x hx => ?_⟩
  simp only [wrote, List.length_set]
  rcases List.mem_append.1 hx with h1 | h1
  · exact h.waits x h1
  · rw [List.mem_singleton.1 h1]; exact ⟨hi, full_length b hb⟩
theorem forged_ok (d : Dk) (i : Nat) (b : List UInt8) (h : Ok d) (hb : b.length ≤ 256) : Ok (forged d i b) := by
  refine ⟨by simp [forged, h.safe], set_all h.now (full_length b hb), set_all h.safe2 (full_length b hb), fun x hx => ?_⟩
  simp only [forged, List.length_set]
  exact h.waits x ((List.mem_filter.1 hx).1)
theorem write_ok (E : Errs) (d : Dk) (i : Int) (b : List UInt8) (h : Ok d) : Ok (write E d i b).1 := by
  unfold write
  split
  · exact h
  · split
    · exact h
    · split
      · exact h
      · rename_i h1 h2 h3
        have hw := wrote_ok (act d).1 i.toNat b (act_ok d h) (by rw [act_on d (by simpa using h1)]; simp only; omega) (by omega)
        split
        · exact lose_ok _ _ hw
        · exact hw
theorem sync_ok (E : Errs) (d : Dk) (h : Ok d) : Ok (sync E d).1 := by
  unfold sync
  split
  · exact h
  · rename_i h1
    split
    · exact lose_ok _ _ (act_ok d h)
    · rw [act_on d (by simpa using h1)]
      exact ⟨rfl, h.now, h.now, fun x hx => by cases hx⟩
theorem forge_ok (E : Errs) (d : Dk) (i : Int) (b : List UInt8) (h : Ok d) : Ok (forge E d i b).1 := by
  unfold forge
  split
  · exact h
  · split
    · exact h
    · exact forged_ok _ _ _ h (by omega)

/-- What a sector may be behind a loss of power: all of these; the last of them is what it is. -/
structure May (d : Dk) (m : Nat → List (List UInt8)) : Prop where
  ok : Ok d
  now : d.off = false → ∀ p v, d.now[p]? = some v → (m p).getLast? = some v
  safe : ∀ p v, d.safe[p]? = some v → v ∈ m p
  waits : ∀ x ∈ d.waits, x.2 ∈ m x.1
  off : d.off = true → ∀ p v, d.now[p]? = some v → v ∈ m p
theorem May.lose {d : Dk} {m : Nat → List (List UInt8)} (h : May d m) (keep : Nat) : ∀ p v, (lose d keep).now[p]? = some v → v ∈ m p := by
  cases ho : d.off with
  | true => rw [lose_off d keep ho]; exact h.off ho
  | false =>
    rw [lose_on d keep ho]
    intro p v hv
    rcases over_at keep p _ _ _ _ hv with h1 | h1
    · exact h.safe p v h1
    · exact h.waits _ h1
theorem May.lost {d : Dk} {m : Nat → List (List UInt8)} (h : May d m) (keep : Nat) (hoff : (Disk.lose d keep).off = true) : May (Disk.lose d keep) m := by
  have hl := h.lose keep
  refine ⟨lose_ok d keep h.ok, (fun e => by rw [hoff] at e; cases e), ?_, ?_, fun _ => hl⟩
  · cases ho : d.off with
    | true => rw [lose_off d keep ho]; exact h.safe
    | false =>
      rw [lose_on d keep ho] at hl ⊢
      exact hl
  · cases ho : d.off with
    | true => rw [lose_off d keep ho]; exact h.waits
    | false => rw [lose_on d keep ho]; intro x hx; cases hx
theorem lose_is_off (d : Dk) (keep : Nat) : (lose d keep).off = true := by
  cases ho : d.off with
  | true => rw [lose_off d keep ho]; exact ho
  | false => rw [lose_on d keep ho]
/-- One text more for a sector. -/
def add (m : Nat → List (List UInt8)) (p : Nat) (s : List UInt8) : Nat → List (List UInt8) := fun q => if q = p then m q ++ [s] else m q
theorem mem_add {m : Nat → List (List UInt8)} {p : Nat} {s : List UInt8} {q : Nat} {v : List UInt8} (h : v ∈ m q) : v ∈ add m p s q := by
  unfold add; split
  · exact List.mem_append_left _ h
  · exact h
theorem May.wrote {d : Dk} {m : Nat → List (List UInt8)} (h : May d m) (ho : d.off = false) (i : Nat) (b : List UInt8) (hi : i < d.now.length) (hb : b.length ≤ 256) : May (Disk.wrote (act d).1 i b) (add m i (full b)) := by
  rw [act_on d ho]
  refine ⟨wrote_ok _ i b ⟨h.ok.safe, h.ok.now, h.ok.safe2, h.ok.waits⟩ hi hb, fun _ p v hv => ?_, fun p v hv => mem_add (h.safe p v hv), fun x hx => ?_, fun e => ?_⟩
  · simp only [Disk.wrote, List.getElem?_set] at hv
    unfold add
    by_cases e : i = p
    · subst e
      rw [if_pos rfl, if_pos hi] at hv
      rw [if_pos rfl, List.getLast?_append, ← Option.some.inj hv]; rfl
    · rw [if_neg e] at hv
      rw [if_neg (fun x => e x.symm)]
      exact h.now ho p v hv
  · rcases List.mem_append.1 hx with h1 | h1
    · exact mem_add (h.waits x h1)
    · rw [List.mem_singleton.1 h1]; unfold add; rw [if_pos rfl]; simp
  · have : d.off = true := e
    rw [ho] at this; cases this
/-- A write that is answered. -/
theorem May.write {d : Dk} {m : Nat → List (List UInt8)} (E : Errs) (h : May d m) (ho : d.off = false) (i : Nat) (b : List UInt8) (hi : i < d.now.length) (hb : b.length ≤ 256) : May (Disk.write E d i b).1 (add m i (full b)) := by
  have hw := h.wrote ho i b hi hb
  unfold Disk.write
  rw [if_neg (by rw [ho]; simp), if_neg (by omega), if_neg (by omega), Int.toNat_natCast]
  split
  · exact hw.lost _ (lose_is_off _ _)
  · exact hw
/-- A sync that is answered OK: each sector is just its last. -/
theorem May.synced {d : Dk} {m : Nat → List (List UInt8)} (h : May d m) (ho : d.off = false) (m2 : Nat → List (List UInt8)) (hm : ∀ p v, (m p).getLast? = some v → m2 p = [v]) : May { (act d).1 with safe := d.now, waits := [] } m2 := by
  rw [act_on d ho]
  have hn : ∀ p v, d.now[p]? = some v → m2 p = [v] := fun p v hv => hm p v (h.now ho p v hv)
  refine ⟨⟨rfl, h.ok.now, h.ok.now, (fun x hx => by cases hx)⟩, (fun _ p v hv => by rw [hn p v hv]; rfl), (fun p v hv => by rw [hn p v hv]; simp), (fun x hx => by cases hx), (fun e => ?_)⟩
  have : d.off = true := e
  rw [ho] at this; cases this
/-- What somebody writes is there at once, and behind every loss of power. -/
theorem forged_at (d : Dk) (i : Nat) (b : List UInt8) (hi : i < d.now.length) : (forged d i b).now[i]? = some (full b) := by
  simp [forged, hi]
theorem forged_lose (d : Dk) (i : Nat) (b : List UInt8) (keep : Nat) (h : Ok d) (hi : i < d.now.length) : (lose (forged d i b) keep).now[i]? = some (full b) := by
  cases ho : d.off with
  | true => rw [lose_off _ keep (show (forged d i b).off = true from ho)]; exact forged_at d i b hi
  | false =>
    rw [lose_on _ keep (show (forged d i b).off = false from ho)]
    show (over keep 0 (forged d i b).waits (forged d i b).safe)[i]? = _
    rw [over_far keep i _ _ _ (fun x hx => by have := (List.mem_filter.1 hx).2; simpa using this)]
    simp [forged, h.safe, hi]
theorem forged_far (d : Dk) (i p : Nat) (b : List UInt8) (hp : p ≠ i) : (forged d i b).now[p]? = d.now[p]? := by
  simp [forged, List.getElem?_set, Ne.symm hp]
end Go.Proofs.Ytchdobneipfghaa.Disk
namespace Go.Proofs.Ytchdobneipfghaa.Meter
set_option linter.unusedVariables false
set_option linter.unusedSimpArgs false
open Go Disk

/-- A register: how often it went on, an epoch, a digest; how often it goes on at most. -/
structure Mt where
  count : Nat
  epoch : Int
  root : List UInt8
  most : Nat
def z32 : List UInt8 := List.replicate 32 0
theorem z32_length : z32.length = 32 := List.length_replicate
def lim (n : Int) : Nat := min n.toNat 1099511627776
theorem lim_le (n : Int) : lim n ≤ 1099511627776 := Nat.min_le_right _ _
def fresh (n : Int) : Mt := ⟨0, 0, z32, lim n⟩
/-- What stands always. -/
structure Mk (t : Mt) : Prop where
  root : t.root.length = 32
  le : t.count ≤ t.most
  most : t.most ≤ 1099511627776
theorem fresh_ok (n : Int) : Mk (fresh n) := ⟨z32_length, Nat.zero_le _, lim_le n⟩
/-- It goes on. -/
def Mt.on (t : Mt) (e : Int) (r : List UInt8) : Mt := ⟨t.count + 1, e, r, t.most⟩
theorem Mk.on {t : Mt} (h : Mk t) (e : Int) (r : List UInt8) (hr : r.length = 32) (hc : t.count < t.most) : Mk (t.on e r) := ⟨hr, hc, h.most⟩
/-- Why it doesn't go on. -/
def why (t : Mt) (off : Bool) (e : Int) : Int := if off then 8 else if e < t.epoch then 1 else if t.most ≤ t.count then 10 else 0
theorem why_off (t : Mt) (e : Int) : why t true e = 8 := rfl
theorem why_arg (t : Mt) (e : Int) (h : e < t.epoch) : why t false e = 1 := by rw [why, if_neg (by decide), if_pos h]
theorem why_spent (t : Mt) (e : Int) (h : ¬ e < t.epoch) (h2 : t.most ≤ t.count) : why t false e = 10 := by rw [why, if_neg (by decide), if_neg h, if_pos h2]
theorem why_no (t : Mt) (e : Int) (h : ¬ e < t.epoch) (h2 : ¬ t.most ≤ t.count) : why t false e = 0 := by rw [why, if_neg (by decide), if_neg h, if_neg h2]
theorem why_0 {t : Mt} {off : Bool} {e : Int} (h : why t off e = 0) : off = false ∧ ¬ e < t.epoch ∧ ¬ t.most ≤ t.count := by
  unfold why at h
  cases off with
  | true => simp at h
  | false =>
    rw [if_neg (by decide)] at h
    split at h
    · cases h
    · split at h
      · cases h
      · exact ⟨rfl, by assumption, by assumption⟩
/-- The highest bit. -/
def high (k : Nat) : Bool := decide (9223372036854775808 ≤ k)
/-- One more: the register, the disk, the answer. -/
def nxt (t : Mt) (D : Dk) (e : Int) (r : List UInt8) : Mt × Dk × Int :=
  if why t D.off e = 0 then (if (act D).2 then (if high D.keep then t.on e r else t, lose (act D).1 D.keep, 8) else (t.on e r, (act D).1, 0)) else (t, D, why t D.off e)
theorem nxt_no {t : Mt} {D : Dk} {e : Int} {r : List UInt8} (h : why t D.off e ≠ 0) : nxt t D e r = (t, D, why t D.off e) := by rw [nxt, if_neg h]
theorem nxt_on {t : Mt} {D : Dk} {e : Int} {r : List UInt8} (h : why t D.off e = 0) (ha : (act D).2 = false) : nxt t D e r = (t.on e r, (act D).1, 0) := by rw [nxt, if_pos h, ha]; rfl
theorem nxt_hi {t : Mt} {D : Dk} {e : Int} {r : List UInt8} (h : why t D.off e = 0) (ha : (act D).2 = true) (hk : high D.keep = true) : nxt t D e r = (t.on e r, lose (act D).1 D.keep, 8) := by rw [nxt, if_pos h, ha, hk]; rfl
theorem nxt_lo {t : Mt} {D : Dk} {e : Int} {r : List UInt8} (h : why t D.off e = 0) (ha : (act D).2 = true) (hk : high D.keep = false) : nxt t D e r = (t, lose (act D).1 D.keep, 8) := by rw [nxt, if_pos h, ha, hk]; rfl
theorem nxt_ok {t : Mt} {D : Dk} {e : Int} {r : List UInt8} (h : Mk t) (hr : r.length = 32) : Mk (nxt t D e r).1 := by
  by_cases hw : why t D.off e = 0
  · have hc := (why_0 hw).2.2
    have hon := h.on e r hr (by omega)
    cases ha : (act D).2 with
    | false => rw [nxt_on hw ha]; exact hon
    | true =>
      cases hk : high D.keep with
      | true => rw [nxt_hi hw ha hk]; exact hon
      | false => rw [nxt_lo hw ha hk]; exact h
  · rw [nxt_no hw]; exact h
end Go.Proofs.Ytchdobneipfghaa.Meter
namespace Go.Proofs.Ytchdobneipfghaa.Disk
set_option linter.unusedVariables false
set_option linter.unusedSimpArgs false
open Go

/-- All writes, kept. -/
def allw : List (Nat × List UInt8) → List (List UInt8) → List (List UInt8)
  | [], s => s
  | x :: xs, s => allw xs (s.set x.1 x.2)
theorem allw_length : ∀ (xs : List (Nat × List UInt8)) (s : List (List UInt8)), (allw xs s).length = s.length
  | [], _ => rfl
  | x :: xs, s => by rw [allw, allw_length xs, List.length_set]
theorem allw_snoc (y : Nat × List UInt8) : ∀ (xs : List (Nat × List UInt8)) (s : List (List UInt8)), allw (xs ++ [y]) s = (allw xs s).set y.1 y.2
  | [], _ => rfl
  | x :: xs, s => by rw [List.cons_append, allw, allw, allw_snoc y xs]
theorem allw_far (p : Nat) : ∀ (xs : List (Nat × List UInt8)) (s : List (List UInt8)), (∀ x ∈ xs, x.1 ≠ p) → (allw xs s)[p]? = s[p]?
  | [], _, _ => rfl
  | x :: xs, s, h => by rw [allw, allw_far p xs _ (fun y hy => h y (List.mem_cons_of_mem _ hy)), List.getElem?_set_ne (h x (by simp))]
theorem kept_all (i : Nat) : kept 18446744073709551615 i = true := by
  unfold kept
  have h : i % 64 < 64 := Nat.mod_lt _ (by decide)
  generalize i % 64 = j at h
  have : ∀ j : Fin 64, decide (18446744073709551615 / 2 ^ j.1 % 2 = 1) = true := by decide
  exact this ⟨j, h⟩
theorem over_all : ∀ (xs : List (Nat × List UInt8)) (i : Nat) (s : List (List UInt8)), over 18446744073709551615 i xs s = allw xs s
  | [], _, _ => rfl
  | x :: xs, i, s => by rw [over, kept_all, allw, over_all xs]; rfl
theorem allw_forge (i : Nat) (v : List UInt8) : ∀ (xs : List (Nat × List UInt8)) (s : List (List UInt8)), allw (xs.filter fun x => decide (x.1 ≠ i)) (s.set i v) = (allw xs s).set i v
  | [], _ => rfl
  | x :: xs, s => by
    by_cases h : x.1 = i
    · rw [List.filter_cons_of_neg (by simp [h]), allw, ← allw_forge i v xs, h, List.set_set]
    · rw [List.filter_cons_of_pos (by simp [h]), allw, allw, ← allw_forge i v xs, List.set_comm _ _ (fun e => h e.symm)]
/-- The sectors that were written, taken from those that are safe. -/
def back (safe : List (List UInt8)) : List (Nat × List UInt8) → List (List UInt8) → List (List UInt8)
  | [], now => now
  | x :: xs, now => back safe xs (now.set x.1 (safe.getD x.1 []))
theorem back_length (safe : List (List UInt8)) : ∀ (xs : List (Nat × List UInt8)) (now : List (List UInt8)), (back safe xs now).length = now.length
  | [], _ => rfl
  | x :: xs, now => by rw [back, back_length safe xs, List.length_set]
theorem back_snoc (safe : List (List UInt8)) (y : Nat × List UInt8) : ∀ (xs : List (Nat × List UInt8)) (now : List (List UInt8)), back safe (xs ++ [y]) now = (back safe xs now).set y.1 (safe.getD y.1 [])
  | [], _ => rfl
  | x :: xs, now => by rw [List.cons_append, back, back, back_snoc safe y xs]
theorem back_next (safe : List (List UInt8)) (xs : List (Nat × List UInt8)) (now : List (List UInt8)) (k : Nat) (x : Nat × List UInt8) (hx : xs[k]? = some x) : back safe (xs.take (k + 1)) now = (back safe (xs.take k) now).set x.1 (safe.getD x.1 []) := by
  rw [List.take_add_one, hx]
  simp only [Option.toList_some]
  rw [back_snoc]
theorem back_far (safe : List (List UInt8)) (p : Nat) : ∀ (xs : List (Nat × List UInt8)) (now : List (List UInt8)), (∀ x ∈ xs, x.1 ≠ p) → (back safe xs now)[p]? = now[p]?
  | [], _, _ => rfl
  | x :: xs, now, h => by rw [back, back_far safe p xs _ (fun y hy => h y (List.mem_cons_of_mem _ hy)), List.getElem?_set_ne (h x (by simp))]
theorem back_there (safe : List (List UInt8)) (p : Nat) : ∀ (xs : List (Nat × List UInt8)) (now : List (List UInt8)), now.length = safe.length → (∃ x ∈ xs, x.1 = p) ∨ now[p]? = safe[p]? → (back safe xs now)[p]? = safe[p]?
  | [], _, _, h => by
    rcases h with ⟨x, hx, _⟩ | h
    · cases hx
    · exact h
  | x :: xs, now, hl, h => by
    rw [back]
    refine back_there safe p xs _ (by rw [List.length_set, hl]) ?_
    by_cases he : x.1 = p
    · right
      rw [List.getElem?_set, if_pos he, he]
      by_cases hp : p < now.length
      · rw [if_pos hp, List.getD_eq_getElem?_getD, List.getElem?_eq_getElem (by omega)]; rfl
      · rw [if_neg hp, List.getElem?_eq_none (by omega)]
    · rcases h with ⟨y, hy, e⟩ | h
      · rcases List.mem_cons.1 hy with rfl | hy
        · exact absurd e he
        · exact .inl ⟨y, hy, e⟩
      · right; rw [List.getElem?_set_ne he]; exact h
/-- Behind it all sectors are as they are safe. -/
theorem back_all (keep : Nat) (xs : List (Nat × List UInt8)) (s : List (List UInt8)) : back (over keep 0 xs s) xs (allw xs s) = over keep 0 xs s := by
  apply List.ext_getElem?
  intro p
  refine back_there _ p xs _ (by rw [allw_length, over_length]) ?_
  by_cases h : ∃ x ∈ xs, x.1 = p
  · exact .inl h
  · right
    have h2 : ∀ x ∈ xs, x.1 ≠ p := fun x hx e => h ⟨x, hx, e⟩
    rw [allw_far p xs s h2, over_far keep p xs 0 s h2]
theorem over_next (keep : Nat) (xs : List (Nat × List UInt8)) (s : List (List UInt8)) (k : Nat) (x : Nat × List UInt8) (hx : xs[k]? = some x) : over keep 0 (xs.take (k + 1)) s = if kept keep k then (over keep 0 (xs.take k) s).set x.1 x.2 else over keep 0 (xs.take k) s := by
  have hk := (List.getElem?_eq_some_iff.1 hx).1
  rw [List.take_add_one, hx]
  simp only [Option.toList_some]
  rw [over_snoc, Nat.zero_add, List.length_take, Nat.min_eq_left (by omega)]
/-- The bit that is asked. -/
theorem kept_bit (keep i m : Nat) (hm : m = i % 64) (hk : keep < 18446744073709551616) : ∃ z : Nat, bits .and .u64 (keep : Int) ((2 ^ m : Nat) : Int) = (z : Int) ∧ (z = 0 ↔ kept keep i = false) := by
  have h64 : m < 64 := by rw [hm]; exact Nat.mod_lt _ (by decide)
  have hp : 2 ^ m < 18446744073709551616 := Nat.pow_lt_pow_right (by decide : 1 < 2) h64
  refine ⟨_, bits_and_u64_nat keep (2 ^ m) hk hp, ?_⟩
  rw [kept, ← hm, ← Nat.testBit_eq_decide_div_mod_eq]
  constructor
  · intro h
    have h1 := congrArg (fun a => a.testBit m) h
    simp only [Nat.testBit_and, Nat.zero_testBit, Nat.testBit_two_pow_self, Bool.and_true] at h1
    exact h1
  · intro h
    apply Nat.eq_of_testBit_eq
    intro j
    rw [Nat.testBit_and, Nat.testBit_two_pow, Nat.zero_testBit]
    by_cases hj : m = j
    · subst hj; rw [h]; rfl
    · simp [hj]
end Go.Proofs.Ytchdobneipfghaa.Disk
namespace Go.Proofs.Ytchdobneipfghaa
set_option linter.unusedVariables false
set_option linter.unusedSimpArgs false
open Go Go.RowKit Kit

def num8 (n : Int) : List UInt8 := le 8 (n % 18446744073709551616).toNat
@[simp] theorem num8_length (n : Int) : (num8 n).length = 8 := by simp [num8]
def textB (s : ByteArray) : List UInt8 := if s.size < 16777216 then le 3 s.size ++ sl s else []
theorem textB_le (s : ByteArray) : (textB s).length ≤ 3 + s.size := by unfold textB; split <;> simp
def oneF (b : Nat) : Nat → Prop := fun k => k = b
def bust : List UInt8 × Bool := ([], true)
def can (s : List UInt8 × Bool) (n : Int) : Bool := decide (s.2 = false ∧ 0 ≤ n ∧ n ≤ s.1.length)
def sTake (s : List UInt8 × Bool) (n : Int) : (List UInt8 × Bool) × (List UInt8 × Bool) :=
  if can s n then ((s.1.take n.toNat, true), (s.1.drop n.toNat, false)) else (([], false), bust)
def sNum (s : List UInt8 × Bool) : Int × (List UInt8 × Bool) := (wrap64 (lowN (sTake s 8).1.1 : Nat), (sTake s 8).2)
theorem sTake_length (s : List UInt8 × Bool) (n : Int) : (sTake s n).1.1.length ≤ n.toNat := by
  unfold sTake; split <;> simp; omega
def sIn (s : List UInt8 × Bool) (lo hi : Int) : Int × (List UInt8 × Bool) := if (sNum s).1 < lo ∨ hi < (sNum s).1 then (0, bust) else sNum s
def sText (s : List UInt8 × Bool) (most : Int) : List UInt8 × (List UInt8 × Bool) :=
  if min most 65536 < (lowN (sTake s 3).1.1 : Nat) then ([], bust) else ((sTake (sTake s 3).2 (lowN (sTake s 3).1.1 : Nat)).1.1, (sTake (sTake s 3).2 (lowN (sTake s 3).1.1 : Nat)).2)

/-- Numbers and texts, there and back. -/
theorem num8_back (l : List UInt8) (h : l.length = 8) : num8 (wrap64 (lowN l : Nat)) = l := by
  have h1 := lowN_lt l
  rw [h] at h1
  have e : (wrap64 (lowN l : Nat) % 18446744073709551616).toNat = lowN l := by
    have := IntKind.wrap_i64 (lowN l : Nat)
    simp only [wrap64] at *
    omega
  unfold num8
  rw [e, ← h]
  exact le_lowN l
theorem sTake_split (s : List UInt8 × Bool) (n : Int) (h : (sTake s n).2.2 = false) : (sTake s n).1.1 ++ (sTake s n).2.1 = s.1 ∧ s.2 = false ∧ ((sTake s n).1.1.length : Int) = n := by
  unfold sTake at *
  split at h <;> rename_i hc
  · simp only [can, decide_eq_true_eq] at hc
    rw [if_pos (by simpa [can] using hc)]
    refine ⟨List.take_append_drop _ _, hc.1, ?_⟩
    simp only [List.length_take]; omega
  · simp [bust] at h
theorem i64_range {n : Int} (h : (Lit.int .i64 n).wf = true) : -9223372036854775808 ≤ n ∧ n ≤ 9223372036854775807 := by
  simp [Lit.wf, IntKind.min, IntKind.max, IntKind.signed, IntKind.bits] at h
  omega
theorem num8_forth (n : Int) (h : -9223372036854775808 ≤ n ∧ n ≤ 9223372036854775807) : wrap64 (lowN (num8 n) : Nat) = n := by
  unfold num8
  rw [lowN_le, show (256 : Nat) ^ 8 = 18446744073709551616 from rfl]
  have := IntKind.wrap_i64 (((n % 18446744073709551616).toNat % 18446744073709551616 : Nat) : Int)
  simp only [wrap64] at *
  omega

theorem sTake_app (a W : List UInt8) (n : Int) (h : (a.length : Int) = n) : sTake (a ++ W, false) n = ((a, true), (W, false)) := by
  subst h
  have hc : can (a ++ W, false) (a.length : Int) = true := by simp [can]; omega
  simp [sTake, hc]
theorem sTake_no (s : List UInt8 × Bool) (n : Int) (h : s.1.length < n ∨ s.2 = true) : sTake s n = (([], false), bust) := by
  have hc : can s n = false := by
    simp only [can, decide_eq_false_iff_not]
    rcases h with h | h
    · omega
    · simp [h]
  simp [sTake, hc]
end Go.Proofs.Ytchdobneipfghaa
