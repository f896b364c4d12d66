/- Small words and laws for worlds: rows of one-cell elements that a slice reads, rows that the call owns, what a call keeps; append onto an owned row, bytes to string, string to bytes. No program is named here. · Blocks that are known whole: what they hold behind stores, new blocks and whatever keeps them. No program is named here. · A region that draws its order, driven by hand: operations that yield in every world that meets S are taken first, by their slots; a call, or an operation that changes the world, where it alone is ready. No program is named here. · A region that draws its order, driven by hand: a whole value stored into a block; one that is known now alone is loaded. No program is named here. · More on blocks that are known whole. No program is named here. · More on blocks that are known whole: copies into one. No program is named here. · More on blocks known whole: a whole value stored into a part of one. No program is named here. · Rows that the call owns, of elements of any number of cells: what keeps them, appends onto them. No program is named here. · A region that draws its order, driven by hand: a whole value stored into a part of a block. No program is named here. · Regions driven by hand: a load, or a call, either may come next. No program is named here. · Appends as steps of a region that draws its order: a row, and 'append(s, make([]byte, k)...)', onto an owned row of bytes. No program is named here. · Append of noughts ('append(s, make([]byte, k)...)') as a step of a walk; an owned row cut to nothing; slices of slices of bytes. No program is named here. · More on blocks that are known whole: a string copied into one, as far as there is room. No program is named here. · A region that draws its order, its head of reads and its tail of calls and stores: steps that simp does not make. No program is named here. · Slices of slices of bytes: pieces, and what they are in one. No program is named here. · Regions driven by hand: the beginning, the world of which nothing but S is known. No program is named here. -/
import Derived.WalkKit
import Derived.WalkSpells
import Derived.WalkLawsBesides
import Derived.Maps.AppendAt
import Derived.Deep.AppendLies
import Derived.Lib.AppendStr
import Derived.Lib.LazyBuf
import Derived.Lib.Hide
import Derived.SizedLaws
import Derived.Laws.IdiomStrings
import Derived.Deep.MidRow
import Derived.Laws.CopyOwn
import Derived.Lib.SliceRun
import Derived.Deep.RegionHeld3
import Derived.Lib.AppendZerosOnto
import Derived.Orders
import Derived.Lib.BufferWrite
import Derived.StillTailTactics
namespace Go.Proofs.YtbainiblffcjgaaDoor.Kit
set_option linter.unusedVariables false
set_option linter.unusedSimpArgs false
open Go Go.RowKit

/-- A byte as a cell, bytes as cells. -/
def bv (b : UInt8) : Value := .int .u8 (b.toNat : Int)
def bvs (l : List UInt8) : List Value := l.map bv
@[simp] theorem bvs_length (l : List UInt8) : (bvs l).length = l.length := by simp [bvs]
theorem bvs_append (l m : List UInt8) : bvs (l ++ m) = bvs l ++ bvs m := by simp [bvs]
theorem bvs_one (l : List UInt8) : ∀ u ∈ bvs l, u.oneCell' = true := by
  intro u hu; simp only [bvs, List.mem_map] at hu; obtain ⟨b, _, rfl⟩ := hu; rfl
theorem bvs_get {l : List UInt8} {i : Nat} (h : i < l.length) : (bvs l)[i]? = some (bv l[i]) := by simp [bvs, h]

theorem bv_ofNat (x : Nat) : bv (UInt8.ofNat x) = .int .u8 ((x : Int) % 256) := by simp [bv]

/-- What a call keeps: all blocks that were there but those of F are as they were. -/
structure Kp (F : Nat → Prop) (w w' : World) : Prop where
  os : w'.os = w.os
  tape : w'.tape = w.tape
  output : w'.output = w.output
  size : w.heap.size ≤ w'.heap.size
  block : ∀ k, k < w.heap.size → ¬ F k → w'.heap[k]? = w.heap[k]?

def nob : Nat → Prop := fun _ => False

theorem Kp.refl (F : Nat → Prop) (w : World) : Kp F w w := ⟨rfl, rfl, rfl, Nat.le_refl _, fun _ _ _ => rfl⟩
theorem Kp.trans {F G : Nat → Prop} {a b c : World} (h : Kp F a b) (k : Kp G b c) (hg : ∀ i, G i → F i ∨ a.heap.size ≤ i) : Kp F a c :=
  ⟨k.os.trans h.os, k.tape.trans h.tape, k.output.trans h.output, Nat.le_trans h.size k.size,
   fun i hi hf => (k.block i (Nat.lt_of_lt_of_le hi h.size) (fun e => (hg i e).elim hf (fun h => by omega))).trans (h.block i hi hf)⟩
theorem Kp.mono {F G : Nat → Prop} {a b : World} (h : Kp F a b) (hg : ∀ i, i < a.heap.size → F i → G i) : Kp G a b :=
  ⟨h.os, h.tape, h.output, h.size, fun i hi hf => h.block i hi (fun e => hf (hg i hi e))⟩
theorem Kp.drew {F : Nat → Prop} {a b : World} (h : Kp F a b) : Kp F a b.drew := ⟨h.os, h.tape, h.output, h.size, h.block⟩
theorem Kp.drewN {F : Nat → Prop} {a b : World} (h : Kp F a b) (n : Nat) : Kp F a (b.drewN n) := ⟨h.os, h.tape, h.output, h.size, h.block⟩
theorem Kp.alloc {F : Nat → Prop} {a b : World} (h : Kp F a b) (o : Obj) : Kp F a (b.alloc o) :=
  ⟨h.os, h.tape, h.output, Nat.le_trans h.size (by simp), fun k hk hf => (Below.heap_alloc b o k (Nat.lt_of_lt_of_le hk h.size)).trans (h.block k hk hf)⟩
theorem Kp.setCell {F : Nat → Prop} {a b : World} (h : Kp F a b) {p : Addr} (hp : F p.block ∨ a.heap.size ≤ p.block) (u : Value) : Kp F a (b.setCell p u) :=
  ⟨h.os, h.tape, h.output, Nat.le_trans h.size (by simp [World.setCell]), fun k hk hf => (Below.heap_setCell b p u k (fun e => by subst e; rcases hp with hp | hp; exact hf hp; omega)).trans (h.block k hk hf)⟩
theorem Kp.grown {F : Nat → Prop} {a b c : World} (h : Kp F a b) {row : Option Nat} (hg : b.grownBy c row) (hr : ∀ k, row = some k → F k ∨ a.heap.size ≤ k) : Kp F a c :=
  ⟨hg.os.trans h.os, hg.tape.trans h.tape, hg.output.trans h.output, Nat.le_trans h.size hg.size,
   fun k hk hf => (hg.block k (Nat.lt_of_lt_of_le hk h.size) (fun e => (hr k e.symm).elim hf (fun h => by omega))).trans (h.block k hk hf)⟩
theorem Kp.below {B : Nat} {w w' : World} {F : Nat → Prop} (h : Kp F w w') (hF : ∀ k, F k → B ≤ k) (hB : B ≤ w.heap.size) : Below B w w' :=
  ⟨h.os, h.tape, h.output, h.size, fun k hk => h.block k (by omega) (fun e => by have := hF k e; omega)⟩
theorem Kp.of_below {w w' : World} (h : Below w.heap.size w w') : Kp nob w w' :=
  ⟨h.os, h.tape, h.output, h.size, fun k hk _ => h.block k hk⟩
theorem Kp.nob {w w' : World} (h : Kp nob w w') (F : Nat → Prop) : Kp F w w' := h.mono (fun _ _ e => e.elim)
theorem Kp.to_below {w w' : World} (h : Kp Kit.nob w w') : Below w.heap.size w w' := h.below (fun _ e => e.elim) (Nat.le_refl _)
theorem Kp.cell {F : Nat → Prop} {w w' : World} (h : Kp F w w') {p : Addr} (hp : p.block < w.heap.size) (hf : ¬ F p.block) : w'.cell? p = w.cell? p := World.cell?_of_block (h.block _ hp hf)
theorem Kp.frozen {F : Nat → Prop} {w w' : World} (h : Kp F w w') {p : Addr} (hp : p.block < w.heap.size) (hf : ¬ F p.block) : w'.frozen? p = w.frozen? p := World.frozen?_of_block (h.block _ hp hf)

/-- The block of a slice's address. -/
def ab : Option Addr → Option Nat
  | some a => some a.block
  | none => none
theorem ab_own (A : Option Addr) (n c : Nat) : (Value.slice A n c).ownBlock = ab A := by cases A <;> rfl

/-- The slice '.slice A xs.length c' reads the cells xs. -/
def Row (w : World) (A : Option Addr) (xs : List Value) : Prop :=
  xs = [] ∨ ∃ b o, A = some ⟨b, o, none⟩ ∧ b < w.heap.size ∧ ∀ i u, xs[i]? = some u → w.cell? ⟨b, o + i, none⟩ = some u

theorem Row.nil (w : World) (A : Option Addr) : Row w A [] := .inl rfl
theorem Row.keep {F : Nat → Prop} {w w' : World} {A : Option Addr} {xs : List Value} (h : Row w A xs) (hk : Kp F w w') (hf : ∀ k, ab A = some k → ¬ F k) : Row w' A xs := by
  rcases h with rfl | ⟨b, o, rfl, hb, hc⟩
  · exact .inl rfl
  · exact .inr ⟨b, o, rfl, Nat.lt_of_lt_of_le hb hk.size, fun i u hu => (hk.cell (p := ⟨b, o + i, none⟩) hb (hf b rfl)).trans (hc i u hu)⟩
theorem Row.keep0 {w w' : World} {A : Option Addr} {xs : List Value} (h : Row w A xs) (hk : Kp Kit.nob w w') : Row w' A xs := h.keep hk (fun _ _ e => e)
theorem Row.lt {w : World} {A : Option Addr} {xs : List Value} (h : Row w A xs) (hx : xs ≠ []) : ∀ k, ab A = some k → k < w.heap.size := by
  rcases h with rfl | ⟨b, o, rfl, hb, _⟩
  · exact absurd rfl hx
  · intro k hk; cases hk; exact hb
theorem Row.at_ {w : World} {A : Option Addr} {xs : List Value} (h : Row w A xs) {i : Nat} (hi : i < xs.length) : ∃ b o, A = some ⟨b, o, none⟩ ∧ b < w.heap.size ∧ w.cell? ⟨b, o + i, none⟩ = some xs[i] := by
  rcases h with rfl | ⟨b, o, rfl, hb, hc⟩
  · simp at hi
  · exact ⟨b, o, rfl, hb, hc i _ (List.getElem?_eq_getElem hi)⟩
theorem Row.drop {w : World} {A : Option Addr} {xs : List Value} (h : Row w A xs) (k : Nat) : Row w (A.map (·.add k)) (xs.drop k) := by
  rcases h with rfl | ⟨b, o, rfl, hb, hc⟩
  · exact .inl (by simp)
  · refine .inr ⟨b, o + k, ?_, hb, fun i u hu => ?_⟩
    · by_cases hk : k = 0 <;> simp [Addr.add, hk]
    · rw [List.getElem?_drop] at hu
      have := hc (k + i) u hu
      rwa [← Nat.add_assoc] at this
theorem Row.take {w : World} {A : Option Addr} {xs : List Value} (h : Row w A xs) (k : Nat) : Row w A (xs.take k) := by
  rcases h with rfl | ⟨b, o, rfl, hb, hc⟩
  · exact .inl (by simp)
  · refine .inr ⟨b, o, rfl, hb, fun i u hu => ?_⟩
    rw [List.getElem?_take] at hu
    split at hu
    · exact hc i u hu
    · cases hu

/-- The slice '.slice A n c' of elements of type e owns the cells xs. -/
def Own (e : TypeId) (w : World) (A : Option Addr) (n c : Nat) (xs : List Value) : Prop := w.ownsRow 0 e 1 (.slice A n c) n xs

theorem Own.len {e : TypeId} {w : World} {A : Option Addr} {n c : Nat} {xs : List Value} (h : Own e w A n c xs) : xs.length = n := by simpa using h.1
theorem Own.nil (e : TypeId) (w : World) : Own e w none 0 0 [] := World.ownsRow_nil w 0 e 1
theorem Own.row {e : TypeId} {w : World} {A : Option Addr} {n c : Nat} {xs : List Value} (h : Own e w A n c xs) : Row w A xs := by
  rcases h.2 with ⟨h1, h2⟩ | ⟨g, cap, cur, h1, _, hg, hnc, hcm, hcs, ht⟩
  · exact .inl (List.eq_nil_of_length_eq_zero (by rw [h.len]; exact h2))
  · cases h1
    refine .inr ⟨g, 0, rfl, ?_, fun i u hu => ?_⟩
    · rcases Nat.lt_or_ge g w.heap.size with hlt | hge
      · exact hlt
      · rw [Array.getElem?_eq_none hge] at hg; cases hg
    · have := h.cells (g := g) rfl i u hu
      by_cases hi : i = 0 <;> simpa [Addr.add, hi] using this
theorem Own.lt {e : TypeId} {w : World} {A : Option Addr} {n c : Nat} {xs : List Value} (h : Own e w A n c xs) : ∀ k, ab A = some k → k < w.heap.size :=
  fun k hk => (World.ownsRow.lt h k (by rw [ab_own]; exact hk)).2
theorem Own.keep {e : TypeId} {F : Nat → Prop} {w w' : World} {A : Option Addr} {n c : Nat} {xs : List Value} (h : Own e w A n c xs) (hk : Kp F w w') (hf : ∀ k, ab A = some k → ¬ F k) : Own e w' A n c xs := by
  refine ⟨h.1, ?_⟩
  rcases h.2 with h1 | ⟨g, cap, cur, h1, h0, hg, r⟩
  · exact .inl h1
  · refine .inr ⟨g, cap, cur, h1, h0, ?_, r⟩
    have hA : A = some ⟨g, 0, none⟩ := by injection h1
    rw [hk.block g (h.lt g (by rw [hA]; rfl)) (hf g (by rw [hA]; rfl))]
    exact hg
theorem Own.alloc {e : TypeId} {w : World} {A : Option Addr} {n c : Nat} {xs : List Value} (h : Own e w A n c xs) (o : Obj) : Own e (w.alloc o) A n c xs := h.keep ((Kp.refl Kit.nob w).alloc o) (fun _ _ e => e)
theorem Row.alloc {w : World} {A : Option Addr} {xs : List Value} (h : Row w A xs) (o : Obj) : Row (w.alloc o) A xs := h.keep ((Kp.refl Kit.nob w).alloc o) (fun _ _ e => e)
theorem Own.cap {e : TypeId} {w : World} {A : Option Addr} {n c : Nat} {xs : List Value} (h : Own e w A n c xs) : n ≤ c ∧ c ≤ maxLen := by
  rcases h.2 with ⟨h1, h2⟩ | ⟨g, cap, cur, h1, _, hg, hnc, hcm, hcs, ht⟩
  · injection h1 with _ _ h3; subst h3; subst h2; exact ⟨Nat.le_refl _, by simp [maxLen]⟩
  · injection h1 with _ _ h3; subst h3; exact ⟨hnc, hcm⟩
/-- A cell of an owned row may be written. -/
theorem Own.frozen {e : TypeId} {w : World} {A : Option Addr} {n c : Nat} {xs : List Value} (h : Own e w A n c xs) {a : Addr} (ha : A = some a) (j : Nat) : w.frozen? ⟨a.block, j, none⟩ = false := by
  rcases h.2 with ⟨h1, h2⟩ | ⟨g, cap, cur, h1, _, hg, hnc, hcm, hcs, ht⟩
  · rw [ha] at h1; injection h1 with h1; cases h1
  · rw [ha] at h1; injection h1 with h1; injection h1 with h1; subst h1
    simp [World.frozen?, hg]

theorem Own.at_ {e : TypeId} {w : World} {A : Option Addr} {n c : Nat} {xs : List Value} (h : Own e w A n c xs) {i : Nat} (hi : i < n) :
    ∃ b, A = some ⟨b, 0, none⟩ ∧ b < w.heap.size ∧ w.cell? ⟨b, i, none⟩ = some (xs[i]'(by rw [h.len]; exact hi)) ∧ w.frozen? ⟨b, i, none⟩ = false ∧ ∀ u, Own e (w.setCell ⟨b, i, none⟩ u) A n c (xs.set i u) := by
  obtain ⟨b, o, hA, hb, hc⟩ := h.row.at_ (i := i) (by rw [h.len]; exact hi)
  have hf := h.frozen hA i
  rcases h.2 with ⟨h1, _⟩ | ⟨g, cap, cur, h1, _⟩
  · rw [hA] at h1; injection h1 with h1; cases h1
  · rw [hA] at h1; injection h1 with h1; injection h1 with h1; injection h1 with h1 h2
    subst h2
    refine ⟨b, hA, hb, by simpa using hc, hf, fun u => ?_⟩
    subst hA
    have := (World.ownsRow.stored (w := w) h i u).1
    simpa [Own] using this

theorem Own.set {e : TypeId} {w : World} {b n c : Nat} {xs : List Value} (h : Own e w (some ⟨b, 0, none⟩) n c xs) (i : Nat) (u : Value) : Own e (w.setCell ⟨b, i, none⟩ u) (some ⟨b, 0, none⟩) n c (xs.set i u) :=
  (World.ownsRow.stored (w := w) h i u).1
theorem Own.far {e : TypeId} {w : World} {A : Option Addr} {n c : Nat} {xs : List Value} (h : Own e w A n c xs) (p : Addr) (u : Value) (hp : ∀ k, ab A = some k → k ≠ p.block) : Own e (w.setCell p u) A n c xs :=
  h.keep (F := fun k => k = p.block) ((Kp.refl (fun k => k = p.block) w).setCell (.inl rfl) u) (fun k e e' => hp k e e')
/-- A new block known whole. -/
theorem row_new (w : World) (xs : List Value) (t : TypeId) : Row (w.alloc (.cells xs.toArray t)) (some ⟨w.heap.size, 0, none⟩) xs := by
  refine .inr ⟨w.heap.size, 0, rfl, by simp, fun i u hu => ?_⟩
  rw [World.cell?_alloc_at _ _ _ _ rfl]
  simpa using hu
theorem bvs_set (l : List UInt8) (i x : Nat) : (bvs l).set i (.int .u8 ((x : Int) % 256)) = bvs (l.set i (UInt8.ofNat x)) := by
  rw [← bv_ofNat, bvs, bvs, List.map_set]

/-- APPEND OF A ROW onto an owned row (a nil row, too). -/
theorem wpList_appR {P : Program} (w : World) {ops : Array Oper} {rest : List Oper} {o : Oper} {a : Act} {Q : Exit → Act → World → Prop} (hgd : o.guard = none) (s x : Operand) (t : TypeId)
    (ho : o.op = .call { callee := .builtin .append, args := #[s, x], argTypes := #[t, t] })
    (e : TypeId) (i : TypeInfo) (z : Value) (bytes : Nat) (ht : P.underlying t = some (.slice e)) (hi : P.info? e = some i) (hz : i.zero = some z)
    (hsize : i.size = 1) (hby : i.bytes = bytes) (hzs : z.cells.size = 1)
    (A : Option Addr) (n c : Nat) (xs : List Value) (hs : a.eval s = .slice A n c) (hown : Own e w A n c xs)
    (B : Option Addr) (m d : Nat) (ys : List Value) (hx : a.eval x = .slice B m d) (hB : B = none → d = 0) (hm : ys.length = m) (hrow : Row w B ys) (h1 : ∀ u ∈ ys, u.oneCell' = true)
    (hbytes : (n + m) * bytes ≤ 140737488355328) (h63 : n + m ≤ 140737488355328)
    (h : ∀ A' c' w', Own e w' A' (n + m) c' (xs ++ ys) → w.grownBy w' (ab A) → (ab A' = ab A ∨ ab A' = some w.heap.size) → wpList P ops Q rest (a.put o.dst (.slice A' (n + m) c')) w') : wpList P ops Q (o :: rest) a w := by
  refine wpList_plain hgd fun _ hK => ?_
  have hmx : n + m ≤ maxLen := by unfold maxLen; omega
  have key : ∃ A' c' w', (Builtin.append_ #[t, t] o.type #[.slice A n c, .slice B m d]).run P w = .ok (.slice A' (n + m) c') w' ∧ Own e w' A' (n + m) c' (xs ++ ys) ∧ w.grownBy w' (ab A) ∧ (ab A' = ab A ∨ ab A' = some w.heap.size) := by
    cases B with
    | none =>
      have hd := hB rfl
      have hy : ys = [] := by
        rcases hrow with rfl | ⟨b, o, h, _⟩
        · rfl
        · cases h
      subst hy
      obtain rfl : m = 0 := by simpa using hm.symm
      have hc := hown.cap.1
      refine ⟨A, c, w, ?_, by simpa using hown, World.grownBy.refl _ _, .inl rfl⟩
      cases A <;> simp [Builtin.append_, run_underlying ht, sizeOf, typeInfo, hi, Builtin.lenOf, Builtin.firstCells, hc, storeCells]
    | some ad =>
      have hnews : ∀ j u, ys[j]? = some u → w.cell? (ad.add j) = some u := by
        intro j u hu
        rcases hrow with rfl | ⟨b, o, h, _, hcell⟩
        · simp at hu
        · cases h
          have := hcell j u hu
          by_cases hj : j = 0 <;> simpa [Addr.add, hj] using this
      obtain ⟨v', w', hr, h2, h3, h4, h5⟩ := run_append_own_at (P := P) w 0 t o.type e i z 1 bytes ht hi hz hsize hby hzs (by decide) (.slice A n c) n xs hown ad m d ys (by simpa using hm) hnews h1 hmx hbytes (Nat.zero_le _)
      rw [ab_own] at h3 h5
      have hv : ∃ A' c', v' = .slice A' (n + m) c' := by
        rcases h2.2 with ⟨h6, h7⟩ | ⟨g, cap, _, h6, _⟩
        · exact ⟨none, 0, by rw [h6, h7]⟩
        · exact ⟨_, _, h6⟩
      obtain ⟨A', c', rfl⟩ := hv
      rw [ab_own] at h5
      exact ⟨A', c', w', hr, h2, h3, h5⟩
  obtain ⟨A', c', w', hr, h2, h3, h4⟩ := key
  unfold Oper.wp execOp
  simp only [ho, resolve, invoke, builtin, Sem.run_bind, Sem.run_pure, Result.andThen_ok, List.map_toArray, List.map_cons, List.map_nil, hs, hx, hr]
  exact hK _ _ (h A' c' w' h2 h3 h4)

/-- A string's bytes. -/
def sl (s : ByteArray) : List UInt8 := s.data.toList
@[simp] theorem sl_length (s : ByteArray) : (sl s).length = s.size := by simp [sl]
theorem strCells_bvs (s : ByteArray) : Lib.strCells s = bvs (sl s) := rfl

/-- APPEND OF A STRING's BYTES onto an owned row. -/
theorem wpList_appS {P : Program} (w : World) {ops : Array Oper} {rest : List Oper} {o : Oper} {a : Act} {Q : Exit → Act → World → Prop} (hgd : o.guard = none) (s x : Operand) (t u : TypeId)
    (ho : o.op = .call { callee := .builtin .append, args := #[s, x], argTypes := #[t, u] })
    (e : TypeId) (i : TypeInfo) (ht : P.underlying t = some (.slice e)) (hu : P.underlying u = some .string) (hi : P.info? e = some i) (hz : i.zero = some (.int .u8 0))
    (hsize : i.size = 1) (hby : i.bytes = 1)
    (A : Option Addr) (n c : Nat) (xs : List Value) (hs : a.eval s = .slice A n c) (hown : Own e w A n c xs)
    (str : ByteArray) (hx : a.eval x = .string str)
    (h63 : n + str.size ≤ 140737488355328)
    (h : ∀ A' c' w', Own e w' A' (n + str.size) c' (xs ++ bvs (sl str)) → w.grownBy w' (ab A) → (ab A' = ab A ∨ ab A' = some w.heap.size) → wpList P ops Q rest (a.put o.dst (.slice A' (n + str.size) c')) w') : wpList P ops Q (o :: rest) a w := by
  refine wpList_plain hgd fun _ hK => ?_
  have hmx : n + str.size ≤ maxLen := by unfold maxLen; omega
  have key : ∃ A' c' w', (Builtin.append_ #[t, u] o.type #[.slice A n c, .string str]).run P w = .ok (.slice A' (n + str.size) c') w' ∧ Own e w' A' (n + str.size) c' (xs ++ bvs (sl str)) ∧ w.grownBy w' (ab A) ∧ (ab A' = ab A ∨ ab A' = some w.heap.size) := by
    obtain ⟨v', w', hr, h2, h3, h4⟩ := Lib.run_append_own_string (P := P) w 0 t u o.type e i ht hu hi hz hsize hby (.slice A n c) n xs hown str hmx h63 (Nat.zero_le _)
    rw [ab_own] at h3
    have hv : ∃ A' c', v' = .slice A' (n + str.size) c' := by
      rcases h2.2 with ⟨h6, h7⟩ | ⟨g, cap, _, h6, _⟩
      · exact ⟨none, 0, by rw [h6, h7]⟩
      · exact ⟨_, _, h6⟩
    obtain ⟨A', c', rfl⟩ := hv
    refine ⟨A', c', w', hr, h2, h3, ?_⟩
    rcases hown.2 with ⟨hv, rfl⟩ | ⟨g, cap, cur, hv, hbg, hg, hnc, hcm, hcs, htake⟩
    · injection hv with hA _ hc
      subst hA; subst hc
      by_cases hm : str.size = 0
      · have := h4.2 ⟨rfl, hm⟩
        injection this with h5
        exact .inl (by rw [h5])
      · have hr2 := Go.run_append_nil_string (P := P) w t u o.type e i (.int .u8 0) ht hu hi hz str (by omega) (by omega) (by rw [hby]; omega)
        rw [hr2] at hr
        injection hr with hr _
        injection hr with hr _ _
        exact .inr (by rw [← hr]; rfl)
    · injection hv with hA _ hc
      subst hA; subst hc
      by_cases hroom : n + str.size ≤ c
      · have hcs' : cur.size = c := by simpa using hcs
        have hr2 := Lib.run_append_room_string (P := P) w t u o.type e i ht hu hi hsize g n c cur hg str hroom (by omega)
        rw [hr2] at hr
        injection hr with hr _
        injection hr with hr _ _
        exact .inl (by rw [← hr])
      · have holds : ∀ j u, xs[j]? = some u → w.cell? ((⟨g, 0, none⟩ : Addr).add j) = some u := World.ownsRow.cells (g := g) hown rfl
        have hr2 := Lib.run_append_grow_string (P := P) w t u o.type e i (.int .u8 0) ht hu hi hz ⟨g, 0, none⟩ n c xs (by rw [hsize]; simpa using hown.1) holds str (by omega) (by unfold maxLen at hmx; omega) (by rw [hby]; exact growslice_fits (by omega) (by omega))
        rw [hr2] at hr
        injection hr with hr _
        injection hr with hr _ _
        exact .inr (by rw [← hr]; rfl)
  obtain ⟨A', c', w', hr, h2, h3, h4⟩ := key
  unfold Oper.wp execOp
  simp only [ho, resolve, invoke, builtin, Sem.run_bind, Sem.run_pure, Result.andThen_ok, List.map_toArray, List.map_cons, List.map_nil, hs, hx, hr]
  exact hK _ _ (h A' c' w' h2 h3 h4)

/-- Where a row lies behind an append: where it lay, or in a block that was made since. -/
def Grew (A A' : Option Addr) (B : Nat) : Prop := ab A' = ab A ∨ ∃ k, ab A' = some k ∧ B ≤ k
theorem Grew.refl (A : Option Addr) (B : Nat) : Grew A A B := .inl rfl
theorem Grew.trans {A A' A'' : Option Addr} {B B' : Nat} (h : Grew A A' B) (k : Grew A' A'' B') (hB : B ≤ B') : Grew A A'' B := by
  rcases k with k | ⟨i, k, hi⟩
  · rcases h with h | ⟨j, h, hj⟩
    · exact .inl (k.trans h)
    · exact .inr ⟨j, k.trans h, hj⟩
  · exact .inr ⟨i, k, by omega⟩
theorem Grew.of {A A' : Option Addr} {B H : Nat} (h : ab A' = ab A ∨ ab A' = some H) (hB : B ≤ H) : Grew A A' B := by
  rcases h with h | h
  · exact .inl h
  · exact .inr ⟨H, h, hB⟩
theorem Grew.ge {A A' : Option Addr} {B N : Nat} (h : Grew A A' B) (hA : ∀ k, ab A = some k → N ≤ k) (hB : N ≤ B) : ∀ k, ab A' = some k → N ≤ k := by
  intro k hk
  rcases h with h | ⟨j, h, hj⟩
  · exact hA k (by rw [← h]; exact hk)
  · rw [h] at hk; cases hk; omega
theorem Kp.since {F : Nat → Prop} {a b c : World} (h : Kp Kit.nob a b) (k : Kp F b c) (hF : ∀ i, F i → a.heap.size ≤ i) : Kp Kit.nob a c := h.trans k (fun i e => .inr (hF i e))
/-- The blocks of a row. -/
def rowF (A : Option Addr) : Nat → Prop := fun k => ab A = some k
theorem Grew.sub {A A' : Option Addr} {B : Nat} (h : Grew A A' B) : ∀ i, rowF A' i → rowF A i ∨ B ≤ i := by
  intro i hi
  unfold rowF at *
  rcases h with h | ⟨k, h, hk⟩
  · exact .inl (by rw [← h]; exact hi)
  · rw [h] at hi; cases hi; exact .inr hk

/-- A new block of one cell. -/
theorem row_one (w : World) (v : Value) (t : TypeId) : Row (w.alloc (.cells #[v] t)) (some ⟨w.heap.size, 0, none⟩) [v] := by
  refine .inr ⟨w.heap.size, 0, rfl, by simp, fun i u hu => ?_⟩
  match i, hu with
  | 0, hu => simp at hu; subst hu; rw [World.cell?_alloc_at _ _ _ _ rfl]; rfl

/-- A number's lowest bytes, the lowest first. -/
def le : Nat → Nat → List UInt8
  | 0, _ => []
  | k + 1, x => UInt8.ofNat x :: le k (x / 256)
@[simp] theorem le_length (k x : Nat) : (le k x).length = k := by induction k generalizing x <;> simp [le, *]
theorem le_snoc (k x : Nat) : le (k + 1) x = le k x ++ [UInt8.ofNat (x / 256 ^ k)] := by
  induction k generalizing x with
  | zero => simp [le]
  | succ k ih =>
    rw [le, ih, le]
    simp [Nat.div_div_eq_div_mul, Nat.pow_succ, Nat.mul_comm]

/-- The number of which l has the lowest bytes. -/
def lowN : List UInt8 → Nat
  | [] => 0
  | b :: l => b.toNat + 256 * lowN l
theorem lowN_snoc (l : List UInt8) (b : UInt8) : lowN (l ++ [b]) = lowN l + b.toNat * 256 ^ l.length := by
  induction l with
  | nil => simp [lowN]
  | cons a l ih => simp only [List.cons_append, lowN, ih, List.length_cons, Nat.pow_succ]; rw [Nat.mul_add, Nat.mul_comm (256 ^ l.length), ← Nat.mul_assoc, Nat.mul_left_comm, ← Nat.mul_assoc]; omega
theorem lowN_lt (l : List UInt8) : lowN l < 256 ^ l.length := by
  induction l with
  | nil => simp [lowN]
  | cons a l ih => have := a.toNat_lt; simp only [lowN, List.length_cons, Nat.pow_succ]; omega
theorem lowN_le (k x : Nat) : lowN (le k x) = x % 256 ^ k := by
  induction k generalizing x with
  | zero => simp [le, lowN, Nat.mod_one]
  | succ k ih => simp only [le, lowN, ih, Nat.pow_succ]; rw [Nat.mul_comm (256 ^ k) 256, Nat.mod_mul]; simp
theorem le_lowN (l : List UInt8) : le l.length (lowN l) = l := by
  induction l with
  | nil => rfl
  | cons a l ih =>
    simp only [List.length_cons, le, lowN]
    rw [show (a.toNat + 256 * lowN l) / 256 = lowN l by have := a.toNat_lt; omega, ih]
    congr 1
    apply UInt8.toNat_inj.1
    simp

/-- One more byte above those that are there. -/
theorem or_above (a b k : Nat) (ha : a < 2 ^ k) : a ||| (b * 2 ^ k) = a + b * 2 ^ k := by
  rw [Nat.mul_comm b, Nat.or_comm, ← Nat.two_pow_add_eq_or_of_lt ha, Nat.add_comm]
theorem pow256 (k : Nat) : 2 ^ (8 * k) = 256 ^ k := by rw [Nat.pow_mul]
theorem or_u64_above (l : List UInt8) (b : UInt8) (hl : l.length ≤ 7) :
    bits BinOp.or IntKind.u64 (lowN l : Nat) (IntKind.u64.wrap ((b.toNat : Int) * 2 ^ (8 * l.length))) = (lowN (l ++ [b]) : Nat) := by
  have hb := b.toNat_lt
  have hlt := lowN_lt l
  have hp : 256 ^ l.length ≤ 256 ^ 7 := Nat.pow_le_pow_right (by omega) hl
  have hp1 : (256 : Nat) ^ 7 = 72057594037927936 := rfl
  have hbp : b.toNat * 256 ^ l.length ≤ 255 * 256 ^ l.length := Nat.mul_le_mul_right _ (by omega)
  have e : ((b.toNat : Int) * 2 ^ (8 * l.length)) = ((b.toNat * 256 ^ l.length : Nat) : Int) := by
    rw [← pow256]; simp
  rw [e, IntKind.wrap_u64, Int.emod_eq_of_lt (by omega) (by omega), bits_or_u64_nat _ _ (by omega) (by omega), lowN_snoc, ← pow256, or_above _ _ _ (by rw [pow256]; exact hlt)]

/-- Bytes as a string. -/
def str (l : List UInt8) : ByteArray := ⟨l.toArray⟩
@[simp] theorem sl_str (l : List UInt8) : sl (str l) = l := rfl
@[simp] theorem str_sl (s : ByteArray) : str (sl s) = s := rfl
@[simp] theorem str_size (l : List UInt8) : (str l).size = l.length := by rw [← sl_length, sl_str]
theorem str_toList (l : List UInt8) : (str l).toList = l := by rw [ByteArray.toList_eq]; rfl
theorem toList_sl (s : ByteArray) : s.toList = sl s := by rw [ByteArray.toList_eq]; rfl
theorem str_inj {l m : List UInt8} : str l = str m ↔ l = m := ⟨fun h => by have := congrArg sl h; simpa using this, fun h => by rw [h]⟩
theorem fold_push (l : List UInt8) (s : ByteArray) : (l.map fun b => (b.toNat : Int)).foldl (fun r n => r.push (UInt8.ofNat n.toNat)) s = str (sl s ++ l) := by
  induction l generalizing s with
  | nil => simp
  | cons b l ih =>
    simp only [List.map_cons, List.foldl_cons, ih]
    congr 1
    simp [sl, ByteArray.push]
theorem run_bytes_str {P : Program} (w : World) (src dst e : TypeId) (hs : P.underlying src = some (.slice e)) (he : P.underlying e = some (.int .u8)) (hd : P.underlying dst = some .string)
    (A : Option Addr) (n c : Nat) (l : List UInt8) (hn : l.length = n) (hr : Row w A (bvs l)) : (convert src dst (.slice A n c)).run P w = .ok (.string (str l)) w := by
  subst hn
  rw [run_convert_bytes_string w src dst e A _ _ hs he hd]
  cases A with
  | none =>
    have hl : l = [] := by
      rcases hr with h | ⟨b, o, h, _⟩
      · simpa [bvs] using h
      · cases h
    subst hl
    rfl
  | some a =>
    have hload : (loadCells a l.length).run P w = .ok ((l.map fun b => (b.toNat : Int)).map (Value.int .u8)).toArray w := by
      have hm : (l.map fun b => (b.toNat : Int)).map (Value.int .u8) = bvs l := by simp [bvs, bv]
      rw [hm]
      have := run_firstCells_some (P := P) w 1 l.length a l.length 0 (bvs l) (by simp) (fun j u hu => ?_)
      · simpa [Builtin.firstCells] using this
      · rcases hr with h | ⟨b, o, h, _, hc⟩
        · rw [h] at hu; simp at hu
        · cases h
          have := hc j u hu
          by_cases hj : j = 0 <;> simpa [Addr.add, hj] using this
    rw [run_bytesToString w a _ c _ hload, fold_push]
    rfl

/-- A row of byte cells that came in, as the opening of an argument gives it. -/
theorem row_of_ints {W : World} {x : Addr} {len cap : Nat} {zs : List Int} (hl : len ≤ cap) (hz : zs.length = cap) (hcell : ∀ i, i < zs.length → W.cell? (x.add i) = some (.int .u8 (zs.getD i 0)))
    (hw : ∀ n ∈ zs, (Lit.int .u8 n).wf = true) : ∃ l : List UInt8, l.length = len ∧ Row W (some x) (bvs l) := by
  refine ⟨(zs.take len).map fun z => UInt8.ofNat z.toNat, by simp; omega, ?_⟩
  by_cases h0 : len = 0
  · subst h0; exact .inl (by simp [bvs])
  · have hc0 := hcell 0 (by omega)
    obtain ⟨b, o, sp⟩ := x
    cases sp with
    | some j => simp [Addr.add, World.cell?] at hc0; split at hc0 <;> simp at hc0
    | none =>
      refine .inr ⟨b, o, rfl, World.block_lt_of_cell? W _ hc0, fun i u hu => ?_⟩
      simp only [bvs, List.map_map, List.getElem?_map, List.getElem?_take] at hu
      split at hu
      · rename_i hi
        have hiz : i < zs.length := by omega
        rw [List.getElem?_eq_getElem hiz] at hu
        simp at hu
        have := hcell i hiz
        have hg : zs.getD i 0 = zs[i] := by simp [hiz]
        rw [hg] at this
        have hb := hw zs[i] (List.getElem_mem hiz)
        have hr : 0 ≤ zs[i] ∧ zs[i] ≤ 255 := by
          have := hb
          simp [Lit.wf, IntKind.min, IntKind.max, IntKind.signed, IntKind.bits] at this
          omega
        have e : bv (UInt8.ofNat zs[i].toNat) = .int .u8 zs[i] := by rw [bv_ofNat]; congr 1; omega
        rw [← hu, e]
        by_cases hi0 : i = 0 <;> simpa [Addr.add, hi0] using this
      · simp at hu

theorem weightsAll_of {H : Type} {P : Program} {e : TypeId} {d : DataW H} : ∀ {l : List (DataW H)}, d ∈ l → ∀ n ∈ d.weights P e, n ∈ DataW.weightsAll P e l
  | x :: l, hd, n, hn => by
    simp only [DataW.weightsAll, List.mem_append]
    rcases List.mem_cons.1 hd with rfl | hd
    · exact .inl hn
    · exact .inr (weightsAll_of hd n hn)
theorem weights_slice {H : Type} {P : Program} {t e : TypeId} {elems spare : List (DataW H)} {d : DataW H} (hu : P.underlying t = some (.slice e)) (hd : d ∈ elems) : ∀ n ∈ d.weights P e, n ∈ (DataW.slice elems spare).weights P t := by
  intro n hn
  simp only [DataW.weights, hu, List.mem_cons, List.mem_append]
  exact .inr (.inl (weightsAll_of hd n hn))

/-- A string's bytes as a new slice. -/
theorem run_str_bytes {P : Program} (w : World) (src dst e : TypeId) (s : ByteArray) (hs : P.underlying src = some .string) (hd : P.underlying dst = some (.slice e)) (he : P.underlying e = some (.int .u8)) :
    ∃ (c : Nat) (w' : World), (convert src dst (.string s)).run P w = .ok (.slice (some ⟨w.heap.size, 0, none⟩) s.size c) w' ∧ Row w' (some ⟨w.heap.size, 0, none⟩) (bvs (sl s)) ∧ Kp Kit.nob w w' ∧ w'.heap.size = w.heap.size + 1 := by
  refine ⟨_, _, run_bytes_of_string w src dst e s hs hd he, ?_, ?_, by simp⟩
  · refine .inr ⟨w.heap.size, 0, rfl, by simp, fun i u hu => ?_⟩
    have hi : i < (bvs (sl s)).length := by
      rcases Nat.lt_or_ge i (bvs (sl s)).length with h | h
      · exact h
      · rw [List.getElem?_eq_none h] at hu; cases hu
    have h : (w.drew.alloc (.cells (bytesRow s (grownCap w s.size 0 e)) e ((bytesRow s (grownCap w s.size 0 e)).size, (bytesRow s (grownCap w s.size 0 e)).size + 1))).heap[w.heap.size]? = some (.cells (bytesRow s (grownCap w s.size 0 e)) e ((bytesRow s (grownCap w s.size 0 e)).size, (bytesRow s (grownCap w s.size 0 e)).size + 1)) := heap_alloc_new w.drew _
    simp only [World.cell?, h, Nat.zero_add]
    simp only [bvs_length, sl_length] at hi
    have hbr : (bytesRow s (grownCap w s.size 0 e))[i]? = (bvs (sl s))[i]? := by
      unfold bytesRow
      rw [Array.getElem?_append_left (by simpa using hi)]
      simp [bvs, sl]
      rfl
    simp [hbr, hu]
  · exact (Kp.refl _ _).drew.alloc _

/-- A slice of elements of z cells each that owns the cells xs. -/
def OwnZ (e : TypeId) (z : Nat) (w : World) (A : Option Addr) (n c : Nat) (xs : List Value) : Prop := w.ownsRow 0 e z (.slice A n c) n xs
theorem OwnZ.row {e : TypeId} {z : Nat} {w : World} {A : Option Addr} {n c : Nat} {xs : List Value} (h : OwnZ e z w A n c xs) : Row w A xs := by
  rcases h.2 with ⟨h1, h2⟩ | ⟨g, cap, cur, h1, _, hg, hnc, hcm, hcs, ht⟩
  · exact .inl (List.eq_nil_of_length_eq_zero (by rw [h.1, h2, Nat.zero_mul]))
  · cases h1
    refine .inr ⟨g, 0, rfl, ?_, fun i u hu => ?_⟩
    · rcases Nat.lt_or_ge g w.heap.size with hlt | hge
      · exact hlt
      · rw [Array.getElem?_eq_none hge] at hg; cases hg
    · have := World.ownsRow.cells (g := g) h rfl i u hu
      by_cases hi : i = 0 <;> simpa [Addr.add, hi] using this
theorem OwnZ.lt {e : TypeId} {z : Nat} {w : World} {A : Option Addr} {n c : Nat} {xs : List Value} (h : OwnZ e z w A n c xs) : ∀ k, ab A = some k → k < w.heap.size :=
  fun k hk => (World.ownsRow.lt h k (by rw [ab_own]; exact hk)).2
theorem OwnZ.keep {e : TypeId} {z : Nat} {F : Nat → Prop} {w w' : World} {A : Option Addr} {n c : Nat} {xs : List Value} (h : OwnZ e z w A n c xs) (hk : Kp F w w') (hf : ∀ k, ab A = some k → ¬ F k) : OwnZ e z w' A n c xs := by
  refine ⟨h.1, ?_⟩
  rcases h.2 with h1 | ⟨g, cap, cur, h1, h0, hg, r⟩
  · exact .inl h1
  · refine .inr ⟨g, cap, cur, h1, h0, ?_, r⟩
    have hA : A = some ⟨g, 0, none⟩ := by injection h1
    rw [hk.block g (h.lt g (by rw [hA]; rfl)) (hf g (by rw [hA]; rfl))]
    exact hg
theorem OwnZ.cap {e : TypeId} {z : Nat} {w : World} {A : Option Addr} {n c : Nat} {xs : List Value} (h : OwnZ e z w A n c xs) : n ≤ c ∧ c ≤ maxLen := by
  rcases h.2 with ⟨h1, h2⟩ | ⟨g, cap, cur, h1, _, hg, hnc, hcm, hcs, ht⟩
  · injection h1 with _ _ h3; subst h3; subst h2; exact ⟨Nat.le_refl _, by simp [maxLen]⟩
  · injection h1 with _ _ h3; subst h3; exact ⟨hnc, hcm⟩
theorem OwnZ.none_ {e : TypeId} {z : Nat} {w : World} {A : Option Addr} {n c : Nat} {xs : List Value} (h : OwnZ e z w A n c xs) : A = none → c = 0 := by
  rintro rfl
  rcases h.2 with ⟨h1, _⟩ | ⟨g, cap, cur, h1, _⟩
  · injection h1
  · injection h1 with h1; cases h1

/-- APPEND OF A ROW OF SUCH ELEMENTS. -/
theorem wpList_appZ {P : Program} (w : World) {ops : Array Oper} {rest : List Oper} {o : Oper} {a : Act} {Q : Exit → Act → World → Prop} (hgd : o.guard = none) (s x : Operand) (t : TypeId)
    (ho : o.op = .call { callee := .builtin .append, args := #[s, x], argTypes := #[t, t] })
    (e : TypeId) (i : TypeInfo) (zv : Value) (size bytes : Nat) (ht : P.underlying t = some (.slice e)) (hi : P.info? e = some i) (hz : i.zero = some zv)
    (hsize : i.size = size) (hby : i.bytes = bytes) (hzs : zv.cells.size = size) (hpos : 0 < size)
    (A : Option Addr) (n c : Nat) (xs : List Value) (hs : a.eval s = .slice A n c) (hown : OwnZ e size w A n c xs)
    (B : Option Addr) (m d : Nat) (ys : List Value) (hx : a.eval x = .slice B m d) (hB : B = none → m = 0) (hm : ys.length = m * size) (hrow : Row w B ys) (h1 : ∀ u ∈ ys, u.oneCell' = true)
    (hbytes : (n + m) * bytes ≤ 140737488355328) (h63 : n + m ≤ 140737488355328)
    (h : ∀ A' c' w', OwnZ e size w' A' (n + m) c' (xs ++ ys) → w.grownBy w' (ab A) → (ab A' = ab A ∨ ab A' = some w.heap.size) → wpList P ops Q rest (a.put o.dst (.slice A' (n + m) c')) w') : wpList P ops Q (o :: rest) a w := by
  refine wpList_plain hgd fun _ hK => ?_
  have hmx : n + m ≤ maxLen := by unfold maxLen; omega
  have key : ∃ A' c' w', (Builtin.append_ #[t, t] o.type #[.slice A n c, .slice B m d]).run P w = .ok (.slice A' (n + m) c') w' ∧ OwnZ e size w' A' (n + m) c' (xs ++ ys) ∧ w.grownBy w' (ab A) ∧ (ab A' = ab A ∨ ab A' = some w.heap.size) := by
    cases B with
    | none =>
      have hd := hB rfl
      subst hd
      have hy : ys = [] := List.eq_nil_of_length_eq_zero (by simpa using hm)
      subst hy
      have hc := hown.cap.1
      refine ⟨A, c, w, ?_, by simpa using hown, World.grownBy.refl _ _, .inl rfl⟩
      cases A <;> simp [Builtin.append_, run_underlying ht, sizeOf, typeInfo, hi, Builtin.lenOf, Builtin.firstCells, hc, storeCells]
    | some ad =>
      have hnews : ∀ j u, ys[j]? = some u → w.cell? (ad.add j) = some u := by
        intro j u hu
        rcases hrow with rfl | ⟨b, o, h, _, hcell⟩
        · simp at hu
        · cases h
          have := hcell j u hu
          by_cases hj : j = 0 <;> simpa [Addr.add, hj] using this
      obtain ⟨v', w', hr, h2, h3, h4, h5⟩ := run_append_own_at (P := P) w 0 t o.type e i zv size bytes ht hi hz hsize hby hzs hpos (.slice A n c) n xs hown ad m d ys hm hnews h1 hmx hbytes (Nat.zero_le _)
      rw [ab_own] at h3 h5
      have hv : ∃ A' c', v' = .slice A' (n + m) c' := by
        rcases h2.2 with ⟨h6, h7⟩ | ⟨g, cap, _, h6, _⟩
        · exact ⟨none, 0, by rw [h6, h7]⟩
        · exact ⟨_, _, h6⟩
      obtain ⟨A', c', rfl⟩ := hv
      rw [ab_own] at h5
      exact ⟨A', c', w', hr, h2, h3, h5⟩
  obtain ⟨A', c', w', hr, h2, h3, h4⟩ := key
  unfold Oper.wp execOp
  simp only [ho, resolve, invoke, builtin, Sem.run_bind, Sem.run_pure, Result.andThen_ok, List.map_toArray, List.map_cons, List.map_nil, hs, hx, hr]
  exact hK _ _ (h A' c' w' h2 h3 h4)

end Go.Proofs.YtbainiblffcjgaaDoor.Kit
namespace Go.Proofs.YtbainiblffcjgaaDoor.Kit
set_option linter.unusedVariables false
set_option linter.unusedSimpArgs false
open Go Go.RowKit

/-- A block that is known whole. -/
def Blk (w : World) (g : Nat) (t : TypeId) (cs : List Value) : Prop := w.heap[g]? = some (.cells cs.toArray t (0, 0))
theorem Blk.lt {w : World} {g : Nat} {t : TypeId} {cs : List Value} (h : Blk w g t cs) : g < w.heap.size := by
  rcases Nat.lt_or_ge g w.heap.size with hlt | hge
  · exact hlt
  · unfold Blk at h; rw [Array.getElem?_eq_none hge] at h; cases h
theorem Blk.cell {w : World} {g : Nat} {t : TypeId} {cs : List Value} (h : Blk w g t cs) (i : Nat) : w.cell? ⟨g, i, none⟩ = cs[i]? := by
  unfold Blk at h; simp [World.cell?, h]
theorem Blk.frozen {w : World} {g : Nat} {t : TypeId} {cs : List Value} (h : Blk w g t cs) (i : Nat) : w.frozen? ⟨g, i, none⟩ = false := by
  unfold Blk at h; simp [World.frozen?, h]
theorem Blk.new (w : World) (t : TypeId) (cs : List Value) : Blk (w.alloc (.cells cs.toArray t)) w.heap.size t cs := heap_alloc_new w _
theorem Blk.new' {w : World} {t : TypeId} {c : Array Value} {cs : List Value} {g : Nat} (hg : g = w.heap.size) (h : c = cs.toArray) : Blk (w.alloc (.cells c t)) g t cs := by
  subst hg; subst h; exact Blk.new w t cs
theorem Blk.keep {F : Nat → Prop} {w w' : World} {g : Nat} {t : TypeId} {cs : List Value} (h : Blk w g t cs) (hk : Kp F w w') (hf : ¬ F g) : Blk w' g t cs := (hk.block g h.lt hf).trans h
theorem Blk.alloc {w : World} {g : Nat} {t : TypeId} {cs : List Value} (h : Blk w g t cs) (o : Obj) : Blk (w.alloc o) g t cs := h.keep ((Kp.refl nob w).alloc o) (fun e => e)
theorem Blk.set_ {w : World} {g : Nat} {t : TypeId} {cs : List Value} (h : Blk w g t cs) (i : Nat) (u : Value) : Blk (w.setCell ⟨g, i, none⟩ u) g t (cs.set i u) := by
  unfold Blk at h ⊢
  simp [World.setCell, Array.getElem?_modify, h]
theorem Blk.far {w : World} {g : Nat} {t : TypeId} {cs : List Value} (h : Blk w g t cs) {p : Addr} (hp : g ≠ p.block) (u : Value) : Blk (w.setCell p u) g t cs := (Below.heap_setCell w p u g hp).trans h

theorem Kp.setCells {F : Nat → Prop} {a b : World} {g : Nat} (hg : F g ∨ a.heap.size ≤ g) : ∀ (vs : List Value) {o : Nat} (_ : Kp F a b), Kp F a (b.setCells g o vs)
  | [], _, h => h
  | v :: r, _, h => Kp.setCells hg r (h.setCell (p := ⟨g, _, none⟩) hg v)
theorem Blk.setCells {w : World} {g : Nat} {t : TypeId} : ∀ (vs : List Value) {cs : List Value} {o : Nat} (_ : Blk w g t cs) (_ : o + vs.length ≤ cs.length), Blk (w.setCells g o vs) g t (cs.take o ++ vs ++ cs.drop (o + vs.length))
  | [], _, _, h, _ => by simpa [World.setCells] using h
  | v :: r, cs, o, h, hl => by
    have := Blk.setCells r (h.set_ o v) (o := o + 1) (by simp at hl ⊢; omega)
    rw [World.setCells]
    simp only [List.length_cons] at hl ⊢
    have e : (cs.set o v).take (o + 1) ++ r ++ (cs.set o v).drop (o + 1 + r.length) = cs.take o ++ (v :: r) ++ cs.drop (o + (r.length + 1)) := by
      rw [List.take_succ_eq_append_getElem (by simp; omega), List.take_set_of_le (Nat.le_refl _), List.drop_set_of_lt (by omega)]
      simp [Nat.add_assoc, Nat.add_comm 1]
    rwa [e] at this
theorem Blk.setAll {w : World} {g : Nat} {t : TypeId} {cs vs : List Value} (h : Blk w g t cs) (hl : vs.length = cs.length) : Blk (w.setCells g 0 vs) g t vs := by
  have := h.setCells vs (o := 0) (by omega)
  simpa [hl, List.drop_eq_nil_of_le] using this


/-- One block. -/
def oneB (b : Nat) : Nat → Prop := fun k => k = b
theorem setCells_size {g : Nat} : ∀ (vs : List Value) (o : Nat) (w : World), (w.setCells g o vs).heap.size = w.heap.size
  | [], _, _ => rfl
  | v :: r, o, w => by rw [World.setCells, setCells_size r]; simp [World.setCell]
theorem Blk.range {w : World} {g : Nat} {t : TypeId} {cs : List Value} (h : Blk w g t cs) : w.rangeAt g 0 cs := fun j v hv => by rw [h.cell, Nat.zero_add]; exact hv
theorem Blk.there {w : World} {g : Nat} {t : TypeId} {cs : List Value} (h : Blk w g t cs) : w.there g 0 cs.length := fun j hj => by
  rw [h.cell, Nat.zero_add, List.getElem?_eq_getElem hj]; exact ⟨rfl, h.frozen _⟩
theorem range_keep {F : Nat → Prop} {w w' : World} {b o : Nat} {cs : List Value} (h : w.rangeAt b o cs) (hk : Kp F w w') (hf : ¬ F b) : w'.rangeAt b o cs := fun j v hv => by
  have := h j v hv
  rw [hk.cell (p := ⟨b, o + j, none⟩) (World.block_lt_of_cell? w _ this) hf]; exact this
/-- A WHOLE VALUE STORED INTO A BLOCK OF THE SAME SIZE. -/
theorem wpList_store_blk {P : Program} {ops : Array Oper} {rest : List Oper} {op : Oper} {a : Act} {w : World} {Q : Exit → Act → World → Prop} (hgd : op.guard = none) (ty : TypeId) (x y : Operand) (ho : op.op = .store ty x y)
    (g : Nat) (t : TypeId) (cs vs : List Value) (hB : Blk w g t cs) (hx : a.eval x = .pointer (some ⟨g, 0, none⟩)) (hy : a.eval y = .agg vs.toArray) (hl : vs.length = cs.length) (hi : (P.info? ty).map (·.size) = some vs.length) (h1 : ∀ u ∈ vs, u.oneCell' = true)
    (h : ∀ w', Blk w' g t vs → Kp (oneB g) w w' → w'.heap.size = w.heap.size → wpList P ops Q rest (a.put op.dst undef) w') : wpList P ops Q (op :: rest) a w := by
  refine wpList_store_mid hgd ty x y ho g 0 vs.toArray hx hy ?_ (by simpa using hi) (all_oneCell_toArray h1) ?_
  · have := hB.there; rw [← hl] at this; simpa using this
  · exact h _ (by simpa using hB.setAll hl) (Kp.setCells (F := oneB g) (.inl rfl) _ (Kp.refl (oneB g) w)) (setCells_size _ _ _)
/-- A WHOLE VALUE STORED INTO A NEW BLOCK. -/
theorem wpList_store_new {P : Program} {ops : Array Oper} {rest : List Oper} {op : Oper} {a : Act} {w : World} {Q : Exit → Act → World → Prop} (hgd : op.guard = none) (ty : TypeId) (x y : Operand) (ho : op.op = .store ty x y)
    (c : Array Value) (vs : List Value) (hx : a.eval x = .pointer (some ⟨w.heap.size, 0, none⟩)) (hy : a.eval y = .agg vs.toArray) (hl : vs.length = c.size) (hi : (P.info? ty).map (·.size) = some vs.length) (h1 : ∀ u ∈ vs, u.oneCell' = true)
    (h : ∀ w', Blk w' w.heap.size ty vs → Kp nob w w' → w'.heap.size = w.heap.size + 1 → wpList P ops Q rest (a.put op.dst undef) w') : wpList P ops Q (op :: rest) a (w.alloc (.cells c ty)) := by
  refine wpList_store_blk hgd ty x y ho w.heap.size ty c.toList vs (Blk.new' rfl (by simp)) hx hy (by simpa using hl) hi h1 fun w' hB hk hz => ?_
  exact h w' hB (((Kp.refl nob w).alloc _).since hk (fun i e => by unfold oneB at e; omega)) (by rw [hz]; simp)
/-- A WHOLE BLOCK LOADED. -/
theorem wpList_load_blk {P : Program} {ops : Array Oper} {rest : List Oper} {op : Oper} {a : Act} {w : World} {Q : Exit → Act → World → Prop} (hgd : op.guard = none) (ty : TypeId) (x : Operand) (ho : op.op = .load ty x)
    (g : Nat) (t : TypeId) (cs : List Value) (hB : Blk w g t cs) (hx : a.eval x = .pointer (some ⟨g, 0, none⟩)) (d : TypeDesc) (hu : P.underlying ty = some d) (hd : d.isRow = true) (hi : (P.info? ty).map (·.size) = some cs.length)
    (h : wpList P ops Q rest (a.put op.dst (.agg cs.toArray)) w) : wpList P ops Q (op :: rest) a w :=
  wpList_load_mid hgd ty x ho g 0 hx cs d hB.range hu hd hi h
/-- AN ELEMENT OF AN ARRAY THAT IS A VALUE. -/
theorem run_index_agg {P : Program} (w : World) (t e : TypeId) (n : Nat) (cs : Array Value) (k : IntKind) (i : Nat) (v : Value) (kk : IntKind) (h : P.underlying t = some (.array n e)) (he : P.underlying e = some (.int kk)) (hs : (P.info? e).map (·.size) = some 1) (hi : i < n) (hv : cs[i]? = some v) :
    (Instr.index t (.agg cs) (.int k i)).run P w = .ok v w := by
  have hn : (0 : Int) ≤ (i : Int) ∧ (i : Int) < (n : Int) := by omega
  cases hq : P.info? e with
  | none => simp [hq] at hs
  | some d =>
    have hd : d.size = 1 := by simpa [hq] using hs
    have hagg : (isAgg e).run P w = .ok false w := by
      unfold isAgg
      rw [Sem.run_bind, run_underlying he w]
      rfl
    simp [Instr.index, run_underlying h, asIntOf, hi, sizeOf, typeInfo, hq, hd, part, hagg, hv]

theorem setRow_kp (w : World) (g : Nat) (cs : Array Value) : Kp (oneB g) w (w.setRow g cs) :=
  ⟨rfl, rfl, rfl, by simp [World.setRow], fun k _ hf => setRow_other w g k cs hf⟩
/-- 'copy' INTO A BLOCK THAT IS KNOWN WHOLE, as one step of a region that draws its order. -/
theorem step_copy_blk {P : Program} {ops : Array Oper} {o : Oper} {a : Act} {w : World} {K : Act → World → Prop} {Q : Exit → Act → World → Prop} {E : Prop} (hgd : o.guard = none) (d s : Operand) (dT sT : TypeId)
    (ho : o.op = .call { callee := .builtin .copy, args := #[d, s], argTypes := #[dT, sT] }) (elem : TypeId) (hu : P.underlying dT = some (.slice elem)) (hsz : (P.info? elem).map (·.size) = some 1)
    (g off : Nat) (dp sp : Option Addr) (dLen dCap sLen sCap : Nat) (hd : a.eval d = .slice dp dLen dCap) (hs : a.eval s = .slice sp sLen sCap)
    (cur : List Value) (t : TypeId) (hg : Blk w g t cur) (cs : List Value) (hn : cs.length = Nat.min sLen dLen) (hdp : 0 < cs.length → dp = some ⟨g, off, none⟩)
    (hrow : Row w sp cs) (hfit : off + cs.length ≤ cur.length) (h1 : ∀ v ∈ cs, v.oneCell' = true)
    (h : ∀ w', Blk w' g t (splice cur off cs) → Kp (oneB g) w w' → w'.heap.size = w.heap.size → K (a.put o.dst (goInt cs.length)) w') :
    if Region.wanted o (yielded ops a.tmps) = true then Oper.wp P o a w K Q else E := by
  have hw : Region.wanted o (yielded ops a.tmps) = true := by simp [Region.wanted, hgd]
  rw [if_pos hw]
  by_cases h0 : cs.length = 0
  · obtain rfl : cs = [] := List.eq_nil_of_length_eq_zero h0
    have hrun := run_copy_none (P := P) w dT sT o.type elem dp sp dLen dCap sLen sCap hu hsz (by simpa using hn.symm)
    unfold Oper.wp
    simp [execOp, ho, resolve, invoke, builtin, hd, hs, hrun, Result.andThen]
    exact h w (by simpa [splice] using hg) (Kp.refl _ _) rfl
  · rcases hrow with rfl | ⟨b, oo, rfl, _, hc⟩
    · simp at h0
    · obtain rfl := hdp (by omega)
      have hrun := run_copy_row (P := P) w dT sT o.type elem g off dLen dCap ⟨b, oo, none⟩ sLen sCap cur.toArray t cs hu hsz hg hn (fun j v hv => by rw [Addr.add_mid]; exact hc j v hv) (by simpa using hfit) h1
      unfold Oper.wp
      simp [execOp, ho, resolve, invoke, builtin, hd, hs, hrun, Result.andThen]
      exact h _ (show _ = _ by simpa [splice] using setRow_heap w g _ _ t _ hg) (setRow_kp _ _ _) (by simp [World.setRow])

/-- 'clear' OF PART OF A BLOCK THAT IS KNOWN WHOLE. -/
theorem wpList_clear_blk {P : Program} {w : World} {ops : Array Oper} {rest : List Oper} {o : Oper} {a : Act} {Q : Exit → Act → World → Prop} (hgd : o.guard = none) (s : Operand) (sT : TypeId)
    (ho : o.op = .call { callee := .builtin .clear, args := #[s], argTypes := #[sT] }) (elem : TypeId) (hu : P.underlying sT = some (.slice elem)) (z : Value) (hv : ∀ w, (zeroValue elem).run P w = .ok z w) (hz : z.cells = #[z]) (h1 : z.oneCell' = true)
    (g off : Nat) (sp : Option Addr) (n c : Nat) (hs : a.eval s = .slice sp n c) (cur : List Value) (t : TypeId) (hg : Blk w g t cur) (hsp : 0 < n → sp = some ⟨g, off, none⟩) (hfit : off + n ≤ cur.length)
    (h : ∀ w', Blk w' g t (splice cur off (List.replicate n z)) → Kp (oneB g) w w' → w'.heap.size = w.heap.size → wpList P ops Q rest (a.put o.dst (.tuple #[])) w') : wpList P ops Q (o :: rest) a w := by
  refine wpList_plain hgd fun K hK => ?_
  have key : ∃ w', (Builtin.clear_ #[sT] o.type #[.slice sp n c]).run P w = .ok (.tuple #[]) w' ∧ Blk w' g t (splice cur off (List.replicate n z)) ∧ Kp (oneB g) w w' ∧ w'.heap.size = w.heap.size := by
    by_cases h0 : n = 0
    · subst h0
      refine ⟨w, ?_, by simpa [splice] using hg, Kp.refl _ _, rfl⟩
      cases sp <;> simp [Builtin.clear_, run_underlying hu]
    · obtain rfl := hsp (by omega)
      refine ⟨_, Lib.run_clear_slice w sT elem o.type z hu hv hz h1 g off n c (by omega) (fun j hj => ?_) (fun j hj => hg.frozen _), ?_, Kp.setCells (F := oneB g) (.inl rfl) _ (Kp.refl (oneB g) w), setCells_size _ _ _⟩
      · rw [hg.cell, List.getElem?_eq_getElem (by omega)]; rfl
      · have := hg.setCells (List.replicate n z) (o := off) (by simpa using hfit)
        simpa [splice] using this
  obtain ⟨w', hrun, k1, k2, k3⟩ := key
  unfold Oper.wp
  simp [execOp, ho, resolve, invoke, builtin, hs, hrun, Result.andThen]
  exact hK _ _ (h w' k1 k2 k3)

/-- The address of 's[k:]'. -/
def cutA (A : Option Addr) (c k : Nat) : Option Addr := if c = k then A else A.map (·.add k)
theorem ab_cut (A : Option Addr) (c k : Nat) : ab (cutA A c k) = ab A := by
  unfold cutA
  split
  · rfl
  · cases A with
    | none => rfl
    | some a => simp [ab, Addr.add]; split <;> rfl
theorem Row.cut {w : World} {A : Option Addr} {xs : List Value} (h : Row w A xs) {c k : Nat} (hl : xs.length ≤ c) : Row w (cutA A c k) (xs.drop k) := by
  unfold cutA
  split
  · rw [List.drop_eq_nil_of_le (by omega)]; exact Row.nil _ _
  · exact h.drop k
theorem run_slice_from {P : Program} (t e : TypeId) (ht : P.underlying t = some (.slice e)) (he : ∀ w, (sizeOf e).run P w = .ok 1 w) (A : Option Addr) (n c k : Nat) (hk : k ≤ n) (w : World) :
    (Instr.slice t (.slice A n c) (some (.int .i64 k)) none none).run P w = .ok (.slice (cutA A c k) (n - k) (c - k)) w := by
  have h1 : (0 : Int) ≤ k ∧ (k : Int) ≤ n := by omega
  simp [Instr.slice, run_underlying ht, Instr.sliceBounds, run_sliceBound, he, cutA, hk]

/-- AN OPERATION WHOSE RUN IS KNOWN. -/
theorem wpList_exec {P : Program} {w w' : World} {ops : Array Oper} {rest : List Oper} {o : Oper} {a : Act} {Q : Exit → Act → World → Prop} (hgd : o.guard = none) {v : Value}
    (hr : (execOp a.eval o).run P w = .ok (.value v) w') (h : wpList P ops Q rest (a.put o.dst v) w') : wpList P ops Q (o :: rest) a w :=
  wpList_plain hgd fun K hK => by unfold Oper.wp; rw [hr]; exact hK _ _ h
/-- .. and leaves the world alone. -/
theorem wpList_calm {P : Program} {w : World} {ops : Array Oper} {rest : List Oper} {o : Oper} {a : Act} {Q : Exit → Act → World → Prop} (hgd : o.guard = none) (v : Value)
    (hr : (execOp a.eval o).run P w = .ok (.value v) w) (h : wpList P ops Q rest (a.put o.dst v) w) : wpList P ops Q (o :: rest) a w := wpList_exec hgd hr h
/-- A value built of parts. -/
theorem wpList_built {P : Program} {w : World} {ops : Array Oper} {rest : List Oper} {o : Oper} {a : Act} {Q : Exit → Act → World → Prop} (hgd : o.guard = none) (t : TypeId) (fs : Array (Nat × Operand)) (_ho : o.op = .build t fs) (v : Value)
    (hr : (execOp a.eval o).run P w = .ok (.value v) w) (h : wpList P ops Q rest (a.put o.dst v) w) : wpList P ops Q (o :: rest) a w := wpList_exec hgd hr h
end Go.Proofs.YtbainiblffcjgaaDoor.Kit
namespace Go.Proofs.YtbainiblffcjgaaDoor.Kit
set_option linter.unusedVariables false
set_option linter.unusedSimpArgs false
open Go Go.RowKit

section
variable {P : Program} {md : Region.Mode} {ops : Array Oper} {Q : Exit → Act → World → Prop} {S : World → Prop}
theorem reg_begin {id : Nat} {a : Act} {w : World} (S : World → Prop) (hm : P.follows .mixedOrders = true) (hS : S w.drew)
    (h : S w.drew → wpAnyH P .any ops (NoPanic Q) S ops.size (Array.replicate ops.size false) a w.drew) : (Code.region id ops true).wp P Q a w :=
  wp_region_noPanic (wp_region_held_drew hm hS h)
/-- It yields. -/
theorem reg_take {oi : Oper} {v : Value} {fuel : Nat} {listed : Array Bool} {a : Act} {w : World} (i : Nat) (d : Option Tmp) (hi : ops[i]? = some oi) (hd : oi.dst = d)
    (hs : Region.noSelect ops = true) (hf : Region.free md ops listed i = true) (hr : (Region.ready md ops listed).contains i = true)
    (hw : Region.wanted oi (yielded ops a.tmps) = true) (hS : S w) (hy : ∀ w, S w → (execOp a.eval oi).run P w = .ok (.value v) w)
    (h : wpAnyH P md ops (NoPanic Q) S fuel (listed.setIfInBounds i true) (a.put d v) w) : wpAnyH P md ops (NoPanic Q) S (fuel + 1) listed a w := by
  subst hd
  exact wpAnyH_take hi hs hf hr (fun _ _ _ h => h) (.inl ⟨hw, hy⟩) hS h
/-- Its guard says no. -/
theorem reg_skip {oi : Oper} {fuel : Nat} {listed : Array Bool} {a : Act} {w : World} (i : Nat) (d : Option Tmp) (hi : ops[i]? = some oi) (hd : oi.dst = d)
    (hs : Region.noSelect ops = true) (hf : Region.free md ops listed i = true) (hr : (Region.ready md ops listed).contains i = true)
    (hw : Region.wanted oi (yielded ops a.tmps) = false) (hS : S w)
    (h : wpAnyH P md ops (NoPanic Q) S fuel (listed.setIfInBounds i true) (a.put d undef) w) : wpAnyH P md ops (NoPanic Q) S (fuel + 1) listed a w := by
  subst hd
  exact wpAnyH_take hi hs hf hr (fun _ _ _ h => h) (.inr ⟨hw, rfl⟩) hS h
/-- A long array is loaded. -/
theorem reg_load {oi : Oper} {fuel : Nat} {listed : Array Bool} {a : Act} {w : World} (i : Nat) (d : Option Tmp) (ty : TypeId) (x : Operand) (hi : ops[i]? = some oi) (hd : oi.dst = d) (ho : oi.op = .load ty x)
    (hs : Region.noSelect ops = true) (hf : Region.free md ops listed i = true) (hr : (Region.ready md ops listed).contains i = true)
    (hw : Region.wanted oi (yielded ops a.tmps) = true) (hS : S w) (b o : Nat) (hx : a.eval x = .pointer (some ⟨b, o, none⟩)) (cs : List Value) (dd : TypeDesc) (hc : ∀ w, S w → w.rangeAt b o cs) (hu : P.underlying ty = some dd) (hdd : dd.isRow = true) (hz : (P.info? ty).map (·.size) = some cs.length)
    (h : wpAnyH P md ops (NoPanic Q) S fuel (listed.setIfInBounds i true) (a.put d (.agg cs.toArray)) w) : wpAnyH P md ops (NoPanic Q) S (fuel + 1) listed a w := by
  refine reg_take i d hi hd hs hf hr hw hS (fun w hSw => ?_) h
  have hr := run_loadAt_mid (P := P) w b o ty cs dd (hc w hSw) hu hdd hz
  unfold execOp
  simp only [ho, hx, Sem.run_bind, hr, Result.andThen_ok, Sem.run_pure]
/-- A call, it alone is ready. -/
theorem reg_call {oi : Oper} {fuel : Nat} {listed : Array Bool} {a : Act} {w : World} (i : Nat) (d : Option Tmp) (hi : ops[i]? = some oi) (hd : oi.dst = d) (hr : Region.ready md ops listed = [i])
    (hw : Region.wanted oi (yielded ops a.tmps) = true) (f : FuncId) (args : Array Value) (hx : (execOp a.eval oi).run P w = .ok (.enter f args) w)
    (hc : Calls P f args w fun e w' => ∃ v, e = .returned v ∧ S w' ∧ (S w' → wpAnyH P md ops (NoPanic Q) S fuel (listed.setIfInBounds i true) (a.put d v) w')) : wpAnyH P md ops (NoPanic Q) S (fuel + 1) listed a w := by
  subst hd
  refine wpAnyH_ready hr (by simp) (AllReadyH.cons hi (fun K' hK => ?_) AllReadyH.nil)
  rw [if_pos hw]
  unfold Oper.wp
  rw [hx, Oper.upon_enter]
  refine hc.mono ?_
  rintro e w' ⟨v, rfl, hS, h⟩
  exact hK.out _ _ hS h
/-- An operation that changes the world, it alone is ready. -/
theorem reg_step {oi : Oper} {v : Value} {fuel : Nat} {listed : Array Bool} {a : Act} {w w' : World} (i : Nat) (d : Option Tmp) (hi : ops[i]? = some oi) (hd : oi.dst = d) (hr : Region.ready md ops listed = [i])
    (hw : Region.wanted oi (yielded ops a.tmps) = true) (hx : (execOp a.eval oi).run P w = .ok (.value v) w') (hS : S w')
    (h : S w' → wpAnyH P md ops (NoPanic Q) S fuel (listed.setIfInBounds i true) (a.put d v) w') : wpAnyH P md ops (NoPanic Q) S (fuel + 1) listed a w := by
  subst hd
  refine wpAnyH_ready hr (by simp) (AllReadyH.cons hi (fun K' hK => ?_) AllReadyH.nil)
  rw [if_pos hw]
  unfold Oper.wp
  rw [hx]
  exact hK.out _ _ hS h
theorem reg_end {listed : Array Bool} {a : Act} {w : World} {fuel : Nat} (hr : Region.ready md ops listed = []) (h : Q .normal a w) : wpAnyH P md ops (NoPanic Q) S fuel listed a w :=
  wpAnyH_done hr (NoPanic.normal h) _
end
end Go.Proofs.YtbainiblffcjgaaDoor.Kit
namespace Go.Proofs.YtbainiblffcjgaaDoor.Kit
set_option linter.unusedVariables false
set_option linter.unusedSimpArgs false
open Go Go.RowKit
section
variable {P : Program} {md : Region.Mode} {ops : Array Oper} {Q : Exit → Act → World → Prop} {S : World → Prop}
/-- A whole value is stored, it alone is ready. -/
theorem reg_store {oi : Oper} {fuel : Nat} {listed : Array Bool} {a : Act} {w : World} (i : Nat) (d : Option Tmp) (ty : TypeId) (x y : Operand) (hi : ops[i]? = some oi) (hd : oi.dst = d) (ho : oi.op = .store ty x y) (hr : Region.ready md ops listed = [i])
    (hw : Region.wanted oi (yielded ops a.tmps) = true) (g : Nat) (t : TypeId) (cs vs : List Value) (hB : Blk w g t cs) (hx : a.eval x = .pointer (some ⟨g, 0, none⟩)) (hy : a.eval y = .agg vs.toArray) (hl : vs.length = cs.length) (hz : (P.info? ty).map (·.size) = some vs.length) (h1 : ∀ u ∈ vs, u.oneCell' = true)
    (h : ∀ w', Blk w' g t vs → Kp (oneB g) w w' → w'.heap.size = w.heap.size → S w' ∧ (S w' → wpAnyH P md ops (NoPanic Q) S fuel (listed.setIfInBounds i true) (a.put d undef) w')) : wpAnyH P md ops (NoPanic Q) S (fuel + 1) listed a w := by
  subst hd
  obtain ⟨hS, h2⟩ := h (w.setCells g 0 vs) (hB.setAll hl) (Kp.setCells (F := oneB g) (.inl rfl) _ (Kp.refl (oneB g) w)) (setCells_size _ _ _)
  refine wpAnyH_ready hr (by simp) (AllReadyH.cons hi (fun K' hK => ?_) AllReadyH.nil)
  rw [if_pos hw]
  have ht : w.there g 0 vs.toArray.size := by have := hB.there; rw [← hl] at this; simpa using this
  have hz' : (P.info? ty).map (·.size) = some vs.toArray.size := by simpa using hz
  exact wp_store_mid ty x y ho g 0 vs.toArray hx hy ht hz' (all_oneCell_toArray h1) (hK.out _ _ (by simpa using hS) (fun _ => by simpa using h2 hS))
/-- A whole block is loaded, it alone is ready. -/
theorem reg_loadNow {oi : Oper} {fuel : Nat} {listed : Array Bool} {a : Act} {w : World} (i : Nat) (d : Option Tmp) (ty : TypeId) (x : Operand) (hi : ops[i]? = some oi) (hd : oi.dst = d) (ho : oi.op = .load ty x) (hr : Region.ready md ops listed = [i])
    (hw : Region.wanted oi (yielded ops a.tmps) = true) (hS : S w) (b o : Nat) (hx : a.eval x = .pointer (some ⟨b, o, none⟩)) (cs : List Value) (dd : TypeDesc) (hc : w.rangeAt b o cs) (hu : P.underlying ty = some dd) (hdd : dd.isRow = true) (hz : (P.info? ty).map (·.size) = some cs.length)
    (h : wpAnyH P md ops (NoPanic Q) S fuel (listed.setIfInBounds i true) (a.put d (.agg cs.toArray)) w) : wpAnyH P md ops (NoPanic Q) S (fuel + 1) listed a w := by
  have hr2 := run_loadAt_mid (P := P) w b o ty cs dd hc hu hdd hz
  refine reg_step i d hi hd hr hw (v := .agg cs.toArray) (w' := w) ?_ hS (fun _ => h)
  unfold execOp
  simp only [ho, hx, Sem.run_bind, hr2, Result.andThen_ok, Sem.run_pure]
/-- A row of bytes is read as a string. -/
theorem reg_bytesStr {oi : Oper} {fuel : Nat} {listed : Array Bool} {a : Act} {w : World} (i : Nat) (d : Option Tmp) (src dst e : TypeId) (x : Operand) (hi : ops[i]? = some oi) (hd : oi.dst = d) (ho : oi.op = .convert src dst x)
    (hs : Region.noSelect ops = true) (hf : Region.free md ops listed i = true) (hr : (Region.ready md ops listed).contains i = true)
    (hw : Region.wanted oi (yielded ops a.tmps) = true) (hS : S w) (hu : P.underlying src = some (.slice e)) (he : P.underlying e = some (.int .u8)) (hv : P.underlying dst = some .string) (A : Option Addr) (n c : Nat) (l : List UInt8) (hn : l.length = n) (hx : a.eval x = .slice A n c) (hc : ∀ w, S w → Row w A (bvs l))
    (h : wpAnyH P md ops (NoPanic Q) S fuel (listed.setIfInBounds i true) (a.put d (.string (str l))) w) : wpAnyH P md ops (NoPanic Q) S (fuel + 1) listed a w := by
  refine reg_take i d hi hd hs hf hr hw hS (fun w hSw => ?_) h
  have hr := run_bytes_str (P := P) w src dst e hu he hv A n c l hn (hc w hSw)
  unfold execOp
  simp only [ho, hx, Sem.run_bind, hr, Result.andThen_ok, Sem.run_pure]
/-- A call, or a new block: either may come next. -/
theorem reg_callOr {oi oj : Oper} {v : Value} {fuel : Nat} {listed : Array Bool} {a : Act} {w w' : World} (i j : Nat) (d e : Option Tmp) (hi : ops[i]? = some oi) (hd : oi.dst = d) (hj : ops[j]? = some oj) (he : oj.dst = e) (hr : Region.ready md ops listed = [i, j])
    (hw : Region.wanted oi (yielded ops a.tmps) = true) (hv : Region.wanted oj (yielded ops a.tmps) = true) (f : FuncId) (args : Array Value) (hx : (execOp a.eval oi).run P w = .ok (.enter f args) w) (hy : (execOp a.eval oj).run P w = .ok (.value v) w') (hS : S w')
    (hc : Calls P f args w fun e w' => ∃ v, e = .returned v ∧ S w' ∧ (S w' → wpAnyH P md ops (NoPanic Q) S fuel (listed.setIfInBounds i true) (a.put d v) w'))
    (h : S w' → wpAnyH P md ops (NoPanic Q) S fuel (listed.setIfInBounds j true) (a.put e v) w') : wpAnyH P md ops (NoPanic Q) S (fuel + 1) listed a w := by
  subst hd; subst he
  refine wpAnyH_ready hr (by simp) (AllReadyH.cons hi (fun K' hK => ?_) (AllReadyH.cons hj (fun K' hK => ?_) AllReadyH.nil))
  · rw [if_pos hw]
    unfold Oper.wp
    rw [hx, Oper.upon_enter]
    refine hc.mono ?_
    rintro e w' ⟨v, rfl, hS, h⟩
    exact hK.out _ _ hS h
  · rw [if_pos hv]
    unfold Oper.wp
    rw [hy]
    exact hK.out _ _ hS h
end
end Go.Proofs.YtbainiblffcjgaaDoor.Kit
namespace Go.Proofs.YtbainiblffcjgaaDoor.Kit
set_option linter.unusedVariables false
set_option linter.unusedSimpArgs false
open Go Go.RowKit
/-- A WHOLE VALUE STORED INTO A NEW BLOCK, its number given. -/
theorem wpList_store_newAt {P : Program} {ops : Array Oper} {rest : List Oper} {op : Oper} {a : Act} {w : World} {Q : Exit → Act → World → Prop} (hgd : op.guard = none) (ty : TypeId) (x y : Operand) (ho : op.op = .store ty x y)
    (c : Array Value) (vs : List Value) (g : Nat) (hg : g = w.heap.size) (hx : a.eval x = .pointer (some ⟨g, 0, none⟩)) (hy : a.eval y = .agg vs.toArray) (hl : vs.length = c.size) (hi : (P.info? ty).map (·.size) = some vs.length) (h1 : ∀ u ∈ vs, u.oneCell' = true)
    (h : ∀ w', Blk w' g ty vs → Kp nob w w' → w'.heap.size = g + 1 → wpList P ops Q rest (a.put op.dst undef) w') : wpList P ops Q (op :: rest) a (w.alloc (.cells c ty)) := by
  subst hg; exact wpList_store_new hgd ty x y ho c vs hx hy hl hi h1 h
end Go.Proofs.YtbainiblffcjgaaDoor.Kit
namespace Go.Proofs.YtbainiblffcjgaaDoor.Kit
set_option linter.unusedVariables false
set_option linter.unusedSimpArgs false
open Go Go.RowKit
/-- 'copy' INTO A BLOCK THAT IS KNOWN WHOLE. -/
theorem wpList_copy_blk {P : Program} {w : World} {ops : Array Oper} {rest : List Oper} {o : Oper} {a : Act} {Q : Exit → Act → World → Prop} (hgd : o.guard = none) (d s : Operand) (dT sT : TypeId)
    (ho : o.op = .call { callee := .builtin .copy, args := #[d, s], argTypes := #[dT, sT] }) (elem : TypeId) (hu : P.underlying dT = some (.slice elem)) (hsz : (P.info? elem).map (·.size) = some 1)
    (g off : Nat) (dp sp : Option Addr) (dLen dCap sLen sCap : Nat) (hd : a.eval d = .slice dp dLen dCap) (hs : a.eval s = .slice sp sLen sCap)
    (cur : List Value) (t : TypeId) (hg : Blk w g t cur) (cs : List Value) (hn : cs.length = Nat.min sLen dLen) (hdp : 0 < cs.length → dp = some ⟨g, off, none⟩)
    (hrow : Row w sp cs) (hfit : off + cs.length ≤ cur.length) (h1 : ∀ v ∈ cs, v.oneCell' = true)
    (h : ∀ w', Blk w' g t (splice cur off cs) → Kp (oneB g) w w' → w'.heap.size = w.heap.size → wpList P ops Q rest (a.put o.dst (goInt cs.length)) w') : wpList P ops Q (o :: rest) a w := by
  refine wpList_plain hgd fun K hK => ?_
  by_cases h0 : cs.length = 0
  · obtain rfl : cs = [] := List.eq_nil_of_length_eq_zero h0
    have hrun := run_copy_none (P := P) w dT sT o.type elem dp sp dLen dCap sLen sCap hu hsz (by simpa using hn.symm)
    unfold Oper.wp
    simp [execOp, ho, resolve, invoke, builtin, hd, hs, hrun, Result.andThen]
    exact hK _ _ (h w (by simpa [splice] using hg) (Kp.refl _ _) rfl)
  · rcases hrow with rfl | ⟨b, oo, rfl, _, hc⟩
    · simp at h0
    · obtain rfl := hdp (by omega)
      have hrun := run_copy_row (P := P) w dT sT o.type elem g off dLen dCap ⟨b, oo, none⟩ sLen sCap cur.toArray t cs hu hsz hg hn (fun j v hv => by rw [Addr.add_mid]; exact hc j v hv) (by simpa using hfit) h1
      unfold Oper.wp
      simp [execOp, ho, resolve, invoke, builtin, hd, hs, hrun, Result.andThen]
      exact hK _ _ (h _ (show _ = _ by simpa [splice] using setRow_heap w g _ _ t _ hg) (setRow_kp _ _ _) (by simp [World.setRow]))
theorem Blk.row {w : World} {g : Nat} {t : TypeId} {cs : List Value} (h : Blk w g t cs) : Row w (some ⟨g, 0, none⟩) cs :=
  .inr ⟨g, 0, rfl, h.lt, fun i u hu => by rw [Nat.zero_add, h.cell]; exact hu⟩
/-- A STRING's BYTES AS A NEW SLICE. -/
theorem wpList_str_bytes {P : Program} {w : World} {ops : Array Oper} {rest : List Oper} {o : Oper} {a : Act} {Q : Exit → Act → World → Prop} (hgd : o.guard = none) (src dst e : TypeId) (x : Operand) (ho : o.op = .convert src dst x)
    (hs : P.underlying src = some .string) (hd : P.underlying dst = some (.slice e)) (he : P.underlying e = some (.int .u8)) (s : ByteArray) (hx : a.eval x = .string s)
    (h : ∀ c w', Row w' (some ⟨w.heap.size, 0, none⟩) (bvs (sl s)) → Kp nob w w' → w'.heap.size = w.heap.size + 1 → wpList P ops Q rest (a.put o.dst (.slice (some ⟨w.heap.size, 0, none⟩) s.size c)) w') : wpList P ops Q (o :: rest) a w := by
  obtain ⟨c, w', hr, h1, h2, h3⟩ := run_str_bytes w src dst e s hs hd he
  refine wpList_exec hgd (v := .slice (some ⟨w.heap.size, 0, none⟩) s.size c) (w' := w') ?_ (h c w' h1 h2 h3)
  unfold execOp
  simp only [ho, hx, Sem.run_bind, hr, Result.andThen_ok, Sem.run_pure]
/-- A SLICE OF BYTES AS A STRING. -/
theorem wpList_bytes_str {P : Program} {w : World} {ops : Array Oper} {rest : List Oper} {o : Oper} {a : Act} {Q : Exit → Act → World → Prop} (hgd : o.guard = none) (src dst e : TypeId) (x : Operand) (ho : o.op = .convert src dst x)
    (hs : P.underlying src = some (.slice e)) (he : P.underlying e = some (.int .u8)) (hd : P.underlying dst = some .string) (A : Option Addr) (n c : Nat) (l : List UInt8) (hn : l.length = n) (hr : Row w A (bvs l)) (hx : a.eval x = .slice A n c)
    (h : wpList P ops Q rest (a.put o.dst (.string (str l))) w) : wpList P ops Q (o :: rest) a w := by
  have hr := run_bytes_str (P := P) w src dst e hs he hd A n c l hn hr
  refine wpList_exec hgd (v := .string (str l)) (w' := w) ?_ h
  unfold execOp
  simp only [ho, hx, Sem.run_bind, hr, Result.andThen_ok, Sem.run_pure]
end Go.Proofs.YtbainiblffcjgaaDoor.Kit
namespace Go.Proofs.YtbainiblffcjgaaDoor.Kit
set_option linter.unusedVariables false
set_option linter.unusedSimpArgs false
open Go Go.RowKit
theorem wpList_store_in {P : Program} {ops : Array Oper} {rest : List Oper} {op : Oper} {a : Act} {w : World} {Q : Exit → Act → World → Prop} (hgd : op.guard = none) (ty : TypeId) (x y : Operand) (ho : op.op = .store ty x y)
    (g off : Nat) (t : TypeId) (cs vs : List Value) (hB : Blk w g t cs) (hx : a.eval x = .pointer (some ⟨g, off, none⟩)) (hy : a.eval y = .agg vs.toArray) (hl : off + vs.length ≤ cs.length) (hi : (P.info? ty).map (·.size) = some vs.length) (h1 : ∀ u ∈ vs, u.oneCell' = true)
    (h : ∀ w', Blk w' g t (splice cs off vs) → Kp (oneB g) w w' → w'.heap.size = w.heap.size → wpList P ops Q rest (a.put op.dst undef) w') : wpList P ops Q (op :: rest) a w := by
  refine wpList_store_mid hgd ty x y ho g off vs.toArray hx hy ?_ (by simpa using hi) (all_oneCell_toArray h1) ?_
  · intro j hj
    have hj' : j < vs.length := by simpa using hj
    rw [hB.cell, List.getElem?_eq_getElem (by omega)]
    exact ⟨rfl, hB.frozen _⟩
  · refine h _ ?_ (Kp.setCells (F := oneB g) (.inl rfl) _ (Kp.refl (oneB g) w)) (setCells_size _ _ _)
    have := hB.setCells (o := off) vs hl
    rw [List.append_assoc] at this
    exact this
/-- A part of a block known whole. -/
theorem Blk.part {w : World} {g : Nat} {t : TypeId} {cs : List Value} (h : Blk w g t cs) (off : Nat) (vs : List Value) (hv : ∀ j v, vs[j]? = some v → cs[off + j]? = some v) : w.rangeAt g off vs := fun j v hj => by rw [h.cell]; exact hv j v hj
end Go.Proofs.YtbainiblffcjgaaDoor.Kit
namespace Go.Proofs.YtbainiblffcjgaaDoor.Kit
set_option linter.unusedVariables false
set_option linter.unusedSimpArgs false
open Go Go.RowKit

/-- The slice '.slice A n c' of elements of type e, of k cells each, owns the cells xs. -/
def OwnK (k : Nat) (e : TypeId) (w : World) (A : Option Addr) (n c : Nat) (xs : List Value) : Prop := w.ownsRow 0 e k (.slice A n c) n xs
theorem OwnK.len {k : Nat} {e : TypeId} {w : World} {A : Option Addr} {n c : Nat} {xs : List Value} (h : OwnK k e w A n c xs) : xs.length = n * k := h.1
theorem OwnK.nil (k : Nat) (e : TypeId) (w : World) : OwnK k e w none 0 0 [] := World.ownsRow_nil w 0 e k
theorem OwnK.row {k : Nat} {e : TypeId} {w : World} {A : Option Addr} {n c : Nat} {xs : List Value} (h : OwnK k e w A n c xs) : Row w A xs := by
  rcases h.2 with ⟨h1, h2⟩ | ⟨g, cap, cur, h1, _, hg, hnc, hcm, hcs, ht⟩
  · exact .inl (List.eq_nil_of_length_eq_zero (by rw [h.len, h2, Nat.zero_mul]))
  · cases h1
    refine .inr ⟨g, 0, rfl, ?_, fun i u hu => ?_⟩
    · rcases Nat.lt_or_ge g w.heap.size with hlt | hge
      · exact hlt
      · rw [Array.getElem?_eq_none hge] at hg; cases hg
    · have := h.cells (g := g) rfl i u hu
      by_cases hi : i = 0 <;> simpa [Addr.add, hi] using this
theorem OwnK.lt {k : Nat} {e : TypeId} {w : World} {A : Option Addr} {n c : Nat} {xs : List Value} (h : OwnK k e w A n c xs) : ∀ j, ab A = some j → j < w.heap.size :=
  fun j hj => (World.ownsRow.lt h j (by rw [ab_own]; exact hj)).2
theorem OwnK.keep {k : Nat} {e : TypeId} {F : Nat → Prop} {w w' : World} {A : Option Addr} {n c : Nat} {xs : List Value} (h : OwnK k e w A n c xs) (hk : Kp F w w') (hf : ∀ j, ab A = some j → ¬ F j) : OwnK k e w' A n c xs := by
  refine ⟨h.1, ?_⟩
  rcases h.2 with h1 | ⟨g, cap, cur, h1, h0, hg, r⟩
  · exact .inl h1
  · refine .inr ⟨g, cap, cur, h1, h0, ?_, r⟩
    have hA : A = some ⟨g, 0, none⟩ := by injection h1
    rw [hk.block g (h.lt g (by rw [hA]; rfl)) (hf g (by rw [hA]; rfl))]
    exact hg
theorem OwnK.alloc {k : Nat} {e : TypeId} {w : World} {A : Option Addr} {n c : Nat} {xs : List Value} (h : OwnK k e w A n c xs) (o : Obj) : OwnK k e (w.alloc o) A n c xs := h.keep ((Kp.refl Kit.nob w).alloc o) (fun _ _ e => e)
theorem OwnK.cap {k : Nat} {e : TypeId} {w : World} {A : Option Addr} {n c : Nat} {xs : List Value} (h : OwnK k e w A n c xs) : n ≤ c ∧ c ≤ maxLen := by
  rcases h.2 with ⟨h1, h2⟩ | ⟨g, cap, cur, h1, _, hg, hnc, hcm, hcs, ht⟩
  · injection h1 with _ _ h3; subst h3; subst h2; exact ⟨Nat.le_refl _, by simp [maxLen]⟩
  · injection h1 with _ _ h3; subst h3; exact ⟨hnc, hcm⟩
/-- A ROW OF ELEMENTS OF k CELLS APPENDED onto an owned row. -/
theorem run_appK {P : Program} (w : World) (t ty : TypeId) (k : Nat) (hk : 0 < k) (e : TypeId) (i : TypeInfo) (z : Value) (bytes : Nat) (ht : P.underlying t = some (.slice e)) (hi : P.info? e = some i) (hz : i.zero = some z)
    (hsize : i.size = k) (hby : i.bytes = bytes) (hzs : z.cells.size = k)
    (A : Option Addr) (n c : Nat) (xs : List Value) (hown : OwnK k e w A n c xs)
    (B : Addr) (m d : Nat) (ys : List Value) (hm : ys.length = m * k) (hrow : Row w (some B) ys) (h1 : ∀ u ∈ ys, u.oneCell' = true)
    (hbytes : (n + m) * bytes ≤ 140737488355328) (hmx : n + m ≤ maxLen) : ∃ A' c' w', (Builtin.append_ #[t, t] ty #[.slice A n c, .slice (some B) m d]).run P w = .ok (.slice A' (n + m) c') w' ∧ OwnK k e w' A' (n + m) c' (xs ++ ys) ∧ w.grownBy w' (ab A) ∧ (ab A' = ab A ∨ ab A' = some w.heap.size) := by
  have hnews : ∀ j u, ys[j]? = some u → w.cell? (B.add j) = some u := by
    intro j u hu
    rcases hrow with rfl | ⟨b, o', h, _, hcell⟩
    · simp at hu
    · cases h
      have := hcell j u hu
      by_cases hj : j = 0 <;> simpa [Addr.add, hj] using this
  obtain ⟨v', w', hr, h2, h3, h4, h5⟩ := run_append_own_at (P := P) w 0 t ty e i z k bytes ht hi hz hsize hby hzs hk (.slice A n c) n xs hown B m d ys hm hnews h1 hmx hbytes (Nat.zero_le _)
  rw [ab_own] at h3 h5
  have hv : ∃ A' c', v' = .slice A' (n + m) c' := by
    rcases h2.2 with ⟨h6, h7⟩ | ⟨g, cap, _, h6, _⟩
    · exact ⟨none, 0, by rw [h6, h7]⟩
    · exact ⟨_, _, h6⟩
  obtain ⟨A', c', rfl⟩ := hv
  rw [ab_own] at h5
  exact ⟨A', c', w', hr, h2, h3, h5⟩

/-- APPEND OF ELEMENTS onto an owned row (a nil row, too). -/
theorem wpList_appK {P : Program} (w : World) {ops : Array Oper} {rest : List Oper} {o : Oper} {a : Act} {Q : Exit → Act → World → Prop} (hgd : o.guard = none) (s x : Operand) (t : TypeId)
    (ho : o.op = .call { callee := .builtin .append, args := #[s, x], argTypes := #[t, t] })
    (k : Nat) (hk : 0 < k) (e : TypeId) (i : TypeInfo) (z : Value) (bytes : Nat) (ht : P.underlying t = some (.slice e)) (hi : P.info? e = some i) (hz : i.zero = some z)
    (hsize : i.size = k) (hby : i.bytes = bytes) (hzs : z.cells.size = k)
    (A : Option Addr) (n c : Nat) (xs : List Value) (hs : a.eval s = .slice A n c) (hown : OwnK k e w A n c xs)
    (B : Addr) (m d : Nat) (ys : List Value) (hx : a.eval x = .slice (some B) m d) (hm : ys.length = m * k) (hrow : Row w (some B) ys) (h1 : ∀ u ∈ ys, u.oneCell' = true)
    (hbytes : (n + m) * bytes ≤ 140737488355328) (h63 : n + m ≤ 140737488355328)
    (h : ∀ A' c' w', OwnK k e w' A' (n + m) c' (xs ++ ys) → w.grownBy w' (ab A) → (ab A' = ab A ∨ ab A' = some w.heap.size) → wpList P ops Q rest (a.put o.dst (.slice A' (n + m) c')) w') : wpList P ops Q (o :: rest) a w := by
  refine wpList_plain hgd fun _ hK => ?_
  have hmx : n + m ≤ maxLen := by unfold maxLen; omega
  obtain ⟨A', c', w', hr, h2, h3, h4⟩ := run_appK (P := P) w t o.type k hk e i z bytes ht hi hz hsize hby hzs A n c xs hown B m d ys hm hrow h1 hbytes hmx
  unfold Oper.wp execOp
  simp only [ho, resolve, invoke, builtin, Sem.run_bind, Sem.run_pure, Result.andThen_ok, List.map_toArray, List.map_cons, List.map_nil, hs, hx, hr]
  exact hK _ _ (h A' c' w' h2 h3 h4)
end Go.Proofs.YtbainiblffcjgaaDoor.Kit
namespace Go.Proofs.YtbainiblffcjgaaDoor.Kit
set_option linter.unusedVariables false
set_option linter.unusedSimpArgs false
open Go Go.RowKit
section
variable {P : Program} {md : Region.Mode} {ops : Array Oper} {Q : Exit → Act → World → Prop} {S : World → Prop}
theorem reg_storeIn {oi : Oper} {fuel : Nat} {listed : Array Bool} {a : Act} {w : World} (i : Nat) (d : Option Tmp) (ty : TypeId) (x y : Operand) (hi : ops[i]? = some oi) (hd : oi.dst = d) (ho : oi.op = .store ty x y) (hr : Region.ready md ops listed = [i])
    (hw : Region.wanted oi (yielded ops a.tmps) = true) (g off : Nat) (t : TypeId) (cs vs : List Value) (hB : Blk w g t cs) (hx : a.eval x = .pointer (some ⟨g, off, none⟩)) (hy : a.eval y = .agg vs.toArray) (hl : off + vs.length ≤ cs.length) (hz : (P.info? ty).map (·.size) = some vs.length) (h1 : ∀ u ∈ vs, u.oneCell' = true)
    (h : ∀ w', Blk w' g t (splice cs off vs) → Kp (oneB g) w w' → w'.heap.size = w.heap.size → S w' ∧ (S w' → wpAnyH P md ops (NoPanic Q) S fuel (listed.setIfInBounds i true) (a.put d undef) w')) : wpAnyH P md ops (NoPanic Q) S (fuel + 1) listed a w := by
  subst hd
  have hb : Blk (w.setCells g off vs) g t (splice cs off vs) := by
    have := hB.setCells (o := off) vs hl
    rw [List.append_assoc] at this
    exact this
  obtain ⟨hS, h2⟩ := h (w.setCells g off vs) hb (Kp.setCells (F := oneB g) (.inl rfl) _ (Kp.refl (oneB g) w)) (setCells_size _ _ _)
  refine wpAnyH_ready hr (by simp) (AllReadyH.cons hi (fun K' hK => ?_) AllReadyH.nil)
  rw [if_pos hw]
  have ht : w.there g off vs.toArray.size := by
    intro j hj
    have hj' : j < vs.length := by simpa using hj
    rw [hB.cell, List.getElem?_eq_getElem (by omega)]
    exact ⟨rfl, hB.frozen _⟩
  have hz' : (P.info? ty).map (·.size) = some vs.toArray.size := by simpa using hz
  exact wp_store_mid ty x y ho g off vs.toArray hx hy ht hz' (all_oneCell_toArray h1) (hK.out _ _ (by simpa using hS) (fun _ => by simpa using h2 hS))
/-- Two calls: either may come next. -/
theorem reg_callBoth {oi oj : Oper} {fuel : Nat} {listed : Array Bool} {a : Act} {w : World} (i j : Nat) (d e : Option Tmp) (hi : ops[i]? = some oi) (hd : oi.dst = d) (hj : ops[j]? = some oj) (he : oj.dst = e) (hr : Region.ready md ops listed = [i, j])
    (hw : Region.wanted oi (yielded ops a.tmps) = true) (hv : Region.wanted oj (yielded ops a.tmps) = true) (f f' : FuncId) (args args' : Array Value) (hx : (execOp a.eval oi).run P w = .ok (.enter f args) w) (hy : (execOp a.eval oj).run P w = .ok (.enter f' args') w)
    (hc : Calls P f args w fun e w' => ∃ v, e = .returned v ∧ S w' ∧ (S w' → wpAnyH P md ops (NoPanic Q) S fuel (listed.setIfInBounds i true) (a.put d v) w'))
    (hc' : Calls P f' args' w fun e' w' => ∃ v, e' = .returned v ∧ S w' ∧ (S w' → wpAnyH P md ops (NoPanic Q) S fuel (listed.setIfInBounds j true) (a.put e v) w')) : wpAnyH P md ops (NoPanic Q) S (fuel + 1) listed a w := by
  subst hd; subst he
  refine wpAnyH_ready hr (by simp) (AllReadyH.cons hi (fun K' hK => ?_) (AllReadyH.cons hj (fun K' hK => ?_) AllReadyH.nil))
  · rw [if_pos hw]
    unfold Oper.wp
    rw [hx, Oper.upon_enter]
    refine hc.mono ?_
    rintro e w' ⟨v, rfl, hS, h⟩
    exact hK.out _ _ hS h
  · rw [if_pos hv]
    unfold Oper.wp
    rw [hy, Oper.upon_enter]
    refine hc'.mono ?_
    rintro e w' ⟨v, rfl, hS, h⟩
    exact hK.out _ _ hS h
/-- Two operations that run in the world as it is: either may come next. -/
theorem reg_stepOr {oi oj : Oper} {v u : Value} {fuel : Nat} {listed : Array Bool} {a : Act} {w wi wj : World} (i j : Nat) (d e : Option Tmp) (hi : ops[i]? = some oi) (hd : oi.dst = d) (hj : ops[j]? = some oj) (he : oj.dst = e) (hr : Region.ready md ops listed = [i, j])
    (hw : Region.wanted oi (yielded ops a.tmps) = true) (hv : Region.wanted oj (yielded ops a.tmps) = true) (hx : (execOp a.eval oi).run P w = .ok (.value v) wi) (hy : (execOp a.eval oj).run P w = .ok (.value u) wj) (hSi : S wi) (hSj : S wj)
    (h : S wi → wpAnyH P md ops (NoPanic Q) S fuel (listed.setIfInBounds i true) (a.put d v) wi)
    (h' : S wj → wpAnyH P md ops (NoPanic Q) S fuel (listed.setIfInBounds j true) (a.put e u) wj) : wpAnyH P md ops (NoPanic Q) S (fuel + 1) listed a w := by
  subst hd; subst he
  refine wpAnyH_ready hr (by simp) (AllReadyH.cons hi (fun K' hK => ?_) (AllReadyH.cons hj (fun K' hK => ?_) AllReadyH.nil))
  · rw [if_pos hw]
    unfold Oper.wp
    rw [hx]
    exact hK.out _ _ hSi h
  · rw [if_pos hv]
    unfold Oper.wp
    rw [hy]
    exact hK.out _ _ hSj h'
/-- A store (or what yields nothing), it alone is ready. -/
theorem reg_mute {oi : Oper} {fuel : Nat} {listed : Array Bool} {a : Act} {w w' : World} (i : Nat) (d : Option Tmp) (hi : ops[i]? = some oi) (hd : oi.dst = d) (hr : Region.ready md ops listed = [i])
    (hw : Region.wanted oi (yielded ops a.tmps) = true) (hx : (execOp a.eval oi).run P w = .ok .skip w') (hS : S w')
    (h : S w' → wpAnyH P md ops (NoPanic Q) S fuel (listed.setIfInBounds i true) (a.put d undef) w') : wpAnyH P md ops (NoPanic Q) S (fuel + 1) listed a w := by
  subst hd
  refine wpAnyH_ready hr (by simp) (AllReadyH.cons hi (fun K' hK => ?_) AllReadyH.nil)
  rw [if_pos hw]
  unfold Oper.wp
  rw [hx]
  exact hK.out _ _ hS h
/-- A row of elements of k cells is appended, it alone is ready. -/
theorem reg_appK {oi : Oper} {fuel : Nat} {listed : Array Bool} {a : Act} {w : World} (ix : Nat) (dd : Option Tmp) (s x : Operand) (t : TypeId) (hi0 : ops[ix]? = some oi) (hd0 : oi.dst = dd)
    (ho : oi.op = .call { callee := .builtin .append, args := #[s, x], argTypes := #[t, t] }) (hr0 : Region.ready md ops listed = [ix]) (hw0 : Region.wanted oi (yielded ops a.tmps) = true)
    (k : Nat) (hk : 0 < k) (e : TypeId) (i : TypeInfo) (z : Value) (bytes : Nat) (ht : P.underlying t = some (.slice e)) (hi : P.info? e = some i) (hz : i.zero = some z)
    (hsize : i.size = k) (hby : i.bytes = bytes) (hzs : z.cells.size = k)
    (A : Option Addr) (n c : Nat) (xs : List Value) (hs : a.eval s = .slice A n c) (hown : OwnK k e w A n c xs)
    (B : Addr) (m d : Nat) (ys : List Value) (hx : a.eval x = .slice (some B) m d) (hm : ys.length = m * k) (hrow : Row w (some B) ys) (h1 : ∀ u ∈ ys, u.oneCell' = true)
    (hbytes : (n + m) * bytes ≤ 140737488355328) (h63 : n + m ≤ 140737488355328)
    (h : ∀ A' c' w', OwnK k e w' A' (n + m) c' (xs ++ ys) → w.grownBy w' (ab A) → (ab A' = ab A ∨ ab A' = some w.heap.size) → S w' ∧ (S w' → wpAnyH P md ops (NoPanic Q) S fuel (listed.setIfInBounds ix true) (a.put dd (.slice A' (n + m) c')) w')) : wpAnyH P md ops (NoPanic Q) S (fuel + 1) listed a w := by
  subst hd0
  have hmx : n + m ≤ maxLen := by unfold maxLen; omega
  obtain ⟨A', c', w', hr, h2, h3, h4⟩ := run_appK (P := P) w t oi.type k hk e i z bytes ht hi hz hsize hby hzs A n c xs hown B m d ys hm hrow h1 hbytes hmx
  obtain ⟨hS, hc⟩ := h A' c' w' h2 h3 h4
  refine wpAnyH_ready hr0 (by simp) (AllReadyH.cons hi0 (fun K' hK => ?_) AllReadyH.nil)
  rw [if_pos hw0]
  unfold Oper.wp execOp
  simp only [ho, resolve, invoke, builtin, Sem.run_bind, Sem.run_pure, Result.andThen_ok, List.map_toArray, List.map_cons, List.map_nil, hs, hx, hr]
  exact hK.out _ _ hS hc
end
end Go.Proofs.YtbainiblffcjgaaDoor.Kit
namespace Go.Proofs.YtbainiblffcjgaaDoor.Kit
set_option linter.unusedVariables false
set_option linter.unusedSimpArgs false
open Go Go.RowKit
section
variable {P : Program} {md : Region.Mode} {ops : Array Oper} {Q : Exit → Act → World → Prop} {S : World → Prop}
/-- A whole value is loaded, or a call is made: either may come next. -/
theorem reg_loadOr {oi oj : Oper} {fuel : Nat} {listed : Array Bool} {a : Act} {w : World} (i j : Nat) (d e : Option Tmp) (ty : TypeId) (x : Operand) (hi : ops[i]? = some oi) (hd : oi.dst = d) (ho : oi.op = .load ty x) (hj : ops[j]? = some oj) (he : oj.dst = e) (hr : Region.ready md ops listed = [i, j])
    (hw : Region.wanted oi (yielded ops a.tmps) = true) (hv : Region.wanted oj (yielded ops a.tmps) = true) (hS : S w) (b o : Nat) (hx : a.eval x = .pointer (some ⟨b, o, none⟩)) (cs : List Value) (dd : TypeDesc) (hc : w.rangeAt b o cs) (hu : P.underlying ty = some dd) (hdd : dd.isRow = true) (hz : (P.info? ty).map (·.size) = some cs.length)
    (f : FuncId) (args : Array Value) (hy : (execOp a.eval oj).run P w = .ok (.enter f args) w)
    (h : wpAnyH P md ops (NoPanic Q) S fuel (listed.setIfInBounds i true) (a.put d (.agg cs.toArray)) w)
    (h' : Calls P f args w fun e' w' => ∃ v, e' = .returned v ∧ S w' ∧ (S w' → wpAnyH P md ops (NoPanic Q) S fuel (listed.setIfInBounds j true) (a.put e v) w')) : wpAnyH P md ops (NoPanic Q) S (fuel + 1) listed a w := by
  subst hd; subst he
  have hr2 := run_loadAt_mid (P := P) w b o ty cs dd hc hu hdd hz
  have e2 : (execOp a.eval oi).run P w = .ok (.value (.agg cs.toArray)) w := by
    unfold execOp
    simp only [ho, hx, Sem.run_bind, hr2, Result.andThen_ok, Sem.run_pure]
  refine wpAnyH_ready hr (by simp) (AllReadyH.cons hi (fun K' hK => ?_) (AllReadyH.cons hj (fun K' hK => ?_) AllReadyH.nil))
  · rw [if_pos hw]
    unfold Oper.wp
    rw [e2]
    exact hK.out _ _ hS fun _ => h
  · rw [if_pos hv]
    unfold Oper.wp
    rw [hy, Oper.upon_enter]
    refine h'.mono ?_
    rintro e w' ⟨v, rfl, hS, h⟩
    exact hK.out _ _ hS h
end
/-- A call of a function by its number. -/
theorem exec_func {P : Program} {a : Act} {o : Oper} {w : World} (f : FuncId) (xs : Array Operand) (ts : Array TypeId) (args : List Value) (ho : o.op = .call { callee := .value (.func f), args := xs, argTypes := ts })
    (hf : (P.funcs[f]?).any (fun fn => !(fn.name == "runtime.NumGoroutine") && fn.body.isSome) = true) (hx : xs.toList.map a.eval = args) : (execOp a.eval o).run P w = .ok (.enter f args.toArray) w := by
  subst hx
  cases hq : P.funcs[f]? with
  | none => rw [hq] at hf; cases hf
  | some fn =>
    rw [hq] at hf
    simp only [Option.any_some, Bool.and_eq_true, Bool.not_eq_true'] at hf
    obtain ⟨h1, h2⟩ := hf
    have h3 : fn.body.isNone = false := by cases hb : fn.body <;> simp_all
    have e : (callFunc f (xs.map a.eval)).run P w = .ok (.enter f (xs.map a.eval)) w := by
      unfold callFunc
      simp [go_sem, hq]
      simp at h1
      cases hb : fn.body with
      | none => simp [hb] at h3
      | some c => simp [h1]
    have e2 : (List.map a.eval xs.toList).toArray = xs.map a.eval := by apply Array.ext'; simp
    rw [e2]
    unfold execOp
    simp [ho, resolve, go_sem]
    exact e
end Go.Proofs.YtbainiblffcjgaaDoor.Kit
namespace Go.Proofs.YtbainiblffcjgaaDoor.Kit
set_option linter.unusedVariables false
set_option linter.unusedSimpArgs false
open Go Go.RowKit

/-- AN OPERATION WHOSE GUARD SAYS NO, taken first; its slot is handed in. -/
theorem wpAny_skip {P : Program} {md : Region.Mode} {ops : Array Oper} {Q : Exit → Act → World → Prop} {oi : Oper} {fuel : Nat} {listed : Array Bool} {a : Act} {w : World} (i : Nat) (d : Option Tmp) (hi : ops[i]? = some oi) (hd : oi.dst = d)
    (hs : Region.noSelect ops = true) (hf : Region.free md ops listed i = true) (hr : (Region.ready md ops listed).contains i = true)
    (hQ : ∀ c a w, Q (.panic c) (a.put d undef) w → Q (.panic c) a w) (hw : Region.wanted oi (yielded ops a.tmps) = false)
    (h : wpAny P md ops Q fuel (listed.setIfInBounds i true) (a.put d undef) w) : wpAny P md ops Q (fuel + 1) listed a w := by
  subst hd
  exact wpAny_take hi hs hf hr hQ (.inr ⟨hw, rfl⟩) h
/-- An operation that yields in whatever world, taken first; its slot is handed in. -/
theorem wpAny_takeD {P : Program} {md : Region.Mode} {ops : Array Oper} {Q : Exit → Act → World → Prop} {oi : Oper} {v : Value} {fuel : Nat} {listed : Array Bool} {a : Act} {w : World} (i : Nat) (d : Option Tmp) (hi : ops[i]? = some oi) (hd : oi.dst = d)
    (hs : Region.noSelect ops = true) (hf : Region.free md ops listed i = true) (hr : (Region.ready md ops listed).contains i = true)
    (hQ : ∀ c a w, Q (.panic c) (a.put d v) w → Q (.panic c) a w) (hw : Region.wanted oi (yielded ops a.tmps) = true) (hy : ∀ w, (execOp a.eval oi).run P w = .ok (.value v) w)
    (h : wpAny P md ops Q fuel (listed.setIfInBounds i true) (a.put d v) w) : wpAny P md ops Q (fuel + 1) listed a w := by
  subst hd
  exact wpAny_take hi hs hf hr hQ (.inl ⟨hw, hy⟩) h
theorem Kp.alloc_drew {F : Nat → Prop} {a b : World} (h : Kp F a b.drew) (o : Obj) : Kp F a (b.alloc o).drew := h.alloc o
theorem range_alloc {w : World} {b o : Nat} {cs : List Value} (h : w.rangeAt b o cs) (x : Obj) : (w.alloc x).rangeAt b o cs := range_keep h ((Kp.refl nob w).alloc x) (fun e => e)
theorem range_alloc_drew {w : World} {b o : Nat} {cs : List Value} (h : w.drew.rangeAt b o cs) (x : Obj) : (w.alloc x).drew.rangeAt b o cs := range_alloc h x

theorem run_appR {P : Program} (w : World) (t ty e : TypeId) (i : TypeInfo) (z : Value) (bytes : Nat) (ht : P.underlying t = some (.slice e)) (hi : P.info? e = some i) (hz : i.zero = some z)
    (hsize : i.size = 1) (hby : i.bytes = bytes) (hzs : z.cells.size = 1)
    (A : Option Addr) (n c : Nat) (xs : List Value) (hown : Own e w A n c xs)
    (B : Option Addr) (m d : Nat) (ys : List Value) (hB : B = none → d = 0) (hm : ys.length = m) (hrow : Row w B ys) (h1 : ∀ u ∈ ys, u.oneCell' = true)
    (hbytes : (n + m) * bytes ≤ 140737488355328) (h63 : n + m ≤ 140737488355328) :
    ∃ A' c' w', (Builtin.append_ #[t, t] ty #[.slice A n c, .slice B m d]).run P w = .ok (.slice A' (n + m) c') w' ∧ Own e w' A' (n + m) c' (xs ++ ys) ∧ w.grownBy w' (ab A) ∧ (ab A' = ab A ∨ ab A' = some w.heap.size) := by
  have hmx : n + m ≤ maxLen := by unfold maxLen; omega
  cases B with
  | none =>
    have hd := hB rfl
    have hy : ys = [] := by
      rcases hrow with rfl | ⟨b, o, h, _⟩
      · rfl
      · cases h
    subst hy
    obtain rfl : m = 0 := by simpa using hm.symm
    have hc := hown.cap.1
    refine ⟨A, c, w, ?_, by simpa using hown, World.grownBy.refl _ _, .inl rfl⟩
    cases A <;> simp [Builtin.append_, run_underlying ht, sizeOf, typeInfo, hi, Builtin.lenOf, Builtin.firstCells, hc, storeCells]
  | some ad =>
    have hnews : ∀ j u, ys[j]? = some u → w.cell? (ad.add j) = some u := by
      intro j u hu
      rcases hrow with rfl | ⟨b, o, h, _, hcell⟩
      · simp at hu
      · cases h
        have := hcell j u hu
        by_cases hj : j = 0 <;> simpa [Addr.add, hj] using this
    obtain ⟨v', w', hr, h2, h3, h4, h5⟩ := run_append_own_at (P := P) w 0 t ty e i z 1 bytes ht hi hz hsize hby hzs (by decide) (.slice A n c) n xs hown ad m d ys (by simpa using hm) hnews h1 hmx hbytes (Nat.zero_le _)
    rw [ab_own] at h3 h5
    have hv : ∃ A' c', v' = .slice A' (n + m) c' := by
      rcases h2.2 with ⟨h6, h7⟩ | ⟨g, cap, _, h6, _⟩
      · exact ⟨none, 0, by rw [h6, h7]⟩
      · exact ⟨_, _, h6⟩
    obtain ⟨A', c', rfl⟩ := hv
    rw [ab_own] at h5
    exact ⟨A', c', w', hr, h2, h3, h5⟩

theorem step_append {P : Program} {ops : Array Oper} {o : Oper} {a : Act} {w : World} {K : Act → World → Prop} {Q : Exit → Act → World → Prop} {E : Prop} (hw : Region.wanted o (yielded ops a.tmps) = true)
    (s x : Operand) (t u : TypeId) (ho : o.op = .call { callee := .builtin .append, args := #[s, x], argTypes := #[t, u] }) (v1 v2 : Value) (h1 : a.eval s = v1) (h2 : a.eval x = v2) (v : Value) (w' : World)
    (hr : (Builtin.append_ #[t, u] o.type #[v1, v2]).run P w = .ok v w') (h : K (a.put o.dst v) w') : if Region.wanted o (yielded ops a.tmps) = true then Oper.wp P o a w K Q else E := by
  rw [if_pos hw]
  unfold Oper.wp execOp
  simp only [ho, resolve, invoke, builtin, Sem.run_bind, Sem.run_pure, Result.andThen_ok, List.map_toArray, List.map_cons, List.map_nil, h1, h2, hr]
  exact h

theorem step_appR {P : Program} {ops : Array Oper} {o : Oper} {a : Act} {w : World} {K : Act → World → Prop} {Q : Exit → Act → World → Prop} {E : Prop} (hw : Region.wanted o (yielded ops a.tmps) = true) (s x : Operand) (t : TypeId)
    (ho : o.op = .call { callee := .builtin .append, args := #[s, x], argTypes := #[t, t] })
    (e : TypeId) (i : TypeInfo) (z : Value) (bytes : Nat) (ht : P.underlying t = some (.slice e)) (hi : P.info? e = some i) (hz : i.zero = some z)
    (hsize : i.size = 1) (hby : i.bytes = bytes) (hzs : z.cells.size = 1)
    (A : Option Addr) (n c : Nat) (xs : List Value) (hs : a.eval s = .slice A n c) (hown : Own e w A n c xs)
    (B : Option Addr) (m d : Nat) (ys : List Value) (hx : a.eval x = .slice B m d) (hB : B = none → d = 0) (hm : ys.length = m) (hrow : Row w B ys) (h1 : ∀ u ∈ ys, u.oneCell' = true)
    (hbytes : (n + m) * bytes ≤ 140737488355328) (h63 : n + m ≤ 140737488355328)
    (h : ∀ A' c' w', Own e w' A' (n + m) c' (xs ++ ys) → w.grownBy w' (ab A) → (ab A' = ab A ∨ ab A' = some w.heap.size) → K (a.put o.dst (.slice A' (n + m) c')) w') : if Region.wanted o (yielded ops a.tmps) = true then Oper.wp P o a w K Q else E := by
  obtain ⟨A', c', w', hr, h2, h3, h4⟩ := run_appR (P := P) w t o.type e i z bytes ht hi hz hsize hby hzs A n c xs hown B m d ys hB hm hrow h1 hbytes h63
  exact step_append hw s x t t ho _ _ hs hx _ w' hr (h A' c' w' h2 h3 h4)

theorem zeroCells_u8 (k : Nat) : Builtin.zeroCells (Value.int .u8 0).cells k = (bvs (List.replicate k 0)).toArray := by
  apply Array.ext
  · simp [Builtin.zeroCells, bvs, Value.cells]
  · intro i h1 h2
    simp [Builtin.zeroCells, bvs, bv, Value.cells, Nat.mod_one]

/-- APPEND OF NOUGHTS ONTO AN OWNED ROW OF BYTES. -/
theorem run_appZero {P : Program} (w : World) (t tn ty e : TypeId) (i : TypeInfo) (kq kn : IntKind) (ht : P.underlying t = some (.slice e)) (htn : P.underlying tn = some (.int kn)) (hi : P.info? e = some i) (hz : i.zero = some (.int .u8 0))
    (hsize : i.size = 1) (hby : i.bytes = 1) (A : Option Addr) (n c : Nat) (xs : List Value) (hown : Own e w A n c xs) (k : Nat) (h63 : n + k ≤ 140737488355328) :
    ∃ A' c' w', (Builtin.append_ #[t, tn] ty #[.slice A n c, .int kq k]).run P w = .ok (.slice A' (n + k) c') w' ∧ Own e w' A' (n + k) c' (xs ++ bvs (List.replicate k 0)) ∧ w.grownBy w' (ab A) ∧ (ab A' = ab A ∨ ab A' = some w.heap.size) := by
  have hxl := hown.len
  have hcap := hown.cap
  have hmx : n + k ≤ maxLen := by unfold maxLen; omega
  have hw : IntKind.i64.wrap (k : Int) = k := by rw [IntKind.wrap_i64]; omega
  have hneg : ¬ ((k : Int) < 0) := by omega
  have hbig : ¬ (281474976710656 < (k : Int)) := by omega
  have hlen : (xs ++ bvs (List.replicate k 0)).length = (n + k) * 1 := by rw [List.length_append, hxl, bvs_length, List.length_replicate, Nat.mul_one]
  by_cases h0 : k = 0
  · subst h0
    refine ⟨A, c, w, ?_, by simpa [bvs] using hown, World.grownBy.refl _ _, .inl rfl⟩
    have hc := hcap.1
    have hw0 : IntKind.i64.wrap 0 = 0 := rfl
    cases A <;> simp [Builtin.append_, run_underlying ht, run_underlying htn, sizeOf, typeInfo, hi, hsize, hby, asInt, asIntOf, hw0, hc, storeCells]
  · by_cases hroom : n + k ≤ c
    · rcases hown.2 with ⟨h1, h2⟩ | ⟨g, cap, cur, h1, hbg, hg, hnc, hcm, hcs, htake⟩
      · injection h1 with _ _ h3; omega
      · injection h1 with h1 _ h3
        subst h1; subst h3
        have hcs' : cur.size = c := by simpa using hcs
        have hst := run_storeCells_at P g n e (bvs (List.replicate k 0)) 0 cur w hg (by simp; omega) (bvs_one _)
        simp only [Nat.add_zero, bvs_length, List.length_replicate] at hst
        have hzc : (Builtin.zeroCells #[Value.int IntKind.u8 0] k).toList = bvs (List.replicate k 0) := by
          have := zeroCells_u8 k
          simp only [Value.cells] at this
          rw [this]
        refine ⟨some ⟨g, 0, none⟩, c, w.setRow g (cur.toList.take n ++ bvs (List.replicate k 0) ++ cur.toList.drop (n + k)).toArray, ?_, ⟨hlen, .inr ⟨g, c, _, rfl, hbg, setRow_heap w g cur _ e _ hg, hroom, hcm, ?_, ?_⟩⟩, ⟨rfl, rfl, rfl, by simp, fun j _ hj => setRow_other w g j _ (fun e => hj (by simp [ab, e]))⟩, .inl rfl⟩
        · simp [Builtin.append_, run_underlying ht, run_underlying htn, sizeOf, typeInfo, zeroValue, hi, hsize, hby, hz, asInt, asIntOf, hw, hneg, hbig, h0, hroom, Addr.add_lit, Value.cells, hzc, hst]
        · simp only [List.size_toArray, List.length_append, List.length_take, List.length_drop, Array.length_toList, bvs_length, List.length_replicate]
          omega
        · have ht' : cur.toList.take n = xs := by simpa using htake
          rw [ht', ← hlen]
          exact List.take_left
    · have hfo : (Builtin.firstCells i.size n (.slice A n c)).run P w.drew = .ok xs.toArray w.drew := by
        rcases hown.2 with ⟨h1, h2⟩ | ⟨g, cap, cur, h1, hbg, hg, hnc, hcm, hcs, htake⟩
        · injection h1 with h1 _ _
          subst h1
          have : xs = [] := List.eq_nil_of_length_eq_zero (by rw [hxl]; exact h2)
          subst this
          simp [Builtin.firstCells]
        · have holds : ∀ j u, xs[j]? = some u → w.cell? ((⟨g, 0, none⟩ : Addr).add j) = some u := World.ownsRow.cells (g := g) hown (by injection h1 with h1; rw [h1]; rfl)
          injection h1 with h1 _ _
          subst h1
          exact run_firstCells_some (P := P) w.drew i.size n ⟨g, 0, none⟩ n c xs (by rw [hsize, hxl, Nat.mul_one]) (by simpa using holds)
      have hr := Lib.run_append_grow_zeros (P := P) w t tn ty e i (.int .u8 0) kq kn ht htn hi hz A n c xs hfo k (by omega) (by rw [hsize]; decide) (by omega) (by omega) (by rw [hby]; omega) (by rw [hby]; exact growslice_fits (by omega) (by omega))
      have hge := grownCap_ge w (n + k) c e
      have hcm : grownCap w (n + k) c e ≤ maxLen := grownCap_le_maxLen w (n + k) c e hmx
      refine ⟨_, _, _, hr, ⟨hlen, .inr ⟨w.heap.size, _, _, rfl, Nat.zero_le _, heap_alloc_new w.drew _, hge, hcm, ?_, ?_⟩⟩, ⟨rfl, rfl, rfl, by simp, fun _ hj _ => heap_alloc_old w.drew _ hj⟩, .inr rfl⟩
      · have hz1 : (Value.int IntKind.u8 0).cells.size = 1 := rfl
        simp only [Array.size_append, List.size_toArray, size_zeroCells, hz1, hxl]
        omega
      · rw [zeroCells_u8 k]
        simp only [Array.toList_append, List.append_assoc]
        rw [← List.append_assoc, ← hlen]
        exact List.take_left

theorem step_appZero {P : Program} {ops : Array Oper} {o : Oper} {a : Act} {w : World} {K : Act → World → Prop} {Q : Exit → Act → World → Prop} {E : Prop} (hw : Region.wanted o (yielded ops a.tmps) = true) (s x : Operand) (t tn : TypeId)
    (ho : o.op = .call { callee := .builtin .append, args := #[s, x], argTypes := #[t, tn] })
    (e : TypeId) (i : TypeInfo) (kq kn : IntKind) (ht : P.underlying t = some (.slice e)) (htn : P.underlying tn = some (.int kn)) (hi : P.info? e = some i) (hz : i.zero = some (.int .u8 0))
    (hsize : i.size = 1) (hby : i.bytes = 1) (A : Option Addr) (n c : Nat) (xs : List Value) (hs : a.eval s = .slice A n c) (hown : Own e w A n c xs) (k : Nat) (hx : a.eval x = .int kq k) (h63 : n + k ≤ 140737488355328)
    (h : ∀ A' c' w', Own e w' A' (n + k) c' (xs ++ bvs (List.replicate k 0)) → w.grownBy w' (ab A) → (ab A' = ab A ∨ ab A' = some w.heap.size) → K (a.put o.dst (.slice A' (n + k) c')) w') : if Region.wanted o (yielded ops a.tmps) = true then Oper.wp P o a w K Q else E := by
  obtain ⟨A', c', w', hr, h2, h3, h4⟩ := run_appZero (P := P) w t tn o.type e i kq kn ht htn hi hz hsize hby A n c xs hown k h63
  exact step_append hw s x t tn ho _ _ hs hx _ w' hr (h A' c' w' h2 h3 h4)
end Go.Proofs.YtbainiblffcjgaaDoor.Kit
namespace Go.Proofs.YtbainiblffcjgaaDoor.Kit
set_option linter.unusedVariables false
set_option linter.unusedSimpArgs false
open Go Go.RowKit

theorem wpList_appZero {P : Program} (w : World) {ops : Array Oper} {rest : List Oper} {o : Oper} {a : Act} {Q : Exit → Act → World → Prop} (hgd : o.guard = none) (s x : Operand) (t tn : TypeId)
    (ho : o.op = .call { callee := .builtin .append, args := #[s, x], argTypes := #[t, tn] })
    (e : TypeId) (i : TypeInfo) (kq kn : IntKind) (ht : P.underlying t = some (.slice e)) (htn : P.underlying tn = some (.int kn)) (hi : P.info? e = some i) (hz : i.zero = some (.int .u8 0))
    (hsize : i.size = 1) (hby : i.bytes = 1) (A : Option Addr) (n c : Nat) (xs : List Value) (hs : a.eval s = .slice A n c) (hown : Own e w A n c xs) (k : Nat) (hx : a.eval x = .int kq k) (h63 : n + k ≤ 140737488355328)
    (h : ∀ A' c' w', Own e w' A' (n + k) c' (xs ++ bvs (List.replicate k 0)) → w.grownBy w' (ab A) → (ab A' = ab A ∨ ab A' = some w.heap.size) → wpList P ops Q rest (a.put o.dst (.slice A' (n + k) c')) w') : wpList P ops Q (o :: rest) a w := by
  refine wpList_plain hgd fun _ hK => ?_
  obtain ⟨A', c', w', hr, h2, h3, h4⟩ := run_appZero (P := P) w t tn o.type e i kq kn ht htn hi hz hsize hby A n c xs hown k h63
  unfold Oper.wp execOp
  simp only [ho, resolve, invoke, builtin, Sem.run_bind, Sem.run_pure, Result.andThen_ok, List.map_toArray, List.map_cons, List.map_nil, hs, hx, hr]
  exact hK _ _ (h A' c' w' h2 h3 h4)
/-- Cut to nothing. -/
theorem Own.zero {e : TypeId} {w : World} {A : Option Addr} {n c : Nat} {xs : List Value} (h : Own e w A n c xs) : Own e w A 0 c [] := by
  refine ⟨rfl, ?_⟩
  rcases h.2 with ⟨h1, h2⟩ | ⟨g, cap, cur, h1, h0, hg, hnc, hcm, hcs, ht⟩
  · injection h1 with h1 _ h3
    exact .inl ⟨by rw [h1, h3], rfl⟩
  · injection h1 with h1 _ h3
    exact .inr ⟨g, cap, cur, by rw [h1, h3], h0, hg, Nat.zero_le _, hcm, hcs, by simp⟩
/-- A row in a block known whole, from the block's beginning. -/
theorem Own.none_ {e : TypeId} {w : World} {A : Option Addr} {n c : Nat} {xs : List Value} (h : Own e w A n c xs) : A = none → c = 0 := by
  intro hA
  rcases h.2 with ⟨h1, h2⟩ | ⟨g, cap, cur, h1, _⟩
  · injection h1
  · injection h1 with h1; rw [hA] at h1; cases h1
end Go.Proofs.YtbainiblffcjgaaDoor.Kit
namespace Go.Proofs.YtbainiblffcjgaaDoor.Kit
set_option linter.unusedVariables false
set_option linter.unusedSimpArgs false
open Go Go.RowKit
theorem wpList_copyS_blk {P : Program} {w : World} {ops : Array Oper} {rest : List Oper} {o : Oper} {a : Act} {Q : Exit → Act → World → Prop} (hgd : o.guard = none) (d s : Operand) (dT sT : TypeId)
    (ho : o.op = .call { callee := .builtin .copy, args := #[d, s], argTypes := #[dT, sT] }) (elem : TypeId) (hu : P.underlying dT = some (.slice elem)) (hsz : (P.info? elem).map (·.size) = some 1)
    (g : Nat) (dLen dCap : Nat) (str : ByteArray) (hd : a.eval d = .slice (some ⟨g, 0, none⟩) dLen dCap) (hs : a.eval s = .string str)
    (cur : List Value) (t : TypeId) (hg : Blk w g t cur) (hfit : dLen ≤ cur.length)
    (h : ∀ w', Blk w' g t (bvs ((sl str).take dLen) ++ cur.drop (min str.size dLen)) → Kp (oneB g) w w' → w'.heap.size = w.heap.size → wpList P ops Q rest (a.put o.dst (goInt (min str.size dLen))) w') : wpList P ops Q (o :: rest) a w := by
  refine wpList_plain hgd fun K hK => ?_
  have hl : (bvs ((sl str).take dLen)).length = min str.size dLen := by rw [bvs_length, List.length_take, sl_length, Nat.min_comm]
  have hst := run_storeCells_at P g 0 t (bvs ((sl str).take dLen)) 0 cur.toArray w hg (by rw [hl]; simp; omega) (bvs_one _)
  simp only [Nat.add_zero, hl] at hst
  have htk : List.take (min str.size dLen) (List.map (fun b : UInt8 => Value.int IntKind.u8 (b.toNat : Int)) str.data.toList) = bvs ((sl str).take dLen) := by
    rw [← List.map_take]
    show bvs _ = bvs _
    congr 1
    show (sl str).take (min str.size dLen) = (sl str).take dLen
    by_cases h1 : str.size ≤ dLen
    · rw [Nat.min_eq_left h1, List.take_of_length_le (by rw [sl_length]; exact Nat.le_refl _), List.take_of_length_le (by rw [sl_length]; exact h1)]
    · rw [Nat.min_eq_right (by omega)]
  have hrun : (Builtin.copy_ #[dT, sT] o.type #[.slice (some ⟨g, 0, none⟩) dLen dCap, .string str]).run P w = .ok (goInt (min str.size dLen)) (w.setRow g (bvs ((sl str).take dLen) ++ cur.drop (min str.size dLen)).toArray) := by
    cases hq : P.info? elem with
    | none => simp [hq] at hsz
    | some i =>
      have hm : Nat.min str.size dLen = min str.size dLen := rfl
      simp [Builtin.copy_, run_underlying hu, Builtin.lenOf, Builtin.firstCells, sizeOf, typeInfo, hq, hm]
      rw [htk, hst]
      simp [Result.andThen]
      congr 1
      omega
  unfold Oper.wp
  simp [execOp, ho, resolve, invoke, builtin, hd, hs, hrun, Result.andThen]
  exact hK _ _ (h _ (show _ = _ from setRow_heap w g _ _ t _ hg) (setRow_kp _ _ _) (by simp [World.setRow]))
end Go.Proofs.YtbainiblffcjgaaDoor.Kit
namespace Go.Proofs.YtbainiblffcjgaaDoor.Kit
set_option linter.unusedVariables false
set_option linter.unusedSimpArgs false
open Go Go.RowKit
/-- A whole value loaded. -/
theorem wpStill_load {P : Program} {ops : Array Oper} {w : World} {Q : Act → Prop} {a : Act} {o : Oper} {rest : List Oper} (hgd : o.guard = none) (ty : TypeId) (x : Operand) (ho : o.op = .load ty x) (p v : Value) (hx : a.eval x = p)
    (hr : (Instr.loadAt ty p).run P w = .ok v w) (h : wpStill P ops w Q rest (a.put o.dst v)) : wpStill P ops w Q (o :: rest) a :=
  wpStill_step fun K hK => by
    rw [if_pos (by simp [Region.wanted, hgd])]
    have e : (execOp a.eval o).run P w = .ok (.value v) w := by
      unfold execOp
      simp only [ho, hx, Sem.run_bind, hr, Result.andThen_ok, Sem.run_pure]
    unfold Oper.still
    rw [e, Oper.stillUpon_value]
    exact hK _ h
end Go.Proofs.YtbainiblffcjgaaDoor.Kit
namespace Go.Proofs.YtbainiblffcjgaaDoor.Sha
set_option linter.unusedVariables false
set_option linter.unusedSimpArgs false
open Go Go.RowKit Kit

/-- The elements of a slice of slices of bytes. -/
structure Pc where
  A : Option Addr
  n : Nat
  c : Nat
  l : List UInt8
def Pc.v (p : Pc) : Value := .slice p.A p.n p.c
/-- Each reads its bytes, and has no block of F. -/
def PcsOk (w : World) (F : Nat → Prop) (ps : List Pc) : Prop := ∀ p ∈ ps, p.l.length = p.n ∧ Row w p.A (bvs p.l) ∧ (p.l = [] ∨ ∀ k, ab p.A = some k → ¬ F k) ∧ p.n ≤ p.c ∧ p.c ≤ maxLen
theorem PcsOk.keep {F G : Nat → Prop} {w w' : World} {ps : List Pc} (h : PcsOk w F ps) (hk : Kp G w w') (hG : ∀ k, G k → F k) : PcsOk w' F ps := fun p hp => by
  obtain ⟨h1, h2, h3, h4, h5⟩ := h p hp
  refine ⟨h1, ?_, h3, h4, h5⟩
  rcases h3 with h3 | h3
  · rw [h3]; exact Row.nil _ _
  · exact h2.keep hk (fun k e e' => h3 k e (hG k e'))
theorem PcsOk.mono {F G : Nat → Prop} {w : World} {ps : List Pc} (h : PcsOk w F ps) (hG : ∀ k, G k → F k) : PcsOk w G ps := fun p hp => by
  obtain ⟨h1, h2, h3, h4, h5⟩ := h p hp
  exact ⟨h1, h2, h3.imp_right (fun h k e e' => h k e (hG k e')), h4, h5⟩
/-- What reads nothing new has no new block. -/
theorem PcsOk.old {w : World} {ps : List Pc} (h : PcsOk w nob ps) (F : Nat → Prop) (hF : ∀ k, F k → w.heap.size ≤ k) : PcsOk w F ps := fun p hp => by
  obtain ⟨h1, h2, h3, h4, h5⟩ := h p hp
  refine ⟨h1, h2, ?_, h4, h5⟩
  by_cases hl : p.l = []
  · exact .inl hl
  · exact .inr (fun k e e' => by have := h2.lt (by simpa [bvs] using hl) k e; have := hF k e'; omega)
theorem PcsOk.keep0 {w w' : World} {ps : List Pc} (h : PcsOk w nob ps) (hk : Kp nob w w') : PcsOk w' nob ps := h.keep hk (fun _ e => e)
def catP (ps : List Pc) : List UInt8 := ps.flatMap (·.l)
theorem catP_snoc (ps : List Pc) (k : Nat) (h : k < ps.length) : catP (ps.take (k + 1)) = catP (ps.take k) ++ ps[k].l := by
  unfold catP
  rw [List.take_add_one, List.getElem?_eq_getElem h, List.flatMap_append]; simp only [Option.toList_some, List.flatMap_cons, List.flatMap_nil, List.append_nil]
theorem catP_le (ps : List Pc) (k : Nat) : (catP (ps.take k)).length ≤ (catP ps).length := by
  unfold catP
  conv => rhs; rw [← List.take_append_drop k ps, List.flatMap_append, List.length_append]
  omega

theorem row_marked (w : World) (xs : List Value) (t : TypeId) (fr : Nat × Nat) : Row (w.alloc (.cells xs.toArray t fr)) (some ⟨w.heap.size, 0, none⟩) xs := by
  refine .inr ⟨w.heap.size, 0, rfl, by simp, fun i u hu => ?_⟩
  have h : (w.alloc (.cells xs.toArray t fr)).heap[w.heap.size]? = some (.cells xs.toArray t fr) := heap_alloc_new w _
  simp only [World.cell?, h, Nat.zero_add]
  simpa using hu
theorem pcs_one {w : World} {F : Nat → Prop} {p : Pc} (h1 : p.l.length = p.n) (h2 : Row w p.A (bvs p.l)) (h3 : p.l = [] ∨ ∀ k, ab p.A = some k → ¬ F k) (h4 : p.n ≤ p.c) (h5 : p.c ≤ maxLen) : PcsOk w F [p] := by
  intro q hq
  obtain rfl := List.mem_singleton.1 hq
  exact ⟨h1, h2, h3, h4, h5⟩
theorem pcs_nil (w : World) (F : Nat → Prop) : PcsOk w F [] := fun p hp => by cases hp
theorem pcs_more {w : World} {F : Nat → Prop} {p : Pc} {ps : List Pc} (h : PcsOk w F [p]) (hs : PcsOk w F ps) : PcsOk w F (p :: ps) := by
  intro q hq
  rcases List.mem_cons.1 hq with rfl | hq
  · exact h q (by simp)
  · exact hs q hq
theorem catP_nil : catP [] = [] := rfl
theorem catP_one (p : Pc) : catP [p] = p.l := by simp [catP]
theorem catP_two (p q : Pc) : catP [p, q] = p.l ++ q.l := by simp [catP]
end Go.Proofs.YtbainiblffcjgaaDoor.Sha
namespace Go.Proofs.YtbainiblffcjgaaDoor.Kit
set_option linter.unusedVariables false
set_option linter.unusedSimpArgs false
open Go Go.RowKit
theorem reg_start {P : Program} {ops : Array Oper} {Q : Exit → Act → World → Prop} {id : Nat} {a : Act} {w : World} (S : World → Prop) (hm : P.follows .mixedOrders = true) (hS : S w.drew)
    (h : ∀ w', S w' → wpAnyH P .any ops (NoPanic Q) S ops.size (Array.replicate ops.size false) a w') : (Code.region id ops true).wp P Q a w :=
  reg_begin S hm hS (fun h1 => h _ h1)
end Go.Proofs.YtbainiblffcjgaaDoor.Kit
