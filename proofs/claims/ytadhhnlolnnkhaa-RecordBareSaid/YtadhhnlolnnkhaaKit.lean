/- Small words and laws for worlds: rows of one-cell elements that a slice reads, rows that the call owns, what a call keeps; append onto an owned row, bytes to string, string to bytes. No program is named here. -/
import Derived.WalkKit
import Derived.WalkSpells
import Derived.WalkLawsBesides
import Derived.Maps.AppendAt
import Derived.Deep.AppendLies
import Derived.Lib.AppendStr
import Derived.Lib.LazyBuf
import Derived.Lib.Hide
import Derived.SizedLaws
import Derived.Laws.IdiomStrings
namespace Go.Proofs.Ytadhhnlolnnkhaa.Kit
set_option linter.unusedVariables false
set_option linter.unusedSimpArgs false
open Go Go.RowKit

/-- A byte as a cell, bytes as cells. -/
def bv (b : UInt8) : Value := .int .u8 (b.toNat : Int)
def bvs (l : List UInt8) : List Value := l.map bv
@[simp] theorem bvs_length (l : List UInt8) : (bvs l).length = l.length := by simp [bvs]
theorem bvs_append (l m : List UInt8) : bvs (l ++ m) = bvs l ++ bvs m := by simp [bvs]
theorem bvs_one (l : List UInt8) : ∀ u ∈ bvs l, u.oneCell' = true := by
  intro u hu; simp only [bvs, List.mem_map] at hu; obtain ⟨b, _, rfl⟩ := hu; rfl
theorem bvs_get {l : List UInt8} {i : Nat} (h : i < l.length) : (bvs l)[i]? = some (bv l[i]) := by simp [bvs, h]

theorem bv_ofNat (x : Nat) : bv (UInt8.ofNat x) = .int .u8 ((x : Int) % 256) := by simp [bv]

/-- What a call keeps: all blocks that were there but those of F are as they were. -/
structure Kp (F : Nat → Prop) (w w' : World) : Prop where
  os : w'.os = w.os
  tape : w'.tape = w.tape
  output : w'.output = w.output
  size : w.heap.size ≤ w'.heap.size
  block : ∀ k, k < w.heap.size → ¬ F k → w'.heap[k]? = w.heap[k]?

def nob : Nat → Prop := fun _ => False

theorem Kp.refl (F : Nat → Prop) (w : World) : Kp F w w := ⟨rfl, rfl, rfl, Nat.le_refl _, fun _ _ _ => rfl⟩
theorem Kp.trans {F G : Nat → Prop} {a b c : World} (h : Kp F a b) (k : Kp G b c) (hg : ∀ i, G i → F i ∨ a.heap.size ≤ i) : Kp F a c :=
  ⟨k.os.trans h.os, k.tape.trans h.tape, k.output.trans h.output, Nat.le_trans h.size k.size,
   fun i hi hf => (k.block i (Nat.lt_of_lt_of_le hi h.size) (fun e => (hg i e).elim hf (fun h => by omega))).trans (h.block i hi hf)⟩
theorem Kp.mono {F G : Nat → Prop} {a b : World} (h : Kp F a b) (hg : ∀ i, i < a.heap.size → F i → G i) : Kp G a b :=
  ⟨h.os, h.tape, h.output, h.size, fun i hi hf => h.block i hi (fun e => hf (hg i hi e))⟩
theorem Kp.drew {F : Nat → Prop} {a b : World} (h : Kp F a b) : Kp F a b.drew := ⟨h.os, h.tape, h.output, h.size, h.block⟩
theorem Kp.drewN {F : Nat → Prop} {a b : World} (h : Kp F a b) (n : Nat) : Kp F a (b.drewN n) := ⟨h.os, h.tape, h.output, h.size, h.block⟩
theorem Kp.alloc {F : Nat → Prop} {a b : World} (h : Kp F a b) (o : Obj) : Kp F a (b.alloc o) :=
  ⟨h.os, h.tape, h.output, Nat.le_trans h.size (by simp), fun k hk hf => (Below.heap_alloc b o k (Nat.lt_of_lt_of_le hk h.size)).trans (h.block k hk hf)⟩
theorem Kp.setCell {F : Nat → Prop} {a b : World} (h : Kp F a b) {p : Addr} (hp : F p.block ∨ a.heap.size ≤ p.block) (u : Value) : Kp F a (b.setCell p u) :=
  ⟨h.os, h.tape, h.output, Nat.le_trans h.size (by simp [World.setCell]), fun k hk hf => (Below.heap_setCell b p u k (fun e => by subst e; rcases hp with hp | hp; exact hf hp; omega)).trans (h.block k hk hf)⟩
theorem Kp.grown {F : Nat → Prop} {a b c : World} (h : Kp F a b) {row : Option Nat} (hg : b.grownBy c row) (hr : ∀ k, row = some k → F k ∨ a.heap.size ≤ k) : Kp F a c :=
  ⟨hg.os.trans h.os, hg.tape.trans h.tape, hg.output.trans h.output, Nat.le_trans h.size hg.size,
   fun k hk hf => (hg.block k (Nat.lt_of_lt_of_le hk h.size) (fun e => (hr k e.symm).elim hf (fun h => by omega))).trans (h.block k hk hf)⟩
theorem Kp.below {B : Nat} {w w' : World} {F : Nat → Prop} (h : Kp F w w') (hF : ∀ k, F k → B ≤ k) (hB : B ≤ w.heap.size) : Below B w w' :=
  ⟨h.os, h.tape, h.output, h.size, fun k hk => h.block k (by omega) (fun e => by have := hF k e; omega)⟩
theorem Kp.of_below {w w' : World} (h : Below w.heap.size w w') : Kp nob w w' :=
  ⟨h.os, h.tape, h.output, h.size, fun k hk _ => h.block k hk⟩
theorem Kp.nob {w w' : World} (h : Kp nob w w') (F : Nat → Prop) : Kp F w w' := h.mono (fun _ _ e => e.elim)
theorem Kp.to_below {w w' : World} (h : Kp Kit.nob w w') : Below w.heap.size w w' := h.below (fun _ e => e.elim) (Nat.le_refl _)
theorem Kp.cell {F : Nat → Prop} {w w' : World} (h : Kp F w w') {p : Addr} (hp : p.block < w.heap.size) (hf : ¬ F p.block) : w'.cell? p = w.cell? p := World.cell?_of_block (h.block _ hp hf)
theorem Kp.frozen {F : Nat → Prop} {w w' : World} (h : Kp F w w') {p : Addr} (hp : p.block < w.heap.size) (hf : ¬ F p.block) : w'.frozen? p = w.frozen? p := World.frozen?_of_block (h.block _ hp hf)

/-- The block of a slice's address. -/
def ab : Option Addr → Option Nat
  | some a => some a.block
  | none => none
theorem ab_own (A : Option Addr) (n c : Nat) : (Value.slice A n c).ownBlock = ab A := by cases A <;> rfl

/-- The slice '.slice A xs.length c' reads the cells xs. -/
def Row (w : World) (A : Option Addr) (xs : List Value) : Prop :=
  xs = [] ∨ ∃ b o, A = some ⟨b, o, none⟩ ∧ b < w.heap.size ∧ ∀ i u, xs[i]? = some u → w.cell? ⟨b, o + i, none⟩ = some u

theorem Row.nil (w : World) (A : Option Addr) : Row w A [] := .inl rfl
theorem Row.keep {F : Nat → Prop} {w w' : World} {A : Option Addr} {xs : List Value} (h : Row w A xs) (hk : Kp F w w') (hf : ∀ k, ab A = some k → ¬ F k) : Row w' A xs := by
  rcases h with rfl | ⟨b, o, rfl, hb, hc⟩
  · exact .inl rfl
  · exact .inr ⟨b, o, rfl, Nat.lt_of_lt_of_le hb hk.size, fun i u hu => (hk.cell (p := ⟨b, o + i, none⟩) hb (hf b rfl)).trans (hc i u hu)⟩
theorem Row.keep0 {w w' : World} {A : Option Addr} {xs : List Value} (h : Row w A xs) (hk : Kp Kit.nob w w') : Row w' A xs := h.keep hk (fun _ _ e => e)
theorem Row.lt {w : World} {A : Option Addr} {xs : List Value} (h : Row w A xs) (hx : xs ≠ []) : ∀ k, ab A = some k → k < w.heap.size := by
  rcases h with rfl | ⟨b, o, rfl, hb, _⟩
  · exact absurd rfl hx
  · intro k hk; cases hk; exact hb
theorem Row.at_ {w : World} {A : Option Addr} {xs : List Value} (h : Row w A xs) {i : Nat} (hi : i < xs.length) : ∃ b o, A = some ⟨b, o, none⟩ ∧ b < w.heap.size ∧ w.cell? ⟨b, o + i, none⟩ = some xs[i] := by
  rcases h with rfl | ⟨b, o, rfl, hb, hc⟩
  · simp at hi
  · exact ⟨b, o, rfl, hb, hc i _ (List.getElem?_eq_getElem hi)⟩
theorem Row.drop {w : World} {A : Option Addr} {xs : List Value} (h : Row w A xs) (k : Nat) : Row w (A.map (·.add k)) (xs.drop k) := by
  rcases h with rfl | ⟨b, o, rfl, hb, hc⟩
  · exact .inl (by simp)
  · refine .inr ⟨b, o + k, ?_, hb, fun i u hu => ?_⟩
    · by_cases hk : k = 0 <;> simp [Addr.add, hk]
    · rw [List.getElem?_drop] at hu
      have := hc (k + i) u hu
      rwa [← Nat.add_assoc] at this
theorem Row.take {w : World} {A : Option Addr} {xs : List Value} (h : Row w A xs) (k : Nat) : Row w A (xs.take k) := by
  rcases h with rfl | ⟨b, o, rfl, hb, hc⟩
  · exact .inl (by simp)
  · refine .inr ⟨b, o, rfl, hb, fun i u hu => ?_⟩
    rw [List.getElem?_take] at hu
    split at hu
    · exact hc i u hu
    · cases hu

/-- The slice '.slice A n c' of elements of type e owns the cells xs. -/
def Own (e : TypeId) (w : World) (A : Option Addr) (n c : Nat) (xs : List Value) : Prop := w.ownsRow 0 e 1 (.slice A n c) n xs

theorem Own.len {e : TypeId} {w : World} {A : Option Addr} {n c : Nat} {xs : List Value} (h : Own e w A n c xs) : xs.length = n := by simpa using h.1
theorem Own.nil (e : TypeId) (w : World) : Own e w none 0 0 [] := World.ownsRow_nil w 0 e 1
theorem Own.row {e : TypeId} {w : World} {A : Option Addr} {n c : Nat} {xs : List Value} (h : Own e w A n c xs) : Row w A xs := by
  rcases h.2 with ⟨h1, h2⟩ | ⟨g, cap, cur, h1, _, hg, hnc, hcm, hcs, ht⟩
  · exact .inl (List.eq_nil_of_length_eq_zero (by rw [h.len]; exact h2))
  · cases h1
    refine .inr ⟨g, 0, rfl, ?_, fun i u hu => ?_⟩
    · rcases Nat.lt_or_ge g w.heap.size with hlt | hge
      · exact hlt
      · rw [Array.getElem?_eq_none hge] at hg; cases hg
    · have := h.cells (g := g) rfl i u hu
      by_cases hi : i = 0 <;> simpa [Addr.add, hi] using this
theorem Own.lt {e : TypeId} {w : World} {A : Option Addr} {n c : Nat} {xs : List Value} (h : Own e w A n c xs) : ∀ k, ab A = some k → k < w.heap.size :=
  fun k hk => (World.ownsRow.lt h k (by rw [ab_own]; exact hk)).2
theorem Own.keep {e : TypeId} {F : Nat → Prop} {w w' : World} {A : Option Addr} {n c : Nat} {xs : List Value} (h : Own e w A n c xs) (hk : Kp F w w') (hf : ∀ k, ab A = some k → ¬ F k) : Own e w' A n c xs := by
  refine ⟨h.1, ?_⟩
  rcases h.2 with h1 | ⟨g, cap, cur, h1, h0, hg, r⟩
  · exact .inl h1
  · refine .inr ⟨g, cap, cur, h1, h0, ?_, r⟩
    have hA : A = some ⟨g, 0, none⟩ := by injection h1
    rw [hk.block g (h.lt g (by rw [hA]; rfl)) (hf g (by rw [hA]; rfl))]
    exact hg
theorem Own.alloc {e : TypeId} {w : World} {A : Option Addr} {n c : Nat} {xs : List Value} (h : Own e w A n c xs) (o : Obj) : Own e (w.alloc o) A n c xs := h.keep ((Kp.refl Kit.nob w).alloc o) (fun _ _ e => e)
theorem Row.alloc {w : World} {A : Option Addr} {xs : List Value} (h : Row w A xs) (o : Obj) : Row (w.alloc o) A xs := h.keep ((Kp.refl Kit.nob w).alloc o) (fun _ _ e => e)
theorem Own.cap {e : TypeId} {w : World} {A : Option Addr} {n c : Nat} {xs : List Value} (h : Own e w A n c xs) : n ≤ c ∧ c ≤ maxLen := by
  rcases h.2 with ⟨h1, h2⟩ | ⟨g, cap, cur, h1, _, hg, hnc, hcm, hcs, ht⟩
  · injection h1 with _ _ h3; subst h3; subst h2; exact ⟨Nat.le_refl _, by simp [maxLen]⟩
  · injection h1 with _ _ h3; subst h3; exact ⟨hnc, hcm⟩
/-- A cell of an owned row may be written. -/
theorem Own.frozen {e : TypeId} {w : World} {A : Option Addr} {n c : Nat} {xs : List Value} (h : Own e w A n c xs) {a : Addr} (ha : A = some a) (j : Nat) : w.frozen? ⟨a.block, j, none⟩ = false := by
  rcases h.2 with ⟨h1, h2⟩ | ⟨g, cap, cur, h1, _, hg, hnc, hcm, hcs, ht⟩
  · rw [ha] at h1; injection h1 with h1; cases h1
  · rw [ha] at h1; injection h1 with h1; injection h1 with h1; subst h1
    simp [World.frozen?, hg]

theorem Own.at_ {e : TypeId} {w : World} {A : Option Addr} {n c : Nat} {xs : List Value} (h : Own e w A n c xs) {i : Nat} (hi : i < n) :
    ∃ b, A = some ⟨b, 0, none⟩ ∧ b < w.heap.size ∧ w.cell? ⟨b, i, none⟩ = some (xs[i]'(by rw [h.len]; exact hi)) ∧ w.frozen? ⟨b, i, none⟩ = false ∧ ∀ u, Own e (w.setCell ⟨b, i, none⟩ u) A n c (xs.set i u) := by
  obtain ⟨b, o, hA, hb, hc⟩ := h.row.at_ (i := i) (by rw [h.len]; exact hi)
  have hf := h.frozen hA i
  rcases h.2 with ⟨h1, _⟩ | ⟨g, cap, cur, h1, _⟩
  · rw [hA] at h1; injection h1 with h1; cases h1
  · rw [hA] at h1; injection h1 with h1; injection h1 with h1; injection h1 with h1 h2
    subst h2
    refine ⟨b, hA, hb, by simpa using hc, hf, fun u => ?_⟩
    subst hA
    have := (World.ownsRow.stored (w := w) h i u).1
    simpa [Own] using this

theorem Own.set {e : TypeId} {w : World} {b n c : Nat} {xs : List Value} (h : Own e w (some ⟨b, 0, none⟩) n c xs) (i : Nat) (u : Value) : Own e (w.setCell ⟨b, i, none⟩ u) (some ⟨b, 0, none⟩) n c (xs.set i u) :=
  (World.ownsRow.stored (w := w) h i u).1
theorem Own.far {e : TypeId} {w : World} {A : Option Addr} {n c : Nat} {xs : List Value} (h : Own e w A n c xs) (p : Addr) (u : Value) (hp : ∀ k, ab A = some k → k ≠ p.block) : Own e (w.setCell p u) A n c xs :=
  h.keep (F := fun k => k = p.block) ((Kp.refl (fun k => k = p.block) w).setCell (.inl rfl) u) (fun k e e' => hp k e e')
/-- A new block known whole. -/
theorem row_new (w : World) (xs : List Value) (t : TypeId) : Row (w.alloc (.cells xs.toArray t)) (some ⟨w.heap.size, 0, none⟩) xs := by
  refine .inr ⟨w.heap.size, 0, rfl, by simp, fun i u hu => ?_⟩
  rw [World.cell?_alloc_at _ _ _ _ rfl]
  simpa using hu
theorem bvs_set (l : List UInt8) (i x : Nat) : (bvs l).set i (.int .u8 ((x : Int) % 256)) = bvs (l.set i (UInt8.ofNat x)) := by
  rw [← bv_ofNat, bvs, bvs, List.map_set]

/-- APPEND OF A ROW onto an owned row (a nil row, too). -/
theorem wpList_appR {P : Program} (w : World) {ops : Array Oper} {rest : List Oper} {o : Oper} {a : Act} {Q : Exit → Act → World → Prop} (hgd : o.guard = none) (s x : Operand) (t : TypeId)
    (ho : o.op = .call { callee := .builtin .append, args := #[s, x], argTypes := #[t, t] })
    (e : TypeId) (i : TypeInfo) (z : Value) (bytes : Nat) (ht : P.underlying t = some (.slice e)) (hi : P.info? e = some i) (hz : i.zero = some z)
    (hsize : i.size = 1) (hby : i.bytes = bytes) (hzs : z.cells.size = 1)
    (A : Option Addr) (n c : Nat) (xs : List Value) (hs : a.eval s = .slice A n c) (hown : Own e w A n c xs)
    (B : Option Addr) (m d : Nat) (ys : List Value) (hx : a.eval x = .slice B m d) (hB : B = none → d = 0) (hm : ys.length = m) (hrow : Row w B ys) (h1 : ∀ u ∈ ys, u.oneCell' = true)
    (hbytes : (n + m) * bytes ≤ 140737488355328) (h63 : n + m ≤ 140737488355328)
    (h : ∀ A' c' w', Own e w' A' (n + m) c' (xs ++ ys) → w.grownBy w' (ab A) → (ab A' = ab A ∨ ab A' = some w.heap.size) → wpList P ops Q rest (a.put o.dst (.slice A' (n + m) c')) w') : wpList P ops Q (o :: rest) a w := by
  refine wpList_plain hgd fun _ hK => ?_
  have hmx : n + m ≤ maxLen := by unfold maxLen; omega
  have key : ∃ A' c' w', (Builtin.append_ #[t, t] o.type #[.slice A n c, .slice B m d]).run P w = .ok (.slice A' (n + m) c') w' ∧ Own e w' A' (n + m) c' (xs ++ ys) ∧ w.grownBy w' (ab A) ∧ (ab A' = ab A ∨ ab A' = some w.heap.size) := by
    cases B with
    | none =>
      have hd := hB rfl
      have hy : ys = [] := by
        rcases hrow with rfl | ⟨b, o, h, _⟩
        · rfl
        · cases h
      subst hy
      obtain rfl : m = 0 := by simpa using hm.symm
      have hc := hown.cap.1
      refine ⟨A, c, w, ?_, by simpa using hown, World.grownBy.refl _ _, .inl rfl⟩
      cases A <;> simp [Builtin.append_, run_underlying ht, sizeOf, typeInfo, hi, Builtin.lenOf, Builtin.firstCells, hc, storeCells]
    | some ad =>
      have hnews : ∀ j u, ys[j]? = some u → w.cell? (ad.add j) = some u := by
        intro j u hu
        rcases hrow with rfl | ⟨b, o, h, _, hcell⟩
        · simp at hu
        · cases h
          have := hcell j u hu
          by_cases hj : j = 0 <;> simpa [Addr.add, hj] using this
      obtain ⟨v', w', hr, h2, h3, h4, h5⟩ := run_append_own_at (P := P) w 0 t o.type e i z 1 bytes ht hi hz hsize hby hzs (by decide) (.slice A n c) n xs hown ad m d ys (by simpa using hm) hnews h1 hmx hbytes (Nat.zero_le _)
      rw [ab_own] at h3 h5
      have hv : ∃ A' c', v' = .slice A' (n + m) c' := by
        rcases h2.2 with ⟨h6, h7⟩ | ⟨g, cap, _, h6, _⟩
        · exact ⟨none, 0, by rw [h6, h7]⟩
        · exact ⟨_, _, h6⟩
      obtain ⟨A', c', rfl⟩ := hv
      rw [ab_own] at h5
      exact ⟨A', c', w', hr, h2, h3, h5⟩
  obtain ⟨A', c', w', hr, h2, h3, h4⟩ := key
  unfold Oper.wp execOp
  simp only [ho, resolve, invoke, builtin, Sem.run_bind, Sem.run_pure, Result.andThen_ok, List.map_toArray, List.map_cons, List.map_nil, hs, hx, hr]
  exact hK _ _ (h A' c' w' h2 h3 h4)

/-- A string's bytes. -/
def sl (s : ByteArray) : List UInt8 := s.data.toList
@[simp] theorem sl_length (s : ByteArray) : (sl s).length = s.size := by simp [sl]
theorem strCells_bvs (s : ByteArray) : Lib.strCells s = bvs (sl s) := rfl

/-- APPEND OF A STRING's BYTES onto an owned row. -/
theorem wpList_appS {P : Program} (w : World) {ops : Array Oper} {rest : List Oper} {o : Oper} {a : Act} {Q : Exit → Act → World → Prop} (hgd : o.guard = none) (s x : Operand) (t u : TypeId)
    (ho : o.op = .call { callee := .builtin .append, args := #[s, x], argTypes := #[t, u] })
    (e : TypeId) (i : TypeInfo) (ht : P.underlying t = some (.slice e)) (hu : P.underlying u = some .string) (hi : P.info? e = some i) (hz : i.zero = some (.int .u8 0))
    (hsize : i.size = 1) (hby : i.bytes = 1)
    (A : Option Addr) (n c : Nat) (xs : List Value) (hs : a.eval s = .slice A n c) (hown : Own e w A n c xs)
    (str : ByteArray) (hx : a.eval x = .string str)
    (h63 : n + str.size ≤ 140737488355328)
    (h : ∀ A' c' w', Own e w' A' (n + str.size) c' (xs ++ bvs (sl str)) → w.grownBy w' (ab A) → (ab A' = ab A ∨ ab A' = some w.heap.size) → wpList P ops Q rest (a.put o.dst (.slice A' (n + str.size) c')) w') : wpList P ops Q (o :: rest) a w := by
  refine wpList_plain hgd fun _ hK => ?_
  have hmx : n + str.size ≤ maxLen := by unfold maxLen; omega
  have key : ∃ A' c' w', (Builtin.append_ #[t, u] o.type #[.slice A n c, .string str]).run P w = .ok (.slice A' (n + str.size) c') w' ∧ Own e w' A' (n + str.size) c' (xs ++ bvs (sl str)) ∧ w.grownBy w' (ab A) ∧ (ab A' = ab A ∨ ab A' = some w.heap.size) := by
    obtain ⟨v', w', hr, h2, h3, h4⟩ := Lib.run_append_own_string (P := P) w 0 t u o.type e i ht hu hi hz hsize hby (.slice A n c) n xs hown str hmx h63 (Nat.zero_le _)
    rw [ab_own] at h3
    have hv : ∃ A' c', v' = .slice A' (n + str.size) c' := by
      rcases h2.2 with ⟨h6, h7⟩ | ⟨g, cap, _, h6, _⟩
      · exact ⟨none, 0, by rw [h6, h7]⟩
      · exact ⟨_, _, h6⟩
    obtain ⟨A', c', rfl⟩ := hv
    refine ⟨A', c', w', hr, h2, h3, ?_⟩
    rcases hown.2 with ⟨hv, rfl⟩ | ⟨g, cap, cur, hv, hbg, hg, hnc, hcm, hcs, htake⟩
    · injection hv with hA _ hc
      subst hA; subst hc
      by_cases hm : str.size = 0
      · have := h4.2 ⟨rfl, hm⟩
        injection this with h5
        exact .inl (by rw [h5])
      · have hr2 := Go.run_append_nil_string (P := P) w t u o.type e i (.int .u8 0) ht hu hi hz str (by omega) (by omega) (by rw [hby]; omega)
        rw [hr2] at hr
        injection hr with hr _
        injection hr with hr _ _
        exact .inr (by rw [← hr]; rfl)
    · injection hv with hA _ hc
      subst hA; subst hc
      by_cases hroom : n + str.size ≤ c
      · have hcs' : cur.size = c := by simpa using hcs
        have hr2 := Lib.run_append_room_string (P := P) w t u o.type e i ht hu hi hsize g n c cur hg str hroom (by omega)
        rw [hr2] at hr
        injection hr with hr _
        injection hr with hr _ _
        exact .inl (by rw [← hr])
      · have holds : ∀ j u, xs[j]? = some u → w.cell? ((⟨g, 0, none⟩ : Addr).add j) = some u := World.ownsRow.cells (g := g) hown rfl
        have hr2 := Lib.run_append_grow_string (P := P) w t u o.type e i (.int .u8 0) ht hu hi hz ⟨g, 0, none⟩ n c xs (by rw [hsize]; simpa using hown.1) holds str (by omega) (by unfold maxLen at hmx; omega) (by rw [hby]; exact growslice_fits (by omega) (by omega))
        rw [hr2] at hr
        injection hr with hr _
        injection hr with hr _ _
        exact .inr (by rw [← hr]; rfl)
  obtain ⟨A', c', w', hr, h2, h3, h4⟩ := key
  unfold Oper.wp execOp
  simp only [ho, resolve, invoke, builtin, Sem.run_bind, Sem.run_pure, Result.andThen_ok, List.map_toArray, List.map_cons, List.map_nil, hs, hx, hr]
  exact hK _ _ (h A' c' w' h2 h3 h4)

/-- Where a row lies behind an append: where it lay, or in a block that was made since. -/
def Grew (A A' : Option Addr) (B : Nat) : Prop := ab A' = ab A ∨ ∃ k, ab A' = some k ∧ B ≤ k
theorem Grew.refl (A : Option Addr) (B : Nat) : Grew A A B := .inl rfl
theorem Grew.trans {A A' A'' : Option Addr} {B B' : Nat} (h : Grew A A' B) (k : Grew A' A'' B') (hB : B ≤ B') : Grew A A'' B := by
  rcases k with k | ⟨i, k, hi⟩
  · rcases h with h | ⟨j, h, hj⟩
    · exact .inl (k.trans h)
    · exact .inr ⟨j, k.trans h, hj⟩
  · exact .inr ⟨i, k, by omega⟩
theorem Grew.of {A A' : Option Addr} {B H : Nat} (h : ab A' = ab A ∨ ab A' = some H) (hB : B ≤ H) : Grew A A' B := by
  rcases h with h | h
  · exact .inl h
  · exact .inr ⟨H, h, hB⟩
theorem Grew.ge {A A' : Option Addr} {B N : Nat} (h : Grew A A' B) (hA : ∀ k, ab A = some k → N ≤ k) (hB : N ≤ B) : ∀ k, ab A' = some k → N ≤ k := by
  intro k hk
  rcases h with h | ⟨j, h, hj⟩
  · exact hA k (by rw [← h]; exact hk)
  · rw [h] at hk; cases hk; omega
theorem Kp.since {F : Nat → Prop} {a b c : World} (h : Kp Kit.nob a b) (k : Kp F b c) (hF : ∀ i, F i → a.heap.size ≤ i) : Kp Kit.nob a c := h.trans k (fun i e => .inr (hF i e))
/-- The blocks of a row. -/
def rowF (A : Option Addr) : Nat → Prop := fun k => ab A = some k
theorem Grew.sub {A A' : Option Addr} {B : Nat} (h : Grew A A' B) : ∀ i, rowF A' i → rowF A i ∨ B ≤ i := by
  intro i hi
  unfold rowF at *
  rcases h with h | ⟨k, h, hk⟩
  · exact .inl (by rw [← h]; exact hi)
  · rw [h] at hi; cases hi; exact .inr hk

/-- A new block of one cell. -/
theorem row_one (w : World) (v : Value) (t : TypeId) : Row (w.alloc (.cells #[v] t)) (some ⟨w.heap.size, 0, none⟩) [v] := by
  refine .inr ⟨w.heap.size, 0, rfl, by simp, fun i u hu => ?_⟩
  match i, hu with
  | 0, hu => simp at hu; subst hu; rw [World.cell?_alloc_at _ _ _ _ rfl]; rfl

/-- A number's lowest bytes, the lowest first. -/
def le : Nat → Nat → List UInt8
  | 0, _ => []
  | k + 1, x => UInt8.ofNat x :: le k (x / 256)
@[simp] theorem le_length (k x : Nat) : (le k x).length = k := by induction k generalizing x <;> simp [le, *]
theorem le_snoc (k x : Nat) : le (k + 1) x = le k x ++ [UInt8.ofNat (x / 256 ^ k)] := by
  induction k generalizing x with
  | zero => simp [le]
  | succ k ih =>
    rw [le, ih, le]
    simp [Nat.div_div_eq_div_mul, Nat.pow_succ, Nat.mul_comm]

/-- The number of which l has the lowest bytes. -/
def lowN : List UInt8 → Nat
  | [] => 0
  | b :: l => b.toNat + 256 * lowN l
theorem lowN_snoc (l : List UInt8) (b : UInt8) : lowN (l ++ [b]) = lowN l + b.toNat * 256 ^ l.length := by
  induction l with
  | nil => simp [lowN]
  | cons a l ih => simp only [List.cons_append, lowN, ih, List.length_cons, Nat.pow_succ]; rw [Nat.mul_add, Nat.mul_comm (256 ^ l.length), ← Nat.mul_assoc, Nat.mul_left_comm, ← Nat.mul_assoc]; omega
theorem lowN_lt (l : List UInt8) : lowN l < 256 ^ l.length := by
  induction l with
  | nil => simp [lowN]
  | cons a l ih => have := a.toNat_lt; simp only [lowN, List.length_cons, Nat.pow_succ]; omega
theorem lowN_le (k x : Nat) : lowN (le k x) = x % 256 ^ k := by
  induction k generalizing x with
  | zero => simp [le, lowN, Nat.mod_one]
  | succ k ih => simp only [le, lowN, ih, Nat.pow_succ]; rw [Nat.mul_comm (256 ^ k) 256, Nat.mod_mul]; simp
theorem le_lowN (l : List UInt8) : le l.length (lowN l) = l := by
  induction l with
  | nil => rfl
  | cons a l ih =>
    simp only [List.length_cons, le, lowN]
    rw [show (a.toNat + 256 * lowN l) / 256 = lowN l by have := a.toNat_lt; omega, ih]
    congr 1
    apply UInt8.toNat_inj.1
    simp

/-- One more byte above those that are there. -/
theorem or_above (a b k : Nat) (ha : a < 2 ^ k) : a ||| (b * 2 ^ k) = a + b * 2 ^ k := by
  rw [Nat.mul_comm b, Nat.or_comm, ← Nat.two_pow_add_eq_or_of_lt ha, Nat.add_comm]
theorem pow256 (k : Nat) : 2 ^ (8 * k) = 256 ^ k := by rw [Nat.pow_mul]
theorem or_u64_above (l : List UInt8) (b : UInt8) (hl : l.length ≤ 7) :
    bits BinOp.or IntKind.u64 (lowN l : Nat) (IntKind.u64.wrap ((b.toNat : Int) * 2 ^ (8 * l.length))) = (lowN (l ++ [b]) : Nat) := by
  have hb := b.toNat_lt
  have hlt := lowN_lt l
  have hp : 256 ^ l.length ≤ 256 ^ 7 := Nat.pow_le_pow_right (by omega) hl
  have hp1 : (256 : Nat) ^ 7 = 72057594037927936 := rfl
  have hbp : b.toNat * 256 ^ l.length ≤ 255 * 256 ^ l.length := Nat.mul_le_mul_right _ (by omega)
  have e : ((b.toNat : Int) * 2 ^ (8 * l.length)) = ((b.toNat * 256 ^ l.length : Nat) : Int) := by
    rw [← pow256]; simp
  rw [e, IntKind.wrap_u64, Int.emod_eq_of_lt (by omega) (by omega), bits_or_u64_nat _ _ (by omega) (by omega), lowN_snoc, ← pow256, or_above _ _ _ (by rw [pow256]; exact hlt)]

/-- Bytes as a string. -/
def str (l : List UInt8) : ByteArray := ⟨l.toArray⟩
@[simp] theorem sl_str (l : List UInt8) : sl (str l) = l := rfl
@[simp] theorem str_sl (s : ByteArray) : str (sl s) = s := rfl
@[simp] theorem str_size (l : List UInt8) : (str l).size = l.length := by rw [← sl_length, sl_str]
theorem str_toList (l : List UInt8) : (str l).toList = l := by rw [ByteArray.toList_eq]; rfl
theorem toList_sl (s : ByteArray) : s.toList = sl s := by rw [ByteArray.toList_eq]; rfl
theorem str_inj {l m : List UInt8} : str l = str m ↔ l = m := ⟨fun h => by have := congrArg sl h; simpa using this, fun h => by rw [h]⟩
theorem fold_push (l : List UInt8) (s : ByteArray) : (l.map fun b => (b.toNat : Int)).foldl (fun r n => r.push (UInt8.ofNat n.toNat)) s = str (sl s ++ l) := by
  induction l generalizing s with
  | nil => simp
  | cons b l ih =>
    simp only [List.map_cons, List.foldl_cons, ih]
    congr 1
    simp [sl, ByteArray.push]
theorem run_bytes_str {P : Program} (w : World) (src dst e : TypeId) (hs : P.underlying src = some (.slice e)) (he : P.underlying e = some (.int .u8)) (hd : P.underlying dst = some .string)
    (A : Option Addr) (n c : Nat) (l : List UInt8) (hn : l.length = n) (hr : Row w A (bvs l)) : (convert src dst (.slice A n c)).run P w = .ok (.string (str l)) w := by
  subst hn
  rw [run_convert_bytes_string w src dst e A _ _ hs he hd]
  cases A with
  | none =>
    have hl : l = [] := by
      rcases hr with h | ⟨b, o, h, _⟩
      · simpa [bvs] using h
      · cases h
    subst hl
    rfl
  | some a =>
    have hload : (loadCells a l.length).run P w = .ok ((l.map fun b => (b.toNat : Int)).map (Value.int .u8)).toArray w := by
      have hm : (l.map fun b => (b.toNat : Int)).map (Value.int .u8) = bvs l := by simp [bvs, bv]
      rw [hm]
      have := run_firstCells_some (P := P) w 1 l.length a l.length 0 (bvs l) (by simp) (fun j u hu => ?_)
      · simpa [Builtin.firstCells] using this
      · rcases hr with h | ⟨b, o, h, _, hc⟩
        · rw [h] at hu; simp at hu
        · cases h
          have := hc j u hu
          by_cases hj : j = 0 <;> simpa [Addr.add, hj] using this
    rw [run_bytesToString w a _ c _ hload, fold_push]
    rfl

/-- A row of byte cells that came in, as the opening of an argument gives it. -/
theorem row_of_ints {W : World} {x : Addr} {len cap : Nat} {zs : List Int} (hl : len ≤ cap) (hz : zs.length = cap) (hcell : ∀ i, i < zs.length → W.cell? (x.add i) = some (.int .u8 (zs.getD i 0)))
    (hw : ∀ n ∈ zs, (Lit.int .u8 n).wf = true) : ∃ l : List UInt8, l.length = len ∧ Row W (some x) (bvs l) := by
  refine ⟨(zs.take len).map fun z => UInt8.ofNat z.toNat, by simp; omega, ?_⟩
  by_cases h0 : len = 0
  · subst h0; exact .inl (by simp [bvs])
  · have hc0 := hcell 0 (by omega)
    obtain ⟨b, o, sp⟩ := x
    cases sp with
    | some j => simp [Addr.add, World.cell?] at hc0; split at hc0 <;> simp at hc0
    | none =>
      refine .inr ⟨b, o, rfl, World.block_lt_of_cell? W _ hc0, fun i u hu => ?_⟩
      simp only [bvs, List.map_map, List.getElem?_map, List.getElem?_take] at hu
      split at hu
      · rename_i hi
        have hiz : i < zs.length := by omega
        rw [List.getElem?_eq_getElem hiz] at hu
        simp at hu
        have := hcell i hiz
        have hg : zs.getD i 0 = zs[i] := by simp [hiz]
        rw [hg] at this
        have hb := hw zs[i] (List.getElem_mem hiz)
        have hr : 0 ≤ zs[i] ∧ zs[i] ≤ 255 := by
          have := hb
          simp [Lit.wf, IntKind.min, IntKind.max, IntKind.signed, IntKind.bits] at this
          omega
        have e : bv (UInt8.ofNat zs[i].toNat) = .int .u8 zs[i] := by rw [bv_ofNat]; congr 1; omega
        rw [← hu, e]
        by_cases hi0 : i = 0 <;> simpa [Addr.add, hi0] using this
      · simp at hu

theorem weightsAll_of {H : Type} {P : Program} {e : TypeId} {d : DataW H} : ∀ {l : List (DataW H)}, d ∈ l → ∀ n ∈ d.weights P e, n ∈ DataW.weightsAll P e l
  | x :: l, hd, n, hn => by
    simp only [DataW.weightsAll, List.mem_append]
    rcases List.mem_cons.1 hd with rfl | hd
    · exact .inl hn
    · exact .inr (weightsAll_of hd n hn)
theorem weights_slice {H : Type} {P : Program} {t e : TypeId} {elems spare : List (DataW H)} {d : DataW H} (hu : P.underlying t = some (.slice e)) (hd : d ∈ elems) : ∀ n ∈ d.weights P e, n ∈ (DataW.slice elems spare).weights P t := by
  intro n hn
  simp only [DataW.weights, hu, List.mem_cons, List.mem_append]
  exact .inr (.inl (weightsAll_of hd n hn))

/-- A string's bytes as a new slice. -/
theorem run_str_bytes {P : Program} (w : World) (src dst e : TypeId) (s : ByteArray) (hs : P.underlying src = some .string) (hd : P.underlying dst = some (.slice e)) (he : P.underlying e = some (.int .u8)) :
    ∃ (c : Nat) (w' : World), (convert src dst (.string s)).run P w = .ok (.slice (some ⟨w.heap.size, 0, none⟩) s.size c) w' ∧ Row w' (some ⟨w.heap.size, 0, none⟩) (bvs (sl s)) ∧ Kp Kit.nob w w' ∧ w'.heap.size = w.heap.size + 1 := by
  refine ⟨_, _, run_bytes_of_string w src dst e s hs hd he, ?_, ?_, by simp⟩
  · refine .inr ⟨w.heap.size, 0, rfl, by simp, fun i u hu => ?_⟩
    have hi : i < (bvs (sl s)).length := by
      rcases Nat.lt_or_ge i (bvs (sl s)).length with h | h
      · exact h
      · rw [List.getElem?_eq_none h] at hu; cases hu
    have h : (w.drew.alloc (.cells (bytesRow s (grownCap w s.size 0 e)) e ((bytesRow s (grownCap w s.size 0 e)).size, (bytesRow s (grownCap w s.size 0 e)).size + 1))).heap[w.heap.size]? = some (.cells (bytesRow s (grownCap w s.size 0 e)) e ((bytesRow s (grownCap w s.size 0 e)).size, (bytesRow s (grownCap w s.size 0 e)).size + 1)) := heap_alloc_new w.drew _
    simp only [World.cell?, h, Nat.zero_add]
    simp only [bvs_length, sl_length] at hi
    have hbr : (bytesRow s (grownCap w s.size 0 e))[i]? = (bvs (sl s))[i]? := by
      unfold bytesRow
      rw [Array.getElem?_append_left (by simpa using hi)]
      simp [bvs, sl]
      rfl
    simp [hbr, hu]
  · exact (Kp.refl _ _).drew.alloc _

/-- A slice of elements of z cells each that owns the cells xs. -/
def OwnZ (e : TypeId) (z : Nat) (w : World) (A : Option Addr) (n c : Nat) (xs : List Value) : Prop := w.ownsRow 0 e z (.slice A n c) n xs
theorem OwnZ.row {e : TypeId} {z : Nat} {w : World} {A : Option Addr} {n c : Nat} {xs : List Value} (h : OwnZ e z w A n c xs) : Row w A xs := by
  rcases h.2 with ⟨h1, h2⟩ | ⟨g, cap, cur, h1, _, hg, hnc, hcm, hcs, ht⟩
  · exact .inl (List.eq_nil_of_length_eq_zero (by rw [h.1, h2, Nat.zero_mul]))
  · cases h1
    refine .inr ⟨g, 0, rfl, ?_, fun i u hu => ?_⟩
    · rcases Nat.lt_or_ge g w.heap.size with hlt | hge
      · exact hlt
      · rw [Array.getElem?_eq_none hge] at hg; cases hg
    · have := World.ownsRow.cells (g := g) h rfl i u hu
      by_cases hi : i = 0 <;> simpa [Addr.add, hi] using this
theorem OwnZ.lt {e : TypeId} {z : Nat} {w : World} {A : Option Addr} {n c : Nat} {xs : List Value} (h : OwnZ e z w A n c xs) : ∀ k, ab A = some k → k < w.heap.size :=
  fun k hk => (World.ownsRow.lt h k (by rw [ab_own]; exact hk)).2
theorem OwnZ.keep {e : TypeId} {z : Nat} {F : Nat → Prop} {w w' : World} {A : Option Addr} {n c : Nat} {xs : List Value} (h : OwnZ e z w A n c xs) (hk : Kp F w w') (hf : ∀ k, ab A = some k → ¬ F k) : OwnZ e z w' A n c xs := by
  refine ⟨h.1, ?_⟩
  rcases h.2 with h1 | ⟨g, cap, cur, h1, h0, hg, r⟩
  · exact .inl h1
  · refine .inr ⟨g, cap, cur, h1, h0, ?_, r⟩
    have hA : A = some ⟨g, 0, none⟩ := by injection h1
    rw [hk.block g (h.lt g (by rw [hA]; rfl)) (hf g (by rw [hA]; rfl))]
    exact hg
theorem OwnZ.cap {e : TypeId} {z : Nat} {w : World} {A : Option Addr} {n c : Nat} {xs : List Value} (h : OwnZ e z w A n c xs) : n ≤ c ∧ c ≤ maxLen := by
  rcases h.2 with ⟨h1, h2⟩ | ⟨g, cap, cur, h1, _, hg, hnc, hcm, hcs, ht⟩
  · injection h1 with _ _ h3; subst h3; subst h2; exact ⟨Nat.le_refl _, by simp [maxLen]⟩
  · injection h1 with _ _ h3; subst h3; exact ⟨hnc, hcm⟩
theorem OwnZ.none_ {e : TypeId} {z : Nat} {w : World} {A : Option Addr} {n c : Nat} {xs : List Value} (h : OwnZ e z w A n c xs) : A = none → c = 0 := by
  rintro rfl
  rcases h.2 with ⟨h1, _⟩ | ⟨g, cap, cur, h1, _⟩
  · injection h1
  · injection h1 with h1; cases h1

/-- APPEND OF A ROW OF SUCH ELEMENTS. -/
theorem wpList_appZ {P : Program} (w : World) {ops : Array Oper} {rest : List Oper} {o : Oper} {a : Act} {Q : Exit → Act → World → Prop} (hgd : o.guard = none) (s x : Operand) (t : TypeId)
    (ho : o.op = .call { callee := .builtin .append, args := #[s, x], argTypes := #[t, t] })
    (e : TypeId) (i : TypeInfo) (zv : Value) (size bytes : Nat) (ht : P.underlying t = some (.slice e)) (hi : P.info? e = some i) (hz : i.zero = some zv)
    (hsize : i.size = size) (hby : i.bytes = bytes) (hzs : zv.cells.size = size) (hpos : 0 < size)
    (A : Option Addr) (n c : Nat) (xs : List Value) (hs : a.eval s = .slice A n c) (hown : OwnZ e size w A n c xs)
    (B : Option Addr) (m d : Nat) (ys : List Value) (hx : a.eval x = .slice B m d) (hB : B = none → m = 0) (hm : ys.length = m * size) (hrow : Row w B ys) (h1 : ∀ u ∈ ys, u.oneCell' = true)
    (hbytes : (n + m) * bytes ≤ 140737488355328) (h63 : n + m ≤ 140737488355328)
    (h : ∀ A' c' w', OwnZ e size w' A' (n + m) c' (xs ++ ys) → w.grownBy w' (ab A) → (ab A' = ab A ∨ ab A' = some w.heap.size) → wpList P ops Q rest (a.put o.dst (.slice A' (n + m) c')) w') : wpList P ops Q (o :: rest) a w := by
  refine wpList_plain hgd fun _ hK => ?_
  have hmx : n + m ≤ maxLen := by unfold maxLen; omega
  have key : ∃ A' c' w', (Builtin.append_ #[t, t] o.type #[.slice A n c, .slice B m d]).run P w = .ok (.slice A' (n + m) c') w' ∧ OwnZ e size w' A' (n + m) c' (xs ++ ys) ∧ w.grownBy w' (ab A) ∧ (ab A' = ab A ∨ ab A' = some w.heap.size) := by
    cases B with
    | none =>
      have hd := hB rfl
      subst hd
      have hy : ys = [] := List.eq_nil_of_length_eq_zero (by simpa using hm)
      subst hy
      have hc := hown.cap.1
      refine ⟨A, c, w, ?_, by simpa using hown, World.grownBy.refl _ _, .inl rfl⟩
      cases A <;> simp [Builtin.append_, run_underlying ht, sizeOf, typeInfo, hi, Builtin.lenOf, Builtin.firstCells, hc, storeCells]
    | some ad =>
      have hnews : ∀ j u, ys[j]? = some u → w.cell? (ad.add j) = some u := by
        intro j u hu
        rcases hrow with rfl | ⟨b, o, h, _, hcell⟩
        · simp at hu
        · cases h
          have := hcell j u hu
          by_cases hj : j = 0 <;> simpa [Addr.add, hj] using this
      obtain ⟨v', w', hr, h2, h3, h4, h5⟩ := run_append_own_at (P := P) w 0 t o.type e i zv size bytes ht hi hz hsize hby hzs hpos (.slice A n c) n xs hown ad m d ys hm hnews h1 hmx hbytes (Nat.zero_le _)
      rw [ab_own] at h3 h5
      have hv : ∃ A' c', v' = .slice A' (n + m) c' := by
        rcases h2.2 with ⟨h6, h7⟩ | ⟨g, cap, _, h6, _⟩
        · exact ⟨none, 0, by rw [h6, h7]⟩
        · exact ⟨_, _, h6⟩
      obtain ⟨A', c', rfl⟩ := hv
      rw [ab_own] at h5
      exact ⟨A', c', w', hr, h2, h3, h5⟩
  obtain ⟨A', c', w', hr, h2, h3, h4⟩ := key
  unfold Oper.wp execOp
  simp only [ho, resolve, invoke, builtin, Sem.run_bind, Sem.run_pure, Result.andThen_ok, List.map_toArray, List.map_cons, List.map_nil, hs, hx, hr]
  exact hK _ _ (h A' c' w' h2 h3 h4)

end Go.Proofs.Ytadhhnlolnnkhaa.Kit
