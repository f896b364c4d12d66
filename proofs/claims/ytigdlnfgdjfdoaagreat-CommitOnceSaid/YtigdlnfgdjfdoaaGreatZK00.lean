/- Lemmas: Kit Blk CodeNS CodeN0 RecS RecV. -/
import Derived.WalkKit
import Derived.WalkSpells
import Derived.WalkLawsBesides
import Derived.Maps.AppendAt
import Derived.Deep.AppendLies
import Derived.Lib.AppendStr
import Derived.Lib.LazyBuf
import Derived.Lib.Hide
import Derived.SizedLaws
import Derived.Laws.IdiomStrings
import Derived.Deep.MidRow
import Derived.Laws.CopyOwn
import Derived.Lib.SliceRun
import Derived.Test.YtigdlnfgdjfdoaaGreatRows
set_option maxHeartbeats 4000000
set_option maxRecDepth 100000
set_option linter.unusedVariables false
set_option linter.unusedSimpArgs false
namespace Go.Proofs.YtigdlnfgdjfdoaaGreat
namespace Kit
open Go Go.RowKit
def bv (b : UInt8) : Value := .int .u8 (b.toNat : Int)
def bvs (l : List UInt8) : List Value := l.map bv
theorem zp1 {α : Type _} (l : List α) (i : Nat) (a : α) : l.toArray.setIfInBounds i a = (l.set i a).toArray := List.setIfInBounds_toArray l i a
theorem zp2 {α : Type _} {x : α} {xs : List α} {a : α} : (x :: xs).set 0 a = a :: xs := rfl
theorem zp3 {α : Type _} {x : α} {xs : List α} {i : Nat} {a : α} : (x :: xs).set (i + 1) a = x :: xs.set i a := rfl
@[simp] theorem bvs_length (l : List UInt8) : (bvs l).length = l.length := by simp [bvs]
theorem bvs_append (l m : List UInt8) : bvs (l ++ m) = bvs l ++ bvs m := by simp [bvs]
theorem bvs_one (l : List UInt8) : ∀ u ∈ bvs l, u.oneCell' = true := by
 intro u hu; simp only [bvs, List.mem_map] at hu; obtain ⟨b, _, rfl⟩ := hu; rfl
theorem bvs_get {l : List UInt8} {i : Nat} (h : i < l.length) : (bvs l)[i]? = some (bv l[i]) := by simp [bvs, h]
theorem bv_ofNat (x : Nat) : bv (UInt8.ofNat x) = .int .u8 ((x : Int) % 256) := by simp [bv]
structure Kp (F : Nat → Prop) (w w' : World) : Prop where
 os : w'.os = w.os
 tape : w'.tape = w.tape
 output : w'.output = w.output
 size : w.heap.size ≤ w'.heap.size
 block : ∀ k, k < w.heap.size → ¬ F k → w'.heap[k]? = w.heap[k]?
def nob : Nat → Prop := fun _ => False
theorem Kp.refl (F : Nat → Prop) (w : World) : Kp F w w := ⟨rfl, rfl, rfl, Nat.le_refl _, fun _ _ _ => rfl⟩
theorem Kp.trans {F G : Nat → Prop} {a b c : World} (h : Kp F a b) (k : Kp G b c) (hg : ∀ i, G i → F i ∨ a.heap.size ≤ i) : Kp F a c :=
 ⟨k.os.trans h.os, k.tape.trans h.tape, k.output.trans h.output, Nat.le_trans h.size k.size,
  fun i hi hf => (k.block i (Nat.lt_of_lt_of_le hi h.size) (fun e => (hg i e).elim hf (fun h => by omega))).trans (h.block i hi hf)⟩
theorem Kp.mono {F G : Nat → Prop} {a b : World} (h : Kp F a b) (hg : ∀ i, i < a.heap.size → F i → G i) : Kp G a b :=
 ⟨h.os, h.tape, h.output, h.size, fun i hi hf => h.block i hi (fun e => hf (hg i hi e))⟩
theorem Kp.drew {F : Nat → Prop} {a b : World} (h : Kp F a b) : Kp F a b.drew := ⟨h.os, h.tape, h.output, h.size, h.block⟩
theorem Kp.drewN {F : Nat → Prop} {a b : World} (h : Kp F a b) (n : Nat) : Kp F a (b.drewN n) := ⟨h.os, h.tape, h.output, h.size, h.block⟩
theorem Kp.alloc {F : Nat → Prop} {a b : World} (h : Kp F a b) (o : Obj) : Kp F a (b.alloc o) :=
 ⟨h.os, h.tape, h.output, Nat.le_trans h.size (by simp), fun k hk hf => (Below.heap_alloc b o k (Nat.lt_of_lt_of_le hk h.size)).trans (h.block k hk hf)⟩
theorem Kp.setCell {F : Nat → Prop} {a b : World} (h : Kp F a b) {p : Addr} (hp : F p.block ∨ a.heap.size ≤ p.block) (u : Value) : Kp F a (b.setCell p u) :=
 ⟨h.os, h.tape, h.output, Nat.le_trans h.size (by simp [World.setCell]), fun k hk hf => (Below.heap_setCell b p u k (fun e => by subst e; rcases hp with hp | hp; exact hf hp; omega)).trans (h.block k hk hf)⟩
theorem Kp.grown {F : Nat → Prop} {a b c : World} (h : Kp F a b) {row : Option Nat} (hg : b.grownBy c row) (hr : ∀ k, row = some k → F k ∨ a.heap.size ≤ k) : Kp F a c :=
 ⟨hg.os.trans h.os, hg.tape.trans h.tape, hg.output.trans h.output, Nat.le_trans h.size hg.size,
  fun k hk hf => (hg.block k (Nat.lt_of_lt_of_le hk h.size) (fun e => (hr k e.symm).elim hf (fun h => by omega))).trans (h.block k hk hf)⟩
theorem Kp.below {B : Nat} {w w' : World} {F : Nat → Prop} (h : Kp F w w') (hF : ∀ k, F k → B ≤ k) (hB : B ≤ w.heap.size) : Below B w w' :=
 ⟨h.os, h.tape, h.output, h.size, fun k hk => h.block k (by omega) (fun e => by have := hF k e; omega)⟩
theorem Kp.nob {w w' : World} (h : Kp nob w w') (F : Nat → Prop) : Kp F w w' := h.mono (fun _ _ e => e.elim)
theorem Kp.to_below {w w' : World} (h : Kp Kit.nob w w') : Below w.heap.size w w' := h.below (fun _ e => e.elim) (Nat.le_refl _)
theorem Kp.cell {F : Nat → Prop} {w w' : World} (h : Kp F w w') {p : Addr} (hp : p.block < w.heap.size) (hf : ¬ F p.block) : w'.cell? p = w.cell? p := World.cell?_of_block (h.block _ hp hf)
theorem Kp.frozen {F : Nat → Prop} {w w' : World} (h : Kp F w w') {p : Addr} (hp : p.block < w.heap.size) (hf : ¬ F p.block) : w'.frozen? p = w.frozen? p := World.frozen?_of_block (h.block _ hp hf)
def ab : Option Addr → Option Nat
 | some a => some a.block
 | none => none
theorem ab_own (A : Option Addr) (n c : Nat) : (Value.slice A n c).ownBlock = ab A := by cases A <;> rfl
def Row (w : World) (A : Option Addr) (xs : List Value) : Prop :=
 xs = [] ∨ ∃ b o, A = some ⟨b, o, none⟩ ∧ b < w.heap.size ∧ ∀ i u, xs[i]? = some u → w.cell? ⟨b, o + i, none⟩ = some u
theorem Row.nil (w : World) (A : Option Addr) : Row w A [] := .inl rfl
theorem Row.keep {F : Nat → Prop} {w w' : World} {A : Option Addr} {xs : List Value} (h : Row w A xs) (hk : Kp F w w') (hf : ∀ k, ab A = some k → ¬ F k) : Row w' A xs := by
 rcases h with rfl | ⟨b, o, rfl, hb, hc⟩
 · exact .inl rfl
 · exact .inr ⟨b, o, rfl, Nat.lt_of_lt_of_le hb hk.size, fun i u hu => (hk.cell (p := ⟨b, o + i, none⟩) hb (hf b rfl)).trans (hc i u hu)⟩
theorem Row.keep0 {w w' : World} {A : Option Addr} {xs : List Value} (h : Row w A xs) (hk : Kp Kit.nob w w') : Row w' A xs := h.keep hk (fun _ _ e => e)
theorem Row.lt {w : World} {A : Option Addr} {xs : List Value} (h : Row w A xs) (hx : xs ≠ []) : ∀ k, ab A = some k → k < w.heap.size := by
 rcases h with rfl | ⟨b, o, rfl, hb, _⟩
 · exact absurd rfl hx
 · intro k hk; cases hk; exact hb
theorem Row.at_ {w : World} {A : Option Addr} {xs : List Value} (h : Row w A xs) {i : Nat} (hi : i < xs.length) : ∃ b o, A = some ⟨b, o, none⟩ ∧ b < w.heap.size ∧ w.cell? ⟨b, o + i, none⟩ = some xs[i] := by
 rcases h with rfl | ⟨b, o, rfl, hb, hc⟩
 · simp at hi
 · exact ⟨b, o, rfl, hb, hc i _ (List.getElem?_eq_getElem hi)⟩
theorem Row.drop {w : World} {A : Option Addr} {xs : List Value} (h : Row w A xs) (k : Nat) : Row w (A.map (·.add k)) (xs.drop k) := by
 rcases h with rfl | ⟨b, o, rfl, hb, hc⟩
 · exact .inl (by simp)
 · refine .inr ⟨b, o + k, ?_, hb, fun i u hu => ?_⟩
   · by_cases hk : k = 0 <;> simp [Addr.add, hk]
   · rw [List.getElem?_drop] at hu
     have := hc (k + i) u hu
     rwa [← Nat.add_assoc] at this
theorem Row.take {w : World} {A : Option Addr} {xs : List Value} (h : Row w A xs) (k : Nat) : Row w A (xs.take k) := by
 rcases h with rfl | ⟨b, o, rfl, hb, hc⟩
 · exact .inl (by simp)
 · refine .inr ⟨b, o, rfl, hb, fun i u hu => ?_⟩
   rw [List.getElem?_take] at hu
   split at hu
   · exact hc i u hu
   · cases hu
def Own (e : TypeId) (w : World) (A : Option Addr) (n c : Nat) (xs : List Value) : Prop := w.ownsRow 0 e 1 (.slice A n c) n xs
theorem Own.len {e : TypeId} {w : World} {A : Option Addr} {n c : Nat} {xs : List Value} (h : Own e w A n c xs) : xs.length = n := by simpa using h.1
theorem Own.nil (e : TypeId) (w : World) : Own e w none 0 0 [] := World.ownsRow_nil w 0 e 1
theorem Own.row {e : TypeId} {w : World} {A : Option Addr} {n c : Nat} {xs : List Value} (h : Own e w A n c xs) : Row w A xs := by
 rcases h.2 with ⟨h1, h2⟩ | ⟨g, cap, cur, h1, _, hg, hnc, hcm, hcs, ht⟩
 · exact .inl (List.eq_nil_of_length_eq_zero (by rw [h.len]; exact h2))
 · cases h1
   refine .inr ⟨g, 0, rfl, ?_, fun i u hu => ?_⟩
   · rcases Nat.lt_or_ge g w.heap.size with hlt | hge
     · exact hlt
     · rw [Array.getElem?_eq_none hge] at hg; cases hg
   · have := h.cells (g := g) rfl i u hu
     by_cases hi : i = 0 <;> simpa [Addr.add, hi] using this
theorem Own.lt {e : TypeId} {w : World} {A : Option Addr} {n c : Nat} {xs : List Value} (h : Own e w A n c xs) : ∀ k, ab A = some k → k < w.heap.size :=
 fun k hk => (World.ownsRow.lt h k (by rw [ab_own]; exact hk)).2
theorem Own.keep {e : TypeId} {F : Nat → Prop} {w w' : World} {A : Option Addr} {n c : Nat} {xs : List Value} (h : Own e w A n c xs) (hk : Kp F w w') (hf : ∀ k, ab A = some k → ¬ F k) : Own e w' A n c xs := by
 refine ⟨h.1, ?_⟩
 rcases h.2 with h1 | ⟨g, cap, cur, h1, h0, hg, r⟩
 · exact .inl h1
 · refine .inr ⟨g, cap, cur, h1, h0, ?_, r⟩
   have hA : A = some ⟨g, 0, none⟩ := by injection h1
   rw [hk.block g (h.lt g (by rw [hA]; rfl)) (hf g (by rw [hA]; rfl))]
   exact hg
theorem Row.alloc {w : World} {A : Option Addr} {xs : List Value} (h : Row w A xs) (o : Obj) : Row (w.alloc o) A xs := h.keep ((Kp.refl Kit.nob w).alloc o) (fun _ _ e => e)
theorem Own.cap {e : TypeId} {w : World} {A : Option Addr} {n c : Nat} {xs : List Value} (h : Own e w A n c xs) : n ≤ c ∧ c ≤ maxLen := by
 rcases h.2 with ⟨h1, h2⟩ | ⟨g, cap, cur, h1, _, hg, hnc, hcm, hcs, ht⟩
 · injection h1 with _ _ h3; subst h3; subst h2; exact ⟨Nat.le_refl _, by simp [maxLen]⟩
 · injection h1 with _ _ h3; subst h3; exact ⟨hnc, hcm⟩
theorem Own.frozen {e : TypeId} {w : World} {A : Option Addr} {n c : Nat} {xs : List Value} (h : Own e w A n c xs) {a : Addr} (ha : A = some a) (j : Nat) : w.frozen? ⟨a.block, j, none⟩ = false := by
 rcases h.2 with ⟨h1, h2⟩ | ⟨g, cap, cur, h1, _, hg, hnc, hcm, hcs, ht⟩
 · rw [ha] at h1; injection h1 with h1; cases h1
 · rw [ha] at h1; injection h1 with h1; injection h1 with h1; subst h1
   simp [World.frozen?, hg]
theorem Own.at_ {e : TypeId} {w : World} {A : Option Addr} {n c : Nat} {xs : List Value} (h : Own e w A n c xs) {i : Nat} (hi : i < n) :
    ∃ b, A = some ⟨b, 0, none⟩ ∧ b < w.heap.size ∧ w.cell? ⟨b, i, none⟩ = some (xs[i]'(by rw [h.len]; exact hi)) ∧ w.frozen? ⟨b, i, none⟩ = false ∧ ∀ u, Own e (w.setCell ⟨b, i, none⟩ u) A n c (xs.set i u) := by
 obtain ⟨b, o, hA, hb, hc⟩ := h.row.at_ (i := i) (by rw [h.len]; exact hi)
 have hf := h.frozen hA i
 rcases h.2 with ⟨h1, _⟩ | ⟨g, cap, cur, h1, _⟩
 · rw [hA] at h1; injection h1 with h1; cases h1
 · rw [hA] at h1; injection h1 with h1; injection h1 with h1; injection h1 with h1 h2
   subst h2
   refine ⟨b, hA, hb, by simpa using hc, hf, fun u => ?_⟩
   subst hA
   have := (World.ownsRow.stored (w := w) h i u).1
   simpa [Own] using this
theorem row_new (w : World) (xs : List Value) (t : TypeId) : Row (w.alloc (.cells xs.toArray t)) (some ⟨w.heap.size, 0, none⟩) xs := by
 refine .inr ⟨w.heap.size, 0, rfl, by simp, fun i u hu => ?_⟩
 rw [World.cell?_alloc_at _ _ _ _ rfl]
 simpa using hu
theorem wpList_appR {P : Program} (w : World) {ops : Array Oper} {rest : List Oper} {o : Oper} {a : Act} {Q : Exit → Act → World → Prop} (hgd : o.guard = none) (s x : Operand) (t : TypeId)
    (ho : o.op = .call { callee := .builtin .append, args := #[s, x], argTypes := #[t, t] })
    (e : TypeId) (i : TypeInfo) (z : Value) (bytes : Nat) (ht : P.underlying t = some (.slice e)) (hi : P.info? e = some i) (hz : i.zero = some z)
    (hsize : i.size = 1) (hby : i.bytes = bytes) (hzs : z.cells.size = 1)
    (A : Option Addr) (n c : Nat) (xs : List Value) (hs : a.eval s = .slice A n c) (hown : Own e w A n c xs)
    (B : Option Addr) (m d : Nat) (ys : List Value) (hx : a.eval x = .slice B m d) (hB : B = none → d = 0) (hm : ys.length = m) (hrow : Row w B ys) (h1 : ∀ u ∈ ys, u.oneCell' = true)
    (hbytes : (n + m) * bytes ≤ 140737488355328) (h63 : n + m ≤ 140737488355328)
    (h : ∀ A' c' w', Own e w' A' (n + m) c' (xs ++ ys) → w.grownBy w' (ab A) → (ab A' = ab A ∨ ab A' = some w.heap.size) → wpList P ops Q rest (a.put o.dst (.slice A' (n + m) c')) w') : wpList P ops Q (o :: rest) a w := by
 refine wpList_plain hgd fun _ hK => ?_
 have hmx : n + m ≤ maxLen := by unfold maxLen; omega
 have key : ∃ A' c' w', (Builtin.append_ #[t, t] o.type #[.slice A n c, .slice B m d]).run P w = .ok (.slice A' (n + m) c') w' ∧ Own e w' A' (n + m) c' (xs ++ ys) ∧ w.grownBy w' (ab A) ∧ (ab A' = ab A ∨ ab A' = some w.heap.size) := by
  cases B with
  | none =>
    have hd := hB rfl
    have hy : ys = [] := by
     rcases hrow with rfl | ⟨b, o, h, _⟩
     · rfl
     · cases h
    subst hy
    obtain rfl : m = 0 := by simpa using hm.symm
    have hc := hown.cap.1
    refine ⟨A, c, w, ?_, by simpa using hown, World.grownBy.refl _ _, .inl rfl⟩
    cases A <;> simp [Builtin.append_, run_underlying ht, sizeOf, typeInfo, hi, Builtin.lenOf, Builtin.firstCells, hc, storeCells]
  | some ad =>
    have hnews : ∀ j u, ys[j]? = some u → w.cell? (ad.add j) = some u := by
     intro j u hu
     rcases hrow with rfl | ⟨b, o, h, _, hcell⟩
     · simp at hu
     · cases h
       have := hcell j u hu
       by_cases hj : j = 0 <;> simpa [Addr.add, hj] using this
    obtain ⟨v', w', hr, h2, h3, h4, h5⟩ := run_append_own_at (P := P) w 0 t o.type e i z 1 bytes ht hi hz hsize hby hzs (by decide) (.slice A n c) n xs hown ad m d ys (by simpa using hm) hnews h1 hmx hbytes (Nat.zero_le _)
    rw [ab_own] at h3 h5
    have hv : ∃ A' c', v' = .slice A' (n + m) c' := by
     rcases h2.2 with ⟨h6, h7⟩ | ⟨g, cap, _, h6, _⟩
     · exact ⟨none, 0, by rw [h6, h7]⟩
     · exact ⟨_, _, h6⟩
    obtain ⟨A', c', rfl⟩ := hv
    rw [ab_own] at h5
    exact ⟨A', c', w', hr, h2, h3, h5⟩
 obtain ⟨A', c', w', hr, h2, h3, h4⟩ := key
 unfold Oper.wp execOp
 simp only [ho, resolve, invoke, builtin, Sem.run_bind, Sem.run_pure, Result.andThen_ok, List.map_toArray, List.map_cons, List.map_nil, hs, hx, hr]
 exact hK _ _ (h A' c' w' h2 h3 h4)
def sl (s : ByteArray) : List UInt8 := s.data.toList
@[simp] theorem sl_length (s : ByteArray) : (sl s).length = s.size := by simp [sl]
theorem wpList_appS {P : Program} (w : World) {ops : Array Oper} {rest : List Oper} {o : Oper} {a : Act} {Q : Exit → Act → World → Prop} (hgd : o.guard = none) (s x : Operand) (t u : TypeId)
    (ho : o.op = .call { callee := .builtin .append, args := #[s, x], argTypes := #[t, u] })
    (e : TypeId) (i : TypeInfo) (ht : P.underlying t = some (.slice e)) (hu : P.underlying u = some .string) (hi : P.info? e = some i) (hz : i.zero = some (.int .u8 0))
    (hsize : i.size = 1) (hby : i.bytes = 1)
    (A : Option Addr) (n c : Nat) (xs : List Value) (hs : a.eval s = .slice A n c) (hown : Own e w A n c xs)
    (str : ByteArray) (hx : a.eval x = .string str)
    (h63 : n + str.size ≤ 140737488355328)
    (h : ∀ A' c' w', Own e w' A' (n + str.size) c' (xs ++ bvs (sl str)) → w.grownBy w' (ab A) → (ab A' = ab A ∨ ab A' = some w.heap.size) → wpList P ops Q rest (a.put o.dst (.slice A' (n + str.size) c')) w') : wpList P ops Q (o :: rest) a w := by
 refine wpList_plain hgd fun _ hK => ?_
 have hmx : n + str.size ≤ maxLen := by unfold maxLen; omega
 have key : ∃ A' c' w', (Builtin.append_ #[t, u] o.type #[.slice A n c, .string str]).run P w = .ok (.slice A' (n + str.size) c') w' ∧ Own e w' A' (n + str.size) c' (xs ++ bvs (sl str)) ∧ w.grownBy w' (ab A) ∧ (ab A' = ab A ∨ ab A' = some w.heap.size) := by
  obtain ⟨v', w', hr, h2, h3, h4⟩ := Lib.run_append_own_string (P := P) w 0 t u o.type e i ht hu hi hz hsize hby (.slice A n c) n xs hown str hmx h63 (Nat.zero_le _)
  rw [ab_own] at h3
  have hv : ∃ A' c', v' = .slice A' (n + str.size) c' := by
   rcases h2.2 with ⟨h6, h7⟩ | ⟨g, cap, _, h6, _⟩
   · exact ⟨none, 0, by rw [h6, h7]⟩
   · exact ⟨_, _, h6⟩
  obtain ⟨A', c', rfl⟩ := hv
  refine ⟨A', c', w', hr, h2, h3, ?_⟩
  rcases hown.2 with ⟨hv, rfl⟩ | ⟨g, cap, cur, hv, hbg, hg, hnc, hcm, hcs, htake⟩
  · injection hv with hA _ hc
    subst hA; subst hc
    by_cases hm : str.size = 0
    · have := h4.2 ⟨rfl, hm⟩
      injection this with h5
      exact .inl (by rw [h5])
    · have hr2 := Go.run_append_nil_string (P := P) w t u o.type e i (.int .u8 0) ht hu hi hz str (by omega) (by omega) (by rw [hby]; omega)
      rw [hr2] at hr
      injection hr with hr _
      injection hr with hr _ _
      exact .inr (by rw [← hr]; rfl)
  · injection hv with hA _ hc
    subst hA; subst hc
    by_cases hroom : n + str.size ≤ c
    · have hcs' : cur.size = c := by simpa using hcs
      have hr2 := Lib.run_append_room_string (P := P) w t u o.type e i ht hu hi hsize g n c cur hg str hroom (by omega)
      rw [hr2] at hr
      injection hr with hr _
      injection hr with hr _ _
      exact .inl (by rw [← hr])
    · have holds : ∀ j u, xs[j]? = some u → w.cell? ((⟨g, 0, none⟩ : Addr).add j) = some u := World.ownsRow.cells (g := g) hown rfl
      have hr2 := Lib.run_append_grow_string (P := P) w t u o.type e i (.int .u8 0) ht hu hi hz ⟨g, 0, none⟩ n c xs (by rw [hsize]; simpa using hown.1) holds str (by omega) (by unfold maxLen at hmx; omega) (by rw [hby]; exact growslice_fits (by omega) (by omega))
      rw [hr2] at hr
      injection hr with hr _
      injection hr with hr _ _
      exact .inr (by rw [← hr]; rfl)
 obtain ⟨A', c', w', hr, h2, h3, h4⟩ := key
 unfold Oper.wp execOp
 simp only [ho, resolve, invoke, builtin, Sem.run_bind, Sem.run_pure, Result.andThen_ok, List.map_toArray, List.map_cons, List.map_nil, hs, hx, hr]
 exact hK _ _ (h A' c' w' h2 h3 h4)
def Grew (A A' : Option Addr) (B : Nat) : Prop := ab A' = ab A ∨ ∃ k, ab A' = some k ∧ B ≤ k
theorem Grew.refl (A : Option Addr) (B : Nat) : Grew A A B := .inl rfl
theorem Grew.trans {A A' A'' : Option Addr} {B B' : Nat} (h : Grew A A' B) (k : Grew A' A'' B') (hB : B ≤ B') : Grew A A'' B := by
 rcases k with k | ⟨i, k, hi⟩
 · rcases h with h | ⟨j, h, hj⟩
   · exact .inl (k.trans h)
   · exact .inr ⟨j, k.trans h, hj⟩
 · exact .inr ⟨i, k, by omega⟩
theorem Grew.of {A A' : Option Addr} {B H : Nat} (h : ab A' = ab A ∨ ab A' = some H) (hB : B ≤ H) : Grew A A' B := by
 rcases h with h | h
 · exact .inl h
 · exact .inr ⟨H, h, hB⟩
theorem Grew.ge {A A' : Option Addr} {B N : Nat} (h : Grew A A' B) (hA : ∀ k, ab A = some k → N ≤ k) (hB : N ≤ B) : ∀ k, ab A' = some k → N ≤ k := by
 intro k hk
 rcases h with h | ⟨j, h, hj⟩
 · exact hA k (by rw [← h]; exact hk)
 · rw [h] at hk; cases hk; omega
theorem Kp.since {F : Nat → Prop} {a b c : World} (h : Kp Kit.nob a b) (k : Kp F b c) (hF : ∀ i, F i → a.heap.size ≤ i) : Kp Kit.nob a c := h.trans k (fun i e => .inr (hF i e))
def rowF (A : Option Addr) : Nat → Prop := fun k => ab A = some k
theorem Grew.sub {A A' : Option Addr} {B : Nat} (h : Grew A A' B) : ∀ i, rowF A' i → rowF A i ∨ B ≤ i := by
 intro i hi
 unfold rowF at *
 rcases h with h | ⟨k, h, hk⟩
 · exact .inl (by rw [← h]; exact hi)
 · rw [h] at hi; cases hi; exact .inr hk
theorem row_one (w : World) (v : Value) (t : TypeId) : Row (w.alloc (.cells #[v] t)) (some ⟨w.heap.size, 0, none⟩) [v] := by
 refine .inr ⟨w.heap.size, 0, rfl, by simp, fun i u hu => ?_⟩
 match i, hu with
 | 0, hu => simp at hu; subst hu; rw [World.cell?_alloc_at _ _ _ _ rfl]; rfl
def le : Nat → Nat → List UInt8
 | 0, _ => []
 | k + 1, x => UInt8.ofNat x :: le k (x / 256)
@[simp] theorem le_length (k x : Nat) : (le k x).length = k := by induction k generalizing x <;> simp [le, *]
theorem le_snoc (k x : Nat) : le (k + 1) x = le k x ++ [UInt8.ofNat (x / 256 ^ k)] := by
 induction k generalizing x with
 | zero => simp [le]
 | succ k ih =>
   rw [le, ih, le]
   simp [Nat.div_div_eq_div_mul, Nat.pow_succ, Nat.mul_comm]
def lowN : List UInt8 → Nat
 | [] => 0
 | b :: l => b.toNat + 256 * lowN l
theorem lowN_snoc (l : List UInt8) (b : UInt8) : lowN (l ++ [b]) = lowN l + b.toNat * 256 ^ l.length := by
 induction l with
 | nil => simp [lowN]
 | cons a l ih => simp only [List.cons_append, lowN, ih, List.length_cons, Nat.pow_succ]; rw [Nat.mul_add, Nat.mul_comm (256 ^ l.length), ← Nat.mul_assoc, Nat.mul_left_comm, ← Nat.mul_assoc]; omega
theorem lowN_lt (l : List UInt8) : lowN l < 256 ^ l.length := by
 induction l with
 | nil => simp [lowN]
 | cons a l ih => have := a.toNat_lt; simp only [lowN, List.length_cons, Nat.pow_succ]; omega
theorem lowN_le (k x : Nat) : lowN (le k x) = x % 256 ^ k := by
 induction k generalizing x with
 | zero => simp [le, lowN, Nat.mod_one]
 | succ k ih => simp only [le, lowN, ih, Nat.pow_succ]; rw [Nat.mul_comm (256 ^ k) 256, Nat.mod_mul]; simp
theorem le_lowN (l : List UInt8) : le l.length (lowN l) = l := by
 induction l with
 | nil => rfl
 | cons a l ih =>
   simp only [List.length_cons, le, lowN]
   rw [show (a.toNat + 256 * lowN l) / 256 = lowN l by have := a.toNat_lt; omega, ih]
   congr 1
   apply UInt8.toNat_inj.1
   simp
theorem or_above (a b k : Nat) (ha : a < 2 ^ k) : a ||| (b * 2 ^ k) = a + b * 2 ^ k := by
 rw [Nat.mul_comm b, Nat.or_comm, ← Nat.two_pow_add_eq_or_of_lt ha, Nat.add_comm]
theorem pow256 (k : Nat) : 2 ^ (8 * k) = 256 ^ k := by rw [Nat.pow_mul]
theorem or_u64_above (l : List UInt8) (b : UInt8) (hl : l.length ≤ 7) :
    bits BinOp.or IntKind.u64 (lowN l : Nat) (IntKind.u64.wrap ((b.toNat : Int) * 2 ^ (8 * l.length))) = (lowN (l ++ [b]) : Nat) := by
 have hb := b.toNat_lt
 have hlt := lowN_lt l
 have hp : 256 ^ l.length ≤ 256 ^ 7 := Nat.pow_le_pow_right (by omega) hl
 have hp1 : (256 : Nat) ^ 7 = 72057594037927936 := rfl
 have hbp : b.toNat * 256 ^ l.length ≤ 255 * 256 ^ l.length := Nat.mul_le_mul_right _ (by omega)
 have e : ((b.toNat : Int) * 2 ^ (8 * l.length)) = ((b.toNat * 256 ^ l.length : Nat) : Int) := by
  rw [← pow256]; simp
 rw [e, IntKind.wrap_u64, Int.emod_eq_of_lt (by omega) (by omega), bits_or_u64_nat _ _ (by omega) (by omega), lowN_snoc, ← pow256, or_above _ _ _ (by rw [pow256]; exact hlt)]
def str (l : List UInt8) : ByteArray := ⟨l.toArray⟩
@[simp] theorem sl_str (l : List UInt8) : sl (str l) = l := rfl
@[simp] theorem str_sl (s : ByteArray) : str (sl s) = s := rfl
@[simp] theorem str_size (l : List UInt8) : (str l).size = l.length := by rw [← sl_length, sl_str]
theorem str_toList (l : List UInt8) : (str l).toList = l := by rw [ByteArray.toList_eq]; rfl
theorem str_inj {l m : List UInt8} : str l = str m ↔ l = m := ⟨fun h => by have := congrArg sl h; simpa using this, fun h => by rw [h]⟩
theorem fold_push (l : List UInt8) (s : ByteArray) : (l.map fun b => (b.toNat : Int)).foldl (fun r n => r.push (UInt8.ofNat n.toNat)) s = str (sl s ++ l) := by
 induction l generalizing s with
 | nil => simp
 | cons b l ih =>
   simp only [List.map_cons, List.foldl_cons, ih]
   congr 1
   simp [sl, ByteArray.push]
theorem run_bytes_str {P : Program} (w : World) (src dst e : TypeId) (hs : P.underlying src = some (.slice e)) (he : P.underlying e = some (.int .u8)) (hd : P.underlying dst = some .string)
    (A : Option Addr) (n c : Nat) (l : List UInt8) (hn : l.length = n) (hr : Row w A (bvs l)) : (convert src dst (.slice A n c)).run P w = .ok (.string (str l)) w := by
 subst hn
 rw [run_convert_bytes_string w src dst e A _ _ hs he hd]
 cases A with
 | none =>
   have hl : l = [] := by
    rcases hr with h | ⟨b, o, h, _⟩
    · simpa [bvs] using h
    · cases h
   subst hl
   rfl
 | some a =>
   have hload : (loadCells a l.length).run P w = .ok ((l.map fun b => (b.toNat : Int)).map (Value.int .u8)).toArray w := by
    have hm : (l.map fun b => (b.toNat : Int)).map (Value.int .u8) = bvs l := by simp [bvs, bv]
    rw [hm]
    have := run_firstCells_some (P := P) w 1 l.length a l.length 0 (bvs l) (by simp) (fun j u hu => ?_)
    · simpa [Builtin.firstCells] using this
    · rcases hr with h | ⟨b, o, h, _, hc⟩
      · rw [h] at hu; simp at hu
      · cases h
        have := hc j u hu
        by_cases hj : j = 0 <;> simpa [Addr.add, hj] using this
   rw [run_bytesToString w a _ c _ hload, fold_push]
   rfl
theorem weightsAll_of {H : Type} {P : Program} {e : TypeId} {d : DataW H} : ∀ {l : List (DataW H)}, d ∈ l → ∀ n ∈ d.weights P e, n ∈ DataW.weightsAll P e l
 | x :: l, hd, n, hn => by
   simp only [DataW.weightsAll, List.mem_append]
   rcases List.mem_cons.1 hd with rfl | hd
   · exact .inl hn
   · exact .inr (weightsAll_of hd n hn)
theorem weights_slice {H : Type} {P : Program} {t e : TypeId} {elems spare : List (DataW H)} {d : DataW H} (hu : P.underlying t = some (.slice e)) (hd : d ∈ elems) : ∀ n ∈ d.weights P e, n ∈ (DataW.slice elems spare).weights P t := by
 intro n hn
 simp only [DataW.weights, hu, List.mem_cons, List.mem_append]
 exact .inr (.inl (weightsAll_of hd n hn))
theorem run_str_bytes {P : Program} (w : World) (src dst e : TypeId) (s : ByteArray) (hs : P.underlying src = some .string) (hd : P.underlying dst = some (.slice e)) (he : P.underlying e = some (.int .u8)) :
    ∃ (c : Nat) (w' : World), (convert src dst (.string s)).run P w = .ok (.slice (some ⟨w.heap.size, 0, none⟩) s.size c) w' ∧ Row w' (some ⟨w.heap.size, 0, none⟩) (bvs (sl s)) ∧ Kp Kit.nob w w' ∧ w'.heap.size = w.heap.size + 1 := by
 refine ⟨_, _, run_bytes_of_string w src dst e s hs hd he, ?_, ?_, by simp⟩
 · refine .inr ⟨w.heap.size, 0, rfl, by simp, fun i u hu => ?_⟩
   have hi : i < (bvs (sl s)).length := by
    rcases Nat.lt_or_ge i (bvs (sl s)).length with h | h
    · exact h
    · rw [List.getElem?_eq_none h] at hu; cases hu
   have h : (w.drew.alloc (.cells (bytesRow s (grownCap w s.size 0 e)) e ((bytesRow s (grownCap w s.size 0 e)).size, (bytesRow s (grownCap w s.size 0 e)).size + 1))).heap[w.heap.size]? = some (.cells (bytesRow s (grownCap w s.size 0 e)) e ((bytesRow s (grownCap w s.size 0 e)).size, (bytesRow s (grownCap w s.size 0 e)).size + 1)) := heap_alloc_new w.drew _
   simp only [World.cell?, h, Nat.zero_add]
   simp only [bvs_length, sl_length] at hi
   have hbr : (bytesRow s (grownCap w s.size 0 e))[i]? = (bvs (sl s))[i]? := by
    unfold bytesRow
    rw [Array.getElem?_append_left (by simpa using hi)]
    simp [bvs, sl]
    rfl
   simp [hbr, hu]
 · exact (Kp.refl _ _).drew.alloc _
def OwnZ (e : TypeId) (z : Nat) (w : World) (A : Option Addr) (n c : Nat) (xs : List Value) : Prop := w.ownsRow 0 e z (.slice A n c) n xs
theorem OwnZ.none_ {e : TypeId} {z : Nat} {w : World} {A : Option Addr} {n c : Nat} {xs : List Value} (h : OwnZ e z w A n c xs) : A = none → c = 0 := by
 rintro rfl
 rcases h.2 with ⟨h1, _⟩ | ⟨g, cap, cur, h1, _⟩
 · injection h1
 · injection h1 with h1; cases h1
def Blk (w : World) (g : Nat) (t : TypeId) (cs : List Value) : Prop := w.heap[g]? = some (.cells cs.toArray t (0, 0))
theorem Blk.lt {w : World} {g : Nat} {t : TypeId} {cs : List Value} (h : Blk w g t cs) : g < w.heap.size := by
 rcases Nat.lt_or_ge g w.heap.size with hlt | hge
 · exact hlt
 · unfold Blk at h; rw [Array.getElem?_eq_none hge] at h; cases h
theorem Blk.cell {w : World} {g : Nat} {t : TypeId} {cs : List Value} (h : Blk w g t cs) (i : Nat) : w.cell? ⟨g, i, none⟩ = cs[i]? := by
 unfold Blk at h; simp [World.cell?, h]
theorem Blk.frozen {w : World} {g : Nat} {t : TypeId} {cs : List Value} (h : Blk w g t cs) (i : Nat) : w.frozen? ⟨g, i, none⟩ = false := by
 unfold Blk at h; simp [World.frozen?, h]
theorem Blk.new (w : World) (t : TypeId) (cs : List Value) : Blk (w.alloc (.cells cs.toArray t)) w.heap.size t cs := heap_alloc_new w _
theorem Blk.new' {w : World} {t : TypeId} {c : Array Value} {cs : List Value} {g : Nat} (hg : g = w.heap.size) (h : c = cs.toArray) : Blk (w.alloc (.cells c t)) g t cs := by
 subst hg; subst h; exact Blk.new w t cs
theorem Blk.keep {F : Nat → Prop} {w w' : World} {g : Nat} {t : TypeId} {cs : List Value} (h : Blk w g t cs) (hk : Kp F w w') (hf : ¬ F g) : Blk w' g t cs := (hk.block g h.lt hf).trans h
theorem Blk.alloc {w : World} {g : Nat} {t : TypeId} {cs : List Value} (h : Blk w g t cs) (o : Obj) : Blk (w.alloc o) g t cs := h.keep ((Kp.refl nob w).alloc o) (fun e => e)
theorem Blk.set_ {w : World} {g : Nat} {t : TypeId} {cs : List Value} (h : Blk w g t cs) (i : Nat) (u : Value) : Blk (w.setCell ⟨g, i, none⟩ u) g t (cs.set i u) := by
 unfold Blk at h ⊢
 simp [World.setCell, Array.getElem?_modify, h]
theorem Blk.far {w : World} {g : Nat} {t : TypeId} {cs : List Value} (h : Blk w g t cs) {p : Addr} (hp : g ≠ p.block) (u : Value) : Blk (w.setCell p u) g t cs := (Below.heap_setCell w p u g hp).trans h
theorem Kp.setCells {F : Nat → Prop} {a b : World} {g : Nat} (hg : F g ∨ a.heap.size ≤ g) : ∀ (vs : List Value) {o : Nat} (_ : Kp F a b), Kp F a (b.setCells g o vs)
 | [], _, h => h
 | v :: r, _, h => Kp.setCells hg r (h.setCell (p := ⟨g, _, none⟩) hg v)
theorem Blk.setCells {w : World} {g : Nat} {t : TypeId} : ∀ (vs : List Value) {cs : List Value} {o : Nat} (_ : Blk w g t cs) (_ : o + vs.length ≤ cs.length), Blk (w.setCells g o vs) g t (cs.take o ++ vs ++ cs.drop (o + vs.length))
 | [], _, _, h, _ => by simpa [World.setCells] using h
 | v :: r, cs, o, h, hl => by
   have := Blk.setCells r (h.set_ o v) (o := o + 1) (by simp at hl ⊢; omega)
   rw [World.setCells]
   simp only [List.length_cons] at hl ⊢
   have e : (cs.set o v).take (o + 1) ++ r ++ (cs.set o v).drop (o + 1 + r.length) = cs.take o ++ (v :: r) ++ cs.drop (o + (r.length + 1)) := by
    rw [List.take_succ_eq_append_getElem (by simp; omega), List.take_set_of_le (Nat.le_refl _), List.drop_set_of_lt (by omega)]
    simp [Nat.add_assoc, Nat.add_comm 1]
   rwa [e] at this
theorem Blk.setAll {w : World} {g : Nat} {t : TypeId} {cs vs : List Value} (h : Blk w g t cs) (hl : vs.length = cs.length) : Blk (w.setCells g 0 vs) g t vs := by
 have := h.setCells vs (o := 0) (by omega)
 simpa [hl, List.drop_eq_nil_of_le] using this
def oneB (b : Nat) : Nat → Prop := fun k => k = b
theorem setCells_size {g : Nat} : ∀ (vs : List Value) (o : Nat) (w : World), (w.setCells g o vs).heap.size = w.heap.size
 | [], _, _ => rfl
 | v :: r, o, w => by rw [World.setCells, setCells_size r]; simp [World.setCell]
theorem Blk.range {w : World} {g : Nat} {t : TypeId} {cs : List Value} (h : Blk w g t cs) : w.rangeAt g 0 cs := fun j v hv => by rw [h.cell, Nat.zero_add]; exact hv
theorem Blk.there {w : World} {g : Nat} {t : TypeId} {cs : List Value} (h : Blk w g t cs) : w.there g 0 cs.length := fun j hj => by
 rw [h.cell, Nat.zero_add, List.getElem?_eq_getElem hj]; exact ⟨rfl, h.frozen _⟩
theorem wpList_store_blk {P : Program} {ops : Array Oper} {rest : List Oper} {op : Oper} {a : Act} {w : World} {Q : Exit → Act → World → Prop} (hgd : op.guard = none) (ty : TypeId) (x y : Operand) (ho : op.op = .store ty x y)
    (g : Nat) (t : TypeId) (cs vs : List Value) (hB : Blk w g t cs) (hx : a.eval x = .pointer (some ⟨g, 0, none⟩)) (hy : a.eval y = .agg vs.toArray) (hl : vs.length = cs.length) (hi : (P.info? ty).map (·.size) = some vs.length) (h1 : ∀ u ∈ vs, u.oneCell' = true)
    (h : ∀ w', Blk w' g t vs → Kp (oneB g) w w' → w'.heap.size = w.heap.size → wpList P ops Q rest (a.put op.dst undef) w') : wpList P ops Q (op :: rest) a w := by
 refine wpList_store_mid hgd ty x y ho g 0 vs.toArray hx hy ?_ (by simpa using hi) (all_oneCell_toArray h1) ?_
 · have := hB.there; rw [← hl] at this; simpa using this
 · exact h _ (by simpa using hB.setAll hl) (Kp.setCells (F := oneB g) (.inl rfl) _ (Kp.refl (oneB g) w)) (setCells_size _ _ _)
theorem wpList_store_new {P : Program} {ops : Array Oper} {rest : List Oper} {op : Oper} {a : Act} {w : World} {Q : Exit → Act → World → Prop} (hgd : op.guard = none) (ty : TypeId) (x y : Operand) (ho : op.op = .store ty x y)
    (c : Array Value) (vs : List Value) (hx : a.eval x = .pointer (some ⟨w.heap.size, 0, none⟩)) (hy : a.eval y = .agg vs.toArray) (hl : vs.length = c.size) (hi : (P.info? ty).map (·.size) = some vs.length) (h1 : ∀ u ∈ vs, u.oneCell' = true)
    (h : ∀ w', Blk w' w.heap.size ty vs → Kp nob w w' → w'.heap.size = w.heap.size + 1 → wpList P ops Q rest (a.put op.dst undef) w') : wpList P ops Q (op :: rest) a (w.alloc (.cells c ty)) := by
 refine wpList_store_blk hgd ty x y ho w.heap.size ty c.toList vs (Blk.new' rfl (by simp)) hx hy (by simpa using hl) hi h1 fun w' hB hk hz => ?_
 exact h w' hB (((Kp.refl nob w).alloc _).since hk (fun i e => by unfold oneB at e; omega)) (by rw [hz]; simp)
theorem wpList_load_blk {P : Program} {ops : Array Oper} {rest : List Oper} {op : Oper} {a : Act} {w : World} {Q : Exit → Act → World → Prop} (hgd : op.guard = none) (ty : TypeId) (x : Operand) (ho : op.op = .load ty x)
    (g : Nat) (t : TypeId) (cs : List Value) (hB : Blk w g t cs) (hx : a.eval x = .pointer (some ⟨g, 0, none⟩)) (d : TypeDesc) (hu : P.underlying ty = some d) (hd : d.isRow = true) (hi : (P.info? ty).map (·.size) = some cs.length)
    (h : wpList P ops Q rest (a.put op.dst (.agg cs.toArray)) w) : wpList P ops Q (op :: rest) a w :=
 wpList_load_mid hgd ty x ho g 0 hx cs d hB.range hu hd hi h
theorem setRow_kp (w : World) (g : Nat) (cs : Array Value) : Kp (oneB g) w (w.setRow g cs) :=
 ⟨rfl, rfl, rfl, by simp [World.setRow], fun k _ hf => setRow_other w g k cs hf⟩
theorem step_copy_blk {P : Program} {ops : Array Oper} {o : Oper} {a : Act} {w : World} {K : Act → World → Prop} {Q : Exit → Act → World → Prop} {E : Prop} (hgd : o.guard = none) (d s : Operand) (dT sT : TypeId)
    (ho : o.op = .call { callee := .builtin .copy, args := #[d, s], argTypes := #[dT, sT] }) (elem : TypeId) (hu : P.underlying dT = some (.slice elem)) (hsz : (P.info? elem).map (·.size) = some 1)
    (g off : Nat) (dp sp : Option Addr) (dLen dCap sLen sCap : Nat) (hd : a.eval d = .slice dp dLen dCap) (hs : a.eval s = .slice sp sLen sCap)
    (cur : List Value) (t : TypeId) (hg : Blk w g t cur) (cs : List Value) (hn : cs.length = Nat.min sLen dLen) (hdp : 0 < cs.length → dp = some ⟨g, off, none⟩)
    (hrow : Row w sp cs) (hfit : off + cs.length ≤ cur.length) (h1 : ∀ v ∈ cs, v.oneCell' = true)
    (h : ∀ w', Blk w' g t (splice cur off cs) → Kp (oneB g) w w' → w'.heap.size = w.heap.size → K (a.put o.dst (goInt cs.length)) w') :
    if Region.wanted o (yielded ops a.tmps) = true then Oper.wp P o a w K Q else E := by
 have hw : Region.wanted o (yielded ops a.tmps) = true := by simp [Region.wanted, hgd]
 rw [if_pos hw]
 by_cases h0 : cs.length = 0
 · obtain rfl : cs = [] := List.eq_nil_of_length_eq_zero h0
   have hrun := run_copy_none (P := P) w dT sT o.type elem dp sp dLen dCap sLen sCap hu hsz (by simpa using hn.symm)
   unfold Oper.wp
   simp [execOp, ho, resolve, invoke, builtin, hd, hs, hrun, Result.andThen]
   exact h w (by simpa [splice] using hg) (Kp.refl _ _) rfl
 · rcases hrow with rfl | ⟨b, oo, rfl, _, hc⟩
   · simp at h0
   · obtain rfl := hdp (by omega)
     have hrun := run_copy_row (P := P) w dT sT o.type elem g off dLen dCap ⟨b, oo, none⟩ sLen sCap cur.toArray t cs hu hsz hg hn (fun j v hv => by rw [Addr.add_mid]; exact hc j v hv) (by simpa using hfit) h1
     unfold Oper.wp
     simp [execOp, ho, resolve, invoke, builtin, hd, hs, hrun, Result.andThen]
     exact h _ (show _ = _ by simpa [splice] using setRow_heap w g _ _ t _ hg) (setRow_kp _ _ _) (by simp [World.setRow])
def cutA (A : Option Addr) (c k : Nat) : Option Addr := if c = k then A else A.map (·.add k)
theorem ab_cut (A : Option Addr) (c k : Nat) : ab (cutA A c k) = ab A := by
 unfold cutA
 split
 · rfl
 · cases A with
   | none => rfl
   | some a => simp [ab, Addr.add]; split <;> rfl
theorem Row.cut {w : World} {A : Option Addr} {xs : List Value} (h : Row w A xs) {c k : Nat} (hl : xs.length ≤ c) : Row w (cutA A c k) (xs.drop k) := by
 unfold cutA
 split
 · rw [List.drop_eq_nil_of_le (by omega)]; exact Row.nil _ _
 · exact h.drop k
theorem run_slice_from {P : Program} (t e : TypeId) (ht : P.underlying t = some (.slice e)) (he : ∀ w, (sizeOf e).run P w = .ok 1 w) (A : Option Addr) (n c k : Nat) (hk : k ≤ n) (w : World) :
    (Instr.slice t (.slice A n c) (some (.int .i64 k)) none none).run P w = .ok (.slice (cutA A c k) (n - k) (c - k)) w := by
 have h1 : (0 : Int) ≤ k ∧ (k : Int) ≤ n := by omega
 simp [Instr.slice, run_underlying ht, Instr.sliceBounds, run_sliceBound, he, cutA, hk]
theorem wpList_exec {P : Program} {w w' : World} {ops : Array Oper} {rest : List Oper} {o : Oper} {a : Act} {Q : Exit → Act → World → Prop} (hgd : o.guard = none) {v : Value}
    (hr : (execOp a.eval o).run P w = .ok (.value v) w') (h : wpList P ops Q rest (a.put o.dst v) w') : wpList P ops Q (o :: rest) a w :=
 wpList_plain hgd fun K hK => by unfold Oper.wp; rw [hr]; exact hK _ _ h
theorem wpList_built {P : Program} {w : World} {ops : Array Oper} {rest : List Oper} {o : Oper} {a : Act} {Q : Exit → Act → World → Prop} (hgd : o.guard = none) (t : TypeId) (fs : Array (Nat × Operand)) (_ho : o.op = .build t fs) (v : Value)
    (hr : (execOp a.eval o).run P w = .ok (.value v) w) (h : wpList P ops Q rest (a.put o.dst v) w) : wpList P ops Q (o :: rest) a w := wpList_exec hgd hr h
end Kit
open Go Go.RowKit Kit
def num8 (n : Int) : List UInt8 := le 8 (n % 18446744073709551616).toNat
@[simp] theorem num8_length (n : Int) : (num8 n).length = 8 := by simp [num8]
def textB (s : ByteArray) : List UInt8 := if s.size < 16777216 then le 3 s.size ++ sl s else []
theorem textB_le (s : ByteArray) : (textB s).length ≤ 3 + s.size := by unfold textB; split <;> simp
def oneF (b : Nat) : Nat → Prop := fun k => k = b
def bust : List UInt8 × Bool := ([], true)
def can (s : List UInt8 × Bool) (n : Int) : Bool := decide (s.2 = false ∧ 0 ≤ n ∧ n ≤ s.1.length)
def sTake (s : List UInt8 × Bool) (n : Int) : (List UInt8 × Bool) × (List UInt8 × Bool) :=
 if can s n then ((s.1.take n.toNat, true), (s.1.drop n.toNat, false)) else (([], false), bust)
def sNum (s : List UInt8 × Bool) : Int × (List UInt8 × Bool) := (wrap64 (lowN (sTake s 8).1.1 : Nat), (sTake s 8).2)
theorem sTake_length (s : List UInt8 × Bool) (n : Int) : (sTake s n).1.1.length ≤ n.toNat := by
 unfold sTake; split <;> simp; omega
def sIn (s : List UInt8 × Bool) (lo hi : Int) : Int × (List UInt8 × Bool) := if (sNum s).1 < lo ∨ hi < (sNum s).1 then (0, bust) else sNum s
def sText (s : List UInt8 × Bool) (most : Int) : List UInt8 × (List UInt8 × Bool) :=
 if min most 65536 < (lowN (sTake s 3).1.1 : Nat) then ([], bust) else ((sTake (sTake s 3).2 (lowN (sTake s 3).1.1 : Nat)).1.1, (sTake (sTake s 3).2 (lowN (sTake s 3).1.1 : Nat)).2)
theorem num8_back (l : List UInt8) (h : l.length = 8) : num8 (wrap64 (lowN l : Nat)) = l := by
 have h1 := lowN_lt l
 rw [h] at h1
 have e : (wrap64 (lowN l : Nat) % 18446744073709551616).toNat = lowN l := by
  have := IntKind.wrap_i64 (lowN l : Nat)
  simp only [wrap64] at *
  omega
 unfold num8
 rw [e, ← h]
 exact le_lowN l
theorem num8_forth (n : Int) (h : -9223372036854775808 ≤ n ∧ n ≤ 9223372036854775807) : wrap64 (lowN (num8 n) : Nat) = n := by
 unfold num8
 rw [lowN_le, show (256 : Nat) ^ 8 = 18446744073709551616 from rfl]
 have := IntKind.wrap_i64 (((n % 18446744073709551616).toNat % 18446744073709551616 : Nat) : Int)
 simp only [wrap64] at *
 omega
theorem sTake_app (a W : List UInt8) (n : Int) (h : (a.length : Int) = n) : sTake (a ++ W, false) n = ((a, true), (W, false)) := by
 subst h
 have hc : can (a ++ W, false) (a.length : Int) = true := by simp [can]; omega
 simp [sTake, hc]
theorem sTake_no (s : List UInt8 × Bool) (n : Int) (h : s.1.length < n ∨ s.2 = true) : sTake s n = (([], false), bust) := by
 have hc : can s n = false := by
  simp only [can, decide_eq_false_iff_not]
  rcases h with h | h
  · omega
  · simp [h]
 simp [sTake, hc]
theorem u8_under : Tryz.prog.underlying 58 = some (.slice 5) := by kernel_rfl
theorem cell_of_heap {w : World} {b : Nat} {cs : Array Value} {t : TypeId} {fr : Nat × Nat} (h : w.heap[b]? = some (.cells cs t fr)) (j : Nat) : w.cell? ⟨b, j, none⟩ = cs[j]? := by simp [World.cell?, h]
theorem frozen_of_heap {w : World} {b : Nat} {cs : Array Value} {t : TypeId} (h : w.heap[b]? = some (.cells cs t (0, 0))) (j : Nat) : w.frozen? ⟨b, j, none⟩ = false := by simp [World.frozen?, h]
theorem heap_setCell {w : World} {b : Nat} {cs : Array Value} {t : TypeId} {fr : Nat × Nat} (h : w.heap[b]? = some (.cells cs t fr)) (j : Nat) (v : Value) : (w.setCell ⟨b, j, none⟩ v).heap[b]? = some (.cells (cs.setIfInBounds j v) t fr) := by
 simp [World.setCell, Array.getElem?_modify, h]
theorem u8_string : Tryz.prog.underlying 9 = some .string := by kernel_rfl
theorem conv_row (w1 : World) (A2 : Option Addr) (n c : Nat) (l : List UInt8) (hn : l.length = n) (hr : Row w1 A2 (bvs l)) : (convert 58 9 (.slice A2 n c)).run Tryz.prog w1 = .ok (.string (str l)) w1 :=
 run_bytes_str w1 58 9 5 u8_under (by kernel_rfl) u8_string A2 n c l hn hr
namespace Rec
open Go Go.RowKit Kit
theorem sNum_app (n : Int) (W : List UInt8) (h : -9223372036854775808 ≤ n ∧ n ≤ 9223372036854775807) : sNum (num8 n ++ W, false) = (n, (W, false)) := by
 unfold sNum
 rw [sTake_app (num8 n) W 8 (by simp)]
 simp only [num8_forth n h]
theorem sText_app (l W : List UInt8) (most : Int) (h : (l.length : Int) ≤ most) (h2 : l.length ≤ 65536) : sText (textB (str l) ++ W, false) most = (l, (W, false)) := by
 have ht : textB (str l) = le 3 l.length ++ l := by unfold textB; rw [str_size, if_pos (by omega), sl_str]
 have e1 : sTake (textB (str l) ++ W, false) 3 = ((le 3 l.length, true), (l ++ W, false)) := by
  rw [ht, List.append_assoc]; exact sTake_app _ _ _ (by simp)
 have e2 : lowN (le 3 l.length) = l.length := by rw [lowN_le]; exact Nat.mod_eq_of_lt (by omega)
 have e3 : sTake (l ++ W, false) (l.length : Int) = ((l, true), (W, false)) := sTake_app _ _ _ (by simp)
 unfold sText
 rw [e1]
 simp only [e2, e3]
 rw [if_neg (by omega)]
structure Rec where
 kind : Int
 queue : Int
 id : Int
 num : Int
 wait : Int
 body : List UInt8
deriving DecidableEq
def inB (n lo hi : Int) : Bool := decide (lo ≤ n) && decide (n ≤ hi)
def good (r : Rec) : Bool :=
 let queue := inB r.queue 1 16
 let id := inB r.id 1 1099511627776
 let body := decide (r.body.length ≤ 512)
 let bare := r.body.isEmpty
 if r.kind = 1 then queue && inB r.id 1 16 && inB r.num 1 64 && inB r.wait 1 1048576 && bare
 else if r.kind = 2 then queue && decide (r.id = 0) && decide (r.num = 0) && decide (r.wait = 0) && bare
 else if r.kind = 3 then queue && id && decide (r.num = 0) && decide (r.wait = 0) && body
 else if r.kind = 4 then queue && id && inB r.num 1 1125899907891200 && decide (r.wait = 0) && bare
 else if r.kind = 5 ∨ r.kind = 6 ∨ r.kind = 10 then queue && id && decide (r.num = 0) && decide (r.wait = 0) && bare
 else if r.kind = 13 then queue && inB r.id 1 1099511627777 && decide (r.num = 0) && decide (r.wait = 0) && bare
 else if r.kind = 7 then decide (r.queue = 0) && decide (r.id = 0) && inB r.num 0 1125899906842624 && decide (r.wait = 0) && bare
 else if r.kind = 8 ∨ r.kind = 9 then decide (r.queue = 0) && id && decide (r.num = 0) && decide (r.wait = 0) && bare
 else if r.kind = 11 then queue && id && inB r.num 0 1125899907891200 && inB r.wait 0 16 && body
 else if r.kind = 12 then queue && id && decide (r.num = 0) && inB r.wait 0 16 && body
 else false
theorem good_bounds (r : Rec) (h : good r = true) : 1 ≤ r.kind ∧ r.kind ≤ 13 ∧ 0 ≤ r.queue ∧ r.queue ≤ 16 ∧ 0 ≤ r.id ∧ r.id ≤ 1099511627777 ∧ 0 ≤ r.num ∧ r.num ≤ 1125899907891200 ∧ 0 ≤ r.wait ∧ r.wait ≤ 1048576 ∧ r.body.length ≤ 512 := by
 obtain ⟨kind, queue, id, num, wait, body⟩ := r
 unfold good at h
 simp only [inB] at h
 show 1 ≤ kind ∧ kind ≤ 13 ∧ 0 ≤ queue ∧ queue ≤ 16 ∧ 0 ≤ id ∧ id ≤ 1099511627777 ∧ 0 ≤ num ∧ num ≤ 1125899907891200 ∧ 0 ≤ wait ∧ wait ≤ 1048576 ∧ body.length ≤ 512
 have hb : body.isEmpty = true → body.length ≤ 512 := fun e => by simp at e; simp [e]
 split at h
 · simp at h; refine ⟨by omega, by omega, by omega, by omega, by omega, by omega, by omega, by omega, by omega, by omega, hb (by simp [h])⟩
 split at h
 · simp at h; refine ⟨by omega, by omega, by omega, by omega, by omega, by omega, by omega, by omega, by omega, by omega, hb (by simp [h])⟩
 split at h
 · simp at h; refine ⟨by omega, by omega, by omega, by omega, by omega, by omega, by omega, by omega, by omega, by omega, h.2⟩
 split at h
 · simp at h; refine ⟨by omega, by omega, by omega, by omega, by omega, by omega, by omega, by omega, by omega, by omega, hb (by simp [h])⟩
 split at h
 · simp at h; refine ⟨by omega, by omega, by omega, by omega, by omega, by omega, by omega, by omega, by omega, by omega, hb (by simp [h])⟩
 split at h
 · simp at h; refine ⟨by omega, by omega, by omega, by omega, by omega, by omega, by omega, by omega, by omega, by omega, hb (by simp [h])⟩
 split at h
 · simp at h; refine ⟨by omega, by omega, by omega, by omega, by omega, by omega, by omega, by omega, by omega, by omega, hb (by simp [h])⟩
 split at h
 · simp at h; refine ⟨by omega, by omega, by omega, by omega, by omega, by omega, by omega, by omega, by omega, by omega, hb (by simp [h])⟩
 split at h
 · simp at h; refine ⟨by omega, by omega, by omega, by omega, by omega, by omega, by omega, by omega, by omega, by omega, h.2⟩
 split at h
 · simp at h; refine ⟨by omega, by omega, by omega, by omega, by omega, by omega, by omega, by omega, by omega, by omega, h.2⟩
 · cases h
def recB (r : Rec) : List UInt8 := UInt8.ofNat r.kind.toNat :: (num8 r.queue ++ (num8 r.id ++ (num8 r.num ++ (num8 r.wait ++ textB (str r.body)))))
theorem recB_length (r : Rec) (h : r.body.length ≤ 4096) : (recB r).length = 36 + r.body.length := by
 have ht : textB (str r.body) = le 3 r.body.length ++ r.body := by unfold textB; rw [str_size, if_pos (by omega), sl_str]
 rw [recB, ht]; simp; omega
def recRead (l : List UInt8) : Rec × (List UInt8 × Bool) :=
 let s0 := (sTake (l, false) 1)
 let q := sNum s0.2
 let i := sNum q.2
 let n := sNum i.2
 let t := sNum n.2
 let b := sText t.2 512
 (⟨((gbA s0.1.1 : Nat) : Int), q.1, i.1, n.1, t.1, b.1⟩, b.2)
where gbA (l : List UInt8) : Nat := (l.getD 0 0).toNat
def recGet (l : List UInt8) : Option Rec :=
 if l = [] then none
 else if (recRead l).2.2 = false ∧ (recRead l).2.1 = [] ∧ good (recRead l).1 = true then some (recRead l).1 else none
theorem sTake_one (b : UInt8) (l : List UInt8) : sTake (b :: l, false) 1 = (([b], true), (l, false)) := sTake_app [b] l 1 rfl
theorem recRead_cons (b : UInt8) (l : List UInt8) : recRead (b :: l) = (⟨(b.toNat : Int), (sNum (l, false)).1, (sNum (sNum (l, false)).2).1, (sNum (sNum (sNum (l, false)).2).2).1, (sNum (sNum (sNum (sNum (l, false)).2).2).2).1, (sText (sNum (sNum (sNum (sNum (l, false)).2).2).2).2 512).1⟩, (sText (sNum (sNum (sNum (sNum (l, false)).2).2).2).2 512).2) := by
 unfold recRead
 rw [sTake_one]
 rfl
theorem recRead_app (r : Rec) (W : List UInt8) (h : good r = true) : recRead (recB r ++ W) = (r, (W, false)) := by
 have hb := good_bounds r h
 have e1 := sNum_app r.queue (num8 r.id ++ (num8 r.num ++ (num8 r.wait ++ (textB (str r.body) ++ W)))) (by omega)
 have e2 := sNum_app r.id (num8 r.num ++ (num8 r.wait ++ (textB (str r.body) ++ W))) (by omega)
 have e3 := sNum_app r.num (num8 r.wait ++ (textB (str r.body) ++ W)) (by omega)
 have e4 := sNum_app r.wait (textB (str r.body) ++ W) (by omega)
 have e5 := sText_app r.body W 512 (by omega) (by omega)
 have e0 : recB r ++ W = UInt8.ofNat r.kind.toNat :: (num8 r.queue ++ (num8 r.id ++ (num8 r.num ++ (num8 r.wait ++ (textB (str r.body) ++ W))))) := by
  unfold recB; simp
 rw [e0, recRead_cons, e1]
 simp only [e2, e3, e4, e5]
 have ek : (((UInt8.ofNat r.kind.toNat).toNat : Nat) : Int) = r.kind := by rw [UInt8.toNat_ofNat']; omega
 rw [ek]
theorem recRead_recB (r : Rec) (h : good r = true) : recRead (recB r) = (r, ([], false)) := by
 have := recRead_app r [] h
 rwa [List.append_nil] at this
theorem recB_ne (r : Rec) : recB r ≠ [] := by unfold recB; simp
theorem recGet_recB (r : Rec) (h : good r = true) : recGet (recB r) = some r := by
 rw [recGet, if_neg (recB_ne r), recRead_recB r h, if_pos ⟨rfl, rfl, h⟩]
attribute [irreducible] good recB recRead recGet
def rv (r : Rec) : Value := .agg #[.int .i64 r.kind, .int .i64 r.queue, .int .i64 r.id, .int .i64 r.num, .int .i64 r.wait, .string (str r.body)]
end Rec
end Go.Proofs.YtigdlnfgdjfdoaaGreat
