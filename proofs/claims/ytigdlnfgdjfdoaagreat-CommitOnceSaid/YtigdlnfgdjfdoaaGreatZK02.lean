/- Lemmas: Pcs IdealA MkS SegE BlkB BlkC. -/
import Derived.Test.YtigdlnfgdjfdoaaGreatZK01
set_option maxHeartbeats 4000000
set_option maxRecDepth 100000
set_option linter.unusedVariables false
set_option linter.unusedSimpArgs false
namespace Go.Proofs.YtigdlnfgdjfdoaaGreat
namespace Sha
open Go Go.RowKit Kit
structure Pc where
 A : Option Addr
 n : Nat
 c : Nat
 l : List UInt8
def Pc.v (p : Pc) : Value := .slice p.A p.n p.c
def PcsOk (w : World) (F : Nat → Prop) (ps : List Pc) : Prop := ∀ p ∈ ps, p.l.length = p.n ∧ Row w p.A (bvs p.l) ∧ (p.l = [] ∨ ∀ k, ab p.A = some k → ¬ F k) ∧ p.n ≤ p.c ∧ p.c ≤ maxLen
theorem PcsOk.keep {F G : Nat → Prop} {w w' : World} {ps : List Pc} (h : PcsOk w F ps) (hk : Kp G w w') (hG : ∀ k, G k → F k) : PcsOk w' F ps := fun p hp => by
 obtain ⟨h1, h2, h3, h4, h5⟩ := h p hp
 refine ⟨h1, ?_, h3, h4, h5⟩
 rcases h3 with h3 | h3
 · rw [h3]; exact Row.nil _ _
 · exact h2.keep hk (fun k e e' => h3 k e (hG k e'))
theorem PcsOk.mono {F G : Nat → Prop} {w : World} {ps : List Pc} (h : PcsOk w F ps) (hG : ∀ k, G k → F k) : PcsOk w G ps := fun p hp => by
 obtain ⟨h1, h2, h3, h4, h5⟩ := h p hp
 exact ⟨h1, h2, h3.imp_right (fun h k e e' => h k e (hG k e')), h4, h5⟩
def catP (ps : List Pc) : List UInt8 := ps.flatMap (·.l)
theorem catP_snoc (ps : List Pc) (k : Nat) (h : k < ps.length) : catP (ps.take (k + 1)) = catP (ps.take k) ++ ps[k].l := by
 unfold catP
 rw [List.take_add_one, List.getElem?_eq_getElem h, List.flatMap_append]; simp only [Option.toList_some, List.flatMap_cons, List.flatMap_nil, List.append_nil]
theorem catP_le (ps : List Pc) (k : Nat) : (catP (ps.take k)).length ≤ (catP ps).length := by
 unfold catP
 conv => rhs; rw [← List.take_append_drop k ps, List.flatMap_append, List.length_append]
 omega
theorem pcs_one {w : World} {F : Nat → Prop} {p : Pc} (h1 : p.l.length = p.n) (h2 : Row w p.A (bvs p.l)) (h3 : p.l = [] ∨ ∀ k, ab p.A = some k → ¬ F k) (h4 : p.n ≤ p.c) (h5 : p.c ≤ maxLen) : PcsOk w F [p] := by
 intro q hq
 obtain rfl := List.mem_singleton.1 hq
 exact ⟨h1, h2, h3, h4, h5⟩
theorem pcs_more {w : World} {F : Nat → Prop} {p : Pc} {ps : List Pc} (h : PcsOk w F [p]) (hs : PcsOk w F ps) : PcsOk w F (p :: ps) := by
 intro q hq
 rcases List.mem_cons.1 hq with rfl | hq
 · exact h q (by simp)
 · exact hs q hq
theorem catP_one (p : Pc) : catP [p] = p.l := by simp [catP]
end Sha
namespace Ideal
open Go Go.RowKit Kit
open Sha (Pc PcsOk catP)
structure Arg (w : World) (F : Nat → Prop) (A : Option Addr) (n c : Nat) (l : List UInt8) : Prop where
 len : l.length = n
 row : Row w A (bvs l)
 far : l = [] ∨ ∀ k, ab A = some k → ¬ F k
 cap : n ≤ c
 mx : c ≤ maxLen
 nil : A = none → c = 0
theorem Arg.keep {w w2 : World} {F G : Nat → Prop} {A : Option Addr} {n c : Nat} {l : List UInt8} (h : Arg w F A n c l) (k : Kp G w w2) (hG : ∀ i, G i → F i) : Arg w2 F A n c l :=
 ⟨h.len, by
  rcases h.far with e | e
  · rw [e]; exact Row.nil _ _
  · exact h.row.keep k (fun j e1 e2 => e j e1 (hG j e2)), h.far, h.cap, h.mx, h.nil⟩
theorem Arg.keep0 {w w2 : World} {F : Nat → Prop} {A : Option Addr} {n c : Nat} {l : List UInt8} (h : Arg w F A n c l) (k : Kp nob w w2) : Arg w2 F A n c l := h.keep k (fun _ e => e.elim)
theorem Arg.mono {w : World} {F G : Nat → Prop} {A : Option Addr} {n c : Nat} {l : List UInt8} (h : Arg w F A n c l) (hG : ∀ i, i < w.heap.size → G i → F i) : Arg w G A n c l :=
 ⟨h.len, h.row, by
  by_cases e : l = []
  · exact .inl e
  · exact .inr (fun k hk hg => (h.far.resolve_left e) k hk (hG k (h.row.lt (by simpa [bvs] using e) k hk) hg)), h.cap, h.mx, h.nil⟩
structure Args (w : World) (F : Nat → Prop) (B : Option Addr) (m : Nat) (ps : List Pc) : Prop where
 len : ps.length = m
 row : Row w B (ps.map Pc.v)
 far : ps = [] ∨ ∀ k, ab B = some k → ¬ F k
 pcs : PcsOk w F ps
 nil : ∀ p ∈ ps, p.A = none → p.c = 0
 max : m ≤ 1099511627776
theorem Args.keep0 {w w2 : World} {F : Nat → Prop} {B : Option Addr} {m : Nat} {ps : List Pc} (h : Args w F B m ps) (k : Kp nob w w2) : Args w2 F B m ps :=
 ⟨h.len, h.row.keep0 k, h.far, h.pcs.keep k (fun _ e => e.elim), h.nil, h.max⟩
theorem Arg.pc {w : World} {F : Nat → Prop} {A : Option Addr} {n c : Nat} {l : List UInt8} (h : Arg w F A n c l) : PcsOk w F [⟨A, n, c, l⟩] := Sha.pcs_one h.len h.row h.far h.cap h.mx
theorem args_one {w : World} {F : Nat → Prop} {A : Option Addr} {n c : Nat} {l : List UInt8} {t : TypeId} (h : Arg w F A n c l) (hF : ∀ k, F k → k < w.heap.size) : Args (w.alloc (.cells #[.slice A n c] t)) F (some ⟨w.heap.size, 0, none⟩) 1 [⟨A, n, c, l⟩] :=
 have h' := h.keep0 ((Kp.refl nob w).alloc (.cells #[.slice A n c] t))
 ⟨rfl, row_new w [.slice A n c] t, .inr (fun k e hk => by cases e; exact Nat.lt_irrefl _ (hF _ hk)), h'.pc, (fun p hp => by rcases List.mem_singleton.1 hp with rfl; exact h.nil), by omega⟩
theorem args_two {w : World} {F : Nat → Prop} {A B : Option Addr} {n c m d : Nat} {l o : List UInt8} {t : TypeId} (h : Arg w F A n c l) (g : Arg w F B m d o) (hF : ∀ k, F k → k < w.heap.size) : Args (w.alloc (.cells #[.slice A n c, .slice B m d] t)) F (some ⟨w.heap.size, 0, none⟩) 2 [⟨A, n, c, l⟩, ⟨B, m, d, o⟩] :=
 have k := (Kp.refl nob w).alloc (.cells #[.slice A n c, .slice B m d] t)
 ⟨rfl, row_new w [.slice A n c, .slice B m d] t, .inr (fun k e hk => by cases e; exact Nat.lt_irrefl _ (hF _ hk)), Sha.pcs_more (h.keep0 k).pc (g.keep0 k).pc, (fun p hp => by
  rcases List.mem_cons.1 hp with rfl | hp
  · exact h.nil
  · rcases List.mem_singleton.1 hp with rfl; exact g.nil), by omega⟩
theorem args_three {w : World} {F : Nat → Prop} {A B C : Option Addr} {n c m d i j : Nat} {l o s : List UInt8} {t : TypeId} (h : Arg w F A n c l) (g : Arg w F B m d o) (f : Arg w F C i j s) (hF : ∀ k, F k → k < w.heap.size) : Args (w.alloc (.cells #[.slice A n c, .slice B m d, .slice C i j] t)) F (some ⟨w.heap.size, 0, none⟩) 3 [⟨A, n, c, l⟩, ⟨B, m, d, o⟩, ⟨C, i, j, s⟩] :=
 have k := (Kp.refl nob w).alloc (.cells #[.slice A n c, .slice B m d, .slice C i j] t)
 ⟨rfl, row_new w [.slice A n c, .slice B m d, .slice C i j] t, .inr (fun k e hk => by cases e; exact Nat.lt_irrefl _ (hF _ hk)), Sha.pcs_more (h.keep0 k).pc (Sha.pcs_more (g.keep0 k).pc (f.keep0 k).pc), (fun p hp => by
  rcases List.mem_cons.1 hp with rfl | hp
  · exact h.nil
  · rcases List.mem_cons.1 hp with rfl | hp
    · exact g.nil
    · rcases List.mem_singleton.1 hp with rfl; exact f.nil), by omega⟩
theorem str_arg {P : Program} (w : World) (src dst e : TypeId) (l : List UInt8) (hl : l.length ≤ maxLen) (hs : P.underlying src = some .string) (hd : P.underlying dst = some (.slice e)) (he : P.underlying e = some (.int .u8)) :
    ∃ (c : Nat) (w' : World), (convert src dst (.string (str l))).run P w = .ok (.slice (some ⟨w.heap.size, 0, none⟩) l.length c) w' ∧ Kp nob w w' ∧ w'.heap.size = w.heap.size + 1 ∧
     ∀ F : Nat → Prop, (∀ k, F k → k < w.heap.size) → Arg w' F (some ⟨w.heap.size, 0, none⟩) l.length c l := by
 obtain ⟨c, w', hr, h1, h2, h3, h4, h5⟩ : ∃ (c : Nat) (w' : World), (convert src dst (.string (str l))).run P w = .ok (.slice (some ⟨w.heap.size, 0, none⟩) (str l).size c) w' ∧ Row w' (some ⟨w.heap.size, 0, none⟩) (bvs (sl (str l))) ∧ Kp nob w w' ∧ w'.heap.size = w.heap.size + 1 ∧ (str l).size ≤ c ∧ c ≤ maxLen := by
  have hr := run_bytes_of_string (P := P) w src dst e (str l) hs hd he
  obtain ⟨c, w', hr', h1, h2, h3⟩ := run_str_bytes (P := P) w src dst e (str l) hs hd he
  rw [hr] at hr'
  have hc : grownCap w (str l).size 0 e = c := by
   have := congrArg (fun r => match r with | Result.ok (Value.slice _ _ c) _ => c | _ => 0) hr'
   exact this
  exact ⟨c, w', by rw [hr, hr'], h1, h2, h3, by rw [← hc]; exact grownCap_ge w _ 0 e, by rw [← hc]; exact grownCap_le_maxLen w _ 0 e (by rw [str_size]; exact hl)⟩
 rw [str_size] at hr h4
 rw [sl_str] at h1
 exact ⟨c, w', hr, h2, h3, fun F hF => ⟨rfl, h1, .inr (fun k e hk => by cases e; exact Nat.lt_irrefl _ (hF _ hk)), h4, h5, (fun e => by cases e)⟩⟩
theorem wpList_str_arg {P : Program} {w : World} {ops : Array Oper} {rest : List Oper} {o : Oper} {a : Act} {Q : Exit → Act → World → Prop} (hgd : o.guard = none) (src dst e : TypeId) (x : Operand) (ho : o.op = .convert src dst x)
    (hs : P.underlying src = some .string) (hd : P.underlying dst = some (.slice e)) (he : P.underlying e = some (.int .u8)) (l : List UInt8) (hl : l.length ≤ maxLen) (hx : a.eval x = .string (str l))
    (h : ∀ c w', Kp nob w w' → w'.heap.size = w.heap.size + 1 → (∀ F : Nat → Prop, (∀ k, F k → k < w.heap.size) → Arg w' F (some ⟨w.heap.size, 0, none⟩) l.length c l) → wpList P ops Q rest (a.put o.dst (.slice (some ⟨w.heap.size, 0, none⟩) l.length c)) w') : wpList P ops Q (o :: rest) a w := by
 obtain ⟨c, w', hr, h1, h2, h3⟩ := str_arg (P := P) w src dst e l hl hs hd he
 refine wpList_exec hgd (v := .slice (some ⟨w.heap.size, 0, none⟩) l.length c) (w' := w') ?_ (h c w' h1 h2 h3)
 unfold execOp
 simp only [ho, hx, Sem.run_bind, hr, Result.andThen_ok, Sem.run_pure]
theorem wpList_str_argN {P : Program} {w : World} {ops : Array Oper} {rest : List Oper} {o : Oper} {a : Act} {Q : Exit → Act → World → Prop} (hgd : o.guard = none) (src dst e : TypeId) (x : Operand) (ho : o.op = .convert src dst x)
    (hs : P.underlying src = some .string) (hd : P.underlying dst = some (.slice e)) (he : P.underlying e = some (.int .u8)) (l : List UInt8) (n : Nat) (hn : l.length = n) (hl : n ≤ maxLen) (hx : a.eval x = .string (str l))
    (h : ∀ c w', Kp nob w w' → w'.heap.size = w.heap.size + 1 → (∀ F : Nat → Prop, (∀ k, F k → k < w.heap.size) → Arg w' F (some ⟨w.heap.size, 0, none⟩) n c l) → wpList P ops Q rest (a.put o.dst (.slice (some ⟨w.heap.size, 0, none⟩) n c)) w') : wpList P ops Q (o :: rest) a w := by
 subst hn
 exact wpList_str_arg hgd src dst e x ho hs hd he l hl hx h
def hashT (l : List UInt8) : Thing := ⟨72, l, [], [], []⟩
def derT (key l : List UInt8) : Thing := ⟨68, key, l, [], []⟩
end Ideal
namespace Ideal
inductive Ts where
 | real (f : Thing → List UInt8)
 | dream (ts : List Thing)
def Ts.val : Ts → Thing → Nat → List UInt8
 | .real f, t, _ => f t
 | .dream ts, t, n => out ts t n
def Ts.nx : Ts → Thing → Ts
 | .real f, _ => .real f
 | .dream ts, t => .dream (mk ts t)
def Ts.has : Ts → Thing → Prop
 | .real _, _ => True
 | .dream ts, t => t ∈ ts
def Ts.few : Ts → Nat → Prop
 | .real _, _ => True
 | .dream ts, n => ts.length ≤ n
inductive Ts.sub : Ts → Ts → Prop where
 | refl (o : Ts) : Ts.sub o o
 | step {o p : Ts} (t : Thing) (h : Ts.sub o p) : Ts.sub o (p.nx t)
theorem Ts.sub.trans {o p q : Ts} (h : o.sub p) (g : p.sub q) : o.sub q := by
 induction g with
 | refl => exact h
 | step t g ih => exact .step t ih
theorem Ts.sub_nx (o : Ts) (t : Thing) : o.sub (o.nx t) := .step t (.refl o)
theorem Ts.has_nx (o : Ts) (t : Thing) : (o.nx t).has t := by
 cases o with
 | real f => trivial
 | dream ts => exact mk_mem ts t
theorem Ts.has.nx {o : Ts} {t : Thing} (h : o.has t) (u : Thing) : (o.nx u).has t := by
 cases o with
 | real f => trivial
 | dream ts => exact mk_sub ts u h
theorem Ts.has.sub {o p : Ts} {t : Thing} (h : o.has t) (g : o.sub p) : p.has t := by
 induction g with
 | refl => exact h
 | step u g ih => exact ih.nx u
theorem Ts.has.same {o : Ts} {t : Thing} (h : o.has t) : o.nx t = o := by
 cases o with
 | real f => rfl
 | dream ts => exact congrArg Ts.dream (mk_old ts t h)
theorem Ts.has.val {o p : Ts} {t : Thing} (h : o.has t) (g : o.sub p) (n : Nat) : p.val t n = o.val t n := by
 induction g with
 | refl => rfl
 | @step p u g ih =>
   rw [← ih]
   have hp := h.sub g
   cases p with
   | real f => rfl
   | dream ts =>
     show out (mk ts u) t n = out ts t n
     rw [out_old _ _ _ (mk_sub ts u hp), out_old _ _ _ hp, num_stays ts u t hp]
theorem Ts.val_nx (o : Ts) (t : Thing) (n : Nat) : (o.nx t).val t n = o.val t n := by
 cases o with
 | real f => rfl
 | dream ts => show out (mk ts t) t n = out ts t n; rw [out_old _ _ _ (mk_mem ts t), out]
theorem Ts.again {o p : Ts} {t : Thing} (g : (o.nx t).sub p) (n : Nat) : p.val t n = o.val t n ∧ p.nx t = p :=
 ⟨by rw [(o.has_nx t).val g, o.val_nx], ((o.has_nx t).sub g).same⟩
theorem Ts.few.nx {o : Ts} {k : Nat} (h : o.few k) (t : Thing) : (o.nx t).few (k + 1) := by
 cases o with
 | real f => trivial
 | dream ts => exact Nat.le_trans (mk_length_le ts t) (Nat.succ_le_succ h)
theorem Ts.few.mono {o : Ts} {k m : Nat} (h : o.few k) (hk : k ≤ m) : o.few m := by
 cases o with
 | real f => trivial
 | dream ts => exact Nat.le_trans h hk
def Ts.long : Ts → Prop
 | .real f => (∀ t, t.kind = 72 ∨ t.kind = 77 ∨ t.kind = 68 → (f t).length = 32) ∧ (∀ t, t.kind = 83 → (f t).length = t.d.length + 16)
 | .dream _ => True
theorem Ts.long.nx {o : Ts} (h : o.long) (t : Thing) : (o.nx t).long := by
 cases o with
 | real f => exact h
 | dream ts => trivial
theorem Ts.long.sub {o p : Ts} (h : o.long) (g : o.sub p) : p.long := by
 induction g with
 | refl => exact h
 | step t g ih => exact ih.nx t
theorem Ts.long.len {o : Ts} (h : o.long) (t : Thing) (ht : t.kind = 72 ∨ t.kind = 77 ∨ t.kind = 68) : (o.val t 32).length = 32 := by
 cases o with
 | real f => exact h.1 t ht
 | dream ts => exact out_length _ _ _ (by decide)
theorem Ts.long.seal_ {o : Ts} (h : o.long) (key nonce aad text : List UInt8) : (o.val (sealT key nonce aad text) (text.length + 16)).length = text.length + 16 := by
 cases o with
 | real f => exact h.2 _ rfl
 | dream ts => exact out_length _ _ _ (by omega)
def leafT (b : List UInt8) : Thing := hashT (49 :: b)
def pairT (a b : List UInt8) : Thing := hashT (50 :: (a ++ b))
def dbl (n : Nat) : Nat → Nat → Nat
 | 0, k => k
 | f + 1, k => if 2 * k < n then dbl n f (2 * k) else k
def half (n : Nat) : Nat := dbl n n 1
theorem dbl_pos (n : Nat) : ∀ f k, 0 < k → 0 < dbl n f k
 | 0, _, h => h
 | f + 1, k, h => by
   rw [dbl]; split
   · exact dbl_pos n f (2 * k) (by omega)
   · exact h
theorem dbl_lt (n : Nat) : ∀ f k, k < n → dbl n f k < n
 | 0, _, h => h
 | f + 1, k, h => by
   rw [dbl]; split
   · rename_i h2; exact dbl_lt n f (2 * k) h2
   · exact h
theorem half_pos (n : Nat) : 0 < half n := dbl_pos n n 1 (by decide)
theorem half_lt (n : Nat) (h : 2 ≤ n) : half n < n := dbl_lt n n 1 (by omega)
theorem dbl_pow (n : Nat) : ∀ f k e, n ≤ f + k → 0 < k → k * 2 ^ e < n → n ≤ 2 * (k * 2 ^ e) → dbl n f k = k * 2 ^ e
 | 0, k, e, h1, h0, h2, h3 => by
   have : 1 ≤ 2 ^ e := Nat.one_le_two_pow
   have : k * 1 ≤ k * 2 ^ e := Nat.mul_le_mul_left k this
   omega
 | f + 1, k, 0, h1, h0, h2, h3 => by
   rw [Nat.pow_zero, Nat.mul_one] at h2 h3 ⊢
   rw [dbl, if_neg (by omega)]
 | f + 1, k, e + 1, h1, h0, h2, h3 => by
   have he : k * 2 ^ (e + 1) = 2 * k * 2 ^ e := by rw [Nat.pow_succ, Nat.mul_comm (2 ^ e) 2, ← Nat.mul_assoc, Nat.mul_comm k 2]
   rw [he] at h2 h3 ⊢
   have : 1 ≤ 2 ^ e := Nat.one_le_two_pow
   have : 2 * k * 1 ≤ 2 * k * 2 ^ e := Nat.mul_le_mul_left (2 * k) this
   rw [dbl, if_pos (by omega)]
   exact dbl_pow n f (2 * k) e (by omega) (by omega) h2 h3
theorem half_pow (n e : Nat) (h2 : 2 ^ e < n) (h3 : n ≤ 2 * 2 ^ e) : half n = 2 ^ e := by
 have := dbl_pow n n 1 e (by omega) (by decide) (by rw [Nat.one_mul]; exact h2) (by rw [Nat.one_mul]; exact h3)
 rw [Nat.one_mul] at this
 exact this
def rootT (o : Ts) (l : List (List UInt8)) : List UInt8 × Ts :=
 if h0 : l.length = 0 then (o.val (hashT [48]) 32, o.nx (hashT [48]))
 else if h1 : l.length = 1 then (l.headD [], o)
 else (( (rootT (rootT o (l.take (half l.length))).2 (l.drop (half l.length))).2.val (pairT (rootT o (l.take (half l.length))).1 (rootT (rootT o (l.take (half l.length))).2 (l.drop (half l.length))).1) 32),
  (rootT (rootT o (l.take (half l.length))).2 (l.drop (half l.length))).2.nx (pairT (rootT o (l.take (half l.length))).1 (rootT (rootT o (l.take (half l.length))).2 (l.drop (half l.length))).1))
termination_by l.length
decreasing_by
 all_goals first
  | (have := half_lt l.length (by omega); rw [List.length_take]; omega)
  | (have := half_pos l.length; rw [List.length_drop]; omega)
theorem rootT_none (o : Ts) : rootT o [] = (o.val (hashT [48]) 32, o.nx (hashT [48])) := by rw [rootT]; rfl
theorem rootT_one (o : Ts) (d : List UInt8) : rootT o [d] = (d, o) := by rw [rootT]; rfl
theorem rootT_more (o : Ts) (l : List (List UInt8)) (h : 2 ≤ l.length) (x y : List UInt8 × Ts) (hx : rootT o (l.take (half l.length)) = x) (hy : rootT x.2 (l.drop (half l.length)) = y) :
    rootT o l = (y.2.val (pairT x.1 y.1) 32, y.2.nx (pairT x.1 y.1)) := by
 subst hx; subst hy
 rw [rootT, dif_neg (by omega), dif_neg (by omega)]
theorem rootT_facts (n : Nat) : ∀ (o : Ts) (l : List (List UInt8)), l.length ≤ n → o.sub (rootT o l).2 ∧ (∀ k, l ≠ [] → o.few (k + 1) → (rootT o l).2.few (k + l.length)) ∧ (o.long → (∀ d ∈ l, d.length = 32) → (rootT o l).1.length = 32) ∧
    (∀ p, (rootT o l).2.sub p → rootT p l = ((rootT o l).1, p)) := by
 induction n with
 | zero =>
   intro o l hl
   obtain rfl : l = [] := List.eq_nil_of_length_eq_zero (by omega)
   rw [rootT_none]
   exact ⟨o.sub_nx _, fun k hne => absurd rfl hne, fun h _ => h.len _ (.inl rfl), fun p hp => by rw [rootT_none]; exact Prod.ext (Ts.again hp 32).1 (Ts.again hp 32).2⟩
 | succ n ih =>
   intro o l hl
   match l, hl with
   | [], _ =>
     rw [rootT_none]
     exact ⟨o.sub_nx _, fun k hne => absurd rfl hne, fun h _ => h.len _ (.inl rfl), fun p hp => by rw [rootT_none]; exact Prod.ext (Ts.again hp 32).1 (Ts.again hp 32).2⟩
   | [d], _ =>
     rw [rootT_one]
     exact ⟨.refl o, fun k _ hk => hk, fun h hd => hd d (by simp), fun p hp => rootT_one p d⟩
   | a :: b :: l, hl =>
     generalize he : a :: b :: l = L at hl ⊢
     have h2 : 2 ≤ L.length := by rw [← he]; simp
     have hp := half_pos L.length
     have hlt := half_lt L.length h2
     obtain ⟨x, hx⟩ : ∃ x, rootT o (L.take (half L.length)) = x := ⟨_, rfl⟩
     obtain ⟨y, hy⟩ : ∃ y, rootT x.2 (L.drop (half L.length)) = y := ⟨_, rfl⟩
     obtain ⟨i1, i2, i3, i4⟩ := ih o (L.take (half L.length)) (by rw [List.length_take]; omega)
     obtain ⟨j1, j2, j3, j4⟩ := ih x.2 (L.drop (half L.length)) (by rw [List.length_drop]; omega)
     rw [hx] at i1 i2 i3 i4
     rw [hy] at j1 j2 j3 j4
     rw [rootT_more o L h2 x y hx hy]
     refine ⟨(i1.trans j1).step _, fun k _ hk => ?_, fun h hd => (h.sub (i1.trans j1)).len _ (.inl rfl), fun p hq => ?_⟩
     · have l1 : (L.take (half L.length)).length = half L.length := by rw [List.length_take]; omega
       have l2 : (L.drop (half L.length)).length = L.length - half L.length := List.length_drop
       have f1 := i2 k (fun e => by rw [e] at l1; simp at l1; omega) hk
       have f2 := j2 (k + half L.length - 1) (fun e => by rw [e] at l2; simp at l2; omega) (f1.mono (by omega))
       exact (f2.nx _).mono (by omega)
     · have e1 := i4 p (j1.trans ((Ts.sub_nx _ _).trans hq))
       have e2 := j4 p ((Ts.sub_nx _ _).trans hq)
       rw [rootT_more p L h2 (x.1, p) (y.1, p) e1 e2]
       exact Prod.ext (Ts.again hq 32).1 (Ts.again hq 32).2
theorem rootT_sub (o : Ts) (l : List (List UInt8)) : o.sub (rootT o l).2 := (rootT_facts l.length o l (Nat.le_refl _)).1
theorem rootT_few (o : Ts) (l : List (List UInt8)) (k : Nat) (h : o.few k) : (rootT o l).2.few (k + l.length + 1) := by
 by_cases e : l = []
 · subst e; rw [rootT_none]; exact h.nx _
 · exact ((rootT_facts l.length o l (Nat.le_refl _)).2.1 k e (h.mono (by omega))).mono (by omega)
theorem rootT_few1 (o : Ts) (l : List (List UInt8)) (k : Nat) (hne : l ≠ []) (h : o.few (k + 1)) : (rootT o l).2.few (k + l.length) := (rootT_facts l.length o l (Nat.le_refl _)).2.1 k hne h
theorem rootT_length (o : Ts) (l : List (List UInt8)) (h : o.long) (hd : ∀ d ∈ l, d.length = 32) : (rootT o l).1.length = 32 := (rootT_facts l.length o l (Nat.le_refl _)).2.2.1 h hd
theorem rootT_again (o : Ts) (l : List (List UInt8)) (p : Ts) (h : (rootT o l).2.sub p) : rootT p l = ((rootT o l).1, p) := (rootT_facts l.length o l (Nat.le_refl _)).2.2.2 p h
theorem opn_has (ts : List Thing) (key nonce aad d : List UInt8) (hw : ts.length < 1000000) (h : sealT key nonce aad d ∈ ts) : opn ts key nonce aad (out ts (sealT key nonce aad d) (d.length + 16)) = some d :=
 (opn_iff _ _ _ _ _ _ hw).2 ⟨h, rfl⟩
end Ideal
namespace Seg
open Go Go.RowKit Kit
open Rec (Rec good ftot fsec split)
open Ideal (Ts Thing)
def perr1 (lim : Nat) (epoch seq : Int) (i size : Nat) (r : Rec) : Int :=
 if good r = false then 1 else if 16384 < size + 63 + r.body.length then 3 else if epoch < 0 ∨ seq < 0 then 1 else if 4294967296 ≤ epoch ∨ (lim : Int) - (i : Int) ≤ seq then 10 else 0
def perrs (lim : Nat) (epoch seq : Int) : Nat → Nat → List Rec → Int
 | _, _, [] => 0
 | i, size, r :: rs => if perr1 lim epoch seq i size r = 0 then perrs lim epoch seq (i + 1) (size + 63 + r.body.length) rs else perr1 lim epoch seq i size r
def perr (lim : Nat) (epoch seq : Int) (rs : List Rec) : Int := if rs = [] then 1 else perrs lim epoch seq 0 48 rs
theorem perrs_cons (lim : Nat) (epoch seq : Int) (i size : Nat) (r : Rec) (rs : List Rec) : perrs lim epoch seq i size (r :: rs) = if perr1 lim epoch seq i size r = 0 then perrs lim epoch seq (i + 1) (size + 63 + r.body.length) rs else perr1 lim epoch seq i size r := rfl
theorem perr1_ok {lim : Nat} {epoch seq : Int} {i size : Nat} {r : Rec} (h : perr1 lim epoch seq i size r = 0) : good r = true ∧ size + 63 + r.body.length ≤ 16384 ∧ 0 ≤ epoch ∧ 0 ≤ seq ∧ epoch < 4294967296 ∧ seq < (lim : Int) - (i : Int) := by
 unfold perr1 at h
 split at h
 · omega
 · rename_i h1
   split at h
   · omega
   · split at h
     · omega
     · split at h
       · omega
       · exact ⟨by simpa using h1, by omega, by omega, by omega, by omega, by omega⟩
theorem perr1_range (lim : Nat) (epoch seq : Int) (i size : Nat) (r : Rec) : 0 ≤ perr1 lim epoch seq i size r ∧ perr1 lim epoch seq i size r ≤ 10 := by
 unfold perr1; repeat' split
 all_goals omega
theorem perrs_ok {lim : Nat} {epoch seq : Int} : ∀ {rs : List Rec} {i size : Nat}, perrs lim epoch seq i size rs = 0 → (∀ r ∈ rs, good r = true) ∧ (rs ≠ [] → size + (ftot rs - 48) ≤ 16384 ∧ 0 ≤ epoch ∧ 0 ≤ seq ∧ epoch < 4294967296 ∧ seq + (i + rs.length : Nat) ≤ lim)
 | [], i, size, h => ⟨fun r hr => by simp at hr, fun e => absurd rfl e⟩
 | r :: rs, i, size, h => by
   rw [perrs_cons] at h
   by_cases h1 : perr1 lim epoch seq i size r = 0
   · rw [if_pos h1] at h
     obtain ⟨a1, a2, a3, a4, a5, a6⟩ := perr1_ok h1
     obtain ⟨b1, b2⟩ := perrs_ok h
     have hf : ftot (r :: rs) = 63 + r.body.length + ftot rs := by simp [ftot]; omega
     have hg : 48 ≤ ftot rs := by unfold ftot; omega
     refine ⟨fun q hq => (List.mem_cons.1 hq).elim (fun e => e ▸ a1) (b1 q), fun _ => ?_⟩
     by_cases hr : rs = []
     · subst hr
       rw [hf]
       have : ftot ([] : List Rec) = 48 := rfl
       refine ⟨by omega, a3, a4, a5, ?_⟩
       simp only [List.length_cons, List.length_nil]; omega
     · obtain ⟨c1, c2, c3, c4, c5⟩ := b2 hr
       rw [hf]
       refine ⟨by omega, a3, a4, a5, ?_⟩
       simp only [List.length_cons]; omega
   · rw [if_neg h1] at h; exact absurd h h1
theorem perr_ok {lim : Nat} {epoch seq : Int} {rs : List Rec} (h : perr lim epoch seq rs = 0) : rs ≠ [] ∧ (∀ r ∈ rs, good r = true) ∧ ftot rs ≤ 16384 ∧ 0 ≤ epoch ∧ 0 ≤ seq ∧ epoch < 4294967296 ∧ seq + (rs.length : Nat) ≤ lim := by
 unfold perr at h
 split at h
 · omega
 · rename_i hn
   obtain ⟨h1, h2⟩ := perrs_ok h
   obtain ⟨c1, c2, c3, c4, c5⟩ := h2 hn
   have hg : 48 ≤ ftot rs := by unfold ftot; omega
   exact ⟨hn, h1, by omega, c2, c3, c4, by omega⟩
theorem few_of (rs : List Rec) (h : ftot rs ≤ 16384) : rs.length ≤ 260 := by
 have : 48 + rs.length * 63 ≤ ftot rs := by
  induction rs with
  | nil => simp [ftot]
  | cons r rs ih =>
    have hf : ftot (r :: rs) = 63 + r.body.length + ftot rs := by simp [ftot]; omega
    have := ih (by omega)
    rw [hf, List.length_cons]; omega
 omega
structure Packed where
 o : Ts
 b : List UInt8
 h : List UInt8
 e : Int
def lenF (b : List UInt8) : Nat := if 8 ≤ b.length ∧ 48 ≤ wrap64 (lowN (b.take 8) : Nat) ∧ wrap64 (lowN (b.take 8) : Nat) ≤ 16384 ∧ wrap64 (lowN (b.take 8) : Nat) ≤ b.length then (wrap64 (lowN (b.take 8) : Nat)).toNat else 0
theorem lenF_of (n : Nat) (rest more : List UInt8) (h : n = 8 + rest.length) (h1 : 48 ≤ n) (h2 : n ≤ 16384) : lenF (num8 n ++ rest ++ more) = n := by
 have ht : (num8 n ++ rest ++ more).take 8 = num8 n := by rw [List.append_assoc, List.take_left' (num8_length n)]
 have hw := num8_forth (n : Int) (by omega)
 unfold lenF
 rw [ht, hw, if_pos]
 · omega
 · simp only [List.length_append, num8_length]
   omega
end Seg
namespace Kit
open Go Go.RowKit
theorem wpList_copy_blk {P : Program} {w : World} {ops : Array Oper} {rest : List Oper} {o : Oper} {a : Act} {Q : Exit → Act → World → Prop} (hgd : o.guard = none) (d s : Operand) (dT sT : TypeId)
    (ho : o.op = .call { callee := .builtin .copy, args := #[d, s], argTypes := #[dT, sT] }) (elem : TypeId) (hu : P.underlying dT = some (.slice elem)) (hsz : (P.info? elem).map (·.size) = some 1)
    (g off : Nat) (dp sp : Option Addr) (dLen dCap sLen sCap : Nat) (hd : a.eval d = .slice dp dLen dCap) (hs : a.eval s = .slice sp sLen sCap)
    (cur : List Value) (t : TypeId) (hg : Blk w g t cur) (cs : List Value) (hn : cs.length = Nat.min sLen dLen) (hdp : 0 < cs.length → dp = some ⟨g, off, none⟩)
    (hrow : Row w sp cs) (hfit : off + cs.length ≤ cur.length) (h1 : ∀ v ∈ cs, v.oneCell' = true)
    (h : ∀ w', Blk w' g t (splice cur off cs) → Kp (oneB g) w w' → w'.heap.size = w.heap.size → wpList P ops Q rest (a.put o.dst (goInt cs.length)) w') : wpList P ops Q (o :: rest) a w := by
 refine wpList_plain hgd fun K hK => ?_
 by_cases h0 : cs.length = 0
 · obtain rfl : cs = [] := List.eq_nil_of_length_eq_zero h0
   have hrun := run_copy_none (P := P) w dT sT o.type elem dp sp dLen dCap sLen sCap hu hsz (by simpa using hn.symm)
   unfold Oper.wp
   simp [execOp, ho, resolve, invoke, builtin, hd, hs, hrun, Result.andThen]
   exact hK _ _ (h w (by simpa [splice] using hg) (Kp.refl _ _) rfl)
 · rcases hrow with rfl | ⟨b, oo, rfl, _, hc⟩
   · simp at h0
   · obtain rfl := hdp (by omega)
     have hrun := run_copy_row (P := P) w dT sT o.type elem g off dLen dCap ⟨b, oo, none⟩ sLen sCap cur.toArray t cs hu hsz hg hn (fun j v hv => by rw [Addr.add_mid]; exact hc j v hv) (by simpa using hfit) h1
     unfold Oper.wp
     simp [execOp, ho, resolve, invoke, builtin, hd, hs, hrun, Result.andThen]
     exact hK _ _ (h _ (show _ = _ by simpa [splice] using setRow_heap w g _ _ t _ hg) (setRow_kp _ _ _) (by simp [World.setRow]))
theorem Blk.row {w : World} {g : Nat} {t : TypeId} {cs : List Value} (h : Blk w g t cs) : Row w (some ⟨g, 0, none⟩) cs :=
 .inr ⟨g, 0, rfl, h.lt, fun i u hu => by rw [Nat.zero_add, h.cell]; exact hu⟩
end Kit
end Go.Proofs.YtigdlnfgdjfdoaaGreat
