/- The calls of the code's ideal world with one, two or three pieces, as a law makes them. · Package vault: what makes things in a world: seals, and what is opened. · A map's block known by its entries: another value stored at a key that is there. No program is named here. -/
import Derived.Test.YtmmpmncioifeoaaZG14
import Derived.Test.YtmmpmncioifeoaaZG12
import Derived.Test.YtmmpmncioifeoaaZG09
import Derived.Test.YtmmpmncioifeoaaZG02
namespace Go.Proofs.Ytmmpmncioifeoaa.Ideal
set_option linter.unusedVariables false
set_option linter.unusedSimpArgs false
open Go Go.RowKit Kit
open Sha (Pc PcsOk catP)

theorem quiet_left {P : Program} {f : FuncId} {args : Array Value} {w : World} {n : Nat} {v : Value}
    (h : Calls P f args (w.drewN n) fun e w' => e = .returned v ∧ w.drewN n = w') : Calls P f args (w.drewN n) fun e w'' => e = .returned v ∧ ∃ m, w'' = w.drewN m :=
  h.mono fun _ _ ⟨he, hm⟩ => ⟨he, n, hm.symm⟩
theorem u8sI : Try.prog.underlying 29 = some (.slice 5) := by kernel_rfl
theorem u8I : Try.prog.underlying 5 = some (.int .u8) := by kernel_rfl
theorem strI : Try.prog.underlying 9 = some .string := by kernel_rfl
theorem Iq.back {w w1 w2 : World} {F F2 : Nat → Prop} {p : Nat} {ts : List Thing} (h : Iq w1 F w2 p F2 ts) (k : Kp nob w w1) : Iq w F w2 p F2 ts :=
  ⟨h.i, fun i e => (h.f i e).imp_right (fun e => Nat.le_trans k.size e), (k.nob F).trans h.k (fun _ e => .inl e)⟩
theorem Ans.back {w w1 w2 : World} {F : Nat → Prop} {A : Option Addr} {c : Nat} {l : List UInt8} (h : Ans w1 w2 F A c l) (k : Kp nob w w1) : Ans w w2 F A c l :=
  ⟨h.row, fun i e => ⟨Nat.le_trans k.size (h.far i e).1, (h.far i e).2⟩, h.cap, h.mx, h.nil⟩
theorem Iw.mem {w : World} {p : Nat} {F : Nat → Prop} {ts : List Thing} (h : Iw w p F ts) (o : Obj) : Iw (w.alloc o) p F ts := h.keep ((Kp.refl nob w).alloc o) (fun _ _ e => e)
theorem hash_one (p : Nat) (F : Nat → Prop) (ts : List Thing) (A : Option Addr) (n c : Nat) (l : List UInt8) (t : TypeId) (w : World)
    (hw : Iw w p F ts) (ha : Arg w F A n c l) (hl : ts.length ≤ 100000) (lp : l.length ≤ 1048576) :
    Calls Try.prog 49 #[.pointer (some ⟨p, 0, none⟩), .slice (some ⟨w.heap.size, 0, none⟩) 1 1] (w.alloc (.cells #[.slice A n c] t)) fun e w' => ∃ F2, e = .returned (.agg (bvs (out ts (hashT l) 32)).toArray) ∧ Iq w F w' p F2 (mk ts (hashT l)) := by
  have h := hash_i p F ts _ 1 1 _ _ (hw.mem (.cells #[.slice A n c] t)) (args_one (t := t) ha hw.lt) hl (by rw [Sha.catP_one]; exact lp)
  rw [Sha.catP_one] at h
  exact h.mono fun e w' ⟨F2, he, hq⟩ => ⟨F2, he, hq.back ((Kp.refl nob w).alloc _)⟩
theorem catP_three (p q r : Pc) : catP [p, q, r] = p.l ++ (q.l ++ r.l) := by simp [catP]
theorem hash_three (p : Nat) (F : Nat → Prop) (ts : List Thing) (A B C : Option Addr) (n c m d i j : Nat) (l o s : List UInt8) (t : TypeId) (w : World)
    (hw : Iw w p F ts) (ha : Arg w F A n c l) (hb : Arg w F B m d o) (hc : Arg w F C i j s) (hl : ts.length ≤ 100000) (lp : (l ++ (o ++ s)).length ≤ 1048576) :
    Calls Try.prog 49 #[.pointer (some ⟨p, 0, none⟩), .slice (some ⟨w.heap.size, 0, none⟩) 3 3] (w.alloc (.cells #[.slice A n c, .slice B m d, .slice C i j] t)) fun e w' => ∃ F2, e = .returned (.agg (bvs (out ts (hashT (l ++ (o ++ s))) 32)).toArray) ∧ Iq w F w' p F2 (mk ts (hashT (l ++ (o ++ s)))) := by
  have h := hash_i p F ts _ 3 3 _ _ (hw.mem (.cells #[.slice A n c, .slice B m d, .slice C i j] t)) (args_three (t := t) ha hb hc hw.lt) hl (by rw [catP_three]; exact lp)
  rw [catP_three] at h
  exact h.mono fun e w' ⟨F2, he, hq⟩ => ⟨F2, he, hq.back ((Kp.refl nob w).alloc _)⟩
theorem mac_one (p : Nat) (F : Nat → Prop) (ts : List Thing) (K : Option Addr) (nk ck : Nat) (key : List UInt8) (A : Option Addr) (n c : Nat) (l : List UInt8) (t : TypeId) (w : World)
    (hw : Iw w p F ts) (hk : Arg w F K nk ck key) (ha : Arg w F A n c l) (hl : ts.length ≤ 100000) (lk : key.length ≤ 1048576) (lp : l.length ≤ 1048576) :
    Calls Try.prog 50 #[.pointer (some ⟨p, 0, none⟩), .slice K nk ck, .slice (some ⟨w.heap.size, 0, none⟩) 1 1] (w.alloc (.cells #[.slice A n c] t)) fun e w' => ∃ F2, e = .returned (.agg (bvs (out ts (macT key l) 32)).toArray) ∧ Iq w F w' p F2 (mk ts (macT key l)) := by
  have h := mac_i p F ts K nk ck key _ 1 1 _ _ (hw.mem (.cells #[.slice A n c] t)) (hk.keep0 ((Kp.refl nob w).alloc _)) (args_one (t := t) ha hw.lt) hl lk (by rw [Sha.catP_one]; exact lp)
  rw [Sha.catP_one] at h
  exact h.mono fun e w' ⟨F2, he, hq⟩ => ⟨F2, he, hq.back ((Kp.refl nob w).alloc _)⟩
theorem mac_two (p : Nat) (F : Nat → Prop) (ts : List Thing) (K : Option Addr) (nk ck : Nat) (key : List UInt8) (A B : Option Addr) (n c m d : Nat) (l o : List UInt8) (t : TypeId) (w : World)
    (hw : Iw w p F ts) (hk : Arg w F K nk ck key) (ha : Arg w F A n c l) (hb : Arg w F B m d o) (hl : ts.length ≤ 100000) (lk : key.length ≤ 1048576) (lp : (l ++ o).length ≤ 1048576) :
    Calls Try.prog 50 #[.pointer (some ⟨p, 0, none⟩), .slice K nk ck, .slice (some ⟨w.heap.size, 0, none⟩) 2 2] (w.alloc (.cells #[.slice A n c, .slice B m d] t)) fun e w' => ∃ F2, e = .returned (.agg (bvs (out ts (macT key (l ++ o)) 32)).toArray) ∧ Iq w F w' p F2 (mk ts (macT key (l ++ o))) := by
  have h := mac_i p F ts K nk ck key _ 2 2 _ _ (hw.mem (.cells #[.slice A n c, .slice B m d] t)) (hk.keep0 ((Kp.refl nob w).alloc _)) (args_two (t := t) ha hb hw.lt) hl lk (by rw [Sha.catP_two]; exact lp)
  rw [Sha.catP_two] at h
  exact h.mono fun e w' ⟨F2, he, hq⟩ => ⟨F2, he, hq.back ((Kp.refl nob w).alloc _)⟩
theorem derive_one (p : Nat) (F : Nat → Prop) (ts : List Thing) (K : Option Addr) (nk ck : Nat) (key : List UInt8) (A : Option Addr) (n c : Nat) (l : List UInt8) (t : TypeId) (w : World)
    (hw : Iw w p F ts) (hk : Arg w F K nk ck key) (ha : Arg w F A n c l) (hl : ts.length ≤ 100000) (lk : key.length ≤ 1048576) (lp : l.length ≤ 1048576) :
    Calls Try.prog 48 #[.pointer (some ⟨p, 0, none⟩), .slice K nk ck, .slice (some ⟨w.heap.size, 0, none⟩) 1 1] (w.alloc (.cells #[.slice A n c] t)) fun e w' => ∃ F2, e = .returned (.agg (bvs (out ts (derT key l) 32)).toArray) ∧ Iq w F w' p F2 (mk ts (derT key l)) := by
  have h := derive_i p F ts K nk ck key _ 1 1 _ _ (hw.mem (.cells #[.slice A n c] t)) (hk.keep0 ((Kp.refl nob w).alloc _)) (args_one (t := t) ha hw.lt) hl lk (by rw [Sha.catP_one]; exact lp)
  rw [Sha.catP_one] at h
  exact h.mono fun e w' ⟨F2, he, hq⟩ => ⟨F2, he, hq.back ((Kp.refl nob w).alloc _)⟩
theorem derive_two (p : Nat) (F : Nat → Prop) (ts : List Thing) (K : Option Addr) (nk ck : Nat) (key : List UInt8) (A B : Option Addr) (n c m d : Nat) (l o : List UInt8) (t : TypeId) (w : World)
    (hw : Iw w p F ts) (hk : Arg w F K nk ck key) (ha : Arg w F A n c l) (hb : Arg w F B m d o) (hl : ts.length ≤ 100000) (lk : key.length ≤ 1048576) (lp : (l ++ o).length ≤ 1048576) :
    Calls Try.prog 48 #[.pointer (some ⟨p, 0, none⟩), .slice K nk ck, .slice (some ⟨w.heap.size, 0, none⟩) 2 2] (w.alloc (.cells #[.slice A n c, .slice B m d] t)) fun e w' => ∃ F2, e = .returned (.agg (bvs (out ts (derT key (l ++ o)) 32)).toArray) ∧ Iq w F w' p F2 (mk ts (derT key (l ++ o))) := by
  have h := derive_i p F ts K nk ck key _ 2 2 _ _ (hw.mem (.cells #[.slice A n c, .slice B m d] t)) (hk.keep0 ((Kp.refl nob w).alloc _)) (args_two (t := t) ha hb hw.lt) hl lk (by rw [Sha.catP_two]; exact lp)
  rw [Sha.catP_two] at h
  exact h.mono fun e w' ⟨F2, he, hq⟩ => ⟨F2, he, hq.back ((Kp.refl nob w).alloc _)⟩
theorem seal_one (p : Nat) (F : Nat → Prop) (ts : List Thing) (K : Option Addr) (nk ck : Nat) (key : List UInt8) (N : Option Addr) (nn cn : Nat) (nonce : List UInt8) (T : Option Addr) (nt ct : Nat) (text : List UInt8) (A : Option Addr) (n c : Nat) (l : List UInt8) (t : TypeId) (w : World)
    (hw : Iw w p F ts) (hk : Arg w F K nk ck key) (hn : Arg w F N nn cn nonce) (ht : Arg w F T nt ct text) (ha : Arg w F A n c l) (hl : ts.length ≤ 100000) (lk : key.length ≤ 1048576) (ln : nonce.length ≤ 1048576) (lt : text.length ≤ 1048576) (lp : l.length ≤ 1048576) :
    Calls Try.prog 52 #[.pointer (some ⟨p, 0, none⟩), .slice K nk ck, .slice N nn cn, .slice T nt ct, .slice (some ⟨w.heap.size, 0, none⟩) 1 1] (w.alloc (.cells #[.slice A n c] t)) fun e w' => ∃ F2 X cX, e = .returned (.tuple #[.slice X (text.length + 16) cX, .int .i64 0]) ∧
      Iq w F w' p F2 (mk ts (sealT key nonce l text)) ∧ Ans w w' F2 X cX (out ts (sealT key nonce l text) (text.length + 16)) := by
  have kk := (Kp.refl nob w).alloc (.cells #[.slice A n c] t)
  have h := seal_i p F ts K nk ck key N nn cn nonce T nt ct text _ 1 1 _ _ (hw.mem (.cells #[.slice A n c] t)) (hk.keep0 kk) (hn.keep0 kk) (ht.keep0 kk) (args_one (t := t) ha hw.lt) hl lk ln lt (by rw [Sha.catP_one]; exact lp)
  rw [Sha.catP_one] at h
  exact h.mono fun e w' ⟨F2, X, cX, he, hq, hx⟩ => ⟨F2, X, cX, he, hq.back kk, hx.back kk⟩
theorem seal_none (p : Nat) (F : Nat → Prop) (ts : List Thing) (K : Option Addr) (nk ck : Nat) (key : List UInt8) (N : Option Addr) (nn cn : Nat) (nonce : List UInt8) (T : Option Addr) (nt ct : Nat) (text : List UInt8) (w : World)
    (hw : Iw w p F ts) (hk : Arg w F K nk ck key) (hn : Arg w F N nn cn nonce) (ht : Arg w F T nt ct text) (hl : ts.length ≤ 100000) (lk : key.length ≤ 1048576) (ln : nonce.length ≤ 1048576) (lt : text.length ≤ 1048576) :
    Calls Try.prog 52 #[.pointer (some ⟨p, 0, none⟩), .slice K nk ck, .slice N nn cn, .slice T nt ct, .slice none 0 0] w fun e w' => ∃ F2 X cX, e = .returned (.tuple #[.slice X (text.length + 16) cX, .int .i64 0]) ∧
      Iq w F w' p F2 (mk ts (sealT key nonce [] text)) ∧ Ans w w' F2 X cX (out ts (sealT key nonce [] text) (text.length + 16)) :=
  seal_i p F ts K nk ck key N nn cn nonce T nt ct text _ 0 0 _ w hw hk hn ht (args_none w F) hl lk ln lt (by simp [catP])
/-- What Open answers of a text that may be. -/
structure Opened (w w2 : World) (r : Option (List UInt8)) (e : Ending) : Prop where
  e : ∃ X cX, e = .returned (.tuple #[.slice X (r.getD []).length cX, .int .i64 (if r.isSome then 0 else 9)]) ∧ Row w2 X (bvs (r.getD []))
  k : Kp nob w w2
theorem Opened.back {w w1 w2 : World} {r : Option (List UInt8)} {e : Ending} (h : Opened w1 w2 r e) (k : Kp nob w w1) : Opened w w2 r e := ⟨h.e, k.trans h.k (fun _ e => e.elim)⟩
theorem open_one (p : Nat) (F : Nat → Prop) (ts : List Thing) (K : Option Addr) (nk ck : Nat) (key : List UInt8) (N : Option Addr) (nn cn : Nat) (nonce : List UInt8) (T : Option Addr) (nt ct : Nat) (text : List UInt8) (A : Option Addr) (n c : Nat) (l : List UInt8) (t : TypeId) (w : World)
    (hw : Iw w p F ts) (hk : Arg w F K nk ck key) (hn : Arg w F N nn cn nonce) (ht : Arg w F T nt ct text) (ha : Arg w F A n c l) (hl : ts.length ≤ 100000) (lk : key.length ≤ 1048576) (ln : nonce.length ≤ 1048576) (lt : text.length ≤ 1048592) (lp : l.length ≤ 1048576) :
    Calls Try.prog 51 #[.pointer (some ⟨p, 0, none⟩), .slice K nk ck, .slice N nn cn, .slice T nt ct, .slice (some ⟨w.heap.size, 0, none⟩) 1 1] (w.alloc (.cells #[.slice A n c] t)) fun e w' => Opened w w' (opn ts key nonce l text) e := by
  have kk := (Kp.refl nob w).alloc (.cells #[.slice A n c] t)
  have h := open_i p F ts K nk ck key N nn cn nonce T nt ct text _ 1 1 _ _ (hw.mem (.cells #[.slice A n c] t)) (hk.keep0 kk) (hn.keep0 kk) (ht.keep0 kk) (args_one (t := t) ha hw.lt) hl lk ln lt (by rw [Sha.catP_one]; exact lp)
  rw [Sha.catP_one] at h
  exact h.mono fun e w' ⟨X, cX, he, hk2, hr⟩ => Opened.back ⟨⟨X, cX, he, hr⟩, hk2⟩ kk
theorem open_two (p : Nat) (F : Nat → Prop) (ts : List Thing) (K : Option Addr) (nk ck : Nat) (key : List UInt8) (N : Option Addr) (nn cn : Nat) (nonce : List UInt8) (T : Option Addr) (nt ct : Nat) (text : List UInt8) (A B : Option Addr) (n c m d : Nat) (l o : List UInt8) (t : TypeId) (w : World)
    (hw : Iw w p F ts) (hk : Arg w F K nk ck key) (hn : Arg w F N nn cn nonce) (ht : Arg w F T nt ct text) (ha : Arg w F A n c l) (hb : Arg w F B m d o) (hl : ts.length ≤ 100000) (lk : key.length ≤ 1048576) (ln : nonce.length ≤ 1048576) (lt : text.length ≤ 1048592) (lp : (l ++ o).length ≤ 1048576) :
    Calls Try.prog 51 #[.pointer (some ⟨p, 0, none⟩), .slice K nk ck, .slice N nn cn, .slice T nt ct, .slice (some ⟨w.heap.size, 0, none⟩) 2 2] (w.alloc (.cells #[.slice A n c, .slice B m d] t)) fun e w' => Opened w w' (opn ts key nonce (l ++ o) text) e := by
  have kk := (Kp.refl nob w).alloc (.cells #[.slice A n c, .slice B m d] t)
  have h := open_i p F ts K nk ck key N nn cn nonce T nt ct text _ 2 2 _ _ (hw.mem (.cells #[.slice A n c, .slice B m d] t)) (hk.keep0 kk) (hn.keep0 kk) (ht.keep0 kk) (args_two (t := t) ha hb hw.lt) hl lk ln lt (by rw [Sha.catP_two]; exact lp)
  rw [Sha.catP_two] at h
  exact h.mono fun e w' ⟨X, cX, he, hk2, hr⟩ => Opened.back ⟨⟨X, cX, he, hr⟩, hk2⟩ kk
/-- A copy of a row: in new memory. -/
theorem copied {w1 w2 : World} {M : Option Addr} {m cM H : Nat} {l : List UInt8} (hH : H = w1.heap.size + 1) (hown : Kit.Own 5 w2 M (0 + m) cM ([] ++ bvs l)) (hg : (w1.alloc (.cells #[] 5)).grownBy w2 (some w1.heap.size)) (hab : ab M = some w1.heap.size ∨ ab M = some H) : Kit.Own 5 w2 M m cM (bvs l) ∧ Kp nob w1 w2 ∧ ∀ k, ab M = some k → w1.heap.size ≤ k := by
  refine ⟨by rw [Nat.zero_add, List.nil_append] at hown; exact hown, ((Kp.refl nob w1).alloc _).since (Kp.of_grown (F := fun k => k = w1.heap.size) hg (fun k e => by cases e; rfl)) (fun k e => Nat.le_of_eq e.symm), fun k e => ?_⟩
  rcases hab with h | h
  · rw [h] at e; cases e; exact Nat.le_refl _
  · rw [h] at e; cases e; omega
theorem own_empty (w1 : World) : Kit.Own 5 (w1.alloc (.cells #[] 5)) (some ⟨w1.heap.size, 0, none⟩) 0 0 [] := World.ownsRow_made w1 #[] 0 (Nat.zero_le _) (by simp [maxLen]) rfl

end Go.Proofs.Ytmmpmncioifeoaa.Ideal
namespace Go.Proofs.Ytmmpmncioifeoaa.Vault
set_option linter.unusedVariables false
set_option linter.unusedSimpArgs false
open Go Go.RowKit Kit
open Ideal (Iw Iq Ans Arg Args Thing mk out sealT opn macT derT hashT z32)
open Sha (Pc PcsOk catP)

theorem key_all (g o : Nat) (w : World) : (Instr.sliceAt 28 (.pointer (some ⟨g, o, none⟩)) none none none).run Try.prog w = .ok (.slice (some ⟨g, o, none⟩) 32 32) w := by
  have ha : Try.prog.underlying 28 = some (.array (Try.prog.arrayLen 28) (Try.prog.elem 28)) := by kernel_rfl
  have hl : Try.prog.arrayLen 28 = 32 := by kernel_rfl
  have he : Try.prog.elem 28 = 5 := by kernel_rfl
  have hz : (sizeOf 5).run Try.prog w = .ok 1 w := by kernel_rfl
  rw [run_sliceAt_array_all w _ _ ha, hl, he, hz]
  simp [Result.andThen, slicedAt, Addr.add]
theorem nonce_all (g o : Nat) (w : World) : (Instr.sliceAt 53 (.pointer (some ⟨g, o, none⟩)) none none none).run Try.prog w = .ok (.slice (some ⟨g, o, none⟩) 12 12) w := by
  have ha : Try.prog.underlying 53 = some (.array (Try.prog.arrayLen 53) (Try.prog.elem 53)) := by kernel_rfl
  have hl : Try.prog.arrayLen 53 = 12 := by kernel_rfl
  have he : Try.prog.elem 53 = 5 := by kernel_rfl
  have hz : (sizeOf 5).run Try.prog w = .ok 1 w := by kernel_rfl
  rw [run_sliceAt_array_all w _ _ ha, hl, he, hz]
  simp [Result.andThen, slicedAt, Addr.add]
/-- A place's block, and a maker's. -/
structure Mb (w0 : World) (G : Nat → Prop) (p : Nat) (l : List UInt8) (w : World) : Prop where
  m : Blk w w0.heap.size 45 [.pointer (some ⟨p, 0, none⟩)]
  p : Blk w (w0.heap.size + 1) 56 (bvs l)
  k : Kp G w0 w
theorem Mb.keep {w0 w w2 : World} {G : Nat → Prop} {p : Nat} {l : List UInt8} (h : Mb w0 G p l w) (k : Kp G w w2) (hG : ∀ i, G i → i < w0.heap.size) : Mb w0 G p l w2 := ⟨h.m.keep k (fun e => Nat.lt_irrefl _ (hG _ e)), h.p.keep k (fun e => by have := hG _ e; omega), h.k.trans k (fun _ e => .inl e)⟩
theorem Mb.key {w0 w : World} {G : Nat → Prop} {p : Nat} {k n : List UInt8} (h : Mb w0 G p (k ++ n) w) (hk : k.length = 32) (F : Nat → Prop) (hF : ∀ i, F i → i < w0.heap.size) : Arg w F (some ⟨w0.heap.size + 1, 0, none⟩) 32 32 k :=
  ⟨hk, .inr ⟨w0.heap.size + 1, 0, rfl, h.p.lt, fun i v hv => by rw [Nat.zero_add, h.p.cell, bvs_append, List.getElem?_append_left (List.getElem?_eq_some_iff.1 hv).1]; exact hv⟩, .inr (fun j e hj => by simp only [ab, Option.map_some, Option.some.injEq] at e; have := hF j hj; omega), Nat.le_refl _, by decide, fun e => by cases e⟩
theorem Mb.nonce {w0 w : World} {G : Nat → Prop} {p : Nat} {k n : List UInt8} (h : Mb w0 G p (k ++ n) w) (hk : k.length = 32) (hn : n.length = 12) (F : Nat → Prop) (hF : ∀ i, F i → i < w0.heap.size) : Arg w F (some ⟨w0.heap.size + 1, 32, none⟩) 12 12 n :=
  ⟨hn, .inr ⟨w0.heap.size + 1, 32, rfl, h.p.lt, fun i v hv => by rw [h.p.cell, bvs_append, List.getElem?_append_right (by rw [bvs_length, hk]; omega), bvs_length, hk, show 32 + i - 32 = i by omega]; exact hv⟩, .inr (fun j e hj => by simp only [ab, Option.map_some, Option.some.injEq] at e; have := hF j hj; omega), Nat.le_refl _, by decide, fun e => by cases e⟩
theorem Mb.new (w0 : World) (p : Nat) (l : List UInt8) : Mb w0 nob p l ((w0.alloc (.cells #[.pointer (some ⟨p, 0, none⟩)] 45)).alloc (.cells (bvs l).toArray 56)).drew :=
  ⟨((Blk.new' rfl rfl).alloc _).keep (Kp.refl nob _).drew (fun e => e), (Blk.new' (by simp) rfl).keep (Kp.refl nob _).drew (fun e => e), (((Kp.refl _ _).alloc _).alloc _).drew⟩
/-- What is opened: x, or nothing. -/
def OpenA (x : Option (List UInt8)) (w w' : World) (e : Ending) : Prop := ∃ X cX, e = .returned (.tuple #[.slice X (x.getD []).length cX, .int .i64 (if x.isSome then 0 else 9)]) ∧ Kp nob w w' ∧ Row w' X (bvs (x.getD [])) ∧ ∀ k, ab X = some k → w.heap.size ≤ k
theorem Mb.to {w0 w : World} {G : Nat → Prop} {p : Nat} {l : List UInt8} (h : Mb w0 nob p l w) : Mb w0 G p l w := ⟨h.m, h.p, h.k.nob G⟩
set_option maxHeartbeats 2000000 in
set_option maxRecDepth 100000 in
theorem im_seal (p : Nat) (F : Nat → Prop) (ts : List Thing) (key nonce : List UInt8) (hk : key.length = 32) (hn : nonce.length = 12) (T : Option Addr) (nt ct' : Nat) (text : List UInt8) (B : Option Addr) (m d : Nat) (ps : List Pc) (w0 : World)
    (hw : Iw w0 p F ts) (ht : Arg w0 F T nt ct' text) (hp : Args w0 F B m ps) (hl : ts.length ≤ 100000) (lt : text.length ≤ 1048576) (lp : (catP ps).length ≤ 1048576) :
    Calls Try.prog 47 #[.agg #[.pointer (some ⟨p, 0, none⟩)], .agg (bvs (key ++ nonce)).toArray, .slice T nt ct', .slice B m d] w0 fun e w' => ∃ F2 X cX, e = .returned (.tuple #[.slice X (text.length + 16) cX, .int .i64 0]) ∧
      Iq w0 F w' p F2 (mk ts (sealT key nonce (catP ps) text)) ∧ Ans w0 w' F2 X cX (out ts (sealT key nonce (catP ps) text) (text.length + 16)) := by
  have HW := Lib.hid hw; have HT := Lib.hid ht; have HP := Lib.hid hp
  have HLT := Lib.hid (And.intro hl (And.intro lt lp))
  have HKN := Lib.hid (And.intro hk hn)
  have HM := Lib.hid (Mb.new w0 p (key ++ nonce))
  clear hw ht hp hl lt lp hk hn
  go_enter Try.func47, Try.ntmps47
  go_wp2
  generalize hw1 : ((w0.alloc (.cells #[.pointer (some ⟨p, 0, none⟩)] 45)).alloc (.cells (bvs (key ++ nonce)).toArray 56)) = wb at *
  have HS : Hid (Mb w0 F p (key ++ nonce) wb.drew) := Lib.hid HM.out.to
  have hF := HW.out.lt
  have HW1 := Lib.hid (HW.out.keep HM.out.k (fun _ _ e => e)); have HT1 := Lib.hid (HT.out.keep0 HM.out.k); have HP1 := Lib.hid (HP.out.keep0 HM.out.k)
  clear hw1
  refine reg_begin (Mb w0 F p (key ++ nonce)) (by kernel_rfl) HS.out (fun _ => ?_)
  refine reg_take (v := .pointer (some ⟨w0.heap.size, 0, none⟩)) 0 (some 10) rfl rfl (by kernel_rfl) (by kernel_rfl) (by kernel_rfl) (by rfl) HS.out (fun w hw => by go_simp) ?_
  simp only [Act.put, List.setIfInBounds_toArray, List.set_cons_zero, List.set_cons_succ]
  refine reg_take (v := .pointer (some ⟨p, 0, none⟩)) 1 (some 11) rfl rfl (by kernel_rfl) (by kernel_rfl) (by kernel_rfl) (by rfl) HS.out (fun w hw => by have hc : w.cell? ⟨w0.heap.size, 0, none⟩ = some (.pointer (some ⟨p, 0, none⟩)) := (by rw [hw.m.cell]; rfl); go_simp) ?_
  simp only [Act.put, List.setIfInBounds_toArray, List.set_cons_zero, List.set_cons_succ]
  refine reg_take (v := .pointer (some ⟨w0.heap.size + 1, 0, none⟩)) 2 (some 12) rfl rfl (by kernel_rfl) (by kernel_rfl) (by kernel_rfl) (by rfl) HS.out (fun w hw => by go_simp) ?_
  simp only [Act.put, List.setIfInBounds_toArray, List.set_cons_zero, List.set_cons_succ]
  refine reg_take (v := .slice (some ⟨w0.heap.size + 1, 0, none⟩) 32 32) 3 (some 13) rfl rfl (by kernel_rfl) (by kernel_rfl) (by kernel_rfl) (by rfl) HS.out (fun w hw => by have hc := key_all (w0.heap.size + 1) 0 w; go_simp) ?_
  simp only [Act.put, List.setIfInBounds_toArray, List.set_cons_zero, List.set_cons_succ]
  refine reg_take (v := .pointer (some ⟨w0.heap.size + 1, 32, none⟩)) 4 (some 14) rfl rfl (by kernel_rfl) (by kernel_rfl) (by kernel_rfl) (by rfl) HS.out (fun w hw => by go_simp) ?_
  simp only [Act.put, List.setIfInBounds_toArray, List.set_cons_zero, List.set_cons_succ]
  refine reg_take (v := .slice (some ⟨w0.heap.size + 1, 32, none⟩) 12 12) 5 (some 15) rfl rfl (by kernel_rfl) (by kernel_rfl) (by kernel_rfl) (by rfl) HS.out (fun w hw => by have hc := nonce_all (w0.heap.size + 1) 32 w; go_simp) ?_
  simp only [Act.put, List.setIfInBounds_toArray, List.set_cons_zero, List.set_cons_succ]
  refine reg_take (v := .slice T nt ct') 6 (some 16) rfl rfl (by kernel_rfl) (by kernel_rfl) (by kernel_rfl) (by rfl) HS.out (fun w hw => by go_simp) ?_
  simp only [Act.put, List.setIfInBounds_toArray, List.set_cons_zero, List.set_cons_succ]
  refine reg_take (v := .slice B m d) 7 (some 17) rfl rfl (by kernel_rfl) (by kernel_rfl) (by kernel_rfl) (by rfl) HS.out (fun w hw => by go_simp) ?_
  simp only [Act.put, List.setIfInBounds_toArray, List.set_cons_zero, List.set_cons_succ]
  refine reg_call 8 (some 18) rfl rfl (by kernel_rfl) (by rfl) _ _ (exec_func 52 _ _ [.pointer (some ⟨p, 0, none⟩), .slice (some ⟨w0.heap.size + 1, 0, none⟩) 32 32, .slice (some ⟨w0.heap.size + 1, 32, none⟩) 12 12, .slice T nt ct', .slice B m d] rfl (by kernel_rfl) rfl) ?_
  refine (Ideal.seal_i p F ts _ _ _ key _ _ _ nonce T nt ct' text B m d ps _ HW1.out (HS.out.key HKN.out.1 F hF) (HS.out.nonce HKN.out.1 HKN.out.2 F hF) HT1.out HP1.out HLT.out.1 (by rw [HKN.out.1]; omega) (by rw [HKN.out.2]; omega) HLT.out.2.1 HLT.out.2.2).mono ?_
  rintro e w2 ⟨F2, X, cX, rfl, hq, hx⟩
  have HQ := Lib.hid (hq.back HM.out.k)
  have HX := Lib.hid (hx.back HM.out.k)
  have HS2 : Hid (Mb w0 F p (key ++ nonce) w2) := Lib.hid (HS.out.keep hq.k hF)
  clear hq hx HS HM HW1 HT1 HP1
  refine ⟨_, rfl, HS2.out, fun _ => ?_⟩
  simp only [Act.put, List.setIfInBounds_toArray, List.set_cons_zero, List.set_cons_succ]
  refine reg_take (v := .slice X (text.length + 16) cX) 9 (some 19) rfl rfl (by kernel_rfl) (by kernel_rfl) (by kernel_rfl) (by rfl) HS2.out (fun w hw => by go_simp) ?_
  simp only [Act.put, List.setIfInBounds_toArray, List.set_cons_zero, List.set_cons_succ]
  refine reg_take (v := .int .i64 0) 10 (some 20) rfl rfl (by kernel_rfl) (by kernel_rfl) (by kernel_rfl) (by rfl) HS2.out (fun w hw => by go_simp) ?_
  simp only [Act.put, List.setIfInBounds_toArray, List.set_cons_zero, List.set_cons_succ]
  refine reg_take (v := .slice X (text.length + 16) cX) 11 (some 8) rfl rfl (by kernel_rfl) (by kernel_rfl) (by kernel_rfl) (by rfl) HS2.out (fun w hw => by go_simp) ?_
  simp only [Act.put, List.setIfInBounds_toArray, List.set_cons_zero, List.set_cons_succ]
  refine reg_take (v := .int .i64 0) 12 (some 9) rfl rfl (by kernel_rfl) (by kernel_rfl) (by kernel_rfl) (by rfl) HS2.out (fun w hw => by go_simp) ?_
  simp only [Act.put, List.setIfInBounds_toArray, List.set_cons_zero, List.set_cons_succ]
  refine reg_end (by kernel_rfl) ?_
  go_wp2
  go_ret2
  exact ⟨F2, X, cX, rfl, HQ.out, HX.out⟩
set_option maxHeartbeats 2000000 in
set_option maxRecDepth 100000 in
theorem im_open (p : Nat) (F : Nat → Prop) (ts : List Thing) (key nonce : List UInt8) (hk : key.length = 32) (hn : nonce.length = 12) (T : Option Addr) (nt ct' : Nat) (text : List UInt8) (B : Option Addr) (m d : Nat) (ps : List Pc) (w0 : World)
    (hw : Iw w0 p F ts) (ht : Arg w0 F T nt ct' text) (hp : Args w0 F B m ps) (hl : ts.length ≤ 100000) (lt : text.length ≤ 1048592) (lp : (catP ps).length ≤ 1048576) :
    Calls Try.prog 46 #[.agg #[.pointer (some ⟨p, 0, none⟩)], .agg (bvs (key ++ nonce)).toArray, .slice T nt ct', .slice B m d] w0 fun e w' => OpenA (opn ts key nonce (catP ps) text) w0 w' e := by
  have HW := Lib.hid hw; have HT := Lib.hid ht; have HP := Lib.hid hp
  have HLT := Lib.hid (And.intro hl (And.intro lt lp))
  have HKN := Lib.hid (And.intro hk hn)
  have HM := Lib.hid (Mb.new w0 p (key ++ nonce))
  clear hw ht hp hl lt lp hk hn
  go_enter Try.func46, Try.ntmps46
  go_wp2
  generalize hw1 : ((w0.alloc (.cells #[.pointer (some ⟨p, 0, none⟩)] 45)).alloc (.cells (bvs (key ++ nonce)).toArray 56)) = wb at *
  have HS : Hid (Mb w0 nob p (key ++ nonce) wb.drew) := Lib.hid HM.out.to
  have hF := HW.out.lt
  have HW1 := Lib.hid (HW.out.keep HM.out.k (fun _ _ e => e)); have HT1 := Lib.hid (HT.out.keep0 HM.out.k); have HP1 := Lib.hid (HP.out.keep0 HM.out.k)
  clear hw1
  refine reg_begin (Mb w0 nob p (key ++ nonce)) (by kernel_rfl) HS.out (fun _ => ?_)
  refine reg_take (v := .pointer (some ⟨w0.heap.size, 0, none⟩)) 0 (some 10) rfl rfl (by kernel_rfl) (by kernel_rfl) (by kernel_rfl) (by rfl) HS.out (fun w hw => by go_simp) ?_
  simp only [Act.put, List.setIfInBounds_toArray, List.set_cons_zero, List.set_cons_succ]
  refine reg_take (v := .pointer (some ⟨p, 0, none⟩)) 1 (some 11) rfl rfl (by kernel_rfl) (by kernel_rfl) (by kernel_rfl) (by rfl) HS.out (fun w hw => by have hc : w.cell? ⟨w0.heap.size, 0, none⟩ = some (.pointer (some ⟨p, 0, none⟩)) := (by rw [hw.m.cell]; rfl); go_simp) ?_
  simp only [Act.put, List.setIfInBounds_toArray, List.set_cons_zero, List.set_cons_succ]
  refine reg_take (v := .pointer (some ⟨w0.heap.size + 1, 0, none⟩)) 2 (some 12) rfl rfl (by kernel_rfl) (by kernel_rfl) (by kernel_rfl) (by rfl) HS.out (fun w hw => by go_simp) ?_
  simp only [Act.put, List.setIfInBounds_toArray, List.set_cons_zero, List.set_cons_succ]
  refine reg_take (v := .slice (some ⟨w0.heap.size + 1, 0, none⟩) 32 32) 3 (some 13) rfl rfl (by kernel_rfl) (by kernel_rfl) (by kernel_rfl) (by rfl) HS.out (fun w hw => by have hc := key_all (w0.heap.size + 1) 0 w; go_simp) ?_
  simp only [Act.put, List.setIfInBounds_toArray, List.set_cons_zero, List.set_cons_succ]
  refine reg_take (v := .pointer (some ⟨w0.heap.size + 1, 32, none⟩)) 4 (some 14) rfl rfl (by kernel_rfl) (by kernel_rfl) (by kernel_rfl) (by rfl) HS.out (fun w hw => by go_simp) ?_
  simp only [Act.put, List.setIfInBounds_toArray, List.set_cons_zero, List.set_cons_succ]
  refine reg_take (v := .slice (some ⟨w0.heap.size + 1, 32, none⟩) 12 12) 5 (some 15) rfl rfl (by kernel_rfl) (by kernel_rfl) (by kernel_rfl) (by rfl) HS.out (fun w hw => by have hc := nonce_all (w0.heap.size + 1) 32 w; go_simp) ?_
  simp only [Act.put, List.setIfInBounds_toArray, List.set_cons_zero, List.set_cons_succ]
  refine reg_take (v := .slice T nt ct') 6 (some 16) rfl rfl (by kernel_rfl) (by kernel_rfl) (by kernel_rfl) (by rfl) HS.out (fun w hw => by go_simp) ?_
  simp only [Act.put, List.setIfInBounds_toArray, List.set_cons_zero, List.set_cons_succ]
  refine reg_take (v := .slice B m d) 7 (some 17) rfl rfl (by kernel_rfl) (by kernel_rfl) (by kernel_rfl) (by rfl) HS.out (fun w hw => by go_simp) ?_
  simp only [Act.put, List.setIfInBounds_toArray, List.set_cons_zero, List.set_cons_succ]
  refine reg_call 8 (some 18) rfl rfl (by kernel_rfl) (by rfl) _ _ (exec_func 51 _ _ [.pointer (some ⟨p, 0, none⟩), .slice (some ⟨w0.heap.size + 1, 0, none⟩) 32 32, .slice (some ⟨w0.heap.size + 1, 32, none⟩) 12 12, .slice T nt ct', .slice B m d] rfl (by kernel_rfl) rfl) ?_
  refine (Ideal.open_if p F ts _ _ _ key _ _ _ nonce T nt ct' text B m d ps _ HW1.out (HS.out.key HKN.out.1 F hF) (HS.out.nonce HKN.out.1 HKN.out.2 F hF) HT1.out HP1.out HLT.out.1 (by rw [HKN.out.1]; omega) (by rw [HKN.out.2]; omega) HLT.out.2.1 HLT.out.2.2).mono ?_
  rintro e w2 ⟨X, cX, rfl, hq, hx, hf⟩
  have HFX := Lib.hid (fun k e => Nat.le_trans HM.out.k.size (hf k e))
  clear hf
  obtain ⟨er, her⟩ : ∃ er : Int, er = (if (opn ts key nonce (catP ps) text).isSome then (0 : Int) else 9) := ⟨_, rfl⟩
  rw [← her]
  have HER := Lib.hid her
  clear her
  have HQ := Lib.hid (HM.out.k.trans hq (fun _ e => e.elim))
  have HX := Lib.hid hx
  have HS2 : Hid (Mb w0 nob p (key ++ nonce) w2) := Lib.hid (HS.out.keep hq (fun _ e => e.elim))
  clear hq hx HS HM HW1 HT1 HP1
  refine ⟨_, rfl, HS2.out, fun _ => ?_⟩
  simp only [Act.put, List.setIfInBounds_toArray, List.set_cons_zero, List.set_cons_succ]
  refine reg_take (v := .slice X ((opn ts key nonce (catP ps) text).getD []).length cX) 9 (some 19) rfl rfl (by kernel_rfl) (by kernel_rfl) (by kernel_rfl) (by rfl) HS2.out (fun w hw => by go_simp) ?_
  simp only [Act.put, List.setIfInBounds_toArray, List.set_cons_zero, List.set_cons_succ]
  refine reg_take (v := .int .i64 er) 10 (some 20) rfl rfl (by kernel_rfl) (by kernel_rfl) (by kernel_rfl) (by rfl) HS2.out (fun w hw => by go_simp) ?_
  simp only [Act.put, List.setIfInBounds_toArray, List.set_cons_zero, List.set_cons_succ]
  refine reg_take (v := .slice X ((opn ts key nonce (catP ps) text).getD []).length cX) 11 (some 8) rfl rfl (by kernel_rfl) (by kernel_rfl) (by kernel_rfl) (by rfl) HS2.out (fun w hw => by go_simp) ?_
  simp only [Act.put, List.setIfInBounds_toArray, List.set_cons_zero, List.set_cons_succ]
  refine reg_take (v := .int .i64 er) 12 (some 9) rfl rfl (by kernel_rfl) (by kernel_rfl) (by kernel_rfl) (by rfl) HS2.out (fun w hw => by go_simp) ?_
  simp only [Act.put, List.setIfInBounds_toArray, List.set_cons_zero, List.set_cons_succ]
  refine reg_end (by kernel_rfl) ?_
  go_wp2
  go_ret2
  unfold OpenA
  exact ⟨X, cX, by rw [← HER.out]; rfl, HQ.out, HX.out, HFX.out⟩
end Go.Proofs.Ytmmpmncioifeoaa.Vault
namespace Go.Proofs.Ytmmpmncioifeoaa.Kit
set_option linter.unusedVariables false
set_option linter.unusedSimpArgs false
open Go Go.RowKit

theorem MapB.store_at {P : Program} {t k e : TypeId} {α : Type} {kv : α → Value} {w : World} {b : Nat} {ps : List (Value × Value)} (h : MapB w b ps) (K : KeyL P k kv) (hk : ∀ p ∈ ps, ∃ a, p.1 = kv a) (ht : P.underlying t = some (.map k e)) (a : α) (v : Value) (j : Nat) (u : Value) (hm : ps[j]? = some (kv a, u)) (hone : ∀ i u, ps[i]? = some (kv a, u) → i = j) :
    ∃ w', (Instr.mapUpdate t (.map (some b)) (kv a) v).run P w = .ok () w' ∧ MapB w' b (ps.set j (kv a, v)) ∧ Kp (fun i => i = b) w w' ∧ w'.heap.size = w.heap.size := by
  have hlt := h.lt
  obtain ⟨es, n, hb, rfl⟩ := h
  have hks : ∀ x ∈ es.toList, ∃ b, x.key = kv b := fun x hx => hk (x.key, x.val) (List.mem_map.2 ⟨x, hx, rfl⟩)
  rcases K.find w a es.toList hks with ⟨h1, h2⟩ | ⟨i, x, h1, h2, h3⟩
  · obtain ⟨x, hx, e⟩ := List.mem_map.1 (List.mem_of_getElem? hm)
    injection e with e1 e2
    exact absurd e1 (h2 x hx)
  · have hij : i = j := hone i x.val (by rw [List.getElem?_map, h2, Option.map_some, h3])
    subst hij
    have hes : es[i]? = some x := by rw [← Array.getElem?_toList]; exact h2
    have hil := (List.getElem?_eq_some_iff.1 h2).1
    refine ⟨ChangeMaps.setBlock w b (.map (es.modify i fun e => { e with key := kv a, val := v }) n), ?_, ⟨_, _, ChangeMaps.heap_setBlock_same hb _, ?_⟩, ⟨rfl, rfl, rfl, by simp [ChangeMaps.setBlock], fun i _ hi => ChangeMaps.heap_setBlock_other hb _ hi⟩, by simp [ChangeMaps.setBlock]⟩
    · simp [Instr.mapUpdate, run_underlying ht, MapKept.run_getObj_map hb, K.check, h1, hes, h3, K.stays, MapKept.run_setObj_map _ hb, Result.andThen, ChangeMaps.setBlock]
    · apply List.ext_getElem?
      intro q
      rw [List.getElem?_map, Array.toList_modify, List.getElem?_modify, List.getElem?_set, List.getElem?_map]
      by_cases hi : i = q
      · subst hi
        rw [h2]; simp at hil; simp [hil]
      · simp [hi]
end Go.Proofs.Ytmmpmncioifeoaa.Kit
