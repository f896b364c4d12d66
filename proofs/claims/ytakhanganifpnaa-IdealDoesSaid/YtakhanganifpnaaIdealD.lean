/- The calls of the code's ideal world with one, two or three pieces, as a law makes them. -/
import Derived.Test.YtakhanganifpnaaIdealI
import Derived.Test.YtakhanganifpnaaRegI
namespace Go.Proofs.Ytakhanganifpnaa.Ideal
set_option linter.unusedVariables false
set_option linter.unusedSimpArgs false
open Go Go.RowKit Kit
open Sha (Pc PcsOk catP)

theorem quiet_left {P : Program} {f : FuncId} {args : Array Value} {w : World} {n : Nat} {v : Value}
    (h : Calls P f args (w.drewN n) fun e w' => e = .returned v ∧ w.drewN n = w') : Calls P f args (w.drewN n) fun e w'' => e = .returned v ∧ ∃ m, w'' = w.drewN m :=
  h.mono fun _ _ ⟨he, hm⟩ => ⟨he, n, hm.symm⟩
theorem u8sI : Try.prog.underlying 34 = some (.slice 5) := by kernel_rfl
theorem u8I : Try.prog.underlying 5 = some (.int .u8) := by kernel_rfl
theorem strI : Try.prog.underlying 9 = some .string := by kernel_rfl
theorem Iq.back {w w1 w2 : World} {F F2 : Nat → Prop} {p : Nat} {ts : List Thing} (h : Iq w1 F w2 p F2 ts) (k : Kp nob w w1) : Iq w F w2 p F2 ts :=
  ⟨h.i, fun i e => (h.f i e).imp_right (fun e => Nat.le_trans k.size e), (k.nob F).trans h.k (fun _ e => .inl e)⟩
theorem Ans.back {w w1 w2 : World} {F : Nat → Prop} {A : Option Addr} {c : Nat} {l : List UInt8} (h : Ans w1 w2 F A c l) (k : Kp nob w w1) : Ans w w2 F A c l :=
  ⟨h.row, fun i e => ⟨Nat.le_trans k.size (h.far i e).1, (h.far i e).2⟩, h.cap, h.mx, h.nil⟩
theorem Iw.mem {w : World} {p : Nat} {F : Nat → Prop} {ts : List Thing} (h : Iw w p F ts) (o : Obj) : Iw (w.alloc o) p F ts := h.keep ((Kp.refl nob w).alloc o) (fun _ _ e => e)
theorem hash_one (p : Nat) (F : Nat → Prop) (ts : List Thing) (A : Option Addr) (n c : Nat) (l : List UInt8) (t : TypeId) (w : World)
    (hw : Iw w p F ts) (ha : Arg w F A n c l) (hl : ts.length ≤ 100000) (lp : l.length ≤ 1048576) :
    Calls Try.prog 17 #[.pointer (some ⟨p, 0, none⟩), .slice (some ⟨w.heap.size, 0, none⟩) 1 1] (w.alloc (.cells #[.slice A n c] t)) fun e w' => ∃ F2, e = .returned (.agg (bvs (out ts (hashT l) 32)).toArray) ∧ Iq w F w' p F2 (mk ts (hashT l)) := by
  have h := hash_i p F ts _ 1 1 _ _ (hw.mem (.cells #[.slice A n c] t)) (args_one (t := t) ha hw.lt) hl (by rw [Sha.catP_one]; exact lp)
  rw [Sha.catP_one] at h
  exact h.mono fun e w' ⟨F2, he, hq⟩ => ⟨F2, he, hq.back ((Kp.refl nob w).alloc _)⟩
theorem catP_three (p q r : Pc) : catP [p, q, r] = p.l ++ (q.l ++ r.l) := by simp [catP]
theorem hash_three (p : Nat) (F : Nat → Prop) (ts : List Thing) (A B C : Option Addr) (n c m d i j : Nat) (l o s : List UInt8) (t : TypeId) (w : World)
    (hw : Iw w p F ts) (ha : Arg w F A n c l) (hb : Arg w F B m d o) (hc : Arg w F C i j s) (hl : ts.length ≤ 100000) (lp : (l ++ (o ++ s)).length ≤ 1048576) :
    Calls Try.prog 17 #[.pointer (some ⟨p, 0, none⟩), .slice (some ⟨w.heap.size, 0, none⟩) 3 3] (w.alloc (.cells #[.slice A n c, .slice B m d, .slice C i j] t)) fun e w' => ∃ F2, e = .returned (.agg (bvs (out ts (hashT (l ++ (o ++ s))) 32)).toArray) ∧ Iq w F w' p F2 (mk ts (hashT (l ++ (o ++ s)))) := by
  have h := hash_i p F ts _ 3 3 _ _ (hw.mem (.cells #[.slice A n c, .slice B m d, .slice C i j] t)) (args_three (t := t) ha hb hc hw.lt) hl (by rw [catP_three]; exact lp)
  rw [catP_three] at h
  exact h.mono fun e w' ⟨F2, he, hq⟩ => ⟨F2, he, hq.back ((Kp.refl nob w).alloc _)⟩
theorem mac_one (p : Nat) (F : Nat → Prop) (ts : List Thing) (K : Option Addr) (nk ck : Nat) (key : List UInt8) (A : Option Addr) (n c : Nat) (l : List UInt8) (t : TypeId) (w : World)
    (hw : Iw w p F ts) (hk : Arg w F K nk ck key) (ha : Arg w F A n c l) (hl : ts.length ≤ 100000) (lk : key.length ≤ 1048576) (lp : l.length ≤ 1048576) :
    Calls Try.prog 15 #[.pointer (some ⟨p, 0, none⟩), .slice K nk ck, .slice (some ⟨w.heap.size, 0, none⟩) 1 1] (w.alloc (.cells #[.slice A n c] t)) fun e w' => ∃ F2, e = .returned (.agg (bvs (out ts (macT key l) 32)).toArray) ∧ Iq w F w' p F2 (mk ts (macT key l)) := by
  have h := mac_i p F ts K nk ck key _ 1 1 _ _ (hw.mem (.cells #[.slice A n c] t)) (hk.keep0 ((Kp.refl nob w).alloc _)) (args_one (t := t) ha hw.lt) hl lk (by rw [Sha.catP_one]; exact lp)
  rw [Sha.catP_one] at h
  exact h.mono fun e w' ⟨F2, he, hq⟩ => ⟨F2, he, hq.back ((Kp.refl nob w).alloc _)⟩
theorem mac_two (p : Nat) (F : Nat → Prop) (ts : List Thing) (K : Option Addr) (nk ck : Nat) (key : List UInt8) (A B : Option Addr) (n c m d : Nat) (l o : List UInt8) (t : TypeId) (w : World)
    (hw : Iw w p F ts) (hk : Arg w F K nk ck key) (ha : Arg w F A n c l) (hb : Arg w F B m d o) (hl : ts.length ≤ 100000) (lk : key.length ≤ 1048576) (lp : (l ++ o).length ≤ 1048576) :
    Calls Try.prog 15 #[.pointer (some ⟨p, 0, none⟩), .slice K nk ck, .slice (some ⟨w.heap.size, 0, none⟩) 2 2] (w.alloc (.cells #[.slice A n c, .slice B m d] t)) fun e w' => ∃ F2, e = .returned (.agg (bvs (out ts (macT key (l ++ o)) 32)).toArray) ∧ Iq w F w' p F2 (mk ts (macT key (l ++ o))) := by
  have h := mac_i p F ts K nk ck key _ 2 2 _ _ (hw.mem (.cells #[.slice A n c, .slice B m d] t)) (hk.keep0 ((Kp.refl nob w).alloc _)) (args_two (t := t) ha hb hw.lt) hl lk (by rw [Sha.catP_two]; exact lp)
  rw [Sha.catP_two] at h
  exact h.mono fun e w' ⟨F2, he, hq⟩ => ⟨F2, he, hq.back ((Kp.refl nob w).alloc _)⟩
theorem derive_one (p : Nat) (F : Nat → Prop) (ts : List Thing) (K : Option Addr) (nk ck : Nat) (key : List UInt8) (A : Option Addr) (n c : Nat) (l : List UInt8) (t : TypeId) (w : World)
    (hw : Iw w p F ts) (hk : Arg w F K nk ck key) (ha : Arg w F A n c l) (hl : ts.length ≤ 100000) (lk : key.length ≤ 1048576) (lp : l.length ≤ 1048576) :
    Calls Try.prog 18 #[.pointer (some ⟨p, 0, none⟩), .slice K nk ck, .slice (some ⟨w.heap.size, 0, none⟩) 1 1] (w.alloc (.cells #[.slice A n c] t)) fun e w' => ∃ F2, e = .returned (.agg (bvs (out ts (derT key l) 32)).toArray) ∧ Iq w F w' p F2 (mk ts (derT key l)) := by
  have h := derive_i p F ts K nk ck key _ 1 1 _ _ (hw.mem (.cells #[.slice A n c] t)) (hk.keep0 ((Kp.refl nob w).alloc _)) (args_one (t := t) ha hw.lt) hl lk (by rw [Sha.catP_one]; exact lp)
  rw [Sha.catP_one] at h
  exact h.mono fun e w' ⟨F2, he, hq⟩ => ⟨F2, he, hq.back ((Kp.refl nob w).alloc _)⟩
theorem derive_two (p : Nat) (F : Nat → Prop) (ts : List Thing) (K : Option Addr) (nk ck : Nat) (key : List UInt8) (A B : Option Addr) (n c m d : Nat) (l o : List UInt8) (t : TypeId) (w : World)
    (hw : Iw w p F ts) (hk : Arg w F K nk ck key) (ha : Arg w F A n c l) (hb : Arg w F B m d o) (hl : ts.length ≤ 100000) (lk : key.length ≤ 1048576) (lp : (l ++ o).length ≤ 1048576) :
    Calls Try.prog 18 #[.pointer (some ⟨p, 0, none⟩), .slice K nk ck, .slice (some ⟨w.heap.size, 0, none⟩) 2 2] (w.alloc (.cells #[.slice A n c, .slice B m d] t)) fun e w' => ∃ F2, e = .returned (.agg (bvs (out ts (derT key (l ++ o)) 32)).toArray) ∧ Iq w F w' p F2 (mk ts (derT key (l ++ o))) := by
  have h := derive_i p F ts K nk ck key _ 2 2 _ _ (hw.mem (.cells #[.slice A n c, .slice B m d] t)) (hk.keep0 ((Kp.refl nob w).alloc _)) (args_two (t := t) ha hb hw.lt) hl lk (by rw [Sha.catP_two]; exact lp)
  rw [Sha.catP_two] at h
  exact h.mono fun e w' ⟨F2, he, hq⟩ => ⟨F2, he, hq.back ((Kp.refl nob w).alloc _)⟩
theorem seal_one (p : Nat) (F : Nat → Prop) (ts : List Thing) (K : Option Addr) (nk ck : Nat) (key : List UInt8) (N : Option Addr) (nn cn : Nat) (nonce : List UInt8) (T : Option Addr) (nt ct : Nat) (text : List UInt8) (A : Option Addr) (n c : Nat) (l : List UInt8) (t : TypeId) (w : World)
    (hw : Iw w p F ts) (hk : Arg w F K nk ck key) (hn : Arg w F N nn cn nonce) (ht : Arg w F T nt ct text) (ha : Arg w F A n c l) (hl : ts.length ≤ 100000) (lk : key.length ≤ 1048576) (ln : nonce.length ≤ 1048576) (lt : text.length ≤ 1048576) (lp : l.length ≤ 1048576) :
    Calls Try.prog 11 #[.pointer (some ⟨p, 0, none⟩), .slice K nk ck, .slice N nn cn, .slice T nt ct, .slice (some ⟨w.heap.size, 0, none⟩) 1 1] (w.alloc (.cells #[.slice A n c] t)) fun e w' => ∃ F2 X cX, e = .returned (.tuple #[.slice X (text.length + 16) cX, .int .i64 0]) ∧
      Iq w F w' p F2 (mk ts (sealT key nonce l text)) ∧ Ans w w' F2 X cX (out ts (sealT key nonce l text) (text.length + 16)) := by
  have kk := (Kp.refl nob w).alloc (.cells #[.slice A n c] t)
  have h := seal_i p F ts K nk ck key N nn cn nonce T nt ct text _ 1 1 _ _ (hw.mem (.cells #[.slice A n c] t)) (hk.keep0 kk) (hn.keep0 kk) (ht.keep0 kk) (args_one (t := t) ha hw.lt) hl lk ln lt (by rw [Sha.catP_one]; exact lp)
  rw [Sha.catP_one] at h
  exact h.mono fun e w' ⟨F2, X, cX, he, hq, hx⟩ => ⟨F2, X, cX, he, hq.back kk, hx.back kk⟩
theorem seal_none (p : Nat) (F : Nat → Prop) (ts : List Thing) (K : Option Addr) (nk ck : Nat) (key : List UInt8) (N : Option Addr) (nn cn : Nat) (nonce : List UInt8) (T : Option Addr) (nt ct : Nat) (text : List UInt8) (w : World)
    (hw : Iw w p F ts) (hk : Arg w F K nk ck key) (hn : Arg w F N nn cn nonce) (ht : Arg w F T nt ct text) (hl : ts.length ≤ 100000) (lk : key.length ≤ 1048576) (ln : nonce.length ≤ 1048576) (lt : text.length ≤ 1048576) :
    Calls Try.prog 11 #[.pointer (some ⟨p, 0, none⟩), .slice K nk ck, .slice N nn cn, .slice T nt ct, .slice none 0 0] w fun e w' => ∃ F2 X cX, e = .returned (.tuple #[.slice X (text.length + 16) cX, .int .i64 0]) ∧
      Iq w F w' p F2 (mk ts (sealT key nonce [] text)) ∧ Ans w w' F2 X cX (out ts (sealT key nonce [] text) (text.length + 16)) :=
  seal_i p F ts K nk ck key N nn cn nonce T nt ct text _ 0 0 _ w hw hk hn ht (args_none w F) hl lk ln lt (by simp [catP])
/-- What Open answers of a text that may be. -/
structure Opened (w w2 : World) (r : Option (List UInt8)) (e : Ending) : Prop where
  e : ∃ X cX, e = .returned (.tuple #[.slice X (r.getD []).length cX, .int .i64 (if r.isSome then 0 else 9)]) ∧ Row w2 X (bvs (r.getD []))
  k : Kp nob w w2
theorem Opened.back {w w1 w2 : World} {r : Option (List UInt8)} {e : Ending} (h : Opened w1 w2 r e) (k : Kp nob w w1) : Opened w w2 r e := ⟨h.e, k.trans h.k (fun _ e => e.elim)⟩
theorem open_one (p : Nat) (F : Nat → Prop) (ts : List Thing) (K : Option Addr) (nk ck : Nat) (key : List UInt8) (N : Option Addr) (nn cn : Nat) (nonce : List UInt8) (T : Option Addr) (nt ct : Nat) (text : List UInt8) (A : Option Addr) (n c : Nat) (l : List UInt8) (t : TypeId) (w : World)
    (hw : Iw w p F ts) (hk : Arg w F K nk ck key) (hn : Arg w F N nn cn nonce) (ht : Arg w F T nt ct text) (ha : Arg w F A n c l) (hl : ts.length ≤ 100000) (lk : key.length ≤ 1048576) (ln : nonce.length ≤ 1048576) (lt : text.length ≤ 1048592) (lp : l.length ≤ 1048576) :
    Calls Try.prog 13 #[.pointer (some ⟨p, 0, none⟩), .slice K nk ck, .slice N nn cn, .slice T nt ct, .slice (some ⟨w.heap.size, 0, none⟩) 1 1] (w.alloc (.cells #[.slice A n c] t)) fun e w' => Opened w w' (opn ts key nonce l text) e := by
  have kk := (Kp.refl nob w).alloc (.cells #[.slice A n c] t)
  have h := open_i p F ts K nk ck key N nn cn nonce T nt ct text _ 1 1 _ _ (hw.mem (.cells #[.slice A n c] t)) (hk.keep0 kk) (hn.keep0 kk) (ht.keep0 kk) (args_one (t := t) ha hw.lt) hl lk ln lt (by rw [Sha.catP_one]; exact lp)
  rw [Sha.catP_one] at h
  exact h.mono fun e w' ⟨X, cX, he, hk2, hr⟩ => Opened.back ⟨⟨X, cX, he, hr⟩, hk2⟩ kk
theorem open_two (p : Nat) (F : Nat → Prop) (ts : List Thing) (K : Option Addr) (nk ck : Nat) (key : List UInt8) (N : Option Addr) (nn cn : Nat) (nonce : List UInt8) (T : Option Addr) (nt ct : Nat) (text : List UInt8) (A B : Option Addr) (n c m d : Nat) (l o : List UInt8) (t : TypeId) (w : World)
    (hw : Iw w p F ts) (hk : Arg w F K nk ck key) (hn : Arg w F N nn cn nonce) (ht : Arg w F T nt ct text) (ha : Arg w F A n c l) (hb : Arg w F B m d o) (hl : ts.length ≤ 100000) (lk : key.length ≤ 1048576) (ln : nonce.length ≤ 1048576) (lt : text.length ≤ 1048592) (lp : (l ++ o).length ≤ 1048576) :
    Calls Try.prog 13 #[.pointer (some ⟨p, 0, none⟩), .slice K nk ck, .slice N nn cn, .slice T nt ct, .slice (some ⟨w.heap.size, 0, none⟩) 2 2] (w.alloc (.cells #[.slice A n c, .slice B m d] t)) fun e w' => Opened w w' (opn ts key nonce (l ++ o) text) e := by
  have kk := (Kp.refl nob w).alloc (.cells #[.slice A n c, .slice B m d] t)
  have h := open_i p F ts K nk ck key N nn cn nonce T nt ct text _ 2 2 _ _ (hw.mem (.cells #[.slice A n c, .slice B m d] t)) (hk.keep0 kk) (hn.keep0 kk) (ht.keep0 kk) (args_two (t := t) ha hb hw.lt) hl lk ln lt (by rw [Sha.catP_two]; exact lp)
  rw [Sha.catP_two] at h
  exact h.mono fun e w' ⟨X, cX, he, hk2, hr⟩ => Opened.back ⟨⟨X, cX, he, hr⟩, hk2⟩ kk
/-- A copy of a row: in new memory. -/
theorem copied {w1 w2 : World} {M : Option Addr} {m cM H : Nat} {l : List UInt8} (hH : H = w1.heap.size + 1) (hown : Kit.Own 5 w2 M (0 + m) cM ([] ++ bvs l)) (hg : (w1.alloc (.cells #[] 5)).grownBy w2 (some w1.heap.size)) (hab : ab M = some w1.heap.size ∨ ab M = some H) : Kit.Own 5 w2 M m cM (bvs l) ∧ Kp nob w1 w2 ∧ ∀ k, ab M = some k → w1.heap.size ≤ k := by
  refine ⟨by rw [Nat.zero_add, List.nil_append] at hown; exact hown, ((Kp.refl nob w1).alloc _).since (Kp.of_grown (F := fun k => k = w1.heap.size) hg (fun k e => by cases e; rfl)) (fun k e => Nat.le_of_eq e.symm), fun k e => ?_⟩
  rcases hab with h | h
  · rw [h] at e; cases e; exact Nat.le_refl _
  · rw [h] at e; cases e; omega
theorem own_empty (w1 : World) : Kit.Own 5 (w1.alloc (.cells #[] 5)) (some ⟨w1.heap.size, 0, none⟩) 0 0 [] := World.ownsRow_made w1 #[] 0 (Nat.zero_le _) (by simp [maxLen]) rfl

end Go.Proofs.Ytakhanganifpnaa.Ideal
