/- What is asked of an argument of bytes, and of pieces, where a world's own blocks are known. -/
import Derived.Test.YtakhanganifpnaaIdealP
import Derived.Test.YtakhanganifpnaaPcs
import Derived.Test.YtakhanganifpnaaBlk
import Derived.Laws.IdiomStrings
namespace Go.Proofs.Ytakhanganifpnaa.Ideal
set_option linter.unusedVariables false
set_option linter.unusedSimpArgs false
open Go Go.RowKit Kit
open Sha (Pc PcsOk catP)

/-- Bytes that are handed in: none of the blocks F. -/
structure Arg (w : World) (F : Nat → Prop) (A : Option Addr) (n c : Nat) (l : List UInt8) : Prop where
  len : l.length = n
  row : Row w A (bvs l)
  far : l = [] ∨ ∀ k, ab A = some k → ¬ F k
  cap : n ≤ c
  mx : c ≤ maxLen
  nil : A = none → c = 0
theorem Arg.keep {w w2 : World} {F G : Nat → Prop} {A : Option Addr} {n c : Nat} {l : List UInt8} (h : Arg w F A n c l) (k : Kp G w w2) (hG : ∀ i, G i → F i) : Arg w2 F A n c l :=
  ⟨h.len, by
    rcases h.far with e | e
    · rw [e]; exact Row.nil _ _
    · exact h.row.keep k (fun j e1 e2 => e j e1 (hG j e2)), h.far, h.cap, h.mx, h.nil⟩
theorem Arg.keep0 {w w2 : World} {F : Nat → Prop} {A : Option Addr} {n c : Nat} {l : List UInt8} (h : Arg w F A n c l) (k : Kp nob w w2) : Arg w2 F A n c l := h.keep k (fun _ e => e.elim)
theorem Arg.mono {w : World} {F G : Nat → Prop} {A : Option Addr} {n c : Nat} {l : List UInt8} (h : Arg w F A n c l) (hG : ∀ i, i < w.heap.size → G i → F i) : Arg w G A n c l :=
  ⟨h.len, h.row, by
    by_cases e : l = []
    · exact .inl e
    · exact .inr (fun k hk hg => (h.far.resolve_left e) k hk (hG k (h.row.lt (by simpa [bvs] using e) k hk) hg)), h.cap, h.mx, h.nil⟩
/-- Pieces that are handed in. -/
structure Args (w : World) (F : Nat → Prop) (B : Option Addr) (m : Nat) (ps : List Pc) : Prop where
  len : ps.length = m
  row : Row w B (ps.map Pc.v)
  far : ps = [] ∨ ∀ k, ab B = some k → ¬ F k
  pcs : PcsOk w F ps
  nil : ∀ p ∈ ps, p.A = none → p.c = 0
  max : m ≤ 1099511627776
theorem args_none (w : World) (F : Nat → Prop) : Args w F none 0 [] := ⟨rfl, Row.nil _ _, .inl rfl, Sha.pcs_nil _ _, (fun p h => by cases h), by omega⟩
theorem Args.keep0 {w w2 : World} {F : Nat → Prop} {B : Option Addr} {m : Nat} {ps : List Pc} (h : Args w F B m ps) (k : Kp nob w w2) : Args w2 F B m ps :=
  ⟨h.len, h.row.keep0 k, h.far, h.pcs.keep k (fun _ e => e.elim), h.nil, h.max⟩
/-- A Pc out of an argument. -/
theorem Arg.pc {w : World} {F : Nat → Prop} {A : Option Addr} {n c : Nat} {l : List UInt8} (h : Arg w F A n c l) : PcsOk w F [⟨A, n, c, l⟩] := Sha.pcs_one h.len h.row h.far h.cap h.mx
/-- One piece, in a new row. -/
theorem args_one {w : World} {F : Nat → Prop} {A : Option Addr} {n c : Nat} {l : List UInt8} {t : TypeId} (h : Arg w F A n c l) (hF : ∀ k, F k → k < w.heap.size) : Args (w.alloc (.cells #[.slice A n c] t)) F (some ⟨w.heap.size, 0, none⟩) 1 [⟨A, n, c, l⟩] :=
  have h' := h.keep0 ((Kp.refl nob w).alloc (.cells #[.slice A n c] t))
  ⟨rfl, row_new w [.slice A n c] t, .inr (fun k e hk => by cases e; exact Nat.lt_irrefl _ (hF _ hk)), h'.pc, (fun p hp => by rcases List.mem_singleton.1 hp with rfl; exact h.nil), by omega⟩
theorem args_two {w : World} {F : Nat → Prop} {A B : Option Addr} {n c m d : Nat} {l o : List UInt8} {t : TypeId} (h : Arg w F A n c l) (g : Arg w F B m d o) (hF : ∀ k, F k → k < w.heap.size) : Args (w.alloc (.cells #[.slice A n c, .slice B m d] t)) F (some ⟨w.heap.size, 0, none⟩) 2 [⟨A, n, c, l⟩, ⟨B, m, d, o⟩] :=
  have k := (Kp.refl nob w).alloc (.cells #[.slice A n c, .slice B m d] t)
  ⟨rfl, row_new w [.slice A n c, .slice B m d] t, .inr (fun k e hk => by cases e; exact Nat.lt_irrefl _ (hF _ hk)), Sha.pcs_more (h.keep0 k).pc (g.keep0 k).pc, (fun p hp => by
    rcases List.mem_cons.1 hp with rfl | hp
    · exact h.nil
    · rcases List.mem_singleton.1 hp with rfl; exact g.nil), by omega⟩
theorem args_three {w : World} {F : Nat → Prop} {A B C : Option Addr} {n c m d i j : Nat} {l o s : List UInt8} {t : TypeId} (h : Arg w F A n c l) (g : Arg w F B m d o) (f : Arg w F C i j s) (hF : ∀ k, F k → k < w.heap.size) : Args (w.alloc (.cells #[.slice A n c, .slice B m d, .slice C i j] t)) F (some ⟨w.heap.size, 0, none⟩) 3 [⟨A, n, c, l⟩, ⟨B, m, d, o⟩, ⟨C, i, j, s⟩] :=
  have k := (Kp.refl nob w).alloc (.cells #[.slice A n c, .slice B m d, .slice C i j] t)
  ⟨rfl, row_new w [.slice A n c, .slice B m d, .slice C i j] t, .inr (fun k e hk => by cases e; exact Nat.lt_irrefl _ (hF _ hk)), Sha.pcs_more (h.keep0 k).pc (Sha.pcs_more (g.keep0 k).pc (f.keep0 k).pc), (fun p hp => by
    rcases List.mem_cons.1 hp with rfl | hp
    · exact h.nil
    · rcases List.mem_cons.1 hp with rfl | hp
      · exact g.nil
      · rcases List.mem_singleton.1 hp with rfl; exact f.nil), by omega⟩
/-- A string's bytes, as an argument. -/
theorem str_arg {P : Program} (w : World) (src dst e : TypeId) (l : List UInt8) (hl : l.length ≤ maxLen) (hs : P.underlying src = some .string) (hd : P.underlying dst = some (.slice e)) (he : P.underlying e = some (.int .u8)) :
    ∃ (c : Nat) (w' : World), (convert src dst (.string (str l))).run P w = .ok (.slice (some ⟨w.heap.size, 0, none⟩) l.length c) w' ∧ Kp nob w w' ∧ w'.heap.size = w.heap.size + 1 ∧
      ∀ F : Nat → Prop, (∀ k, F k → k < w.heap.size) → Arg w' F (some ⟨w.heap.size, 0, none⟩) l.length c l := by
  obtain ⟨c, w', hr, h1, h2, h3, h4, h5⟩ : ∃ (c : Nat) (w' : World), (convert src dst (.string (str l))).run P w = .ok (.slice (some ⟨w.heap.size, 0, none⟩) (str l).size c) w' ∧ Row w' (some ⟨w.heap.size, 0, none⟩) (bvs (sl (str l))) ∧ Kp nob w w' ∧ w'.heap.size = w.heap.size + 1 ∧ (str l).size ≤ c ∧ c ≤ maxLen := by
    have hr := run_bytes_of_string (P := P) w src dst e (str l) hs hd he
    obtain ⟨c, w', hr', h1, h2, h3⟩ := run_str_bytes (P := P) w src dst e (str l) hs hd he
    rw [hr] at hr'
    have hc : grownCap w (str l).size 0 e = c := by
      have := congrArg (fun r => match r with | Result.ok (Value.slice _ _ c) _ => c | _ => 0) hr'
      exact this
    exact ⟨c, w', by rw [hr, hr'], h1, h2, h3, by rw [← hc]; exact grownCap_ge w _ 0 e, by rw [← hc]; exact grownCap_le_maxLen w _ 0 e (by rw [str_size]; exact hl)⟩
  rw [str_size] at hr h4
  rw [sl_str] at h1
  exact ⟨c, w', hr, h2, h3, fun F hF => ⟨rfl, h1, .inr (fun k e hk => by cases e; exact Nat.lt_irrefl _ (hF _ hk)), h4, h5, (fun e => by cases e)⟩⟩
/-- A STRING AS A SLICE OF BYTES, in a walk. -/
theorem wpList_str_arg {P : Program} {w : World} {ops : Array Oper} {rest : List Oper} {o : Oper} {a : Act} {Q : Exit → Act → World → Prop} (hgd : o.guard = none) (src dst e : TypeId) (x : Operand) (ho : o.op = .convert src dst x)
    (hs : P.underlying src = some .string) (hd : P.underlying dst = some (.slice e)) (he : P.underlying e = some (.int .u8)) (l : List UInt8) (hl : l.length ≤ maxLen) (hx : a.eval x = .string (str l))
    (h : ∀ c w', Kp nob w w' → w'.heap.size = w.heap.size + 1 → (∀ F : Nat → Prop, (∀ k, F k → k < w.heap.size) → Arg w' F (some ⟨w.heap.size, 0, none⟩) l.length c l) → wpList P ops Q rest (a.put o.dst (.slice (some ⟨w.heap.size, 0, none⟩) l.length c)) w') : wpList P ops Q (o :: rest) a w := by
  obtain ⟨c, w', hr, h1, h2, h3⟩ := str_arg (P := P) w src dst e l hl hs hd he
  refine wpList_exec hgd (v := .slice (some ⟨w.heap.size, 0, none⟩) l.length c) (w' := w') ?_ (h c w' h1 h2 h3)
  unfold execOp
  simp only [ho, hx, Sem.run_bind, hr, Result.andThen_ok, Sem.run_pure]
/-- .. its length told. -/
theorem wpList_str_argN {P : Program} {w : World} {ops : Array Oper} {rest : List Oper} {o : Oper} {a : Act} {Q : Exit → Act → World → Prop} (hgd : o.guard = none) (src dst e : TypeId) (x : Operand) (ho : o.op = .convert src dst x)
    (hs : P.underlying src = some .string) (hd : P.underlying dst = some (.slice e)) (he : P.underlying e = some (.int .u8)) (l : List UInt8) (n : Nat) (hn : l.length = n) (hl : n ≤ maxLen) (hx : a.eval x = .string (str l))
    (h : ∀ c w', Kp nob w w' → w'.heap.size = w.heap.size + 1 → (∀ F : Nat → Prop, (∀ k, F k → k < w.heap.size) → Arg w' F (some ⟨w.heap.size, 0, none⟩) n c l) → wpList P ops Q rest (a.put o.dst (.slice (some ⟨w.heap.size, 0, none⟩) n c)) w') : wpList P ops Q (o :: rest) a w := by
  subst hn
  exact wpList_str_arg hgd src dst e x ho hs hd he l hl hx h
/-- Bytes that a call makes of letters. -/
theorem lit_arg (w : World) (l : List UInt8) (t : TypeId) (fr : Nat × Nat) (hl : l.length ≤ maxLen) (F : Nat → Prop) (hF : ∀ k, F k → k < w.heap.size) : Arg (w.alloc (.cells (bvs l).toArray t fr)) F (some ⟨w.heap.size, 0, none⟩) l.length l.length l :=
  ⟨rfl, Sha.row_marked w (bvs l) t fr, .inr (fun k e hk => by cases e; exact Nat.lt_irrefl _ (hF _ hk)), Nat.le_refl _, hl, (fun e => by cases e)⟩
def macT (key l : List UInt8) : Thing := ⟨77, key, l, [], []⟩
def hashT (l : List UInt8) : Thing := ⟨72, l, [], [], []⟩
def derT (key l : List UInt8) : Thing := ⟨68, key, l, [], []⟩
end Go.Proofs.Ytakhanganifpnaa.Ideal
