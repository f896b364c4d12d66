/- IdealDoes: the code's world and the document's side by side, what was made so far, and a script's call in memory. -/
import Derived.Test.YtakhanganifpnaaIdealO
import Derived.Test.YtakhanganifpnaaIdealJ
namespace Go.Proofs.Ytakhanganifpnaa.Ideal
set_option linter.unusedVariables false
set_option linter.unusedSimpArgs false
open Go Go.RowKit Kit
open Sha (Pc PcsOk catP)

/-- Two worlds, and the strings that were made. -/
structure Dk (w0 : World) (p g : Nat) (F Fd : Nat → Prop) (M : Option Addr) (cM : Nat) (ts us : List Thing) (Q : Option Addr) (m cQ : Nat) (S : List (List UInt8)) (w : World) : Prop where
  i : Iw w p F ts
  d : Wd w g Fd M cM us
  ne : ∀ k, F k → ¬ Fd k
  f1 : ∀ k, F k → w0.heap.size ≤ k
  f2 : ∀ k, Fd k → w0.heap.size ≤ k
  k : Kp nob w0 w
  o : Kit.Own 9 w Q m cQ (S.map fun s => .string (str s))
  q : ∀ k, ab Q = some k → ¬ F k ∧ ¬ Fd k ∧ w0.heap.size ≤ k
/-- .. and a script's call. -/
structure Dc (w0 : World) (p g : Nat) (F Fd : Nat → Prop) (M : Option Addr) (cM : Nat) (ts us : List Thing) (Q : Option Addr) (m cQ : Nat) (S : List (List UInt8)) (z : Nat) (c : CallI) (w : World) : Prop where
  h : Dk w0 p g F Fd M cM ts us Q m cQ S w
  b : Blk w z 33 c.cells
  n1 : ¬ F z
  n2 : ¬ Fd z
section
variable {w0 w w2 : World} {p g z : Nat} {F F3 Fd Fd3 : Nat → Prop} {M M3 : Option Addr} {cM d3 : Nat} {ts us ts3 us3 : List Thing} {Q : Option Addr} {m cQ : Nat} {S : List (List UInt8)} {c : CallI} {pr : Prop}
theorem Dk.keep (h : Dk w0 p g F Fd M cM ts us Q m cQ S w) (k : Kp nob w w2) : Dk w0 p g F Fd M cM ts us Q m cQ S w2 :=
  ⟨h.i.keep k (fun _ _ e => e), h.d.keep0 k, h.ne, h.f1, h.f2, h.k.trans k (fun _ e => e.elim), h.o.keep k (fun _ _ e => e), h.q⟩
theorem Dk.code (h : Dk w0 p g F Fd M cM ts us Q m cQ S w) (q : Iq w F w2 p F3 ts3) : Dk w0 p g F3 Fd M cM ts3 us Q m cQ S w2 :=
  ⟨q.i, h.d.keep q.k (fun i e e2 => h.ne i e2 e), fun k e e2 => (q.f k e).elim (fun e => h.ne k e e2) (fun e => by have := h.d.lt k e2; omega), fun k e => (q.f k e).elim (h.f1 k) (fun e => Nat.le_trans h.k.size e), h.f2, h.k.since q.k h.f1, h.o.keep q.k (fun k e e2 => (h.q k e).1 e2), fun k e => ⟨fun e2 => (q.f k e2).elim (h.q k e).1 (fun e2 => by have := h.o.lt k e; omega), (h.q k e).2⟩⟩
theorem Dk.doc (h : Dk w0 p g F Fd M cM ts us Q m cQ S w) (q : Mw w g Fd M cM pr us3 Fd3 M3 d3 w2) : Dk w0 p g F Fd3 M3 d3 ts us3 Q m cQ S w2 :=
  ⟨h.i.keep q.kp (fun i e e2 => h.ne i e e2), q.d, fun k e e2 => (q.f k e2).elim (h.ne k e) (fun e2 => by have := h.i.lt k e; omega), h.f1, fun k e => (q.f k e).elim (h.f2 k) (fun e => Nat.le_trans h.k.size e), h.k.since q.kp h.f2, h.o.keep q.kp (fun k e e2 => (h.q k e).2.1 e2), fun k e => ⟨(h.q k e).1, fun e2 => (q.f k e2).elim (h.q k e).2.1 (fun e2 => by have := h.o.lt k e; omega), (h.q k e).2.2⟩⟩
theorem Dk.app (h : Dk w0 p g F Fd M cM ts us Q m cQ S w) {Q2 : Option Addr} {c2 : Nat} {x : List UInt8} (ho : Kit.Own 9 w2 Q2 (m + 1) c2 ((S.map fun s => .string (str s)) ++ [.string (str x)])) (hg : w.grownBy w2 (ab Q)) (hab : ab Q2 = ab Q ∨ ab Q2 = some w.heap.size) : Dk w0 p g F Fd M cM ts us Q2 (m + 1) c2 (S ++ [x]) w2 := by
  have k : Kp (rowF Q) w w2 := (Kp.refl (rowF Q) w).grown hg (fun k e => .inl e)
  refine ⟨h.i.keep k (fun i e e2 => (h.q i e2).1 e), h.d.keep k (fun i e e2 => (h.q i e2).2.1 e), h.ne, h.f1, h.f2, h.k.since k (fun i e => (h.q i e).2.2), by rw [List.map_append]; exact ho, fun j e => ?_⟩
  rcases hab with hab | hab <;> rw [hab] at e
  · exact h.q j e
  · cases e; exact ⟨fun e => by have := h.i.lt _ e; omega, fun e => by have := h.d.lt _ e; omega, h.k.size⟩
theorem Dk.len (h : Dk w0 p g F Fd M cM ts us Q m cQ S w) : S.length = m := by have := h.o.len; rwa [List.length_map] at this
theorem Dk.new (h : Dk w0 p g F Fd M cM ts us Q m cQ S w) (k : Kp nob w w2) (hz : z = w.heap.size) (b : Blk w2 z 33 c.cells) : Dc w0 p g F Fd M cM ts us Q m cQ S z c w2 :=
  ⟨h.keep k, b, fun e => by have := h.i.lt z e; omega, fun e => by have := h.d.lt z e; omega⟩
theorem Dc.keep (h : Dc w0 p g F Fd M cM ts us Q m cQ S z c w) (k : Kp nob w w2) : Dc w0 p g F Fd M cM ts us Q m cQ S z c w2 := ⟨h.h.keep k, h.b.keep k (fun e => e), h.n1, h.n2⟩
theorem Dc.code (h : Dc w0 p g F Fd M cM ts us Q m cQ S z c w) (q : Iq w F w2 p F3 ts3) : Dc w0 p g F3 Fd M cM ts3 us Q m cQ S z c w2 := ⟨h.h.code q, h.b.keep q.k h.n1, fun e => (q.f z e).elim h.n1 (fun e => by have := h.b.lt; omega), h.n2⟩
theorem Dc.doc (h : Dc w0 p g F Fd M cM ts us Q m cQ S z c w) (q : Mw w g Fd M cM pr us3 Fd3 M3 d3 w2) : Dc w0 p g F Fd3 M3 d3 ts us3 Q m cQ S z c w2 := ⟨h.h.doc q, h.b.keep q.kp h.n2, h.n1, fun e => (q.f z e).elim h.n2 (fun e => by have := h.b.lt; omega)⟩
theorem Dc.c0 (h : Dc w0 p g F Fd M cM ts us Q m cQ S z c w) : w.cell? ⟨z, 0, none⟩ = some (.int .i64 c.kind) := by rw [h.b.cell]; rfl
theorem Dc.c1 (h : Dc w0 p g F Fd M cM ts us Q m cQ S z c w) : w.cell? ⟨z, 1, none⟩ = some (.string (str c.key)) := by rw [h.b.cell]; rfl
theorem Dc.c2 (h : Dc w0 p g F Fd M cM ts us Q m cQ S z c w) : w.cell? ⟨z, 2, none⟩ = some (.string (str c.nonce)) := by rw [h.b.cell]; rfl
theorem Dc.c3 (h : Dc w0 p g F Fd M cM ts us Q m cQ S z c w) : w.cell? ⟨z, 3, none⟩ = some (.string (str c.aad)) := by rw [h.b.cell]; rfl
theorem Dc.c4 (h : Dc w0 p g F Fd M cM ts us Q m cQ S z c w) : w.cell? ⟨z, 4, none⟩ = some (.string (str c.text)) := by rw [h.b.cell]; rfl
theorem Dc.c5 (h : Dc w0 p g F Fd M cM ts us Q m cQ S z c w) : w.cell? ⟨z, 5, none⟩ = some (.int .i64 c.n) := by rw [h.b.cell]; rfl
/-- An answer of the code's lies behind a call of the document's. -/
theorem Ans.doc {X : Option Addr} {cX : Nat} {l : List UInt8} {w3 : World} (x : Ans w w2 F X cX l) (h : ∀ k, Fd k → k < w.heap.size) (k : Kp Fd w2 w3) : Row w3 X (bvs l) := x.row.keep k (fun j e e2 => by have := (x.far j e).1; have := h j e2; omega)
end
/-- The document's world, new. -/
theorem wd_new (w : World) : Wd (w.alloc (.cells #[.slice none 0 0] 30)) w.heap.size (fun k => k = w.heap.size) none 0 [] :=
  ⟨Blk.new w 30 [.slice none 0 0], OwnK.nil 5 45 _, (fun k e => by cases e), rfl, fun k e => by subst e; simp⟩
theorem dk_new {w0 w w2 : World} {p : Nat} {F : Nat → Prop} (k0 : Kp nob w0 w) (q : Iq w nob w2 p F []) : Dk w0 p w2.heap.size F (fun k => k = w2.heap.size) none 0 [] [] none 0 0 [] (w2.alloc (.cells #[.slice none 0 0] 30)) := by
  have ka := (Kp.refl nob w2).alloc (.cells #[.slice none 0 0] 30)
  have k2 := k0.trans q.k (fun _ e => e.elim)
  exact ⟨q.i.keep ka (fun _ _ e => e), wd_new w2, (fun k e e2 => by have := q.i.lt k e; omega), (fun k e => Nat.le_trans k0.size ((q.f k e).resolve_left (fun e => e))), (fun k e => by rw [e]; exact k2.size), k2.trans ka (fun _ e => e.elim), Kit.Own.nil _ _, (fun k e => by cases e)⟩
theorem mem_mk_d {ts : List Thing} {t : Thing} (h : ∀ u ∈ ts, u.d.length ≤ 4096) (ht : t.d.length ≤ 4096) : ∀ u ∈ mk ts t, u.d.length ≤ 4096 := fun u hu => by
  rcases (mem_mk ts t u).1 hu with rfl | hu
  · exact ht
  · exact h u hu
theorem step_asg {ops : Array Oper} {o : Oper} {a : Act} {w : World} {K : Act → World → Prop} {Q : Exit → Act → World → Prop} {E : Prop} {v : Value} (x : Operand) (hw : Region.wanted o (yielded ops a.tmps) = true) (ho : o.op = .assign x) (hx : a.eval x = v) (h : K (a.put o.dst v) w) : if Region.wanted o (yielded ops a.tmps) = true then Oper.wp Try.prog o a w K Q else E :=
  step_execW hw (by unfold execOp; simp only [ho, hx, Sem.run_pure]) h
theorem arg_none (w : World) (F : Nat → Prop) : Arg w F none 0 0 [] := ⟨rfl, Row.nil _ _, .inl rfl, Nat.le_refl _, Nat.zero_le _, fun _ => rfl⟩
theorem strs_under : Try.prog.underlying 31 = some (.slice 9) := by kernel_rfl
theorem str_info : (Try.prog.info? 9).map (fun i => (i.zero, i.size, i.bytes)) = some (some (.string ⟨#[]⟩), 1, 16) := by kernel_rfl
theorem str_row {w : World} {A : Option Addr} {ss : List (List UInt8)} (h : Row w A (ss.map fun s => .string (str s))) (i : Nat) (x : List UInt8) (hx : ss[i]? = some x) : ∃ b o, A = some ⟨b, o, none⟩ ∧ b < w.heap.size ∧ w.cell? ⟨b, o + i, none⟩ = some (.string (str x)) := by
  have hi := (List.getElem?_eq_some_iff.1 hx).1
  obtain ⟨b, o, h1, h2, h3⟩ := h.at_ (i := i) (by rw [List.length_map]; exact hi)
  refine ⟨b, o, h1, h2, ?_⟩
  rw [h3, List.getElem_map, (List.getElem?_eq_some_iff.1 hx).2]
end Go.Proofs.Ytakhanganifpnaa.Ideal
