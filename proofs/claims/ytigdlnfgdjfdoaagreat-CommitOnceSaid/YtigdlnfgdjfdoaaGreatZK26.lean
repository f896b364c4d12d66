/- Lemmas: RecG SegV MerC SegW SegX SegL. -/
import Derived.Test.YtigdlnfgdjfdoaaGreatZCodeRT
import Derived.Test.YtigdlnfgdjfdoaaGreatZK24
set_option maxHeartbeats 4000000
set_option maxRecDepth 100000
set_option linter.unusedVariables false
set_option linter.unusedSimpArgs false
namespace Go.Proofs.YtigdlnfgdjfdoaaGreat
namespace Rec
open Go Go.RowKit Kit
def zr : Rec := ⟨0, 0, 0, 0, 0, []⟩
theorem rec_row : (Tryz.prog.underlying 67).map (·.isRow) = some true := by kernel_rfl
theorem rec_undE : ∃ d, Tryz.prog.underlying 67 = some d ∧ d.isRow = true := by
 have h := rec_row
 cases hu : Tryz.prog.underlying 67 with
 | none => rw [hu] at h; cases h
 | some d => rw [hu] at h; exact ⟨d, rfl, by simpa using h⟩
structure Gw (w : World) (M b : Nat) (A : Option Addr) (s : List UInt8 × Bool) (w2 : World) : Prop where
 z : Blk w2 w.heap.size 67 (rcells zr)
 i : IsR w2 b A s.1 s.2
 f : ∀ k, WF b A k → w.heap.size < k ∧ k < M
 k : Kp nob w w2
theorem Gw.keep {w w2 w3 : World} {M b : Nat} {A : Option Addr} {s : List UInt8 × Bool} (h : Gw w M b A s w2) (k : Kp nob w2 w3) : Gw w M b A s w3 := ⟨h.z.keep k (fun e => e), h.i.keep k (fun _ _ e => e), h.f, h.k.trans k (fun _ e => e.elim)⟩
theorem Gw.far {w w2 w3 : World} {M b : Nat} {A : Option Addr} {s : List UInt8 × Bool} {F : Nat → Prop} (h : Gw w M b A s w2) (k : Kp F w2 w3) (hF : ∀ j, F j → ¬ WF b A j ∧ w.heap.size < j) : Gw w M b A s w3 :=
 ⟨h.z.keep k (fun e => Nat.lt_irrefl _ (hF _ e).2), h.i.keep k (fun j e e2 => (hF j e2).1 e), h.f, h.k.since k (fun i e => Nat.le_of_lt (hF i e).2)⟩
theorem Gw.more {w w2 w3 : World} {M b : Nat} {A : Option Addr} {s s' : List UInt8 × Bool} (h : Gw w M b A s w2) (p : RPost w2 b A s' w3) : ∃ A', Gw w M b A' s' w3 := by
 obtain ⟨A', h1, h2, h3⟩ := p
 have hb : w.heap.size < b := (h.f b (.inl rfl)).1
 refine ⟨A', h.z.keep h2 (fun e => by have e : w.heap.size = b := e; omega), h1, fun k e => ?_, h.k.since h2 (fun i e => by have e : i = b := e; omega)⟩
 rcases e with e | e
 · exact h.f k (.inl e)
 · rcases h3 with h3 | h3
   · rw [h3] at e; exact h.f k (.inr e)
   · rw [h3] at e; cases e
def st (s : List UInt8 × Bool) : Nat → List UInt8 × Bool
 | 0 => s
 | n + 1 => if n < 4 then (sNum (st s n)).2 else (sText (st s n) 512).2
def vv (s : List UInt8 × Bool) (p : Nat) : Value := if p < 4 then .int .i64 (sNum (st s p)).1 else .string (str (sText (st s p) 512).1)
def rd (x : UInt8) (s : List UInt8 × Bool) : Rec := ⟨(x.toNat : Int), (sNum (st s 0)).1, (sNum (st s 1)).1, (sNum (st s 2)).1, (sNum (st s 3)).1, (sText (st s 4) 512).1⟩
theorem rd_eq (x : UInt8) (l : List UInt8) : recRead (x :: l) = (rd x (l, false), st (l, false) 5) := by
 rw [recRead_cons]; rfl
def gotR (l : List UInt8) : Rec := (recGet l).getD zr
def gotE (l : List UInt8) : Int := if (recGet l).isSome then 0 else 4
theorem recGet_cons (x : UInt8) (l : List UInt8) : recGet (x :: l) = if (!(st (l, false) 5).2 && (st (l, false) 5).1.isEmpty) = true ∧ good (rd x (l, false)) = true then some (rd x (l, false)) else none := by
 have e : ((!(st (l, false) 5).2 && (st (l, false) 5).1.isEmpty) = true ∧ good (rd x (l, false)) = true) ↔ ((st (l, false) 5).2 = false ∧ (st (l, false) 5).1 = [] ∧ good (rd x (l, false)) = true) := by
  simp only [Bool.and_eq_true, Bool.not_eq_true', List.isEmpty_iff, and_assoc]
 unfold recGet
 rw [if_neg (by simp), rd_eq]
 by_cases h : (!(st (l, false) 5).2 && (st (l, false) 5).1.isEmpty) = true ∧ good (rd x (l, false)) = true
 · rw [if_pos h, if_pos (e.1 h)]
 · rw [if_neg h, if_neg (fun h2 => h (e.2 h2))]
theorem build_rec (k q i n t : Int) (b : ByteArray) (w : World) : (Instr.build 67 #[(0, .int .i64 k), (1, .int .i64 q), (2, .int .i64 i), (3, .int .i64 n), (4, .int .i64 t), (5, .string b)]).run Tryz.prog w = .ok (.agg #[.int .i64 k, .int .i64 q, .int .i64 i, .int .i64 n, .int .i64 t, .string b]) w := by kernel_rfl
def Tg (w : World) (M b b2 : Nat) (x : UInt8) (s : List UInt8 × Bool) (N : Nat) (p : Nat) (w' : World) : Prop :=
 (∃ A, Gw w M b A (st s (min p 5)) w') ∧ w'.cell? ⟨b2, 0, none⟩ = some (bv x) ∧ b2 < N ∧ b2 ≠ b ∧ N ≤ w'.heap.size ∧ b < N ∧ M ≤ N
theorem Tg.alloc {w : World} {M b b2 : Nat} {x : UInt8} {s : List UInt8 × Bool} {N p : Nat} {w' : World} (h : Tg w M b b2 x s N p w') (o : Obj) : Tg w M b b2 x s N p (w'.alloc o) := by
 obtain ⟨⟨A, h1⟩, h2, h3, h4, h5, h6⟩ := h
 have k := (Kp.refl nob w').alloc o
 exact ⟨⟨A, h1.keep k⟩, (k.cell (p := ⟨b2, 0, none⟩) (by show b2 < _; omega) (fun e => e)).trans h2, h3, h4, Nat.le_trans h5 k.size, h6⟩
theorem Tg.go {w : World} {M b b2 : Nat} {x : UInt8} {s : List UInt8 × Bool} {N p : Nat} {w' w2 : World} {A : Option Addr} (h : Tg w M b b2 x s N p w') (hA : Gw w M b A (st s (min p 5)) w') (r : RPost w' b A (st s (min (p + 1) 5)) w2) : Tg w M b b2 x s N (p + 1) w2 ∧ Kp (oneF b) w' w2 := by
 obtain ⟨_, h2, h3, h4, h5, h6⟩ := h
 have k : Kp (oneF b) w' w2 := by obtain ⟨_, _, k, _⟩ := r; exact k
 exact ⟨⟨hA.more r, (k.cell (p := ⟨b2, 0, none⟩) (by show b2 < _; omega) (fun e => h4 e)).trans h2, h3, h4, Nat.le_trans h5 k.size, h6⟩, k⟩
theorem Tg.num {w : World} {M b b2 : Nat} {x : UInt8} {s : List UInt8 × Bool} {N p : Nat} {w' : World} (h : Tg w M b b2 x s N p w') (hp : p < 4) :
    Calls Tryz.prog 116 #[.pointer (some ⟨b, 0, none⟩)] w' fun e w2 => e = .returned (vv s p) ∧ Tg w M b b2 x s N (p + 1) w2 ∧ Kp (oneF b) w' w2 := by
 obtain ⟨A, hA⟩ := h.1
 have e1 : min p 5 = p := by omega
 have e2 : min (p + 1) 5 = p + 1 := by omega
 refine (rNum b A (st s (min p 5)) w' hA.i).mono ?_
 rintro e w2 ⟨rfl, r⟩
 refine ⟨by rw [vv, if_pos hp, e1], h.go hA ?_⟩
 rw [e2, st, if_pos hp, ← e1]; exact r
theorem Tg.text {w : World} {M b b2 : Nat} {x : UInt8} {s : List UInt8 × Bool} {N : Nat} {w' : World} (h : Tg w M b b2 x s N 4 w') :
    Calls Tryz.prog 103 #[.pointer (some ⟨b, 0, none⟩), .int .i64 512] w' fun e w2 => e = .returned (vv s 4) ∧ Tg w M b b2 x s N (4 + 1) w2 ∧ Kp (oneF b) w' w2 := by
 obtain ⟨A, hA⟩ := h.1
 refine (rText b A (st s 4) 512 w' hA.i).mono ?_
 rintro e w2 ⟨rfl, r⟩
 exact ⟨rfl, h.go hA r⟩
theorem Tg.last {w : World} {M b b2 : Nat} {x : UInt8} {s : List UInt8 × Bool} {N : Nat} {w' : World} (h : Tg w M b b2 x s N 5 w') : Tg w M b b2 x s N (5 + 1) w' := h
theorem sText_len (s : List UInt8 × Bool) (most : Int) : (sText s most).1.length ≤ 65536 := by
 unfold sText
 split
 · simp
 · rename_i h
   have := sTake_length (sTake s 3).2 (lowN (sTake s 3).1.1 : Nat)
   simp only [Int.toNat_natCast] at this
   show (sTake (sTake s 3).2 (lowN (sTake s 3).1.1 : Nat)).1.1.length ≤ 65536
   omega
theorem rd_len (x : UInt8) (s : List UInt8 × Bool) : (rd x s).body.length ≤ 65536 := sText_len _ _
end Rec
namespace Seg
open Go Go.RowKit Kit
open Rec (Rec good ftot ftot_snoc ftot_take recB Rrow)
open Ideal (Ts Thing Ans Arg Args sealT derT hashT leafT rootT)
open Vault
structure Pt where
 q : Int
 X : Option Addr
 c : Nat
 b : List UInt8
def Pt.cells (p : Pt) : List Value := [.int .i64 p.q, .slice p.X p.b.length p.c]
def Pt.two (p : Pt) : Int × List UInt8 := (p.q, p.b)
structure Parts (w : World) (P : Nat → Prop) (A : Option Addr) (gs : List Pt) : Prop where
 row : Row w A (gs.flatMap Pt.cells)
 far : gs = [] ∨ ∀ i, ab A = some i → ¬ P i
 arg : ∀ g ∈ gs, Arg w P g.X g.b.length g.c g.b
theorem cells_length (gs : List Pt) : (gs.flatMap Pt.cells).length = gs.length * 2 := by
 induction gs with
 | nil => rfl
 | cons g gs ih => rw [List.flatMap_cons, List.length_append, ih, List.length_cons, Nat.add_mul, Nat.add_comm]; rfl
theorem Parts.keep0 {w w2 : World} {P : Nat → Prop} {A : Option Addr} {gs : List Pt} (h : Parts w P A gs) (k : Kp nob w w2) : Parts w2 P A gs := ⟨h.row.keep0 k, h.far, fun g hg => (h.arg g hg).keep0 k⟩
theorem Parts.call {w w2 : World} {c : Vc} {x x2 : Vt} {A : Option Addr} {gs : List Pt} (q : Vq w c x w2 x2) (h : Parts w x.P A gs) : Parts w2 x2.P A gs := by
 refine ⟨?_, ?_, fun g hg => q.arg (h.arg g hg)⟩
 · rcases h.far with e | e
   · subst e; exact Row.nil _ _
   · exact h.row.keep q.kp e
 · rcases h.far with e | e
   · exact .inl e
   · by_cases hn : gs = []
     · exact .inl hn
     · exact .inr (fun i hi => q.old (e i hi) (h.row.lt (fun e2 => hn (List.eq_nil_of_length_eq_zero (by have := cells_length gs; rw [e2] at this; simp at this; omega))) i hi))
theorem Parts.at_ {w : World} {P : Nat → Prop} {A : Option Addr} {gs : List Pt} (h : Parts w P A gs) {i : Nat} (hi : i < gs.length) : ∃ b o, A = some ⟨b, o, none⟩ ∧ b < w.heap.size ∧
    w.cell? ⟨b, o + i * 2, none⟩ = some (.int .i64 gs[i].q) ∧ w.cell? ⟨b, o + i * 2 + 1, none⟩ = some (.slice gs[i].X gs[i].b.length gs[i].c) := by
 have hcell : ∀ j < 2, (gs.flatMap Pt.cells)[i * 2 + j]? = (Pt.cells gs[i])[j]? := by
  intro j hj
  have h1 : gs.flatMap Pt.cells = (gs.take i).flatMap Pt.cells ++ (gs[i].cells ++ (gs.drop (i + 1)).flatMap Pt.cells) := by
   conv => lhs; rw [← List.take_append_drop i gs, List.drop_eq_getElem_cons hi]
   rw [List.flatMap_append, List.flatMap_cons]
  have h2 : ((gs.take i).flatMap Pt.cells).length = i * 2 := by rw [cells_length, List.length_take, Nat.min_eq_left (by omega)]
  rw [h1, List.getElem?_append_right (by rw [h2]; omega), h2, show i * 2 + j - i * 2 = j by omega, List.getElem?_append_left (by simp [Pt.cells]; omega)]
 rcases h.row with e | ⟨b, o, hA, hlt, hc⟩
 · exfalso
   have := cells_length gs
   rw [e] at this
   simp at this; omega
 · refine ⟨b, o, hA, hlt, ?_, ?_⟩
   · have := hc (i * 2) (.int .i64 gs[i].q) (by have := hcell 0 (by omega); simpa [Pt.cells] using this)
     exact this
   · have := hc (i * 2 + 1) (.slice gs[i].X gs[i].b.length gs[i].c) (by have := hcell 1 (by omega); simpa [Pt.cells] using this)
     rw [← Nat.add_assoc] at this; exact this
theorem part_info : (Tryz.prog.info? 188).map (fun i => (i.zero, i.size, i.bytes)) = some (some (.agg #[.int .i64 0, .slice none 0 0]), 2, 32) := by kernel_rfl
theorem part_under : Tryz.prog.underlying 166 = some (.slice 188) := by kernel_rfl
theorem ftot_le5 (rs : List Rec) (h : ∀ r ∈ rs, r.body.length ≤ 4096) : ftot rs ≤ 48 + 4159 * rs.length := by
 induction rs with
 | nil => exact Nat.le_refl _
 | cons r rs ih =>
   have hf : ftot (r :: rs) = 63 + r.body.length + ftot rs := by simp [ftot]; omega
   have := ih (fun x hx => h x (List.mem_cons_of_mem _ hx))
   have := h r List.mem_cons_self
   rw [hf, List.length_cons]; omega
theorem refu_perr (lim : Nat) (e s : Int) (k T : Nat) (r : Rec) (hg : good r = true) (hsm : T + 63 + r.body.length ≤ 16384) (hsq : k = 0 ∨ (0 ≤ s ∧ s + k ≤ lim)) : refu lim e (s + (k : Int)) = perr1 lim e s k T r := by
 have h : perr1 lim e s k T r = if e < 0 ∨ s < 0 then 1 else if 4294967296 ≤ e ∨ (lim : Int) - (k : Int) ≤ s then 10 else 0 := by
  unfold perr1; rw [if_neg (by rw [hg]; simp), if_neg (by omega)]
 rw [h]
 unfold refu
 by_cases h1 : e < 0 ∨ s < 0
 · rw [if_pos h1, if_pos (by omega)]
 · rw [if_neg h1, if_neg (by omega)]
   by_cases h2 : 4294967296 ≤ e ∨ (lim : Int) - (k : Int) ≤ s
   · rw [if_pos h2, if_pos (by omega)]
   · rw [if_neg h2, if_neg (by omega)]
theorem clash_le (sl : List (Pl × List UInt8)) (p : Pl) (t : List UInt8) : clash dift sl p t ≤ 1 := by
 unfold clash
 split
 · omega
 · split <;> omega
structure SL (w : World) (c : Vc) (x : Vt) (e s : Int) (at' : List UInt8) (rs : List Rec) (k : Nat) (wr : World) (x2 : Vt) (Z : Option Addr) (cz : Nat) (gs : List Pt) : Prop where
 q : Vq w c x wr x2
 o_ : x2.o = (stA c.ms e s at' rs.length x.o (rs.take k)).1
 cl : x2.cl ≤ x.cl + k
 once : Once e s (fun j => rs[j]?.map recB) k x.sl x.cl x2.sl x2.cl
 own : OwnK 2 188 wr Z k cz (gs.flatMap Pt.cells)
 two : gs.map Pt.two = (stA c.ms e s at' rs.length x.o (rs.take k)).2
 zf : ∀ i, ab Z = some i → w.heap.size < i ∧ ¬ x2.P i
 arg : ∀ g ∈ gs, Arg wr x2.P g.X g.b.length g.c g.b
 apart : ∀ g ∈ gs, ∀ i, ab g.X = some i → i < wr.heap.size ∧ ab Z ≠ some i
 at_ : Blk wr w.heap.size 47 (bvs at')
 af : ¬ x2.P w.heap.size
 er : perrs c.lim e s 0 48 rs = perrs c.lim e s k (ftot (rs.take k)) (rs.drop k)
 bd : bad c.lim e s 0 48 rs = k + bad c.lim e s k (ftot (rs.take k)) (rs.drop k)
 sq : k = 0 ∨ (0 ≤ s ∧ s + k ≤ c.lim)
theorem SL.start {w w1 : World} {c : Vc} {x : Vt} {e s : Int} {at' : List UInt8} {rs : List Rec} (h : Vx w c x) (k : Kp nob w w1) (hb : Blk w1 w.heap.size 47 (bvs at')) : SL w c x e s at' rs 0 w1 x none 0 [] := by
 refine ⟨(Vq.refl h).over0 k, ?_, Nat.le_refl _, Once.start _ _ _ _ _, OwnK.nil 2 188 w1, ?_, fun i h => (by cases h), fun g hg => (by cases hg), fun g hg => (by cases hg), hb, fun e => (by have := h.lt _ e; omega), ?_, ?_, .inl rfl⟩
 · rw [List.take_zero, stA_nil]
 · rw [List.take_zero, stA_nil]; rfl
 · rw [List.take_zero, List.drop_zero]; rfl
 · rw [List.take_zero, List.drop_zero, Nat.zero_add]; rfl
theorem end1_no (ms : List UInt8) (o : Ts) (size : Nat) (r : Rec) (h : good r = false ∨ 16384 < size + 63 + r.body.length) : end1 ms o size r = o := if_neg (fun e => by
 rcases h with h | h
 · rw [h] at e; cases e.1
 · omega)
theorem end1_yes (ms : List UInt8) (o : Ts) (size : Nat) (r : Rec) (h : good r = true) (h2 : size + 63 + r.body.length ≤ 16384) : end1 ms o size r = o.nx (keyT ms r.queue) := if_pos ⟨h, h2⟩
theorem SL.bad1 {w wr : World} {c : Vc} {x x2 : Vt} {e s : Int} {at' : List UInt8} {rs : List Rec} {k : Nat} {Z : Option Addr} {cz : Nat} {gs : List Pt} (h : SL w c x e s at' rs k wr x2 Z cz gs) (hk : k < rs.length) {E : Int} (he : perr1 c.lim e s k (ftot (rs.take k)) rs[k] = E) (hE : E ≠ 0) :
    perrs c.lim e s 0 48 rs = E ∧ lft c.ms e s at' x.o rs (bad c.lim e s 0 48 rs) = end1 c.ms x2.o (ftot (rs.take k)) rs[k] := by
 have h1 := h.er
 have h2 := h.bd
 rw [List.drop_eq_getElem_cons hk, perrs_cons, if_neg (by rw [he]; exact hE), he] at h1
 rw [List.drop_eq_getElem_cons hk, bad_cons, if_neg (by rw [he]; exact hE)] at h2
 refine ⟨h1, ?_⟩
 rw [h2, Nat.add_zero, lft_at _ _ _ _ _ _ _ hk, h.o_]
theorem SL.next {w wr : World} {c : Vc} {x x2 : Vt} {e s : Int} {at' : List UInt8} {rs : List Rec} {k : Nat} {Z : Option Addr} {cz : Nat} {gs : List Pt} (h : SL w c x e s at' rs k wr x2 Z cz gs) (hk : k < rs.length) (he : perr1 c.lim e s k (ftot (rs.take k)) rs[k] = 0) :
    perrs c.lim e s 0 48 rs = perrs c.lim e s (k + 1) (ftot (rs.take (k + 1))) (rs.drop (k + 1)) ∧ bad c.lim e s 0 48 rs = k + 1 + bad c.lim e s (k + 1) (ftot (rs.take (k + 1))) (rs.drop (k + 1)) := by
 have h1 := h.er
 have h2 := h.bd
 rw [List.drop_eq_getElem_cons hk, perrs_cons, if_pos he] at h1
 rw [List.drop_eq_getElem_cons hk, bad_cons, if_pos he] at h2
 rw [ftot_snoc rs k hk]
 exact ⟨h1, by rw [h2]; omega⟩
theorem SL.own_ {w wr w3 w4 w5 w6 : World} {c : Vc} {x x2 x4 x5 : Vt} {e s : Int} {at' : List UInt8} {rs : List Rec} {k : Nat} {Z : Option Addr} {cz : Nat} {gs : List Pt} (h : SL w c x e s at' rs k wr x2 Z cz gs)
    (k3 : Kp nob wr w3) (q4 : Vq w3 c x2 w4 x4) (q5 : Vq w4 c x4 w5 x5) (k6 : Kp nob w5 w6) : OwnK 2 188 w6 Z k cz (gs.flatMap Pt.cells) := by
 have h3 := h.own.keep k3 (fun j _ e => e)
 have h4 := h3.keep q4.kp (fun j e => (h.zf j e).2)
 have h5 := h4.keep q5.kp (fun j e => q4.old (h.zf j e).2 (h3.lt j e))
 exact h5.keep k6 (fun j _ e => e)
theorem SL.more {w wr w3 w4 w5 w6 w7 : World} {c : Vc} {x x2 : Vt} {e s : Int} {at' : List UInt8} {rs : List Rec} {k : Nat} {Z Z2 X : Option Addr} {cz cz2 cX cl3 : Nat} {gs : List Pt} {F2 P2 F3 P3 : Nat → Prop} {sl3 : List (Pl × List UInt8)} {b : List UInt8}
    (h : SL w c x e s at' rs k wr x2 Z cz gs) (hv : Vx w c x) (hk : k < rs.length) (p : Rec) (hp : p = rs[k]) (h1 : perr1 c.lim e s k (ftot (rs.take k)) rs[k] = 0) (k3 : Kp nob wr w3) (q4 : Vq w3 c x2 w4 ⟨F2, P2, x2.o.nx (keyT c.ms p.queue), x2.sl, x2.cl⟩)
    (q5 : Vq w4 c ⟨F2, P2, x2.o.nx (keyT c.ms p.queue), x2.sl, x2.cl⟩ w5 ⟨F3, P3, (x2.o.nx (keyT c.ms p.queue)).nx (stT c.ms e s at' rs.length x2.o k p), sl3, cl3⟩) (key : List UInt8) (hkl : key.length = 32) (hsl3 : sl3 = upd x2.sl (pl key (nonce e (s + (k : Nat))) hkl (nonce_length e (s + (k : Nat)))) (recB p)) (hcl3 : cl3 = x2.cl + clash dift x2.sl (pl key (nonce e (s + (k : Nat))) hkl (nonce_length e (s + (k : Nat)))) (recB p))
    (hA : Ans w4 w5 P3 X cX b) (hb : b = (x2.o.nx (keyT c.ms p.queue)).val (stT c.ms e s at' rs.length x2.o k p) ((recB p).length + 16)) (hb0 : b ≠ []) (k6 : Kp nob w5 w6)
    (ho : OwnK 2 188 w7 Z2 (k + 1) cz2 (gs.flatMap Pt.cells ++ Pt.cells ⟨p.queue, X, cX, b⟩)) (hg : Kp (rowF Z) w6 w7) (hz : ab Z2 = ab Z ∨ ab Z2 = some w6.heap.size) :
    SL w c x e s at' rs (k + 1) w7 ⟨F3, P3, (x2.o.nx (keyT c.ms p.queue)).nx (stT c.ms e s at' rs.length x2.o k p), sl3, cl3⟩ Z2 cz2 (gs ++ [⟨p.queue, X, cX, b⟩]) := by
 subst hp
 have s1 := h.q.kp.size
 have s3 := k3.size
 have s4 := q4.kp.size
 have s5 := q5.kp.size
 have s6 := k6.size
 have s7 := hg.size
 have hzP : ∀ i, ab Z = some i → i < wr.heap.size ∧ ¬ P3 i := fun i e => by
  have hl := h.own.lt i e
  have h4 := q4.old (h.zf i e).2 (by omega)
  exact ⟨hl, q5.old h4 (by omega)⟩
 have hP3 : ∀ i, P3 i → i < w5.heap.size := q5.now.lt
 have hX : ∀ i, ab X = some i → i < w5.heap.size := hA.row.lt (fun e2 => hb0 (by have := congrArg List.length e2; rw [bvs_length] at this; exact List.eq_nil_of_length_eq_zero this))
 have hst := stA_snoc c.ms e s at' rs.length x.o rs k hk
 have hlen : (stA c.ms e s at' rs.length x.o (rs.take k)).2.length = k := by rw [stA_length, List.length_take]; omega
 refine ⟨?_, ?_, by have := h.cl; have := clash_le x2.sl (pl key (nonce e (s + (k : Nat))) hkl (nonce_length e (s + (k : Nat)))) (recB rs[k]); simp only; omega, by simp only; rw [hsl3, hcl3]; exact h.once.more key (recB rs[k]) hkl _ (by simp [hk]), by rw [List.flatMap_append]; simpa using ho, ?_, fun i e => ?_, fun g hgm => ?_, fun g hgm i e => ?_, ?_, ?_, (h.next hk h1).1, (h.next hk h1).2, ?_⟩
 · exact ((((h.q.over0 k3).trans q4).trans q5).over0 k6).over hg (fun i _ e => ⟨by have := (h.zf i e).1; omega, (hzP i e).2⟩) hv.sz
 · rw [hst]; unfold st1; rw [hlen, ← h.o_]
 · rw [hst, List.map_append, h.two]; unfold st1; rw [hlen, ← h.o_, hb]; rfl
 · rcases hz with e2 | e2
   · rw [e2] at e; exact ⟨(h.zf i e).1, (hzP i e).2⟩
   · rw [e2] at e; cases e
     exact ⟨by have := h.at_.lt; omega, fun e3 => by have := hP3 _ e3; omega⟩
 · rcases List.mem_append.1 hgm with hgm | hgm
   · have h5 := (q5.arg (q4.arg ((h.arg g hgm).keep0 k3))).keep0 k6
     refine ⟨h5.len, h5.row.keep hg (fun j e e2 => ?_), h5.far, h5.cap, h5.mx, h5.nil⟩
     exact (h.apart g hgm j e).2 e2
   · rcases List.mem_singleton.1 hgm with rfl
     have h5 := (ans_arg hA).keep0 k6
     refine ⟨h5.len, h5.row.keep hg (fun j e e2 => ?_), h5.far, h5.cap, h5.mx, h5.nil⟩
     have h8 := (hzP j e2).1
     have h9 := (hA.far j e).1
     omega
 · rcases List.mem_append.1 hgm with hgm | hgm
   · have h8 := h.apart g hgm i e
     refine ⟨by omega, fun e2 => ?_⟩
     rcases hz with e3 | e3
     · rw [e3] at e2; exact h8.2 e2
     · rw [e3] at e2; cases e2; omega
   · rcases List.mem_singleton.1 hgm with rfl
     have h8 := hX i e
     have h9 := (hA.far i e).1
     refine ⟨by omega, fun e2 => ?_⟩
     rcases hz with e3 | e3
     · rw [e3] at e2; have := (hzP i e2).1; omega
     · rw [e3] at e2; cases e2; omega
 · refine ((q5.blk (q4.blk (h.at_.keep k3 (fun e => e)) h.af) (q4.old h.af (by have := h.at_.lt; omega))).keep k6 (fun e => e)).keep hg (fun e => ?_)
   exact Nat.lt_irrefl _ (h.zf _ e).1
 · exact q5.old (q4.old h.af (by have := h.at_.lt; omega)) (by have := h.at_.lt; omega)
 · have := perr1_ok h1
   exact .inr ⟨by omega, by omega⟩
end Seg
namespace Merkle
open Go Go.RowKit Kit
open Ideal (Iw Iq Ans Arg Args Thing mk out sealT opn derT hashT Ts half half_pow half_pos half_lt leafT pairT rootT rootT_none rootT_one rootT_more rootT_few1 rootT_length rootT_sub zc zc_run zc_length zc_eq args_one)
open Sha (Pc PcsOk catP)
open Vault
theorem dig_under : Tryz.prog.underlying 191 = some (.slice 47) := by kernel_rfl
theorem dig_sizeOf (w : World) : (sizeOf 47).run Tryz.prog w = .ok 32 w := by kernel_rfl
theorem wpList_load_rng {P : Program} {ops : Array Oper} {rest : List Oper} {op : Oper} {a : Act} {w : World} {Q : Exit → Act → World → Prop} (ty : TypeId) (x : Operand) (ho : op.op = .load ty x)
    (hw : Region.wanted op (yielded ops a.tmps) = true)
    (g o : Nat) (cs : List Value) (hB : w.rangeAt g o cs) (hx : a.eval x = .pointer (some ⟨g, o, none⟩)) (d : TypeDesc) (hu : P.underlying ty = some d) (hd : d.isRow = true) (hi : (P.info? ty).map (·.size) = some cs.length)
    (h : wpList P ops Q rest (a.put op.dst (.agg cs.toArray)) w) : wpList P ops Q (op :: rest) a w :=
 wpList_step fun K hK => by
  rw [if_pos hw]
  exact wp_load_mid ty x ho g o hx cs d hB hu hd hi (hK _ _ h)
structure Digs (w : World) (P : Nat → Prop) (A : Option Addr) (n d : Nat) (ls : List (List UInt8)) : Prop where
 len : ls.length = n
 row : Lrow w A ls
 l32 : ∀ e ∈ ls, e.length = 32
 far : ls = [] ∨ ∀ i, ab A = some i → ¬ P i
 cap : n ≤ d
 mx : d ≤ maxLen
theorem Digs.keep0 {w w2 : World} {P : Nat → Prop} {A : Option Addr} {n d : Nat} {ls : List (List UInt8)} (h : Digs w P A n d ls) (k : Kp nob w w2) : Digs w2 P A n d ls := ⟨h.len, h.row.keep0 k, h.l32, h.far, h.cap, h.mx⟩
theorem Digs.over {w : World} {P P2 : Nat → Prop} {A : Option Addr} {n d : Nat} {ls : List (List UInt8)} (h : Digs w P A n d ls) (hP : ∀ i, P2 i → P i ∨ w.heap.size ≤ i) : Digs w P2 A n d ls :=
 ⟨h.len, h.row, h.l32, by
  by_cases e : ls = []
  · exact .inl e
  · exact .inr (fun i hi hp => (hP i hp).elim (h.far.resolve_left e i hi) (fun hl => by have := h.row.lt h.l32 e i hi; omega)), h.cap, h.mx⟩
theorem Digs.take {w : World} {P : Nat → Prop} {A : Option Addr} {n d : Nat} {ls : List (List UInt8)} (h : Digs w P A n d ls) (k : Nat) (hk : k ≤ n) : Digs w P A k d (ls.take k) :=
 ⟨by rw [List.length_take, h.len]; omega, h.row.take h.l32 k, fun e he => h.l32 e (List.mem_of_mem_take he), h.far.imp (fun e => by rw [e]; simp) id, by have := h.cap; omega, h.mx⟩
theorem Digs.drop {w : World} {P : Nat → Prop} {A : Option Addr} {n d : Nat} {ls : List (List UInt8)} (h : Digs w P A n d ls) (k : Nat) : Digs w P (cutK A d k 32) (n - k) (d - k) (ls.drop k) :=
 ⟨by rw [List.length_drop, h.len], h.row.drop h.l32 d k (by rw [h.len]; exact h.cap), fun e he => h.l32 e (List.mem_of_mem_drop he), h.far.imp (fun e => by rw [e]; simp) (fun e i hi => e i (by rw [ab_cutK] at hi; exact hi)), by have := h.cap; omega, by have := h.mx; omega⟩
theorem Digs.call {w w2 : World} {c : Vc} {x x2 : Vt} {A : Option Addr} {n d : Nat} {ls : List (List UInt8)} (h : Digs w x.P A n d ls) (q : Vq w c x w2 x2) : Digs w2 x2.P A n d ls := ⟨h.len, h.row.keep q.kp h.far, h.l32, (h.over q.P).far, h.cap, h.mx⟩
def RootC (c : Vc) (N : Nat) : Prop := ∀ (ls : List (List UInt8)) (A : Option Addr) (n d : Nat) (x : Vt) (w : World) (k : Nat), n ≤ N → Vx w c x → Digs w x.P A n d ls → n ≤ 65536 → x.o.few (k + 1) → k + n ≤ 99999 → x.o.long →
 Calls Tryz.prog 107 #[.pointer (some ⟨c.v, 0, none⟩), .slice A n d] w fun e w' => ∃ F2 P2, e = .returned (.agg (bvs (rootT x.o ls).1).toArray) ∧ Vq w c x w' ⟨F2, P2, (rootT x.o ls).2, x.sl, x.cl⟩
theorem root_none (c : Vc) (A : Option Addr) (d : Nat) (x : Vt) (w : World) (h : Vx w c x) (hf : x.o.few 100000) (hlong : x.o.long) :
    Calls Tryz.prog 107 #[.pointer (some ⟨c.v, 0, none⟩), .slice A 0 d] w fun e w' => ∃ F2 P2, e = .returned (.agg (bvs (rootT x.o []).1).toArray) ∧ Vq w c x w' ⟨F2, P2, (rootT x.o []).2, x.sl, x.cl⟩ := by
 rw [rootT_none]
 have hz := zc_run
 have k0 : Kp nob w ((w.alloc (.cells zc.toArray 47)).alloc (.cells #[.int .u8 48] 5)) := ((Kp.refl nob w).alloc _).alloc _
 have a1 : Arg ((w.alloc (.cells zc.toArray 47)).alloc (.cells #[.int .u8 48] 5)) x.P (some ⟨w.heap.size + 1, 0, none⟩) 1 1 [48] := by
  have := one_arg (w.alloc (.cells zc.toArray 47)) x.P 48 5 (fun k e => by have := h.lt k e; simp; omega)
  simpa using this
 have HA : Hid (Args (((w.alloc (.cells zc.toArray 47)).alloc (.cells #[.int .u8 48] 5)).alloc (.cells #[.slice (some ⟨w.heap.size + 1, 0, none⟩) 1 1] 58)) x.P (some ⟨w.heap.size + 1 + 1, 0, none⟩) 1 [⟨some ⟨w.heap.size + 1, 0, none⟩, 1, 1, [48]⟩]) := Lib.hid (by
  have := args_one (t := 58) a1 (fun k e => by have := h.lt k e; simp; omega)
  simpa using this)
 have HK := Lib.hid (k0.alloc (.cells #[.slice (some ⟨w.heap.size + 1, 0, none⟩) 1 1] 58))
 have HB := Lib.hid ((((Blk.new w 47 zc).alloc (.cells #[.int .u8 48] 5)).alloc (.cells #[.slice (some ⟨w.heap.size + 1, 0, none⟩) 1 1] 58)))
 have HH := Lib.hid (hash_v c x _ 1 1 _ _ (h.keep0 HK.out) HA.out hf (by simp [catP]))
 have HCP : Hid (catP [⟨some ⟨w.heap.size + 1, 0, none⟩, 1, 1, [48]⟩] = [48]) := Lib.hid (by simp [catP])
 rw [HCP.out] at HH
 have HL := Lib.hid (hlong.len (hashT [48]) (.inl rfl))
 have HX := Lib.hid h
 clear h hf hlong k0 a1
 obtain ⟨D, hD⟩ : ∃ D, D = x.o.val (hashT [48]) 32 := ⟨_, rfl⟩
 obtain ⟨O, hO⟩ : ∃ O, O = x.o.nx (hashT [48]) := ⟨_, rfl⟩
 rw [← hD] at HH HL ⊢
 rw [← hO] at HH ⊢
 clear hD hO HCP HA
 go_enter Tryz.func107, Tryz.ntmps107
 go_wp2_with fail
 refine HH.out.mono ?_
 rintro e w2 ⟨F2, P2, rfl, q⟩
 have HN := Lib.hid (q.new HX.out (i := w.heap.size) (Nat.le_refl _) (by simp <;> omega))
 have HB2 := Lib.hid (HB.out.keep q.kp (fun e => by have := HX.out.lt _ e; omega))
 have HQ := Lib.hid (q.back HK.out)
 clear q
 go_wp2_with (first
  | (refine wpList_store_blk rfl 47 (.tmp 4) (.tmp 13) rfl _ _ _ (bvs D) HB2.out rfl rfl (by rw [bvs_length, HL.out, zc_length]) (by rw [bvs_length, HL.out]; kernel_rfl) (bvs_one _) ?_; intro w3 hB3 k3 z3)
  | fail)
 exact bodyPost_ret (results_cell_row rfl _ _ w.heap.size _ _ _ _ rfl hB3 rarr_under rfl (by rw [List.size_toArray]; exact rarr_size D HL.out)) rfl
  ⟨F2, P2, rfl, HQ.out.over k3 (fun i _ e => by have e : i = w.heap.size := e; subst e; exact ⟨Nat.le_refl _, HN.out⟩) HX.out.sz⟩
theorem root_one (c : Vc) (A : Option Addr) (d : Nat) (l : List UInt8) (x : Vt) (w : World) (h : Vx w c x) (hd : Digs w x.P A 1 d [l]) :
    Calls Tryz.prog 107 #[.pointer (some ⟨c.v, 0, none⟩), .slice A 1 d] w fun e w' => ∃ F2 P2, e = .returned (.agg (bvs (rootT x.o [l]).1).toArray) ∧ Vq w c x w' ⟨F2, P2, (rootT x.o [l]).2, x.sl, x.cl⟩ := by
 rw [rootT_one]
 have hz := zc_run
 have HB := Lib.hid (Blk.new w 47 zc)
 have hl : l.length = 32 := hd.l32 l (by simp)
 obtain ⟨bb, oo, rfl, hc⟩ := (hd.keep0 ((Kp.refl nob w).alloc (.cells zc.toArray 47))).row.rng hd.l32 (i := 0) (by simp)
 have HC : Hid ((w.alloc (.cells zc.toArray 47)).rangeAt bb oo (bvs l)) := Lib.hid (by simpa using hc)
 have HL := Lib.hid hl
 have HX := Lib.hid h
 clear h hd hc hl
 go_enter Tryz.func107, Tryz.ntmps107
 go_wp2_with (first
  | (refine wpList_load_rng 47 (.tmp 17) rfl rfl bb oo (bvs l) HC.out rfl _ rarr_under rfl (rarr_size l HL.out) ?_)
  | (refine wpList_store_blk rfl 47 (.tmp 4) (.tmp 18) rfl _ _ _ (bvs l) HB.out rfl rfl (by rw [bvs_length, HL.out, zc_length]) (by rw [bvs_length, HL.out]; kernel_rfl) (bvs_one _) ?_; intro w3 hB3 k3 z3)
  | fail)
 exact bodyPost_ret (results_cell_row rfl _ _ w.heap.size _ _ _ _ rfl hB3 rarr_under rfl (by rw [List.size_toArray]; exact rarr_size l HL.out)) rfl
  ⟨x.F, x.P, rfl, (Vq.refl HX.out).over0 (((Kp.refl nob w).alloc _).since k3 (fun i e => by have e : i = w.heap.size := e; omega))⟩
theorem root_more (c : Vc) (N : Nat) (ih : RootC c N) (ls : List (List UInt8)) (A : Option Addr) (n d : Nat) (x : Vt) (w : World) (k : Nat) (hN : n ≤ N + 1) (h2 : 2 ≤ n) (h : Vx w c x) (hd : Digs w x.P A n d ls) (hn : n ≤ 65536) (hf : x.o.few (k + 1)) (hk : k + n ≤ 99999) (hlong : x.o.long) :
    Calls Tryz.prog 107 #[.pointer (some ⟨c.v, 0, none⟩), .slice A n d] w fun e w' => ∃ F2 P2, e = .returned (.agg (bvs (rootT x.o ls).1).toArray) ∧ Vq w c x w' ⟨F2, P2, (rootT x.o ls).2, x.sl, x.cl⟩ := by
 have hlen := hd.len
 have hcap := hd.cap
 have hp := half_pos n
 have hlt := half_lt n h2
 obtain ⟨X, hX⟩ : ∃ X, rootT x.o (ls.take (half ls.length)) = X := ⟨_, rfl⟩
 obtain ⟨Y, hY⟩ : ∃ Y, rootT X.2 (ls.drop (half ls.length)) = Y := ⟨_, rfl⟩
 rw [rootT_more x.o ls (by omega) X Y hX hY]
 rw [hlen] at hX hY
 have t1 : (ls.take (half n)).length = half n := by rw [List.length_take]; omega
 have t2 : (ls.drop (half n)).length = n - half n := by rw [List.length_drop]; omega
 have n1 : ls.take (half n) ≠ [] := fun e => by rw [e] at t1; simp at t1; omega
 have n2 : ls.drop (half n) ≠ [] := fun e => by rw [e] at t2; simp at t2; omega
 have f1 : X.2.few (k + half n - 1 + 1) := by
  have := rootT_few1 x.o _ k n1 hf
  rw [hX, t1] at this
  exact this.mono (by omega)
 have f2 : Y.2.few 100000 := by
  have := rootT_few1 X.2 _ (k + half n - 1) n2 f1
  rw [hY, t2] at this
  exact this.mono (by omega)
 have g1 : X.2.long := by rw [← hX]; exact hlong.sub (rootT_sub _ _)
 have g2 : Y.2.long := by rw [← hY]; exact g1.sub (rootT_sub _ _)
 have l1 : X.1.length = 32 := by rw [← hX]; exact rootT_length _ _ hlong (fun e he => hd.l32 e (List.mem_of_mem_take he))
 have l2 : Y.1.length = 32 := by rw [← hY]; exact rootT_length _ _ g1 (fun e he => hd.l32 e (List.mem_of_mem_drop he))
 have HLL := Lib.hid (g2.len (pairT X.1 Y.1) (.inl rfl))
 obtain ⟨m, hm⟩ : ∃ m, m = half n := ⟨_, rfl⟩
 rw [← hm] at hX hY f1 hp hlt
 have hz := zc_run
 have k0 : Kp nob w ((w.alloc (.cells zc.toArray 47))) := (Kp.refl nob w).alloc _
 have k1 : Kp nob w ((w.alloc (.cells zc.toArray 47))).drew := k0.drew
 have HB := Lib.hid (show Blk (w.alloc (.cells zc.toArray 47)).drew w.heap.size 47 zc from (Blk.new w _ _).keep (Kp.refl nob _).drew (fun e => e))
 have hd1 := (hd.keep0 k1).take m (by omega)
 have H1 := ih (ls.take m) A m d x _ k (by omega) (h.keep0 k1) hd1 (by omega) hf (by omega) hlong
 rw [hX] at H1
 have HFH : Hid (∀ w, Calls Tryz.prog 122 #[.int .i64 n] w fun e w' => e = .returned (.int .i64 m) ∧ w' = w) := Lib.hid (fun w => by rw [hm]; exact firstHalf_any n w h2 hn)
 have HE := Lib.hid (And.intro (show (m : Int) ≤ n by omega) (show m ≤ n by omega))
 have c0 : ¬ ((n : Int) = 0) := by omega
 have c1 : ¬ ((n : Int) = 1) := by omega
 have HH1 := Lib.hid H1
 have HX := Lib.hid h; have HDG := Lib.hid hd; have HK1 := Lib.hid k1
 have HCAP := Lib.hid hcap
 have HR2 : Hid (∀ (x2 : Vt) (w2 : World), x2.o = X.2 → Vx w2 c x2 → Digs w2 x2.P (cutK A d m 32) (n - m) (d - m) (ls.drop m) → Calls Tryz.prog 107 #[.pointer (some ⟨c.v, 0, none⟩), .slice (cutK A d m 32) (n - m) (d - m)] w2 fun e w' => ∃ F2 P2, e = .returned (.agg (bvs Y.1).toArray) ∧ Vq w2 c x2 w' ⟨F2, P2, Y.2, x2.sl, x2.cl⟩) := Lib.hid (fun x2 w2 ho hv hg => by
  have := ih (ls.drop m) (cutK A d m 32) (n - m) (d - m) x2 w2 (k + m - 1) (by omega) hv hg (by omega) (by rw [ho]; exact f1) (by omega) (by rw [ho]; exact g1)
  rw [ho, hY] at this
  exact this)
 have HTW : Hid (∀ (x2 : Vt) (w2 : World), x2.o = Y.2 → Vx w2 c x2 → Calls Tryz.prog 123 #[.pointer (some ⟨c.v, 0, none⟩), .agg (bvs X.1).toArray, .agg (bvs Y.1).toArray] w2 fun e w' => ∃ F2 P2, e = .returned (.agg (bvs (Y.2.val (pairT X.1 Y.1) 32)).toArray) ∧ Vq w2 c x2 w' ⟨F2, P2, Y.2.nx (pairT X.1 Y.1), x2.sl, x2.cl⟩) := Lib.hid (fun x2 w2 ho hv => by
  have := two_v c x2 X.1 Y.1 w2 l1 l2 hv (by rw [ho]; exact f2) (by rw [ho]; exact g2)
  rw [ho] at this
  exact this)
 clear H1 hd1 h hd k0 k1 f1 f2 g1 g2 l1 l2 hX hY t1 t2 n1 n2 hf hlong ih hm hp hlt hlen hcap
 obtain ⟨D, hD⟩ : ∃ D, D = Y.2.val (pairT X.1 Y.1) 32 := ⟨_, rfl⟩
 obtain ⟨O, hO⟩ : ∃ O, O = Y.2.nx (pairT X.1 Y.1) := ⟨_, rfl⟩
 rw [← hD] at HLL HTW ⊢
 rw [← hO] at HTW ⊢
 clear hD hO
 go_enter Tryz.func107, Tryz.ntmps107
 go_wp2_with (first
  | (go_at_call 122; refine (HFH.out _).mono ?_; rintro e w' ⟨rfl, rfl⟩)
  | fail)
 obtain ⟨wb, hwb⟩ : ∃ wb, wb = w.alloc (.cells zc.toArray 47) := ⟨_, rfl⟩
 have hsz : wb.drew.heap.size = w.heap.size + 1 := by rw [hwb]; rw [show ∀ w : World, w.drew.heap.size = w.heap.size from fun _ => rfl]; simp
 rw [← hwb] at HB HK1 HH1 ⊢
 clear hwb
 refine reg_begin (fun _ => True) (by kernel_rfl) trivial (fun _ => ?_)
 refine reg_tk (v := .pointer (some ⟨c.v, 0, none⟩)) 0 22 rfl rfl (by kernel_rfl) (by rfl) trivial (fun w _ => by go_simp) ?_; simp only [Act.put, zp1, zp2, zp3]
 refine reg_tk (v := .pointer (some ⟨c.v, 0, none⟩)) 1 23 rfl rfl (by kernel_rfl) (by rfl) trivial (fun w _ => by go_simp) ?_; simp only [Act.put, zp1, zp2, zp3]
 refine reg_tk (v := .slice A n d) 2 24 rfl rfl (by kernel_rfl) (by rfl) trivial (fun w _ => by go_simp) ?_; simp only [Act.put, zp1, zp2, zp3]
 refine reg_tk (v := .int .i64 m) 3 25 rfl rfl (by kernel_rfl) (by rfl) trivial (fun w _ => by go_simp) ?_; simp only [Act.put, zp1, zp2, zp3]
 refine reg_tk (v := .slice A m d) 4 26 rfl rfl (by kernel_rfl) (by rfl) trivial (fun w _ => exec_toK 191 47 32 dig_under dig_sizeOf _ _ rfl A n d m rfl rfl HE.out.2 HCAP.out) ?_; simp only [Act.put, zp1, zp2, zp3]
 refine reg_tk (v := .pointer (some ⟨c.v, 0, none⟩)) 6 28 rfl rfl (by kernel_rfl) (by rfl) trivial (fun w _ => by go_simp) ?_; simp only [Act.put, zp1, zp2, zp3]
 refine reg_tk (v := .slice A n d) 7 29 rfl rfl (by kernel_rfl) (by rfl) trivial (fun w _ => by go_simp) ?_; simp only [Act.put, zp1, zp2, zp3]
 refine reg_tk (v := .int .i64 m) 8 30 rfl rfl (by kernel_rfl) (by rfl) trivial (fun w _ => by go_simp) ?_; simp only [Act.put, zp1, zp2, zp3]
 refine reg_tk (v := .slice (cutK A d m 32) (n - m) (d - m)) 9 31 rfl rfl (by kernel_rfl) (by rfl) trivial (fun w _ => exec_fromK 191 47 32 dig_under dig_sizeOf _ _ rfl A n d m rfl rfl HE.out.2) ?_; simp only [Act.put, zp1, zp2, zp3]
 refine reg_call 5 (some 27) rfl rfl (by kernel_rfl) (by rfl) _ _ (exec_func 107 _ _ [.pointer (some ⟨c.v, 0, none⟩), .slice A m d] rfl (by kernel_rfl) rfl) ?_
 refine HH1.out.mono ?_
 rintro e w2 ⟨F2, P2, rfl, q⟩
 have HQ1 := Lib.hid (q.back HK1.out)
 have HB2 := Lib.hid (HB.out.keep q.kp (fun e => by have := HX.out.lt _ e; omega))
 have HDG2 := Lib.hid (((HDG.out.keep0 HK1.out).call q).drop m)
 have HV2 := Lib.hid q.now
 have HN2 := Lib.hid (q.new HX.out (i := w.heap.size) (Nat.le_refl _) (by omega))
 clear q HH1 HB HK1
 refine ⟨_, rfl, trivial, fun _ => ?_⟩
 simp only [Act.put, zp1, zp2, zp3]
 refine reg_call 10 (some 32) rfl rfl (by kernel_rfl) (by rfl) _ _ (exec_func 107 _ _ [.pointer (some ⟨c.v, 0, none⟩), .slice (cutK A d m 32) (n - m) (d - m)] rfl (by kernel_rfl) rfl) ?_
 refine (HR2.out _ _ rfl HV2.out HDG2.out).mono ?_
 rintro e w3 ⟨F3, P3, rfl, q⟩
 have HQ2 := Lib.hid (HQ1.out.trans q)
 have HB3 := Lib.hid (HB2.out.keep q.kp HN2.out)
 have HV3 := Lib.hid q.now
 have HN3 := Lib.hid (q.old HN2.out HB2.out.lt)
 clear q HR2 HB2 HV2 HN2 HQ1 HDG2 HDG
 refine ⟨_, rfl, trivial, fun _ => ?_⟩
 simp only [Act.put, zp1, zp2, zp3]
 refine reg_call 11 (some 33) rfl rfl (by kernel_rfl) (by rfl) _ _ (exec_func 123 _ _ [.pointer (some ⟨c.v, 0, none⟩), .agg (bvs X.1).toArray, .agg (bvs Y.1).toArray] rfl (by kernel_rfl) rfl) ?_
 refine (HTW.out _ _ rfl HV3.out).mono ?_
 rintro e w4 ⟨F4, P4, rfl, q⟩
 have HQ3 := Lib.hid (HQ2.out.trans q)
 have HB4 := Lib.hid (HB3.out.keep q.kp HN3.out)
 have HN4 := Lib.hid (q.old HN3.out HB3.out.lt)
 clear q HTW HB3 HV3 HN3 HQ2
 refine ⟨_, rfl, trivial, fun _ => ?_⟩
 simp only [Act.put, zp1, zp2, zp3]
 refine reg_store 12 none 47 (.tmp 4) (.tmp 33) rfl rfl rfl (by kernel_rfl) (by rfl) w.heap.size 47 zc (bvs D) HB4.out rfl rfl (by rw [bvs_length, HLL.out, zc_length]) (by rw [bvs_length, HLL.out]; kernel_rfl) (bvs_one _) ?_
 intro w5 hB5 k5 z5
 refine ⟨trivial, fun _ => ?_⟩
 simp only [Act.put, zp1, zp2, zp3]
 refine reg_end (by kernel_rfl) ?_
 have HB5 := Lib.hid hB5
 have HR : Hid (Vq w c x w5 ⟨F4, P4, O, x.sl, x.cl⟩) := Lib.hid (HQ3.out.over k5 (fun i _ e => by have e : i = w.heap.size := e; subst e; exact ⟨Nat.le_refl _, HN4.out⟩) HX.out.sz)
 clear hB5 k5 z5
 go_wp2
 exact bodyPost_ret (results_cell_row rfl _ _ w.heap.size _ _ _ _ rfl HB5.out rarr_under rfl (by rw [List.size_toArray]; exact rarr_size D HLL.out)) rfl (by first | exact ⟨F4, P4, rfl, HR.out⟩ | exact ⟨rfl, F4, P4, HR.out⟩)
theorem root_all (c : Vc) : ∀ N, RootC c N
 | 0 => fun ls A n d x w k hN h hd hn hf hk hl => by
   obtain rfl : n = 0 := by omega
   obtain rfl : ls = [] := List.eq_nil_of_length_eq_zero hd.len
   exact root_none c A d x w h (hf.mono (by omega)) hl
 | N + 1 => fun ls A n d x w k hN h hd hn hf hk hl => by
   have hlen := hd.len
   by_cases h2 : 2 ≤ n
   · exact root_more c N (root_all c N) ls A n d x w k hN h2 h hd hn hf hk hl
   · match ls, hd with
     | [], hd =>
       obtain rfl : n = 0 := by simpa using hlen.symm
       exact root_none c A d x w h (hf.mono (by omega)) hl
     | [l], hd =>
       obtain rfl : n = 1 := by simpa using hlen.symm
       exact root_one c A d l x w h hd
     | a :: b :: l, hd => exact absurd (show 2 ≤ n by rw [← hlen]; simp) h2
theorem root_v2 (c : Vc) (ls : List (List UInt8)) (A : Option Addr) (n d : Nat) (x : Vt) (w : World) (h : Vx w c x) (hd : Digs w x.P A n d ls) (hn : n ≤ 4000) (hf : x.o.few 90000) (hl : x.o.long) :
    Calls Tryz.prog 107 #[.pointer (some ⟨c.v, 0, none⟩), .slice A n d] w fun e w' => ∃ F2 P2, e = .returned (.agg (bvs (rootT x.o ls).1).toArray) ∧ Vq w c x w' ⟨F2, P2, (rootT x.o ls).2, x.sl, x.cl⟩ :=
 root_all c n ls A n d x w 90000 (Nat.le_refl _) h hd (by omega) (hf.mono (by omega)) (by omega) hl
end Merkle
namespace Seg
open Go Go.RowKit Kit
open Rec (Rec good ftot recB)
open Ideal (Ts Thing Ans Arg Args sealT derT hashT leafT rootT zc zc_run zc_length)
open Vault
open Merkle (Digs leaf_v root_v2 dig_under)
theorem run_dig0 (f : Fin 32 → UInt8) (w : World) : (Instr.buildSlice 191 1 #[(0, .agg (bvs (List.ofFn f)).toArray)]).run Tryz.prog w = .ok (.slice (some ⟨w.heap.size, 0, none⟩) 1 1) (w.alloc (.cells (bvs (List.ofFn f)).toArray 47)) := by kernel_rfl
theorem exec_dig1 {act : Act} {o : Oper} {w : World} (x : Operand) (s : List UInt8) (h : s.length = 32) (ho : o.op = .buildSlice 191 1 #[(0, x)]) (hx : act.eval x = .agg (bvs s).toArray) :
    (execOp act.eval o).run Tryz.prog w = .ok (.value (.slice (some ⟨w.heap.size, 0, none⟩) 1 1)) (w.alloc (.cells (bvs s).toArray 47)) := by
 obtain ⟨f, rfl⟩ := list_fn 32 s h
 have hr := run_dig0 f w
 unfold execOp
 simp only [ho, hx, Sem.run_bind, List.map_toArray, List.map_cons, List.map_nil, hr, Result.andThen_ok, Sem.run_pure]
theorem dig_info : (Tryz.prog.info? 47).map (fun i => (i.zero, i.size, i.bytes)) = some (some (.agg (bvs (List.replicate 32 0)).toArray), 32, 32) := by kernel_rfl
structure RL (w : World) (c : Vc) (x : Vt) (bs : List (List UInt8)) (k : Nat) (wr : World) (x2 : Vt) (Z : Option Addr) (cz : Nat) : Prop where
 q : Vq w c x wr x2
 o_ : x2.o = (lfA x.o (bs.take k)).1
 sl : x2.sl = x.sl
 cl : x2.cl = x.cl
 own : OwnK 32 47 wr Z k cz ((lfA x.o (bs.take k)).2.flatMap bvs)
 zf : ∀ i, ab Z = some i → w.heap.size < i ∧ ¬ x2.P i
 z : Blk wr w.heap.size 47 zc
 zn : ¬ x2.P w.heap.size
theorem RL.more {w wr w3 w4 w5 w6 : World} {c : Vc} {x x2 : Vt} {bs : List (List UInt8)} {k : Nat} {Z Z2 : Option Addr} {cz cz2 : Nat} {F2 P2 : Nat → Prop} (h : RL w c x bs k wr x2 Z cz) (hv : Vx w c x) (b : List UInt8) (hk : k < bs.length) (hb : b = bs[k])
    (k3 : Kp nob wr w3) (q4 : Vq w3 c x2 w4 ⟨F2, P2, x2.o.nx (leafT b), x2.sl, x2.cl⟩) (k5 : Kp nob w4 w5) (ho : OwnK 32 47 w6 Z2 (k + 1) cz2 ((lfA x.o (bs.take k)).2.flatMap bvs ++ bvs (x2.o.val (leafT b) 32))) (hg : Kp (rowF Z) w5 w6) (hz : ab Z2 = ab Z ∨ ab Z2 = some w5.heap.size) :
    RL w c x bs (k + 1) w6 ⟨F2, P2, x2.o.nx (leafT b), x2.sl, x2.cl⟩ Z2 cz2 := by
 subst hb
 have s1 := h.q.kp.size
 have s3 := k3.size
 have s4 := q4.kp.size
 have s5 := k5.size
 have hst := lfA_snoc x.o bs k hk
 have hzP : ∀ i, ab Z = some i → ¬ P2 i := fun i e => q4.old (h.zf i e).2 (by have := h.own.lt i e; omega)
 have hzl := h.z.lt
 refine ⟨(((h.q.over0 k3).trans q4).over0 k5).over hg (fun i _ e => ⟨by have := (h.zf i e).1; omega, hzP i e⟩) hv.sz, ?_, h.sl, h.cl, ?_, fun i e => ?_, ?_, q4.old h.zn (by omega)⟩
 · rw [hst]; unfold lf1; rw [← h.o_]
 · rw [hst]; unfold lf1; rw [← h.o_, List.flatMap_append]; simpa using ho
 · rcases hz with e2 | e2
   · rw [e2] at e; exact ⟨(h.zf i e).1, hzP i e⟩
   · rw [e2] at e; cases e
     exact ⟨by omega, fun e3 => by have := q4.now.lt _ e3; omega⟩
 · exact ((q4.blk (h.z.keep k3 (fun e => e)) h.zn).keep k5 (fun e => e)).keep hg (fun e => Nat.lt_irrefl _ (h.zf _ e).1)
theorem rootOf_c (c : Vc) (x : Vt) (A : Option Addr) (n d : Nat) (gs : List Pt) (w : World) (hx : Vx w c x) (hp : Parts w x.P A gs) (hl : gs.length = n) (hn : n ≤ 1000) (hf : x.o.few 85000) (hlong : x.o.long) (hb : ∀ g ∈ gs, g.b.length ≤ 1048000) :
    Calls Tryz.prog 88 #[.pointer (some ⟨c.v, 0, none⟩), .slice A n d] w fun r w' => ∃ F2 P2, r = .returned (.agg (bvs (rtA x.o (gs.map (·.b))).1).toArray) ∧ Vq w c x w' ⟨F2, P2, (rtA x.o (gs.map (·.b))).2, x.sl, x.cl⟩ := by
 have hz := zc_run
 have HX := Lib.hid hx
 have HP := Lib.hid hp
 have HL := Lib.hid hl
 have HF := Lib.hid (And.intro hf hlong)
 have HB := Lib.hid hb
 have HZ := Lib.hid (Blk.new w 47 zc)
 have HK := Lib.hid ((Kp.refl nob w).alloc (.cells zc.toArray 47))
 clear hx hp hl hf hlong hb
 obtain ⟨bs, hbs⟩ : ∃ bs, bs = gs.map (·.b) := ⟨_, rfl⟩
 have HBS := Lib.hid hbs
 rw [← hbs]
 clear hbs
 go_enter Tryz.func88, Tryz.ntmps88
 go_wp2
 go_loopw [5, 10] (fun ls i wr => ∃ k : Nat, k ≤ n ∧ i = .int .i64 k ∧ ∃ (x2 : Vt) (Z : Option Addr) (cz : Nat), ls = .slice Z k cz ∧ RL w c x bs k wr x2 Z cz)
  (fun _ i _ => n - (intOf i).toNat)
 case atStart =>
  refine ⟨0, Nat.zero_le _, rfl, x, none, 0, rfl, (Vq.refl HX.out).over0 HK.out, by rw [List.take_zero, lfA_nil], rfl, rfl, ?_, fun i h => (by cases h), HZ.out, fun e => (by have := HX.out.lt _ e; omega)⟩
  rw [List.take_zero, lfA_nil]
  exact OwnK.nil 32 47 _
 case round =>
  obtain ⟨k, hk, rfl, x2, Z, cz, rfl, hrl⟩ := hrel
  have hlen : bs.length = n := by rw [HBS.out, List.length_map, HL.out]
  have hfew : x2.o.few 87000 := by rw [hrl.o_]; exact (lfA_few x.o (bs.take k) 85000 HF.out.1).mono (by rw [List.length_take]; omega)
  have hlong : x2.o.long := by rw [hrl.o_]; exact HF.out.2.sub (lfA_from ..)
  have HFL := Lib.hid (And.intro hfew hlong)
  have HRL := Lib.hid hrl
  have HLEN := Lib.hid hlen
  clear hrl hfew hlong hlen
  by_cases hlt : k < n
  · have hk2 : k < gs.length := by rw [HL.out]; exact hlt
    have hpr := Parts.call HRL.out.q HP.out
    obtain ⟨bb, oo, rfl, hbb, hc0, hc1⟩ := hpr.at_ (i := k) hk2
    have harg := hpr.arg gs[k] (List.getElem_mem hk2)
    have hbl := HB.out gs[k] (List.getElem_mem hk2)
    have hbk : gs[k].b = bs[k]'(by rw [HLEN.out]; exact hlt) := by simp [HBS.out]
    obtain ⟨g, hg⟩ : ∃ g, g = gs[k] := ⟨_, rfl⟩
    rw [← hg] at hc0 hc1 harg hbl hbk
    have HG := Lib.hid (And.intro harg (And.intro hbl hbk))
    clear hg harg hbl hbk hpr
    have HKA := Lib.hid ((Kp.refl nob wr).alloc (.cells #[.int .i64 g.q, .slice g.X g.b.length g.c] 188))
    have HLF := Lib.hid (leaf_v c x2 g.X g.b.length g.c g.b (wr.alloc (.cells #[.int .i64 g.q, .slice g.X g.b.length g.c] 188)) (HRL.out.q.now.keep0 HKA.out) (HG.out.1.keep0 HKA.out) (HFL.out.1.mono (by omega)) HG.out.2.1 HFL.out.2)
    obtain ⟨D, hD⟩ : ∃ D, D = x2.o.val (leafT g.b) 32 := ⟨_, rfl⟩
    have hDl : D.length = 32 := by rw [hD]; exact HFL.out.2.len _ (.inl rfl)
    rw [← hD] at HLF
    have HD := Lib.hid (And.intro hDl hD)
    clear hD hDl
    go_wp2_with fail
    refine HLF.out.mono ?_
    rintro r w4 ⟨F2, P2, rfl, q4⟩
    have HQ4 := Lib.hid q4
    have hown : OwnK 32 47 (w4.alloc (.cells (bvs D).toArray 47)) Z k cz ((lfA x.o (bs.take k)).2.flatMap bvs) :=
     ((HRL.out.own.keep HKA.out (fun j _ e => e)).keep q4.kp (fun j e => (HRL.out.zf j e).2)).alloc _
    have HO := Lib.hid hown
    clear q4 hown HLF
    obtain ⟨i0, hi1, hi2, hi3, hi4⟩ := info_parts3 dig_info
    go_wp2_with (first
     | (refine wpList_gd (by rfl) (exec_dig1 (.tmp 18) D HD.out.1 rfl rfl) ?_)
     | (refine wpList_appKO_gd _ (.tmp 14) (.tmp 19) 191 rfl (by rfl) 32 (by decide) 47 i0 _ 32 dig_under hi1 hi2 hi3 hi4 (by simp [Value.cells, bvs]) Z k cz ((lfA x.o (bs.take k)).2.flatMap bvs) rfl HO.out (some ⟨w4.heap.size, 0, none⟩) 1 1 (bvs D) rfl (fun e => by cases e) (by rw [bvs_length, HD.out.1]) (row_new w4 (bvs D) _) (bvs_one _) (by omega) (by simp [maxLen]; omega) ?_
        intro Z2 cz2 w6 ho2 hg2 hz2)
     | fail)
    have hD2 := HD.out.2
    rw [hD2] at ho2
    have HNX := Lib.hid (HRL.out.more HX.out g.b (by rw [HLEN.out]; exact hlt) HG.out.2.2 HKA.out HQ4.out ((Kp.refl nob w4).alloc _) ho2 ((Kp.refl _ _).grown hg2 (fun j e => .inl e)) hz2)
    clear ho2 hg2 hz2 hD2
    go_wp2
    go_roundw
    case rel => exact ⟨k + 1, by omega, by go_num, _, Z2, cz2, rfl, HNX.out⟩
    case measure => simp [intOf]; omega
  · obtain rfl : k = n := by omega
    have hk3 : bs.take k = bs := List.take_of_length_le (by rw [HLEN.out]; exact Nat.le_refl _)
    have hdg : Digs wr x2.P Z k cz (lfA x.o bs).2 := by
     have ho := HRL.out.own
     rw [hk3] at ho
     exact ⟨by rw [lfA_length, HLEN.out], ho.row, lfA_32 _ _ HF.out.2, .inr (fun i e => (HRL.out.zf i e).2), ho.cap.1, ho.cap.2⟩
    have ho := HRL.out.o_
    rw [hk3] at ho
    have hroot := root_v2 c (lfA x.o bs).2 Z k cz x2 wr HRL.out.q.now hdg (by omega) (HFL.out.1.mono (by omega)) HFL.out.2
    rw [ho, ← rtA_eq, HRL.out.sl, HRL.out.cl] at hroot
    have HRT := Lib.hid hroot
    have hrl := rtA_length x.o bs HF.out.2
    obtain ⟨D, hD⟩ : ∃ D, D = (rtA x.o bs).1 := ⟨_, rfl⟩
    rw [← hD] at HRT hrl
    have HD := Lib.hid hrl
    have HDD := Lib.hid hD
    clear hdg ho hroot hrl hD hk3
    go_wp2_with fail
    refine HRT.out.mono ?_
    rintro r w2 ⟨F2, P2, rfl, q2⟩
    have HB2 := Lib.hid (q2.blk HRL.out.z HRL.out.zn)
    have HN := Lib.hid (q2.old HRL.out.zn HRL.out.z.lt)
    have HQ := Lib.hid (HRL.out.q.trans q2)
    clear q2
    go_wp2_with (first
     | (refine wpList_store_blk rfl 47 (.tmp 4) (.tmp 24) rfl _ _ _ (bvs D) HB2.out rfl rfl (by rw [bvs_length, HD.out, zc_length]) (rarr_size D HD.out) (bvs_one _) ?_; intro w3 hB3 k3 z3)
     | fail)
    exact bodyPost_ret (results_cell_row rfl _ _ w.heap.size _ _ _ _ rfl hB3 rarr_under rfl (by rw [List.size_toArray]; exact rarr_size D HD.out)) rfl
     ⟨F2, P2, by rw [← HDD.out], HQ.out.over k3 (fun i _ e => by have e : i = w.heap.size := e; subst e; exact ⟨Nat.le_refl _, HN.out⟩) HX.out.sz⟩
end Seg
namespace Seg
open Go Go.RowKit Kit
open Rec (Rec good ftot recB)
open Ideal (Ts Thing Ans Arg Args sealT derT hashT leafT rootT zc zc_run zc_length)
open Vault
open Merkle (arr_all)
def frK (T n : Nat) (gs : List Pt) (k : Nat) : List UInt8 := num8 T ++ num8 n ++ parB ((gs.take k).map Pt.two)
theorem frK_zero (T n : Nat) (gs : List Pt) : frK T n gs 0 = num8 T ++ num8 n := by unfold frK parB; simp
theorem frK_next (T n : Nat) (gs : List Pt) (k : Nat) (h : k < gs.length) : frK T n gs (k + 1) = frK T n gs k ++ num8 gs[k].q ++ textB (str gs[k].b) := by
 unfold frK
 have h2 := parB_snoc (gs.map Pt.two) k (by simpa using h)
 rw [← List.map_take, ← List.map_take] at h2
 rw [h2]
 simp [Pt.two, List.append_assoc]
theorem frK_le (T n : Nat) (gs : List Pt) (hb : ∀ g ∈ gs, g.b.length ≤ 1048000) (k : Nat) : (frK T n gs k).length ≤ 16 + k * 1048100 := by
 induction k with
 | zero => rw [frK_zero, List.length_append, num8_length, num8_length]; omega
 | succ k ih =>
   by_cases h : k < gs.length
   · rw [frK_next T n gs k h]
     have h1 := hb gs[k] (List.getElem_mem h)
     have h2 := textB_le (str gs[k].b)
     rw [str_size] at h2
     rw [List.length_append, List.length_append, num8_length]
     omega
   · have e : frK T n gs (k + 1) = frK T n gs k := by unfold frK; rw [List.take_of_length_le (by omega), List.take_of_length_le (by omega)]
     rw [e]; exact Nat.le_trans ih (Nat.add_le_add_left (Nat.mul_le_mul_right _ (Nat.le_succ k)) 16)
theorem written_c (c : Vc) (x : Vt) (T : Nat) (A : Option Addr) (n d : Nat) (gs : List Pt) (w : World) (hx : Vx w c x) (hp : Parts w x.P A gs) (hl : gs.length = n) (hn : n ≤ 1000) (hf : x.o.few 85000) (hlong : x.o.long) (hb : ∀ g ∈ gs, g.b.length ≤ 1048000) :
    Calls Tryz.prog 92 #[.pointer (some ⟨c.v, 0, none⟩), .int .i64 (T : Nat), .slice A n d] w fun r w' => ∃ F2 P2 X cX, r = .returned (.slice X (frB T (gs.map Pt.two) (rtA x.o (gs.map (·.b))).1).length cX) ∧
     Vq w c x w' ⟨F2, P2, (rtA x.o (gs.map (·.b))).2, x.sl, x.cl⟩ ∧ Ans w w' P2 X cX (frB T (gs.map Pt.two) (rtA x.o (gs.map (·.b))).1) := by
 have hz := zc_run
 have HX := Lib.hid hx
 have HP := Lib.hid hp
 have HL := Lib.hid hl
 have HF := Lib.hid (And.intro hf hlong)
 have HB := Lib.hid hb
 have HN := Lib.hid hn
 have HK := Lib.hid ((Kp.refl nob w).alloc (.cells #[.slice none 0 0] 137))
 have HW := Lib.hid (isW_new w)
 have HFK := Lib.hid (frK_le T n gs hb)
 clear hx hp hl hf hlong hb
 go_enter Tryz.func92, Tryz.ntmps92
 go_wp2_with fail
 have e1 : (w.alloc (.cells #[.slice none 0 0] 137)).heap.size = w.heap.size + 1 := by simp
 have hap := HW.out.apart
 have hrow := row_new (w.alloc (.cells #[.slice none 0 0] 137)) (ivs [(T : Int), (n : Int)]) 3
 rw [e1] at hap hrow
 refine (wNum w.heap.size none [] (some ⟨w.heap.size + 1, 0, none⟩) 2 2 [(T : Int), (n : Int)] _ (HW.out.alloc _) rfl hrow hap (by omega) (by simp)).mono ?_
 rintro r w2 ⟨rfl, Z0, h1, k2, g2⟩
 have e2 : ([] : List UInt8) ++ [(T : Int), (n : Int)].flatMap num8 = frK T n gs 0 := by rw [frK_zero]; simp
 rw [e2] at h1
 have HI := Lib.hid h1
 have HK2 : Hid (Kp nob w w2) := Lib.hid ((HK.out.alloc _).since k2 (fun i e => by
  rcases e with rfl | e
  · omega
  · cases e))
 have HG2 : Hid (∀ j, WF w.heap.size Z0 j → w.heap.size ≤ j) := Lib.hid (WF.ge (Nat.le_refl _) (fun k e => by
  rcases g2 with h | ⟨j, h, hj⟩
  · rw [h] at e; cases e
  · rw [h] at e; cases e; simp at hj; omega))
 clear h1 k2 g2 hap hrow e1 e2
 go_wp2
 go_loopw [18] (fun i wr => ∃ k : Nat, k ≤ n ∧ i = .int .i64 k ∧ ∃ (Z : Option Addr), IsW wr w.heap.size Z (frK T n gs k) ∧ Kp nob w wr ∧ ∀ j, WF w.heap.size Z j → w.heap.size ≤ j)
  (fun i _ => n - (intOf i).toNat)
 case atStart => exact ⟨0, Nat.zero_le _, rfl, Z0, HI.out, HK2.out, HG2.out⟩
 case round =>
  obtain ⟨k, hk, rfl, Z, hi, kr, hz⟩ := hrel
  by_cases hlt : k < n
  · have hk2 : k < gs.length := by rw [HL.out]; exact hlt
    have hpr := HP.out.keep0 kr
    obtain ⟨bb, oo, rfl, hbb, hc0, hc1⟩ := hpr.at_ (i := k) hk2
    have harg := hpr.arg gs[k] (List.getElem_mem hk2)
    have hbl := HB.out gs[k] (List.getElem_mem hk2)
    have hnx := frK_next T n gs k hk2
    have hfl := HFK.out k
    obtain ⟨g, hg⟩ : ∃ g, g = gs[k] := ⟨_, rfl⟩
    have hgm : g ∈ gs := by rw [hg]; exact List.getElem_mem hk2
    rw [← hg] at hc0 hc1 harg hbl hnx
    obtain ⟨F, hF⟩ : ∃ F, F = frK T n gs k := ⟨_, rfl⟩
    rw [← hF] at hnx hfl hi
    have HG := Lib.hid (And.intro hgm (And.intro hbl (And.intro hnx hfl)))
    have HI2 := Lib.hid hi
    have HKR := Lib.hid kr
    have HZ := Lib.hid hz
    have HBA := Lib.hid (Blk.new wr 188 [.int .i64 g.q, .slice g.X g.b.length g.c])
    have HKA := Lib.hid ((Kp.refl nob wr).alloc (.cells #[.int .i64 g.q, .slice g.X g.b.length g.c] 188))
    clear hg hgm harg hbl hnx hfl hi kr hz hpr hF
    go_wp2_with fail
    have hnn := HN.out
    have e1 : (wr.alloc (.cells #[.int .i64 g.q, .slice g.X g.b.length g.c] 188)).heap.size = wr.heap.size + 1 := by simp
    refine (wNum1 w.heap.size Z F g.q _ 3 _ e1 (HI2.out.keep HKA.out (fun _ _ e => e)) (by have := HG.out.2.2.2; omega)).mono ?_
    rintro r w3 ⟨rfl, Z3, h3, k3, g3⟩
    have HI3 := Lib.hid h3
    have HK3 : Hid (Kp nob w w3) := Lib.hid ((HKR.out.trans HKA.out (fun _ e => e.elim)).since k3 HZ.out)
    have hb3 : Blk w3 wr.heap.size 188 [.int .i64 g.q, .slice g.X g.b.length g.c] := HBA.out.keep k3 (fun e => by have := HI2.out.fLt _ e; omega)
    have hc3 : w3.cell? ⟨wr.heap.size, 1, none⟩ = some (.slice g.X g.b.length g.c) := hb3.cell 1
    have HZ3 : Hid (∀ j, WF w.heap.size Z3 j → w.heap.size ≤ j) := Lib.hid (WF.ge (Nat.le_refl _) (fun j e => by
     rcases g3 with h | ⟨j2, h, hj⟩
     · rw [h] at e; exact HZ.out j (.inr e)
     · rw [h] at e; cases e; have := HKR.out.size; have := HKA.out.size; omega))
    have harg3 : Arg w3 x.P g.X g.b.length g.c g.b := (HP.out.arg g HG.out.1).keep0 HK3.out
    have hcv := conv_row w3 g.X g.b.length g.c g.b rfl harg3.row
    clear h3 k3 g3 hb3 harg3
    go_wp2_with fail
    have htl := textB_le (str g.b)
    rw [str_size] at htl
    refine (wText w.heap.size Z3 (F ++ num8 g.q) (some ⟨w3.heap.size, 0, none⟩) 1 1 [str g.b] _ (HI3.out.alloc _) rfl (row_one w3 (.string (str g.b)) _) HI3.out.apart (by omega) (by have := HG.out.2.2.2; have := HG.out.2.1; simp; omega)).mono ?_
    rintro r w4 ⟨rfl, Z4, h4, k4, g4⟩
    have e4 : F ++ num8 g.q ++ [str g.b].flatMap textB = frK T n gs (k + 1) := by rw [HG.out.2.2.1]; simp
    rw [e4] at h4
    have HI4 := Lib.hid h4
    have HK4 : Hid (Kp nob w w4) := Lib.hid ((HK3.out.alloc _).since k4 HZ3.out)
    have HZ4 : Hid (∀ j, WF w.heap.size Z4 j → w.heap.size ≤ j) := Lib.hid (WF.ge (Nat.le_refl _) (fun j e => by
     rcases g4 with h | ⟨j2, h, hj⟩
     · rw [h] at e; exact HZ3.out j (.inr e)
     · rw [h] at e; cases e; have := HK3.out.size; simp at hj; omega))
    clear h4 k4 g4 e4 htl hcv hc3
    go_wp2
    go_roundw
    case rel => exact ⟨k + 1, by omega, by go_num, Z4, HI4.out, HK4.out, HZ4.out⟩
    case measure => simp [intOf]; omega
  · obtain rfl : k = n := by omega
    have hfr : ∀ rt, frK T k gs k ++ rt = frB T (gs.map Pt.two) rt := by
     intro rt
     unfold frK frB
     rw [List.take_of_length_le (by rw [HL.out]; exact Nat.le_refl _), List.length_map, HL.out]
    have HFR := Lib.hid hfr
    have hfl := HFK.out k
    have hro := rootOf_c c x A k d gs wr (HX.out.keep0 kr) (HP.out.keep0 kr) HL.out (by omega) HF.out.1 HF.out.2 HB.out
    have hrl := rtA_length x.o (gs.map (·.b)) HF.out.2
    obtain ⟨D, hD⟩ : ∃ D, D = rtA x.o (gs.map (·.b)) := ⟨_, rfl⟩
    rw [← hD] at hro hrl
    have HRO := Lib.hid hro
    have HD := Lib.hid (And.intro hD hrl)
    have HI2 := Lib.hid hi
    have HKR := Lib.hid kr
    have HZ2 := Lib.hid hz
    have HFL := Lib.hid hfl
    clear hfr hro hrl hD hi kr hz hfl
    go_wp2_with fail
    refine HRO.out.mono ?_
    rintro r w2 ⟨F2, P2, rfl, q2⟩
    have HQ2 := Lib.hid (q2.back HKR.out)
    have HI3 := Lib.hid (HI2.out.keep q2.kp (fun j e e2 => by have h1 := HZ2.out j e; have h2 := HX.out.lt j e2; omega))
    have HNP : Hid (∀ j, WF w.heap.size Z j → ¬ P2 j) := Lib.hid (fun j e e2 => (q2.P j e2).elim (fun e3 => by have h1 := HZ2.out j e; have h2 := HX.out.lt j e3; omega) (fun e3 => by have h1 := HI2.out.fLt j e; omega))
    have ha := arr_all w2.heap.size 0
    have HB5 := Lib.hid (Blk.new w2 47 zc)
    clear q2
    go_wp2_with (first
     | (refine wpList_store_blk rfl 47 (.tmp 10) (.tmp 34) rfl _ _ _ (bvs D.1) HB5.out rfl rfl (by rw [bvs_length, HD.out.2, zc_length]) (rarr_size D.1 HD.out.2) (bvs_one _) ?_; intro w3 hB3 k3 z3)
     | fail)
    have ka : Kp nob w2 (w2.alloc (.cells zc.toArray 47)) := (Kp.refl nob w2).alloc _
    have hI4 := (HI3.out.keep ka (fun _ _ e => e)).keep k3 (fun j e e2 => by have e2 : j = w2.heap.size := e2; have := HI3.out.fLt j e; omega)
    have hQ4 := (HQ2.out.over0 ka).over k3 (fun i _ e => by
     have e : i = w2.heap.size := e
     exact ⟨by have := HQ2.out.kp.size; omega, fun e2 => by have := HQ2.out.now.lt i e2; omega⟩) HX.out.sz
    have HI4 := Lib.hid hI4
    have HQ4 := Lib.hid hQ4
    have hrow : Row w3 (some ⟨w2.heap.size, 0, none⟩) (bvs D.1) := .inr ⟨w2.heap.size, 0, rfl, hB3.lt, fun i v hv => by rw [Nat.zero_add, hB3.cell]; exact hv⟩
    have HR3 := Lib.hid hrow
    have HS3 : Hid (w2.heap.size ≤ w3.heap.size) := Lib.hid (Nat.le_trans ka.size k3.size)
    clear hI4 hQ4 hrow hB3 k3 z3 ka
    go_wp2_with fail
    refine (wByte w.heap.size Z (frK T k gs k) (some ⟨w2.heap.size, 0, none⟩) 32 32 D.1 _ HI4.out (fun e => by cases e) HD.out.2 HR3.out (by have := HFL.out; omega)).mono ?_
    rintro r w4 ⟨rfl, Z4, h4, k4, g4⟩
    rw [HFR.out] at h4
    have hQ4 := HQ4.out.over k4 (fun i _ e => ⟨HZ2.out i e, HNP.out i e⟩) HX.out.sz
    have hlen : (frB T (gs.map Pt.two) D.1).length ≤ 1099511627776 := by rw [← HFR.out, List.length_append, HD.out.2]; have := HFL.out; omega
    have HI5 := Lib.hid h4
    have HQ5 := Lib.hid hQ4
    have HLEN := Lib.hid hlen
    have HS4 : Hid (w2.heap.size ≤ w4.heap.size) := Lib.hid (Nat.le_trans HS3.out k4.size)
    clear h4 k4 g4 hQ4 hlen
    go_wp2_with fail
    refine (wBytes w.heap.size Z4 _ _ HI5.out HLEN.out).mono ?_
    rintro r w5 ⟨X, cX, rfl, h5, h6, h7, h8⟩
    have hn5 : ∀ j, ab X = some j → w2.heap.size ≤ j := fun j e => Nat.le_trans HS4.out (h7 j e)
    have HFI : Hid (Vq w c x w5 ⟨F2, P2, D.2, x.sl, x.cl⟩ ∧ Ans w w5 P2 X cX (frB T (gs.map Pt.two) D.1)) := Lib.hid ⟨HQ5.out.over0 h6, h5.row, fun j e => ⟨by have h1 := hn5 j e; have h2 := HQ2.out.kp.size; omega, fun e2 => by have h1 := hn5 j e; have h2 := HQ2.out.now.lt j e2; omega⟩, h5.cap.1, h5.cap.2, h8⟩
    have HDD := Lib.hid HD.out.1
    clear h5 h6 h7 h8 hn5
    go_wp2
    go_ret
    refine ⟨F2, P2, X, cX, ?_, ?_, ?_⟩
    · rw [← HDD.out]; rfl
    · rw [← HDD.out]; exact HFI.out.1
    · rw [← HDD.out]; exact HFI.out.2
end Seg
namespace Seg
open Go Go.RowKit Kit
open Rec (Rec good ftot ftot_snoc ftot_take recB recB_length good_bounds Rrow rcells rv put_yes put_no rec_under rec_size)
open Ideal (Ts Thing Ans Arg Args sealT derT hashT leafT rootT zc zc_run zc_length)
open Vault
def SealP (c : Vc) (x : Vt) (e s : Int) (at' : List UInt8) (rs : List Rec) (w : World) (r : Ending) (w' : World) : Prop := ∃ x2, Vq w c x w' x2 ∧ (x2.cl ≤ x.cl + rs.length ∧ Once e s (fun j => rs[j]?.map recB) rs.length x.sl x.cl x2.sl x2.cl) ∧
 ((perrs c.lim e s 0 48 rs = 0 ∧ x2.o = (stA c.ms e s at' rs.length x.o rs).1 ∧ ∃ (X : Option Addr) (cX : Nat) (gs : List Pt), r = .returned (.tuple #[.slice X rs.length cX, .int .i64 0]) ∧ gs.map Pt.two = (stA c.ms e s at' rs.length x.o rs).2 ∧ Parts w' x2.P X gs ∧ (X = none → cX = 0) ∧ rs.length ≤ cX ∧ cX ≤ maxLen) ∨
  (perrs c.lim e s 0 48 rs ≠ 0 ∧ x2.o = lft c.ms e s at' x.o rs (bad c.lim e s 0 48 rs) ∧ r = .returned (.tuple #[.slice none 0 0, .int .i64 (perrs c.lim e s 0 48 rs)])))
theorem sealed_c (c : Vc) (x : Vt) (e s : Int) (at' : List UInt8) (A : Option Addr) (m d : Nat) (rs : List Rec) (w : World) (hx : Vx w c x) (h32 : at'.length = 32) (hl : rs.length = m) (hr : Rrow w A rs) (hfar : rs = [] ∨ ∀ i, ab A = some i → ¬ x.P i)
    (hm : m ≤ 1000) (hb : ∀ r ∈ rs, r.body.length ≤ 4096) (hf : x.o.few 80000) (hlo : x.o.long) (hcl : x.cl ≤ 1000000) (he : -9223372036854775808 ≤ e ∧ e ≤ 9223372036854775807) (hs : -9223372036854775808 ≤ s ∧ s ≤ 9223372036854775807) (hlim : c.lim ≤ 9223372036854775807) :
    Calls Tryz.prog 91 #[.pointer (some ⟨c.v, 0, none⟩), .int .i64 e, .int .i64 s, .agg (bvs at').toArray, .slice A m d] w (SealP c x e s at' rs w) := by
 have HB := Lib.hid (Blk.new w 47 (bvs at'))
 have HK := Lib.hid ((Kp.refl nob w).alloc (.cells (bvs at').toArray 47))
 have HS := Lib.hid (fun w' => size_c none 0 0 [] w' rfl (Row.nil _ _) (by rw [Rec.ftot_nil]; omega) (by omega))
 rw [Rec.ftot_nil] at HS
 have HX := Lib.hid hx
 have HR := Lib.hid hr
 have HFAR := Lib.hid hfar
 have HL := Lib.hid hl
 have H32 := Lib.hid h32
 have HBD := Lib.hid hb
 have HF := Lib.hid (And.intro hf (And.intro hlo (And.intro hcl hlim)))
 have HES := Lib.hid (And.intro he hs)
 have HM := Lib.hid hm
 clear hx hr hfar hl h32 hb hf hlo hcl hlim he hs
 go_enter Tryz.func91, Tryz.ntmps91
 go_wp2_with (first | (go_at_call 50; refine (HS.out _).mono ?_; rintro r w1 ⟨rfl, k1⟩) | fail)
 have HK1 := Lib.hid (HK.out.trans k1 (fun _ e => e.elim))
 have HB1 := Lib.hid (HB.out.keep k1 (fun e => e))
 clear k1
 go_loopw [12, 13, 22] (fun ps sz i wr => ∃ k : Nat, k ≤ m ∧ i = .int .i64 k ∧ sz = .int .i64 (ftot (rs.take k) : Nat) ∧ ∃ (x2 : Vt) (Z : Option Addr) (cz : Nat) (gs : List Pt), ps = .slice Z k cz ∧ SL w c x e s at' rs k wr x2 Z cz gs)
  (fun _ _ i _ => m - (intOf i).toNat)
 case atStart => exact ⟨0, Nat.zero_le _, rfl, rfl, x, none, 0, [], rfl, SL.start HX.out HK1.out HB1.out⟩
 case round =>
  obtain ⟨k, hk, rfl, rfl, x2, Z, cz, gs, rfl, hsl⟩ := hrel
  by_cases hlt : k < m
  · have hk2 : k < rs.length := by rw [HL.out]; exact hlt
    have HRk : Rrow wr A rs := by
     rcases HFAR.out with e | e
     · rw [e] at hk2; simp at hk2
     · exact HR.out.keep hsl.q.kp e
    obtain ⟨bb, oo, rfl, hbb, hc0, hc1, hc2, hc3, hc4, hc5⟩ := HRk.at_ (i := k) hk2
    have hsn := ftot_snoc rs k hk2
    have HSL := Lib.hid hsl
    obtain ⟨p, hpe⟩ : ∃ p, p = rs[k]'hk2 := ⟨_, rfl⟩
    obtain ⟨T, hTe⟩ : ∃ T, T = ftot (rs.take k) := ⟨_, rfl⟩
    rw [← hpe] at hc0 hc1 hc2 hc3 hc4 hc5 hsn
    rw [← hTe] at hsn ⊢
    have hTb : T ≤ 5000000 := by
     have h1 := ftot_le5 rs HBD.out
     have h2 := ftot_take rs k
     have := HL.out; have := HM.out
     omega
    have HBp := Lib.hid (HBD.out p (by rw [hpe]; exact List.getElem_mem hk2))
    have HP := Lib.hid (And.intro hpe (And.intro hTe hsn))
    clear hsl hpe hTe hsn HRk
    have HKA := Lib.hid ((Kp.refl nob wr).alloc (.cells #[.int .i64 p.kind, .int .i64 p.queue, .int .i64 p.id, .int .i64 p.num, .int .i64 p.wait, .string (str p.body)] 67))
    have HBA := Lib.hid (Blk.new wr 67 (rcells p))
    cases hg : good p with
    | false =>
      have hE : perr1 c.lim e s k (ftot (rs.take k)) rs[k] = 1 := by unfold perr1; rw [if_pos (by rw [← HP.out.1]; exact hg)]
      have HE := Lib.hid (HSL.out.bad1 hk2 hE (by omega))
      have HEO := Lib.hid (end1_no c.ms x2.o (ftot (rs.take k)) rs[k] (.inl (by rw [← HP.out.1]; exact hg)))
      have HPUT := Lib.hid (fun w' => put_no p w' (by have := HBp.out; omega) hg)
      clear hE hg
      go_wp2_with fail
      refine (HPUT.out _).mono ?_
      rintro r w3 ⟨rfl, k3⟩
      have HK3 := Lib.hid (HKA.out.trans k3 (fun _ e => e.elim))
      clear k3
      go_wp2
      go_ret2
      exact ⟨x2, HSL.out.q.over0 HK3.out, ⟨by have := HSL.out.cl; omega, HSL.out.once.all (by omega)⟩, .inr ⟨by rw [HE.out.1]; omega, by rw [HE.out.2, HEO.out], by rw [HE.out.1]; rfl⟩⟩
    | true =>
      have HG := Lib.hid hg
      have HPUT := Lib.hid (fun w' => put_yes p w' hg)
      clear hg
      go_wp2_with fail
      refine (HPUT.out _).mono ?_
      rintro r w3 ⟨A5, c5, rfl, ho5, hf5, k3⟩
      have HK3 := Lib.hid (HKA.out.trans k3 (fun _ e => e.elim))
      have HB3 := Lib.hid (HBA.out.keep k3 (fun e => e))
      have HO5 := Lib.hid (And.intro ho5 hf5)
      clear k3 ho5 hf5 HKA HBA HPUT
      have hpb := HBp.out
      by_cases hbig : 16384 < T + 63 + p.body.length
      · have hE : perr1 c.lim e s k (ftot (rs.take k)) rs[k] = 3 := by unfold perr1; rw [← HP.out.1, ← HP.out.2.1, if_neg (by rw [HG.out]; simp), if_pos hbig]
        have HE := Lib.hid (HSL.out.bad1 hk2 hE (by omega))
        have HEO := Lib.hid (end1_no c.ms x2.o (ftot (rs.take k)) rs[k] (.inr (by rw [← HP.out.1, ← HP.out.2.1]; exact hbig)))
        clear hE
        have hb2 : (16384 : Int) < (T : Int) + (27 + (36 + (p.body.length : Int))) := by omega
        go_wp2
        go_ret2
        exact ⟨x2, HSL.out.q.over0 HK3.out, ⟨by have := HSL.out.cl; omega, HSL.out.once.all (by omega)⟩, .inr ⟨by rw [HE.out.1]; omega, by rw [HE.out.2, HEO.out], by rw [HE.out.1]; rfl⟩⟩
      have hsm : T + 63 + p.body.length ≤ 16384 := by omega
      have hb2 : (T : Int) + (27 + (36 + (p.body.length : Int))) ≤ 16384 := by omega
      clear hbig
      have hsq := HSL.out.sq
      have hli := HF.out.2.2.2
      have hes := HES.out
      have HAD : Hid (IntKind.i64.wrap (s + (k : Int)) = s + (k : Int)) := Lib.hid (by rw [IntWalk.i64_in _ (by omega)])
      have HRF : Hid (refu c.lim e (s + (k : Int)) = perr1 c.lim e s k (ftot (rs.take k)) rs[k]) := Lib.hid (by rw [← HP.out.1, ← HP.out.2.1]; exact refu_perr c.lim e s k T p HG.out hsm hsq)
      clear hsq hli hes
      go_wp2
      have HK3d := Lib.hid HK3.out.drew
      have hrl := HSL.out.q.now.lt
      have HN1 : Hid (¬ x2.P wr.heap.size) := Lib.hid (fun e => by have := hrl _ e; omega)
      clear hrl
      refine reg_begin (fun w' => Blk w' wr.heap.size 67 (rcells p) ∧ Blk w' w.heap.size 47 (bvs at')) (by kernel_rfl) ⟨HB3.out.keep (Kp.refl nob _).drew (fun e => e), HSL.out.at_.keep HK3d.out (fun e => e)⟩ (fun hS0 => ?_)
      refine reg_tk (v := .pointer (some ⟨c.v, 0, none⟩)) 0 43 rfl rfl (by kernel_rfl) (by rfl) hS0 (fun w' hw => by go_simp) ?_; simp only [Act.put, zp1, zp2, zp3]
      refine reg_tk (v := .pointer (some ⟨c.v, 0, none⟩)) 1 44 rfl rfl (by kernel_rfl) (by rfl) hS0 (fun w' hw => by go_simp) ?_; simp only [Act.put, zp1, zp2, zp3]
      refine reg_tk (v := .pointer (some ⟨wr.heap.size, 1, none⟩)) 2 45 rfl rfl (by kernel_rfl) (by rfl) hS0 (fun w' hw => by go_simp) ?_; simp only [Act.put, zp1, zp2, zp3]
      refine reg_tk (v := .int .i64 p.queue) 3 46 rfl rfl (by kernel_rfl) (by rfl) hS0 (fun w' hw => by have hc : w'.cell? ⟨wr.heap.size, 1, none⟩ = some (.int .i64 p.queue) := hw.1.cell 1; go_simp) ?_; simp only [Act.put, zp1, zp2, zp3]
      refine reg_tk (v := .int .i64 e) 5 48 rfl rfl (by kernel_rfl) (by rfl) hS0 (fun w' hw => by go_simp) ?_; simp only [Act.put, zp1, zp2, zp3]
      refine reg_tk (v := .int .i64 s) 6 49 rfl rfl (by kernel_rfl) (by rfl) hS0 (fun w' hw => by go_simp) ?_; simp only [Act.put, zp1, zp2, zp3]
      refine reg_tk (v := .int .i64 (k : Nat)) 7 50 rfl rfl (by kernel_rfl) (by rfl) hS0 (fun w' hw => by go_simp) ?_; simp only [Act.put, zp1, zp2, zp3]
      refine reg_tk (v := .int .i64 (s + (k : Nat))) 8 51 rfl rfl (by kernel_rfl) (by rfl) hS0 (fun w' hw => by have hc := HAD.out; go_simp) ?_; simp only [Act.put, zp1, zp2, zp3]
      refine reg_tk (v := .slice A5 (36 + p.body.length) c5) 9 52 rfl rfl (by kernel_rfl) (by rfl) hS0 (fun w' hw => by go_simp) ?_; simp only [Act.put, zp1, zp2, zp3]
      refine reg_load 10 (some 53) 47 (.tmp 8) rfl rfl rfl (by kernel_rfl) (by kernel_rfl) (by kernel_rfl) (by rfl) hS0 w.heap.size 0 rfl (bvs at') _ (fun w' hw => hw.2.range) rarr_under rfl (rarr_size at' H32.out) ?_; simp only [Act.put, zp1, zp2, zp3]
      refine reg_tk (v := .int .i64 (k : Nat)) 11 54 rfl rfl (by kernel_rfl) (by rfl) hS0 (fun w' hw => by go_simp) ?_; simp only [Act.put, zp1, zp2, zp3]
      refine reg_tk (v := .slice (some ⟨bb, oo, none⟩) m d) 12 55 rfl rfl (by kernel_rfl) (by rfl) hS0 (fun w' hw => by go_simp) ?_; simp only [Act.put, zp1, zp2, zp3]
      refine reg_tk (v := .int .i64 (m : Nat)) 13 56 rfl rfl (by kernel_rfl) (by rfl) hS0 (fun w' hw => by go_simp) ?_; simp only [Act.put, zp1, zp2, zp3]
      have HKd : Hid (Vx w3.drew c x2) := Lib.hid (HSL.out.q.now.keep0 HK3d.out)
      have hfew : x2.o.few 82500 := by
       rw [HSL.out.o_]
       exact (stA_few c.ms e s at' rs.length x.o (rs.take k) 80000 HF.out.1).mono (by rw [List.length_take]; have := HL.out; have := HM.out; omega)
      have hlong : x2.o.long := by rw [HSL.out.o_]; exact HF.out.2.1.sub (stA_from ..)
      have HFL := Lib.hid (And.intro hfew hlong)
      have hA5 : Arg w3.drew x2.P A5 (36 + p.body.length) c5 (recB p) := by
       have hl := recB_length p HBp.out
       have ho := (HO5.out.1.keep ((Kp.refl nob w3).drew) (fun _ _ e => e))
       exact ⟨hl, ho.row, .inr (fun i e hp => by have h1 := HO5.out.2 i e; simp at h1; have h2 := HSL.out.q.now.lt i hp; omega), ho.cap.1, ho.cap.2, own_none ho⟩
      have HA5 := Lib.hid hA5
      clear hA5
      refine reg_keyBes 4 14 15 47 57 58 _ _ _ _ _ 22 c x2 p.queue at' k m HKd.out (hfew.mono (by omega)) hlong H32.out rfl rfl rfl (by kernel_rfl) (by kernel_rfl) (by kernel_rfl) (by kernel_rfl) rfl (by kernel_rfl) (by kernel_rfl)
       (fun w' hk => ⟨hS0.1.keep hk HN1.out, hS0.2.keep hk HSL.out.af⟩) ?hk ?hb ?hs ?hfin
      case hk =>
       intro o a w' ho e0
       obtain rfl := oper_is ho rfl
       have h1 : a.eval (.tmp 44) = .pointer (some ⟨c.v, 0, none⟩) := e0 44 (by kernel_rfl)
       have h2 : a.eval (.tmp 46) = .int .i64 p.queue := e0 46 (by kernel_rfl)
       exact exec_func 109 _ _ [.pointer (some ⟨c.v, 0, none⟩), .int .i64 p.queue] rfl (by kernel_rfl) (by show [a.eval (.tmp 44), a.eval (.tmp 46)] = _; rw [h1, h2])
      case hb =>
       intro o a w' ho e0
       obtain rfl := oper_is ho rfl
       have h1 : a.eval (.tmp 53) = .agg (bvs at').toArray := e0 53 (by kernel_rfl)
       have h2 : a.eval (.tmp 54) = .int .i64 (k : Nat) := e0 54 (by kernel_rfl)
       have h3 : a.eval (.tmp 56) = .int .i64 (m : Nat) := e0 56 (by kernel_rfl)
       exact exec_func 110 _ _ [.agg (bvs at').toArray, .int .i64 (k : Nat), .int .i64 (m : Nat)] rfl (by kernel_rfl) (by show [a.eval (.tmp 53), a.eval (.tmp 54), a.eval (.tmp 56)] = _; rw [h1, h2, h3])
      case hs => intro o ho; obtain rfl := oper_is ho rfl; rfl
      case hfin =>
       intro F2 P2 w4 A6 c6 g hq hargs
       simp only [Act.put, zp1, zp2, zp3]
       obtain ⟨key, hkey⟩ : ∃ key, key = x2.o.val (keyT c.ms p.queue) 32 := ⟨_, rfl⟩
       have hkl : key.length = 32 := by rw [hkey]; exact HFL.out.2.len _ (.inr (.inr rfl))
       rw [← hkey]
       have HQ4 := Lib.hid ((HSL.out.q.over0 HK3d.out).trans hq)
       have hS4 : Blk w4 wr.heap.size 67 (rcells p) ∧ Blk w4 w.heap.size 47 (bvs at') := ⟨hS0.1.keep hq.kp HN1.out, hS0.2.keep hq.kp HSL.out.af⟩
       have HN4 : Hid (¬ P2 wr.heap.size ∧ ¬ P2 w.heap.size) := Lib.hid ⟨hq.old HN1.out hS0.1.lt, hq.old HSL.out.af hS0.2.lt⟩
       have HA4 := Lib.hid (hq.arg HA5.out)
       have HAR := Lib.hid hargs
       have HXq := Lib.hid hq
       have HKEY := Lib.hid (And.intro hkey hkl)
       have hcat : Sha.catP [⟨A6, 48, c6, besT at' k m⟩] = besT at' k m := by simp [Sha.catP]
       have HCAT := Lib.hid hcat
       clear hcat hkey hkl hargs hq
       obtain ⟨E, hE⟩ : ∃ E, E = refu c.lim e (s + (k : Int)) := ⟨_, rfl⟩
       have HE := Lib.hid hE
       have hEr : 0 ≤ E ∧ E ≤ 10 := by rw [hE, HRF.out]; exact perr1_range ..
       by_cases hrf : E = 0
       · have hrl := recB_length p HBp.out
         have hcall := seal_v c ⟨F2, P2, x2.o.nx (keyT c.ms p.queue), x2.sl, x2.cl⟩ key HKEY.out.2 e (s + (k : Int)) A5 (36 + p.body.length) c5 (recB p) (some ⟨g, 0, none⟩) 1 1 _ w4 HXq.out.now HA4.out HAR.out ((HFL.out.1.nx _).mono (by omega)) (by rw [hrl]; omega) (by rw [HCAT.out, bes_length _ _ _ H32.out]; omega) (by have h1 := HSL.out.cl; have h2 := HF.out.2.2.1; simp only; omega) (by rw [← hE]; exact hrf)
         rw [HCAT.out, hrl] at hcall
         obtain ⟨t, ht⟩ : ∃ t, t = sealT key (nonce e (s + (k : Int))) (besT at' k m) (recB p) := ⟨_, rfl⟩
         rw [← ht] at hcall
         obtain ⟨b, hb⟩ : ∃ b, b = (x2.o.nx (keyT c.ms p.queue)).val t (36 + p.body.length + 16) := ⟨_, rfl⟩
         have hbl : b.length = 36 + p.body.length + 16 := by
          rw [hb, ht, ← hrl]
          exact (HFL.out.2.nx _).seal_ ..
         rw [← hb] at hcall
         have HT := Lib.hid (And.intro ht (And.intro hb (And.intro hbl hrl)))
         clear ht hb hbl hrl
         refine reg_call 16 (some 59) rfl rfl (by kernel_rfl) (by rfl) _ _ (exec_func 113 _ _ [.pointer (some ⟨c.v, 0, none⟩), .agg (bvs key).toArray, .int .i64 e, .int .i64 (s + (k : Nat)), .slice A5 (36 + p.body.length) c5, .slice (some ⟨g, 0, none⟩) 1 1] rfl (by kernel_rfl) rfl) ?_
         refine hcall.mono ?_
         rintro r w5 ⟨F3, P3, X, cX, rfl, q5, hans⟩
         have hS5 : Blk w5 wr.heap.size 67 (rcells p) ∧ Blk w5 w.heap.size 47 (bvs at') := ⟨q5.blk hS4.1 HN4.out.1, q5.blk hS4.2 HN4.out.2⟩
         have HQ5 := Lib.hid q5
         have HANS := Lib.hid hans
         clear q5 hans hcall
         refine ⟨_, rfl, hS5, fun _ => ?_⟩
         simp only [Act.put, zp1, zp2, zp3]
         refine reg_tk (v := .tuple #[.slice X (36 + p.body.length + 16) cX, .int .i64 0]) 17 42 rfl rfl (by kernel_rfl) (by rfl) hS5 (fun w' hw => by go_simp) ?_; simp only [Act.put, zp1, zp2, zp3]
         refine reg_tk (v := .slice X (36 + p.body.length + 16) cX) 18 60 rfl rfl (by kernel_rfl) (by rfl) hS5 (fun w' hw => by go_simp) ?_; simp only [Act.put, zp1, zp2, zp3]
         refine reg_tk (v := .int .i64 0) 19 61 rfl rfl (by kernel_rfl) (by rfl) hS5 (fun w' hw => by go_simp) ?_; simp only [Act.put, zp1, zp2, zp3]
         refine reg_tk (v := .slice X (36 + p.body.length + 16) cX) 20 18 rfl rfl (by kernel_rfl) (by rfl) hS5 (fun w' hw => by go_simp) ?_; simp only [Act.put, zp1, zp2, zp3]
         refine reg_tk (v := .int .i64 0) 21 17 rfl rfl (by kernel_rfl) (by rfl) hS5 (fun w' hw => by go_simp) ?_; simp only [Act.put, zp1, zp2, zp3]
         refine reg_end (by kernel_rfl) ?_
         have hc1 : w5.cell? ⟨wr.heap.size, 1, none⟩ = some (.int .i64 p.queue) := hS5.1.cell 1
         clear hS5 hS4 hS0
         obtain ⟨i0, hi1, hi2, hi3, hi4⟩ := info_parts3 part_info
         have HOWN := Lib.hid (fun o => HSL.out.own_ HK3d.out HXq.out HQ5.out ((Kp.refl nob w5).alloc o))
         go_wp2_with (first
          | (refine wpList_appKO_gd _ (.tmp 65) (.tmp 70) 166 rfl (by rfl) 2 (by decide) 188 i0 _ 32 part_under hi1 hi2 hi3 hi4 rfl Z k cz (gs.flatMap Pt.cells) rfl (HOWN.out _) (some ⟨w5.heap.size, 0, none⟩) 1 1 (Pt.cells ⟨p.queue, X, cX, b⟩) rfl (fun e => by cases e) rfl (by
              have := row_new w5 (Pt.cells ⟨p.queue, X, cX, b⟩) 188
              unfold Pt.cells at this ⊢
              rw [HT.out.2.2.1] at this ⊢
              exact this) (fun u hu => by unfold Pt.cells at hu; simp only [List.mem_cons, List.not_mem_nil, or_false] at hu; rcases hu with rfl | rfl <;> rfl) (by omega) (by simp [maxLen]; omega) ?_
             intro Z2 cz2 w7 ho2 hg2 hz2)
          | fail)
         have ht2 : t = stT c.ms e s at' rs.length x2.o k p := by
          rw [HT.out.1, HKEY.out.1, ← HL.out]; rfl
         have hq5 := HQ5.out
         have hans := HANS.out
         have hb2 := HT.out.2.1
         have hbn : b ≠ [] := fun e0 => by have h0 := HT.out.2.2.1; rw [e0] at h0; simp at h0
         rw [ht2] at hq5 hb2
         have HNX := Lib.hid (HSL.out.more HX.out hk2 p HP.out.1 (by rw [← HRF.out, ← hE]; exact hrf) HK3d.out HXq.out hq5 key HKEY.out.2 rfl rfl hans (by rw [HT.out.2.2.2]; exact hb2) hbn ((Kp.refl nob w5).alloc _) ho2 ((Kp.refl _ _).grown hg2 (fun j e => .inl e)) hz2)
         clear ht2 hq5 hans hb2 hbn ho2 hg2 hz2
         go_wp2
         go_roundw
         case rel => exact ⟨k + 1, by omega, by go_num, by rw [HP.out.2.2]; go_num, _, Z2, cz2, _, rfl, HNX.out⟩
         case measure => simp [intOf]; omega
       · have hcall := seal_vno c ⟨F2, P2, x2.o.nx (keyT c.ms p.queue), x2.sl, x2.cl⟩ key e (s + (k : Int)) (.slice A5 (36 + p.body.length) c5) (.slice (some ⟨g, 0, none⟩) 1 1) w4 HXq.out.now (by rw [← hE]; exact hrf)
         rw [← hE] at hcall
         refine reg_call 16 (some 59) rfl rfl (by kernel_rfl) (by rfl) _ _ (exec_func 113 _ _ [.pointer (some ⟨c.v, 0, none⟩), .agg (bvs key).toArray, .int .i64 e, .int .i64 (s + (k : Nat)), .slice A5 (36 + p.body.length) c5, .slice (some ⟨g, 0, none⟩) 1 1] rfl (by kernel_rfl) rfl) ?_
         refine hcall.mono ?_
         rintro r w5 ⟨rfl, k5⟩
         have hS5 : Blk w5 wr.heap.size 67 (rcells p) ∧ Blk w5 w.heap.size 47 (bvs at') := ⟨hS4.1.keep k5 (fun e => e), hS4.2.keep k5 (fun e => e)⟩
         have HQ5 := Lib.hid (HQ4.out.over0 k5)
         clear k5 hcall
         refine ⟨_, rfl, hS5, fun _ => ?_⟩
         simp only [Act.put, zp1, zp2, zp3]
         refine reg_tk (v := .tuple #[.slice none 0 0, .int .i64 E]) 17 42 rfl rfl (by kernel_rfl) (by rfl) hS5 (fun w' hw => by go_simp) ?_; simp only [Act.put, zp1, zp2, zp3]
         refine reg_tk (v := .slice none 0 0) 18 60 rfl rfl (by kernel_rfl) (by rfl) hS5 (fun w' hw => by go_simp) ?_; simp only [Act.put, zp1, zp2, zp3]
         refine reg_tk (v := .int .i64 E) 19 61 rfl rfl (by kernel_rfl) (by rfl) hS5 (fun w' hw => by go_simp) ?_; simp only [Act.put, zp1, zp2, zp3]
         refine reg_tk (v := .slice none 0 0) 20 18 rfl rfl (by kernel_rfl) (by rfl) hS5 (fun w' hw => by go_simp) ?_; simp only [Act.put, zp1, zp2, zp3]
         refine reg_tk (v := .int .i64 E) 21 17 rfl rfl (by kernel_rfl) (by rfl) hS5 (fun w' hw => by go_simp) ?_; simp only [Act.put, zp1, zp2, zp3]
         refine reg_end (by kernel_rfl) ?_
         have HB1' := Lib.hid (HSL.out.bad1 hk2 (by rw [← HRF.out, ← HE.out]) hrf)
         have HEO := Lib.hid (end1_yes c.ms x2.o (ftot (rs.take k)) rs[k] (by rw [← HP.out.1]; exact HG.out) (by rw [← HP.out.1, ← HP.out.2.1]; exact hsm))
         have hb0 : (E != 0) = true := by simp; exact hrf
         clear hS5 hS4 hS0 hE
         go_wp2
         go_ret2
         exact ⟨_, HQ5.out, ⟨by have := HSL.out.cl; simp only; omega, HSL.out.once.all (by omega)⟩, .inr ⟨by rw [HB1'.out.1]; exact hrf, by rw [HB1'.out.2, HEO.out, ← HP.out.1], by rw [HB1'.out.1]; rfl⟩⟩
  · obtain rfl : k = m := by omega
    have HSL := Lib.hid hsl
    clear hsl
    go_wp2
    go_ret2
    have hk3 : rs.take k = rs := List.take_of_length_le (by rw [HL.out]; exact Nat.le_refl _)
    have h0 : perrs c.lim e s 0 48 rs = 0 := by rw [HSL.out.er, List.drop_of_length_le (by rw [HL.out]; exact Nat.le_refl _)]; rfl
    have ho := HSL.out.o_
    have htw := HSL.out.two
    rw [hk3] at ho htw
    refine ⟨x2, HSL.out.q, ⟨by rw [HL.out]; exact HSL.out.cl, by rw [HL.out]; exact HSL.out.once⟩, .inl ⟨h0, ho, Z, cz, gs, by rw [HL.out]; rfl, htw, ⟨HSL.out.own.row, .inr (fun i e => (HSL.out.zf i e).2), HSL.out.arg⟩, OwnZ.none_ HSL.out.own, by rw [HL.out]; exact HSL.out.own.cap.1, HSL.out.own.cap.2⟩⟩
end Seg
end Go.Proofs.YtigdlnfgdjfdoaaGreat
