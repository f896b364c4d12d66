/- The code's Get. -/
import Derived.Test.YtadhhnlolnnkhaaRecD
import Derived.Test.YtadhhnlolnnkhaaCodeRT
import Derived.Test.YtadhhnlolnnkhaaRegC
namespace Go.Proofs.Ytadhhnlolnnkhaa.Rec
set_option linter.unusedVariables false
set_option linter.unusedSimpArgs false
open Go Go.RowKit Kit

def zr : Rec := ⟨0, 0, 0, 0, 0, []⟩
theorem rec_row : (Try.prog.underlying 23).map (·.isRow) = some true := by kernel_rfl
theorem rec_under : ∃ d, Try.prog.underlying 23 = some d ∧ d.isRow = true := by
  have h := rec_row
  cases hu : Try.prog.underlying 23 with
  | none => rw [hu] at h; cases h
  | some d => rw [hu] at h; exact ⟨d, rfl, by simpa using h⟩
theorem rec_size (r : Rec) : (Try.prog.info? 23).map (·.size) = some (rcells r).length := by rw [rcells_length]; kernel_rfl
theorem rcells_one (r : Rec) : ∀ u ∈ rcells r, u.oneCell' = true := by
  intro u hu
  simp only [rcells, List.mem_cons, List.not_mem_nil, or_false] at hu
  rcases hu with rfl | rfl | rfl | rfl | rfl | rfl <;> rfl
/-- The result's block and a reader, both new since w. -/
structure Gw (w : World) (M b : Nat) (A : Option Addr) (s : List UInt8 × Bool) (w2 : World) : Prop where
  z : Blk w2 w.heap.size 23 (rcells zr)
  i : IsR w2 b A s.1 s.2
  f : ∀ k, WF b A k → w.heap.size < k ∧ k < M
  k : Kp nob w w2
theorem Gw.keep {w w2 w3 : World} {M b : Nat} {A : Option Addr} {s : List UInt8 × Bool} (h : Gw w M b A s w2) (k : Kp nob w2 w3) : Gw w M b A s w3 := ⟨h.z.keep k (fun e => e), h.i.keep k (fun _ _ e => e), h.f, h.k.trans k (fun _ e => e.elim)⟩
theorem Gw.far {w w2 w3 : World} {M b : Nat} {A : Option Addr} {s : List UInt8 × Bool} {F : Nat → Prop} (h : Gw w M b A s w2) (k : Kp F w2 w3) (hF : ∀ j, F j → ¬ WF b A j ∧ w.heap.size < j) : Gw w M b A s w3 :=
  ⟨h.z.keep k (fun e => Nat.lt_irrefl _ (hF _ e).2), h.i.keep k (fun j e e2 => (hF j e2).1 e), h.f, h.k.since k (fun i e => Nat.le_of_lt (hF i e).2)⟩
theorem Gw.more {w w2 w3 : World} {M b : Nat} {A : Option Addr} {s s' : List UInt8 × Bool} (h : Gw w M b A s w2) (p : RPost w2 b A s' w3) : ∃ A', Gw w M b A' s' w3 := by
  obtain ⟨A', h1, h2, h3⟩ := p
  have hb : w.heap.size < b := (h.f b (.inl rfl)).1
  refine ⟨A', h.z.keep h2 (fun e => by have e : w.heap.size = b := e; omega), h1, fun k e => ?_, h.k.since h2 (fun i e => by have e : i = b := e; omega)⟩
  rcases e with e | e
  · exact h.f k (.inl e)
  · rcases h3 with h3 | h3
    · rw [h3] at e; exact h.f k (.inr e)
    · rw [h3] at e; cases e
/-- What is left behind so many reads. -/
def st (s : List UInt8 × Bool) : Nat → List UInt8 × Bool
  | 0 => s
  | n + 1 => if n < 4 then (sNum (st s n)).2 else (sText (st s n) 512).2
def vv (s : List UInt8 × Bool) (p : Nat) : Value := if p < 4 then .int .i64 (sNum (st s p)).1 else .string (str (sText (st s p) 512).1)
/-- The record that is read. -/
def rd (x : UInt8) (s : List UInt8 × Bool) : Rec := ⟨(x.toNat : Int), (sNum (st s 0)).1, (sNum (st s 1)).1, (sNum (st s 2)).1, (sNum (st s 3)).1, (sText (st s 4) 512).1⟩
theorem rd_eq (x : UInt8) (l : List UInt8) : recRead (x :: l) = (rd x (l, false), st (l, false) 5) := by
  rw [recRead_cons]; rfl
theorem rcells_rd (x : UInt8) (s : List UInt8 × Bool) : rcells (rd x s) = [.int .i64 (x.toNat : Int), vv s 0, vv s 1, vv s 2, vv s 3, vv s 4] := rfl
/-- What Get answers. -/
def gotR (l : List UInt8) : Rec := (recGet l).getD zr
def gotE (l : List UInt8) : Int := if (recGet l).isSome then 0 else 4
theorem recGet_cons (x : UInt8) (l : List UInt8) : recGet (x :: l) = if (!(st (l, false) 5).2 && (st (l, false) 5).1.isEmpty) = true ∧ good (rd x (l, false)) = true then some (rd x (l, false)) else none := by
  have e : ((!(st (l, false) 5).2 && (st (l, false) 5).1.isEmpty) = true ∧ good (rd x (l, false)) = true) ↔ ((st (l, false) 5).2 = false ∧ (st (l, false) 5).1 = [] ∧ good (rd x (l, false)) = true) := by
    simp only [Bool.and_eq_true, Bool.not_eq_true', List.isEmpty_iff, and_assoc]
  unfold recGet
  rw [if_neg (by simp), rd_eq]
  by_cases h : (!(st (l, false) 5).2 && (st (l, false) 5).1.isEmpty) = true ∧ good (rd x (l, false)) = true
  · rw [if_pos h, if_pos (e.1 h)]
  · rw [if_neg h, if_neg (fun h2 => h (e.2 h2))]
set_option maxRecDepth 100000 in
theorem build_rec (k q i n t : Int) (b : ByteArray) (w : World) : (Instr.build 23 #[(0, .int .i64 k), (1, .int .i64 q), (2, .int .i64 i), (3, .int .i64 n), (4, .int .i64 t), (5, .string b)]).run Try.prog w = .ok (.agg #[.int .i64 k, .int .i64 q, .int .i64 i, .int .i64 n, .int .i64 t, .string b]) w := by kernel_rfl
/-- The reads, one behind the other. -/
def Tg (w : World) (M b b2 : Nat) (x : UInt8) (s : List UInt8 × Bool) (N : Nat) (p : Nat) (w' : World) : Prop :=
  (∃ A, Gw w M b A (st s (min p 5)) w') ∧ w'.cell? ⟨b2, 0, none⟩ = some (bv x) ∧ b2 < N ∧ b2 ≠ b ∧ N ≤ w'.heap.size ∧ b < N ∧ M ≤ N
theorem Tg.alloc {w : World} {M b b2 : Nat} {x : UInt8} {s : List UInt8 × Bool} {N p : Nat} {w' : World} (h : Tg w M b b2 x s N p w') (o : Obj) : Tg w M b b2 x s N p (w'.alloc o) := by
  obtain ⟨⟨A, h1⟩, h2, h3, h4, h5, h6⟩ := h
  have k := (Kp.refl nob w').alloc o
  exact ⟨⟨A, h1.keep k⟩, (k.cell (p := ⟨b2, 0, none⟩) (by show b2 < _; omega) (fun e => e)).trans h2, h3, h4, Nat.le_trans h5 k.size, h6⟩
theorem Tg.go {w : World} {M b b2 : Nat} {x : UInt8} {s : List UInt8 × Bool} {N p : Nat} {w' w2 : World} {A : Option Addr} (h : Tg w M b b2 x s N p w') (hA : Gw w M b A (st s (min p 5)) w') (r : RPost w' b A (st s (min (p + 1) 5)) w2) : Tg w M b b2 x s N (p + 1) w2 ∧ Kp (oneF b) w' w2 := by
  obtain ⟨_, h2, h3, h4, h5, h6⟩ := h
  have k : Kp (oneF b) w' w2 := by obtain ⟨_, _, k, _⟩ := r; exact k
  exact ⟨⟨hA.more r, (k.cell (p := ⟨b2, 0, none⟩) (by show b2 < _; omega) (fun e => h4 e)).trans h2, h3, h4, Nat.le_trans h5 k.size, h6⟩, k⟩
theorem Tg.num {w : World} {M b b2 : Nat} {x : UInt8} {s : List UInt8 × Bool} {N p : Nat} {w' : World} (h : Tg w M b b2 x s N p w') (hp : p < 4) :
    Calls Try.prog 29 #[.pointer (some ⟨b, 0, none⟩)] w' fun e w2 => e = .returned (vv s p) ∧ Tg w M b b2 x s N (p + 1) w2 ∧ Kp (oneF b) w' w2 := by
  obtain ⟨A, hA⟩ := h.1
  have e1 : min p 5 = p := by omega
  have e2 : min (p + 1) 5 = p + 1 := by omega
  refine (rNum b A (st s (min p 5)) w' hA.i).mono ?_
  rintro e w2 ⟨rfl, r⟩
  refine ⟨by rw [vv, if_pos hp, e1], h.go hA ?_⟩
  rw [e2, st, if_pos hp, ← e1]; exact r
theorem Tg.text {w : World} {M b b2 : Nat} {x : UInt8} {s : List UInt8 × Bool} {N : Nat} {w' : World} (h : Tg w M b b2 x s N 4 w') :
    Calls Try.prog 30 #[.pointer (some ⟨b, 0, none⟩), .int .i64 512] w' fun e w2 => e = .returned (vv s 4) ∧ Tg w M b b2 x s N (4 + 1) w2 ∧ Kp (oneF b) w' w2 := by
  obtain ⟨A, hA⟩ := h.1
  refine (rText b A (st s 4) 512 w' hA.i).mono ?_
  rintro e w2 ⟨rfl, r⟩
  exact ⟨rfl, h.go hA r⟩
theorem Tg.last {w : World} {M b b2 : Nat} {x : UInt8} {s : List UInt8 × Bool} {N : Nat} {w' : World} (h : Tg w M b b2 x s N 5 w') : Tg w M b b2 x s N (5 + 1) w' := h
theorem sText_len (s : List UInt8 × Bool) (most : Int) : (sText s most).1.length ≤ 65536 := by
  unfold sText
  split
  · simp
  · rename_i h
    have := sTake_length (sTake s 3).2 (lowN (sTake s 3).1.1 : Nat)
    simp only [Int.toNat_natCast] at this
    show (sTake (sTake s 3).2 (lowN (sTake s 3).1.1 : Nat)).1.1.length ≤ 65536
    omega
theorem rd_len (x : UInt8) (s : List UInt8 × Bool) : (rd x s).body.length ≤ 65536 := sText_len _ _
end Go.Proofs.Ytadhhnlolnnkhaa.Rec
