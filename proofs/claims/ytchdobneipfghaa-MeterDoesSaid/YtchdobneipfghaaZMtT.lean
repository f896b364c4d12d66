/- A register and its disk, and the document's, side by side; blocks that lie beside them. -/
import Derived.Test.YtchdobneipfghaaZMtG
import Derived.Test.YtchdobneipfghaaZMtN
import Derived.Test.YtchdobneipfghaaZMtZ
namespace Go.Proofs.Ytchdobneipfghaa.Meter
set_option linter.unusedVariables false
set_option linter.unusedSimpArgs false
open Go Go.RowKit Kit Disk

/-- The document's blocks. -/
def eF (m2 : Nat) (F2 : Nat → Prop) : Nat → Prop := fun k => k = m2 ∨ F2 k
/-- Where the document's disk lies. -/
structure Pf where
  F : Nat → Prop
  N : Option Addr
  S : Option Addr
  W : Option Addr
  cN : Nat
  cS : Nat
  cW : Nat
structure Tm (w wr : World) (m g N S m2 g2 : Nat) (bs : List (Nat × TypeId × List Value)) (t : Mt) (D : Dk) (t' : Mt) (D' : Dk) (W : Option Addr) (cW : Nat) (p : Pf) : Prop where
  co : Md w wr m g N S W cW t D
  dd : Dd wr g2 p.F p.N p.S p.W p.cN p.cS p.cW D'
  de : Fb wr m2 (some ⟨g2, 0, none⟩) t'
  ne : ¬ p.F m2
  fd : ∀ k, eF m2 p.F k → w.heap.size ≤ k
  ap : ∀ k, mF m g N S W k → ¬ eF m2 p.F k
  bl : ∀ b ∈ bs, Blk wr b.1 b.2.1 b.2.2 ∧ ¬ mF m g N S W b.1 ∧ ¬ eF m2 p.F b.1 ∧ w.heap.size ≤ b.1
def Tx (w wr : World) (m g N S m2 g2 : Nat) (bs : List (Nat × TypeId × List Value)) (t : Mt) (D : Dk) (t' : Mt) (D' : Dk) : Prop := ∃ W cW p, Tm w wr m g N S m2 g2 bs t D t' D' W cW p
section
variable {w wr w2 : World} {m g N S m2 g2 : Nat} {bs : List (Nat × TypeId × List Value)} {t t2 t' t2' : Mt} {D D2 D' D2' : Dk} {W : Option Addr} {cW : Nat} {p : Pf}
theorem Tm.lt2 (h : Tm w wr m g N S m2 g2 bs t D t' D' W cW p) : ∀ k, eF m2 p.F k → k < wr.heap.size := by
  rintro k (rfl | e)
  · exact h.de.b.lt
  · exact h.dd.lt k e
theorem Tm.keep0 (h : Tm w wr m g N S m2 g2 bs t D t' D' W cW p) (k : Kp nob wr w2) : Tm w w2 m g N S m2 g2 bs t D t' D' W cW p :=
  ⟨h.co.keep0 k, h.dd.keep0 k, h.de.keep0 k, h.ne, h.fd, h.ap, fun b hb => ⟨(h.bl b hb).1.keep k (fun e => e), (h.bl b hb).2⟩⟩
/-- Something is done to the code's. -/
theorem Tm.code (h : Tm w wr m g N S m2 g2 bs t D t' D' W cW p) (hz : Mz wr m g N S W t2 D2 w2) : ∃ W2 c2, Tm w w2 m g N S m2 g2 bs t2 D2 t' D' W2 c2 p := by
  obtain ⟨W2, c2, h1, h2, h3⟩ := h.co.both hz
  refine ⟨W2, c2, h1, h.dd.keep h2 (fun i e e2 => h.ap i e2 (.inr e)), h.de.keep h2 (fun e => h.ap m2 e (.inl rfl)), h.ne, h.fd, fun k e e2 => h3 k (h.lt2 k e2) (fun e3 => h.ap k e3 e2) e, fun b hb => ?_⟩
  obtain ⟨b1, b2, b3, b4⟩ := h.bl b hb
  exact ⟨b1.keep h2 b2, h3 _ b1.lt b2, b3, b4⟩
theorem Tm.disk (h : Tm w wr m g N S m2 g2 bs t D t' D' W cW p) (hz : Dz wr g N S W D2 w2) : ∃ W2 c2, Tm w w2 m g N S m2 g2 bs t D2 t' D' W2 c2 p := by
  obtain ⟨W2, c2, hd, hk, hn⟩ := hz
  exact h.code ⟨W2, c2, hd, h.co.me.keep hk h.co.ne, hk.mono (fun i _ e => .inr e), hn⟩
theorem Tm.one (h : Tm w wr m g N S m2 g2 bs t D t' D' W cW p) (hd : Cd w2 g N S W cW D2) (hk : Kp (oneB g) wr w2) : ∃ W2 c2, Tm w w2 m g N S m2 g2 bs t D2 t' D' W2 c2 p := h.disk (one_z hd hk)
/-- Something is done to the document's. -/
theorem Tm.doc (h : Tm w wr m g N S m2 g2 bs t D t' D' W cW p) (hz : Mf wr m2 g2 p.F t2' D2' w2) : ∃ q, Tm w w2 m g N S m2 g2 bs t D t2' D2' W cW q := by
  obtain ⟨F', N', S', W', a, b, c, hd, hm, hk, hn⟩ := hz
  have hw := h.co.k.size
  have hF : ∀ k, eF m2 F' k → eF m2 p.F k ∨ wr.heap.size ≤ k := fun k e => e.elim (fun e => .inl (.inl e)) (fun e => (hn k e).imp (fun e => .inr e) id)
  have hlt := h.co.lt
  have hk' : Kp (eF m2 p.F) wr w2 := hk
  refine ⟨⟨F', N', S', W', a, b, c⟩, ⟨h.co.d.keep hk' (fun i e e2 => h.ap i (.inr e) e2), h.co.me.keep hk' (fun e => h.ap m (.inl rfl) e), h.co.ne, h.co.fd, h.co.fm, h.co.k.since hk' (fun i e => h.fd i e)⟩, hd, hm, fun e => ?_, fun k e => ?_, fun k e e2 => ?_, fun q hq => ?_⟩
  · rcases hn m2 e with h1 | h1
    · exact h.ne h1
    · have := h.de.b.lt; omega
  · rcases hF k e with h1 | h1
    · exact h.fd k h1
    · omega
  · rcases hF k e2 with h1 | h1
    · exact h.ap k e h1
    · have := hlt k e; omega
  · obtain ⟨b1, b2, b3, b4⟩ := h.bl q hq
    refine ⟨b1.keep hk' b3, b2, fun e => ?_, b4⟩
    rcases hF _ e with h1 | h1
    · exact b3 h1
    · have := b1.lt; omega
theorem Tm.ddisk (h : Tm w wr m g N S m2 g2 bs t D t' D' W cW p) (hz : Dm wr g2 p.F D2' w2) : ∃ q, Tm w w2 m g N S m2 g2 bs t D t' D2' W cW q := by
  obtain ⟨F', N', S', W', a, b, c, hd, hn, hk⟩ := hz
  exact h.doc ⟨F', N', S', W', a, b, c, hd, h.de.keep hk h.ne, hk.mono (fun i _ e => .inr e), hn⟩
theorem Tm.done (h : Tm w wr m g N S m2 g2 bs t D t' D' W cW p) (hd : Dd w2 g2 p.F p.N p.S p.W p.cN p.cS p.cW D2') (hk : Kp (oneB g2) wr w2) : ∃ q, Tm w w2 m g N S m2 g2 bs t D t' D2' W cW q :=
  h.ddisk ⟨p.F, p.N, p.S, p.W, p.cN, p.cS, p.cW, hd, fun k e => .inl e, hk.mono (fun i _ e => by have e : i = g2 := e; rw [e]; exact h.dd.g)⟩
theorem Tm.add (h : Tm w wr m g N S m2 g2 bs t D t' D' W cW p) (hk : Kp nob wr w2) (b : Nat) (ty : TypeId) (cs : List Value) (hb : Blk w2 b ty cs) (hn : wr.heap.size ≤ b) : Tm w w2 m g N S m2 g2 ((b, ty, cs) :: bs) t D t' D' W cW p :=
  have h' := h.keep0 hk
  ⟨h'.co, h'.dd, h'.de, h'.ne, h'.fd, h'.ap, fun q hq => by
    rcases List.mem_cons.1 hq with rfl | hq
    · exact ⟨hb, h.co.far _ hn, fun e => by have := h.lt2 _ e; omega, Nat.le_trans h.co.k.size hn⟩
    · exact h'.bl q hq⟩
theorem Tm.sub {bs2 : List (Nat × TypeId × List Value)} (h : Tm w wr m g N S m2 g2 bs t D t' D' W cW p) (hs : ∀ b ∈ bs2, b ∈ bs) : Tm w wr m g N S m2 g2 bs2 t D t' D' W cW p := ⟨h.co, h.dd, h.de, h.ne, h.fd, h.ap, fun b hb => h.bl b (hs b hb)⟩
theorem Tm.nil (h : Tm w wr m g N S m2 g2 bs t D t' D' W cW p) : Tm w wr m g N S m2 g2 [] t D t' D' W cW p := h.sub (fun b hb => by cases hb)
end
/-- What a call of the script leaves of both. -/
def stepM (t : Mt) (D : Dk) (x : Mc) : Mt × Dk :=
  if x.kind = 0 then ((nxt t D x.ep x.r).1, (nxt t D x.ep x.r).2.1) else if x.kind = 1 then (t, lose D x.K) else if x.kind = 2 then (t, Disk.on D) else if x.kind = 3 then (t, arm D x.ep x.K) else if x.kind = 4 then (t, (Disk.write E8 D 0 x.r).1) else (t, D)
/-- The document's write of a script. -/
theorem fWrite0 (D : Dk) (b : List UInt8) (g : Nat) (F : Nat → Prop) (N S W : Option Addr) (cN cS cW : Nat) (w : World) (h : Dd w g F N S W cN cS cW D) (ho : Ok D) (hb : b.length ≤ 256) (hn : D.now.length = 2) (hw : D.waits.length ≤ 99999) (ha : D.acts ≤ 1000000000) (hf : D.fuse ≤ 9223372036854775807) :
    Calls Try.prog 20 #[.pointer (some ⟨g, 0, none⟩), .int .i64 0, .string (str b)] w fun e w' => e = .returned (.int .i64 (Disk.write E8 D 0 b).2) ∧ Dm w g F (Disk.write E8 D 0 b).1 w' := by
  cases hoff : D.off with
  | true =>
    have hm : may E8 D 0 = 8 := by rw [may, if_pos hoff]; rfl
    have he : Disk.write E8 D 0 b = (D, 8) := by rw [Disk.write, if_pos hoff]; rfl
    rw [he]
    refine (fWrite_no D 0 b g F N S W cN cS cW w h (.inl (by rw [hm]; decide)) (by omega)).mono ?_
    rintro e w' ⟨rfl, rfl⟩
    rw [hm]
    exact ⟨rfl, F, N, S, W, cN, cS, cW, h, fun k e => .inl e, Kp.refl _ _⟩
  | false => exact fWrite_yes D 0 b g F N S W cN cS cW w h ho hoff (by omega) hb (by omega) hw ha hf
end Go.Proofs.Ytchdobneipfghaa.Meter
