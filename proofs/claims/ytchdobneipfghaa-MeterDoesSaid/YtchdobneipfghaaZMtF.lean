/- A register and its disk, in blocks that are new since a world. -/
import Derived.Test.YtchdobneipfghaaZMtE
import Derived.Test.YtchdobneipfghaaZDskW
import Derived.Test.YtchdobneipfghaaZDskNw
namespace Go.Proofs.Ytchdobneipfghaa.Meter
set_option linter.unusedVariables false
set_option linter.unusedSimpArgs false
open Go Go.RowKit Kit Disk

theorem build_value (t : Mt) (c e : Int) (r : List UInt8) (hc : (t.count : Int) = c) (he : t.epoch = e) (hr : t.root = r) (h : r.length = 32) (w : World) : (Instr.build 48 #[(0, .int .i64 c), (1, .int .i64 e), (2, .agg (bvs r).toArray)]).run Try.prog w = .ok (.agg (vcells t).toArray) w := by
  rw [build_val c e r h, vcells, hc, he, hr]
structure Md (w wr : World) (m g N S : Nat) (W : Option Addr) (cW : Nat) (t : Mt) (D : Dk) : Prop where
  d : Cd wr g N S W cW D
  me : Mb wr m (some ⟨g, 0, none⟩) t
  ne : ¬ dF g N S W m
  fd : ∀ k, dF g N S W k → w.heap.size ≤ k
  fm : w.heap.size ≤ m
  k : Kp nob w wr
theorem Md.keep0 {w wr w2 : World} {m g N S : Nat} {W : Option Addr} {cW : Nat} {t : Mt} {D : Dk} (h : Md w wr m g N S W cW t D) (k : Kp nob wr w2) : Md w w2 m g N S W cW t D :=
  ⟨h.d.keep0 k, h.me.keep0 k, h.ne, h.fd, h.fm, h.k.trans k (fun _ e => e.elim)⟩
theorem Md.lt {w wr : World} {m g N S : Nat} {W : Option Addr} {cW : Nat} {t : Mt} {D : Dk} (h : Md w wr m g N S W cW t D) : ∀ k, mF m g N S W k → k < wr.heap.size := by
  intro k e
  rcases e with rfl | e
  · exact h.me.b.lt
  · exact h.d.lt k e
/-- A block that is made now is none of theirs. -/
theorem Md.far {w wr : World} {m g N S : Nat} {W : Option Addr} {cW : Nat} {t : Mt} {D : Dk} (h : Md w wr m g N S W cW t D) (j : Nat) (hj : wr.heap.size ≤ j) : ¬ mF m g N S W j := fun e => by have := h.lt j e; omega
theorem Md.new {w wr : World} {m g N S : Nat} {W : Option Addr} {cW : Nat} {t : Mt} {D : Dk} (h : Md w wr m g N S W cW t D) : ∀ k, mF m g N S W k → w.heap.size ≤ k := by
  intro k e
  rcases e with rfl | e
  · exact h.fm
  · exact h.fd k e
/-- Something is done to both. -/
theorem Md.both {w wr w2 : World} {m g N S : Nat} {W : Option Addr} {cW : Nat} {t t2 : Mt} {D D2 : Dk} (h : Md w wr m g N S W cW t D) (hz : Mz wr m g N S W t2 D2 w2) :
    ∃ W2 c2, Md w w2 m g N S W2 c2 t2 D2 ∧ Kp (mF m g N S W) wr w2 ∧ ∀ j, j < wr.heap.size → ¬ mF m g N S W j → ¬ mF m g N S W2 j := by
  obtain ⟨W2, c2, hd, hm, hk, hn⟩ := hz
  have hdf : ∀ k, dF g N S W2 k → dF g N S W k ∨ wr.heap.size ≤ k := Dz.df (w := wr) (w2 := w2) hn
  have hw := h.k.size
  refine ⟨W2, c2, ⟨hd, hm, fun e => ?_, fun k e => ?_, h.fm, h.k.since hk (fun i e => h.new i e)⟩, hk, fun j hj hne e => ?_⟩
  · rcases hdf m e with h1 | h1
    · exact h.ne h1
    · have := h.me.b.lt; omega
  · rcases hdf k e with h1 | h1
    · exact h.fd k h1
    · omega
  · rcases e with e | e
    · exact hne (.inl e)
    · rcases hdf j e with h1 | h1
      · exact hne (.inr h1)
      · omega
/-- Something is done to the disk. -/
theorem Md.disk {w wr w2 : World} {m g N S : Nat} {W : Option Addr} {cW : Nat} {t : Mt} {D D2 : Dk} (h : Md w wr m g N S W cW t D) (hz : Dz wr g N S W D2 w2) :
    ∃ W2 c2, Md w w2 m g N S W2 c2 t D2 ∧ Kp (mF m g N S W) wr w2 ∧ ∀ j, j < wr.heap.size → ¬ mF m g N S W j → ¬ mF m g N S W2 j := by
  obtain ⟨W2, c2, hd, hk, hn⟩ := hz
  exact h.both ⟨W2, c2, hd, h.me.keep hk h.ne, hk.mono (fun i _ e => .inr e), hn⟩
theorem Md.one {w wr w2 : World} {m g N S : Nat} {W : Option Addr} {cW : Nat} {t : Mt} {D D2 : Dk} (h : Md w wr m g N S W cW t D) (hd : Cd w2 g N S W cW D2) (hk : Kp (oneB g) wr w2) :
    Md w w2 m g N S W cW t D2 ∧ Kp (mF m g N S W) wr w2 :=
  ⟨⟨hd, h.me.keep hk (fun e => h.ne (.inl e)), h.ne, h.fd, h.fm, h.k.since hk (fun i e => h.fd i (.inl e))⟩, hk.mono (fun i _ e => .inr (.inl e))⟩
theorem Md.first {w w1 w2 : World} {g N S : Nat} {D : Dk} {m : Nat} {t : Mt} (hd : Cd w1 g N S none 0 D) (k1 : Kp nob w w1) (hn : ∀ k, dF g N S none k → w.heap.size ≤ k) (hm : Mb w2 m (some ⟨g, 0, none⟩) t) (k2 : Kp nob w1 w2) (hmw : w1.heap.size ≤ m) : Md w w2 m g N S none 0 t D :=
  ⟨hd.keep0 k2, hm, fun e => by have := hd.lt m e; omega, hn, Nat.le_trans k1.size hmw, k1.trans k2 (fun _ e => e.elim)⟩
theorem nxt_any {w wr : World} {m g N S : Nat} {W : Option Addr} {cW : Nat} {t : Mt} {D : Dk} (h : Md w wr m g N S W cW t D) (e : Int) (r : List UInt8) (hr : r.length = 32)
    {k l : Nat} (hs : Sm D k l) (hk : k ≤ 100000) :
    Calls Try.prog 12 #[.pointer (some ⟨m, 0, none⟩), .int .i64 e, .agg (bvs r).toArray] wr fun e' w' => e' = .returned (.int .i64 (nxt t D e r).2.2) ∧ Mz wr m g N S W (nxt t D e r).1 (nxt t D e r).2.1 w' :=
  next_any t D e r m g N S W cW wr h.me h.d hr h.ne (by have := hs.waits; omega) (by have := hs.acts; omega) hs.fuse hs.keep
end Go.Proofs.Ytchdobneipfghaa.Meter
