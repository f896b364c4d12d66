/- The code's Put and Size. -/
import Derived.Test.YtadhhnlolnnkhaaRecB
import Derived.Test.YtadhhnlolnnkhaaCodeW
import Derived.Test.YtadhhnlolnnkhaaCodeA0
namespace Go.Proofs.Ytadhhnlolnnkhaa.Rec
set_option linter.unusedVariables false
set_option linter.unusedSimpArgs false
open Go Go.RowKit Kit

/-- A record's cells. -/
def rcells (r : Rec) : List Value := [.int .i64 r.kind, .int .i64 r.queue, .int .i64 r.id, .int .i64 r.num, .int .i64 r.wait, .string (str r.body)]
theorem rv_cells (r : Rec) : rv r = .agg (rcells r).toArray := rfl
/-- A record's block and a writer, both new since w. -/
structure Pw (w : World) (r : Rec) (N : Nat) (A : Option Addr) (l : List UInt8) (w2 : World) : Prop where
  z : Blk w2 w.heap.size 23 (rcells r)
  i : IsW w2 N A l
  f : ∀ k, WF N A k → w.heap.size < k
  k : Kp nob w w2
theorem Pw.keep {w w2 w3 : World} {r : Rec} {N : Nat} {A : Option Addr} {l : List UInt8} (h : Pw w r N A l w2) (k : Kp nob w2 w3) : Pw w r N A l w3 := ⟨h.z.keep k (fun e => e), h.i.keep k (fun _ _ e => e), h.f, h.k.trans k (fun _ e => e.elim)⟩
theorem Pw.more {w w2 w3 : World} {r : Rec} {N : Nat} {A : Option Addr} {l l' : List UInt8} (h : Pw w r N A l w2) (p : WPost w2 N A l' w3) : ∃ A', Pw w r N A' l' w3 := by
  obtain ⟨A', h1, h2, h3⟩ := p
  refine ⟨A', h.z.keep h2 (fun e => Nat.lt_irrefl _ (h.f _ e)), h1, fun k e => ?_, h.k.since h2 (fun i e => Nat.le_of_lt (h.f i e))⟩
  rcases e with e | e
  · exact h.f k (.inl e)
  · exact h3.ge (N := w.heap.size + 1) (fun k e => h.f k (.inr e)) (by have := h.z.lt; omega) k e
theorem Pw.start {w w1 : World} {r : Rec} (hz : Blk w1 w.heap.size 23 (rcells r)) (k : Kp nob w w1) : Pw w r w1.heap.size none [] (w1.alloc (.cells #[.slice none 0 0] 44)) :=
  ⟨hz.alloc _, isW_new w1, fun j e => (by
    rcases e with rfl | e
    · exact hz.lt
    · cases e), k.alloc _⟩
theorem Pw.cells {w w2 : World} {r : Rec} {N : Nat} {A : Option Addr} {l : List UInt8} (h : Pw w r N A l w2) : w2.cell? ⟨w.heap.size, 0, none⟩ = some (.int .i64 r.kind) ∧ w2.cell? ⟨w.heap.size, 1, none⟩ = some (.int .i64 r.queue) ∧ w2.cell? ⟨w.heap.size, 2, none⟩ = some (.int .i64 r.id) ∧ w2.cell? ⟨w.heap.size, 3, none⟩ = some (.int .i64 r.num) ∧ w2.cell? ⟨w.heap.size, 4, none⟩ = some (.int .i64 r.wait) ∧ w2.cell? ⟨w.heap.size, 5, none⟩ = some (.string (str r.body)) :=
  ⟨h.z.cell 0, h.z.cell 1, h.z.cell 2, h.z.cell 3, h.z.cell 4, h.z.cell 5⟩
theorem Pw.byte {w w2 : World} {r : Rec} {N : Nat} {A : Option Addr} {l : List UInt8} (h : Pw w r N A l w2) (H : Nat) (hH : w2.heap.size = H) (v : Value) (b : UInt8) (hv : v = bv b) (t : TypeId) (hl : l.length ≤ 1048576) :
    Calls Try.prog 18 #[.pointer (some ⟨N, 0, none⟩), .slice (some ⟨H, 0, none⟩) 1 1] (w2.alloc (.cells #[v] t)) fun e w' => e = .returned (.tuple #[]) ∧ ∃ A', Pw w r N A' (l ++ [b]) w' := by
  subst hH hv
  have h2 := h.keep ((Kp.refl nob w2).alloc (.cells #[bv b] t))
  exact (wByte N A l (some ⟨w2.heap.size, 0, none⟩) 1 1 [b] _ h2.i (fun e => by cases e) rfl (row_one w2 (bv b) t) (by omega)).mono fun e w' ⟨he, p⟩ => ⟨he, h2.more p⟩
theorem Pw.num4 {w w2 : World} {r : Rec} {N : Nat} {A : Option Addr} {l : List UInt8} (h : Pw w r N A l w2) (H : Nat) (hH : w2.heap.size = H) (a b c d : Int) (t : TypeId) (hl : l.length ≤ 1048576) :
    Calls Try.prog 19 #[.pointer (some ⟨N, 0, none⟩), .slice (some ⟨H, 0, none⟩) 4 4] (w2.alloc (.cells #[.int .i64 a, .int .i64 b, .int .i64 c, .int .i64 d] t)) fun e w' => e = .returned (.tuple #[]) ∧ ∃ A', Pw w r N A' (l ++ [a, b, c, d].flatMap num8) w' := by
  subst hH
  have h2 := h.keep ((Kp.refl nob w2).alloc (.cells #[.int .i64 a, .int .i64 b, .int .i64 c, .int .i64 d] t))
  exact (wNum N A l (some ⟨w2.heap.size, 0, none⟩) 4 4 [a, b, c, d] _ h2.i rfl (row_new w2 (ivs [a, b, c, d]) t) h.i.apart (by omega) (by omega)).mono fun e w' ⟨he, p⟩ => ⟨he, h2.more p⟩
theorem Pw.text {w w2 : World} {r : Rec} {N : Nat} {A : Option Addr} {l : List UInt8} (h : Pw w r N A l w2) (H : Nat) (hH : w2.heap.size = H) (s : ByteArray) (t : TypeId) (hl : l.length ≤ 1048576) (hs : s.size ≤ 1048576) :
    Calls Try.prog 20 #[.pointer (some ⟨N, 0, none⟩), .slice (some ⟨H, 0, none⟩) 1 1] (w2.alloc (.cells #[.string s] t)) fun e w' => e = .returned (.tuple #[]) ∧ ∃ A', Pw w r N A' (l ++ textB s) w' := by
  subst hH
  have h2 := h.keep ((Kp.refl nob w2).alloc (.cells #[.string s] t))
  have ht := textB_le s
  exact (wText N A l (some ⟨w2.heap.size, 0, none⟩) 1 1 [s] _ h2.i rfl (row_one w2 (.string s) t) h.i.apart (by omega) (by simp; omega)).mono fun e w' ⟨he, p⟩ => ⟨he, by simpa using h2.more p⟩

set_option maxHeartbeats 1000000 in
set_option maxRecDepth 100000 in
theorem put_no (r : Rec) (w : World) (hl : r.body.length ≤ 9223372036854775807) (hg : good r = false) : Calls Try.prog 11 #[rv r] w fun e w' => e = .returned (.tuple #[.slice none 0 0, .int .i64 1]) ∧ Kp nob w w' := by
  have hgo := fun w' => cGood r w' hl
  rw [hg] at hgo
  have HG := Lib.hid hgo; clear hgo hg
  unfold rv at HG ⊢
  have HK0 := Lib.hid ((Kp.refl nob w).alloc (.cells #[.int .i64 r.kind, .int .i64 r.queue, .int .i64 r.id, .int .i64 r.num, .int .i64 r.wait, .string (str r.body)] 23))
  go_enter Try.func11, Try.ntmps11
  go_wp2_with fail
  refine (HG.out _).mono ?_
  rintro e w1 ⟨rfl, k1⟩
  go_wp2
  go_ret2
  exact ⟨rfl, HK0.out.trans k1 (fun _ e => e.elim)⟩

set_option maxHeartbeats 2000000 in
set_option maxRecDepth 100000 in
theorem put_yes (r : Rec) (w : World) (hg : good r = true) : Calls Try.prog 11 #[rv r] w fun e w' =>
    ∃ A c, e = .returned (.tuple #[.slice A (36 + r.body.length) c, .int .i64 0]) ∧ Own 5 w' A (36 + r.body.length) c (bvs (recB r)) ∧ Fresh w.heap.size A ∧ Kp nob w w' := by
  have hb := good_bounds r hg
  have hgo := fun w' => cGood r w' (by omega)
  rw [hg] at hgo
  have HG := Lib.hid hgo; clear hgo hg
  unfold rv at HG ⊢
  have HK0 := Lib.hid ((Kp.refl nob w).alloc (.cells #[.int .i64 r.kind, .int .i64 r.queue, .int .i64 r.id, .int .i64 r.num, .int .i64 r.wait, .string (str r.body)] 23))
  have HB0 := Lib.hid (Blk.new w 23 (rcells r))
  have hk8 : Value.int .u8 (r.kind % 256) = bv (UInt8.ofNat r.kind.toNat) := by rw [bv_ofNat]; congr 1; omega
  have HK8 := Lib.hid hk8
  have HB := Lib.hid hb
  clear hb hk8
  go_enter Try.func11, Try.ntmps11
  go_wp2_with fail
  refine (HG.out _).mono ?_
  rintro e w1 ⟨rfl, k1⟩
  have P0 := Lib.hid (Pw.start (HB0.out.keep k1 (fun e => e)) (HK0.out.trans k1 (fun _ e => e.elim)))
  obtain ⟨c0, c1, c2, c3, c4, c5⟩ := P0.out.cells
  clear HB0 HK0 k1 c1 c2 c3 c4 c5
  go_wp2_with fail
  refine (P0.out.byte _ (by simp) _ _ HK8.out _ (by simp)).mono ?_
  rintro e w2 ⟨rfl, A1, P1⟩
  have P1 := Lib.hid P1
  obtain ⟨d0, c1, c2, c3, c4, d5⟩ := P1.out.cells
  clear c0 P0 d0 d5
  go_wp2_with fail
  refine (P1.out.num4 _ rfl _ _ _ _ _ (by simp)).mono ?_
  rintro e w3 ⟨rfl, A2, P2⟩
  have P2 := Lib.hid P2
  obtain ⟨d0, d1, d2, d3, d4, c5⟩ := P2.out.cells
  clear c1 c2 c3 c4 P1 d0 d1 d2 d3 d4
  go_wp2_with fail
  refine (P2.out.text _ rfl _ _ (by simp) (by have := HB.out; simp; omega)).mono ?_
  rintro e w4 ⟨rfl, A3, P3⟩
  have P3 := Lib.hid P3
  clear c5 P2
  have he : ([] : List UInt8) ++ [UInt8.ofNat r.kind.toNat] ++ [r.queue, r.id, r.num, r.wait].flatMap num8 ++ textB (str r.body) = recB r := by unfold recB; simp
  rw [he] at P3
  have hl := recB_length r (by have := HB.out; omega)
  have HL := Lib.hid hl; clear hl he
  go_wp2_with fail
  refine (wBytes w1.heap.size A3 _ _ P3.out.i (by have := HB.out; have := HL.out; omega)).mono ?_
  rintro e w5 ⟨A4, c5, rfl, ho, k5, hf, hn⟩
  go_wp2
  go_ret2
  rw [HL.out] at ho ⊢
  exact ⟨A4, c5, rfl, ho, fun k e => Nat.le_trans P3.out.k.size (hf k e), P3.out.k.trans k5 (fun _ e => e.elim)⟩
end Go.Proofs.Ytadhhnlolnnkhaa.Rec
