/- The code's ideal world: a thing's bytes. -/
import Derived.Test.YtakhanganifpnaaIdealX
import Derived.Test.YtakhanganifpnaaCodeA0
import Derived.Test.YtakhanganifpnaaRep
namespace Go.Proofs.Ytakhanganifpnaa.Ideal
set_option linter.unusedVariables false
set_option linter.unusedSimpArgs false
open Go Go.RowKit Kit

theorem num8_nat (n : Nat) (h : n < 18446744073709551616) : num8 (n : Int) = le 8 n := by
  unfold num8; rw [show ((n : Int) % 18446744073709551616).toNat = n by omega]
/-- The writer of a thing's bytes, and the thing, behind some calls. -/
structure Bw (w0 : World) (t : Thing) (l : List UInt8) (A : Option Addr) (w : World) : Prop where
  i : IsW w (w0.heap.size + 1) A l
  t : Blk w w0.heap.size 61 (tc t)
  k : Kp nob w0 w
  f : ∀ j, WF (w0.heap.size + 1) A j → w0.heap.size + 1 ≤ j
theorem Bw.keep {w0 w w2 : World} {t : Thing} {l : List UInt8} {A : Option Addr} (h : Bw w0 t l A w) (k : Kp nob w w2) : Bw w0 t l A w2 :=
  ⟨h.i.keep k (fun _ _ e => e), h.t.keep k (fun e => e), h.k.trans k (fun _ e => e.elim), h.f⟩
theorem Bw.step {w0 w w2 : World} {t : Thing} {l l2 : List UInt8} {A : Option Addr} (h : Bw w0 t l A w) (hp : WPost w (w0.heap.size + 1) A l2 w2) : ∃ A2, Bw w0 t l2 A2 w2 := by
  obtain ⟨A2, h1, h2, h3⟩ := hp
  have hs := h.k.size
  have hb := h.t.lt
  have hf : ∀ j, WF (w0.heap.size + 1) A2 j → w0.heap.size + 1 ≤ j := by
    rintro j (rfl | e)
    · exact Nat.le_refl _
    · rcases h3 with h3 | ⟨q, h3, hq⟩
      · exact h.f j (.inr (by rw [← h3]; exact e))
      · rw [h3] at e; cases e
        have := h.i.lt
        omega
  exact ⟨A2, h1, h.t.keep h2 (fun e => by have := h.f _ e; omega), h.k.since h2 (fun i e => by have := h.f i e; omega), hf⟩
theorem wByte1 (b : Nat) (A : Option Addr) (l : List UInt8) (x : UInt8) (w : World) (t : TypeId) (H : Nat) (hH : w.heap.size = H) (h : IsW w b A l) (hl : l.length + 1 ≤ 1099511627776) :
    Calls Try.prog 35 #[.pointer (some ⟨b, 0, none⟩), .slice (some ⟨H, 0, none⟩) 1 1] (w.alloc (.cells #[bv x] t)) fun e w' => e = .returned (.tuple #[]) ∧ WPost w b A (l ++ [x]) w' := by
  subst hH
  refine (wByte b A l (some ⟨w.heap.size, 0, none⟩) 1 1 [x] _ (h.alloc _) (fun e => by cases e) rfl (row_one _ _ _) (by omega)).mono ?_
  rintro e w' ⟨rfl, hp⟩
  exact ⟨rfl, hp.later⟩
set_option maxHeartbeats 2000000 in
set_option maxRecDepth 100000 in
theorem bytes_any (t : Thing) (n k : Nat) (w0 : World) (hn : n < 4611686018427387904) (hk : 9 < k) (hk2 : k ≤ 1048592) :
    Calls Try.prog 29 #[.agg (tc t).toArray, .int .i64 n, .int .i64 k] w0 fun e w' => ∃ A c, e = .returned (.slice A k c) ∧ Kit.Own 5 w' A k c (bvs (tok t.kind n k)) ∧ Kp nob w0 w' ∧ Fresh w0.heap.size A ∧ (A = none → c = 0) := by
  have HB0 : Hid (Bw w0 t [] none ((w0.alloc (.cells (tc t).toArray 61)).alloc (.cells #[.slice none 0 0] 81))) := Lib.hid ⟨by
      have := isW_new (w0.alloc (.cells (tc t).toArray 61))
      simpa using this, (Blk.new w0 61 (tc t)).alloc _, ((Kp.refl nob w0).alloc _).alloc _, by rintro j (rfl | e); exact Nat.le_refl _; cases e⟩
  have HN := Lib.hid (num8_nat n (by omega))
  have HKN := Lib.hid (And.intro hk hk2)
  go_enter Try.func29, Try.ntmps29
  clear hk hk2 hn
  go_wp2_with fail
  refine (wNum1 (w0.heap.size + 1) none [] n _ _ _ (by simp) HB0.out.i (by simp)).mono ?_
  rintro e w1 ⟨rfl, hp⟩
  obtain ⟨A1, h1⟩ := HB0.out.step hp
  rw [HN.out, List.nil_append] at h1
  have HB1 := Lib.hid h1
  have hkind : w1.cell? ⟨w0.heap.size, 0, none⟩ = some (.int .u8 (t.kind.toNat : Int)) := by rw [h1.t.cell]; rfl
  obtain ⟨w1h, hw1h⟩ : ∃ H, H = w1.heap.size := ⟨_, rfl⟩
  have HH1 := Lib.hid hw1h
  clear h1 hp hw1h
  go_wp2_with fail
  refine (wByte1 (w0.heap.size + 1) A1 (le 8 n) t.kind _ _ _ rfl HB1.out.i (by simp)).mono ?_
  rintro e w2 ⟨rfl, hp⟩
  obtain ⟨A2, h2⟩ := HB1.out.step hp
  obtain ⟨L, hL⟩ : ∃ L, L = le 8 n ++ [t.kind] := ⟨_, rfl⟩
  rw [← hL] at h2
  have hL9 : L.length = 9 := by rw [hL]; simp
  have HB2 := Lib.hid h2
  have HL := Lib.hid hL
  have HL9 := Lib.hid hL9
  clear h2 hp hkind hL hL9
  go_wp2_with fail
  refine (wBytes (w0.heap.size + 1) A2 L _ HB2.out.i (by rw [HL9.out]; omega)).mono ?_
  rintro e w3 ⟨A3, c3, rfl, _, k3, _, _⟩
  rw [HL9.out]
  have HB3 := Lib.hid (HB2.out.keep k3)
  clear k3
  have hsub : IntKind.i64.wrap ((k : Int) - 9) = ((k - 9 : Nat) : Int) := by have := HKN.out; rw [IntKind.wrap_i64]; omega
  obtain ⟨m, hm⟩ : ∃ m, m = k - 9 := ⟨_, rfl⟩
  rw [← hm] at hsub
  have HM := Lib.hid hm
  clear hm
  go_wp2_with fail
  refine (Cat.rep_any (some ⟨w3.heap.size, 0, none⟩) 1 m 0xee _ (row_new w3 [bv 0xee] _) (Nat.le_refl _) (by have := HKN.out; have := HM.out; omega) (by have := HKN.out; have := HM.out; omega)).mono ?_
  rintro e w4 ⟨g, rfl, hrow, k4, _⟩
  have HB4 := Lib.hid ((HB3.out.keep ((Kp.refl nob w3).alloc (.cells #[bv 0xee] 5))).keep k4)
  have HR4 := Lib.hid hrow
  clear k4 hrow
  go_wp2_with fail
  refine (wByte (w0.heap.size + 1) A2 L (some ⟨g, 0, none⟩) m m (List.replicate m 0xee) _ HB4.out.i (fun e => by cases e) (by simp) HR4.out (by have := HKN.out; have := HM.out; rw [HL9.out]; omega)).mono ?_
  rintro e w5 ⟨rfl, hp⟩
  obtain ⟨A5, h5⟩ := HB4.out.step hp
  have hT : L ++ List.replicate m 0xee = tok t.kind n k := by rw [HL.out, HM.out]; rfl
  rw [hT] at h5
  have HB5 := Lib.hid h5
  have HTL := Lib.hid (show (tok t.kind n k).length = k from tok_length _ _ _ (by have := HKN.out; omega))
  clear h5 hp hT hsub
  go_wp2_with fail
  refine (wBytes (w0.heap.size + 1) A5 (tok t.kind n k) _ HB5.out.i (by have := HKN.out; rw [HTL.out]; omega)).mono ?_
  rintro e w6 ⟨A6, c6, rfl, ho6, k6, hf6, hn6⟩
  rw [HTL.out] at ho6 ⊢
  have H6 := Lib.hid (And.intro ho6 (And.intro k6 (And.intro hf6 hn6)))
  clear ho6 k6 hf6 hn6
  go_wp2
  go_ret
  exact ⟨A6, c6, rfl, H6.out.1, HB5.out.k.trans H6.out.2.1 (fun _ e => e.elim), fun j e => Nat.le_trans HB5.out.k.size (H6.out.2.2.1 j e), H6.out.2.2.2⟩
set_option maxHeartbeats 2000000 in
set_option maxRecDepth 100000 in
/-- A seal's bytes. -/
theorem sealed_any (t : Thing) (n : Nat) (w0 : World) (hn : n < 4611686018427387904) (hd : t.d.length ≤ 1048576) :
    Calls Try.prog 23 #[.agg (tc t).toArray, .int .i64 n] w0 fun e w' => ∃ A c, e = .returned (.slice A (t.d.length + 16) c) ∧ Kit.Own 5 w' A (t.d.length + 16) c (bvs (tok t.kind n (t.d.length + 16))) ∧ Kp nob w0 w' ∧ Fresh w0.heap.size A ∧ (A = none → c = 0) := by
  have HB := Lib.hid (Blk.new w0 61 (tc t))
  have hx : (w0.alloc (.cells (tc t).toArray 61)).cell? ⟨w0.heap.size, 4, none⟩ = some (.string (str t.d)) := by rw [HB.out.cell]; rfl
  obtain ⟨D, hD⟩ : ∃ D, D = t.d.length := ⟨_, rfl⟩
  have hsz : (str t.d).size = D := by rw [str_size, hD]
  have hadd : IntKind.i64.wrap ((D : Int) + 16) = ((D + 16 : Nat) : Int) := by rw [IntKind.wrap_i64]; omega
  have hK := bytes_any t n (D + 16) (w0.alloc (.cells (tc t).toArray 61)) hn (by omega) (by omega)
  rw [← hD]
  have HK := Lib.hid hK
  clear hK hD
  go_enter Try.func23, Try.ntmps23
  go_wp2_with (first | (refine wpList_load_blk rfl 61 (.tmp 2) rfl _ _ _ HB.out rfl _ cthing_under rfl (by kernel_rfl) ?_) | fail)
  refine HK.out.mono ?_
  rintro e w1 ⟨A, c, rfl, ho, k, hf, hn⟩
  have H1 := Lib.hid (And.intro ho (And.intro k (And.intro hf hn)))
  clear ho k hf hn
  go_wp2
  go_ret
  exact ⟨A, c, rfl, H1.out.1, ((Kp.refl nob w0).alloc _).trans H1.out.2.1 (fun _ e => e.elim), fun j e => Nat.le_trans (by simp) (H1.out.2.2.1 j e), H1.out.2.2.2⟩
end Go.Proofs.Ytakhanganifpnaa.Ideal
