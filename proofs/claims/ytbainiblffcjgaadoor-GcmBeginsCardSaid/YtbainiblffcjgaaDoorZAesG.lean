/- Contracts of package aes: a key's cipher; how many rounds it has. -/
import Derived.Test.YtbainiblffcjgaaDoorZAesF
namespace Go.Proofs.YtbainiblffcjgaaDoor.Aes
set_option linter.unusedVariables false
set_option linter.unusedSimpArgs false
open Go Go.RowKit Kit
open Field (cb cb_inj Sq)

/-- A cipher of the words W, of R rounds and one more. -/
structure Ciph (w : World) (g : Nat) (W : List UInt8) (R : Nat) : Prop where
  b : ∃ K : List UInt8, K.length = 240 ∧ (∀ j, j < 16 * (R + 2) → gb K j = gb W j) ∧ Blk w g 64 (cph (R + 1) K BX BK)
  r : R ≤ 13
  l : W.length = 16 * (R + 2)
theorem Ciph.keep {F : Nat → Prop} {w w2 : World} {g R : Nat} {W : List UInt8} (h : Ciph w g W R) (k : Kp F w w2) (hF : ¬ F g) : Ciph w2 g W R :=
  ⟨(let ⟨K, h1, h2, h3⟩ := h.b; ⟨K, h1, h2, h3.keep k hF⟩), h.r, h.l⟩
theorem Ciph.keep0 {w w2 : World} {g R : Nat} {W : List UInt8} (h : Ciph w g W R) (k : Kp nob w w2) : Ciph w2 g W R := h.keep k (fun e => e)
theorem Ciph.lt {w : World} {g R : Nat} {W : List UInt8} (h : Ciph w g W R) : g < w.heap.size := let ⟨_, _, _, h3⟩ := h.b; h3.lt
theorem Ciph.num {w : World} {g R : Nat} {W : List UInt8} (h : Ciph w g W R) : w.cell? ⟨g, 0, none⟩ = some (.int .i64 ((R + 1 : Nat) : Int)) := by
  obtain ⟨K, _, _, h3⟩ := h.b
  rw [h3.cell, cph_zero]
theorem Ciph.box {w : World} {g R : Nat} {W : List UInt8} (h : Ciph w g W R) : Tab w g 241 Field.box := by
  obtain ⟨K, h1, _, h3⟩ := h.b
  exact ⟨h3.lt, fun x => by rw [h3.cell]; exact cph_bx h1 BX_length _ _ (BX_get x)⟩
theorem Ciph.back {w : World} {g R : Nat} {W : List UInt8} (h : Ciph w g W R) : Tab w g 497 Field.back := by
  obtain ⟨K, h1, _, h3⟩ := h.b
  exact ⟨h3.lt, fun x => by rw [h3.cell]; exact cph_bk h1 BX_length _ _ (BK_get x)⟩
/-- A round's key. -/
theorem Ciph.key {w : World} {g R : Nat} {W : List UInt8} (h : Ciph w g W R) (r : Nat) (hr : r ≤ R + 1) : w.rangeAt g (1 + r * 16) (bvs (rk W r)) := by
  obtain ⟨K, h1, h2, h3⟩ := h.b
  have h13 := h.r
  refine h3.part _ _ fun j v hv => ?_
  have hj : j < 16 := by have := (List.getElem?_eq_some_iff.1 hv).1; rwa [bvs_length, rk_length] at this
  rw [gb_get _ _ (by rw [rk_length]; exact hj), rk_eq, gb_tb _ _ hj] at hv
  rw [Nat.add_assoc, cph_key h1 _ (by omega), h2 _ (by omega), ← hv, Nat.mul_comm]

def cz (N : Nat) : List Value := cph N (List.replicate 240 0) (List.replicate 256 0) (List.replicate 256 0)
theorem cz_eq (N : Nat) : cz N = cph N (List.replicate 240 0) (List.replicate 256 0) (List.replicate 256 0) := rfl
attribute [irreducible] cz
theorem new_no (A : Option Addr) (n c : Nat) (w : World) (h1 : n ≠ 16) (h2 : n ≠ 32) (hn : n ≤ 140737488355328) :
    Calls Tryd.prog 16 #[.slice A n c] w fun e w' => e = .returned (.tuple #[.pointer none, .int .i64 1]) ∧ w = w' := by
  have d1 : ((n : Int) != 16) = true := by rw [bne_iff_ne]; omega
  have d2 : ((n : Int) != 32) = true := by rw [bne_iff_ne]; omega
  go_enter Tryd.func16, Tryd.ntmps16
  go_wp2
  go_ret2
  exact ⟨rfl, rfl⟩
set_option maxHeartbeats 1000000 in
set_option maxRecDepth 100000 in
theorem new_yes (n : Nat) (key : List UInt8) (A : Option Addr) (cA : Nat) (w : World) (ht : Sq w) (hk : key.length = 4 * n) (hn : n = 4 ∨ n = 8) (hr : Row w A (bvs key)) (hc : 4 * n ≤ cA) :
    Calls Tryd.prog 16 #[.slice A (4 * n) cA] w fun e w' => ∃ g, e = .returned (.tuple #[.pointer (some ⟨g, 0, none⟩), .int .i64 0]) ∧ Ciph w' g (allW key) (n + 5) ∧ w.heap.size ≤ g ∧ Kp nob w w' := by
  have HK := Lib.hid hk; have HR := Lib.hid hr; have HT := Lib.hid ht
  have e1 : ((4 * n : Nat) : Int).tdiv 4 = (n : Int) := by rw [Int.tdiv_eq_ediv_of_nonneg (by omega)]; omega
  have e2 : IntKind.i64.wrap ((n : Int) + 6) = ((n + 6 : Nat) : Int) := wrap_to _ _ (by omega) (by omega)
  have hlt : ∀ k, ab A = some k → k < w.heap.size := hr.lt (fun e => by have h1 := congrArg List.length e; rw [bvs_length, hk] at h1; simp at h1; omega)
  clear hk hr ht
  go_enter Tryd.func16, Tryd.ntmps16
  rcases hn with rfl | rfl
  case' inl =>
    go_wp2_with (refine wpList_built rfl 64 _ rfl (.agg (cz 10).toArray) (by kernel_rfl) ?_)
    refine (fillBoxes_any w.heap.size 10 (List.replicate 240 0) _ (by rw [List.length_replicate]) (HT.out.keep0 ((Kp.refl nob w).alloc _)) (sq_lt HT.out) (by rw [bxs_zero, bks_zero]; exact (cz_eq 10) ▸ Blk.new w _ _)).mono ?_
    rintro e w1 ⟨rfl, hb1, k1⟩
    have HB1 := Lib.hid (show Blk w1 w.heap.size 64 (cph (4 + 6) (kz key 4 0) BX BK) by rw [kz_zero]; exact hb1)
    have HN := Lib.hid (show 4 + 6 = 4 + 5 + 1 from rfl)
  case' inr =>
    go_wp2_with (refine wpList_built rfl 64 _ rfl (.agg (cz 14).toArray) (by kernel_rfl) ?_)
    refine (fillBoxes_any w.heap.size 14 (List.replicate 240 0) _ (by rw [List.length_replicate]) (HT.out.keep0 ((Kp.refl nob w).alloc _)) (sq_lt HT.out) (by rw [bxs_zero, bks_zero]; exact (cz_eq 14) ▸ Blk.new w _ _)).mono ?_
    rintro e w1 ⟨rfl, hb1, k1⟩
    have HB1 := Lib.hid (show Blk w1 w.heap.size 64 (cph (8 + 6) (kz key 8 0) BX BK) by rw [kz_zero]; exact hb1)
    have HN := Lib.hid (show 8 + 6 = 8 + 5 + 1 from rfl)
  all_goals
    have K1 := Lib.hid (((Kp.refl nob w).alloc _).since k1 (fun i e => by unfold oneB at e; omega))
    clear hb1 k1
    go_wp2_with fail
    refine (fillKeys_any w.heap.size _ key A cA w1 HK.out (by omega) (by omega) (HR.out.keep0 K1.out) hc (fun k e => by have := hlt k e; omega) HB1.out).mono ?_
    rintro e w2 ⟨rfl, hb2, k2⟩
    have HF := Lib.hid hb2
    have HKK := Lib.hid (K1.out.since k2 (fun i e => by unfold oneB at e; omega))
    clear hb2 k2 K1 HB1
    go_wp2
    go_ret2
    refine ⟨w.heap.size, rfl, ⟨⟨_, kz_length key _ _ (by omega), fun j hj => ?_, HF.out⟩, by omega, ?_⟩, Nat.le_refl _, HKK.out⟩
    · rw [kz_at _ _ _ _ (by omega), allW_eq, HK.out]
    · rw [allW_length, HK.out]
end Go.Proofs.YtbainiblffcjgaaDoor.Aes
