/- Contracts of package gcm: a new sealer; whether there is too much. -/
import Derived.Test.YtbainiblffcjgaaDoorZGcmA
import Derived.Test.YtbainiblffcjgaaDoorZAesG
import Derived.Test.YtbainiblffcjgaaDoorZGa
namespace Go.Proofs.YtbainiblffcjgaaDoor.Gcm
set_option linter.unusedVariables false
set_option linter.unusedSimpArgs false
open Go Go.RowKit Kit
open Aes (gb allW allW_length Ciph)
open Field (cb cb_inj Sq)
open Sha (Pc PcsOk catP catP_snoc catP_le)

/-- A sealer at p, of the words W, of R rounds and one more. -/
structure SealAt (w : World) (p : Nat) (W : List UInt8) (R : Nat) : Prop where
  c : ∃ g, Blk w p 46 [.pointer (some ⟨g, 0, none⟩)] ∧ Ciph w g W R
theorem SealAt.keep0 {w w2 : World} {p R : Nat} {W : List UInt8} (h : SealAt w p W R) (k : Kp nob w w2) : SealAt w2 p W R :=
  let ⟨g, h1, h2⟩ := h.c; ⟨g, h1.keep k (fun e => e), h2.keep0 k⟩
theorem SealAt.lt {w : World} {p R : Nat} {W : List UInt8} (h : SealAt w p W R) : p < w.heap.size := let ⟨_, h1, _⟩ := h.c; h1.lt

theorem new_no (A : Option Addr) (n c : Nat) (w : World) (h1 : n ≠ 16) (h2 : n ≠ 32) (hn : n ≤ 140737488355328) :
    Calls Tryd.prog 10 #[.slice A n c] w fun e w' => e = .returned (.tuple #[.pointer none, .int .i64 1]) ∧ w = w' := by
  go_enter Tryd.func10, Tryd.ntmps10
  go_wp2_with fail
  refine (Aes.new_no A n c w h1 h2 hn).mono ?_
  rintro e w' ⟨rfl, rfl⟩
  go_wp2
  go_ret2
  exact ⟨rfl, rfl⟩
set_option maxHeartbeats 1000000 in
theorem new_yes (n : Nat) (key : List UInt8) (A : Option Addr) (cA : Nat) (w : World) (ht : Sq w) (hk : key.length = 4 * n) (hn : n = 4 ∨ n = 8) (hr : Row w A (bvs key)) (hc : 4 * n ≤ cA) :
    Calls Tryd.prog 10 #[.slice A (4 * n) cA] w fun e w' => ∃ p, e = .returned (.tuple #[.pointer (some ⟨p, 0, none⟩), .int .i64 0]) ∧ SealAt w' p (allW key) (n + 5) ∧ w.heap.size ≤ p ∧ Kp nob w w' := by
  have HK := Lib.hid hk; have HR := Lib.hid hr; have HT := Lib.hid ht; have HN := Lib.hid hn; have HC := Lib.hid hc
  clear hk hr ht hn hc
  go_enter Tryd.func10, Tryd.ntmps10
  go_wp2_with fail
  refine (Aes.new_yes n key A cA w HT.out HK.out HN.out HR.out HC.out).mono ?_
  rintro e w1 ⟨g, rfl, hg, hge, k1⟩
  have HG := Lib.hid hg; have K1 := Lib.hid k1
  have hs := k1.size
  clear hg k1
  go_wp2
  go_ret2
  exact ⟨w1.heap.size, rfl, ⟨g, Blk.new w1 _ _, HG.out.keep0 ((Kp.refl nob w1).alloc _)⟩, hs, K1.out.alloc _⟩
set_option maxHeartbeats 1000000 in
theorem long_any (A : Option Addr) (n c : Nat) (B : Option Addr) (m d : Nat) (ps : List Pc) (w : World) (hm : ps.length = m) (hr : Row w B (ps.map Pc.v)) (hp : PcsOk w nob ps) (hn : n ≤ 1099511627776) (hmm : m ≤ 1099511627776) (hl : (catP ps).length ≤ 1099511627776) :
    Calls Tryd.prog 17 #[.slice A n c, .slice B m d] w fun e w' => e = .returned (.bool (decide (1048576 < n) || decide (1048576 < (catP ps).length))) ∧ w = w' := by
  have HM := Lib.hid hm; clear hm
  go_enter Tryd.func17, Tryd.ntmps17
  go_wp2
  go_loop [5, 10] (fun vr vi => ∃ (k : Nat) (I : Int), k ≤ m ∧ vi = .int .i64 k ∧ I = 1048576 - ((catP (ps.take k)).length : Int) ∧ vr = .int .i64 I)
    (fun _ vi => m - (intOf vi).toNat)
  case atStart => exact ⟨0, 1048576, Nat.zero_le _, rfl, by simp [catP], rfl⟩
  case round =>
    obtain ⟨k, I, hk, rfl, hI, rfl⟩ := hrel
    by_cases hlt : k < m
    · obtain ⟨p, hpk⟩ : ∃ p, p = ps[k]'(by rw [HM.out]; exact hlt) := ⟨_, rfl⟩
      obtain ⟨bb, oo, rfl, hbb, hcell⟩ := hr.at_ (i := k) (by simp [HM.out]; exact hlt)
      have hce : w.cell? ⟨bb, oo + k, none⟩ = some (.slice p.A p.n p.c) := by rw [hcell, hpk]; simp [Pc.v]
      obtain ⟨q1, _, _, q4, q5⟩ := hp p (by rw [hpk]; exact List.getElem_mem _)
      have hsn := catP_snoc ps k (by rw [HM.out]; exact hlt)
      have hle := catP_le ps (k + 1)
      rw [hsn, List.length_append, ← hpk, q1] at hle
      have hS : ((catP (ps.take (k + 1))).length : Int) = ((catP (ps.take k)).length : Int) + (p.n : Int) := by
        rw [hsn, List.length_append, ← hpk, q1]; omega
      obtain ⟨J, hJ⟩ : ∃ J : Int, J = 1048576 - ((catP (ps.take (k + 1))).length : Int) := ⟨_, rfl⟩
      have e1 : IntKind.i64.wrap (I - (p.n : Int)) = J := by rw [IntKind.wrap_i64]; omega
      have HJ := Lib.hid hJ
      clear hcell hpk hsn hle hS hI hJ
      go_wp2
      go_round
      case rel => exact ⟨k + 1, J, by omega, by go_num, HJ.out, rfl⟩
      case measure => simp [intOf]; omega
    · obtain rfl : k = m := by omega
      have hI' : I = 1048576 - ((catP ps).length : Int) := by rw [hI, List.take_of_length_le (by rw [HM.out]; omega)]
      obtain ⟨L, hL⟩ : ∃ L, L = (catP ps).length := ⟨_, rfl⟩
      rw [← hL] at hI' hl
      have HL := Lib.hid hL
      clear hI hL
      subst hI'
      by_cases h1 : 1048576 < n
      · have d1 : decide ((1048576 : Int) < (n : Int)) = true := by simp; omega
        have E : Hid ((decide (1048576 < n) || decide (1048576 < (catP ps).length)) = true) := Lib.hid (by simp [h1])
        clear h1
        go_wp2
        go_ret
        exact ⟨by rw [E.out]; first | rfl | go_simp, rfl⟩
      · have d1 : decide ((1048576 : Int) < (n : Int)) = false := by simp; omega
        by_cases h2 : 1048576 < L
        · have d2 : decide ((1048576 : Int) - (L : Int) < 0) = true := by simp; omega
          have E : Hid ((decide (1048576 < n) || decide (1048576 < (catP ps).length)) = true) := Lib.hid (by rw [← HL.out]; simp [h2])
          clear h1 h2
          go_wp2
          go_ret
          exact ⟨by rw [E.out]; first | rfl | go_simp | (rw [d2]; rfl), rfl⟩
        · have d2 : decide ((1048576 : Int) - (L : Int) < 0) = false := by simp; omega
          have E : Hid ((decide (1048576 < n) || decide (1048576 < (catP ps).length)) = false) := Lib.hid (by rw [← HL.out]; simp [h1, h2])
          clear h1 h2
          go_wp2
          go_ret
          exact ⟨by rw [E.out]; first | rfl | go_simp | (rw [d2]; rfl), rfl⟩
end Go.Proofs.YtbainiblffcjgaaDoor.Gcm
