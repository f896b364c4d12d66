/- Contract of package hmac: whether two tags are the same; by bytes as stages 6 and later have them, without anything else of the package. -/
import Derived.Test.YtbainiblffcjgaaDoorZGc
import Derived.Test.YtbainiblffcjgaaDoorRows
namespace Go.Proofs.YtbainiblffcjgaaDoor.Tags
set_option linter.unusedVariables false
set_option linter.unusedSimpArgs false
open Go Go.RowKit Kit
open Aes (gb)
open Field (cb cb_inj)

theorem gb_eq (l : List UInt8) (i : Nat) : gb l i = l.getD i 0 := rfl
set_option maxHeartbeats 1000000 in
theorem at_any (A : Option Addr) (n c : Nat) (l : List UInt8) (i : Nat) (w : World) (hl : l.length = n) (hr : Row w A (bvs l)) (_ : n ≤ 1099511627776) :
    Calls Tryd.prog 34 #[.slice A n c, .int .i64 i] w fun e w' => e = .returned (.int .u8 (cb (gb l i))) ∧ w = w' := by
  by_cases h : i < n
  · obtain ⟨b, o, rfl, hb, hcell⟩ := hr.at_ (i := i) (by rw [bvs_length, hl]; exact h)
    obtain ⟨x, hx⟩ : ∃ x, x = gb l i := ⟨_, rfl⟩
    have hc : w.cell? ⟨b, o + i, none⟩ = some (.int .u8 (cb x)) := by
      rw [hcell, hx, gb_eq, List.getD, List.getElem?_eq_getElem (by omega)]; simp [bvs, bv, cb]
    rw [← hx]
    clear hcell hx hl
    go_enter Tryd.func34, Tryd.ntmps34
    go_wp2
    go_ret
    exact ⟨rfl, rfl⟩
  · have hx : gb l i = 0 := by rw [gb_eq, List.getD, List.getElem?_eq_none (by omega)]; rfl
    rw [hx]
    clear hx hl
    have d1 : decide ((i : Int) < (n : Int)) = false := by simp; omega
    go_enter Tryd.func34, Tryd.ntmps34
    go_wp2
    go_ret
    exact ⟨rfl, rfl⟩
/-- How the first bytes of two lists differ. -/
def diff (l m : List UInt8) : Nat → UInt8
  | 0 => 0
  | k + 1 => diff l m k ||| (gb l k ^^^ gb m k)
theorem u8_or_zero (a b : UInt8) : a ||| b = 0 ↔ a = 0 ∧ b = 0 := by
  constructor
  · intro h
    have h1 : (a ||| b).toBitVec = 0#8 := by rw [h]; rfl
    rw [UInt8.toBitVec_or] at h1
    rw [BitVec.or_eq_zero_iff] at h1
    exact ⟨UInt8.toBitVec_inj.1 h1.1, UInt8.toBitVec_inj.1 h1.2⟩
  · rintro ⟨rfl, rfl⟩; rfl
theorem diff_zero (l m : List UInt8) (k : Nat) : diff l m k = 0 ↔ ∀ i, i < k → gb l i = gb m i := by
  induction k with
  | zero => simp [diff]
  | succ k ih =>
    rw [diff, u8_or_zero, ih, UInt8.xor_eq_zero_iff]
    constructor
    · rintro ⟨h1, h2⟩ i hi
      by_cases h : i = k
      · subst h; exact h2
      · exact h1 i (by omega)
    · intro h
      exact ⟨fun i hi => h i (by omega), h k (by omega)⟩
theorem diff_same (l m : List UInt8) (h : l.length = m.length) : diff l m (max l.length m.length) = 0 ↔ l = m := by
  rw [diff_zero, h, Nat.max_self]
  constructor
  · intro hd
    apply List.ext_getElem h
    intro i h1 h2
    have := hd i h2
    rwa [gb_eq, gb_eq, List.getD, List.getD, List.getElem?_eq_getElem h1, List.getElem?_eq_getElem h2] at this
  · rintro rfl i _; rfl
theorem diff_none (l m : List UInt8) : diff l m 0 = 0 := rfl
theorem diff_more (l m : List UInt8) (k : Nat) : diff l m (k + 1) = diff l m k ||| (gb l k ^^^ gb m k) := rfl
attribute [irreducible] diff

set_option maxHeartbeats 1000000 in
theorem same_left (A : Option Addr) (n c : Nat) (l : List UInt8) (B : Option Addr) (m d : Nat) (q : List UInt8) (w : World) (hl : l.length = n) (hr : Row w A (bvs l)) (hn : n ≤ 1099511627776) (hq : q.length = m) (hr2 : Row w B (bvs q)) (hm : m ≤ 1099511627776) (hx : m ≤ n) :
    Calls Tryd.prog 20 #[.slice A n c, .slice B m d] w fun e w' => e = .returned (.bool (l == q)) ∧ w = w' := by
  have hN : max l.length q.length = n := by rw [hl, hq]; omega
  have HL := Lib.hid hl; have HQ := Lib.hid hq; have HN := Lib.hid hN
  clear hl hq hN
  go_enter Tryd.func20, Tryd.ntmps20
  go_wp2
  go_loop [5, 12] (fun vd vi => ∃ k : Nat, k ≤ n ∧ vi = .int .i64 k ∧ vd = .int .u8 (cb (diff l q k)))
    (fun _ vi => n - (intOf vi).toNat)
  case atStart => exact ⟨0, by omega, rfl, by rw [diff_none]; rfl⟩
  case round =>
    obtain ⟨k, hk, rfl, rfl⟩ := hrel
    have HD := Lib.hid (diff_more l q k)
    by_cases hlt : k < n
    · generalize diff l q k = D at *
      go_wp2_with (first
        | (go_at_call_of 34 (Value.slice A n c)
           refine (at_any A n c l k _ HL.out hr hn).mono ?_
           rintro e w' ⟨rfl, rfl⟩)
        | (go_at_call_of 34 (Value.slice B m d)
           refine (at_any B m d q k _ HQ.out hr2 hm).mono ?_
           rintro e w' ⟨rfl, rfl⟩))
      go_round
      case rel => exact ⟨k + 1, by omega, by go_num, by rw [HD.out]⟩
      case measure => simp [intOf]; omega
    · obtain rfl : n = k := by omega
      have HS := Lib.hid (diff_same l q)
      rw [HN.out] at HS
      obtain ⟨D, hD⟩ : ∃ D, D = diff l q n := ⟨_, rfl⟩
      rw [← hD] at HS ⊢
      clear hD
      by_cases h0 : D = 0
      · have d0 : ((cb D : Int) == 0) = true := by rw [h0]; rfl
        by_cases hnm : n = m
        · have d1 : ((n : Int) == (m : Int)) = true := by rw [beq_iff_eq]; omega
          have E : Hid ((l == q) = true) := Lib.hid (by
            rw [beq_iff_eq]; exact (HS.out (by rw [HL.out, HQ.out]; exact hnm)).1 h0)
          clear HS h0
          have HNM := Lib.hid hnm; clear hnm
          go_wp2
          go_ret
          exact ⟨by rw [E.out]; rfl, rfl⟩
        · have d1 : ((n : Int) == (m : Int)) = false := by rw [beq_eq_false_iff_ne]; omega
          have E : Hid ((l == q) = false) := Lib.hid (by
            rw [beq_eq_false_iff_ne]; rintro rfl; exact hnm (HL.out.symm.trans HQ.out))
          clear HS h0
          go_wp2
          go_ret
          exact ⟨by rw [E.out]; rfl, rfl⟩
      · have d0 : ((cb D : Int) == 0) = false := by
          rw [beq_eq_false_iff_ne]; intro e; exact h0 (UInt8.toNat_inj.1 (by have : D.toNat = 0 := by unfold cb at e; omega
                                                                             rw [this]; rfl))
        have E : Hid ((l == q) = false) := Lib.hid (by
          rw [beq_eq_false_iff_ne]; rintro rfl; exact h0 ((HS.out rfl).2 rfl))
        clear HS h0
        go_wp2
        go_ret
        exact ⟨by rw [E.out]; rfl, rfl⟩
set_option maxHeartbeats 1000000 in
theorem same_right (A : Option Addr) (n c : Nat) (l : List UInt8) (B : Option Addr) (m d : Nat) (q : List UInt8) (w : World) (hl : l.length = n) (hr : Row w A (bvs l)) (hn : n ≤ 1099511627776) (hq : q.length = m) (hr2 : Row w B (bvs q)) (hm : m ≤ 1099511627776) (hx : n < m) :
    Calls Tryd.prog 20 #[.slice A n c, .slice B m d] w fun e w' => e = .returned (.bool (l == q)) ∧ w = w' := by
  have hN : max l.length q.length = m := by rw [hl, hq]; omega
  have HL := Lib.hid hl; have HQ := Lib.hid hq; have HN := Lib.hid hN
  clear hl hq hN
  go_enter Tryd.func20, Tryd.ntmps20
  go_wp2
  go_loop [5, 12] (fun vd vi => ∃ k : Nat, k ≤ m ∧ vi = .int .i64 k ∧ vd = .int .u8 (cb (diff l q k)))
    (fun _ vi => m - (intOf vi).toNat)
  case atStart => exact ⟨0, by omega, rfl, by rw [diff_none]; rfl⟩
  case round =>
    obtain ⟨k, hk, rfl, rfl⟩ := hrel
    have HD := Lib.hid (diff_more l q k)
    by_cases hlt : k < m
    · generalize diff l q k = D at *
      go_wp2_with (first
        | (go_at_call_of 34 (Value.slice A n c)
           refine (at_any A n c l k _ HL.out hr hn).mono ?_
           rintro e w' ⟨rfl, rfl⟩)
        | (go_at_call_of 34 (Value.slice B m d)
           refine (at_any B m d q k _ HQ.out hr2 hm).mono ?_
           rintro e w' ⟨rfl, rfl⟩))
      go_round
      case rel => exact ⟨k + 1, by omega, by go_num, by rw [HD.out]⟩
      case measure => simp [intOf]; omega
    · obtain rfl : m = k := by omega
      have HS := Lib.hid (diff_same l q)
      rw [HN.out] at HS
      obtain ⟨D, hD⟩ : ∃ D, D = diff l q m := ⟨_, rfl⟩
      rw [← hD] at HS ⊢
      clear hD
      by_cases h0 : D = 0
      · have d0 : ((cb D : Int) == 0) = true := by rw [h0]; rfl
        by_cases hnm : n = m
        · have d1 : ((n : Int) == (m : Int)) = true := by rw [beq_iff_eq]; omega
          have E : Hid ((l == q) = true) := Lib.hid (by
            rw [beq_iff_eq]; exact (HS.out (by rw [HL.out, HQ.out]; exact hnm)).1 h0)
          clear HS h0
          have HNM := Lib.hid hnm; clear hnm
          go_wp2
          go_ret
          exact ⟨by rw [E.out]; rfl, rfl⟩
        · have d1 : ((n : Int) == (m : Int)) = false := by rw [beq_eq_false_iff_ne]; omega
          have E : Hid ((l == q) = false) := Lib.hid (by
            rw [beq_eq_false_iff_ne]; rintro rfl; exact hnm (HL.out.symm.trans HQ.out))
          clear HS h0
          go_wp2
          go_ret
          exact ⟨by rw [E.out]; rfl, rfl⟩
      · have d0 : ((cb D : Int) == 0) = false := by
          rw [beq_eq_false_iff_ne]; intro e; exact h0 (UInt8.toNat_inj.1 (by have : D.toNat = 0 := by unfold cb at e; omega
                                                                             rw [this]; rfl))
        have E : Hid ((l == q) = false) := Lib.hid (by
          rw [beq_eq_false_iff_ne]; rintro rfl; exact h0 ((HS.out rfl).2 rfl))
        clear HS h0
        go_wp2
        go_ret
        exact ⟨by rw [E.out]; rfl, rfl⟩
theorem same_any (A : Option Addr) (n c : Nat) (l : List UInt8) (B : Option Addr) (m d : Nat) (q : List UInt8) (w : World) (hl : l.length = n) (hr : Row w A (bvs l)) (hn : n ≤ 1099511627776) (hq : q.length = m) (hr2 : Row w B (bvs q)) (hm : m ≤ 1099511627776) :
    Calls Tryd.prog 20 #[.slice A n c, .slice B m d] w fun e w' => e = .returned (.bool (l == q)) ∧ w = w' := by
  by_cases h : m ≤ n
  · exact same_left A n c l B m d q w hl hr hn hq hr2 hm h
  · exact same_right A n c l B m d q w hl hr hn hq hr2 hm (by omega)
theorem same_self (A : Option Addr) (n c : Nat) (l : List UInt8) (B : Option Addr) (d : Nat) (w : World) (hl : l.length = n) (hr : Row w A (bvs l)) (hn : n ≤ 1099511627776) (hr2 : Row w B (bvs l)) :
    Calls Tryd.prog 20 #[.slice A n c, .slice B n d] w fun e w' => e = .returned (.bool true) ∧ w = w' := by
  have := same_any A n c l B n d l w hl hr hn hl hr2 hn
  rwa [show (l == l) = true by simp] at this
end Go.Proofs.YtbainiblffcjgaaDoor.Tags
