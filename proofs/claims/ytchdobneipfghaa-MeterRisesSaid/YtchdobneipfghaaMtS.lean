/- A small register that only goes on, on numbers and lists: what it says, how it goes on, with the power of a disk. No program is named here. -/
import Derived.Test.YtchdobneipfghaaDiskS
namespace Go.Proofs.Ytchdobneipfghaa.Meter
set_option linter.unusedVariables false
set_option linter.unusedSimpArgs false
open Go Disk

/-- A register: how often it went on, an epoch, a digest; how often it goes on at most. -/
structure Mt where
  count : Nat
  epoch : Int
  root : List UInt8
  most : Nat
def z32 : List UInt8 := List.replicate 32 0
theorem z32_length : z32.length = 32 := List.length_replicate
def lim (n : Int) : Nat := min n.toNat 1099511627776
theorem lim_le (n : Int) : lim n ≤ 1099511627776 := Nat.min_le_right _ _
def fresh (n : Int) : Mt := ⟨0, 0, z32, lim n⟩
/-- What stands always. -/
structure Mk (t : Mt) : Prop where
  root : t.root.length = 32
  le : t.count ≤ t.most
  most : t.most ≤ 1099511627776
theorem fresh_ok (n : Int) : Mk (fresh n) := ⟨z32_length, Nat.zero_le _, lim_le n⟩
/-- It goes on. -/
def Mt.on (t : Mt) (e : Int) (r : List UInt8) : Mt := ⟨t.count + 1, e, r, t.most⟩
theorem Mk.on {t : Mt} (h : Mk t) (e : Int) (r : List UInt8) (hr : r.length = 32) (hc : t.count < t.most) : Mk (t.on e r) := ⟨hr, hc, h.most⟩
/-- Why it doesn't go on. -/
def why (t : Mt) (off : Bool) (e : Int) : Int := if off then 8 else if e < t.epoch then 1 else if t.most ≤ t.count then 10 else 0
theorem why_off (t : Mt) (e : Int) : why t true e = 8 := rfl
theorem why_arg (t : Mt) (e : Int) (h : e < t.epoch) : why t false e = 1 := by rw [why, if_neg (by decide), if_pos h]
theorem why_spent (t : Mt) (e : Int) (h : ¬ e < t.epoch) (h2 : t.most ≤ t.count) : why t false e = 10 := by rw [why, if_neg (by decide), if_neg h, if_pos h2]
theorem why_no (t : Mt) (e : Int) (h : ¬ e < t.epoch) (h2 : ¬ t.most ≤ t.count) : why t false e = 0 := by rw [why, if_neg (by decide), if_neg h, if_neg h2]
theorem why_0 {t : Mt} {off : Bool} {e : Int} (h : why t off e = 0) : off = false ∧ ¬ e < t.epoch ∧ ¬ t.most ≤ t.count := by
  unfold why at h
  cases off with
  | true => simp at h
  | false =>
    rw [if_neg (by decide)] at h
    split at h
    · cases h
    · split at h
      · cases h
      · exact ⟨rfl, by assumption, by assumption⟩
/-- The highest bit. -/
def high (k : Nat) : Bool := decide (9223372036854775808 ≤ k)
/-- One more: the register, the disk, the answer. -/
def nxt (t : Mt) (D : Dk) (e : Int) (r : List UInt8) : Mt × Dk × Int :=
  if why t D.off e = 0 then (if (act D).2 then (if high D.keep then t.on e r else t, lose (act D).1 D.keep, 8) else (t.on e r, (act D).1, 0)) else (t, D, why t D.off e)
theorem nxt_no {t : Mt} {D : Dk} {e : Int} {r : List UInt8} (h : why t D.off e ≠ 0) : nxt t D e r = (t, D, why t D.off e) := by rw [nxt, if_neg h]
theorem nxt_on {t : Mt} {D : Dk} {e : Int} {r : List UInt8} (h : why t D.off e = 0) (ha : (act D).2 = false) : nxt t D e r = (t.on e r, (act D).1, 0) := by rw [nxt, if_pos h, ha]; rfl
theorem nxt_hi {t : Mt} {D : Dk} {e : Int} {r : List UInt8} (h : why t D.off e = 0) (ha : (act D).2 = true) (hk : high D.keep = true) : nxt t D e r = (t.on e r, lose (act D).1 D.keep, 8) := by rw [nxt, if_pos h, ha, hk]; rfl
theorem nxt_lo {t : Mt} {D : Dk} {e : Int} {r : List UInt8} (h : why t D.off e = 0) (ha : (act D).2 = true) (hk : high D.keep = false) : nxt t D e r = (t, lose (act D).1 D.keep, 8) := by rw [nxt, if_pos h, ha, hk]; rfl
theorem nxt_ok {t : Mt} {D : Dk} {e : Int} {r : List UInt8} (h : Mk t) (hr : r.length = 32) : Mk (nxt t D e r).1 := by
  by_cases hw : why t D.off e = 0
  · have hc := (why_0 hw).2.2
    have hon := h.on e r hr (by omega)
    cases ha : (act D).2 with
    | false => rw [nxt_on hw ha]; exact hon
    | true =>
      cases hk : high D.keep with
      | true => rw [nxt_hi hw ha hk]; exact hon
      | false => rw [nxt_lo hw ha hk]; exact h
  · rw [nxt_no hw]; exact h
end Go.Proofs.Ytchdobneipfghaa.Meter
