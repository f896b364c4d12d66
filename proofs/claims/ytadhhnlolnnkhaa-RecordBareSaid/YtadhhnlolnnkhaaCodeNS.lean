/- The words of layer 1: numbers and texts as bytes, a reader of bytes, on lists. No program is named here. -/
import Derived.Test.YtadhhnlolnnkhaaKit
namespace Go.Proofs.Ytadhhnlolnnkhaa
set_option linter.unusedVariables false
set_option linter.unusedSimpArgs false
open Go Go.RowKit Kit

def num8 (n : Int) : List UInt8 := le 8 (n % 18446744073709551616).toNat
@[simp] theorem num8_length (n : Int) : (num8 n).length = 8 := by simp [num8]
def textB (s : ByteArray) : List UInt8 := if s.size < 16777216 then le 3 s.size ++ sl s else []
theorem textB_le (s : ByteArray) : (textB s).length ≤ 3 + s.size := by unfold textB; split <;> simp
def oneF (b : Nat) : Nat → Prop := fun k => k = b
def bust : List UInt8 × Bool := ([], true)
def can (s : List UInt8 × Bool) (n : Int) : Bool := decide (s.2 = false ∧ 0 ≤ n ∧ n ≤ s.1.length)
def sTake (s : List UInt8 × Bool) (n : Int) : (List UInt8 × Bool) × (List UInt8 × Bool) :=
  if can s n then ((s.1.take n.toNat, true), (s.1.drop n.toNat, false)) else (([], false), bust)
def sNum (s : List UInt8 × Bool) : Int × (List UInt8 × Bool) := (wrap64 (lowN (sTake s 8).1.1 : Nat), (sTake s 8).2)
theorem sTake_length (s : List UInt8 × Bool) (n : Int) : (sTake s n).1.1.length ≤ n.toNat := by
  unfold sTake; split <;> simp; omega
def sIn (s : List UInt8 × Bool) (lo hi : Int) : Int × (List UInt8 × Bool) := if (sNum s).1 < lo ∨ hi < (sNum s).1 then (0, bust) else sNum s
def sText (s : List UInt8 × Bool) (most : Int) : List UInt8 × (List UInt8 × Bool) :=
  if min most 65536 < (lowN (sTake s 3).1.1 : Nat) then ([], bust) else ((sTake (sTake s 3).2 (lowN (sTake s 3).1.1 : Nat)).1.1, (sTake (sTake s 3).2 (lowN (sTake s 3).1.1 : Nat)).2)

/-- Numbers and texts, there and back. -/
theorem num8_back (l : List UInt8) (h : l.length = 8) : num8 (wrap64 (lowN l : Nat)) = l := by
  have h1 := lowN_lt l
  rw [h] at h1
  have e : (wrap64 (lowN l : Nat) % 18446744073709551616).toNat = lowN l := by
    have := IntKind.wrap_i64 (lowN l : Nat)
    simp only [wrap64] at *
    omega
  unfold num8
  rw [e, ← h]
  exact le_lowN l
theorem sTake_split (s : List UInt8 × Bool) (n : Int) (h : (sTake s n).2.2 = false) : (sTake s n).1.1 ++ (sTake s n).2.1 = s.1 ∧ s.2 = false ∧ ((sTake s n).1.1.length : Int) = n := by
  unfold sTake at *
  split at h <;> rename_i hc
  · simp only [can, decide_eq_true_eq] at hc
    rw [if_pos (by simpa [can] using hc)]
    refine ⟨List.take_append_drop _ _, hc.1, ?_⟩
    simp only [List.length_take]; omega
  · simp [bust] at h
theorem i64_range {n : Int} (h : (Lit.int .i64 n).wf = true) : -9223372036854775808 ≤ n ∧ n ≤ 9223372036854775807 := by
  simp [Lit.wf, IntKind.min, IntKind.max, IntKind.signed, IntKind.bits] at h
  omega
theorem num8_forth (n : Int) (h : -9223372036854775808 ≤ n ∧ n ≤ 9223372036854775807) : wrap64 (lowN (num8 n) : Nat) = n := by
  unfold num8
  rw [lowN_le, show (256 : Nat) ^ 8 = 18446744073709551616 from rfl]
  have := IntKind.wrap_i64 (((n % 18446744073709551616).toNat % 18446744073709551616 : Nat) : Int)
  simp only [wrap64] at *
  omega

theorem sTake_app (a W : List UInt8) (n : Int) (h : (a.length : Int) = n) : sTake (a ++ W, false) n = ((a, true), (W, false)) := by
  subst h
  have hc : can (a ++ W, false) (a.length : Int) = true := by simp [can]; omega
  simp [sTake, hc]
theorem sTake_no (s : List UInt8 × Bool) (n : Int) (h : s.1.length < n ∨ s.2 = true) : sTake s n = (([], false), bust) := by
  have hc : can s n = false := by
    simp only [can, decide_eq_false_iff_not]
    rcases h with h | h
    · omega
    · simp [h]
  simp [sTake, hc]
end Go.Proofs.Ytadhhnlolnnkhaa
