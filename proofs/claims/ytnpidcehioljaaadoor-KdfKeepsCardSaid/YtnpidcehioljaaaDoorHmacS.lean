/- Keyed digests on lists of bytes: the plain function, and how keys that are filled up go together. No program is named here. -/
import Derived.Test.YtnpidcehioljaaaDoorShaS
namespace Go.Proofs.YtnpidcehioljaaaDoor.Hmac
open Go Go.RowKit Kit

/-- Filled up with noughts to 64 bytes. -/
def pad (l : List UInt8) : List UInt8 := l ++ List.replicate (64 - l.length) 0
theorem pad_length {l : List UInt8} (h : l.length ≤ 64) : (pad l).length = 64 := by simp [pad]; omega
/-- The key's 64 bytes. -/
def full (k : List UInt8) : List UInt8 := pad (if 64 < k.length then Sha.of k else k)
theorem full_eq (k : List UInt8) : full k = pad (if 64 < k.length then Sha.of k else k) := rfl
theorem full_length (k : List UInt8) : (full k).length = 64 := by
  unfold full; split
  · exact pad_length (by rw [Sha.of_length]; omega)
  · exact pad_length (by omega)
def mask (c : UInt8) (l : List UInt8) : List UInt8 := l.map (· ^^^ c)
theorem mask_length (c : UInt8) (l : List UInt8) : (mask c l).length = l.length := by simp [mask]
/-- The inner key, the outer one. -/
def ik (k : List UInt8) : List UInt8 := mask 54 (full k)
def ok (k : List UInt8) : List UInt8 := mask 92 (full k)
theorem ik_eq (k : List UInt8) : ik k = mask 54 (full k) := rfl
theorem ok_eq (k : List UInt8) : ok k = mask 92 (full k) := rfl
theorem ik_length (k : List UInt8) : (ik k).length = 64 := by rw [ik, mask_length, full_length]
theorem ok_length (k : List UInt8) : (ok k).length = 64 := by rw [ok, mask_length, full_length]
/-- THE KEYED DIGEST. -/
def mac (k l : List UInt8) : List UInt8 := Sha.of (ok k ++ Sha.of (ik k ++ l))
theorem mac_length (k l : List UInt8) : (mac k l).length = 32 := Sha.of_length _
theorem mac_eq (k l : List UInt8) : mac k l = Sha.of (ok k ++ Sha.of (ik k ++ l)) := rfl
/-- A key, and one filled up. -/
theorem full_more (k : List UInt8) (n : Nat) (h : k.length + n ≤ 64) : full (k ++ List.replicate n 0) = full k := by
  unfold full
  rw [if_neg (by simp; omega), if_neg (by omega), pad, pad, List.append_assoc, List.replicate_append_replicate]
  congr 2
  simp; omega
theorem mac_more (k l : List UInt8) (n : Nat) (h : k.length + n ≤ 64) : mac (k ++ List.replicate n 0) l = mac k l := by
  unfold mac ok ik; rw [full_more k n h]

def jefe : List UInt8 := [74, 101, 102, 101]
def ask1 : List UInt8 := [119, 104, 97, 116, 32, 100, 111, 32, 121, 97, 32, 119, 97, 110, 116, 32]
def ask2 : List UInt8 := [102, 111, 114, 32, 110, 111, 116, 104, 105, 110, 103, 63]
theorem mac_jefe : (mac jefe (ask1 ++ ask2)).take 4 = [91, 220, 193, 70] := by decide +kernel

attribute [irreducible] mac ik ok full
end Go.Proofs.YtnpidcehioljaaaDoor.Hmac
