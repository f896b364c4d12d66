/- Lemmas: GhashTg GhashRg GhashVg GhashWg BlkE GhashXg. -/
import Derived.Test.YtiimfhacnfdmhaaGreatZG12
import Derived.Lib.BufferWrite
set_option linter.unusedVariables false
set_option linter.unusedSimpArgs false
namespace Go.Proofs.YtiimfhacnfdmhaaGreat.Ghash
open Go Go.RowKit Kit Gf
open Aes (gb tb tb_length gb_tb tb_gb tb_ext tb_eq pt pt_all pt_zero gb_get)
open Field (cb)
theorem bit_shift (b : List UInt8) (i : Nat) (hi : i < 128) : bit (shift b) i = ((if 1 ≤ i then bit b (i - 1) else 0) + (if bit b 127 = 1 then 135 else 0) / 2 ^ i % 2) % 2 := by
  have h127 : (num b).testBit 127 = decide (bit b 127 = 1) := by rw [Nat.testBit_eq_decide_div_mod_eq, num_bit b 127 (by omega)]
  rw [← num_bit _ i hi, num_shift, xt, bit_xor, h127]
  congr 2
  · by_cases h1 : 1 ≤ i
    · rw [if_pos h1, ← num_bit b (i - 1) (by omega)]
      have e1 := Nat.testBit_mod_two_pow (2 * num b) 128 i
      have e2 : (2 * num b).testBit i = (num b).testBit (i - 1) := by
        rw [show 2 * num b = num b * 2 ^ 1 by omega, Nat.testBit_mul_two_pow]; simp [h1]
      rw [Nat.testBit_eq_decide_div_mod_eq, e2, Nat.testBit_eq_decide_div_mod_eq] at e1
      simp only [hi, decide_true, Bool.true_and, decide_eq_decide] at e1
      have a1 := Nat.mod_lt (2 * num b % 2 ^ 128 / 2 ^ i) (show 0 < 2 by decide)
      have a2 := Nat.mod_lt (num b / 2 ^ (i - 1)) (show 0 < 2 by decide)
      by_cases hq : num b / 2 ^ (i - 1) % 2 = 1
      · rw [e1.2 hq, hq]
      · have := fun h => hq (e1.1 h); omega
    · obtain rfl : i = 0 := by omega
      rw [if_neg h1]; omega
  · congr 2
    by_cases h : bit b 127 = 1 <;> simp [h]
end Go.Proofs.YtiimfhacnfdmhaaGreat.Ghash
namespace Go.Proofs.YtiimfhacnfdmhaaGreat.Ghash
open Go Go.RowKit Kit
open Aes (gb tb tb_length gb_tb tb_gb tb_ext tb_eq pt pt_all pt_zero pt_get pt_set bvs_setb blk_byte)
open Field (cb u8_shl)
end Go.Proofs.YtiimfhacnfdmhaaGreat.Ghash
namespace Go.Proofs.YtiimfhacnfdmhaaGreat.Ghash
open Go Go.RowKit Kit
open Aes (gb tb tb_length gb_tb tb_gb tb_ext tb_eq)
open Field (cb)
structure B3 (w : World) (a z o : List UInt8) (w2 : World) : Prop where
  a : Blk w2 w.heap.size 135 (bvs a)
  z : Blk w2 (w.heap.size + 1) 135 (bvs z)
  o : Blk w2 (w.heap.size + 2) 135 (bvs o)
  kp : Kp nob w w2
theorem B3.keep0 {w w2 w3 : World} {a z o : List UInt8} (h : B3 w a z o w2) (k : Kp nob w2 w3) : B3 w a z o w3 :=
  ⟨h.a.keep k (fun e => e), h.z.keep k (fun e => e), h.o.keep k (fun e => e), h.kp.trans k (fun _ e => e.elim)⟩
theorem B3.outA {w w2 w3 : World} {a z o a2 : List UInt8} (h : B3 w a z o w2) (k : Kp (oneB w.heap.size) w2 w3) (ha : Blk w3 w.heap.size 135 (bvs a2)) : B3 w a2 z o w3 :=
  ⟨ha, h.z.keep k (fun e => by unfold oneB at e; omega), h.o.keep k (fun e => by unfold oneB at e; omega), h.kp.since k (fun i e => by unfold oneB at e; omega)⟩
theorem len16 {b : List UInt8} (h : b.length = 16) : (bvs b).length = 16 := by rw [bvs_length, h]
structure B4 (w : World) (a b z o : List UInt8) (w2 : World) : Prop where
  a : Blk w2 w.heap.size 135 (bvs a)
  b : Blk w2 (w.heap.size + 1) 135 (bvs b)
  z : Blk w2 (w.heap.size + 2) 135 (bvs z)
  o : Blk w2 (w.heap.size + 3) 135 (bvs o)
  kp : Kp nob w w2
theorem B4.keep0 {w w2 w3 : World} {a b z o : List UInt8} (h : B4 w a b z o w2) (k : Kp nob w2 w3) : B4 w a b z o w3 :=
  ⟨h.a.keep k (fun e => e), h.b.keep k (fun e => e), h.z.keep k (fun e => e), h.o.keep k (fun e => e), h.kp.trans k (fun _ e => e.elim)⟩
end Go.Proofs.YtiimfhacnfdmhaaGreat.Ghash
namespace Go.Proofs.YtiimfhacnfdmhaaGreat.Kit
open Go Go.RowKit
end Go.Proofs.YtiimfhacnfdmhaaGreat.Kit
namespace Go.Proofs.YtiimfhacnfdmhaaGreat.Ghash
open Go Go.RowKit Kit
open Aes (gb tb tb_length gb_tb tb_gb tb_ext tb_eq)
open Field (cb)
theorem part_copied (l : List UInt8) (k : Nat) (hk : 16 * k < l.length) : bvs ((l.drop (16 * k)).take 16) ++ (bvs none16).drop (min (l.drop (16 * k)).length 16) = bvs (part l k) := by
  have e : (bvs none16).drop (min (l.drop (16 * k)).length 16) = bvs (none16.drop (min (l.drop (16 * k)).length 16)) := by rw [bvs, bvs, List.map_drop]
  rw [e, ← bvs_append, part_eq]
  congr 1
  symm
  refine tb_eq (by simp [none16]; omega) fun i hi => ?_
  by_cases h : i < ((l.drop (16 * k)).take 16).length
  · rw [gb, gb, List.getD, List.getD, List.getElem?_append_left h, List.getElem?_take, if_pos (by omega), List.getElem?_drop]
  · have h2 : l.length ≤ 16 * k + i := by simp at h; omega
    rw [gb, gb, List.getD, List.getD, List.getElem?_append_right (by omega), List.getElem?_eq_none h2, List.getElem?_drop]
    rw [none16, List.getElem?_replicate]
    split <;> rfl
structure B5 (w : World) (h s : List UInt8) (w2 : World) : Prop where
  h : Blk w2 w.heap.size 135 (bvs h)
  s : Blk w2 (w.heap.size + 1) 135 (bvs s)
  z : Blk w2 (w.heap.size + 2) 135 (bvs none16)
  kp : Kp nob w w2
theorem B5.keep {w w2 w3 : World} {h s : List UInt8} {F : Nat → Prop} (x : B5 w h s w2) (k : Kp F w2 w3) (hF : ∀ i, F i → w.heap.size + 2 < i) : B5 w h s w3 :=
  ⟨x.h.keep k (fun e => by have := hF _ e; omega), x.s.keep k (fun e => by have := hF _ e; omega), x.z.keep k (fun e => by have := hF _ e; omega), x.kp.since k (fun i e => by have := hF i e; omega)⟩
theorem B5.outS {w w2 w3 : World} {h s s2 : List UInt8} (x : B5 w h s w2) (k : Kp (oneB (w.heap.size + 1)) w2 w3) (hs : Blk w3 (w.heap.size + 1) 135 (bvs s2)) : B5 w h s2 w3 :=
  ⟨x.h.keep k (fun e => by unfold oneB at e; omega), hs, x.z.keep k (fun e => by unfold oneB at e; omega), x.kp.since k (fun i e => by unfold oneB at e; omega)⟩
theorem B5.lt {w w2 : World} {h s : List UInt8} (x : B5 w h s w2) : w.heap.size + 2 < w2.heap.size := x.z.lt
end Go.Proofs.YtiimfhacnfdmhaaGreat.Ghash
