/- More on blocks that are known whole: a string copied into one, as far as there is room. No program is named here. · Contracts of the document's own GHASH: bytes taken in. · Contracts of the document's own GHASH: the sum of two texts. -/
import Derived.Test.YtmmpmncioifeoaaZG06
import Derived.Test.YtmmpmncioifeoaaZG26
import Derived.Test.YtmmpmncioifeoaaZG07
import Derived.Test.YtmmpmncioifeoaaZG05
import Derived.Lib.BufferWrite
namespace Go.Proofs.Ytmmpmncioifeoaa.Kit
set_option linter.unusedVariables false
set_option linter.unusedSimpArgs false
open Go Go.RowKit
theorem wpList_copyS_blk {P : Program} {w : World} {ops : Array Oper} {rest : List Oper} {o : Oper} {a : Act} {Q : Exit → Act → World → Prop} (hgd : o.guard = none) (d s : Operand) (dT sT : TypeId)
    (ho : o.op = .call { callee := .builtin .copy, args := #[d, s], argTypes := #[dT, sT] }) (elem : TypeId) (hu : P.underlying dT = some (.slice elem)) (hsz : (P.info? elem).map (·.size) = some 1)
    (g : Nat) (dLen dCap : Nat) (str : ByteArray) (hd : a.eval d = .slice (some ⟨g, 0, none⟩) dLen dCap) (hs : a.eval s = .string str)
    (cur : List Value) (t : TypeId) (hg : Blk w g t cur) (hfit : dLen ≤ cur.length)
    (h : ∀ w', Blk w' g t (bvs ((sl str).take dLen) ++ cur.drop (min str.size dLen)) → Kp (oneB g) w w' → w'.heap.size = w.heap.size → wpList P ops Q rest (a.put o.dst (goInt (min str.size dLen))) w') : wpList P ops Q (o :: rest) a w := by
  refine wpList_plain hgd fun K hK => ?_
  have hl : (bvs ((sl str).take dLen)).length = min str.size dLen := by rw [bvs_length, List.length_take, sl_length, Nat.min_comm]
  have hst := run_storeCells_at P g 0 t (bvs ((sl str).take dLen)) 0 cur.toArray w hg (by rw [hl]; simp; omega) (bvs_one _)
  simp only [Nat.add_zero, hl] at hst
  have htk : List.take (min str.size dLen) (List.map (fun b : UInt8 => Value.int IntKind.u8 (b.toNat : Int)) str.data.toList) = bvs ((sl str).take dLen) := by
    rw [← List.map_take]
    show bvs _ = bvs _
    congr 1
    show (sl str).take (min str.size dLen) = (sl str).take dLen
    by_cases h1 : str.size ≤ dLen
    · rw [Nat.min_eq_left h1, List.take_of_length_le (by rw [sl_length]; exact Nat.le_refl _), List.take_of_length_le (by rw [sl_length]; exact h1)]
    · rw [Nat.min_eq_right (by omega)]
  have hrun : (Builtin.copy_ #[dT, sT] o.type #[.slice (some ⟨g, 0, none⟩) dLen dCap, .string str]).run P w = .ok (goInt (min str.size dLen)) (w.setRow g (bvs ((sl str).take dLen) ++ cur.drop (min str.size dLen)).toArray) := by
    cases hq : P.info? elem with
    | none => simp [hq] at hsz
    | some i =>
      have hm : Nat.min str.size dLen = min str.size dLen := rfl
      simp [Builtin.copy_, run_underlying hu, Builtin.lenOf, Builtin.firstCells, sizeOf, typeInfo, hq, hm]
      rw [htk, hst]
      simp [Result.andThen]
      congr 1
      omega
  unfold Oper.wp
  simp [execOp, ho, resolve, invoke, builtin, hd, hs, hrun, Result.andThen]
  exact hK _ _ (h _ (show _ = _ from setRow_heap w g _ _ t _ hg) (setRow_kp _ _ _) (by simp [World.setRow]))
end Go.Proofs.Ytmmpmncioifeoaa.Kit
namespace Go.Proofs.Ytmmpmncioifeoaa.Ghash
set_option linter.unusedVariables false
set_option linter.unusedSimpArgs false
open Go Go.RowKit Kit
open Aes (gb tb tb_length gb_tb tb_gb tb_ext tb_eq arr16)
open Field (cb cb_inj)

theorem part_copied (l : List UInt8) (k : Nat) (hk : 16 * k < l.length) : bvs ((l.drop (16 * k)).take 16) ++ (bvs none16).drop (min (l.drop (16 * k)).length 16) = bvs (part l k) := by
  have e : (bvs none16).drop (min (l.drop (16 * k)).length 16) = bvs (none16.drop (min (l.drop (16 * k)).length 16)) := by rw [bvs, bvs, List.map_drop]
  rw [e, ← bvs_append, part_eq]
  congr 1
  symm
  refine tb_eq (by simp [none16]; omega) fun i hi => ?_
  by_cases h : i < ((l.drop (16 * k)).take 16).length
  · rw [gb, gb, List.getD, List.getD, List.getElem?_append_left h, List.getElem?_take, if_pos (by omega), List.getElem?_drop]
  · have h2 : l.length ≤ 16 * k + i := by simp at h; omega
    rw [gb, gb, List.getD, List.getD, List.getElem?_append_right (by omega), List.getElem?_eq_none h2, List.getElem?_drop]
    rw [none16, List.getElem?_replicate]
    split <;> rfl

theorem str_extract (m : List UInt8) (a b : Nat) : (str m).extract a b = str ((m.take b).drop a) := by
  apply ByteArray.ext
  simp [str]
  rw [List.drop_take]
theorem drop_next (l : List UInt8) (k : Nat) (h : 16 * k < l.length) : (str (l.drop (16 * k))).extract (min ((l.length - 16 * k : Nat) : Int) 16).toNat (l.length - 16 * k) = str (l.drop (16 * (k + 1))) := by
  rw [str_extract, List.take_of_length_le (by rw [List.length_drop]; exact Nat.le_refl _), List.drop_drop]
  congr 1
  by_cases h2 : l.length - 16 * k < 16
  · rw [List.drop_eq_nil_of_le (by omega), List.drop_eq_nil_of_le (by omega)]
  · congr 1
    omega
def lenS : Value → Nat
  | .string s => s.size
  | _ => 0
/-- What stands while bytes are taken in. -/
structure B5 (w : World) (h s : List UInt8) (w2 : World) : Prop where
  h : Blk w2 w.heap.size 141 (bvs h)
  s : Blk w2 (w.heap.size + 1) 141 (bvs s)
  z : Blk w2 (w.heap.size + 2) 141 (bvs none16)
  kp : Kp nob w w2
theorem B5.keep {w w2 w3 : World} {h s : List UInt8} {F : Nat → Prop} (x : B5 w h s w2) (k : Kp F w2 w3) (hF : ∀ i, F i → w.heap.size + 2 < i) : B5 w h s w3 :=
  ⟨x.h.keep k (fun e => by have := hF _ e; omega), x.s.keep k (fun e => by have := hF _ e; omega), x.z.keep k (fun e => by have := hF _ e; omega), x.kp.since k (fun i e => by have := hF i e; omega)⟩
theorem B5.outS {w w2 w3 : World} {h s s2 : List UInt8} (x : B5 w h s w2) (k : Kp (oneB (w.heap.size + 1)) w2 w3) (hs : Blk w3 (w.heap.size + 1) 141 (bvs s2)) : B5 w h s2 w3 :=
  ⟨x.h.keep k (fun e => by unfold oneB at e; omega), hs, x.z.keep k (fun e => by unfold oneB at e; omega), x.kp.since k (fun i e => by unfold oneB at e; omega)⟩
theorem B5.lt {w w2 : World} {h s : List UInt8} (x : B5 w h s w2) : w.heap.size + 2 < w2.heap.size := x.z.lt

end Go.Proofs.Ytmmpmncioifeoaa.Ghash
namespace Go.Proofs.Ytmmpmncioifeoaa.Ghash
set_option linter.unusedVariables false
set_option linter.unusedSimpArgs false
open Go Go.RowKit Kit
open Aes (gb tb tb_length gb_tb tb_gb tb_ext tb_eq arr16 pt pt_all pt_zero blk_byte)
open Field (cb cb_inj)

/-- What stands: the element, the answer's block. -/
structure Bo (w : World) (h : List UInt8) (w2 : World) : Prop where
  h : Blk w2 w.heap.size 141 (bvs h)
  z : Blk w2 (w.heap.size + 1) 141 (bvs none16)
  kp : Kp nob w w2
theorem Bo.keep {w w2 w3 : World} {h : List UInt8} {F : Nat → Prop} (x : Bo w h w2) (k : Kp F w2 w3) (hF : ∀ i, F i → w.heap.size + 1 < i) : Bo w h w3 :=
  ⟨x.h.keep k (fun e => by have := hF _ e; omega), x.z.keep k (fun e => by have := hF _ e; omega), x.kp.since k (fun i e => by have := hF i e; omega)⟩
theorem Bo.keep0 {w w2 w3 : World} {h : List UInt8} (x : Bo w h w2) (k : Kp nob w2 w3) : Bo w h w3 := x.keep k (fun _ e => e.elim)
theorem Bo.lt {w w2 : World} {h : List UInt8} (x : Bo w h w2) : w.heap.size + 1 < w2.heap.size := x.z.lt
theorem Bo.alloc {w w2 : World} {h : List UInt8} (x : Bo w h w2) (o : Obj) : Bo w h (w2.alloc o) := x.keep0 ((Kp.refl nob _).alloc o)
theorem take_len (h s l : List UInt8) (hs : s.length = 16) : (bvs (taken h s l)).length = 16 := len16 (taken_length h s l hs)

/-- The sizes' block, j bytes of each made, from the end on. -/
def pz (n m j : Nat) : List UInt8 := tb fun p => if p < 8 then (if 8 ≤ p + j then UInt8.ofNat (n / 256 ^ (7 - p)) else 0) else (if 16 ≤ p + j then UInt8.ofNat (m / 256 ^ (15 - p)) else 0)
theorem pz_zero (n m : Nat) : pz n m 0 = none16 := by
  rw [none_tb]
  refine tb_ext fun p hp => ?_
  by_cases h : p < 8
  · rw [if_pos h, if_neg (by omega)]
  · rw [if_neg h, if_neg (by omega)]
theorem pz_all (a t : List UInt8) : pz (8 * a.length) (8 * t.length) 8 = sizes a t := by
  refine tb_eq (sizes_length a t) fun p hp => ?_
  have h8 : ∀ n, (big8 n).length = 8 := fun n => by simp [big8]
  have hb : ∀ n q, q < 8 → gb (big8 n) q = UInt8.ofNat (n / 256 ^ (7 - q)) := fun n q hq => by
    rw [gb, List.getD, big8, List.getElem?_map, List.getElem?_range hq]; rfl
  rw [sizes_eq, gb, List.getD]
  by_cases h : p < 8
  · rw [if_pos h, if_pos (by omega), List.getElem?_append_left (by rw [h8]; exact h)]
    exact (hb _ p h).symm
  · rw [if_neg h, if_pos (by omega), List.getElem?_append_right (by rw [h8]; omega), h8]
    have := hb (8 * t.length) (p - 8) (by omega)
    rw [show 7 - (p - 8) = 15 - p by omega] at this
    exact this.symm
theorem pz_step (n m i j : Nat) (hi : i = 7 - j) (hj : j < 8) : ((pz n m j).set i (UInt8.ofNat (n / 256 ^ j))).set (8 + i) (UInt8.ofNat (m / 256 ^ j)) = pz n m (j + 1) := by
  rw [pz, Aes.set_tb, Aes.set_tb, pz]
  refine tb_ext fun p hp => ?_
  by_cases h1 : p = 8 + i
  · rw [if_pos h1, if_neg (by omega), if_pos (by omega), show 15 - p = j by omega]
  · rw [if_neg h1]
    by_cases h2 : p = i
    · rw [if_pos h2, if_pos (by omega), if_pos (by omega), show 7 - p = j by omega]
    · rw [if_neg h2]
      by_cases h : p < 8
      · rw [if_pos h, if_pos h]
        by_cases h3 : 8 ≤ p + j
        · rw [if_pos h3, if_pos (by omega)]
        · rw [if_neg h3, if_neg (by omega)]
      · rw [if_neg h, if_neg h]
        by_cases h3 : 16 ≤ p + j
        · rw [if_pos h3, if_pos (by omega)]
        · rw [if_neg h3, if_neg (by omega)]
theorem pz_length (n m j : Nat) : (pz n m j).length = 16 := tb_length _
attribute [irreducible] pz
/-- What stands while the sizes are made. -/
structure Bz (w : World) (h : List UInt8) (g7 : Nat) (s : List UInt8) (g8 : Nat) (z : List UInt8) (w2 : World) : Prop where
  b : Bo w h w2
  s : Blk w2 g7 141 (bvs s)
  n : Blk w2 g8 141 (bvs z)
theorem Bz.set {w w2 : World} {h s z : List UInt8} {g7 g8 : Nat} (x : Bz w h g7 s g8 z w2) (h7 : w.heap.size + 1 < g7) (h8 : g7 < g8) (i : Nat) (u : UInt8) : Bz w h g7 s g8 (z.set i u) (w2.setCell ⟨g8, i, none⟩ (.int .u8 (cb u))) :=
  ⟨x.b.keep (F := fun k => k = g8) ((Kp.refl (fun k => k = g8) w2).setCell (.inl rfl) _) (fun j e => by omega), x.s.far (by simp; omega) _, by have := x.n.set_ i (.int .u8 (cb u)); rwa [Aes.bvs_setb] at this⟩
theorem pow_next (n j : Nat) : n / 256 ^ (j + 1) = n / 256 ^ j / 256 := by rw [Nat.pow_succ, Nat.div_div_eq_div_mul]

end Go.Proofs.Ytmmpmncioifeoaa.Ghash
