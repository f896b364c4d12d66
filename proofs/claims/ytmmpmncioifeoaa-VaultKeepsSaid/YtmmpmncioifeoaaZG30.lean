/- Contracts of the document's own AES: a block sealed under words. · Contracts of package aes: two blocks' sum, other bytes in the place of a block's own, rows turned, columns mixed. · Contracts of the document's own AES: all words of a key. -/
import Derived.Test.YtmmpmncioifeoaaZG29
import Derived.Test.YtmmpmncioifeoaaZG28
import Derived.Test.YtmmpmncioifeoaaZG06
import Derived.BigQuiet
import Derived.Deep.QuietTactic
namespace Go.Proofs.Ytmmpmncioifeoaa.Aes
set_option linter.unusedVariables false
set_option linter.unusedSimpArgs false
open Go Go.RowKit Kit
open Field (cb cb_inj)

/-- A byte of the rows that are turned, each boxed. -/
def sr [Inhabited Field.SqTab] (B : List UInt8) (i : Nat) : UInt8 := Field.gbox (gb B (4 * ((i / 4 + i % 4) % 4) + i % 4))
theorem sr_eq [Inhabited Field.SqTab] (B : List UInt8) (i : Nat) : sr B i = Field.gbox (gb B (4 * ((i / 4 + i % 4) % 4) + i % 4)) := rfl
theorem sr_all [Inhabited Field.SqTab] (B : List UInt8) : tb (sr B) = rows (sub B) := by
  rw [rows_eq]
  refine tb_ext fun i hi => ?_
  rw [sub_eq, gb_tb _ _ (by omega)]; rfl
/-- A column's byte, so far. -/
def cs (X : List UInt8) (i : Nat) : Nat → UInt8
  | 0 => 0
  | j + 1 => cs X i j ^^^ Field.tm (gb X (4 * (i / 4) + j)) (fac j (i % 4))
theorem cs_zero (X : List UInt8) (i : Nat) : cs X i 0 = 0 := rfl
theorem cs_succ (X : List UInt8) (i j : Nat) : cs X i (j + 1) = cs X i j ^^^ Field.tm (gb X (4 * (i / 4) + j)) (fac j (i % 4)) := rfl
theorem cs_all (X : List UInt8) : tb (fun i => cs X i 4) = mix X := by
  rw [mix_eq]
  refine tb_ext fun i hi => ?_
  rw [cs_succ, cs_succ, cs_succ, cs_succ, cs_zero, UInt8.zero_xor]; rfl
/-- The columns, so far: i bytes, and j parts of one more. -/
def ms (X : List UInt8) (q j : Nat) : List UInt8 := tb fun i => if i < q then cs X i 4 else if i = q then cs X i j else 0
theorem ms_zero (X : List UInt8) : ms X 0 0 = tb fun _ => 0 := tb_ext fun i _ => by
  rw [if_neg (by omega)]; split <;> rfl
theorem ms_all (X : List UInt8) : ms X 16 0 = mix X := by
  rw [← cs_all]; exact tb_ext fun i h => if_pos h
theorem ms_get (X : List UInt8) (q j : Nat) (h : q < 16) : (bvs (ms X q j))[q]? = some (.int .u8 (cb (cs X q j))) := by
  rw [ms, tb_get _ _ h, if_neg (Nat.lt_irrefl q), if_pos rfl]
theorem ms_step (X : List UInt8) (q j : Nat) : (ms X q j).set q (cs X q (j + 1)) = ms X q (j + 1) := by
  rw [ms, set_tb, ms]
  refine tb_ext fun i _ => ?_
  by_cases h : i = q
  · subst h; rw [if_pos rfl, if_neg (Nat.lt_irrefl i), if_pos rfl]
  · rw [if_neg h]
    by_cases h2 : i < q
    · rw [if_pos h2, if_pos h2]
    · rw [if_neg h2, if_neg h2, if_neg h, if_neg h]
theorem ms_next (X : List UInt8) (q : Nat) : ms X q 4 = ms X (q + 1) 0 := by
  refine tb_ext fun i _ => ?_
  by_cases h : i = q
  · subst h; rw [if_neg (Nat.lt_irrefl i), if_pos rfl, if_pos (Nat.lt_succ_self _)]
  · by_cases h2 : i < q
    · rw [if_pos h2, if_pos (by omega)]
    · rw [if_neg h2, if_neg h, if_neg (by omega)]
      split <;> rfl
theorem ms_length (X : List UInt8) (q j : Nat) : (ms X q j).length = 16 := tb_length _
attribute [irreducible] sr cs ms
theorem zero16 : (tb fun _ => 0) = List.replicate 16 0 := by decide +kernel

/-- The state behind i rounds of R + 1. -/
def stt [Inhabited Field.SqTab] (W : List UInt8) (R : Nat) (b : List UInt8) (i : Nat) : List UInt8 := if i ≤ R then going W b i else enc W R b
theorem stt_zero [Inhabited Field.SqTab] (W : List UInt8) (R : Nat) (b : List UInt8) : stt W R b 0 = add (rk W 0) b := by rw [stt, if_pos (by omega), going_zero]
theorem stt_mid [Inhabited Field.SqTab] (W : List UInt8) (R : Nat) (b : List UInt8) (i : Nat) (h : i < R) : stt W R b (i + 1) = add (rk W (i + 1)) (mix (rows (sub (stt W R b i)))) := by
  rw [stt, stt, if_pos (by omega), if_pos (by omega), going_succ]
theorem stt_end [Inhabited Field.SqTab] (W : List UInt8) (R : Nat) (b : List UInt8) : stt W R b (R + 1) = add (rk W (R + 1)) (rows (sub (stt W R b R))) := by
  rw [stt, stt, if_neg (by omega), if_pos (by omega), enc_eq]
theorem stt_all [Inhabited Field.SqTab] (W : List UInt8) (R : Nat) (b : List UInt8) : stt W R b (R + 1) = enc W R b := by rw [stt, if_neg (by omega)]
theorem stt_length [Inhabited Field.SqTab] (W : List UInt8) (R : Nat) (b : List UInt8) (i : Nat) : (stt W R b i).length = 16 := by
  rw [stt]; split
  · exact going_length _ _ _
  · exact enc_length _ _ _
attribute [irreducible] stt
theorem sr_at [Inhabited Field.SqTab] (B : List UInt8) (c q : Nat) (hc : c < 4) (hq : q < 4) : sr B (4 * c + q) = Field.gbox (gb B (4 * ((c + q) % 4) + q)) := by
  rw [sr_eq, show (4 * c + q) / 4 = c by omega, show (4 * c + q) % 4 = q by omega]
theorem cs_at (X : List UInt8) (c k j : Nat) (hc : c < 4) (hk : k < 4) : cs X (4 * c + k) (j + 1) = cs X (4 * c + k) j ^^^ Field.tm (gb X (4 * c + j)) (fac j k) := by
  rw [cs_succ, show (4 * c + k) / 4 = c by omega, show (4 * c + k) % 4 = k by omega]

/-- What a round leaves as it is: the state's block, and the answer's. -/
structure Base (w : World) (B : List UInt8) (z : List Value) (w2 : World) : Prop where
  state : Blk w2 w.heap.size 141 (bvs B)
  ans : Blk w2 (w.heap.size + 1) 141 z
  kp : Kp nob w w2
theorem Base.drew {w w2 : World} {B : List UInt8} {z : List Value} (h : Base w B z w2) : Base w B z w2.drew :=
  ⟨h.state.keep (Kp.refl nob _).drew (fun e => e), h.ans.keep (Kp.refl nob _).drew (fun e => e), h.kp.drew⟩
theorem Base.alloc {w w2 : World} {B : List UInt8} {z : List Value} (h : Base w B z w2) (o : Obj) : Base w B z (w2.alloc o) := ⟨h.state.alloc o, h.ans.alloc o, h.kp.alloc o⟩
theorem Base.set {w w2 : World} {B : List UInt8} {z : List Value} (h : Base w B z w2) {p : Addr} (hp : w.heap.size + 1 < p.block) (u : Value) : Base w B z (w2.setCell p u) :=
  ⟨h.state.far (by omega) u, h.ans.far (by omega) u, h.kp.setCell (.inr (by omega)) u⟩
theorem Base.keep {w w2 w3 : World} {F : Nat → Prop} {B : List UInt8} {z : List Value} (h : Base w B z w2) (k : Kp F w2 w3) (hF : ∀ i, F i → w.heap.size + 1 < i) : Base w B z w3 :=
  ⟨h.state.keep k (fun e => by have := hF _ e; omega), h.ans.keep k (fun e => by have := hF _ e; omega), h.kp.since k (fun i e => by have := hF i e; omega)⟩
theorem Base.lt {w w2 : World} {B : List UInt8} {z : List Value} (h : Base w B z w2) : w.heap.size + 1 < w2.heap.size := h.ans.lt

theorem fac_at (j k : Nat) : gb [2, 3, 1, 1] ((j + 4 - k) % 4) = fac j k := rfl
theorem wrap_to (x : Int) (n : Nat) (h : x = (n : Int)) (hn : n < 1000000) : IntKind.i64.wrap x = (n : Int) := by rw [h, IntKind.wrap_i64]; omega
theorem wrap_toI (x y : Int) (h : x = y) (hn : -1000000 < y ∧ y < 1000000) : IntKind.i64.wrap x = y := by rw [h, IntKind.wrap_i64]; omega
theorem tmod_four (E F : Nat) (h : F = E % 4) : (E : Int).tmod 4 = (F : Int) := by rw [Int.tmod_eq_emod_of_nonneg (by omega)]; omega
/-- What stands while the columns are made. -/
structure Mix (w : World) (B X : List UInt8) (g1 g2 : Nat) (Y : List UInt8) (w2 : World) : Prop where
  y : Blk w2 g2 141 (bvs Y)
  f : Blk w2 (g2 + 1) 183 (bvs [2, 3, 1, 1])
  x : Blk w2 g1 141 (bvs X)
  base : Base w B (bvs (tb fun _ => 0)) w2
theorem Mix.drewN {w w2 : World} {B X Y : List UInt8} {g1 g2 : Nat} (h : Mix w B X g1 g2 Y w2) (n : Nat) : Mix w B X g1 g2 Y (w2.drewN n) :=
  have k := (Kp.refl nob w2).drewN n
  ⟨h.y.keep k (fun e => e), h.f.keep k (fun e => e), h.x.keep k (fun e => e), h.base.keep k (fun _ e => e.elim)⟩
theorem Mix.drew {w w2 : World} {B X Y : List UInt8} {g1 g2 : Nat} (h : Mix w B X g1 g2 Y w2) : Mix w B X g1 g2 Y w2.drew :=
  have k := (Kp.refl nob w2).drew
  ⟨h.y.keep k (fun e => e), h.f.keep k (fun e => e), h.x.keep k (fun e => e), h.base.keep k (fun _ e => e.elim)⟩
theorem Mix.set {w w2 : World} {B X Y : List UInt8} {g1 g2 : Nat} (h : Mix w B X g1 g2 Y w2) (h1 : w.heap.size + 1 < g1) (h2 : g1 < g2) (i : Nat) (u : UInt8) : Mix w B X g1 g2 (Y.set i u) (w2.setCell ⟨g2, i, none⟩ (.int .u8 (cb u))) :=
  ⟨by have := h.y.set_ i (.int .u8 (cb u)); rwa [bvs_setb] at this, h.f.far (by simp) _, h.x.far (by simp; omega) _, h.base.set (by simp; omega) _⟩

end Go.Proofs.Ytmmpmncioifeoaa.Aes
namespace Go.Proofs.Ytmmpmncioifeoaa.Aes
set_option linter.unusedVariables false
set_option linter.unusedSimpArgs false
open Go Go.RowKit Kit
open Field (cb cb_inj)

theorem arrB : Try.prog.underlying 142 = some (.array 16 5) := by kernel_rfl

set_option maxHeartbeats 1000000 in
set_option maxRecDepth 100000 in
theorem sum_any (a b : List UInt8) (w : World) (ha : a.length = 16) (hb : b.length = 16) :
    Calls Try.prog 110 #[.agg (bvs a).toArray, .agg (bvs b).toArray] w fun e w' => e = .returned (.agg (bvs (add b a)).toArray) ∧ Kp nob w w' := by
  have HA := Lib.hid ha; have HB := Lib.hid hb; clear ha hb
  go_enter Try.func110, Try.ntmps110
  go_wp2
  go_loopw [6] (fun vi wr => ∃ k : Nat, k ≤ 16 ∧ vi = .int .i64 k ∧ Blk wr w.heap.size 142 (bvs (pt (fun i => gb a i ^^^ gb b i) (gb a) k)) ∧ Blk wr (w.heap.size + 1) 142 (bvs b) ∧ (∃ z, z.length = 16 ∧ Blk wr (w.heap.size + 2) 142 z) ∧ Kp nob w wr)
    (fun vi _ => 16 - (intOf vi).toNat)
  case atStart => exact ⟨0, by omega, rfl, by rw [pt_zero, tb_gb _ HA.out]; simpa using ((Blk.new' rfl rfl).alloc _).alloc _, (Blk.new' (by simp) rfl).alloc _, ⟨_, rfl, Blk.new' (by simp) rfl⟩, (((Kp.refl _ _).alloc _).alloc _).alloc _⟩
  case round =>
    obtain ⟨k, hk, rfl, h1, h2, h3, hkp⟩ := hrel
    have H1 := Lib.hid h1; have H2 := Lib.hid h2; have H3 := Lib.hid h3; clear h1 h2 h3
    by_cases hlt : k < 16
    · have hc1 : wr.cell? ⟨w.heap.size, k, none⟩ = some (.int .u8 (cb (gb a k))) := by rw [H1.out.cell, pt_get _ _ _ hlt]
      have hc2 := blk_byte H2.out k (by rw [HB.out]; exact hlt)
      have hf1 : wr.frozen? ⟨w.heap.size, k, none⟩ = false := H1.out.frozen _
      go_wp2
      go_region
      go_wp2
      go_roundw
      case rel =>
        refine ⟨k + 1, by omega, by go_num, ?_, ?_, ?_, ?_⟩
        · have := (H1.out.keep (Kp.refl nob wr).drew (fun e => e)).set_ k (.int .u8 (cb (gb a k ^^^ gb b k)))
          rw [bvs_setb, pt_set (fun i => gb a i ^^^ gb b i)] at this
          exact this
        · exact (H2.out.keep (Kp.refl nob wr).drew (fun e => e)).far (by simp) _
        · obtain ⟨z, hz, h2⟩ := H3.out
          exact ⟨z, hz, (h2.keep (Kp.refl nob wr).drew (fun e => e)).far (by simp) _⟩
        · exact hkp.drew.setCell (.inr (Nat.le_refl _)) _
      case measure => simp [intOf]; omega
    · obtain rfl : k = 16 := by omega
      obtain ⟨z, hz, h2⟩ := H3.out
      have h1 := H1.out
      rw [pt_all, ← add_eq] at h1
      have HB1 := Lib.hid h1; have HB2 := Lib.hid h2; have HZ := Lib.hid hz
      have HM : Hid ((bvs (add b a)).length = 16) := Lib.hid (by rw [bvs_length, add_length])
      clear H1 H2 H3 h1 h2 hz
      go_wp2_with (first
        | (refine wpList_load_blk rfl 142 (.tmp 2) rfl _ _ _ HB1.out rfl _ arrB rfl (by rw [HM.out]; kernel_rfl) ?_)
        | (refine wpList_store_blk rfl 142 (.tmp 4) (.tmp 18) rfl _ _ z (bvs (add b a)) HB2.out rfl rfl (by rw [HZ.out, HM.out]) (by rw [HM.out]; kernel_rfl) (bvs_one _) ?_; intro w2 hB2 k2 z2))
      have hsz : (Try.prog.info? 142).map (·.size) = some (bvs (add b a)).toArray.size := by
        rw [List.size_toArray, HM.out]; kernel_rfl
      refine bodyPost_ret (results_cell_row rfl _ _ (w.heap.size + 2) _ _ _ _ rfl hB2 arrB rfl hsz) rfl ⟨rfl, hkp.since k2 (fun i e => by cases e; omega)⟩

theorem cb_in (x : UInt8) : 0 ≤ cb x ∧ cb x < 256 := ⟨Int.natCast_nonneg _, by have := x.toNat_lt; unfold cb; omega⟩
/-- A table of 256 bytes, at a place in a block. -/
def Tab (w : World) (g o : Nat) (f : UInt8 → UInt8) : Prop := g < w.heap.size ∧ ∀ x : UInt8, w.cell? ⟨g, o + x.toNat, none⟩ = some (.int .u8 (cb (f x)))
theorem Tab.keep {w w2 : World} {g o : Nat} {f : UInt8 → UInt8} (h : Tab w g o f) (k : Kp nob w w2) : Tab w2 g o f :=
  ⟨Nat.lt_of_lt_of_le h.1 k.size, fun x => by rw [k.cell h.1 (fun e => e)]; exact h.2 x⟩

set_option maxHeartbeats 1000000 in
set_option maxRecDepth 100000 in
theorem swapped_any (b : List UInt8) (g o : Nat) (f : UInt8 → UInt8) (w : World) (hb : b.length = 16) (ht : Tab w g o f) :
    Calls Try.prog 113 #[.agg (bvs b).toArray, .pointer (some ⟨g, o, none⟩)] w fun e w' => e = .returned (.agg (bvs (tb fun i => f (gb b i))).toArray) ∧ Kp nob w w' := by
  have HB := Lib.hid hb; clear hb
  have HT := Lib.hid ht; clear ht
  have HM : Hid ((bvs (tb fun i => f (gb b i))).length = 16) := Lib.hid (by rw [bvs_length, tb_length])
  go_enter Try.func113, Try.ntmps113
  go_wp2
  go_loopw [6] (fun vi wr => ∃ k : Nat, k ≤ 16 ∧ vi = .int .i64 k ∧ Blk wr w.heap.size 142 (bvs (pt (fun i => f (gb b i)) (gb b) k)) ∧ (∃ z, z.length = 16 ∧ Blk wr (w.heap.size + 1) 142 z) ∧ Kp nob w wr)
    (fun vi _ => 16 - (intOf vi).toNat)
  case atStart => exact ⟨0, by omega, rfl, by rw [pt_zero, tb_gb _ HB.out]; simpa using (Blk.new' rfl rfl).alloc _, ⟨_, rfl, Blk.new' (by simp) rfl⟩, ((Kp.refl _ _).alloc _).alloc _⟩
  case round =>
    obtain ⟨k, hk, rfl, h1, h2, hkp⟩ := hrel
    have H1 := Lib.hid h1; have H2 := Lib.hid h2; clear h1 h2
    by_cases hlt : k < 16
    · have hc1 : wr.cell? ⟨w.heap.size, k, none⟩ = some (.int .u8 (cb (gb b k))) := by rw [H1.out.cell, pt_get _ _ _ hlt]
      have hc2 : wr.cell? ⟨g, o + (cb (gb b k)).toNat, none⟩ = some (.int .u8 (cb (f (gb b k)))) := (HT.out.keep hkp).2 (gb b k)
      have hy : 0 ≤ cb (gb b k) ∧ cb (gb b k) < 256 := cb_in _
      have hf1 : wr.frozen? ⟨w.heap.size, k, none⟩ = false := H1.out.frozen _
      go_wp2
      go_region
      go_wp2
      go_roundw
      case rel =>
        refine ⟨k + 1, by omega, by go_num, ?_, ?_, ?_⟩
        · have := (H1.out.keep (Kp.refl nob wr).drew (fun e => e)).set_ k (.int .u8 (cb (f (gb b k))))
          rw [bvs_setb, pt_set (fun i => f (gb b i))] at this
          exact this
        · obtain ⟨z, hz, h2⟩ := H2.out
          exact ⟨z, hz, (h2.keep (Kp.refl nob wr).drew (fun e => e)).far (by simp) _⟩
        · exact hkp.drew.setCell (.inr (Nat.le_refl _)) _
      case measure => simp [intOf]; omega
    · obtain rfl : k = 16 := by omega
      obtain ⟨z, hz, h2⟩ := H2.out
      have h1 := H1.out
      rw [pt_all] at h1
      have HB1 := Lib.hid h1; have HB2 := Lib.hid h2; have HZ := Lib.hid hz
      clear H1 H2 h1 h2 hz
      go_wp2_with (first
        | (refine wpList_load_blk rfl 142 (.tmp 2) rfl _ _ _ HB1.out rfl _ arrB rfl (by rw [HM.out]; kernel_rfl) ?_)
        | (refine wpList_store_blk rfl 142 (.tmp 4) (.tmp 19) rfl _ _ z (bvs (tb fun i => f (gb b i))) HB2.out rfl rfl (by rw [HZ.out, HM.out]) (by rw [HM.out]; kernel_rfl) (bvs_one _) ?_; intro w2 hB2 k2 z2))
      have hsz : (Try.prog.info? 142).map (·.size) = some (bvs (tb fun i => f (gb b i))).toArray.size := by
        rw [List.size_toArray, HM.out]; kernel_rfl
      refine bodyPost_ret (results_cell_row rfl _ _ (w.heap.size + 1) _ _ _ _ rfl hB2 arrB rfl hsz) rfl ⟨rfl, hkp.since k2 (fun i e => by cases e; omega)⟩

/-- Rows turned n times over. -/
def trn [Inhabited Field.SqTab] (n : Nat) (b : List UInt8) : List UInt8 := tb fun i => gb b ((i + 4 * (i % 4) * n) % 16)
theorem trn_length [Inhabited Field.SqTab] (n : Nat) (b : List UInt8) : (trn n b).length = 16 := tb_length _
theorem trn_one [Inhabited Field.SqTab] (b : List UInt8) : trn 1 b = rows b := (rows_at b).symm
theorem trn_three [Inhabited Field.SqTab] (b : List UInt8) : trn 3 b = unrows b := (unrows_at b).symm
set_option maxHeartbeats 1000000 in
set_option maxRecDepth 100000 in
theorem turned_any [Inhabited Field.SqTab] (b : List UInt8) (n : Nat) (w : World) (hb : b.length = 16) (hn : n ≤ 3) :
    Calls Try.prog 112 #[.agg (bvs b).toArray, .int .i64 n] w fun e w' => e = .returned (.agg (bvs (trn n b)).toArray) ∧ Kp nob w w' := by
  have HB := Lib.hid hb; clear hb
  have HM : Hid ((bvs (trn n b)).length = 16) := Lib.hid (by rw [bvs_length, trn_length])
  go_enter Try.func112, Try.ntmps112
  go_wp2
  go_loopw [8] (fun vi wr => ∃ k : Nat, k ≤ 16 ∧ vi = .int .i64 k ∧ Blk wr w.heap.size 142 (bvs b) ∧ Blk wr (w.heap.size + 2) 142 (bvs (pt (fun i => gb b ((i + 4 * (i % 4) * n) % 16)) (fun _ => 0) k)) ∧ (∃ z, z.length = 16 ∧ Blk wr (w.heap.size + 1) 142 z) ∧ Kp nob w wr)
    (fun vi _ => 16 - (intOf vi).toNat)
  case atStart => exact ⟨0, by omega, rfl, by simpa using ((Blk.new' rfl rfl).alloc _).alloc _, by rw [pt_zero]; exact Blk.new' (by simp) rfl, ⟨_, rfl, (Blk.new' (by simp) rfl).alloc _⟩, (((Kp.refl _ _).alloc _).alloc _).alloc _⟩
  case round =>
    obtain ⟨k, hk, rfl, h1, h2, h3, hkp⟩ := hrel
    have H1 := Lib.hid h1; have H2 := Lib.hid h2; have H3 := Lib.hid h3; clear h1 h2 h3
    by_cases hlt : k < 16
    · obtain ⟨q, hq⟩ : ∃ q, q = k % 4 := ⟨_, rfl⟩
      obtain ⟨T, hT⟩ : ∃ T, T = 4 * q * n := ⟨_, rfl⟩
      have hT36 : T ≤ 36 := by
        have : 4 * q ≤ 12 := by omega
        have := Nat.mul_le_mul this hn
        omega
      obtain ⟨j, hj⟩ : ∃ j, j = (k + T) % 16 := ⟨_, rfl⟩
      have hj16 : j < 16 := by omega
      have hc1 := blk_byte H1.out j (by rw [HB.out]; exact hj16)
      have hf1 := H2.out.frozen k
      have hx := H2.out.cell k
      rw [pt_get _ _ _ hlt] at hx
      obtain ⟨C, hC⟩ : ∃ C, C = 4 * q := ⟨_, rfl⟩
      obtain ⟨Y, hY⟩ : ∃ Y, Y = k + T := ⟨_, rfl⟩
      have e1 : (k : Int).tmod 4 = (q : Int) := by rw [Int.tmod_eq_emod_of_nonneg (by omega)]; omega
      have e2 : IntKind.i64.wrap (4 * (q : Int)) = (C : Int) := wrap_to _ _ (by omega) (by omega)
      have e3 : IntKind.i64.wrap ((C : Int) * (n : Int)) = (T : Int) := wrap_to _ _ (by rw [hT, ← hC]; simp) (by omega)
      have e4 : IntKind.i64.wrap ((k : Int) + (T : Int)) = (Y : Int) := wrap_to _ _ (by omega) (by omega)
      have e5 : (Y : Int).tmod 16 = (j : Int) := by rw [Int.tmod_eq_emod_of_nonneg (by omega)]; omega
      have HJ := Lib.hid (show gb b ((k + 4 * (k % 4) * n) % 16) = gb b j by rw [hj, hT, hq])
      clear hj hT hq hC hY hT36
      go_wp2
      go_roundw
      case rel =>
        refine ⟨k + 1, by omega, by go_num, H1.out.far (by simp; omega) _, ?_, ?_, ?_⟩
        · have := H2.out.set_ k (.int .u8 (cb (gb b j)))
          rw [← HJ.out, bvs_setb, pt_set (fun i => gb b ((i + 4 * (i % 4) * n) % 16)), HJ.out] at this
          exact this
        · obtain ⟨z, hz, h2⟩ := H3.out
          exact ⟨z, hz, h2.far (by simp) _⟩
        · exact hkp.setCell (.inr (by simp; omega)) _
      case measure => simp [intOf]; omega
    · obtain rfl : k = 16 := by omega
      obtain ⟨z, hz, h2⟩ := H3.out
      have h1 := H2.out
      rw [pt_all] at h1
      have HB1 := Lib.hid (show Blk wr (w.heap.size + 2) 142 (bvs (trn n b)) from h1); have HB2 := Lib.hid h2; have HZ := Lib.hid hz
      clear H1 H2 H3 h1 h2 hz
      go_wp2_with (first
        | (refine wpList_load_blk rfl 142 (.tmp 5) rfl _ _ _ HB1.out rfl _ arrB rfl (by rw [HM.out]; kernel_rfl) ?_)
        | (refine wpList_store_blk rfl 142 (.tmp 4) (.tmp 25) rfl _ _ z (bvs (trn n b)) HB2.out rfl rfl (by rw [HZ.out, HM.out]) (by rw [HM.out]; kernel_rfl) (bvs_one _) ?_; intro w2 hB2 k2 z2))
      have hsz : (Try.prog.info? 142).map (·.size) = some (bvs (trn n b)).toArray.size := by
        rw [List.size_toArray, HM.out]; kernel_rfl
      refine bodyPost_ret (results_cell_row rfl _ _ (w.heap.size + 1) _ _ _ _ rfl hB2 arrB rfl hsz) rfl ⟨rfl, hkp.since k2 (fun i e => by cases e; omega)⟩

set_option maxHeartbeats 1000000 in
set_option maxRecDepth 100000 in
theorem mixed_any (b : List UInt8) (w : World) (hb : b.length = 16) :
    Calls Try.prog 111 #[.agg (bvs b).toArray] w fun e w' => e = .returned (.agg (bvs (mix b)).toArray) ∧ Kp nob w w' := by
  have HB := Lib.hid hb; clear hb
  have HM : Hid ((bvs (mix b)).length = 16) := Lib.hid (by rw [bvs_length, mix_length])
  go_enter Try.func111, Try.ntmps111
  go_wp2
  go_loopw [8] (fun vi wr => ∃ k : Nat, k ≤ 16 ∧ vi = .int .i64 k ∧ Blk wr w.heap.size 142 (bvs b) ∧ Blk wr (w.heap.size + 2) 142 (bvs (pt (fun i => col fac b (i / 4) (i % 4)) (fun _ => 0) k)) ∧ (∃ z, z.length = 16 ∧ Blk wr (w.heap.size + 1) 142 z) ∧ Kp nob w wr)
    (fun vi _ => 16 - (intOf vi).toNat)
  case atStart => exact ⟨0, by omega, rfl, by simpa using ((Blk.new' rfl rfl).alloc _).alloc _, by rw [pt_zero]; exact Blk.new' (by simp) rfl, ⟨_, rfl, (Blk.new' (by simp) rfl).alloc _⟩, (((Kp.refl _ _).alloc _).alloc _).alloc _⟩
  case round =>
    obtain ⟨k, hk, rfl, h1, h2, h3, hkp⟩ := hrel
    have H1 := Lib.hid h1; have H2 := Lib.hid h2; have H3 := Lib.hid h3; clear h1 h2 h3
    by_cases hlt : k < 16
    · obtain ⟨q, hq⟩ : ∃ q, q = k % 4 := ⟨_, rfl⟩
      obtain ⟨C, hC⟩ : ∃ C, C = k - q := ⟨_, rfl⟩
      obtain ⟨C1, hC1⟩ : ∃ C1, C1 = C + 1 := ⟨_, rfl⟩
      obtain ⟨C2, hC2⟩ : ∃ C2, C2 = C + 2 := ⟨_, rfl⟩
      obtain ⟨C3, hC3⟩ : ∃ C3, C3 = C + 3 := ⟨_, rfl⟩
      obtain ⟨K, hK⟩ : ∃ K, K = k + 1 := ⟨_, rfl⟩
      obtain ⟨m, hm⟩ : ∃ m, m = K % 4 := ⟨_, rfl⟩
      obtain ⟨M, hM⟩ : ∃ M, M = C + m := ⟨_, rfl⟩
      have hCC : C = 4 * (k / 4) := by omega
      have hlen := HB.out
      have c0 := blk_byte H1.out C (by omega)
      have c1 := blk_byte H1.out C1 (by omega)
      have c2 := blk_byte H1.out C2 (by omega)
      have c3 := blk_byte H1.out C3 (by omega)
      have ck := blk_byte H1.out k (by omega)
      have cM := blk_byte H1.out M (by omega)
      have hf1 := H2.out.frozen k
      have hx := H2.out.cell k
      rw [pt_get _ _ _ hlt] at hx
      have e1 : (k : Int).tmod 4 = (q : Int) := tmod_four _ _ hq
      have e2 : IntKind.i64.wrap ((k : Int) - (q : Int)) = (C : Int) := wrap_to _ _ (by omega) (by omega)
      have e3 : IntKind.i64.wrap ((C : Int) + 1) = (C1 : Int) := wrap_to _ _ (by omega) (by omega)
      have e4 : IntKind.i64.wrap ((C : Int) + 2) = (C2 : Int) := wrap_to _ _ (by omega) (by omega)
      have e5 : IntKind.i64.wrap ((C : Int) + 3) = (C3 : Int) := wrap_to _ _ (by omega) (by omega)
      have e6 : IntKind.i64.wrap ((k : Int) + 1) = (K : Int) := wrap_to _ _ (by omega) (by omega)
      have e7 : (K : Int).tmod 4 = (m : Int) := tmod_four _ _ hm
      have e8 : IntKind.i64.wrap ((C : Int) + (m : Int)) = (M : Int) := wrap_to _ _ (by omega) (by omega)
      have b0 : (0 : Int) ≤ (C : Int) ∧ (C : Int) < 16 := by omega
      have b1 : (0 : Int) ≤ (C1 : Int) ∧ (C1 : Int) < 16 := by omega
      have b2 : (0 : Int) ≤ (C2 : Int) ∧ (C2 : Int) < 16 := by omega
      have b3 : (0 : Int) ≤ (C3 : Int) ∧ (C3 : Int) < 16 := by omega
      have b4 : (0 : Int) ≤ (M : Int) ∧ (M : Int) < 16 := by omega
      have b5 : (0 : Int) ≤ (k : Int) ∧ (k : Int) < 16 := by omega
      have HCS := Lib.hid (show col fac b (k / 4) (k % 4) = gb b C ^^^ gb b C1 ^^^ gb b C2 ^^^ gb b C3 ^^^ gb b k ^^^ Field.tm (gb b k ^^^ gb b M) 2 by
        rw [col_short _ _ _ (by omega), ← hCC, ← hC1, ← hC2, ← hC3, show C + k % 4 = k by omega, show C + (k % 4 + 1) % 4 = M by omega])
      have HKK := Lib.hid hK
      clear hC hC1 hC2 hC3 hM hm hq hCC hlen hK
      go_wp2
      go_quiet (fail)
      go_wp2
      refine wp_region_still_tail 14 (by kernel_rfl) (by kernel_rfl) ?_
      change wpStill _ _ (wr.drewN nq).drew (fun a' => wpList _ _ _ _ a' (wr.drewN nq).drew) _ _
      have HD := Lib.hid ((Kp.refl nob wr).drewN nq).drew
      have d1 : (wr.drewN nq).drew.cell? ⟨w.heap.size, k, none⟩ = some (Value.int IntKind.u8 (cb (gb b k))) := ck
      have d2 : (wr.drewN nq).drew.cell? ⟨w.heap.size + 2, k, none⟩ = some (Value.int IntKind.u8 (cb 0)) := hx
      have d3 : (wr.drewN nq).drew.frozen? ⟨w.heap.size + 2, k, none⟩ = false := hf1
      clear ck hx hf1 c0 c1 c2 c3 cM
      generalize (wr.drewN nq).drew = wd at *
      simp only [List.take_succ_cons, List.take_zero, List.drop_succ_cons, List.drop_zero]
      repeat still_step
      still_call ((Field.twice_any (gb b k ^^^ gb b M) _).mono fun _ _ h => ⟨h.1, h.2.symm⟩)
      repeat still_step
      refine wpStill_nil ?_
      go_wp2
      have HK1 := Lib.hid (H1.out.keep HD.out (fun e => e))
      have HK2 := Lib.hid (H2.out.keep HD.out (fun e => e))
      have HKP := Lib.hid (hkp.trans HD.out (fun _ e => e.elim))
      go_roundw
      case rel =>
        have hKK := HKK.out
        refine ⟨k + 1, by omega, by go_num, HK1.out.far (by simp; omega) _, ?_, ?_, ?_⟩
        · have := HK2.out.set_ k (.int .u8 (cb (col fac b (k / 4) (k % 4))))
          rw [bvs_setb, pt_set (fun i => col fac b (i / 4) (i % 4)), HCS.out] at this
          exact this
        · obtain ⟨z, hz, h2⟩ := H3.out
          exact ⟨z, hz, (h2.keep HD.out (fun e => e)).far (by simp) _⟩
        · exact HKP.out.setCell (.inr (by simp; omega)) _
      case measure => have hKK := HKK.out; simp [intOf]; omega
    · obtain rfl : k = 16 := by omega
      obtain ⟨z, hz, h2⟩ := H3.out
      have h1 := H2.out
      rw [pt_all, ← mix_eq] at h1
      have HB1 := Lib.hid h1; have HB2 := Lib.hid h2; have HZ := Lib.hid hz
      clear H1 H2 H3 h1 h2 hz
      go_wp2_with (first
        | (refine wpList_load_blk rfl 142 (.tmp 3) rfl _ _ _ HB1.out rfl _ arrB rfl (by rw [HM.out]; kernel_rfl) ?_)
        | (refine wpList_store_blk rfl 142 (.tmp 2) (.tmp 55) rfl _ _ z (bvs (mix b)) HB2.out rfl rfl (by rw [HZ.out, HM.out]) (by rw [HM.out]; kernel_rfl) (bvs_one _) ?_; intro w2 hB2 k2 z2))
      have hsz : (Try.prog.info? 142).map (·.size) = some (bvs (mix b)).toArray.size := by
        rw [List.size_toArray, HM.out]; kernel_rfl
      refine bodyPost_ret (results_cell_row rfl _ _ (w.heap.size + 1) _ _ _ _ rfl hB2 arrB rfl hsz) rfl ⟨rfl, hkp.since k2 (fun i e => by cases e; omega)⟩

end Go.Proofs.Ytmmpmncioifeoaa.Aes
namespace Go.Proofs.Ytmmpmncioifeoaa.Aes
set_option linter.unusedVariables false
set_option linter.unusedSimpArgs false
open Go Go.RowKit Kit
open Field (cb cb_inj)

/-- Four bytes by their places. -/
def t4 (f : Nat → UInt8) : List UInt8 := [f 0, f 1, f 2, f 3]
theorem t4_length (f : Nat → UInt8) : (t4 f).length = 4 := rfl
theorem t4_ext {f g : Nat → UInt8} (h : ∀ i, i < 4 → f i = g i) : t4 f = t4 g := by
  rw [t4, t4, h 0 (by omega), h 1 (by omega), h 2 (by omega), h 3 (by omega)]
theorem t4_get (f : Nat → UInt8) (k : Nat) (h : k < 4) : (bvs (t4 f))[k]? = some (.int .u8 (cb (f k))) := by
  have : k = 0 ∨ k = 1 ∨ k = 2 ∨ k = 3 := by omega
  rcases this with rfl | rfl | rfl | rfl <;> rfl
theorem t4_set (f : Nat → UInt8) (k : Nat) (x : UInt8) (h : k < 4) : (t4 f).set k x = t4 fun i => if i = k then x else f i := by
  have : k = 0 ∨ k = 1 ∨ k = 2 ∨ k = 3 := by omega
  rcases this with rfl | rfl | rfl | rfl <;> simp [t4]
/-- The first k of four are made. -/
def p4 (f g : Nat → UInt8) (k : Nat) : List UInt8 := t4 fun i => if i < k then f i else g i
theorem p4_length (f g : Nat → UInt8) (k : Nat) : (p4 f g k).length = 4 := rfl
theorem p4_zero (f g : Nat → UInt8) : p4 f g 0 = t4 g := t4_ext fun i _ => if_neg (by omega)
theorem p4_all (f g : Nat → UInt8) : p4 f g 4 = t4 f := t4_ext fun i h => if_pos h
theorem p4_get (f g : Nat → UInt8) (k : Nat) (h : k < 4) : (bvs (p4 f g k))[k]? = some (.int .u8 (cb (g k))) := by rw [p4, t4_get _ _ h, if_neg (Nat.lt_irrefl k)]
theorem p4_set (f g : Nat → UInt8) (k : Nat) (h : k < 4) : (p4 f g k).set k (f k) = p4 f g (k + 1) := by
  rw [p4, t4_set _ _ _ h, p4]
  refine t4_ext fun i _ => ?_
  by_cases hi : i = k
  · subst hi; rw [if_pos rfl, if_pos (Nat.lt_succ_self _)]
  · rw [if_neg hi]
    by_cases h2 : i < k
    · rw [if_pos h2, if_pos (by omega)]
    · rw [if_neg h2, if_neg (by omega)]
attribute [irreducible] p4
theorem next_t4 [Inhabited Field.SqTab] (key : List UInt8) (n : Nat) (W : List UInt8) (i : Nat) : next key n W i = t4 (nextB key n W i) := rfl
theorem w4_info : (Try.prog.info? 183).map (fun i => (i.zero, i.size, i.bytes)) = some (some (.agg #[.int .u8 0, .int .u8 0, .int .u8 0, .int .u8 0]), 4, 4) := by kernel_rfl

/-- What stands in a round: the words ahead, the one that is made. -/
structure Ws [Inhabited Field.SqTab] (w : World) (key : List UInt8) (n i : Nat) (X : Option Addr) (cX g : Nat) (L : List UInt8) (w2 : World) : Prop where
  o : OwnK 4 183 w2 X i cX (bvs (words key n i))
  b : Blk w2 g 183 (bvs L)
  kp : Kp nob w w2
  far : ∀ k, ab X = some k → k < g
  lt : w.heap.size ≤ g
theorem Ws.drew [Inhabited Field.SqTab] {w w2 : World} {key : List UInt8} {n i : Nat} {X : Option Addr} {cX g : Nat} {L : List UInt8} (h : Ws w key n i X cX g L w2) : Ws w key n i X cX g L w2.drew :=
  have k := (Kp.refl nob w2).drew
  ⟨h.o.keep k (fun _ _ e => e), h.b.keep k (fun e => e), h.kp.drew, h.far, h.lt⟩
theorem Ws.set [Inhabited Field.SqTab] {w w2 : World} {key : List UInt8} {n i : Nat} {X : Option Addr} {cX g : Nat} {L : List UInt8} (h : Ws w key n i X cX g L w2) (k : Nat) (u : UInt8) : Ws w key n i X cX g (L.set k u) (w2.setCell ⟨g, k, none⟩ (.int .u8 (cb u))) :=
  ⟨h.o.keep (F := fun k => k = g) ((Kp.refl (fun k => k = g) w2).setCell (.inl rfl) _) (fun k e e' => by have := h.far k e; omega),
   by have := h.b.set_ k (.int .u8 (cb u)); rwa [bvs_setb] at this, h.kp.setCell (.inr h.lt) _, h.far, h.lt⟩
theorem Ws.keep [Inhabited Field.SqTab] {w w2 w3 : World} {key : List UInt8} {n i : Nat} {X : Option Addr} {cX g : Nat} {L : List UInt8} {F : Nat → Prop} (h : Ws w key n i X cX g L w2) (k : Kp F w2 w3) (hF : ∀ j, F j → g < j) : Ws w key n i X cX g L w3 :=
  ⟨h.o.keep k (fun j e e' => by have := h.far j e; have := hF j e'; omega), h.b.keep k (fun e => by have := hF _ e; omega), h.kp.since k (fun j e => by have := hF j e; have := h.lt; omega), h.far, h.lt⟩
/-- One word more. -/
theorem words_more [Inhabited Field.SqTab] {w w2 w5 : World} {key : List UInt8} {n i : Nat} {X X2 : Option Addr} {cX cX2 g : Nat} {L : List UInt8} {a : Obj} (h : Ws w key n i X cX g L w2) (hs : words key n (i + 1) = words key n i ++ L)
    (ho : OwnK 4 183 w5 X2 (i + 1) cX2 (bvs (words key n i) ++ bvs L)) (hg : (w2.alloc a).grownBy w5 (ab X)) (hab : ab X2 = ab X ∨ ab X2 = some (w2.alloc a).heap.size) (gX : ∀ k, ab X = some k → w.heap.size ≤ k) :
    OwnK 4 183 w5 X2 (i + 1) cX2 (bvs (words key n (i + 1))) ∧ (∀ k, ab X2 = some k → w.heap.size ≤ k) ∧ Kp nob w w5 := by
  refine ⟨by rw [hs, bvs_append]; exact ho, fun k e => ?_, ?_⟩
  · rcases hab with h1 | h1 <;> rw [h1] at e
    · exact gX k e
    · cases e; have := h.kp.size; simp; omega
  · exact h.kp.since (((Kp.refl (rowF X) w2).alloc a).grown hg (fun k e => .inl e)) (fun k e => gX k e)
/-- Four bytes of a row. -/
theorem row_four {w : World} {A : Option Addr} {W : List UInt8} (h : Row w A (bvs W)) (j : Nat) (hj : 4 * j + 4 ≤ W.length) : ∃ B o, A = some ⟨B, o, none⟩ ∧ w.rangeAt B (o + j * 4) (bvs (t4 fun k => gb W (4 * j + k))) := by
  obtain ⟨B, o, hA, hc⟩ := row_byte h (i := 0) (by omega)
  refine ⟨B, o, hA, fun k v hv => ?_⟩
  have hk : k < 4 := (List.getElem?_eq_some_iff.1 hv).1
  rw [t4_get _ _ hk] at hv
  rw [show o + j * 4 + k = o + (4 * j + k) by omega, hc _ (by omega), ← hv]
/-- .. and the one that it is made of. -/
structure Wt [Inhabited Field.SqTab] (w : World) (key : List UInt8) (n i : Nat) (X : Option Addr) (cX g : Nat) (L : List UInt8) (g2 : Nat) (M : List UInt8) (w2 : World) : Prop where
  s : Ws w key n i X cX g L w2
  t : Blk w2 g2 183 (bvs M)
theorem Wt.drew [Inhabited Field.SqTab] {w w2 : World} {key : List UInt8} {n i : Nat} {X : Option Addr} {cX g g2 : Nat} {L M : List UInt8} (h : Wt w key n i X cX g L g2 M w2) : Wt w key n i X cX g L g2 M w2.drew :=
  ⟨h.s.drew, h.t.keep (Kp.refl nob w2).drew (fun e => e)⟩
theorem Wt.sets [Inhabited Field.SqTab] {w w2 : World} {key : List UInt8} {n i : Nat} {X : Option Addr} {cX g g2 : Nat} {L M : List UInt8} (h : Wt w key n i X cX g L g2 M w2) (hg : g < g2) (k : Nat) (u : UInt8) : Wt w key n i X cX g (L.set k u) g2 M (w2.setCell ⟨g, k, none⟩ (.int .u8 (cb u))) :=
  ⟨h.s.set k u, h.t.far (by simp; omega) _⟩
theorem Wt.sett [Inhabited Field.SqTab] {w w2 : World} {key : List UInt8} {n i : Nat} {X : Option Addr} {cX g g2 : Nat} {L M : List UInt8} (h : Wt w key n i X cX g L g2 M w2) (hg : g < g2) (k : Nat) (u : UInt8) : Wt w key n i X cX g L g2 (M.set k u) (w2.setCell ⟨g2, k, none⟩ (.int .u8 (cb u))) :=
  ⟨h.s.keep (F := fun k => k = g2) ((Kp.refl (fun k => k = g2) w2).setCell (.inl rfl) _) (fun j e => by omega), by have := h.t.set_ k (.int .u8 (cb u)); rwa [bvs_setb] at this⟩
theorem four_ways (n i : Nat) : i % n = 0 ∨ (i % n ≠ 0 ∧ n = 8 ∧ i % 8 = 4) ∨ (i % n ≠ 0 ∧ n ≠ 8) ∨ (i % n ≠ 0 ∧ n = 8 ∧ i % 8 ≠ 4) := by
  by_cases h1 : i % n = 0
  · exact .inl h1
  · by_cases h2 : n = 8
    · by_cases h3 : i % 8 = 4
      · exact .inr (.inl ⟨h1, h2, h3⟩)
      · exact .inr (.inr (.inr ⟨h1, h2, h3⟩))
    · exact .inr (.inr (.inl ⟨h1, h2⟩))
theorem turned_a [Inhabited Field.SqTab] (n i : Nat) (P : Nat → UInt8) (h : i % n = 0) : t4 (turned n i P) = (t4 fun k => Field.gbox (P ((k + 1) % 4))).set 0 (Field.gbox (P 1) ^^^ rc (i / n - 1)) := by
  rw [t4_set _ _ _ (by omega)]
  refine t4_ext fun k hk => ?_
  rw [turned, if_pos h]
  by_cases h0 : k = 0
  · subst h0; rw [if_pos rfl, if_pos rfl]
  · rw [if_neg h0, if_neg h0, UInt8.xor_zero]
theorem turned_b [Inhabited Field.SqTab] (n i : Nat) (P : Nat → UInt8) (h : i % n ≠ 0) (h2 : n = 8 ∧ i % 8 = 4) : t4 (turned n i P) = t4 fun k => Field.gbox (P k) :=
  t4_ext fun k _ => by rw [turned, if_neg h, if_pos h2]
theorem turned_c [Inhabited Field.SqTab] (n i : Nat) (P : Nat → UInt8) (h : i % n ≠ 0) (h2 : ¬ (n = 8 ∧ i % 8 = 4)) : t4 (turned n i P) = [P 0, P 1, P 2, P 3] :=
  t4_ext (g := P) fun k _ => by rw [turned, if_neg h, if_neg h2]
theorem zero4 : bvs (t4 fun _ => 0) = [.int .u8 0, .int .u8 0, .int .u8 0, .int .u8 0] := rfl

end Go.Proofs.Ytmmpmncioifeoaa.Aes
