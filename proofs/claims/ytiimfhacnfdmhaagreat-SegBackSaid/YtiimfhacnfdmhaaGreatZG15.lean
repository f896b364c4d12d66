/- Lemmas: AesPg AesVg AesAg AesWg AesBg AesCg. -/
import Derived.Test.YtiimfhacnfdmhaaGreatZG14
set_option linter.unusedVariables false
set_option linter.unusedSimpArgs false
namespace Go.Proofs.YtiimfhacnfdmhaaGreat.Aes
open _root_.Go.Proofs.YtiimfhacnfdmhaaGreat.Field
def over (f g : Nat → Nat → UInt8) (j k : Nat) : UInt8 := tm (f j 0) (g 0 k) ^^^ tm (f j 1) (g 1 k) ^^^ tm (f j 2) (g 2 k) ^^^ tm (f j 3) (g 3 k)
theorem rows_at (b : List UInt8) : rows b = tb fun i => gb b ((i + 4 * (i % 4) * 1) % 16) := by
  rw [rows_eq]; exact tb_ext fun i hi => by congr 1; omega
theorem tm_three (x : UInt8) : tm x 3 = x ^^^ tm x 2 := by
  rw [show (3 : UInt8) = 1 ^^^ 2 by decide +kernel, tm_xor, tm_one]
theorem short0 (p q r s x y : UInt8) : x ^^^ (q ^^^ y) ^^^ r ^^^ s = p ^^^ q ^^^ r ^^^ s ^^^ p ^^^ (x ^^^ y) := by
  have e : p ^^^ q ^^^ r ^^^ s ^^^ p ^^^ (x ^^^ y) = (p ^^^ p) ^^^ (x ^^^ (q ^^^ y) ^^^ r ^^^ s) := by ac_rfl
  rw [e, UInt8.xor_self, UInt8.zero_xor]
theorem short1 (p q r s x y : UInt8) : p ^^^ x ^^^ (r ^^^ y) ^^^ s = p ^^^ q ^^^ r ^^^ s ^^^ q ^^^ (x ^^^ y) := by
  have e : p ^^^ q ^^^ r ^^^ s ^^^ q ^^^ (x ^^^ y) = (q ^^^ q) ^^^ (p ^^^ x ^^^ (r ^^^ y) ^^^ s) := by ac_rfl
  rw [e, UInt8.xor_self, UInt8.zero_xor]
theorem short2 (p q r s x y : UInt8) : p ^^^ q ^^^ x ^^^ (s ^^^ y) = p ^^^ q ^^^ r ^^^ s ^^^ r ^^^ (x ^^^ y) := by
  have e : p ^^^ q ^^^ r ^^^ s ^^^ r ^^^ (x ^^^ y) = (r ^^^ r) ^^^ (p ^^^ q ^^^ x ^^^ (s ^^^ y)) := by ac_rfl
  rw [e, UInt8.xor_self, UInt8.zero_xor]
theorem short3 (p q r s x y : UInt8) : (p ^^^ y) ^^^ q ^^^ r ^^^ x = p ^^^ q ^^^ r ^^^ s ^^^ s ^^^ (x ^^^ y) := by
  have e : p ^^^ q ^^^ r ^^^ s ^^^ s ^^^ (x ^^^ y) = (s ^^^ s) ^^^ ((p ^^^ y) ^^^ q ^^^ r ^^^ x) := by ac_rfl
  rw [e, UInt8.xor_self, UInt8.zero_xor]
theorem col_short (b : List UInt8) (c k : Nat) (hk : k < 4) :
    col fac b c k = gb b (4 * c) ^^^ gb b (4 * c + 1) ^^^ gb b (4 * c + 2) ^^^ gb b (4 * c + 3) ^^^ gb b (4 * c + k) ^^^ tm (gb b (4 * c + k) ^^^ gb b (4 * c + (k + 1) % 4)) 2 := by
  have hx (x y : UInt8) : tm (x ^^^ y) 2 = tm x 2 ^^^ tm y 2 := xor_tm _ _ _
  have f00 : fac 0 0 = 2 := by decide +kernel
  have f10 : fac 1 0 = 3 := by decide +kernel
  have f20 : fac 2 0 = 1 := by decide +kernel
  have f30 : fac 3 0 = 1 := by decide +kernel
  have f01 : fac 0 1 = 1 := by decide +kernel
  have f11 : fac 1 1 = 2 := by decide +kernel
  have f21 : fac 2 1 = 3 := by decide +kernel
  have f31 : fac 3 1 = 1 := by decide +kernel
  have f02 : fac 0 2 = 1 := by decide +kernel
  have f12 : fac 1 2 = 1 := by decide +kernel
  have f22 : fac 2 2 = 2 := by decide +kernel
  have f32 : fac 3 2 = 3 := by decide +kernel
  have f03 : fac 0 3 = 3 := by decide +kernel
  have f13 : fac 1 3 = 1 := by decide +kernel
  have f23 : fac 2 3 = 1 := by decide +kernel
  have f33 : fac 3 3 = 2 := by decide +kernel
  rw [hx, col]
  have : k = 0 ∨ k = 1 ∨ k = 2 ∨ k = 3 := by omega
  rcases this with rfl | rfl | rfl | rfl
  · rw [f00, f10, f20, f30, tm_three, tm_one, tm_one]
    show _ = gb b (4 * c) ^^^ gb b (4 * c + 1) ^^^ gb b (4 * c + 2) ^^^ gb b (4 * c + 3) ^^^ gb b (4 * c) ^^^ (tm (gb b (4 * c)) 2 ^^^ tm (gb b (4 * c + 1)) 2)
    exact short0 _ _ _ _ _ _
  · rw [f01, f11, f21, f31, tm_three, tm_one, tm_one]
    show _ = gb b (4 * c) ^^^ gb b (4 * c + 1) ^^^ gb b (4 * c + 2) ^^^ gb b (4 * c + 3) ^^^ gb b (4 * c + 1) ^^^ (tm (gb b (4 * c + 1)) 2 ^^^ tm (gb b (4 * c + 2)) 2)
    exact short1 _ _ _ _ _ _
  · rw [f02, f12, f22, f32, tm_three, tm_one, tm_one]
    show _ = gb b (4 * c) ^^^ gb b (4 * c + 1) ^^^ gb b (4 * c + 2) ^^^ gb b (4 * c + 3) ^^^ gb b (4 * c + 2) ^^^ (tm (gb b (4 * c + 2)) 2 ^^^ tm (gb b (4 * c + 3)) 2)
    exact short2 _ _ _ _ _ _
  · rw [f03, f13, f23, f33, tm_three, tm_one, tm_one]
    show _ = gb b (4 * c) ^^^ gb b (4 * c + 1) ^^^ gb b (4 * c + 2) ^^^ gb b (4 * c + 3) ^^^ gb b (4 * c + 3) ^^^ (tm (gb b (4 * c + 3)) 2 ^^^ tm (gb b (4 * c)) 2)
    exact short3 _ _ _ _ _ _
end Go.Proofs.YtiimfhacnfdmhaaGreat.Aes
namespace Go.Proofs.YtiimfhacnfdmhaaGreat.Aes
open Go Go.RowKit Kit
open Field (cb)
def cs (X : List UInt8) (i : Nat) : Nat → UInt8
  | 0 => 0
  | j + 1 => cs X i j ^^^ Field.tm (gb X (4 * (i / 4) + j)) (fac j (i % 4))
def ms (X : List UInt8) (q j : Nat) : List UInt8 := tb fun i => if i < q then cs X i 4 else if i = q then cs X i j else 0
attribute [irreducible] cs ms
structure Base (w : World) (B : List UInt8) (z : List Value) (w2 : World) : Prop where
  state : Blk w2 w.heap.size 135 (bvs B)
  ans : Blk w2 (w.heap.size + 1) 135 z
  kp : Kp nob w w2
theorem Base.drew {w w2 : World} {B : List UInt8} {z : List Value} (h : Base w B z w2) : Base w B z w2.drew :=
  ⟨h.state.keep (Kp.refl nob _).drew (fun e => e), h.ans.keep (Kp.refl nob _).drew (fun e => e), h.kp.drew⟩
theorem Base.alloc {w w2 : World} {B : List UInt8} {z : List Value} (h : Base w B z w2) (o : Obj) : Base w B z (w2.alloc o) := ⟨h.state.alloc o, h.ans.alloc o, h.kp.alloc o⟩
theorem Base.set {w w2 : World} {B : List UInt8} {z : List Value} (h : Base w B z w2) {p : Addr} (hp : w.heap.size + 1 < p.block) (u : Value) : Base w B z (w2.setCell p u) :=
  ⟨h.state.far (by omega) u, h.ans.far (by omega) u, h.kp.setCell (.inr (by omega)) u⟩
theorem Base.keep {w w2 w3 : World} {F : Nat → Prop} {B : List UInt8} {z : List Value} (h : Base w B z w2) (k : Kp F w2 w3) (hF : ∀ i, F i → w.heap.size + 1 < i) : Base w B z w3 :=
  ⟨h.state.keep k (fun e => by have := hF _ e; omega), h.ans.keep k (fun e => by have := hF _ e; omega), h.kp.since k (fun i e => by have := hF i e; omega)⟩
theorem Base.lt {w w2 : World} {B : List UInt8} {z : List Value} (h : Base w B z w2) : w.heap.size + 1 < w2.heap.size := h.ans.lt
theorem wrap_to (x : Int) (n : Nat) (h : x = (n : Int)) (hn : n < 1000000) : IntKind.i64.wrap x = (n : Int) := by rw [h, IntKind.wrap_i64]; omega
theorem tmod_four (E F : Nat) (h : F = E % 4) : (E : Int).tmod 4 = (F : Int) := by rw [Int.tmod_eq_emod_of_nonneg (by omega)]; omega
structure Mix (w : World) (B X : List UInt8) (g1 g2 : Nat) (Y : List UInt8) (w2 : World) : Prop where
  y : Blk w2 g2 135 (bvs Y)
  f : Blk w2 (g2 + 1) 161 (bvs [2, 3, 1, 1])
  x : Blk w2 g1 135 (bvs X)
  base : Base w B (bvs (tb fun _ => 0)) w2
theorem Mix.drewN {w w2 : World} {B X Y : List UInt8} {g1 g2 : Nat} (h : Mix w B X g1 g2 Y w2) (n : Nat) : Mix w B X g1 g2 Y (w2.drewN n) :=
  have k := (Kp.refl nob w2).drewN n
  ⟨h.y.keep k (fun e => e), h.f.keep k (fun e => e), h.x.keep k (fun e => e), h.base.keep k (fun _ e => e.elim)⟩
theorem Mix.drew {w w2 : World} {B X Y : List UInt8} {g1 g2 : Nat} (h : Mix w B X g1 g2 Y w2) : Mix w B X g1 g2 Y w2.drew :=
  have k := (Kp.refl nob w2).drew
  ⟨h.y.keep k (fun e => e), h.f.keep k (fun e => e), h.x.keep k (fun e => e), h.base.keep k (fun _ e => e.elim)⟩
theorem Mix.set {w w2 : World} {B X Y : List UInt8} {g1 g2 : Nat} (h : Mix w B X g1 g2 Y w2) (h1 : w.heap.size + 1 < g1) (h2 : g1 < g2) (i : Nat) (u : UInt8) : Mix w B X g1 g2 (Y.set i u) (w2.setCell ⟨g2, i, none⟩ (.int .u8 (cb u))) :=
  ⟨by have := h.y.set_ i (.int .u8 (cb u)); rwa [bvs_setb] at this, h.f.far (by simp) _, h.x.far (by simp; omega) _, h.base.set (by simp; omega) _⟩
theorem arrB : Tryz.prog.underlying 210 = some (.array 16 5) := by kernel_rfl
set_option maxHeartbeats 1000000 in
set_option maxRecDepth 100000 in
theorem sum_any (a b : List UInt8) (w : World) (ha : a.length = 16) (hb : b.length = 16) :
    Calls Tryz.prog 167 #[.agg (bvs a).toArray, .agg (bvs b).toArray] w fun e w' => e = .returned (.agg (bvs (add b a)).toArray) ∧ Kp nob w w' := by
  have HA := Lib.hid ha; have HB := Lib.hid hb; clear ha hb
  go_enter Tryz.func167, Tryz.ntmps167
  go_wp2
  go_loopw [6] (fun vi wr => ∃ k : Nat, k ≤ 16 ∧ vi = .int .i64 k ∧ Blk wr w.heap.size 210 (bvs (pt (fun i => gb a i ^^^ gb b i) (gb a) k)) ∧ Blk wr (w.heap.size + 1) 210 (bvs b) ∧ (∃ z, z.length = 16 ∧ Blk wr (w.heap.size + 2) 210 z) ∧ Kp nob w wr)
    (fun vi _ => 16 - (intOf vi).toNat)
  case atStart => exact ⟨0, by omega, rfl, by rw [pt_zero, tb_gb _ HA.out]; simpa using ((Blk.new' rfl rfl).alloc _).alloc _, (Blk.new' (by simp) rfl).alloc _, ⟨_, rfl, Blk.new' (by simp) rfl⟩, (((Kp.refl _ _).alloc _).alloc _).alloc _⟩
  case round =>
    obtain ⟨k, hk, rfl, h1, h2, h3, hkp⟩ := hrel
    have H1 := Lib.hid h1; have H2 := Lib.hid h2; have H3 := Lib.hid h3; clear h1 h2 h3
    by_cases hlt : k < 16
    · have hc1 : wr.cell? ⟨w.heap.size, k, none⟩ = some (.int .u8 (cb (gb a k))) := by rw [H1.out.cell, pt_get _ _ _ hlt]
      have hc2 := blk_byte H2.out k (by rw [HB.out]; exact hlt)
      have hf1 : wr.frozen? ⟨w.heap.size, k, none⟩ = false := H1.out.frozen _
      go_wp2
      go_region
      go_wp2
      go_roundw
      case rel =>
        refine ⟨k + 1, by omega, by go_num, ?_, ?_, ?_, ?_⟩
        · have := (H1.out.keep (Kp.refl nob wr).drew (fun e => e)).set_ k (.int .u8 (cb (gb a k ^^^ gb b k)))
          rw [bvs_setb, pt_set (fun i => gb a i ^^^ gb b i)] at this
          exact this
        · exact (H2.out.keep (Kp.refl nob wr).drew (fun e => e)).far (by simp) _
        · obtain ⟨z, hz, h2⟩ := H3.out
          exact ⟨z, hz, (h2.keep (Kp.refl nob wr).drew (fun e => e)).far (by simp) _⟩
        · exact hkp.drew.setCell (.inr (Nat.le_refl _)) _
      case measure => simp [intOf]; omega
    · obtain rfl : k = 16 := by omega
      obtain ⟨z, hz, h2⟩ := H3.out
      have h1 := H1.out
      rw [pt_all, ← add_eq] at h1
      have HB1 := Lib.hid h1; have HB2 := Lib.hid h2; have HZ := Lib.hid hz
      have HM : Hid ((bvs (add b a)).length = 16) := Lib.hid (by rw [bvs_length, add_length])
      clear H1 H2 H3 h1 h2 hz
      go_wp2_with (first
        | (refine wpList_load_blk rfl 210 (.tmp 2) rfl _ _ _ HB1.out rfl _ arrB rfl (by rw [HM.out]; kernel_rfl) ?_)
        | (refine wpList_store_blk rfl 210 (.tmp 4) (.tmp 18) rfl _ _ z (bvs (add b a)) HB2.out rfl rfl (by rw [HZ.out, HM.out]) (by rw [HM.out]; kernel_rfl) (bvs_one _) ?_; intro w2 hB2 k2 z2))
      have hsz : (Tryz.prog.info? 210).map (·.size) = some (bvs (add b a)).toArray.size := by
        rw [List.size_toArray, HM.out]; kernel_rfl
      refine bodyPost_ret (results_cell_row rfl _ _ (w.heap.size + 2) _ _ _ _ rfl hB2 arrB rfl hsz) rfl ⟨rfl, hkp.since k2 (fun i e => by cases e; omega)⟩
theorem cb_in (x : UInt8) : 0 ≤ cb x ∧ cb x < 256 := ⟨Int.natCast_nonneg _, by have := x.toNat_lt; unfold cb; omega⟩
def Tab (w : World) (g o : Nat) (f : UInt8 → UInt8) : Prop := g < w.heap.size ∧ ∀ x : UInt8, w.cell? ⟨g, o + x.toNat, none⟩ = some (.int .u8 (cb (f x)))
theorem Tab.keep {w w2 : World} {g o : Nat} {f : UInt8 → UInt8} (h : Tab w g o f) (k : Kp nob w w2) : Tab w2 g o f :=
  ⟨Nat.lt_of_lt_of_le h.1 k.size, fun x => by rw [k.cell h.1 (fun e => e)]; exact h.2 x⟩
set_option maxHeartbeats 1000000 in
set_option maxRecDepth 100000 in
theorem swapped_any (b : List UInt8) (g o : Nat) (f : UInt8 → UInt8) (w : World) (hb : b.length = 16) (ht : Tab w g o f) :
    Calls Tryz.prog 170 #[.agg (bvs b).toArray, .pointer (some ⟨g, o, none⟩)] w fun e w' => e = .returned (.agg (bvs (tb fun i => f (gb b i))).toArray) ∧ Kp nob w w' := by
  have HB := Lib.hid hb; clear hb
  have HT := Lib.hid ht; clear ht
  have HM : Hid ((bvs (tb fun i => f (gb b i))).length = 16) := Lib.hid (by rw [bvs_length, tb_length])
  go_enter Tryz.func170, Tryz.ntmps170
  go_wp2
  go_loopw [6] (fun vi wr => ∃ k : Nat, k ≤ 16 ∧ vi = .int .i64 k ∧ Blk wr w.heap.size 210 (bvs (pt (fun i => f (gb b i)) (gb b) k)) ∧ (∃ z, z.length = 16 ∧ Blk wr (w.heap.size + 1) 210 z) ∧ Kp nob w wr)
    (fun vi _ => 16 - (intOf vi).toNat)
  case atStart => exact ⟨0, by omega, rfl, by rw [pt_zero, tb_gb _ HB.out]; simpa using (Blk.new' rfl rfl).alloc _, ⟨_, rfl, Blk.new' (by simp) rfl⟩, ((Kp.refl _ _).alloc _).alloc _⟩
  case round =>
    obtain ⟨k, hk, rfl, h1, h2, hkp⟩ := hrel
    have H1 := Lib.hid h1; have H2 := Lib.hid h2; clear h1 h2
    by_cases hlt : k < 16
    · have hc1 : wr.cell? ⟨w.heap.size, k, none⟩ = some (.int .u8 (cb (gb b k))) := by rw [H1.out.cell, pt_get _ _ _ hlt]
      have hc2 : wr.cell? ⟨g, o + (cb (gb b k)).toNat, none⟩ = some (.int .u8 (cb (f (gb b k)))) := (HT.out.keep hkp).2 (gb b k)
      have hy : 0 ≤ cb (gb b k) ∧ cb (gb b k) < 256 := cb_in _
      have hf1 : wr.frozen? ⟨w.heap.size, k, none⟩ = false := H1.out.frozen _
      go_wp2
      go_region
      go_wp2
      go_roundw
      case rel =>
        refine ⟨k + 1, by omega, by go_num, ?_, ?_, ?_⟩
        · have := (H1.out.keep (Kp.refl nob wr).drew (fun e => e)).set_ k (.int .u8 (cb (f (gb b k))))
          rw [bvs_setb, pt_set (fun i => f (gb b i))] at this
          exact this
        · obtain ⟨z, hz, h2⟩ := H2.out
          exact ⟨z, hz, (h2.keep (Kp.refl nob wr).drew (fun e => e)).far (by simp) _⟩
        · exact hkp.drew.setCell (.inr (Nat.le_refl _)) _
      case measure => simp [intOf]; omega
    · obtain rfl : k = 16 := by omega
      obtain ⟨z, hz, h2⟩ := H2.out
      have h1 := H1.out
      rw [pt_all] at h1
      have HB1 := Lib.hid h1; have HB2 := Lib.hid h2; have HZ := Lib.hid hz
      clear H1 H2 h1 h2 hz
      go_wp2_with (first
        | (refine wpList_load_blk rfl 210 (.tmp 2) rfl _ _ _ HB1.out rfl _ arrB rfl (by rw [HM.out]; kernel_rfl) ?_)
        | (refine wpList_store_blk rfl 210 (.tmp 4) (.tmp 19) rfl _ _ z (bvs (tb fun i => f (gb b i))) HB2.out rfl rfl (by rw [HZ.out, HM.out]) (by rw [HM.out]; kernel_rfl) (bvs_one _) ?_; intro w2 hB2 k2 z2))
      have hsz : (Tryz.prog.info? 210).map (·.size) = some (bvs (tb fun i => f (gb b i))).toArray.size := by
        rw [List.size_toArray, HM.out]; kernel_rfl
      refine bodyPost_ret (results_cell_row rfl _ _ (w.heap.size + 1) _ _ _ _ rfl hB2 arrB rfl hsz) rfl ⟨rfl, hkp.since k2 (fun i e => by cases e; omega)⟩
def trn [Inhabited Field.SqTab] (n : Nat) (b : List UInt8) : List UInt8 := tb fun i => gb b ((i + 4 * (i % 4) * n) % 16)
theorem trn_length [Inhabited Field.SqTab] (n : Nat) (b : List UInt8) : (trn n b).length = 16 := tb_length _
theorem trn_one [Inhabited Field.SqTab] (b : List UInt8) : trn 1 b = rows b := (rows_at b).symm
set_option maxHeartbeats 1000000 in
set_option maxRecDepth 100000 in
theorem turned_any [Inhabited Field.SqTab] (b : List UInt8) (n : Nat) (w : World) (hb : b.length = 16) (hn : n ≤ 3) :
    Calls Tryz.prog 169 #[.agg (bvs b).toArray, .int .i64 n] w fun e w' => e = .returned (.agg (bvs (trn n b)).toArray) ∧ Kp nob w w' := by
  have HB := Lib.hid hb; clear hb
  have HM : Hid ((bvs (trn n b)).length = 16) := Lib.hid (by rw [bvs_length, trn_length])
  go_enter Tryz.func169, Tryz.ntmps169
  go_wp2
  go_loopw [8] (fun vi wr => ∃ k : Nat, k ≤ 16 ∧ vi = .int .i64 k ∧ Blk wr w.heap.size 210 (bvs b) ∧ Blk wr (w.heap.size + 2) 210 (bvs (pt (fun i => gb b ((i + 4 * (i % 4) * n) % 16)) (fun _ => 0) k)) ∧ (∃ z, z.length = 16 ∧ Blk wr (w.heap.size + 1) 210 z) ∧ Kp nob w wr)
    (fun vi _ => 16 - (intOf vi).toNat)
  case atStart => exact ⟨0, by omega, rfl, by simpa using ((Blk.new' rfl rfl).alloc _).alloc _, by rw [pt_zero]; exact Blk.new' (by simp) rfl, ⟨_, rfl, (Blk.new' (by simp) rfl).alloc _⟩, (((Kp.refl _ _).alloc _).alloc _).alloc _⟩
  case round =>
    obtain ⟨k, hk, rfl, h1, h2, h3, hkp⟩ := hrel
    have H1 := Lib.hid h1; have H2 := Lib.hid h2; have H3 := Lib.hid h3; clear h1 h2 h3
    by_cases hlt : k < 16
    · obtain ⟨q, hq⟩ : ∃ q, q = k % 4 := ⟨_, rfl⟩
      obtain ⟨T, hT⟩ : ∃ T, T = 4 * q * n := ⟨_, rfl⟩
      have hT36 : T ≤ 36 := by
        have : 4 * q ≤ 12 := by omega
        have := Nat.mul_le_mul this hn
        omega
      obtain ⟨j, hj⟩ : ∃ j, j = (k + T) % 16 := ⟨_, rfl⟩
      have hj16 : j < 16 := by omega
      have hc1 := blk_byte H1.out j (by rw [HB.out]; exact hj16)
      have hf1 := H2.out.frozen k
      have hx := H2.out.cell k
      rw [pt_get _ _ _ hlt] at hx
      obtain ⟨C, hC⟩ : ∃ C, C = 4 * q := ⟨_, rfl⟩
      obtain ⟨Y, hY⟩ : ∃ Y, Y = k + T := ⟨_, rfl⟩
      have e1 : (k : Int).tmod 4 = (q : Int) := by rw [Int.tmod_eq_emod_of_nonneg (by omega)]; omega
      have e2 : IntKind.i64.wrap (4 * (q : Int)) = (C : Int) := wrap_to _ _ (by omega) (by omega)
      have e3 : IntKind.i64.wrap ((C : Int) * (n : Int)) = (T : Int) := wrap_to _ _ (by rw [hT, ← hC]; simp) (by omega)
      have e4 : IntKind.i64.wrap ((k : Int) + (T : Int)) = (Y : Int) := wrap_to _ _ (by omega) (by omega)
      have e5 : (Y : Int).tmod 16 = (j : Int) := by rw [Int.tmod_eq_emod_of_nonneg (by omega)]; omega
      have HJ := Lib.hid (show gb b ((k + 4 * (k % 4) * n) % 16) = gb b j by rw [hj, hT, hq])
      clear hj hT hq hC hY hT36
      go_wp2
      go_roundw
      case rel =>
        refine ⟨k + 1, by omega, by go_num, H1.out.far (by simp; omega) _, ?_, ?_, ?_⟩
        · have := H2.out.set_ k (.int .u8 (cb (gb b j)))
          rw [← HJ.out, bvs_setb, pt_set (fun i => gb b ((i + 4 * (i % 4) * n) % 16)), HJ.out] at this
          exact this
        · obtain ⟨z, hz, h2⟩ := H3.out
          exact ⟨z, hz, h2.far (by simp) _⟩
        · exact hkp.setCell (.inr (by simp; omega)) _
      case measure => simp [intOf]; omega
    · obtain rfl : k = 16 := by omega
      obtain ⟨z, hz, h2⟩ := H3.out
      have h1 := H2.out
      rw [pt_all] at h1
      have HB1 := Lib.hid (show Blk wr (w.heap.size + 2) 210 (bvs (trn n b)) from h1); have HB2 := Lib.hid h2; have HZ := Lib.hid hz
      clear H1 H2 H3 h1 h2 hz
      go_wp2_with (first
        | (refine wpList_load_blk rfl 210 (.tmp 5) rfl _ _ _ HB1.out rfl _ arrB rfl (by rw [HM.out]; kernel_rfl) ?_)
        | (refine wpList_store_blk rfl 210 (.tmp 4) (.tmp 25) rfl _ _ z (bvs (trn n b)) HB2.out rfl rfl (by rw [HZ.out, HM.out]) (by rw [HM.out]; kernel_rfl) (bvs_one _) ?_; intro w2 hB2 k2 z2))
      have hsz : (Tryz.prog.info? 210).map (·.size) = some (bvs (trn n b)).toArray.size := by
        rw [List.size_toArray, HM.out]; kernel_rfl
      refine bodyPost_ret (results_cell_row rfl _ _ (w.heap.size + 1) _ _ _ _ rfl hB2 arrB rfl hsz) rfl ⟨rfl, hkp.since k2 (fun i e => by cases e; omega)⟩
set_option maxHeartbeats 1000000 in
set_option maxRecDepth 100000 in
theorem mixed_any (b : List UInt8) (w : World) (hb : b.length = 16) :
    Calls Tryz.prog 168 #[.agg (bvs b).toArray] w fun e w' => e = .returned (.agg (bvs (mix b)).toArray) ∧ Kp nob w w' := by
  have HB := Lib.hid hb; clear hb
  have HM : Hid ((bvs (mix b)).length = 16) := Lib.hid (by rw [bvs_length, mix_length])
  go_enter Tryz.func168, Tryz.ntmps168
  go_wp2
  go_loopw [8] (fun vi wr => ∃ k : Nat, k ≤ 16 ∧ vi = .int .i64 k ∧ Blk wr w.heap.size 210 (bvs b) ∧ Blk wr (w.heap.size + 2) 210 (bvs (pt (fun i => col fac b (i / 4) (i % 4)) (fun _ => 0) k)) ∧ (∃ z, z.length = 16 ∧ Blk wr (w.heap.size + 1) 210 z) ∧ Kp nob w wr)
    (fun vi _ => 16 - (intOf vi).toNat)
  case atStart => exact ⟨0, by omega, rfl, by simpa using ((Blk.new' rfl rfl).alloc _).alloc _, by rw [pt_zero]; exact Blk.new' (by simp) rfl, ⟨_, rfl, (Blk.new' (by simp) rfl).alloc _⟩, (((Kp.refl _ _).alloc _).alloc _).alloc _⟩
  case round =>
    obtain ⟨k, hk, rfl, h1, h2, h3, hkp⟩ := hrel
    have H1 := Lib.hid h1; have H2 := Lib.hid h2; have H3 := Lib.hid h3; clear h1 h2 h3
    by_cases hlt : k < 16
    · obtain ⟨q, hq⟩ : ∃ q, q = k % 4 := ⟨_, rfl⟩
      obtain ⟨C, hC⟩ : ∃ C, C = k - q := ⟨_, rfl⟩
      obtain ⟨C1, hC1⟩ : ∃ C1, C1 = C + 1 := ⟨_, rfl⟩
      obtain ⟨C2, hC2⟩ : ∃ C2, C2 = C + 2 := ⟨_, rfl⟩
      obtain ⟨C3, hC3⟩ : ∃ C3, C3 = C + 3 := ⟨_, rfl⟩
      obtain ⟨K, hK⟩ : ∃ K, K = k + 1 := ⟨_, rfl⟩
      obtain ⟨m, hm⟩ : ∃ m, m = K % 4 := ⟨_, rfl⟩
      obtain ⟨M, hM⟩ : ∃ M, M = C + m := ⟨_, rfl⟩
      have hCC : C = 4 * (k / 4) := by omega
      have hlen := HB.out
      have c0 := blk_byte H1.out C (by omega)
      have c1 := blk_byte H1.out C1 (by omega)
      have c2 := blk_byte H1.out C2 (by omega)
      have c3 := blk_byte H1.out C3 (by omega)
      have ck := blk_byte H1.out k (by omega)
      have cM := blk_byte H1.out M (by omega)
      have hf1 := H2.out.frozen k
      have hx := H2.out.cell k
      rw [pt_get _ _ _ hlt] at hx
      have e1 : (k : Int).tmod 4 = (q : Int) := tmod_four _ _ hq
      have e2 : IntKind.i64.wrap ((k : Int) - (q : Int)) = (C : Int) := wrap_to _ _ (by omega) (by omega)
      have e3 : IntKind.i64.wrap ((C : Int) + 1) = (C1 : Int) := wrap_to _ _ (by omega) (by omega)
      have e4 : IntKind.i64.wrap ((C : Int) + 2) = (C2 : Int) := wrap_to _ _ (by omega) (by omega)
      have e5 : IntKind.i64.wrap ((C : Int) + 3) = (C3 : Int) := wrap_to _ _ (by omega) (by omega)
      have e6 : IntKind.i64.wrap ((k : Int) + 1) = (K : Int) := wrap_to _ _ (by omega) (by omega)
      have e7 : (K : Int).tmod 4 = (m : Int) := tmod_four _ _ hm
      have e8 : IntKind.i64.wrap ((C : Int) + (m : Int)) = (M : Int) := wrap_to _ _ (by omega) (by omega)
      have b0 : (0 : Int) ≤ (C : Int) ∧ (C : Int) < 16 := by omega
      have b1 : (0 : Int) ≤ (C1 : Int) ∧ (C1 : Int) < 16 := by omega
      have b2 : (0 : Int) ≤ (C2 : Int) ∧ (C2 : Int) < 16 := by omega
      have b3 : (0 : Int) ≤ (C3 : Int) ∧ (C3 : Int) < 16 := by omega
      have b4 : (0 : Int) ≤ (M : Int) ∧ (M : Int) < 16 := by omega
      have b5 : (0 : Int) ≤ (k : Int) ∧ (k : Int) < 16 := by omega
      have HCS := Lib.hid (show col fac b (k / 4) (k % 4) = gb b C ^^^ gb b C1 ^^^ gb b C2 ^^^ gb b C3 ^^^ gb b k ^^^ Field.tm (gb b k ^^^ gb b M) 2 by
        rw [col_short _ _ _ (by omega), ← hCC, ← hC1, ← hC2, ← hC3, show C + k % 4 = k by omega, show C + (k % 4 + 1) % 4 = M by omega])
      have HKK := Lib.hid hK
      clear hC hC1 hC2 hC3 hM hm hq hCC hlen hK
      go_wp2
      go_quiet (fail)
      go_wp2
      refine wp_region_still_tail 14 (by kernel_rfl) (by kernel_rfl) ?_
      change wpStill _ _ (wr.drewN nq).drew (fun a' => wpList _ _ _ _ a' (wr.drewN nq).drew) _ _
      have HD := Lib.hid ((Kp.refl nob wr).drewN nq).drew
      have d1 : (wr.drewN nq).drew.cell? ⟨w.heap.size, k, none⟩ = some (Value.int IntKind.u8 (cb (gb b k))) := ck
      have d2 : (wr.drewN nq).drew.cell? ⟨w.heap.size + 2, k, none⟩ = some (Value.int IntKind.u8 (cb 0)) := hx
      have d3 : (wr.drewN nq).drew.frozen? ⟨w.heap.size + 2, k, none⟩ = false := hf1
      clear ck hx hf1 c0 c1 c2 c3 cM
      generalize (wr.drewN nq).drew = wd at *
      simp only [List.take_succ_cons, List.take_zero, List.drop_succ_cons, List.drop_zero]
      repeat still_step
      still_call ((Field.twice_any (gb b k ^^^ gb b M) _).mono fun _ _ h => ⟨h.1, h.2.symm⟩)
      repeat still_step
      refine wpStill_nil ?_
      go_wp2
      have HK1 := Lib.hid (H1.out.keep HD.out (fun e => e))
      have HK2 := Lib.hid (H2.out.keep HD.out (fun e => e))
      have HKP := Lib.hid (hkp.trans HD.out (fun _ e => e.elim))
      go_roundw
      case rel =>
        have hKK := HKK.out
        refine ⟨k + 1, by omega, by go_num, HK1.out.far (by simp; omega) _, ?_, ?_, ?_⟩
        · have := HK2.out.set_ k (.int .u8 (cb (col fac b (k / 4) (k % 4))))
          rw [bvs_setb, pt_set (fun i => col fac b (i / 4) (i % 4)), HCS.out] at this
          exact this
        · obtain ⟨z, hz, h2⟩ := H3.out
          exact ⟨z, hz, (h2.keep HD.out (fun e => e)).far (by simp) _⟩
        · exact HKP.out.setCell (.inr (by simp; omega)) _
      case measure => have hKK := HKK.out; simp [intOf]; omega
    · obtain rfl : k = 16 := by omega
      obtain ⟨z, hz, h2⟩ := H3.out
      have h1 := H2.out
      rw [pt_all, ← mix_eq] at h1
      have HB1 := Lib.hid h1; have HB2 := Lib.hid h2; have HZ := Lib.hid hz
      clear H1 H2 H3 h1 h2 hz
      go_wp2_with (first
        | (refine wpList_load_blk rfl 210 (.tmp 3) rfl _ _ _ HB1.out rfl _ arrB rfl (by rw [HM.out]; kernel_rfl) ?_)
        | (refine wpList_store_blk rfl 210 (.tmp 2) (.tmp 55) rfl _ _ z (bvs (mix b)) HB2.out rfl rfl (by rw [HZ.out, HM.out]) (by rw [HM.out]; kernel_rfl) (bvs_one _) ?_; intro w2 hB2 k2 z2))
      have hsz : (Tryz.prog.info? 210).map (·.size) = some (bvs (mix b)).toArray.size := by
        rw [List.size_toArray, HM.out]; kernel_rfl
      refine bodyPost_ret (results_cell_row rfl _ _ (w.heap.size + 1) _ _ _ _ rfl hB2 arrB rfl hsz) rfl ⟨rfl, hkp.since k2 (fun i e => by cases e; omega)⟩
def t4 (f : Nat → UInt8) : List UInt8 := [f 0, f 1, f 2, f 3]
theorem t4_length (f : Nat → UInt8) : (t4 f).length = 4 := rfl
theorem t4_ext {f g : Nat → UInt8} (h : ∀ i, i < 4 → f i = g i) : t4 f = t4 g := by
  rw [t4, t4, h 0 (by omega), h 1 (by omega), h 2 (by omega), h 3 (by omega)]
theorem t4_get (f : Nat → UInt8) (k : Nat) (h : k < 4) : (bvs (t4 f))[k]? = some (.int .u8 (cb (f k))) := by
  have : k = 0 ∨ k = 1 ∨ k = 2 ∨ k = 3 := by omega
  rcases this with rfl | rfl | rfl | rfl <;> rfl
theorem t4_set (f : Nat → UInt8) (k : Nat) (x : UInt8) (h : k < 4) : (t4 f).set k x = t4 fun i => if i = k then x else f i := by
  have : k = 0 ∨ k = 1 ∨ k = 2 ∨ k = 3 := by omega
  rcases this with rfl | rfl | rfl | rfl <;> simp [t4]
def p4 (f g : Nat → UInt8) (k : Nat) : List UInt8 := t4 fun i => if i < k then f i else g i
theorem p4_zero (f g : Nat → UInt8) : p4 f g 0 = t4 g := t4_ext fun i _ => if_neg (by omega)
theorem p4_all (f g : Nat → UInt8) : p4 f g 4 = t4 f := t4_ext fun i h => if_pos h
theorem p4_get (f g : Nat → UInt8) (k : Nat) (h : k < 4) : (bvs (p4 f g k))[k]? = some (.int .u8 (cb (g k))) := by rw [p4, t4_get _ _ h, if_neg (Nat.lt_irrefl k)]
theorem p4_set (f g : Nat → UInt8) (k : Nat) (h : k < 4) : (p4 f g k).set k (f k) = p4 f g (k + 1) := by
  rw [p4, t4_set _ _ _ h, p4]
  refine t4_ext fun i _ => ?_
  by_cases hi : i = k
  · subst hi; rw [if_pos rfl, if_pos (Nat.lt_succ_self _)]
  · rw [if_neg hi]
    by_cases h2 : i < k
    · rw [if_pos h2, if_pos (by omega)]
    · rw [if_neg h2, if_neg (by omega)]
attribute [irreducible] p4
theorem next_t4 [Inhabited Field.SqTab] (key : List UInt8) (n : Nat) (W : List UInt8) (i : Nat) : next key n W i = t4 (nextB key n W i) := rfl
structure Ws [Inhabited Field.SqTab] (w : World) (key : List UInt8) (n i : Nat) (X : Option Addr) (cX g : Nat) (L : List UInt8) (w2 : World) : Prop where
  o : OwnK 4 161 w2 X i cX (bvs (words key n i))
  b : Blk w2 g 161 (bvs L)
  kp : Kp nob w w2
  far : ∀ k, ab X = some k → k < g
  lt : w.heap.size ≤ g
theorem Ws.drew [Inhabited Field.SqTab] {w w2 : World} {key : List UInt8} {n i : Nat} {X : Option Addr} {cX g : Nat} {L : List UInt8} (h : Ws w key n i X cX g L w2) : Ws w key n i X cX g L w2.drew :=
  have k := (Kp.refl nob w2).drew
  ⟨h.o.keep k (fun _ _ e => e), h.b.keep k (fun e => e), h.kp.drew, h.far, h.lt⟩
theorem Ws.set [Inhabited Field.SqTab] {w w2 : World} {key : List UInt8} {n i : Nat} {X : Option Addr} {cX g : Nat} {L : List UInt8} (h : Ws w key n i X cX g L w2) (k : Nat) (u : UInt8) : Ws w key n i X cX g (L.set k u) (w2.setCell ⟨g, k, none⟩ (.int .u8 (cb u))) :=
  ⟨h.o.keep (F := fun k => k = g) ((Kp.refl (fun k => k = g) w2).setCell (.inl rfl) _) (fun k e e' => by have := h.far k e; omega),
   by have := h.b.set_ k (.int .u8 (cb u)); rwa [bvs_setb] at this, h.kp.setCell (.inr h.lt) _, h.far, h.lt⟩
theorem Ws.keep [Inhabited Field.SqTab] {w w2 w3 : World} {key : List UInt8} {n i : Nat} {X : Option Addr} {cX g : Nat} {L : List UInt8} {F : Nat → Prop} (h : Ws w key n i X cX g L w2) (k : Kp F w2 w3) (hF : ∀ j, F j → g < j) : Ws w key n i X cX g L w3 :=
  ⟨h.o.keep k (fun j e e' => by have := h.far j e; have := hF j e'; omega), h.b.keep k (fun e => by have := hF _ e; omega), h.kp.since k (fun j e => by have := hF j e; have := h.lt; omega), h.far, h.lt⟩
structure Wt [Inhabited Field.SqTab] (w : World) (key : List UInt8) (n i : Nat) (X : Option Addr) (cX g : Nat) (L : List UInt8) (g2 : Nat) (M : List UInt8) (w2 : World) : Prop where
  s : Ws w key n i X cX g L w2
  t : Blk w2 g2 161 (bvs M)
theorem Wt.drew [Inhabited Field.SqTab] {w w2 : World} {key : List UInt8} {n i : Nat} {X : Option Addr} {cX g g2 : Nat} {L M : List UInt8} (h : Wt w key n i X cX g L g2 M w2) : Wt w key n i X cX g L g2 M w2.drew :=
  ⟨h.s.drew, h.t.keep (Kp.refl nob w2).drew (fun e => e)⟩
theorem four_ways (n i : Nat) : i % n = 0 ∨ (i % n ≠ 0 ∧ n = 8 ∧ i % 8 = 4) ∨ (i % n ≠ 0 ∧ n ≠ 8) ∨ (i % n ≠ 0 ∧ n = 8 ∧ i % 8 ≠ 4) := by
  by_cases h1 : i % n = 0
  · exact .inl h1
  · by_cases h2 : n = 8
    · by_cases h3 : i % 8 = 4
      · exact .inr (.inl ⟨h1, h2, h3⟩)
      · exact .inr (.inr (.inr ⟨h1, h2, h3⟩))
    · exact .inr (.inr (.inl ⟨h1, h2⟩))
theorem turned_a [Inhabited Field.SqTab] (n i : Nat) (P : Nat → UInt8) (h : i % n = 0) : t4 (turned n i P) = (t4 fun k => Field.gbox (P ((k + 1) % 4))).set 0 (Field.gbox (P 1) ^^^ rc (i / n - 1)) := by
  rw [t4_set _ _ _ (by omega)]
  refine t4_ext fun k hk => ?_
  rw [turned, if_pos h]
  by_cases h0 : k = 0
  · subst h0; rw [if_pos rfl, if_pos rfl]
  · rw [if_neg h0, if_neg h0, UInt8.xor_zero]
theorem turned_b [Inhabited Field.SqTab] (n i : Nat) (P : Nat → UInt8) (h : i % n ≠ 0) (h2 : n = 8 ∧ i % 8 = 4) : t4 (turned n i P) = t4 fun k => Field.gbox (P k) :=
  t4_ext fun k _ => by rw [turned, if_neg h, if_pos h2]
theorem turned_c [Inhabited Field.SqTab] (n i : Nat) (P : Nat → UInt8) (h : i % n ≠ 0) (h2 : ¬ (n = 8 ∧ i % 8 = 4)) : t4 (turned n i P) = [P 0, P 1, P 2, P 3] :=
  t4_ext (g := P) fun k _ => by rw [turned, if_neg h, if_neg h2]
theorem arrW : Tryz.prog.underlying 256 = some (.array 4 5) := by kernel_rfl
theorem power_any (n : Nat) (w : World) (hn : n ≤ 1000) :
    Calls Tryz.prog 191 #[.int .i64 n] w fun e w' => e = .returned (.int .u8 (cb (rc n))) ∧ w = w' := by
  go_enter Tryz.func191, Tryz.ntmps191
  go_wp2
  go_loopw [3, 5] (fun vp vi wr => ∃ i : Nat, i ≤ n ∧ vp = .int .u8 (cb (rc i)) ∧ vi = .int .i64 i ∧ w = wr)
    (fun _ vi _ => n - (intOf vi).toNat)
  case atStart => exact ⟨0, by omega, by rw [rc_zero]; rfl, rfl, rfl⟩
  case round =>
    obtain ⟨i, hi, rfl, rfl, rfl⟩ := hrel
    by_cases hlt : i < n
    · have HR := Lib.hid (rc_succ i)
      go_wp2_with fail
      refine (Field.twice_any (rc i) _).mono ?_
      rintro e w1 ⟨rfl, rfl⟩
      rw [← HR.out]
      go_wp2
      go_roundw
      case rel => exact ⟨i + 1, by omega, rfl, by go_num, trivial⟩
      case measure => simp [intOf]; omega
    · obtain rfl : i = n := by omega
      go_wp2
      go_ret
      exact ⟨rfl, rfl⟩
set_option maxHeartbeats 1000000 in
set_option maxRecDepth 100000 in
theorem boxed_any [Inhabited Field.SqTab] (P : Nat → UInt8) (g : Nat) (w : World) (ht : Tab w g 241 Field.gbox) :
    Calls Tryz.prog 190 #[.pointer (some ⟨g, 0, none⟩), .agg (bvs (t4 P)).toArray] w fun e w' => e = .returned (.agg (bvs (t4 fun k => Field.gbox (P k))).toArray) ∧ Kp nob w w' := by
  have HT := Lib.hid ht; clear ht
  have HM : Hid ((bvs (t4 fun k => Field.gbox (P k))).length = 4) := Lib.hid (by rw [bvs_length, t4_length])
  go_enter Tryz.func190, Tryz.ntmps190
  go_wp2
  go_loopw [6] (fun vi wr => ∃ k : Nat, k ≤ 4 ∧ vi = .int .i64 k ∧ Blk wr w.heap.size 256 (bvs (p4 (fun k => Field.gbox (P k)) P k)) ∧ (∃ z, z.length = 4 ∧ Blk wr (w.heap.size + 1) 256 z) ∧ Kp nob w wr)
    (fun vi _ => 4 - (intOf vi).toNat)
  case atStart => exact ⟨0, by omega, rfl, by rw [p4_zero]; simpa using (Blk.new' rfl rfl).alloc _, ⟨_, rfl, Blk.new' (by simp) rfl⟩, ((Kp.refl _ _).alloc _).alloc _⟩
  case round =>
    obtain ⟨k, hk, rfl, h1, h2, hkp⟩ := hrel
    have H1 := Lib.hid h1; have H2 := Lib.hid h2; clear h1 h2
    by_cases hlt : k < 4
    · have hc1 : wr.cell? ⟨w.heap.size, k, none⟩ = some (.int .u8 (cb (P k))) := by rw [H1.out.cell, p4_get _ _ _ hlt]
      have hc2 : wr.cell? ⟨g, 241 + (cb (P k)).toNat, none⟩ = some (.int .u8 (cb (Field.gbox (P k)))) := (HT.out.keep hkp).2 (P k)
      have hy : 0 ≤ cb (P k) ∧ cb (P k) < 256 := cb_in _
      have hf1 : wr.frozen? ⟨w.heap.size, k, none⟩ = false := H1.out.frozen _
      go_wp2
      go_region
      go_wp2
      go_roundw
      case rel =>
        refine ⟨k + 1, by omega, by go_num, ?_, ?_, ?_⟩
        · have := (H1.out.keep (Kp.refl nob wr).drew (fun e => e)).set_ k (.int .u8 (cb (Field.gbox (P k))))
          rw [bvs_setb, p4_set (fun k => Field.gbox (P k)) _ _ hlt] at this
          exact this
        · obtain ⟨z, hz, h2⟩ := H2.out
          exact ⟨z, hz, (h2.keep (Kp.refl nob wr).drew (fun e => e)).far (by simp) _⟩
        · exact hkp.drew.setCell (.inr (Nat.le_refl _)) _
      case measure => simp [intOf]; omega
    · obtain rfl : k = 4 := by omega
      obtain ⟨z, hz, h2⟩ := H2.out
      have h1 := H1.out
      rw [p4_all] at h1
      have HB1 := Lib.hid h1; have HB2 := Lib.hid h2; have HZ := Lib.hid hz
      clear H1 H2 h1 h2 hz
      go_wp2_with (first
        | (refine wpList_load_blk rfl 256 (.tmp 3) rfl _ _ _ HB1.out rfl _ arrW rfl (by rw [HM.out]; kernel_rfl) ?_)
        | (refine wpList_store_blk rfl 256 (.tmp 4) (.tmp 20) rfl _ _ z (bvs (t4 fun k => Field.gbox (P k))) HB2.out rfl rfl (by rw [HZ.out, HM.out]) (by rw [HM.out]; kernel_rfl) (bvs_one _) ?_; intro w2 hB2 k2 z2))
      have hsz : (Tryz.prog.info? 256).map (·.size) = some (bvs (t4 fun k => Field.gbox (P k))).toArray.size := by
        rw [List.size_toArray, HM.out]; kernel_rfl
      refine bodyPost_ret (results_cell_row rfl _ _ (w.heap.size + 1) _ _ _ _ rfl hB2 arrW rfl hsz) rfl ⟨rfl, hkp.since k2 (fun i e => by cases e; omega)⟩
structure Fu [Inhabited Field.SqTab] (w : World) (P : Nat → UInt8) (L : List UInt8) (w2 : World) : Prop where
  p : Blk w2 w.heap.size 256 (bvs (t4 P))
  l : Blk w2 (w.heap.size + 1) 256 (bvs L)
  z : ∃ z : List Value, z.length = 4 ∧ Blk w2 (w.heap.size + 2) 256 z
  kp : Kp nob w w2
theorem Fu.keep [Inhabited Field.SqTab] {w w2 w3 : World} {P : Nat → UInt8} {L : List UInt8} (h : Fu w P L w2) (k : Kp nob w2 w3) : Fu w P L w3 :=
  ⟨h.p.keep k (fun e => e), h.l.keep k (fun e => e), (let ⟨z, hz, hb⟩ := h.z; ⟨z, hz, hb.keep k (fun e => e)⟩), h.kp.trans k (fun _ e => e.elim)⟩
theorem Fu.set [Inhabited Field.SqTab] {w w2 : World} {P : Nat → UInt8} {L : List UInt8} (h : Fu w P L w2) (k : Nat) (u : UInt8) : Fu w P (L.set k u) (w2.setCell ⟨w.heap.size + 1, k, none⟩ (.int .u8 (cb u))) :=
  ⟨h.p.far (by simp) _, by have := h.l.set_ k (.int .u8 (cb u)); rwa [bvs_setb] at this, (let ⟨z, hz, hb⟩ := h.z; ⟨z, hz, hb.far (by simp) _⟩), h.kp.setCell (.inr (by simp)) _⟩
theorem Fu.all [Inhabited Field.SqTab] {w w2 w3 : World} {P : Nat → UInt8} {L M : List UInt8} (h : Fu w P L w2) (hB : Blk w3 (w.heap.size + 1) 256 (bvs M)) (k : Kp (oneB (w.heap.size + 1)) w2 w3) : Fu w P M w3 :=
  ⟨h.p.keep k (fun e => by unfold oneB at e; omega), hB, (let ⟨z, hz, hb⟩ := h.z; ⟨z, hz, hb.keep k (fun e => by unfold oneB at e; omega)⟩), h.kp.since k (fun i e => by unfold oneB at e; omega)⟩
theorem Fu.to [Inhabited Field.SqTab] {w w2 : World} {P : Nat → UInt8} {L M : List UInt8} (h : Fu w P L w2) (e : L = M) : Fu w P M w2 := e ▸ h
theorem xor_t4 (P T : Nat → UInt8) : (t4 fun k => T k ^^^ P k) = t4 fun k => P k ^^^ T k := t4_ext fun k _ => UInt8.xor_comm _ _
set_option maxHeartbeats 2000000 in
set_option maxRecDepth 100000 in
theorem further_any [Inhabited Field.SqTab] (P Q : Nat → UInt8) (i n g : Nat) (w : World) (ht : Tab w g 241 Field.gbox) (hn : 1 ≤ n) (hin : n ≤ i) (hi : i ≤ 1000) :
    Calls Tryz.prog 181 #[.pointer (some ⟨g, 0, none⟩), .int .i64 i, .int .i64 n, .agg (bvs (t4 P)).toArray, .agg (bvs (t4 Q)).toArray] w fun e w' => e = .returned (.agg (bvs (t4 fun k => P k ^^^ turned n i Q k)).toArray) ∧ Kp nob w w' := by
  have HT := Lib.hid ht; clear ht
  have HX := Lib.hid (xor_t4 P (turned n i Q))
  have HM : Hid ((bvs (t4 fun k => P k ^^^ turned n i Q k)).length = 4) := Lib.hid (by rw [bvs_length, t4_length])
  have hf0 : Fu w P (t4 Q) (((w.alloc (.cells (bvs (t4 P)).toArray 256)).alloc (.cells (bvs (t4 Q)).toArray 256)).alloc (.cells #[.int .u8 0, .int .u8 0, .int .u8 0, .int .u8 0] 256)) :=
    ⟨((Blk.new w _ _).alloc _).alloc _, (Blk.new' (by simp) rfl).alloc _, ⟨[.int .u8 0, .int .u8 0, .int .u8 0, .int .u8 0], rfl, Blk.new' (by simp) rfl⟩, (((Kp.refl nob w).alloc _).alloc _).alloc _⟩
  have HF0 := Lib.hid hf0; clear hf0
  have hn0 : ¬ (n : Int) = 0 := by omega
  have hn1 : ¬ n = 0 := by omega
  obtain ⟨T, hT⟩ : ∃ T, T = turned n i Q := ⟨_, rfl⟩
  rw [← hT] at HX HM ⊢
  go_enter Tryz.func181, Tryz.ntmps181
  rcases four_ways n i with hm | ⟨hm, h8, h4⟩ | ⟨hm, h8⟩ | ⟨hm, h8, h4⟩
  case' inl =>
    have d1 : ((i : Int) % (n : Int) == 0) = true := by rw [beq_iff_eq]; omega
    have HTU := Lib.hid (turned_a n i Q hm)
    rw [← hT] at HTU
    have HL4 := Lib.hid (show (bvs (t4 Q)).length = (bvs (t4 fun k => Field.gbox (Q ((k + 1) % 4)))).length from rfl)
    obtain ⟨q, hq⟩ : ∃ q, q = i / n - 1 := ⟨_, rfl⟩
    have hq0 : 1 ≤ i / n := (Nat.one_le_div_iff (by omega)).2 (by omega)
    have hq2 : i / n ≤ 1000 := Nat.le_trans (Nat.div_le_self _ _) (by omega)
    obtain ⟨D, hD⟩ : ∃ D, D = i / n := ⟨_, rfl⟩
    rw [← hD] at hq hq0 hq2
    have e1 : (i : Int) / (n : Int) = (D : Int) := by rw [hD]; rfl
    have e1' : (i : Int).tdiv (n : Int) = (D : Int) := by rw [Int.tdiv_eq_ediv_of_nonneg (by omega)]; exact e1
    have e2 : IntKind.i64.wrap ((D : Int) - 1) = (q : Int) := wrap_to _ _ (by omega) (by omega)
    have e3 : IntKind.i64.wrap (D : Int) = (D : Int) := wrap_to _ _ rfl (by omega)
    rw [← hD, ← hq] at HTU
    have hq3 : q ≤ 1000 := by omega
    clear hq hq0 hq2 hD hm hT
    have c0 : (((w.alloc (.cells (bvs (t4 P)).toArray 256)).alloc (.cells (bvs (t4 Q)).toArray 256)).alloc (.cells #[.int .u8 0, .int .u8 0, .int .u8 0, .int .u8 0] 256)).cell? ⟨w.heap.size + 1, 0, none⟩ = some (.int .u8 (cb (Q 0))) := by rw [HF0.out.l.cell]; rfl
    have c1 : (((w.alloc (.cells (bvs (t4 P)).toArray 256)).alloc (.cells (bvs (t4 Q)).toArray 256)).alloc (.cells #[.int .u8 0, .int .u8 0, .int .u8 0, .int .u8 0] 256)).cell? ⟨w.heap.size + 1, 1, none⟩ = some (.int .u8 (cb (Q 1))) := by rw [HF0.out.l.cell]; rfl
    have c2 : (((w.alloc (.cells (bvs (t4 P)).toArray 256)).alloc (.cells (bvs (t4 Q)).toArray 256)).alloc (.cells #[.int .u8 0, .int .u8 0, .int .u8 0, .int .u8 0] 256)).cell? ⟨w.heap.size + 1, 2, none⟩ = some (.int .u8 (cb (Q 2))) := by rw [HF0.out.l.cell]; rfl
    have c3 : (((w.alloc (.cells (bvs (t4 P)).toArray 256)).alloc (.cells (bvs (t4 Q)).toArray 256)).alloc (.cells #[.int .u8 0, .int .u8 0, .int .u8 0, .int .u8 0] 256)).cell? ⟨w.heap.size + 1, 3, none⟩ = some (.int .u8 (cb (Q 3))) := by rw [HF0.out.l.cell]; rfl
    go_wp2_with fail
    refine (boxed_any (fun k => Q ((k + 1) % 4)) g _ (HT.out.keep HF0.out.kp)).mono ?_
    clear c0 c1 c2 c3
    rintro e w1 ⟨rfl, k1⟩
    have HF1 := Lib.hid (HF0.out.keep k1)
    clear k1
    go_wp2_with (refine wpList_store_blk rfl 256 (.tmp 9) (.tmp 27) rfl _ _ (bvs (t4 Q)) (bvs (t4 fun k => Field.gbox (Q ((k + 1) % 4)))) HF1.out.l rfl rfl HL4.out.symm (by kernel_rfl) (bvs_one _) ?_; intro w2 hB2 k2 z2)
    have HF2 := Lib.hid (HF1.out.all hB2 k2)
    clear hB2 k2 z2 HF1 HF0
    have HDD := Lib.hid ((Kp.refl nob w2).drew)
    go_wp2
    refine wp_region_still_tail 9 (by kernel_rfl) (by kernel_rfl) ?_
    change wpStill _ _ w2.drew (fun a' => wpList _ _ _ _ a' w2.drew) _ _
    have HF3 := Lib.hid (HF2.out.keep HDD.out)
    clear HF2 HDD
    generalize w2.drew = wd at *
    have c0 : wd.cell? ⟨w.heap.size + 1, 0, none⟩ = some (.int .u8 (cb (Field.gbox (Q 1)))) := by rw [HF3.out.l.cell]; rfl
    have f0 : wd.frozen? ⟨w.heap.size + 1, 0, none⟩ = false := HF3.out.l.frozen 0
    simp only [List.take_succ_cons, List.take_zero, List.drop_succ_cons, List.drop_zero]
    repeat still_step
    still_call ((power_any q _ hq3).mono fun _ _ h => ⟨h.1, h.2.symm⟩)
    repeat still_step
    refine wpStill_nil ?_
    have ht2 := HF3.out.set 0 (Field.gbox (Q 1) ^^^ rc q)
    rw [← HTU.out] at ht2
    have HT2 := Lib.hid ht2
    clear ht2 HF3
    go_wp2
  case' inr.inl =>
    have d1 : ((i : Int) % (n : Int) == 0) = false := by rw [beq_eq_false_iff_ne]; omega
    have d2 : ((n : Int) == 8) = true := by rw [beq_iff_eq]; omega
    have hin4 : i % n = 4 := by rw [h8]; exact h4
    have d3 : ((i : Int) % (n : Int) == 4) = true := by rw [beq_iff_eq]; omega
    have HTU := Lib.hid (turned_b n i Q hm ⟨h8, h4⟩)
    rw [← hT] at HTU
    have HL4 := Lib.hid (show (bvs (t4 T)).length = 4 from rfl)
    have HLQ := Lib.hid (show (bvs (t4 Q)).length = 4 from rfl)
    clear hm h8 h4 hin4 hT
    have HL0 := Lib.hid HF0.out.l
    go_wp2_with (refine wpList_load_blk rfl 256 (.tmp 9) rfl _ _ _ HL0.out rfl _ arrW rfl (by rw [HLQ.out]; kernel_rfl) ?_)
    clear HL0
    refine (boxed_any Q g _ (HT.out.keep HF0.out.kp)).mono ?_
    rintro e w1 ⟨rfl, k1⟩
    rw [← HTU.out]
    have HF1 := Lib.hid (HF0.out.keep k1)
    clear k1 HF0
    go_wp2_with (refine wpList_store_blk rfl 256 (.tmp 9) (.tmp 48) rfl _ _ (bvs (t4 Q)) (bvs (t4 T)) HF1.out.l rfl rfl (by rw [HL4.out, HLQ.out]) (by rw [HL4.out]; kernel_rfl) (bvs_one _) ?_; intro w2 hB2 k2 z2)
    have HT2 := Lib.hid (HF1.out.all hB2 k2)
    clear hB2 k2 z2 HF1
    go_wp2
  case' inr.inr.inl =>
    have d1 : ((i : Int) % (n : Int) == 0) = false := by rw [beq_eq_false_iff_ne]; omega
    have d2 : ((n : Int) == 8) = false := by rw [beq_eq_false_iff_ne]; omega
    have HT2 := Lib.hid (HF0.out.to (show t4 Q = t4 T by rw [hT, turned_c n i Q hm (fun h => h8 h.1)]; rfl))
    clear hm h8 hT
    go_wp2
  case' inr.inr.inr =>
    have d1 : ((i : Int) % (n : Int) == 0) = false := by rw [beq_eq_false_iff_ne]; omega
    have d2 : ((n : Int) == 8) = true := by rw [beq_iff_eq]; omega
    have hin4 : i % n ≠ 4 := by rw [h8]; exact h4
    have d3 : ((i : Int) % (n : Int) == 4) = false := by rw [beq_eq_false_iff_ne]; omega
    have HT2 := Lib.hid (HF0.out.to (show t4 Q = t4 T by rw [hT, turned_c n i Q hm (fun h => h4 h.2)]; rfl))
    clear hm h8 h4 hin4 hT
    go_wp2
  all_goals
    go_loopw [49] (fun vk wr => ∃ k : Nat, k ≤ 4 ∧ vk = .int .i64 k ∧ Fu w P (p4 (fun k => T k ^^^ P k) T k) wr)
      (fun vk _ => 4 - (intOf vk).toNat)
  all_goals first
    | exact ⟨0, by omega, rfl, by rw [p4_zero]; exact HT2.out⟩
    | skip
  all_goals
    obtain ⟨k, hk4, rfl, hf⟩ := hrel
    have HF := Lib.hid hf
    clear hf HT2
    by_cases hlk : k < 4
    · have c1 : wr.cell? ⟨w.heap.size + 1, k, none⟩ = some (.int .u8 (cb (T k))) := by rw [HF.out.l.cell, p4_get _ _ _ hlk]
      have c2 : wr.cell? ⟨w.heap.size, k, none⟩ = some (.int .u8 (cb (P k))) := by rw [HF.out.p.cell, t4_get _ _ hlk]
      have hfr : wr.frozen? ⟨w.heap.size + 1, k, none⟩ = false := HF.out.l.frozen _
      have HPS := Lib.hid (p4_set (fun k => T k ^^^ P k) T k hlk)
      go_wp2
      go_region
      go_wp2
      go_roundw
      case rel =>
        refine ⟨k + 1, by omega, by go_num, ?_⟩
        have := (HF.out.keep (Kp.refl nob wr).drew).set k (T k ^^^ P k)
        rw [HPS.out] at this
        exact this
      case measure => simp [intOf]; omega
    · have h1 := HF.out
      rw [show k = 4 by omega, p4_all, HX.out] at h1
      obtain ⟨z, hz, hbz⟩ := h1.z
      have HB1 := Lib.hid h1; have HB2 := Lib.hid hbz; have HZ := Lib.hid hz
      clear HF h1 hz hbz
      go_wp2_with (first
        | (refine wpList_load_blk rfl 256 (.tmp 9) rfl _ _ _ HB1.out.l rfl _ arrW rfl (by rw [HM.out]; kernel_rfl) ?_)
        | (refine wpList_store_blk rfl 256 (.tmp 10) (.tmp 61) rfl _ _ z (bvs (t4 fun k => P k ^^^ T k)) HB2.out rfl rfl (by rw [HZ.out, HM.out]) (by rw [HM.out]; kernel_rfl) (bvs_one _) ?_; intro w5 hB5 k5 z5))
      have hsz : (Tryz.prog.info? 256).map (·.size) = some (bvs (t4 fun k => P k ^^^ T k)).toArray.size := by
        rw [List.size_toArray, HM.out]; kernel_rfl
      refine bodyPost_ret (results_cell_row rfl _ _ (w.heap.size + 2) _ _ _ _ rfl hB5 arrW rfl hsz) rfl ⟨rfl, HB1.out.kp.since k5 (fun i e => by cases e; omega)⟩
end Go.Proofs.YtiimfhacnfdmhaaGreat.Aes
