/- Contracts of package aes: a word's bytes boxed, powers of 02, a further word. · Contracts of package aes: a further word. · Contracts of package aes: a cipher's tables. · A key's words in a block of 60, in a cipher's cells: four bytes more. -/
import Derived.Test.YtbainiblffcjgaaDoorZAesA
import Derived.Test.YtbainiblffcjgaaDoorZGe
import Derived.Test.YtbainiblffcjgaaDoorZGc
import Derived.Test.YtbainiblffcjgaaDoorZGa
namespace Go.Proofs.YtbainiblffcjgaaDoor.Aes
set_option linter.unusedVariables false
set_option linter.unusedSimpArgs false
open Go Go.RowKit Kit
open Field (cb cb_inj)

theorem arrW : Tryd.prog.underlying 79 = some (.array 4 5) := by kernel_rfl

theorem power_any (n : Nat) (w : World) (hn : n ≤ 1000) :
    Calls Tryd.prog 58 #[.int .i64 n] w fun e w' => e = .returned (.int .u8 (cb (rc n))) ∧ w = w' := by
  go_enter Tryd.func58, Tryd.ntmps58
  go_wp2
  go_loopw [3, 5] (fun vp vi wr => ∃ i : Nat, i ≤ n ∧ vp = .int .u8 (cb (rc i)) ∧ vi = .int .i64 i ∧ w = wr)
    (fun _ vi _ => n - (intOf vi).toNat)
  case atStart => exact ⟨0, by omega, by rw [rc_zero]; rfl, rfl, rfl⟩
  case round =>
    obtain ⟨i, hi, rfl, rfl, rfl⟩ := hrel
    by_cases hlt : i < n
    · have HR := Lib.hid (rc_succ i)
      go_wp2_with fail
      refine (Field.twice_any (rc i) _).mono ?_
      rintro e w1 ⟨rfl, rfl⟩
      rw [← HR.out]
      go_wp2
      go_roundw
      case rel => exact ⟨i + 1, by omega, rfl, by go_num, trivial⟩
      case measure => simp [intOf]; omega
    · obtain rfl : i = n := by omega
      go_wp2
      go_ret
      exact ⟨rfl, rfl⟩

set_option maxHeartbeats 1000000 in
set_option maxRecDepth 100000 in
theorem boxed_any (P : Nat → UInt8) (g : Nat) (w : World) (ht : Tab w g 241 Field.box) :
    Calls Tryd.prog 57 #[.pointer (some ⟨g, 0, none⟩), .agg (bvs (t4 P)).toArray] w fun e w' => e = .returned (.agg (bvs (t4 fun k => Field.box (P k))).toArray) ∧ Kp nob w w' := by
  have HT := Lib.hid ht; clear ht
  have HM : Hid ((bvs (t4 fun k => Field.box (P k))).length = 4) := Lib.hid (by rw [bvs_length, t4_length])
  go_enter Tryd.func57, Tryd.ntmps57
  go_wp2
  go_loopw [6] (fun vi wr => ∃ k : Nat, k ≤ 4 ∧ vi = .int .i64 k ∧ Blk wr w.heap.size 79 (bvs (p4 (fun k => Field.box (P k)) P k)) ∧ (∃ z, z.length = 4 ∧ Blk wr (w.heap.size + 1) 79 z) ∧ Kp nob w wr)
    (fun vi _ => 4 - (intOf vi).toNat)
  case atStart => exact ⟨0, by omega, rfl, by rw [p4_zero]; simpa using (Blk.new' rfl rfl).alloc _, ⟨_, rfl, Blk.new' (by simp) rfl⟩, ((Kp.refl _ _).alloc _).alloc _⟩
  case round =>
    obtain ⟨k, hk, rfl, h1, h2, hkp⟩ := hrel
    have H1 := Lib.hid h1; have H2 := Lib.hid h2; clear h1 h2
    by_cases hlt : k < 4
    · have hc1 : wr.cell? ⟨w.heap.size, k, none⟩ = some (.int .u8 (cb (P k))) := by rw [H1.out.cell, p4_get _ _ _ hlt]
      have hc2 : wr.cell? ⟨g, 241 + (cb (P k)).toNat, none⟩ = some (.int .u8 (cb (Field.box (P k)))) := (HT.out.keep hkp).2 (P k)
      have hy : 0 ≤ cb (P k) ∧ cb (P k) < 256 := cb_in _
      have hf1 : wr.frozen? ⟨w.heap.size, k, none⟩ = false := H1.out.frozen _
      go_wp2
      go_region
      go_wp2
      go_roundw
      case rel =>
        refine ⟨k + 1, by omega, by go_num, ?_, ?_, ?_⟩
        · have := (H1.out.keep (Kp.refl nob wr).drew (fun e => e)).set_ k (.int .u8 (cb (Field.box (P k))))
          rw [bvs_setb, p4_set (fun k => Field.box (P k)) _ _ hlt] at this
          exact this
        · obtain ⟨z, hz, h2⟩ := H2.out
          exact ⟨z, hz, (h2.keep (Kp.refl nob wr).drew (fun e => e)).far (by simp) _⟩
        · exact hkp.drew.setCell (.inr (Nat.le_refl _)) _
      case measure => simp [intOf]; omega
    · obtain rfl : k = 4 := by omega
      obtain ⟨z, hz, h2⟩ := H2.out
      have h1 := H1.out
      rw [p4_all] at h1
      have HB1 := Lib.hid h1; have HB2 := Lib.hid h2; have HZ := Lib.hid hz
      clear H1 H2 h1 h2 hz
      go_wp2_with (first
        | (refine wpList_load_blk rfl 79 (.tmp 3) rfl _ _ _ HB1.out rfl _ arrW rfl (by rw [HM.out]; kernel_rfl) ?_)
        | (refine wpList_store_blk rfl 79 (.tmp 4) (.tmp 20) rfl _ _ z (bvs (t4 fun k => Field.box (P k))) HB2.out rfl rfl (by rw [HZ.out, HM.out]) (by rw [HM.out]; kernel_rfl) (bvs_one _) ?_; intro w2 hB2 k2 z2))
      have hsz : (Tryd.prog.info? 79).map (·.size) = some (bvs (t4 fun k => Field.box (P k))).toArray.size := by
        rw [List.size_toArray, HM.out]; kernel_rfl
      refine bodyPost_ret (results_cell_row rfl _ _ (w.heap.size + 1) _ _ _ _ rfl hB2 arrW rfl hsz) rfl ⟨rfl, hkp.since k2 (fun i e => by cases e; omega)⟩
end Go.Proofs.YtbainiblffcjgaaDoor.Aes
namespace Go.Proofs.YtbainiblffcjgaaDoor.Aes
set_option linter.unusedVariables false
set_option linter.unusedSimpArgs false
open Go Go.RowKit Kit
open Field (cb cb_inj)

/-- What stands: the elder word, the one that is turned, the answer. -/
structure Fu (w : World) (P : Nat → UInt8) (L : List UInt8) (w2 : World) : Prop where
  p : Blk w2 w.heap.size 79 (bvs (t4 P))
  l : Blk w2 (w.heap.size + 1) 79 (bvs L)
  z : ∃ z : List Value, z.length = 4 ∧ Blk w2 (w.heap.size + 2) 79 z
  kp : Kp nob w w2
theorem Fu.keep {w w2 w3 : World} {P : Nat → UInt8} {L : List UInt8} (h : Fu w P L w2) (k : Kp nob w2 w3) : Fu w P L w3 :=
  ⟨h.p.keep k (fun e => e), h.l.keep k (fun e => e), (let ⟨z, hz, hb⟩ := h.z; ⟨z, hz, hb.keep k (fun e => e)⟩), h.kp.trans k (fun _ e => e.elim)⟩
theorem Fu.set {w w2 : World} {P : Nat → UInt8} {L : List UInt8} (h : Fu w P L w2) (k : Nat) (u : UInt8) : Fu w P (L.set k u) (w2.setCell ⟨w.heap.size + 1, k, none⟩ (.int .u8 (cb u))) :=
  ⟨h.p.far (by simp) _, by have := h.l.set_ k (.int .u8 (cb u)); rwa [bvs_setb] at this, (let ⟨z, hz, hb⟩ := h.z; ⟨z, hz, hb.far (by simp) _⟩), h.kp.setCell (.inr (by simp)) _⟩
theorem Fu.all {w w2 w3 : World} {P : Nat → UInt8} {L M : List UInt8} (h : Fu w P L w2) (hB : Blk w3 (w.heap.size + 1) 79 (bvs M)) (k : Kp (oneB (w.heap.size + 1)) w2 w3) : Fu w P M w3 :=
  ⟨h.p.keep k (fun e => by unfold oneB at e; omega), hB, (let ⟨z, hz, hb⟩ := h.z; ⟨z, hz, hb.keep k (fun e => by unfold oneB at e; omega)⟩), h.kp.since k (fun i e => by unfold oneB at e; omega)⟩
theorem Fu.to {w w2 : World} {P : Nat → UInt8} {L M : List UInt8} (h : Fu w P L w2) (e : L = M) : Fu w P M w2 := e ▸ h
theorem xor_t4 (P T : Nat → UInt8) : (t4 fun k => T k ^^^ P k) = t4 fun k => P k ^^^ T k := t4_ext fun k _ => UInt8.xor_comm _ _

set_option maxHeartbeats 2000000 in
set_option maxRecDepth 100000 in
theorem further_any (P Q : Nat → UInt8) (i n g : Nat) (w : World) (ht : Tab w g 241 Field.box) (hn : 1 ≤ n) (hin : n ≤ i) (hi : i ≤ 1000) :
    Calls Tryd.prog 40 #[.pointer (some ⟨g, 0, none⟩), .int .i64 i, .int .i64 n, .agg (bvs (t4 P)).toArray, .agg (bvs (t4 Q)).toArray] w fun e w' => e = .returned (.agg (bvs (t4 fun k => P k ^^^ turned n i Q k)).toArray) ∧ Kp nob w w' := by
  have HT := Lib.hid ht; clear ht
  have HX := Lib.hid (xor_t4 P (turned n i Q))
  have HM : Hid ((bvs (t4 fun k => P k ^^^ turned n i Q k)).length = 4) := Lib.hid (by rw [bvs_length, t4_length])
  have hf0 : Fu w P (t4 Q) (((w.alloc (.cells (bvs (t4 P)).toArray 79)).alloc (.cells (bvs (t4 Q)).toArray 79)).alloc (.cells #[.int .u8 0, .int .u8 0, .int .u8 0, .int .u8 0] 79)) :=
    ⟨((Blk.new w _ _).alloc _).alloc _, (Blk.new' (by simp) rfl).alloc _, ⟨[.int .u8 0, .int .u8 0, .int .u8 0, .int .u8 0], rfl, Blk.new' (by simp) rfl⟩, (((Kp.refl nob w).alloc _).alloc _).alloc _⟩
  have HF0 := Lib.hid hf0; clear hf0
  have hn0 : ¬ (n : Int) = 0 := by omega
  have hn1 : ¬ n = 0 := by omega
  obtain ⟨T, hT⟩ : ∃ T, T = turned n i Q := ⟨_, rfl⟩
  rw [← hT] at HX HM ⊢
  go_enter Tryd.func40, Tryd.ntmps40
  rcases four_ways n i with hm | ⟨hm, h8, h4⟩ | ⟨hm, h8⟩ | ⟨hm, h8, h4⟩
  case' inl =>
    have d1 : ((i : Int) % (n : Int) == 0) = true := by rw [beq_iff_eq]; omega
    have HTU := Lib.hid (turned_a n i Q hm)
    rw [← hT] at HTU
    have HL4 := Lib.hid (show (bvs (t4 Q)).length = (bvs (t4 fun k => Field.box (Q ((k + 1) % 4)))).length from rfl)
    obtain ⟨q, hq⟩ : ∃ q, q = i / n - 1 := ⟨_, rfl⟩
    have hq0 : 1 ≤ i / n := (Nat.one_le_div_iff (by omega)).2 (by omega)
    have hq2 : i / n ≤ 1000 := Nat.le_trans (Nat.div_le_self _ _) (by omega)
    obtain ⟨D, hD⟩ : ∃ D, D = i / n := ⟨_, rfl⟩
    rw [← hD] at hq hq0 hq2
    have e1 : (i : Int) / (n : Int) = (D : Int) := by rw [hD]; rfl
    have e1' : (i : Int).tdiv (n : Int) = (D : Int) := by rw [Int.tdiv_eq_ediv_of_nonneg (by omega)]; exact e1
    have e2 : IntKind.i64.wrap ((D : Int) - 1) = (q : Int) := wrap_to _ _ (by omega) (by omega)
    have e3 : IntKind.i64.wrap (D : Int) = (D : Int) := wrap_to _ _ rfl (by omega)
    rw [← hD, ← hq] at HTU
    have hq3 : q ≤ 1000 := by omega
    clear hq hq0 hq2 hD hm hT
    have c0 : (((w.alloc (.cells (bvs (t4 P)).toArray 79)).alloc (.cells (bvs (t4 Q)).toArray 79)).alloc (.cells #[.int .u8 0, .int .u8 0, .int .u8 0, .int .u8 0] 79)).cell? ⟨w.heap.size + 1, 0, none⟩ = some (.int .u8 (cb (Q 0))) := by rw [HF0.out.l.cell]; rfl
    have c1 : (((w.alloc (.cells (bvs (t4 P)).toArray 79)).alloc (.cells (bvs (t4 Q)).toArray 79)).alloc (.cells #[.int .u8 0, .int .u8 0, .int .u8 0, .int .u8 0] 79)).cell? ⟨w.heap.size + 1, 1, none⟩ = some (.int .u8 (cb (Q 1))) := by rw [HF0.out.l.cell]; rfl
    have c2 : (((w.alloc (.cells (bvs (t4 P)).toArray 79)).alloc (.cells (bvs (t4 Q)).toArray 79)).alloc (.cells #[.int .u8 0, .int .u8 0, .int .u8 0, .int .u8 0] 79)).cell? ⟨w.heap.size + 1, 2, none⟩ = some (.int .u8 (cb (Q 2))) := by rw [HF0.out.l.cell]; rfl
    have c3 : (((w.alloc (.cells (bvs (t4 P)).toArray 79)).alloc (.cells (bvs (t4 Q)).toArray 79)).alloc (.cells #[.int .u8 0, .int .u8 0, .int .u8 0, .int .u8 0] 79)).cell? ⟨w.heap.size + 1, 3, none⟩ = some (.int .u8 (cb (Q 3))) := by rw [HF0.out.l.cell]; rfl
    go_wp2_with fail
    refine (boxed_any (fun k => Q ((k + 1) % 4)) g _ (HT.out.keep HF0.out.kp)).mono ?_
    clear c0 c1 c2 c3
    rintro e w1 ⟨rfl, k1⟩
    have HF1 := Lib.hid (HF0.out.keep k1)
    clear k1
    go_wp2_with (refine wpList_store_blk rfl 79 (.tmp 9) (.tmp 27) rfl _ _ (bvs (t4 Q)) (bvs (t4 fun k => Field.box (Q ((k + 1) % 4)))) HF1.out.l rfl rfl HL4.out.symm (by kernel_rfl) (bvs_one _) ?_; intro w2 hB2 k2 z2)
    have HF2 := Lib.hid (HF1.out.all hB2 k2)
    clear hB2 k2 z2 HF1 HF0
    have HDD := Lib.hid ((Kp.refl nob w2).drew)
    go_wp2
    refine wp_region_still_tail 9 (by kernel_rfl) (by kernel_rfl) ?_
    change wpStill _ _ w2.drew (fun a' => wpList _ _ _ _ a' w2.drew) _ _
    have HF3 := Lib.hid (HF2.out.keep HDD.out)
    clear HF2 HDD
    generalize w2.drew = wd at *
    have c0 : wd.cell? ⟨w.heap.size + 1, 0, none⟩ = some (.int .u8 (cb (Field.box (Q 1)))) := by rw [HF3.out.l.cell]; rfl
    have f0 : wd.frozen? ⟨w.heap.size + 1, 0, none⟩ = false := HF3.out.l.frozen 0
    simp only [List.take_succ_cons, List.take_zero, List.drop_succ_cons, List.drop_zero]
    repeat still_step
    still_call ((power_any q _ hq3).mono fun _ _ h => ⟨h.1, h.2.symm⟩)
    repeat still_step
    refine wpStill_nil ?_
    have ht2 := HF3.out.set 0 (Field.box (Q 1) ^^^ rc q)
    rw [← HTU.out] at ht2
    have HT2 := Lib.hid ht2
    clear ht2 HF3
    go_wp2
  case' inr.inl =>
    have d1 : ((i : Int) % (n : Int) == 0) = false := by rw [beq_eq_false_iff_ne]; omega
    have d2 : ((n : Int) == 8) = true := by rw [beq_iff_eq]; omega
    have hin4 : i % n = 4 := by rw [h8]; exact h4
    have d3 : ((i : Int) % (n : Int) == 4) = true := by rw [beq_iff_eq]; omega
    have HTU := Lib.hid (turned_b n i Q hm ⟨h8, h4⟩)
    rw [← hT] at HTU
    have HL4 := Lib.hid (show (bvs (t4 T)).length = 4 from rfl)
    have HLQ := Lib.hid (show (bvs (t4 Q)).length = 4 from rfl)
    clear hm h8 h4 hin4 hT
    have HL0 := Lib.hid HF0.out.l
    go_wp2_with (refine wpList_load_blk rfl 79 (.tmp 9) rfl _ _ _ HL0.out rfl _ arrW rfl (by rw [HLQ.out]; kernel_rfl) ?_)
    clear HL0
    refine (boxed_any Q g _ (HT.out.keep HF0.out.kp)).mono ?_
    rintro e w1 ⟨rfl, k1⟩
    rw [← HTU.out]
    have HF1 := Lib.hid (HF0.out.keep k1)
    clear k1 HF0
    go_wp2_with (refine wpList_store_blk rfl 79 (.tmp 9) (.tmp 48) rfl _ _ (bvs (t4 Q)) (bvs (t4 T)) HF1.out.l rfl rfl (by rw [HL4.out, HLQ.out]) (by rw [HL4.out]; kernel_rfl) (bvs_one _) ?_; intro w2 hB2 k2 z2)
    have HT2 := Lib.hid (HF1.out.all hB2 k2)
    clear hB2 k2 z2 HF1
    go_wp2
  case' inr.inr.inl =>
    have d1 : ((i : Int) % (n : Int) == 0) = false := by rw [beq_eq_false_iff_ne]; omega
    have d2 : ((n : Int) == 8) = false := by rw [beq_eq_false_iff_ne]; omega
    have HT2 := Lib.hid (HF0.out.to (show t4 Q = t4 T by rw [hT, turned_c n i Q hm (fun h => h8 h.1)]; rfl))
    clear hm h8 hT
    go_wp2
  case' inr.inr.inr =>
    have d1 : ((i : Int) % (n : Int) == 0) = false := by rw [beq_eq_false_iff_ne]; omega
    have d2 : ((n : Int) == 8) = true := by rw [beq_iff_eq]; omega
    have hin4 : i % n ≠ 4 := by rw [h8]; exact h4
    have d3 : ((i : Int) % (n : Int) == 4) = false := by rw [beq_eq_false_iff_ne]; omega
    have HT2 := Lib.hid (HF0.out.to (show t4 Q = t4 T by rw [hT, turned_c n i Q hm (fun h => h4 h.2)]; rfl))
    clear hm h8 h4 hin4 hT
    go_wp2
  all_goals
    go_loopw [49] (fun vk wr => ∃ k : Nat, k ≤ 4 ∧ vk = .int .i64 k ∧ Fu w P (p4 (fun k => T k ^^^ P k) T k) wr)
      (fun vk _ => 4 - (intOf vk).toNat)
  all_goals first
    | exact ⟨0, by omega, rfl, by rw [p4_zero]; exact HT2.out⟩
    | skip
  all_goals
    obtain ⟨k, hk4, rfl, hf⟩ := hrel
    have HF := Lib.hid hf
    clear hf HT2
    by_cases hlk : k < 4
    · have c1 : wr.cell? ⟨w.heap.size + 1, k, none⟩ = some (.int .u8 (cb (T k))) := by rw [HF.out.l.cell, p4_get _ _ _ hlk]
      have c2 : wr.cell? ⟨w.heap.size, k, none⟩ = some (.int .u8 (cb (P k))) := by rw [HF.out.p.cell, t4_get _ _ hlk]
      have hfr : wr.frozen? ⟨w.heap.size + 1, k, none⟩ = false := HF.out.l.frozen _
      have HPS := Lib.hid (p4_set (fun k => T k ^^^ P k) T k hlk)
      go_wp2
      go_region
      go_wp2
      go_roundw
      case rel =>
        refine ⟨k + 1, by omega, by go_num, ?_⟩
        have := (HF.out.keep (Kp.refl nob wr).drew).set k (T k ^^^ P k)
        rw [HPS.out] at this
        exact this
      case measure => simp [intOf]; omega
    · have h1 := HF.out
      rw [show k = 4 by omega, p4_all, HX.out] at h1
      obtain ⟨z, hz, hbz⟩ := h1.z
      have HB1 := Lib.hid h1; have HB2 := Lib.hid hbz; have HZ := Lib.hid hz
      clear HF h1 hz hbz
      go_wp2_with (first
        | (refine wpList_load_blk rfl 79 (.tmp 9) rfl _ _ _ HB1.out.l rfl _ arrW rfl (by rw [HM.out]; kernel_rfl) ?_)
        | (refine wpList_store_blk rfl 79 (.tmp 10) (.tmp 61) rfl _ _ z (bvs (t4 fun k => P k ^^^ T k)) HB2.out rfl rfl (by rw [HZ.out, HM.out]) (by rw [HM.out]; kernel_rfl) (bvs_one _) ?_; intro w5 hB5 k5 z5))
      have hsz : (Tryd.prog.info? 79).map (·.size) = some (bvs (t4 fun k => P k ^^^ T k)).toArray.size := by
        rw [List.size_toArray, HM.out]; kernel_rfl
      refine bodyPost_ret (results_cell_row rfl _ _ (w.heap.size + 2) _ _ _ _ rfl hB5 arrW rfl hsz) rfl ⟨rfl, HB1.out.kp.since k5 (fun i e => by cases e; omega)⟩
end Go.Proofs.YtbainiblffcjgaaDoor.Aes
namespace Go.Proofs.YtbainiblffcjgaaDoor.Aes
set_option linter.unusedVariables false
set_option linter.unusedSimpArgs false
open Go Go.RowKit Kit
open Field (cb cb_inj Sq)

theorem sq_lt {w : World} (h : Sq w) : 0 < w.heap.size := by
  have h1 := h 0 _ (bvs_get (l := Field.SQ) (i := 0) (by rw [Field.SQ_length]; omega))
  rcases Nat.lt_or_ge 0 w.heap.size with hlt | hge
  · exact hlt
  · unfold World.cell? at h1
    rw [show w.heap[(⟨0, 0 + 0, none⟩ : Addr).block]? = none from Array.getElem?_eq_none hge] at h1
    cases h1
theorem sq_keep {w w2 : World} {F : Nat → Prop} (h : Sq w) (k : Kp F w w2) (hF : ¬ F 0) : Sq w2 := range_keep h k hF

set_option maxHeartbeats 1000000 in
set_option maxRecDepth 100000 in
theorem fillBoxes_any (g N : Nat) (K : List UInt8) (w : World) (hK : K.length = 240) (ht : Sq w) (hg : 0 < g) (hb : Blk w g 64 (cph N K (bxs 0) (bks 0))) :
    Calls Tryd.prog 27 #[.pointer (some ⟨g, 0, none⟩)] w fun e w' => e = .returned (.tuple #[]) ∧ Blk w' g 64 (cph N K BX BK) ∧ Kp (oneB g) w w' := by
  have HK := Lib.hid hK; have HT := Lib.hid ht; have HB := Lib.hid hb; clear hK ht hb
  go_enter Tryd.func27, Tryd.ntmps27
  go_wp2
  go_loopw [4] (fun vi wr => ∃ i : Nat, i ≤ 256 ∧ vi = .int .i64 i ∧ Blk wr g 64 (cph N K (bxs i) (bks i)) ∧ Kp (oneB g) w wr)
    (fun vi _ => 256 - (intOf vi).toNat)
  case atStart => exact ⟨0, by omega, rfl, HB.out, Kp.refl _ _⟩
  case round =>
    obtain ⟨i, hi, rfl, h1, hkp⟩ := hrel
    have H1 := Lib.hid h1; have HKP := Lib.hid hkp; clear h1 hkp HB
    by_cases hlt : i < 256
    · obtain ⟨x, hx⟩ : ∃ x, x = UInt8.ofNat i := ⟨_, rfl⟩
      have e1 : IntKind.u8.wrap (i : Int) = cb x := by
        have : x.toNat = i := by rw [hx, UInt8.toNat_ofNat']; omega
        unfold cb; rw [this, IntKind.wrap_u8]; omega
      have HX := Lib.hid hx; clear hx
      have HT1 := Lib.hid (sq_keep HT.out HKP.out (fun e => by unfold oneB at e; omega))
      go_wp2_with fail
      refine (Field.box_any x _ HT1.out).mono ?_
      rintro e w1 ⟨rfl, k1⟩
      obtain ⟨y, hy⟩ : ∃ y, y = Field.box x := ⟨_, rfl⟩
      rw [← hy]
      have H2 := Lib.hid (H1.out.keep k1 (fun e => e))
      have HK2 := Lib.hid (HKP.out.trans k1 (fun _ e => e.elim))
      clear H1 HKP k1 HT1
      have hX := HX.out
      have hKl := HK.out
      have e2 : (cph N K (bxs i) (bks i)).set (241 + i) (.int .u8 (cb y)) = cph N K (bxs (i + 1)) (bks i) := by
        rw [cph_setx hKl i y (by rw [bxs_length]; exact hlt), hy, hX, bxs_set]
      have e3 : (cph N K (bxs (i + 1)) (bks i)).set (497 + (cb y).toNat) (.int .u8 (cb x)) = cph N K (bxs (i + 1)) (bks (i + 1)) := by
        rw [show (cb y).toNat = y.toNat from rfl, cph_setk hKl (bxs_length _), hy, hX, bks_set i hlt]
      obtain ⟨v1, hv1⟩ : ∃ v, (cph N K (bxs i) (bks i))[241 + i]? = some v := ⟨_, List.getElem?_eq_getElem (by rw [cph_length hKl (bxs_length _) (bks_length _)]; omega)⟩
      obtain ⟨v2, hv2⟩ : ∃ v, (cph N K (bxs (i + 1)) (bks i))[497 + (cb y).toNat]? = some v := ⟨_, List.getElem?_eq_getElem (by rw [cph_length hKl (bxs_length _) (bks_length _)]; have := cb_in y; omega)⟩
      have h3 := H2.out.set_ (241 + i) (.int .u8 (cb y))
      rw [e2] at h3
      have h4 := h3.set_ (497 + (cb y).toNat) (.int .u8 (cb x))
      rw [e3] at h4
      have c1 : w1.cell? ⟨g, 241 + i, none⟩ = some v1 := by rw [H2.out.cell, hv1]
      have c2 : (w1.setCell ⟨g, 241 + i, none⟩ (.int .u8 (cb y))).cell? ⟨g, 497 + (cb y).toNat, none⟩ = some v2 := by rw [h3.cell, hv2]
      have f1 : w1.frozen? ⟨g, 241 + i, none⟩ = false := H2.out.frozen _
      have f2 : (w1.setCell ⟨g, 241 + i, none⟩ (.int .u8 (cb y))).frozen? ⟨g, 497 + (cb y).toNat, none⟩ = false := h3.frozen _
      have b1 : 0 ≤ cb y ∧ cb y < 256 := cb_in _
      have H4 := Lib.hid h4
      clear h3 h4 hv1 hv2 e2 e3 hX hy
      go_wp2
      go_roundw
      case rel => exact ⟨i + 1, by omega, by go_num, H4.out, (HK2.out.setCell (p := ⟨g, 241 + i, none⟩) (.inl rfl) _).setCell (p := ⟨g, 497 + (cb y).toNat, none⟩) (.inl rfl) _⟩
      case measure => simp [intOf]; omega
    · obtain rfl : i = 256 := by omega
      have h1 := H1.out
      rw [bxs_all, bks_all] at h1
      have HF := Lib.hid h1; clear h1 H1
      go_wp2
      refine bodyPost_end (results_none rfl _ _ _) rfl ?_
      exact ⟨rfl, HF.out, HKP.out⟩
end Go.Proofs.YtbainiblffcjgaaDoor.Aes
namespace Go.Proofs.YtbainiblffcjgaaDoor.Aes
set_option linter.unusedVariables false
set_option linter.unusedSimpArgs false
open Go Go.RowKit Kit
open Field (cb box back)

/-- The first i words, noughts behind them. -/
def kz (key : List UInt8) (n i : Nat) : List UInt8 := words key n i ++ List.replicate (240 - 4 * i) 0
theorem kz_length (key : List UInt8) (n i : Nat) (h : i ≤ 60) : (kz key n i).length = 240 := by
  rw [kz, List.length_append, words_length, List.length_replicate]; omega
theorem kz_zero (key : List UInt8) (n : Nat) : kz key n 0 = List.replicate 240 0 := by rw [kz, words_zero]; rfl
theorem kz_at (key : List UInt8) (n i j : Nat) (h : j < 4 * i) : gb (kz key n i) j = gb (words key n i) j := by
  rw [kz, gb, List.getD, List.getElem?_append_left (by rw [words_length]; exact h)]; rfl
theorem kz_next (key : List UInt8) (n i : Nat) (L : List UInt8) (h : i < 60) (hL : words key n (i + 1) = words key n i ++ L) (h4 : L.length = 4) : splice (kz key n i) (4 * i) L = kz key n (i + 1) := by
  have hw : (words key n i).length = 4 * i := words_length _ _ _
  rw [splice, kz, kz, hL, h4, List.append_assoc]
  congr 1
  · rw [List.take_append_of_le_length (by omega), List.take_of_length_le (by omega)]
  · congr 1
    rw [List.drop_append, List.drop_eq_nil_of_le (by omega), List.nil_append, hw, List.drop_replicate]
    congr 1; omega
theorem bvs_splice (l : List UInt8) (off : Nat) (L : List UInt8) : splice (bvs l) off (bvs L) = bvs (splice l off L) := by
  simp only [splice, bvs, List.map_append, List.map_take, List.map_drop, List.length_map]
theorem cph_next (N : Nat) (key : List UInt8) (n i : Nat) (L bx bk : List UInt8) (h : i < 60) (hL : words key n (i + 1) = words key n i ++ L) (h4 : L.length = 4) : splice (cph N (kz key n i) bx bk) (1 + 4 * i) (bvs L) = cph N (kz key n (i + 1)) bx bk := by
  rw [← kz_next key n i L h hL h4, cph, cph]
  have hk := kz_length key n i (by omega)
  show splice (_ :: bvs (kz key n i ++ (bx ++ bk))) (1 + 4 * i) (bvs L) = _ :: bvs (splice (kz key n i) (4 * i) L ++ (bx ++ bk))
  rw [splice, Nat.add_comm 1, List.take_succ_cons, List.cons_append, show 4 * i + 1 + (bvs L).length = (4 * i + (bvs L).length) + 1 by omega, List.drop_succ_cons]
  congr 1
  have := bvs_splice (kz key n i ++ (bx ++ bk)) (4 * i) L
  rw [splice] at this
  rw [this]
  congr 1
  rw [splice, splice, h4, List.take_append_of_le_length (by omega), List.drop_append_of_le_length (by omega)]
  simp
theorem four_of (l : List UInt8) (j : Nat) (h : 4 * j + 4 ≤ l.length) : ((bvs l).drop (4 * j)).take 4 = bvs (t4 fun k => gb l (4 * j + k)) := by
  apply List.ext_getElem?
  intro k
  rw [List.getElem?_take]
  by_cases hk : k < 4
  · rw [if_pos hk, List.getElem?_drop, gb_get l _ (by omega), t4_get _ _ hk]
  · rw [if_neg hk, List.getElem?_eq_none (by rw [bvs_length, t4_length]; omega)]
theorem row_four_of {w : World} {A : Option Addr} {c : Nat} {l : List UInt8} (h : Row w A (bvs l)) (j : Nat) (hj : 4 * j + 4 ≤ l.length) (hc : l.length ≤ c) : Row w (cutA A c (4 * j)) (bvs (t4 fun k => gb l (4 * j + k))) := by
  rw [← four_of l j hj]
  exact (h.cut (by rw [bvs_length]; exact hc)).take 4
theorem kz_part {w : World} {H : Nat} {t : TypeId} {key : List UInt8} {n i : Nat} (h : Blk w H t (bvs (kz key n i))) (j : Nat) (hj : j < i) (hi : i ≤ 60) : w.rangeAt H (j * 4) (bvs (t4 fun k => gb (words key n i) (4 * j + k))) := by
  refine h.part _ _ fun k v hv => ?_
  have hk : k < 4 := (List.getElem?_eq_some_iff.1 hv).1
  rw [t4_get _ _ hk] at hv
  rw [gb_get _ _ (by rw [kz_length _ _ _ hi]; omega), kz_at _ _ _ _ (by omega), ← hv, Nat.mul_comm]
theorem kz_part' {w : World} {H : Nat} {t : TypeId} {key : List UInt8} {n i : Nat} (h : Blk w H t (bvs (kz key n (i + 1)))) (j : Nat) (hj : j < i) (hi : i < 60) : w.rangeAt H (j * 4) (bvs (t4 fun k => gb (words key n i) (4 * j + k))) := by
  have := kz_part h j (by omega) (by omega)
  rwa [t4_ext (g := fun k => gb (words key n i) (4 * j + k)) fun k hk => words_at key n i 1 (4 * j + k) (by omega)] at this
theorem nextB_low (key : List UInt8) (n i : Nat) (h : i < n) (W : List UInt8) : t4 (nextB key n W i) = t4 fun k => gb key (4 * i + k) := t4_ext fun k _ => by rw [nextB, if_pos h]
theorem nextB_high (key : List UInt8) (n i : Nat) (h : n ≤ i) (W : List UInt8) : t4 (nextB key n W i) = t4 fun k => (fun k => gb W (4 * (i - n) + k)) k ^^^ turned n i (fun k => gb W (4 * (i - 1) + k)) k := t4_ext fun k _ => by rw [nextB, if_neg (by omega)]
attribute [irreducible] kz
end Go.Proofs.YtbainiblffcjgaaDoor.Aes
