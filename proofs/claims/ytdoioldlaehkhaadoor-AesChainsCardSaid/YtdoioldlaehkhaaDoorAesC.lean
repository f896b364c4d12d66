/- Contracts of package aes: a further word. -/
import Derived.Test.YtdoioldlaehkhaaDoorAesB
namespace Go.Proofs.YtdoioldlaehkhaaDoor.Aes
open Go Go.RowKit Kit
open Field (cb cb_inj)

/-- What stands: the elder word, the one that is turned, the answer. -/
structure Fu (w : World) (P : Nat → UInt8) (L : List UInt8) (w2 : World) : Prop where
  p : Blk w2 w.heap.size 54 (bvs (t4 P))
  l : Blk w2 (w.heap.size + 1) 54 (bvs L)
  z : ∃ z : List Value, z.length = 4 ∧ Blk w2 (w.heap.size + 2) 54 z
  kp : Kp nob w w2
theorem Fu.keep {w w2 w3 : World} {P : Nat → UInt8} {L : List UInt8} (h : Fu w P L w2) (k : Kp nob w2 w3) : Fu w P L w3 :=
  ⟨h.p.keep k (fun e => e), h.l.keep k (fun e => e), (let ⟨z, hz, hb⟩ := h.z; ⟨z, hz, hb.keep k (fun e => e)⟩), h.kp.trans k (fun _ e => e.elim)⟩
theorem Fu.set {w w2 : World} {P : Nat → UInt8} {L : List UInt8} (h : Fu w P L w2) (k : Nat) (u : UInt8) : Fu w P (L.set k u) (w2.setCell ⟨w.heap.size + 1, k, none⟩ (.int .u8 (cb u))) :=
  ⟨h.p.far (by simp) _, by have := h.l.set_ k (.int .u8 (cb u)); rwa [bvs_setb] at this, (let ⟨z, hz, hb⟩ := h.z; ⟨z, hz, hb.far (by simp) _⟩), h.kp.setCell (.inr (by simp)) _⟩
theorem Fu.all {w w2 w3 : World} {P : Nat → UInt8} {L M : List UInt8} (h : Fu w P L w2) (hB : Blk w3 (w.heap.size + 1) 54 (bvs M)) (k : Kp (oneB (w.heap.size + 1)) w2 w3) : Fu w P M w3 :=
  ⟨h.p.keep k (fun e => by unfold oneB at e; omega), hB, (let ⟨z, hz, hb⟩ := h.z; ⟨z, hz, hb.keep k (fun e => by unfold oneB at e; omega)⟩), h.kp.since k (fun i e => by unfold oneB at e; omega)⟩
theorem Fu.to {w w2 : World} {P : Nat → UInt8} {L M : List UInt8} (h : Fu w P L w2) (e : L = M) : Fu w P M w2 := e ▸ h
theorem xor_t4 (P T : Nat → UInt8) : (t4 fun k => T k ^^^ P k) = t4 fun k => P k ^^^ T k := t4_ext fun k _ => UInt8.xor_comm _ _

set_option maxHeartbeats 2000000 in
set_option maxRecDepth 100000 in
theorem further_any (P Q : Nat → UInt8) (i n g : Nat) (w : World) (ht : Tab w g 241 Field.box) (hn : 1 ≤ n) (hin : n ≤ i) (hi : i ≤ 1000) :
    Calls Tryd.prog 25 #[.pointer (some ⟨g, 0, none⟩), .int .i64 i, .int .i64 n, .agg (bvs (t4 P)).toArray, .agg (bvs (t4 Q)).toArray] w fun e w' => e = .returned (.agg (bvs (t4 fun k => P k ^^^ turned n i Q k)).toArray) ∧ Kp nob w w' := by
  have HT := Lib.hid ht; clear ht
  have HX := Lib.hid (xor_t4 P (turned n i Q))
  have HM : Hid ((bvs (t4 fun k => P k ^^^ turned n i Q k)).length = 4) := Lib.hid (by rw [bvs_length, t4_length])
  have hf0 : Fu w P (t4 Q) (((w.alloc (.cells (bvs (t4 P)).toArray 54)).alloc (.cells (bvs (t4 Q)).toArray 54)).alloc (.cells #[.int .u8 0, .int .u8 0, .int .u8 0, .int .u8 0] 54)) :=
    ⟨((Blk.new w _ _).alloc _).alloc _, (Blk.new' (by simp) rfl).alloc _, ⟨[.int .u8 0, .int .u8 0, .int .u8 0, .int .u8 0], rfl, Blk.new' (by simp) rfl⟩, (((Kp.refl nob w).alloc _).alloc _).alloc _⟩
  have HF0 := Lib.hid hf0; clear hf0
  have hn0 : ¬ (n : Int) = 0 := by omega
  have hn1 : ¬ n = 0 := by omega
  obtain ⟨T, hT⟩ : ∃ T, T = turned n i Q := ⟨_, rfl⟩
  rw [← hT] at HX HM ⊢
  go_enter Tryd.func25, Tryd.ntmps25
  rcases four_ways n i with hm | ⟨hm, h8, h4⟩ | ⟨hm, h8⟩ | ⟨hm, h8, h4⟩
  case' inl =>
    have d1 : ((i : Int) % (n : Int) == 0) = true := by rw [beq_iff_eq]; omega
    have HTU := Lib.hid (turned_a n i Q hm)
    rw [← hT] at HTU
    have HL4 := Lib.hid (show (bvs (t4 Q)).length = (bvs (t4 fun k => Field.box (Q ((k + 1) % 4)))).length from rfl)
    obtain ⟨q, hq⟩ : ∃ q, q = i / n - 1 := ⟨_, rfl⟩
    have hq0 : 1 ≤ i / n := (Nat.one_le_div_iff (by omega)).2 (by omega)
    have hq2 : i / n ≤ 1000 := Nat.le_trans (Nat.div_le_self _ _) (by omega)
    obtain ⟨D, hD⟩ : ∃ D, D = i / n := ⟨_, rfl⟩
    rw [← hD] at hq hq0 hq2
    have e1 : (i : Int) / (n : Int) = (D : Int) := by rw [hD]; rfl
    have e1' : (i : Int).tdiv (n : Int) = (D : Int) := by rw [Int.tdiv_eq_ediv_of_nonneg (by omega)]; exact e1
    have e2 : IntKind.i64.wrap ((D : Int) - 1) = (q : Int) := wrap_to _ _ (by omega) (by omega)
    have e3 : IntKind.i64.wrap (D : Int) = (D : Int) := wrap_to _ _ rfl (by omega)
    rw [← hD, ← hq] at HTU
    have hq3 : q ≤ 1000 := by omega
    clear hq hq0 hq2 hD hm hT
    have c0 : (((w.alloc (.cells (bvs (t4 P)).toArray 54)).alloc (.cells (bvs (t4 Q)).toArray 54)).alloc (.cells #[.int .u8 0, .int .u8 0, .int .u8 0, .int .u8 0] 54)).cell? ⟨w.heap.size + 1, 0, none⟩ = some (.int .u8 (cb (Q 0))) := by rw [HF0.out.l.cell]; rfl
    have c1 : (((w.alloc (.cells (bvs (t4 P)).toArray 54)).alloc (.cells (bvs (t4 Q)).toArray 54)).alloc (.cells #[.int .u8 0, .int .u8 0, .int .u8 0, .int .u8 0] 54)).cell? ⟨w.heap.size + 1, 1, none⟩ = some (.int .u8 (cb (Q 1))) := by rw [HF0.out.l.cell]; rfl
    have c2 : (((w.alloc (.cells (bvs (t4 P)).toArray 54)).alloc (.cells (bvs (t4 Q)).toArray 54)).alloc (.cells #[.int .u8 0, .int .u8 0, .int .u8 0, .int .u8 0] 54)).cell? ⟨w.heap.size + 1, 2, none⟩ = some (.int .u8 (cb (Q 2))) := by rw [HF0.out.l.cell]; rfl
    have c3 : (((w.alloc (.cells (bvs (t4 P)).toArray 54)).alloc (.cells (bvs (t4 Q)).toArray 54)).alloc (.cells #[.int .u8 0, .int .u8 0, .int .u8 0, .int .u8 0] 54)).cell? ⟨w.heap.size + 1, 3, none⟩ = some (.int .u8 (cb (Q 3))) := by rw [HF0.out.l.cell]; rfl
    go_wp2_with fail
    refine (boxed_any (fun k => Q ((k + 1) % 4)) g _ (HT.out.keep HF0.out.kp)).mono ?_
    clear c0 c1 c2 c3
    rintro e w1 ⟨rfl, k1⟩
    have HF1 := Lib.hid (HF0.out.keep k1)
    clear k1
    go_wp2_with (refine wpList_store_blk rfl 54 (.tmp 9) (.tmp 27) rfl _ _ (bvs (t4 Q)) (bvs (t4 fun k => Field.box (Q ((k + 1) % 4)))) HF1.out.l rfl rfl HL4.out.symm (by kernel_rfl) (bvs_one _) ?_; intro w2 hB2 k2 z2)
    have HF2 := Lib.hid (HF1.out.all hB2 k2)
    clear hB2 k2 z2 HF1 HF0
    have HDD := Lib.hid ((Kp.refl nob w2).drew)
    go_wp2
    refine wp_region_still_tail 9 (by kernel_rfl) (by kernel_rfl) ?_
    change wpStill _ _ w2.drew (fun a' => wpList _ _ _ _ a' w2.drew) _ _
    have HF3 := Lib.hid (HF2.out.keep HDD.out)
    clear HF2 HDD
    generalize w2.drew = wd at *
    have c0 : wd.cell? ⟨w.heap.size + 1, 0, none⟩ = some (.int .u8 (cb (Field.box (Q 1)))) := by rw [HF3.out.l.cell]; rfl
    have f0 : wd.frozen? ⟨w.heap.size + 1, 0, none⟩ = false := HF3.out.l.frozen 0
    simp only [List.take_succ_cons, List.take_zero, List.drop_succ_cons, List.drop_zero]
    repeat still_step
    still_call ((power_any q _ hq3).mono fun _ _ h => ⟨h.1, h.2.symm⟩)
    repeat still_step
    refine wpStill_nil ?_
    have ht2 := HF3.out.set 0 (Field.box (Q 1) ^^^ rc q)
    rw [← HTU.out] at ht2
    have HT2 := Lib.hid ht2
    clear ht2 HF3
    go_wp2
  case' inr.inl =>
    have d1 : ((i : Int) % (n : Int) == 0) = false := by rw [beq_eq_false_iff_ne]; omega
    have d2 : ((n : Int) == 8) = true := by rw [beq_iff_eq]; omega
    have hin4 : i % n = 4 := by rw [h8]; exact h4
    have d3 : ((i : Int) % (n : Int) == 4) = true := by rw [beq_iff_eq]; omega
    have HTU := Lib.hid (turned_b n i Q hm ⟨h8, h4⟩)
    rw [← hT] at HTU
    have HL4 := Lib.hid (show (bvs (t4 T)).length = 4 from rfl)
    have HLQ := Lib.hid (show (bvs (t4 Q)).length = 4 from rfl)
    clear hm h8 h4 hin4 hT
    have HL0 := Lib.hid HF0.out.l
    go_wp2_with (refine wpList_load_blk rfl 54 (.tmp 9) rfl _ _ _ HL0.out rfl _ arrW rfl (by rw [HLQ.out]; kernel_rfl) ?_)
    clear HL0
    refine (boxed_any Q g _ (HT.out.keep HF0.out.kp)).mono ?_
    rintro e w1 ⟨rfl, k1⟩
    rw [← HTU.out]
    have HF1 := Lib.hid (HF0.out.keep k1)
    clear k1 HF0
    go_wp2_with (refine wpList_store_blk rfl 54 (.tmp 9) (.tmp 48) rfl _ _ (bvs (t4 Q)) (bvs (t4 T)) HF1.out.l rfl rfl (by rw [HL4.out, HLQ.out]) (by rw [HL4.out]; kernel_rfl) (bvs_one _) ?_; intro w2 hB2 k2 z2)
    have HT2 := Lib.hid (HF1.out.all hB2 k2)
    clear hB2 k2 z2 HF1
    go_wp2
  case' inr.inr.inl =>
    have d1 : ((i : Int) % (n : Int) == 0) = false := by rw [beq_eq_false_iff_ne]; omega
    have d2 : ((n : Int) == 8) = false := by rw [beq_eq_false_iff_ne]; omega
    have HT2 := Lib.hid (HF0.out.to (show t4 Q = t4 T by rw [hT, turned_c n i Q hm (fun h => h8 h.1)]; rfl))
    clear hm h8 hT
    go_wp2
  case' inr.inr.inr =>
    have d1 : ((i : Int) % (n : Int) == 0) = false := by rw [beq_eq_false_iff_ne]; omega
    have d2 : ((n : Int) == 8) = true := by rw [beq_iff_eq]; omega
    have hin4 : i % n ≠ 4 := by rw [h8]; exact h4
    have d3 : ((i : Int) % (n : Int) == 4) = false := by rw [beq_eq_false_iff_ne]; omega
    have HT2 := Lib.hid (HF0.out.to (show t4 Q = t4 T by rw [hT, turned_c n i Q hm (fun h => h4 h.2)]; rfl))
    clear hm h8 h4 hin4 hT
    go_wp2
  all_goals
    go_loopw [49] (fun vk wr => ∃ k : Nat, k ≤ 4 ∧ vk = .int .i64 k ∧ Fu w P (p4 (fun k => T k ^^^ P k) T k) wr)
      (fun vk _ => 4 - (intOf vk).toNat)
  all_goals first
    | exact ⟨0, by omega, rfl, by rw [p4_zero]; exact HT2.out⟩
    | skip
  all_goals
    obtain ⟨k, hk4, rfl, hf⟩ := hrel
    have HF := Lib.hid hf
    clear hf HT2
    by_cases hlk : k < 4
    · have c1 : wr.cell? ⟨w.heap.size + 1, k, none⟩ = some (.int .u8 (cb (T k))) := by rw [HF.out.l.cell, p4_get _ _ _ hlk]
      have c2 : wr.cell? ⟨w.heap.size, k, none⟩ = some (.int .u8 (cb (P k))) := by rw [HF.out.p.cell, t4_get _ _ hlk]
      have hfr : wr.frozen? ⟨w.heap.size + 1, k, none⟩ = false := HF.out.l.frozen _
      have HPS := Lib.hid (p4_set (fun k => T k ^^^ P k) T k hlk)
      go_wp2
      go_region
      go_wp2
      go_roundw
      case rel =>
        refine ⟨k + 1, by omega, by go_num, ?_⟩
        have := (HF.out.keep (Kp.refl nob wr).drew).set k (T k ^^^ P k)
        rw [HPS.out] at this
        exact this
      case measure => simp [intOf]; omega
    · have h1 := HF.out
      rw [show k = 4 by omega, p4_all, HX.out] at h1
      obtain ⟨z, hz, hbz⟩ := h1.z
      have HB1 := Lib.hid h1; have HB2 := Lib.hid hbz; have HZ := Lib.hid hz
      clear HF h1 hz hbz
      go_wp2_with (first
        | (refine wpList_load_blk rfl 54 (.tmp 9) rfl _ _ _ HB1.out.l rfl _ arrW rfl (by rw [HM.out]; kernel_rfl) ?_)
        | (refine wpList_store_blk rfl 54 (.tmp 10) (.tmp 61) rfl _ _ z (bvs (t4 fun k => P k ^^^ T k)) HB2.out rfl rfl (by rw [HZ.out, HM.out]) (by rw [HM.out]; kernel_rfl) (bvs_one _) ?_; intro w5 hB5 k5 z5))
      have hsz : (Tryd.prog.info? 54).map (·.size) = some (bvs (t4 fun k => P k ^^^ T k)).toArray.size := by
        rw [List.size_toArray, HM.out]; kernel_rfl
      refine bodyPost_ret (results_cell_row rfl _ _ (w.heap.size + 2) _ _ _ _ rfl hB5 arrW rfl hsz) rfl ⟨rfl, HB1.out.kp.since k5 (fun i e => by cases e; omega)⟩
end Go.Proofs.YtdoioldlaehkhaaDoor.Aes
