/- Contracts of package aes: a word's bytes boxed, powers of 02, a further word. · Contracts of package aes: a further word. · A cipher's cells: how many rounds, their keys, two tables of 256 bytes; tables that are filled byte by byte. No program is named here. -/
import Derived.Test.YtmmpmncioifeoaaZG30
import Derived.Test.YtmmpmncioifeoaaZG25
namespace Go.Proofs.Ytmmpmncioifeoaa.Aes
set_option linter.unusedVariables false
set_option linter.unusedSimpArgs false
open Go Go.RowKit Kit
open Field (cb cb_inj)

theorem arrW : Try.prog.underlying 184 = some (.array 4 5) := by kernel_rfl

theorem power_any (n : Nat) (w : World) (hn : n ≤ 1000) :
    Calls Try.prog 133 #[.int .i64 n] w fun e w' => e = .returned (.int .u8 (cb (rc n))) ∧ w = w' := by
  go_enter Try.func133, Try.ntmps133
  go_wp2
  go_loopw [3, 5] (fun vp vi wr => ∃ i : Nat, i ≤ n ∧ vp = .int .u8 (cb (rc i)) ∧ vi = .int .i64 i ∧ w = wr)
    (fun _ vi _ => n - (intOf vi).toNat)
  case atStart => exact ⟨0, by omega, by rw [rc_zero]; rfl, rfl, rfl⟩
  case round =>
    obtain ⟨i, hi, rfl, rfl, rfl⟩ := hrel
    by_cases hlt : i < n
    · have HR := Lib.hid (rc_succ i)
      go_wp2_with fail
      refine (Field.twice_any (rc i) _).mono ?_
      rintro e w1 ⟨rfl, rfl⟩
      rw [← HR.out]
      go_wp2
      go_roundw
      case rel => exact ⟨i + 1, by omega, rfl, by go_num, trivial⟩
      case measure => simp [intOf]; omega
    · obtain rfl : i = n := by omega
      go_wp2
      go_ret
      exact ⟨rfl, rfl⟩

set_option maxHeartbeats 1000000 in
set_option maxRecDepth 100000 in
theorem boxed_any [Inhabited Field.SqTab] (P : Nat → UInt8) (g : Nat) (w : World) (ht : Tab w g 241 Field.gbox) :
    Calls Try.prog 132 #[.pointer (some ⟨g, 0, none⟩), .agg (bvs (t4 P)).toArray] w fun e w' => e = .returned (.agg (bvs (t4 fun k => Field.gbox (P k))).toArray) ∧ Kp nob w w' := by
  have HT := Lib.hid ht; clear ht
  have HM : Hid ((bvs (t4 fun k => Field.gbox (P k))).length = 4) := Lib.hid (by rw [bvs_length, t4_length])
  go_enter Try.func132, Try.ntmps132
  go_wp2
  go_loopw [6] (fun vi wr => ∃ k : Nat, k ≤ 4 ∧ vi = .int .i64 k ∧ Blk wr w.heap.size 184 (bvs (p4 (fun k => Field.gbox (P k)) P k)) ∧ (∃ z, z.length = 4 ∧ Blk wr (w.heap.size + 1) 184 z) ∧ Kp nob w wr)
    (fun vi _ => 4 - (intOf vi).toNat)
  case atStart => exact ⟨0, by omega, rfl, by rw [p4_zero]; simpa using (Blk.new' rfl rfl).alloc _, ⟨_, rfl, Blk.new' (by simp) rfl⟩, ((Kp.refl _ _).alloc _).alloc _⟩
  case round =>
    obtain ⟨k, hk, rfl, h1, h2, hkp⟩ := hrel
    have H1 := Lib.hid h1; have H2 := Lib.hid h2; clear h1 h2
    by_cases hlt : k < 4
    · have hc1 : wr.cell? ⟨w.heap.size, k, none⟩ = some (.int .u8 (cb (P k))) := by rw [H1.out.cell, p4_get _ _ _ hlt]
      have hc2 : wr.cell? ⟨g, 241 + (cb (P k)).toNat, none⟩ = some (.int .u8 (cb (Field.gbox (P k)))) := (HT.out.keep hkp).2 (P k)
      have hy : 0 ≤ cb (P k) ∧ cb (P k) < 256 := cb_in _
      have hf1 : wr.frozen? ⟨w.heap.size, k, none⟩ = false := H1.out.frozen _
      go_wp2
      go_region
      go_wp2
      go_roundw
      case rel =>
        refine ⟨k + 1, by omega, by go_num, ?_, ?_, ?_⟩
        · have := (H1.out.keep (Kp.refl nob wr).drew (fun e => e)).set_ k (.int .u8 (cb (Field.gbox (P k))))
          rw [bvs_setb, p4_set (fun k => Field.gbox (P k)) _ _ hlt] at this
          exact this
        · obtain ⟨z, hz, h2⟩ := H2.out
          exact ⟨z, hz, (h2.keep (Kp.refl nob wr).drew (fun e => e)).far (by simp) _⟩
        · exact hkp.drew.setCell (.inr (Nat.le_refl _)) _
      case measure => simp [intOf]; omega
    · obtain rfl : k = 4 := by omega
      obtain ⟨z, hz, h2⟩ := H2.out
      have h1 := H1.out
      rw [p4_all] at h1
      have HB1 := Lib.hid h1; have HB2 := Lib.hid h2; have HZ := Lib.hid hz
      clear H1 H2 h1 h2 hz
      go_wp2_with (first
        | (refine wpList_load_blk rfl 184 (.tmp 3) rfl _ _ _ HB1.out rfl _ arrW rfl (by rw [HM.out]; kernel_rfl) ?_)
        | (refine wpList_store_blk rfl 184 (.tmp 4) (.tmp 20) rfl _ _ z (bvs (t4 fun k => Field.gbox (P k))) HB2.out rfl rfl (by rw [HZ.out, HM.out]) (by rw [HM.out]; kernel_rfl) (bvs_one _) ?_; intro w2 hB2 k2 z2))
      have hsz : (Try.prog.info? 184).map (·.size) = some (bvs (t4 fun k => Field.gbox (P k))).toArray.size := by
        rw [List.size_toArray, HM.out]; kernel_rfl
      refine bodyPost_ret (results_cell_row rfl _ _ (w.heap.size + 1) _ _ _ _ rfl hB2 arrW rfl hsz) rfl ⟨rfl, hkp.since k2 (fun i e => by cases e; omega)⟩
end Go.Proofs.Ytmmpmncioifeoaa.Aes
namespace Go.Proofs.Ytmmpmncioifeoaa.Aes
set_option linter.unusedVariables false
set_option linter.unusedSimpArgs false
open Go Go.RowKit Kit
open Field (cb cb_inj)

/-- What stands: the elder word, the one that is turned, the answer. -/
structure Fu [Inhabited Field.SqTab] (w : World) (P : Nat → UInt8) (L : List UInt8) (w2 : World) : Prop where
  p : Blk w2 w.heap.size 184 (bvs (t4 P))
  l : Blk w2 (w.heap.size + 1) 184 (bvs L)
  z : ∃ z : List Value, z.length = 4 ∧ Blk w2 (w.heap.size + 2) 184 z
  kp : Kp nob w w2
theorem Fu.keep [Inhabited Field.SqTab] {w w2 w3 : World} {P : Nat → UInt8} {L : List UInt8} (h : Fu w P L w2) (k : Kp nob w2 w3) : Fu w P L w3 :=
  ⟨h.p.keep k (fun e => e), h.l.keep k (fun e => e), (let ⟨z, hz, hb⟩ := h.z; ⟨z, hz, hb.keep k (fun e => e)⟩), h.kp.trans k (fun _ e => e.elim)⟩
theorem Fu.set [Inhabited Field.SqTab] {w w2 : World} {P : Nat → UInt8} {L : List UInt8} (h : Fu w P L w2) (k : Nat) (u : UInt8) : Fu w P (L.set k u) (w2.setCell ⟨w.heap.size + 1, k, none⟩ (.int .u8 (cb u))) :=
  ⟨h.p.far (by simp) _, by have := h.l.set_ k (.int .u8 (cb u)); rwa [bvs_setb] at this, (let ⟨z, hz, hb⟩ := h.z; ⟨z, hz, hb.far (by simp) _⟩), h.kp.setCell (.inr (by simp)) _⟩
theorem Fu.all [Inhabited Field.SqTab] {w w2 w3 : World} {P : Nat → UInt8} {L M : List UInt8} (h : Fu w P L w2) (hB : Blk w3 (w.heap.size + 1) 184 (bvs M)) (k : Kp (oneB (w.heap.size + 1)) w2 w3) : Fu w P M w3 :=
  ⟨h.p.keep k (fun e => by unfold oneB at e; omega), hB, (let ⟨z, hz, hb⟩ := h.z; ⟨z, hz, hb.keep k (fun e => by unfold oneB at e; omega)⟩), h.kp.since k (fun i e => by unfold oneB at e; omega)⟩
theorem Fu.to [Inhabited Field.SqTab] {w w2 : World} {P : Nat → UInt8} {L M : List UInt8} (h : Fu w P L w2) (e : L = M) : Fu w P M w2 := e ▸ h
theorem xor_t4 (P T : Nat → UInt8) : (t4 fun k => T k ^^^ P k) = t4 fun k => P k ^^^ T k := t4_ext fun k _ => UInt8.xor_comm _ _

set_option maxHeartbeats 2000000 in
set_option maxRecDepth 100000 in
theorem further_any [Inhabited Field.SqTab] (P Q : Nat → UInt8) (i n g : Nat) (w : World) (ht : Tab w g 241 Field.gbox) (hn : 1 ≤ n) (hin : n ≤ i) (hi : i ≤ 1000) :
    Calls Try.prog 123 #[.pointer (some ⟨g, 0, none⟩), .int .i64 i, .int .i64 n, .agg (bvs (t4 P)).toArray, .agg (bvs (t4 Q)).toArray] w fun e w' => e = .returned (.agg (bvs (t4 fun k => P k ^^^ turned n i Q k)).toArray) ∧ Kp nob w w' := by
  have HT := Lib.hid ht; clear ht
  have HX := Lib.hid (xor_t4 P (turned n i Q))
  have HM : Hid ((bvs (t4 fun k => P k ^^^ turned n i Q k)).length = 4) := Lib.hid (by rw [bvs_length, t4_length])
  have hf0 : Fu w P (t4 Q) (((w.alloc (.cells (bvs (t4 P)).toArray 184)).alloc (.cells (bvs (t4 Q)).toArray 184)).alloc (.cells #[.int .u8 0, .int .u8 0, .int .u8 0, .int .u8 0] 184)) :=
    ⟨((Blk.new w _ _).alloc _).alloc _, (Blk.new' (by simp) rfl).alloc _, ⟨[.int .u8 0, .int .u8 0, .int .u8 0, .int .u8 0], rfl, Blk.new' (by simp) rfl⟩, (((Kp.refl nob w).alloc _).alloc _).alloc _⟩
  have HF0 := Lib.hid hf0; clear hf0
  have hn0 : ¬ (n : Int) = 0 := by omega
  have hn1 : ¬ n = 0 := by omega
  obtain ⟨T, hT⟩ : ∃ T, T = turned n i Q := ⟨_, rfl⟩
  rw [← hT] at HX HM ⊢
  go_enter Try.func123, Try.ntmps123
  rcases four_ways n i with hm | ⟨hm, h8, h4⟩ | ⟨hm, h8⟩ | ⟨hm, h8, h4⟩
  case' inl =>
    have d1 : ((i : Int) % (n : Int) == 0) = true := by rw [beq_iff_eq]; omega
    have HTU := Lib.hid (turned_a n i Q hm)
    rw [← hT] at HTU
    have HL4 := Lib.hid (show (bvs (t4 Q)).length = (bvs (t4 fun k => Field.gbox (Q ((k + 1) % 4)))).length from rfl)
    obtain ⟨q, hq⟩ : ∃ q, q = i / n - 1 := ⟨_, rfl⟩
    have hq0 : 1 ≤ i / n := (Nat.one_le_div_iff (by omega)).2 (by omega)
    have hq2 : i / n ≤ 1000 := Nat.le_trans (Nat.div_le_self _ _) (by omega)
    obtain ⟨D, hD⟩ : ∃ D, D = i / n := ⟨_, rfl⟩
    rw [← hD] at hq hq0 hq2
    have e1 : (i : Int) / (n : Int) = (D : Int) := by rw [hD]; rfl
    have e1' : (i : Int).tdiv (n : Int) = (D : Int) := by rw [Int.tdiv_eq_ediv_of_nonneg (by omega)]; exact e1
    have e2 : IntKind.i64.wrap ((D : Int) - 1) = (q : Int) := wrap_to _ _ (by omega) (by omega)
    have e3 : IntKind.i64.wrap (D : Int) = (D : Int) := wrap_to _ _ rfl (by omega)
    rw [← hD, ← hq] at HTU
    have hq3 : q ≤ 1000 := by omega
    clear hq hq0 hq2 hD hm hT
    have c0 : (((w.alloc (.cells (bvs (t4 P)).toArray 184)).alloc (.cells (bvs (t4 Q)).toArray 184)).alloc (.cells #[.int .u8 0, .int .u8 0, .int .u8 0, .int .u8 0] 184)).cell? ⟨w.heap.size + 1, 0, none⟩ = some (.int .u8 (cb (Q 0))) := by rw [HF0.out.l.cell]; rfl
    have c1 : (((w.alloc (.cells (bvs (t4 P)).toArray 184)).alloc (.cells (bvs (t4 Q)).toArray 184)).alloc (.cells #[.int .u8 0, .int .u8 0, .int .u8 0, .int .u8 0] 184)).cell? ⟨w.heap.size + 1, 1, none⟩ = some (.int .u8 (cb (Q 1))) := by rw [HF0.out.l.cell]; rfl
    have c2 : (((w.alloc (.cells (bvs (t4 P)).toArray 184)).alloc (.cells (bvs (t4 Q)).toArray 184)).alloc (.cells #[.int .u8 0, .int .u8 0, .int .u8 0, .int .u8 0] 184)).cell? ⟨w.heap.size + 1, 2, none⟩ = some (.int .u8 (cb (Q 2))) := by rw [HF0.out.l.cell]; rfl
    have c3 : (((w.alloc (.cells (bvs (t4 P)).toArray 184)).alloc (.cells (bvs (t4 Q)).toArray 184)).alloc (.cells #[.int .u8 0, .int .u8 0, .int .u8 0, .int .u8 0] 184)).cell? ⟨w.heap.size + 1, 3, none⟩ = some (.int .u8 (cb (Q 3))) := by rw [HF0.out.l.cell]; rfl
    go_wp2_with fail
    refine (boxed_any (fun k => Q ((k + 1) % 4)) g _ (HT.out.keep HF0.out.kp)).mono ?_
    clear c0 c1 c2 c3
    rintro e w1 ⟨rfl, k1⟩
    have HF1 := Lib.hid (HF0.out.keep k1)
    clear k1
    go_wp2_with (refine wpList_store_blk rfl 184 (.tmp 9) (.tmp 27) rfl _ _ (bvs (t4 Q)) (bvs (t4 fun k => Field.gbox (Q ((k + 1) % 4)))) HF1.out.l rfl rfl HL4.out.symm (by kernel_rfl) (bvs_one _) ?_; intro w2 hB2 k2 z2)
    have HF2 := Lib.hid (HF1.out.all hB2 k2)
    clear hB2 k2 z2 HF1 HF0
    have HDD := Lib.hid ((Kp.refl nob w2).drew)
    go_wp2
    refine wp_region_still_tail 9 (by kernel_rfl) (by kernel_rfl) ?_
    change wpStill _ _ w2.drew (fun a' => wpList _ _ _ _ a' w2.drew) _ _
    have HF3 := Lib.hid (HF2.out.keep HDD.out)
    clear HF2 HDD
    generalize w2.drew = wd at *
    have c0 : wd.cell? ⟨w.heap.size + 1, 0, none⟩ = some (.int .u8 (cb (Field.gbox (Q 1)))) := by rw [HF3.out.l.cell]; rfl
    have f0 : wd.frozen? ⟨w.heap.size + 1, 0, none⟩ = false := HF3.out.l.frozen 0
    simp only [List.take_succ_cons, List.take_zero, List.drop_succ_cons, List.drop_zero]
    repeat still_step
    still_call ((power_any q _ hq3).mono fun _ _ h => ⟨h.1, h.2.symm⟩)
    repeat still_step
    refine wpStill_nil ?_
    have ht2 := HF3.out.set 0 (Field.gbox (Q 1) ^^^ rc q)
    rw [← HTU.out] at ht2
    have HT2 := Lib.hid ht2
    clear ht2 HF3
    go_wp2
  case' inr.inl =>
    have d1 : ((i : Int) % (n : Int) == 0) = false := by rw [beq_eq_false_iff_ne]; omega
    have d2 : ((n : Int) == 8) = true := by rw [beq_iff_eq]; omega
    have hin4 : i % n = 4 := by rw [h8]; exact h4
    have d3 : ((i : Int) % (n : Int) == 4) = true := by rw [beq_iff_eq]; omega
    have HTU := Lib.hid (turned_b n i Q hm ⟨h8, h4⟩)
    rw [← hT] at HTU
    have HL4 := Lib.hid (show (bvs (t4 T)).length = 4 from rfl)
    have HLQ := Lib.hid (show (bvs (t4 Q)).length = 4 from rfl)
    clear hm h8 h4 hin4 hT
    have HL0 := Lib.hid HF0.out.l
    go_wp2_with (refine wpList_load_blk rfl 184 (.tmp 9) rfl _ _ _ HL0.out rfl _ arrW rfl (by rw [HLQ.out]; kernel_rfl) ?_)
    clear HL0
    refine (boxed_any Q g _ (HT.out.keep HF0.out.kp)).mono ?_
    rintro e w1 ⟨rfl, k1⟩
    rw [← HTU.out]
    have HF1 := Lib.hid (HF0.out.keep k1)
    clear k1 HF0
    go_wp2_with (refine wpList_store_blk rfl 184 (.tmp 9) (.tmp 48) rfl _ _ (bvs (t4 Q)) (bvs (t4 T)) HF1.out.l rfl rfl (by rw [HL4.out, HLQ.out]) (by rw [HL4.out]; kernel_rfl) (bvs_one _) ?_; intro w2 hB2 k2 z2)
    have HT2 := Lib.hid (HF1.out.all hB2 k2)
    clear hB2 k2 z2 HF1
    go_wp2
  case' inr.inr.inl =>
    have d1 : ((i : Int) % (n : Int) == 0) = false := by rw [beq_eq_false_iff_ne]; omega
    have d2 : ((n : Int) == 8) = false := by rw [beq_eq_false_iff_ne]; omega
    have HT2 := Lib.hid (HF0.out.to (show t4 Q = t4 T by rw [hT, turned_c n i Q hm (fun h => h8 h.1)]; rfl))
    clear hm h8 hT
    go_wp2
  case' inr.inr.inr =>
    have d1 : ((i : Int) % (n : Int) == 0) = false := by rw [beq_eq_false_iff_ne]; omega
    have d2 : ((n : Int) == 8) = true := by rw [beq_iff_eq]; omega
    have hin4 : i % n ≠ 4 := by rw [h8]; exact h4
    have d3 : ((i : Int) % (n : Int) == 4) = false := by rw [beq_eq_false_iff_ne]; omega
    have HT2 := Lib.hid (HF0.out.to (show t4 Q = t4 T by rw [hT, turned_c n i Q hm (fun h => h4 h.2)]; rfl))
    clear hm h8 h4 hin4 hT
    go_wp2
  all_goals
    go_loopw [49] (fun vk wr => ∃ k : Nat, k ≤ 4 ∧ vk = .int .i64 k ∧ Fu w P (p4 (fun k => T k ^^^ P k) T k) wr)
      (fun vk _ => 4 - (intOf vk).toNat)
  all_goals first
    | exact ⟨0, by omega, rfl, by rw [p4_zero]; exact HT2.out⟩
    | skip
  all_goals
    obtain ⟨k, hk4, rfl, hf⟩ := hrel
    have HF := Lib.hid hf
    clear hf HT2
    by_cases hlk : k < 4
    · have c1 : wr.cell? ⟨w.heap.size + 1, k, none⟩ = some (.int .u8 (cb (T k))) := by rw [HF.out.l.cell, p4_get _ _ _ hlk]
      have c2 : wr.cell? ⟨w.heap.size, k, none⟩ = some (.int .u8 (cb (P k))) := by rw [HF.out.p.cell, t4_get _ _ hlk]
      have hfr : wr.frozen? ⟨w.heap.size + 1, k, none⟩ = false := HF.out.l.frozen _
      have HPS := Lib.hid (p4_set (fun k => T k ^^^ P k) T k hlk)
      go_wp2
      go_region
      go_wp2
      go_roundw
      case rel =>
        refine ⟨k + 1, by omega, by go_num, ?_⟩
        have := (HF.out.keep (Kp.refl nob wr).drew).set k (T k ^^^ P k)
        rw [HPS.out] at this
        exact this
      case measure => simp [intOf]; omega
    · have h1 := HF.out
      rw [show k = 4 by omega, p4_all, HX.out] at h1
      obtain ⟨z, hz, hbz⟩ := h1.z
      have HB1 := Lib.hid h1; have HB2 := Lib.hid hbz; have HZ := Lib.hid hz
      clear HF h1 hz hbz
      go_wp2_with (first
        | (refine wpList_load_blk rfl 184 (.tmp 9) rfl _ _ _ HB1.out.l rfl _ arrW rfl (by rw [HM.out]; kernel_rfl) ?_)
        | (refine wpList_store_blk rfl 184 (.tmp 10) (.tmp 61) rfl _ _ z (bvs (t4 fun k => P k ^^^ T k)) HB2.out rfl rfl (by rw [HZ.out, HM.out]) (by rw [HM.out]; kernel_rfl) (bvs_one _) ?_; intro w5 hB5 k5 z5))
      have hsz : (Try.prog.info? 184).map (·.size) = some (bvs (t4 fun k => P k ^^^ T k)).toArray.size := by
        rw [List.size_toArray, HM.out]; kernel_rfl
      refine bodyPost_ret (results_cell_row rfl _ _ (w.heap.size + 2) _ _ _ _ rfl hB5 arrW rfl hsz) rfl ⟨rfl, HB1.out.kp.since k5 (fun i e => by cases e; omega)⟩
end Go.Proofs.Ytmmpmncioifeoaa.Aes
namespace Go.Proofs.Ytmmpmncioifeoaa.Aes
set_option linter.unusedVariables false
set_option linter.unusedSimpArgs false
open Go Go.RowKit Kit
open Field (cb gbox)

/-- 256 bytes by their places. -/
def tt (f : Nat → UInt8) : List UInt8 := (List.range 256).map f
theorem tt_length (f : Nat → UInt8) : (tt f).length = 256 := by simp [tt]
theorem tt_get (f : Nat → UInt8) (k : Nat) (h : k < 256) : (tt f)[k]? = some (f k) := by
  rw [tt, List.getElem?_map, List.getElem?_range h]; rfl
theorem tt_ext {f g : Nat → UInt8} (h : ∀ i, i < 256 → f i = g i) : tt f = tt g := List.map_congr_left fun i hi => h i (List.mem_range.1 hi)
theorem tt_set (f : Nat → UInt8) (k : Nat) (x : UInt8) : (tt f).set k x = tt fun i => if i = k then x else f i := by
  apply List.ext_getElem (by simp [tt_length])
  intro i h1 h2
  rw [List.getElem_set]
  simp only [tt, List.getElem_map, List.getElem_range]
  by_cases h : i = k
  · rw [if_pos h.symm, if_pos h]
  · rw [if_neg (fun e => h e.symm), if_neg h]
theorem tt_zero : (tt fun _ => 0) = List.replicate 256 0 := by decide +kernel

def BX [Inhabited Field.SqTab] : List UInt8 := tt fun i => gbox (UInt8.ofNat i)
/-- The tables so far: of the first i bytes. -/
def bxs [Inhabited Field.SqTab] (i : Nat) : List UInt8 := tt fun j => if j < i then gbox (UInt8.ofNat j) else 0
def bks [Inhabited Field.SqTab] : Nat → List UInt8
  | 0 => List.replicate 256 0
  | i + 1 => (bks i).set (gbox (UInt8.ofNat i)).toNat (UInt8.ofNat i)
def BK [Inhabited Field.SqTab] : List UInt8 := bks 256
theorem bxs_zero [Inhabited Field.SqTab] : bxs 0 = List.replicate 256 0 := by rw [← tt_zero]; exact tt_ext fun i _ => if_neg (by omega)
theorem bks_zero [Inhabited Field.SqTab] : bks 0 = List.replicate 256 0 := rfl
theorem bxs_all [Inhabited Field.SqTab] : bxs 256 = BX := tt_ext fun i h => if_pos h
theorem bks_all [Inhabited Field.SqTab] : bks 256 = BK := rfl
theorem bxs_set [Inhabited Field.SqTab] (i : Nat) : (bxs i).set i (gbox (UInt8.ofNat i)) = bxs (i + 1) := by
  rw [bxs, tt_set]
  refine tt_ext fun j _ => ?_
  by_cases h : j = i
  · subst h; rw [if_pos rfl, if_pos (Nat.lt_succ_self _)]
  · rw [if_neg h]
    by_cases h2 : j < i
    · rw [if_pos h2, if_pos (by omega)]
    · rw [if_neg h2, if_neg (by omega)]
theorem bks_set [Inhabited Field.SqTab] (i : Nat) (hi : i < 256) : (bks i).set (gbox (UInt8.ofNat i)).toNat (UInt8.ofNat i) = bks (i + 1) := rfl
theorem BX_get [Inhabited Field.SqTab] (x : UInt8) : BX[x.toNat]? = some (gbox x) := by rw [BX, tt_get _ _ x.toNat_lt, UInt8.ofNat_toNat]
theorem bks_length [Inhabited Field.SqTab] (i : Nat) : (bks i).length = 256 := by
  induction i with
  | zero => exact List.length_replicate
  | succ i ih => rw [← ih]; exact List.length_set
theorem bxs_length [Inhabited Field.SqTab] (i : Nat) : (bxs i).length = 256 := tt_length _
theorem BX_length [Inhabited Field.SqTab] : BX.length = 256 := tt_length _
theorem BK_length [Inhabited Field.SqTab] : BK.length = 256 := bks_length _
attribute [irreducible] BX BK bxs bks

set_option maxRecDepth 100000
/-- A cipher's cells. -/
def cph (N : Nat) (K bx bk : List UInt8) : List Value := .int .i64 (N : Int) :: bvs (K ++ (bx ++ bk))
theorem cph_length {N : Nat} {K bx bk : List UInt8} (hK : K.length = 240) (hx : bx.length = 256) (hk : bk.length = 256) : (cph N K bx bk).length = 753 := by
  rw [cph, List.length_cons, bvs_length, List.length_append, List.length_append, hK, hx, hk]
theorem cph_zero (N : Nat) (K bx bk : List UInt8) : (cph N K bx bk)[0]? = some (.int .i64 (N : Int)) := rfl
theorem bvs_at {l : List UInt8} {i : Nat} {x : UInt8} (h : l[i]? = some x) : (bvs l)[i]? = some (.int .u8 (cb x)) := by
  rw [bvs, List.getElem?_map, h]; rfl
theorem cph_key {N : Nat} {K bx bk : List UInt8} (hK : K.length = 240) (i : Nat) (h : i < 240) : (cph N K bx bk)[1 + i]? = some (.int .u8 (cb (gb K i))) := by
  rw [cph, Nat.add_comm, List.getElem?_cons_succ]
  exact bvs_at (by rw [List.getElem?_append_left (by omega), List.getElem?_eq_getElem (by omega), gb, List.getD, List.getElem?_eq_getElem (by omega)]; rfl)
theorem cph_bx {N : Nat} {K bx bk : List UInt8} (hK : K.length = 240) (hx : bx.length = 256) (i : Nat) (x : UInt8) (h : bx[i]? = some x) : (cph N K bx bk)[241 + i]? = some (.int .u8 (cb x)) := by
  have hi : i < 256 := by rw [← hx]; exact (List.getElem?_eq_some_iff.1 h).1
  rw [cph, show 241 + i = (240 + i) + 1 by omega, List.getElem?_cons_succ]
  exact bvs_at (by rw [List.getElem?_append_right (by omega), hK, List.getElem?_append_left (by omega), ← h]; congr 1; omega)
theorem cph_bk {N : Nat} {K bx bk : List UInt8} (hK : K.length = 240) (hx : bx.length = 256) (i : Nat) (x : UInt8) (h : bk[i]? = some x) : (cph N K bx bk)[497 + i]? = some (.int .u8 (cb x)) := by
  rw [cph, show 497 + i = (496 + i) + 1 by omega, List.getElem?_cons_succ]
  exact bvs_at (by rw [List.getElem?_append_right (by omega), hK, List.getElem?_append_right (by omega), hx, ← h]; congr 1; omega)
theorem cph_setx {N : Nat} {K bx bk : List UInt8} (hK : K.length = 240) (i : Nat) (x : UInt8) (hi : i < bx.length) : (cph N K bx bk).set (241 + i) (.int .u8 (cb x)) = cph N K (bx.set i x) bk := by
  rw [cph, show 241 + i = (240 + i) + 1 by omega, List.set_cons_succ, bvs_setb, List.set_append_right _ _ (by omega), hK, show 240 + i - 240 = i by omega, List.set_append_left _ _ hi]
  rfl
theorem cph_setk {N : Nat} {K bx bk : List UInt8} (hK : K.length = 240) (hx : bx.length = 256) (i : Nat) (x : UInt8) : (cph N K bx bk).set (497 + i) (.int .u8 (cb x)) = cph N K bx (bk.set i x) := by
  rw [cph, show 497 + i = (496 + i) + 1 by omega, List.set_cons_succ, bvs_setb, List.set_append_right _ _ (by omega), hK, List.set_append_right _ _ (by omega), hx, show 496 + i - 240 - 256 = i by omega]
  rfl
attribute [irreducible] cph
end Go.Proofs.Ytmmpmncioifeoaa.Aes
