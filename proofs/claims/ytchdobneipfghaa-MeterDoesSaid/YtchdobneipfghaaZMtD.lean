/- The register: one more, whatever it is, over a disk's power; a new one; a nil one. -/
import Derived.Test.YtchdobneipfghaaZMtC
namespace Go.Proofs.Ytchdobneipfghaa.Meter
set_option linter.unusedVariables false
set_option linter.unusedSimpArgs false
open Go Go.RowKit Kit Disk

/-- The bit that is asked. -/
theorem high_bit (k : Nat) (hk : k < 18446744073709551616) : ∃ z : Nat, bits .and .u64 (k : Int) 9223372036854775808 = (z : Int) ∧ (z = 0 ↔ high k = false) := by
  obtain ⟨z, h1, h2⟩ := kept_bit k 63 63 rfl hk
  refine ⟨z, h1, h2.trans ?_⟩
  have e : kept k 63 = high k := by
    unfold kept high
    rw [show (63 % 64 : Nat) = 63 from rfl, show (2 ^ 63 : Nat) = 9223372036854775808 from rfl, Bool.eq_iff_iff, decide_eq_true_iff, decide_eq_true_iff]
    omega
  rw [e]
theorem Mz.no {w w2 : World} {m g N S : Nat} {W : Option Addr} {cW : Nat} {D : Dk} {t : Mt} (h : Mb w m (some ⟨g, 0, none⟩) t) (hd : Cd w g N S W cW D) (k : Kp nob w w2) : Mz w m g N S W t D w2 := ⟨W, cW, hd.keep0 k, h.keep0 k, k.nob _, fun _ e => .inl e⟩
set_option maxHeartbeats 2000000 in
set_option maxRecDepth 100000 in
theorem next_any (t : Mt) (D : Dk) (e : Int) (r : List UInt8) (m g N S : Nat) (W : Option Addr) (cW : Nat) (w : World) (h : Mb w m (some ⟨g, 0, none⟩) t) (hd : Cd w g N S W cW D) (hr : r.length = 32) (hm : ¬ dF g N S W m)
    (hw : D.waits.length ≤ 100000) (ha : D.acts ≤ 1000000000000) (hf : D.fuse ≤ 9223372036854775807) (hk : D.keep < 18446744073709551616) :
    Calls Try.prog 12 #[.pointer (some ⟨m, 0, none⟩), .int .i64 e, .agg (bvs r).toArray] w fun e' w' => e' = .returned (.int .i64 (nxt t D e r).2.2) ∧ Mz w m g N S W (nxt t D e r).1 (nxt t D e r).2.1 w' := by
  by_cases hno : why t D.off e = 0
  case neg =>
    rw [nxt_no hno]
    refine (next_no t e r m _ D.off w h hr (Cd.pow hd) hno).mono ?_
    rintro e w2 ⟨rfl, k⟩
    exact ⟨rfl, Mz.no h hd k⟩
  obtain ⟨ho, he, hs⟩ := why_0 hno
  obtain ⟨g1, hg1⟩ : ∃ g, g = w.heap.size := ⟨_, rfl⟩
  have HK1 := Lib.hid ((Kp.refl nob w).alloc (.cells (bvs r).toArray 32))
  have HB1 := Lib.hid (Blk.new w 32 (bvs r))
  have HRF := Lib.hid (refused_any t m _ D.off (w.alloc (.cells (bvs r).toArray 32)) (h.keep0 HK1.out) (Cd.pow (hd.keep0 HK1.out)))
  rw [ho] at HRF
  have HL := Lib.hid (left_any t m _ (w.alloc (.cells (bvs r).toArray 32)) (h.keep0 HK1.out))
  have HM1 := Lib.hid (h.keep0 HK1.out)
  have HD1 := Lib.hid (hd.keep0 HK1.out)
  have HG1 := Lib.hid (show ¬ dF g N S W g1 ∧ g1 ≠ m from ⟨fun e => by have := hd.lt g1 e; omega, fun e => by have := h.b.lt; omega⟩)
  rw [← hg1] at HB1
  have HR := Lib.hid hr
  have HRZ := Lib.hid (root_size r hr)
  have HS := Lib.hid (show t.count < t.most by omega)
  have HNE := Lib.hid hm
  have HWA := Lib.hid (And.intro hw (And.intro ha (And.intro hf hk)))
  obtain ⟨q, hq⟩ : ∃ q, q = t.most - t.count := ⟨_, rfl⟩
  rw [← hq] at HL
  have hq0 : ((q : Int) == 0) = false := beq_eq_false_iff_ne.2 (by omega)
  have c1 := HM1.out.cells.2.1
  have HNO := Lib.hid hno
  have HGE := Lib.hid hg1
  clear h hd hr hno hs hq hm hw ha hf ho hg1
  cases hac : (act D).2 with
  | false =>
    have HN := Lib.hid (nxt_on (r := r) HNO.out hac)
    have HT := Lib.hid (told_no D hac)
    rw [HN.out]
    clear hac hk
    go_enter Try.func12, Try.ntmps12
    go_wp2_with fail
    rw [← HGE.out]
    refine HRF.out.mono ?_
    rintro e w1 ⟨rfl, rfl⟩
    go_wp2_with fail
    refine HL.out.mono ?_
    rintro e w2 ⟨rfl, k2⟩
    have HK2 := Lib.hid (HK1.out.trans k2 (fun _ e => e.elim))
    have HB2 := Lib.hid (HB1.out.keep k2 (fun e => e))
    have HM2 := Lib.hid (HM1.out.keep0 k2)
    have HD2 := Lib.hid (HD1.out.keep0 k2)
    have c3 := HM2.out.cells.2.2.2
    clear k2 c1
    go_wp2_with fail
    refine (act1_any D g N S W cW w2 HD2.out HWA.out.2.1 HWA.out.2.2.1).mono ?_
    rintro e w3 ⟨rfl, h3, k3⟩
    have HD3 := Lib.hid h3; have HK3 := Lib.hid k3
    have HM3 := Lib.hid (HM2.out.keep k3 (fun e => HNE.out (.inl e)))
    have HB3 := Lib.hid (HB2.out.keep k3 (fun e => HG1.out.1 (.inl e)))
    clear h3 k3 c3
    rw [HT.out]
    go_wp2_with (refine wpList_load_blk rfl 32 (.tmp 5) rfl _ _ _ HB3.out rfl _ root_under rfl HRZ.out ?_)
    refine (goOn_any t _ r m _ w3 HM3.out HR.out HS.out).mono ?_
    rintro e w4 ⟨rfl, h4, k4⟩
    have H4 := Lib.hid h4; have K4 := Lib.hid k4
    have HD4 := Lib.hid (HD3.out.keep k4 (fun i e e2 => HNE.out (by rw [← e2]; exact e)))
    clear h4 k4
    go_wp2
    go_ret
    exact ⟨rfl, W, cW, HD4.out, H4.out, ((HK2.out.nob _).trans HK3.out (fun i e => .inl (.inr (.inl e)))).trans K4.out (fun i e => .inl (.inl e)), fun k e => .inl e⟩
  | true =>
    have HT := Lib.hid (told_yes D hac)
    obtain ⟨z, hz1, hz2⟩ := high_bit D.keep hk
    cases hhi : high D.keep with
    | true =>
      have HN := Lib.hid (nxt_hi (r := r) HNO.out hac hhi)
      have hz0 : ((z : Int) == 0) = false := beq_eq_false_iff_ne.2 (fun e => by have := hz2.1 (by omega); rw [hhi] at this; cases this)
      have HZ := Lib.hid (And.intro hz1 hz0)
      rw [HN.out]
      clear hac hk hz1 hz2 hz0 hhi
      go_enter Try.func12, Try.ntmps12
      go_wp2_with fail
      rw [← HGE.out]
      refine HRF.out.mono ?_
      rintro e w1 ⟨rfl, rfl⟩
      go_wp2_with fail
      refine HL.out.mono ?_
      rintro e w2 ⟨rfl, k2⟩
      have HK2 := Lib.hid (HK1.out.trans k2 (fun _ e => e.elim))
      have HB2 := Lib.hid (HB1.out.keep k2 (fun e => e))
      have HM2 := Lib.hid (HM1.out.keep0 k2)
      have HD2 := Lib.hid (HD1.out.keep0 k2)
      have c3 := HM2.out.cells.2.2.2
      clear k2 c1
      go_wp2_with fail
      refine (act1_any D g N S W cW w2 HD2.out HWA.out.2.1 HWA.out.2.2.1).mono ?_
      rintro e w3 ⟨rfl, h3, k3⟩
      have HD3 := Lib.hid h3; have HK3 := Lib.hid k3
      have HM3 := Lib.hid (HM2.out.keep k3 (fun e => HNE.out (.inl e)))
      have HB3 := Lib.hid (HB2.out.keep k3 (fun e => HG1.out.1 (.inl e)))
      clear h3 k3 c3
      rw [HT.out]
      obtain ⟨hz1, hz0⟩ := HZ.out
      go_wp2_with (refine wpList_load_blk rfl 32 (.tmp 5) rfl _ _ _ HB3.out rfl _ root_under rfl HRZ.out ?_)
      refine (goOn_any t _ r m _ w3 HM3.out HR.out HS.out).mono ?_
      rintro e w4 ⟨rfl, h4, k4⟩
      have H4 := Lib.hid h4; have K4 := Lib.hid k4
      have HD4 := Lib.hid (HD3.out.keep k4 (fun i e e2 => HNE.out (by rw [← e2]; exact e)))
      have c4 := h4.cells.2.2.2
      clear h4 k4 hz1 hz0
      go_wp2_with fail
      refine (off_any (act D).1 D.keep g N S W cW w4 HD4.out (by rw [act_length]; exact HWA.out.1) HWA.out.2.2.2).mono ?_
      rintro e w5 ⟨rfl, W5, c5, h5, k5, n5⟩
      have H5 := Lib.hid h5; have K5 := Lib.hid k5; have N5 := Lib.hid n5
      have HM5 := Lib.hid (H4.out.keep k5 HNE.out)
      have HKK := Lib.hid (((HK2.out.nob (mF m g N S W)).trans HK3.out (fun i e => .inl (.inr (.inl e)))).trans K4.out (fun i e => .inl (.inl e)))
      clear h5 k5 n5 c4
      go_wp2
      go_ret
      exact ⟨rfl, W5, c5, H5.out, HM5.out, HKK.out.trans K5.out (fun i e => .inl (.inr e)), fun k e => (N5.out k e).imp id (fun h => Nat.le_trans HKK.out.size h)⟩
    | false =>
      have HN := Lib.hid (nxt_lo (r := r) HNO.out hac hhi)
      have hz0 : z = 0 := hz2.2 hhi
      subst hz0
      have HZ := Lib.hid hz1
      rw [HN.out]
      clear hac hk hz1 hz2 hhi
      go_enter Try.func12, Try.ntmps12
      go_wp2_with fail
      rw [← HGE.out]
      refine HRF.out.mono ?_
      rintro e w1 ⟨rfl, rfl⟩
      go_wp2_with fail
      refine HL.out.mono ?_
      rintro e w2 ⟨rfl, k2⟩
      have HK2 := Lib.hid (HK1.out.trans k2 (fun _ e => e.elim))
      have HM2 := Lib.hid (HM1.out.keep0 k2)
      have HD2 := Lib.hid (HD1.out.keep0 k2)
      have c3 := HM2.out.cells.2.2.2
      clear k2 c1
      go_wp2_with fail
      refine (act1_any D g N S W cW w2 HD2.out HWA.out.2.1 HWA.out.2.2.1).mono ?_
      rintro e w3 ⟨rfl, h3, k3⟩
      have HD3 := Lib.hid h3; have HK3 := Lib.hid k3
      have HM3 := Lib.hid (HM2.out.keep k3 (fun e => HNE.out (.inl e)))
      have c4 := HM3.out.cells.2.2.2
      clear h3 k3 c3
      rw [HT.out]
      have hz1 := HZ.out
      go_wp2_with fail
      refine (off_any (act D).1 D.keep g N S W cW w3 HD3.out (by rw [act_length]; exact HWA.out.1) HWA.out.2.2.2).mono ?_
      rintro e w5 ⟨rfl, W5, c5, h5, k5, n5⟩
      have H5 := Lib.hid h5; have K5 := Lib.hid k5; have N5 := Lib.hid n5
      have HM5 := Lib.hid (HM3.out.keep k5 HNE.out)
      have HKK := Lib.hid ((HK2.out.nob (mF m g N S W)).trans HK3.out (fun i e => .inl (.inr (.inl e))))
      clear h5 k5 n5 c4 hz1
      go_wp2
      go_ret
      exact ⟨rfl, W5, c5, H5.out, HM5.out, HKK.out.trans K5.out (fun i e => .inl (.inr e)), fun k e => (N5.out k e).imp id (fun h => Nat.le_trans HKK.out.size h)⟩
theorem rebuilt (n : Int) (X : Option Addr) (w : World) : (Instr.build 57 #[(1, .int .i64 n), (2, .pointer X)]).run Try.prog w = .ok (.agg (vcells none_ ++ ([.int .i64 n, .pointer X] : List Value)).toArray) w := by kernel_rfl
set_option maxHeartbeats 1000000 in
set_option maxRecDepth 100000 in
theorem new_any (n : Int) (X : Option Addr) (w : World) :
    Calls Try.prog 10 #[.int .i64 n, .pointer X] w fun e w' => e = .returned (.pointer (some ⟨w.heap.size, 0, none⟩)) ∧ Mb w' w.heap.size X (fresh n) ∧ Kp nob w w' := by
  have hmx2 : (if n < 0 then 0 else n) = (n.toNat : Int) := by split <;> omega
  have hmx : (if 0 < n then n else 0) = (n.toNat : Int) := by split <;> omega
  obtain ⟨p, hp⟩ : ∃ p : Nat, p = n.toNat := ⟨_, rfl⟩
  have HL := Lib.hid (show lim n = min p 1099511627776 by rw [lim, hp])
  rw [← hp] at hmx hmx2
  obtain ⟨q, hq⟩ : ∃ q : Nat, q = lim n := ⟨_, rfl⟩
  have hq2 : q = min p 1099511627776 := by rw [hq, HL.out]
  have hm1 : (if (1099511627776 : Int) < (p : Int) then 1099511627776 else (p : Int)) = (q : Int) := by split <;> omega
  have hm2 : (if (p : Int) < 1099511627776 then (p : Int) else 1099511627776) = (q : Int) := by split <;> omega
  have HF := Lib.hid (show mcells (fresh n) X = vcells none_ ++ ([.int .i64 (q : Int), .pointer X] : List Value) by rw [hq]; rfl)
  clear hp hq hq2
  go_enter Try.func10, Try.ntmps10
  go_wp2_with (refine wpList_built rfl 57 _ rfl (.agg (vcells none_ ++ ([.int .i64 (q : Int), .pointer X] : List Value)).toArray) (by exact exec_bld _ _ rfl [(1, .int .i64 (q : Int)), (2, .pointer X)] _ rfl (rebuilt _ _ _)) ?_)
  go_ret
  refine ⟨rfl, ⟨?_, fresh_ok n⟩, (Kp.refl nob w).alloc _⟩
  rw [HF.out]
  exact Blk.new w _ _
end Go.Proofs.Ytchdobneipfghaa.Meter
