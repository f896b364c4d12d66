/- MeterShares: the power is the disk's: with it off a register answers nothing, and goes on by nothing; what it says is there behind. -/
import Derived.Test.YtchdobneipfghaaMtF
import Derived.Test.YtchdobneipfghaaFm
import Derived.OwnWalk
namespace Go.Proofs.Ytchdobneipfghaa.Meter
set_option linter.unusedVariables false
set_option linter.unusedSimpArgs false
open Go Go.RowKit Kit Disk

theorem rows_at {w : World} {A : Option Addr} {rs : List (List UInt8)} (hl : ∀ r ∈ rs, r.length = 32) (h : Row w A (rs.flatMap bvs)) (k : Nat) (x : List UInt8) (hx : rs[k]? = some x) : ∃ b o, A = some ⟨b, o, none⟩ ∧ w.rangeAt b (o + k * 32) (bvs x) := by
  have hk : k < rs.length := (List.getElem?_eq_some_iff.1 hx).1
  have hb : ∀ a ∈ rs, (bvs a).length = 32 := fun a ha => by rw [bvs_length, hl a ha]
  rcases h with h | ⟨b, o, rfl, _, hc⟩
  · have := congrArg List.length h
    rw [fm_length rs hb] at this
    have h9 : rs.length * 32 = 0 := this
    omega
  · refine ⟨b, o, rfl, fun j v hv => ?_⟩
    have := hc (k * 32 + j) v (fm_part rs hb k x hx j v hv)
    rw [← Nat.add_assoc] at this
    exact this
/-- The disk, and what a round does to it. -/
structure Sh (D : Dk) (k : Nat) : Prop where
  s : Sm D k 1
  on : D.off = false
  fuse : D.fuse = 0
theorem Sh.write {D : Dk} {k : Nat} (h : Sh D k) (hok : Ok D) (b : List UInt8) (hb : b.length = 32) : ∃ D1, Disk.write E8 D 0 b = (D1, 0) ∧ Sh D1 (k + 1) := by
  have ha : (act D).2 = false := by rw [act_on D h.on, h.fuse]; rfl
  have hl := h.s.len
  have e : Disk.write E8 D 0 b = (wrote (act D).1 0 b, 0) := by
    rw [Disk.write, if_neg (by rw [h.on]; decide), if_neg (by omega), if_neg (by omega), ha]; rfl
  have hs := h.s.write hok 0 b
  rw [e] at hs
  refine ⟨_, e, hs, ?_, ?_⟩
  · show (act D).1.off = false; rw [act_on D h.on]; exact h.on
  · show (act D).1.fuse = 0; rw [act_on D h.on]; show D.fuse - 1 = 0; rw [h.fuse]
theorem Sh.next {D : Dk} {k : Nat} (h : Sh D k) (t : Mt) (e : Int) (r : List UInt8) (he : t.epoch ≤ e) (hc : t.count < t.most) : ∃ D1, nxt t D e r = (t.on e r, D1, 0) ∧ Sh D1 (k + 1) := by
  have ha : (act D).2 = false := by rw [act_on D h.on, h.fuse]; rfl
  refine ⟨_, nxt_on (by rw [h.on]; exact why_no t e (by omega) (by omega)) ha, h.s.act, ?_, ?_⟩
  · rw [act_on D h.on]; exact h.on
  · rw [act_on D h.on]; show D.fuse - 1 = 0; rw [h.fuse]
theorem Sh.round {D : Dk} {k : Nat} (h : Sh D k) (hok : Ok D) (K : Nat) : Sh (Disk.on (lose D K)) k := by
  have hs := h.s.lose hok K
  refine ⟨⟨hs.acts, hs.waits, hs.fuse, hs.keep, hs.len⟩, rfl, ?_⟩
  show (lose D K).fuse = 0
  rw [lose_on D K h.on]
theorem build_value (t : Mt) (c e : Int) (r : List UInt8) (hc : (t.count : Int) = c) (he : t.epoch = e) (hr : t.root = r) (h : r.length = 32) (w : World) : (Instr.build 48 #[(0, .int .i64 c), (1, .int .i64 e), (2, .agg (bvs r).toArray)]).run Try.prog w = .ok (.agg (vcells t).toArray) w := by
  rw [build_val c e r h, vcells, hc, he, hr]
set_option maxHeartbeats 4000000 in
set_option maxRecDepth 100000 in
theorem shares_yes (K : Nat) (A : Option Addr) (n c : Nat) (rs : List (List UInt8)) (w : World) (hn : rs.length = n) (hr : Row w A (rs.flatMap bvs)) (hl : ∀ r ∈ rs, r.length = 32) (hK : K < 18446744073709551616) (h20 : n ≤ 20) :
    Calls Try.prog 6 #[.slice A n c, .int .u64 (K : Int)] w fun e w' => e = .returned (.bool true) ∧ Kp nob w w' := by
  have HN := Lib.hid hn; have HR := Lib.hid hr; have HL := Lib.hid hl; have HK := Lib.hid hK
  have d0 : decide ((20 : Int) < (n : Int)) = false := decide_eq_false (by omega)
  have H20 := Lib.hid h20
  clear hn hr hl hK h20
  go_enter Try.func6, Try.ntmps6
  go_wp2_with fail
  refine (alive_yes w).mono ?_
  rintro e w1 ⟨rfl, k1⟩
  have K1 := Lib.hid k1
  clear k1
  go_wp2_with fail
  refine (Disk.new_any 1 w1).mono ?_
  rintro e w2 ⟨g, N, S, rfl, h2, k2, n2⟩
  have H2 := Lib.hid h2; have K2 := Lib.hid (K1.out.trans k2 (fun _ e => e.elim)); have N2 := Lib.hid (show ∀ k, dF g N S none k → w.heap.size ≤ k from fun k e => Nat.le_trans K1.out.size (n2 k e))
  clear h2 k2 n2
  go_wp2_with fail
  refine (new_any 100 (some ⟨g, 0, none⟩) w2).mono ?_
  rintro e w3 ⟨rfl, h3, k3⟩
  obtain ⟨m, hm⟩ : ∃ m, m = w2.heap.size := ⟨_, rfl⟩
  rw [← hm] at h3 ⊢
  have HD := Lib.hid (Md.first H2.out K2.out N2.out h3 k3 (Nat.le_of_eq hm.symm))
  clear h3 k3 hm d0
  go_wp2
  go_loopw [23] (fun vi wr => ∃ (k : Nat) (t : Mt) (D : Dk) (W : Option Addr) (cW : Nat), k ≤ n ∧ vi = .int .i64 k ∧ Md w wr m g N S W cW t D ∧ Sh D (2 * k) ∧ t.most = 100 ∧ t.count = k ∧ t.epoch ≤ (k : Int))
    (fun vi _ => n - (intOf vi).toNat)
  case atStart => exact ⟨0, fresh 100, _, none, 0, Nat.zero_le _, rfl, HD.out, ⟨⟨Nat.zero_le _, Nat.zero_le _, (by decide), (by decide), rfl⟩, rfl, rfl⟩, rfl, rfl, (by decide)⟩
  case round =>
    obtain ⟨k, t, D, W, cW, hk, rfl, hd, hsh, htm, htc, hte⟩ := hrel
    have HMD := Lib.hid hd; have HSH := Lib.hid hsh; have HT := Lib.hid (And.intro htm (And.intro htc hte))
    clear hd hsh htm htc hte HD
    by_cases hlt : k < n
    · obtain ⟨x, hx⟩ : ∃ x, rs[k]? = some x := ⟨_, List.getElem?_eq_getElem (by rw [HN.out]; exact hlt)⟩
      obtain ⟨b, o, rfl, hrg⟩ := rows_at HL.out (HR.out.keep0 HMD.out.k) k x hx
      have HRG := Lib.hid hrg
      have HXL := Lib.hid (HL.out x (List.mem_of_getElem? hx))
      have HXZ := Lib.hid (root_size x HXL.out)
      have HLT := Lib.hid hlt
      have HLE := Lib.hid (show k ≤ 20 by have := H20.out; omega)
      obtain ⟨D1, hw1, hs1⟩ := HSH.out.write HMD.out.d.ok x HXL.out
      obtain ⟨D2, hw2, hs2⟩ := hs1.next t k x HT.out.2.2 (by have := HLE.out; rw [HT.out.1, HT.out.2.1]; omega)
      have HW1 := Lib.hid hw1; have HW2 := Lib.hid hw2; have HS1 := Lib.hid hs1; have HS2 := Lib.hid hs2
      obtain ⟨k1', hk1⟩ : ∃ k1, k1 = k + 1 := ⟨_, rfl⟩
      have HE5 := Lib.hid (show IntKind.i64.wrap ((k : Int) + 1) = (k1' : Int) by have := HLE.out; rw [IntWalk.i64_in _ (by omega)]; omega)
      have HK1 := Lib.hid hk1
      clear hx hrg hlt hk hw1 hw2 hs1 hs2 hk1
      go_wp2_with (first
        | (refine wpList_load_mid rfl 32 (.tmp 26) rfl b (o + k * 32) rfl (bvs x) _ HRG.out root_under rfl HXZ.out ?_)
        | (refine wpList_store_new rfl 32 (.tmp 8) (.tmp 27) rfl _ (bvs x) rfl rfl (by rw [bvs_length, HXL.out]; rfl) HXZ.out (bvs_one _) ?_
           intro w5 hB5 k5 z5
           obtain ⟨g5, hg5⟩ : ∃ g, g = wr.heap.size := ⟨_, rfl⟩
           rw [← hg5] at hB5 ⊢
           have HB5 := Lib.hid hB5
           have HM5 := Lib.hid (HMD.out.keep0 k5)
           have HF5 := Lib.hid (HMD.out.far g5 (by omega))
           clear hB5 k5 z5 hg5))
      refine (write_any D 0 (some ⟨g5, 0, none⟩) 32 32 x g N S W cW w5 HM5.out.d HXL.out HB5.out.row (by decide) (by have := HSH.out.s.waits; have := HLE.out; omega) (by have := HSH.out.s.acts; have := HLE.out; omega) HSH.out.s.fuse HSH.out.s.keep).mono ?_
      rintro e w6 ⟨rfl, z6⟩
      rw [HW1.out] at z6 ⊢
      obtain ⟨W6, c6, hm6, kz6, f6⟩ := HM5.out.disk z6
      have HM6 := Lib.hid hm6; have HB6 := Lib.hid (HB5.out.keep kz6 HF5.out); have HF6 := Lib.hid (f6 g5 HB5.out.lt HF5.out)
      clear z6 hm6 kz6 f6
      go_wp2_with (refine wpList_load_blk rfl 32 (.tmp 8) rfl _ _ _ HB6.out rfl _ root_under rfl HXZ.out ?_)
      refine (nxt_any HM6.out k x HXL.out HS1.out.s (by have := HLE.out; omega)).mono ?_
      rintro e w7 ⟨rfl, z7⟩
      rw [HW2.out] at z7 ⊢
      obtain ⟨W7, c7, hm7, kz7, f7⟩ := HM6.out.both z7
      obtain ⟨t2, ht2⟩ : ∃ t2, t2 = t.on k x := ⟨_, rfl⟩
      rw [← ht2] at hm7
      have HT2 := Lib.hid (show t2.root = x ∧ t2.count = k + 1 ∧ t2.epoch = k ∧ t2.most = 100 by rw [ht2]; exact ⟨rfl, by show t.count + 1 = _; rw [HT.out.2.1], rfl, HT.out.1⟩)
      have HM7 := Lib.hid hm7; have HB7 := Lib.hid (HB6.out.keep kz7 HF6.out); have HF7 := Lib.hid (f7 g5 HB6.out.lt HF6.out)
      clear z7 hm7 kz7 f7 ht2
      go_wp2_with fail
      refine (off_any D2 K g N S W7 c7 w7 HM7.out.d (by have := HS2.out.s.waits; have := HLE.out; omega) HK.out).mono ?_
      rintro e w8 ⟨rfl, z8⟩
      obtain ⟨W8, c8, hm8, kz8, f8⟩ := HM7.out.disk z8
      have HM8 := Lib.hid hm8; have HB8 := Lib.hid (HB7.out.keep kz8 HF7.out); have HF8 := Lib.hid (f8 g5 HB7.out.lt HF7.out)
      have HP8 := Lib.hid (show Pow w8 (some ⟨g, 0, none⟩) true by have := Cd.pow hm8.d; rwa [lose_is_off] at this)
      clear z8 hm8 kz8 f8
      go_wp2_with fail
      refine (get_any t2 m (some ⟨g, 0, none⟩) true w8 HM8.out.me HP8.out).mono ?_
      rintro e w9 ⟨rfl, k9⟩
      have HM9 := Lib.hid (HM8.out.keep0 k9); have HB9 := Lib.hid (HB8.out.keep k9 (fun e => e))
      have HP9 := Lib.hid (show Pow w9 (some ⟨g, 0, none⟩) true from fun w' k' => HP8.out w' (k9.trans k' (fun _ e => e.elim)))
      clear k9
      go_wp2_with (first
        | (refine wpList_store_new rfl 48 (.tmp 9) (.tmp 42) rfl _ (vcells none_) rfl rfl rfl (val_size none_ z32_length) (vcells_one _) ?_
           intro wa hBa ka za
           have HMa := Lib.hid (HM9.out.keep0 ka); have HBa := Lib.hid (HB9.out.keep ka (fun e => e))
           have HPa := Lib.hid (show Pow wa (some ⟨g, 0, none⟩) true from fun w' k' => HP9.out w' (ka.trans k' (fun _ e => e.elim)))
           clear hBa ka za)
        | (refine wpList_exec_gd (by rfl) (by exact exec_bld _ _ rfl [] _ rfl (z32_build _)) ?_))
      refine (next_no t2 k z32 m (some ⟨g, 0, none⟩) true wa HMa.out.me z32_length HPa.out (by rw [why_off]; decide)).mono ?_
      rintro e wb ⟨rfl, kb⟩
      rw [why_off]
      have HMb := Lib.hid (HMa.out.keep0 kb); have HBb := Lib.hid (HBa.out.keep kb (fun e => e))
      clear kb
      go_wp2_with fail
      refine (on_any (lose D2 K) g N S W8 c8 wb HMb.out.d).mono ?_
      rintro e wc ⟨rfl, hc, kc⟩
      have hmc := HMb.out.one hc kc
      have HMc := Lib.hid hmc.1; have HBc := Lib.hid (HBb.out.keep hmc.2 HF8.out)
      clear hc kc hmc
      go_wp2_with fail
      refine (get_any t2 m (some ⟨g, 0, none⟩) false wc HMc.out.me (Cd.pow HMc.out.d)).mono ?_
      rintro e wd ⟨rfl, kd⟩
      have HMd := Lib.hid (HMc.out.keep0 kd); have HBd := Lib.hid (HBc.out.keep kd (fun e => e))
      have HVS := Lib.hid (val_size t2 HMc.out.me.k.root)
      have HVL := Lib.hid (show (vcells t2).length = 34 from vcells_length t2 HMc.out.me.k.root)
      have HAD := Lib.hid (show IntKind.i64.wrap ((k : Int) + 1) = ((t2.count : Nat) : Int) by have := HT2.out.2.1; have := HLE.out; rw [IntWalk.i64_in _ (by omega)]; omega)
      clear kd
      go_wp2_with (first
        | (refine wpList_exec_gd (by rfl) (exec_neV_same 63 68 _ t2 HMc.out.me.k.root rfl rfl rfl) ?_)
        | (refine wpList_store_new rfl 48 (.tmp 11) (.tmp 58) rfl _ (vcells t2) rfl rfl (by rw [HVL.out]; rfl) HVS.out (vcells_one _) ?_
           intro we hBe ke ze
           obtain ⟨ge, hge⟩ : ∃ ge, ge = wd.heap.size := ⟨_, rfl⟩
           rw [← hge] at hBe ⊢
           have HVe := Lib.hid hBe
           have HMe := Lib.hid (HMd.out.keep0 ke); have HBe := Lib.hid (HBd.out.keep ke (fun e => e))
           have had := HAD.out
           clear hBe ke ze hge)
        | (refine wpList_load_gd 48 (.tmp 11) rfl (by rfl) _ _ (vcells t2) HVe.out rfl _ val_under rfl HVS.out ?_)
        | (refine wpList_load_gd 32 (.tmp 8) rfl (by rfl) _ _ (bvs x) HBe.out rfl _ root_under rfl HXZ.out ?_)
        | (refine wpList_exec_gd (by rfl) (by exact exec_bld _ _ rfl [(0, .int .i64 ((t2.count : Nat) : Int)), (1, .int .i64 (k : Int)), (2, .agg (bvs x).toArray)] _ rfl (build_value t2 _ _ _ rfl HT2.out.2.2.1 HT2.out.1 HXL.out _)) ?_))
      have HC := Lib.hid HT2.out.2.1
      refine ⟨⟨t2.count, t2, Disk.on (lose D2 K), W8, c8, by have := HC.out; have := HLT.out; omega, rfl, HMe.out, ?_, HT2.out.2.2.2, rfl, by have := HT2.out.2.2.1; have := HC.out; omega⟩, by have := HC.out; have := HLT.out; simp [intOf]; omega⟩
      have := HS2.out.round HM7.out.d.ok K
      rw [HC.out]
      exact this
    · obtain rfl : k = n := by omega
      obtain ⟨q, hq⟩ : ∃ q, q = t.most - t.count := ⟨_, rfl⟩
      have HQ := Lib.hid (show IntKind.i64.wrap (100 - (k : Int)) = (q : Int) by have := HT.out.1; have := HT.out.2.1; have := H20.out; rw [IntWalk.i64_in _ (by omega)]; omega)
      have HL := Lib.hid (left_any t m (some ⟨g, 0, none⟩) wr HMD.out.me)
      rw [← hq] at HL
      clear hq hlt
      go_wp2_with fail
      refine HL.out.mono ?_
      rintro e w4 ⟨rfl, k4⟩
      have he := HQ.out
      go_wp2
      go_ret
      exact ⟨rfl, (HMD.out.keep0 k4).k⟩
theorem shares_walk (A : Option Addr) (n c : Nat) (rs : List (List UInt8)) (K0 : Int) (w : World) (hn : rs.length = n) (hn0 : A = none → c = 0) (hr : Row w A (rs.flatMap bvs)) (hc : n ≤ c) (hm : c ≤ maxLen) (hw : ∀ r ∈ rs, r.length = 32) (w1 : (Lit.int .u64 K0).wf = true) :
    Calls Try.prog 6 #[.slice A n c, .int .u64 K0] w fun e w' => e = .returned (.bool true) ∧ Kp nob w w' := by
  by_cases h : 20 < n
  · have d1 : decide ((20 : Int) < (n : Int)) = true := decide_eq_true (by omega)
    clear hn hr hw hc hm hn0 w1 h
    go_enter Try.func6, Try.ntmps6
    go_wp2_with fail
    refine (alive_yes w).mono ?_
    rintro e w1 ⟨rfl, k1⟩
    go_wp2
    go_ret
    exact ⟨rfl, k1⟩
  · obtain ⟨K, rfl, hK⟩ : ∃ K : Nat, K0 = K ∧ K < 18446744073709551616 := by
      simp [Lit.wf, IntKind.min, IntKind.max, IntKind.signed, IntKind.bits] at w1
      exact ⟨K0.toNat, by omega, by omega⟩
    exact shares_yes K A n c rs w hn hr hw hK (by omega)
end Go.Proofs.Ytchdobneipfghaa.Meter
