/- MeterSpends: a register goes on just as often as it may, whatever its epochs. -/
import Derived.Test.YtchdobneipfghaaMtL
namespace Go.Proofs.Ytchdobneipfghaa.Meter
set_option linter.unusedVariables false
set_option linter.unusedSimpArgs false
open Go Go.RowKit Kit Disk

theorem wrap8 (x : Int) : ∃ b : UInt8, x % 256 = (b.toNat : Int) := by
  refine ⟨UInt8.ofNat (x % 256).toNat, ?_⟩
  rw [UInt8.toNat_ofNat']
  omega
set_option maxHeartbeats 4000000 in
set_option maxRecDepth 100000 in
theorem spends_yes (M : Nat) (A : Option Addr) (n c : Nat) (xs : List Int) (w : World) (hn : xs.length = n) (hr : Row w A (xs.map fun x => .int .i64 x)) (hM : M ≤ 60) (h60 : n ≤ 60) :
    Calls Try.prog 5 #[.int .i64 (M : Int), .slice A n c] w fun e w' => e = .returned (.bool true) ∧ Kp nob w w' := by
  have HN := Lib.hid hn; have HR := Lib.hid hr
  have d0 : decide ((M : Int) < 0) = false := decide_eq_false (by omega)
  have d1 : decide ((60 : Int) < (M : Int)) = false := decide_eq_false (by omega)
  have d2 : decide ((60 : Int) < (n : Int)) = false := decide_eq_false (by omega)
  have HM := Lib.hid hM; have H60 := Lib.hid h60
  clear hn hr hM h60
  go_enter Try.func5, Try.ntmps5
  go_wp2_with fail
  refine (alive_yes w).mono ?_
  rintro e w1 ⟨rfl, k1⟩
  have K1 := Lib.hid k1
  clear k1
  go_wp2_with fail
  refine (new_any M none w1).mono ?_
  rintro e w2 ⟨rfl, h2, k2⟩
  obtain ⟨m, hm⟩ : ∃ m, m = w1.heap.size := ⟨_, rfl⟩
  rw [← hm] at h2 ⊢
  have H2 := Lib.hid h2; have K2 := Lib.hid (K1.out.trans k2 (fun _ e => e.elim)); have HMM := Lib.hid (show w.heap.size ≤ m by rw [hm]; exact K1.out.size)
  have HFM := Lib.hid (show (fresh (M : Int)).most = M by show lim (M : Int) = M; unfold lim; have := HM.out; omega)
  clear h2 k2 hm d0 d1 d2
  go_wp2
  go_loopw [6, 7, 28] (fun v6 v7 vi wr => ∃ (k : Nat) (t : Mt), k ≤ n ∧ vi = .int .i64 k ∧ v6 = .int .i64 (t.count : Int) ∧ v7 = .int .i64 t.epoch ∧ Mb wr m none t ∧ t.most = M ∧ Kp nob w wr)
    (fun _ _ vi _ => n - (intOf vi).toNat)
  case atStart => exact ⟨0, fresh (M : Int), Nat.zero_le _, rfl, rfl, rfl, H2.out, HFM.out, K2.out⟩
  case round =>
    obtain ⟨k, t, hk, rfl, rfl, rfl, ht, htm, kr⟩ := hrel
    have HT := Lib.hid ht; have HTM := Lib.hid htm; have KR := Lib.hid kr
    clear ht htm kr
    by_cases hlt : k < n
    · obtain ⟨bb, oo, rfl, hbb, hcell⟩ := (HR.out.keep0 KR.out).at_ (i := k) (by rw [List.length_map, HN.out]; exact hlt)
      obtain ⟨x, hx⟩ : ∃ x, x = xs[k]'(by rw [HN.out]; exact hlt) := ⟨_, rfl⟩
      have hce : wr.cell? ⟨bb, oo + k, none⟩ = some (.int .i64 x) := by rw [hcell, List.getElem_map, hx]
      obtain ⟨b, hb⟩ := wrap8 x
      have HB := Lib.hid hb
      obtain ⟨k1', hk1⟩ : ∃ k1, k1 = k + 1 := ⟨_, rfl⟩
      have HE5 := Lib.hid (show IntKind.i64.wrap ((k : Int) + 1) = (k1' : Int) by have := H60.out; rw [IntWalk.i64_in _ (by omega)]; omega)
      have HK1 := Lib.hid hk1
      have HLT := Lib.hid hlt
      clear hx hcell hb hk1 hk hbb
      by_cases h1 : x < t.epoch
      case pos =>
        have HW := Lib.hid (why_arg t x h1)
        obtain ⟨q, hq⟩ : ∃ q, q = t.most - t.count := ⟨_, rfl⟩
        have HQ := Lib.hid hq
        have HL := Lib.hid (fun (w' : World) (h' : Mb w' m none t) => left_any t m none w' h')
        rw [← hq] at HL
        have HE := Lib.hid (show IntKind.i64.wrap ((M : Int) - (t.count : Int)) = (q : Int) by have := HT.out.k.le; have := HTM.out; have := HM.out; rw [IntWalk.i64_in _ (by omega)]; omega)
        clear hq
        go_wp2_with fail
        rw [HB.out]
        refine (next_no t x (one32 b) m none false wr HT.out (one32_length b) (pow_nil _) (by rw [HW.out]; decide)).mono ?_
        rintro e w3 ⟨rfl, k3⟩
        rw [HW.out]
        have HT3 := Lib.hid (HT.out.keep0 k3); have KR3 := Lib.hid (KR.out.trans k3 (fun _ e => e.elim))
        clear k3 hce
        go_wp2_with fail
        refine (HL.out w3 HT3.out).mono ?_
        rintro e w4 ⟨rfl, k4⟩
        have HT4 := Lib.hid (HT3.out.keep0 k4); have KR4 := Lib.hid (KR3.out.trans k4 (fun _ e => e.elim))
        obtain ⟨c0, c1, c2, c3⟩ := HT4.out.cells
        have he := HE.out; have e5 := HE5.out
        clear k4 c2 c3
        go_wp2
        clear he e5 c0 c1
        go_roundw
        case rel => exact ⟨k1', t, by rw [HK1.out]; exact HLT.out, rfl, rfl, rfl, HT4.out, HTM.out, KR4.out⟩
        case measure => have := HK1.out; have := HLT.out; simp [intOf]; omega
      case neg =>
        by_cases h2 : t.count = M
        case pos =>
          have HW := Lib.hid (why_spent t x h1 (by have := HTM.out; omega))
          have h2' : ((t.count : Int) == (M : Int)) = true := beq_iff_eq.2 (by omega)
          have hd1 : decide (x < t.epoch) = false := decide_eq_false h1
          have HH2 := Lib.hid h2
          clear h2
          obtain ⟨q, hq⟩ : ∃ q, q = t.most - t.count := ⟨_, rfl⟩
          have HQ := Lib.hid hq
          have HL := Lib.hid (fun (w' : World) (h' : Mb w' m none t) => left_any t m none w' h')
          rw [← hq] at HL
          have HE := Lib.hid (show IntKind.i64.wrap ((M : Int) - (t.count : Int)) = (q : Int) by have := HT.out.k.le; have := HTM.out; have := HM.out; rw [IntWalk.i64_in _ (by omega)]; omega)
          clear hq
          go_wp2_with fail
          rw [HB.out]
          refine (next_no t x (one32 b) m none false wr HT.out (one32_length b) (pow_nil _) (by rw [HW.out]; decide)).mono ?_
          rintro e w3 ⟨rfl, k3⟩
          rw [HW.out]
          have HT3 := Lib.hid (HT.out.keep0 k3); have KR3 := Lib.hid (KR.out.trans k3 (fun _ e => e.elim))
          clear k3 hce
          go_wp2_with fail
          refine (HL.out w3 HT3.out).mono ?_
          rintro e w4 ⟨rfl, k4⟩
          have HT4 := Lib.hid (HT3.out.keep0 k4); have KR4 := Lib.hid (KR3.out.trans k4 (fun _ e => e.elim))
          obtain ⟨c0, c1, c2, c3⟩ := HT4.out.cells
          have he := HE.out; have e5 := HE5.out
          clear k4 c2 c3
          go_wp2
          clear he e5 c0 c1
          go_roundw
          case rel => exact ⟨k1', t, by rw [HK1.out]; exact HLT.out, rfl, rfl, rfl, HT4.out, HTM.out, KR4.out⟩
          case measure => have := HK1.out; have := HLT.out; simp [intOf]; omega
        case neg =>
          have HW := Lib.hid (why_no t x h1 (by have := HTM.out; have := HT.out.k.le; omega))
          have h2' : ((t.count : Int) == (M : Int)) = false := beq_eq_false_iff_ne.2 (by omega)
          obtain ⟨t2, ht2⟩ : ∃ t2, t2 = t.on x (one32 b) := ⟨_, rfl⟩
          obtain ⟨q, hq⟩ : ∃ q, q = t2.most - t2.count := ⟨_, rfl⟩
          obtain ⟨p, hp⟩ : ∃ p, p = t2.count := ⟨_, rfl⟩
          have HT2 := Lib.hid (show t2.most = M ∧ t2.epoch = x ∧ p = t.count + 1 ∧ p ≤ M by have h9 := HTM.out; have h8 := HT.out.k.le; rw [hp, ht2]; exact ⟨h9, rfl, rfl, by show t.count + 1 ≤ M; omega⟩)
          have HL := Lib.hid (fun (w' : World) (h' : Mb w' m none t2) => left_any t2 m none w' h')
          rw [← hq] at HL
          have HE := Lib.hid (show IntKind.i64.wrap ((M : Int) - (p : Int)) = (q : Int) by have := HT2.out; have := HM.out; rw [IntWalk.i64_in _ (by omega)]; omega)
          have HE2 := Lib.hid (show IntKind.i64.wrap ((t.count : Int) + 1) = (p : Int) by have := HT2.out; have := HM.out; rw [IntWalk.i64_in _ (by omega)]; omega)
          have HP := Lib.hid hp; have HT2E := Lib.hid ht2
          have hd1 : decide (x < t.epoch) = false := decide_eq_false h1
          clear hq hp ht2 h2
          go_wp2_with fail
          rw [HB.out]
          refine (next_nil t x (one32 b) m wr HT.out (one32_length b) HW.out).mono ?_
          rintro e w3 ⟨rfl, h3, k3⟩
          have HT3 := Lib.hid (show Mb w3 m none t2 by rw [HT2E.out]; exact h3); have KR3 := Lib.hid (KR.out.since k3 (fun i e => by have e : i = m := e; rw [e]; exact HMM.out))
          have he2 := HE2.out
          clear h3 k3 hce
          go_wp2_with fail
          refine (HL.out w3 HT3.out).mono ?_
          rintro e w4 ⟨rfl, k4⟩
          have HT4 := Lib.hid (HT3.out.keep0 k4); have KR4 := Lib.hid (KR3.out.trans k4 (fun _ e => e.elim))
          obtain ⟨c0, c1, c2, c3⟩ := HT4.out.cells
          rw [← HP.out] at c0
          rw [HT2.out.2.1] at c1
          have he := HE.out; have e5 := HE5.out
          clear k4 c2 c3 he2
          go_wp2
          clear he e5 c0 c1
          go_roundw
          case rel => exact ⟨k1', t2, by rw [HK1.out]; exact HLT.out, rfl, by rw [HP.out], by rw [HT2.out.2.1], HT4.out, HT2.out.1, KR4.out⟩
          case measure => have := HK1.out; have := HLT.out; simp [intOf]; omega
    · obtain rfl : k = n := by omega
      go_wp2
      go_ret
      exact ⟨rfl, KR.out⟩
theorem spends_walk (mo : Int) (A : Option Addr) (n c : Nat) (xs : List Int) (w : World) (w0 : (Lit.int .i64 mo).wf = true) (hn : xs.length = n) (hn0 : A = none → c = 0) (hr : Row w A (xs.map fun x => .int .i64 x)) (hc : n ≤ c) (hm : c ≤ maxLen) (hw : ∀ x ∈ xs, (Lit.int .i64 x).wf = true) :
    Calls Try.prog 5 #[.int .i64 mo, .slice A n c] w fun e w' => e = .returned (.bool true) ∧ Kp nob w w' := by
  by_cases h : mo < 0 ∨ 60 < mo ∨ 60 < n
  · have HK := Lib.hid h
    clear hn hr hw hc hm hn0 w0
    by_cases h1 : mo < 0
    · have d0 : decide (mo < 0) = true := decide_eq_true h1
      clear h h1
      go_enter Try.func5, Try.ntmps5
      go_wp2_with fail
      refine (alive_yes w).mono ?_
      rintro e w1 ⟨rfl, k1⟩
      go_wp2
      go_ret
      exact ⟨rfl, k1⟩
    · have d0 : decide (mo < 0) = false := decide_eq_false h1
      by_cases h2 : 60 < mo
      · have d1 : decide (60 < mo) = true := decide_eq_true h2
        clear h h1 h2
        go_enter Try.func5, Try.ntmps5
        go_wp2_with fail
        refine (alive_yes w).mono ?_
        rintro e w1 ⟨rfl, k1⟩
        go_wp2
        go_ret
        exact ⟨rfl, k1⟩
      · have d1 : decide (60 < mo) = false := decide_eq_false h2
        have d2 : decide ((60 : Int) < (n : Int)) = true := decide_eq_true (by omega)
        clear h h1 h2
        go_enter Try.func5, Try.ntmps5
        go_wp2_with fail
        refine (alive_yes w).mono ?_
        rintro e w1 ⟨rfl, k1⟩
        go_wp2
        go_ret
        exact ⟨rfl, k1⟩
  · obtain ⟨M, rfl⟩ : ∃ M : Nat, mo = M := ⟨mo.toNat, by omega⟩
    exact spends_yes M A n c xs w hn hr (by omega) (by omega)
end Go.Proofs.Ytchdobneipfghaa.Meter
