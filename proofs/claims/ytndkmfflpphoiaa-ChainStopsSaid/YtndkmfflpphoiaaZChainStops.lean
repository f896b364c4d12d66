/- coffretlaw16.ChainStops. -/
import Derived.Test.YtndkmfflpphoiaaZG14
import Derived.Test.YtndkmfflpphoiaaZG15
import Derived.Test.YtndkmfflpphoiaaZG16
set_option linter.unusedVariables false
set_option linter.unusedSimpArgs false
namespace Go.Proofs.Ytndkmfflpphoiaa.Disk
open Go Go.RowKit Kit
open Sha (Pc PcsOk)
/-- A disk that was forged alone. -/
structure Fz (D : Dk) (n : Nat) : Prop where
  waits : D.waits = []
  off : D.off = false
  len : D.now.length = n
theorem Fz.forge {D : Dk} {n : Nat} (h : Fz D n) (i : Int) (b : List UInt8) : Fz (forge E8 D i b).1 n := by
  obtain ⟨h1, h2, h3, _⟩ := forge_q D i b h.waits h.off
  exact ⟨h1, h2, by rw [h3, h.len]⟩
theorem fz_new (n : Nat) : Fz (new n) n := ⟨rfl, rfl, new_len n⟩
set_option maxHeartbeats 4000000 in
set_option maxRecDepth 100000 in
theorem stops_walk (A0 : Option Addr) (n c : Nat) (ps : List Pc) (epoch : Int) (w : World) (hl : ps.length = n) (hr : Row w A0 (ps.map Pc.v)) (hc : n ≤ maxLen) (hp : PcsOk w nob ps) (hno : ∀ p ∈ ps, p.A = none → p.c = 0) (hs : ∀ p ∈ ps, p.n ≤ 140737488355328) (he : (Lit.int .i64 epoch).wf = true) :
    Calls Try.prog 7 #[.slice A0 n c, .int .i64 epoch] w fun e w' => e = .returned (.bool true) ∧ Kp nob w w' := by
  have HAL := Lib.hid (fun w => alive_yes areaP half_c left_c add_c w)
  have HI := Lib.hid (i64_range he)
  clear he
  by_cases h1 : 100 < n
  · have h1d : (100 : Int) < (n : Int) := by omega
    go_enter Try.func7, Try.ntmps7
    go_wp2_with fail
    refine (HAL.out _).mono ?_
    rintro e w1 ⟨rfl, k1⟩
    go_wp2
    go_ret
    exact ⟨rfl, k1⟩
  by_cases h2 : epoch < 0
  · have h1d : ¬ (100 : Int) < (n : Int) := by omega
    go_enter Try.func7, Try.ntmps7
    go_wp2_with fail
    refine (HAL.out _).mono ?_
    rintro e w1 ⟨rfl, k1⟩
    go_wp2
    go_ret
    exact ⟨rfl, k1⟩
  have h1d : ¬ (100 : Int) < (n : Int) := by omega
  have hcl : clamp (n : Int) = n := by unfold clamp; omega
  have hnew := new_any (n : Int)
  rw [hcl] at hnew
  have HNW := Lib.hid hnew
  have HP := Lib.hid (And.intro hl (And.intro hr (And.intro hp (And.intro hno hs))))
  have hn100 : n ≤ 100 := by omega
  clear hnew hcl hl hr hc hp hno hs h1
  go_enter Try.func7, Try.ntmps7
  go_wp2_with fail
  refine (HAL.out _).mono ?_
  rintro e w0 ⟨rfl, k0⟩
  have HK0 := Lib.hid k0
  clear k0
  go_wp2_with fail
  refine (HNW.out _).mono ?_
  rintro e w1 ⟨g, N, S, rfl, hd1, k1, hn1⟩
  have hg1 : Gd w w1 g N S none 0 (new n) noA nob := Gd.first hd1 (HK0.out.trans k1 (fun _ e => e.elim)) (fun j e => Nat.le_trans HK0.out.size (hn1 j e))
  have HG1 := Lib.hid hg1
  clear hd1 k1 hn1 hg1
  go_wp2
  go_loopw [26] (fun iv wr => ∃ k : Nat, k ≤ n ∧ iv = .int .i64 k ∧ ∃ (D : Dk) (W : Option Addr) (cW : Nat), Gd w wr g N S W cW D noA nob ∧ Fz D n)
    (fun iv _ => n - (intOf iv).toNat)
  case atStart => exact ⟨0, Nat.zero_le _, rfl, new n, none, 0, HG1.out, fz_new n⟩
  case round =>
    obtain ⟨k, hk, rfl, D, W, cW, hg, hf⟩ := hrel
    have HG := Lib.hid hg
    have HF := Lib.hid hf
    clear hg hf
    by_cases hlt : k < n
    · have hlt2 : (k : Int) < (n : Int) := by omega
      obtain ⟨b, o, rfl, _, hcell⟩ := (HP.out.2.1.keep0 HG.out.kp).at_ (i := k) (by rw [List.length_map, HP.out.1]; exact hlt)
      obtain ⟨p, hpk⟩ : ∃ p, ps[k]? = some p := ⟨_, List.getElem?_eq_getElem (by rw [HP.out.1]; exact hlt)⟩
      have hpm := List.mem_of_getElem? hpk
      rw [List.getElem_map, (List.getElem?_eq_some_iff.1 hpk).2] at hcell
      obtain ⟨X, m, d, l⟩ := p
      obtain ⟨q1, q2, _, q4, q5⟩ := HP.out.2.2.1 _ hpm
      have q6 := HP.out.2.2.2.2 _ hpm
      simp only at q1 q2 q4 q5 q6
      obtain ⟨v, hv⟩ : ∃ v, v = min m 256 := ⟨_, rfl⟩
      have hrow : ∀ w5, Kp nob w w5 → Row w5 X (bvs (l.take v)) := fun w5 k5 => by
        have h := (q2.keep0 k5).take v
        rw [show (bvs l).take v = bvs (l.take v) by rw [bvs, bvs, List.map_take]] at h
        exact h
      have hfg := forge_any D k X v d (l.take v) g N S W cW wr HG.out.cd (by rw [List.length_take]; omega) (hrow wr HG.out.kp) (by omega) (by rw [HF.out.waits]; simp)
      have HFG := Lib.hid hfg
      have HF2 := Lib.hid (HF.out.forge (k : Int) (l.take v))
      have hcell2 : wr.cell? ⟨b, o + k, none⟩ = some (.slice X m d) := hcell
      have hsp : (256 < m ∧ 256 ≤ d ∧ v = 256) ∨ (m ≤ 256 ∧ m ≤ d ∧ m = v) := by omega
      clear hfg hrow hcell q1 q2 q4 q5 q6 hv
      rcases hsp with ⟨h3, h4, rfl⟩ | ⟨h3, h4, rfl⟩
      all_goals
        have h3i := Int.ofNat_le.2 h4
        first
          | (have h5 : (256 : Int) < (m : Int) := by omega)
          | (have h5 : (m : Int) ≤ 256 := by omega)
        clear h3 h4
        go_wp2_with fail
        refine HFG.out.mono ?_
        rintro e w5 ⟨rfl, hz⟩
        obtain ⟨W2, c2, hg2, _⟩ := HG.out.disk hz
        have HG2 := Lib.hid hg2
        clear hz hg2
        go_wp2
        go_roundw
        case rel => exact ⟨k + 1, hlt, by go_num, _, W2, c2, HG2.out, HF2.out⟩
        case measure => simp [intOf]; omega
    · obtain rfl : n = k := by omega
      go_wp2_with fail
      refine (half_c D g N S W cW epoch wr HG.out.cd (by have := HI.out; omega)).mono ?_
      rintro e w2 ⟨a, rfl, ha, k2, hna⟩
      have hg2 := HG.out.half k2 ha hna
      have hT := (aHalf_ok D.now.length (decide (epoch % 2 = 1)))
      obtain ⟨A0, hA0⟩ : ∃ A0, A0 = aHalf D.now.length (decide (epoch % 2 = 1)) := ⟨_, rfl⟩
      rw [← hA0] at hg2 hT
      rw [HF.out.len] at hT
      obtain ⟨T, hTe⟩ : ∃ T, T = A0.top := ⟨_, rfl⟩
      have HG2 := Lib.hid (And.intro hg2 (And.intro hT hTe))
      have hT100 : T ≤ 100 := by omega
      clear hg2 hT hA0 ha k2 hna hTe
      go_wp2
      go_loopw [] (fun wr => ∃ A : Ar, Gd w wr g N S W cW D (upA noA a A) nob ∧ A.pos ≤ A.top ∧ A.top = T)
        (fun wr => T - (intOf ((wr.cell? ⟨a, 1, none⟩).getD undef)).toNat)
      case atStart => exact ⟨A0, HG2.out.1, HG2.out.2.1.1, HG2.out.2.2.symm⟩
      case round =>
        obtain ⟨A, hg, hp, ht⟩ := hrel
        have hup : (upA noA a A) a = some A := upA_same _ _ _
        have hia := (hg.ar a A hup).1
        have hnd := (hg.ar a A hup).2.2
        have hla := left_c a g A wr hia hp (by omega)
        obtain ⟨P, hP⟩ : ∃ P, P = A.pos := ⟨_, rfl⟩
        rw [ht, ← hP] at hla
        obtain ⟨R1, hR1⟩ : ∃ R1, R1 = T - P := ⟨_, rfl⟩
        rw [← hR1] at hla
        have HLA := Lib.hid hla
        have hnx := fun w5 (k5 : Kp nob wr w5) => next_c D g N S W cW a A w5 (hg.cd.keep0 k5) (areaP.keep hia k5 (fun e => e)) hnd hp (by rw [HF.out.len]; have := HG2.out.2.1; have := HG2.out.2.2; omega)
        have hany := next_any D A hg.cd.ok HF.out.off (by rw [HF.out.len]; have := HG2.out.2.1; have := HG2.out.2.2; omega)
        have HS := Lib.hid (And.intro hg (And.intro hp (And.intro ht (And.intro hP hR1))))
        clear hla hia hnd hg hp ht hP hR1 hup
        rcases hany with hnone | ⟨f, hsome, hfl, h48, hpos⟩
        · rw [hnone] at hnx
          have HNX := Lib.hid hnx
          have HLN : Hid (∀ w5 w6, Kp nob wr w5 → Kp (oneB a) w5 w6 → IsA w6 a g A → Calls Try.prog 28 #[.pointer (some ⟨a, 0, none⟩)] w6 fun e w' => e = .returned (.int .i64 (R1 : Int)) ∧ Kp nob w6 w') := Lib.hid (fun w5 w6 _ _ h6 => by
            have h := left_c a g A w6 h6 HS.out.2.1 (by rw [HS.out.2.2.1]; omega)
            rw [HS.out.2.2.1, ← HS.out.2.2.2.1, ← HS.out.2.2.2.2] at h
            exact h)
          clear hnx hnone
          go_wp2_with fail
          refine HLA.out.mono ?_
          rintro e w5 ⟨rfl, k5⟩
          have HK5 := Lib.hid k5
          clear k5
          go_wp2_with fail
          refine (HNX.out w5 HK5.out).mono ?_
          rintro e w6 ⟨X, cx, rfl, hrw, _, _, _, _, k6, h6⟩
          have HK6 := Lib.hid (And.intro k6 h6)
          clear hrw k6 h6
          go_wp2_with fail
          refine (HLN.out w5 w6 HK5.out HK6.out.1 HK6.out.2).mono ?_
          rintro e w7 ⟨rfl, k7⟩
          have HKE : Hid (Kp nob w w7) := Lib.hid ((((HS.out.1.keep0 HK5.out).next (upA_same _ _ _) HK6.out.1 HK6.out.2).keep0 k7).kp)
          clear k7
          go_wp2
          go_ret
          exact ⟨rfl, HKE.out⟩
        · rw [hsome] at hnx
          obtain ⟨L, hL⟩ : ∃ L, L = f.length := ⟨_, rfl⟩
          obtain ⟨q, hq⟩ : ∃ q, q = (f.length + 255) / 256 := ⟨_, rfl⟩
          rw [← hq] at hnx hpos
          simp only at hnx
          rw [← hL] at hnx hfl h48 hq
          have hLb : L ≤ 16384 := by rcases flen_cases f with h | h <;> omega
          have HNX := Lib.hid hnx
          obtain ⟨R2, hR2⟩ : ∃ R2, R2 = T - (A.pos + q) := ⟨_, rfl⟩
          have hRq : R2 + q = R1 ∧ R1 ≤ 100 := by have := HS.out.2.2; omega
          have HLN : Hid (∀ w6, IsA w6 a g { A with pos := A.pos + q } → Calls Try.prog 28 #[.pointer (some ⟨a, 0, none⟩)] w6 fun e w' => e = .returned (.int .i64 (R2 : Int)) ∧ Kp nob w6 w') := Lib.hid (fun w6 h6 => by
            have h := left_c a g { A with pos := A.pos + q } w6 h6 hpos (by show A.top ≤ _; have := HS.out.2.2; omega)
            rw [show ({ A with pos := A.pos + q } : Ar).top - ({ A with pos := A.pos + q } : Ar).pos = R2 by rw [hR2]; show A.top - _ = _; rw [HS.out.2.2.1]] at h
            exact h)
          have hfL := fun w6 => fLength f w6 (by omega)
          rw [hfl] at hfL
          have HFL := Lib.hid hfL
          have HX := Lib.hid (And.intro hpos (And.intro hL hR2))
          have e1 : ((L : Int) + 255).tdiv 256 = (q : Int) := by rw [Int.tdiv_eq_ediv_of_nonneg (by omega)]; omega
          have e2 : IntKind.i64.wrap ((L : Int) + 255) = (L : Int) + 255 := by rw [IntWalk.i64_in _ (by omega)]
          have e3 : IntKind.i64.wrap (q : Int) = (q : Int) := by rw [IntWalk.i64_in _ (by omega)]
          have e5 : IntKind.i64.wrap ((R1 : Int) - (q : Int)) = (R2 : Int) := by rw [IntWalk.i64_in _ (by omega)]; omega
          have hL0 : ¬ (L = 0) := by omega
          have HRQ := Lib.hid (And.intro hRq (And.intro hq h48))
          clear hnx hsome hfl h48 hpos hL hq hR2 hfL hRq hLb
          go_wp2_with fail
          refine HLA.out.mono ?_
          rintro e w5 ⟨rfl, k5⟩
          have HK5 := Lib.hid k5
          clear k5
          go_wp2_with fail
          refine (HNX.out w5 HK5.out).mono ?_
          rintro e w6 ⟨X, cx, rfl, hrw, _, _, _, _, k6, h6⟩
          have HK6 := Lib.hid (And.intro k6 h6)
          go_wp2_with (first
            | (refine wpList_gd (by rfl) (exec_bs2 (.tmp 59) X L cx f rfl rfl HX.out.2.1.symm hrw) ?_)
            | fail)
          refine (HFL.out w6).mono ?_
          rintro e w7 ⟨rfl, k7⟩
          have HK7 := Lib.hid k7
          clear k7 hrw k6 h6
          go_wp2_with fail
          refine (HLN.out w7 (areaP.keep HK6.out.2 HK7.out (fun e => e))).mono ?_
          rintro e w8 ⟨rfl, k8⟩
          have HGE : Hid (Gd w w8 g N S W cW D (upA noA a { A with pos := A.pos + q }) nob) := Lib.hid (by
            have h := (((HS.out.1.keep0 HK5.out).next (upA_same _ _ _) HK6.out.1 HK6.out.2).keep0 HK7.out).keep0 k8
            rw [upA_upA] at h
            exact h)
          clear k8
          have hc8 : w8.cell? ⟨a, 1, none⟩ = some (.int .i64 ((A.pos + q : Nat) : Int)) := (HGE.out.ar a _ (upA_same _ _ _)).1.cells.2.1
          have hcr : wr.cell? ⟨a, 1, none⟩ = some (.int .i64 (A.pos : Int)) := (HS.out.1.ar a _ (upA_same _ _ _)).1.cells.2.1
          have HC := Lib.hid (And.intro hc8 hcr)
          clear hc8 hcr
          go_wp2
          go_roundw
          case rel => exact ⟨{ A with pos := A.pos + q }, HGE.out, HX.out.1, HS.out.2.2.1⟩
          case measure =>
            rw [HC.out.1, HC.out.2]
            simp [intOf]
            have := HRQ.out
            have := HS.out.2.2
            omega
end Go.Proofs.Ytndkmfflpphoiaa.Disk
