/- IdealDoes: in every script each answer, and how many things were made, are the document's. -/
import Derived.Test.YtakhanganifpnaaIdealK
import Derived.Deep.CutRange
import Derived.Deep.CutBlock
import Derived.Deep.DeepCutAuto
namespace Go.Proofs.Ytakhanganifpnaa.Ideal
set_option linter.unusedVariables false
set_option linter.unusedSimpArgs false
open Go Go.RowKit Kit
open Sha (Pc PcsOk catP)

theorem big_le2 (c : CallI) (h : big c ≤ 4096) : c.key.length ≤ 4096 ∧ c.nonce.length ≤ 4096 ∧ c.aad.length ≤ 4096 ∧ c.text.length ≤ 4096 ∧ c.key.length + c.nonce.length + c.aad.length + c.text.length ≤ 4096 := by unfold big at h; omega
set_option maxHeartbeats 16000000 in
set_option maxRecDepth 100000 in
theorem does_yes (A : Option Addr) (n cA : Nat) (cs : List CallI) (w : World) (hl : cs.length = n) (hr : Row w A (cs.flatMap CallI.cells)) (hok : ∀ c ∈ cs, c.ok) (ht : tot cs ≤ 4096) (hn : n ≤ 40) :
    Calls Try.prog 3 #[.slice A n cA] w fun e w' => e = .returned (.bool true) ∧ Kp nob w w' := by
  obtain ⟨dT, hdT, hdR⟩ := C_under
  have HDT := Lib.hid hdT; have HDR := Lib.hid hdR
  have HR := Lib.hid hr; have HOK := Lib.hid hok; have HL := Lib.hid hl; have HT := Lib.hid ht
  clear hdT hdR hr hok hl ht
  go_enter Try.func3, Try.ntmps3
  go_wp2_with fail
  refine (alive_yes _).mono ?_
  rintro e w1 ⟨rfl, k1⟩
  have HK1 := Lib.hid k1; clear k1
  go_wp2_with fail
  refine (great_any A n cA cs w1 HL.out (HR.out.keep0 HK1.out) HOK.out (by omega)).mono ?_
  rintro e w2 ⟨rfl, k2⟩
  have hg : (decide (4096 < tot cs) || decide (40 < n)) = false := by have := HT.out; simp; omega
  rw [hg]
  have HK2 := Lib.hid (HK1.out.trans k2 (fun _ e => e.elim))
  clear k2 hg HK1
  go_wp2_with fail
  refine (new_i w2).mono ?_
  rintro e w3 ⟨p, F0, rfl, hq⟩
  have HQ := Lib.hid (dk_new HK2.out hq); clear hq HK2
  go_wp2
  generalize hw4 : w3.alloc (.cells #[.slice none 0 0] 30) = w4 at *
  generalize hgg : w3.heap.size = g at *
  clear hw4 hgg
  go_loopw [5, 37] (fun v5 vi wr => ∃ (i : Nat) (F Fd : Nat → Prop) (M : Option Addr) (cM : Nat) (ts : List Thing) (Q : Option Addr) (cQ : Nat) (S : List (List UInt8)), i ≤ n ∧ v5 = .slice Q i cQ ∧ vi = .int .i64 i ∧ ts.length ≤ i ∧ (∀ t ∈ ts, t.d.length ≤ 4096) ∧ (∀ s ∈ S, s.length ≤ 4112) ∧ Dk w p g F Fd M cM ts ts Q i cQ S wr)
    (fun _ vi _ => n - (intOf vi).toNat)
  case atStart => exact ⟨0, _, _, none, 0, [], none, 0, [], Nat.zero_le _, rfl, rfl, Nat.le_refl _, (fun t h => by cases h), (fun t h => by cases h), HQ.out⟩
  case round =>
    clear HQ
    obtain ⟨i, F, Fd, M, cM, ts, Q, cQ, S, hi, rfl, rfl, hts, htd, hS, hdk⟩ := hrel
    have HDK := Lib.hid hdk; have HTS := Lib.hid hts; have HTD := Lib.hid htd; have HSL := Lib.hid hS
    clear hdk hts htd hS
    by_cases hlt : i < n
    · obtain ⟨c, hc⟩ : ∃ c, cs[i]? = some c := ⟨_, List.getElem?_eq_getElem (by rw [HL.out]; exact hlt)⟩
      obtain ⟨bA, oA, hA, hrA⟩ := row_call HR.out i c hc
      have HRA := Lib.hid (range_keep hrA HDK.out.k (fun e => e))
      have HOC := Lib.hid (HOK.out c (List.mem_of_getElem? hc))
      have HBG := Lib.hid (big_le2 c (Nat.le_trans (tot_mem cs c (List.mem_of_getElem? hc)) HT.out))
      have b0 : (0 : Int) ≤ (i : Int) ∧ (i : Int) < (n : Int) := by omega
      subst hA
      clear hc hrA
      go_upto_region 10 with (first
        | (refine wpList_load_mid rfl 33 (.tmp 39) rfl bA (oA + i * 6) rfl c.cells dT HRA.out HDT.out HDR.out (csize c) ?_)
        | (refine wpList_store_new rfl 33 (.tmp 7) (.tmp 40) rfl _ c.cells rfl rfl rfl (csize c) (call_one c) ?_
           intro w5 hB5 k5 z5
           obtain ⟨z, hz⟩ : ∃ z, z = wr.heap.size := ⟨_, rfl⟩
           rw [← hz] at hB5 ⊢
           have H5 : Hid (Dc w p g F Fd M cM ts ts Q i cQ S z c w5) := Lib.hid (HDK.out.new k5 hz hB5)
           clear hB5 k5 z5 hz)
        | fail)
      have H6 := Lib.hid (H5.out.keep (Kp.refl nob w5).drew)
      have HS0 : Hid (Dc w p g F Fd M cM ts ts Q i cQ S z c w5.drew) := Lib.hid H6.out
      refine reg_begin (fun w' => Dc w p g F Fd M cM ts ts Q i cQ S z c w') (by kernel_rfl) HS0.out (fun _ => ?_)
      clear H5
      generalize w5.drew = w6 at *
      refine reg_take (v := .pointer (some ⟨z, 1, none⟩)) 0 (some 41) rfl rfl (by kernel_rfl) (by kernel_rfl) (by kernel_rfl) (by rfl) HS0.out (fun w' hw => by go_simp) ?_
      simp only [Act.put, List.setIfInBounds_toArray, List.set_cons_zero, List.set_cons_succ]
      refine reg_take (v := .string (str c.key)) 1 (some 42) rfl rfl (by kernel_rfl) (by kernel_rfl) (by kernel_rfl) (by rfl) HS0.out (fun w' hw => by have hc := hw.c1; go_simp) ?_
      simp only [Act.put, List.setIfInBounds_toArray, List.set_cons_zero, List.set_cons_succ]
      refine reg_take (v := .pointer (some ⟨z, 2, none⟩)) 3 (some 44) rfl rfl (by kernel_rfl) (by kernel_rfl) (by kernel_rfl) (by rfl) HS0.out (fun w' hw => by go_simp) ?_
      simp only [Act.put, List.setIfInBounds_toArray, List.set_cons_zero, List.set_cons_succ]
      refine reg_take (v := .string (str c.nonce)) 4 (some 45) rfl rfl (by kernel_rfl) (by kernel_rfl) (by kernel_rfl) (by rfl) HS0.out (fun w' hw => by have hc := hw.c2; go_simp) ?_
      simp only [Act.put, List.setIfInBounds_toArray, List.set_cons_zero, List.set_cons_succ]
      refine reg_take (v := .pointer (some ⟨z, 3, none⟩)) 6 (some 47) rfl rfl (by kernel_rfl) (by kernel_rfl) (by kernel_rfl) (by rfl) HS0.out (fun w' hw => by go_simp) ?_
      simp only [Act.put, List.setIfInBounds_toArray, List.set_cons_zero, List.set_cons_succ]
      refine reg_take (v := .string (str c.aad)) 7 (some 48) rfl rfl (by kernel_rfl) (by kernel_rfl) (by kernel_rfl) (by rfl) HS0.out (fun w' hw => by have hc := hw.c3; go_simp) ?_
      simp only [Act.put, List.setIfInBounds_toArray, List.set_cons_zero, List.set_cons_succ]
      refine reg_take (v := .pointer (some ⟨z, 4, none⟩)) 9 (some 50) rfl rfl (by kernel_rfl) (by kernel_rfl) (by kernel_rfl) (by rfl) HS0.out (fun w' hw => by go_simp) ?_
      simp only [Act.put, List.setIfInBounds_toArray, List.set_cons_zero, List.set_cons_succ]
      refine reg_take (v := .string (str c.text)) 10 (some 51) rfl rfl (by kernel_rfl) (by kernel_rfl) (by kernel_rfl) (by rfl) HS0.out (fun w' hw => by have hc := hw.c4; go_simp) ?_
      simp only [Act.put, List.setIfInBounds_toArray, List.set_cons_zero, List.set_cons_succ]
      refine reg_many2 [2, 5, 8, 11, 12, 13, 14, 15] [(2, some 43), (5, some 46), (8, some 49), (11, some 52), (12, some 8), (13, some 9), (14, some 10), (15, some 11)] _ _ _ _ 0 (fun (L : Nat → Bool) (vals : Nat → Value) (w' : World) => Dc w p g F Fd M cM ts ts Q i cQ S z c w' ∧ (L 2 = true → PAF F (vals 2) w' c.key.length c.key) ∧ (L 5 = true → PAF F (vals 5) w' c.nonce.length c.nonce) ∧ (L 8 = true → PAF F (vals 8) w' c.aad.length c.aad) ∧ (L 11 = true → PAF F (vals 11) w' c.text.length c.text) ∧ (L 12 = true → PAF F (vals 12) w' c.key.length c.key) ∧ (L 13 = true → PAF F (vals 13) w' c.nonce.length c.nonce) ∧ (L 14 = true → PAF F (vals 14) w' c.aad.length c.aad) ∧ (L 15 = true → PAF F (vals 15) w' c.text.length c.text)) 16 rfl rfl rfl (by kernel_rfl) (by kernel_rfl) (by kernel_rfl) (by kernel_rfl) rfl (fun L vals w' ⟨h, _⟩ => h) ?h0 ?st ?fin
      case h0 => exact ⟨H6.out, (fun h => absurd h (by simp [lst])), (fun h => absurd h (by simp [lst])), (fun h => absurd h (by simp [lst])), (fun h => absurd h (by simp [lst])), (fun h => absurd h (by simp [lst])), (fun h => absurd h (by simp [lst])), (fun h => absurd h (by simp [lst])), (fun h => absurd h (by simp [lst]))⟩
      case st =>
        intro L vals w' a' i' o hi' ho hL hd hJ ev e0 K' hK'
        obtain ⟨h0, g2, g5, g8, g11, g12, g13, g14, g15⟩ := hJ
        simp only [List.mem_cons, List.not_mem_nil, or_false] at hi'
        rcases hi' with rfl | rfl | rfl | rfl | rfl | rfl | rfl | rfl
        · obtain rfl := op_is ho rfl
          refine step_strF F h0.h.i.lt (.tmp 42) rfl rfl c.key _ rfl (by have := HBG.out; omega) ((e0 42 (by kernel_rfl)).trans rfl) ?_
          intro v w2 k pa
          exact hK'.out v w2 ⟨h0.keep k, (fun _ => by rw [upd_same]; exact pa), (fun h => by rw [upd_other _ _ _ _ (show (5 : Nat) ≠ 2 by decide)] at h ⊢; exact (g5 h).keep k), (fun h => by rw [upd_other _ _ _ _ (show (8 : Nat) ≠ 2 by decide)] at h ⊢; exact (g8 h).keep k), (fun h => by rw [upd_other _ _ _ _ (show (11 : Nat) ≠ 2 by decide)] at h ⊢; exact (g11 h).keep k), (fun h => by rw [upd_other _ _ _ _ (show (12 : Nat) ≠ 2 by decide)] at h ⊢; exact (g12 h).keep k), (fun h => by rw [upd_other _ _ _ _ (show (13 : Nat) ≠ 2 by decide)] at h ⊢; exact (g13 h).keep k), (fun h => by rw [upd_other _ _ _ _ (show (14 : Nat) ≠ 2 by decide)] at h ⊢; exact (g14 h).keep k), (fun h => by rw [upd_other _ _ _ _ (show (15 : Nat) ≠ 2 by decide)] at h ⊢; exact (g15 h).keep k)⟩
        · obtain rfl := op_is ho rfl
          refine step_strF F h0.h.i.lt (.tmp 45) rfl rfl c.nonce _ rfl (by have := HBG.out; omega) ((e0 45 (by kernel_rfl)).trans rfl) ?_
          intro v w2 k pa
          exact hK'.out v w2 ⟨h0.keep k, (fun h => by rw [upd_other _ _ _ _ (show (2 : Nat) ≠ 5 by decide)] at h ⊢; exact (g2 h).keep k), (fun _ => by rw [upd_same]; exact pa), (fun h => by rw [upd_other _ _ _ _ (show (8 : Nat) ≠ 5 by decide)] at h ⊢; exact (g8 h).keep k), (fun h => by rw [upd_other _ _ _ _ (show (11 : Nat) ≠ 5 by decide)] at h ⊢; exact (g11 h).keep k), (fun h => by rw [upd_other _ _ _ _ (show (12 : Nat) ≠ 5 by decide)] at h ⊢; exact (g12 h).keep k), (fun h => by rw [upd_other _ _ _ _ (show (13 : Nat) ≠ 5 by decide)] at h ⊢; exact (g13 h).keep k), (fun h => by rw [upd_other _ _ _ _ (show (14 : Nat) ≠ 5 by decide)] at h ⊢; exact (g14 h).keep k), (fun h => by rw [upd_other _ _ _ _ (show (15 : Nat) ≠ 5 by decide)] at h ⊢; exact (g15 h).keep k)⟩
        · obtain rfl := op_is ho rfl
          refine step_strF F h0.h.i.lt (.tmp 48) rfl rfl c.aad _ rfl (by have := HBG.out; omega) ((e0 48 (by kernel_rfl)).trans rfl) ?_
          intro v w2 k pa
          exact hK'.out v w2 ⟨h0.keep k, (fun h => by rw [upd_other _ _ _ _ (show (2 : Nat) ≠ 8 by decide)] at h ⊢; exact (g2 h).keep k), (fun h => by rw [upd_other _ _ _ _ (show (5 : Nat) ≠ 8 by decide)] at h ⊢; exact (g5 h).keep k), (fun _ => by rw [upd_same]; exact pa), (fun h => by rw [upd_other _ _ _ _ (show (11 : Nat) ≠ 8 by decide)] at h ⊢; exact (g11 h).keep k), (fun h => by rw [upd_other _ _ _ _ (show (12 : Nat) ≠ 8 by decide)] at h ⊢; exact (g12 h).keep k), (fun h => by rw [upd_other _ _ _ _ (show (13 : Nat) ≠ 8 by decide)] at h ⊢; exact (g13 h).keep k), (fun h => by rw [upd_other _ _ _ _ (show (14 : Nat) ≠ 8 by decide)] at h ⊢; exact (g14 h).keep k), (fun h => by rw [upd_other _ _ _ _ (show (15 : Nat) ≠ 8 by decide)] at h ⊢; exact (g15 h).keep k)⟩
        · obtain rfl := op_is ho rfl
          refine step_strF F h0.h.i.lt (.tmp 51) rfl rfl c.text _ rfl (by have := HBG.out; omega) ((e0 51 (by kernel_rfl)).trans rfl) ?_
          intro v w2 k pa
          exact hK'.out v w2 ⟨h0.keep k, (fun h => by rw [upd_other _ _ _ _ (show (2 : Nat) ≠ 11 by decide)] at h ⊢; exact (g2 h).keep k), (fun h => by rw [upd_other _ _ _ _ (show (5 : Nat) ≠ 11 by decide)] at h ⊢; exact (g5 h).keep k), (fun h => by rw [upd_other _ _ _ _ (show (8 : Nat) ≠ 11 by decide)] at h ⊢; exact (g8 h).keep k), (fun _ => by rw [upd_same]; exact pa), (fun h => by rw [upd_other _ _ _ _ (show (12 : Nat) ≠ 11 by decide)] at h ⊢; exact (g12 h).keep k), (fun h => by rw [upd_other _ _ _ _ (show (13 : Nat) ≠ 11 by decide)] at h ⊢; exact (g13 h).keep k), (fun h => by rw [upd_other _ _ _ _ (show (14 : Nat) ≠ 11 by decide)] at h ⊢; exact (g14 h).keep k), (fun h => by rw [upd_other _ _ _ _ (show (15 : Nat) ≠ 11 by decide)] at h ⊢; exact (g15 h).keep k)⟩
        · obtain rfl := op_is ho rfl
          have hLs : L 2 = true := hd ⟨2, .data⟩ (by simp) rfl
          refine step_asg (v := vals 2) (.tmp 43) rfl rfl (ev 2 (by simp) hLs 43 rfl) ?_
          have k := Kp.refl nob w'
          have pa := g2 hLs
          exact hK'.out _ w' ⟨h0, (fun h => by rw [upd_other _ _ _ _ (show (2 : Nat) ≠ 12 by decide)] at h ⊢; exact (g2 h).keep k), (fun h => by rw [upd_other _ _ _ _ (show (5 : Nat) ≠ 12 by decide)] at h ⊢; exact (g5 h).keep k), (fun h => by rw [upd_other _ _ _ _ (show (8 : Nat) ≠ 12 by decide)] at h ⊢; exact (g8 h).keep k), (fun h => by rw [upd_other _ _ _ _ (show (11 : Nat) ≠ 12 by decide)] at h ⊢; exact (g11 h).keep k), (fun _ => by rw [upd_same]; exact pa), (fun h => by rw [upd_other _ _ _ _ (show (13 : Nat) ≠ 12 by decide)] at h ⊢; exact (g13 h).keep k), (fun h => by rw [upd_other _ _ _ _ (show (14 : Nat) ≠ 12 by decide)] at h ⊢; exact (g14 h).keep k), (fun h => by rw [upd_other _ _ _ _ (show (15 : Nat) ≠ 12 by decide)] at h ⊢; exact (g15 h).keep k)⟩
        · obtain rfl := op_is ho rfl
          have hLs : L 5 = true := hd ⟨5, .data⟩ (by simp) rfl
          refine step_asg (v := vals 5) (.tmp 46) rfl rfl (ev 5 (by simp) hLs 46 rfl) ?_
          have k := Kp.refl nob w'
          have pa := g5 hLs
          exact hK'.out _ w' ⟨h0, (fun h => by rw [upd_other _ _ _ _ (show (2 : Nat) ≠ 13 by decide)] at h ⊢; exact (g2 h).keep k), (fun h => by rw [upd_other _ _ _ _ (show (5 : Nat) ≠ 13 by decide)] at h ⊢; exact (g5 h).keep k), (fun h => by rw [upd_other _ _ _ _ (show (8 : Nat) ≠ 13 by decide)] at h ⊢; exact (g8 h).keep k), (fun h => by rw [upd_other _ _ _ _ (show (11 : Nat) ≠ 13 by decide)] at h ⊢; exact (g11 h).keep k), (fun h => by rw [upd_other _ _ _ _ (show (12 : Nat) ≠ 13 by decide)] at h ⊢; exact (g12 h).keep k), (fun _ => by rw [upd_same]; exact pa), (fun h => by rw [upd_other _ _ _ _ (show (14 : Nat) ≠ 13 by decide)] at h ⊢; exact (g14 h).keep k), (fun h => by rw [upd_other _ _ _ _ (show (15 : Nat) ≠ 13 by decide)] at h ⊢; exact (g15 h).keep k)⟩
        · obtain rfl := op_is ho rfl
          have hLs : L 8 = true := hd ⟨8, .data⟩ (by simp) rfl
          refine step_asg (v := vals 8) (.tmp 49) rfl rfl (ev 8 (by simp) hLs 49 rfl) ?_
          have k := Kp.refl nob w'
          have pa := g8 hLs
          exact hK'.out _ w' ⟨h0, (fun h => by rw [upd_other _ _ _ _ (show (2 : Nat) ≠ 14 by decide)] at h ⊢; exact (g2 h).keep k), (fun h => by rw [upd_other _ _ _ _ (show (5 : Nat) ≠ 14 by decide)] at h ⊢; exact (g5 h).keep k), (fun h => by rw [upd_other _ _ _ _ (show (8 : Nat) ≠ 14 by decide)] at h ⊢; exact (g8 h).keep k), (fun h => by rw [upd_other _ _ _ _ (show (11 : Nat) ≠ 14 by decide)] at h ⊢; exact (g11 h).keep k), (fun h => by rw [upd_other _ _ _ _ (show (12 : Nat) ≠ 14 by decide)] at h ⊢; exact (g12 h).keep k), (fun h => by rw [upd_other _ _ _ _ (show (13 : Nat) ≠ 14 by decide)] at h ⊢; exact (g13 h).keep k), (fun _ => by rw [upd_same]; exact pa), (fun h => by rw [upd_other _ _ _ _ (show (15 : Nat) ≠ 14 by decide)] at h ⊢; exact (g15 h).keep k)⟩
        · obtain rfl := op_is ho rfl
          have hLs : L 11 = true := hd ⟨11, .data⟩ (by simp) rfl
          refine step_asg (v := vals 11) (.tmp 52) rfl rfl (ev 11 (by simp) hLs 52 rfl) ?_
          have k := Kp.refl nob w'
          have pa := g11 hLs
          exact hK'.out _ w' ⟨h0, (fun h => by rw [upd_other _ _ _ _ (show (2 : Nat) ≠ 15 by decide)] at h ⊢; exact (g2 h).keep k), (fun h => by rw [upd_other _ _ _ _ (show (5 : Nat) ≠ 15 by decide)] at h ⊢; exact (g5 h).keep k), (fun h => by rw [upd_other _ _ _ _ (show (8 : Nat) ≠ 15 by decide)] at h ⊢; exact (g8 h).keep k), (fun h => by rw [upd_other _ _ _ _ (show (11 : Nat) ≠ 15 by decide)] at h ⊢; exact (g11 h).keep k), (fun h => by rw [upd_other _ _ _ _ (show (12 : Nat) ≠ 15 by decide)] at h ⊢; exact (g12 h).keep k), (fun h => by rw [upd_other _ _ _ _ (show (13 : Nat) ≠ 15 by decide)] at h ⊢; exact (g13 h).keep k), (fun h => by rw [upd_other _ _ _ _ (show (14 : Nat) ≠ 15 by decide)] at h ⊢; exact (g14 h).keep k), (fun _ => by rw [upd_same]; exact pa)⟩
      case fin =>
        intro vals L w7 hall hJ
        obtain ⟨k0, _, _, _, _, g2, g5, g8, g11⟩ := hJ
        obtain ⟨Ak, ck, hvk, hak⟩ := (g2 (hall 12 (by simp))).h
        obtain ⟨An, cn, hvn, han⟩ := (g5 (hall 13 (by simp))).h
        obtain ⟨Aa, ca, hva, haa⟩ := (g8 (hall 14 (by simp))).h
        obtain ⟨At, ct, hvt, hat⟩ := (g11 (hall 15 (by simp))).h
        simp only [putZ, hvk, hvn, hva, hvt]
        clear g2 g5 g8 g11 hvk hvn hva hvt hall H6 HS0
        generalize vals 2 = v2; generalize vals 5 = v5; generalize vals 8 = v8; generalize vals 11 = v11
        have HAK := Lib.hid hak; have HAN := Lib.hid han; have HAA := Lib.hid haa; have HAT := Lib.hid hat
        have H7 := Lib.hid k0
        clear hak han haa hat k0
        simp only [Act.put, List.setIfInBounds_toArray, List.set_cons_zero, List.set_cons_succ]
        refine reg_end (by kernel_rfl) ?_
        have c0 := H7.out.c0
        go_upto_block 2 with fail
        go_cut [12] (fun s12 wx => ∃ (F2 Fd2 : Nat → Prop) (M2 : Option Addr) (cM2 : Nat) (ts2 : List Thing) (s : List UInt8), s12 = .string (str s) ∧ s.length ≤ 4112 ∧ ts2.length ≤ ts.length + 1 ∧ (∀ t ∈ ts2, t.d.length ≤ 4096) ∧ Dk w p g F2 Fd2 M2 cM2 ts2 ts2 Q i cQ S wx)
        case first =>
          by_cases e0 : c.kind = 0
          · have hb0 : (c.kind == 0) = true := beq_iff_eq.2 e0
            clear e0
            as_aux_lemma =>
              go_wp2_with fail
              refine (seal_one p F ts Ak c.key.length ck c.key An c.nonce.length cn c.nonce At c.text.length ct c.text Aa c.aad.length ca c.aad 34 w7 H7.out.h.i HAK.out HAN.out HAT.out HAA.out (by have := HTS.out; omega) (by have := HBG.out; omega) (by have := HBG.out; omega) (by have := HBG.out; omega) (by have := HBG.out; omega)).mono ?_
              rintro e w8 ⟨F8, X, cX, rfl, hq, hx⟩
              obtain ⟨SX, hSX⟩ : ∃ SX, SX = sealT c.key c.nonce c.aad c.text := ⟨_, rfl⟩
              rw [← hSX] at hq hx
              obtain ⟨Y, hY⟩ : ∃ Y, Y = out ts SX (c.text.length + 16) := ⟨_, rfl⟩
              rw [← hY] at hx
              have HSX := Lib.hid hSX; have HY := Lib.hid hY
              have HYL := Lib.hid (show Y.length = c.text.length + 16 by rw [hY]; exact out_length _ _ _ (by omega))
              have H8 := Lib.hid (H7.out.code hq)
              have HX := Lib.hid hx; have HD7 := Lib.hid H7.out.h.d.lt
              have c1 := H8.out.c1; have c2 := H8.out.c2; have c3 := H8.out.c3; have c4 := H8.out.c4
              clear hq hx c0 hSX hY
              go_wp2_with fail
              refine (seal_doc c.key c.nonce c.aad c.text g Fd M cM ts w8 H8.out.h.d (by have := HTS.out; omega) (by have := HBG.out; omega)).mono ?_
              rintro e w9 ⟨rfl, Fd9, M9, c9, hm⟩
              rw [← HSX.out] at hm ⊢
              rw [← HY.out]
              have H9 := Lib.hid (H8.out.doc hm)
              have hcv := run_bytes_str (P := Try.prog) w9 34 9 5 u8sI u8I strI X (c.text.length + 16) cX Y HYL.out (HX.out.doc HD7.out hm.kp)
              clear hm c1 c2 c3 c4
              go_wp2_with fail
              go_meet
              case rel => exact ⟨F8, Fd9, M9, c9, _, Y, rfl, by have := HBG.out; have := HYL.out; omega, mk_length_le ts SX, mem_mk_d HTD.out (by rw [HSX.out]; have := HBG.out; show c.text.length ≤ _; omega), H9.out.h⟩
          · have hb0 : (c.kind == 0) = false := beq_eq_false_iff_ne.2 e0
            clear e0
            by_cases e1 : c.kind = 1
            · have hb1 : (c.kind == 1) = true := beq_iff_eq.2 e1
              have hb2 : (c.kind == 2) = false := by rw [e1]; rfl
              clear e1
              as_aux_lemma =>
                have c4 := H7.out.c4; have c5 := H7.out.c5
                go_wp2_with (first
                  | (refine wpList_str_argN rfl 9 34 5 (.tmp 114) rfl strI u8sI u8I (c.text) ((c.text).length) rfl (by have := HBG.out; unfold maxLen; omega) rfl ?_
                     intro cc8 w8 k8 z8 ha8
                     have H8 := Lib.hid (H7.out.keep k8); have A8 := Lib.hid (ha8 F H7.out.h.i.lt); have K8 := Lib.hid k8
                     clear k8 z8 ha8)
                  | fail)
                refine (open_one p F ts Ak c.key.length ck c.key An c.nonce.length cn c.nonce _ (c.text).length cc8 (c.text) Aa c.aad.length ca c.aad 34 w8 H8.out.h.i (HAK.out.keep0 K8.out) (HAN.out.keep0 K8.out) A8.out (HAA.out.keep0 K8.out) (by have := HTS.out; omega) (by have := HBG.out; omega) (by have := HBG.out; omega) (by have := HBG.out; omega) (by have := HBG.out; omega)).mono ?_
                rintro e w9 ho
                obtain ⟨R, hR⟩ : ∃ R, R = opn ts c.key c.nonce c.aad (c.text) := ⟨_, rfl⟩
                rw [← hR] at ho
                have HRR := Lib.hid hR
                obtain ⟨⟨X, cX, rfl, hrX⟩, ko⟩ := ho
                have H9 := Lib.hid (H8.out.keep ko); have HRX := Lib.hid hrX
                clear ko hrX hR c0 A8 K8 H8
                cases R with
                | none =>
                  simp only [Option.getD_none, Option.getD_some, Option.isSome_none, Option.isSome_some, List.length_nil, if_true, Bool.false_eq_true, if_false] at HRX ⊢
                  have c1 := H9.out.c1; have c2 := H9.out.c2; have c3 := H9.out.c3
                  go_wp2_with fail
                  refine (open_doc c.key c.nonce c.aad (c.text) g Fd M cM ts w9 H9.out.h.d (by have := HTS.out; omega) (fun t h => by have := HTD.out t h; omega)).mono ?_
                  rintro e w10 ⟨rfl, k10⟩
                  rw [← HRR.out]
                  simp only [optV]
                  have H10 := Lib.hid (H9.out.keep k10)
                  have hcv := run_bytes_str (P := Try.prog) w10 34 9 5 u8sI u8I strI X 0 cX ([]) rfl (HRX.out.keep0 k10)
                  clear k10 c1 c2 c3
                  go_wp2_with fail
                  go_meet
                  case rel => exact ⟨F, Fd, M, cM, ts, [], rfl, Nat.zero_le _, Nat.le_succ _, HTD.out, H10.out.h⟩
                | some dd =>
                  simp only [Option.getD_none, Option.getD_some, Option.isSome_none, Option.isSome_some, List.length_nil, if_true, Bool.false_eq_true, if_false] at HRX ⊢
                  have c1 := H9.out.c1; have c2 := H9.out.c2; have c3 := H9.out.c3
                  go_wp2_with fail
                  refine (open_doc c.key c.nonce c.aad (c.text) g Fd M cM ts w9 H9.out.h.d (by have := HTS.out; omega) (fun t h => by have := HTD.out t h; omega)).mono ?_
                  rintro e w10 ⟨rfl, k10⟩
                  rw [← HRR.out]
                  simp only [optV]
                  have H10 := Lib.hid (H9.out.keep k10)
                  have hcv := run_bytes_str (P := Try.prog) w10 34 9 5 u8sI u8I strI X dd.length cX (dd) rfl (HRX.out.keep0 k10)
                  clear k10 c1 c2 c3
                  go_wp2_with fail
                  go_meet
                  case rel => exact ⟨F, Fd, M, cM, ts, [], rfl, Nat.zero_le _, Nat.le_succ _, HTD.out, H10.out.h⟩
            · have hb1 : (c.kind == 1) = false := beq_eq_false_iff_ne.2 e1
              clear e1
              by_cases e2 : c.kind = 2
              · have hb2 : (c.kind == 2) = true := beq_iff_eq.2 e2
                clear e2
                as_aux_lemma =>
                  have c4 := H7.out.c4; have c5 := H7.out.c5
                  by_cases n0 : 0 ≤ c.n
                  · have dn0 : decide (0 ≤ c.n) = true := decide_eq_true n0
                    by_cases n1 : c.n < (i : Int)
                    · have dn1 : decide (c.n < (i : Int)) = true := decide_eq_true n1
                      obtain ⟨j, hj⟩ : ∃ j : Nat, c.n = (j : Int) := ⟨c.n.toNat, by omega⟩
                      have hji : j < i := by omega
                      obtain ⟨sx, hsx⟩ : ∃ sx, S[j]? = some sx := ⟨_, List.getElem?_eq_getElem (by rw [H7.out.h.len]; exact hji)⟩
                      have HSX := Lib.hid (HSL.out sx (List.mem_of_getElem? hsx))
                      obtain ⟨bQ, oQ, hQ, hbQ, hcQ⟩ := str_row H7.out.h.o.row j sx hsx
                      have b1 : (0 : Int) ≤ (j : Int) ∧ (j : Int) < (i : Int) := by omega
                      rw [hj] at c5 dn0 dn1
                      have HJ := Lib.hid hj
                      subst hQ
                      clear n0 n1 hj hsx hbQ
                      as_aux_lemma =>
                        go_wp2_with (first
                          | (refine wpList_str_argN rfl 9 34 5 (.tmp 114) rfl strI u8sI u8I (sx) ((sx).length) rfl (by have := HSX.out; unfold maxLen; omega) rfl ?_
                             intro cc8 w8 k8 z8 ha8
                             have H8 := Lib.hid (H7.out.keep k8); have A8 := Lib.hid (ha8 F H7.out.h.i.lt); have K8 := Lib.hid k8
                             clear k8 z8 ha8)
                          | fail)
                        refine (open_one p F ts Ak c.key.length ck c.key An c.nonce.length cn c.nonce _ (sx).length cc8 (sx) Aa c.aad.length ca c.aad 34 w8 H8.out.h.i (HAK.out.keep0 K8.out) (HAN.out.keep0 K8.out) A8.out (HAA.out.keep0 K8.out) (by have := HTS.out; omega) (by have := HBG.out; omega) (by have := HBG.out; omega) (by have := HSX.out; omega) (by have := HBG.out; omega)).mono ?_
                        rintro e w9 ho
                        obtain ⟨R, hR⟩ : ∃ R, R = opn ts c.key c.nonce c.aad (sx) := ⟨_, rfl⟩
                        rw [← hR] at ho
                        have HRR := Lib.hid hR
                        obtain ⟨⟨X, cX, rfl, hrX⟩, ko⟩ := ho
                        have H9 := Lib.hid (H8.out.keep ko); have HRX := Lib.hid hrX
                        clear ko hrX hR c0 A8 K8 H8
                        cases R with
                        | none =>
                          simp only [Option.getD_none, Option.getD_some, Option.isSome_none, Option.isSome_some, List.length_nil, if_true, Bool.false_eq_true, if_false] at HRX ⊢
                          have c1 := H9.out.c1; have c2 := H9.out.c2; have c3 := H9.out.c3
                          go_wp2_with fail
                          refine (open_doc c.key c.nonce c.aad (sx) g Fd M cM ts w9 H9.out.h.d (by have := HTS.out; omega) (fun t h => by have := HTD.out t h; omega)).mono ?_
                          rintro e w10 ⟨rfl, k10⟩
                          rw [← HRR.out]
                          simp only [optV]
                          have H10 := Lib.hid (H9.out.keep k10)
                          have hcv := run_bytes_str (P := Try.prog) w10 34 9 5 u8sI u8I strI X 0 cX ([]) rfl (HRX.out.keep0 k10)
                          clear k10 c1 c2 c3
                          go_wp2_with fail
                          go_meet
                          case rel => exact ⟨F, Fd, M, cM, ts, [], rfl, Nat.zero_le _, Nat.le_succ _, HTD.out, H10.out.h⟩
                        | some dd =>
                          simp only [Option.getD_none, Option.getD_some, Option.isSome_none, Option.isSome_some, List.length_nil, if_true, Bool.false_eq_true, if_false] at HRX ⊢
                          have c1 := H9.out.c1; have c2 := H9.out.c2; have c3 := H9.out.c3
                          go_wp2_with fail
                          refine (open_doc c.key c.nonce c.aad (sx) g Fd M cM ts w9 H9.out.h.d (by have := HTS.out; omega) (fun t h => by have := HTD.out t h; omega)).mono ?_
                          rintro e w10 ⟨rfl, k10⟩
                          rw [← HRR.out]
                          simp only [optV]
                          have H10 := Lib.hid (H9.out.keep k10)
                          have hcv := run_bytes_str (P := Try.prog) w10 34 9 5 u8sI u8I strI X dd.length cX (dd) rfl (HRX.out.keep0 k10)
                          clear k10 c1 c2 c3
                          go_wp2_with fail
                          go_meet
                          case rel => exact ⟨F, Fd, M, cM, ts, [], rfl, Nat.zero_le _, Nat.le_succ _, HTD.out, H10.out.h⟩
                    · have dn1 : decide (c.n < (i : Int)) = false := decide_eq_false n1
                      clear n0 n1
                      as_aux_lemma =>
                        go_wp2_with (first
                          | (refine wpList_str_argN rfl 9 34 5 (.tmp 114) rfl strI u8sI u8I (c.text) ((c.text).length) rfl (by have := HBG.out; unfold maxLen; omega) rfl ?_
                             intro cc8 w8 k8 z8 ha8
                             have H8 := Lib.hid (H7.out.keep k8); have A8 := Lib.hid (ha8 F H7.out.h.i.lt); have K8 := Lib.hid k8
                             clear k8 z8 ha8)
                          | fail)
                        refine (open_one p F ts Ak c.key.length ck c.key An c.nonce.length cn c.nonce _ (c.text).length cc8 (c.text) Aa c.aad.length ca c.aad 34 w8 H8.out.h.i (HAK.out.keep0 K8.out) (HAN.out.keep0 K8.out) A8.out (HAA.out.keep0 K8.out) (by have := HTS.out; omega) (by have := HBG.out; omega) (by have := HBG.out; omega) (by have := HBG.out; omega) (by have := HBG.out; omega)).mono ?_
                        rintro e w9 ho
                        obtain ⟨R, hR⟩ : ∃ R, R = opn ts c.key c.nonce c.aad (c.text) := ⟨_, rfl⟩
                        rw [← hR] at ho
                        have HRR := Lib.hid hR
                        obtain ⟨⟨X, cX, rfl, hrX⟩, ko⟩ := ho
                        have H9 := Lib.hid (H8.out.keep ko); have HRX := Lib.hid hrX
                        clear ko hrX hR c0 A8 K8 H8
                        cases R with
                        | none =>
                          simp only [Option.getD_none, Option.getD_some, Option.isSome_none, Option.isSome_some, List.length_nil, if_true, Bool.false_eq_true, if_false] at HRX ⊢
                          have c1 := H9.out.c1; have c2 := H9.out.c2; have c3 := H9.out.c3
                          go_wp2_with fail
                          refine (open_doc c.key c.nonce c.aad (c.text) g Fd M cM ts w9 H9.out.h.d (by have := HTS.out; omega) (fun t h => by have := HTD.out t h; omega)).mono ?_
                          rintro e w10 ⟨rfl, k10⟩
                          rw [← HRR.out]
                          simp only [optV]
                          have H10 := Lib.hid (H9.out.keep k10)
                          have hcv := run_bytes_str (P := Try.prog) w10 34 9 5 u8sI u8I strI X 0 cX ([]) rfl (HRX.out.keep0 k10)
                          clear k10 c1 c2 c3
                          go_wp2_with fail
                          go_meet
                          case rel => exact ⟨F, Fd, M, cM, ts, [], rfl, Nat.zero_le _, Nat.le_succ _, HTD.out, H10.out.h⟩
                        | some dd =>
                          simp only [Option.getD_none, Option.getD_some, Option.isSome_none, Option.isSome_some, List.length_nil, if_true, Bool.false_eq_true, if_false] at HRX ⊢
                          have c1 := H9.out.c1; have c2 := H9.out.c2; have c3 := H9.out.c3
                          go_wp2_with fail
                          refine (open_doc c.key c.nonce c.aad (c.text) g Fd M cM ts w9 H9.out.h.d (by have := HTS.out; omega) (fun t h => by have := HTD.out t h; omega)).mono ?_
                          rintro e w10 ⟨rfl, k10⟩
                          rw [← HRR.out]
                          simp only [optV]
                          have H10 := Lib.hid (H9.out.keep k10)
                          have hcv := run_bytes_str (P := Try.prog) w10 34 9 5 u8sI u8I strI X dd.length cX (dd) rfl (HRX.out.keep0 k10)
                          clear k10 c1 c2 c3
                          go_wp2_with fail
                          go_meet
                          case rel => exact ⟨F, Fd, M, cM, ts, [], rfl, Nat.zero_le _, Nat.le_succ _, HTD.out, H10.out.h⟩
                  · have dn0 : decide (0 ≤ c.n) = false := decide_eq_false n0
                    clear n0
                    as_aux_lemma =>
                      go_wp2_with (first
                        | (refine wpList_str_argN rfl 9 34 5 (.tmp 114) rfl strI u8sI u8I (c.text) ((c.text).length) rfl (by have := HBG.out; unfold maxLen; omega) rfl ?_
                           intro cc8 w8 k8 z8 ha8
                           have H8 := Lib.hid (H7.out.keep k8); have A8 := Lib.hid (ha8 F H7.out.h.i.lt); have K8 := Lib.hid k8
                           clear k8 z8 ha8)
                        | fail)
                      refine (open_one p F ts Ak c.key.length ck c.key An c.nonce.length cn c.nonce _ (c.text).length cc8 (c.text) Aa c.aad.length ca c.aad 34 w8 H8.out.h.i (HAK.out.keep0 K8.out) (HAN.out.keep0 K8.out) A8.out (HAA.out.keep0 K8.out) (by have := HTS.out; omega) (by have := HBG.out; omega) (by have := HBG.out; omega) (by have := HBG.out; omega) (by have := HBG.out; omega)).mono ?_
                      rintro e w9 ho
                      obtain ⟨R, hR⟩ : ∃ R, R = opn ts c.key c.nonce c.aad (c.text) := ⟨_, rfl⟩
                      rw [← hR] at ho
                      have HRR := Lib.hid hR
                      obtain ⟨⟨X, cX, rfl, hrX⟩, ko⟩ := ho
                      have H9 := Lib.hid (H8.out.keep ko); have HRX := Lib.hid hrX
                      clear ko hrX hR c0 A8 K8 H8
                      cases R with
                      | none =>
                        simp only [Option.getD_none, Option.getD_some, Option.isSome_none, Option.isSome_some, List.length_nil, if_true, Bool.false_eq_true, if_false] at HRX ⊢
                        have c1 := H9.out.c1; have c2 := H9.out.c2; have c3 := H9.out.c3
                        go_wp2_with fail
                        refine (open_doc c.key c.nonce c.aad (c.text) g Fd M cM ts w9 H9.out.h.d (by have := HTS.out; omega) (fun t h => by have := HTD.out t h; omega)).mono ?_
                        rintro e w10 ⟨rfl, k10⟩
                        rw [← HRR.out]
                        simp only [optV]
                        have H10 := Lib.hid (H9.out.keep k10)
                        have hcv := run_bytes_str (P := Try.prog) w10 34 9 5 u8sI u8I strI X 0 cX ([]) rfl (HRX.out.keep0 k10)
                        clear k10 c1 c2 c3
                        go_wp2_with fail
                        go_meet
                        case rel => exact ⟨F, Fd, M, cM, ts, [], rfl, Nat.zero_le _, Nat.le_succ _, HTD.out, H10.out.h⟩
                      | some dd =>
                        simp only [Option.getD_none, Option.getD_some, Option.isSome_none, Option.isSome_some, List.length_nil, if_true, Bool.false_eq_true, if_false] at HRX ⊢
                        have c1 := H9.out.c1; have c2 := H9.out.c2; have c3 := H9.out.c3
                        go_wp2_with fail
                        refine (open_doc c.key c.nonce c.aad (c.text) g Fd M cM ts w9 H9.out.h.d (by have := HTS.out; omega) (fun t h => by have := HTD.out t h; omega)).mono ?_
                        rintro e w10 ⟨rfl, k10⟩
                        rw [← HRR.out]
                        simp only [optV]
                        have H10 := Lib.hid (H9.out.keep k10)
                        have hcv := run_bytes_str (P := Try.prog) w10 34 9 5 u8sI u8I strI X dd.length cX (dd) rfl (HRX.out.keep0 k10)
                        clear k10 c1 c2 c3
                        go_wp2_with fail
                        go_meet
                        case rel => exact ⟨F, Fd, M, cM, ts, [], rfl, Nat.zero_le _, Nat.le_succ _, HTD.out, H10.out.h⟩
              · have hb2 : (c.kind == 2) = false := beq_eq_false_iff_ne.2 e2
                clear e2
                by_cases e3 : c.kind = 3
                · have hb3 : (c.kind == 3) = true := beq_iff_eq.2 e3
                  clear e3
                  as_aux_lemma =>
                    go_wp2_with fail
                    refine (mac_two p F ts Ak c.key.length ck c.key At Aa c.text.length ct c.aad.length ca c.text c.aad 34 w7 H7.out.h.i HAK.out HAT.out HAA.out (by have := HTS.out; omega) (by have := HBG.out; omega) (by rw [List.length_append]; have := HBG.out; omega)).mono ?_
                    rintro e w8 ⟨F8, rfl, hq⟩
                    obtain ⟨SX, hSX⟩ : ∃ SX, SX = macT c.key (c.text ++ c.aad) := ⟨_, rfl⟩
                    rw [← hSX] at hq ⊢
                    obtain ⟨Y, hY⟩ : ∃ Y, Y = out ts SX 32 := ⟨_, rfl⟩
                    rw [← hY]
                    have HSX := Lib.hid hSX; have HY := Lib.hid hY
                    have HYL := Lib.hid (show Y.length = 32 by rw [hY]; exact out_length _ _ _ (by omega))
                    have HVL := Lib.hid (show (bvs Y).length = 32 by rw [bvs_length, HYL.out])
                    have H8 := Lib.hid (H7.out.code hq)
                    clear hq c0 hSX hY
                    go_wp2_with (first
                      | (refine wpList_store_new rfl 41 (.tmp 20) (.tmp 158) rfl _ (bvs Y) rfl rfl (by rw [HVL.out]; rfl) (by rw [HVL.out]; kernel_rfl) (bvs_one _) ?_
                         intro w9 hB9 k9 z9
                         obtain ⟨y, hy⟩ : ∃ y, y = w8.heap.size := ⟨_, rfl⟩
                         rw [← hy] at hB9 ⊢
                         have H9 := Lib.hid (H8.out.keep k9); have HB9 := Lib.hid hB9
                         have HNY : Hid (¬ Fd y) := Lib.hid (fun e => by have := H8.out.h.d.lt y e; omega)
                         have c1 := H9.out.c1; have c3 := H9.out.c3; have c4 := H9.out.c4
                         have hz : (str c.text).size + (str c.aad).size ≤ 9223372036854775807 := by rw [str_size, str_size]; have := HBG.out; omega
                         clear hB9 k9 z9 hy)
                      | fail)
                    have hmk := make_doc SX 32 g Fd M cM ts w9 H9.out.h.d (by have := HTS.out; omega) (by omega)
                    rw [HSX.out] at hmk
                    refine hmk.mono ?_
                    rintro e w10 ⟨rfl, Fd10, M10, c10, hm⟩
                    rw [← HSX.out] at hm ⊢
                    rw [← HY.out]
                    have H10 := Lib.hid (H9.out.doc hm)
                    have hcv := run_bytes_str (P := Try.prog) w10 34 9 5 u8sI u8I strI (some ⟨y, 0, none⟩) 32 32 Y HYL.out (HB9.out.keep hm.kp HNY.out).row
                    clear hm c1 c3 c4 hmk hz
                    go_wp2_with fail
                    go_meet
                    case rel => exact ⟨F8, Fd10, M10, c10, _, Y, rfl, by have := HYL.out; omega, mk_length_le ts SX, mem_mk_d HTD.out (by rw [HSX.out]; exact Nat.zero_le _), H10.out.h⟩
                · have hb3 : (c.kind == 3) = false := beq_eq_false_iff_ne.2 e3
                  clear e3
                  by_cases e4 : c.kind = 4
                  · have hb4 : (c.kind == 4) = true := beq_iff_eq.2 e4
                    clear e4
                    as_aux_lemma =>
                      go_wp2_with fail
                      refine (hash_three p F ts At none Aa c.text.length ct 0 0 c.aad.length ca c.text [] c.aad 34 w7 H7.out.h.i HAT.out (arg_none w7 F) HAA.out (by have := HTS.out; omega) (by rw [List.length_append, List.length_append]; have := HBG.out; simp only [List.length_nil]; omega)).mono ?_
                      rintro e w8 ⟨F8, rfl, hq⟩
                      rw [List.nil_append] at hq ⊢
                      obtain ⟨SX, hSX⟩ : ∃ SX, SX = hashT (c.text ++ c.aad) := ⟨_, rfl⟩
                      rw [← hSX] at hq ⊢
                      obtain ⟨Y, hY⟩ : ∃ Y, Y = out ts SX 32 := ⟨_, rfl⟩
                      rw [← hY]
                      have HSX := Lib.hid hSX; have HY := Lib.hid hY
                      have HYL := Lib.hid (show Y.length = 32 by rw [hY]; exact out_length _ _ _ (by omega))
                      have HVL := Lib.hid (show (bvs Y).length = 32 by rw [bvs_length, HYL.out])
                      have H8 := Lib.hid (H7.out.code hq)
                      clear hq c0 hSX hY
                      go_wp2_with (first
                        | (refine wpList_store_new rfl 41 (.tmp 21) (.tmp 179) rfl _ (bvs Y) rfl rfl (by rw [HVL.out]; rfl) (by rw [HVL.out]; kernel_rfl) (bvs_one _) ?_
                           intro w9 hB9 k9 z9
                           obtain ⟨y, hy⟩ : ∃ y, y = w8.heap.size := ⟨_, rfl⟩
                           rw [← hy] at hB9 ⊢
                           have H9 := Lib.hid (H8.out.keep k9); have HB9 := Lib.hid hB9
                           have HNY : Hid (¬ Fd y) := Lib.hid (fun e => by have := H8.out.h.d.lt y e; omega)
                           have c1 := H9.out.c1; have c3 := H9.out.c3; have c4 := H9.out.c4
                           have hz : (str c.text).size + (str c.aad).size ≤ 9223372036854775807 := by rw [str_size, str_size]; have := HBG.out; omega
                           clear hB9 k9 z9 hy)
                        | fail)
                      have hmk := make_doc SX 32 g Fd M cM ts w9 H9.out.h.d (by have := HTS.out; omega) (by omega)
                      rw [HSX.out] at hmk
                      refine hmk.mono ?_
                      rintro e w10 ⟨rfl, Fd10, M10, c10, hm⟩
                      rw [← HSX.out] at hm ⊢
                      rw [← HY.out]
                      have H10 := Lib.hid (H9.out.doc hm)
                      have hcv := run_bytes_str (P := Try.prog) w10 34 9 5 u8sI u8I strI (some ⟨y, 0, none⟩) 32 32 Y HYL.out (HB9.out.keep hm.kp HNY.out).row
                      clear hm c1 c3 c4 hmk hz
                      go_wp2_with fail
                      go_meet
                      case rel => exact ⟨F8, Fd10, M10, c10, _, Y, rfl, by have := HYL.out; omega, mk_length_le ts SX, mem_mk_d HTD.out (by rw [HSX.out]; exact Nat.zero_le _), H10.out.h⟩
                  · have hb4 : (c.kind == 4) = false := beq_eq_false_iff_ne.2 e4
                    clear e4
                    by_cases e5 : c.kind = 5
                    · have hb5 : (c.kind == 5) = true := beq_iff_eq.2 e5
                      clear e5
                      as_aux_lemma =>
                        go_wp2_with fail
                        refine (derive_two p F ts Ak c.key.length ck c.key At Aa c.text.length ct c.aad.length ca c.text c.aad 34 w7 H7.out.h.i HAK.out HAT.out HAA.out (by have := HTS.out; omega) (by have := HBG.out; omega) (by rw [List.length_append]; have := HBG.out; omega)).mono ?_
                        rintro e w8 ⟨F8, rfl, hq⟩
                        obtain ⟨SX, hSX⟩ : ∃ SX, SX = derT c.key (c.text ++ c.aad) := ⟨_, rfl⟩
                        rw [← hSX] at hq ⊢
                        obtain ⟨Y, hY⟩ : ∃ Y, Y = out ts SX 32 := ⟨_, rfl⟩
                        rw [← hY]
                        have HSX := Lib.hid hSX; have HY := Lib.hid hY
                        have HYL := Lib.hid (show Y.length = 32 by rw [hY]; exact out_length _ _ _ (by omega))
                        have HVL := Lib.hid (show (bvs Y).length = 32 by rw [bvs_length, HYL.out])
                        have H8 := Lib.hid (H7.out.code hq)
                        clear hq c0 hSX hY
                        go_wp2_with (first
                          | (refine wpList_store_new rfl 41 (.tmp 22) (.tmp 199) rfl _ (bvs Y) rfl rfl (by rw [HVL.out]; rfl) (by rw [HVL.out]; kernel_rfl) (bvs_one _) ?_
                             intro w9 hB9 k9 z9
                             obtain ⟨y, hy⟩ : ∃ y, y = w8.heap.size := ⟨_, rfl⟩
                             rw [← hy] at hB9 ⊢
                             have H9 := Lib.hid (H8.out.keep k9); have HB9 := Lib.hid hB9
                             have HNY : Hid (¬ Fd y) := Lib.hid (fun e => by have := H8.out.h.d.lt y e; omega)
                             have c1 := H9.out.c1; have c3 := H9.out.c3; have c4 := H9.out.c4
                             have hz : (str c.text).size + (str c.aad).size ≤ 9223372036854775807 := by rw [str_size, str_size]; have := HBG.out; omega
                             clear hB9 k9 z9 hy)
                          | fail)
                        have hmk := make_doc SX 32 g Fd M cM ts w9 H9.out.h.d (by have := HTS.out; omega) (by omega)
                        rw [HSX.out] at hmk
                        refine hmk.mono ?_
                        rintro e w10 ⟨rfl, Fd10, M10, c10, hm⟩
                        rw [← HSX.out] at hm ⊢
                        rw [← HY.out]
                        have H10 := Lib.hid (H9.out.doc hm)
                        have hcv := run_bytes_str (P := Try.prog) w10 34 9 5 u8sI u8I strI (some ⟨y, 0, none⟩) 32 32 Y HYL.out (HB9.out.keep hm.kp HNY.out).row
                        clear hm c1 c3 c4 hmk hz
                        go_wp2_with fail
                        go_meet
                        case rel => exact ⟨F8, Fd10, M10, c10, _, Y, rfl, by have := HYL.out; omega, mk_length_le ts SX, mem_mk_d HTD.out (by rw [HSX.out]; exact Nat.zero_le _), H10.out.h⟩
                    · have hb5 : (c.kind == 5) = false := beq_eq_false_iff_ne.2 e5
                      clear e5
                      go_wp2_with fail
                      go_meet
                      case rel => exact ⟨F, Fd, M, cM, ts, [], rfl, Nat.zero_le _, Nat.le_succ _, HTD.out, H7.out.h⟩
        case rest =>
          as_aux_lemma =>
            obtain ⟨F2, Fd2, M2, cM2, ts2, s, rfl, hs, hts2, htd2, hd2⟩ := hcut
            have H8 := Lib.hid hd2; have HS2 := Lib.hid hs; have HT2 := Lib.hid hts2; have HTD2 := Lib.hid htd2
            obtain ⟨i0, hi0, hz0, hz1, hz2⟩ := info_parts3 str_info
            have HI0 := Lib.hid hi0; have HZ0 := Lib.hid (And.intro hz0 (And.intro hz1 hz2))
            clear hd2 hs hts2 htd2 c0 H7 HAK HAN HAA HAT hi0 hz0 hz1 hz2
            go_upto_region 43 with (first
              | (refine wpList_appR _ rfl (.tmp 214) (.tmp 216) 31 rfl 9 i0 (.string ⟨#[]⟩) 16 strs_under HI0.out HZ0.out.1 HZ0.out.2.1 HZ0.out.2.2 rfl Q i cQ _ rfl (H8.out.o.alloc _) (some ⟨wc.heap.size, 0, none⟩) 1 1 [.string (str s)] rfl (fun h => by cases h) rfl (row_one wc _ _) (by intro u hu; simp at hu; subst hu; rfl) (by omega) (by omega) ?_
                 intro Q2 c2 w9 ho9 hg9 hab9
                 have H9 := Lib.hid ((H8.out.keep ((Kp.refl nob wc).alloc _)).app ho9 hg9 hab9)
                 clear ho9 hg9 hab9)
              | fail)
            have H10 : Hid (Dk w p g F2 Fd2 M2 cM2 ts2 ts2 Q2 (i + 1) c2 (S ++ [s]) w9.drew) := Lib.hid (H9.out.keep (Kp.refl nob w9).drew)
            refine reg_begin (fun w' => Dk w p g F2 Fd2 M2 cM2 ts2 ts2 Q2 (i + 1) c2 (S ++ [s]) w') (by kernel_rfl) H10.out (fun _ => ?_)
            clear H8 H9
            generalize w9.drew = w10 at *
            refine reg_take (v := .pointer (some ⟨p, 0, none⟩)) 0 (some 218) rfl rfl (by kernel_rfl) (by kernel_rfl) (by kernel_rfl) (by rfl) H10.out (fun w hw => by go_simp) ?_
            simp only [Act.put, List.setIfInBounds_toArray, List.set_cons_zero, List.set_cons_succ]
            refine reg_take (v := .pointer (some ⟨g, 0, none⟩)) 2 (some 220) rfl rfl (by kernel_rfl) (by kernel_rfl) (by kernel_rfl) (by rfl) H10.out (fun w hw => by go_simp) ?_
            simp only [Act.put, List.setIfInBounds_toArray, List.set_cons_zero, List.set_cons_succ]
            refine reg_take (v := .pointer (some ⟨g, 0, none⟩)) 3 (some 221) rfl rfl (by kernel_rfl) (by kernel_rfl) (by kernel_rfl) (by rfl) H10.out (fun w hw => by go_simp) ?_
            simp only [Act.put, List.setIfInBounds_toArray, List.set_cons_zero, List.set_cons_succ]
            refine reg_take (v := .pointer (some ⟨g, 0, none⟩)) 4 (some 222) rfl rfl (by kernel_rfl) (by kernel_rfl) (by kernel_rfl) (by rfl) H10.out (fun w hw => by go_simp) ?_
            simp only [Act.put, List.setIfInBounds_toArray, List.set_cons_zero, List.set_cons_succ]
            refine reg_take (v := .slice M2 ts2.length cM2) 5 (some 223) rfl rfl (by kernel_rfl) (by kernel_rfl) (by kernel_rfl) (by rfl) H10.out (fun w hw => by have hc : w.cell? ⟨g, 0, none⟩ = some (.slice M2 ts2.length cM2) := (hw.d.b.cell 0).trans rfl; go_simp) ?_
            simp only [Act.put, List.setIfInBounds_toArray, List.set_cons_zero, List.set_cons_succ]
            refine reg_take (v := .int .i64 (ts2.length : Int)) 6 (some 224) rfl rfl (by kernel_rfl) (by kernel_rfl) (by kernel_rfl) (by rfl) H10.out (fun w hw => by go_simp) ?_
            simp only [Act.put, List.setIfInBounds_toArray, List.set_cons_zero, List.set_cons_succ]
            refine reg_call 1 (some 219) rfl rfl (by kernel_rfl) (by rfl) _ _ (exec_func 19 _ _ [.pointer (some ⟨p, 0, none⟩)] rfl (by kernel_rfl) rfl) ?_
            refine (size_i p F2 ts2 _ H10.out.i).mono ?_
            rintro e w11 ⟨rfl, rfl⟩
            refine ⟨_, rfl, H10.out, fun _ => ?_⟩
            simp only [Act.put, List.setIfInBounds_toArray, List.set_cons_zero, List.set_cons_succ]
            refine reg_take (v := .bool false) 7 (some 225) rfl rfl (by kernel_rfl) (by kernel_rfl) (by kernel_rfl) (by rfl) H10.out (fun w hw => by go_simp) ?_
            simp only [Act.put, List.setIfInBounds_toArray, List.set_cons_zero, List.set_cons_succ]
            refine reg_end (by kernel_rfl) ?_
            go_wp2
            exact ⟨⟨i + 1, F2, Fd2, M2, cM2, ts2, Q2, c2, S ++ [s], by omega, rfl, by go_num, by have := HTS.out; have := HT2.out; omega, HTD2.out, (fun t h => by
              rcases List.mem_append.1 h with h | h
              · exact HSL.out t h
              · rw [List.mem_singleton.1 h]; exact HS2.out), H10.out⟩, by simp [intOf]; omega⟩
    · as_aux_lemma =>
        obtain rfl : i = n := by omega
        have hz := zc_run
        go_wp2_with fail
        refine (seal_nil _ _ _ _ wr).mono ?_
        rintro e wa ⟨rfl, rfl⟩
        go_wp2_with fail
        refine (open_nil _ _ _ _ wr).mono ?_
        rintro e wa ⟨rfl, rfl⟩
        go_wp2_with fail
        refine (size_nil wr).mono ?_
        rintro e wa ⟨rfl, rfl⟩
        go_wp2_with fail
        refine (hash_nil none 0 0 [] nob wr (args_none wr nob) (Nat.zero_le _)).mono ?_
        rintro e wa ⟨rfl, ka⟩
        have KA := Lib.hid ka; clear ka
        go_wp2_with (first
          | (refine wpList_exec_gd (by rfl) (exec_eq32 250 251 _ z32 z32 rfl rfl rfl rfl (congrArg (fun l => Value.agg (List.toArray l)) zc_eq)) ?_)
          | fail)
        refine (mac_nil none 0 0 [] none 0 0 [] nob wa (arg_none wa nob) (args_none wa nob) (Nat.zero_le _)).mono ?_
        rintro e wb ⟨rfl, kb⟩
        have KB := Lib.hid (KA.out.trans kb (fun _ e => e.elim)); clear kb
        go_wp2_with (first
          | (refine wpList_exec_gd (by rfl) (exec_eq32 256 257 _ z32 z32 rfl rfl rfl rfl (congrArg (fun l => Value.agg (List.toArray l)) zc_eq)) ?_)
          | fail)
        refine (derive_nil none 0 0 [] none 0 0 [] nob wb (arg_none wb nob) (args_none wb nob) (Nat.zero_le _)).mono ?_
        rintro e wd ⟨rfl, kd⟩
        have KD := Lib.hid (KB.out.trans kd (fun _ e => e.elim)); clear kd
        go_wp2_with (first
          | (refine wpList_exec_gd (by rfl) (exec_eq32 262 263 _ z32 z32 rfl rfl rfl rfl (congrArg (fun l => Value.agg (List.toArray l)) zc_eq)) ?_)
          | fail)
        go_ret
        exact ⟨rfl, HDK.out.k.trans KD.out (fun _ e => e.elim)⟩
end Go.Proofs.Ytakhanganifpnaa.Ideal
