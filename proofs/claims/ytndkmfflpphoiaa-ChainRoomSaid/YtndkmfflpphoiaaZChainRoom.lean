/- coffretlaw16.ChainRoom, over what is asked of the code's area. -/
import Derived.Test.YtndkmfflpphoiaaZG07
set_option linter.unusedVariables false
set_option linter.unusedSimpArgs false
namespace Go.Proofs.Ytndkmfflpphoiaa.Disk
open Go Go.RowKit Kit
/-- The disk, the area and a frame's bytes, all new since w. -/
structure RmS (P : AreaP) (w : World) (m k i top lo g N S a : Nat) (X : Option Addr) (f : List UInt8) (wr : World) (D : Dk) (A : Ar) (W : Option Addr) (cW : Nat) : Prop where
  cd : Cd wr g N S W cW D
  ar : P.is wr a g A
  rm : Rm m k i top lo D A
  kp : Kp nob w wr
  new : ∀ j, aF g N S W a j → w.heap.size ≤ j
  apart : ¬ dF g N S W a
  row : Row wr X (bvs f)
  xf : ∀ j, ab X = some j → j < wr.heap.size ∧ ¬ aF g N S W a j
theorem RmS.keep0 {P : AreaP} {w : World} {m k i top lo g N S a : Nat} {X : Option Addr} {f : List UInt8} {wr w2 : World} {D : Dk} {A : Ar} {W : Option Addr} {cW : Nat} (h : RmS P w m k i top lo g N S a X f wr D A W cW) (k2 : Kp nob wr w2) : RmS P w m k i top lo g N S a X f w2 D A W cW :=
  ⟨h.cd.keep0 k2, P.keep h.ar k2 (fun e => e), h.rm, h.kp.trans k2 (fun _ e => e.elim), h.new, h.apart, h.row.keep0 k2, fun j e => ⟨Nat.lt_of_lt_of_le (h.xf j e).1 k2.size, (h.xf j e).2⟩⟩
theorem RmS.add {P : AreaP} {w : World} {m k i i2 top lo g N S a : Nat} {X : Option Addr} {f : List UInt8} {wr w2 : World} {D : Dk} {A : Ar} {W : Option Addr} {cW : Nat} (h : RmS P w m k i top lo g N S a X f wr D A W cW) (p : AddP P D g N S W a A f wr w2) (hr : Rm m k i2 top lo (aAdd D A f).1 (aAdd D A f).2.1) :
    ∃ W2 c2, RmS P w m k i2 top lo g N S a X f w2 (aAdd D A f).1 (aAdd D A f).2.1 W2 c2 := by
  obtain ⟨W2, c2, h1, h2, h3, h4⟩ := p
  have hal := P.lt h.ar
  have hs := h2.size
  have hdf : ∀ j, dF g N S W2 j → dF g N S W j ∨ wr.heap.size ≤ j := fun j e => by
    rcases e with e | e | e | e
    · exact .inl (.inl e)
    · exact .inl (.inr (.inl e))
    · exact .inl (.inr (.inr (.inl e)))
    · exact (h3 j e).imp (fun e => .inr (.inr (.inr e))) id
  refine ⟨W2, c2, h1, h4, hr, h.kp.since h2 h.new, fun j e => ?_, fun e => ?_, ?_, fun j e => ⟨Nat.lt_of_lt_of_le (h.xf j e).1 hs, fun e2 => ?_⟩⟩
  · rcases e with e | e
    · rcases hdf j e with e | e
      · exact h.new j (.inl e)
      · have := h.kp.size; omega
    · exact h.new j (.inr e)
  · rcases hdf a e with e | e
    · exact h.apart e
    · omega
  · by_cases hf : f = []
    · subst hf; exact Row.nil _ _
    · exact h.row.keep h2 (fun j e => (h.xf j e).2)
  · rcases e2 with e2 | e2
    · rcases hdf j e2 with e3 | e3
      · exact (h.xf j e).2 (.inl e3)
      · have := (h.xf j e).1; omega
    · exact (h.xf j e).2 (.inr e2)
set_option maxHeartbeats 4000000 in
set_option maxRecDepth 100000 in
theorem room_walk (P : AreaP) (hH : HalfC P) (hL : LeftC P) (hA : AddC P) (n epoch size : Int) (w : World) (hn : (Lit.int .i64 n).wf = true) (he : (Lit.int .i64 epoch).wf = true) (hs : (Lit.int .i64 size).wf = true) :
    Calls Try.prog 5 #[.int .i64 n, .int .i64 epoch, .int .i64 size] w fun e w' => e = .returned (.bool true) ∧ Kp nob w w' := by
  have HAL := Lib.hid (fun w => alive_yes P hH hL hA w)
  have HI := Lib.hid (And.intro (i64_range hn) (And.intro (i64_range he) (i64_range hs)))
  clear hn he hs
  by_cases h1 : n < 0
  · go_enter Try.func5, Try.ntmps5
    go_wp2_with fail
    refine (HAL.out _).mono ?_
    rintro e w1 ⟨rfl, k1⟩
    go_wp2
    go_ret
    exact ⟨rfl, k1⟩
  by_cases h2 : 60 < n
  · go_enter Try.func5, Try.ntmps5
    go_wp2_with fail
    refine (HAL.out _).mono ?_
    rintro e w1 ⟨rfl, k1⟩
    go_wp2
    go_ret
    exact ⟨rfl, k1⟩
  by_cases h3 : epoch < 0
  · go_enter Try.func5, Try.ntmps5
    go_wp2_with fail
    refine (HAL.out _).mono ?_
    rintro e w1 ⟨rfl, k1⟩
    go_wp2
    go_ret
    exact ⟨rfl, k1⟩
  by_cases h4 : size < 0
  · go_enter Try.func5, Try.ntmps5
    go_wp2_with fail
    refine (HAL.out _).mono ?_
    rintro e w1 ⟨rfl, k1⟩
    go_wp2
    go_ret
    exact ⟨rfl, k1⟩
  by_cases h5 : 4096 < size
  · go_enter Try.func5, Try.ntmps5
    go_wp2_with fail
    refine (HAL.out _).mono ?_
    rintro e w1 ⟨rfl, k1⟩
    go_wp2
    go_ret
    exact ⟨rfl, k1⟩
  obtain ⟨m, rfl⟩ := Int.eq_ofNat_of_zero_le (show 0 ≤ n by omega)
  obtain ⟨z, rfl⟩ := Int.eq_ofNat_of_zero_le (show 0 ≤ size by omega)
  have hcl : clamp (m : Int) = m := by unfold clamp; omega
  have hnew := new_any (m : Int)
  rw [hcl] at hnew
  have HNW := Lib.hid hnew
  have HFR := Lib.hid (fun w' => framed_any (List.replicate z 0) w' (by simp; omega))
  obtain ⟨f, hf⟩ : ∃ f, f = frm (List.replicate z 0) := ⟨_, rfl⟩
  rw [← hf] at HFR
  have hfl : flen f = f.length := by rw [hf]; exact frm_flen _ (by simp; omega)
  have hf0 : f.length ≠ 0 := by rw [hf]; exact frm_pos _
  have hfn : f.length = max z 40 + 8 := by rw [hf, frm_length]; simp
  obtain ⟨k, hk⟩ : ∃ k, k = (f.length + 255) / 256 := ⟨_, rfl⟩
  obtain ⟨L, hLn⟩ : ∃ L, L = f.length := ⟨_, rfl⟩
  have hsk : (secs f).length = k := by rw [secs_len, hk]
  rw [← hLn] at HFR hk hfn
  have hk1 : 1 ≤ k ∧ k ≤ 17 := by omega
  have HF := Lib.hid (And.intro hfl (And.intro hf0 (And.intro hsk hLn)))
  have e1 : ((L : Int) + 255).tdiv 256 = (k : Int) := by rw [Int.tdiv_eq_ediv_of_nonneg (by omega)]; omega
  have e2 : IntKind.i64.wrap ((L : Int) + 255) = (L : Int) + 255 := by rw [IntWalk.i64_in _ (by omega)]
  have e3 : IntKind.i64.wrap (k : Int) = (k : Int) := by rw [IntWalk.i64_in _ (by omega)]
  have hL5 : L ≤ 4104 := by omega
  clear hnew hcl hf hfl hf0 hfn hk hLn hsk
  go_enter Try.func5, Try.ntmps5
  go_wp2_with fail
  refine (HAL.out _).mono ?_
  rintro e w0 ⟨rfl, k0⟩
  have HK0 := Lib.hid k0
  clear k0
  go_wp2_with fail
  refine (HNW.out _).mono ?_
  rintro e w1 ⟨g, N, S, rfl, hd1, k1, hn1⟩
  have HD1 := Lib.hid hd1
  have HK1 := Lib.hid k1
  have HN1 := Lib.hid hn1
  clear hd1 k1 hn1
  go_wp2_with fail
  refine (hH (new m) g N S none 0 epoch w1 HD1.out (by have := HI.out; omega)).mono ?_
  rintro e w2 ⟨a, rfl, ha2, k2, hna⟩
  have HA2 := Lib.hid ha2
  have HD2 := Lib.hid (HD1.out.keep0 k2)
  have HK2 := Lib.hid (And.intro k2 hna)
  clear ha2 k2 hna
  have hz5 : z ≤ 1048576 := by omega
  go_wp2_with (first
    | (refine wpList_gd (by rfl) (exec_make_z (.tmp 38) z _ rfl rfl hz5) ?_)
    | (refine wpList_gd (by rfl) (exec_bs2 (.tmp 39) _ z z (List.replicate z 0) rfl rfl (by simp) (row_new w2 (bvs (List.replicate z 0)) _)) ?_)
    | fail)
  refine (HFR.out _).mono ?_
  rintro e w3 ⟨X, c, rfl, hr3, k3, hc1, hc2, hc3, hn3⟩
  have hhalf : (aHalf m (decide (epoch % 2 = 1))).top = (aHalf m (decide (epoch % 2 = 1))).pos + m / 2 := by unfold aHalf; split <;> simp <;> omega
  have htop := (aHalf_ok m (decide (epoch % 2 = 1))).2
  have hrm := rm_new m (decide (epoch % 2 = 1)) k
  have ha2 := HA2.out
  rw [new_len] at ha2
  obtain ⟨A0, hA0⟩ : ∃ A0, A0 = aHalf m (decide (epoch % 2 = 1)) := ⟨_, rfl⟩
  rw [← hA0] at hhalf htop hrm ha2
  obtain ⟨h, hh⟩ : ∃ h, h = m / 2 := ⟨_, rfl⟩
  rw [← hh] at hhalf
  obtain ⟨Q, hQ⟩ : ∃ Q, Q = h / k := ⟨_, rfl⟩
  have hQk : Q * k ≤ h := by rw [hQ]; exact Nat.div_mul_le_self h k
  have hQ2 : h < (Q + 1) * k := by rw [hQ, Nat.mul_comm]; exact Nat.lt_mul_div_succ h (by omega)
  have kA : Kp nob w2 w3 := ((Kp.refl nob w2).alloc (.cells (bvs (List.replicate z 0)).toArray 5)).trans k3 (fun _ e => e.elim)
  have hlt1 := HD1.out.lt
  have hst : RmS P w m k 0 A0.top A0.pos g N S a X f w3 (new m) A0 none 0 := by
    have h01 := HK0.out.size
    have h12 := HK1.out.size
    have h23 := HK2.out
    have h24 := HK2.out.1.size
    refine ⟨HD2.out.keep0 kA, P.keep ha2 kA (fun e => e), hrm, ((HK0.out.trans HK1.out (fun _ e => e.elim)).trans HK2.out.1 (fun _ e => e.elim)).trans kA (fun _ e => e.elim), fun j e => ?_, fun e => ?_, hr3, fun j e => ⟨hr3.lt (fun e2 => ?_) j e, fun e2 => ?_⟩⟩
    · rcases e with e | e
      · have := HN1.out j e; omega
      · omega
    · have := hlt1 _ e; omega
    · have h9 := congrArg List.length e2; rw [bvs_length, ← HF.out.2.2.2] at h9; have := HF.out.2.1; rw [← HF.out.2.2.2] at this; simp at h9; omega
    · have h8 := hn3 j e
      simp at h8
      have h7 := P.lt HA2.out
      rcases e2 with e2 | e2
      · have := hlt1 j e2; omega
      · omega
  have HST := Lib.hid hst
  have HCC := Lib.hid (And.intro hc1 (And.intro hc2 hc3))
  have HTP := Lib.hid (And.intro hhalf (And.intro htop (And.intro hQk hQ2)))
  clear hst hc1 hc2 hc3 hhalf htop hQk hQ2 hrm ha2 hA0 kA hlt1 k3 hr3 hn3
  have hQh : Q ≤ h := by rw [hQ]; exact Nat.div_le_self h k
  have HQ1 : IsQuo (m : Int) 2 (h : Int) := ⟨by decide, by rw [Int.tdiv_eq_ediv_of_nonneg (by omega), IntWalk.i64_in _ (by omega)]; omega⟩
  have HQ2 : IsQuo (h : Int) (k : Int) (Q : Int) := ⟨by omega, by
    have e : (h : Int) / (k : Int) = (Q : Int) := by rw [hQ]; simp
    rw [Int.tdiv_eq_ediv_of_nonneg (by omega), e, IntWalk.i64_in _ (by omega)]⟩
  have H60 := Lib.hid (show h ≤ 30 ∧ Q ≤ h ∧ k ≤ 17 by omega)
  clear hh hQ hQh
  go_wp2_with ((with_reducible refine at_list ?_); first | (refine wpList_gd (by rfl) (exec_quo (.tmp 47) (.const (.int .i64 2)) (m : Int) 2 (h : Int) rfl rfl rfl HQ1) ?_) | (refine wpList_gd (by rfl) (exec_quo (.tmp 48) (.tmp 49) (h : Int) (k : Int) (Q : Int) rfl rfl rfl HQ2) ?_))
  clear e1 e2 e3
  go_loopw [11] (fun iv wr => ∃ i : Nat, i ≤ Q ∧ iv = .int .i64 i ∧ ∃ (D : Dk) (A : Ar) (W : Option Addr) (cW : Nat), RmS P w m k i A0.top A0.pos g N S a X f wr D A W cW)
    (fun iv _ => Q - (intOf iv).toNat)
  case atStart => exact ⟨0, Nat.zero_le _, rfl, new m, A0, none, 0, HST.out⟩
  case round =>
    obtain ⟨i, hi, rfl, D, A, W, cW, hst⟩ := hrel
    have HS := Lib.hid hst
    obtain ⟨ik, hik⟩ : ∃ ik, ik = i * k := ⟨_, rfl⟩
    have hikQ : ik ≤ h := by rw [hik]; exact Nat.le_trans (Nat.mul_le_mul_right k hi) HTP.out.2.2.1
    have hApos : A = ⟨A0.top, A0.pos + ik⟩ := by rw [hik]; exact hst.rm.pos
    have HIK := Lib.hid hik
    have HAP := Lib.hid hApos
    have hleft := hL a g A wr hst.ar (by rw [hApos, HTP.out.1]; simp only; omega) (by rw [hApos]; have := HTP.out.2.1; simp only; omega)
    rw [show A.top - A.pos = h - ik by rw [hApos, HTP.out.1]; simp only; omega] at hleft
    have HLE := Lib.hid hleft
    have hfar : Far D := ⟨by rw [hst.rm.waits, ← hik]; have := H60.out; omega, by rw [hst.rm.acts, ← hik]; have := H60.out; omega, by rw [hst.rm.fuse]; omega, by rw [hst.rm.keep]; omega⟩
    have HFA := Lib.hid hfar
    have e8 : IntKind.i64.wrap ((i : Int) * (k : Int)) = (ik : Int) := by
      have := H60.out
      rw [show (i : Int) * (k : Int) = (ik : Int) by rw [hik]; simp, IntWalk.i64_in _ (by omega)]
    clear hst hleft hfar hik hApos
    have e9 : IntKind.i64.wrap ((h : Int) - (ik : Int)) = ((h - ik : Nat) : Int) := by have := H60.out; rw [IntWalk.i64_in _ (by omega)]; omega
    have HADD := Lib.hid (fun w4 (k4 : Kp nob wr w4) => hA D g N S W cW a A X L c f w4 ((HS.out.keep0 k4).cd) ((HS.out.keep0 k4).ar) HS.out.apart (by rw [HAP.out, HTP.out.1]; simp only; omega) (by rw [HAP.out, HS.out.rm.size]; exact HTP.out.2.1) HFA.out HF.out.2.2.2.symm ((HS.out.keep0 k4).row) HCC.out.1 HCC.out.2.1 HCC.out.2.2 (.inr (fun j e => (HS.out.xf j e).2)) (by omega))
    by_cases hlt : i < Q
    · have hr1 : A0.pos + (i + 1) * k ≤ A0.top := by
        have h1 : (i + 1) * k ≤ Q * k := Nat.mul_le_mul_right k hlt
        have := HTP.out.2.2.1
        rw [HTP.out.1]; omega
      have hadd := HS.out.rm.add f HF.out.1 HF.out.2.1 HF.out.2.2.1 hr1 HTP.out.2.1
      have HAR := Lib.hid hadd
      rw [hadd.1] at HADD
      clear hadd hr1
      go_wp2_with ((with_reducible refine at_list ?_); first | (refine wpList_gd (by rfl) (exec_quo (.tmp 47) (.const (.int .i64 2)) (m : Int) 2 (h : Int) rfl rfl rfl HQ1) ?_) | (refine wpList_gd (by rfl) (exec_quo (.tmp 48) (.tmp 49) (h : Int) (k : Int) (Q : Int) rfl rfl rfl HQ2) ?_))
      refine HLE.out.mono ?_
      rintro e w4 ⟨rfl, k4⟩
      have HK4 := Lib.hid k4
      clear k4
      go_wp2_with ((with_reducible refine at_list ?_); first | (refine wpList_gd (by rfl) (exec_quo (.tmp 56) (.const (.int .i64 2)) (m : Int) 2 (h : Int) rfl rfl rfl HQ1) ?_))
      refine (HADD.out w4 HK4.out).mono ?_
      rintro e w5 ⟨rfl, p5⟩
      obtain ⟨W2, c2, hs5⟩ := (HS.out.keep0 HK4.out).add p5 HAR.out.2
      have HS5 := Lib.hid hs5
      have hQb : Q ≤ 9223372036854775807 := by have := H60.out; omega
      clear hs5 p5
      go_wp2
      go_roundw
      case rel => exact ⟨i + 1, by omega, by go_num, _, _, W2, c2, HS5.out⟩
      case measure => simp [intOf]; omega
    · obtain rfl : Q = i := by omega
      have hfull := add_full D A f HF.out.1 HF.out.2.1 HS.out.rm.off (by rw [HF.out.2.2.1, HAP.out, HTP.out.1]; have := HTP.out.2.2.2; rw [Nat.succ_mul, ← HIK.out] at this; simp only; omega) (by rw [HAP.out, HTP.out.1]; simp only; omega)
      have ha2 : (D.acts : Int) = (ik : Int) := by rw [HS.out.rm.acts, ← HIK.out]
      have hacts := fun W5 c5 w5 (h5 : Cd w5 g N S W5 c5 D) => acts_any D g N S W5 c5 w5 h5
      rw [ha2] at hacts
      have HAC := Lib.hid hacts
      have hleft2 := fun w5 (h5 : P.is w5 a g A) => hL a g A w5 h5 (by rw [HAP.out, HTP.out.1]; simp only; omega) (by rw [HAP.out]; have := HTP.out.2.1; have := H60.out; have := HS.out.rm.size; have := HS.out.cd.max; simp only; omega)
      rw [show A.top - A.pos = h - ik by rw [HAP.out, HTP.out.1]; simp only; omega] at hleft2
      have HL2 := Lib.hid hleft2
      have HFU := Lib.hid hfull
      rw [hfull] at HADD
      have HADD2 : Hid (∀ w4, Kp nob wr w4 → Calls Try.prog 15 #[.pointer (some ⟨a, 0, none⟩), .slice X L c] w4 fun e w' => e = .returned (.int .i64 7) ∧ AddP P D g N S W a A f w4 w') := Lib.hid HADD.out
      have hend : h - ik < k := by have := HTP.out.2.2.2; rw [Nat.succ_mul, ← HIK.out] at this; omega
      have hendI : ((h - ik : Nat) : Int) < (k : Int) := by omega
      clear hfull ha2 hacts hleft2 HADD hlt hi
      go_wp2_with ((with_reducible refine at_list ?_); first | (refine wpList_gd (by rfl) (exec_quo (.tmp 47) (.const (.int .i64 2)) (m : Int) 2 (h : Int) rfl rfl rfl HQ1) ?_) | (refine wpList_gd (by rfl) (exec_quo (.tmp 48) (.tmp 49) (h : Int) (k : Int) (Q : Int) rfl rfl rfl HQ2) ?_))
      refine (HAC.out W cW wr HS.out.cd).mono ?_
      rintro e w4 ⟨rfl, rfl⟩
      go_wp2_with fail
      refine (HADD2.out wr (Kp.refl _ _)).mono ?_
      rintro e w5 ⟨rfl, p5⟩
      obtain ⟨W2, c2, hs5⟩ := HS.out.add p5 (show Rm m k Q A0.top A0.pos (aAdd D A f).1 (aAdd D A f).2.1 by rw [HFU.out]; exact HS.out.rm)
      rw [HFU.out] at hs5
      have HS5 := Lib.hid hs5
      clear hs5 p5
      go_wp2_with fail
      refine (HAC.out W2 c2 w5 HS5.out.cd).mono ?_
      rintro e w6 ⟨rfl, rfl⟩
      go_wp2_with fail
      refine (HL2.out w5 HS5.out.ar).mono ?_
      rintro e w6 ⟨rfl, k6⟩
      have HS6 := Lib.hid (HS5.out.keep0 k6)
      clear k6
      go_wp2_with ((with_reducible refine at_list ?_); first | (refine wpList_gd (by rfl) (exec_quo (.tmp 89) (.const (.int .i64 2)) (m : Int) 2 (h : Int) rfl rfl rfl HQ1) ?_) | (refine wpList_gd (by rfl) (exec_quo (.tmp 90) (.tmp 91) (h : Int) (k : Int) (Q : Int) rfl rfl rfl HQ2) ?_))
      go_ret
      exact ⟨rfl, HS6.out.kp⟩
end Go.Proofs.Ytndkmfflpphoiaa.Disk
