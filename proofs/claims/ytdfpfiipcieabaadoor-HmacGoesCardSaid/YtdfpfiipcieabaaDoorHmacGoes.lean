/- HmacGoes: taken in piece by piece, and asked between, the keyed digest is at each time that of what was taken in; a nil one. -/
import Derived.Test.YtdfpfiipcieabaaDoorHmacIs
namespace Go.Proofs.YtdfpfiipcieabaaDoor.Hmac
open Go Go.RowKit Kit
open Sha (Tabs Far Has Pc PcsOk catP catP_snoc catP_le u8s_under arr32b u8s_info own_new own_one own_none u8_string row_marked eq32 conv_row zero32 eq_lit)

set_option maxHeartbeats 1000000 in
theorem sum_nil (w : World) : Calls Tryd.prog 14 #[.pointer none] w fun e w' => e = .returned (.agg (bvs zero32).toArray) ∧ Kp nob w w' := by
  go_enter Tryd.func14, Tryd.ntmps14
  go_wp2_with (first
    | (refine wpList_built rfl 25 _ rfl (.agg (bvs zero32).toArray) (by kernel_rfl) ?_)
    | (refine wpList_store_new rfl 25 (.tmp 2) (.tmp 6) rfl _ (bvs zero32) rfl rfl (by kernel_rfl) (by kernel_rfl) (bvs_one _) ?_
       intro w5 hB5 k5 z5))
  have hsz5 : (Tryd.prog.info? 25).map (·.size) = some (bvs zero32).toArray.size := by kernel_rfl
  refine bodyPost_ret (results_cell_row rfl _ _ w.heap.size _ _ _ _ rfl hB5 arr32b rfl hsz5) rfl ⟨rfl, k5⟩

set_option maxHeartbeats 1000000 in
theorem goes_no (A : Option Addr) (n c : Nat) (B : Option Addr) (m d : Nat) (w : World) (ht : Tabs w) (hn : n ≤ maxLen) (hm : m ≤ maxLen) (h : 2048 < n ∨ 20 < m) :
    Calls Tryd.prog 4 #[.slice A n c, .slice B m d] w fun e w' => e = .returned (.bool true) ∧ Kp nob w w' := by
  unfold maxLen at hm hn
  by_cases h1 : 2048 < n
  · have d1 : decide ((2048 : Int) < (n : Int)) = true := by simp; omega
    go_enter Tryd.func4, Tryd.ntmps4
    go_wp2_with fail
    refine (alive_yes _ ht).mono ?_
    rintro e w1 ⟨rfl, k1⟩
    go_wp2
    go_ret
    exact ⟨rfl, k1⟩
  · have d1 : decide ((2048 : Int) < (n : Int)) = false := by simp; omega
    have d2 : decide ((20 : Int) < (m : Int)) = true := by simp; omega
    go_enter Tryd.func4, Tryd.ntmps4
    go_wp2_with fail
    refine (alive_yes _ ht).mono ?_
    rintro e w1 ⟨rfl, k1⟩
    go_wp2
    go_ret
    exact ⟨rfl, k1⟩

set_option maxHeartbeats 2000000 in
theorem goes_yes (A : Option Addr) (n c : Nat) (key : List UInt8) (B : Option Addr) (m d : Nat) (ps : List Pc) (w : World) (ht : Tabs w) (hk : key.length = n) (hr : Row w A (bvs key)) (hc : n ≤ c) (hcm : c ≤ maxLen)
    (hm : ps.length = m) (hrp : Row w B (ps.map Pc.v)) (hp : PcsOk w nob ps) (hn : ∀ p ∈ ps, p.n ≤ 140737488355328) (hn1 : n ≤ 2048) (hm20 : m ≤ 20) :
    Calls Tryd.prog 4 #[.slice A n c, .slice B m d] w fun e w' => e = .returned (.bool true) ∧ Kp nob w w' := by
  have d1 : decide ((2048 : Int) < (n : Int)) = false := by simp; omega
  have d2 : decide ((20 : Int) < (m : Int)) = false := by simp; omega
  have HK := Lib.hid hk; have HCM := Lib.hid hcm
  have HIL := Lib.hid (ik_length key)
  clear hk hcm
  go_enter Tryd.func4, Tryd.ntmps4
  go_wp2_with fail
  refine (alive_yes _ ht).mono ?_
  rintro e w1 ⟨rfl, k1⟩
  go_wp2_with fail
  refine (new_any A n c key w1 (ht.keep0 k1) HK.out (hr.keep0 k1) hc HCM.out (by omega)).mono ?_
  rintro e w2 ⟨b, h, rfl, hM, hH, k2, nb, nh⟩
  have K2 := k1.trans k2 (fun _ e => e.elim)
  have s1w := k1.size
  clear k1 k2
  go_wp2
  go_loopw [6, 24] (fun vs vi wr => ∃ k : Nat, k ≤ m ∧ vi = .int .i64 k ∧ vs = .string (str (catP (ps.take k))) ∧ (catP (ps.take k)).length ≤ 2048 ∧ Has wr h (ik key ++ catP (ps.take k)) ∧ Kp (oneB h) w2 wr)
    (fun _ vi _ => m - (intOf vi).toNat)
  case atStart => exact ⟨0, by omega, rfl, rfl, by simp [catP], by simpa [catP] using hH, Kp.refl _ _⟩
  case round =>
    obtain ⟨k, hk, rfl, rfl, hle, hh, hkp2⟩ := hrel
    have hkp := K2.since hkp2 (fun k e => by unfold oneB at e; omega)
    by_cases hlt : k < m
    · obtain ⟨p, hpk⟩ : ∃ p, p = ps[k]'(by omega) := ⟨_, rfl⟩
      obtain ⟨bb, oo, rfl, hbb, hcell⟩ := hrp.at_ (i := k) (by simp [hm]; exact hlt)
      have hce : wr.cell? ⟨bb, oo + k, none⟩ = some (.slice p.A p.n p.c) := by rw [hkp.cell (p := ⟨bb, oo + k, none⟩) hbb (fun e => e), hcell, hpk]; simp [Pc.v]
      obtain ⟨q1, q2, q3, q4, q5⟩ := hp p (by rw [hpk]; exact List.getElem_mem _)
      have qn := hn p (by rw [hpk]; exact List.getElem_mem _)
      have hsn := catP_snoc ps k (by omega)
      rw [← hpk] at hsn
      have hln : (catP (ps.take (k + 1))).length = (catP (ps.take k)).length + p.n := by rw [hsn, List.length_append, q1]
      obtain ⟨X, hX⟩ : ∃ X, X = catP (ps.take k) := ⟨_, rfl⟩
      rw [← hX] at hle hln hsn hh ⊢
      have HS := Lib.hid hsn; have HLN := Lib.hid hln; have HQ := Lib.hid q1
      have hMr := hM.keep hkp2 (fun e => hM.ne e.symm)
      have hcr := hMr.hash
      have hPF := Lib.hid (show p.l = [] ∨ ∀ k, ab p.A = some k → ¬ oneB h k by
        by_cases hl : p.l = []
        · exact .inl hl
        · exact .inr (fun k e1 e2 => by have := q2.lt (by simpa [bvs] using hl) k e1; unfold oneB at e2; omega))
      clear hsn hpk hcell hln q1 hX
      by_cases hb2 : X.length + p.n ≤ 2048
      · have hcat : X.length + p.l.length ≤ 9223372036854775807 := by rw [HQ.out]; omega
        go_wp2_with fail
        refine (Sha.write_one h (ik key ++ X) p wr _ _ rfl hh (ht.keep0 hkp) hM.far (Sha.pcs_one HQ.out (q2.keep0 hkp) hPF.out q4 q5) (by rw [List.length_append, HIL.out, HQ.out]; omega)).mono ?_
        rintro e w5 ⟨rfl, h5, k5⟩
        have kp5 := hkp2.trans k5 (fun _ e => .inl e)
        have K5 := K2.since kp5 (fun k e => by unfold oneB at e; omega)
        rw [List.append_assoc] at h5
        have hM5 := hM.keep kp5 (fun e => hM.ne e.symm)
        have hcv := conv_row w5 p.A p.n p.c p.l HQ.out (q2.keep0 K5)
        clear hcr
        go_wp2
        have kd : Kp nob w w5.drew := K5.drew
        have kd5 : Kp nob w5 w5.drew := (Kp.refl nob w5).drew
        have hqk := conv_row w5.drew A n c key HK.out (hr.keep0 kd)
        have hcd := (hM5.keep kd5 (fun e => e)).hash
        have hq := eq_same key (X ++ p.l)
        have HXL : Hid ((X ++ p.l).length = X.length + p.n) := Lib.hid (by rw [List.length_append, HQ.out])
        have HSZ : Hid (((ik key ++ (X ++ p.l)).length : Int) = 64 + ((X.length : Int) + (p.l.length : Int))) := Lib.hid (by rw [List.length_append, List.length_append, HIL.out]; omega)
        have hsum : IntKind.i64.wrap (64 + ((X.length : Int) + (p.l.length : Int))) = 64 + ((X.length : Int) + (p.l.length : Int)) := IntWalk.i64_in _ (by rw [HQ.out]; omega)
        clear hcv
        go_region_held3 (fun w' => (convert 22 9 (.slice A n c)).run Tryd.prog w' = .ok (.string (str key)) w' ∧ w'.cell? ⟨b, 0, none⟩ = some (.pointer (some ⟨h, 0, none⟩)) ∧ Kp nob w w' ∧ Kp nob w5 w')
          ((refine ⟨?_, ?_, ?_, ?_⟩ <;> first | assumption))
          (first
            | (go_at_call 14
               obtain ⟨_, _, ka, kb⟩ := ‹_ ∧ _ ∧ Kp nob w _ ∧ Kp nob w5 _›
               refine (sum_any b h key (X ++ p.l) _ (hM5.keep kb (fun e => e)) (h5.keep kb (fun e => e)) (ht.keep0 ka) (by rw [HXL.out]; omega)).mono ?_
               rintro e w8 ⟨rfl, k8⟩
               have KK : Kp nob w w8 := ka.trans k8 (fun _ e => e.elim)
               have K58 : Kp nob w5 w8 := kb.trans k8 (fun _ e => e.elim)
               have hcv5 := conv_row w8 A n c key HK.out (hr.keep0 KK)
               have hc8 := (hM5.keep K58 (fun e => e)).hash)
            | (go_at_call 11
               obtain ⟨_, _, ka, kb⟩ := ‹_ ∧ _ ∧ Kp nob w _ ∧ Kp nob w5 _›
               refine (fMac (str key) (str (X ++ p.l)) _ (by rw [str_size, HK.out]; omega) (by rw [str_size, HXL.out]; omega)).mono ?_
               rintro e w8 ⟨rfl, k8⟩
               rw [sl_str, sl_str]
               have KK : Kp nob w w8 := ka.trans k8 (fun _ e => e.elim)
               have K58 : Kp nob w5 w8 := kb.trans k8 (fun _ e => e.elim)
               have hcv5 := conv_row w8 A n c key HK.out (hr.keep0 KK)
               have hc8 := (hM5.keep K58 (fun e => e)).hash)
            | (go_at_call 15
               obtain ⟨_, _, ka, kb⟩ := ‹_ ∧ _ ∧ Kp nob w _ ∧ Kp nob w5 _›
               refine (Sha.size_any h (ik key ++ (X ++ p.l)) _ (h5.keep kb (fun e => e))).mono ?_
               rintro e w9 ⟨rfl, rfl⟩
               rw [HSZ.out]))
        all_goals
          go_wp2
          exact ⟨⟨k + 1, by omega, by go_num, by rw [HS.out], by rw [HLN.out]; exact hb2, by rw [HS.out]; exact h5.keep K58 (fun e => e), (kp5.trans K58 (fun _ e => e.elim))⟩, by simp [intOf]; omega⟩
      · go_wp2
        go_ret
        exact ⟨rfl, hkp⟩
    · have hz := eq_lit
      go_wp2_with fail
      refine (sum_nil _).mono ?_
      rintro e w5 ⟨rfl, k5⟩
      go_wp2
      go_ret
      exact ⟨rfl, hkp.trans k5 (fun _ e => e.elim)⟩

theorem goes_walk (A : Option Addr) (n c : Nat) (key : List UInt8) (B : Option Addr) (m d : Nat) (ps : List Pc) (w : World) (ht : Tabs w) (hk : key.length = n) (_ : A = none → c = 0) (hr : Row w A (bvs key)) (hc : n ≤ c) (hcm : c ≤ maxLen)
    (hm : ps.length = m) (hrp : Row w B (ps.map Pc.v)) (hmm : m ≤ maxLen) (hp : PcsOk w nob ps) (_ : ∀ p ∈ ps, p.A = none → p.c = 0) (hn : ∀ p ∈ ps, p.n ≤ 140737488355328) :
    Calls Tryd.prog 4 #[.slice A n c, .slice B m d] w fun e w' => e = .returned (.bool true) ∧ Kp nob w w' := by
  by_cases h : 2048 < n ∨ 20 < m
  · exact goes_no A n c B m d w ht (by omega) hmm h
  · exact goes_yes A n c key B m d ps w ht hk hr hc hcm hm hrp hp hn (by omega) (by omega)
end Go.Proofs.YtdfpfiipcieabaaDoor.Hmac
