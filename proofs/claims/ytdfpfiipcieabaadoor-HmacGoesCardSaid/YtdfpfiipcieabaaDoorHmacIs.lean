/- HmacIs: Of answers the keyed digest that the document defines, of any key and pieces. -/
import Derived.Test.YtdfpfiipcieabaaDoorHmacL
namespace Go.Proofs.YtdfpfiipcieabaaDoor.Hmac
open Go Go.RowKit Kit
open Sha (Tabs Far Has Pc PcsOk catP catP_snoc catP_le u8s_under arr32b u8s_info own_new own_one own_none u8_string row_marked eq32 conv_row)

@[go_sem] theorem str_cat (l m : List UInt8) : str l ++ str m = str (l ++ m) := by
  apply ByteArray.ext
  simp [str]
set_option maxHeartbeats 2000000 in
theorem is_any (A : Option Addr) (n c : Nat) (key : List UInt8) (B : Option Addr) (m d : Nat) (ps : List Pc) (w : World) (ht : Tabs w) (hk : key.length = n) (hr : Row w A (bvs key)) (hc : n ≤ c) (hcm : c ≤ maxLen)
    (hm : ps.length = m) (hrp : Row w B (ps.map Pc.v)) (hmm : m ≤ maxLen) (hp : PcsOk w nob ps) (hn : ∀ p ∈ ps, p.n ≤ 140737488355328) :
    Calls Tryd.prog 3 #[.slice A n c, .slice B m d] w fun e w' => e = .returned (.bool true) ∧ Kp nob w w' := by
  unfold maxLen at hmm
  have HK := Lib.hid hk; have HCM := Lib.hid hcm
  have hcm2 : c ≤ 9223372036854775807 := hcm
  clear hk hcm
  go_enter Tryd.func3, Tryd.ntmps3
  go_wp2_with fail
  refine (alive_yes _ ht).mono ?_
  rintro e w1 ⟨rfl, k1⟩
  go_wp2
  go_loopw [5, 12] (fun vs vi wr => ∃ k : Nat, k ≤ m ∧ vi = .int .i64 k ∧ vs = .string (str (catP (ps.take k))) ∧ (catP (ps.take k)).length ≤ 4096 ∧ (0 < k → m ≤ 60) ∧ Kp nob w wr)
    (fun _ vi _ => m - (intOf vi).toNat)
  case atStart => exact ⟨0, by omega, rfl, rfl, by simp [catP], fun h => by omega, k1⟩
  case round =>
    obtain ⟨k, hk, rfl, rfl, hle, hm60, hkp⟩ := hrel
    by_cases hlt : k < m
    · obtain ⟨p, hpk⟩ : ∃ p, p = ps[k]'(by omega) := ⟨_, rfl⟩
      obtain ⟨bb, oo, rfl, hbb, hcell⟩ := hrp.at_ (i := k) (by simp [hm]; exact hlt)
      have hce : wr.cell? ⟨bb, oo + k, none⟩ = some (.slice p.A p.n p.c) := by rw [hkp.cell (p := ⟨bb, oo + k, none⟩) hbb (fun e => e), hcell, hpk]; simp [Pc.v]
      obtain ⟨q1, q2, q3, q4, q5⟩ := hp p (by rw [hpk]; exact List.getElem_mem _)
      have qn := hn p (by rw [hpk]; exact List.getElem_mem _)
      have hsn := catP_snoc ps k (by omega)
      rw [← hpk] at hsn
      have hcv := conv_row wr p.A p.n p.c p.l q1 (q2.keep0 hkp)
      have hln : (catP (ps.take (k + 1))).length = (catP (ps.take k)).length + p.n := by rw [hsn, List.length_append, q1]
      obtain ⟨X, hX⟩ : ∃ X, X = catP (ps.take k) := ⟨_, rfl⟩
      rw [← hX] at hle hln hsn ⊢
      have HS := Lib.hid hsn; have HLN := Lib.hid hln
      have HQ := Lib.hid q1
      clear hsn hpk hcell hln q2 hX
      by_cases hb2 : X.length + p.n ≤ 4096
      · by_cases h60 : m ≤ 60
        · have hcat : X.length + p.l.length ≤ 9223372036854775807 := by omega
          by_cases hkk : n ≤ 4096
          · clear q1
            go_wp2
            go_roundw
            case rel => exact ⟨k + 1, by omega, by go_num, by rw [HS.out], by rw [HLN.out]; exact hb2, fun _ => h60, hkp⟩
            case measure => simp [intOf]; omega
          · go_wp2
            go_ret
            exact ⟨rfl, hkp⟩
        · go_wp2
          go_ret
          exact ⟨rfl, hkp⟩
      · go_wp2
        go_ret
        exact ⟨rfl, hkp⟩
    · have hall : ps.take k = ps := List.take_of_length_le (by omega)
      by_cases hkk : n ≤ 4096
      · have h60 : m ≤ 60 := by
          by_cases h0 : 0 < k
          · exact hm60 h0
          · omega
        have hq := eq_same key (catP ps)
        obtain ⟨L, hL⟩ : ∃ L, L = catP ps := ⟨_, rfl⟩
        rw [hall, ← hL] at hle ⊢
        rw [← hL] at hq
        have HL := Lib.hid hL
        have hcv := conv_row wr.drew A n c key HK.out (hr.keep0 hkp.drew)
        have kd : Kp nob w wr.drew := hkp.drew
        have d1 : decide ((4096 : Int) < (n : Int)) = false := by simp; omega
        clear hall hL
        have HM := Lib.hid hm; clear hm
        go_wp2
        go_region_held3 (fun w' => (convert 22 9 (.slice A n c)).run Tryd.prog w' = .ok (.string (str key)) w' ∧ Kp nob w w')
          ((refine ⟨?_, ?_⟩ <;> first | assumption))
          (first
            | (go_at_call 10
               obtain ⟨_, ka⟩ := ‹_ ∧ Kp nob w _›
               refine (of_any A n c key B m d ps _ (ht.keep0 ka) HK.out (hr.keep0 ka) hc HCM.out (by omega) HM.out (hrp.keep0 ka) (hp.keep0 ka) (by omega) (by rw [← HL.out]; omega)).mono ?_
               rintro e w5 ⟨rfl, k5⟩
               rw [← HL.out]
               have KK : Kp nob w w5 := ka.trans k5 (fun _ e => e.elim)
               have hcv5 := conv_row w5 A n c key HK.out (hr.keep0 KK))
            | (go_at_call 11
               obtain ⟨_, ka⟩ := ‹_ ∧ Kp nob w _›
               refine (fMac (str key) (str L) _ (by rw [str_size, HK.out]; omega) (by rw [str_size]; omega)).mono ?_
               rintro e w5 ⟨rfl, k5⟩
               rw [sl_str, sl_str]
               have KK : Kp nob w w5 := ka.trans k5 (fun _ e => e.elim)
               have hcv5 := conv_row w5 A n c key HK.out (hr.keep0 KK)))
        all_goals
          go_wp2
          go_ret
          exact ⟨rfl, KK⟩
      · have d1 : decide ((4096 : Int) < (n : Int)) = true := by simp; omega
        have kd : Kp nob w wr.drew := hkp.drew
        clear hall
        go_wp2
        go_quiet (fail)
        go_wp2
        go_ret
        exact ⟨rfl, hkp.drewN _⟩
theorem is_walk (A : Option Addr) (n c : Nat) (key : List UInt8) (B : Option Addr) (m d : Nat) (ps : List Pc) (w : World) (ht : Tabs w) (hk : key.length = n) (_ : A = none → c = 0) (hr : Row w A (bvs key)) (hc : n ≤ c) (hcm : c ≤ maxLen)
    (hm : ps.length = m) (hrp : Row w B (ps.map Pc.v)) (hmm : m ≤ maxLen) (hp : PcsOk w nob ps) (_ : ∀ p ∈ ps, p.A = none → p.c = 0) (hn : ∀ p ∈ ps, p.n ≤ 140737488355328) :
    Calls Tryd.prog 3 #[.slice A n c, .slice B m d] w fun e w' => e = .returned (.bool true) ∧ Kp nob w w' :=
  is_any A n c key B m d ps w ht hk hr hc hcm hm hrp hmm hp hn
end Go.Proofs.YtdfpfiipcieabaaDoor.Hmac
