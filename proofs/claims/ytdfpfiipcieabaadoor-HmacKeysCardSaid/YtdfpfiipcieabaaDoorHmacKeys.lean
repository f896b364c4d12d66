/- HmacKeys: a key that is filled up with noughts leads to the same; one that is too long to what its digest leads to. -/
import Derived.Test.YtdfpfiipcieabaaDoorHmacL
import Derived.Test.YtdfpfiipcieabaaDoorApp
namespace Go.Proofs.YtdfpfiipcieabaaDoor.Hmac
open Go Go.RowKit Kit
open Sha (Tabs Far Has Pc PcsOk catP u8s_under arr32b u8s_info own_new own_one own_none u8_string row_marked eq32 conv_row slice_to)

theorem rowF_eq {g o k : Nat} (e : rowF (some ⟨g, o, none⟩) k) : g = k := by simpa [rowF, ab] using e
theorem int_under : Tryd.prog.underlying 3 = some (.int .i64) := by kernel_rfl
set_option maxHeartbeats 1000000 in
theorem keys_no (A : Option Addr) (n c : Nat) (i : Int) (B : Option Addr) (m d : Nat) (w : World) (ht : Tabs w) (hn : n ≤ maxLen) (hm : m ≤ maxLen) (h : 2048 < n ∨ 2048 < m ∨ i < 0 ∨ 64 < i) :
    Calls Tryd.prog 5 #[.slice A n c, .int .i64 i, .slice B m d] w fun e w' => e = .returned (.bool true) ∧ Kp nob w w' := by
  unfold maxLen at hm hn
  by_cases h1 : 2048 < n
  · have d1 : decide ((2048 : Int) < (n : Int)) = true := by simp; omega
    go_enter Tryd.func5, Tryd.ntmps5
    go_wp2_with fail
    refine (alive_yes _ ht).mono ?_
    rintro e w1 ⟨rfl, k1⟩
    go_wp2
    go_ret
    exact ⟨rfl, k1⟩
  · have d1 : decide ((2048 : Int) < (n : Int)) = false := by simp; omega
    by_cases h2 : 2048 < m
    · have d2 : decide ((2048 : Int) < (m : Int)) = true := by simp; omega
      go_enter Tryd.func5, Tryd.ntmps5
      go_wp2_with fail
      refine (alive_yes _ ht).mono ?_
      rintro e w1 ⟨rfl, k1⟩
      go_wp2
      go_ret
      exact ⟨rfl, k1⟩
    · have d2 : decide ((2048 : Int) < (m : Int)) = false := by simp; omega
      by_cases h3 : i < 0
      · have d3 : decide (i < 0) = true := by simp; omega
        go_enter Tryd.func5, Tryd.ntmps5
        go_wp2_with fail
        refine (alive_yes _ ht).mono ?_
        rintro e w1 ⟨rfl, k1⟩
        go_wp2
        go_ret
        exact ⟨rfl, k1⟩
      · have d3 : decide (i < 0) = false := by simp; omega
        have d4 : decide (64 < i) = true := by simp; omega
        go_enter Tryd.func5, Tryd.ntmps5
        go_wp2_with fail
        refine (alive_yes _ ht).mono ?_
        rintro e w1 ⟨rfl, k1⟩
        go_wp2
        go_ret
        exact ⟨rfl, k1⟩

set_option maxHeartbeats 2000000 in
theorem keys_yes (A : Option Addr) (n c : Nat) (key : List UInt8) (z : Nat) (B : Option Addr) (m d : Nat) (bl : List UInt8) (w : World) (ht : Tabs w) (hk : key.length = n) (hA : A = none → c = 0) (hr : Row w A (bvs key)) (hc : n ≤ c) (hcm : c ≤ maxLen)
    (hb : bl.length = m) (hrb : Row w B (bvs bl)) (hd : m ≤ d) (hdm : d ≤ maxLen) (hn : n ≤ 2048) (hm : m ≤ 2048) (hz : z ≤ 64) :
    Calls Tryd.prog 5 #[.slice A n c, .int .i64 (z : Int), .slice B m d] w fun e w' => e = .returned (.bool true) ∧ Kp nob w w' := by
  obtain ⟨i0, hi, hz0, hz1, hz2⟩ := info_parts u8s_info
  have d1 : decide ((2048 : Int) < (n : Int)) = false := by simp; omega
  have d2 : decide ((2048 : Int) < (m : Int)) = false := by simp; omega
  have d3 : decide ((z : Int) < 0) = false := by simp
  have d4 : decide ((64 : Int) < (z : Int)) = false := by simp; omega
  have HK := Lib.hid hk; have HB := Lib.hid hb; have HCM := Lib.hid hcm; have HDM := Lib.hid hdm
  have HKL : Hid ((bvs key).length = n) := Lib.hid (by rw [bvs_length, hk])
  have hq := eq_same key bl
  have HQ := Lib.hid hq
  have HML := Lib.hid (mac_length key bl)
  have HMO := Lib.hid (fun h => mac_more key bl z h)
  clear hk hb hcm hdm hq
  go_enter Tryd.func5, Tryd.ntmps5
  go_wp2_with fail
  refine (alive_yes _ ht).mono ?_
  rintro e w1 ⟨rfl, k1⟩
  go_wp2_with fail
  refine (of_pcs1 A n c key ⟨B, m, d, bl⟩ w1 _ _ rfl (ht.keep0 k1) HK.out (hr.keep0 k1) hc HCM.out (by omega) (Sha.pcs_one HB.out (hrb.keep0 k1) (.inr (fun _ _ e => e)) hd HDM.out) (by show bl.length ≤ _; rw [HB.out]; omega)).mono ?_
  rintro e w2 ⟨rfl, k2⟩
  rw [show mac key (Pc.l ⟨B, m, d, bl⟩) = mac key bl from rfl]
  obtain ⟨D, hD⟩ : ∃ D, D = mac key bl := ⟨_, rfl⟩
  rw [← hD] at HML HQ HMO ⊢
  have HD := Lib.hid hD; clear hD
  have K2 := k1.trans k2 (fun _ e => e.elim)
  go_wp2_with (refine wpList_store_new rfl 25 (.tmp 7) (.tmp 29) rfl _ (bvs D) rfl rfl (by rw [bvs_length, HML.out]; rfl) (by rw [bvs_length, HML.out]; kernel_rfl) (bvs_one _) ?_
               intro w3 hB3 k3 z3
               have K3 : Kp nob w w3 := K2.trans k3 (fun _ e => e.elim)
               have HB3 := Lib.hid hB3
               have hR3 : w3.rangeAt w2.heap.size 0 (bvs D) := hB3.range
               clear k3 z3 hB3 K2 k1 k2)
  have h32 := arr32b
  have hsz : (Tryd.prog.info? 25).map (·.size) = some (bvs D).length := by rw [bvs_length, HML.out]; kernel_rfl
  have kd3 : Kp nob w w3.drew := K3.drew
  by_cases hle : n + z ≤ 64
  · have d5 : decide ((n : Int) ≤ 64 - (z : Int)) = true := by simp; omega
    have d6 : IntKind.i64.wrap (64 - (z : Int)) = 64 - (z : Int) := IntWalk.i64_in _ (by omega)
    have hq := HQ.out
    have EO : Own 5 (w3.alloc (.cells #[] 5)) (some ⟨w3.heap.size, 0, none⟩) 0 0 [] := World.ownsRow_made w3 #[] 0 (Nat.zero_le _) (by simp [maxLen]) rfl
    have hE1 : Own 5 (w3.alloc (.cells #[] 5)).drew (some ⟨w3.heap.size, 0, none⟩) 0 0 [] := EO.keep (Kp.refl nob _).drew (fun _ _ e => e)
    have hE2 : Own 5 ((w3.alloc (.cells #[] 5)).alloc (.cells #[.slice B m d] 22)).drew (some ⟨w3.heap.size, 0, none⟩) 0 0 [] := (EO.alloc _).keep (Kp.refl nob _).drew (fun _ _ e => e)
    have hE3 : Own 5 ((w3.alloc (.cells #[.slice B m d] 22)).alloc (.cells #[] 5)).drew (some ⟨w3.heap.size + 1, 0, none⟩) 0 0 [] := by
      have : Own 5 ((w3.alloc (.cells #[.slice B m d] 22)).alloc (.cells #[] 5)) (some ⟨(w3.alloc (.cells #[.slice B m d] 22)).heap.size, 0, none⟩) 0 0 [] := World.ownsRow_made _ #[] 0 (Nat.zero_le _) (by simp [maxLen]) rfl
      rw [show (w3.alloc (.cells #[.slice B m d] 22)).heap.size = w3.heap.size + 1 by simp] at this
      exact this.keep (Kp.refl nob _).drew (fun _ _ e => e)
    have rP2 : Row ((w3.alloc (.cells #[] 5)).alloc (.cells #[.slice B m d] 22)).drew (some ⟨w3.heap.size + 1, 0, none⟩) [.slice B m d] := by
      have := row_one (w3.alloc (.cells #[] 5)) (.slice B m d) 22
      rw [show (w3.alloc (.cells #[] 5)).heap.size = w3.heap.size + 1 by simp] at this
      exact this.keep0 (Kp.refl nob _).drew
    have rP3 : Row ((w3.alloc (.cells #[.slice B m d] 22)).alloc (.cells #[] 5)).drew (some ⟨w3.heap.size, 0, none⟩) [.slice B m d] := ((row_one w3 (.slice B m d) 22).alloc _).keep0 (Kp.refl nob _).drew
    have s3 := K3.size
    have lt2 := HB3.out.lt
    go_region_held3 (fun w' => w'.rangeAt w2.heap.size 0 (bvs D) ∧ Kp nob w w')
      ((refine ⟨?_, ?_⟩ <;> first | assumption | exact Kp.alloc_drew (And.right ‹_ ∧ Kp nob w _›) _ | exact range_alloc_drew (And.left ‹_ ∧ Kp nob w _›) _ | exact Kp.alloc (And.right ‹_ ∧ Kp nob w _›) _ | exact range_alloc (And.left ‹_ ∧ Kp nob w _›) _))
      (first
        | (obtain ⟨ra, ka⟩ := ‹_ ∧ Kp nob w _›
           refine step_appR (by rfl) (.tmp 36) (.tmp 37) 22 rfl 5 i0 (.int .u8 0) 1 u8s_under hi hz0 hz1 hz2 rfl _ 0 0 [] rfl hE1 A n c (bvs key) rfl hA HKL.out (hr.keep0 ka) (bvs_one key) (by omega) (by omega) ?_
           intro X cX w5 hX hgX habX
           rw [Nat.zero_add, List.nil_append] at hX
           rw [Nat.zero_add]
           have kx := (Kp.refl (rowF _) _).grown hgX (fun k e => .inl e)
           have K5 : Kp nob w w5 := Kp.grown ka hgX (fun k e => .inr (by have := rowF_eq e; omega))
           have R5 : w5.rangeAt w2.heap.size 0 (bvs D) := range_keep ra kx (fun e => by have := rowF_eq e; omega)
           have HX := Lib.hid hX
           have gX : ∀ k, ab X = some k → w3.heap.size ≤ k := fun k e => by
             rcases habX with h | h <;> rw [h] at e
             · have := rowF_eq e; omega
             · cases e; simp <;> omega
           have ltX := hX.lt
           have sX := kx.size
           clear kx hX hgX habX)
        | (obtain ⟨ra, ka⟩ := ‹_ ∧ Kp nob w _›
           refine step_appR (by rfl) (.tmp 36) (.tmp 37) 22 rfl 5 i0 (.int .u8 0) 1 u8s_under hi hz0 hz1 hz2 rfl _ 0 0 [] rfl hE2 A n c (bvs key) rfl hA HKL.out (hr.keep0 ka) (bvs_one key) (by omega) (by omega) ?_
           intro X cX w5 hX hgX habX
           rw [Nat.zero_add, List.nil_append] at hX
           rw [Nat.zero_add]
           have kx := (Kp.refl (rowF _) _).grown hgX (fun k e => .inl e)
           have K5 : Kp nob w w5 := Kp.grown ka hgX (fun k e => .inr (by have := rowF_eq e; omega))
           have R5 : w5.rangeAt w2.heap.size 0 (bvs D) := range_keep ra kx (fun e => by have := rowF_eq e; omega)
           have HX := Lib.hid hX
           have gX : ∀ k, ab X = some k → w3.heap.size ≤ k := fun k e => by
             rcases habX with h | h <;> rw [h] at e
             · have := rowF_eq e; omega
             · cases e; simp <;> omega
           have ltX := hX.lt
           have sX := kx.size
           have RP := rP2.keep kx (fun k e e' => by have h1 := rowF_eq e; have h2 := rowF_eq e'; omega)
           have nX : ∀ k, ab X = some k → k ≠ w3.heap.size + 1 := fun k e => by
             rcases habX with h | h <;> rw [h] at e
             · have := rowF_eq e; omega
             · cases e; simp <;> omega
           clear kx hX hgX habX)
        | (obtain ⟨ra, ka⟩ := ‹_ ∧ Kp nob w _›
           refine step_appR (by rfl) (.tmp 36) (.tmp 37) 22 rfl 5 i0 (.int .u8 0) 1 u8s_under hi hz0 hz1 hz2 rfl _ 0 0 [] rfl hE3 A n c (bvs key) rfl hA HKL.out (hr.keep0 ka) (bvs_one key) (by omega) (by omega) ?_
           intro X cX w5 hX hgX habX
           rw [Nat.zero_add, List.nil_append] at hX
           rw [Nat.zero_add]
           have kx := (Kp.refl (rowF _) _).grown hgX (fun k e => .inl e)
           have K5 : Kp nob w w5 := Kp.grown ka hgX (fun k e => .inr (by have := rowF_eq e; omega))
           have R5 : w5.rangeAt w2.heap.size 0 (bvs D) := range_keep ra kx (fun e => by have := rowF_eq e; omega)
           have HX := Lib.hid hX
           have gX : ∀ k, ab X = some k → w3.heap.size ≤ k := fun k e => by
             rcases habX with h | h <;> rw [h] at e
             · have := rowF_eq e; omega
             · cases e; simp <;> omega
           have ltX := hX.lt
           have sX := kx.size
           have RP := rP3.keep kx (fun k e e' => by have h1 := rowF_eq e; have h2 := rowF_eq e'; omega)
           have nX : ∀ k, ab X = some k → k ≠ w3.heap.size := fun k e => by
             rcases habX with h | h <;> rw [h] at e
             · have := rowF_eq e; omega
             · cases e; simp <;> omega
           clear kx hX hgX habX)
        | (obtain ⟨ra, ka⟩ := ‹_ ∧ Kp nob w _›
           refine step_appZero (by rfl) (.tmp 38) (.tmp 39) 22 3 rfl 5 i0 .i64 .i64 u8s_under int_under hi hz0 hz1 hz2 X n cX (bvs key) rfl HX.out z rfl (by omega) ?_
           intro X2 c2 w6 hX2 hg2 hab2
           rw [← bvs_append] at hX2
           have kx := (Kp.refl (rowF _) _).grown hg2 (fun k e => .inl e)
           have K6 : Kp nob w w6 := Kp.grown ka hg2 (fun k e => .inr (by have := gX k e; omega))
           have R6 : w6.rangeAt w2.heap.size 0 (bvs D) := range_keep ra kx (fun e => by have := gX _ e; omega)
           have HX2 := Lib.hid hX2
           have cp2 := hX2.cap
           (try (have RP := RP.keep kx (fun k e e' => nX k e' (by cases e; rfl))))
           clear kx hX2 hg2 hab2)
        | (obtain ⟨ra, ka⟩ := ‹_ ∧ Kp nob w _›
           refine step_appZero (by rfl) (.tmp 38) (.tmp 39) 22 3 rfl 5 i0 .i64 .i64 u8s_under int_under hi hz0 hz1 hz2 X n cX (bvs key) rfl (HX.out.alloc _) z rfl (by omega) ?_
           intro X2 c2 w6 hX2 hg2 hab2
           rw [← bvs_append] at hX2
           have kx := (Kp.refl (rowF _) _).grown hg2 (fun k e => .inl e)
           have K6 : Kp nob w w6 := Kp.grown ka hg2 (fun k e => .inr (by have := gX k e; omega))
           have R6 : w6.rangeAt w2.heap.size 0 (bvs D) := range_keep ra kx (fun e => by have := gX _ e; omega)
           have HX2 := Lib.hid hX2
           have cp2 := hX2.cap
           have RP := (row_one w5 (.slice B m d) 22).keep kx (fun k e e' => by have h1 := rowF_eq e; have := ltX _ e'; omega)
           clear kx hX2 hg2 hab2)
        | (go_at_call_of 10 (Value.slice (some ⟨w6.heap.size, 0, none⟩) 1 1)
           obtain ⟨ra, ka⟩ := ‹_ ∧ Kp nob w _›
           refine (of_pcs1 X2 (n + z) c2 (key ++ List.replicate z 0) ⟨B, m, d, bl⟩ w6 _ _ rfl (ht.keep0 K6) (by rw [List.length_append, HK.out, List.length_replicate]) HX2.out.row cp2.1 cp2.2 (by omega) (Sha.pcs_one HB.out (hrb.keep0 K6) (.inr (fun _ _ e => e)) hd HDM.out) (by show bl.length ≤ _; rw [HB.out]; omega)).mono ?_
           rintro e w7 ⟨rfl, k7⟩
           rw [show mac (key ++ List.replicate z 0) (Pc.l ⟨B, m, d, bl⟩) = D from HMO.out (by rw [HK.out]; exact hle)]
           have K9 : Kp nob w w7 := K6.trans k7 (fun _ e => e.elim)
           have R9 := range_keep R6 k7 (fun e => e))
        | (go_at_call 10
           obtain ⟨ra, ka⟩ := ‹_ ∧ Kp nob w _›
           refine (of_any X2 (n + z) c2 (key ++ List.replicate z 0) _ 1 1 [⟨B, m, d, bl⟩] w6 (ht.keep0 K6) (by rw [List.length_append, HK.out, List.length_replicate]) HX2.out.row cp2.1 cp2.2 (by omega) rfl RP (Sha.pcs_one HB.out (hrb.keep0 K6) (.inr (fun _ _ e => e)) hd HDM.out) (by omega) (by simp [catP, HB.out]; omega)).mono ?_
           rintro e w7 ⟨rfl, k7⟩
           rw [show mac (key ++ List.replicate z 0) (catP [⟨B, m, d, bl⟩]) = D by rw [show catP [⟨B, m, d, bl⟩] = bl by simp [catP]]; exact HMO.out (by rw [HK.out]; exact hle)]
           have K9 : Kp nob w w7 := K6.trans k7 (fun _ e => e.elim)
           have R9 := range_keep R6 k7 (fun e => e)))
    all_goals
      go_wp2
      have q1 := conv_row w7.drew A n c key HK.out (hr.keep0 K9.drew)
      have q2 := conv_row w7.drew B m d bl HB.out (hrb.keep0 K9.drew)
      have kd9 : Kp nob w w7.drew := K9.drew
      have hR9 := R9
      go_region_held3 (fun w' => w'.rangeAt w2.heap.size 0 (bvs D) ∧ (convert 22 9 (.slice A n c)).run Tryd.prog w' = .ok (.string (str key)) w' ∧ (convert 22 9 (.slice B m d)).run Tryd.prog w' = .ok (.string (str bl)) w' ∧ Kp nob w w')
        ((refine ⟨?_, ?_, ?_, ?_⟩ <;> first | assumption))
        ((go_at_call 11
          obtain ⟨ra, _, _, ka⟩ := ‹_ ∧ _ ∧ _ ∧ Kp nob w _›
          refine (fMac (str key) (str bl) _ (by rw [str_size, HK.out]; omega) (by rw [str_size, HB.out]; omega)).mono ?_
          rintro e wA ⟨rfl, kA⟩
          rw [sl_str, sl_str, ← HD.out]
          have KA : Kp nob w wA := ka.trans kA (fun _ e => e.elim)
          have RA := range_keep ra kA (fun e => e)
          have q3 := conv_row wA A n c key HK.out (hr.keep0 KA)
          have q4 := conv_row wA B m d bl HB.out (hrb.keep0 KA)))
      all_goals
        go_wp2
        go_ret
        exact ⟨rfl, KA⟩
  · have d5 : decide ((n : Int) ≤ 64 - (z : Int)) = false := by simp; omega
    have d6 : IntKind.i64.wrap (64 - (z : Int)) = 64 - (z : Int) := IntWalk.i64_in _ (by omega)
    have hq := HQ.out
    refine wp_region_any (by kernel_rfl) ?_
    change wpAny _ _ _ _ _ _ _ (World.drew _)
    refine wpAny_takeD (v := ?v0) 0 (some 30) rfl rfl (by kernel_rfl) (by kernel_rfl) (by kernel_rfl) (fun _ _ _ h => h) (by rfl) ?h0 ?r0
    case h0 => intro w; go_simp; try with_reducible rfl
    simp only [Act.put, List.setIfInBounds_toArray, List.set_cons_zero, List.set_cons_succ]
    refine wpAny_takeD (v := ?v1) 1 (some 31) rfl rfl (by kernel_rfl) (by kernel_rfl) (by kernel_rfl) (fun _ _ _ h => h) (by rfl) ?h1 ?r1
    case h1 => intro w; go_simp; try with_reducible rfl
    simp only [Act.put, List.setIfInBounds_toArray, List.set_cons_zero, List.set_cons_succ]
    refine wpAny_takeD (v := ?v2) 2 (some 32) rfl rfl (by kernel_rfl) (by kernel_rfl) (by kernel_rfl) (fun _ _ _ h => h) (by rfl) ?h2 ?r2
    case h2 => intro w; go_simp; try with_reducible rfl
    simp only [Act.put, List.setIfInBounds_toArray, List.set_cons_zero, List.set_cons_succ]
    refine wpAny_takeD (v := ?v3) 3 (some 33) rfl rfl (by kernel_rfl) (by kernel_rfl) (by kernel_rfl) (fun _ _ _ h => h) (by rfl) ?h3 ?r3
    case h3 => intro w; go_simp; try with_reducible rfl
    simp only [Act.put, List.setIfInBounds_toArray, List.set_cons_zero, List.set_cons_succ]
    refine wpAny_takeD (v := ?v4) 4 (some 34) rfl rfl (by kernel_rfl) (by kernel_rfl) (by kernel_rfl) (fun _ _ _ h => h) (by rfl) ?h4 ?r4
    case h4 => intro w; go_simp; try with_reducible rfl
    simp only [Act.put, List.setIfInBounds_toArray, List.set_cons_zero, List.set_cons_succ]
    refine wpAny_takeD (v := ?v5) 5 (some 35) rfl rfl (by kernel_rfl) (by kernel_rfl) (by kernel_rfl) (fun _ _ _ h => h) (by rfl) ?h5 ?r5
    case h5 => intro w; go_simp; try with_reducible rfl
    simp only [Act.put, List.setIfInBounds_toArray, List.set_cons_zero, List.set_cons_succ]
    refine wpAny_skip 6 (some 36) rfl rfl (by kernel_rfl) (by kernel_rfl) (by kernel_rfl) (fun _ _ _ h => h) (by rfl) ?_
    simp only [Act.put, List.setIfInBounds_toArray, List.set_cons_zero, List.set_cons_succ]
    refine wpAny_skip 7 (some 37) rfl rfl (by kernel_rfl) (by kernel_rfl) (by kernel_rfl) (fun _ _ _ h => h) (by rfl) ?_
    simp only [Act.put, List.setIfInBounds_toArray, List.set_cons_zero, List.set_cons_succ]
    refine wpAny_skip 8 (some 38) rfl rfl (by kernel_rfl) (by kernel_rfl) (by kernel_rfl) (fun _ _ _ h => h) (by rfl) ?_
    simp only [Act.put, List.setIfInBounds_toArray, List.set_cons_zero, List.set_cons_succ]
    refine wpAny_skip 9 (some 39) rfl rfl (by kernel_rfl) (by kernel_rfl) (by kernel_rfl) (fun _ _ _ h => h) (by rfl) ?_
    simp only [Act.put, List.setIfInBounds_toArray, List.set_cons_zero, List.set_cons_succ]
    refine wpAny_skip 10 (some 40) rfl rfl (by kernel_rfl) (by kernel_rfl) (by kernel_rfl) (fun _ _ _ h => h) (by rfl) ?_
    simp only [Act.put, List.setIfInBounds_toArray, List.set_cons_zero, List.set_cons_succ]
    refine wpAny_skip 11 (some 41) rfl rfl (by kernel_rfl) (by kernel_rfl) (by kernel_rfl) (fun _ _ _ h => h) (by rfl) ?_
    simp only [Act.put, List.setIfInBounds_toArray, List.set_cons_zero, List.set_cons_succ]
    refine wpAny_skip 12 (some 42) rfl rfl (by kernel_rfl) (by kernel_rfl) (by kernel_rfl) (fun _ _ _ h => h) (by rfl) ?_
    simp only [Act.put, List.setIfInBounds_toArray, List.set_cons_zero, List.set_cons_succ]
    refine wpAny_skip 13 (some 43) rfl rfl (by kernel_rfl) (by kernel_rfl) (by kernel_rfl) (fun _ _ _ h => h) (by rfl) ?_
    simp only [Act.put, List.setIfInBounds_toArray, List.set_cons_zero, List.set_cons_succ]
    refine wpAny_skip 14 (some 44) rfl rfl (by kernel_rfl) (by kernel_rfl) (by kernel_rfl) (fun _ _ _ h => h) (by rfl) ?_
    simp only [Act.put, List.setIfInBounds_toArray, List.set_cons_zero, List.set_cons_succ]
    refine wpAny_skip 15 (some 45) rfl rfl (by kernel_rfl) (by kernel_rfl) (by kernel_rfl) (fun _ _ _ h => h) (by rfl) ?_
    simp only [Act.put, List.setIfInBounds_toArray, List.set_cons_zero, List.set_cons_succ]
    refine wpAny_takeD (v := ?v16) 16 (some 46) rfl rfl (by kernel_rfl) (by kernel_rfl) (by kernel_rfl) (fun _ _ _ h => h) (by rfl) ?h16 ?r16
    case h16 => intro w; go_simp; try with_reducible rfl
    simp only [Act.put, List.setIfInBounds_toArray, List.set_cons_zero, List.set_cons_succ]
    refine wpAny_done (by kernel_rfl) ?_ _
    have K9 : Kp nob w w3.drew := kd3
    have R9 : w3.drew.rangeAt w2.heap.size 0 (bvs D) := hR3
    generalize w3.drew = w9 at *
    go_wp2
    have q1 := conv_row w9.drew A n c key HK.out (hr.keep0 K9.drew)
    have q2 := conv_row w9.drew B m d bl HB.out (hrb.keep0 K9.drew)
    have kd9 : Kp nob w w9.drew := K9.drew
    have hR9 := R9
    go_region_held3 (fun w' => w'.rangeAt w2.heap.size 0 (bvs D) ∧ (convert 22 9 (.slice A n c)).run Tryd.prog w' = .ok (.string (str key)) w' ∧ (convert 22 9 (.slice B m d)).run Tryd.prog w' = .ok (.string (str bl)) w' ∧ Kp nob w w')
      ((refine ⟨?_, ?_, ?_, ?_⟩ <;> first | assumption))
      ((go_at_call 11
        obtain ⟨ra, _, _, ka⟩ := ‹_ ∧ _ ∧ _ ∧ Kp nob w _›
        refine (fMac (str key) (str bl) _ (by rw [str_size, HK.out]; omega) (by rw [str_size, HB.out]; omega)).mono ?_
        rintro e wA ⟨rfl, kA⟩
        rw [sl_str, sl_str, ← HD.out]
        have KA : Kp nob w wA := ka.trans kA (fun _ e => e.elim)
        have RA := range_keep ra kA (fun e => e)
        have q3 := conv_row wA A n c key HK.out (hr.keep0 KA)
        have q4 := conv_row wA B m d bl HB.out (hrb.keep0 KA)))
    all_goals
      go_wp2
      go_ret
      exact ⟨rfl, KA⟩
theorem keys_walk (A : Option Addr) (n c : Nat) (key : List UInt8) (i : Int) (B : Option Addr) (m d : Nat) (bl : List UInt8) (w : World) (ht : Tabs w) (hk : key.length = n) (hA : A = none → c = 0) (hr : Row w A (bvs key)) (hc : n ≤ c) (hcm : c ≤ maxLen) (_ : (Lit.int .i64 i).wf = true)
    (hb : bl.length = m) (_ : B = none → d = 0) (hrb : Row w B (bvs bl)) (hd : m ≤ d) (hdm : d ≤ maxLen) :
    Calls Tryd.prog 5 #[.slice A n c, .int .i64 i, .slice B m d] w fun e w' => e = .returned (.bool true) ∧ Kp nob w w' := by
  by_cases h : 2048 < n ∨ 2048 < m ∨ i < 0 ∨ 64 < i
  · exact keys_no A n c i B m d w ht (by omega) (by omega) h
  · obtain ⟨z, rfl⟩ : ∃ z : Nat, i = z := ⟨i.toNat, by omega⟩
    exact keys_yes A n c key z B m d bl w ht hk hA hr hc hcm hb hrb hd hdm (by omega) (by omega) (by omega)
end Go.Proofs.YtdfpfiipcieabaaDoor.Hmac
