/- GhashKeeps: what is handed in stays, and isn't kept. -/
import Derived.Test.YtefpdnfogdioeaaGhashL
namespace Go.Proofs.Ytefpdnfogdioeaa.Ghash
set_option linter.unusedVariables false
set_option linter.unusedSimpArgs false
open Go Go.RowKit Kit
open Aes (gb tb tb_length gb_tb tb_gb tb_ext tb_eq blk_byte arr16)
open Field (cb cb_inj)

theorem u8s_info : (Try.prog.info? 5).map (fun i => (i.zero, i.size, i.bytes)) = some (some (.int .u8 0), 1, 1) := by kernel_rfl
theorem info_parts4 {P : Program} {t : TypeId} {z : Value} {s b : Nat} (h : (P.info? t).map (fun i => (i.zero, i.size, i.bytes)) = some (some z, s, b)) : ∃ i, P.info? t = some i ∧ i.zero = some z ∧ i.size = s ∧ i.bytes = b := by
  cases hq : P.info? t with
  | none => rw [hq] at h; cases h
  | some i =>
    rw [hq] at h
    simp only [Option.map_some, Option.some.injEq, Prod.mk.injEq] at h
    exact ⟨i, rfl, h.1, h.2.1, h.2.2⟩
theorem conv_row (w1 : World) (A2 : Option Addr) (n c : Nat) (l : List UInt8) (hn : l.length = n) (hr : Row w1 A2 (bvs l)) : (convert 29 9 (.slice A2 n c)).run Try.prog w1 = .ok (.string (str l)) w1 :=
  run_bytes_str w1 29 9 5 u8s_under (by kernel_rfl) (by kernel_rfl) A2 n c l hn hr
/-- What stands at the end: a sum, and what it was. -/
structure Ke (w : World) (h : List UInt8) (p : Nat) (s : List UInt8) (gx : Nat) (w2 : World) : Prop where
  kp : Kp nob w w2
  v : SumAt w2 p h s
  x : w2.rangeAt gx 0 (bvs s)
theorem Ke.keep {w w2 w3 : World} {h s : List UInt8} {p gx : Nat} (y : Ke w h p s gx w2) (k : Kp nob w2 w3) : Ke w h p s gx w3 := ⟨y.kp.trans k (fun _ e => e.elim), y.v.keep k (fun e => e), range_keep y.x k (fun e => e)⟩

set_option maxHeartbeats 4000000 in
set_option maxRecDepth 100000 in
theorem keeps_short (h : List UInt8) (A : Option Addr) (n c : Nat) (l : List UInt8) (w : World) (hh : h.length = 16) (hl : l.length = n) (hA : A = none → c = 0) (hr : Row w A (bvs l)) (hn : n ≤ 1024) :
    Calls Try.prog 7 #[.agg (bvs h).toArray, .slice A n c] w fun e w' => e = .returned (.bool true) ∧ Kp nob w w' := by
  have HH := Lib.hid hh; have HHL := Lib.hid (len16 hh)
  obtain ⟨X, hX⟩ : ∃ X, X = taken h none16 l := ⟨_, rfl⟩
  have HX := Lib.hid (show X.length = 16 by rw [hX]; exact taken_length _ _ _ rfl)
  have HXB := Lib.hid (len16 HX.out)
  have HXE := Lib.hid hX.symm
  have q1 := fun w => eqB_same X HX.out w
  obtain ⟨i0, hi, hz0, hz1, hz2⟩ := info_parts4 u8s_info
  have HL := Lib.hid hl; have HN := Lib.hid hn; have HR := Lib.hid hr
  have H0 : Hid (Kp nob w (w.alloc (.cells (bvs h).toArray 22)) ∧ Blk (w.alloc (.cells (bvs h).toArray 22)) w.heap.size 22 (bvs h)) := Lib.hid ⟨(Kp.refl nob w).alloc _, Blk.new' rfl rfl⟩
  clear hh hX
  go_enter Try.func7, Try.ntmps7
  go_wp2_with fail
  refine (alive_yes _).mono ?_
  rintro e w1 ⟨rfl, k1⟩
  have s1 : Kp nob w w1 := H0.out.1.trans k1 (fun _ e => e.elim)
  have HB1 : Hid (Blk w1 w.heap.size 22 (bvs h)) := Lib.hid (H0.out.2.keep k1 (fun e => e))
  clear H0 k1
  have ho : Own 5 (w1.alloc (.cells #[] 5)) (some ⟨w1.heap.size, 0, none⟩) 0 0 [] := World.ownsRow_made w1 #[] 0 (Nat.zero_le _) (by simp [maxLen]) rfl
  have hr1 := (hr.keep0 s1).alloc (.cells #[] 5)
  go_wp2_with (at_builtin; refine wpList_appR _ rfl (.tmp 14) (.tmp 15) 29 rfl 5 i0 (.int .u8 0) 1 u8s_under hi hz0 hz1 hz2 rfl _ 0 0 [] rfl ho A n c (bvs l) rfl hA (by simp [hl]) hr1 (bvs_one l) (by omega) (by omega) ?_)
  intro M cM w2 hM hgM habM
  have s2 : Kp nob w w2 := (s1.alloc _).grown hgM (fun k e => .inr (by cases e; exact s1.size))
  have nM : ∀ k, ab M = some k → w.heap.size < k := by
    intro k e
    rcases habM with h | h <;> rw [h] at e <;> cases e
    · exact HB1.out.lt
    · exact Nat.lt_succ_of_lt HB1.out.lt
  have hgB : Blk w2 w.heap.size 22 (bvs h) := by
    have k2 : Kp (fun k => k = w1.heap.size) w1 w2 := ((Kp.refl _ w1).alloc (.cells #[] 5)).grown hgM (fun k e => by cases e; exact .inl rfl)
    exact HB1.out.keep k2 (fun e => by have := HB1.out.lt; omega)
  have HB2 := Lib.hid hgB; have S2 := Lib.hid s2; have NM := Lib.hid nM; have HM2 := Lib.hid hM
  clear ho hr1 hgM habM hgB s2 nM hM HB1 s1
  clear hi hz0 hz1 hz2 hr hn
  have fM := HM2.out.lt
  have HFM := Lib.hid fM; clear fM
  go_wp2_with (refine wpList_load_blk rfl 22 (.tmp 2) rfl _ _ _ HB2.out rfl _ arr16 rfl (by rw [HHL.out]; kernel_rfl) ?_)
  refine (new_any h w2 HH.out).mono ?_
  rintro e w3 ⟨p, rfl, hp, hS, k3⟩
  have HM3 := Lib.hid (HM2.out.keep k3 (fun _ _ e => e))
  have S3 := Lib.hid (S2.out.trans k3 (fun _ e => e.elim))
  have HP := Lib.hid (show w.heap.size < p from Nat.lt_of_lt_of_le HB2.out.lt hp)
  have FB : Hid (∀ k, ab M = some k → k ≠ p) := Lib.hid (fun k e => by have := HFM.out k e; omega)
  have HCM := Lib.hid HM2.out.cap
  have HV3 := Lib.hid hS
  clear hp hS k3 HM2 S2 HB2
  go_wp2_with fail
  refine (write_any p h none16 l M n cM w3 HH.out none_length HV3.out HL.out (by have := HCM.out.1; omega) (by have := HN.out; omega) HM3.out.row (.inr FB.out)).mono ?_
  rintro e w4 ⟨rfl, hS, k4⟩
  rw [HXE.out] at hS
  have HV4 := Lib.hid hS
  have S4 := Lib.hid (S3.out.since k4 (fun k e => by have := HP.out; unfold oneB at e; omega))
  have HM4 := Lib.hid (HM3.out.keep k4 (fun k e e' => FB.out k e e'))
  clear hS k4 HM3 S3 HV3
  go_wp2_with fail
  refine (value_any p h X w4 HX.out HV4.out).mono ?_
  rintro e w5 ⟨rfl, k5⟩
  have HV5 := Lib.hid (HV4.out.keep k5 (fun e => e))
  have S5 := Lib.hid (S4.out.trans k5 (fun _ e => e.elim))
  have HM5 := Lib.hid (HM4.out.keep k5 (fun k e e' => e'))
  clear k5 HM4 S4 HV4
  have HSZ : Hid (∀ k, ab M = some k → k < w5.heap.size) := Lib.hid HM5.out.lt
  go_wp2_with (refine wpList_store_new rfl 24 (.tmp 7) (.tmp 23) rfl _ (bvs X) rfl rfl (by rw [HXB.out]; rfl) (by rw [HXB.out]; kernel_rfl) (bvs_one _) ?_
               intro w6 hB6 k6 z6
               obtain ⟨gx, hgx⟩ : ∃ g, g = w5.heap.size := ⟨_, rfl⟩
               rw [← hgx] at hB6 ⊢
               have FX : Hid (∀ k, ab M = some k → k ≠ gx) := Lib.hid (fun k e => by have := HSZ.out k e; omega)
               have HX6 := Lib.hid hB6
               have HV6 := Lib.hid (HV5.out.keep k6 (fun e => e))
               have S6 := Lib.hid (S5.out.trans k6 (fun _ e => e.elim))
               have HM6 := Lib.hid (HM5.out.keep k6 (fun k e e' => e'))
               have c1 := conv_row w6 M n cM l HL.out HM6.out.row
               have c2 := conv_row w6 A n c l HL.out (HR.out.keep0 S6.out)
               clear hgx hB6 k6 z6 HV5 S5 HM5)
  clear c1 c2
  go_loopw [31] (fun i wr => ∃ (k : Nat) (lm : List UInt8), k ≤ n ∧ i = .int .i64 k ∧ Own 5 wr M n cM (bvs lm) ∧ Kp (rowF M) w6 wr)
    (fun i _ => n - (intOf i).toNat)
  case atStart => exact ⟨0, l, Nat.zero_le _, rfl, HM6.out, Kp.refl _ _⟩
  case round =>
    obtain ⟨k, lm, hk, rfl, oM, kr⟩ := hrel
    by_cases hlt : k < n
    · obtain ⟨bm, rfl, hbm, hcm, hfm, hsm⟩ := oM.at_ hlt
      have hml : lm.length = n := by simpa using oM.len
      obtain ⟨xm, hxm⟩ : ∃ x, x = lm[k]'(by omega) := ⟨_, rfl⟩
      have hcm' : wr.cell? ⟨bm, k, none⟩ = some (.int .u8 xm.toNat) := by rw [hcm, hxm]; simp [bvs, bv]
      have hb1 := xm.toNat_lt
      clear hcm hxm
      go_wp2
      go_roundw
      case rel =>
        refine ⟨k + 1, lm.set k (UInt8.ofNat (xm.toNat + 1)), by omega, by go_num, ?_, ?_⟩
        · rw [← bvs_set]
          exact oM.set k _
        · exact kr.setCell (p := ⟨bm, k, none⟩) (.inl rfl) _
      case measure => simp [intOf]; omega
    · have H7 : Hid (Ke w h p X gx wr) := Lib.hid ⟨S6.out.since kr (fun k e => Nat.le_of_lt (NM.out k e)), HV6.out.keep kr (fun e => FB.out _ e rfl), range_keep HX6.out.range kr (fun e => FX.out _ e rfl)⟩
      clear oM kr HM6 hk
      go_wp2
      refine reg_start (fun w' => Ke w h p X gx w') (by kernel_rfl) (H7.out.keep (Kp.refl nob _).drew) (fun w5 hS => ?_)
      have HS0 := Lib.hid hS
      clear hS H7
      refine reg_take (v := .pointer (some ⟨p, 0, none⟩)) 0 (some 41) rfl rfl (by kernel_rfl) (by kernel_rfl) (by kernel_rfl) (by rfl) HS0.out (fun w hw => by go_simp) ?_
      simp only [Act.put, List.setIfInBounds_toArray, List.set_cons_zero, List.set_cons_succ]
      refine reg_load 2 (some 43) 24 (.tmp 7) rfl rfl rfl (by kernel_rfl) (by kernel_rfl) (by kernel_rfl) (by rfl) HS0.out (gx) 0 rfl (bvs X) _ (fun _ x => x.x) arrB rfl (by rw [HXB.out]; kernel_rfl) ?_
      simp only [Act.put, List.setIfInBounds_toArray, List.set_cons_zero, List.set_cons_succ]
      refine reg_call 1 (some 42) rfl rfl (by kernel_rfl) (by rfl) _ _ (exec_func 15 _ _ [.pointer (some ⟨p, 0, none⟩)] rfl (by kernel_rfl) rfl) ?_
      refine (value_any p h X _ HX.out HS0.out.v).mono ?_
      rintro e w20 ⟨rfl, k20⟩
      have HS1 := Lib.hid (HS0.out.keep k20)
      clear HS0 k20
      refine ⟨_, rfl, HS1.out, fun _ => ?_⟩
      simp only [Act.put, List.setIfInBounds_toArray, List.set_cons_zero, List.set_cons_succ]
      refine reg_take (v := .bool true) 3 (some 44) rfl rfl (by kernel_rfl) (by kernel_rfl) (by kernel_rfl) (by rfl) HS1.out (fun w hw => by go_simp) ?_
      simp only [Act.put, List.setIfInBounds_toArray, List.set_cons_zero, List.set_cons_succ]
      refine reg_take (v := .bool true) 4 (some 4) rfl rfl (by kernel_rfl) (by kernel_rfl) (by kernel_rfl) (by rfl) HS1.out (fun w hw => by go_simp) ?_
      simp only [Act.put, List.setIfInBounds_toArray, List.set_cons_zero, List.set_cons_succ]
      refine reg_end (by kernel_rfl) ?_
      go_wp2
      go_ret
      exact ⟨rfl, HS1.out.kp⟩
theorem keeps_walk (h : List UInt8) (A : Option Addr) (n c : Nat) (l : List UInt8) (w : World) (hh : h.length = 16) (hl : l.length = n) (hA : A = none → c = 0) (hr : Row w A (bvs l)) (hc : n ≤ c) (hm : c ≤ maxLen) :
    Calls Try.prog 7 #[.agg (bvs h).toArray, .slice A n c] w fun e w' => e = .returned (.bool true) ∧ Kp nob w w' := by
  by_cases hn : n ≤ 1024
  · exact keeps_short h A n c l w hh hl hA hr hn
  · have H0 : Hid (Kp nob w (w.alloc (.cells (bvs h).toArray 22))) := Lib.hid ((Kp.refl nob w).alloc _)
    clear hh hl hr hc hm hA
    go_enter Try.func7, Try.ntmps7
    go_wp2_with fail
    refine (alive_yes _).mono ?_
    rintro e w1 ⟨rfl, k1⟩
    have H1 := Lib.hid (H0.out.trans k1 (fun _ e => e.elim))
    clear H0 k1
    have h2 : 1024 < n := by omega
    go_wp2
    go_ret
    exact ⟨rfl, H1.out⟩
end Go.Proofs.Ytefpdnfogdioeaa.Ghash
