/- CodeKeeps: what is handed in stays, and isn't kept; what is answered is new memory. -/
import Derived.Test.YtenihiphcbheeaaCodeA
namespace Go.Proofs.Ytenihiphcbheeaa
open Go Go.RowKit Kit

set_option maxHeartbeats 1000000 in
theorem keeps_long (A : Option Addr) (n c : Nat) (w : World) (hn : 4096 < n) (hm : n ≤ maxLen) :
    Calls Try.prog 7 #[.slice A n c] w fun e w' => e = .returned (.bool true) ∧ Kp nob w w' := by
  unfold maxLen at hm
  go_enter Try.func7, Try.ntmps7
  go_wp2_with (go_at_call 9; refine (alive_yes _).mono ?_; rintro e w1 ⟨rfl, hk⟩)
  go_ret
  exact ⟨rfl, hk⟩

set_option maxHeartbeats 2000000 in
theorem keeps_short (A : Option Addr) (n c : Nat) (l : List UInt8) (w : World) (hl : l.length = n) (hn : n ≤ 4096) (hA : A = none → c = 0) (hr : Row w A (bvs l)) :
    Calls Try.prog 7 #[.slice A n c] w fun e w' => e = .returned (.bool true) ∧ Kp nob w w' := by
  obtain ⟨i0, hi, hz0, hz1, hz2⟩ := info_parts u8_info
  go_enter Try.func7, Try.ntmps7
  go_wp2_with fail
  refine (alive_yes _).mono ?_
  rintro e w1 ⟨rfl, s1⟩
  have ho : Own 5 (w1.alloc (.cells #[] 5)) (some ⟨w1.heap.size, 0, none⟩) 0 0 [] := World.ownsRow_made w1 #[] 0 (Nat.zero_le _) (by simp [maxLen]) rfl
  have hr1 := (hr.keep0 s1).alloc (.cells #[] 5)
  go_wp2_with (at_builtin; refine wpList_appR _ rfl (.tmp 15) (.tmp 16) 25 rfl 5 i0 (.int .u8 0) 1 u8_under hi hz0 hz1 hz2 rfl _ 0 0 [] rfl ho A n c (bvs l) rfl hA (by simp [hl]) hr1 (bvs_one l) (by omega) (by omega) ?_)
  intro M cM w2 hM hgM habM
  have s2 : Kp nob w w2 := (s1.alloc _).grown hgM (fun k e => .inr (by cases e; exact s1.size))
  have nM : ∀ k, ab M = some k → w.heap.size ≤ k := by
    intro k e
    rcases habM with h | h <;> rw [h] at e <;> cases e
    · exact s1.size
    · exact Nat.le_succ_of_le s1.size
  clear ho hr1 hgM habM
  go_wp2_with fail
  refine (rRead M n cM l _ hl (by omega) (own_none hM) (hM.row.alloc _)).mono ?_
  rintro e w3 ⟨rb, R3, rfl, hR, k3, n3⟩
  have k3' : Kp nob w2 w3 := ((Kp.refl nob w2).alloc (.cells #[.slice none 0 0] 49)).trans k3 (fun _ e => e.elim)
  have hW := (isW_new w2).keep k3 (fun _ _ e => e)
  have hM3 := hM.keep k3' (fun _ _ e => e)
  have s3 := s2.trans k3' (fun _ e => e.elim)
  have nR : ∀ k, WF rb R3 k → w2.heap.size + 1 ≤ k := fun k e => by have := n3 k e; simpa using this
  have ltR := hR.lt
  have fM := hM.lt
  have apM : ∀ k, ab M = some k → ¬ WF w2.heap.size none k := by
    rintro k e (rfl | e')
    · exact absurd (fM _ e) (Nat.lt_irrefl _)
    · cases e'
  go_wp2_with fail
  refine (wByte w2.heap.size none [] M n cM l w3 hW (own_none hM3) hl hM3.row (by simp; omega)).mono ?_
  rintro e w4 ⟨rfl, A4, hW4, k4, g4⟩
  rw [List.nil_append] at hW4
  have s4 := s3.since k4 (WF.ge s2.size (fun k e => by cases e))
  have n4 := g4.ge (N := w2.heap.size) (fun k e => by cases e) k3'.size
  have ltA4 := hW4.fLt
  have hM4 := hM3.keep k4 apM
  have hR4 := hR.keep k4 (fun k e e' => by
    have := nR k e
    rcases e' with rfl | e'
    · omega
    · cases e')
  go_wp2_with fail
  refine (wBytes w2.heap.size A4 l _ hW4 (by omega)).mono ?_
  rintro e w5 ⟨X, cX, rfl, hX, k5, nX, _⟩
  have s5 := s4.trans k5 (fun _ e => e.elim)
  have hW5 := hW4.keep k5 (fun _ _ e => e)
  have hM5 := hM4.keep k5 (fun _ _ e => e)
  have hR5 := hR4.keep k5 (fun _ _ e => e)
  have htk := rTake rb R3 (l, false) n w5 hR5 (by simp; omega)
  unfold TakePost at htk
  rw [show sTake (l, false) (n : Int) = ((l, true), ([], false)) by simp [sTake, can, ← hl]] at htk
  simp only [hl] at htk
  go_wp2_with fail
  refine htk.mono ?_
  rintro e w6 ⟨Y, cY, rfl, hY, nY, R6, hR6, k6, aR6⟩
  have apR : ∀ k, k < w2.heap.size + 1 → ¬ oneF rb k := fun k e e' => by unfold oneF at e'; have := nR rb (.inl rfl); omega
  have s6 := s5.since k6 (fun k e => by unfold oneF at e; have := nR rb (.inl rfl); have := s2.size; omega)
  have hM6 := hM5.keep k6 (fun k e => apR k (by have := fM k e; omega))
  have hX6 := hX.keep k6 (fun k e e' => by unfold oneF at e'; have := nX k e; have := k4.size; omega)
  have hr6 := hr.keep0 s6
  have c1 := conv_row w6 M n cM l hl hM6.row
  have c2 := conv_row w6 A n c l hl hr6
  have n5 : ∀ k, ab X = some k → w2.heap.size + 1 ≤ k := fun k e => by have h1 := nX k e; have h2 := k4.size; have h3 := k3.size; simp at h3; omega
  have ltY := hY.lt
  have fX := hX6.lt
  have fW : ∀ k, WF w2.heap.size A4 k → k < w4.heap.size := ltA4
  have apX : ∀ k, ab X = some k → ¬ WF w2.heap.size A4 k := fun k e e' => by have := nX k e; have := fW k e'; omega
  have apMA : ∀ k, ab M = some k → ¬ WF w2.heap.size A4 k := fun k e e' => by
    have := fM k e
    rcases e' with rfl | e'
    · omega
    · have := n4 k e'; omega
  have hW6 := hW5.keep k6 (fun k e e' => by
    have e2 : k = rb := e'
    have h1 := nR rb (.inl rfl)
    rcases e with e | e
    · omega
    · rcases g4 with g | ⟨j, g, hj⟩
      · rw [g] at e; cases e
      · rw [g] at e; cases e; omega)
  have ltYw : ∀ k, ab Y = some k → ¬ (ab M = some k ∨ ab X = some k) := fun k e e' => by
    have h1 := nY k e
    have h2 := k5.size
    rcases e' with e' | e'
    · have := fM k e'; have := k4.size; have := k3'.size; omega
    · have := hX.lt k e'; omega
  have hne : ∀ i j, ab M = some i → ab X = some j → j ≠ i := fun i j e e' => by have := fM i e; have := n5 j e'; omega
  clear htk hR5 hR4 hR hM5 hM4 hM3 hM hX hW4 hW hW5 hR6
  go_wp2
  go_loopw [45] (fun i wr => ∃ (k : Nat) (lm lx : List UInt8), k ≤ n ∧ i = .int .i64 k ∧ Own 5 wr M n cM (bvs lm) ∧ Own 5 wr X n cX (bvs lx) ∧ Kp (fun k => ab M = some k ∨ ab X = some k) w6 wr)
    (fun i _ => n - (intOf i).toNat)
  case atStart => exact ⟨0, l, l, Nat.zero_le _, rfl, hM6, by rw [← hl]; exact hX6, Kp.refl _ _⟩
  case round =>
    obtain ⟨k, lm, lx, hk, rfl, oM, oX, kr⟩ := hrel
    have HC1 := Lib.hid c1; have HC2 := Lib.hid c2; clear c1 c2
    by_cases hlt : k < n
    · obtain ⟨bm, rfl, hbm, hcm, hfm, hsm⟩ := oM.at_ hlt
      obtain ⟨bx, rfl, hbx, hcx, hfx, hsx⟩ := oX.at_ hlt
      have hneq : bx ≠ bm := hne bm bx rfl rfl
      have hml : lm.length = n := by simpa using oM.len
      have hxl : lx.length = n := by simpa using oX.len
      obtain ⟨xm, hxm⟩ : ∃ x, x = lm[k]'(by omega) := ⟨_, rfl⟩
      obtain ⟨xx, hxx⟩ : ∃ x, x = lx[k]'(by omega) := ⟨_, rfl⟩
      have hcm' : wr.cell? ⟨bm, k, none⟩ = some (.int .u8 xm.toNat) := by rw [hcm, hxm]; simp [bvs, bv]
      have hcx' : ∀ u, (wr.setCell ⟨bm, k, none⟩ u).cell? ⟨bx, k, none⟩ = some (.int .u8 xx.toNat) := fun u => by
        rw [World.cell?_setCell_other _ _ _ _ (by intro e; injection e with e; exact hneq e.symm), hcx, hxx]; simp [bvs, bv]
      have hfx' : ∀ u, (wr.setCell ⟨bm, k, none⟩ u).frozen? ⟨bx, k, none⟩ = false := fun u => by simpa using hfx
      have hxm2 : lm[k]? = some xm := by rw [hxm]; exact List.getElem?_eq_getElem _
      have hxx2 : lx[k]? = some xx := by rw [hxx]; exact List.getElem?_eq_getElem _
      have HM := Lib.hid hxm2; have HX := Lib.hid hxx2; have HML := Lib.hid hml; have HXL := Lib.hid hxl
      have hb1 := xm.toNat_lt; have hb2 := xx.toNat_lt
      clear hxm2 hxx2 hcm hcx hxm hxx hml hxl hfx
      go_wp2
      go_roundw
      case rel =>
        refine ⟨k + 1, lm.set k (UInt8.ofNat (xm.toNat + 1)), lx.set k (UInt8.ofNat (xx.toNat + 1)), by omega, by go_num, ?_, ?_, ?_⟩
        · rw [← bvs_set]
          exact (oM.set k _).far ⟨bx, k, none⟩ _ (fun i e e' => hneq (by cases e; exact e'.symm))
        · rw [← bvs_set]
          exact (oX.far ⟨bm, k, none⟩ _ (fun i e e' => hneq (by cases e; exact e'))).set k _
        · exact (kr.setCell (p := ⟨bm, k, none⟩) (.inl (.inl rfl)) _).setCell (p := ⟨bx, k, none⟩) (.inl (.inr rfl)) _
      case measure => simp [intOf]; omega
    · have hW7 := hW6.keep kr (fun k e e' => e'.elim (fun e' => apMA k e' e) (fun e' => apX k e' e))
      have hY7 := (hY.keep kr ltYw)
      have s7 := s6.since kr (fun k e => e.elim (nM k) (fun e' => by have := n5 k e'; have := s2.size; omega))
      have hA7 := hr.keep0 s7
      have d1 := conv_row wr.drew Y n cY l hl (hY7.row.keep0 (Kp.refl _ _).drew)
      have d2 := conv_row wr.drew A n c l hl (hA7.keep0 (Kp.refl _ _).drew)
      have hl2 : l.length ≤ 1099511627776 := by omega
      go_wp2
      go_region_with (go_at_call 15; refine (wBytes w2.heap.size A4 l _ (hW7.keep (Kp.refl nob _).drew (fun _ _ e => e)) hl2).mono ?_; rintro e w8 ⟨Z, cZ, rfl, hZ, k8, nZ, _⟩; have d3 := conv_row w8 Z n cZ l hl hZ.row; have d4 := conv_row w8 Y n cY l hl (hY7.row.keep0 ((Kp.refl nob _).drew.trans k8 (fun _ e => e.elim))); have d5 := conv_row w8 A n c l hl (hA7.keep0 ((Kp.refl nob _).drew.trans k8 (fun _ e => e.elim))))
      all_goals go_wp2
      all_goals go_ret
      all_goals exact ⟨rfl, s7.drew.trans k8 (fun _ e => e.elim)⟩

theorem keeps_any (A : Option Addr) (n c : Nat) (l : List UInt8) (w : World) (hl : l.length = n) (hA : A = none → c = 0) (hr : Row w A (bvs l)) (hm : n ≤ maxLen) :
    Calls Try.prog 7 #[.slice A n c] w fun e w' => e = .returned (.bool true) ∧ Kp nob w w' := by
  by_cases hn : n ≤ 4096
  · exact keeps_short A n c l w hl hn hA hr
  · exact keeps_long A n c w (by omega) hm
end Go.Proofs.Ytenihiphcbheeaa
