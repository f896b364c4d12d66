/- The document's own disk: a write. -/
import Derived.Test.YtchdobneipfghaaZDiskN
import Derived.Test.YtchdobneipfghaaZG02
namespace Go.Proofs.Ytchdobneipfghaa.Disk
set_option linter.unusedVariables false
set_option linter.unusedSimpArgs false
open Go Go.RowKit Kit

theorem actkeep (D : Dk) : (act D).1.keep = D.keep := by
  cases ho : D.off with
  | true => rw [act_off D ho]
  | false => rw [act_on D ho]
theorem actnow (D : Dk) : (act D).1.now = D.now ∧ (act D).1.waits = D.waits ∧ (act D).1.safe = D.safe := by
  cases ho : D.off with
  | true => rw [act_off D ho]; exact ⟨rfl, rfl, rfl⟩
  | false => rw [act_on D ho]; exact ⟨rfl, rfl, rfl⟩
theorem fw_under : Try.prog.underlying 40 = some (.slice 70) := by kernel_rfl
theorem fw_info : (Try.prog.info? 70).map (fun i => (i.zero, i.size, i.bytes)) = some (some (.agg #[.int .i64 0, .string ⟨#[]⟩]), 2, 24) := by kernel_rfl
theorem wcs_one (xs : List (Nat × List UInt8)) : ∀ u ∈ wcs xs, u.oneCell' = true := by
  intro u hu
  obtain ⟨x, _, hx⟩ := List.mem_flatMap.1 hu
  exact wc_one x u hx
theorem wcs_snoc (xs : List (Nat × List UInt8)) (x : Nat × List UInt8) : wcs (xs ++ [x]) = wcs xs ++ wc x := by
  rw [wcs, wcs, List.flatMap_append]; simp
def wc_ (p : Nat) (b : List UInt8) : List Value := wc (p, full b)
/-- Another row of sectors, made since. -/
theorem Dd.turnN {w w5 : World} {g : Nat} {F : Nat → Prop} {N S W N2 : Option Addr} {cN cS cW c2 : Nat} {D : Dk} (h : Dd w g F N S W cN cS cW D) (k : Kp nob w w5) (l2 : List (List UInt8)) (hl : l2.length = D.now.length) (hr : Row w5 N2 (svs l2)) (hc : D.now.length ≤ c2) (ha : ∀ j, ab N2 = some j → w.heap.size ≤ j ∧ j < w5.heap.size) :
    Dd (w5.setCell ⟨g, 0, none⟩ (.slice N2 D.now.length c2)) g (fun j => F j ∨ ab N2 = some j) N2 S W c2 cS cW { D with now := l2 } ∧ Kp F w (w5.setCell ⟨g, 0, none⟩ (.slice N2 D.now.length c2)) := by
  have h5 := h.keep0 k
  have ks : Kp (oneB g) w5 (w5.setCell ⟨g, 0, none⟩ (.slice N2 D.now.length c2)) := (Kp.refl (oneB g) w5).setCell (p := ⟨g, 0, none⟩) (.inl rfl) _
  have hg := h.b.lt
  have hne : ∀ j, ab N2 = some j → j ≠ g := fun j e => by have := (ha j e).1; omega
  refine ⟨⟨?_, hr.keep ks (fun j e e2 => hne j e e2), h5.safe.keep ks (fun j e e2 => (h5.fs j e).2 e2), h5.waits.keep ks (fun j e e2 => (h5.fw j e).2 e2), ⟨by show l2.length ≤ c2; omega, h.caps.2⟩, fun j e => ⟨.inr e, hne j e⟩, fun j e => ⟨.inl (h.fs j e).1, (h.fs j e).2⟩, fun j e => ⟨.inl (h.fw j e).1, (h.fw j e).2⟩, .inl h.g, ?_⟩, ?_⟩
  · show Blk _ _ _ [.slice N2 l2.length c2, _, _, _, _, _, _]
    rw [hl]; exact h5.b.set_ 0 _
  · intro j e
    have hz := ks.size
    rcases e with e | e
    · exact Nat.lt_of_lt_of_le (h5.lt j e) hz
    · exact Nat.lt_of_lt_of_le (ha j e).2 hz
  · exact (k.nob F).trans ks (fun j e => .inl (by have e : j = g := e; rw [e]; exact h.g))
/-- Another row of writes, made since. -/
theorem Dd.turnW {w w5 : World} {g : Nat} {F : Nat → Prop} {N S W W2 : Option Addr} {cN cS cW c2 n2 : Nat} {D : Dk} (h : Dd w g F N S W cN cS cW D) (k : Kp nob w w5) (l2 : List (Nat × List UInt8)) (hl : l2.length = n2) (hr : Row w5 W2 (wcs l2)) (hc : n2 ≤ c2) (ha : ∀ j, ab W2 = some j → w.heap.size ≤ j ∧ j < w5.heap.size) :
    Dd (w5.setCell ⟨g, 2, none⟩ (.slice W2 n2 c2)) g (fun j => F j ∨ ab W2 = some j) N S W2 cN cS c2 { D with waits := l2 } ∧ Kp F w (w5.setCell ⟨g, 2, none⟩ (.slice W2 n2 c2)) := by
  have h5 := h.keep0 k
  have ks : Kp (oneB g) w5 (w5.setCell ⟨g, 2, none⟩ (.slice W2 n2 c2)) := (Kp.refl (oneB g) w5).setCell (p := ⟨g, 2, none⟩) (.inl rfl) _
  have hg := h.b.lt
  have hne : ∀ j, ab W2 = some j → j ≠ g := fun j e => by have := (ha j e).1; omega
  refine ⟨⟨?_, h5.now.keep ks (fun j e e2 => (h5.fn j e).2 e2), h5.safe.keep ks (fun j e e2 => (h5.fs j e).2 e2), hr.keep ks (fun j e e2 => hne j e e2), ⟨h.caps.1, h.caps.2.1, by show l2.length ≤ c2; omega⟩, fun j e => ⟨.inl (h.fn j e).1, (h.fn j e).2⟩, fun j e => ⟨.inl (h.fs j e).1, (h.fs j e).2⟩, fun j e => ⟨.inr e, hne j e⟩, .inl h.g, ?_⟩, ?_⟩
  · show Blk _ _ _ [_, _, .slice W2 l2.length c2, _, _, _, _]
    rw [hl]; exact h5.b.set_ 2 _
  · intro j e
    have hz := ks.size
    rcases e with e | e
    · exact Nat.lt_of_lt_of_le (h5.lt j e) hz
    · exact Nat.lt_of_lt_of_le (ha j e).2 hz
  · exact (k.nob F).trans ks (fun j e => .inl (by have e : j = g := e; rw [e]; exact h.g))
/-- Not written: whatever keeps it. -/
theorem fWrite_no (D : Dk) (i : Int) (b : List UInt8) (g : Nat) (F : Nat → Prop) (N S W : Option Addr) (cN cS cW : Nat) (w : World) (h : Dd w g F N S W cN cS cW D) (hno : may E8 D i ≠ 0 ∨ 256 < b.length) (hb : b.length ≤ 140737488355328) :
    Calls Try.prog 20 #[.pointer (some ⟨g, 0, none⟩), .int .i64 i, .string (str b)] w fun e w' => e = .returned (.int .i64 (if may E8 D i = 0 then 3 else may E8 D i)) ∧ w = w' := by
  have HM := Lib.hid (fmay D i g F N S W cN cS cW w h)
  clear h
  by_cases hm : may E8 D i = 0
  · have hl : 256 < b.length := hno.resolve_left (fun e => e hm)
    have d1 : decide ((256 : Int) < (b.length : Int)) = true := decide_eq_true (by omega)
    have hs := str_size b
    rw [if_pos hm]
    rw [hm] at HM
    clear hno hm hl
    go_enter Try.func20, Try.ntmps20
    go_wp2_with fail
    refine HM.out.mono ?_
    rintro e w1 ⟨rfl, rfl⟩
    go_wp2
    go_ret
    exact ⟨rfl, rfl⟩
  · rw [if_neg hm]
    obtain ⟨m, hmm⟩ : ∃ m, m = may E8 D i := ⟨_, rfl⟩
    rw [← hmm] at HM hm ⊢
    have h1 : (m == 0) = false := beq_eq_false_iff_ne.2 hm
    have h2 : (m != 0) = true := by simp [hm]
    clear hno hm hmm
    go_enter Try.func20, Try.ntmps20
    go_wp2_with fail
    refine HM.out.mono ?_
    rintro e w1 ⟨rfl, rfl⟩
    go_wp2
    go_ret
    exact ⟨rfl, rfl⟩
set_option maxHeartbeats 8000000 in
set_option maxRecDepth 100000 in
theorem fWrite_yes (D : Dk) (p : Nat) (b : List UInt8) (g : Nat) (F : Nat → Prop) (N S W : Option Addr) (cN cS cW : Nat) (w : World) (h : Dd w g F N S W cN cS cW D) (ho : Ok D) (hoff : D.off = false) (hp : p < D.now.length) (hb : b.length ≤ 256) (hn : D.now.length ≤ 4096) (hw : D.waits.length ≤ 99999) (ha : D.acts ≤ 1000000000) (hf : D.fuse ≤ 9223372036854775807) :
    Calls Try.prog 20 #[.pointer (some ⟨g, 0, none⟩), .int .i64 (p : Int), .string (str b)] w fun e w' => e = .returned (.int .i64 (write E8 D p b).2) ∧ Dm w g F (write E8 D p b).1 w' := by
  have HM := Lib.hid (fmay D p g F N S W cN cS cW w h)
  rw [show may E8 D (p : Int) = 0 by rw [may, if_neg (by rw [hoff]; decide), if_neg (by omega)]; rfl] at HM
  have HA := Lib.hid (fAct D g F N S W cN cS cW w h ha hf)
  have HW := Lib.hid (show write E8 D (p : Int) b = (if (act D).2 then (lose (wrote (act D).1 p b) D.keep, 8) else (wrote (act D).1 p b, 0)) by
    rw [write, if_neg (by rw [hoff]; decide), if_neg (by omega), if_neg (by omega), Int.toNat_natCast]; rfl)
  rw [HW.out]
  have HFL := Lib.hid (full_length b hb)
  have HLT := Lib.hid (And.intro h.lt (And.intro h.g (And.intro h.fn (And.intro h.fs h.fw))))
  have HP := Lib.hid (And.intro hp (And.intro hn hw))
  have HOK := Lib.hid ho; have HBL := Lib.hid hb
  have d1 : decide ((256 : Int) < (b.length : Int)) = false := decide_eq_false (by omega)
  have hs := str_size b
  have HAK := Lib.hid (actkeep D); have HAN := Lib.hid (actnow D)
  obtain ⟨D1, hD1⟩ : ∃ D1, D1 = (act D).1 := ⟨_, rfl⟩
  obtain ⟨gs, hgs⟩ : ∃ q, q = (act D).2 := ⟨_, rfl⟩
  rw [← hD1, ← hgs] at HA HW ⊢
  rw [← hD1] at HAK HAN
  have HD1 := Lib.hid hD1
  have HO1 := Lib.hid (show Ok D1 by rw [hD1]; exact act_ok D ho)
  clear h hoff hp hb hn hw ha hf hD1 hgs ho HW
  go_enter Try.func20, Try.ntmps20
  go_wp2_with fail
  refine HM.out.mono ?_
  rintro e w1 ⟨rfl, rfl⟩
  go_wp2_with fail
  refine HA.out.mono ?_
  rintro e w2 ⟨rfl, h2, k2⟩
  have H2 := Lib.hid h2; have K2 := Lib.hid k2
  clear h2 k2 d1 hs
  go_upto_region 7 with fail
  go_cut [] from 20 to 30 (fun wx => ∃ (F2 : Nat → Prop) (N2 : Option Addr) (c2 : Nat), Dd wx g F2 N2 S W c2 cS cW { D1 with now := D1.now.set p (full b) } ∧ (∀ j, F2 j → F j ∨ w.heap.size ≤ j) ∧ Kp F w wx)
  case first =>
    have K3 := Lib.hid K2.out.drew
    have H3 := Lib.hid (H2.out.keep0 (Kp.refl nob w2).drew)
    refine reg_begin (fun _ => True) (by kernel_rfl) trivial (fun _ => ?_)
    have K3d := Lib.hid (show Kp nob w2 w2.drew from (Kp.refl nob w2).drew)
    generalize w2.drew = w3 at *
    refine reg_take (v := .pointer (some ⟨g, 0, none⟩)) 0 (some 20) rfl rfl (by kernel_rfl) (by kernel_rfl) (by kernel_rfl) (by rfl) trivial (fun w hw => by go_simp) ?_
    simp only [Act.put, List.setIfInBounds_toArray, List.set_cons_zero, List.set_cons_succ]
    refine reg_take (v := .pointer (some ⟨g, 0, none⟩)) 1 (some 21) rfl rfl (by kernel_rfl) (by kernel_rfl) (by kernel_rfl) (by rfl) trivial (fun w hw => by go_simp) ?_
    simp only [Act.put, List.setIfInBounds_toArray, List.set_cons_zero, List.set_cons_succ]
    refine reg_take (v := .pointer (some ⟨g, 0, none⟩)) 2 (some 22) rfl rfl (by kernel_rfl) (by kernel_rfl) (by kernel_rfl) (by rfl) trivial (fun w hw => by go_simp) ?_
    simp only [Act.put, List.setIfInBounds_toArray, List.set_cons_zero, List.set_cons_succ]
    refine reg_take (v := .pointer (some ⟨g, 0, none⟩)) 3 (some 23) rfl rfl (by kernel_rfl) (by kernel_rfl) (by kernel_rfl) (by rfl) trivial (fun w hw => by go_simp) ?_
    simp only [Act.put, List.setIfInBounds_toArray, List.set_cons_zero, List.set_cons_succ]
    refine reg_take (v := .int .i64 (p : Int)) 5 (some 25) rfl rfl (by kernel_rfl) (by kernel_rfl) (by kernel_rfl) (by rfl) trivial (fun w hw => by go_simp) ?_
    simp only [Act.put, List.setIfInBounds_toArray, List.set_cons_zero, List.set_cons_succ]
    refine reg_take (v := .string (str b)) 6 (some 26) rfl rfl (by kernel_rfl) (by kernel_rfl) (by kernel_rfl) (by rfl) trivial (fun w hw => by go_simp) ?_
    simp only [Act.put, List.setIfInBounds_toArray, List.set_cons_zero, List.set_cons_succ]
    have hc3 : w3.cell? ⟨g, 0, none⟩ = some (.slice N D1.now.length cN) := H3.out.b.cell 0
    refine reg_orCall (v := .slice N D1.now.length cN) (w' := w3) 4 7 (some 24) (some 27) rfl rfl rfl rfl (by kernel_rfl) (by rfl) (by rfl) _ _ (by go_simp) (exec_func 35 _ _ [.string (str b)] rfl (by kernel_rfl) rfl) trivial (fun _ => ?_) ?_
    case' refine_1 =>
      simp only [Act.put, List.setIfInBounds_toArray, List.set_cons_zero, List.set_cons_succ]
      clear hc3
      refine reg_call 7 (some 27) rfl rfl (by kernel_rfl) (by rfl) _ _ (exec_func 35 _ _ [.string (str b)] rfl (by kernel_rfl) rfl) ?_
      refine (fFull b w3 HBL.out).mono ?_
      rintro e w4 ⟨rfl, k4⟩
      have K4 := Lib.hid k4
      clear k4
      refine ⟨_, rfl, trivial, fun _ => ?_⟩
    case' refine_2 =>
      refine (fFull b w3 HBL.out).mono ?_
      rintro e w4 ⟨rfl, k4⟩
      have K4 := Lib.hid k4
      have hc4 : w4.cell? ⟨g, 0, none⟩ = some (.slice N D1.now.length cN) := (H3.out.b.keep k4 (fun e => e)).cell 0
      clear k4 hc3
      refine ⟨_, rfl, trivial, fun _ => ?_⟩
      simp only [Act.put, List.setIfInBounds_toArray, List.set_cons_zero, List.set_cons_succ]
      refine reg_step (w' := w4) (v := .slice N D1.now.length cN) 4 (some 24) rfl rfl (by kernel_rfl) (by rfl) (by go_simp) trivial (fun _ => ?_)
      clear hc4
    all_goals
      simp only [Act.put, List.setIfInBounds_toArray, List.set_cons_zero, List.set_cons_succ]
      have H4 := Lib.hid (H3.out.keep0 K4.out); have K4d := Lib.hid (K3d.out.trans K4.out (fun _ e => e.elim))
      refine reg_call 8 (some 28) rfl rfl (by kernel_rfl) (by rfl) _ _ (exec_func 31 _ _ [.slice N D1.now.length cN, .int .i64 (p : Int), .string (str (full b))] rfl (by kernel_rfl) rfl) ?_
      refine (fput D1.now N D1.now.length cN p (full b) w4 H4.out.now rfl (by rw [HAN.out.1]; exact HP.out.1) (by rw [HAN.out.1]; have := HP.out.2.1; omega)).mono ?_
      rintro e w5 ⟨N2, c2, rfl, hr5, hc5, ha5, k5⟩
      have H5 := Lib.hid (H4.out.keep0 k5)
      have HR5 := Lib.hid hr5; have HC5 := Lib.hid hc5; have HA5 := Lib.hid ha5; have K5 := Lib.hid ((K3d.out.trans K4.out (fun _ e => e.elim)).trans k5 (fun _ e => e.elim))
      have HSZ := Lib.hid (Nat.le_trans K3.out.size K4.out.size)
      clear hr5 hc5 ha5 k5
      refine ⟨_, rfl, trivial, fun _ => ?_⟩
      simp only [Act.put, List.setIfInBounds_toArray, List.set_cons_zero, List.set_cons_succ]
      refine reg_take (v := .pointer (some ⟨g, 0, none⟩)) 9 (some 29) rfl rfl (by kernel_rfl) (by kernel_rfl) (by kernel_rfl) (by rfl) trivial (fun w hw => by go_simp) ?_
      simp only [Act.put, List.setIfInBounds_toArray, List.set_cons_zero, List.set_cons_succ]
      refine reg_take (v := .pointer (some ⟨g, 0, none⟩)) 10 (some 30) rfl rfl (by kernel_rfl) (by kernel_rfl) (by kernel_rfl) (by rfl) trivial (fun w hw => by go_simp) ?_
      simp only [Act.put, List.setIfInBounds_toArray, List.set_cons_zero, List.set_cons_succ]
      have hc6 : w5.cell? ⟨g, 0, none⟩ = some (.slice N D1.now.length cN) := H5.out.b.cell 0
      have hf6 : w5.frozen? ⟨g, 0, none⟩ = false := H5.out.b.frozen 0
      refine reg_mute (w' := w5.setCell ⟨g, 0, none⟩ (.slice N2 D1.now.length c2)) 11 none rfl rfl (by kernel_rfl) (by rfl) (by go_simp) trivial (fun _ => ?_)
      simp only [Act.put, List.setIfInBounds_toArray, List.set_cons_zero, List.set_cons_succ]
      refine reg_end (by kernel_rfl) ?_
      clear hc6 hf6
      obtain ⟨hq1, hq2⟩ := H2.out.turnN K5.out (D1.now.set p (full b)) (List.length_set ..) HR5.out HC5.out (fun j e => ⟨Nat.le_trans K4d.out.size (HA5.out j e).1, (HA5.out j e).2⟩)
      have HQ := Lib.hid (And.intro hq1 hq2)
      clear hq1 hq2
      go_wp2_with fail
      go_meet
      exact ⟨_, N2, c2, HQ.out.1, fun j e => e.elim .inl (fun e => .inr (Nat.le_trans (Nat.le_trans K2.out.size K4d.out.size) (HA5.out j e).1)), (K2.out.mono (fun i _ e => by have e : i = g := e; rw [e]; exact HLT.out.2.1)).trans HQ.out.2 (fun i e => .inl e)⟩
  case rest =>
    obtain ⟨F2, N2, c2, hd2, hf2, hk2⟩ := hcut
    have HD2 := Lib.hid hd2; have HF2 := Lib.hid hf2; have HK2 := Lib.hid hk2
    clear hd2 hf2 hk2 H2 K2
    have hc2 : (wc.alloc (.cells #[] 70)).cell? ⟨g, 2, none⟩ = some (.slice W D1.waits.length cW) := (HD2.out.keep0 ((Kp.refl nob wc).alloc (.cells #[] 70))).b.cell 2
    have HCZ := Lib.hid (show (wcs D1.waits).length = D1.waits.length * 2 from wcs_length _)
    obtain ⟨i0, hi0, hz0, hz1, hz2⟩ := info_parts3 fw_info
    have HI := Lib.hid (And.intro hi0 (And.intro hz0 (And.intro hz1 hz2)))
    have HOW := Lib.hid (show OwnZ 70 2 (wc.alloc (.cells #[] 70)) (some ⟨wc.heap.size, 0, none⟩) 0 0 [] from World.ownsRow_made wc #[] 0 (Nat.zero_le _) (by simp [maxLen]) rfl)
    have HRW := Lib.hid (HD2.out.waits.alloc (.cells #[] 70))
    have HWN := Lib.hid (show W = none → D1.waits.length = 0 from fun e => by
      rcases HD2.out.waits with h | ⟨b', o', h, _⟩
      · have h9 := congrArg List.length h
        rw [wcs_length] at h9
        have h8 : D1.waits.length * 2 = 0 := h9
        omega
      · rw [e] at h; cases h)
    clear hi0 hz0 hz1 hz2
    go_wp2_with (at_builtin; refine wpList_appZ _ rfl (.tmp 32) (.tmp 36) 40 rfl 70 i0 _ 2 24 fw_under HI.out.1 HI.out.2.1 HI.out.2.2.1 HI.out.2.2.2 rfl (by decide) _ 0 0 [] rfl HOW.out W D1.waits.length cW (wcs D1.waits) rfl HWN.out (wcs_length _) HRW.out (wcs_one _) (by rw [HAN.out.2.1]; have := HP.out.2.2; omega) (by rw [HAN.out.2.1]; have := HP.out.2.2; omega) ?_)
    intro M cM w6 hM hgM habM
    have K6 := Lib.hid (((Kp.refl nob wc).alloc (.cells #[] 70)).grown hgM (fun k e => .inr (by cases e; exact Nat.le_refl _)))
    have NM := Lib.hid (show ∀ k, ab M = some k → wc.heap.size ≤ k from fun k e => by
      rcases habM with h | h <;> rw [h] at e <;> cases e
      · exact Nat.le_refl _
      · exact Nat.le_succ _)
    have HM6 := Lib.hid hM
    clear hM hgM habM HOW HRW hc2
    go_wp2_with fail
    refine (fFull b w6 HBL.out).mono ?_
    rintro e w7 ⟨rfl, k7⟩
    have K7 := Lib.hid (K6.out.trans k7 (fun _ e => e.elim))
    have HM7 := Lib.hid (HM6.out.keep k7 (fun _ _ e => e))
    clear k7 HM6 K6
    have HR8 := Lib.hid (show Row (w7.alloc (.cells #[.int .i64 (p : Int), .string (str (full b))] 70)) (some ⟨w7.heap.size, 0, none⟩) (wc_ p b) from row_new w7 (wc_ p b) _)
    have HM8 := Lib.hid (HM7.out.keep ((Kp.refl nob w7).alloc (.cells #[.int .i64 (p : Int), .string (str (full b))] 70)) (fun _ _ e => e))
    have K8 := Lib.hid (K7.out.alloc (.cells #[.int .i64 (p : Int), .string (str (full b))] 70))
    go_wp2_with (at_builtin; refine wpList_appZ _ rfl (.tmp 37) (.tmp 42) 40 rfl 70 i0 _ 2 24 fw_under HI.out.1 HI.out.2.1 HI.out.2.2.1 HI.out.2.2.2 rfl (by decide) M D1.waits.length cM (wcs D1.waits) rfl HM8.out (some ⟨w7.heap.size, 0, none⟩) 1 1 (wc_ p b) rfl (fun e => by cases e) rfl HR8.out (wc_one _) (by rw [HAN.out.2.1]; have := HP.out.2.2; omega) (by rw [HAN.out.2.1]; have := HP.out.2.2; omega) ?_)
    intro W3 c3 w8 o8 g8 a8
    have K9 := Lib.hid (K8.out.grown g8 (fun k e => .inr (NM.out k e.symm.symm)))
    have HA8 := Lib.hid (show ∀ j, ab W3 = some j → wc.heap.size ≤ j ∧ j < w8.heap.size from fun j e => ⟨by
      rcases a8 with h | h
      · rw [h] at e; exact NM.out j e
      · rw [h] at e; cases e; have := K7.out.size; omega, o8.lt j e⟩)
    have HT := Lib.hid (HD2.out.turnW K9.out (D1.waits ++ [(p, full b)]) (n2 := D1.waits.length + 1) (List.length_append ..) (by rw [wcs_snoc]; exact o8.row) o8.cap.1 HA8.out)
    have hc9 : w8.cell? ⟨g, 2, none⟩ = some (.slice W D1.waits.length cW) := (HD2.out.keep0 K9.out).b.cell 2
    have hf9 : w8.frozen? ⟨g, 2, none⟩ = false := (HD2.out.keep0 K9.out).b.frozen 2
    clear o8 g8 a8 K7 HM7 HM8 HR8 K8
    have HDE := Lib.hid (show Dd (w8.setCell ⟨g, 2, none⟩ (.slice W3 (D1.waits.length + 1) c3)) g (fun j => F2 j ∨ ab W3 = some j) N2 S W3 c2 cS c3 (wrote D1 p b) from HT.out.1)
    have HFE := Lib.hid (show ∀ j, (F2 j ∨ ab W3 = some j) → F j ∨ w.heap.size ≤ j from fun j e => e.elim (fun e => HF2.out j e) (fun e => .inr (Nat.le_trans HK2.out.size (HA8.out j e).1)))
    have HKE := Lib.hid (show Kp F w (w8.setCell ⟨g, 2, none⟩ (.slice W3 (D1.waits.length + 1) c3)) from HK2.out.trans HT.out.2 (fun i e => HF2.out i e))
    have HDM := Lib.hid (show Dm w g F (wrote D1 p b) (w8.setCell ⟨g, 2, none⟩ (.slice W3 (D1.waits.length + 1) c3)) from ⟨_, _, _, _, _, _, _, HDE.out, HFE.out, HKE.out⟩)
    have HOE := Lib.hid (show Ok (wrote D1 p b) from wrote_ok D1 p b HO1.out (by rw [HAN.out.1]; exact HP.out.1) HBL.out)
    have HNE := Lib.hid (show (wrote D1 p b).now.length ≤ 4096 ∧ (wrote D1 p b).waits.length ≤ 100000 from ⟨by show (D1.now.set p (full b)).length ≤ 4096; rw [List.length_set, HAN.out.1]; exact HP.out.2.1, by show (D1.waits ++ [(p, full b)]).length ≤ 100000; rw [List.length_append, HAN.out.2.1]; have := HP.out.2.2; simp; omega⟩)
    cases gs with
    | false =>
      go_wp2
      go_ret
      exact ⟨rfl, HDM.out⟩
    | true =>
      go_upto_region 9 with fail
      clear hc9 hf9
      generalize w8.setCell ⟨g, 2, none⟩ (.slice W3 (D1.waits.length + 1) c3) = w9 at *
      have hk9 : w9.cell? ⟨g, 6, none⟩ = some (.int .u64 (D.keep : Int)) := by
        have := HDE.out.b.cell 6
        rw [this]
        show some (Value.int .u64 (D1.keep : Int)) = _
        rw [HAK.out]
      go_wp2_with fail
      refine (fLose (wrote D1 p b) D.keep g _ N2 S W3 c2 cS c3 w9 HDE.out HOE.out HNE.out.1 HNE.out.2).mono ?_
      rintro e wf ⟨rfl, Ff, Nf, Sf, Wf, aN, aS, aW, hdf, hff, hkf⟩
      have HDF := Lib.hid hdf; have HFF := Lib.hid hff; have HKF := Lib.hid hkf
      clear hdf hff hkf hk9
      go_wp2
      go_ret
      exact ⟨rfl, Ff, Nf, Sf, Wf, aN, aS, aW, HDF.out, fun k e => (HFF.out k e).elim (fun e => HFE.out k e) (fun e => .inr (Nat.le_trans HKE.out.size e)), HKE.out.trans HKF.out (fun i e => HFE.out i e)⟩
end Go.Proofs.Ytchdobneipfghaa.Disk
