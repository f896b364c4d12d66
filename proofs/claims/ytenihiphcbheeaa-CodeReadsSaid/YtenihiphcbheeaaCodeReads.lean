/- CodeReads: of any bytes each call answers what the document says, in every order; a nil reader. -/
import Derived.Test.YtenihiphcbheeaaCodeT
import Derived.Test.YtenihiphcbheeaaCodeG
import Derived.Deep.RegionHeld3
import Derived.Deep.DeepCutAuto
import Derived.Deep.CutBlock
namespace Go.Proofs.Ytenihiphcbheeaa
open Go Go.RowKit Kit

set_option maxHeartbeats 400000 in
theorem rNum_nil (w : World) : Calls Try.prog 17 #[.pointer none] w fun e w' => e = .returned (.int .i64 0) ∧ w = w' := by
  have h0 : lowN [] = 0 := rfl
  go_enter Try.func17, Try.ntmps17
  go_wp2_with (first | (go_at_call 34; refine (rNext_nil _ _).mono ?_; rintro e w' ⟨rfl, rfl⟩) | (go_at_call 35; refine (low_any none 0 0 [] _ rfl (by omega) (Row.nil _ _)).mono ?_; rintro e w' ⟨rfl, rfl⟩))
  go_ret
  exact ⟨rfl, rfl⟩
set_option maxHeartbeats 400000 in
theorem rIn_nil (w : World) : Calls Try.prog 23 #[.pointer none, .int .i64 0, .int .i64 9] w fun e w' => e = .returned (.int .i64 0) ∧ w = w' := by
  go_enter Try.func23, Try.ntmps23
  go_wp2_with (go_at_call 17; refine (rNum_nil _).mono ?_; rintro e w' ⟨rfl, rfl⟩)
  go_ret
  exact ⟨rfl, rfl⟩
set_option maxHeartbeats 400000 in
theorem rEnd_nil (w : World) : Calls Try.prog 27 #[.pointer none] w fun e w' => e = .returned (.bool false) ∧ w = w' := by
  go_enter Try.func27, Try.ntmps27
  go_wp2_with (go_at_call 25; refine (rGood_nil _).mono ?_; rintro e w' ⟨rfl, rfl⟩)
  go_ret
  exact ⟨rfl, rfl⟩
set_option maxHeartbeats 400000 in
theorem rText_nil (w : World) : Calls Try.prog 19 #[.pointer none, .int .i64 9] w fun e w' => e = .returned (.string (str [])) ∧ w = w' := by
  have h0 : lowN [] = 0 := rfl
  have c0 := conv_row w none 0 0 [] rfl (Row.nil _ _)
  go_enter Try.func19, Try.ntmps19
  go_wp2_with (first | (go_at_call 34; refine (rNext_nil _ _).mono ?_; rintro e w' ⟨rfl, rfl⟩) | (go_at_call 35; refine (low_any none 0 0 [] _ rfl (by omega) (Row.nil _ _)).mono ?_; rintro e w' ⟨rfl, rfl⟩))
  go_ret
  exact ⟨rfl, rfl⟩

/-- The reader and the document's reader, in one state. -/
def PairAt (w w' : World) (rb mb : Nat) (s : List UInt8 × Bool) : Prop := ∃ R, IsR w' rb R s.1 s.2 ∧ IsM w' mb s ∧ (∀ k, WF rb R k → k ≠ mb) ∧ Kp nob w w'
theorem pair_M {W w4 : World} {rb mb : Nat} {R : Option Addr} {s s' : List UInt8 × Bool} (oM : IsM W mb s) (hne : ∀ k, WF rb R k → k ≠ mb) (h4 : RPost W rb R s' w4) : IsM w4 mb s := by
  obtain ⟨_, _, k4, _⟩ := h4
  exact oM.keep k4 (fun e => hne rb (.inl rfl) (by unfold oneF at e; exact e.symm))
theorem pair_R {W w4 : World} {rb mb : Nat} {R : Option Addr} {s s' : List UInt8 × Bool} (oR : IsR W rb R s.1 s.2) (hne : ∀ k, WF rb R k → k ≠ mb) (h4 : MPost W mb s' w4) : IsR w4 rb R s.1 s.2 :=
  oR.keep h4.2 (fun k e e' => hne k e e')
theorem pair_ne {rb mb : Nat} {R R' : Option Addr} (hne : ∀ k, WF rb R k → k ≠ mb) (hA : ab R' = ab R ∨ ab R' = none) : ∀ k, WF rb R' k → k ≠ mb := by
  rintro k (rfl | e)
  · exact hne _ (.inl rfl)
  · rcases hA with h | h
    · exact hne k (.inr (by rw [← h]; exact e))
    · rw [h] at e; cases e
theorem pair_rm {w W w4 w5 : World} {rb mb : Nat} {R : Option Addr} {s' : List UInt8 × Bool} (hne : ∀ k, WF rb R k → k ≠ mb) (kr : Kp nob w W) (hr : w.heap.size ≤ rb) (hm : w.heap.size ≤ mb) (h4 : RPost W rb R s' w4) (h5 : MPost w4 mb s' w5) : PairAt w w5 rb mb s' := by
  obtain ⟨R4, r4, k4, a4⟩ := h4
  have hne4 := pair_ne hne a4
  exact ⟨R4, r4.keep h5.2 (fun k e e' => hne4 k e e'), h5.1, hne4, (kr.since k4 (fun k e => by unfold oneF at e; omega)).since h5.2 (fun k e => by unfold oneF at e; omega)⟩
theorem pair_mr {w W w4 w5 : World} {rb mb : Nat} {R : Option Addr} {s' : List UInt8 × Bool} (hne : ∀ k, WF rb R k → k ≠ mb) (kr : Kp nob w W) (hr : w.heap.size ≤ rb) (hm : w.heap.size ≤ mb) (h4 : MPost W mb s' w4) (h5 : RPost w4 rb R s' w5) : PairAt w w5 rb mb s' := by
  obtain ⟨R5, r5, k5, a5⟩ := h5
  exact ⟨R5, r5, h4.1.keep k5 (fun e => hne rb (.inl rfl) (by unfold oneF at e; exact e.symm)), pair_ne hne a5, (kr.since h4.2 (fun k e => by unfold oneF at e; omega)).since k5 (fun k e => by unfold oneF at e; omega)⟩

/-- What a call leaves. -/
def readStep (p : PartD) (s : List UInt8 × Bool) : List UInt8 × Bool :=
  if p.kind = 0 then (sNum s).2 else if p.kind = 1 then (sText s p.n).2 else if p.kind = 2 then (sTake s p.n).2 else if p.kind = 3 then (sIn s p.lo p.hi).2 else s

set_option maxHeartbeats 1000000 in
set_option maxRecDepth 100000 in
theorem reads_long (A : Option Addr) (n c : Nat) (B : Option Addr) (m d : Nat) (w : World) (hn : 16384 < n ∨ 200 < m) (hm : n ≤ maxLen) (hd : m ≤ maxLen) :
    Calls Try.prog 4 #[.slice A n c, .slice B m d] w fun e w' => e = .returned (.bool true) ∧ Kp nob w w' := by
  unfold maxLen at hm hd
  by_cases h : 16384 < n
  · go_enter Try.func4, Try.ntmps4
    go_wp2_with (go_at_call 9; refine (alive_yes _).mono ?_; rintro e w1 ⟨rfl, hk⟩)
    go_ret
    exact ⟨rfl, hk⟩
  · have h2 : 200 < m := by omega
    go_enter Try.func4, Try.ntmps4
    go_wp2_with (go_at_call 9; refine (alive_yes _).mono ?_; rintro e w1 ⟨rfl, hk⟩)
    go_ret
    exact ⟨rfl, hk⟩

set_option maxHeartbeats 8000000 in
set_option maxRecDepth 100000 in
theorem reads_short (A : Option Addr) (n c : Nat) (l : List UInt8) (B : Option Addr) (m d : Nat) (ps : List PartD) (w : World) (hl : l.length = n) (hn : n ≤ 16384) (hA : A = none → c = 0) (hr : Row w A (bvs l)) (hm : ps.length = m) (hm2 : m ≤ 200) (hp : RowP w B ps) :
    Calls Try.prog 4 #[.slice A n c, .slice B m d] w fun e w' => e = .returned (.bool true) ∧ Kp nob w w' := by
  subst hl
  go_enter Try.func4, Try.ntmps4
  go_wp2_with fail
  refine (alive_yes _).mono ?_
  rintro e w1 ⟨rfl, s1⟩
  have hr1 : Row w1.drew A (bvs l) := (hr.keep0 s1).keep0 (Kp.refl nob _).drew
  have c1 := conv_row w1.drew A l.length c l rfl hr1
  go_upto_region 5 with fail
  go_cut [5, 6] from 27 to 32 (fun v5 v6 wx => ∃ (rb mb : Nat) (R : Option Addr), v5 = .pointer (some ⟨rb, 0, none⟩) ∧ v6 = .pointer (some ⟨mb, 0, none⟩) ∧ IsR wx rb R l false ∧ IsM wx mb (l, false) ∧ (∀ k, WF rb R k → k ≠ mb) ∧ Kp nob w wx ∧ w.heap.size ≤ rb ∧ w.heap.size ≤ mb)
  case first =>
    go_region_with (go_at_call 16; refine (rRead2 A l.length c l _ rfl (by omega) hA (by first | exact hr1 | exact hr1.alloc _)).mono ?_; rintro e w2 ⟨rb, R2, rfl, hR2, k2, n2, u2⟩; have c2 := conv_row w2 A l.length c l rfl ((by first | exact hr1 | exact hr1.alloc _ : Row _ A (bvs l)).keep0 k2))
    all_goals (go_wp2_with fail; go_meet)
    all_goals first
      | exact ⟨rb, w2.heap.size, R2, rfl, rfl, hR2.alloc _, ⟨heap_alloc_new w2 _, by simp; omega⟩, fun k e => Nat.ne_of_lt (u2 k e), (s1.drew.trans k2 (fun _ e => e.elim)).alloc _, Nat.le_trans s1.size (n2 rb (.inl rfl)), Nat.le_trans s1.size k2.size⟩
      | exact ⟨rb, w1.heap.size, R2, rfl, rfl, hR2, IsM.keep (F := nob) ⟨heap_alloc_new w1.drew _, by simp; omega⟩ k2 (fun e => e), fun k e => by have := n2 k e; simp at this; omega, (s1.drew.alloc _).trans k2 (fun _ e => e.elim), Nat.le_trans s1.size (by have := n2 rb (.inl rfl); simp at this; omega), s1.size⟩
  case rest =>
    obtain ⟨rb, mb, R2, rfl, rfl, hR, hM, hne, kr0, hrb, hmb⟩ := hcut
    clear s1 hr1 c1 hr hA
    go_wp2
    go_loopw [35] (fun i wr => ∃ (k : Nat) (s : List UInt8 × Bool), k ≤ m ∧ i = .int .i64 k ∧ PairAt w wr rb mb s)
      (fun i _ => m - (intOf i).toNat)
    case atStart => exact ⟨0, (l, false), Nat.zero_le _, rfl, R2, hR, hM, hne, kr0⟩
    case round =>
      clear hR hM hne kr0
      obtain ⟨k, s, hk, rfl, R', oR, oM, hne, kr⟩ := hrel
      by_cases hlt : k < m
      · obtain ⟨p, hpk⟩ : ∃ p, ps[k]? = some p := ⟨_, List.getElem?_eq_getElem (by omega)⟩
        obtain ⟨bb, oo, hB, hbb, hc0, hc1, hc2, hc3, hc4⟩ := (hp.keep0 kr).at_ (i := k) (by omega)
        have hpe : ps[k]'(by omega) = p := by rw [List.getElem?_eq_getElem (by omega)] at hpk; simpa using hpk
        rw [hpe] at hc0 hc1 hc2 hc3 hc4
        clear hpk hpe
        obtain rfl : B = some ⟨bb, oo, none⟩ := hB
        have hrbm : rb ≠ mb := hne rb (.inl rfl)
        have hlen : s.1.length ≤ 1099511627776 := oM.2
        obtain ⟨O, hO⟩ : ∃ O, O = Obj.cells #[.int .i64 p.kind, .int .i64 p.n, .string p.s, .int .i64 p.lo, .int .i64 p.hi] 39 (0, 0) := ⟨_, rfl⟩
        have oRa := oR.alloc O
        have oMa := oM.keep ((Kp.refl nob wr).alloc O) (fun e => e)
        have oRd : IsR (wr.alloc O).drew rb R' s.1 s.2 := oRa.keep (Kp.refl nob _).drew (fun _ _ e => e)
        have oMd : IsM (wr.alloc O).drew mb s := oMa.keep (F := nob) (Kp.refl nob _).drew (fun e => e)
        have hzr : wr.heap.size ≠ rb := by have := oR.lt; omega
        have hzm : wr.heap.size ≠ mb := by have := oM.lt; omega
        have hcs : ∀ (F : Nat → Prop) (W w4 : World), (W = wr.alloc O ∨ W = (wr.alloc O).drew) → Kp F W w4 → ¬ F wr.heap.size → w4.cell? ⟨wr.heap.size, 1, none⟩ = some (.int .i64 p.n) ∧ w4.cell? ⟨wr.heap.size, 3, none⟩ = some (.int .i64 p.lo) ∧ w4.cell? ⟨wr.heap.size, 4, none⟩ = some (.int .i64 p.hi) := by
          intro F W w4 hW k4 hf
          have hb : wr.heap.size < W.heap.size := by rcases hW with rfl | rfl <;> simp
          have hce : ∀ j, W.cell? ⟨wr.heap.size, j, none⟩ = #[Value.int .i64 p.kind, .int .i64 p.n, .string p.s, .int .i64 p.lo, .int .i64 p.hi][j]? := by
            intro j
            rcases hW with rfl | rfl
            · rw [hO, cell_new]
            · show (wr.alloc O).cell? _ = _
              rw [hO, cell_new]
          refine ⟨?_, ?_, ?_⟩
          · rw [k4.cell (p := ⟨wr.heap.size, 1, none⟩) hb hf, hce]; rfl
          · rw [k4.cell (p := ⟨wr.heap.size, 3, none⟩) hb hf, hce]; rfl
          · rw [k4.cell (p := ⟨wr.heap.size, 4, none⟩) hb hf, hce]; rfl
        have hcR : ∀ (s' : List UInt8 × Bool) (W w4 : World), (W = wr.alloc O ∨ W = (wr.alloc O).drew) → RPost W rb R' s' w4 → w4.cell? ⟨wr.heap.size, 1, none⟩ = some (.int .i64 p.n) ∧ w4.cell? ⟨wr.heap.size, 3, none⟩ = some (.int .i64 p.lo) ∧ w4.cell? ⟨wr.heap.size, 4, none⟩ = some (.int .i64 p.hi) := by
          rintro s' W w4 hW ⟨_, _, k4, _⟩
          exact hcs (oneF rb) W w4 hW k4 hzr
        have hcM : ∀ (s' : List UInt8 × Bool) (W w4 : World), (W = wr.alloc O ∨ W = (wr.alloc O).drew) → MPost W mb s' w4 → w4.cell? ⟨wr.heap.size, 1, none⟩ = some (.int .i64 p.n) ∧ w4.cell? ⟨wr.heap.size, 3, none⟩ = some (.int .i64 p.lo) ∧ w4.cell? ⟨wr.heap.size, 4, none⟩ = some (.int .i64 p.hi) :=
          fun s' W w4 hW h => hcs (oneF mb) W w4 hW h.2 hzm
        have hcR2 : ∀ (R4 : Option Addr) (s' : List UInt8 × Bool) (w4 w5 : World), (w4.cell? ⟨wr.heap.size, 1, none⟩ = some (.int .i64 p.n) ∧ w4.cell? ⟨wr.heap.size, 3, none⟩ = some (.int .i64 p.lo) ∧ w4.cell? ⟨wr.heap.size, 4, none⟩ = some (.int .i64 p.hi)) → RPost w4 rb R4 s' w5 →
            w5.cell? ⟨wr.heap.size, 1, none⟩ = some (.int .i64 p.n) ∧ w5.cell? ⟨wr.heap.size, 3, none⟩ = some (.int .i64 p.lo) ∧ w5.cell? ⟨wr.heap.size, 4, none⟩ = some (.int .i64 p.hi) := by
          rintro R4 s' w4 w5 ⟨q1, q3, q4⟩ ⟨_, _, k5, _⟩
          have hb := World.block_lt_of_cell? w4 _ q1
          exact ⟨by rw [k5.cell (p := ⟨wr.heap.size, 1, none⟩) hb hzr]; exact q1, by rw [k5.cell (p := ⟨wr.heap.size, 3, none⟩) hb hzr]; exact q3, by rw [k5.cell (p := ⟨wr.heap.size, 4, none⟩) hb hzr]; exact q4⟩
        have hcM2 : ∀ (s' : List UInt8 × Bool) (w4 w5 : World), (w4.cell? ⟨wr.heap.size, 1, none⟩ = some (.int .i64 p.n) ∧ w4.cell? ⟨wr.heap.size, 3, none⟩ = some (.int .i64 p.lo) ∧ w4.cell? ⟨wr.heap.size, 4, none⟩ = some (.int .i64 p.hi)) → MPost w4 mb s' w5 →
            w5.cell? ⟨wr.heap.size, 1, none⟩ = some (.int .i64 p.n) ∧ w5.cell? ⟨wr.heap.size, 3, none⟩ = some (.int .i64 p.lo) ∧ w5.cell? ⟨wr.heap.size, 4, none⟩ = some (.int .i64 p.hi) := by
          rintro s' w4 w5 ⟨q1, q3, q4⟩ ⟨_, k5⟩
          have hb := World.block_lt_of_cell? w4 _ q1
          exact ⟨by rw [k5.cell (p := ⟨wr.heap.size, 1, none⟩) hb hzm]; exact q1, by rw [k5.cell (p := ⟨wr.heap.size, 3, none⟩) hb hzm]; exact q3, by rw [k5.cell (p := ⟨wr.heap.size, 4, none⟩) hb hzm]; exact q4⟩
        have CR2 := Lib.hid hcR2; have CM2 := Lib.hid hcM2; clear hcR2 hcM2
        have CR := Lib.hid hcR; have CM := Lib.hid hcM; have NE := Lib.hid hne
        have KRA := kr.alloc O
        have KRD := KRA.drew
        have HO := Lib.hid hO; clear hO
        clear hcs hcR hcM hne
        go_upto_block 2 with fail
        go_cut [9] (fun v9 wx => v9 = .bool true ∧ ∃ s', PairAt w wx rb mb s')
        case first =>
          by_cases e0 : p.kind = 0
          · have hb0 : (p.kind == 0) = true := beq_iff_eq.2 e0
            clear e0
            go_wp2_with fail
            rw [← HO.out]
            refine (rNum rb R' s _ oRa).mono ?_
            rintro e w4 ⟨rfl, h4⟩
            have oM4 := pair_M oMa NE.out h4
            go_wp2_with fail
            refine (mNum mb s _ oM4).mono ?_
            rintro e w5 ⟨rfl, h5⟩
            have PP := pair_rm NE.out KRA hrb hmb h4 h5
            go_wp2_with fail
            go_meet
            exact ⟨by simp, _, PP⟩
          · have hb0 : (p.kind == 0) = false := beq_eq_false_iff_ne.2 e0
            by_cases e1 : p.kind = 1
            · have hb1 : (p.kind == 1) = true := beq_iff_eq.2 e1
              clear e0 e1
              go_wp2_with fail
              rw [← HO.out]
              have hcd := CM.out s _ _ (.inr rfl) ⟨oMd, Kp.refl _ _⟩
              obtain ⟨hcd1, hcd3, hcd4⟩ := hcd
              go_region_held3 (fun w' => w'.cell? ⟨wr.heap.size, 1, none⟩ = some (.int .i64 p.n)) (first | exact hr1 | exact hq1 | exact hcd1 | go_keep) (first
                | (go_at_call 20; refine (mText mb s p.n _ oM4).mono ?_; rintro e w5 ⟨rfl, h5⟩; have PP := pair_rm NE.out KRD hrb hmb h4 h5; obtain ⟨hr1, hr3, hr4⟩ := CM2.out _ _ _ ⟨hq1, hq3, hq4⟩ h5)
                | (go_at_call 19; refine (rText rb R' s p.n _ oR4).mono ?_; rintro e w5 ⟨rfl, h5⟩; have PP := pair_mr NE.out KRD hrb hmb h4 h5; obtain ⟨hr1, hr3, hr4⟩ := CR2.out _ _ _ _ ⟨hq1, hq3, hq4⟩ h5)
                | (go_at_call 19; refine (rText rb R' s p.n _ oRd).mono ?_; rintro e w4 ⟨rfl, h4⟩; have oM4 := pair_M oMd NE.out h4; obtain ⟨hq1, hq3, hq4⟩ := CR.out _ _ _ (.inr rfl) h4)
                | (go_at_call 20; refine (mText mb s p.n _ oMd).mono ?_; rintro e w4 ⟨rfl, h4⟩; have oR4 := pair_R oRd NE.out h4; obtain ⟨hq1, hq3, hq4⟩ := CM.out _ _ _ (.inr rfl) h4))
              all_goals (go_wp2_with fail; go_meet; exact ⟨by simp, _, PP⟩)
            · have hb1 : (p.kind == 1) = false := beq_eq_false_iff_ne.2 e1
              by_cases e2 : p.kind = 2
              · have hb2 : (p.kind == 2) = true := beq_iff_eq.2 e2
                clear e0 e1 e2
                go_wp2_with fail
                rw [← HO.out]
                refine (rTake rb R' s p.n _ oRa hlen).mono ?_
                rintro e w4 ⟨X, cX, rfl, oX, nX, h4⟩
                have oM4 := pair_M oMa NE.out h4
                obtain ⟨hq1, hq3, hq4⟩ := CR.out _ _ _ (.inl rfl) h4
                go_wp2_with fail
                refine (mTake mb s p.n _ oM4).mono ?_
                rintro e w5 ⟨rfl, h5⟩
                have PP := pair_rm NE.out KRA hrb hmb h4 h5
                have hrowX := oX.row.keep h5.2 (fun j e e' => by unfold oneF at e'; have h1 := nX j e; have h2 := oM.lt; simp at h1; omega)
                have hcv := conv_row w5 X _ cX _ rfl hrowX
                cases hok : (sTake s p.n).1.2 with
                | true =>
                  go_wp2_with fail
                  go_meet
                  exact ⟨by simp, _, PP⟩
                | false =>
                  go_wp2_with fail
                  go_meet
                  exact ⟨by simp, _, PP⟩
              · have hb2 : (p.kind == 2) = false := beq_eq_false_iff_ne.2 e2
                by_cases e3 : p.kind = 3
                · have hb3 : (p.kind == 3) = true := beq_iff_eq.2 e3
                  clear e0 e1 e2 e3
                  go_wp2_with fail
                  rw [← HO.out]
                  have hcd := CM.out s _ _ (.inr rfl) ⟨oMd, Kp.refl _ _⟩
                  obtain ⟨hcd1, hcd3, hcd4⟩ := hcd
                  go_region_held3 (fun w' => w'.cell? ⟨wr.heap.size, 3, none⟩ = some (.int .i64 p.lo) ∧ w'.cell? ⟨wr.heap.size, 4, none⟩ = some (.int .i64 p.hi)) (first | exact ⟨hr3, hr4⟩ | exact ⟨hq3, hq4⟩ | exact ⟨hcd3, hcd4⟩ | go_keep) (first
                    | (go_at_call 24; refine (mIn mb s p.lo p.hi _ oM4).mono ?_; rintro e w5 ⟨rfl, h5⟩; have PP := pair_rm NE.out KRD hrb hmb h4 h5; obtain ⟨hr1, hr3, hr4⟩ := CM2.out _ _ _ ⟨hq1, hq3, hq4⟩ h5)
                    | (go_at_call 23; refine (rIn rb R' s p.lo p.hi _ oR4).mono ?_; rintro e w5 ⟨rfl, h5⟩; have PP := pair_mr NE.out KRD hrb hmb h4 h5; obtain ⟨hr1, hr3, hr4⟩ := CR2.out _ _ _ _ ⟨hq1, hq3, hq4⟩ h5)
                    | (go_at_call 23; refine (rIn rb R' s p.lo p.hi _ oRd).mono ?_; rintro e w4 ⟨rfl, h4⟩; have oM4 := pair_M oMd NE.out h4; obtain ⟨hq1, hq3, hq4⟩ := CR.out _ _ _ (.inr rfl) h4)
                    | (go_at_call 24; refine (mIn mb s p.lo p.hi _ oMd).mono ?_; rintro e w4 ⟨rfl, h4⟩; have oR4 := pair_R oRd NE.out h4; obtain ⟨hq1, hq3, hq4⟩ := CM.out _ _ _ (.inr rfl) h4))
                  all_goals (go_wp2_with fail; go_meet; exact ⟨by simp, _, PP⟩)
                · have hb3 : (p.kind == 3) = false := beq_eq_false_iff_ne.2 e3
                  clear e0 e1 e2 e3
                  go_wp2_with fail
                  rw [← HO.out]
                  go_meet
                  exact ⟨rfl, s, R', oRa, oMa, NE.out, KRA⟩
        case rest =>
          clear oRa oMa oRd oMd KRA KRD hc0 hc1 hc2 hc3 hc4 hlen HO CR CM
          obtain ⟨rfl, s', R5, r5, m5, ne5, k5⟩ := hcut
          have g1 : ∀ q, Calls Try.prog 25 #[.pointer (some ⟨rb, 0, none⟩)] (wc.drewN q) fun e w' => e = .returned (.bool (!s'.2)) ∧ w' = wc.drewN q := fun q => (rGood rb R5 s'.1 s'.2 (wc.drewN q) (r5.keep ((Kp.refl nob _).drewN q) (fun _ _ e => e))).mono fun e w' ⟨h1, h2⟩ => ⟨h1, h2.symm⟩
          have g2 : ∀ q, Calls Try.prog 27 #[.pointer (some ⟨rb, 0, none⟩)] (wc.drewN q) fun e w' => e = .returned (.bool (!s'.2 && s'.1.isEmpty)) ∧ w' = wc.drewN q := fun q => (rEnd rb R5 s' (wc.drewN q) (r5.keep ((Kp.refl nob _).drewN q) (fun _ _ e => e))).mono fun e w' ⟨h1, h2⟩ => ⟨h1, h2.symm⟩
          have g3 : ∀ q, Calls Try.prog 29 #[.pointer (some ⟨rb, 0, none⟩)] (wc.drewN q) fun e w' => e = .returned (.int .i64 s'.1.length) ∧ w' = wc.drewN q := fun q => (rLeft rb R5 s'.1 s'.2 (wc.drewN q) (r5.keep ((Kp.refl nob _).drewN q) (fun _ _ e => e))).mono fun e w' ⟨h1, h2⟩ => ⟨h1, h2.symm⟩
          have g4 : ∀ q, Calls Try.prog 26 #[.pointer (some ⟨mb, 0, none⟩)] (wc.drewN q) fun e w' => e = .returned (.bool (!s'.2)) ∧ w' = wc.drewN q := fun q => (mGood mb s' (wc.drewN q) (m5.keep (F := nob) ((Kp.refl nob _).drewN q) (fun e => e))).mono fun e w' ⟨h1, h2⟩ => ⟨h1, h2.symm⟩
          have g5 : ∀ q, Calls Try.prog 28 #[.pointer (some ⟨mb, 0, none⟩)] (wc.drewN q) fun e w' => e = .returned (.bool (!s'.2 && s'.1.isEmpty)) ∧ w' = wc.drewN q := fun q => (mEnd mb s' (wc.drewN q) (m5.keep (F := nob) ((Kp.refl nob _).drewN q) (fun e => e))).mono fun e w' ⟨h1, h2⟩ => ⟨h1, h2.symm⟩
          have hc6 := m5.cells.1
          have G1 := Lib.hid g1; have G2 := Lib.hid g2; have G3 := Lib.hid g3; have G4 := Lib.hid g4; have G5 := Lib.hid g5
          clear g1 g2 g3 g4 g5
          go_wp2
          go_quiet ((first | (go_at_call 25; exact Calls.quiet_of_same (G1.out _)) | (go_at_call 27; exact Calls.quiet_of_same (G2.out _)) | (go_at_call 29; exact Calls.quiet_of_same (G3.out _)) | (go_at_call 26; exact Calls.quiet_of_same (G4.out _)) | (go_at_call 28; exact Calls.quiet_of_same (G5.out _))))
          go_wp2
          go_roundw
          case rel => exact ⟨k + 1, s', by omega, by go_num, R5, r5.keep ((Kp.refl nob _).drewN nq) (fun _ _ e => e), m5.keep (F := nob) ((Kp.refl nob _).drewN nq) (fun e => e), ne5, k5.drewN nq⟩
          case measure => simp [intOf]; omega
      · obtain rfl : k = m := by omega
        have hst : (str []).toList = [] := str_toList []
        go_wp2_with (first | (go_at_call 21; refine (rTake_nil 0 _).mono ?_; rintro e w' ⟨rfl, rfl⟩) | (go_at_call 17; refine (rNum_nil _).mono ?_; rintro e w' ⟨rfl, rfl⟩) | (go_at_call 19; refine (rText_nil _).mono ?_; rintro e w' ⟨rfl, rfl⟩) | (go_at_call 23; refine (rIn_nil _).mono ?_; rintro e w' ⟨rfl, rfl⟩) | (go_at_call 25; refine (rGood_nil _).mono ?_; rintro e w' ⟨rfl, rfl⟩) | (go_at_call 27; refine (rEnd_nil _).mono ?_; rintro e w' ⟨rfl, rfl⟩) | (go_at_call 29; refine (rLeft_nil _).mono ?_; rintro e w' ⟨rfl, rfl⟩))
        go_ret
        exact ⟨rfl, kr⟩

theorem reads_any (A : Option Addr) (n c : Nat) (l : List UInt8) (B : Option Addr) (m d : Nat) (ps : List PartD) (w : World) (hl : l.length = n) (hA : A = none → c = 0) (hr : Row w A (bvs l)) (hn : n ≤ maxLen) (hm : ps.length = m) (hp : RowP w B ps) (hd : m ≤ maxLen) (_ : ∀ p ∈ ps, p.s.size ≤ reachBytes) :
    Calls Try.prog 4 #[.slice A n c, .slice B m d] w fun e w' => e = .returned (.bool true) ∧ Kp nob w w' := by
  by_cases h : 16384 < n ∨ 200 < m
  · exact reads_long A n c B m d w h hn hd
  · exact reads_short A n c l B m d ps w hl (by omega) hA hr hm (by omega) hp
end Go.Proofs.Ytenihiphcbheeaa
