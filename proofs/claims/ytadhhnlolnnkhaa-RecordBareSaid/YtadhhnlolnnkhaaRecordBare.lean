/- RecordBare: a record that can be, with a Body where its kind has none, or a Queue where it has none, or none where it has one, can't be. -/
import Derived.Test.YtadhhnlolnnkhaaRecN
import Derived.Test.YtadhhnlolnnkhaaScrR
import Derived.Deep.Cut
import Derived.Deep.CutBlock
import Derived.Deep.CutRange
import Derived.Deep.DeepCutAuto
namespace Go.Proofs.Ytadhhnlolnnkhaa.Rec
set_option linter.unusedVariables false
set_option linter.unusedSimpArgs false
open Go Go.RowKit Kit

def hasB (k : Int) : Bool := k == 3 || (k == 11 || k == 12)
theorem good_body (r : Rec) (body : List UInt8) (h : good r = true) : good { r with body := body } = (body.isEmpty || (hasB r.kind && decide (body.length ≤ 512))) := by
  obtain ⟨kind, queue, id, num, wait, b0⟩ := r
  rw [good_bds] at h ⊢
  simp only [Bool.and_eq_true] at h
  obtain ⟨⟨⟨⟨⟨h1, h2⟩, h3⟩, h4⟩, h5⟩, h6⟩ := h
  simp only at h1 h2 h3 h4 h5 h6 ⊢
  rw [h1, h2, h3, h4, h5]
  simp only [Bool.true_and]
  have hk : (bds kind).body = if hasB kind then 512 else 0 := by
    simp only [kn, decide_eq_true_eq] at h1
    have : kind = 1 ∨ kind = 2 ∨ kind = 3 ∨ kind = 4 ∨ kind = 5 ∨ kind = 6 ∨ kind = 7 ∨ kind = 8 ∨ kind = 9 ∨ kind = 10 ∨ kind = 11 ∨ kind = 12 ∨ kind = 13 := by omega
    rcases this with rfl | rfl | rfl | rfl | rfl | rfl | rfl | rfl | rfl | rfl | rfl | rfl | rfl <;> decide
  rw [hk]
  cases hasB kind with
  | true =>
    cases body with
    | nil => simp
    | cons x l => simp; omega
  | false => cases body <;> simp
theorem good_queue (r : Rec) (h : good r = true) : good { r with queue := if r.queue = 0 then 1 else 0 } = false := by
  obtain ⟨kind, queue, id, num, wait, b0⟩ := r
  rw [good_bds] at h ⊢
  simp only [Bool.and_eq_true] at h
  obtain ⟨⟨⟨⟨⟨h1, h2⟩, h3⟩, h4⟩, h5⟩, h6⟩ := h
  simp only at h1 h2 h3 h4 h5 h6 ⊢
  have hq : inB (if queue = 0 then 1 else 0) (bds kind).ql (bds kind).qh = false := by
    have hk : ((bds kind).ql = 1 ∧ (bds kind).qh = 16) ∨ ((bds kind).ql = 0 ∧ (bds kind).qh = 0) := by
      simp only [kn, decide_eq_true_eq] at h1
      have : kind = 1 ∨ kind = 2 ∨ kind = 3 ∨ kind = 4 ∨ kind = 5 ∨ kind = 6 ∨ kind = 7 ∨ kind = 8 ∨ kind = 9 ∨ kind = 10 ∨ kind = 11 ∨ kind = 12 ∨ kind = 13 := by omega
      rcases this with rfl | rfl | rfl | rfl | rfl | rfl | rfl | rfl | rfl | rfl | rfl | rfl | rfl <;> decide
    rcases hk with ⟨e1, e2⟩ | ⟨e1, e2⟩
    · rw [e1, e2] at h2 ⊢
      have : 1 ≤ queue := by simp [inB] at h2; omega
      rw [if_neg (by omega)]; decide
    · rw [e1, e2] at h2 ⊢
      have : queue = 0 := by simp [inB] at h2; omega
      rw [if_pos this]; decide
  rw [hq]; simp
/-- Three boxes: the record, one with another body, one with another queue. -/
structure Th (w : World) (g g5 g6 : Nat) (r x y : Rec) (w2 : World) : Prop where
  a : Blk w2 g 23 (rcells r)
  x : Blk w2 g5 23 (rcells x)
  y : Blk w2 g6 23 (rcells y)
  k : Kp nob w w2
theorem Th.keep {w w2 w3 : World} {g g5 g6 : Nat} {r x y : Rec} (h : Th w g g5 g6 r x y w2) (k : Kp nob w2 w3) : Th w g g5 g6 r x y w3 := ⟨h.a.keep k (fun e => e), h.x.keep k (fun e => e), h.y.keep k (fun e => e), h.k.trans k (fun _ e => e.elim)⟩
structure Ap (w : World) (g g5 g6 : Nat) : Prop where
  a : g5 ≠ g6
  b : g ≠ g5
  c : g ≠ g6
  d : w.heap.size ≤ g5
  e : w.heap.size ≤ g6

set_option maxHeartbeats 4000000 in
set_option maxRecDepth 100000 in
theorem bare_walk (r : Rec) (body : List UInt8) (w : World) (hw : r.ok) (hbm : body.length ≤ maxLen) : Calls Try.prog 8 #[rv r, .string (str body)] w fun e w' => e = .returned (.bool true) ∧ Kp nob w w' := by
  have HBL := Lib.hid (show r.body.length ≤ 140737488355328 from hw.2.2.2.2.2)
  have HB0 := Lib.hid (Blk.new w 23 (rcells r))
  have HK0 := Lib.hid ((Kp.refl nob w).alloc (.cells (rcells r).toArray 23))
  have hgr := great_one r
  have HBM := Lib.hid hbm
  clear hw hbm
  unfold rv
  go_enter Try.func8, Try.ntmps8
  go_wp2_with fail
  refine (alive_yes _).mono ?_
  rintro e w1 ⟨rfl, k1⟩
  have HB1 := Lib.hid (HB0.out.keep k1 (fun e => e))
  have HK1 := Lib.hid (HK0.out.trans k1 (fun _ e => e.elim))
  obtain ⟨c0, c1, c2, c3, c4, c5⟩ := box_cells HB1.out
  clear HB0 HK0 k1
  go_wp2_with fail
  refine (hgr _ _ rfl _).mono ?_
  rintro e w2 ⟨rfl, k2⟩
  have HB2 := Lib.hid (HB1.out.keep k2 (fun e => e))
  have HK2 := Lib.hid (HK1.out.trans k2 (fun _ e => e.elim))
  clear HB1 HK1 k2 c0 c1 c2 c3 c4 c5 hgr
  cases hg : (decide (4096 < r.body.length)) with
  | true =>
    go_wp2
    go_ret
    exact ⟨rfl, HK2.out⟩
  | false =>
  by_cases hg2 : 4096 < body.length
  · have hb : decide ((4096 : Int) < (body.length : Int)) = true := by simp; omega
    go_wp2
    go_ret
    exact ⟨rfl, HK2.out⟩
  have hb : decide ((4096 : Int) < (body.length : Int)) = false := by simp; omega
  have HL := Lib.hid (show r.body.length ≤ 4096 ∧ body.length ≤ 4096 by simp only [decide_eq_false_iff_not] at hg; omega)
  clear hg hg2
  obtain ⟨c0, c1, c2, c3, c4, c5⟩ := box_cells HB2.out
  have hdg := dGood r w2
  cases hgd : good r with
  | false =>
    rw [hgd] at hdg
    go_wp2_with (go_at_call 12; refine hdg.mono ?_; rintro e w3 ⟨rfl, k3⟩)
    go_ret
    exact ⟨rfl, HK2.out.trans k3 (fun _ e => e.elim)⟩
  | true =>
  rw [hgd] at hdg
  go_wp2_with fail
  refine hdg.mono ?_
  rintro e w3 ⟨rfl, k3⟩
  have HB3 := Lib.hid (HB2.out.keep k3 (fun e => e))
  have HK3 := Lib.hid (HK2.out.trans k3 (fun _ e => e.elim))
  clear HB2 HK2 k3 hdg hb c0 c1 c2 c3 c4 c5
  go_upto_region 5 with fail
  obtain ⟨d, hd1, hd2⟩ := rec_under
  obtain ⟨g, hgw⟩ : ∃ g, g = w.heap.size := ⟨_, rfl⟩
  rw [← hgw] at HB3 ⊢
  have HGW := Lib.hid (show g < w3.heap.size from HB3.out.lt)
  clear hgw
  go_cut [5, 6] from 23 to 24 (fun v5 v6 wx => ∃ g5 g6 : Nat, v5 = .pointer (some ⟨g5, 0, none⟩) ∧ v6 = .pointer (some ⟨g6, 0, none⟩) ∧ Th w g g5 g6 r r r wx ∧ Ap w g g5 g6)
  case first =>
    refine reg_start (fun w' : World => Blk w' g 23 (rcells r) ∧ Kp nob w w') (by kernel_rfl) ⟨HB3.out.keep (Kp.refl nob _).drew (fun e => e), HK3.out.drew⟩ (fun w4 hS4 => ?_)
    have HS4 := Lib.hid hS4
    clear hS4 HB3 HK3
    refine reg_load 0 (some 23) 23 (.tmp 2) rfl rfl rfl (by kernel_rfl) (by kernel_rfl) (by kernel_rfl) (by rfl) HS4.out g 0 rfl (rcells r) _ (fun w hw => hw.1.range) hd1 hd2 (rec_size r) ?_
    simp only [Act.put, List.setIfInBounds_toArray, List.set_cons_zero, List.set_cons_succ]
    refine reg_load 1 (some 24) 23 (.tmp 2) rfl rfl rfl (by kernel_rfl) (by kernel_rfl) (by kernel_rfl) (by rfl) HS4.out g 0 rfl (rcells r) _ (fun w hw => hw.1.range) hd1 hd2 (rec_size r) ?_
    simp only [Act.put, List.setIfInBounds_toArray, List.set_cons_zero, List.set_cons_succ]
    have hn : ∀ (o : Oper) (a : Act) (w' : World), o.op = .alloc 23 → (execOp a.eval o).run Try.prog w' = .ok (.value (.pointer (some ⟨w'.heap.size, 0, none⟩))) (w'.alloc (.cells (rcells zr).toArray 23)) := by
      intro o a w' ho
      unfold execOp
      simp only [ho]
      go_simp
      rfl
    have HN := Lib.hid hn
    clear hn
    have k5 := (Kp.refl nob w4).alloc (.cells (rcells zr).toArray 23)
    have HS5 := Lib.hid (show Blk (w4.alloc (.cells (rcells zr).toArray 23)) g 23 (rcells r) ∧ Kp nob w (w4.alloc (.cells (rcells zr).toArray 23)) from ⟨HS4.out.1.keep k5 (fun e => e), HS4.out.2.trans k5 (fun _ e => e.elim)⟩)
    have k6 := k5.alloc (.cells (rcells zr).toArray 23)
    have HS6 := Lib.hid (show Blk ((w4.alloc (.cells (rcells zr).toArray 23)).alloc (.cells (rcells zr).toArray 23)) g 23 (rcells r) ∧ Kp nob w ((w4.alloc (.cells (rcells zr).toArray 23)).alloc (.cells (rcells zr).toArray 23)) from ⟨HS4.out.1.keep k6 (fun e => e), HS4.out.2.trans k6 (fun _ e => e.elim)⟩)
    have b1 : Blk ((w4.alloc (.cells (rcells zr).toArray 23)).alloc (.cells (rcells zr).toArray 23)) w4.heap.size 23 (rcells zr) := (Blk.new w4 _ _).alloc _
    have b2 : Blk ((w4.alloc (.cells (rcells zr).toArray 23)).alloc (.cells (rcells zr).toArray 23)) (w4.heap.size + 1) 23 (rcells zr) := by
      have := Blk.new (w4.alloc (.cells (rcells zr).toArray 23)) 23 (rcells zr)
      rwa [show (w4.alloc (.cells (rcells zr).toArray 23)).heap.size = w4.heap.size + 1 by simp] at this
    have hz5 : (w4.alloc (.cells (rcells zr).toArray 23)).heap.size = w4.heap.size + 1 := by simp
    have hgl : g < w4.heap.size := HS4.out.1.lt
    have hwl : w.heap.size ≤ w4.heap.size := HS4.out.2.size
    have HFA := Lib.hid (show Blk ((w4.alloc (.cells (rcells zr).toArray 23)).alloc (.cells (rcells zr).toArray 23)) w4.heap.size 23 (rcells zr) ∧ Blk ((w4.alloc (.cells (rcells zr).toArray 23)).alloc (.cells (rcells zr).toArray 23)) (w4.heap.size + 1) 23 (rcells zr) ∧ Ap w g w4.heap.size (w4.heap.size + 1) from ⟨b1, b2, by omega, by omega, by omega, hwl, by omega⟩)
    have HFB := Lib.hid (show Blk ((w4.alloc (.cells (rcells zr).toArray 23)).alloc (.cells (rcells zr).toArray 23)) (w4.heap.size + 1) 23 (rcells zr) ∧ Blk ((w4.alloc (.cells (rcells zr).toArray 23)).alloc (.cells (rcells zr).toArray 23)) w4.heap.size 23 (rcells zr) ∧ Ap w g (w4.heap.size + 1) w4.heap.size from ⟨b2, b1, by omega, by omega, by omega, by omega, hwl⟩)
    clear b1 b2 hgl hwl k5 k6
    refine reg_stepOr (v := .pointer (some ⟨w4.heap.size, 0, none⟩)) (u := .pointer (some ⟨w4.heap.size, 0, none⟩)) (wi := w4.alloc (.cells (rcells zr).toArray 23)) (wj := w4.alloc (.cells (rcells zr).toArray 23)) 2 3 (some 5) (some 6) rfl rfl rfl rfl (by kernel_rfl) (by rfl) (by rfl) (HN.out _ _ _ rfl) (HN.out _ _ _ rfl) HS5.out HS5.out (fun _ => ?_) (fun _ => ?_)
    · simp only [Act.put, List.setIfInBounds_toArray, List.set_cons_zero, List.set_cons_succ]
      refine reg_step (v := .pointer (some ⟨(w4.alloc (.cells (rcells zr).toArray 23)).heap.size, 0, none⟩)) (w' := (w4.alloc (.cells (rcells zr).toArray 23)).alloc (.cells (rcells zr).toArray 23)) 3 (some 6) rfl rfl (by kernel_rfl) (by rfl) (HN.out _ _ _ rfl) HS6.out (fun _ => ?_)
      rw [hz5]
      simp only [Act.put, List.setIfInBounds_toArray, List.set_cons_zero, List.set_cons_succ]
      have HF := HFA
      obtain ⟨g5, hg5⟩ : ∃ g5, g5 = w4.heap.size := ⟨_, rfl⟩
      obtain ⟨g6, hg6⟩ : ∃ g6, g6 = w4.heap.size + 1 := ⟨_, rfl⟩
      rw [← hg6, ← hg5] at HF ⊢
      clear hg5 hg6 HFA HFB HS4 HS5 hz5 HN
      obtain ⟨w6, hw6⟩ : ∃ w6, w6 = (w4.alloc (.cells (rcells zr).toArray 23)).alloc (.cells (rcells zr).toArray 23) := ⟨_, rfl⟩
      rw [← hw6] at HS6 HF ⊢
      clear hw6
      refine reg_store 4 none 23 (.tmp 5) (.tmp 23) rfl rfl rfl (by kernel_rfl) (by rfl) g5 23 (rcells zr) (rcells r) HF.out.1 rfl rfl rfl (rec_size _) (rcells_one _) ?_
      intro w7 hB7 k7 z7
      have HS7 := Lib.hid (show Blk w7 g 23 (rcells r) ∧ Kp nob w w7 from ⟨HS6.out.1.keep k7 (fun e => HF.out.2.2.b e), HS6.out.2.since k7 (fun i e => by have e : i = g5 := e; rw [e]; exact HF.out.2.2.d)⟩)
      have HY7 := Lib.hid (HF.out.2.1.keep k7 (fun e => HF.out.2.2.a e.symm))
      have HX7 := Lib.hid hB7
      clear hB7 k7 z7
      refine ⟨HS7.out, fun _ => ?_⟩
      simp only [Act.put, List.setIfInBounds_toArray, List.set_cons_zero, List.set_cons_succ]
      refine reg_store 5 none 23 (.tmp 6) (.tmp 24) rfl rfl rfl (by kernel_rfl) (by rfl) g6 23 (rcells zr) (rcells r) HY7.out rfl rfl rfl (rec_size _) (rcells_one _) ?_
      intro w8 hB8 k8 z8
      have HS8 := Lib.hid (show Blk w8 g 23 (rcells r) ∧ Kp nob w w8 from ⟨HS7.out.1.keep k8 (fun e => HF.out.2.2.c e), HS7.out.2.since k8 (fun i e => by have e : i = g6 := e; rw [e]; exact HF.out.2.2.e)⟩)
      have HX8 := Lib.hid (HX7.out.keep k8 (fun e => HF.out.2.2.a e))
      have HY8 := Lib.hid hB8
      clear hB8 k8 z8 HX7 HY7 HS7 HS6
      refine ⟨HS8.out, fun _ => ?_⟩
      simp only [Act.put, List.setIfInBounds_toArray, List.set_cons_zero, List.set_cons_succ]
      refine reg_end (by kernel_rfl) ?_
      go_wp2
      go_meet
      exact ⟨g5, g6, rfl, rfl, ⟨HS8.out.1, HX8.out, HY8.out, HS8.out.2⟩, HF.out.2.2⟩
    · simp only [Act.put, List.setIfInBounds_toArray, List.set_cons_zero, List.set_cons_succ]
      refine reg_step (v := .pointer (some ⟨(w4.alloc (.cells (rcells zr).toArray 23)).heap.size, 0, none⟩)) (w' := (w4.alloc (.cells (rcells zr).toArray 23)).alloc (.cells (rcells zr).toArray 23)) 2 (some 5) rfl rfl (by kernel_rfl) (by rfl) (HN.out _ _ _ rfl) HS6.out (fun _ => ?_)
      rw [hz5]
      simp only [Act.put, List.setIfInBounds_toArray, List.set_cons_zero, List.set_cons_succ]
      have HF := HFB
      obtain ⟨g5, hg5⟩ : ∃ g5, g5 = w4.heap.size + 1 := ⟨_, rfl⟩
      obtain ⟨g6, hg6⟩ : ∃ g6, g6 = w4.heap.size := ⟨_, rfl⟩
      rw [← hg5, ← hg6] at HF ⊢
      clear hg5 hg6 HFA HFB HS4 HS5 hz5 HN
      obtain ⟨w6, hw6⟩ : ∃ w6, w6 = (w4.alloc (.cells (rcells zr).toArray 23)).alloc (.cells (rcells zr).toArray 23) := ⟨_, rfl⟩
      rw [← hw6] at HS6 HF ⊢
      clear hw6
      refine reg_store 4 none 23 (.tmp 5) (.tmp 23) rfl rfl rfl (by kernel_rfl) (by rfl) g5 23 (rcells zr) (rcells r) HF.out.1 rfl rfl rfl (rec_size _) (rcells_one _) ?_
      intro w7 hB7 k7 z7
      have HS7 := Lib.hid (show Blk w7 g 23 (rcells r) ∧ Kp nob w w7 from ⟨HS6.out.1.keep k7 (fun e => HF.out.2.2.b e), HS6.out.2.since k7 (fun i e => by have e : i = g5 := e; rw [e]; exact HF.out.2.2.d)⟩)
      have HY7 := Lib.hid (HF.out.2.1.keep k7 (fun e => HF.out.2.2.a e.symm))
      have HX7 := Lib.hid hB7
      clear hB7 k7 z7
      refine ⟨HS7.out, fun _ => ?_⟩
      simp only [Act.put, List.setIfInBounds_toArray, List.set_cons_zero, List.set_cons_succ]
      refine reg_store 5 none 23 (.tmp 6) (.tmp 24) rfl rfl rfl (by kernel_rfl) (by rfl) g6 23 (rcells zr) (rcells r) HY7.out rfl rfl rfl (rec_size _) (rcells_one _) ?_
      intro w8 hB8 k8 z8
      have HS8 := Lib.hid (show Blk w8 g 23 (rcells r) ∧ Kp nob w w8 from ⟨HS7.out.1.keep k8 (fun e => HF.out.2.2.c e), HS7.out.2.since k8 (fun i e => by have e : i = g6 := e; rw [e]; exact HF.out.2.2.e)⟩)
      have HX8 := Lib.hid (HX7.out.keep k8 (fun e => HF.out.2.2.a e))
      have HY8 := Lib.hid hB8
      clear hB8 k8 z8 HX7 HY7 HS7 HS6
      refine ⟨HS8.out, fun _ => ?_⟩
      simp only [Act.put, List.setIfInBounds_toArray, List.set_cons_zero, List.set_cons_succ]
      refine reg_end (by kernel_rfl) ?_
      go_wp2
      go_meet
      exact ⟨g5, g6, rfl, rfl, ⟨HS8.out.1, HX8.out, HY8.out, HS8.out.2⟩, HF.out.2.2⟩
  case rest =>
    obtain ⟨g5, g6, rfl, rfl, hT, hA⟩ := hcut
    have T8 := Lib.hid hT; have HF := Lib.hid hA
    clear hT hA HB3 HK3 HGW
    have hc5 : wc.cell? ⟨g5, 5, none⟩ = some (.string (str r.body)) := T8.out.x.cell 5
    have hf5 : wc.frozen? ⟨g5, 5, none⟩ = false := T8.out.x.frozen 5
    have k9 := (Kp.refl (oneF g5) wc).setCell (p := ⟨g5, 5, none⟩) (.inl rfl) (.string (str body))
    have T9 : Hid (Th w g g5 g6 r { r with body := body } r (wc.setCell ⟨g5, 5, none⟩ (.string (str body)))) := Lib.hid ⟨T8.out.a.keep k9 (fun e => HF.out.b e), T8.out.x.set_ 5 (.string (str body)), T8.out.y.keep k9 (fun e => HF.out.a e.symm), T8.out.k.since k9 (fun i e => by have e : i = g5 := e; rw [e]; exact HF.out.d)⟩
    clear k9 T8
    go_upto_region 7 with fail
    revert T9
    generalize wc.setCell ⟨g5, 5, none⟩ (.string (str body)) = w9
    intro T9
    clear hc5 hf5
    obtain ⟨c0, c1, _, _, _, _⟩ := box_cells T9.out.a
    go_cut [7] from 27 to 39 (fun v7 wx => v7 = .bool (hasB r.kind) ∧ wx = w9)
    case first =>
      cases h3 : (r.kind == 3) with
      | true =>
        go_wp2
        go_meet
        exact ⟨by simp [hasB, h3], rfl⟩
      | false =>
        cases h11 : (r.kind == 11) with
        | true =>
          go_wp2
          go_meet
          exact ⟨by simp [hasB, h3, h11], rfl⟩
        | false =>
          go_wp2
          go_meet
          exact ⟨by simp [hasB, h3, h11], rfl⟩
    case rest =>
      obtain ⟨rfl, rfl⟩ := hcut
      have hy1 : wc.cell? ⟨g6, 1, none⟩ = some (.int .i64 r.queue) := T9.out.y.cell 1
      have fy1 : wc.frozen? ⟨g6, 1, none⟩ = false := T9.out.y.frozen 1
      have k10 := (Kp.refl (oneF g6) wc).setCell (p := ⟨g6, 1, none⟩) (.inl rfl) (.int .i64 0)
      have T10 : Hid (Th w g g5 g6 r { r with body := body } { r with queue := 0 } (wc.setCell ⟨g6, 1, none⟩ (.int .i64 0))) := Lib.hid ⟨T9.out.a.keep k10 (fun e => HF.out.c e), T9.out.x.keep k10 (fun e => HF.out.a e), T9.out.y.set_ 1 (.int .i64 0), T9.out.k.since k10 (fun i e => by have e : i = g6 := e; rw [e]; exact HF.out.e)⟩
      clear k10 T9
      have HX := Lib.hid (fun w' => cGood { r with body := body } w' (by have := HL.out; show body.length ≤ _; omega))
      have HY := Lib.hid (fun w' => cGood { r with queue := if r.queue = 0 then 1 else 0 } w' (by have := HL.out; show r.body.length ≤ _; omega))
      rw [good_body r body hgd] at HX
      rw [good_queue r hgd] at HY
      generalize hasB r.kind = hb at HX ⊢
      go_upto_region 9 with fail
      revert T10
      generalize wc.setCell ⟨g6, 1, none⟩ (.int .i64 0) = w10
      intro T10
      clear hy1 fy1 c0 c1
      have c1 : w10.cell? ⟨g, 1, none⟩ = some (.int .i64 r.queue) := T10.out.a.cell 1
      go_upto_if 43 with fail
      go_cut [] from 41 to 44 (fun wx => Th w g g5 g6 r { r with body := body } { r with queue := if r.queue = 0 then 1 else 0 } wx)
      case first =>
        by_cases hq : r.queue = 0
        · have hqd : (r.queue == 0) = true := by simp [hq]
          have hy1 : w10.cell? ⟨g6, 1, none⟩ = some (.int .i64 0) := T10.out.y.cell 1
          have fy1 : w10.frozen? ⟨g6, 1, none⟩ = false := T10.out.y.frozen 1
          have k11 := (Kp.refl (oneF g6) w10).setCell (p := ⟨g6, 1, none⟩) (.inl rfl) (.int .i64 1)
          have T11 : Hid (Th w g g5 g6 r { r with body := body } { r with queue := 1 } (w10.setCell ⟨g6, 1, none⟩ (.int .i64 1))) := Lib.hid ⟨T10.out.a.keep k11 (fun e => HF.out.c e), T10.out.x.keep k11 (fun e => HF.out.a e), T10.out.y.set_ 1 (.int .i64 1), T10.out.k.since k11 (fun i e => by have e : i = g6 := e; rw [e]; exact HF.out.e)⟩
          clear k11 T10
          have HQ := Lib.hid hq
          clear hq
          go_wp2
          go_meet
          rw [if_pos HQ.out]
          exact T11.out
        · have hqd : (r.queue == 0) = false := by simp [hq]
          have HQ := Lib.hid hq
          clear hq
          go_wp2
          go_meet
          rw [if_neg HQ.out]
          exact T10.out
      case rest =>
        have T11 := Lib.hid hcut
        clear hcut T10
        obtain ⟨Q, hQ⟩ : ∃ Q : Int, Q = if r.queue = 0 then 1 else 0 := ⟨_, rfl⟩
        rw [← hQ] at T11 HY
        clear hQ
        obtain ⟨x0, x1, x2, x3, x4, x5⟩ := box_cells T11.out.x
        simp only at x0 x1 x2 x3 x4 x5
        unfold rv at HX HY
        simp only at HX HY
        have hbody : body = [] ∨ (body ≠ [] ∧ body.length ≤ 512) ∨ (body ≠ [] ∧ 512 < body.length) := by
          by_cases h : body = []
          · exact .inl h
          · by_cases h5 : body.length ≤ 512
            · exact .inr (.inl ⟨h, h5⟩)
            · exact .inr (.inr ⟨h, by omega⟩)
        rcases hbody with hE | ⟨hE, h5⟩ | ⟨hE, h5⟩
        · subst hE
          have he : (str ([] : List UInt8)).toList.isEmpty = true := by rw [str_toList]; rfl
          simp only [List.isEmpty_nil, Bool.true_or] at HX
          go_wp2_with fail
          refine (HX.out _).mono ?_
          rintro e w12 ⟨rfl, k12⟩
          have T12 := Lib.hid (T11.out.keep k12)
          obtain ⟨y0, y1, y2, y3, y4, y5⟩ := box_cells T12.out.y
          simp only at y0 y1 y2 y3 y4 y5
          clear x0 x1 x2 x3 x4 x5 T11 k12
          go_wp2_with fail
          refine (HY.out _).mono ?_
          rintro e w13 ⟨rfl, k13⟩
          go_wp2
          go_ret
          exact ⟨rfl, T12.out.k.trans k13 (fun _ e => e.elim)⟩
        · have he : (str body).toList.isEmpty = false := by rw [str_toList]; simpa using hE
          have hd5 : decide ((body.length : Int) ≤ 512) = true := by simp; omega
          simp only [show body.isEmpty = false by simpa using hE, show decide (body.length ≤ 512) = true by simpa using h5, Bool.false_or, Bool.and_true] at HX
          cases hb
          all_goals
            go_wp2_with fail
            refine (HX.out _).mono ?_
            rintro e w12 ⟨rfl, k12⟩
            have T12 := Lib.hid (T11.out.keep k12)
            obtain ⟨y0, y1, y2, y3, y4, y5⟩ := box_cells T12.out.y
            simp only at y0 y1 y2 y3 y4 y5
            clear x0 x1 x2 x3 x4 x5 T11 k12
            go_wp2_with fail
            refine (HY.out _).mono ?_
            rintro e w13 ⟨rfl, k13⟩
            go_wp2
            go_ret
            exact ⟨rfl, T12.out.k.trans k13 (fun _ e => e.elim)⟩
        · have he : (str body).toList.isEmpty = false := by rw [str_toList]; simpa using hE
          have hd5 : decide ((body.length : Int) ≤ 512) = false := by simp; omega
          simp only [show body.isEmpty = false by simpa using hE, show decide (body.length ≤ 512) = false by simp; omega, Bool.false_or, Bool.and_false] at HX
          cases hb
          all_goals
            go_wp2_with fail
            refine (HX.out _).mono ?_
            rintro e w12 ⟨rfl, k12⟩
            have T12 := Lib.hid (T11.out.keep k12)
            obtain ⟨y0, y1, y2, y3, y4, y5⟩ := box_cells T12.out.y
            simp only at y0 y1 y2 y3 y4 y5
            clear x0 x1 x2 x3 x4 x5 T11 k12
            go_wp2_with fail
            refine (HY.out _).mono ?_
            rintro e w13 ⟨rfl, k13⟩
            go_wp2
            go_ret
            exact ⟨rfl, T12.out.k.trans k13 (fun _ e => e.elim)⟩
end Go.Proofs.Ytadhhnlolnnkhaa.Rec
