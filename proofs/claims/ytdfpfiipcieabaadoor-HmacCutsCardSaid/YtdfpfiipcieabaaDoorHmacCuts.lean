/- HmacCuts: it doesn't matter how bytes are cut into pieces and calls. -/
import Derived.Test.YtdfpfiipcieabaaDoorHmacL
import Derived.Test.YtdfpfiipcieabaaDoorApp
import Derived.Test.YtdfpfiipcieabaaDoorReg
namespace Go.Proofs.YtdfpfiipcieabaaDoor.Hmac
open Go Go.RowKit Kit
open Sha (Tabs Far Has Pc PcsOk catP u8s_under arr32b u8s_info own_new own_one own_none u8_string row_marked eq32 conv_row slice_to slice_of)

set_option maxHeartbeats 1000000 in
theorem cuts_no (A : Option Addr) (n c : Nat) (B : Option Addr) (m d : Nat) (i j : Int) (w : World) (ht : Tabs w) (hn : n ≤ maxLen) (hm : m ≤ maxLen) (h : 2048 < n ∨ 2048 < m ∨ i < 0 ∨ j < i ∨ (m : Int) < j) :
    Calls Tryd.prog 8 #[.slice A n c, .slice B m d, .int .i64 i, .int .i64 j] w fun e w' => e = .returned (.bool true) ∧ Kp nob w w' := by
  unfold maxLen at hm hn
  have fin : ∀ d1 d2 d3 d4 d5 : Bool, decide ((2048 : Int) < (n : Int)) = d1 → decide ((2048 : Int) < (m : Int)) = d2 → decide (i < 0) = d3 → decide (j < i) = d4 → decide ((m : Int) < j) = d5 → (d1 || d2 || d3 || d4 || d5) = true →
    Calls Tryd.prog 8 #[.slice A n c, .slice B m d, .int .i64 i, .int .i64 j] w fun e w' => e = .returned (.bool true) ∧ Kp nob w w' := by
    intro d1 d2 d3 d4 d5 e1 e2 e3 e4 e5 hd
    cases d1 <;> cases d2 <;> cases d3 <;> cases d4 <;> cases d5 <;> first | (exfalso; simp at hd; done) |
      (clear hd
       go_enter Tryd.func8, Tryd.ntmps8
       go_wp2_with fail
       refine (alive_yes _ ht).mono ?_
       rintro e w1 ⟨rfl, k1⟩
       go_wp2
       go_ret
       exact ⟨rfl, k1⟩)
  refine fin _ _ _ _ _ rfl rfl rfl rfl rfl ?_
  simp only [Bool.or_eq_true, decide_eq_true_eq]
  omega

/-- Three rows of pieces in one. -/
theorem write_row (b : Nat) (l : List UInt8) (ps : List Pc) (w : World) (t : TypeId) (g : Nat) (hg : g = w.heap.size) (h : Has w b l) (ht : Tabs w) (hb : Far b) (hp : PcsOk w (oneB b) ps) (hm : ps.length ≤ 1099511627776) (hl : l.length + (catP ps).length ≤ 1099511627776) :
    Calls Tryd.prog 13 #[.pointer (some ⟨b, 0, none⟩), .slice (some ⟨g, 0, none⟩) ps.length ps.length] (w.alloc (.cells (ps.map Pc.v).toArray t)) fun e w' => e = .returned (.tuple #[]) ∧ Has w' b (l ++ catP ps) ∧ Kp (oneB b) w w' := by
  subst hg
  have K := (Kp.refl nob w).alloc (.cells (ps.map Pc.v).toArray t)
  have hlt := Sha.Has.lt h
  refine (Sha.write_any b l (some ⟨w.heap.size, 0, none⟩) ps.length ps.length ps _ (h.keep K (fun e => e)) (ht.keep0 K) hb rfl (row_new w _ t) (.inr (fun k e => ?_)) (hp.keep K (fun _ e => e.elim)) hm hl).mono ?_
  · have : w.heap.size = k := by simpa [ab] using e
    omega
  · rintro e' w' ⟨rfl, h2, k⟩
    exact ⟨rfl, h2, (K.nob (oneB b)).trans k (fun _ e => .inl e)⟩
theorem write3 (b : Nat) (l : List UInt8) (p q r : Pc) (w : World) (t : TypeId) (g : Nat) (hg : g = w.heap.size) (h : Has w b l) (ht : Tabs w) (hb : Far b) (hp : PcsOk w (oneB b) [p, q, r]) (hl : l.length + (p.l ++ q.l ++ r.l).length ≤ 1099511627776) :
    Calls Tryd.prog 13 #[.pointer (some ⟨b, 0, none⟩), .slice (some ⟨g, 0, none⟩) 3 3] (w.alloc (.cells #[.slice p.A p.n p.c, .slice q.A q.n q.c, .slice r.A r.n r.c] t)) fun e w' => e = .returned (.tuple #[]) ∧ Has w' b (l ++ (p.l ++ q.l ++ r.l)) ∧ Kp (oneB b) w w' := by
  have e : catP [p, q, r] = p.l ++ q.l ++ r.l := by simp [catP]
  have := write_row b l [p, q, r] w t g hg h ht hb hp (by simp) (by rw [e]; exact hl)
  rw [e] at this
  exact this
theorem row_take {w : World} {A : Option Addr} {l : List UInt8} (h : Row w A (bvs l)) (k : Nat) : Row w A (bvs (l.take k)) := by
  have := h.take k
  rwa [bvs, ← List.map_take, ← bvs] at this
theorem row_cut {w : World} {A : Option Addr} {l : List UInt8} (h : Row w A (bvs l)) {c k : Nat} (hl : l.length ≤ c) : Row w (cutA A c k) (bvs (l.drop k)) := by
  have := h.cut (c := c) (k := k) (by rw [bvs_length]; exact hl)
  rwa [bvs, ← List.map_drop, ← bvs] at this
set_option maxHeartbeats 2000000 in
theorem cuts_yes (A : Option Addr) (n c : Nat) (key : List UInt8) (B : Option Addr) (m d : Nat) (bl : List UInt8) (i j : Nat) (w : World) (ht : Tabs w) (hk : key.length = n) (hr : Row w A (bvs key)) (hc : n ≤ c) (hcm : c ≤ maxLen)
    (hb : bl.length = m) (hrb : Row w B (bvs bl)) (hd : m ≤ d) (hdm : d ≤ maxLen) (hn : n ≤ 2048) (hm : m ≤ 2048) (hij : i ≤ j) (hjm : j ≤ m) :
    Calls Tryd.prog 8 #[.slice A n c, .slice B m d, .int .i64 (i : Int), .int .i64 (j : Int)] w fun e w' => e = .returned (.bool true) ∧ Kp nob w w' := by
  have d1 : decide ((2048 : Int) < (n : Int)) = false := by simp; omega
  have d2 : decide ((2048 : Int) < (m : Int)) = false := by simp; omega
  have d3 : decide ((i : Int) < 0) = false := by simp
  have d4 : decide ((j : Int) < (i : Int)) = false := by simp; omega
  have d5 : decide ((m : Int) < (j : Int)) = false := by simp; omega
  have s1 := fun wx => slice_to B m d i (by omega) wx
  have s2 := fun wx => slice_of B m d i j hij (by omega) wx
  have s3 := fun wx => run_slice_from (P := Tryd.prog) _ _ u8s_under (fun _ => by kernel_rfl) B m d j hjm wx
  have s4 := fun wx => slice_to B m d j (by omega) wx
  have HK := Lib.hid hk; have HB := Lib.hid hb; have HCM := Lib.hid hcm; have HDM := Lib.hid hdm
  have HML := Lib.hid (mac_length key bl)
  have HQ := Lib.hid (eq_same key bl)
  have HIL := Lib.hid (ik_length key)
  have C1 : Hid (bl.take i ++ ((bl.take j).drop i ++ [] ++ bl.drop j) = bl) := Lib.hid (by
    rw [List.append_nil, ← List.append_assoc]
    have : bl.take i = (bl.take j).take i := by rw [List.take_take, Nat.min_eq_left hij]
    rw [this, List.take_append_drop, List.take_append_drop])
  have C2 : Hid (bl.take j ++ bl.drop j = bl) := Lib.hid (List.take_append_drop _ _)
  have L1 : Hid ((bl.take i).length = i) := Lib.hid (by rw [List.length_take, hb]; omega)
  have L2 : Hid (((bl.take j).drop i).length = j - i) := Lib.hid (by rw [List.length_drop, List.length_take, hb]; omega)
  have L3 : Hid ((bl.drop j).length = m - j) := Lib.hid (by rw [List.length_drop, hb])
  have L4 : Hid ((bl.take j).length = j) := Lib.hid (by rw [List.length_take, hb]; omega)
  clear hk hb hcm hdm
  go_enter Tryd.func8, Tryd.ntmps8
  go_wp2_with fail
  refine (alive_yes _ ht).mono ?_
  rintro e w1 ⟨rfl, k1⟩
  go_wp2_with fail
  refine (new_any A n c key w1 (ht.keep0 k1) HK.out (hr.keep0 k1) hc HCM.out (by omega)).mono ?_
  rintro e w2 ⟨b, h, rfl, hM, hH, k2, nb, nh⟩
  have K2 := k1.trans k2 (fun _ e => e.elim)
  have s1w := k1.size
  have hc0 := hM.hash
  have kd : Kp (oneB h) w2 w2.drew := (Kp.refl _ w2).drew
  have kd0 : Kp nob w2 w2.drew := (Kp.refl _ w2).drew
  have pB := fun {q : List UInt8} {X : Option Addr} (e : ab X = ab B) (hq : Row w X (bvs q)) => (show q = [] ∨ ∀ k, ab X = some k → ¬ oneB h k by
    by_cases hl : q = []
    · exact .inl hl
    · exact .inr (fun k e1 e2 => by have := hq.lt (by simpa [bvs] using hl) k e1; unfold oneB at e2; omega))
  have P1 := Lib.hid (pB (X := B) rfl (row_take hrb i))
  have P2 := Lib.hid (pB (X := cutA B d i) (ab_cut B d i) (row_cut (row_take hrb j) (by rw [L4.out]; omega)))
  have P3 := Lib.hid (pB (X := cutA B d j) (ab_cut B d j) (row_cut hrb (by rw [HB.out]; exact hd)))
  clear pB
  have hHd := hH.keep kd0 (fun e => e)
  have KD := K2.trans kd0 (fun _ e => e.elim)
  go_wp2
  go_region_held3 (fun w' => w'.cell? ⟨b, 0, none⟩ = some (.pointer (some ⟨h, 0, none⟩)) ∧ Kp (oneB h) w2 w')
    ((refine ⟨?_, ?_⟩ <;> first | assumption | exact Kp.alloc_drew (by assumption) _ | exact Kp.alloc (by assumption) _ | exact cell_alloc (by assumption) _))
    ((go_at_call 13
      refine (Sha.write_one h (ik key) ⟨B, i, d, bl.take i⟩ w2.drew _ _ (by simp) hHd (ht.keep0 KD) hM.far (Sha.pcs_one L1.out ((row_take hrb i).keep0 KD) P1.out (by show i ≤ d; omega) HDM.out) (by show (ik key).length + (bl.take i).length ≤ _; rw [HIL.out, L1.out]; omega)).mono ?_
      rintro e w3 ⟨rfl, h3, k3⟩
      have k23 := kd.trans k3 (fun _ e => .inl e)
      have M3 := hM.keep k23 (fun e => hM.ne e.symm)
      have c3 := M3.hash))
  have K3 := K2.since k23 (fun k e => by unfold oneB at e; omega)
  clear hc0 kd kd0 KD hHd hH k3 s1
  have kd : Kp (oneB h) w3 w3.drew := (Kp.refl _ w3).drew
  have kd0 : Kp nob w3 w3.drew := (Kp.refl nob w3).drew
  have hHd := h3.keep kd0 (fun e => e)
  have KD := K3.trans kd0 (fun _ e => e.elim)
  go_wp2
  go_region_held3 (fun w' => w'.cell? ⟨b, 0, none⟩ = some (.pointer (some ⟨h, 0, none⟩)) ∧ Kp (oneB h) w3 w')
    ((refine ⟨?_, ?_⟩ <;> first | assumption | exact Kp.alloc_drew (by assumption) _ | exact Kp.alloc (by assumption) _ | exact cell_alloc (by assumption) _))
    ((go_at_call 13
      refine (write3 h (ik key ++ bl.take i) ⟨cutA B d i, j - i, d - i, (bl.take j).drop i⟩ ⟨none, 0, 0, []⟩ ⟨cutA B d j, m - j, d - j, bl.drop j⟩ w3.drew _ _ (by simp) hHd (ht.keep0 KD) hM.far
        (pcs_cons (Sha.pcs_one L2.out ((row_cut (row_take hrb j) (by rw [L4.out]; omega)).keep0 KD) P2.out (by show j - i ≤ d - i; omega) (Nat.le_trans (Nat.sub_le _ _) HDM.out)) (pcs_cons (Sha.pcs_one rfl (Row.nil _ _) (.inl rfl) (Nat.le_refl _) (Nat.zero_le _)) (Sha.pcs_one L3.out ((row_cut hrb (by rw [HB.out]; exact hd)).keep0 KD) P3.out (by show m - j ≤ d - j; omega) (Nat.le_trans (Nat.sub_le _ _) HDM.out))))
        (by show (ik key ++ bl.take i).length + ((bl.take j).drop i ++ [] ++ bl.drop j).length ≤ _; simp only [List.length_append, HIL.out, L1.out, L2.out, L3.out, List.length_nil]; omega)).mono ?_
      rintro e w4 ⟨rfl, h4, k4⟩
      have k34 := kd.trans k4 (fun _ e => .inl e)
      have M4 := M3.keep k34 (fun e => M3.ne e.symm)
      have c4 := M4.hash))
  have K4 := K3.since k34 (fun k e => by unfold oneB at e; omega)
  rw [show ik key ++ bl.take i ++ (Pc.l ⟨cutA B d i, j - i, d - i, (bl.take j).drop i⟩ ++ Pc.l ⟨none, 0, 0, []⟩ ++ Pc.l ⟨cutA B d j, m - j, d - j, bl.drop j⟩) = ik key ++ bl by
    show ik key ++ bl.take i ++ ((bl.take j).drop i ++ [] ++ bl.drop j) = _
    rw [List.append_assoc, C1.out]] at h4
  clear c3 c4 kd kd0 KD hHd h3 k4 s2
  have q1 := conv_row w4 A n c key HK.out (hr.keep0 K4)
  have q2 := conv_row w4 B m d bl HB.out (hrb.keep0 K4)
  go_wp2_with fail
  refine (fMac (str key) (str bl) _ (by rw [str_size, HK.out]; omega) (by rw [str_size, HB.out]; omega)).mono ?_
  rintro e w5 ⟨rfl, k5⟩
  rw [sl_str, sl_str]
  obtain ⟨D, hD⟩ : ∃ D, D = mac key bl := ⟨_, rfl⟩
  rw [← hD] at HML HQ ⊢
  have HD := Lib.hid hD; clear hD q1 q2
  have K5 := K4.trans k5 (fun _ e => e.elim)
  go_wp2_with (refine wpList_store_new rfl 25 (.tmp 10) (.tmp 64) rfl _ (bvs D) rfl rfl (by rw [bvs_length, HML.out]; rfl) (by rw [bvs_length, HML.out]; kernel_rfl) (bvs_one _) ?_
               intro w6 hB6 k6 z6
               have K6 : Kp nob w w6 := K5.trans k6 (fun _ e => e.elim)
               have k46 : Kp nob w4 w6 := k5.trans k6 (fun _ e => e.elim)
               have hR6 : w6.drew.rangeAt w5.heap.size 0 (bvs D) := hB6.range
               clear k6 z6 hB6 k5 K5)
  have h32 := arr32b
  have hsz : (Tryd.prog.info? 25).map (·.size) = some (bvs D).length := by rw [bvs_length, HML.out]; kernel_rfl
  have hq := HQ.out
  have kd6 : Kp nob w w6.drew := K6.drew
  have kd46 : Kp nob w4 w6.drew := k46.drew
  have hS0 : w6.drew.rangeAt w5.heap.size 0 (bvs D) ∧ Kp nob w w6.drew ∧ Kp nob w4 w6.drew := ⟨hR6, kd6, kd46⟩
  refine reg_begin (fun w' => w'.rangeAt w5.heap.size 0 (bvs D) ∧ Kp nob w w' ∧ Kp nob w4 w') (by kernel_rfl) hS0 (fun _ => ?_)
  refine reg_take (v := ?v0) 0 (some 65) rfl rfl (by kernel_rfl) (by kernel_rfl) (by kernel_rfl) (by rfl) (by assumption) ?h0 ?r0
  case h0 => intro w hw; go_simp; try with_reducible rfl
  simp only [Act.put, List.setIfInBounds_toArray, List.set_cons_zero, List.set_cons_succ]
  refine reg_load 2 (some 67) 25 (.tmp 10) rfl rfl rfl (by kernel_rfl) (by kernel_rfl) (by kernel_rfl) (by rfl) (by assumption) w5.heap.size 0 rfl (bvs D) _ (fun _ h => h.1) h32 rfl hsz ?_
  simp only [Act.put, List.setIfInBounds_toArray, List.set_cons_zero, List.set_cons_succ]
  refine reg_call 1 (some 66) rfl rfl (by kernel_rfl) (by rfl) _ _ (by go_simp; exact ⟨rfl, rfl⟩) ?_
  refine (sum_any b h key bl _ (M4.keep kd46 (fun e => e)) (h4.keep kd46 (fun e => e)) (ht.keep0 kd6) (by rw [HB.out]; omega)).mono ?_
  rintro e w7 ⟨rfl, k7⟩
  rw [← HD.out]
  have R7 := range_keep hR6 k7 (fun e => e)
  have K7 : Kp nob w w7 := kd6.trans k7 (fun _ e => e.elim)
  have K47 : Kp nob w4 w7 := kd46.trans k7 (fun _ e => e.elim)
  have hS7 : w7.rangeAt w5.heap.size 0 (bvs D) ∧ Kp nob w w7 ∧ Kp nob w4 w7 := ⟨R7, K7, K47⟩
  refine ⟨_, rfl, hS7, fun _ => ?_⟩
  simp only [Act.put, List.setIfInBounds_toArray, List.set_cons_zero, List.set_cons_succ]
  refine reg_take (v := ?v3) 3 (some 68) rfl rfl (by kernel_rfl) (by kernel_rfl) (by kernel_rfl) (by rfl) (by assumption) ?h3 ?r3
  case h3 => intro w hw; go_simp; try with_reducible rfl
  simp only [Act.put, List.setIfInBounds_toArray, List.set_cons_zero, List.set_cons_succ]
  refine reg_take (v := ?v4) 4 (some 69) rfl rfl (by kernel_rfl) (by kernel_rfl) (by kernel_rfl) (by rfl) (by assumption) ?h4 ?r4
  case h4 => intro w hw; go_simp; try with_reducible rfl
  simp only [Act.put, List.setIfInBounds_toArray, List.set_cons_zero, List.set_cons_succ]
  refine reg_take (v := ?v5) 5 (some 70) rfl rfl (by kernel_rfl) (by kernel_rfl) (by kernel_rfl) (by rfl) (by assumption) ?h5 ?r5
  case h5 => intro w hw; go_simp; try with_reducible rfl
  simp only [Act.put, List.setIfInBounds_toArray, List.set_cons_zero, List.set_cons_succ]
  refine reg_take (v := ?v6) 6 (some 71) rfl rfl (by kernel_rfl) (by kernel_rfl) (by kernel_rfl) (by rfl) (by assumption) ?h6 ?r6
  case h6 => intro w hw; go_simp; try with_reducible rfl
  simp only [Act.put, List.setIfInBounds_toArray, List.set_cons_zero, List.set_cons_succ]
  refine reg_take (v := ?v7) 7 (some 72) rfl rfl (by kernel_rfl) (by kernel_rfl) (by kernel_rfl) (by rfl) (by assumption) ?h7 ?r7
  case h7 => intro w hw; go_simp; try with_reducible rfl
  simp only [Act.put, List.setIfInBounds_toArray, List.set_cons_zero, List.set_cons_succ]
  refine reg_take (v := ?v8) 8 (some 73) rfl rfl (by kernel_rfl) (by kernel_rfl) (by kernel_rfl) (by rfl) (by assumption) ?h8 ?r8
  case h8 => intro w hw; go_simp; try with_reducible rfl
  simp only [Act.put, List.setIfInBounds_toArray, List.set_cons_zero, List.set_cons_succ]
  refine reg_take (v := ?v9) 9 (some 74) rfl rfl (by kernel_rfl) (by kernel_rfl) (by kernel_rfl) (by rfl) (by assumption) ?h9 ?r9
  case h9 => intro w hw; go_simp; try with_reducible rfl
  simp only [Act.put, List.setIfInBounds_toArray, List.set_cons_zero, List.set_cons_succ]
  refine reg_take (v := ?v10) 10 (some 75) rfl rfl (by kernel_rfl) (by kernel_rfl) (by kernel_rfl) (by rfl) (by assumption) ?h10 ?r10
  case h10 => intro w hw; go_simp; try with_reducible rfl
  simp only [Act.put, List.setIfInBounds_toArray, List.set_cons_zero, List.set_cons_succ]
  refine reg_take (v := ?v11) 11 (some 76) rfl rfl (by kernel_rfl) (by kernel_rfl) (by kernel_rfl) (by rfl) (by assumption) ?h11 ?r11
  case h11 => intro w hw; go_simp; try with_reducible rfl
  simp only [Act.put, List.setIfInBounds_toArray, List.set_cons_zero, List.set_cons_succ]
  refine reg_load 14 (some 79) 25 (.tmp 10) rfl rfl rfl (by kernel_rfl) (by kernel_rfl) (by kernel_rfl) (by rfl) (by assumption) w5.heap.size 0 rfl (bvs D) _ (fun _ h => h.1) h32 rfl hsz ?_
  simp only [Act.put, List.setIfInBounds_toArray, List.set_cons_zero, List.set_cons_succ]
  have R7a := range_alloc R7 (.cells #[.slice B j d, .slice (cutA B d j) (m - j) (d - j)] 22)
  have hS8 : (w7.alloc (.cells #[.slice B j d, .slice (cutA B d j) (m - j) (d - j)] 22)).rangeAt w5.heap.size 0 (bvs D) ∧ Kp nob w (w7.alloc (.cells #[.slice B j d, .slice (cutA B d j) (m - j) (d - j)] 22)) ∧ Kp nob w4 (w7.alloc (.cells #[.slice B j d, .slice (cutA B d j) (m - j) (d - j)] 22)) := ⟨R7a, K7.alloc _, K47.alloc _⟩
  refine reg_step (w' := w7.alloc (.cells #[.slice B j d, .slice (cutA B d j) (m - j) (d - j)] 22)) (v := .slice (some ⟨w7.heap.size, 0, none⟩) 2 2) 12 (some 77) rfl rfl (by kernel_rfl) (by rfl) (by go_simp) hS8 (fun _ => ?_)
  simp only [Act.put, List.setIfInBounds_toArray, List.set_cons_zero, List.set_cons_succ]
  refine reg_call 13 (some 78) rfl rfl (by kernel_rfl) (by rfl) _ _ (by go_simp; exact ⟨rfl, rfl⟩) ?_
  refine (of_pcs2 A n c key ⟨B, j, d, bl.take j⟩ ⟨cutA B d j, m - j, d - j, bl.drop j⟩ w7 _ _ rfl (ht.keep0 K7) HK.out (hr.keep0 K7) hc HCM.out (by omega)
    (Sha.pcs_one L4.out ((row_take hrb j).keep0 K7) (.inr (fun _ _ e => e)) (by show j ≤ d; omega) HDM.out) (Sha.pcs_one L3.out ((row_cut hrb (by rw [HB.out]; exact hd)).keep0 K7) (.inr (fun _ _ e => e)) (by show m - j ≤ d - j; omega) (Nat.le_trans (Nat.sub_le _ _) HDM.out))
    (by show (bl.take j).length + (bl.drop j).length ≤ _; rw [L4.out, L3.out]; omega)).mono ?_
  rintro e w8 ⟨rfl, k8⟩
  rw [show mac key (Pc.l ⟨B, j, d, bl.take j⟩ ++ Pc.l ⟨cutA B d j, m - j, d - j, bl.drop j⟩) = D by show mac key (bl.take j ++ bl.drop j) = D; rw [C2.out, HD.out]]
  have R8 := range_keep R7 k8 (fun e => e)
  have K8 : Kp nob w w8 := K7.trans k8 (fun _ e => e.elim)
  have hS9 : w8.rangeAt w5.heap.size 0 (bvs D) ∧ Kp nob w w8 ∧ Kp nob w4 w8 := ⟨R8, K8, K47.trans k8 (fun _ e => e.elim)⟩
  refine ⟨_, rfl, hS9, fun _ => ?_⟩
  simp only [Act.put, List.setIfInBounds_toArray, List.set_cons_zero, List.set_cons_succ]
  refine reg_take (v := ?v15) 15 (some 80) rfl rfl (by kernel_rfl) (by kernel_rfl) (by kernel_rfl) (by rfl) (by assumption) ?h15 ?r15
  case h15 => intro w hw; go_simp; try with_reducible rfl
  simp only [Act.put, List.setIfInBounds_toArray, List.set_cons_zero, List.set_cons_succ]
  refine reg_take (v := ?v16) 16 (some 81) rfl rfl (by kernel_rfl) (by kernel_rfl) (by kernel_rfl) (by rfl) (by assumption) ?h16 ?r16
  case h16 => intro w hw; go_simp; try with_reducible rfl
  simp only [Act.put, List.setIfInBounds_toArray, List.set_cons_zero, List.set_cons_succ]
  refine reg_take (v := ?v17) 17 (some 8) rfl rfl (by kernel_rfl) (by kernel_rfl) (by kernel_rfl) (by rfl) (by assumption) ?h17 ?r17
  case h17 => intro w hw; go_simp; try with_reducible rfl
  simp only [Act.put, List.setIfInBounds_toArray, List.set_cons_zero, List.set_cons_succ]
  refine reg_end (by kernel_rfl) ?_
  go_wp2
  go_ret
  exact ⟨rfl, K8⟩

theorem cuts_walk (A : Option Addr) (n c : Nat) (key : List UInt8) (B : Option Addr) (m d : Nat) (bl : List UInt8) (i j : Int) (w : World) (ht : Tabs w) (hk : key.length = n) (_ : A = none → c = 0) (hr : Row w A (bvs key)) (hc : n ≤ c) (hcm : c ≤ maxLen)
    (hb : bl.length = m) (_ : B = none → d = 0) (hrb : Row w B (bvs bl)) (hd : m ≤ d) (hdm : d ≤ maxLen) (_ : (Lit.int .i64 i).wf = true) (_ : (Lit.int .i64 j).wf = true) :
    Calls Tryd.prog 8 #[.slice A n c, .slice B m d, .int .i64 i, .int .i64 j] w fun e w' => e = .returned (.bool true) ∧ Kp nob w w' := by
  by_cases h : 2048 < n ∨ 2048 < m ∨ i < 0 ∨ j < i ∨ (m : Int) < j
  · exact cuts_no A n c B m d i j w ht (by omega) (by omega) h
  · obtain ⟨x, rfl⟩ : ∃ x : Nat, i = x := ⟨i.toNat, by omega⟩
    obtain ⟨y, rfl⟩ : ∃ y : Nat, j = y := ⟨j.toNat, by omega⟩
    exact cuts_yes A n c key B m d bl x y w ht hk hr hc hcm hb hrb hd hdm (by omega) (by omega) (by omega) (by omega)
end Go.Proofs.YtdfpfiipcieabaaDoor.Hmac
