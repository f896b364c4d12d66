/- ShaApart: two hashes that go on by turns don't touch each other. -/
import Derived.Test.YtccdlchbfanmdaaDoorShaGoes
namespace Go.Proofs.YtccdlchbfanmdaaDoor.Sha
open Go Go.RowKit Kit

/-- what `joined` says of the pieces. -/
def Good (ps : List Pc) (m : Nat) : Prop := m ≤ 200 ∧ (catP ps).length ≤ 8192
theorem joined_no (A : Option Addr) (m c : Nat) (ps : List Pc) (w : World) (hm : ps.length = m) (hr : Row w A (ps.map Pc.v)) (hmm : m ≤ maxLen) (hp : PcsOk w nob ps) (hA : ∀ p ∈ ps, p.A = none → p.c = 0) (hn : ∀ p ∈ ps, p.n ≤ 140737488355328) (hg : ¬ Good ps m) :
    Calls Tryd.prog 10 #[.slice A m c] w fun e w' => e = .returned (.tuple #[.slice none 0 0, .bool false]) ∧ Kp nob w w' := by
  unfold Good at hg
  by_cases h : m ≤ 200
  · exact joined_long A m c ps w hm hr hp hA hn h (by omega)
  · exact joined_many A m c w (by omega) hmm

set_option maxHeartbeats 2000000 in
theorem apart_no (A : Option Addr) (m c : Nat) (ps : List Pc) (B : Option Addr) (n d : Nat) (qs : List Pc) (w : World) (ht : Tabs w)
    (hm : ps.length = m) (hr : Row w A (ps.map Pc.v)) (hmm : m ≤ maxLen) (hp : PcsOk w nob ps) (hA : ∀ p ∈ ps, p.A = none → p.c = 0) (hn : ∀ p ∈ ps, p.n ≤ 140737488355328)
    (gm : qs.length = n) (gr : Row w B (qs.map Pc.v)) (gmm : n ≤ maxLen) (gp : PcsOk w nob qs) (gA : ∀ p ∈ qs, p.A = none → p.c = 0) (gn : ∀ p ∈ qs, p.n ≤ 140737488355328)
    (hno : ¬ (Good ps m ∧ Good qs n ∧ m ≤ 20 ∧ n ≤ 20)) :
    Calls Tryd.prog 8 #[.slice A m c, .slice B n d] w fun e w' => e = .returned (.bool true) ∧ Kp nob w w' := by
  by_cases g1 : Good ps m
  · by_cases g2 : Good qs n
    · by_cases h20 : m ≤ 20
      · have h21 : 20 < n := by
          rcases Nat.lt_or_ge 20 n with h | h
          · exact h
          · exact absurd ⟨g1, g2, h20, h⟩ hno
        have d1 : decide ((20 : Int) < (m : Int)) = false := by simp; omega
        have d2 : decide ((20 : Int) < (n : Int)) = true := by simp; omega
        go_enter Tryd.func8, Tryd.ntmps8
        go_wp2_with fail
        refine (alive_yes _ ht).mono ?_
        rintro e w1 ⟨rfl, k1⟩
        go_wp2_with fail
        refine (joined_yes A m c ps _ hm (hr.keep0 k1) (hp.keep0 k1) hA g1.1 g1.2).mono ?_
        rintro e w2 ⟨X, cX, rfl, hX, k2, z2⟩
        have K2 := k1.trans k2 (fun _ e => e.elim)
        go_wp2_with fail
        refine (joined_yes B n d qs _ gm (gr.keep0 K2) (gp.keep0 K2) gA g2.1 g2.2).mono ?_
        rintro e w3 ⟨Y, cY, rfl, hY, k3, z3⟩
        go_wp2
        go_ret
        exact ⟨rfl, K2.trans k3 (fun _ e => e.elim)⟩
      · have d1 : decide ((20 : Int) < (m : Int)) = true := by simp; omega
        go_enter Tryd.func8, Tryd.ntmps8
        go_wp2_with fail
        refine (alive_yes _ ht).mono ?_
        rintro e w1 ⟨rfl, k1⟩
        go_wp2_with fail
        refine (joined_yes A m c ps _ hm (hr.keep0 k1) (hp.keep0 k1) hA g1.1 g1.2).mono ?_
        rintro e w2 ⟨X, cX, rfl, hX, k2, z2⟩
        have K2 := k1.trans k2 (fun _ e => e.elim)
        go_wp2_with fail
        refine (joined_yes B n d qs _ gm (gr.keep0 K2) (gp.keep0 K2) gA g2.1 g2.2).mono ?_
        rintro e w3 ⟨Y, cY, rfl, hY, k3, z3⟩
        go_wp2
        go_ret
        exact ⟨rfl, K2.trans k3 (fun _ e => e.elim)⟩
    · go_enter Tryd.func8, Tryd.ntmps8
      go_wp2_with fail
      refine (alive_yes _ ht).mono ?_
      rintro e w1 ⟨rfl, k1⟩
      go_wp2_with fail
      refine (joined_yes A m c ps _ hm (hr.keep0 k1) (hp.keep0 k1) hA g1.1 g1.2).mono ?_
      rintro e w2 ⟨X, cX, rfl, hX, k2, z2⟩
      have K2 := k1.trans k2 (fun _ e => e.elim)
      go_wp2_with fail
      refine (joined_no B n d qs _ gm (gr.keep0 K2) gmm (gp.keep0 K2) gA gn g2).mono ?_
      rintro e w3 ⟨rfl, k3⟩
      go_wp2
      go_ret
      exact ⟨rfl, K2.trans k3 (fun _ e => e.elim)⟩
  · by_cases g2 : Good qs n
    · go_enter Tryd.func8, Tryd.ntmps8
      go_wp2_with fail
      refine (alive_yes _ ht).mono ?_
      rintro e w1 ⟨rfl, k1⟩
      go_wp2_with fail
      refine (joined_no A m c ps _ hm (hr.keep0 k1) hmm (hp.keep0 k1) hA hn g1).mono ?_
      rintro e w2 ⟨rfl, k2⟩
      have K2 := k1.trans k2 (fun _ e => e.elim)
      go_wp2_with fail
      refine (joined_yes B n d qs _ gm (gr.keep0 K2) (gp.keep0 K2) gA g2.1 g2.2).mono ?_
      rintro e w3 ⟨Y, cY, rfl, hY, k3, z3⟩
      go_wp2
      go_ret
      exact ⟨rfl, K2.trans k3 (fun _ e => e.elim)⟩
    · go_enter Tryd.func8, Tryd.ntmps8
      go_wp2_with fail
      refine (alive_yes _ ht).mono ?_
      rintro e w1 ⟨rfl, k1⟩
      go_wp2_with fail
      refine (joined_no A m c ps _ hm (hr.keep0 k1) hmm (hp.keep0 k1) hA hn g1).mono ?_
      rintro e w2 ⟨rfl, k2⟩
      have K2 := k1.trans k2 (fun _ e => e.elim)
      go_wp2_with fail
      refine (joined_no B n d qs _ gm (gr.keep0 K2) gmm (gp.keep0 K2) gA gn g2).mono ?_
      rintro e w3 ⟨rfl, k3⟩
      go_wp2
      go_ret
      exact ⟨rfl, K2.trans k3 (fun _ e => e.elim)⟩

/-- the cell of a piece, and the piece. -/
theorem piece_at {w wr : World} {A : Option Addr} {ps : List Pc} {F : Nat → Prop} (hr : Row w A (ps.map Pc.v)) (hp : PcsOk w F ps) (hp0 : PcsOk w nob ps) (K : Kp nob w wr) {k : Nat} (h : k < ps.length) :
    ∃ p bb oo, A = some ⟨bb, oo, none⟩ ∧ wr.cell? ⟨bb, oo + k, none⟩ = some (.slice p.A p.n p.c) ∧ PcsOk wr F [p] ∧ catP (ps.take (k + 1)) = catP (ps.take k) ++ p.l ∧ (catP (ps.take k)).length + p.l.length ≤ (catP ps).length := by
  obtain ⟨bb, oo, rfl, hbb, hcell⟩ := (hr.keep0 K).at_ (i := k) (by simpa using h)
  obtain ⟨q1, q2, q3, q4, q5⟩ := hp ps[k] (List.getElem_mem h)
  exact ⟨ps[k], bb, oo, rfl, by rw [hcell]; simp [Pc.v], pcs_one q1 (q2.keep0 K) q3 q4 q5, catP_snoc ps k h, by have := catP_le ps (k + 1); rwa [catP_snoc ps k h, List.length_append] at this⟩
theorem take_past (ps : List Pc) (k : Nat) (h : ps.length ≤ k) : catP (ps.take (k + 1)) = catP (ps.take k) := by
  rw [List.take_of_length_le h, List.take_of_length_le (by omega)]
/-- Two blocks. -/
def twoB (a b : Nat) : Nat → Prop := fun k => k = a ∨ k = b

set_option maxHeartbeats 4000000 in
theorem apart_yes (A : Option Addr) (m c : Nat) (ps : List Pc) (B : Option Addr) (n d : Nat) (qs : List Pc) (w : World) (ht : Tabs w)
    (hm : ps.length = m) (hr : Row w A (ps.map Pc.v)) (hp : PcsOk w nob ps) (hA : ∀ p ∈ ps, p.A = none → p.c = 0)
    (gm : qs.length = n) (gr : Row w B (qs.map Pc.v)) (gp : PcsOk w nob qs) (gA : ∀ p ∈ qs, p.A = none → p.c = 0)
    (g1 : Good ps m) (g2 : Good qs n) (h20 : m ≤ 20) (h21 : n ≤ 20) :
    Calls Tryd.prog 8 #[.slice A m c, .slice B n d] w fun e w' => e = .returned (.bool true) ∧ Kp nob w w' := by
  have d1 : decide ((20 : Int) < (m : Int)) = false := by simp; omega
  have d2 : decide ((20 : Int) < (n : Int)) = false := by simp; omega
  go_enter Tryd.func8, Tryd.ntmps8
  go_wp2_with fail
  refine (alive_yes _ ht).mono ?_
  rintro e w1 ⟨rfl, k1⟩
  go_wp2_with fail
  refine (joined_yes A m c ps _ hm (hr.keep0 k1) (hp.keep0 k1) hA g1.1 g1.2).mono ?_
  rintro e w2 ⟨X, cX, rfl, hX, k2, z2⟩
  have K2 := k1.trans k2 (fun _ e => e.elim)
  go_wp2_with fail
  refine (joined_yes B n d qs _ gm (gr.keep0 K2) (gp.keep0 K2) gA g2.1 g2.2).mono ?_
  rintro e w3 ⟨Y, cY, rfl, hY, k3, z3⟩
  have K3 := K2.trans k3 (fun _ e => e.elim)
  have T3 := ht.keep0 K3
  have l1 := g1.2
  have l2 := g2.2
  have HG1 := Lib.hid l1; have HG2 := Lib.hid l2
  clear g1 g2
  go_wp2_with fail
  refine (new_any _ T3).mono ?_
  rintro e w4 ⟨a, rfl, h4, k4, n4⟩
  have K4 := K3.trans k4 (fun _ e => e.elim)
  have T4 := ht.keep0 K4
  go_wp2_with fail
  refine (new_any _ T4).mono ?_
  rintro e w5 ⟨b, rfl, h5, k5, n5⟩
  have K5 := K4.trans k5 (fun _ e => e.elim)
  have h45 := h4.keep k5 (fun e => e)
  have f1 : Far a := T3.far n4
  have f2 : Far b := T4.far n5
  have hlt := h4.lt
  have hab : a ≠ b := by omega
  have hwa : w.heap.size ≤ a := Nat.le_trans K3.size n4
  have hwb : w.heap.size ≤ b := Nat.le_trans K4.size n5
  have hX3 := hX.keep k3 (fun _ _ e => e)
  have fX : ∀ k, ab X = some k → ¬ twoB a b k := fun k e e' => by have := hX3.lt k e; rcases e' with e' | e' <;> omega
  have fY : ∀ k, ab Y = some k → ¬ twoB a b k := fun k e e' => by have := hY.lt k e; rcases e' with e' | e' <;> omega
  have hX5 := (hX3.keep k4 (fun _ _ e => e)).keep k5 (fun _ _ e => e)
  have hY5 := (hY.keep k4 (fun _ _ e => e)).keep k5 (fun _ _ e => e)
  have p1 := hp.old (twoB a b) (fun k e => by rcases e with e | e <;> omega)
  have p2 := gp.old (twoB a b) (fun k e => by rcases e with e | e <;> omega)
  clear h4 hX hY hX3 k1 k2 k3 k4 k5 K2 K3 K4 T3 T4 z2 z3
  go_wp2
  go_loopw [11] (fun vi wr => ∃ k : Nat, k ≤ m + n ∧ vi = .int .i64 k ∧ Has wr a (catP (ps.take k)) ∧ Has wr b (catP (qs.take k)) ∧ Kp (twoB a b) w5 wr)
    (fun vi _ => m + n - (intOf vi).toNat)
  case atStart => exact ⟨0, by omega, rfl, by simpa [catP] using h45, by simpa [catP] using h5, Kp.refl _ _⟩
  case round =>
    obtain ⟨k, hk, rfl, oa, ob, kr⟩ := hrel
    have KR : Kp nob w wr := K5.since kr (fun i e => by rcases e with e | e <;> omega)
    have TR := ht.keep0 KR
    by_cases ha : k < m
    · by_cases hb : k < n
      · obtain ⟨p, pb, po, rfl, hc1, q1, hs1, hl1⟩ := piece_at hr p1 hp KR (k := k) (by omega)
        have HL1 := Lib.hid (Nat.le_trans hl1 HG1.out); have HS1 := Lib.hid hs1
        clear hl1 hs1
        go_wp2_with fail
        refine (write_one a _ p wr 24 _ rfl oa TR f1 (q1.mono (fun _ e => .inl e)) (Nat.le_trans HL1.out (by omega))).mono ?_
        rintro e w6 ⟨rfl, h6, k6⟩
        have KR6 : Kp nob w w6 := KR.since k6 (fun i e => by unfold oneB at e; omega)
        have kr6 : Kp (twoB a b) w5 w6 := kr.trans k6 (fun _ e => .inl (.inl e))
        have ob6 := ob.keep k6 (fun e => by unfold oneB at e; omega)
        obtain ⟨q, qb, qo, rfl, hc2, q2, hs2, hl2⟩ := piece_at gr p2 gp KR6 (k := k) (by omega)
        have HL2 := Lib.hid (Nat.le_trans hl2 HG2.out); have HS2 := Lib.hid hs2
        clear hl2 hs2 hc1
        go_wp2_with fail
        refine (write_one b _ q w6 24 _ rfl ob6 (ht.keep0 KR6) f2 (q2.mono (fun _ e => .inr e)) (Nat.le_trans HL2.out (by omega))).mono ?_
        rintro e w7 ⟨rfl, h7, k7⟩
        have h67 := h6.keep k7 (fun e => by unfold oneB at e; omega)
        clear hc2
        go_wp2
        go_roundw
        case rel => exact ⟨k + 1, by omega, by go_num, by rw [HS1.out]; exact h67, by rw [HS2.out]; exact h7, kr6.trans k7 (fun _ e => .inl (.inr e))⟩
        case measure => simp [intOf]; omega
      · have e2 := take_past qs k (by omega)
        have HE2 := Lib.hid e2
        clear e2
        obtain ⟨p, pb, po, rfl, hc1, q1, hs1, hl1⟩ := piece_at hr p1 hp KR (k := k) (by omega)
        have HL1 := Lib.hid (Nat.le_trans hl1 HG1.out); have HS1 := Lib.hid hs1
        clear hl1 hs1
        go_wp2_with fail
        refine (write_one a _ p wr 24 _ rfl oa TR f1 (q1.mono (fun _ e => .inl e)) (Nat.le_trans HL1.out (by omega))).mono ?_
        rintro e w6 ⟨rfl, h6, k6⟩
        have kr6 : Kp (twoB a b) w5 w6 := kr.trans k6 (fun _ e => .inl (.inl e))
        have ob6 := ob.keep k6 (fun e => by unfold oneB at e; omega)
        clear hc1
        go_wp2
        go_roundw
        case rel => exact ⟨k + 1, by omega, by go_num, by rw [HS1.out]; exact h6, by rw [HE2.out]; exact ob6, kr6⟩
        case measure => simp [intOf]; omega
    · by_cases hb : k < n
      · have e1 := take_past ps k (by omega)
        have HE1 := Lib.hid e1
        clear e1
        obtain ⟨q, qb, qo, rfl, hc2, q2, hs2, hl2⟩ := piece_at gr p2 gp KR (k := k) (by omega)
        have HL2 := Lib.hid (Nat.le_trans hl2 HG2.out); have HS2 := Lib.hid hs2
        clear hl2 hs2
        go_wp2_with fail
        refine (write_one b _ q wr 24 _ rfl ob TR f2 (q2.mono (fun _ e => .inr e)) (Nat.le_trans HL2.out (by omega))).mono ?_
        rintro e w7 ⟨rfl, h7, k7⟩
        have oa7 := oa.keep k7 (fun e => by unfold oneB at e; omega)
        clear hc2
        go_wp2
        go_roundw
        case rel => exact ⟨k + 1, by omega, by go_num, by rw [HE1.out]; exact oa7, by rw [HS2.out]; exact h7, kr.trans k7 (fun _ e => .inl (.inr e))⟩
        case measure => simp [intOf]; omega
      · have e1 : ps.take k = ps := List.take_of_length_le (by omega)
        have e2 : qs.take k = qs := List.take_of_length_le (by omega)
        rw [e1] at oa
        rw [e2] at ob
        have hX6 := hX5.keep kr fX
        have hY6 := hY5.keep kr fY
        have nX := own_none hX6
        have nY := own_none hY6
        have hq1 := eq_same (catP ps)
        have hq2 := eq_same (catP qs)
        obtain ⟨N1, hN1⟩ : ∃ N, N = (catP ps).length := ⟨_, rfl⟩
        obtain ⟨N2, hN2⟩ : ∃ N, N = (catP qs).length := ⟨_, rfl⟩
        rw [← hN1] at hX6 l1 ⊢
        rw [← hN2] at hY6 l2 ⊢
        have HN1 := Lib.hid hN1; have HN2 := Lib.hid hN2
        have M1 : Hid ((catP ps).length ≤ 1099511627776) := Lib.hid (Nat.le_trans HG1.out (by omega))
        have M2 : Hid ((catP qs).length ≤ 1099511627776) := Lib.hid (Nat.le_trans HG2.out (by omega))
        clear e1 e2 hN1 hN2 hX5 hY5
        go_wp2_with fail
        refine (sum_any a (catP ps) wr oa TR M1.out).mono ?_
        rintro e w6 ⟨rfl, k6⟩
        go_wp2_with fail
        refine (fOf X N1 cX (catP ps) w6 HN1.out.symm (by omega) nX (hX6.row.keep0 k6)).mono ?_
        rintro e w7 ⟨rfl, k7⟩
        have K7 := k6.trans k7 (fun _ e => e.elim)
        go_wp2_with fail
        refine (sum_any b (catP qs) w7 (ob.keep K7 (fun e => e)) (TR.keep0 K7) M2.out).mono ?_
        rintro e w8 ⟨rfl, k8⟩
        have K8 := K7.trans k8 (fun _ e => e.elim)
        go_wp2_with fail
        refine (fOf Y N2 cY (catP qs) w8 HN2.out.symm (by omega) nY (hY6.row.keep0 K8)).mono ?_
        rintro e w9 ⟨rfl, k9⟩
        go_wp2
        go_ret
        exact ⟨rfl, (KR.trans K8 (fun _ e => e.elim)).trans k9 (fun _ e => e.elim)⟩
theorem apart_any (A : Option Addr) (m c : Nat) (ps : List Pc) (B : Option Addr) (n d : Nat) (qs : List Pc) (w : World) (ht : Tabs w)
    (hm : ps.length = m) (hr : Row w A (ps.map Pc.v)) (hmm : m ≤ maxLen) (hp : PcsOk w nob ps) (hA : ∀ p ∈ ps, p.A = none → p.c = 0) (hn : ∀ p ∈ ps, p.n ≤ 140737488355328)
    (gm : qs.length = n) (gr : Row w B (qs.map Pc.v)) (gmm : n ≤ maxLen) (gp : PcsOk w nob qs) (gA : ∀ p ∈ qs, p.A = none → p.c = 0) (gn : ∀ p ∈ qs, p.n ≤ 140737488355328) :
    Calls Tryd.prog 8 #[.slice A m c, .slice B n d] w fun e w' => e = .returned (.bool true) ∧ Kp nob w w' := by
  by_cases h : Good ps m ∧ Good qs n ∧ m ≤ 20 ∧ n ≤ 20
  · exact apart_yes A m c ps B n d qs w ht hm hr hp hA gm gr gp gA h.1 h.2.1 h.2.2.1 h.2.2.2
  · exact apart_no A m c ps B n d qs w ht hm hr hmm hp hA hn gm gr gmm gp gA gn h
end Go.Proofs.YtccdlchbfanmdaaDoor.Sha
