/- CodeOne: bytes that are read to their end without a fault are those that what was answered is written as. -/
import Derived.Test.YtenihiphcbheeaaCodeP
namespace Go.Proofs.Ytenihiphcbheeaa
open Go Go.RowKit Kit

set_option maxHeartbeats 1000000 in
theorem one_long (A : Option Addr) (n c : Nat) (B : Option Addr) (m d : Nat) (w : World) (hn : 16384 < n ∨ 200 < m) (hm : n ≤ maxLen) (hd : m ≤ maxLen) :
    Calls Try.prog 6 #[.slice A n c, .slice B m d] w fun e w' => e = .returned (.bool true) ∧ Kp nob w w' := by
  unfold maxLen at hm hd
  by_cases h : 16384 < n
  · go_enter Try.func6, Try.ntmps6
    go_wp2_with (go_at_call 9; refine (alive_yes _).mono ?_; rintro e w1 ⟨rfl, hk⟩)
    go_ret
    exact ⟨rfl, hk⟩
  · have h2 : 200 < m := by omega
    go_enter Try.func6, Try.ntmps6
    go_wp2_with (go_at_call 9; refine (alive_yes _).mono ?_; rintro e w1 ⟨rfl, hk⟩)
    go_ret
    exact ⟨rfl, hk⟩

/-- What the calls read, and what is written of it. -/
def oneStep (p : PartD) (s : List UInt8 × Bool) : List UInt8 × (List UInt8 × Bool) :=
  if p.kind = 0 then (num8 (sNum s).1, (sNum s).2)
  else if p.kind = 1 then (textB (str (sText s p.n).1), (sText s p.n).2)
  else if p.kind = 2 then ((sTake s p.n).1.1, (sTake s p.n).2)
  else if p.kind = 3 then (num8 (sIn s p.lo p.hi).1, (sIn s p.lo p.hi).2)
  else ([], s)
def oneAll : List PartD → List UInt8 × (List UInt8 × Bool) → List UInt8 × (List UInt8 × Bool)
  | [], x => x
  | p :: ps, x => oneAll ps (x.1 ++ (oneStep p x.2).1, (oneStep p x.2).2)
theorem oneAll_snoc (ps : List PartD) (p : PartD) (x : List UInt8 × (List UInt8 × Bool)) :
    oneAll (ps ++ [p]) x = ((oneAll ps x).1 ++ (oneStep p (oneAll ps x).2).1, (oneStep p (oneAll ps x).2).2) := by
  induction ps generalizing x with
  | nil => rfl
  | cons q ps ih => simp only [List.cons_append, oneAll, ih]

/-- Numbers and texts, there and back. -/
theorem num8_back (l : List UInt8) (h : l.length = 8) : num8 (wrap64 (lowN l : Nat)) = l := by
  have h1 := lowN_lt l
  rw [h] at h1
  have e : (wrap64 (lowN l : Nat) % 18446744073709551616).toNat = lowN l := by
    have := IntKind.wrap_i64 (lowN l : Nat)
    simp only [wrap64] at *
    omega
  unfold num8
  rw [e, ← h]
  exact le_lowN l
theorem sTake_split (s : List UInt8 × Bool) (n : Int) (h : (sTake s n).2.2 = false) : (sTake s n).1.1 ++ (sTake s n).2.1 = s.1 ∧ s.2 = false ∧ ((sTake s n).1.1.length : Int) = n := by
  unfold sTake at *
  split at h <;> rename_i hc
  · simp only [can, decide_eq_true_eq] at hc
    rw [if_pos (by simpa [can] using hc)]
    refine ⟨List.take_append_drop _ _, hc.1, ?_⟩
    simp only [List.length_take]; omega
  · simp [bust] at h
theorem oneStep_split (p : PartD) (s : List UInt8 × Bool) (h : (oneStep p s).2.2 = false) : (oneStep p s).1 ++ (oneStep p s).2.1 = s.1 ∧ s.2 = false := by
  unfold oneStep at *
  split at h
  · rename_i hk
    rw [if_pos hk] at *
    simp only [sNum] at *
    have := sTake_split s 8 h
    refine ⟨?_, this.2.1⟩
    rw [num8_back _ (by omega)]
    exact this.1
  · rename_i hk
    rw [if_neg hk]
    split at h
    · rename_i hk1
      rw [if_pos hk1]
      unfold sText at *
      split at h
      · simp [bust] at h
      · rename_i hmin
        rw [if_neg hmin]
        have h2 := sTake_split _ _ h
        have h1 := sTake_split s 3 h2.2.1
        refine ⟨?_, h1.2.1⟩
        have hN := lowN_lt (sTake s 3).1.1
        rw [show (sTake s 3).1.1.length = 3 by omega] at hN
        have hlen : (sTake (sTake s 3).2 (lowN (sTake s 3).1.1 : Nat)).1.1.length = lowN (sTake s 3).1.1 := by omega
        simp only [textB, str_size, sl_str, hlen, if_pos hN]
        rw [List.append_assoc, h2.1]
        have := le_lowN (sTake s 3).1.1
        rw [show (sTake s 3).1.1.length = 3 by omega] at this
        rw [this, h1.1]
    · rename_i hk1
      rw [if_neg hk1]
      split at h
      · rename_i hk2
        rw [if_pos hk2]
        have := sTake_split s p.n h
        exact ⟨this.1, this.2.1⟩
      · rename_i hk2
        rw [if_neg hk2]
        split at h
        · rename_i hk3
          rw [if_pos hk3]
          unfold sIn at *
          split at h
          · simp [bust] at h
          · rename_i hio
            rw [if_neg hio]
            simp only [sNum] at *
            have := sTake_split s 8 h
            refine ⟨?_, this.2.1⟩
            rw [num8_back _ (by omega)]
            exact this.1
        · rename_i hk3
          rw [if_neg hk3]
          exact ⟨rfl, h⟩
theorem oneAll_split (ps : List PartD) (x : List UInt8 × (List UInt8 × Bool)) (h : (oneAll ps x).2.2 = false) : (oneAll ps x).1 ++ (oneAll ps x).2.1 = x.1 ++ x.2.1 ∧ x.2.2 = false := by
  induction ps generalizing x with
  | nil => exact ⟨rfl, h⟩
  | cons p ps ih =>
    have h1 := ih _ h
    have h2 := oneStep_split p x.2 h1.2
    refine ⟨?_, h2.2⟩
    simp only [oneAll]
    rw [h1.1, List.append_assoc, h2.1]
/-- Bytes that are read to their end without a fault are what is written. -/
theorem one_law (ps : List PartD) (l : List UInt8) (h : (!(oneAll ps ([], (l, false))).2.2 && (oneAll ps ([], (l, false))).2.1.isEmpty) = true) : (oneAll ps ([], (l, false))).1 = l := by
  simp only [Bool.and_eq_true, Bool.not_eq_true', List.isEmpty_iff] at h
  have := (oneAll_split ps ([], (l, false)) h.1).1
  rw [h.2] at this
  simpa using this

theorem textB_str_le (l : List UInt8) : (textB (str l)).length ≤ 3 + l.length := by have := textB_le (str l); simpa using this
theorem oneAll_len (ps : List PartD) (x : List UInt8 × (List UInt8 × Bool)) (N : Nat) (hN : x.2.1.length ≤ N) : (oneAll ps x).1.length ≤ x.1.length + ps.length * (8 + N) ∧ (oneAll ps x).2.1.length ≤ N := by
  induction ps generalizing x with
  | nil => exact ⟨by simp [oneAll], hN⟩
  | cons p ps ih =>
    have hs : ∀ s n, s.1.length ≤ N → (sTake s n).1.1.length ≤ N ∧ (sTake s n).2.1.length ≤ N := by
      intro s n h
      unfold sTake
      split
      · simp; omega
      · simp [bust]
    have hp : (oneStep p x.2).1.length ≤ 8 + N ∧ (oneStep p x.2).2.1.length ≤ N := by
      unfold oneStep
      split
      · have := hs x.2 8 hN; simp [sNum]; omega
      · split
        · have h1 := hs x.2 3 hN
          unfold sText
          split
          · have := textB_str_le []; simp only [bust, List.length_nil] at *; omega
          · have h2 := hs (sTake x.2 3).2 (lowN (sTake x.2 3).1.1 : Nat) h1.2
            have h3 := textB_str_le (sTake (sTake x.2 3).2 (lowN (sTake x.2 3).1.1 : Nat)).1.1
            simp only; omega
        · split
          · have := hs x.2 p.n hN; simp only; omega
          · split
            · unfold sIn
              split
              · simp [bust]
              · have := hs x.2 8 hN; simp [sNum]; omega
            · simp; omega
    have h := ih (x.1 ++ (oneStep p x.2).1, (oneStep p x.2).2) hp.2
    simp only [oneAll, List.length_cons, List.length_append] at h ⊢
    refine ⟨?_, h.2⟩
    rw [Nat.add_mul]
    omega

theorem isW_far {wr w4 : World} {wb rb N : Nat} {A' R' : Option Addr} {l : List UInt8} {s' : List UInt8 × Bool} {O : Obj} (oW : IsW wr wb A' l) (nW : ∀ j, WF wb A' j → N ≤ j) (hrb : rb < N) (h4 : RPost (wr.alloc O) rb R' s' w4) : IsW w4 wb A' l := by
  obtain ⟨R4, _, k4, _⟩ := h4
  exact (oW.alloc O).keep k4 (fun j e e' => by unfold oneF at e'; have := nW j e; omega)
theorem pair_step {w wr w4 w5 : World} {wb rb N z : Nat} {A' R' : Option Addr} {l' : List UInt8} {s' : List UInt8 × Bool} {O : Obj}
    (kr : Kp nob w wr) (nW : ∀ j, WF wb A' j → N ≤ j) (nR : ∀ j, WF rb R' j → j < N) (hN : w.heap.size ≤ N) (hrb : w.heap.size ≤ rb)
    (h4 : RPost (wr.alloc O) rb R' s' w4) (h5 : WPost w4 wb A' l' w5) (gr : Grew none A' z) (hz : z ≤ wr.heap.size) :
    ∃ A'' R'', IsW w5 wb A'' l' ∧ IsR w5 rb R'' s'.1 s'.2 ∧ Kp nob w w5 ∧ Grew none A'' z ∧ (ab R'' = ab R' ∨ ab R'' = none) ∧ z ≤ w5.heap.size := by
  obtain ⟨R4, r4, k4, a4⟩ := h4
  obtain ⟨A5, o5, k5, g5⟩ := h5
  have z4 : wr.heap.size + 1 ≤ w4.heap.size := by have := k4.size; simpa using this
  have z5 := k5.size
  refine ⟨A5, R4, o5, r4.keep k5 (fun j e e' => ?_), ((kr.alloc O).since k4 (fun j e => by unfold oneF at e; omega)).since k5 (fun j e => Nat.le_trans hN (nW j e)), gr.trans g5 (by omega), a4, by omega⟩
  have h1 := nW j e'
  have h2 : j < N := by
    rcases e with rfl | e
    · exact nR _ (.inl rfl)
    · rcases a4 with h | h
      · exact nR j (.inr (by rw [← h]; exact e))
      · rw [h] at e; cases e
  omega

set_option maxHeartbeats 4000000 in
theorem one_short (A : Option Addr) (n c : Nat) (l : List UInt8) (B : Option Addr) (m d : Nat) (ps : List PartD) (w : World) (hl : l.length = n) (hn : n ≤ 16384) (hA : A = none → c = 0) (hr : Row w A (bvs l)) (hm : ps.length = m) (hm2 : m ≤ 200) (hp : RowP w B ps) :
    Calls Try.prog 6 #[.slice A n c, .slice B m d] w fun e w' => e = .returned (.bool true) ∧ Kp nob w w' := by
  subst hl
  go_enter Try.func6, Try.ntmps6
  go_wp2_with fail
  refine (alive_yes _).mono ?_
  rintro e w1 ⟨rfl, s1⟩
  go_wp2_with fail
  refine (rRead2 A l.length c l _ rfl (by omega) hA (hr.keep0 s1)).mono ?_
  rintro e w2 ⟨rb, R2, rfl, hR2, k2, n2, u2⟩
  have s2 := s1.trans k2 (fun _ e => e.elim)
  have hW3 := isW_new w2
  have hR3 := hR2.alloc (.cells #[.slice none 0 0] 49)
  have s3 : Kp nob w (w2.alloc (.cells #[.slice none 0 0] 49)) := s2.alloc _
  obtain ⟨w3, hw3⟩ : ∃ w3, w3 = w2.alloc (.cells #[.slice none 0 0] 49) := ⟨_, rfl⟩
  rw [← hw3] at hW3 hR3 s3
  have hz3 : w2.heap.size + 1 = w3.heap.size := by rw [hw3]; simp
  have h1w : w1.heap.size ≤ w2.heap.size := k2.size
  have HZ := Lib.hid hz3; clear hz3
  go_wp2
  rw [← hw3]
  have HW3 := Lib.hid hw3; clear hw3 hR2
  go_loopw [27] (fun i wr => ∃ (k : Nat) (A' R' : Option Addr), k ≤ m ∧ i = .int .i64 k ∧ IsW wr w2.heap.size A' (oneAll (ps.take k) ([], (l, false))).1 ∧ IsR wr rb R' (oneAll (ps.take k) ([], (l, false))).2.1 (oneAll (ps.take k) ([], (l, false))).2.2 ∧ Kp nob w wr ∧ Grew none A' w3.heap.size ∧ (ab R' = ab R2 ∨ ab R' = none) ∧ w3.heap.size ≤ wr.heap.size)
    (fun i _ => m - (intOf i).toNat)
  case atStart => exact ⟨0, none, R2, Nat.zero_le _, rfl, by simpa [oneAll] using hW3, by simpa [oneAll] using hR3, s3, Grew.refl _ _, .inl rfl, Nat.le_refl _⟩
  case round =>
    obtain ⟨k, A', R', hk, rfl, oW, oR, kr, gr, aR, zr⟩ := hrel
    have nW : ∀ j, WF w2.heap.size A' j → w2.heap.size ≤ j := WF.ge (Nat.le_refl _) (gr.ge (fun j e => by cases e) (by have := HZ.out; omega))
    have nR : ∀ j, WF rb R' j → j < w2.heap.size := by
      rintro j (rfl | e)
      · exact u2 _ (.inl rfl)
      · rcases aR with h | h
        · exact u2 j (.inr (by rw [← h]; exact e))
        · rw [h] at e; cases e
    have nR1 : w1.heap.size ≤ rb := n2 rb (.inl rfl)
    have hb := oneAll_len (ps.take k) ([], (l, false)) l.length (Nat.le_refl _)
    have hlen : (oneAll (ps.take k) ([], (l, false))).1.length ≤ 3400000 := by
      have h1 := hb.1
      have h2 : (ps.take k).length * (8 + l.length) ≤ 200 * (8 + 16384) := Nat.mul_le_mul (by rw [List.length_take]; omega) (by omega)
      simp only [List.length_nil] at h1
      omega
    have hlen2 : (oneAll (ps.take k) ([], (l, false))).2.1.length ≤ 16384 := Nat.le_trans hb.2 hn
    clear hb
    by_cases hlt : k < m
    · obtain ⟨p, hpk⟩ : ∃ p, ps[k]? = some p := ⟨_, List.getElem?_eq_getElem (by omega)⟩
      obtain ⟨bb, oo, rfl, hbb, hcells⟩ := (hp.keep0 kr).at_ (i := k) (by omega)
      have hpe : ps[k]'(by omega) = p := by rw [List.getElem?_eq_getElem (by omega)] at hpk; simpa using hpk
      rw [hpe] at hcells
      have hsn : oneAll (ps.take (k + 1)) ([], (l, false)) = ((oneAll (ps.take k) ([], (l, false))).1 ++ (oneStep p (oneAll (ps.take k) ([], (l, false))).2).1, (oneStep p (oneAll (ps.take k) ([], (l, false))).2).2) := by rw [List.take_add_one, hpk]; exact oneAll_snoc (ps.take k) p ([], (l, false))
      obtain ⟨x, hx⟩ : ∃ x, x = oneAll (ps.take k) ([], (l, false)) := ⟨_, rfl⟩
      rw [← hx] at hsn oW oR hlen hlen2
      have HS := Lib.hid hsn; have HX := Lib.hid hx; have HP := Lib.hid hpk; have HPE := Lib.hid hpe
      clear hsn hx hpk hpe
      obtain ⟨hc0, hc1, hc2, hc3, hc4⟩ := hcells
      have fin : ∀ (w' : World) (A'' R'' : Option Addr), IsW w' w2.heap.size A'' (x.1 ++ (oneStep p x.2).1) → IsR w' rb R'' (oneStep p x.2).2.1 (oneStep p x.2).2.2 → Kp nob w w' → Grew none A'' w3.heap.size → (ab R'' = ab R' ∨ ab R'' = none) → w3.heap.size ≤ w'.heap.size →
          ∃ (k' : Nat) (A' R' : Option Addr), k' ≤ m ∧ Value.int .i64 (k + 1) = .int .i64 k' ∧ IsW w' w2.heap.size A' (oneAll (ps.take k') ([], (l, false))).1 ∧ IsR w' rb R' (oneAll (ps.take k') ([], (l, false))).2.1 (oneAll (ps.take k') ([], (l, false))).2.2 ∧ Kp nob w w' ∧ Grew none A' w3.heap.size ∧ (ab R' = ab R2 ∨ ab R' = none) ∧ w3.heap.size ≤ w'.heap.size := by
        intro w' A'' R'' q1 q2 q3 q4 q5 q6
        refine ⟨k + 1, A'', R'', by omega, by go_num, by rw [HS.out]; exact q1, by rw [HS.out]; exact q2, q3, q4, ?_, q6⟩
        rcases q5 with q | q
        · rcases aR with h | h
          · exact .inl (q.trans h)
          · exact .inr (q.trans h)
        · exact .inr q
      have FIN := Lib.hid fin; clear fin
      have hN : w.heap.size ≤ w2.heap.size := s2.size
      have hrbw : w.heap.size ≤ rb := Nat.le_trans s1.size nR1
      have hrbN := nR rb (.inl rfl)
      have HSTEP := fun (w4 w5 : World) (s' : List UInt8 × Bool) (l' : List UInt8) (O : Obj) (h4 : RPost (wr.alloc O) rb R' s' w4) (h5 : WPost w4 w2.heap.size A' l' w5) => pair_step kr nW nR hN hrbw h4 h5 gr zr
      have HST := Lib.hid HSTEP; clear HSTEP
      clear nR
      by_cases e0 : p.kind = 0
      · have hb0 : (p.kind == 0) = true := beq_iff_eq.2 e0
        have hone : oneStep p x.2 = (num8 (sNum x.2).1, (sNum x.2).2) := if_pos e0
        have HO := Lib.hid hone; clear hone e0
        go_wp2_with fail
        refine (rNum rb R' x.2 _ (oR.alloc _)).mono ?_
        rintro e w4 ⟨rfl, h4⟩
        have o4 := isW_far oW nW hrbN h4
        go_wp2_with fail
        refine (wNum1 w2.heap.size A' x.1 (sNum x.2).1 w4 _ _ rfl o4 (by omega)).mono ?_
        rintro e w5 ⟨rfl, h5⟩
        obtain ⟨A5, R5, q1, q2, q3, q4, q5, q6⟩ := HST.out _ _ _ _ _ h4 h5
        go_wp2
        go_roundw
        case rel => exact FIN.out w5 A5 R5 (by rw [HO.out]; exact q1) (by rw [HO.out]; exact q2) q3 q4 q5 q6
        case measure => simp [intOf]; omega
      · have hb0 : (p.kind == 0) = false := beq_eq_false_iff_ne.2 e0
        by_cases e1 : p.kind = 1
        · have hb1 : (p.kind == 1) = true := beq_iff_eq.2 e1
          have hone : oneStep p x.2 = (textB (str (sText x.2 p.n).1), (sText x.2 p.n).2) := by rw [oneStep, if_neg e0, if_pos e1]
          have hsl : (sText x.2 p.n).1.length ≤ 65536 := by
            unfold sText
            split
            · simp
            · have h1 := sTake_length (sTake x.2 3).2 (lowN (sTake x.2 3).1.1 : Nat)
              dsimp only
              omega
          have HO := Lib.hid hone; clear hone e0 e1
          go_wp2_with fail
          refine (rText rb R' x.2 p.n _ (oR.alloc _)).mono ?_
          rintro e w4 ⟨rfl, h4⟩
          have o4 := isW_far oW nW hrbN h4
          go_wp2_with fail
          refine (wText1 w2.heap.size A' x.1 (str (sText x.2 p.n).1) w4 _ _ rfl o4 (by simp; omega)).mono ?_
          rintro e w5 ⟨rfl, h5⟩
          obtain ⟨A5, R5, q1, q2, q3, q4, q5, q6⟩ := HST.out _ _ _ _ _ h4 h5
          go_wp2
          go_roundw
          case rel => exact FIN.out w5 A5 R5 (by rw [HO.out]; exact q1) (by rw [HO.out]; exact q2) q3 q4 q5 q6
          case measure => simp [intOf]; omega
        · have hb1 : (p.kind == 1) = false := beq_eq_false_iff_ne.2 e1
          by_cases e2 : p.kind = 2
          · have hb2 : (p.kind == 2) = true := beq_iff_eq.2 e2
            have hone : oneStep p x.2 = ((sTake x.2 p.n).1.1, (sTake x.2 p.n).2) := by rw [oneStep, if_neg e0, if_neg e1, if_pos e2]
            have hsl : (sTake x.2 p.n).1.1.length ≤ 16384 := by
              unfold sTake
              split
              · simp; omega
              · simp
            have HO := Lib.hid hone; clear hone e0 e1 e2
            go_wp2_with fail
            refine (rTake rb R' x.2 p.n _ (oR.alloc _) (by omega)).mono ?_
            rintro e w4 ⟨Y, cY, rfl, hY, nY, h4⟩
            have o4 := isW_far oW nW hrbN h4
            go_wp2_with fail
            refine (wByte w2.heap.size A' x.1 Y _ cY (sTake x.2 p.n).1.1 w4 o4 (own_none hY) rfl hY.row (by omega)).mono ?_
            rintro e w5 ⟨rfl, h5⟩
            obtain ⟨A5, R5, q1, q2, q3, q4, q5, q6⟩ := HST.out _ _ _ _ _ h4 h5
            go_wp2
            go_roundw
            case rel => exact FIN.out w5 A5 R5 (by rw [HO.out]; exact q1) (by rw [HO.out]; exact q2) q3 q4 q5 q6
            case measure => simp [intOf]; omega
          · have hb2 : (p.kind == 2) = false := beq_eq_false_iff_ne.2 e2
            by_cases e3 : p.kind = 3
            · have hb3 : (p.kind == 3) = true := beq_iff_eq.2 e3
              have hone : oneStep p x.2 = (num8 (sIn x.2 p.lo p.hi).1, (sIn x.2 p.lo p.hi).2) := by rw [oneStep, if_neg e0, if_neg e1, if_neg e2, if_pos e3]
              have HO := Lib.hid hone; clear hone e0 e1 e2 e3
              go_wp2_with fail
              refine (rIn rb R' x.2 p.lo p.hi _ (oR.alloc _)).mono ?_
              rintro e w4 ⟨rfl, h4⟩
              have o4 := isW_far oW nW hrbN h4
              go_wp2_with fail
              refine (wNum1 w2.heap.size A' x.1 (sIn x.2 p.lo p.hi).1 w4 _ _ rfl o4 (by omega)).mono ?_
              rintro e w5 ⟨rfl, h5⟩
              obtain ⟨A5, R5, q1, q2, q3, q4, q5, q6⟩ := HST.out _ _ _ _ _ h4 h5
              go_wp2
              go_roundw
              case rel => exact FIN.out w5 A5 R5 (by rw [HO.out]; exact q1) (by rw [HO.out]; exact q2) q3 q4 q5 q6
              case measure => simp [intOf]; omega
            · have hb3 : (p.kind == 3) = false := beq_eq_false_iff_ne.2 e3
              have hone : oneStep p x.2 = ([], x.2) := by rw [oneStep, if_neg e0, if_neg e1, if_neg e2, if_neg e3]
              have HO := Lib.hid hone; clear hone e0 e1 e2 e3
              go_wp2
              go_roundw
              case rel => exact FIN.out _ A' R' (by rw [HO.out, List.append_nil]; exact oW.alloc _) (by rw [HO.out]; exact oR.alloc _) (kr.alloc _) gr (.inl rfl) (by simp; omega)
              case measure => simp [intOf]; omega
    · obtain rfl : k = m := by omega
      rw [List.take_of_length_le (by omega)] at oW oR hlen hlen2
      have hlaw := one_law ps l
      obtain ⟨x, hx⟩ : ∃ x, x = oneAll ps ([], (l, false)) := ⟨_, rfl⟩
      rw [← hx] at hlaw oW oR hlen hlen2
      have HX := Lib.hid hx; clear hx
      have oR' : IsR wr.drew rb R' x.2.1 x.2.2 := oR.keep (Kp.refl nob _).drew (fun _ _ e => e)
      have oW' : IsW wr.drew w2.heap.size A' x.1 := oW.keep (Kp.refl nob _).drew (fun _ _ e => e)
      have hr' := (hr.keep0 kr).keep0 (Kp.refl nob _).drew
      have dA := conv_row wr.drew A l.length c l rfl hr'
      have hl2 : x.1.length ≤ 1099511627776 := by omega
      have hen : ∀ q, Calls Try.prog 27 #[.pointer (some ⟨rb, 0, none⟩)] (wr.drewN q) fun e w' => e = .returned (.bool (!x.2.2 && x.2.1.isEmpty)) ∧ w' = wr.drewN q := fun q => (rEnd rb R' x.2 (wr.drewN q) (oR.keep ((Kp.refl nob _).drewN q) (fun _ _ e => e))).mono fun e w' ⟨h1, h2⟩ => ⟨h1, h2.symm⟩
      cases hb : (!x.2.2 && x.2.1.isEmpty) with
      | false =>
        rw [hb] at hen
        have HH := Lib.hid hlaw; clear hlaw hb
        go_wp2
        go_quiet ((go_at_call 27; exact Calls.quiet_of_same (hen _)))
        go_wp2
        go_ret
        exact ⟨rfl, kr.drewN _⟩
      | true =>
        rw [hb] at hen hlaw
        have hxl : x.1 = l := hlaw rfl
        rw [hxl] at oW'
        have hl3 : l.length ≤ 1099511627776 := by omega
        have hen1 := rEnd rb R' x.2 wr.drew oR'
        rw [hb] at hen1
        clear hlaw hb oW hlen hl2 hen hxl
        go_wp2
        go_region_with (first | (go_at_call 27; refine hen1.mono ?_; rintro e w' ⟨rfl, rfl⟩) | (go_at_call 15; refine (wBytes w2.heap.size A' l _ oW' hl3).mono ?_; rintro e w8 ⟨Z, cZ, rfl, hZ, k8, nZ, _⟩; have d3 := conv_row w8 Z l.length cZ l rfl hZ.row; have d5 := conv_row w8 A l.length c l rfl (hr'.keep0 k8)))
        all_goals go_wp2
        all_goals go_ret
        all_goals exact ⟨rfl, kr.drew.trans k8 (fun _ e => e.elim)⟩

theorem one_any (A : Option Addr) (n c : Nat) (l : List UInt8) (B : Option Addr) (m d : Nat) (ps : List PartD) (w : World) (hl : l.length = n) (hA : A = none → c = 0) (hr : Row w A (bvs l)) (hn : n ≤ maxLen) (hm : ps.length = m) (hp : RowP w B ps) (hd : m ≤ maxLen) (_ : ∀ p ∈ ps, p.s.size ≤ reachBytes) :
    Calls Try.prog 6 #[.slice A n c, .slice B m d] w fun e w' => e = .returned (.bool true) ∧ Kp nob w w' := by
  by_cases h : 16384 < n ∨ 200 < m
  · exact one_long A n c B m d w h hn hd
  · exact one_short A n c l B m d ps w hl (by omega) hA hr hm (by omega) hp
end Go.Proofs.Ytenihiphcbheeaa
