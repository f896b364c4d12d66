/- What the statements of layer 1 play: how much it is at most, and what is written of it. -/
import Derived.Test.YtenihiphcbheeaaCodeF
namespace Go.Proofs.Ytenihiphcbheeaa
open Go Go.RowKit Kit

def total (ps : List PartD) : Nat := (ps.map fun p => p.s.size).sum
theorem total_snoc (ps : List PartD) (k : Nat) (h : k < ps.length) : total (ps.take (k + 1)) = total (ps.take k) + ps[k].s.size := by
  rw [List.take_add_one, List.getElem?_eq_getElem h]
  simp only [total, Option.toList_some, List.map_append, List.map_cons, List.map_nil, List.sum_append, List.sum_cons, List.sum_nil, Nat.add_zero]
theorem total_take (ps : List PartD) (k : Nat) : total (ps.take k) ≤ total ps := by
  conv => rhs; rw [← List.take_append_drop k ps]
  simp only [total, List.map_append, List.sum_append]
  omega
def greatB (ps : List PartD) : Bool := decide (16384 < total ps) || decide (200 < ps.length)

set_option maxHeartbeats 1000000 in
theorem great_any (A : Option Addr) (m d : Nat) (ps : List PartD) (w : World) (hm : ps.length = m) (hp : RowP w A ps) (hd : m ≤ maxLen) (hs : ∀ p ∈ ps, p.s.size ≤ reachBytes) :
    Calls Try.prog 10 #[.slice A m d] w fun e w' => e = .returned (.bool (greatB ps)) ∧ Kp nob w w' := by
  have HS := Lib.hid hs; clear hs
  unfold maxLen at hd
  go_enter Try.func10, Try.ntmps10
  go_wp2
  go_loopw [3, 8] (fun t i wr => ∃ k : Nat, k ≤ m ∧ i = .int .i64 k ∧ t = .int .i64 (total (ps.take k) : Nat) ∧ total (ps.take k) ≤ 16384 ∧ Kp nob w wr)
    (fun _ i _ => m - (intOf i).toNat)
  case atStart => exact ⟨0, Nat.zero_le _, rfl, rfl, by simp [total], Kp.refl _ _⟩
  case round =>
    obtain ⟨k, hk, rfl, rfl, ht, kr⟩ := hrel
    by_cases hlt : k < m
    · obtain ⟨bb, oo, rfl, hbb, hc0, hc1, hc2, hc3, hc4⟩ := (hp.keep0 kr).at_ (i := k) (by omega)
      have hsn := total_snoc ps k (by omega)
      have hsz := HS.out _ (List.getElem_mem (by omega : k < ps.length))
      have htk := total_take ps (k + 1)
      obtain ⟨p, hpe⟩ : ∃ p, p = ps[k]'(by omega) := ⟨_, rfl⟩
      rw [← hpe] at hc0 hc1 hc2 hc3 hc4 hsn hsz
      obtain ⟨T, hT⟩ : ∃ T, T = total (ps.take k) := ⟨_, rfl⟩
      rw [← hT] at hsn ht ⊢
      have hr2 : p.s.size ≤ 140737488351232 := hsz
      have H1 := Lib.hid hpe; have H2 := Lib.hid hT; have H3 := Lib.hid hsn; have H4 := Lib.hid htk
      clear hpe hT hsn htk hsz
      by_cases hg : 16384 < T + p.s.size
      · have hgb : decide ((16384 : Int) < (T : Int) + (p.s.size : Int)) = true := by simp; omega
        go_wp2
        go_ret
        have : greatB ps = true := by
          have h3 := H3.out; have h4 := H4.out
          simp only [greatB, Bool.or_eq_true, decide_eq_true_eq]
          left; omega
        rw [this]
        exact ⟨rfl, kr.alloc _⟩
      · have hgb : decide ((16384 : Int) < (T : Int) + (p.s.size : Int)) = false := by simp; omega
        go_wp2
        go_roundw
        case rel => exact ⟨k + 1, by omega, by go_num, by rw [H3.out]; go_num, by rw [H3.out]; omega, kr.alloc _⟩
        case measure => simp [intOf]; omega
    · obtain rfl : k = m := by omega
      rw [List.take_of_length_le (by omega)] at ht
      go_wp2
      go_ret
      refine ⟨?_, kr⟩
      show Ending.returned (.bool (decide ((200 : Int) < (k : Int)))) = _
      have h1 : ¬ 16384 < total ps := by omega
      have h2 : decide ((200 : Int) < (k : Int)) = decide (200 < ps.length) := by rw [hm]; by_cases h : 200 < k <;> simp [h] <;> omega
      simp only [greatB, h1, decide_false, Bool.false_or, h2]

def partB (p : PartD) : List UInt8 := if p.kind = 1 then textB p.s else if p.kind = 2 then sl p.s else num8 p.n
def writes (ps : List PartD) : List UInt8 := ps.flatMap partB
theorem partB_len (p : PartD) : (partB p).length ≤ 8 + p.s.size := by
  unfold partB
  split
  · have := textB_le p.s; omega
  · split <;> simp
theorem writes_len (ps : List PartD) : (writes ps).length ≤ 8 * ps.length + total ps := by
  induction ps with
  | nil => simp [writes]
  | cons p ps ih =>
    have := partB_len p
    simp only [writes, List.flatMap_cons, List.length_append, List.length_cons, total, List.map_cons, List.sum_cons] at *
    omega
def Few (ps : List PartD) : Prop := ps.length ≤ 400 ∧ total ps ≤ 32768
theorem few_of (ps : List PartD) (h : greatB ps = false) : ps.length ≤ 200 ∧ total ps ≤ 16384 := by
  simp only [greatB, Bool.or_eq_false_iff, decide_eq_false_iff_not] at h
  omega
theorem few_great (ps : List PartD) (h : greatB ps = false) : Few ps := by have := few_of ps h; unfold Few; omega
theorem writes_take_len (ps : List PartD) (k : Nat) (h : Few ps) : (writes (ps.take k)).length ≤ 35968 ∧ ∀ p ∈ ps, p.s.size ≤ 32768 := by
  unfold Few at h
  have h1 := writes_len (ps.take k)
  have h2 := total_take ps k
  have h3 : (ps.take k).length ≤ ps.length := List.length_take_le' _ _
  refine ⟨by omega, fun p hp => ?_⟩
  obtain ⟨i, hi, rfl⟩ := List.getElem_of_mem hp
  have h4 := total_snoc ps i hi
  have h5 := total_take ps (i + 1)
  omega

theorem writes_snoc (ps : List PartD) (k : Nat) (p : PartD) (h : ps[k]? = some p) : writes (ps.take (k + 1)) = writes (ps.take k) ++ partB p := by
  rw [List.take_add_one, h]
  simp only [writes, Option.toList_some, List.flatMap_append, List.flatMap_cons, List.flatMap_nil, List.append_nil]

/-- What a round leaves of the writer. -/
theorem written_step {w wr w5 w6 : World} {wb z : Nat} {A' : Option Addr} {l' : List UInt8} {O : Obj} (kr : Kp nob w wr) (nW : ∀ j, WF wb A' j → w.heap.size ≤ j) (h5 : WPost (wr.alloc O) wb A' l' w5) (k6 : Kp nob w5 w6) (gr : Grew none A' z) (hz : z ≤ wr.heap.size) :
    ∃ A'', IsW w6 wb A'' l' ∧ Kp nob w w6 ∧ Grew none A'' z ∧ z ≤ w6.heap.size := by
  obtain ⟨A5, o5, k5, g5⟩ := h5
  have z5 := k5.size
  have z6 := k6.size
  simp at z5
  exact ⟨A5, o5.keep k6 (fun _ _ e => e), (((kr.alloc O).since k5 nW).trans k6 (fun _ e => e.elim)), gr.trans g5 (by simp; omega), by omega⟩
theorem cell_new (w : World) (xs : Array Value) (t : TypeId) (j : Nat) : (w.alloc (.cells xs t)).cell? ⟨w.heap.size, j, none⟩ = xs[j]? := by rw [World.cell?_alloc_at _ _ _ _ rfl]

set_option maxHeartbeats 4000000 in
theorem written_any (A : Option Addr) (m d : Nat) (ps : List PartD) (w : World) (hm : ps.length = m) (hp : RowP w A ps) (hg : Few ps) :
    Calls Try.prog 11 #[.slice A m d] w fun e w' => ∃ B c, e = .returned (.tuple #[.slice B (writes ps).length c, .string (str (writes ps))]) ∧ Own 5 w' B (writes ps).length c (bvs (writes ps)) ∧ Fresh w.heap.size B ∧ (B = none → c = 0) ∧ Kp nob w w' := by
  have hm2 : m ≤ 400 := by have := hg.1; omega
  have hbound := fun k => writes_take_len ps k hg
  have HB := Lib.hid hbound; clear hbound hg
  have hW0 := isW_new w
  have s0 : Kp nob w (w.alloc (.cells #[.slice none 0 0] 49)) := (Kp.refl _ _).alloc _
  obtain ⟨w0, hw0⟩ : ∃ w0, w0 = w.alloc (.cells #[.slice none 0 0] 49) := ⟨_, rfl⟩
  have hz0 : w0.heap.size = w.heap.size + 1 := by rw [hw0]; simp
  rw [← hw0] at hW0 s0
  have HZ := Lib.hid hz0; clear hz0
  go_enter Try.func11, Try.ntmps11
  go_wp2
  rw [← hw0]
  have HW0 := Lib.hid hw0; clear hw0
  go_loopw [5, 12] (fun t i wr => ∃ (k : Nat) (A' : Option Addr), k ≤ m ∧ i = .int .i64 k ∧ t = .string (str (writes (ps.take k))) ∧ IsW wr w.heap.size A' (writes (ps.take k)) ∧ Kp nob w wr ∧ Grew none A' w0.heap.size ∧ w0.heap.size ≤ wr.heap.size)
    (fun _ i _ => m - (intOf i).toNat)
  case atStart => exact ⟨0, none, Nat.zero_le _, rfl, rfl, by simpa [writes] using hW0, s0, Grew.refl _ _, Nat.le_refl _⟩
  case round =>
    obtain ⟨k, A', hk, rfl, rfl, oW, kr, gr, zr⟩ := hrel
    have nW : ∀ j, WF w.heap.size A' j → w.heap.size ≤ j := WF.ge (Nat.le_refl _) (gr.ge (fun j e => by cases e) (by have := HZ.out; omega))
    by_cases hlt : k < m
    · obtain ⟨p, hpk⟩ : ∃ p, ps[k]? = some p := ⟨_, List.getElem?_eq_getElem (by omega)⟩
      obtain ⟨bb, oo, rfl, hbb, hc0, hc1, hc2, hc3, hc4⟩ := (hp.keep0 kr).at_ (i := k) (by omega)
      have hpe : ps[k]'(by omega) = p := by rw [List.getElem?_eq_getElem (by omega)] at hpk; simpa using hpk
      rw [hpe] at hc0 hc1 hc2 hc3 hc4
      have hsn := writes_snoc ps k p hpk
      have hps : p.s.size ≤ 32768 := (HB.out k).2 p (by rw [← hpe]; exact List.getElem_mem _)
      have hxl := (HB.out k).1
      obtain ⟨x, hx⟩ : ∃ x, x = writes (ps.take k) := ⟨_, rfl⟩
      rw [← hx] at hsn oW hxl ⊢
      have HS := Lib.hid hsn; have HX := Lib.hid hx; have HP := Lib.hid hpk; have HPE := Lib.hid hpe
      clear hsn hx hpk hpe
      have fW := oW.fLt
      obtain ⟨O, hO⟩ : ∃ O, O = Obj.cells #[.int .i64 p.kind, .int .i64 p.n, .string p.s, .int .i64 p.lo, .int .i64 p.hi] 39 (0, 0) := ⟨_, rfl⟩
      have oW' := oW.alloc O
      have hcs : ∀ w5, Kp (WF w.heap.size A') (wr.alloc O) w5 → w5.cell? ⟨wr.heap.size, 2, none⟩ = some (.string p.s) ∧ w5.cell? ⟨wr.heap.size, 1, none⟩ = some (.int .i64 p.n) := by
        intro w5 k5
        have hf : ¬ WF w.heap.size A' wr.heap.size := fun e => absurd (fW _ e) (Nat.lt_irrefl _)
        constructor
        · rw [k5.cell (p := ⟨wr.heap.size, 2, none⟩) (by simp) hf, hO, cell_new]; rfl
        · rw [k5.cell (p := ⟨wr.heap.size, 1, none⟩) (by simp) hf, hO, cell_new]; rfl
      have HCS := Lib.hid hcs; clear hcs
      have hzz : (wr.alloc O).heap.size = wr.heap.size + 1 := by simp
      have HZZ := Lib.hid hzz; clear hzz
      have fin : ∀ (w6 : World) (A'' : Option Addr), IsW w6 w.heap.size A'' (x ++ partB p) → Kp nob w w6 → Grew none A'' w0.heap.size → w0.heap.size ≤ w6.heap.size →
          ∃ (k' : Nat) (A' : Option Addr), k' ≤ m ∧ Value.int .i64 (k + 1) = .int .i64 k' ∧ Value.string (str x ++ str (partB p)) = .string (str (writes (ps.take k'))) ∧ IsW w6 w.heap.size A' (writes (ps.take k')) ∧ Kp nob w w6 ∧ Grew none A' w0.heap.size ∧ w0.heap.size ≤ w6.heap.size := by
        intro w6 A'' q1 q2 q3 q4
        exact ⟨k + 1, A'', by omega, by go_num, by rw [HS.out, str_append], by rw [HS.out]; exact q1, q2, q3, q4⟩
      have FIN := Lib.hid fin; clear fin
      by_cases e1 : p.kind = 1
      · have hb1 : (p.kind == 1) = true := beq_iff_eq.2 e1
        have hpb : partB p = textB p.s := if_pos e1
        rw [hpb] at FIN
        have htl := textB_le p.s
        have hcat : x.length + (textB p.s).length ≤ 9223372036854775807 := by omega
        clear hpb e1
        go_wp2_with fail
        rw [← hO]
        refine (wText1 w.heap.size A' x p.s (wr.alloc O) _ _ HZZ.out oW' (by omega)).mono ?_
        rintro e w5 ⟨rfl, h5⟩
        have h5' := h5
        obtain ⟨A5, o5, k5, g5⟩ := h5'
        obtain ⟨hq2, hq1⟩ := HCS.out w5 k5
        go_wp2_with fail
        refine (fText p.s w5 (by simp [maxLen]; omega)).mono ?_
        rintro e w6 ⟨rfl, k6⟩
        obtain ⟨A6, q1, q2, q3, q4⟩ := written_step kr nW h5 k6 gr zr
        go_wp2
        go_roundw
        case rel => exact FIN.out w6 A6 q1 q2 q3 q4
        case measure => simp [intOf]; omega
      · have hb1 : (p.kind == 1) = false := beq_eq_false_iff_ne.2 e1
        by_cases e2 : p.kind = 2
        · have hb2 : (p.kind == 2) = true := beq_iff_eq.2 e2
          have hpb : partB p = sl p.s := by rw [partB, if_neg e1, if_pos e2]
          rw [hpb, str_sl] at FIN
          obtain ⟨c5, w4, hcv, hrow, k4, z4⟩ := run_str_bytes (P := Try.prog) (wr.alloc O) 9 25 5 p.s u8_string u8_under (by kernel_rfl)
          rw [HZZ.out] at hcv hrow
          have o4 := oW'.keep k4 (fun _ _ e => e)
          have hcat : x.length + p.s.size ≤ 9223372036854775807 := by omega
          clear hpb e1 e2
          rw [hO] at hcv
          go_wp2_with fail
          refine (wByte w.heap.size A' x (some ⟨wr.heap.size + 1, 0, none⟩) p.s.size c5 (sl p.s) w4 o4 (fun e => by cases e) (by simp) hrow (by omega)).mono ?_
          rintro e w5 ⟨rfl, h5⟩
          have h5' := h5.keep k4 (fun _ e => e.elim)
          have h5'' := h5'
          obtain ⟨A5, o5, k5, g5⟩ := h5''
          obtain ⟨hq2, hq1⟩ := HCS.out w5 k5
          obtain ⟨A6, q1, q2, q3, q4⟩ := written_step kr nW h5' (Kp.refl _ _) gr zr
          go_wp2
          go_roundw
          case rel => exact FIN.out w5 A6 q1 q2 q3 q4
          case measure => simp [intOf]; omega
        · have hb2 : (p.kind == 2) = false := beq_eq_false_iff_ne.2 e2
          have hpb : partB p = num8 p.n := by rw [partB, if_neg e1, if_neg e2]
          rw [hpb] at FIN
          have hcat : x.length + (num8 p.n).length ≤ 9223372036854775807 := by simp; omega
          clear hpb e1 e2
          go_wp2_with fail
          rw [← hO]
          refine (wNum1 w.heap.size A' x p.n (wr.alloc O) _ _ HZZ.out oW' (by omega)).mono ?_
          rintro e w5 ⟨rfl, h5⟩
          have h5' := h5
          obtain ⟨A5, o5, k5, g5⟩ := h5'
          obtain ⟨hq2, hq1⟩ := HCS.out w5 k5
          go_wp2_with fail
          refine (fNum p.n w5).mono ?_
          rintro e w6 ⟨rfl, k6⟩
          obtain ⟨A6, q1, q2, q3, q4⟩ := written_step kr nW h5 k6 gr zr
          go_wp2
          go_roundw
          case rel => exact FIN.out w6 A6 q1 q2 q3 q4
          case measure => simp [intOf]; omega
    · obtain rfl : k = m := by omega
      have hxl := (HB.out k).1
      rw [List.take_of_length_le (by omega)] at oW hxl ⊢
      go_wp2_with fail
      refine (wBytes w.heap.size A' (writes ps) _ oW (by omega)).mono ?_
      rintro e w9 ⟨B, cB, rfl, ho, k9, nB, b0⟩
      go_wp2
      go_ret2
      exact ⟨B, cB, rfl, ho, fun j e => Nat.le_trans kr.size (nB j e), b0, kr.trans k9 (fun _ e => e.elim)⟩
end Go.Proofs.Ytenihiphcbheeaa
