/- Contracts of the writer of package code: texts. -/
import Derived.Test.YtadhhnlolnnkhaaCodeW0
namespace Go.Proofs.Ytadhhnlolnnkhaa
set_option linter.unusedVariables false
set_option linter.unusedSimpArgs false
open Go Go.RowKit Kit

def svs (ss : List ByteArray) : List Value := ss.map .string
@[simp] theorem svs_length (ss : List ByteArray) : (svs ss).length = ss.length := by simp [svs]
theorem take_flat_le {α : Type} (f : α → List UInt8) (ns : List α) (k : Nat) : ((ns.take k).flatMap f).length ≤ (ns.flatMap f).length := by
  conv => rhs; rw [← List.take_append_drop k ns, List.flatMap_append, List.length_append]
  omega
set_option maxHeartbeats 800000 in
set_option maxRecDepth 100000 in
theorem wText (b : Nat) (A : Option Addr) (l : List UInt8) (B : Option Addr) (m d : Nat) (ss : List ByteArray) (w : World) (h : IsW w b A l) (hm : ss.length = m) (hr : Row w B (svs ss)) (hB : ∀ k, ab B = some k → ¬ WF b A k) (hmm : m ≤ 1099511627776) (hl : l.length + (ss.flatMap textB).length ≤ 1099511627776) :
    Calls Try.prog 20 #[.pointer (some ⟨b, 0, none⟩), .slice B m d] w fun e w' => e = .returned (.tuple #[]) ∧ WPost w b A (l ++ ss.flatMap textB) w' := by
  obtain ⟨i0, hi, hz0, hz1, hz2⟩ := info_parts u8_info
  go_enter Try.func20, Try.ntmps20
  go_wp2
  go_loopw [10] (fun i wr => ∃ (k : Nat) (A' : Option Addr), k ≤ m ∧ i = .int .i64 k ∧ IsW wr b A' (l ++ (ss.take k).flatMap textB) ∧ Kp (WF b A) w wr ∧ Grew A A' w.heap.size)
    (fun i _ => m - (intOf i).toNat)
  case atStart => exact ⟨0, A, Nat.zero_le _, rfl, by simpa using h, Kp.refl _ _, Grew.refl _ _⟩
  case round =>
    obtain ⟨k, A', hk, rfl, ho, hkp, hgr⟩ := hrel
    by_cases hlt : k < m
    · obtain ⟨x, hx⟩ : ∃ x, x = ss[k]'(by omega) := ⟨_, rfl⟩
      obtain ⟨bb, oo, rfl, hbb, hcell⟩ := hr.at_ (i := k) (by simp [hm]; exact hlt)
      have hce : wr.cell? ⟨bb, oo + k, none⟩ = some (.string x) := by rw [hkp.cell (p := ⟨bb, oo + k, none⟩) hbb (hB bb rfl), hcell, hx]; simp [svs]
      have hsn := flat_snoc textB ss k (by omega)
      rw [← hx] at hsn
      have hle := take_flat_le textB ss (k + 1)
      rw [hsn, List.length_append] at hle
      have HS := Lib.hid hsn; clear hsn
      have HX := Lib.hid hx; clear hx hcell
      have H := ho
      have hb := ho.lt
      by_cases hbig : x.size < 16777216
      · have htx : textB x = le 3 x.size ++ sl x := if_pos hbig
        have HT := Lib.hid htx
        have hxl : (textB x).length = 3 + x.size := by rw [htx]; simp
        clear htx
        obtain ⟨c, h1, h2, h3⟩ := ho
        obtain ⟨L, hL⟩ : ∃ L, L = (l ++ (ss.take k).flatMap textB).length := ⟨_, rfl⟩
        have hL' : L = l.length + ((ss.take k).flatMap textB).length := by rw [hL, List.length_append]
        have hLL : L + 3 + x.size ≤ 1099511627776 := by omega
        have hc : wr.cell? ⟨b, 0, none⟩ = some (.slice A' L c) := by rw [cell_of_heap h1, hL]; rfl
        rw [← hL] at h2
        have H1 := Lib.hid h1; clear h1
        clear hL hL' hle hxl
        have hbd : decide ((16777216 : Int) ≤ (x.size : Int)) = false := by simp; omega
        have hxs : 0 ≤ (x.size : Int) ∧ (x.size : Int) < 18446744073709551616 := by omega
        have HG := Lib.hid hbig; clear hbig
        go_wp2_with fail
        refine (appendLow_int A' L c _ _ 3 _ h2 (by omega) (by omega) (by omega) (by omega)).mono ?_
        rintro e w1 ⟨A'', c'', rfl, ho1, hk1, hg1⟩
        have HB := Lib.hid (hk1.block b hb h3)
        have hc1 : w1.cell? ⟨b, 0, none⟩ = some (.slice A' L c) := (hk1.cell (p := ⟨b, 0, none⟩) hb h3).trans hc
        have hf1 : w1.frozen? ⟨b, 0, none⟩ = false := (hk1.frozen (p := ⟨b, 0, none⟩) hb h3).trans (frozen_of_heap H1.out 0)
        have R := H.put hk1 ho1 hg1
        have ho2 := R.2.2
        have hb2 := R.1.lt
        have hk2 := R.2.1
        obtain ⟨L3, hL3⟩ : ∃ q, q = l ++ (ss.take k).flatMap textB ++ le 3 (x.size : Int).toNat := ⟨_, rfl⟩
        rw [← hL3] at ho2
        have R1 := R.1
        rw [← hL3] at R1
        have HL3 := Lib.hid hL3; clear hL3 R
        go_wp2_with (at_builtin; refine wpList_appS _ rfl (.tmp 32) (.tmp 33) 27 9 rfl 5 i0 u8_under u8_string hi hz0 hz1 hz2 A'' (L + 3) c'' (bvs L3) rfl ho2 x rfl (by omega) ?_)
        intro A3 c3 w3 ho3 hg3 hab3
        have hk3 := (Kp.refl (rowF A'') _).grown hg3 (fun k e => .inl e)
        obtain ⟨c4, q1, q2, q3⟩ := id R1
        have hc3 := (hk3.cell (p := ⟨b, 0, none⟩) hb2 q3).trans (cell_of_heap q1 0)
        have hf3 := (hk3.frozen (p := ⟨b, 0, none⟩) hb2 q3).trans (frozen_of_heap q1 0)
        have hlen3 : L3.length = L + 3 := by simpa using ho2.len
        have S0 : Grew A'' A3 (w1.setCell ⟨b, 0, none⟩ (.slice A'' (L + 3) c'')).heap.size := .of hab3 (by simp [World.setCell])
        have S := And.intro (R1.put (l' := L3 ++ sl x) hk3 (by rw [bvs_append]; exact ho3) S0) (And.intro True.intro S0)
        simp at hc3
        clear q1 hlen3 ho3 hab3 hg3
        go_wp2
        go_roundw
        case rel =>
          have hG2 : Grew A'' A3 (w1.setCell ⟨b, 0, none⟩ (.slice A'' (L + 3) c'')).heap.size := S.2.2
          refine ⟨k + 1, A3, by omega, by go_num, ?_, hkp.trans (hk2.trans S.1.2.1 (fun i hi => ?_)) (fun i hi => ?_), hgr.trans (hg1.trans hG2 (by simp [World.setCell]; exact hk1.size)) hkp.size⟩
          · have := S.1.1
            rwa [HL3.out, List.append_assoc, List.append_assoc, Int.toNat_natCast, ← HT.out, ← HS.out] at this
          · rcases hi with rfl | hi
            · exact .inl (.inl rfl)
            · exact (hg1.sub i hi).imp_left .inr
          · rcases hi with rfl | hi
            · exact .inl (.inl rfl)
            · exact (hgr.sub i hi).imp_left .inr
        case measure => simp [intOf]; omega
      · have hbd : decide ((16777216 : Int) ≤ (x.size : Int)) = true := by simp; omega
        have htx : textB x = [] := if_neg hbig
        rw [htx, List.append_nil] at HS
        clear hbig htx hle
        go_wp2
        go_roundw
        case rel => exact ⟨k + 1, A', by omega, by go_num, by rw [HS.out]; exact H, hkp, hgr⟩
        case measure => simp [intOf]; omega
    · go_wp2
      go_end0
      obtain rfl : k = m := by omega
      rw [List.take_of_length_le (by omega)] at ho
      exact ⟨rfl, A', ho, hkp, hgr⟩
end Go.Proofs.Ytadhhnlolnnkhaa
