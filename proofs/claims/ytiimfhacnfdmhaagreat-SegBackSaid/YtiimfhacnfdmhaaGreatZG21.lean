/- Lemmas: CodeW VauPu VauJ VauHi ShaSg ShaAg. -/
import Derived.Test.YtiimfhacnfdmhaaGreatZG20
set_option linter.unusedVariables false
set_option linter.unusedSimpArgs false
namespace Go.Proofs.YtiimfhacnfdmhaaGreat
open Go Go.RowKit Kit
def svs (ss : List ByteArray) : List Value := ss.map .string
@[simp] theorem svs_length (ss : List ByteArray) : (svs ss).length = ss.length := by simp [svs]
theorem take_flat_le {α : Type} (f : α → List UInt8) (ns : List α) (k : Nat) : ((ns.take k).flatMap f).length ≤ (ns.flatMap f).length := by
  conv => rhs; rw [← List.take_append_drop k ns, List.flatMap_append, List.length_append]
  omega
set_option maxHeartbeats 800000 in
set_option maxRecDepth 100000 in
theorem wText (b : Nat) (A : Option Addr) (l : List UInt8) (B : Option Addr) (m d : Nat) (ss : List ByteArray) (w : World) (h : IsW w b A l) (hm : ss.length = m) (hr : Row w B (svs ss)) (hB : ∀ k, ab B = some k → ¬ WF b A k) (hmm : m ≤ 1099511627776) (hl : l.length + (ss.flatMap textB).length ≤ 1099511627776) :
    Calls Tryz.prog 40 #[.pointer (some ⟨b, 0, none⟩), .slice B m d] w fun e w' => e = .returned (.tuple #[]) ∧ WPost w b A (l ++ ss.flatMap textB) w' := by
  obtain ⟨i0, hi, hz0, hz1, hz2⟩ := info_parts u8_info
  go_enter Tryz.func40, Tryz.ntmps40
  go_wp2
  go_loopw [10] (fun i wr => ∃ (k : Nat) (A' : Option Addr), k ≤ m ∧ i = .int .i64 k ∧ IsW wr b A' (l ++ (ss.take k).flatMap textB) ∧ Kp (WF b A) w wr ∧ Grew A A' w.heap.size)
    (fun i _ => m - (intOf i).toNat)
  case atStart => exact ⟨0, A, Nat.zero_le _, rfl, by simpa using h, Kp.refl _ _, Grew.refl _ _⟩
  case round =>
    obtain ⟨k, A', hk, rfl, ho, hkp, hgr⟩ := hrel
    by_cases hlt : k < m
    · obtain ⟨x, hx⟩ : ∃ x, x = ss[k]'(by omega) := ⟨_, rfl⟩
      obtain ⟨bb, oo, rfl, hbb, hcell⟩ := hr.at_ (i := k) (by simp [hm]; exact hlt)
      have hce : wr.cell? ⟨bb, oo + k, none⟩ = some (.string x) := by rw [hkp.cell (p := ⟨bb, oo + k, none⟩) hbb (hB bb rfl), hcell, hx]; simp [svs]
      have hsn := flat_snoc textB ss k (by omega)
      rw [← hx] at hsn
      have hle := take_flat_le textB ss (k + 1)
      rw [hsn, List.length_append] at hle
      have HS := Lib.hid hsn; clear hsn
      have HX := Lib.hid hx; clear hx hcell
      have H := ho
      have hb := ho.lt
      by_cases hbig : x.size < 16777216
      · have htx : textB x = le 3 x.size ++ sl x := if_pos hbig
        have HT := Lib.hid htx
        have hxl : (textB x).length = 3 + x.size := by rw [htx]; simp
        clear htx
        obtain ⟨c, h1, h2, h3⟩ := ho
        obtain ⟨L, hL⟩ : ∃ L, L = (l ++ (ss.take k).flatMap textB).length := ⟨_, rfl⟩
        have hL' : L = l.length + ((ss.take k).flatMap textB).length := by rw [hL, List.length_append]
        have hLL : L + 3 + x.size ≤ 1099511627776 := by omega
        have hc : wr.cell? ⟨b, 0, none⟩ = some (.slice A' L c) := by rw [cell_of_heap h1, hL]; rfl
        rw [← hL] at h2
        have H1 := Lib.hid h1; clear h1
        clear hL hL' hle hxl
        have hbd : decide ((16777216 : Int) ≤ (x.size : Int)) = false := by simp; omega
        have hxs : 0 ≤ (x.size : Int) ∧ (x.size : Int) < 18446744073709551616 := by omega
        have HG := Lib.hid hbig; clear hbig
        go_wp2_with fail
        refine (appendLow_int A' L c _ _ 3 _ h2 (by omega) (by omega) (by omega) (by omega)).mono ?_
        rintro e w1 ⟨A'', c'', rfl, ho1, hk1, hg1⟩
        have HB := Lib.hid (hk1.block b hb h3)
        have hc1 : w1.cell? ⟨b, 0, none⟩ = some (.slice A' L c) := (hk1.cell (p := ⟨b, 0, none⟩) hb h3).trans hc
        have hf1 : w1.frozen? ⟨b, 0, none⟩ = false := (hk1.frozen (p := ⟨b, 0, none⟩) hb h3).trans (frozen_of_heap H1.out 0)
        have R := H.put hk1 ho1 hg1
        have ho2 := R.2.2
        have hb2 := R.1.lt
        have hk2 := R.2.1
        obtain ⟨L3, hL3⟩ : ∃ q, q = l ++ (ss.take k).flatMap textB ++ le 3 (x.size : Int).toNat := ⟨_, rfl⟩
        rw [← hL3] at ho2
        have R1 := R.1
        rw [← hL3] at R1
        have HL3 := Lib.hid hL3; clear hL3 R
        go_wp2_with (at_builtin; refine wpList_appS _ rfl (.tmp 32) (.tmp 33) 42 9 rfl 5 i0 u8_under u8_string hi hz0 hz1 hz2 A'' (L + 3) c'' (bvs L3) rfl ho2 x rfl (by omega) ?_)
        intro A3 c3 w3 ho3 hg3 hab3
        have hk3 := (Kp.refl (rowF A'') _).grown hg3 (fun k e => .inl e)
        obtain ⟨c4, q1, q2, q3⟩ := id R1
        have hc3 := (hk3.cell (p := ⟨b, 0, none⟩) hb2 q3).trans (cell_of_heap q1 0)
        have hf3 := (hk3.frozen (p := ⟨b, 0, none⟩) hb2 q3).trans (frozen_of_heap q1 0)
        have hlen3 : L3.length = L + 3 := by simpa using ho2.len
        have S0 : Grew A'' A3 (w1.setCell ⟨b, 0, none⟩ (.slice A'' (L + 3) c'')).heap.size := .of hab3 (by simp [World.setCell])
        have S := And.intro (R1.put (l' := L3 ++ sl x) hk3 (by rw [bvs_append]; exact ho3) S0) (And.intro True.intro S0)
        simp at hc3
        clear q1 hlen3 ho3 hab3 hg3
        go_wp2
        go_roundw
        case rel =>
          have hG2 : Grew A'' A3 (w1.setCell ⟨b, 0, none⟩ (.slice A'' (L + 3) c'')).heap.size := S.2.2
          refine ⟨k + 1, A3, by omega, by go_num, ?_, hkp.trans (hk2.trans S.1.2.1 (fun i hi => ?_)) (fun i hi => ?_), hgr.trans (hg1.trans hG2 (by simp [World.setCell]; exact hk1.size)) hkp.size⟩
          · have := S.1.1
            rwa [HL3.out, List.append_assoc, List.append_assoc, Int.toNat_natCast, ← HT.out, ← HS.out] at this
          · rcases hi with rfl | hi
            · exact .inl (.inl rfl)
            · exact (hg1.sub i hi).imp_left .inr
          · rcases hi with rfl | hi
            · exact .inl (.inl rfl)
            · exact (hgr.sub i hi).imp_left .inr
        case measure => simp [intOf]; omega
      · have hbd : decide ((16777216 : Int) ≤ (x.size : Int)) = true := by simp; omega
        have htx : textB x = [] := if_neg hbig
        rw [htx, List.append_nil] at HS
        clear hbig htx hle
        go_wp2
        go_roundw
        case rel => exact ⟨k + 1, A', by omega, by go_num, by rw [HS.out]; exact H, hkp, hgr⟩
        case measure => simp [intOf]; omega
    · go_wp2
      go_end0
      obtain rfl : k = m := by omega
      rw [List.take_of_length_le (by omega)] at ho
      exact ⟨rfl, A', ho, hkp, hgr⟩
end Go.Proofs.YtiimfhacnfdmhaaGreat
namespace Go.Proofs.YtiimfhacnfdmhaaGreat.Vault
open Go Go.RowKit Kit
def pur (s : ByteArray) (ns : List Int) : List UInt8 := textB s ++ ns.flatMap num8
theorem pur_le (s : ByteArray) (ns : List Int) : (pur s ns).length ≤ 3 + s.size + 8 * ns.length := by
  have := textB_le s
  rw [pur, List.length_append, nums_length]; omega
open Ideal (Iw Iq Ans Arg Args Thing mk out sealT opn derT hashT z32 zc zc_run zc_length zc_eq args_one arr32_under)
open Sha (Pc PcsOk catP)
structure Kw (w : World) (A : Option Addr) (l : List UInt8) (w2 : World) : Prop where
  z : Blk w2 w.heap.size 39 zc
  i : IsW w2 (w.heap.size + 1) A l
  f : ∀ k, WF (w.heap.size + 1) A k → w.heap.size < k
  k : Kp nob w w2
theorem Kw.keep {w w2 w3 : World} {A : Option Addr} {l : List UInt8} (h : Kw w A l w2) (k : Kp nob w2 w3) : Kw w A l w3 := ⟨h.z.keep k (fun e => e), h.i.keep k (fun _ _ e => e), h.f, h.k.trans k (fun _ e => e.elim)⟩
theorem Kw.step {w w2 w3 : World} {A : Option Addr} {l l2 : List UInt8} (h : Kw w A l w2) (p : WPost w2 (w.heap.size + 1) A l2 w3) : ∃ A2, Kw w A2 l2 w3 := by
  obtain ⟨A2, h1, k2, g2⟩ := p
  have hs := h.k.size
  have hb := h.i.lt
  refine ⟨A2, h.z.keep k2 (fun e => Nat.lt_irrefl _ (h.f _ e)), h1, fun k hk => ?_, h.k.since k2 (fun i e => Nat.le_of_lt (h.f i e))⟩
  rcases hk with rfl | hk
  · omega
  · rcases g2 with g | ⟨j, g, hj⟩
    · rw [g] at hk; exact h.f k (.inr hk)
    · rw [g] at hk
      simp only [Option.some.injEq] at hk
      omega
set_option maxHeartbeats 4000000 in
set_option maxRecDepth 100000 in
theorem key_i (v m p : Nat) (F : Nat → Prop) (ts : List Thing) (ms : List UInt8) (lim : Nat) (ps : List (Value × Value)) (cl : Nat) (s : ByteArray) (B : Option Addr) (n c : Nat) (ns : List Int) (w : World)
    (hv : Vb w v m (imk p) ms lim ps cl) (hw : Iw w p F ts) (hF : ¬ F v ∧ ¬ F m) (hn : ns.length = n) (hr : Row w B (ivs ns)) (hB : ∀ k, ab B = some k → k < w.heap.size) (hl : ts.length ≤ 100000) (hs : s.size ≤ 100000) (hns : n ≤ 10000) :
    Calls Tryz.prog 22 #[.pointer (some ⟨v, 0, none⟩), .string s, .slice B n c] w fun x w' => ∃ F2, x = .returned (.agg (bvs (out ts (derT ms (pur s ns)) 32)).toArray) ∧ Iq w F w' p F2 (mk ts (derT ms (pur s ns))) := by
  have hz := zk_run
  have HV := Lib.hid hv; have HW := Lib.hid hw
  have HH := Lib.hid (And.intro hn (And.intro hl (And.intro hs hns)))
  have HL := Lib.hid (show (pur s ns).length ≤ 1048576 by have := pur_le s ns; omega)
  have HTX := Lib.hid (show (textB s).length ≤ 200000 by have := textB_le s; omega)
  have H0 : Hid (Kw w none [] (((w.alloc (.cells zc.toArray 39)).alloc (.cells #[.slice none 0 0] 71)).alloc (.cells #[.string s] 9))) := Lib.hid (by
    have := isW_new (w.alloc (.cells zc.toArray 39))
    rw [show (w.alloc (.cells zc.toArray 39)).heap.size = w.heap.size + 1 by simp] at this
    refine ⟨((Blk.new' rfl rfl).alloc _).alloc _, this.alloc _, fun k hk => ?_, (((Kp.refl _ _).alloc _).alloc _).alloc _⟩
    rcases hk with rfl | hk
    · omega
    · cases hk)
  have HR0 : Hid (Row (((w.alloc (.cells zc.toArray 39)).alloc (.cells #[.slice none 0 0] 71)).alloc (.cells #[.string s] 9)) (some ⟨w.heap.size + 1 + 1, 0, none⟩) (svs [s])) := Lib.hid (by
    have := row_new ((w.alloc (.cells zc.toArray 39)).alloc (.cells #[.slice none 0 0] 71)) (svs [s]) 9
    rw [show ((w.alloc (.cells zc.toArray 39)).alloc (.cells #[.slice none 0 0] 71)).heap.size = w.heap.size + 1 + 1 by simp] at this
    exact this)
  have HRN := Lib.hid hr
  have HBN := Lib.hid hB
  clear hv hw hr hB hn hl hs hns
  go_enter Tryz.func22, Tryz.ntmps22
  go_wp2_with fail
  refine (wText (w.heap.size + 1) none [] (some ⟨w.heap.size + 1 + 1, 0, none⟩) 1 1 [s] _ ?own rfl ?row (fun k hk => ?far) (by omega) (by have := HTX.out; simpa using (by omega : (textB s).length ≤ 1099511627776))).mono ?_
  case own => exact H0.out.i
  case row => exact HR0.out
  case far =>
    simp only [ab, Option.map_some, Option.some.injEq] at hk
    rintro (h | h)
    · omega
    · cases h
  rintro x w2 ⟨rfl, hp⟩
  obtain ⟨A2, h2⟩ := H0.out.step hp
  rw [show [] ++ [s].flatMap textB = textB s by simp] at h2
  have H2 := Lib.hid h2
  clear h2 hp H0 HR0
  go_wp2_with fail
  refine (wNum (w.heap.size + 1) A2 (textB s) B n c ns w2 H2.out.i HH.out.1 (HRN.out.keep0 H2.out.k) (fun k hk h => by have := H2.out.f k h; have := HBN.out k hk; omega) (by have := HH.out.2.2.2; omega) (by have := HTX.out; have := HH.out.2.2.2; omega)).mono ?_
  rintro x w3 ⟨rfl, hp⟩
  obtain ⟨A3, h3⟩ := H2.out.step hp
  have H3 : Hid (Kw w A3 (pur s ns) w3) := Lib.hid h3
  clear h3 hp H2
  go_wp2
  have HV3 := Lib.hid (HV.out.keep0 H3.out.k)
  have HW3 := Lib.hid (HW.out.keep H3.out.k (fun _ _ e => e))
  have hF3 := HW.out.lt
  have HS : Hid (Kp F w w3.drew ∧ Vb w3.drew v m (imk p) ms lim ps cl ∧ ∃ cs, Blk w3.drew w.heap.size 39 cs ∧ cs.length = 32) := Lib.hid ⟨(H3.out.k.nob F).drew, HV3.out.keep0 (Kp.refl nob _).drew, zc, H3.out.z.keep (Kp.refl nob _).drew (fun e => e), zc_length⟩
  have HMS := Lib.hid (key_size ms HV.out.l)
  refine reg_begin (fun w4 => Kp F w w4 ∧ Vb w4 v m (imk p) ms lim ps cl ∧ ∃ cs, Blk w4 w.heap.size 39 cs ∧ cs.length = 32) (by kernel_rfl) HS.out (fun _ => ?_)
  refine reg_take (v := .pointer (some ⟨v, 0, none⟩)) 0 (some 16) rfl rfl (by kernel_rfl) (by kernel_rfl) (by kernel_rfl) (by rfl) HS.out (fun w hw => by go_simp) ?_
  simp only [Act.put, List.setIfInBounds_toArray, List.set_cons_zero, List.set_cons_succ]
  refine reg_take (v := .pointer (some ⟨v, 0, none⟩)) 1 (some 17) rfl rfl (by kernel_rfl) (by kernel_rfl) (by kernel_rfl) (by rfl) HS.out (fun w hw => by go_simp) ?_
  simp only [Act.put, List.setIfInBounds_toArray, List.set_cons_zero, List.set_cons_succ]
  refine reg_take (v := .pointer (some ⟨v, 0, none⟩)) 2 (some 18) rfl rfl (by kernel_rfl) (by kernel_rfl) (by kernel_rfl) (by rfl) HS.out (fun w hw => by go_simp) ?_
  simp only [Act.put, List.setIfInBounds_toArray, List.set_cons_zero, List.set_cons_succ]
  refine reg_take (v := imk p) 3 (some 19) rfl rfl (by kernel_rfl) (by kernel_rfl) (by kernel_rfl) (by rfl) HS.out (fun w hw => by have hc := hw.2.1.mk_; go_simp) ?_
  simp only [Act.put, List.setIfInBounds_toArray, List.set_cons_zero, List.set_cons_succ]
  refine reg_take (v := .pointer (some ⟨v, 0, none⟩)) 4 (some 20) rfl rfl (by kernel_rfl) (by kernel_rfl) (by kernel_rfl) (by rfl) HS.out (fun w hw => by go_simp) ?_
  simp only [Act.put, List.setIfInBounds_toArray, List.set_cons_zero, List.set_cons_succ]
  refine reg_take (v := .pointer (some ⟨v, 0, none⟩)) 5 (some 21) rfl rfl (by kernel_rfl) (by kernel_rfl) (by kernel_rfl) (by rfl) HS.out (fun w hw => by go_simp) ?_
  simp only [Act.put, List.setIfInBounds_toArray, List.set_cons_zero, List.set_cons_succ]
  refine reg_take (v := .pointer (some ⟨v, 1, none⟩)) 6 (some 22) rfl rfl (by kernel_rfl) (by kernel_rfl) (by kernel_rfl) (by rfl) HS.out (fun w hw => by go_simp) ?_
  simp only [Act.put, List.setIfInBounds_toArray, List.set_cons_zero, List.set_cons_succ]
  refine reg_load 7 (some 23) 39 (.tmp 22) rfl rfl rfl (by kernel_rfl) (by kernel_rfl) (by kernel_rfl) (by rfl) HS.out v 1 rfl (bvs ms) _ (fun w hw => hw.2.1.ms_) key_under rfl HMS.out ?_
  simp only [Act.put, List.setIfInBounds_toArray, List.set_cons_zero, List.set_cons_succ]
  refine reg_take (v := imk p) 9 (some 25) rfl rfl (by kernel_rfl) (by kernel_rfl) (by kernel_rfl) (by rfl) HS.out (fun w hw => by first | (go_simp; done) | kernel_rfl) ?_
  simp only [Act.put, List.setIfInBounds_toArray, List.set_cons_zero, List.set_cons_succ]
  refine reg_take (v := imk p) 10 (some 26) rfl rfl (by kernel_rfl) (by kernel_rfl) (by kernel_rfl) (by rfl) HS.out (fun w hw => by go_simp) ?_
  simp only [Act.put, List.setIfInBounds_toArray, List.set_cons_zero, List.set_cons_succ]
  refine reg_call 8 (some 24) rfl rfl (by kernel_rfl) (by rfl) _ _ (exec_func 42 _ _ [.pointer (some ⟨w.heap.size + 1, 0, none⟩)] rfl (by kernel_rfl) rfl) ?_
  have H3d := Lib.hid (H3.out.keep (Kp.refl nob w3).drew)
  refine (wBytes (w.heap.size + 1) A3 (pur s ns) _ H3d.out.i (by have := HL.out; omega)).mono ?_
  rintro x w5 ⟨Y, cY, rfl, hY, k5, fY, nY⟩
  have k05 := H3d.out.k.trans k5 (fun _ e => e.elim)
  have HA : Hid (Arg w5 F Y (pur s ns).length cY (pur s ns)) := Lib.hid ⟨rfl, hY.row, .inr (fun k e h => by have := fY k e; have := hF3 k h; have := H3d.out.k.size; omega), hY.cap.1, hY.cap.2, nY⟩
  have HS5 : Hid (Kp F w w5 ∧ Vb w5 v m (imk p) ms lim ps cl ∧ ∃ cs, Blk w5 w.heap.size 39 cs ∧ cs.length = 32) := Lib.hid ⟨k05.nob F, HS.out.2.1.keep0 k5, zc, H3d.out.z.keep k5 (fun e => e), zc_length⟩
  have HW5 := Lib.hid (HW.out.keep k05 (fun _ _ e => e))
  have HK5 := Lib.hid k05
  clear hY k5 fY nY k05
  refine ⟨_, rfl, HS5.out, fun _ => ?_⟩
  simp only [Act.put, List.setIfInBounds_toArray, List.set_cons_zero, List.set_cons_succ]
  refine reg_call 11 (some 27) rfl rfl (by kernel_rfl) (by rfl) _ _ (exec_invoke 199 105 (.agg #[.pointer (some ⟨p, 0, none⟩)]) (.agg #[.pointer (some ⟨p, 0, none⟩)]) _ _ _ _ [.agg (bvs ms).toArray, .slice Y (pur s ns).length cY] rfl rfl (by kernel_rfl) (by kernel_rfl) rfl) ?_
  refine (im_derive p F ts ms HV.out.l Y _ cY (pur s ns) w5 HW5.out HA.out HH.out.2.1 HL.out).mono ?_
  rintro x w6 ⟨F2, rfl, hq⟩
  have HNZ : Hid (¬ F2 w.heap.size) := Lib.hid (fun h => (hq.f _ h).elim (fun h => Nat.lt_irrefl _ (hF3 _ h)) (fun h => by obtain ⟨cs, h1, _⟩ := HS5.out.2.2; have := h1.lt; omega))
  have HFZ : Hid (¬ F w.heap.size) := Lib.hid (fun h => Nat.lt_irrefl _ (hF3 _ h))
  have HQ := Lib.hid (hq.back HK5.out)
  have HS6 : Hid (Kp F w w6 ∧ Vb w6 v m (imk p) ms lim ps cl ∧ ∃ cs, Blk w6 w.heap.size 39 cs ∧ cs.length = 32) := Lib.hid ⟨HQ.out.k, HS5.out.2.1.keep hq.k hF.1 hF.2, let ⟨cs, h1, h2⟩ := HS5.out.2.2; ⟨cs, h1.keep hq.k HFZ.out, h2⟩⟩
  clear hq
  obtain ⟨D, hD⟩ : ∃ D, D = out ts (derT ms (pur s ns)) 32 := ⟨_, rfl⟩
  have HTL := Lib.hid (show (bvs D).length = 32 by rw [hD]; exact out_len32 _ _)
  have HDD := Lib.hid hD
  rw [← hD]
  clear hD
  refine ⟨_, rfl, HS6.out, fun _ => ?_⟩
  simp only [Act.put, List.setIfInBounds_toArray, List.set_cons_zero, List.set_cons_succ]
  obtain ⟨cs, hcs, hcl⟩ := HS6.out.2.2
  refine reg_store 12 none 39 (.tmp 6) (.tmp 27) rfl rfl rfl (by kernel_rfl) (by rfl) w.heap.size 39 cs (bvs D) hcs rfl rfl (by rw [HTL.out, hcl]) (by rw [HTL.out]; kernel_rfl) (bvs_one _) ?_
  intro w7 hB7 k7 z7
  have HW7 := Lib.hid (HQ.out.i.keep k7 (fun i h e => HNZ.out (by have e : i = w.heap.size := e; rw [← e]; exact h)))
  have HK7 := Lib.hid (HQ.out.k.trans k7 (fun i e => .inr (by have e : i = w.heap.size := e; omega)))
  have hv1 := HV.out.b.lt
  have hm1 := HV.out.s.lt
  have HB7 := Lib.hid hB7
  refine ⟨⟨HK7.out, HS6.out.2.1.keep k7 (fun e => by have e : v = w.heap.size := e; omega) (fun e => by have e : m = w.heap.size := e; omega), ⟨_, hB7, HTL.out⟩⟩, fun _ => ?_⟩
  clear k7 z7 hB7 hcs hcl hv1 hm1
  simp only [Act.put, List.setIfInBounds_toArray, List.set_cons_zero, List.set_cons_succ]
  refine reg_end (by kernel_rfl) ?_
  go_wp2
  have hsz : (Tryz.prog.info? 39).map (·.size) = some (bvs D).toArray.size := by rw [List.size_toArray, HTL.out]; kernel_rfl
  exact bodyPost_ret (results_cell_row rfl _ _ w.heap.size _ _ _ _ rfl HB7.out key_under rfl hsz) rfl (by first | exact ⟨F2, by rw [HDD.out], HW7.out, HQ.out.f, HK7.out⟩ | exact ⟨by rw [HDD.out], F2, HW7.out, HQ.out.f, HK7.out⟩)
end Go.Proofs.YtiimfhacnfdmhaaGreat.Vault
namespace Go.Proofs.YtiimfhacnfdmhaaGreat.Vault
open Go Go.RowKit Kit
open Ideal (Iw Iq Ans Arg Args Thing mk out sealT opn derT hashT z32 zc zc_run zc_length zc_eq)
open Sha (Pc PcsOk catP)
set_option maxHeartbeats 1000000 in
set_option maxRecDepth 100000 in
theorem im_hash (p : Nat) (F : Nat → Prop) (ts : List Thing) (B : Option Addr) (m d : Nat) (ps : List Pc) (w0 : World)
    (hw : Iw w0 p F ts) (hp : Args w0 F B m ps) (hl : ts.length ≤ 100000) (lp : (catP ps).length ≤ 1048576) :
    Calls Tryz.prog 200 #[.agg #[.pointer (some ⟨p, 0, none⟩)], .slice B m d] w0 fun e w' => ∃ F2, e = .returned (.agg (bvs (out ts (hashT (catP ps)) 32)).toArray) ∧ Iq w0 F w' p F2 (mk ts (hashT (catP ps))) := by
  have hz := zc_run
  have k0 : Kp nob w0 ((w0.alloc (.cells #[.pointer (some ⟨p, 0, none⟩)] 105)).alloc (.cells zc.toArray 32)) := ((Kp.refl nob w0).alloc _).alloc _
  have HB := Lib.hid (show Blk ((w0.alloc (.cells #[.pointer (some ⟨p, 0, none⟩)] 105)).alloc (.cells zc.toArray 32)) (w0.heap.size + 1) 32 zc from Blk.new' (by simp) rfl)
  have HOF := Lib.hid (Ideal.hash_i p F ts B m d ps _ (hw.keep k0 (fun _ _ e => e)) (hp.keep0 k0) hl lp)
  have HL := Lib.hid (show (out ts (hashT (catP ps)) 32).length = 32 from Ideal.out_length _ _ _ (by omega))
  have HK := Lib.hid k0
  have hF := hw.lt
  clear hw hp hl lp k0
  obtain ⟨T, hT⟩ : ∃ T, T = mk ts (hashT (catP ps)) := ⟨_, rfl⟩
  rw [← hT] at HOF ⊢
  generalize out ts (hashT (catP ps)) 32 = D at *
  go_enter Tryz.func200, Tryz.ntmps200
  go_wp2_with (first
    | (go_at_call 205; refine HOF.out.mono ?_; rintro e w2 ⟨F2, rfl, hq⟩; have HB2 := Lib.hid (HB.out.keep hq.k (fun e => by have := hF _ e; omega)); have HQ := Lib.hid (hq.back HK.out); have HN := Lib.hid (show ¬ F2 (w0.heap.size + 1) from fun e => (hq.f _ e).elim (fun e => by have := hF _ e; omega) (fun e => by simp at e <;> omega)); clear hq)
    | (refine wpList_store_blk rfl 32 (.tmp 4) (.tmp 8) rfl _ _ _ (bvs D) HB2.out rfl rfl (by rw [bvs_length, HL.out, zc_length]) (by rw [bvs_length, HL.out]; kernel_rfl) (bvs_one _) ?_; intro w3 hB3 k3 z3)
    | fail)
  exact bodyPost_ret (results_cell_row rfl _ _ (w0.heap.size + 1) _ _ _ _ rfl hB3 rarr_under rfl (by rw [List.size_toArray]; exact rarr_size D HL.out)) rfl (by
    have hA : Iw w3 p F2 T := HQ.out.i.keep k3 (fun i h e => HN.out (by have e : i = w0.heap.size + 1 := e; rw [← e]; exact h))
    have hC : Kp F w0 w3 := HQ.out.k.trans k3 (fun i e => .inr (by have e : i = w0.heap.size + 1 := e; omega))
    first | exact ⟨F2, rfl, hA, HQ.out.f, hC⟩ | exact ⟨rfl, F2, hA, HQ.out.f, hC⟩)
set_option maxHeartbeats 1000000 in
set_option maxRecDepth 100000 in
theorem hash_ideal (v m p : Nat) (F : Nat → Prop) (ts : List Thing) (ms : List UInt8) (lim : Nat) (sl : List (Value × Value)) (cl : Nat) (B : Option Addr) (n d : Nat) (ps : List Pc) (w0 : World) (hv : Vb w0 v m (imk p) ms lim sl cl)
    (hw : Iw w0 p F ts) (hp : Args w0 F B n ps) (hl : ts.length ≤ 100000) (lp : (catP ps).length ≤ 1048576) :
    Calls Tryz.prog 35 #[.pointer (some ⟨v, 0, none⟩), .slice B n d] w0 fun e w' => ∃ F2, e = .returned (.agg (bvs (out ts (hashT (catP ps)) 32)).toArray) ∧ Iq w0 F w' p F2 (mk ts (hashT (catP ps))) := by
  have hz := zc_run
  have k0 : Kp nob w0 (w0.alloc (.cells zc.toArray 32)) := (Kp.refl nob w0).alloc _
  have HB := Lib.hid (show Blk (w0.alloc (.cells zc.toArray 32)) w0.heap.size 32 zc from Blk.new' (by simp) rfl)
  have HOF := Lib.hid (im_hash p F ts B n d ps _ (hw.keep k0 (fun _ _ e => e)) (hp.keep0 k0) hl lp)
  have HL := Lib.hid (show (out ts (hashT (catP ps)) 32).length = 32 from Ideal.out_length _ _ _ (by omega))
  have HK := Lib.hid k0
  have hc := (hv.keep0 k0).mk_
  have hF := hw.lt
  clear hv hw hp hl lp k0
  obtain ⟨T, hT⟩ : ∃ T, T = mk ts (hashT (catP ps)) := ⟨_, rfl⟩
  rw [← hT] at HOF ⊢
  generalize out ts (hashT (catP ps)) 32 = D at *
  go_enter Tryz.func35, Tryz.ntmps35
  go_wp2_with (first
    | (refine wpList_enter_gd (by rfl) _ _ (exec_invoke 200 105 (.agg #[.pointer (some ⟨p, 0, none⟩)]) (.agg #[.pointer (some ⟨p, 0, none⟩)]) _ _ _ _ [.slice B n d] rfl rfl (by kernel_rfl) (by kernel_rfl) rfl) ?_; refine HOF.out.mono ?_; rintro e w2 ⟨F2, rfl, hq⟩; refine ⟨_, rfl, ?_⟩; have HB2 := Lib.hid (HB.out.keep hq.k (fun e => by have := hF _ e; omega)); have HQ := Lib.hid (hq.back HK.out); have HN := Lib.hid (show ¬ F2 w0.heap.size from fun e => (hq.f _ e).elim (fun e => by have := hF _ e; omega) (fun e => by simp at e <;> omega)); clear hq)
    | (refine wpList_store_blk rfl 32 (.tmp 4) (.tmp 13) rfl _ _ _ (bvs D) HB2.out rfl rfl (by rw [bvs_length, HL.out, zc_length]) (by rw [bvs_length, HL.out]; kernel_rfl) (bvs_one _) ?_; intro w3 hB3 k3 z3)
    | fail)
  exact bodyPost_ret (results_cell_row rfl _ _ w0.heap.size _ _ _ _ rfl hB3 rarr_under rfl (by rw [List.size_toArray]; exact rarr_size D HL.out)) rfl (by
    have hA : Iw w3 p F2 T := HQ.out.i.keep k3 (fun i h e => HN.out (by have e : i = w0.heap.size := e; rw [← e]; exact h))
    have hC : Kp F w0 w3 := HQ.out.k.trans k3 (fun i e => .inr (by have e : i = w0.heap.size := e; omega))
    first | exact ⟨F2, rfl, hA, HQ.out.f, hC⟩ | exact ⟨rfl, F2, hA, HQ.out.f, hC⟩)
end Go.Proofs.YtiimfhacnfdmhaaGreat.Vault
namespace Go.Proofs.YtiimfhacnfdmhaaGreat.Sha
open Go Go.RowKit Kit
def rotr (x : UInt32) (k : Nat) : UInt32 := (x >>> UInt32.ofNat k) ||| (x <<< UInt32.ofNat (32 - k))
def three (x : UInt32) (i j k : Nat) : UInt32 := rotr x i ^^^ rotr x j ^^^ rotr x k
def sml (x : UInt32) (i j k : Nat) : UInt32 := rotr x i ^^^ rotr x j ^^^ (x >>> UInt32.ofNat k)
structure St where
  a : UInt32
  b : UInt32
  c : UInt32
  d : UInt32
  e : UInt32
  f : UInt32
  g : UInt32
  h : UInt32
deriving DecidableEq
def St.list (s : St) : List UInt32 := [s.a, s.b, s.c, s.d, s.e, s.f, s.g, s.h]
structure ShaTab where
  h : St
  k : List UInt32
  len : k.length = 64
def H0 [Inhabited ShaTab] : St := (default : ShaTab).h
def Ks [Inhabited ShaTab] : List UInt32 := (default : ShaTab).k
theorem Ks_length [Inhabited ShaTab] : Ks.length = 64 := (default : ShaTab).len
def word (a b c d : UInt8) : UInt32 := ((((a.toUInt32 <<< 8) ||| b.toUInt32) <<< 8 ||| c.toUInt32) <<< 8) ||| d.toUInt32
def words (l : List UInt8) (k : Nat) : List UInt32 := (List.range k).map fun i => word (l.getD (4 * i) 0) (l.getD (4 * i + 1) 0) (l.getD (4 * i + 2) 0) (l.getD (4 * i + 3) 0)
theorem words_length (l : List UInt8) (k : Nat) : (words l k).length = k := by simp [words]
def ext (w : List UInt32) : UInt32 := w.getD (w.length - 16) 0 + sml (w.getD (w.length - 15) 0) 7 18 3 + w.getD (w.length - 7) 0 + sml (w.getD (w.length - 2) 0) 17 19 10
def sch (l : List UInt8) : Nat → List UInt32
  | 0 => words l 16
  | k + 1 => sch l k ++ [ext (sch l k)]
theorem sch_length (l : List UInt8) (k : Nat) : (sch l k).length = 16 + k := by
  induction k with
  | zero => simp [sch, words_length]
  | succ k ih => simp [sch, ih]; omega
def rnd (s : St) (k w : UInt32) : St :=
  let p := s.h + three s.e 6 11 25 + ((s.e &&& s.f) ^^^ (~~~s.e &&& s.g)) + k + w
  let q := three s.a 2 13 22 + ((s.a &&& s.b) ^^^ (s.a &&& s.c) ^^^ (s.b &&& s.c))
  ⟨p + q, s.a, s.b, s.c, s.d + p, s.e, s.f, s.g⟩
def rnds [Inhabited Sha.ShaTab] (s : St) (ws : List UInt32) : Nat → St
  | 0 => s
  | i + 1 => rnd (rnds s ws i) (Ks.getD i 0) (ws.getD i 0)
theorem rnds_zero [Inhabited Sha.ShaTab] (s : St) (ws : List UInt32) : rnds s ws 0 = s := rfl
theorem rnds_succ [Inhabited Sha.ShaTab] (s : St) (ws : List UInt32) (i : Nat) : rnds s ws (i + 1) = rnd (rnds s ws i) (Ks.getD i 0) (ws.getD i 0) := rfl
theorem sch_zero (l : List UInt8) : sch l 0 = words l 16 := rfl
theorem sch_succ (l : List UInt8) (k : Nat) : sch l (k + 1) = sch l k ++ [ext (sch l k)] := rfl
theorem zip_step (S T : List UInt32) (i : Nat) (h1 : i < S.length) (h2 : i < T.length) :
    ((List.zipWith (· + ·) S T).take i ++ S.drop i).set i (S[i] + T[i]) = (List.zipWith (· + ·) S T).take (i + 1) ++ S.drop (i + 1) := by
  have hz : ((List.zipWith (· + ·) S T).take i).length = i := by simp; omega
  rw [List.set_append_right _ _ (by omega), hz, Nat.sub_self, List.drop_eq_getElem_cons h1, List.set_cons_zero, List.take_succ_eq_append_getElem (by simp; omega)]
  simp
def St.add (s t : St) : St := ⟨s.a + t.a, s.b + t.b, s.c + t.c, s.d + t.d, s.e + t.e, s.f + t.f, s.g + t.g, s.h + t.h⟩
theorem St.add_list (s t : St) : (s.add t).list = List.zipWith (· + ·) s.list t.list := rfl
def next [Inhabited Sha.ShaTab] (s : St) (l : List UInt8) : St := s.add (rnds s (sch l 48) 64)
def run [Inhabited Sha.ShaTab] (s : St) (l : List UInt8) : Nat → St
  | 0 => s
  | n + 1 => run (next s (l.take 64)) (l.drop 64) n
theorem run_snoc [Inhabited Sha.ShaTab] (s : St) (l : List UInt8) (n : Nat) : run s l (n + 1) = next (run s l n) ((l.drop (64 * n)).take 64) := by
  induction n generalizing s l with
  | zero => simp [run]
  | succ n ih => rw [run, ih, run, List.drop_drop, show 64 + 64 * n = 64 * (n + 1) by omega]
theorem run_app [Inhabited Sha.ShaTab] (s : St) (l m : List UInt8) (n : Nat) (h : 64 * n ≤ l.length) : run s (l ++ m) n = run s l n := by
  induction n generalizing s l with
  | zero => rfl
  | succ n ih =>
    rw [run, run, List.take_append_of_le_length (by omega), List.drop_append_of_le_length (by omega), ih _ _ (by simp; omega)]
structure Taken [Inhabited Sha.ShaTab] (l : List UInt8) (s : St) (blk : List UInt8) : Prop where
  state : s = run H0 l (l.length / 64)
  size : blk.length = 64
  block : blk.take (l.length % 64) = l.drop (64 * (l.length / 64))
theorem Taken.none [Inhabited Sha.ShaTab] (blk : List UInt8) (h : blk.length = 64) : Taken [] H0 blk := ⟨rfl, h, by simp⟩
theorem Taken.more [Inhabited Sha.ShaTab] {l : List UInt8} {s : St} {blk cs : List UInt8} (h : Taken l s blk) (hc : l.length % 64 + cs.length < 64) : Taken (l ++ cs) s (splice blk (l.length % 64) cs) := by
  have e1 : (l ++ cs).length / 64 = l.length / 64 := by simp; omega
  have e2 : (l ++ cs).length % 64 = l.length % 64 + cs.length := by simp; omega
  have hb := h.size
  refine ⟨?_, by rw [length_splice _ _ _ (by omega), hb], ?_⟩
  · rw [e1, run_app _ _ _ _ (by omega)]; exact h.state
  · rw [e1, e2, splice, ← List.append_assoc, List.take_append_of_le_length (by simp; omega), List.take_of_length_le (by simp; omega), List.drop_append_of_le_length (by omega), h.block]
theorem Taken.full [Inhabited Sha.ShaTab] {l : List UInt8} {s : St} {blk cs : List UInt8} (h : Taken l s blk) (hc : l.length % 64 + cs.length = 64) : Taken (l ++ cs) (next s (splice blk (l.length % 64) cs)) (splice blk (l.length % 64) cs) := by
  have e1 : (l ++ cs).length / 64 = l.length / 64 + 1 := by simp; omega
  have e2 : (l ++ cs).length % 64 = 0 := by simp; omega
  have hb := h.size
  have e3 : splice blk (l.length % 64) cs = l.drop (64 * (l.length / 64)) ++ cs := by
    rw [splice, h.block, @List.drop_eq_nil_of_le UInt8 blk _ (by omega), List.append_nil]
  refine ⟨?_, by rw [length_splice _ _ _ (by omega), hb], ?_⟩
  · rw [e1, run_snoc, run_app _ _ _ _ (by omega), ← h.state, e3, List.drop_append_of_le_length (by omega), List.take_of_length_le (by simp; omega)]
  · rw [e1, e2, List.drop_eq_nil_of_le (by simp; omega)]; rfl
def digest (s : St) : List UInt8 := (List.range 32).map fun i => UInt8.ofNat ((s.list.getD (i / 4) 0).toNat / 2 ^ (24 - 8 * (i % 4)))
theorem digest_length (s : St) : (digest s).length = 32 := by simp [digest]
def tail (n : Nat) : List UInt8 := 128 :: List.replicate ((119 - n % 64) % 64) 0 ++ (le 8 (8 * n)).reverse
def padded (l : List UInt8) : List UInt8 := l ++ tail l.length
theorem Taken.last [Inhabited Sha.ShaTab] {l : List UInt8} {s : St} {blk : List UInt8} (h : Taken l s blk) (hu : l.length % 64 ≤ 55) :
    run H0 (padded l) ((padded l).length / 64) = next s (blk.take (l.length % 64) ++ 128 :: List.replicate (55 - l.length % 64) 0 ++ (le 8 (8 * l.length)).reverse) := by
  have hl : (padded l).length = l.length + 1 + (55 - l.length % 64) + 8 := by simp [padded, tail]; omega
  rw [show (padded l).length / 64 = l.length / 64 + 1 by omega, run_snoc, padded, run_app _ _ _ _ (by omega), ← h.state, h.block, List.drop_append_of_le_length (by omega), tail, show (119 - l.length % 64) % 64 = 55 - l.length % 64 by omega,
    List.take_of_length_le (by simp; omega)]
  simp
theorem Taken.last2 [Inhabited Sha.ShaTab] {l : List UInt8} {s : St} {blk : List UInt8} (h : Taken l s blk) (hu : 56 ≤ l.length % 64) :
    run H0 (padded l) ((padded l).length / 64) = next (next s (blk.take (l.length % 64) ++ 128 :: List.replicate (63 - l.length % 64) 0)) (List.replicate 56 0 ++ (le 8 (8 * l.length)).reverse) := by
  have hl : (padded l).length = l.length + 1 + (119 - l.length % 64) + 8 := by simp [padded, tail]; omega
  have e : padded l = l ++ (128 :: List.replicate (63 - l.length % 64) 0) ++ (List.replicate 56 0 ++ (le 8 (8 * l.length)).reverse) := by
    rw [padded, tail, show (119 - l.length % 64) % 64 = (63 - l.length % 64) + 56 by omega, ← List.replicate_append_replicate]; simp
  have hq : (l.drop (64 * (l.length / 64))).length = l.length % 64 := by simp; omega
  have hA : ((l ++ 128 :: List.replicate (63 - l.length % 64) 0 ++ (List.replicate 56 0 ++ (le 8 (8 * l.length)).reverse)).drop (64 * (l.length / 64))).take 64 = l.drop (64 * (l.length / 64)) ++ 128 :: List.replicate (63 - l.length % 64) 0 := by
    rw [List.append_assoc, List.drop_append_of_le_length (by omega), ← List.append_assoc, List.take_append_of_le_length (by simp; omega), List.take_of_length_le (by simp; omega)]
  have hB : ((l ++ 128 :: List.replicate (63 - l.length % 64) 0 ++ (List.replicate 56 0 ++ (le 8 (8 * l.length)).reverse)).drop (64 * (l.length / 64 + 1))).take 64 = List.replicate 56 0 ++ (le 8 (8 * l.length)).reverse := by
    have : (l ++ 128 :: List.replicate (63 - l.length % 64) 0).length = 64 * (l.length / 64 + 1) := by simp; omega
    rw [← this, List.drop_left, List.take_of_length_le (by simp)]
  rw [show (padded l).length / 64 = l.length / 64 + 1 + 1 by omega, run_snoc, run_snoc, e, hA, hB, run_app _ _ _ _ (by simp; omega), run_app _ _ _ _ (by omega), ← h.state, h.block]
def of [Inhabited Sha.ShaTab] (l : List UInt8) : List UInt8 := digest (run H0 (padded l) ((padded l).length / 64))
theorem of_eq [Inhabited Sha.ShaTab] (l : List UInt8) : of l = digest (run H0 (padded l) ((padded l).length / 64)) := rfl
theorem of_length [Inhabited Sha.ShaTab] (l : List UInt8) : (of l).length = 32 := digest_length _
theorem next_eq [Inhabited Sha.ShaTab] (s : St) (l : List UInt8) : next s l = s.add (rnds s (sch l 48) 64) := rfl
attribute [irreducible] sch rnds run next of padded words
/- Words of 32 bits as integers. -/
def cw (x : UInt32) : Int := (x.toNat : Int)
def uv (x : UInt32) : Value := .int .u32 (cw x)
def uvs (l : List UInt32) : List Value := l.map uv
@[simp] theorem uvs_length (l : List UInt32) : (uvs l).length = l.length := by simp [uvs]
theorem cw_wrap (n : Nat) : IntKind.u32.wrap (n : Int) = cw (UInt32.ofNat n) := by
  rw [IntKind.wrap_u32, cw]; simp
theorem ofInt_cw (a : UInt32) : (BitVec.ofInt 32 (cw a)).toNat = a.toNat := by
  rw [cw, BitVec.ofInt_natCast, BitVec.toNat_ofNat]; exact Nat.mod_eq_of_lt a.toNat_lt
@[go_sem] theorem cw_add (a b : UInt32) : IntKind.u32.wrap (cw a + cw b) = cw (a + b) := by
  rw [IntKind.wrap_u32]; simp [cw]
@[go_sem] theorem cw_and (a b : UInt32) : bits .and .u32 (cw a) (cw b) = cw (a &&& b) := by
  show IntKind.u32.wrap ((BitVec.ofInt 32 (cw a) &&& BitVec.ofInt 32 (cw b)).toNat : Int) = _
  rw [BitVec.toNat_and, ofInt_cw, ofInt_cw, cw_wrap, ← UInt32.toNat_and, UInt32.ofNat_toNat]
@[go_sem] theorem cw_or (a b : UInt32) : bits .or .u32 (cw a) (cw b) = cw (a ||| b) := by
  show IntKind.u32.wrap ((BitVec.ofInt 32 (cw a) ||| BitVec.ofInt 32 (cw b)).toNat : Int) = _
  rw [BitVec.toNat_or, ofInt_cw, ofInt_cw, cw_wrap, ← UInt32.toNat_or, UInt32.ofNat_toNat]
@[go_sem] theorem cw_xor (a b : UInt32) : bits .xor .u32 (cw a) (cw b) = cw (a ^^^ b) := by
  show IntKind.u32.wrap ((BitVec.ofInt 32 (cw a) ^^^ BitVec.ofInt 32 (cw b)).toNat : Int) = _
  rw [BitVec.toNat_xor, ofInt_cw, ofInt_cw, cw_wrap, ← UInt32.toNat_xor, UInt32.ofNat_toNat]
theorem cw_shl (a : UInt32) (k : Nat) (h : k < 32) : IntKind.u32.wrap (cw a * 2 ^ k) = cw (a <<< UInt32.ofNat k) := by
  have e : cw a * 2 ^ k = ((a.toNat * 2 ^ k : Nat) : Int) := by simp [cw]
  rw [e, IntKind.wrap_u32, cw, UInt32.toNat_shiftLeft, UInt32.toNat_ofNat', Nat.shiftLeft_eq, Nat.mod_eq_of_lt (a := k) (by omega), Nat.mod_eq_of_lt h]; simp
theorem cw_shr (a : UInt32) (k : Nat) (h : k < 32) : cw a / 2 ^ k = cw (a >>> UInt32.ofNat k) := by
  have e : cw a / 2 ^ k = ((a.toNat / 2 ^ k : Nat) : Int) := by simp [cw]
  rw [e, cw, UInt32.toNat_shiftRight, UInt32.toNat_ofNat', Nat.shiftRight_eq_div_pow, Nat.mod_eq_of_lt (a := k) (by omega), Nat.mod_eq_of_lt h]
@[go_sem] theorem cw_shl8 (a : UInt32) : IntKind.u32.wrap (cw a * (256 : Int)) = cw (a <<< 8) := cw_shl a 8 (by omega)
@[go_sem] theorem cw_shr3 (a : UInt32) : cw a / (8 : Int) = cw (a >>> 3) := cw_shr a 3 (by omega)
@[go_sem] theorem cw_shr10 (a : UInt32) : cw a / (1024 : Int) = cw (a >>> 10) := cw_shr a 10 (by omega)
theorem uvs_one (l : List UInt32) : ∀ u ∈ uvs l, u.oneCell' = true := by
  intro u hu; simp only [uvs, List.mem_map] at hu; obtain ⟨b, _, rfl⟩ := hu; rfl
@[go_sem] theorem cw_sum2 (a b : UInt32) : (cw a + cw b) % 4294967296 = cw (a + b) := by rw [← cw_add, IntKind.wrap_u32]
@[go_sem] theorem cw_sum3 (a b c : UInt32) : (cw a + cw b + cw c) % 4294967296 = cw (a + b + c) := by rw [← cw_sum2, ← cw_sum2]; omega
@[go_sem] theorem cw_sum4 (a b c d : UInt32) : (cw a + cw b + cw c + cw d) % 4294967296 = cw (a + b + c + d) := by rw [← cw_sum2, ← cw_sum3]; omega
@[go_sem] theorem cw_sum5 (a b c d e : UInt32) : (cw a + cw b + cw c + cw d + cw e) % 4294967296 = cw (a + b + c + d + e) := by rw [← cw_sum2, ← cw_sum4]; omega
@[go_sem] theorem cw_not (a : UInt32) : bits .xor .u32 IntKind.u32.max (cw a) = cw (~~~a) := by
  have e : IntKind.u32.max = cw 4294967295 := by decide
  rw [e, cw_xor]
  congr 1
@[go_sem] theorem cw_u8 (x : UInt8) : (x.toNat : Int) % 4294967296 = cw x.toUInt32 := by have := x.toNat_lt; simp [cw]; omega
@[go_sem] theorem cw_shl24 (a : UInt32) : IntKind.u32.wrap (cw a * (16777216 : Int)) = cw (a <<< 24) := cw_shl a 24 (by omega)
@[go_sem] theorem cw_shl16 (a : UInt32) : IntKind.u32.wrap (cw a * (65536 : Int)) = cw (a <<< 16) := cw_shl a 16 (by omega)
theorem and31 (k : Nat) (h : 1 ≤ k) (hk : k ≤ 31) : bits .and .u64 (IntKind.u64.wrap (-(k : Int))) 31 = ((32 - k : Nat) : Int) := by
  have : k = 1 ∨ k = 2 ∨ k = 3 ∨ k = 4 ∨ k = 5 ∨ k = 6 ∨ k = 7 ∨ k = 8 ∨ k = 9 ∨ k = 10 ∨ k = 11 ∨ k = 12 ∨ k = 13 ∨ k = 14 ∨ k = 15 ∨ k = 16 ∨ k = 17 ∨ k = 18 ∨ k = 19 ∨ k = 20 ∨ k = 21 ∨ k = 22 ∨ k = 23 ∨ k = 24 ∨ k = 25 ∨ k = 26 ∨ k = 27 ∨ k = 28 ∨ k = 29 ∨ k = 30 ∨ k = 31 := by omega
  rcases this with rfl | rfl | rfl | rfl | rfl | rfl | rfl | rfl | rfl | rfl | rfl | rfl | rfl | rfl | rfl | rfl | rfl | rfl | rfl | rfl | rfl | rfl | rfl | rfl | rfl | rfl | rfl | rfl | rfl | rfl | rfl <;> decide +kernel
theorem turned_nat (x : UInt32) (k : Nat) (w : World) (h : 1 ≤ k) (hk : k ≤ 31) :
    Calls Tryz.prog 179 #[.int .u32 (cw x), .int .i64 k] w fun e w' => e = .returned (.int .u32 (cw (rotr x k))) ∧ w = w' := by
  obtain ⟨j, hj⟩ : ∃ j, j = 32 - k := ⟨_, rfl⟩
  have ha := and31 k h hk
  rw [← hj] at ha
  have hj1 : j ≤ 32 := by omega
  have hs1 : IntKind.u32.wrap (cw x * 2 ^ j) = cw (x <<< UInt32.ofNat j) := cw_shl x j (by omega)
  have hs2 : cw x / 2 ^ k = cw (x >>> UInt32.ofNat k) := cw_shr x k (by omega)
  have h64 : IntKind.u64.wrap (32 - (j : Int)) = (k : Int) := by rw [IntKind.wrap_u64]; omega
  have hm1 : min j 32 = j := by omega
  have hm2 : min k 32 = k := by omega
  have HR := Lib.hid (show rotr x k = x <<< UInt32.ofNat j ||| x >>> UInt32.ofNat k by rw [rotr, UInt32.or_comm, hj])
  clear hj
  go_enter Tryz.func179, Tryz.ntmps179
  go_wp2
  go_ret
  rw [HR.out]
  exact ⟨rfl, rfl⟩
theorem turned_any (x : UInt32) (i : Int) (w : World) (h : 1 ≤ i) (hk : i ≤ 31) :
    Calls Tryz.prog 179 #[.int .u32 (cw x), .int .i64 i] w fun e w' => e = .returned (.int .u32 (cw (rotr x i.toNat))) ∧ w = w' := by
  obtain ⟨k, rfl⟩ := Int.eq_ofNat_of_zero_le (a := i) (by omega)
  exact turned_nat x k w (by omega) (by omega)
def pw (l : List UInt8) (k i : Nat) : UInt32 := (((l.take k).drop (4 * i)).take 4).foldl (fun x b => x <<< 8 ||| b.toUInt32) 0
def pws (l : List UInt8) (k : Nat) : List UInt32 := (List.range 64).map (pw l k)
theorem pws_get (l : List UInt8) (k i : Nat) (h : i < 64) : (uvs (pws l k))[i]? = some (.int .u32 (cw (pw l k i))) := by simp [uvs, pws, h, uv]
theorem pw_step (l : List UInt8) (k i : Nat) (hk : k < l.length) : pw l (k + 1) i = if i = k / 4 then pw l k i <<< 8 ||| (l[k]).toUInt32 else pw l k i := by
  have e : l.take (k + 1) = l.take k ++ [l[k]] := by rw [List.take_succ_eq_append_getElem hk]
  have hlen : (l.take k).length = k := by simp; omega
  unfold pw
  rw [e]
  by_cases h : i = k / 4
  · have t1 : ((l.take k ++ [l[k]]).drop (4 * i)).take 4 = (l.take k).drop (4 * i) ++ [l[k]] := by rw [List.drop_append_of_le_length (by omega), List.take_of_length_le (by simp; omega)]
    have t2 : ((l.take k).drop (4 * i)).take 4 = (l.take k).drop (4 * i) := List.take_of_length_le (by simp; omega)
    rw [if_pos h, t1, t2, List.foldl_append]
    rfl
  · rw [if_neg h]
    by_cases h1 : 4 * i ≤ k
    · rw [List.drop_append_of_le_length (by omega), List.take_append_of_le_length (by simp; omega)]
    · rw [List.drop_eq_nil_of_le (by simp; omega), List.drop_eq_nil_of_le (by omega)]
theorem pws_step (l : List UInt8) (k : Nat) (x : UInt8) (hx : l[k]? = some x) (_ : k < 64) : (uvs (pws l k)).set (k / 4) (.int .u32 (cw (pw l k (k / 4) <<< 8 ||| x.toUInt32))) = uvs (pws l (k + 1)) := by
  obtain ⟨hk, rfl⟩ := List.getElem?_eq_some_iff.1 hx
  apply List.ext_getElem
  · simp [uvs, pws]
  · intro i h1 h2
    simp only [uvs, pws, List.getElem_set, List.getElem_map, List.getElem_range, pw_step l k i hk]
    by_cases h : i = k / 4
    · rw [if_pos h.symm, if_pos h, h]; rfl
    · rw [if_neg (fun e => h e.symm), if_neg h]
theorem pws_end (l : List UInt8) (hl : l.length = 64) : pws l 64 = words l 16 ++ List.replicate 48 0 := by
  apply List.ext_getElem
  · simp [pws, words]
  · intro i h1 h2
    by_cases h : i < 16
    · rw [List.getElem_append_left (by simp [words]; exact h)]
      simp only [pws, words, List.getElem_map, List.getElem_range, pw]
      rw [List.take_of_length_le (i := 64) (l := l) (by omega)]
      have e : (l.drop (4 * i)).take 4 = [l.getD (4 * i) 0, l.getD (4 * i + 1) 0, l.getD (4 * i + 2) 0, l.getD (4 * i + 3) 0] := by
        apply List.ext_getElem
        · simp; omega
        · intro j h3 h4
          simp at h4
          rw [List.getElem_take, List.getElem_drop]
          match j, h4 with
          | 0, _ => simp [List.getD]; rw [List.getElem?_eq_getElem (by omega)]; rfl
          | 1, _ => simp [List.getD]; rw [List.getElem?_eq_getElem (by omega)]; rfl
          | 2, _ => simp [List.getD]; rw [List.getElem?_eq_getElem (by omega)]; rfl
          | 3, _ => simp [List.getD]; rw [List.getElem?_eq_getElem (by omega)]; rfl
      rw [e]
      simp [word]
    · rw [List.getElem_append_right (by simp [words]; omega)]
      simp only [pws, List.getElem_map, List.getElem_range, List.getElem_replicate, pw]
      rw [List.drop_eq_nil_of_le (by simp; omega)]
      rfl
theorem arr32 : Tryz.prog.underlying 114 = some (.array 64 111) := by kernel_rfl
theorem sch_set (l : List UInt8) (m m16 : Nat) (x : UInt32) (hm : m = m16 + 16) (hlt : m < 64) (hx : sch l (m16 + 1) = sch l m16 ++ [x]) :
    (uvs (sch l m16 ++ List.replicate (64 - m) 0)).set m (uv x) = uvs (sch l (m + 1 - 16) ++ List.replicate (64 - (m + 1)) 0) := by
  have hl := sch_length l m16
  rw [show m + 1 - 16 = m16 + 1 by omega, hx, show 64 - m = (64 - (m + 1)) + 1 by omega, List.replicate_succ]
  simp only [uvs, List.map_append, List.map_cons, List.append_assoc, List.cons_append, List.nil_append]
  rw [List.set_append_right _ _ (by simp; omega)]
  simp [hl, show m - (16 + m16) = 0 by omega]
theorem sch_ext (l : List UInt8) (m m16 m15 m7 m2 : Nat) (hm : 16 ≤ m) (h16 : m16 = m - 16) (h15 : m15 = m - 15) (h7 : m7 = m - 7) (h2 : m2 = m - 2) :
    sch l (m - 16 + 1) = sch l (m - 16) ++ [(sch l (m - 16)).getD m16 0 + sml ((sch l (m - 16)).getD m15 0) 7 18 3 + (sch l (m - 16)).getD m7 0 + sml ((sch l (m - 16)).getD m2 0) 17 19 10] := by
  subst h16; subst h15; subst h7; subst h2
  rw [sch_succ, ext, sch_length, show 16 + (m - 16) = m by omega]
set_option maxHeartbeats 800000 in
set_option maxRecDepth 100000 in
theorem spread_any (b o : Nat) (l : List UInt8) (w : World) (hl : l.length = 64) (hb : b < w.heap.size) (hr : w.rangeAt b o (bvs l)) :
    Calls Tryz.prog 178 #[.pointer (some ⟨b, o, none⟩)] w fun e w' => e = .returned (.agg (uvs (sch l 48)).toArray) ∧ Kp nob w w' := by
  have HL := Lib.hid hl; have HR := Lib.hid hr; clear hl hr
  go_enter Tryz.func178, Tryz.ntmps178
  go_wp2
  go_loopw [12] (fun i wr => ∃ k : Nat, k ≤ 64 ∧ i = .int .i64 k ∧ Blk wr w.heap.size 114 (uvs (List.replicate 64 0)) ∧ Blk wr (w.heap.size + 1) 114 (uvs (pws l k)) ∧ Kp nob w wr)
    (fun i _ => 64 - (intOf i).toNat)
  case atStart =>
    refine ⟨0, by omega, rfl, (Blk.new' rfl ?_).alloc _, Blk.new' (by simp) ?_, ((Kp.refl _ _).alloc _).alloc _⟩
    · rfl
    · have : pws l 0 = List.replicate 64 0 := by unfold pws; rw [List.eq_replicate_iff]; refine ⟨by simp, fun x hx => ?_⟩; simp [pw] at hx; exact hx.2.symm
      rw [this]; rfl
  case round =>
    obtain ⟨k, hk, rfl, h1, h2, hkp⟩ := hrel
    have H1 := Lib.hid h1; have H2 := Lib.hid h2; clear h1 h2
    have hl := HL.out
    by_cases hlt : k < 64
    · obtain ⟨x, hx⟩ : ∃ x, x = l[k] := ⟨_, rfl⟩
      have hc : wr.cell? ⟨b, o + k, none⟩ = some (.int .u8 x.toNat) := by
        rw [hkp.cell (p := ⟨b, o + k, none⟩) hb (fun e => e), HR.out k (bv l[k]) (bvs_get (by omega)), hx]; rfl
      have hd : wr.cell? ⟨w.heap.size + 1, k / 4, none⟩ = some (.int .u32 (cw (pw l k (k / 4)))) := by
        rw [H2.out.cell, pws_get l k (k / 4) (by omega)]
      have hf : wr.frozen? ⟨w.heap.size + 1, k / 4, none⟩ = false := H2.out.frozen _
      have HX : Hid (l[k]? = some x) := Lib.hid (by rw [hx]; exact List.getElem?_eq_getElem _)
      clear hx hl
      go_wp2
      go_quiet (fail)
      go_wp2
      go_roundw
      case rel =>
        refine ⟨k + 1, by omega, by go_num, ?_, ?_, ?_⟩
        · exact (H1.out.keep ((Kp.refl nob _).drewN nq) (fun e => e)).far (by simp) _
        · have := (H2.out.keep ((Kp.refl nob _).drewN nq) (fun e => e)).set_ (k / 4) (.int .u32 (cw (pw l k (k / 4) <<< 8 ||| x.toUInt32)))
          rwa [pws_step l k x HX.out hlt] at this
        · exact (hkp.drewN nq).setCell (.inr (by simp)) _
      case measure => simp [intOf]; omega
    · go_wp2
      go_loopw [6] (fun i wr => ∃ m : Nat, 16 ≤ m ∧ m ≤ 64 ∧ i = .int .i64 m ∧ Blk wr w.heap.size 114 (uvs (List.replicate 64 0)) ∧ Blk wr (w.heap.size + 1) 114 (uvs (sch l (m - 16) ++ List.replicate (64 - m) 0)) ∧ Kp nob w wr)
        (fun i _ => 64 - (intOf i).toNat)
      case atStart =>
        obtain rfl : k = 64 := by omega
        exact ⟨16, by omega, by omega, rfl, H1.out, by have := H2.out; rwa [pws_end l HL.out, ← sch_zero] at this, hkp⟩
      case round =>
        clear H1 H2 hkp hk hl hlt
        obtain ⟨m, hm, hj, rfl, h1, h2, hkp⟩ := hrel
        have H1 := Lib.hid h1; have H2 := Lib.hid h2; clear h1 h2
        by_cases hlt : m < 64
        · have hs := sch_length l (m - 16)
          have hc : ∀ i, i < m → wr.cell? ⟨w.heap.size + 1, i, none⟩ = some (.int .u32 (cw ((sch l (m - 16)).getD i 0))) := fun i hi => by
            rw [H2.out.cell, uvs, List.map_append, List.getElem?_append_left (by simp; omega), List.getElem?_map, List.getElem?_eq_getElem (by omega), List.getD, List.getElem?_eq_getElem (by omega)]; rfl
          obtain ⟨m16, h16⟩ : ∃ q, q = m - 16 := ⟨_, rfl⟩
          obtain ⟨m15, h15⟩ : ∃ q, q = m - 15 := ⟨_, rfl⟩
          obtain ⟨m7, h7⟩ : ∃ q, q = m - 7 := ⟨_, rfl⟩
          obtain ⟨m2, h2⟩ : ∃ q, q = m - 2 := ⟨_, rfl⟩
          have e16 : IntKind.i64.wrap ((m : Int) - 16) = (m16 : Int) := by rw [IntWalk.i64_in _ (by omega)]; omega
          have e15 : IntKind.i64.wrap ((m : Int) - 15) = (m15 : Int) := by rw [IntWalk.i64_in _ (by omega)]; omega
          have e7 : IntKind.i64.wrap ((m : Int) - 7) = (m7 : Int) := by rw [IntWalk.i64_in _ (by omega)]; omega
          have e2 : IntKind.i64.wrap ((m : Int) - 2) = (m2 : Int) := by rw [IntWalk.i64_in _ (by omega)]; omega
          have hc16 := hc m16 (by omega)
          have hc15 := hc m15 (by omega)
          have hc7 := hc m7 (by omega)
          have hc2 := hc m2 (by omega)
          have hx := sch_ext l m m16 m15 m7 m2 hm h16 h15 h7 h2
          have hi16 : m16 < 64 := by omega
          have hi15 : m15 < 64 := by omega
          have hi7 : m7 < 64 := by omega
          have hi2 : m2 < 64 := by omega
          have hf : wr.frozen? ⟨w.heap.size + 1, m, none⟩ = false := H2.out.frozen _
          have hcm : wr.cell? ⟨w.heap.size + 1, m, none⟩ = some (.int .u32 0) := by
            rw [H2.out.cell, uvs, List.map_append, List.getElem?_append_right (by simp; omega), List.getElem?_map, List.getElem?_replicate, if_pos (by simp; omega)]; rfl
          rw [← h16] at hc16 hc15 hc7 hc2 hx
          rw [← h16] at H2
          generalize (sch l m16).getD m16 0 = X16 at hc16 hx
          generalize (sch l m16).getD m15 0 = X15 at hc15 hx
          generalize (sch l m16).getD m7 0 = X7 at hc7 hx
          generalize (sch l m16).getD m2 0 = X2 at hc2 hx
          have HX := Lib.hid hx
          have HJ : Hid (m = m16 + 16) := Lib.hid (by omega)
          clear hc hs hx h16 h15 h7 h2
          go_wp2
          go_quiet (fail)
          go_wp2_with fail
          refine (turned_any _ 7 _ (by omega) (by omega)).mono ?_
          rintro e w2 ⟨rfl, rfl⟩
          go_wp2_with fail
          refine (turned_any _ 18 _ (by omega) (by omega)).mono ?_
          rintro e w2 ⟨rfl, rfl⟩
          go_wp2_with fail
          refine (turned_any _ 17 _ (by omega) (by omega)).mono ?_
          rintro e w2 ⟨rfl, rfl⟩
          go_wp2_with fail
          refine (turned_any _ 19 _ (by omega) (by omega)).mono ?_
          rintro e w2 ⟨rfl, rfl⟩
          go_wp2
          go_region
          go_wp2
          go_roundw
          case rel =>
            refine ⟨m + 1, by omega, by omega, by go_num, ?_, ?_, ?_⟩
            · exact (H1.out.keep ((Kp.refl nob _).drewN _) (fun e => e)).far (by simp) _
            · have := (H2.out.keep ((Kp.refl nob _).drewN (nq + 1)) (fun e => e)).set_ m (uv (X16 + sml X15 7 18 3 + X7 + sml X2 17 19 10))
              rw [sch_set l m m16 _ HJ.out hlt HX.out] at this
              exact this
            · exact (hkp.drewN _).setCell (.inr (by simp)) _
          case measure => simp [intOf]; omega
        · obtain rfl : m = 64 := by omega
          have h2 : Blk wr (w.heap.size + 1) 114 (uvs (sch l 48)) := by simpa using H2.out
          have h1 := H1.out
          clear H1 H2
          have hd1 : wr.rangeAt (w.heap.size + 1) 0 (uvs (sch l 48)) := fun j v hv => by rw [h2.cell]; simpa using hv
          have ht1 : wr.there w.heap.size 0 (uvs (sch l 48)).toArray.size := fun j hj => by
            rw [h1.cell, Nat.zero_add, List.getElem?_eq_getElem (by simpa [sch_length] using hj)]
            exact ⟨rfl, h1.frozen _⟩
          go_wp2_with (first
            | (refine wpList_load_mid rfl 114 (.tmp 3) rfl (w.heap.size + 1) 0 rfl (uvs (sch l 48)) _ hd1 arr32 rfl (by kernel_rfl) ?_)
            | (refine wpList_store_mid rfl 114 (.tmp 2) (.tmp 73) rfl w.heap.size 0 _ rfl rfl ht1 (by kernel_rfl) ?h1 ?_))
          case h1 => exact all_oneCell_toArray (uvs_one _)
          have hB : Blk (wr.setCells w.heap.size 0 (uvs (sch l 48))) w.heap.size 114 (uvs (sch l 48)) := h1.setAll (by simp [sch_length])
          have hK : Kp nob w (wr.setCells w.heap.size 0 (uvs (sch l 48))) := hkp.setCells (.inr (Nat.le_refl _)) _
          refine bodyPost_ret (results_cell_row rfl _ _ w.heap.size _ _ _ _ rfl hB arr32 rfl (by kernel_rfl)) rfl ⟨rfl, hK⟩
end Go.Proofs.YtiimfhacnfdmhaaGreat.Sha
