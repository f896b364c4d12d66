/- Contracts of the document's own disk: the power goes. -/
import Derived.Test.YtchdobneipfghaaZDiskT
import Derived.Test.YtchdobneipfghaaZG00
import Derived.Test.YtchdobneipfghaaZG03
import Derived.Test.YtchdobneipfghaaZG01
namespace Go.Proofs.Ytchdobneipfghaa.Disk
set_option linter.unusedVariables false
set_option linter.unusedSimpArgs false
open Go Go.RowKit Kit

theorem wc_length (x : Nat × List UInt8) : (wc x).length = 2 := rfl
theorem wcs_length (xs : List (Nat × List UInt8)) : (wcs xs).length = xs.length * 2 := by
  induction xs with
  | nil => rfl
  | cons t ts ih => rw [wcs, List.flatMap_cons, List.length_append, wc_length, ← wcs, ih, List.length_cons]; omega
theorem wcs_at (ts : List (Nat × List UInt8)) (i k : Nat) (t : Nat × List UInt8) (h : ts[i]? = some t) (hk : k < 2) : (wcs ts)[i * 2 + k]? = (wc t)[k]? := by
  induction ts generalizing i with
  | nil => cases h
  | cons a ts ih =>
    rw [wcs, List.flatMap_cons]
    cases i with
    | zero =>
      simp only [List.getElem?_cons_zero, Option.some.injEq] at h
      subst h
      rw [List.getElem?_append_left (by rw [wc_length]; omega)]; congr 1; omega
    | succ i =>
      rw [List.getElem?_append_right (by rw [wc_length]; omega), wc_length]
      rw [List.getElem?_cons_succ] at h
      rw [show (i + 1) * 2 + k - 2 = i * 2 + k by omega]
      exact ih i h
theorem wcs_row {w : World} {A : Option Addr} {xs : List (Nat × List UInt8)} (h : Row w A (wcs xs)) (i : Nat) (x : Nat × List UInt8) (hi : xs[i]? = some x) : ∃ B o, A = some ⟨B, o, none⟩ ∧ w.rangeAt B (o + i * 2) (wc x) := by
  have hil := (List.getElem?_eq_some_iff.1 hi).1
  rcases h with h0 | ⟨B, o, hM, hlt, hc⟩
  · have := congrArg List.length h0
    rw [wcs_length] at this
    simp at this; omega
  · refine ⟨B, o, hM, fun k v hv => ?_⟩
    have hk : k < 2 := (List.getElem?_eq_some_iff.1 hv).1
    have := hc (i * 2 + k) v (by rw [wcs_at xs i k x hi hk]; exact hv)
    rw [← Nat.add_assoc] at this
    exact this
theorem wU : Try.prog.underlying 70 = some (.struct (Try.prog.fieldsOf 70)) := by kernel_rfl
theorem wc_one (x : Nat × List UInt8) : ∀ u ∈ wc x, u.oneCell' = true := by
  intro u hu
  simp only [wc, List.mem_cons, List.not_mem_nil, or_false] at hu
  rcases hu with rfl | rfl <;> rfl
/-- The document's disk behind a call: it is D2 now; what else was there is as it was. -/
def Dm (w : World) (g : Nat) (F : Nat → Prop) (D2 : Dk) (w2 : World) : Prop := ∃ (F' : Nat → Prop) (N S W : Option Addr) (cN cS cW : Nat), Dd w2 g F' N S W cN cS cW D2 ∧ (∀ k, F' k → F k ∨ w.heap.size ≤ k) ∧ Kp F w w2
theorem kept_eq (keep i q : Nat) (h : keep / 2 ^ (i % 64) % 2 = q) : kept keep i = decide (q = 1) := by rw [kept, h]
set_option maxHeartbeats 4000000 in
set_option maxRecDepth 100000 in
theorem fLose (D : Dk) (keep : Nat) (g : Nat) (F : Nat → Prop) (N S W : Option Addr) (cN cS cW : Nat) (w : World) (h : Dd w g F N S W cN cS cW D) (ho : Ok D) (hn : D.now.length ≤ 4096) (hw : D.waits.length ≤ 100000) :
    Calls Try.prog 15 #[.pointer (some ⟨g, 0, none⟩), .int .u64 (keep : Int)] w fun e w' => e = .returned (.tuple #[]) ∧ Dm w g F (lose D keep) w' := by
  obtain ⟨c0, c1, c2, c3, c4, c5, c6⟩ := h.cells
  have HD := Lib.hid h
  have HO := Lib.hid ho
  clear c0 c1 c4 c5 c6 h
  cases hf : D.off with
  | true =>
    rw [hf] at c3
    have HR := Lib.hid (lose_off D keep hf)
    clear hf
    go_enter Try.func15, Try.ntmps15
    go_wp2
    refine bodyPost_ret (results_none rfl _ _ _) rfl ⟨rfl, ?_⟩
    rw [HR.out]
    exact ⟨F, N, S, W, cN, cS, cW, HD.out, fun k e => .inl e, Kp.refl _ _⟩
  | false =>
    rw [hf] at c3
    have HR := Lib.hid (lose_on D keep hf)
    have HOFF := Lib.hid hf
    have HLS := Lib.hid (show D.safe.length ≤ 4096 by rw [ho.safe]; exact hn)
    have HB := Lib.hid (show Blk w g 42 [.slice N D.now.length cN, .slice S D.safe.length cS, .slice W D.waits.length cW, .bool false, .int .i64 (D.acts : Int), .int .i64 (D.fuse : Int), .int .u64 (D.keep : Int)] from by have := HD.out.b; rw [hf] at this; exact this)
    clear hf hn
    go_enter Try.func15, Try.ntmps15
    go_wp2
    go_loopw [15] (fun vi wr => ∃ (k : Nat) (S' : Option Addr) (cS' : Nat), k ≤ D.waits.length ∧ vi = .int .i64 k ∧ Blk wr g 42 [.slice N D.now.length cN, .slice S' D.safe.length cS', .slice W D.waits.length cW, .bool false, .int .i64 (D.acts : Int), .int .i64 (D.fuse : Int), .int .u64 (D.keep : Int)] ∧ Row wr S' (svs (over keep 0 (D.waits.take k) D.safe)) ∧ D.safe.length ≤ cS' ∧ (∀ j, ab S' = some j → ((F j ∧ j ≠ g) ∨ w.heap.size ≤ j) ∧ j < wr.heap.size) ∧ Kp (oneB g) w wr)
      (fun vi _ => D.waits.length - (intOf vi).toNat)
    case atStart => exact ⟨0, S, cS, by omega, rfl, HB.out, HD.out.safe, HD.out.caps.2.1, fun j e => ⟨.inl (HD.out.fs j e), HD.out.lt j (HD.out.fs j e).1⟩, Kp.refl _ _⟩
    case round =>
      obtain ⟨k, S', cS', hk, rfl, hb, hr, hc, ha, hkp⟩ := hrel
      have HBr := Lib.hid hb; have HRr := Lib.hid hr; have HC := Lib.hid hc; have HA := Lib.hid ha; have HKP := Lib.hid hkp
      have HG := Lib.hid (show g < w.heap.size from HD.out.lt g HD.out.g)
      clear hb hr hc ha hkp
      by_cases hlt : k < D.waits.length
      · obtain ⟨x, hx⟩ : ∃ x, D.waits[k]? = some x := ⟨_, List.getElem?_eq_getElem hlt⟩
        obtain ⟨B, o, rfl, hrg⟩ := wcs_row (HD.out.waits.keep HKP.out (fun j e e2 => (HD.out.fw j e).2 e2)) k x hx
        have HRG := Lib.hid hrg
        have HNX := Lib.hid (over_next keep D.waits D.safe k x hx)
        have HX1 := Lib.hid (show x.1 < D.safe.length by rw [HO.out.safe]; exact (HO.out.waits x (List.mem_of_getElem? hx)).1)
        obtain ⟨m, hm⟩ : ∃ m, m = k % 64 := ⟨_, rfl⟩
        obtain ⟨q, hq⟩ : ∃ q, keep / 2 ^ (k % 64) % 2 = q := ⟨_, rfl⟩
        have HQ := Lib.hid (kept_eq keep k q hq)
        have e1 : (k : Int).tmod 64 = (m : Int) := by rw [Int.tmod_eq_emod_of_nonneg (by omega)]; omega
        have e2 : IntKind.u64.wrap (m : Int) = (m : Int) := by rw [IntKind.wrap_u64]; omega
        have e3 : ((keep : Int) / 2 ^ m).tmod 2 = (q : Int) := Field.bit_tmod keep m q (by rw [hm]; exact hq)
        have hmm : min m 64 = m := by omega
        obtain ⟨k1, hk1⟩ : ∃ k1, k1 = k + 1 := ⟨_, rfl⟩
        have HE5 := Lib.hid (show IntKind.i64.wrap ((k : Int) + 1) = (k1 : Int) by rw [IntWalk.i64_in _ (by omega)]; omega)
        have HK1 := Lib.hid hk1
        have HE := Lib.hid (And.intro e1 (And.intro e2 e3)); have HMM := Lib.hid hmm
        have HQL := Lib.hid (show q < 2 by rw [← hq]; exact Nat.mod_lt _ (by decide))
        clear hm hq hx hrg e1 e2 e3 hmm hw ho hk1
        rcases (show q = 0 ∨ q = 1 by have := HQL.out; omega) with rfl | rfl
        · have HNN := Lib.hid (show over keep 0 (D.waits.take (k + 1)) D.safe = over keep 0 (D.waits.take k) D.safe by rw [HNX.out, HQ.out]; rfl)
          go_wp2_with (first
            | (refine wpList_load_mid rfl 70 (.tmp 18) rfl B (o + k * 2) rfl (wc x) _ HRG.out wU rfl (by rw [wc_length]; kernel_rfl) ?_)
            | (refine wpList_store_new rfl 70 (.tmp 5) (.tmp 19) rfl _ (wc x) rfl rfl rfl (by rw [wc_length]; kernel_rfl) (wc_one x) ?_
               intro w5 hB5 k5 z5
               obtain ⟨g5, hg5⟩ : ∃ g, g = wr.heap.size := ⟨_, rfl⟩
               rw [← hg5] at hB5 ⊢
               have HB5' := Lib.hid hB5; have HK5 := Lib.hid k5; have HG5' := Lib.hid (Nat.le_of_eq hg5.symm)
               have e1 := HE.out.1; have e2 := HE.out.2.1; have e3 := HE.out.2.2; have hmm := HMM.out; have e5 := HE5.out
               clear hg5 hB5 k5 z5))
          clear e1 e2 e3 hmm e5
          go_roundw
          case rel => exact ⟨k1, S', cS', by rw [HK1.out]; omega, rfl, HBr.out.keep HK5.out (fun e => e), by rw [HK1.out, HNN.out]; exact HRr.out.keep0 HK5.out, HC.out, fun j e => ⟨(HA.out j e).1, Nat.lt_of_lt_of_le (HA.out j e).2 HK5.out.size⟩, HKP.out.trans HK5.out (fun _ e => e.elim)⟩
          case measure => have := HK1.out; simp [intOf]; omega
        · have HNN := Lib.hid (show over keep 0 (D.waits.take (k + 1)) D.safe = (over keep 0 (D.waits.take k) D.safe).set x.1 x.2 by rw [HNX.out, HQ.out]; rfl)
          go_wp2_with (first
            | (refine wpList_load_mid rfl 70 (.tmp 18) rfl B (o + k * 2) rfl (wc x) _ HRG.out wU rfl (by rw [wc_length]; kernel_rfl) ?_)
            | (refine wpList_store_new rfl 70 (.tmp 5) (.tmp 19) rfl _ (wc x) rfl rfl rfl (by rw [wc_length]; kernel_rfl) (wc_one x) ?_
               intro w5 hB5 k5 z5
               obtain ⟨g5, hg5⟩ : ∃ g, g = wr.heap.size := ⟨_, rfl⟩
               rw [← hg5] at hB5 ⊢
               have HB5' := Lib.hid hB5; have HK5 := Lib.hid k5; have HG5' := Lib.hid (Nat.le_of_eq hg5.symm)
               have e1 := HE.out.1; have e2 := HE.out.2.1; have e3 := HE.out.2.2; have hmm := HMM.out; have e5 := HE5.out
               clear hg5 hB5 k5 z5))
          clear e1 e2 e3 hmm e5
          have HB7 := Lib.hid (HBr.out.keep (HK5.out.drew) (fun e => e))
          have HR7 := Lib.hid (HRr.out.keep0 (HK5.out.drew))
          have K7 := Lib.hid (HK5.out.drew)
          have HG5 := Lib.hid (show wr.heap.size ≤ g5 from HG5'.out)
          have HB5L := Lib.hid (show ∀ w8 : World, Kp nob w5.drew w8 → Blk w8 g5 70 (wc x) from fun w8 k8 => (HB5'.out.keep (Kp.refl nob w5).drew (fun e => e)).keep k8 (fun e => e))
          have HB5 := Lib.hid (show ∀ w8 : World, Kp nob w5.drew w8 → ∀ j, w8.cell? ⟨g5, j, none⟩ = (wc x)[j]? from fun w8 k8 j => ((HB5'.out.keep (Kp.refl nob w5).drew (fun e => e)).keep k8 (fun e => e)).cell j)
          have hS0 : w5.drew.cell? ⟨g5, 0, none⟩ = some (.int .i64 (x.1 : Int)) ∧ w5.drew.cell? ⟨g5, 1, none⟩ = some (.string (str x.2)) := ⟨HB5.out _ (Kp.refl _ _) 0, HB5.out _ (Kp.refl _ _) 1⟩
          have HS0 := Lib.hid hS0
          refine reg_begin (fun w' => w'.cell? ⟨g5, 0, none⟩ = some (.int .i64 (x.1 : Int)) ∧ w'.cell? ⟨g5, 1, none⟩ = some (.string (str x.2))) (by kernel_rfl) HS0.out (fun _ => ?_)
          clear hS0 HBr HRr HK5 HB5'
          generalize w5.drew = w7 at *
          refine reg_take (v := .pointer (some ⟨g, 0, none⟩)) 0 (some 27) rfl rfl (by kernel_rfl) (by kernel_rfl) (by kernel_rfl) (by rfl) HS0.out (fun w hw => by go_simp) ?_
          simp only [Act.put, List.setIfInBounds_toArray, List.set_cons_zero, List.set_cons_succ]
          refine reg_take (v := .pointer (some ⟨g, 0, none⟩)) 1 (some 28) rfl rfl (by kernel_rfl) (by kernel_rfl) (by kernel_rfl) (by rfl) HS0.out (fun w hw => by go_simp) ?_
          simp only [Act.put, List.setIfInBounds_toArray, List.set_cons_zero, List.set_cons_succ]
          refine reg_take (v := .pointer (some ⟨g, 0, none⟩)) 2 (some 29) rfl rfl (by kernel_rfl) (by kernel_rfl) (by kernel_rfl) (by rfl) HS0.out (fun w hw => by go_simp) ?_
          simp only [Act.put, List.setIfInBounds_toArray, List.set_cons_zero, List.set_cons_succ]
          refine reg_take (v := .pointer (some ⟨g, 1, none⟩)) 3 (some 30) rfl rfl (by kernel_rfl) (by kernel_rfl) (by kernel_rfl) (by rfl) HS0.out (fun w hw => by go_simp) ?_
          simp only [Act.put, List.setIfInBounds_toArray, List.set_cons_zero, List.set_cons_succ]
          refine reg_take (v := .pointer (some ⟨g5, 0, none⟩)) 5 (some 32) rfl rfl (by kernel_rfl) (by kernel_rfl) (by kernel_rfl) (by rfl) HS0.out (fun w hw => by go_simp) ?_
          simp only [Act.put, List.setIfInBounds_toArray, List.set_cons_zero, List.set_cons_succ]
          refine reg_take (v := .pointer (some ⟨g5, 1, none⟩)) 7 (some 34) rfl rfl (by kernel_rfl) (by kernel_rfl) (by kernel_rfl) (by rfl) HS0.out (fun w hw => by go_simp) ?_
          simp only [Act.put, List.setIfInBounds_toArray, List.set_cons_zero, List.set_cons_succ]
          refine reg_take (v := .int .i64 (x.1 : Int)) 6 (some 33) rfl rfl (by kernel_rfl) (by kernel_rfl) (by kernel_rfl) (by rfl) HS0.out (fun w hw => by have c0 := hw.1; go_simp) ?_
          simp only [Act.put, List.setIfInBounds_toArray, List.set_cons_zero, List.set_cons_succ]
          refine reg_take (v := .string (str x.2)) 8 (some 35) rfl rfl (by kernel_rfl) (by kernel_rfl) (by kernel_rfl) (by rfl) HS0.out (fun w hw => by have c1 := hw.2; go_simp) ?_
          simp only [Act.put, List.setIfInBounds_toArray, List.set_cons_zero, List.set_cons_succ]
          refine reg_step (w' := w7) (v := .slice S' D.safe.length cS') 4 (some 31) rfl rfl (by kernel_rfl) (by rfl) (by have c1 := HB7.out.cell 1; go_simp) HS0.out (fun _ => ?_)
          simp only [Act.put, List.setIfInBounds_toArray, List.set_cons_zero, List.set_cons_succ]
          refine reg_call 9 (some 36) rfl rfl (by kernel_rfl) (by rfl) _ _ (exec_func 31 _ _ [.slice S' D.safe.length cS', .int .i64 (x.1 : Int), .string (str x.2)] rfl (by kernel_rfl) rfl) ?_
          refine (fput (over keep 0 (D.waits.take k) D.safe) S' D.safe.length cS' x.1 x.2 w7 HR7.out (over_length _ _ _ _) HX1.out (by have := HLS.out; omega)).mono ?_
          rintro e w8 ⟨S2, c2, rfl, hr8, hc8, ha8, k8⟩
          have HS1 := Lib.hid (show w8.cell? ⟨g5, 0, none⟩ = some (.int .i64 (x.1 : Int)) ∧ w8.cell? ⟨g5, 1, none⟩ = some (.string (str x.2)) from ⟨HB5.out _ k8 0, HB5.out _ k8 1⟩)
          have HB8 := Lib.hid (HB7.out.keep k8 (fun e => e))
          have HR8 := Lib.hid hr8; have HC8 := Lib.hid hc8; have HA8 := Lib.hid ha8
          have K8 := Lib.hid (K7.out.trans k8 (fun _ e => e.elim)); have k8L := Lib.hid k8
          clear hr8 hc8 ha8 k8
          refine ⟨_, rfl, HS1.out, fun _ => ?_⟩
          simp only [Act.put, List.setIfInBounds_toArray, List.set_cons_zero, List.set_cons_succ]
          refine reg_take (v := .pointer (some ⟨g, 0, none⟩)) 10 (some 37) rfl rfl (by kernel_rfl) (by kernel_rfl) (by kernel_rfl) (by rfl) HS1.out (fun w hw => by go_simp) ?_
          simp only [Act.put, List.setIfInBounds_toArray, List.set_cons_zero, List.set_cons_succ]
          refine reg_take (v := .pointer (some ⟨g, 1, none⟩)) 11 (some 38) rfl rfl (by kernel_rfl) (by kernel_rfl) (by kernel_rfl) (by rfl) HS1.out (fun w hw => by go_simp) ?_
          simp only [Act.put, List.setIfInBounds_toArray, List.set_cons_zero, List.set_cons_succ]
          have HGW := Lib.hid (show g < wr.heap.size from Nat.lt_of_lt_of_le HG.out HKP.out.size)
          have HS2 := Lib.hid (show (w8.setCell ⟨g, 1, none⟩ (.slice S2 D.safe.length c2)).cell? ⟨g5, 0, none⟩ = some (.int .i64 (x.1 : Int)) ∧ (w8.setCell ⟨g, 1, none⟩ (.slice S2 D.safe.length c2)).cell? ⟨g5, 1, none⟩ = some (.string (str x.2)) from by
            have hne : g5 ≠ g := by have := HG5.out; have := HGW.out; omega
            have hb := ((HB5L.out w8 k8L.out)).far (p := ⟨g, 1, none⟩) hne (.slice S2 D.safe.length c2)
            exact ⟨hb.cell 0, hb.cell 1⟩)
          refine reg_mute (w' := w8.setCell ⟨g, 1, none⟩ (.slice S2 D.safe.length c2)) 12 none rfl rfl (by kernel_rfl) (by rfl) (by have c1 := HB8.out.cell 1; have f1 := HB8.out.frozen 1; go_simp) HS2.out (fun _ => ?_)
          simp only [Act.put, List.setIfInBounds_toArray, List.set_cons_zero, List.set_cons_succ]
          refine reg_end (by kernel_rfl) ?_
          have e5 := HE5.out
          go_wp2
          clear e5
          go_roundw
          case rel =>
            refine ⟨k1, S2, c2, by rw [HK1.out]; omega, rfl, ?_, ?_, HC8.out, ?_, ?_⟩
            · have := HB8.out.set_ 1 (.slice S2 D.safe.length c2)
              exact this
            · rw [HK1.out, HNN.out]
              exact HR8.out.keep (F := oneB g) ((Kp.refl (oneB g) w8).setCell (p := ⟨g, 1, none⟩) (.inl rfl) _) (fun j e e2 => by have := (HA8.out j e).1; have := K7.out.size; have := HGW.out; unfold oneB at e2; omega)
            · exact fun j e => ⟨.inr (by have := (HA8.out j e).1; have := K7.out.size; have := HKP.out.size; omega), by have := (HA8.out j e).2; simpa using this⟩
            · exact (HKP.out.trans K8.out (fun _ e => e.elim)).setCell (p := ⟨g, 1, none⟩) (.inl rfl) _
          case measure => have := HK1.out; simp [intOf]; omega
      · obtain rfl : k = D.waits.length := by omega
        have HRr2 := Lib.hid (show Row wr S' (svs (over keep 0 D.waits D.safe)) by have := HRr.out; rwa [List.take_length] at this)
        have hlen := over_length keep D.waits 0 D.safe
        obtain ⟨c0, c1, c2, c3', c4, c5, c6⟩ : wr.cell? ⟨g, 0, none⟩ = some (.slice N D.now.length cN) ∧ wr.cell? ⟨g, 1, none⟩ = some (.slice S' D.safe.length cS') ∧ wr.cell? ⟨g, 2, none⟩ = some (.slice W D.waits.length cW) ∧ wr.cell? ⟨g, 3, none⟩ = some (.bool false) ∧ wr.cell? ⟨g, 4, none⟩ = some (.int .i64 (D.acts : Int)) ∧ wr.cell? ⟨g, 5, none⟩ = some (.int .i64 (D.fuse : Int)) ∧ wr.cell? ⟨g, 6, none⟩ = some (.int .u64 (D.keep : Int)) := ⟨HBr.out.cell 0, HBr.out.cell 1, HBr.out.cell 2, HBr.out.cell 3, HBr.out.cell 4, HBr.out.cell 5, HBr.out.cell 6⟩
        have f0 : wr.frozen? ⟨g, 0, none⟩ = false := HBr.out.frozen _
        have f2 : wr.frozen? ⟨g, 2, none⟩ = false := HBr.out.frozen _
        have f3 : wr.frozen? ⟨g, 3, none⟩ = false := HBr.out.frozen _
        have f5 : wr.frozen? ⟨g, 5, none⟩ = false := HBr.out.frozen _
        have HLN := Lib.hid hlen
        clear hlt hk hlen hw ho
        go_wp2
        have K2 := ((((Kp.refl (oneB g) wr).setCell (p := ⟨g, 0, none⟩) (.inl rfl) (.slice S' D.safe.length cS')).setCell (p := ⟨g, 2, none⟩) (.inl rfl) (.slice none 0 0)).setCell (p := ⟨g, 3, none⟩) (.inl rfl) (.bool true)).setCell (p := ⟨g, 5, none⟩) (.inl rfl) (.int .i64 0)
        have HB2 := (((HBr.out.set_ 0 (.slice S' D.safe.length cS')).set_ 2 (.slice none 0 0)).set_ 3 (.bool true)).set_ 5 (.int .i64 0)
        refine bodyPost_end (results_none rfl _ _ _) rfl ⟨rfl, ?_⟩
        have hG : ∀ j, ab S' = some j → j ≠ g := fun j e => (HA.out j e).1.elim (fun h => h.2) (fun h => by have := HG.out; omega)
        rw [HR.out]
        refine ⟨fun j => F j ∨ ab S' = some j, S', S', none, cS', cS', 0, ⟨?_, ?_, ?_, Row.nil _ _, ⟨?_, ?_, Nat.le_refl _⟩, ?_, ?_, ?_, .inl HD.out.g, ?_⟩, ?_, ?_⟩
        · have e : (over keep 0 D.waits D.safe).length = D.safe.length := HLN.out
          show Blk _ _ _ [.slice S' (over keep 0 D.waits D.safe).length cS', .slice S' (over keep 0 D.waits D.safe).length cS', .slice none 0 0, .bool true, .int .i64 (D.acts : Int), .int .i64 0, .int .u64 (D.keep : Int)]
          rw [e]; exact HB2
        · exact HRr2.out.keep K2 (fun j e e2 => hG j e e2)
        · exact HRr2.out.keep K2 (fun j e e2 => hG j e e2)
        · show (over keep 0 D.waits D.safe).length ≤ cS'; rw [HLN.out]; exact HC.out
        · show (over keep 0 D.waits D.safe).length ≤ cS'; rw [HLN.out]; exact HC.out
        · exact fun j e => ⟨.inr e, hG j e⟩
        · exact fun j e => ⟨.inr e, hG j e⟩
        · exact fun j e => by cases e
        · intro j e
          have hsz := K2.size
          rcases e with e | e
          · exact Nat.lt_of_lt_of_le (HD.out.lt j e) (Nat.le_trans HKP.out.size hsz)
          · exact Nat.lt_of_lt_of_le (HA.out j e).2 hsz
        · intro j e
          rcases e with e | e
          · exact .inl e
          · rcases (HA.out j e).1 with h | h
            · exact .inl h.1
            · exact .inr h
        · exact (HKP.out.trans K2 (fun _ e => .inl e)).mono (fun j _ e => by cases e; exact HD.out.g)
end Go.Proofs.Ytchdobneipfghaa.Disk
