/- IdealParts: two things made of two are two, and of one are one, whatever was made ahead. -/
import Derived.Test.YtakhanganifpnaaIdealJ
import Derived.Deep.CutRange
namespace Go.Proofs.Ytakhanganifpnaa.Ideal
set_option linter.unusedVariables false
set_option linter.unusedSimpArgs false
open Go Go.RowKit Kit
open Sha (Pc PcsOk catP)

set_option maxRecDepth 100000 in
theorem run_calls2 (a b : CallI) (w : World) : (Instr.buildSlice 22 2 #[(0, .agg a.cells.toArray), (1, .agg b.cells.toArray)]).run Try.prog w = .ok (.slice (some ⟨w.heap.size, 0, none⟩) 2 2) (w.alloc (.cells (a.cells ++ b.cells).toArray 33)) := by
  kernel_rfl
theorem exec_calls2 {act : Act} {o : Oper} {w : World} (x y : Operand) (a b : CallI) (ho : o.op = .buildSlice 22 2 #[(0, x), (1, y)]) (hx : act.eval x = .agg a.cells.toArray) (hy : act.eval y = .agg b.cells.toArray) :
    (execOp act.eval o).run Try.prog w = .ok (.value (.slice (some ⟨w.heap.size, 0, none⟩) 2 2)) (w.alloc (.cells (a.cells ++ b.cells).toArray 33)) := by
  have hr := run_calls2 a b w
  unfold execOp
  simp only [ho, hx, hy, Sem.run_bind, List.map_toArray, List.map_cons, List.map_nil, hr, Result.andThen_ok, Sem.run_pure]
/-- .. and a script's call in memory. -/
structure Pg (wB : World) (p : Nat) (ts : List Thing) (X : List (Nat × List UInt8)) (R : List Pc) (F : Nat → Prop) (g : Nat) (c : CallI) (w : World) : Prop where
  pk : Pk wB p ts X R F w
  b : Blk w g 33 c.cells
  n : ¬ F g
section
variable {wB w w2 : World} {p g : Nat} {ts ts2 : List Thing} {X : List (Nat × List UInt8)} {R : List Pc} {F F2 : Nat → Prop} {c : CallI}
theorem Pg.keep (h : Pg wB p ts X R F g c w) (k : Kp nob w w2) : Pg wB p ts X R F g c w2 := ⟨h.pk.keep k, h.b.keep k (fun e => e), h.n⟩
theorem Pg.go (h : Pg wB p ts X R F g c w) (q : Iq w F w2 p F2 ts2) : Pg wB p ts2 X R F2 g c w2 := ⟨h.pk.go q, h.b.keep q.k h.n, fun e => (q.f g e).elim h.n (fun e => by have := h.b.lt; omega)⟩
theorem Pg.c1 (h : Pg wB p ts X R F g c w) : w.cell? ⟨g, 1, none⟩ = some (.string (str c.key)) := by rw [h.b.cell]; rfl
theorem Pg.c2 (h : Pg wB p ts X R F g c w) : w.cell? ⟨g, 2, none⟩ = some (.string (str c.nonce)) := by rw [h.b.cell]; rfl
theorem Pg.c4 (h : Pg wB p ts X R F g c w) : w.cell? ⟨g, 4, none⟩ = some (.string (str c.text)) := by rw [h.b.cell]; rfl
end
theorem big_le2 (c : CallI) (h : big c ≤ 4096) : c.key.length ≤ 4096 ∧ c.nonce.length ≤ 4096 ∧ c.aad.length ≤ 4096 ∧ c.text.length ≤ 4096 := by unfold big at h; omega
theorem mk_len2 (ts : List Thing) (t u : Thing) : (mk (mk ts t) u).length ≤ ts.length + 2 := by
  have := mk_length_le ts t; have := mk_length_le (mk ts t) u; omega
/-- Two things made one behind the other have the same bytes just if they are one. -/
theorem out_same (ts : List Thing) (t u : Thing) (n m : Nat) (hl : ts.length < 1000000) (h : t = u → n = m) : (out ts t n = out (mk ts t) u m) ↔ t = u := by
  constructor
  · exact out_inj ts t u n m hl
  · intro e
    have := h e
    subst e; subst this
    rw [out, out, mk_old (mk ts t) t (mk_mem ts t)]
/-- Things of two kinds have two byte rows. -/
theorem out_kinds (ts us : List Thing) (t u : Thing) (n m : Nat) (hl : ts.length < 1000000) (hu : us.length < 1000000) (h : t.kind ≠ u.kind) : out ts t n ≠ out us u m := by
  intro e
  have l1 := num_le (mk ts t) t; have l2 := mk_length_le ts t
  have l3 := num_le (mk us u) u; have l4 := mk_length_le us u
  exact h (tok_inj (by omega) (by omega) e).1
set_option maxHeartbeats 16000000 in
set_option maxRecDepth 100000 in
theorem parts_yes (A : Option Addr) (n cA : Nat) (cs : List CallI) (a b : CallI) (w : World) (hl : cs.length = n) (hr : Row w A (cs.flatMap CallI.cells)) (hok : ∀ c ∈ cs, c.ok) (ha : a.ok) (hb : b.ok) (ht : tot cs ≤ 4096) (hn : n ≤ 40) (ht2 : tot [a, b] ≤ 4096) :
    Calls Try.prog 4 #[.slice A n cA, .agg a.cells.toArray, .agg b.cells.toArray] w fun e w' => e = .returned (.bool true) ∧ Kp nob w w' := by
  obtain ⟨dT, hdT, hdR⟩ := C_under
  have HDT := Lib.hid hdT; have HDR := Lib.hid hdR
  have HR := Lib.hid hr; have HOK := Lib.hid hok; have HL := Lib.hid hl; have HT := Lib.hid ht; have HT2 := Lib.hid ht2; have HOA := Lib.hid ha; have HOB := Lib.hid hb
  have HKX := Lib.hid (((Kp.refl nob w).alloc (.cells a.cells.toArray 33)).alloc (.cells b.cells.toArray 33))
  have HBA := Lib.hid ((Blk.new w 33 a.cells).alloc (.cells b.cells.toArray 33))
  have HBB : Hid (Blk ((w.alloc (.cells a.cells.toArray 33)).alloc (.cells b.cells.toArray 33)) (w.heap.size + 1) 33 b.cells) := Lib.hid (Blk.new' (by simp) rfl)
  clear hdT hdR hr hok hl ht ht2 ha hb
  go_enter Try.func4, Try.ntmps4
  go_wp2_with fail
  generalize hwX : (w.alloc (.cells a.cells.toArray 33)).alloc (.cells b.cells.toArray 33) = wX at *
  clear hwX
  refine (alive_yes _).mono ?_
  rintro e w1 ⟨rfl, k1⟩
  have HK1 := Lib.hid (HKX.out.trans k1 (fun _ e => e.elim)); have HBA1 := Lib.hid (HBA.out.keep k1 (fun e => e)); have HBB1 := Lib.hid (HBB.out.keep k1 (fun e => e)); clear k1
  go_wp2_with fail
  refine (great_any A n cA cs w1 HL.out (HR.out.keep0 HK1.out) HOK.out (by omega)).mono ?_
  rintro e w2 ⟨rfl, k2⟩
  have hg : (decide (4096 < tot cs) || decide (40 < n)) = false := by have := HT.out; simp; omega
  rw [hg]
  have HK2 := Lib.hid (HK1.out.trans k2 (fun _ e => e.elim)); have HBA2 := Lib.hid (HBA1.out.keep k2 (fun e => e)); have HBB2 := Lib.hid (HBB1.out.keep k2 (fun e => e))
  clear k2 hg HK1 HBA1 HBB1 HBA HBB HKX
  go_wp2_with (first
    | (refine wpList_load_gd 33 (.tmp 4) rfl (by rfl) _ _ _ HBA2.out rfl dT HDT.out HDR.out (csize a) ?_)
    | (refine wpList_load_gd 33 (.tmp 5) rfl (by rfl) _ _ _ HBB2.out rfl dT HDT.out HDR.out (csize b) ?_)
    | (refine wpList_exec_gd (by rfl) (exec_calls2 (.tmp 24) (.tmp 25) a b rfl rfl rfl) ?_)
    | fail)
  refine (great_any _ 2 2 [a, b] _ rfl (by rw [List.flatMap_cons, List.flatMap_cons, List.flatMap_nil, List.append_nil]; exact row_new w2 (a.cells ++ b.cells) _) (fun c' h => by
    rcases List.mem_cons.1 h with rfl | h
    · exact HOA.out
    · rw [List.mem_singleton.1 h]; exact HOB.out) (by omega)).mono ?_
  rintro e w3 ⟨rfl, k3⟩
  have hg : (decide (4096 < tot [a, b]) || decide (40 < 2)) = false := by have := HT2.out; simp; omega
  rw [hg]
  have k23 := ((Kp.refl nob w2).alloc (.cells (a.cells ++ b.cells).toArray 33)).trans k3 (fun _ e => e.elim)
  have HK3 := Lib.hid (HK2.out.trans k23 (fun _ e => e.elim))
  have HA : Hid (∀ w', Kp nob w3 w' → Blk w' w.heap.size 33 a.cells) := Lib.hid (fun w' k => (HBA2.out.keep k23 (fun e => e)).keep k (fun e => e))
  have HB : Hid (∀ w', Kp nob w3 w' → Blk w' (w.heap.size + 1) 33 b.cells) := Lib.hid (fun w' k => (HBB2.out.keep k23 (fun e => e)).keep k (fun e => e))
  have HBGA := Lib.hid (big_le2 a (Nat.le_trans (tot_mem [a, b] a (by simp)) HT2.out))
  have HBGB := Lib.hid (big_le2 b (Nat.le_trans (tot_mem [a, b] b (by simp)) HT2.out))
  clear k3 k23 hg HK2 HBA2 HBB2
  go_wp2_with fail
  refine (new_i w3).mono ?_
  rintro e w4 ⟨p, F0, rfl, hq⟩
  have HP4 : Hid (Pk w3 p [] [] [] F0 w4) := Lib.hid ⟨hq.i, fun k e => (hq.f k e).resolve_left (fun e => e), hq.k, fun q h => (by cases h), fun q h => (by cases h)⟩
  clear hq
  go_wp2
  go_loopw [32] (fun vi wr => ∃ (i : Nat) (F : Nat → Prop) (ts : List Thing), i ≤ n ∧ vi = .int .i64 i ∧ ts.length ≤ 2 * i ∧ Pk w3 p ts [] [] F wr)
    (fun vi _ => n - (intOf vi).toNat)
  case atStart => exact ⟨0, F0, [], Nat.zero_le _, rfl, Nat.le_refl _, HP4.out⟩
  case round =>
    clear HP4
    obtain ⟨i, F, ts, hi, rfl, hts, hpk⟩ := hrel
    have HPK := Lib.hid hpk; have HTS := Lib.hid hts
    clear hpk hts
    by_cases hlt : i < n
    · obtain ⟨c, hc⟩ : ∃ c, cs[i]? = some c := ⟨_, List.getElem?_eq_getElem (by rw [HL.out]; exact hlt)⟩
      obtain ⟨bA, oA, hA, hrA⟩ := row_call HR.out i c hc
      have HRA := Lib.hid (range_keep hrA (HK3.out.trans HPK.out.k (fun _ e => e.elim)) (fun e => e))
      have HBG := Lib.hid (big_le2 c (Nat.le_trans (tot_mem cs c (List.mem_of_getElem? hc)) HT.out))
      have b0 : (0 : Int) ≤ (i : Int) ∧ (i : Int) < (n : Int) := by omega
      subst hA
      clear hc hrA
      go_wp2_with (first
        | (refine wpList_load_mid rfl 33 (.tmp 34) rfl bA (oA + i * 6) rfl c.cells dT HRA.out HDT.out HDR.out (csize c) ?_)
        | (refine wpList_store_new rfl 33 (.tmp 9) (.tmp 35) rfl _ c.cells rfl rfl rfl (csize c) (call_one c) ?_
           intro w5 hB5 k5 z5
           obtain ⟨g, hg⟩ : ∃ g, g = wr.heap.size := ⟨_, rfl⟩
           rw [← hg] at hB5 ⊢
           have H5 : Hid (Pg w3 p ts [] [] F g c w5) := Lib.hid ⟨HPK.out.keep k5, hB5, fun e => by have := HPK.out.i.lt g e; omega⟩
           have c4 := H5.out.c4
           clear hB5 k5 z5 hg)
        | (refine wpList_str_argN rfl 9 34 5 (.tmp 38) rfl strI u8sI u8I (c.text) (c.text.length) rfl (by have := HBG.out; unfold maxLen; omega) rfl ?_
           intro cc6 w6 k6 z6 ha6
           have H6 := Lib.hid (H5.out.keep k6); have A6 := Lib.hid (ha6 F H5.out.pk.i.lt); have K6 := Lib.hid k6
           clear k6 z6 ha6 c4)
        | fail)
      refine (hash_one p F ts _ c.text.length cc6 c.text 34 w6 H6.out.pk.i A6.out (by have := HTS.out; omega) (by have := HBG.out; omega)).mono ?_
      rintro e w7 ⟨F7, rfl, hq⟩
      have H7 := Lib.hid (H6.out.go hq)
      have HT7 := Lib.hid (mk_length_le ts (hashT c.text))
      clear hq H5 H6 A6 K6
      have c1 := H7.out.c1
      go_wp2_with (first
        | (refine wpList_str_argN rfl 9 34 5 (.tmp 44) rfl strI u8sI u8I (c.key) (c.key.length) rfl (by have := HBG.out; unfold maxLen; omega) rfl ?_
           intro cc8 w8 k8 z8 ha8
           have H8 := Lib.hid (H7.out.keep k8); have A8 := Lib.hid (ha8 F7 H7.out.pk.i.lt); have K8 := Lib.hid k8
           have c2 := H8.out.c2
           clear k8 z8 ha8 c1)
        | (refine wpList_str_argN rfl 9 34 5 (.tmp 47) rfl strI u8sI u8I (c.nonce) (c.nonce.length) rfl (by have := HBG.out; unfold maxLen; omega) rfl ?_
           intro cc9 w9 k9 z9 ha9
           have H9 := Lib.hid (H8.out.keep k9); have A9 := Lib.hid (ha9 F7 H8.out.pk.i.lt); have K9 := Lib.hid k9
           have c4 := H9.out.c4
           clear k9 z9 ha9 c2)
        | (refine wpList_str_argN rfl 9 34 5 (.tmp 50) rfl strI u8sI u8I (c.text) (c.text.length) rfl (by have := HBG.out; unfold maxLen; omega) rfl ?_
           intro cc10 w10 k10 z10 ha10
           have H10 := Lib.hid (H9.out.keep k10); have A10 := Lib.hid (ha10 F7 H9.out.pk.i.lt); have K10 := Lib.hid k10
           clear k10 z10 ha10 c4)
        | fail)
      refine (seal_none p F7 _ _ c.key.length cc8 c.key _ c.nonce.length cc9 c.nonce _ c.text.length cc10 c.text w10 H10.out.pk.i ((A8.out.keep0 K9.out).keep0 K10.out) (A9.out.keep0 K10.out) A10.out (by have := HTS.out; have := HT7.out; omega) (by have := HBG.out; omega) (by have := HBG.out; omega) (by have := HBG.out; omega)).mono ?_
      rintro e w11 ⟨F11, X, cX, rfl, hq, hx⟩
      have H11 := Lib.hid (H10.out.go hq)
      have HT11 := Lib.hid (mk_length_le (mk ts (hashT c.text)) (sealT c.key c.nonce [] c.text))
      clear hq hx H7 H8 H9 H10 A8 A9 A10 K8 K9 K10
      go_wp2
      exact ⟨⟨i + 1, F11, _, by omega, by go_num, by have := HTS.out; have := HT7.out; have := HT11.out; omega, H11.out.pk⟩, by simp [intOf]; omega⟩
    · have HTL := Lib.hid (show ts.length ≤ 80 by have := HTS.out; omega)
      obtain rfl : i = n := by omega
      clear HTS hlt hi
      have c1 : wr.cell? ⟨w.heap.size, 1, none⟩ = some (.string (str a.key)) := ((HA.out wr HPK.out.k).cell 1).trans rfl
      have H5 := HPK
      go_wp2_with (first
        | (refine wpList_str_argN rfl 9 34 5 (.tmp 57) rfl strI u8sI u8I (a.key) (a.key.length) rfl (by have := HBGA.out; unfold maxLen; omega) rfl ?_
           intro cc6 w6 k6 z6 ha6
           have H6 := Lib.hid (H5.out.keep k6); have A6 := Lib.hid (ha6 F H5.out.i.lt); have K6 := Lib.hid k6
           have c2 : w6.cell? ⟨w.heap.size, 2, none⟩ = some (.string (str a.nonce)) := ((HA.out _ H6.out.k).cell 2).trans rfl
           clear k6 z6 ha6 c1)
        | (refine wpList_str_argN rfl 9 34 5 (.tmp 60) rfl strI u8sI u8I (a.nonce) (a.nonce.length) rfl (by have := HBGA.out; unfold maxLen; omega) rfl ?_
           intro cc7 w7 k7 z7 ha7
           have H7 := Lib.hid (H6.out.keep k7); have A7 := Lib.hid (ha7 F H6.out.i.lt); have K7 := Lib.hid k7
           have c4 : w7.cell? ⟨w.heap.size, 4, none⟩ = some (.string (str a.text)) := ((HA.out _ H7.out.k).cell 4).trans rfl
           clear k7 z7 ha7 c2)
        | (refine wpList_str_argN rfl 9 34 5 (.tmp 63) rfl strI u8sI u8I (a.text) (a.text.length) rfl (by have := HBGA.out; unfold maxLen; omega) rfl ?_
           intro cc8 w8 k8 z8 ha8
           have H8 := Lib.hid (H7.out.keep k8); have A8 := Lib.hid (ha8 F H7.out.i.lt); have K8 := Lib.hid k8
           have c3 : w8.cell? ⟨w.heap.size, 3, none⟩ = some (.string (str a.aad)) := ((HA.out _ H8.out.k).cell 3).trans rfl
           clear k8 z8 ha8 c4)
        | (refine wpList_str_argN rfl 9 34 5 (.tmp 66) rfl strI u8sI u8I (a.aad) (a.aad.length) rfl (by have := HBGA.out; unfold maxLen; omega) rfl ?_
           intro cc9 w9 k9 z9 ha9
           have H9 := Lib.hid (H8.out.keep k9); have A9 := Lib.hid (ha9 F H8.out.i.lt); have K9 := Lib.hid k9
           clear k9 z9 ha9 c3)
        | fail)
      refine (seal_one p F ts _ a.key.length cc6 a.key _ a.nonce.length cc7 a.nonce _ a.text.length cc8 a.text _ a.aad.length cc9 a.aad 34 w9 H9.out.i (((A6.out.keep0 K7.out).keep0 K8.out).keep0 K9.out) ((A7.out.keep0 K8.out).keep0 K9.out) (A8.out.keep0 K9.out) A9.out (by have := HTL.out; omega) (by have := HBGA.out; omega) (by have := HBGA.out; omega) (by have := HBGA.out; omega) (by have := HBGA.out; omega)).mono ?_
      rintro e w10 ⟨F10, X, cX, rfl, hq, hx⟩
      obtain ⟨SA, hSA⟩ : ∃ SA, SA = sealT a.key a.nonce a.aad a.text := ⟨_, rfl⟩
      rw [← hSA] at hq hx
      have HSA := Lib.hid hSA
      obtain ⟨YA, hYA⟩ : ∃ YA, YA = out ts SA (a.text.length + 16) := ⟨_, rfl⟩
      rw [← hYA] at hx
      have HYA := Lib.hid hYA
      have HYAL := Lib.hid (show YA.length = a.text.length + 16 by rw [hYA]; exact out_length _ _ _ (by omega))
      have H10 : Hid (Pk w3 p (mk ts SA) [] [⟨X, a.text.length + 16, cX, YA⟩] F10 w10) := Lib.hid ((H9.out.go hq).addR ⟨HYAL.out, hx.row, .inr (fun k e => (hx.far k e).2), by rw [← HYAL.out]; exact hx.cap, hx.mx, hx.nil⟩)
      have HT10 := Lib.hid (mk_length_le ts SA)
      clear hSA hYA hq hx H5 H6 H7 H8 H9 A6 A7 A8 A9 K6 K7 K8 K9
      have c1 : w10.cell? ⟨w.heap.size + 1, 1, none⟩ = some (.string (str b.key)) := ((HB.out w10 H10.out.k).cell 1).trans rfl
      go_wp2_with (first
        | (refine wpList_str_argN rfl 9 34 5 (.tmp 75) rfl strI u8sI u8I (b.key) (b.key.length) rfl (by have := HBGB.out; unfold maxLen; omega) rfl ?_
           intro cc11 w11 k11 z11 ha11
           have H11 := Lib.hid (H10.out.keep k11); have A11 := Lib.hid (ha11 F10 H10.out.i.lt); have K11 := Lib.hid k11
           have c2 : w11.cell? ⟨w.heap.size + 1, 2, none⟩ = some (.string (str b.nonce)) := ((HB.out _ H11.out.k).cell 2).trans rfl
           clear k11 z11 ha11 c1)
        | (refine wpList_str_argN rfl 9 34 5 (.tmp 78) rfl strI u8sI u8I (b.nonce) (b.nonce.length) rfl (by have := HBGB.out; unfold maxLen; omega) rfl ?_
           intro cc12 w12 k12 z12 ha12
           have H12 := Lib.hid (H11.out.keep k12); have A12 := Lib.hid (ha12 F10 H11.out.i.lt); have K12 := Lib.hid k12
           have c4 : w12.cell? ⟨w.heap.size + 1, 4, none⟩ = some (.string (str b.text)) := ((HB.out _ H12.out.k).cell 4).trans rfl
           clear k12 z12 ha12 c2)
        | (refine wpList_str_argN rfl 9 34 5 (.tmp 81) rfl strI u8sI u8I (b.text) (b.text.length) rfl (by have := HBGB.out; unfold maxLen; omega) rfl ?_
           intro cc13 w13 k13 z13 ha13
           have H13 := Lib.hid (H12.out.keep k13); have A13 := Lib.hid (ha13 F10 H12.out.i.lt); have K13 := Lib.hid k13
           have c3 : w13.cell? ⟨w.heap.size + 1, 3, none⟩ = some (.string (str b.aad)) := ((HB.out _ H13.out.k).cell 3).trans rfl
           clear k13 z13 ha13 c4)
        | (refine wpList_str_argN rfl 9 34 5 (.tmp 84) rfl strI u8sI u8I (b.aad) (b.aad.length) rfl (by have := HBGB.out; unfold maxLen; omega) rfl ?_
           intro cc14 w14 k14 z14 ha14
           have H14 := Lib.hid (H13.out.keep k14); have A14 := Lib.hid (ha14 F10 H13.out.i.lt); have K14 := Lib.hid k14
           clear k14 z14 ha14 c3)
        | fail)
      refine (seal_one p F10 (mk ts SA) _ b.key.length cc11 b.key _ b.nonce.length cc12 b.nonce _ b.text.length cc13 b.text _ b.aad.length cc14 b.aad 34 w14 H14.out.i (((A11.out.keep0 K12.out).keep0 K13.out).keep0 K14.out) ((A12.out.keep0 K13.out).keep0 K14.out) (A13.out.keep0 K14.out) A14.out (by have := HTL.out; have := HT10.out; omega) (by have := HBGB.out; omega) (by have := HBGB.out; omega) (by have := HBGB.out; omega) (by have := HBGB.out; omega)).mono ?_
      rintro e w15 ⟨F15, X2, cX2, rfl, hq, hx⟩
      obtain ⟨SB, hSB⟩ : ∃ SB, SB = sealT b.key b.nonce b.aad b.text := ⟨_, rfl⟩
      rw [← hSB] at hq hx
      have HSB := Lib.hid hSB
      obtain ⟨YB, hYB⟩ : ∃ YB, YB = out (mk ts SA) SB (b.text.length + 16) := ⟨_, rfl⟩
      rw [← hYB] at hx
      have HYB := Lib.hid hYB
      have HYBL := Lib.hid (show YB.length = b.text.length + 16 by rw [hYB]; exact out_length _ _ _ (by omega))
      have H15 : Hid (Pk w3 p (mk (mk ts SA) SB) [] [⟨X2, b.text.length + 16, cX2, YB⟩, ⟨X, a.text.length + 16, cX, YA⟩] F15 w15) := Lib.hid ((H14.out.go hq).addR ⟨HYBL.out, hx.row, .inr (fun k e => (hx.far k e).2), by rw [← HYBL.out]; exact hx.cap, hx.mx, hx.nil⟩)
      have HT15 := Lib.hid (mk_length_le (mk ts SA) SB)
      clear hSB hYB hq hx H10 H11 H12 H13 H14 A11 A12 A13 A14 K11 K12 K13 K14
      have HEQ : Hid (decide (SA = SB) = decide (a.key = b.key ∧ a.nonce = b.nonce ∧ a.text = b.text ∧ a.aad = b.aad)) := Lib.hid (by
        rw [HSA.out, HSB.out]
        exact decide_eq_decide.2 ⟨fun h => by simp only [sealT, Thing.mk.injEq, true_and] at h; exact ⟨h.1, h.2.1, h.2.2.2, h.2.2.1⟩, fun ⟨h1, h2, h3, h4⟩ => by rw [h1, h2, h3, h4]⟩)
      go_upto_region 14 with (fail)
      go_cut [14] from 90 to 115 (fun s14 wx => s14 = .bool (decide (SA = SB)) ∧ wx = w15)
      case first =>
        have a1 : w15.cell? ⟨w.heap.size, 1, none⟩ = some (.string (str a.key)) := ((HA.out w15 H15.out.k).cell 1).trans rfl
        have a2 : w15.cell? ⟨w.heap.size, 2, none⟩ = some (.string (str a.nonce)) := ((HA.out w15 H15.out.k).cell 2).trans rfl
        have a3 : w15.cell? ⟨w.heap.size, 3, none⟩ = some (.string (str a.aad)) := ((HA.out w15 H15.out.k).cell 3).trans rfl
        have a4 : w15.cell? ⟨w.heap.size, 4, none⟩ = some (.string (str a.text)) := ((HA.out w15 H15.out.k).cell 4).trans rfl
        have b1 : w15.cell? ⟨w.heap.size + 1, 1, none⟩ = some (.string (str b.key)) := ((HB.out w15 H15.out.k).cell 1).trans rfl
        have b2 : w15.cell? ⟨w.heap.size + 1, 2, none⟩ = some (.string (str b.nonce)) := ((HB.out w15 H15.out.k).cell 2).trans rfl
        have b3 : w15.cell? ⟨w.heap.size + 1, 3, none⟩ = some (.string (str b.aad)) := ((HB.out w15 H15.out.k).cell 3).trans rfl
        have b4 : w15.cell? ⟨w.heap.size + 1, 4, none⟩ = some (.string (str b.text)) := ((HB.out w15 H15.out.k).cell 4).trans rfl
        by_cases h0 : a.key = b.key
        · have e0 : ((str a.key).toList == (str b.key).toList) = true := by rw [beq_sl]; simp [h0]
          have HH0 := Lib.hid h0; clear h0
          by_cases h1 : a.nonce = b.nonce
          · have e1 : ((str a.nonce).toList == (str b.nonce).toList) = true := by rw [beq_sl]; simp [h1]
            have HH1 := Lib.hid h1; clear h1
            by_cases h2 : a.text = b.text
            · have e2 : ((str a.text).toList == (str b.text).toList) = true := by rw [beq_sl]; simp [h2]
              have HH2 := Lib.hid h2; clear h2
              by_cases h3 : a.aad = b.aad
              · have e3 : ((str a.aad).toList == (str b.aad).toList) = true := by rw [beq_sl]; simp [h3]
                have HH3 := Lib.hid h3; clear h3
                go_wp2
                go_meet
                case rel => exact ⟨by rw [HEQ.out, decide_eq_true ⟨HH0.out, HH1.out, HH2.out, HH3.out⟩], rfl⟩
              · have e3 : ((str a.aad).toList == (str b.aad).toList) = false := by rw [beq_sl]; simp [h3]
                have HH3 := Lib.hid h3; clear h3
                go_wp2
                go_meet
                case rel => exact ⟨by rw [HEQ.out, decide_eq_false (fun h => HH3.out h.2.2.2)], rfl⟩
            · have e2 : ((str a.text).toList == (str b.text).toList) = false := by rw [beq_sl]; simp [h2]
              have HH2 := Lib.hid h2; clear h2
              go_wp2
              go_meet
              case rel => exact ⟨by rw [HEQ.out, decide_eq_false (fun h => HH2.out h.2.2.1)], rfl⟩
          · have e1 : ((str a.nonce).toList == (str b.nonce).toList) = false := by rw [beq_sl]; simp [h1]
            have HH1 := Lib.hid h1; clear h1
            go_wp2
            go_meet
            case rel => exact ⟨by rw [HEQ.out, decide_eq_false (fun h => HH1.out h.2.1)], rfl⟩
        · have e0 : ((str a.key).toList == (str b.key).toList) = false := by rw [beq_sl]; simp [h0]
          have HH0 := Lib.hid h0; clear h0
          go_wp2
          go_meet
          case rel => exact ⟨by rw [HEQ.out, decide_eq_false (fun h => HH0.out h.1)], rfl⟩
      case rest =>
        obtain ⟨rfl, rfl⟩ := hcut
        obtain ⟨T0, hT0⟩ : ∃ T0, T0 = mk (mk ts SA) SB := ⟨_, rfl⟩
        rw [← hT0] at H15
        have HT0 := Lib.hid hT0
        have HTL0 := Lib.hid (show T0.length ≤ 90 by rw [hT0]; have := HTL.out; have := HT10.out; have := HT15.out; omega)
        clear hT0
        go_upto_region 15 with (fail)
        have H16 := Lib.hid (H15.out.keep (Kp.refl nob wc).drew)
        have HS0 : Hid (Kp nob w3 wc.drew) := Lib.hid H16.out.k
        refine reg_begin (Kp nob w3) (by kernel_rfl) HS0.out (fun _ => ?_)
        clear H15
        generalize wc.drew = wd at *
        refine reg_take (v := .pointer (some ⟨p, 0, none⟩)) 0 (some 116) rfl rfl (by kernel_rfl) (by kernel_rfl) (by kernel_rfl) (by rfl) HS0.out (fun w hw => by go_simp) ?_
        simp only [Act.put, List.setIfInBounds_toArray, List.set_cons_zero, List.set_cons_succ]
        refine reg_take (v := .pointer (some ⟨w.heap.size, 4, none⟩)) 1 (some 117) rfl rfl (by kernel_rfl) (by kernel_rfl) (by kernel_rfl) (by rfl) HS0.out (fun w' hw => by go_simp) ?_
        simp only [Act.put, List.setIfInBounds_toArray, List.set_cons_zero, List.set_cons_succ]
        refine reg_take (v := .string (str a.text)) 2 (some 118) rfl rfl (by kernel_rfl) (by kernel_rfl) (by kernel_rfl) (by rfl) HS0.out (fun w' hw => by have hc : w'.cell? ⟨w.heap.size, 4, none⟩ = some (.string (str a.text)) := ((HA.out w' hw).cell 4).trans rfl; go_simp) ?_
        simp only [Act.put, List.setIfInBounds_toArray, List.set_cons_zero, List.set_cons_succ]
        refine reg_take (v := .pointer (some ⟨p, 0, none⟩)) 6 (some 122) rfl rfl (by kernel_rfl) (by kernel_rfl) (by kernel_rfl) (by rfl) HS0.out (fun w hw => by go_simp) ?_
        simp only [Act.put, List.setIfInBounds_toArray, List.set_cons_zero, List.set_cons_succ]
        refine reg_take (v := .pointer (some ⟨w.heap.size + 1, 4, none⟩)) 7 (some 123) rfl rfl (by kernel_rfl) (by kernel_rfl) (by kernel_rfl) (by rfl) HS0.out (fun w' hw => by go_simp) ?_
        simp only [Act.put, List.setIfInBounds_toArray, List.set_cons_zero, List.set_cons_succ]
        refine reg_take (v := .string (str b.text)) 8 (some 124) rfl rfl (by kernel_rfl) (by kernel_rfl) (by kernel_rfl) (by rfl) HS0.out (fun w' hw => by have hc : w'.cell? ⟨w.heap.size + 1, 4, none⟩ = some (.string (str b.text)) := ((HB.out w' hw).cell 4).trans rfl; go_simp) ?_
        simp only [Act.put, List.setIfInBounds_toArray, List.set_cons_zero, List.set_cons_succ]
        refine reg_many2 [3, 4, 5, 9, 10, 11, 12, 13] [(3, some 119), (4, some 120), (5, some 121), (9, some 125), (10, some 126), (11, some 127), (12, some 15), (13, some 16)] _ _ _ _ 2 (fun (L : Nat → Bool) (vals : Nat → Value) (w' : World) => ∃ F : Nat → Prop, Pk w3 p (bif L 11 then mk (mk T0 (hashT a.text)) (hashT b.text) else bif L 5 then mk T0 (hashT a.text) else T0) [] [⟨X2, b.text.length + 16, cX2, YB⟩, ⟨X, a.text.length + 16, cX, YA⟩] F w' ∧ (L 11 = true → L 5 = true) ∧ wd.heap.size ≤ w'.heap.size ∧ (L 3 = true → PAF F (vals 3) w' (a.text).length (a.text)) ∧ (L 4 = true → PRF F (vals 4) w' (a.text).length (a.text)) ∧ (L 5 = true → (vals 5) = .agg (bvs (out T0 (hashT a.text) 32)).toArray) ∧ (L 9 = true → PAF F (vals 9) w' (b.text).length (b.text)) ∧ (L 10 = true → PRF F (vals 10) w' (b.text).length (b.text)) ∧ (L 11 = true → (vals 11) = .agg (bvs (out (mk T0 (hashT a.text)) (hashT b.text) 32)).toArray) ∧ (L 12 = true → PBF wd.heap.size F (vals 12) w') ∧ (L 13 = true → PBF wd.heap.size F (vals 13) w') ∧ (L 12 = true → L 13 = true → vals 12 ≠ vals 13)) 16 rfl rfl rfl (by kernel_rfl) (by kernel_rfl) (by kernel_rfl) (by kernel_rfl) rfl (fun L vals w' ⟨F, h, _⟩ => h.k) ?h0 ?st ?fin
        case h0 => exact ⟨F15, H16.out, (fun h => absurd h (by simp [lst])), Nat.le_refl _, (fun h => absurd h (by simp [lst])), (fun h => absurd h (by simp [lst])), (fun h => absurd h (by simp [lst])), (fun h => absurd h (by simp [lst])), (fun h => absurd h (by simp [lst])), (fun h => absurd h (by simp [lst])), (fun h => absurd h (by simp [lst])), (fun h => absurd h (by simp [lst])), (fun h => absurd h (by simp [lst]))⟩
        case st =>
          intro L vals w' a' i' o hi ho hL hd hJ ev e0 K' hK'
          obtain ⟨F, h0, h1, hsz, g3, g4, g5, g9, g10, g11, g12, g13, hne⟩ := hJ
          simp only [List.mem_cons, List.not_mem_nil, or_false] at hi
          rcases hi with rfl | rfl | rfl | rfl | rfl | rfl | rfl | rfl
          · obtain rfl := op_is ho rfl
            refine step_strF F h0.i.lt (.tmp 118) rfl rfl (a.text) _ rfl (by have := HBGA.out; omega) ((e0 118 (by kernel_rfl)).trans rfl) ?_
            intro v w2 k pa
            exact hK'.out v w2 ⟨F, (by rw [upd_other _ _ _ _ (show (11 : Nat) ≠ 3 by decide), upd_other _ _ _ _ (show (5 : Nat) ≠ 3 by decide)]; exact h0.keep k), (fun h => by rw [upd_other _ _ _ _ (show (11 : Nat) ≠ 3 by decide)] at h; rw [upd_other _ _ _ _ (show (5 : Nat) ≠ 3 by decide)]; exact h1 h), Nat.le_trans hsz k.size, (fun _ => by rw [upd_same]; exact pa), (fun h => by rw [upd_other _ _ _ _ (show (4 : Nat) ≠ 3 by decide)] at h ⊢; exact (g4 h).keep k), (fun h => by rw [upd_other _ _ _ _ (show (5 : Nat) ≠ 3 by decide)] at h ⊢; exact g5 h), (fun h => by rw [upd_other _ _ _ _ (show (9 : Nat) ≠ 3 by decide)] at h ⊢; exact (g9 h).keep k), (fun h => by rw [upd_other _ _ _ _ (show (10 : Nat) ≠ 3 by decide)] at h ⊢; exact (g10 h).keep k), (fun h => by rw [upd_other _ _ _ _ (show (11 : Nat) ≠ 3 by decide)] at h ⊢; exact g11 h), (fun h => by rw [upd_other _ _ _ _ (show (12 : Nat) ≠ 3 by decide)] at h ⊢; exact (g12 h).keep k), (fun h => by rw [upd_other _ _ _ _ (show (13 : Nat) ≠ 3 by decide)] at h ⊢; exact (g13 h).keep k), (fun h h' => by rw [upd_other _ _ _ _ (show (12 : Nat) ≠ 3 by decide)] at h; rw [upd_other _ _ _ _ (show (13 : Nat) ≠ 3 by decide)] at h'; rw [upd_other _ _ _ _ (show (12 : Nat) ≠ 3 by decide), upd_other _ _ _ _ (show (13 : Nat) ≠ 3 by decide)]; exact hne h h')⟩
          · obtain rfl := op_is ho rfl
            have hL3 : L 3 = true := hd ⟨3, .data⟩ (by simp) rfl
            refine step_rowF F h0.i.lt (.tmp 119) rfl rfl (a.text) _ (vals 3) (ev 3 (by simp) hL3 119 rfl) (g3 hL3) ?_
            intro v w2 k pa
            exact hK'.out v w2 ⟨F, (by rw [upd_other _ _ _ _ (show (11 : Nat) ≠ 4 by decide), upd_other _ _ _ _ (show (5 : Nat) ≠ 4 by decide)]; exact h0.keep k), (fun h => by rw [upd_other _ _ _ _ (show (11 : Nat) ≠ 4 by decide)] at h; rw [upd_other _ _ _ _ (show (5 : Nat) ≠ 4 by decide)]; exact h1 h), Nat.le_trans hsz k.size, (fun h => by rw [upd_other _ _ _ _ (show (3 : Nat) ≠ 4 by decide)] at h ⊢; exact (g3 h).keep k), (fun _ => by rw [upd_same]; exact pa), (fun h => by rw [upd_other _ _ _ _ (show (5 : Nat) ≠ 4 by decide)] at h ⊢; exact g5 h), (fun h => by rw [upd_other _ _ _ _ (show (9 : Nat) ≠ 4 by decide)] at h ⊢; exact (g9 h).keep k), (fun h => by rw [upd_other _ _ _ _ (show (10 : Nat) ≠ 4 by decide)] at h ⊢; exact (g10 h).keep k), (fun h => by rw [upd_other _ _ _ _ (show (11 : Nat) ≠ 4 by decide)] at h ⊢; exact g11 h), (fun h => by rw [upd_other _ _ _ _ (show (12 : Nat) ≠ 4 by decide)] at h ⊢; exact (g12 h).keep k), (fun h => by rw [upd_other _ _ _ _ (show (13 : Nat) ≠ 4 by decide)] at h ⊢; exact (g13 h).keep k), (fun h h' => by rw [upd_other _ _ _ _ (show (12 : Nat) ≠ 4 by decide)] at h; rw [upd_other _ _ _ _ (show (13 : Nat) ≠ 4 by decide)] at h'; rw [upd_other _ _ _ _ (show (12 : Nat) ≠ 4 by decide), upd_other _ _ _ _ (show (13 : Nat) ≠ 4 by decide)]; exact hne h h')⟩
          · obtain rfl := op_is ho rfl
            have hb2 : L 11 = false := by
              cases hq : L 11 with
              | false => rfl
              | true => rw [h1 hq] at hL; cases hL
            rw [hL, hb2] at h0
            have h0 : Pk w3 p (T0) [] [⟨X2, b.text.length + 16, cX2, YB⟩, ⟨X, a.text.length + 16, cX, YA⟩] F w' := h0
            have hLr : L 4 = true := hd ⟨4, .data⟩ (by simp) rfl
            obtain ⟨qr, Ar, cr, hvr, har⟩ := (g4 hLr).h
            have hxs : [a'.eval (.tmp 116), a'.eval (.tmp 120)] = [(.pointer (some ⟨p, 0, none⟩) : Value), (.slice (some ⟨qr, 0, none⟩) 1 1 : Value)] := by rw [show a'.eval (.tmp 116) = .pointer (some ⟨p, 0, none⟩) from (e0 116 (by kernel_rfl)).trans rfl, show a'.eval (.tmp 120) = .slice (some ⟨qr, 0, none⟩) 1 1 from (ev 4 (by simp) hLr 120 rfl).trans hvr]
            refine step_callW rfl (exec_func 17 _ _ [.pointer (some ⟨p, 0, none⟩), .slice (some ⟨qr, 0, none⟩) 1 1] rfl (by kernel_rfl) hxs) ?_
            have hcl := hash_i p F T0 _ 1 1 _ w' h0.i har (by have := HTL0.out; omega) (by rw [Sha.catP_one]; have := HBGA.out; show a.text.length ≤ _; omega)
            rw [Sha.catP_one] at hcl
            refine hcl.mono ?_
            rintro e w2 ⟨F2, rfl, hq⟩
            have hq : Iq w' F w2 p F2 (mk T0 (hashT a.text)) := hq
            exact ⟨_, rfl, hK'.out _ w2 ⟨F2, (by rw [upd_same, upd_other _ _ _ _ (show (11 : Nat) ≠ 5 by decide), hb2]; exact h0.go hq), (fun h => by rw [upd_same]), Nat.le_trans hsz hq.k.size, (fun h => by rw [upd_other _ _ _ _ (show (3 : Nat) ≠ 5 by decide)] at h ⊢; exact (g3 h).go hq), (fun h => by rw [upd_other _ _ _ _ (show (4 : Nat) ≠ 5 by decide)] at h ⊢; exact (g4 h).go hq), (fun _ => by rw [upd_same]), (fun h => by rw [upd_other _ _ _ _ (show (9 : Nat) ≠ 5 by decide)] at h ⊢; exact (g9 h).go hq), (fun h => by rw [upd_other _ _ _ _ (show (10 : Nat) ≠ 5 by decide)] at h ⊢; exact (g10 h).go hq), (fun h => by rw [upd_other _ _ _ _ (show (11 : Nat) ≠ 5 by decide)] at h ⊢; exact g11 h), (fun h => by rw [upd_other _ _ _ _ (show (12 : Nat) ≠ 5 by decide)] at h ⊢; exact (g12 h).go hq), (fun h => by rw [upd_other _ _ _ _ (show (13 : Nat) ≠ 5 by decide)] at h ⊢; exact (g13 h).go hq), (fun h h' => by rw [upd_other _ _ _ _ (show (12 : Nat) ≠ 5 by decide)] at h; rw [upd_other _ _ _ _ (show (13 : Nat) ≠ 5 by decide)] at h'; rw [upd_other _ _ _ _ (show (12 : Nat) ≠ 5 by decide), upd_other _ _ _ _ (show (13 : Nat) ≠ 5 by decide)]; exact hne h h')⟩⟩
          · obtain rfl := op_is ho rfl
            refine step_strF F h0.i.lt (.tmp 124) rfl rfl (b.text) _ rfl (by have := HBGB.out; omega) ((e0 124 (by kernel_rfl)).trans rfl) ?_
            intro v w2 k pa
            exact hK'.out v w2 ⟨F, (by rw [upd_other _ _ _ _ (show (11 : Nat) ≠ 9 by decide), upd_other _ _ _ _ (show (5 : Nat) ≠ 9 by decide)]; exact h0.keep k), (fun h => by rw [upd_other _ _ _ _ (show (11 : Nat) ≠ 9 by decide)] at h; rw [upd_other _ _ _ _ (show (5 : Nat) ≠ 9 by decide)]; exact h1 h), Nat.le_trans hsz k.size, (fun h => by rw [upd_other _ _ _ _ (show (3 : Nat) ≠ 9 by decide)] at h ⊢; exact (g3 h).keep k), (fun h => by rw [upd_other _ _ _ _ (show (4 : Nat) ≠ 9 by decide)] at h ⊢; exact (g4 h).keep k), (fun h => by rw [upd_other _ _ _ _ (show (5 : Nat) ≠ 9 by decide)] at h ⊢; exact g5 h), (fun _ => by rw [upd_same]; exact pa), (fun h => by rw [upd_other _ _ _ _ (show (10 : Nat) ≠ 9 by decide)] at h ⊢; exact (g10 h).keep k), (fun h => by rw [upd_other _ _ _ _ (show (11 : Nat) ≠ 9 by decide)] at h ⊢; exact g11 h), (fun h => by rw [upd_other _ _ _ _ (show (12 : Nat) ≠ 9 by decide)] at h ⊢; exact (g12 h).keep k), (fun h => by rw [upd_other _ _ _ _ (show (13 : Nat) ≠ 9 by decide)] at h ⊢; exact (g13 h).keep k), (fun h h' => by rw [upd_other _ _ _ _ (show (12 : Nat) ≠ 9 by decide)] at h; rw [upd_other _ _ _ _ (show (13 : Nat) ≠ 9 by decide)] at h'; rw [upd_other _ _ _ _ (show (12 : Nat) ≠ 9 by decide), upd_other _ _ _ _ (show (13 : Nat) ≠ 9 by decide)]; exact hne h h')⟩
          · obtain rfl := op_is ho rfl
            have hL9 : L 9 = true := hd ⟨9, .data⟩ (by simp) rfl
            refine step_rowF F h0.i.lt (.tmp 125) rfl rfl (b.text) _ (vals 9) (ev 9 (by simp) hL9 125 rfl) (g9 hL9) ?_
            intro v w2 k pa
            exact hK'.out v w2 ⟨F, (by rw [upd_other _ _ _ _ (show (11 : Nat) ≠ 10 by decide), upd_other _ _ _ _ (show (5 : Nat) ≠ 10 by decide)]; exact h0.keep k), (fun h => by rw [upd_other _ _ _ _ (show (11 : Nat) ≠ 10 by decide)] at h; rw [upd_other _ _ _ _ (show (5 : Nat) ≠ 10 by decide)]; exact h1 h), Nat.le_trans hsz k.size, (fun h => by rw [upd_other _ _ _ _ (show (3 : Nat) ≠ 10 by decide)] at h ⊢; exact (g3 h).keep k), (fun h => by rw [upd_other _ _ _ _ (show (4 : Nat) ≠ 10 by decide)] at h ⊢; exact (g4 h).keep k), (fun h => by rw [upd_other _ _ _ _ (show (5 : Nat) ≠ 10 by decide)] at h ⊢; exact g5 h), (fun h => by rw [upd_other _ _ _ _ (show (9 : Nat) ≠ 10 by decide)] at h ⊢; exact (g9 h).keep k), (fun _ => by rw [upd_same]; exact pa), (fun h => by rw [upd_other _ _ _ _ (show (11 : Nat) ≠ 10 by decide)] at h ⊢; exact g11 h), (fun h => by rw [upd_other _ _ _ _ (show (12 : Nat) ≠ 10 by decide)] at h ⊢; exact (g12 h).keep k), (fun h => by rw [upd_other _ _ _ _ (show (13 : Nat) ≠ 10 by decide)] at h ⊢; exact (g13 h).keep k), (fun h h' => by rw [upd_other _ _ _ _ (show (12 : Nat) ≠ 10 by decide)] at h; rw [upd_other _ _ _ _ (show (13 : Nat) ≠ 10 by decide)] at h'; rw [upd_other _ _ _ _ (show (12 : Nat) ≠ 10 by decide), upd_other _ _ _ _ (show (13 : Nat) ≠ 10 by decide)]; exact hne h h')⟩
          · obtain rfl := op_is ho rfl
            have hb1 : L 5 = true := hd ⟨5, .chain⟩ (by simp) rfl
            rw [hL, hb1] at h0
            have h0 : Pk w3 p (mk T0 (hashT a.text)) [] [⟨X2, b.text.length + 16, cX2, YB⟩, ⟨X, a.text.length + 16, cX, YA⟩] F w' := h0
            have hLr : L 10 = true := hd ⟨10, .data⟩ (by simp) rfl
            obtain ⟨qr, Ar, cr, hvr, har⟩ := (g10 hLr).h
            have hxs : [a'.eval (.tmp 122), a'.eval (.tmp 126)] = [(.pointer (some ⟨p, 0, none⟩) : Value), (.slice (some ⟨qr, 0, none⟩) 1 1 : Value)] := by rw [show a'.eval (.tmp 122) = .pointer (some ⟨p, 0, none⟩) from (e0 122 (by kernel_rfl)).trans rfl, show a'.eval (.tmp 126) = .slice (some ⟨qr, 0, none⟩) 1 1 from (ev 10 (by simp) hLr 126 rfl).trans hvr]
            refine step_callW rfl (exec_func 17 _ _ [.pointer (some ⟨p, 0, none⟩), .slice (some ⟨qr, 0, none⟩) 1 1] rfl (by kernel_rfl) hxs) ?_
            have hcl := hash_i p F (mk T0 (hashT a.text)) _ 1 1 _ w' h0.i har (by have := HTL0.out; have := mk_length_le T0 (hashT a.text); omega) (by rw [Sha.catP_one]; have := HBGB.out; show b.text.length ≤ _; omega)
            rw [Sha.catP_one] at hcl
            refine hcl.mono ?_
            rintro e w2 ⟨F2, rfl, hq⟩
            have hq : Iq w' F w2 p F2 (mk (mk T0 (hashT a.text)) (hashT b.text)) := hq
            exact ⟨_, rfl, hK'.out _ w2 ⟨F2, (by rw [upd_same]; exact h0.go hq), (fun h => by rw [upd_other _ _ _ _ (show (5 : Nat) ≠ 11 by decide)]; exact hb1), Nat.le_trans hsz hq.k.size, (fun h => by rw [upd_other _ _ _ _ (show (3 : Nat) ≠ 11 by decide)] at h ⊢; exact (g3 h).go hq), (fun h => by rw [upd_other _ _ _ _ (show (4 : Nat) ≠ 11 by decide)] at h ⊢; exact (g4 h).go hq), (fun h => by rw [upd_other _ _ _ _ (show (5 : Nat) ≠ 11 by decide)] at h ⊢; exact g5 h), (fun h => by rw [upd_other _ _ _ _ (show (9 : Nat) ≠ 11 by decide)] at h ⊢; exact (g9 h).go hq), (fun h => by rw [upd_other _ _ _ _ (show (10 : Nat) ≠ 11 by decide)] at h ⊢; exact (g10 h).go hq), (fun _ => by rw [upd_same]), (fun h => by rw [upd_other _ _ _ _ (show (12 : Nat) ≠ 11 by decide)] at h ⊢; exact (g12 h).go hq), (fun h => by rw [upd_other _ _ _ _ (show (13 : Nat) ≠ 11 by decide)] at h ⊢; exact (g13 h).go hq), (fun h h' => by rw [upd_other _ _ _ _ (show (12 : Nat) ≠ 11 by decide)] at h; rw [upd_other _ _ _ _ (show (13 : Nat) ≠ 11 by decide)] at h'; rw [upd_other _ _ _ _ (show (12 : Nat) ≠ 11 by decide), upd_other _ _ _ _ (show (13 : Nat) ≠ 11 by decide)]; exact hne h h')⟩⟩
          · obtain rfl := op_is ho rfl
            refine step_newF wd.heap.size F h0.i.lt hsz rfl rfl ?_
            intro k pb
            exact hK'.out _ _ ⟨F, (by rw [upd_other _ _ _ _ (show (11 : Nat) ≠ 12 by decide), upd_other _ _ _ _ (show (5 : Nat) ≠ 12 by decide)]; exact h0.keep k), (fun h => by rw [upd_other _ _ _ _ (show (11 : Nat) ≠ 12 by decide)] at h; rw [upd_other _ _ _ _ (show (5 : Nat) ≠ 12 by decide)]; exact h1 h), Nat.le_trans hsz k.size, (fun h => by rw [upd_other _ _ _ _ (show (3 : Nat) ≠ 12 by decide)] at h ⊢; exact (g3 h).keep k), (fun h => by rw [upd_other _ _ _ _ (show (4 : Nat) ≠ 12 by decide)] at h ⊢; exact (g4 h).keep k), (fun h => by rw [upd_other _ _ _ _ (show (5 : Nat) ≠ 12 by decide)] at h ⊢; exact g5 h), (fun h => by rw [upd_other _ _ _ _ (show (9 : Nat) ≠ 12 by decide)] at h ⊢; exact (g9 h).keep k), (fun h => by rw [upd_other _ _ _ _ (show (10 : Nat) ≠ 12 by decide)] at h ⊢; exact (g10 h).keep k), (fun h => by rw [upd_other _ _ _ _ (show (11 : Nat) ≠ 12 by decide)] at h ⊢; exact g11 h), (fun _ => by rw [upd_same]; exact pb), (fun h => by rw [upd_other _ _ _ _ (show (13 : Nat) ≠ 12 by decide)] at h ⊢; exact (g13 h).keep k), (fun _ h => by rw [upd_same, upd_other _ _ _ _ (show (13 : Nat) ≠ 12 by decide)]; rw [upd_other _ _ _ _ (show (13 : Nat) ≠ 12 by decide)] at h; exact fun e => (g13 h).ne e.symm)⟩
          · obtain rfl := op_is ho rfl
            refine step_newF wd.heap.size F h0.i.lt hsz rfl rfl ?_
            intro k pb
            exact hK'.out _ _ ⟨F, (by rw [upd_other _ _ _ _ (show (11 : Nat) ≠ 13 by decide), upd_other _ _ _ _ (show (5 : Nat) ≠ 13 by decide)]; exact h0.keep k), (fun h => by rw [upd_other _ _ _ _ (show (11 : Nat) ≠ 13 by decide)] at h; rw [upd_other _ _ _ _ (show (5 : Nat) ≠ 13 by decide)]; exact h1 h), Nat.le_trans hsz k.size, (fun h => by rw [upd_other _ _ _ _ (show (3 : Nat) ≠ 13 by decide)] at h ⊢; exact (g3 h).keep k), (fun h => by rw [upd_other _ _ _ _ (show (4 : Nat) ≠ 13 by decide)] at h ⊢; exact (g4 h).keep k), (fun h => by rw [upd_other _ _ _ _ (show (5 : Nat) ≠ 13 by decide)] at h ⊢; exact g5 h), (fun h => by rw [upd_other _ _ _ _ (show (9 : Nat) ≠ 13 by decide)] at h ⊢; exact (g9 h).keep k), (fun h => by rw [upd_other _ _ _ _ (show (10 : Nat) ≠ 13 by decide)] at h ⊢; exact (g10 h).keep k), (fun h => by rw [upd_other _ _ _ _ (show (11 : Nat) ≠ 13 by decide)] at h ⊢; exact g11 h), (fun h => by rw [upd_other _ _ _ _ (show (12 : Nat) ≠ 13 by decide)] at h ⊢; exact (g12 h).keep k), (fun _ => by rw [upd_same]; exact pb), (fun h _ => by rw [upd_same, upd_other _ _ _ _ (show (12 : Nat) ≠ 13 by decide)]; rw [upd_other _ _ _ _ (show (12 : Nat) ≠ 13 by decide)] at h; exact (g12 h).ne)⟩
        case fin =>
          intro vals L w16 hall hJ
          obtain ⟨F18, k0, _, _, _, _, vA, _, _, vB, nA, nB, hne⟩ := hJ
          rw [hall 5 (by simp), hall 11 (by simp)] at k0
          have vA := vA (hall 5 (by simp)); have vB := vB (hall 11 (by simp))
          obtain ⟨q15, hvA, hbA, hfA, hgA⟩ := (nA (hall 12 (by simp))).h
          obtain ⟨q16, hvB, hbB, hfB, hgB⟩ := (nB (hall 13 (by simp))).h
          have hne := hne (hall 12 (by simp)) (hall 13 (by simp))
          have hneq : q15 ≠ q16 := fun e => hne (by rw [hvA, hvB, e])
          obtain ⟨DH, hDA⟩ : ∃ DH, DH = out T0 (hashT a.text) 32 := ⟨_, rfl⟩
          obtain ⟨DI, hDB⟩ : ∃ DI, DI = out (mk T0 (hashT a.text)) (hashT b.text) 32 := ⟨_, rfl⟩
          rw [← hDA] at vA
          rw [← hDB] at vB
          have HDH : Hid (DH = out T0 (hashT a.text) 32 ∧ DH.length = 32) := Lib.hid ⟨hDA, by rw [hDA]; exact out_length _ _ _ (by omega)⟩
          have HDI : Hid (DI = out (mk T0 (hashT a.text)) (hashT b.text) 32 ∧ DI.length = 32) := Lib.hid ⟨hDB, by rw [hDB]; exact out_length _ _ _ (by omega)⟩
          clear hDA hDB
          simp only [putZ, vA, vB, hvA, hvB]
          clear vA vB nA nB hvA hvB hne hall
          simp only [Act.put, List.setIfInBounds_toArray, List.set_cons_zero, List.set_cons_succ]
          have RL : ∀ r ∈ ([⟨X2, b.text.length + 16, cX2, YB⟩, ⟨X, a.text.length + 16, cX, YA⟩] : List Pc), r.l = [] ∨ ∀ k, ab r.A = some k → k < wd.heap.size := fun r hr => by
            by_cases e : r.l = []
            · exact .inl e
            · exact .inr (fun k e2 => (H16.out.r r hr).row.lt (by simpa [bvs] using e) k e2)
          have XL : ∀ x ∈ ([] : List (Nat × List UInt8)), x.1 < wd.heap.size := fun x hx => (H16.out.x x hx).1.lt
          refine reg_store 14 none 41 (.tmp 15) (.tmp 121) rfl rfl rfl (by kernel_rfl) (by rfl) q15 41 _ (bvs DH) hbA rfl rfl (by rw [bvs_length, zc_length, HDH.out.2]) (by rw [bvs_length, HDH.out.2]; kernel_rfl) (bvs_one _) ?_
          intro w17 hB1 kk1 zz1
          have P1 := k0.store hfA (Nat.le_trans H16.out.k.size hgA) (fun x hx => by have := XL x hx; omega) (fun r hr => (RL r hr).imp id (fun h k e => by have := h k e; omega)) kk1 hB1
          refine ⟨P1.k, fun _ => ?_⟩
          simp only [Act.put, List.setIfInBounds_toArray, List.set_cons_zero, List.set_cons_succ]
          have hbB1 := hbB.keep kk1 (fun e => hneq (show q16 = q15 from e).symm)
          refine reg_store 15 none 41 (.tmp 16) (.tmp 127) rfl rfl rfl (by kernel_rfl) (by rfl) q16 41 _ (bvs DI) hbB1 rfl rfl (by rw [bvs_length, zc_length, HDI.out.2]) (by rw [bvs_length, HDI.out.2]; kernel_rfl) (bvs_one _) ?_
          intro w18 hB2 kk2 zz2
          have P2 := P1.store hfB (Nat.le_trans H16.out.k.size hgB) (fun x hx => by
            rcases List.mem_cons.1 hx with rfl | hx
            · exact hneq
            · have := XL x hx; omega) (fun r hr => (RL r hr).imp id (fun h k e => by have := h k e; omega)) kk2 hB2
          refine ⟨P2.k, fun _ => ?_⟩
          simp only [Act.put, List.setIfInBounds_toArray, List.set_cons_zero, List.set_cons_succ]
          have H18 := Lib.hid P2
          clear P1 P2 hB1 hB2 kk1 kk2 zz1 zz2 RL XL hbA hbB hbB1 hfA hfB hgA hgB hneq k0
          refine reg_end (by kernel_rfl) ?_
          have H18 : Hid (Pk w3 p (mk (mk T0 (hashT a.text)) (hashT b.text)) [(q16, DI), (q15, DH)] [⟨X2, b.text.length + 16, cX2, YB⟩, ⟨X, a.text.length + 16, cX, YA⟩] F18 w18) := Lib.hid H18.out
          obtain ⟨T1, hT1⟩ : ∃ T1, T1 = mk (mk T0 (hashT a.text)) (hashT b.text) := ⟨_, rfl⟩
          rw [← hT1] at H18
          have HT1 := Lib.hid hT1
          have HTL1 := Lib.hid (show T1.length ≤ 92 by rw [hT1]; have := HTL0.out; have := mk_len2 T0 (hashT a.text) (hashT b.text); omega)
          clear hT1 H16 HS0
          go_upto_region 16 with (fail)
          have H19 := Lib.hid (H18.out.keep (Kp.refl nob w18).drew)
          have HS1 : Hid (Kp nob w3 w18.drew) := Lib.hid H19.out.k
          refine reg_begin (Kp nob w3) (by kernel_rfl) HS1.out (fun _ => ?_)
          clear H18
          generalize w18.drew = we at *
          refine reg_take (v := .pointer (some ⟨p, 0, none⟩)) 0 (some 128) rfl rfl (by kernel_rfl) (by kernel_rfl) (by kernel_rfl) (by rfl) HS1.out (fun w hw => by go_simp) ?_
          simp only [Act.put, List.setIfInBounds_toArray, List.set_cons_zero, List.set_cons_succ]
          refine reg_take (v := .pointer (some ⟨w.heap.size, 1, none⟩)) 1 (some 129) rfl rfl (by kernel_rfl) (by kernel_rfl) (by kernel_rfl) (by rfl) HS1.out (fun w' hw => by go_simp) ?_
          simp only [Act.put, List.setIfInBounds_toArray, List.set_cons_zero, List.set_cons_succ]
          refine reg_take (v := .string (str a.key)) 2 (some 130) rfl rfl (by kernel_rfl) (by kernel_rfl) (by kernel_rfl) (by rfl) HS1.out (fun w' hw => by have hc : w'.cell? ⟨w.heap.size, 1, none⟩ = some (.string (str a.key)) := ((HA.out w' hw).cell 1).trans rfl; go_simp) ?_
          simp only [Act.put, List.setIfInBounds_toArray, List.set_cons_zero, List.set_cons_succ]
          refine reg_take (v := .pointer (some ⟨w.heap.size, 4, none⟩)) 4 (some 132) rfl rfl (by kernel_rfl) (by kernel_rfl) (by kernel_rfl) (by rfl) HS1.out (fun w' hw => by go_simp) ?_
          simp only [Act.put, List.setIfInBounds_toArray, List.set_cons_zero, List.set_cons_succ]
          refine reg_take (v := .string (str a.text)) 5 (some 133) rfl rfl (by kernel_rfl) (by kernel_rfl) (by kernel_rfl) (by rfl) HS1.out (fun w' hw => by have hc : w'.cell? ⟨w.heap.size, 4, none⟩ = some (.string (str a.text)) := ((HA.out w' hw).cell 4).trans rfl; go_simp) ?_
          simp only [Act.put, List.setIfInBounds_toArray, List.set_cons_zero, List.set_cons_succ]
          refine reg_take (v := .pointer (some ⟨p, 0, none⟩)) 9 (some 137) rfl rfl (by kernel_rfl) (by kernel_rfl) (by kernel_rfl) (by rfl) HS1.out (fun w hw => by go_simp) ?_
          simp only [Act.put, List.setIfInBounds_toArray, List.set_cons_zero, List.set_cons_succ]
          refine reg_take (v := .pointer (some ⟨w.heap.size + 1, 1, none⟩)) 10 (some 138) rfl rfl (by kernel_rfl) (by kernel_rfl) (by kernel_rfl) (by rfl) HS1.out (fun w' hw => by go_simp) ?_
          simp only [Act.put, List.setIfInBounds_toArray, List.set_cons_zero, List.set_cons_succ]
          refine reg_take (v := .string (str b.key)) 11 (some 139) rfl rfl (by kernel_rfl) (by kernel_rfl) (by kernel_rfl) (by rfl) HS1.out (fun w' hw => by have hc : w'.cell? ⟨w.heap.size + 1, 1, none⟩ = some (.string (str b.key)) := ((HB.out w' hw).cell 1).trans rfl; go_simp) ?_
          simp only [Act.put, List.setIfInBounds_toArray, List.set_cons_zero, List.set_cons_succ]
          refine reg_take (v := .pointer (some ⟨w.heap.size + 1, 4, none⟩)) 13 (some 141) rfl rfl (by kernel_rfl) (by kernel_rfl) (by kernel_rfl) (by rfl) HS1.out (fun w' hw => by go_simp) ?_
          simp only [Act.put, List.setIfInBounds_toArray, List.set_cons_zero, List.set_cons_succ]
          refine reg_take (v := .string (str b.text)) 14 (some 142) rfl rfl (by kernel_rfl) (by kernel_rfl) (by kernel_rfl) (by rfl) HS1.out (fun w' hw => by have hc : w'.cell? ⟨w.heap.size + 1, 4, none⟩ = some (.string (str b.text)) := ((HB.out w' hw).cell 4).trans rfl; go_simp) ?_
          simp only [Act.put, List.setIfInBounds_toArray, List.set_cons_zero, List.set_cons_succ]
          refine reg_many2 [3, 6, 7, 8, 12, 15, 16, 17, 18, 19] [(3, some 131), (6, some 134), (7, some 135), (8, some 136), (12, some 140), (15, some 143), (16, some 144), (17, some 145), (18, some 17), (19, some 18)] _ _ _ _ 2 (fun (L : Nat → Bool) (vals : Nat → Value) (w' : World) => ∃ F : Nat → Prop, Pk w3 p (bif L 17 then mk (mk T1 (macT a.key a.text)) (macT b.key b.text) else bif L 8 then mk T1 (macT a.key a.text) else T1) [(q16, DI), (q15, DH)] [⟨X2, b.text.length + 16, cX2, YB⟩, ⟨X, a.text.length + 16, cX, YA⟩] F w' ∧ (L 17 = true → L 8 = true) ∧ we.heap.size ≤ w'.heap.size ∧ (L 3 = true → PAF F (vals 3) w' (a.key).length (a.key)) ∧ (L 6 = true → PAF F (vals 6) w' (a.text).length (a.text)) ∧ (L 7 = true → PRF F (vals 7) w' (a.text).length (a.text)) ∧ (L 8 = true → (vals 8) = .agg (bvs (out T1 (macT a.key a.text) 32)).toArray) ∧ (L 12 = true → PAF F (vals 12) w' (b.key).length (b.key)) ∧ (L 15 = true → PAF F (vals 15) w' (b.text).length (b.text)) ∧ (L 16 = true → PRF F (vals 16) w' (b.text).length (b.text)) ∧ (L 17 = true → (vals 17) = .agg (bvs (out (mk T1 (macT a.key a.text)) (macT b.key b.text) 32)).toArray) ∧ (L 18 = true → PBF we.heap.size F (vals 18) w') ∧ (L 19 = true → PBF we.heap.size F (vals 19) w') ∧ (L 18 = true → L 19 = true → vals 18 ≠ vals 19)) 22 rfl rfl rfl (by kernel_rfl) (by kernel_rfl) (by kernel_rfl) (by kernel_rfl) rfl (fun L vals w' ⟨F, h, _⟩ => h.k) ?h0 ?st ?fin
          case h0 => exact ⟨F18, H19.out, (fun h => absurd h (by simp [lst])), Nat.le_refl _, (fun h => absurd h (by simp [lst])), (fun h => absurd h (by simp [lst])), (fun h => absurd h (by simp [lst])), (fun h => absurd h (by simp [lst])), (fun h => absurd h (by simp [lst])), (fun h => absurd h (by simp [lst])), (fun h => absurd h (by simp [lst])), (fun h => absurd h (by simp [lst])), (fun h => absurd h (by simp [lst])), (fun h => absurd h (by simp [lst])), (fun h => absurd h (by simp [lst]))⟩
          case st =>
            intro L vals w' a' i' o hi ho hL hd hJ ev e0 K' hK'
            obtain ⟨F, h0, h1, hsz, g3, g6, g7, g8, g12, g15, g16, g17, g18, g19, hne⟩ := hJ
            simp only [List.mem_cons, List.not_mem_nil, or_false] at hi
            rcases hi with rfl | rfl | rfl | rfl | rfl | rfl | rfl | rfl | rfl | rfl
            · obtain rfl := op_is ho rfl
              refine step_strF F h0.i.lt (.tmp 130) rfl rfl (a.key) _ rfl (by have := HBGA.out; omega) ((e0 130 (by kernel_rfl)).trans rfl) ?_
              intro v w2 k pa
              exact hK'.out v w2 ⟨F, (by rw [upd_other _ _ _ _ (show (17 : Nat) ≠ 3 by decide), upd_other _ _ _ _ (show (8 : Nat) ≠ 3 by decide)]; exact h0.keep k), (fun h => by rw [upd_other _ _ _ _ (show (17 : Nat) ≠ 3 by decide)] at h; rw [upd_other _ _ _ _ (show (8 : Nat) ≠ 3 by decide)]; exact h1 h), Nat.le_trans hsz k.size, (fun _ => by rw [upd_same]; exact pa), (fun h => by rw [upd_other _ _ _ _ (show (6 : Nat) ≠ 3 by decide)] at h ⊢; exact (g6 h).keep k), (fun h => by rw [upd_other _ _ _ _ (show (7 : Nat) ≠ 3 by decide)] at h ⊢; exact (g7 h).keep k), (fun h => by rw [upd_other _ _ _ _ (show (8 : Nat) ≠ 3 by decide)] at h ⊢; exact g8 h), (fun h => by rw [upd_other _ _ _ _ (show (12 : Nat) ≠ 3 by decide)] at h ⊢; exact (g12 h).keep k), (fun h => by rw [upd_other _ _ _ _ (show (15 : Nat) ≠ 3 by decide)] at h ⊢; exact (g15 h).keep k), (fun h => by rw [upd_other _ _ _ _ (show (16 : Nat) ≠ 3 by decide)] at h ⊢; exact (g16 h).keep k), (fun h => by rw [upd_other _ _ _ _ (show (17 : Nat) ≠ 3 by decide)] at h ⊢; exact g17 h), (fun h => by rw [upd_other _ _ _ _ (show (18 : Nat) ≠ 3 by decide)] at h ⊢; exact (g18 h).keep k), (fun h => by rw [upd_other _ _ _ _ (show (19 : Nat) ≠ 3 by decide)] at h ⊢; exact (g19 h).keep k), (fun h h' => by rw [upd_other _ _ _ _ (show (18 : Nat) ≠ 3 by decide)] at h; rw [upd_other _ _ _ _ (show (19 : Nat) ≠ 3 by decide)] at h'; rw [upd_other _ _ _ _ (show (18 : Nat) ≠ 3 by decide), upd_other _ _ _ _ (show (19 : Nat) ≠ 3 by decide)]; exact hne h h')⟩
            · obtain rfl := op_is ho rfl
              refine step_strF F h0.i.lt (.tmp 133) rfl rfl (a.text) _ rfl (by have := HBGA.out; omega) ((e0 133 (by kernel_rfl)).trans rfl) ?_
              intro v w2 k pa
              exact hK'.out v w2 ⟨F, (by rw [upd_other _ _ _ _ (show (17 : Nat) ≠ 6 by decide), upd_other _ _ _ _ (show (8 : Nat) ≠ 6 by decide)]; exact h0.keep k), (fun h => by rw [upd_other _ _ _ _ (show (17 : Nat) ≠ 6 by decide)] at h; rw [upd_other _ _ _ _ (show (8 : Nat) ≠ 6 by decide)]; exact h1 h), Nat.le_trans hsz k.size, (fun h => by rw [upd_other _ _ _ _ (show (3 : Nat) ≠ 6 by decide)] at h ⊢; exact (g3 h).keep k), (fun _ => by rw [upd_same]; exact pa), (fun h => by rw [upd_other _ _ _ _ (show (7 : Nat) ≠ 6 by decide)] at h ⊢; exact (g7 h).keep k), (fun h => by rw [upd_other _ _ _ _ (show (8 : Nat) ≠ 6 by decide)] at h ⊢; exact g8 h), (fun h => by rw [upd_other _ _ _ _ (show (12 : Nat) ≠ 6 by decide)] at h ⊢; exact (g12 h).keep k), (fun h => by rw [upd_other _ _ _ _ (show (15 : Nat) ≠ 6 by decide)] at h ⊢; exact (g15 h).keep k), (fun h => by rw [upd_other _ _ _ _ (show (16 : Nat) ≠ 6 by decide)] at h ⊢; exact (g16 h).keep k), (fun h => by rw [upd_other _ _ _ _ (show (17 : Nat) ≠ 6 by decide)] at h ⊢; exact g17 h), (fun h => by rw [upd_other _ _ _ _ (show (18 : Nat) ≠ 6 by decide)] at h ⊢; exact (g18 h).keep k), (fun h => by rw [upd_other _ _ _ _ (show (19 : Nat) ≠ 6 by decide)] at h ⊢; exact (g19 h).keep k), (fun h h' => by rw [upd_other _ _ _ _ (show (18 : Nat) ≠ 6 by decide)] at h; rw [upd_other _ _ _ _ (show (19 : Nat) ≠ 6 by decide)] at h'; rw [upd_other _ _ _ _ (show (18 : Nat) ≠ 6 by decide), upd_other _ _ _ _ (show (19 : Nat) ≠ 6 by decide)]; exact hne h h')⟩
            · obtain rfl := op_is ho rfl
              have hL6 : L 6 = true := hd ⟨6, .data⟩ (by simp) rfl
              refine step_rowF F h0.i.lt (.tmp 134) rfl rfl (a.text) _ (vals 6) (ev 6 (by simp) hL6 134 rfl) (g6 hL6) ?_
              intro v w2 k pa
              exact hK'.out v w2 ⟨F, (by rw [upd_other _ _ _ _ (show (17 : Nat) ≠ 7 by decide), upd_other _ _ _ _ (show (8 : Nat) ≠ 7 by decide)]; exact h0.keep k), (fun h => by rw [upd_other _ _ _ _ (show (17 : Nat) ≠ 7 by decide)] at h; rw [upd_other _ _ _ _ (show (8 : Nat) ≠ 7 by decide)]; exact h1 h), Nat.le_trans hsz k.size, (fun h => by rw [upd_other _ _ _ _ (show (3 : Nat) ≠ 7 by decide)] at h ⊢; exact (g3 h).keep k), (fun h => by rw [upd_other _ _ _ _ (show (6 : Nat) ≠ 7 by decide)] at h ⊢; exact (g6 h).keep k), (fun _ => by rw [upd_same]; exact pa), (fun h => by rw [upd_other _ _ _ _ (show (8 : Nat) ≠ 7 by decide)] at h ⊢; exact g8 h), (fun h => by rw [upd_other _ _ _ _ (show (12 : Nat) ≠ 7 by decide)] at h ⊢; exact (g12 h).keep k), (fun h => by rw [upd_other _ _ _ _ (show (15 : Nat) ≠ 7 by decide)] at h ⊢; exact (g15 h).keep k), (fun h => by rw [upd_other _ _ _ _ (show (16 : Nat) ≠ 7 by decide)] at h ⊢; exact (g16 h).keep k), (fun h => by rw [upd_other _ _ _ _ (show (17 : Nat) ≠ 7 by decide)] at h ⊢; exact g17 h), (fun h => by rw [upd_other _ _ _ _ (show (18 : Nat) ≠ 7 by decide)] at h ⊢; exact (g18 h).keep k), (fun h => by rw [upd_other _ _ _ _ (show (19 : Nat) ≠ 7 by decide)] at h ⊢; exact (g19 h).keep k), (fun h h' => by rw [upd_other _ _ _ _ (show (18 : Nat) ≠ 7 by decide)] at h; rw [upd_other _ _ _ _ (show (19 : Nat) ≠ 7 by decide)] at h'; rw [upd_other _ _ _ _ (show (18 : Nat) ≠ 7 by decide), upd_other _ _ _ _ (show (19 : Nat) ≠ 7 by decide)]; exact hne h h')⟩
            · obtain rfl := op_is ho rfl
              have hb2 : L 17 = false := by
                cases hq : L 17 with
                | false => rfl
                | true => rw [h1 hq] at hL; cases hL
              rw [hL, hb2] at h0
              have h0 : Pk w3 p (T1) [(q16, DI), (q15, DH)] [⟨X2, b.text.length + 16, cX2, YB⟩, ⟨X, a.text.length + 16, cX, YA⟩] F w' := h0
              have hLk : L 3 = true := hd ⟨3, .data⟩ (by simp) rfl
              obtain ⟨Ak, ck, hvk, hak⟩ := (g3 hLk).h
              have hLr : L 7 = true := hd ⟨7, .data⟩ (by simp) rfl
              obtain ⟨qr, Ar, cr, hvr, har⟩ := (g7 hLr).h
              have hxs : [a'.eval (.tmp 128), a'.eval (.tmp 131), a'.eval (.tmp 135)] = [(.pointer (some ⟨p, 0, none⟩) : Value), (.slice Ak (a.key).length ck : Value), (.slice (some ⟨qr, 0, none⟩) 1 1 : Value)] := by rw [show a'.eval (.tmp 128) = .pointer (some ⟨p, 0, none⟩) from (e0 128 (by kernel_rfl)).trans rfl, show a'.eval (.tmp 131) = .slice Ak (a.key).length ck from (ev 3 (by simp) hLk 131 rfl).trans hvk, show a'.eval (.tmp 135) = .slice (some ⟨qr, 0, none⟩) 1 1 from (ev 7 (by simp) hLr 135 rfl).trans hvr]
              refine step_callW rfl (exec_func 15 _ _ [.pointer (some ⟨p, 0, none⟩), .slice Ak (a.key).length ck, .slice (some ⟨qr, 0, none⟩) 1 1] rfl (by kernel_rfl) hxs) ?_
              have hcl := mac_i p F T1 Ak a.key.length ck a.key _ 1 1 _ w' h0.i hak har (by have := HTL1.out; omega) (by have := HBGA.out; omega) (by rw [Sha.catP_one]; have := HBGA.out; show a.text.length ≤ _; omega)
              rw [Sha.catP_one] at hcl
              refine hcl.mono ?_
              rintro e w2 ⟨F2, rfl, hq⟩
              have hq : Iq w' F w2 p F2 (mk T1 (macT a.key a.text)) := hq
              exact ⟨_, rfl, hK'.out _ w2 ⟨F2, (by rw [upd_same, upd_other _ _ _ _ (show (17 : Nat) ≠ 8 by decide), hb2]; exact h0.go hq), (fun h => by rw [upd_same]), Nat.le_trans hsz hq.k.size, (fun h => by rw [upd_other _ _ _ _ (show (3 : Nat) ≠ 8 by decide)] at h ⊢; exact (g3 h).go hq), (fun h => by rw [upd_other _ _ _ _ (show (6 : Nat) ≠ 8 by decide)] at h ⊢; exact (g6 h).go hq), (fun h => by rw [upd_other _ _ _ _ (show (7 : Nat) ≠ 8 by decide)] at h ⊢; exact (g7 h).go hq), (fun _ => by rw [upd_same]), (fun h => by rw [upd_other _ _ _ _ (show (12 : Nat) ≠ 8 by decide)] at h ⊢; exact (g12 h).go hq), (fun h => by rw [upd_other _ _ _ _ (show (15 : Nat) ≠ 8 by decide)] at h ⊢; exact (g15 h).go hq), (fun h => by rw [upd_other _ _ _ _ (show (16 : Nat) ≠ 8 by decide)] at h ⊢; exact (g16 h).go hq), (fun h => by rw [upd_other _ _ _ _ (show (17 : Nat) ≠ 8 by decide)] at h ⊢; exact g17 h), (fun h => by rw [upd_other _ _ _ _ (show (18 : Nat) ≠ 8 by decide)] at h ⊢; exact (g18 h).go hq), (fun h => by rw [upd_other _ _ _ _ (show (19 : Nat) ≠ 8 by decide)] at h ⊢; exact (g19 h).go hq), (fun h h' => by rw [upd_other _ _ _ _ (show (18 : Nat) ≠ 8 by decide)] at h; rw [upd_other _ _ _ _ (show (19 : Nat) ≠ 8 by decide)] at h'; rw [upd_other _ _ _ _ (show (18 : Nat) ≠ 8 by decide), upd_other _ _ _ _ (show (19 : Nat) ≠ 8 by decide)]; exact hne h h')⟩⟩
            · obtain rfl := op_is ho rfl
              refine step_strF F h0.i.lt (.tmp 139) rfl rfl (b.key) _ rfl (by have := HBGB.out; omega) ((e0 139 (by kernel_rfl)).trans rfl) ?_
              intro v w2 k pa
              exact hK'.out v w2 ⟨F, (by rw [upd_other _ _ _ _ (show (17 : Nat) ≠ 12 by decide), upd_other _ _ _ _ (show (8 : Nat) ≠ 12 by decide)]; exact h0.keep k), (fun h => by rw [upd_other _ _ _ _ (show (17 : Nat) ≠ 12 by decide)] at h; rw [upd_other _ _ _ _ (show (8 : Nat) ≠ 12 by decide)]; exact h1 h), Nat.le_trans hsz k.size, (fun h => by rw [upd_other _ _ _ _ (show (3 : Nat) ≠ 12 by decide)] at h ⊢; exact (g3 h).keep k), (fun h => by rw [upd_other _ _ _ _ (show (6 : Nat) ≠ 12 by decide)] at h ⊢; exact (g6 h).keep k), (fun h => by rw [upd_other _ _ _ _ (show (7 : Nat) ≠ 12 by decide)] at h ⊢; exact (g7 h).keep k), (fun h => by rw [upd_other _ _ _ _ (show (8 : Nat) ≠ 12 by decide)] at h ⊢; exact g8 h), (fun _ => by rw [upd_same]; exact pa), (fun h => by rw [upd_other _ _ _ _ (show (15 : Nat) ≠ 12 by decide)] at h ⊢; exact (g15 h).keep k), (fun h => by rw [upd_other _ _ _ _ (show (16 : Nat) ≠ 12 by decide)] at h ⊢; exact (g16 h).keep k), (fun h => by rw [upd_other _ _ _ _ (show (17 : Nat) ≠ 12 by decide)] at h ⊢; exact g17 h), (fun h => by rw [upd_other _ _ _ _ (show (18 : Nat) ≠ 12 by decide)] at h ⊢; exact (g18 h).keep k), (fun h => by rw [upd_other _ _ _ _ (show (19 : Nat) ≠ 12 by decide)] at h ⊢; exact (g19 h).keep k), (fun h h' => by rw [upd_other _ _ _ _ (show (18 : Nat) ≠ 12 by decide)] at h; rw [upd_other _ _ _ _ (show (19 : Nat) ≠ 12 by decide)] at h'; rw [upd_other _ _ _ _ (show (18 : Nat) ≠ 12 by decide), upd_other _ _ _ _ (show (19 : Nat) ≠ 12 by decide)]; exact hne h h')⟩
            · obtain rfl := op_is ho rfl
              refine step_strF F h0.i.lt (.tmp 142) rfl rfl (b.text) _ rfl (by have := HBGB.out; omega) ((e0 142 (by kernel_rfl)).trans rfl) ?_
              intro v w2 k pa
              exact hK'.out v w2 ⟨F, (by rw [upd_other _ _ _ _ (show (17 : Nat) ≠ 15 by decide), upd_other _ _ _ _ (show (8 : Nat) ≠ 15 by decide)]; exact h0.keep k), (fun h => by rw [upd_other _ _ _ _ (show (17 : Nat) ≠ 15 by decide)] at h; rw [upd_other _ _ _ _ (show (8 : Nat) ≠ 15 by decide)]; exact h1 h), Nat.le_trans hsz k.size, (fun h => by rw [upd_other _ _ _ _ (show (3 : Nat) ≠ 15 by decide)] at h ⊢; exact (g3 h).keep k), (fun h => by rw [upd_other _ _ _ _ (show (6 : Nat) ≠ 15 by decide)] at h ⊢; exact (g6 h).keep k), (fun h => by rw [upd_other _ _ _ _ (show (7 : Nat) ≠ 15 by decide)] at h ⊢; exact (g7 h).keep k), (fun h => by rw [upd_other _ _ _ _ (show (8 : Nat) ≠ 15 by decide)] at h ⊢; exact g8 h), (fun h => by rw [upd_other _ _ _ _ (show (12 : Nat) ≠ 15 by decide)] at h ⊢; exact (g12 h).keep k), (fun _ => by rw [upd_same]; exact pa), (fun h => by rw [upd_other _ _ _ _ (show (16 : Nat) ≠ 15 by decide)] at h ⊢; exact (g16 h).keep k), (fun h => by rw [upd_other _ _ _ _ (show (17 : Nat) ≠ 15 by decide)] at h ⊢; exact g17 h), (fun h => by rw [upd_other _ _ _ _ (show (18 : Nat) ≠ 15 by decide)] at h ⊢; exact (g18 h).keep k), (fun h => by rw [upd_other _ _ _ _ (show (19 : Nat) ≠ 15 by decide)] at h ⊢; exact (g19 h).keep k), (fun h h' => by rw [upd_other _ _ _ _ (show (18 : Nat) ≠ 15 by decide)] at h; rw [upd_other _ _ _ _ (show (19 : Nat) ≠ 15 by decide)] at h'; rw [upd_other _ _ _ _ (show (18 : Nat) ≠ 15 by decide), upd_other _ _ _ _ (show (19 : Nat) ≠ 15 by decide)]; exact hne h h')⟩
            · obtain rfl := op_is ho rfl
              have hL15 : L 15 = true := hd ⟨15, .data⟩ (by simp) rfl
              refine step_rowF F h0.i.lt (.tmp 143) rfl rfl (b.text) _ (vals 15) (ev 15 (by simp) hL15 143 rfl) (g15 hL15) ?_
              intro v w2 k pa
              exact hK'.out v w2 ⟨F, (by rw [upd_other _ _ _ _ (show (17 : Nat) ≠ 16 by decide), upd_other _ _ _ _ (show (8 : Nat) ≠ 16 by decide)]; exact h0.keep k), (fun h => by rw [upd_other _ _ _ _ (show (17 : Nat) ≠ 16 by decide)] at h; rw [upd_other _ _ _ _ (show (8 : Nat) ≠ 16 by decide)]; exact h1 h), Nat.le_trans hsz k.size, (fun h => by rw [upd_other _ _ _ _ (show (3 : Nat) ≠ 16 by decide)] at h ⊢; exact (g3 h).keep k), (fun h => by rw [upd_other _ _ _ _ (show (6 : Nat) ≠ 16 by decide)] at h ⊢; exact (g6 h).keep k), (fun h => by rw [upd_other _ _ _ _ (show (7 : Nat) ≠ 16 by decide)] at h ⊢; exact (g7 h).keep k), (fun h => by rw [upd_other _ _ _ _ (show (8 : Nat) ≠ 16 by decide)] at h ⊢; exact g8 h), (fun h => by rw [upd_other _ _ _ _ (show (12 : Nat) ≠ 16 by decide)] at h ⊢; exact (g12 h).keep k), (fun h => by rw [upd_other _ _ _ _ (show (15 : Nat) ≠ 16 by decide)] at h ⊢; exact (g15 h).keep k), (fun _ => by rw [upd_same]; exact pa), (fun h => by rw [upd_other _ _ _ _ (show (17 : Nat) ≠ 16 by decide)] at h ⊢; exact g17 h), (fun h => by rw [upd_other _ _ _ _ (show (18 : Nat) ≠ 16 by decide)] at h ⊢; exact (g18 h).keep k), (fun h => by rw [upd_other _ _ _ _ (show (19 : Nat) ≠ 16 by decide)] at h ⊢; exact (g19 h).keep k), (fun h h' => by rw [upd_other _ _ _ _ (show (18 : Nat) ≠ 16 by decide)] at h; rw [upd_other _ _ _ _ (show (19 : Nat) ≠ 16 by decide)] at h'; rw [upd_other _ _ _ _ (show (18 : Nat) ≠ 16 by decide), upd_other _ _ _ _ (show (19 : Nat) ≠ 16 by decide)]; exact hne h h')⟩
            · obtain rfl := op_is ho rfl
              have hb1 : L 8 = true := hd ⟨8, .chain⟩ (by simp) rfl
              rw [hL, hb1] at h0
              have h0 : Pk w3 p (mk T1 (macT a.key a.text)) [(q16, DI), (q15, DH)] [⟨X2, b.text.length + 16, cX2, YB⟩, ⟨X, a.text.length + 16, cX, YA⟩] F w' := h0
              have hLk : L 12 = true := hd ⟨12, .data⟩ (by simp) rfl
              obtain ⟨Ak, ck, hvk, hak⟩ := (g12 hLk).h
              have hLr : L 16 = true := hd ⟨16, .data⟩ (by simp) rfl
              obtain ⟨qr, Ar, cr, hvr, har⟩ := (g16 hLr).h
              have hxs : [a'.eval (.tmp 137), a'.eval (.tmp 140), a'.eval (.tmp 144)] = [(.pointer (some ⟨p, 0, none⟩) : Value), (.slice Ak (b.key).length ck : Value), (.slice (some ⟨qr, 0, none⟩) 1 1 : Value)] := by rw [show a'.eval (.tmp 137) = .pointer (some ⟨p, 0, none⟩) from (e0 137 (by kernel_rfl)).trans rfl, show a'.eval (.tmp 140) = .slice Ak (b.key).length ck from (ev 12 (by simp) hLk 140 rfl).trans hvk, show a'.eval (.tmp 144) = .slice (some ⟨qr, 0, none⟩) 1 1 from (ev 16 (by simp) hLr 144 rfl).trans hvr]
              refine step_callW rfl (exec_func 15 _ _ [.pointer (some ⟨p, 0, none⟩), .slice Ak (b.key).length ck, .slice (some ⟨qr, 0, none⟩) 1 1] rfl (by kernel_rfl) hxs) ?_
              have hcl := mac_i p F (mk T1 (macT a.key a.text)) Ak b.key.length ck b.key _ 1 1 _ w' h0.i hak har (by have := HTL1.out; have := mk_length_le T1 (macT a.key a.text); omega) (by have := HBGB.out; omega) (by rw [Sha.catP_one]; have := HBGB.out; show b.text.length ≤ _; omega)
              rw [Sha.catP_one] at hcl
              refine hcl.mono ?_
              rintro e w2 ⟨F2, rfl, hq⟩
              have hq : Iq w' F w2 p F2 (mk (mk T1 (macT a.key a.text)) (macT b.key b.text)) := hq
              exact ⟨_, rfl, hK'.out _ w2 ⟨F2, (by rw [upd_same]; exact h0.go hq), (fun h => by rw [upd_other _ _ _ _ (show (8 : Nat) ≠ 17 by decide)]; exact hb1), Nat.le_trans hsz hq.k.size, (fun h => by rw [upd_other _ _ _ _ (show (3 : Nat) ≠ 17 by decide)] at h ⊢; exact (g3 h).go hq), (fun h => by rw [upd_other _ _ _ _ (show (6 : Nat) ≠ 17 by decide)] at h ⊢; exact (g6 h).go hq), (fun h => by rw [upd_other _ _ _ _ (show (7 : Nat) ≠ 17 by decide)] at h ⊢; exact (g7 h).go hq), (fun h => by rw [upd_other _ _ _ _ (show (8 : Nat) ≠ 17 by decide)] at h ⊢; exact g8 h), (fun h => by rw [upd_other _ _ _ _ (show (12 : Nat) ≠ 17 by decide)] at h ⊢; exact (g12 h).go hq), (fun h => by rw [upd_other _ _ _ _ (show (15 : Nat) ≠ 17 by decide)] at h ⊢; exact (g15 h).go hq), (fun h => by rw [upd_other _ _ _ _ (show (16 : Nat) ≠ 17 by decide)] at h ⊢; exact (g16 h).go hq), (fun _ => by rw [upd_same]), (fun h => by rw [upd_other _ _ _ _ (show (18 : Nat) ≠ 17 by decide)] at h ⊢; exact (g18 h).go hq), (fun h => by rw [upd_other _ _ _ _ (show (19 : Nat) ≠ 17 by decide)] at h ⊢; exact (g19 h).go hq), (fun h h' => by rw [upd_other _ _ _ _ (show (18 : Nat) ≠ 17 by decide)] at h; rw [upd_other _ _ _ _ (show (19 : Nat) ≠ 17 by decide)] at h'; rw [upd_other _ _ _ _ (show (18 : Nat) ≠ 17 by decide), upd_other _ _ _ _ (show (19 : Nat) ≠ 17 by decide)]; exact hne h h')⟩⟩
            · obtain rfl := op_is ho rfl
              refine step_newF we.heap.size F h0.i.lt hsz rfl rfl ?_
              intro k pb
              exact hK'.out _ _ ⟨F, (by rw [upd_other _ _ _ _ (show (17 : Nat) ≠ 18 by decide), upd_other _ _ _ _ (show (8 : Nat) ≠ 18 by decide)]; exact h0.keep k), (fun h => by rw [upd_other _ _ _ _ (show (17 : Nat) ≠ 18 by decide)] at h; rw [upd_other _ _ _ _ (show (8 : Nat) ≠ 18 by decide)]; exact h1 h), Nat.le_trans hsz k.size, (fun h => by rw [upd_other _ _ _ _ (show (3 : Nat) ≠ 18 by decide)] at h ⊢; exact (g3 h).keep k), (fun h => by rw [upd_other _ _ _ _ (show (6 : Nat) ≠ 18 by decide)] at h ⊢; exact (g6 h).keep k), (fun h => by rw [upd_other _ _ _ _ (show (7 : Nat) ≠ 18 by decide)] at h ⊢; exact (g7 h).keep k), (fun h => by rw [upd_other _ _ _ _ (show (8 : Nat) ≠ 18 by decide)] at h ⊢; exact g8 h), (fun h => by rw [upd_other _ _ _ _ (show (12 : Nat) ≠ 18 by decide)] at h ⊢; exact (g12 h).keep k), (fun h => by rw [upd_other _ _ _ _ (show (15 : Nat) ≠ 18 by decide)] at h ⊢; exact (g15 h).keep k), (fun h => by rw [upd_other _ _ _ _ (show (16 : Nat) ≠ 18 by decide)] at h ⊢; exact (g16 h).keep k), (fun h => by rw [upd_other _ _ _ _ (show (17 : Nat) ≠ 18 by decide)] at h ⊢; exact g17 h), (fun _ => by rw [upd_same]; exact pb), (fun h => by rw [upd_other _ _ _ _ (show (19 : Nat) ≠ 18 by decide)] at h ⊢; exact (g19 h).keep k), (fun _ h => by rw [upd_same, upd_other _ _ _ _ (show (19 : Nat) ≠ 18 by decide)]; rw [upd_other _ _ _ _ (show (19 : Nat) ≠ 18 by decide)] at h; exact fun e => (g19 h).ne e.symm)⟩
            · obtain rfl := op_is ho rfl
              refine step_newF we.heap.size F h0.i.lt hsz rfl rfl ?_
              intro k pb
              exact hK'.out _ _ ⟨F, (by rw [upd_other _ _ _ _ (show (17 : Nat) ≠ 19 by decide), upd_other _ _ _ _ (show (8 : Nat) ≠ 19 by decide)]; exact h0.keep k), (fun h => by rw [upd_other _ _ _ _ (show (17 : Nat) ≠ 19 by decide)] at h; rw [upd_other _ _ _ _ (show (8 : Nat) ≠ 19 by decide)]; exact h1 h), Nat.le_trans hsz k.size, (fun h => by rw [upd_other _ _ _ _ (show (3 : Nat) ≠ 19 by decide)] at h ⊢; exact (g3 h).keep k), (fun h => by rw [upd_other _ _ _ _ (show (6 : Nat) ≠ 19 by decide)] at h ⊢; exact (g6 h).keep k), (fun h => by rw [upd_other _ _ _ _ (show (7 : Nat) ≠ 19 by decide)] at h ⊢; exact (g7 h).keep k), (fun h => by rw [upd_other _ _ _ _ (show (8 : Nat) ≠ 19 by decide)] at h ⊢; exact g8 h), (fun h => by rw [upd_other _ _ _ _ (show (12 : Nat) ≠ 19 by decide)] at h ⊢; exact (g12 h).keep k), (fun h => by rw [upd_other _ _ _ _ (show (15 : Nat) ≠ 19 by decide)] at h ⊢; exact (g15 h).keep k), (fun h => by rw [upd_other _ _ _ _ (show (16 : Nat) ≠ 19 by decide)] at h ⊢; exact (g16 h).keep k), (fun h => by rw [upd_other _ _ _ _ (show (17 : Nat) ≠ 19 by decide)] at h ⊢; exact g17 h), (fun h => by rw [upd_other _ _ _ _ (show (18 : Nat) ≠ 19 by decide)] at h ⊢; exact (g18 h).keep k), (fun _ => by rw [upd_same]; exact pb), (fun h _ => by rw [upd_same, upd_other _ _ _ _ (show (18 : Nat) ≠ 19 by decide)]; rw [upd_other _ _ _ _ (show (18 : Nat) ≠ 19 by decide)] at h; exact (g18 h).ne)⟩
          case fin =>
            intro vals L w19 hall hJ
            obtain ⟨F21, k0, _, _, _, _, _, vA, _, _, _, vB, nA, nB, hne⟩ := hJ
            rw [hall 8 (by simp), hall 17 (by simp)] at k0
            have vA := vA (hall 8 (by simp)); have vB := vB (hall 17 (by simp))
            obtain ⟨q17, hvA, hbA, hfA, hgA⟩ := (nA (hall 18 (by simp))).h
            obtain ⟨q18, hvB, hbB, hfB, hgB⟩ := (nB (hall 19 (by simp))).h
            have hne := hne (hall 18 (by simp)) (hall 19 (by simp))
            have hneq : q17 ≠ q18 := fun e => hne (by rw [hvA, hvB, e])
            obtain ⟨DM, hDA⟩ : ∃ DM, DM = out T1 (macT a.key a.text) 32 := ⟨_, rfl⟩
            obtain ⟨DN, hDB⟩ : ∃ DN, DN = out (mk T1 (macT a.key a.text)) (macT b.key b.text) 32 := ⟨_, rfl⟩
            rw [← hDA] at vA
            rw [← hDB] at vB
            have HDM : Hid (DM = out T1 (macT a.key a.text) 32 ∧ DM.length = 32) := Lib.hid ⟨hDA, by rw [hDA]; exact out_length _ _ _ (by omega)⟩
            have HDN : Hid (DN = out (mk T1 (macT a.key a.text)) (macT b.key b.text) 32 ∧ DN.length = 32) := Lib.hid ⟨hDB, by rw [hDB]; exact out_length _ _ _ (by omega)⟩
            clear hDA hDB
            simp only [putZ, vA, vB, hvA, hvB]
            clear vA vB nA nB hvA hvB hne hall
            simp only [Act.put, List.setIfInBounds_toArray, List.set_cons_zero, List.set_cons_succ]
            have RL : ∀ r ∈ ([⟨X2, b.text.length + 16, cX2, YB⟩, ⟨X, a.text.length + 16, cX, YA⟩] : List Pc), r.l = [] ∨ ∀ k, ab r.A = some k → k < we.heap.size := fun r hr => by
              by_cases e : r.l = []
              · exact .inl e
              · exact .inr (fun k e2 => (H19.out.r r hr).row.lt (by simpa [bvs] using e) k e2)
            have XL : ∀ x ∈ ([(q16, DI), (q15, DH)] : List (Nat × List UInt8)), x.1 < we.heap.size := fun x hx => (H19.out.x x hx).1.lt
            refine reg_store 20 none 41 (.tmp 17) (.tmp 136) rfl rfl rfl (by kernel_rfl) (by rfl) q17 41 _ (bvs DM) hbA rfl rfl (by rw [bvs_length, zc_length, HDM.out.2]) (by rw [bvs_length, HDM.out.2]; kernel_rfl) (bvs_one _) ?_
            intro w20 hB1 kk1 zz1
            have P1 := k0.store hfA (Nat.le_trans H19.out.k.size hgA) (fun x hx => by have := XL x hx; omega) (fun r hr => (RL r hr).imp id (fun h k e => by have := h k e; omega)) kk1 hB1
            refine ⟨P1.k, fun _ => ?_⟩
            simp only [Act.put, List.setIfInBounds_toArray, List.set_cons_zero, List.set_cons_succ]
            have hbB1 := hbB.keep kk1 (fun e => hneq (show q18 = q17 from e).symm)
            refine reg_store 21 none 41 (.tmp 18) (.tmp 145) rfl rfl rfl (by kernel_rfl) (by rfl) q18 41 _ (bvs DN) hbB1 rfl rfl (by rw [bvs_length, zc_length, HDN.out.2]) (by rw [bvs_length, HDN.out.2]; kernel_rfl) (bvs_one _) ?_
            intro w21 hB2 kk2 zz2
            have P2 := P1.store hfB (Nat.le_trans H19.out.k.size hgB) (fun x hx => by
              rcases List.mem_cons.1 hx with rfl | hx
              · exact hneq
              · have := XL x hx; omega) (fun r hr => (RL r hr).imp id (fun h k e => by have := h k e; omega)) kk2 hB2
            refine ⟨P2.k, fun _ => ?_⟩
            simp only [Act.put, List.setIfInBounds_toArray, List.set_cons_zero, List.set_cons_succ]
            have H21 := Lib.hid P2
            clear P1 P2 hB1 hB2 kk1 kk2 zz1 zz2 RL XL hbA hbB hbB1 hfA hfB hgA hgB hneq k0
            refine reg_end (by kernel_rfl) ?_
            have H21 : Hid (Pk w3 p (mk (mk T1 (macT a.key a.text)) (macT b.key b.text)) [(q18, DN), (q17, DM), (q16, DI), (q15, DH)] [⟨X2, b.text.length + 16, cX2, YB⟩, ⟨X, a.text.length + 16, cX, YA⟩] F21 w21) := Lib.hid H21.out
            obtain ⟨T2, hT2⟩ : ∃ T2, T2 = mk (mk T1 (macT a.key a.text)) (macT b.key b.text) := ⟨_, rfl⟩
            rw [← hT2] at H21
            have HTL2 := Lib.hid (show T2.length ≤ 94 by rw [hT2]; have := HTL1.out; have := mk_len2 T1 (macT a.key a.text) (macT b.key b.text); omega)
            clear hT2 H19 HS1
            have HC1 : Hid ((decide (YA = YB) == decide (SA = SB)) = true) := Lib.hid (by
              have h := out_same ts SA SB (a.text.length + 16) (b.text.length + 16) (by have := HTL.out; omega) (fun e => by
                rw [HSA.out, HSB.out] at e
                have := congrArg Thing.d e
                simp only [sealT] at this
                rw [this])
              rw [← HYA.out, ← HYB.out] at h
              rw [beq_iff_eq]; exact decide_eq_decide.2 h)
            have HC2 : Hid ((decide (DH = DI) == decide (a.text = b.text)) = true) := Lib.hid (by
              have h := out_same T0 (hashT a.text) (hashT b.text) 32 32 (by have := HTL0.out; omega) (fun _ => rfl)
              rw [← HDH.out.1, ← HDI.out.1] at h
              rw [beq_iff_eq]; exact decide_eq_decide.2 (h.trans ⟨fun e => congrArg Thing.a e, fun e => by rw [e]⟩))
            have HC3 : Hid (DM = DN ↔ (a.key = b.key ∧ a.text = b.text)) := Lib.hid (by
              have h := out_same T1 (macT a.key a.text) (macT b.key b.text) 32 32 (by have := HTL1.out; omega) (fun _ => rfl)
              rw [← HDM.out.1, ← HDN.out.1] at h
              exact h.trans ⟨fun e => ⟨congrArg Thing.a e, congrArg Thing.b e⟩, fun ⟨e1, e2⟩ => by rw [e1, e2]⟩)
            have HC4 : Hid ((!decide (DH = DM)) = true) := Lib.hid (by
              have h : DH ≠ DM := by rw [HDH.out.1, HDM.out.1]; exact out_kinds T0 T1 _ _ 32 32 (by have := HTL0.out; omega) (by have := HTL1.out; omega) (by simp [hashT, macT, derT])
              simp [h])
            have HC5 : Hid ((!decide (out T2 (derT a.key a.text) 32 = DM)) = true) := Lib.hid (by
              have h : out T2 (derT a.key a.text) 32 ≠ DM := by rw [HDM.out.1]; exact out_kinds T2 T1 _ _ 32 32 (by have := HTL2.out; omega) (by have := HTL1.out; omega) (by simp [hashT, macT, derT])
              simp [h])
            go_upto_region 17 with (fail)
            have H22 := Lib.hid (H21.out.keep (Kp.refl nob w21).drew)
            clear H21
            by_cases hkk : a.key = b.key
            · have HKK := Lib.hid hkk
              clear hkk
              have HS2 : Hid ((fun w' : World => Kp nob w3 w' ∧ Blk w' q15 41 (bvs DH) ∧ Blk w' q16 41 (bvs DI) ∧ Blk w' q17 41 (bvs DM) ∧ Blk w' q18 41 (bvs DN) ∧ Row w' X (bvs YA) ∧ Row w' X2 (bvs YB)) w21.drew) := Lib.hid ⟨H22.out.k, (H22.out.x (q15, DH) (by simp)).1, (H22.out.x (q16, DI) (by simp)).1, (H22.out.x (q17, DM) (by simp)).1, (H22.out.x (q18, DN) (by simp)).1, (H22.out.r ⟨X, a.text.length + 16, cX, YA⟩ (by simp)).row, (H22.out.r ⟨X2, b.text.length + 16, cX2, YB⟩ (by simp)).row⟩
              refine reg_begin (fun w' : World => Kp nob w3 w' ∧ Blk w' q15 41 (bvs DH) ∧ Blk w' q16 41 (bvs DI) ∧ Blk w' q17 41 (bvs DM) ∧ Blk w' q18 41 (bvs DN) ∧ Row w' X (bvs YA) ∧ Row w' X2 (bvs YB)) (by kernel_rfl) HS2.out (fun _ => ?_)
              generalize w21.drew = wf at *
              refine reg_take (v := .slice X (a.text.length + 16) cX) 0 (some 146) rfl rfl (by kernel_rfl) (by kernel_rfl) (by kernel_rfl) (by rfl) HS2.out (fun w hw => by go_simp) ?_
              simp only [Act.put, List.setIfInBounds_toArray, List.set_cons_zero, List.set_cons_succ]
              refine reg_bytesStr 1 (some 147) 34 9 5 (.tmp 146) rfl rfl rfl (by kernel_rfl) (by kernel_rfl) (by kernel_rfl) (by rfl) HS2.out u8i_under (by kernel_rfl) (by kernel_rfl) X (a.text.length + 16) cX YA HYAL.out rfl (fun _ x => x.2.2.2.2.2.1) ?_
              simp only [Act.put, List.setIfInBounds_toArray, List.set_cons_zero, List.set_cons_succ]
              refine reg_take (v := .slice X2 (b.text.length + 16) cX2) 2 (some 148) rfl rfl (by kernel_rfl) (by kernel_rfl) (by kernel_rfl) (by rfl) HS2.out (fun w hw => by go_simp) ?_
              simp only [Act.put, List.setIfInBounds_toArray, List.set_cons_zero, List.set_cons_succ]
              refine reg_bytesStr 3 (some 149) 34 9 5 (.tmp 148) rfl rfl rfl (by kernel_rfl) (by kernel_rfl) (by kernel_rfl) (by rfl) HS2.out u8i_under (by kernel_rfl) (by kernel_rfl) X2 (b.text.length + 16) cX2 YB HYBL.out rfl (fun _ x => x.2.2.2.2.2.2) ?_
              simp only [Act.put, List.setIfInBounds_toArray, List.set_cons_zero, List.set_cons_succ]
              refine reg_take (v := .bool (decide (YA = YB))) 4 (some 150) rfl rfl (by kernel_rfl) (by kernel_rfl) (by kernel_rfl) (by rfl) HS2.out (fun w' hw => by exact exec_eql 147 149 _ YA YB rfl rfl rfl) ?_
              simp only [Act.put, List.setIfInBounds_toArray, List.set_cons_zero, List.set_cons_succ]
              refine reg_take (v := .bool (decide (SA = SB))) 5 (some 151) rfl rfl (by kernel_rfl) (by kernel_rfl) (by kernel_rfl) (by rfl) HS2.out (fun w hw => by go_simp) ?_
              simp only [Act.put, List.setIfInBounds_toArray, List.set_cons_zero, List.set_cons_succ]
              refine reg_take (v := .bool true) 6 (some 152) rfl rfl (by kernel_rfl) (by kernel_rfl) (by kernel_rfl) (by rfl) HS2.out (fun w' hw => by exact (exec_eqb 150 151 _ (decide (YA = YB)) (decide (SA = SB)) rfl rfl rfl).trans (by rw [HC1.out])) ?_
              simp only [Act.put, List.setIfInBounds_toArray, List.set_cons_zero, List.set_cons_succ]
              refine reg_take (v := .bool true) 7 (some 153) rfl rfl (by kernel_rfl) (by kernel_rfl) (by kernel_rfl) (by rfl) HS2.out (fun w hw => by go_simp) ?_
              simp only [Act.put, List.setIfInBounds_toArray, List.set_cons_zero, List.set_cons_succ]
              refine reg_load 8 (some 154) 41 (.tmp 15) rfl rfl rfl (by kernel_rfl) (by kernel_rfl) (by kernel_rfl) (by rfl) HS2.out q15 0 rfl (bvs DH) _ (fun w' hw => hw.2.1.range) arr32_under rfl (by rw [bvs_length, HDH.out.2]; kernel_rfl) ?_
              simp only [Act.put, List.setIfInBounds_toArray, List.set_cons_zero, List.set_cons_succ]
              refine reg_load 9 (some 155) 41 (.tmp 16) rfl rfl rfl (by kernel_rfl) (by kernel_rfl) (by kernel_rfl) (by rfl) HS2.out q16 0 rfl (bvs DI) _ (fun w' hw => hw.2.2.1.range) arr32_under rfl (by rw [bvs_length, HDI.out.2]; kernel_rfl) ?_
              simp only [Act.put, List.setIfInBounds_toArray, List.set_cons_zero, List.set_cons_succ]
              refine reg_take (v := .bool (decide (DH = DI))) 10 (some 156) rfl rfl (by kernel_rfl) (by kernel_rfl) (by kernel_rfl) (by rfl) HS2.out (fun w' hw => by exact exec_eq32 154 155 _ DH DI HDH.out.2 HDI.out.2 rfl rfl rfl) ?_
              simp only [Act.put, List.setIfInBounds_toArray, List.set_cons_zero, List.set_cons_succ]
              refine reg_take (v := .pointer (some ⟨w.heap.size, 4, none⟩)) 11 (some 157) rfl rfl (by kernel_rfl) (by kernel_rfl) (by kernel_rfl) (by rfl) HS2.out (fun w' hw => by go_simp) ?_
              simp only [Act.put, List.setIfInBounds_toArray, List.set_cons_zero, List.set_cons_succ]
              refine reg_take (v := .string (str a.text)) 12 (some 158) rfl rfl (by kernel_rfl) (by kernel_rfl) (by kernel_rfl) (by rfl) HS2.out (fun w' hw => by have hc : w'.cell? ⟨w.heap.size, 4, none⟩ = some (.string (str a.text)) := ((HA.out w' hw.1).cell 4).trans rfl; go_simp) ?_
              simp only [Act.put, List.setIfInBounds_toArray, List.set_cons_zero, List.set_cons_succ]
              refine reg_take (v := .pointer (some ⟨w.heap.size + 1, 4, none⟩)) 13 (some 159) rfl rfl (by kernel_rfl) (by kernel_rfl) (by kernel_rfl) (by rfl) HS2.out (fun w' hw => by go_simp) ?_
              simp only [Act.put, List.setIfInBounds_toArray, List.set_cons_zero, List.set_cons_succ]
              refine reg_take (v := .string (str b.text)) 14 (some 160) rfl rfl (by kernel_rfl) (by kernel_rfl) (by kernel_rfl) (by rfl) HS2.out (fun w' hw => by have hc : w'.cell? ⟨w.heap.size + 1, 4, none⟩ = some (.string (str b.text)) := ((HB.out w' hw.1).cell 4).trans rfl; go_simp) ?_
              simp only [Act.put, List.setIfInBounds_toArray, List.set_cons_zero, List.set_cons_succ]
              refine reg_take (v := .bool (decide (a.text = b.text))) 15 (some 161) rfl rfl (by kernel_rfl) (by kernel_rfl) (by kernel_rfl) (by rfl) HS2.out (fun w' hw => by exact exec_eql 158 160 _ a.text b.text rfl rfl rfl) ?_
              simp only [Act.put, List.setIfInBounds_toArray, List.set_cons_zero, List.set_cons_succ]
              refine reg_take (v := .bool true) 16 (some 162) rfl rfl (by kernel_rfl) (by kernel_rfl) (by kernel_rfl) (by rfl) HS2.out (fun w' hw => by exact (exec_eqb 156 161 _ (decide (DH = DI)) (decide (a.text = b.text)) rfl rfl rfl).trans (by rw [HC2.out])) ?_
              simp only [Act.put, List.setIfInBounds_toArray, List.set_cons_zero, List.set_cons_succ]
              refine reg_take (v := .bool true) 17 (some 163) rfl rfl (by kernel_rfl) (by kernel_rfl) (by kernel_rfl) (by rfl) HS2.out (fun w hw => by go_simp) ?_
              simp only [Act.put, List.setIfInBounds_toArray, List.set_cons_zero, List.set_cons_succ]
              refine reg_take (v := .bool true) 18 (some 164) rfl rfl (by kernel_rfl) (by kernel_rfl) (by kernel_rfl) (by rfl) HS2.out (fun w hw => by go_simp) ?_
              simp only [Act.put, List.setIfInBounds_toArray, List.set_cons_zero, List.set_cons_succ]
              refine reg_load 19 (some 165) 41 (.tmp 17) rfl rfl rfl (by kernel_rfl) (by kernel_rfl) (by kernel_rfl) (by rfl) HS2.out q17 0 rfl (bvs DM) _ (fun w' hw => hw.2.2.2.1.range) arr32_under rfl (by rw [bvs_length, HDM.out.2]; kernel_rfl) ?_
              simp only [Act.put, List.setIfInBounds_toArray, List.set_cons_zero, List.set_cons_succ]
              refine reg_load 20 (some 166) 41 (.tmp 18) rfl rfl rfl (by kernel_rfl) (by kernel_rfl) (by kernel_rfl) (by rfl) HS2.out q18 0 rfl (bvs DN) _ (fun w' hw => hw.2.2.2.2.1.range) arr32_under rfl (by rw [bvs_length, HDN.out.2]; kernel_rfl) ?_
              simp only [Act.put, List.setIfInBounds_toArray, List.set_cons_zero, List.set_cons_succ]
              refine reg_take (v := .bool (decide (DM = DN))) 21 (some 167) rfl rfl (by kernel_rfl) (by kernel_rfl) (by kernel_rfl) (by rfl) HS2.out (fun w' hw => by exact exec_eq32 165 166 _ DM DN HDM.out.2 HDN.out.2 rfl rfl rfl) ?_
              simp only [Act.put, List.setIfInBounds_toArray, List.set_cons_zero, List.set_cons_succ]
              refine reg_take (v := .pointer (some ⟨w.heap.size, 1, none⟩)) 22 (some 168) rfl rfl (by kernel_rfl) (by kernel_rfl) (by kernel_rfl) (by rfl) HS2.out (fun w' hw => by go_simp) ?_
              simp only [Act.put, List.setIfInBounds_toArray, List.set_cons_zero, List.set_cons_succ]
              refine reg_take (v := .string (str a.key)) 23 (some 169) rfl rfl (by kernel_rfl) (by kernel_rfl) (by kernel_rfl) (by rfl) HS2.out (fun w' hw => by have hc : w'.cell? ⟨w.heap.size, 1, none⟩ = some (.string (str a.key)) := ((HA.out w' hw.1).cell 1).trans rfl; go_simp) ?_
              simp only [Act.put, List.setIfInBounds_toArray, List.set_cons_zero, List.set_cons_succ]
              refine reg_take (v := .pointer (some ⟨w.heap.size + 1, 1, none⟩)) 24 (some 170) rfl rfl (by kernel_rfl) (by kernel_rfl) (by kernel_rfl) (by rfl) HS2.out (fun w' hw => by go_simp) ?_
              simp only [Act.put, List.setIfInBounds_toArray, List.set_cons_zero, List.set_cons_succ]
              refine reg_take (v := .string (str b.key)) 25 (some 171) rfl rfl (by kernel_rfl) (by kernel_rfl) (by kernel_rfl) (by rfl) HS2.out (fun w' hw => by have hc : w'.cell? ⟨w.heap.size + 1, 1, none⟩ = some (.string (str b.key)) := ((HB.out w' hw.1).cell 1).trans rfl; go_simp) ?_
              simp only [Act.put, List.setIfInBounds_toArray, List.set_cons_zero, List.set_cons_succ]
              refine reg_take (v := .bool true) 26 (some 172) rfl rfl (by kernel_rfl) (by kernel_rfl) (by kernel_rfl) (by rfl) HS2.out (fun w' hw => by exact (exec_eql 169 171 _ a.key b.key rfl rfl rfl).trans (by rw [decide_eq_true HKK.out])) ?_
              simp only [Act.put, List.setIfInBounds_toArray, List.set_cons_zero, List.set_cons_succ]
              refine reg_take (v := .bool true) 27 (some 173) rfl rfl (by kernel_rfl) (by kernel_rfl) (by kernel_rfl) (by rfl) HS2.out (fun w hw => by go_simp) ?_
              simp only [Act.put, List.setIfInBounds_toArray, List.set_cons_zero, List.set_cons_succ]
              refine reg_take (v := .pointer (some ⟨w.heap.size, 4, none⟩)) 28 (some 174) rfl rfl (by kernel_rfl) (by kernel_rfl) (by kernel_rfl) (by rfl) HS2.out (fun w' hw => by go_simp) ?_
              simp only [Act.put, List.setIfInBounds_toArray, List.set_cons_zero, List.set_cons_succ]
              refine reg_take (v := .string (str a.text)) 29 (some 175) rfl rfl (by kernel_rfl) (by kernel_rfl) (by kernel_rfl) (by rfl) HS2.out (fun w' hw => by have hc : w'.cell? ⟨w.heap.size, 4, none⟩ = some (.string (str a.text)) := ((HA.out w' hw.1).cell 4).trans rfl; go_simp) ?_
              simp only [Act.put, List.setIfInBounds_toArray, List.set_cons_zero, List.set_cons_succ]
              refine reg_take (v := .pointer (some ⟨w.heap.size + 1, 4, none⟩)) 30 (some 176) rfl rfl (by kernel_rfl) (by kernel_rfl) (by kernel_rfl) (by rfl) HS2.out (fun w' hw => by go_simp) ?_
              simp only [Act.put, List.setIfInBounds_toArray, List.set_cons_zero, List.set_cons_succ]
              refine reg_take (v := .string (str b.text)) 31 (some 177) rfl rfl (by kernel_rfl) (by kernel_rfl) (by kernel_rfl) (by rfl) HS2.out (fun w' hw => by have hc : w'.cell? ⟨w.heap.size + 1, 4, none⟩ = some (.string (str b.text)) := ((HB.out w' hw.1).cell 4).trans rfl; go_simp) ?_
              simp only [Act.put, List.setIfInBounds_toArray, List.set_cons_zero, List.set_cons_succ]
              refine reg_take (v := .bool (decide (a.text = b.text))) 32 (some 178) rfl rfl (by kernel_rfl) (by kernel_rfl) (by kernel_rfl) (by rfl) HS2.out (fun w' hw => by exact exec_eql 175 177 _ a.text b.text rfl rfl rfl) ?_
              simp only [Act.put, List.setIfInBounds_toArray, List.set_cons_zero, List.set_cons_succ]
              refine reg_take (v := .bool (decide (a.text = b.text))) 33 (some 179) rfl rfl (by kernel_rfl) (by kernel_rfl) (by kernel_rfl) (by rfl) HS2.out (fun w hw => by go_simp) ?_
              simp only [Act.put, List.setIfInBounds_toArray, List.set_cons_zero, List.set_cons_succ]
              refine reg_take (v := .bool true) 34 (some 180) rfl rfl (by kernel_rfl) (by kernel_rfl) (by kernel_rfl) (by rfl) HS2.out (fun w' hw => by exact (exec_eqb 167 179 _ (decide (DM = DN)) (decide (a.text = b.text)) rfl rfl rfl).trans (by rw [show (decide (DM = DN) == decide (a.text = b.text)) = true from by rw [beq_iff_eq]; exact decide_eq_decide.2 (HC3.out.trans ⟨fun e => e.2, fun e => ⟨HKK.out, e⟩⟩)])) ?_
              simp only [Act.put, List.setIfInBounds_toArray, List.set_cons_zero, List.set_cons_succ]
              refine reg_take (v := .bool true) 35 (some 181) rfl rfl (by kernel_rfl) (by kernel_rfl) (by kernel_rfl) (by rfl) HS2.out (fun w hw => by go_simp) ?_
              simp only [Act.put, List.setIfInBounds_toArray, List.set_cons_zero, List.set_cons_succ]
              refine reg_take (v := .bool true) 36 (some 182) rfl rfl (by kernel_rfl) (by kernel_rfl) (by kernel_rfl) (by rfl) HS2.out (fun w hw => by go_simp) ?_
              simp only [Act.put, List.setIfInBounds_toArray, List.set_cons_zero, List.set_cons_succ]
              refine reg_load 37 (some 183) 41 (.tmp 15) rfl rfl rfl (by kernel_rfl) (by kernel_rfl) (by kernel_rfl) (by rfl) HS2.out q15 0 rfl (bvs DH) _ (fun w' hw => hw.2.1.range) arr32_under rfl (by rw [bvs_length, HDH.out.2]; kernel_rfl) ?_
              simp only [Act.put, List.setIfInBounds_toArray, List.set_cons_zero, List.set_cons_succ]
              refine reg_load 38 (some 184) 41 (.tmp 17) rfl rfl rfl (by kernel_rfl) (by kernel_rfl) (by kernel_rfl) (by rfl) HS2.out q17 0 rfl (bvs DM) _ (fun w' hw => hw.2.2.2.1.range) arr32_under rfl (by rw [bvs_length, HDM.out.2]; kernel_rfl) ?_
              simp only [Act.put, List.setIfInBounds_toArray, List.set_cons_zero, List.set_cons_succ]
              refine reg_take (v := .bool true) 39 (some 185) rfl rfl (by kernel_rfl) (by kernel_rfl) (by kernel_rfl) (by rfl) HS2.out (fun w' hw => by exact (exec_ne32 183 184 _ DH DM HDH.out.2 HDM.out.2 rfl rfl rfl).trans (by rw [HC4.out])) ?_
              simp only [Act.put, List.setIfInBounds_toArray, List.set_cons_zero, List.set_cons_succ]
              refine reg_take (v := .bool true) 40 (some 186) rfl rfl (by kernel_rfl) (by kernel_rfl) (by kernel_rfl) (by rfl) HS2.out (fun w hw => by go_simp) ?_
              simp only [Act.put, List.setIfInBounds_toArray, List.set_cons_zero, List.set_cons_succ]
              refine reg_take (v := .bool true) 41 (some 187) rfl rfl (by kernel_rfl) (by kernel_rfl) (by kernel_rfl) (by rfl) HS2.out (fun w hw => by go_simp) ?_
              simp only [Act.put, List.setIfInBounds_toArray, List.set_cons_zero, List.set_cons_succ]
              refine reg_take (v := .pointer (some ⟨p, 0, none⟩)) 42 (some 188) rfl rfl (by kernel_rfl) (by kernel_rfl) (by kernel_rfl) (by rfl) HS2.out (fun w hw => by go_simp) ?_
              simp only [Act.put, List.setIfInBounds_toArray, List.set_cons_zero, List.set_cons_succ]
              refine reg_take (v := .pointer (some ⟨w.heap.size, 1, none⟩)) 43 (some 189) rfl rfl (by kernel_rfl) (by kernel_rfl) (by kernel_rfl) (by rfl) HS2.out (fun w' hw => by go_simp) ?_
              simp only [Act.put, List.setIfInBounds_toArray, List.set_cons_zero, List.set_cons_succ]
              refine reg_take (v := .string (str a.key)) 44 (some 190) rfl rfl (by kernel_rfl) (by kernel_rfl) (by kernel_rfl) (by rfl) HS2.out (fun w' hw => by have hc : w'.cell? ⟨w.heap.size, 1, none⟩ = some (.string (str a.key)) := ((HA.out w' hw.1).cell 1).trans rfl; go_simp) ?_
              simp only [Act.put, List.setIfInBounds_toArray, List.set_cons_zero, List.set_cons_succ]
              refine reg_take (v := .pointer (some ⟨w.heap.size, 4, none⟩)) 46 (some 192) rfl rfl (by kernel_rfl) (by kernel_rfl) (by kernel_rfl) (by rfl) HS2.out (fun w' hw => by go_simp) ?_
              simp only [Act.put, List.setIfInBounds_toArray, List.set_cons_zero, List.set_cons_succ]
              refine reg_take (v := .string (str a.text)) 47 (some 193) rfl rfl (by kernel_rfl) (by kernel_rfl) (by kernel_rfl) (by rfl) HS2.out (fun w' hw => by have hc : w'.cell? ⟨w.heap.size, 4, none⟩ = some (.string (str a.text)) := ((HA.out w' hw.1).cell 4).trans rfl; go_simp) ?_
              simp only [Act.put, List.setIfInBounds_toArray, List.set_cons_zero, List.set_cons_succ]
              refine reg_load 51 (some 197) 41 (.tmp 17) rfl rfl rfl (by kernel_rfl) (by kernel_rfl) (by kernel_rfl) (by rfl) HS2.out q17 0 rfl (bvs DM) _ (fun w' hw => hw.2.2.2.1.range) arr32_under rfl (by rw [bvs_length, HDM.out.2]; kernel_rfl) ?_
              simp only [Act.put, List.setIfInBounds_toArray, List.set_cons_zero, List.set_cons_succ]
              refine reg_many2 [45, 48, 49] [(45, some 191), (48, some 194), (49, some 195)] _ _ _ _ 4 (fun (L : Nat → Bool) (vals : Nat → Value) (w' : World) => Pk w3 p T2 [(q18, DN), (q17, DM), (q16, DI), (q15, DH)] [⟨X2, b.text.length + 16, cX2, YB⟩, ⟨X, a.text.length + 16, cX, YA⟩] F21 w' ∧ (L 45 = true → PAF F21 (vals 45) w' a.key.length a.key) ∧ (L 48 = true → PAF F21 (vals 48) w' a.text.length a.text) ∧ (L 49 = true → PRF F21 (vals 49) w' a.text.length a.text)) 55 rfl rfl rfl (by kernel_rfl) (by kernel_rfl) (by kernel_rfl) (by kernel_rfl) rfl (fun L vals w' ⟨h, _⟩ => ⟨h.k, (h.x (q15, DH) (by simp)).1, (h.x (q16, DI) (by simp)).1, (h.x (q17, DM) (by simp)).1, (h.x (q18, DN) (by simp)).1, (h.r ⟨X, a.text.length + 16, cX, YA⟩ (by simp)).row, (h.r ⟨X2, b.text.length + 16, cX2, YB⟩ (by simp)).row⟩) ?h0 ?st ?fin
              case h0 => exact ⟨H22.out, (fun h => absurd h (by simp [lst])), (fun h => absurd h (by simp [lst])), (fun h => absurd h (by simp [lst]))⟩
              case st =>
                intro L vals w' a' i' o hi ho hL hd hJ ev e0 K' hK'
                obtain ⟨h0, g45, g48, g49⟩ := hJ
                simp only [List.mem_cons, List.not_mem_nil, or_false] at hi
                rcases hi with rfl | rfl | rfl
                · obtain rfl := op_is ho rfl
                  refine step_strF F21 h0.i.lt (.tmp 190) (wanted_of 41 187 rfl rfl ((e0 187 (by kernel_rfl)).trans rfl)) rfl a.key _ rfl (by have := HBGA.out; omega) ((e0 190 (by kernel_rfl)).trans rfl) ?_
                  intro v w2 k pa
                  exact hK'.out v w2 ⟨h0.keep k, (fun _ => by rw [upd_same]; exact pa), (fun h => by rw [upd_other _ _ _ _ (show (48 : Nat) ≠ 45 by decide)] at h ⊢; exact (g48 h).keep k), (fun h => by rw [upd_other _ _ _ _ (show (49 : Nat) ≠ 45 by decide)] at h ⊢; exact (g49 h).keep k)⟩
                · obtain rfl := op_is ho rfl
                  refine step_strF F21 h0.i.lt (.tmp 193) (wanted_of 41 187 rfl rfl ((e0 187 (by kernel_rfl)).trans rfl)) rfl a.text _ rfl (by have := HBGA.out; omega) ((e0 193 (by kernel_rfl)).trans rfl) ?_
                  intro v w2 k pa
                  exact hK'.out v w2 ⟨h0.keep k, (fun h => by rw [upd_other _ _ _ _ (show (45 : Nat) ≠ 48 by decide)] at h ⊢; exact (g45 h).keep k), (fun _ => by rw [upd_same]; exact pa), (fun h => by rw [upd_other _ _ _ _ (show (49 : Nat) ≠ 48 by decide)] at h ⊢; exact (g49 h).keep k)⟩
                · obtain rfl := op_is ho rfl
                  have hL48 : L 48 = true := hd ⟨48, .data⟩ (by simp) rfl
                  refine step_rowF F21 h0.i.lt (.tmp 194) (wanted_of 41 187 rfl rfl ((e0 187 (by kernel_rfl)).trans rfl)) rfl a.text _ (vals 48) (ev 48 (by simp) hL48 194 rfl) (g48 hL48) ?_
                  intro v w2 k pa
                  exact hK'.out v w2 ⟨h0.keep k, (fun h => by rw [upd_other _ _ _ _ (show (45 : Nat) ≠ 49 by decide)] at h ⊢; exact (g45 h).keep k), (fun h => by rw [upd_other _ _ _ _ (show (48 : Nat) ≠ 49 by decide)] at h ⊢; exact (g48 h).keep k), (fun _ => by rw [upd_same]; exact pa)⟩
              case fin =>
                intro vals L w22 hall hJ
                obtain ⟨k0, g45, _, g49⟩ := hJ
                obtain ⟨Ak, ck, hvk, hak⟩ := (g45 (hall 45 (by simp))).h
                obtain ⟨qr, Ar, cr, hvr, har⟩ := (g49 (hall 49 (by simp))).h
                simp only [putZ, hvk, hvr]
                generalize vals 48 = v48
                clear g45 g49 hvk hvr hall
                simp only [Act.put, List.setIfInBounds_toArray, List.set_cons_zero, List.set_cons_succ]
                have hcl := derive_i p F21 T2 Ak a.key.length ck a.key _ 1 1 _ w22 k0.i hak har (by have := HTL2.out; omega) (by have := HBGA.out; omega) (by rw [Sha.catP_one]; have := HBGA.out; show a.text.length ≤ _; omega)
                rw [Sha.catP_one] at hcl
                refine reg_call 50 (some 196) rfl rfl (by kernel_rfl) (by rfl) _ _ (exec_func 18 _ _ [.pointer (some ⟨p, 0, none⟩), .slice Ak a.key.length ck, .slice (some ⟨qr, 0, none⟩) 1 1] rfl (by kernel_rfl) rfl) ?_
                refine hcl.mono ?_
                rintro e w23 ⟨F23, rfl, hq⟩
                have hq : Iq w22 F21 w23 p F23 (mk T2 (derT a.key a.text)) := hq
                have H23 := Lib.hid (k0.go hq)
                have HS3 : Hid ((fun w' : World => Kp nob w3 w' ∧ Blk w' q15 41 (bvs DH) ∧ Blk w' q16 41 (bvs DI) ∧ Blk w' q17 41 (bvs DM) ∧ Blk w' q18 41 (bvs DN) ∧ Row w' X (bvs YA) ∧ Row w' X2 (bvs YB)) w23) := Lib.hid ⟨H23.out.k, (H23.out.x (q15, DH) (by simp)).1, (H23.out.x (q16, DI) (by simp)).1, (H23.out.x (q17, DM) (by simp)).1, (H23.out.x (q18, DN) (by simp)).1, (H23.out.r ⟨X, a.text.length + 16, cX, YA⟩ (by simp)).row, (H23.out.r ⟨X2, b.text.length + 16, cX2, YB⟩ (by simp)).row⟩
                obtain ⟨DD, hDD⟩ : ∃ DD, DD = out T2 (derT a.key a.text) 32 := ⟨_, rfl⟩
                have HDD := Lib.hid (show DD.length = 32 by rw [hDD]; exact out_length _ _ _ (by omega))
                have HC6 : Hid ((!decide (DD = DM)) = true) := Lib.hid (by rw [hDD]; exact HC5.out)
                have hv : Ending.returned (Value.agg (bvs (out T2 (derT a.key a.text) 32)).toArray) = .returned (.agg (bvs DD).toArray) := by rw [hDD]
                refine ⟨.agg (bvs DD).toArray, hv, HS3.out, fun _ => ?_⟩
                simp only [Act.put, List.setIfInBounds_toArray, List.set_cons_zero, List.set_cons_succ]
                refine reg_take (v := .bool true) 52 (some 198) rfl rfl (by kernel_rfl) (by kernel_rfl) (by kernel_rfl) (by rfl) HS3.out (fun w' hw => by exact (exec_ne32 196 197 _ DD DM HDD.out HDM.out.2 rfl rfl rfl).trans (by rw [HC6.out])) ?_
                simp only [Act.put, List.setIfInBounds_toArray, List.set_cons_zero, List.set_cons_succ]
                refine reg_take (v := .bool true) 53 (some 199) rfl rfl (by kernel_rfl) (by kernel_rfl) (by kernel_rfl) (by rfl) HS3.out (fun w hw => by go_simp) ?_
                simp only [Act.put, List.setIfInBounds_toArray, List.set_cons_zero, List.set_cons_succ]
                refine reg_take (v := .bool true) 54 (some 6) rfl rfl (by kernel_rfl) (by kernel_rfl) (by kernel_rfl) (by rfl) HS3.out (fun w hw => by go_simp) ?_
                simp only [Act.put, List.setIfInBounds_toArray, List.set_cons_zero, List.set_cons_succ]
                refine reg_end (by kernel_rfl) ?_
                go_wp2
                go_ret
                exact ⟨rfl, HK3.out.trans H23.out.k (fun _ e => e.elim)⟩
            · have HKK := Lib.hid hkk
              clear hkk
              have HS2 : Hid ((fun w' : World => Kp nob w3 w' ∧ Blk w' q15 41 (bvs DH) ∧ Blk w' q16 41 (bvs DI) ∧ Blk w' q17 41 (bvs DM) ∧ Blk w' q18 41 (bvs DN) ∧ Row w' X (bvs YA) ∧ Row w' X2 (bvs YB)) w21.drew) := Lib.hid ⟨H22.out.k, (H22.out.x (q15, DH) (by simp)).1, (H22.out.x (q16, DI) (by simp)).1, (H22.out.x (q17, DM) (by simp)).1, (H22.out.x (q18, DN) (by simp)).1, (H22.out.r ⟨X, a.text.length + 16, cX, YA⟩ (by simp)).row, (H22.out.r ⟨X2, b.text.length + 16, cX2, YB⟩ (by simp)).row⟩
              refine reg_begin (fun w' : World => Kp nob w3 w' ∧ Blk w' q15 41 (bvs DH) ∧ Blk w' q16 41 (bvs DI) ∧ Blk w' q17 41 (bvs DM) ∧ Blk w' q18 41 (bvs DN) ∧ Row w' X (bvs YA) ∧ Row w' X2 (bvs YB)) (by kernel_rfl) HS2.out (fun _ => ?_)
              generalize w21.drew = wf at *
              refine reg_take (v := .slice X (a.text.length + 16) cX) 0 (some 146) rfl rfl (by kernel_rfl) (by kernel_rfl) (by kernel_rfl) (by rfl) HS2.out (fun w hw => by go_simp) ?_
              simp only [Act.put, List.setIfInBounds_toArray, List.set_cons_zero, List.set_cons_succ]
              refine reg_bytesStr 1 (some 147) 34 9 5 (.tmp 146) rfl rfl rfl (by kernel_rfl) (by kernel_rfl) (by kernel_rfl) (by rfl) HS2.out u8i_under (by kernel_rfl) (by kernel_rfl) X (a.text.length + 16) cX YA HYAL.out rfl (fun _ x => x.2.2.2.2.2.1) ?_
              simp only [Act.put, List.setIfInBounds_toArray, List.set_cons_zero, List.set_cons_succ]
              refine reg_take (v := .slice X2 (b.text.length + 16) cX2) 2 (some 148) rfl rfl (by kernel_rfl) (by kernel_rfl) (by kernel_rfl) (by rfl) HS2.out (fun w hw => by go_simp) ?_
              simp only [Act.put, List.setIfInBounds_toArray, List.set_cons_zero, List.set_cons_succ]
              refine reg_bytesStr 3 (some 149) 34 9 5 (.tmp 148) rfl rfl rfl (by kernel_rfl) (by kernel_rfl) (by kernel_rfl) (by rfl) HS2.out u8i_under (by kernel_rfl) (by kernel_rfl) X2 (b.text.length + 16) cX2 YB HYBL.out rfl (fun _ x => x.2.2.2.2.2.2) ?_
              simp only [Act.put, List.setIfInBounds_toArray, List.set_cons_zero, List.set_cons_succ]
              refine reg_take (v := .bool (decide (YA = YB))) 4 (some 150) rfl rfl (by kernel_rfl) (by kernel_rfl) (by kernel_rfl) (by rfl) HS2.out (fun w' hw => by exact exec_eql 147 149 _ YA YB rfl rfl rfl) ?_
              simp only [Act.put, List.setIfInBounds_toArray, List.set_cons_zero, List.set_cons_succ]
              refine reg_take (v := .bool (decide (SA = SB))) 5 (some 151) rfl rfl (by kernel_rfl) (by kernel_rfl) (by kernel_rfl) (by rfl) HS2.out (fun w hw => by go_simp) ?_
              simp only [Act.put, List.setIfInBounds_toArray, List.set_cons_zero, List.set_cons_succ]
              refine reg_take (v := .bool true) 6 (some 152) rfl rfl (by kernel_rfl) (by kernel_rfl) (by kernel_rfl) (by rfl) HS2.out (fun w' hw => by exact (exec_eqb 150 151 _ (decide (YA = YB)) (decide (SA = SB)) rfl rfl rfl).trans (by rw [HC1.out])) ?_
              simp only [Act.put, List.setIfInBounds_toArray, List.set_cons_zero, List.set_cons_succ]
              refine reg_take (v := .bool true) 7 (some 153) rfl rfl (by kernel_rfl) (by kernel_rfl) (by kernel_rfl) (by rfl) HS2.out (fun w hw => by go_simp) ?_
              simp only [Act.put, List.setIfInBounds_toArray, List.set_cons_zero, List.set_cons_succ]
              refine reg_load 8 (some 154) 41 (.tmp 15) rfl rfl rfl (by kernel_rfl) (by kernel_rfl) (by kernel_rfl) (by rfl) HS2.out q15 0 rfl (bvs DH) _ (fun w' hw => hw.2.1.range) arr32_under rfl (by rw [bvs_length, HDH.out.2]; kernel_rfl) ?_
              simp only [Act.put, List.setIfInBounds_toArray, List.set_cons_zero, List.set_cons_succ]
              refine reg_load 9 (some 155) 41 (.tmp 16) rfl rfl rfl (by kernel_rfl) (by kernel_rfl) (by kernel_rfl) (by rfl) HS2.out q16 0 rfl (bvs DI) _ (fun w' hw => hw.2.2.1.range) arr32_under rfl (by rw [bvs_length, HDI.out.2]; kernel_rfl) ?_
              simp only [Act.put, List.setIfInBounds_toArray, List.set_cons_zero, List.set_cons_succ]
              refine reg_take (v := .bool (decide (DH = DI))) 10 (some 156) rfl rfl (by kernel_rfl) (by kernel_rfl) (by kernel_rfl) (by rfl) HS2.out (fun w' hw => by exact exec_eq32 154 155 _ DH DI HDH.out.2 HDI.out.2 rfl rfl rfl) ?_
              simp only [Act.put, List.setIfInBounds_toArray, List.set_cons_zero, List.set_cons_succ]
              refine reg_take (v := .pointer (some ⟨w.heap.size, 4, none⟩)) 11 (some 157) rfl rfl (by kernel_rfl) (by kernel_rfl) (by kernel_rfl) (by rfl) HS2.out (fun w' hw => by go_simp) ?_
              simp only [Act.put, List.setIfInBounds_toArray, List.set_cons_zero, List.set_cons_succ]
              refine reg_take (v := .string (str a.text)) 12 (some 158) rfl rfl (by kernel_rfl) (by kernel_rfl) (by kernel_rfl) (by rfl) HS2.out (fun w' hw => by have hc : w'.cell? ⟨w.heap.size, 4, none⟩ = some (.string (str a.text)) := ((HA.out w' hw.1).cell 4).trans rfl; go_simp) ?_
              simp only [Act.put, List.setIfInBounds_toArray, List.set_cons_zero, List.set_cons_succ]
              refine reg_take (v := .pointer (some ⟨w.heap.size + 1, 4, none⟩)) 13 (some 159) rfl rfl (by kernel_rfl) (by kernel_rfl) (by kernel_rfl) (by rfl) HS2.out (fun w' hw => by go_simp) ?_
              simp only [Act.put, List.setIfInBounds_toArray, List.set_cons_zero, List.set_cons_succ]
              refine reg_take (v := .string (str b.text)) 14 (some 160) rfl rfl (by kernel_rfl) (by kernel_rfl) (by kernel_rfl) (by rfl) HS2.out (fun w' hw => by have hc : w'.cell? ⟨w.heap.size + 1, 4, none⟩ = some (.string (str b.text)) := ((HB.out w' hw.1).cell 4).trans rfl; go_simp) ?_
              simp only [Act.put, List.setIfInBounds_toArray, List.set_cons_zero, List.set_cons_succ]
              refine reg_take (v := .bool (decide (a.text = b.text))) 15 (some 161) rfl rfl (by kernel_rfl) (by kernel_rfl) (by kernel_rfl) (by rfl) HS2.out (fun w' hw => by exact exec_eql 158 160 _ a.text b.text rfl rfl rfl) ?_
              simp only [Act.put, List.setIfInBounds_toArray, List.set_cons_zero, List.set_cons_succ]
              refine reg_take (v := .bool true) 16 (some 162) rfl rfl (by kernel_rfl) (by kernel_rfl) (by kernel_rfl) (by rfl) HS2.out (fun w' hw => by exact (exec_eqb 156 161 _ (decide (DH = DI)) (decide (a.text = b.text)) rfl rfl rfl).trans (by rw [HC2.out])) ?_
              simp only [Act.put, List.setIfInBounds_toArray, List.set_cons_zero, List.set_cons_succ]
              refine reg_take (v := .bool true) 17 (some 163) rfl rfl (by kernel_rfl) (by kernel_rfl) (by kernel_rfl) (by rfl) HS2.out (fun w hw => by go_simp) ?_
              simp only [Act.put, List.setIfInBounds_toArray, List.set_cons_zero, List.set_cons_succ]
              refine reg_take (v := .bool true) 18 (some 164) rfl rfl (by kernel_rfl) (by kernel_rfl) (by kernel_rfl) (by rfl) HS2.out (fun w hw => by go_simp) ?_
              simp only [Act.put, List.setIfInBounds_toArray, List.set_cons_zero, List.set_cons_succ]
              refine reg_load 19 (some 165) 41 (.tmp 17) rfl rfl rfl (by kernel_rfl) (by kernel_rfl) (by kernel_rfl) (by rfl) HS2.out q17 0 rfl (bvs DM) _ (fun w' hw => hw.2.2.2.1.range) arr32_under rfl (by rw [bvs_length, HDM.out.2]; kernel_rfl) ?_
              simp only [Act.put, List.setIfInBounds_toArray, List.set_cons_zero, List.set_cons_succ]
              refine reg_load 20 (some 166) 41 (.tmp 18) rfl rfl rfl (by kernel_rfl) (by kernel_rfl) (by kernel_rfl) (by rfl) HS2.out q18 0 rfl (bvs DN) _ (fun w' hw => hw.2.2.2.2.1.range) arr32_under rfl (by rw [bvs_length, HDN.out.2]; kernel_rfl) ?_
              simp only [Act.put, List.setIfInBounds_toArray, List.set_cons_zero, List.set_cons_succ]
              refine reg_take (v := .bool (decide (DM = DN))) 21 (some 167) rfl rfl (by kernel_rfl) (by kernel_rfl) (by kernel_rfl) (by rfl) HS2.out (fun w' hw => by exact exec_eq32 165 166 _ DM DN HDM.out.2 HDN.out.2 rfl rfl rfl) ?_
              simp only [Act.put, List.setIfInBounds_toArray, List.set_cons_zero, List.set_cons_succ]
              refine reg_take (v := .pointer (some ⟨w.heap.size, 1, none⟩)) 22 (some 168) rfl rfl (by kernel_rfl) (by kernel_rfl) (by kernel_rfl) (by rfl) HS2.out (fun w' hw => by go_simp) ?_
              simp only [Act.put, List.setIfInBounds_toArray, List.set_cons_zero, List.set_cons_succ]
              refine reg_take (v := .string (str a.key)) 23 (some 169) rfl rfl (by kernel_rfl) (by kernel_rfl) (by kernel_rfl) (by rfl) HS2.out (fun w' hw => by have hc : w'.cell? ⟨w.heap.size, 1, none⟩ = some (.string (str a.key)) := ((HA.out w' hw.1).cell 1).trans rfl; go_simp) ?_
              simp only [Act.put, List.setIfInBounds_toArray, List.set_cons_zero, List.set_cons_succ]
              refine reg_take (v := .pointer (some ⟨w.heap.size + 1, 1, none⟩)) 24 (some 170) rfl rfl (by kernel_rfl) (by kernel_rfl) (by kernel_rfl) (by rfl) HS2.out (fun w' hw => by go_simp) ?_
              simp only [Act.put, List.setIfInBounds_toArray, List.set_cons_zero, List.set_cons_succ]
              refine reg_take (v := .string (str b.key)) 25 (some 171) rfl rfl (by kernel_rfl) (by kernel_rfl) (by kernel_rfl) (by rfl) HS2.out (fun w' hw => by have hc : w'.cell? ⟨w.heap.size + 1, 1, none⟩ = some (.string (str b.key)) := ((HB.out w' hw.1).cell 1).trans rfl; go_simp) ?_
              simp only [Act.put, List.setIfInBounds_toArray, List.set_cons_zero, List.set_cons_succ]
              refine reg_take (v := .bool false) 26 (some 172) rfl rfl (by kernel_rfl) (by kernel_rfl) (by kernel_rfl) (by rfl) HS2.out (fun w' hw => by exact (exec_eql 169 171 _ a.key b.key rfl rfl rfl).trans (by rw [decide_eq_false HKK.out])) ?_
              simp only [Act.put, List.setIfInBounds_toArray, List.set_cons_zero, List.set_cons_succ]
              refine reg_take (v := .bool false) 27 (some 173) rfl rfl (by kernel_rfl) (by kernel_rfl) (by kernel_rfl) (by rfl) HS2.out (fun w hw => by go_simp) ?_
              simp only [Act.put, List.setIfInBounds_toArray, List.set_cons_zero, List.set_cons_succ]
              refine reg_skip 28 (some 174) rfl rfl (by kernel_rfl) (by kernel_rfl) (by kernel_rfl) (by rfl) HS2.out ?_
              simp only [Act.put, List.setIfInBounds_toArray, List.set_cons_zero, List.set_cons_succ]
              refine reg_skip 29 (some 175) rfl rfl (by kernel_rfl) (by kernel_rfl) (by kernel_rfl) (by rfl) HS2.out ?_
              simp only [Act.put, List.setIfInBounds_toArray, List.set_cons_zero, List.set_cons_succ]
              refine reg_skip 30 (some 176) rfl rfl (by kernel_rfl) (by kernel_rfl) (by kernel_rfl) (by rfl) HS2.out ?_
              simp only [Act.put, List.setIfInBounds_toArray, List.set_cons_zero, List.set_cons_succ]
              refine reg_skip 31 (some 177) rfl rfl (by kernel_rfl) (by kernel_rfl) (by kernel_rfl) (by rfl) HS2.out ?_
              simp only [Act.put, List.setIfInBounds_toArray, List.set_cons_zero, List.set_cons_succ]
              refine reg_skip 32 (some 178) rfl rfl (by kernel_rfl) (by kernel_rfl) (by kernel_rfl) (by rfl) HS2.out ?_
              simp only [Act.put, List.setIfInBounds_toArray, List.set_cons_zero, List.set_cons_succ]
              refine reg_take (v := .bool false) 33 (some 179) rfl rfl (by kernel_rfl) (by kernel_rfl) (by kernel_rfl) (by rfl) HS2.out (fun w hw => by go_simp) ?_
              simp only [Act.put, List.setIfInBounds_toArray, List.set_cons_zero, List.set_cons_succ]
              refine reg_take (v := .bool true) 34 (some 180) rfl rfl (by kernel_rfl) (by kernel_rfl) (by kernel_rfl) (by rfl) HS2.out (fun w' hw => by exact (exec_eqb 167 179 _ (decide (DM = DN)) false rfl rfl rfl).trans (by rw [decide_eq_false (fun e => HKK.out (HC3.out.1 e).1)]; rfl)) ?_
              simp only [Act.put, List.setIfInBounds_toArray, List.set_cons_zero, List.set_cons_succ]
              refine reg_take (v := .bool true) 35 (some 181) rfl rfl (by kernel_rfl) (by kernel_rfl) (by kernel_rfl) (by rfl) HS2.out (fun w hw => by go_simp) ?_
              simp only [Act.put, List.setIfInBounds_toArray, List.set_cons_zero, List.set_cons_succ]
              refine reg_take (v := .bool true) 36 (some 182) rfl rfl (by kernel_rfl) (by kernel_rfl) (by kernel_rfl) (by rfl) HS2.out (fun w hw => by go_simp) ?_
              simp only [Act.put, List.setIfInBounds_toArray, List.set_cons_zero, List.set_cons_succ]
              refine reg_load 37 (some 183) 41 (.tmp 15) rfl rfl rfl (by kernel_rfl) (by kernel_rfl) (by kernel_rfl) (by rfl) HS2.out q15 0 rfl (bvs DH) _ (fun w' hw => hw.2.1.range) arr32_under rfl (by rw [bvs_length, HDH.out.2]; kernel_rfl) ?_
              simp only [Act.put, List.setIfInBounds_toArray, List.set_cons_zero, List.set_cons_succ]
              refine reg_load 38 (some 184) 41 (.tmp 17) rfl rfl rfl (by kernel_rfl) (by kernel_rfl) (by kernel_rfl) (by rfl) HS2.out q17 0 rfl (bvs DM) _ (fun w' hw => hw.2.2.2.1.range) arr32_under rfl (by rw [bvs_length, HDM.out.2]; kernel_rfl) ?_
              simp only [Act.put, List.setIfInBounds_toArray, List.set_cons_zero, List.set_cons_succ]
              refine reg_take (v := .bool true) 39 (some 185) rfl rfl (by kernel_rfl) (by kernel_rfl) (by kernel_rfl) (by rfl) HS2.out (fun w' hw => by exact (exec_ne32 183 184 _ DH DM HDH.out.2 HDM.out.2 rfl rfl rfl).trans (by rw [HC4.out])) ?_
              simp only [Act.put, List.setIfInBounds_toArray, List.set_cons_zero, List.set_cons_succ]
              refine reg_take (v := .bool true) 40 (some 186) rfl rfl (by kernel_rfl) (by kernel_rfl) (by kernel_rfl) (by rfl) HS2.out (fun w hw => by go_simp) ?_
              simp only [Act.put, List.setIfInBounds_toArray, List.set_cons_zero, List.set_cons_succ]
              refine reg_take (v := .bool true) 41 (some 187) rfl rfl (by kernel_rfl) (by kernel_rfl) (by kernel_rfl) (by rfl) HS2.out (fun w hw => by go_simp) ?_
              simp only [Act.put, List.setIfInBounds_toArray, List.set_cons_zero, List.set_cons_succ]
              refine reg_take (v := .pointer (some ⟨p, 0, none⟩)) 42 (some 188) rfl rfl (by kernel_rfl) (by kernel_rfl) (by kernel_rfl) (by rfl) HS2.out (fun w hw => by go_simp) ?_
              simp only [Act.put, List.setIfInBounds_toArray, List.set_cons_zero, List.set_cons_succ]
              refine reg_take (v := .pointer (some ⟨w.heap.size, 1, none⟩)) 43 (some 189) rfl rfl (by kernel_rfl) (by kernel_rfl) (by kernel_rfl) (by rfl) HS2.out (fun w' hw => by go_simp) ?_
              simp only [Act.put, List.setIfInBounds_toArray, List.set_cons_zero, List.set_cons_succ]
              refine reg_take (v := .string (str a.key)) 44 (some 190) rfl rfl (by kernel_rfl) (by kernel_rfl) (by kernel_rfl) (by rfl) HS2.out (fun w' hw => by have hc : w'.cell? ⟨w.heap.size, 1, none⟩ = some (.string (str a.key)) := ((HA.out w' hw.1).cell 1).trans rfl; go_simp) ?_
              simp only [Act.put, List.setIfInBounds_toArray, List.set_cons_zero, List.set_cons_succ]
              refine reg_take (v := .pointer (some ⟨w.heap.size, 4, none⟩)) 46 (some 192) rfl rfl (by kernel_rfl) (by kernel_rfl) (by kernel_rfl) (by rfl) HS2.out (fun w' hw => by go_simp) ?_
              simp only [Act.put, List.setIfInBounds_toArray, List.set_cons_zero, List.set_cons_succ]
              refine reg_take (v := .string (str a.text)) 47 (some 193) rfl rfl (by kernel_rfl) (by kernel_rfl) (by kernel_rfl) (by rfl) HS2.out (fun w' hw => by have hc : w'.cell? ⟨w.heap.size, 4, none⟩ = some (.string (str a.text)) := ((HA.out w' hw.1).cell 4).trans rfl; go_simp) ?_
              simp only [Act.put, List.setIfInBounds_toArray, List.set_cons_zero, List.set_cons_succ]
              refine reg_load 51 (some 197) 41 (.tmp 17) rfl rfl rfl (by kernel_rfl) (by kernel_rfl) (by kernel_rfl) (by rfl) HS2.out q17 0 rfl (bvs DM) _ (fun w' hw => hw.2.2.2.1.range) arr32_under rfl (by rw [bvs_length, HDM.out.2]; kernel_rfl) ?_
              simp only [Act.put, List.setIfInBounds_toArray, List.set_cons_zero, List.set_cons_succ]
              refine reg_many2 [45, 48, 49] [(45, some 191), (48, some 194), (49, some 195)] _ _ _ _ 4 (fun (L : Nat → Bool) (vals : Nat → Value) (w' : World) => Pk w3 p T2 [(q18, DN), (q17, DM), (q16, DI), (q15, DH)] [⟨X2, b.text.length + 16, cX2, YB⟩, ⟨X, a.text.length + 16, cX, YA⟩] F21 w' ∧ (L 45 = true → PAF F21 (vals 45) w' a.key.length a.key) ∧ (L 48 = true → PAF F21 (vals 48) w' a.text.length a.text) ∧ (L 49 = true → PRF F21 (vals 49) w' a.text.length a.text)) 55 rfl rfl rfl (by kernel_rfl) (by kernel_rfl) (by kernel_rfl) (by kernel_rfl) rfl (fun L vals w' ⟨h, _⟩ => ⟨h.k, (h.x (q15, DH) (by simp)).1, (h.x (q16, DI) (by simp)).1, (h.x (q17, DM) (by simp)).1, (h.x (q18, DN) (by simp)).1, (h.r ⟨X, a.text.length + 16, cX, YA⟩ (by simp)).row, (h.r ⟨X2, b.text.length + 16, cX2, YB⟩ (by simp)).row⟩) ?h0 ?st ?fin
              case h0 => exact ⟨H22.out, (fun h => absurd h (by simp [lst])), (fun h => absurd h (by simp [lst])), (fun h => absurd h (by simp [lst]))⟩
              case st =>
                intro L vals w' a' i' o hi ho hL hd hJ ev e0 K' hK'
                obtain ⟨h0, g45, g48, g49⟩ := hJ
                simp only [List.mem_cons, List.not_mem_nil, or_false] at hi
                rcases hi with rfl | rfl | rfl
                · obtain rfl := op_is ho rfl
                  refine step_strF F21 h0.i.lt (.tmp 190) (wanted_of 41 187 rfl rfl ((e0 187 (by kernel_rfl)).trans rfl)) rfl a.key _ rfl (by have := HBGA.out; omega) ((e0 190 (by kernel_rfl)).trans rfl) ?_
                  intro v w2 k pa
                  exact hK'.out v w2 ⟨h0.keep k, (fun _ => by rw [upd_same]; exact pa), (fun h => by rw [upd_other _ _ _ _ (show (48 : Nat) ≠ 45 by decide)] at h ⊢; exact (g48 h).keep k), (fun h => by rw [upd_other _ _ _ _ (show (49 : Nat) ≠ 45 by decide)] at h ⊢; exact (g49 h).keep k)⟩
                · obtain rfl := op_is ho rfl
                  refine step_strF F21 h0.i.lt (.tmp 193) (wanted_of 41 187 rfl rfl ((e0 187 (by kernel_rfl)).trans rfl)) rfl a.text _ rfl (by have := HBGA.out; omega) ((e0 193 (by kernel_rfl)).trans rfl) ?_
                  intro v w2 k pa
                  exact hK'.out v w2 ⟨h0.keep k, (fun h => by rw [upd_other _ _ _ _ (show (45 : Nat) ≠ 48 by decide)] at h ⊢; exact (g45 h).keep k), (fun _ => by rw [upd_same]; exact pa), (fun h => by rw [upd_other _ _ _ _ (show (49 : Nat) ≠ 48 by decide)] at h ⊢; exact (g49 h).keep k)⟩
                · obtain rfl := op_is ho rfl
                  have hL48 : L 48 = true := hd ⟨48, .data⟩ (by simp) rfl
                  refine step_rowF F21 h0.i.lt (.tmp 194) (wanted_of 41 187 rfl rfl ((e0 187 (by kernel_rfl)).trans rfl)) rfl a.text _ (vals 48) (ev 48 (by simp) hL48 194 rfl) (g48 hL48) ?_
                  intro v w2 k pa
                  exact hK'.out v w2 ⟨h0.keep k, (fun h => by rw [upd_other _ _ _ _ (show (45 : Nat) ≠ 49 by decide)] at h ⊢; exact (g45 h).keep k), (fun h => by rw [upd_other _ _ _ _ (show (48 : Nat) ≠ 49 by decide)] at h ⊢; exact (g48 h).keep k), (fun _ => by rw [upd_same]; exact pa)⟩
              case fin =>
                intro vals L w22 hall hJ
                obtain ⟨k0, g45, _, g49⟩ := hJ
                obtain ⟨Ak, ck, hvk, hak⟩ := (g45 (hall 45 (by simp))).h
                obtain ⟨qr, Ar, cr, hvr, har⟩ := (g49 (hall 49 (by simp))).h
                simp only [putZ, hvk, hvr]
                generalize vals 48 = v48
                clear g45 g49 hvk hvr hall
                simp only [Act.put, List.setIfInBounds_toArray, List.set_cons_zero, List.set_cons_succ]
                have hcl := derive_i p F21 T2 Ak a.key.length ck a.key _ 1 1 _ w22 k0.i hak har (by have := HTL2.out; omega) (by have := HBGA.out; omega) (by rw [Sha.catP_one]; have := HBGA.out; show a.text.length ≤ _; omega)
                rw [Sha.catP_one] at hcl
                refine reg_call 50 (some 196) rfl rfl (by kernel_rfl) (by rfl) _ _ (exec_func 18 _ _ [.pointer (some ⟨p, 0, none⟩), .slice Ak a.key.length ck, .slice (some ⟨qr, 0, none⟩) 1 1] rfl (by kernel_rfl) rfl) ?_
                refine hcl.mono ?_
                rintro e w23 ⟨F23, rfl, hq⟩
                have hq : Iq w22 F21 w23 p F23 (mk T2 (derT a.key a.text)) := hq
                have H23 := Lib.hid (k0.go hq)
                have HS3 : Hid ((fun w' : World => Kp nob w3 w' ∧ Blk w' q15 41 (bvs DH) ∧ Blk w' q16 41 (bvs DI) ∧ Blk w' q17 41 (bvs DM) ∧ Blk w' q18 41 (bvs DN) ∧ Row w' X (bvs YA) ∧ Row w' X2 (bvs YB)) w23) := Lib.hid ⟨H23.out.k, (H23.out.x (q15, DH) (by simp)).1, (H23.out.x (q16, DI) (by simp)).1, (H23.out.x (q17, DM) (by simp)).1, (H23.out.x (q18, DN) (by simp)).1, (H23.out.r ⟨X, a.text.length + 16, cX, YA⟩ (by simp)).row, (H23.out.r ⟨X2, b.text.length + 16, cX2, YB⟩ (by simp)).row⟩
                obtain ⟨DD, hDD⟩ : ∃ DD, DD = out T2 (derT a.key a.text) 32 := ⟨_, rfl⟩
                have HDD := Lib.hid (show DD.length = 32 by rw [hDD]; exact out_length _ _ _ (by omega))
                have HC6 : Hid ((!decide (DD = DM)) = true) := Lib.hid (by rw [hDD]; exact HC5.out)
                have hv : Ending.returned (Value.agg (bvs (out T2 (derT a.key a.text) 32)).toArray) = .returned (.agg (bvs DD).toArray) := by rw [hDD]
                refine ⟨.agg (bvs DD).toArray, hv, HS3.out, fun _ => ?_⟩
                simp only [Act.put, List.setIfInBounds_toArray, List.set_cons_zero, List.set_cons_succ]
                refine reg_take (v := .bool true) 52 (some 198) rfl rfl (by kernel_rfl) (by kernel_rfl) (by kernel_rfl) (by rfl) HS3.out (fun w' hw => by exact (exec_ne32 196 197 _ DD DM HDD.out HDM.out.2 rfl rfl rfl).trans (by rw [HC6.out])) ?_
                simp only [Act.put, List.setIfInBounds_toArray, List.set_cons_zero, List.set_cons_succ]
                refine reg_take (v := .bool true) 53 (some 199) rfl rfl (by kernel_rfl) (by kernel_rfl) (by kernel_rfl) (by rfl) HS3.out (fun w hw => by go_simp) ?_
                simp only [Act.put, List.setIfInBounds_toArray, List.set_cons_zero, List.set_cons_succ]
                refine reg_take (v := .bool true) 54 (some 6) rfl rfl (by kernel_rfl) (by kernel_rfl) (by kernel_rfl) (by rfl) HS3.out (fun w hw => by go_simp) ?_
                simp only [Act.put, List.setIfInBounds_toArray, List.set_cons_zero, List.set_cons_succ]
                refine reg_end (by kernel_rfl) ?_
                go_wp2
                go_ret
                exact ⟨rfl, HK3.out.trans H23.out.k (fun _ e => e.elim)⟩
end Go.Proofs.Ytakhanganifpnaa.Ideal
