/- IdealHides: two worlds in which the same is sealed, but for texts of the same lengths, make the same bytes. -/
import Derived.Test.YtakhanganifpnaaIdealF
namespace Go.Proofs.Ytakhanganifpnaa.Ideal
set_option linter.unusedVariables false
set_option linter.unusedSimpArgs false
open Go Go.RowKit Kit
open Sha (Pc PcsOk catP)

theorem op_is {ops : Array Oper} {i : Nat} {o o' : Oper} (h : ops[i]? = some o) (h' : ops[i]? = some o') : o = o' := Option.some.inj (h.symm.trans h')
/-- The nonce of the i-th call. -/
def nth (i : Nat) : List UInt8 := [UInt8.ofNat i, UInt8.ofNat (i / 256)]
theorem nth_ne (i j : Nat) (h : i < j) (hj : j ≤ 40) : nth i ≠ nth j := by
  intro e
  have := (List.cons.inj e).1
  have := congrArg UInt8.toNat this
  rw [UInt8.toNat_ofNat', UInt8.toNat_ofNat'] at this
  omega
theorem nth_length (i : Nat) : (nth i).length = 2 := rfl
theorem text_row {w : World} {A : Option Addr} {ss : List (List UInt8)} (h : Row w A (ss.map fun s => .string (str s))) (i : Nat) (x : List UInt8) (hx : ss[i]? = some x) : ∃ b o, A = some ⟨b, o, none⟩ ∧ b < w.heap.size ∧ w.cell? ⟨b, o + i, none⟩ = some (.string (str x)) := by
  have hi := (List.getElem?_eq_some_iff.1 hx).1
  obtain ⟨b, o, h1, h2, h3⟩ := h.at_ (i := i) (by rw [List.length_map]; exact hi)
  refine ⟨b, o, h1, h2, ?_⟩
  rw [h3, List.getElem_map, (List.getElem?_eq_some_iff.1 hx).2]
/-- Two worlds, and a script's call in memory. -/
structure Hc (w0 : World) (p1 p2 : Nat) (F1 F2 : Nat → Prop) (vs ws : List Thing) (g : Nat) (c : CallI) (w : World) : Prop where
  v : Iw w p1 F1 vs
  u : Iw w p2 F2 ws
  d : ∀ k, F1 k → ¬ F2 k
  f1 : ∀ k, F1 k → w0.heap.size ≤ k
  f2 : ∀ k, F2 k → w0.heap.size ≤ k
  k : Kp nob w0 w
  b : Blk w g 33 c.cells
  n1 : ¬ F1 g
  n2 : ¬ F2 g
section
variable {w0 w w2 : World} {p1 p2 g : Nat} {F1 F2 F3 : Nat → Prop} {vs ws ts : List Thing} {c : CallI}
theorem Hc.keep (h : Hc w0 p1 p2 F1 F2 vs ws g c w) (k : Kp nob w w2) : Hc w0 p1 p2 F1 F2 vs ws g c w2 :=
  ⟨h.v.keep k (fun _ _ e => e), h.u.keep k (fun _ _ e => e), h.d, h.f1, h.f2, h.k.trans k (fun _ e => e.elim), h.b.keep k (fun e => e), h.n1, h.n2⟩
theorem Hc.seal1 (h : Hc w0 p1 p2 F1 F2 vs ws g c w) (q : Iq w F1 w2 p1 F3 ts) : Hc w0 p1 p2 F3 F2 ts ws g c w2 :=
  ⟨q.i, h.u.keep q.k (fun i e e2 => h.d i e2 e), fun k e e2 => (q.f k e).elim (fun e => h.d k e e2) (fun e => by have := h.u.lt k e2; omega), fun k e => (q.f k e).elim (h.f1 k) (fun e => Nat.le_trans h.k.size e), h.f2, h.k.since q.k h.f1, h.b.keep q.k h.n1, fun e => (q.f g e).elim h.n1 (fun e => by have := h.b.lt; omega), h.n2⟩
theorem Hc.seal2 (h : Hc w0 p1 p2 F1 F2 vs ws g c w) (q : Iq w F2 w2 p2 F3 ts) : Hc w0 p1 p2 F1 F3 vs ts g c w2 :=
  ⟨h.v.keep q.k (fun i e e2 => h.d i e e2), q.i, fun k e e2 => (q.f k e2).elim (fun e2 => h.d k e e2) (fun e2 => by have := h.v.lt k e; omega), h.f1, fun k e => (q.f k e).elim (h.f2 k) (fun e => Nat.le_trans h.k.size e), h.k.since q.k h.f2, h.b.keep q.k h.n2, h.n1, fun e => (q.f g e).elim h.n2 (fun e => by have := h.b.lt; omega)⟩
theorem Hc.c1 (h : Hc w0 p1 p2 F1 F2 vs ws g c w) : w.cell? ⟨g, 1, none⟩ = some (.string (str c.key)) := by rw [h.b.cell]; rfl
theorem Hc.c3 (h : Hc w0 p1 p2 F1 F2 vs ws g c w) : w.cell? ⟨g, 3, none⟩ = some (.string (str c.aad)) := by rw [h.b.cell]; rfl
theorem Hc.c4 (h : Hc w0 p1 p2 F1 F2 vs ws g c w) : w.cell? ⟨g, 4, none⟩ = some (.string (str c.text)) := by rw [h.b.cell]; rfl
/-- Blocks of either world. -/
def U2 (F1 F2 : Nat → Prop) : Nat → Prop := fun k => F1 k ∨ F2 k
theorem Arg.seal1 {A : Option Addr} {n c : Nat} {l : List UInt8} (h : Arg w (U2 F1 F2) A n c l) (k : Kp F1 w w2) (f : ∀ k, F3 k → F1 k ∨ w.heap.size ≤ k) : Arg w2 (U2 F3 F2) A n c l := by
  by_cases e : l = []
  · subst e; exact ⟨h.len, Row.nil _ _, .inl rfl, h.cap, h.mx, h.nil⟩
  · have hf := h.far.resolve_left e
    refine ⟨h.len, h.row.keep k (fun j e1 e2 => hf j e1 (.inl e2)), .inr (fun j e1 e2 => ?_), h.cap, h.mx, h.nil⟩
    have hlt := h.row.lt (by simpa [bvs] using e) j e1
    rcases e2 with e2 | e2
    · exact (f j e2).elim (fun e2 => hf j e1 (.inl e2)) (fun e2 => by omega)
    · exact hf j e1 (.inr e2)
theorem Arg.swap {A : Option Addr} {n c : Nat} {l : List UInt8} (h : Arg w (U2 F1 F2) A n c l) : Arg w (U2 F2 F1) A n c l := h.mono (fun i _ e => e.symm)
theorem Arg.seal2 {A : Option Addr} {n c : Nat} {l : List UInt8} (h : Arg w (U2 F1 F2) A n c l) (k : Kp F2 w w2) (f : ∀ k, F3 k → F2 k ∨ w.heap.size ≤ k) : Arg w2 (U2 F1 F3) A n c l := (h.swap.seal1 k f).swap
theorem Arg.one {A : Option Addr} {n c : Nat} {l : List UInt8} (h : Arg w (U2 F1 F2) A n c l) : Arg w F1 A n c l := h.mono (fun i _ e => .inl e)
theorem Arg.two {A : Option Addr} {n c : Nat} {l : List UInt8} (h : Arg w (U2 F1 F2) A n c l) : Arg w F2 A n c l := h.mono (fun i _ e => .inr e)
theorem Ans.u1 {A : Option Addr} {c n : Nat} {l : List UInt8} (h : Ans w w2 F1 A c l) (hn : l.length = n) (h2 : ∀ k, F2 k → k < w.heap.size) : Arg w2 (U2 F1 F2) A n c l :=
  ⟨hn, h.row, .inr (fun k e e2 => e2.elim (fun e2 => (h.far k e).2 e2) (fun e2 => by have := (h.far k e).1; have := h2 k e2; omega)), by rw [← hn]; exact h.cap, h.mx, h.nil⟩
theorem Ans.u2 {A : Option Addr} {c n : Nat} {l : List UInt8} (h : Ans w w2 F2 A c l) (hn : l.length = n) (h1 : ∀ k, F1 k → k < w.heap.size) : Arg w2 (U2 F1 F2) A n c l := (h.u1 hn h1).swap
end
theorem nth_cells (i : Nat) : [Value.int .u8 ((i : Int) % 256), .int .u8 (((i / 256 : Nat) : Int) % 256)] = bvs (nth i) := by rw [← bv_ofNat, ← bv_ofNat]; rfl
theorem big_le2 (c : CallI) (h : big c ≤ 4096) : c.key.length ≤ 4096 ∧ c.nonce.length ≤ 4096 ∧ c.aad.length ≤ 4096 ∧ c.text.length ≤ 4096 := by unfold big at h; omega
set_option maxHeartbeats 8000000 in
set_option maxRecDepth 100000 in
theorem hides_yes (A : Option Addr) (n cA : Nat) (cs : List CallI) (B : Option Addr) (m cB : Nat) (os : List (List UInt8)) (w : World) (hl : cs.length = n) (hr : Row w A (cs.flatMap CallI.cells)) (hok : ∀ c ∈ cs, c.ok) (hlo : os.length = m) (hro : Row w B (os.map fun s => .string (str s))) (ht : tot cs ≤ 4096) (hn : n ≤ 40) (hnm : n ≤ m) (hm : m ≤ 9223372036854775807) (hos : ∀ s ∈ os, s.length ≤ 140737488355328) :
    Calls Try.prog 5 #[.slice A n cA, .slice B m cB] w fun e w' => e = .returned (.bool true) ∧ Kp nob w w' := by
  obtain ⟨dT, hdT, hdR⟩ := C_under
  have HDT := Lib.hid hdT; have HDR := Lib.hid hdR
  have HR := Lib.hid hr; have HOK := Lib.hid hok; have HL := Lib.hid hl; have HRO := Lib.hid hro; have HLO := Lib.hid hlo; have HT := Lib.hid ht; have HM := Lib.hid hm; have HOS := Lib.hid hos
  have HNM := Lib.hid hnm
  have d1 : decide (m < n) = false := by simp; omega
  clear hdT hdR hr hok hl hro hlo ht hm hos hnm
  go_enter Try.func5, Try.ntmps5
  go_wp2_with fail
  refine (alive_yes _).mono ?_
  rintro e w1 ⟨rfl, k1⟩
  have HK1 := Lib.hid k1; clear k1
  go_wp2_with fail
  refine (great_any A n cA cs w1 HL.out (HR.out.keep0 HK1.out) HOK.out (by have := HM.out; have := HNM.out; omega)).mono ?_
  rintro e w2 ⟨rfl, k2⟩
  have hg : (decide (4096 < tot cs) || decide (40 < n)) = false := by have := HT.out; simp; omega
  rw [hg]
  have HK2 := Lib.hid (HK1.out.trans k2 (fun _ e => e.elim))
  clear k2 hg HK1
  go_wp2_with fail
  refine (new_i w2).mono ?_
  rintro e w3 ⟨p1, F1, rfl, hq1⟩
  have HQ1 := Lib.hid hq1; clear hq1
  go_wp2_with fail
  refine (new_i w3).mono ?_
  rintro e w4 ⟨p2, F2, rfl, hq2⟩
  have HQ2 := Lib.hid hq2; clear hq2
  go_wp2
  go_loopw [33] (fun vi wr => ∃ (i : Nat) (F1 F2 : Nat → Prop) (vs ws : List Thing), i ≤ n ∧ vi = .int .i64 i ∧ Like nth vs ws ∧ vs.length = i ∧ Iw wr p1 F1 vs ∧ Iw wr p2 F2 ws ∧ (∀ k, F1 k → ¬ F2 k) ∧ (∀ k, F1 k → w.heap.size ≤ k) ∧ (∀ k, F2 k → w.heap.size ≤ k) ∧ Kp nob w wr)
    (fun vi _ => n - (intOf vi).toNat)
  case atStart =>
    have h1 : ∀ k, F1 k → w2.heap.size ≤ k := fun k e => (HQ1.out.f k e).resolve_left (fun e => e)
    have h2 : ∀ k, F2 k → w3.heap.size ≤ k := fun k e => (HQ2.out.f k e).resolve_left (fun e => e)
    have k3 := HK2.out.trans HQ1.out.k (fun _ e => e.elim)
    have h3 : ∀ k, F1 k → k < w3.heap.size := HQ1.out.i.lt
    exact ⟨0, F1, F2, [], [], Nat.zero_le _, rfl, like_nil _, rfl, HQ1.out.i.keep HQ2.out.k (fun _ _ e => e), HQ2.out.i, fun k e e2 => by have := h3 k e; have := h2 k e2; omega, fun k e => Nat.le_trans HK2.out.size (h1 k e), fun k e => Nat.le_trans k3.size (h2 k e), k3.trans HQ2.out.k (fun _ e => e.elim)⟩
  case round =>
    clear HQ1 HQ2 HK2
    obtain ⟨i, G1, G2, vs, ws, hi, rfl, hlk, hvl, hv, hu, hd, hf1, hf2, hk⟩ := hrel
    have HV := Lib.hid hv; have HU := Lib.hid hu; have HD := Lib.hid hd; have HF1 := Lib.hid hf1; have HF2 := Lib.hid hf2; have HK := Lib.hid hk; have HLK := Lib.hid hlk; have HVL := Lib.hid hvl
    clear hv hu hd hf1 hf2 hk hlk hvl
    by_cases hlt : i < n
    · obtain ⟨c, hc⟩ : ∃ c, cs[i]? = some c := ⟨_, List.getElem?_eq_getElem (by rw [HL.out]; exact hlt)⟩
      obtain ⟨x, hx⟩ : ∃ x, os[i]? = some x := ⟨_, List.getElem?_eq_getElem (by rw [HLO.out]; have := HNM.out; omega)⟩
      obtain ⟨bA, oA, hA, hrA⟩ := row_call HR.out i c hc
      obtain ⟨bB, oB, hB, hltB, hrB⟩ := text_row HRO.out i x hx
      have HRA := Lib.hid (range_keep hrA HK.out (fun e => e))
      have HXC : Hid (∀ w', Kp nob w w' → w'.cell? ⟨bB, oB + i, none⟩ = some (.string (str x))) := Lib.hid (fun w' k => (k.cell (p := ⟨bB, oB + i, none⟩) hltB (fun e => e)).trans hrB)
      have HOC := Lib.hid (HOK.out c (List.mem_of_getElem? hc))
      have HBG := Lib.hid (big_le2 c (Nat.le_trans (tot_mem cs c (List.mem_of_getElem? hc)) HT.out))
      have HXL := Lib.hid (HOS.out x (List.mem_of_getElem? hx))
      have b0 : (0 : Int) ≤ (i : Int) ∧ (i : Int) < (n : Int) := by omega
      have b1 : (i : Int) < (m : Int) := by have := HNM.out; omega
      subst hA; subst hB
      clear hc hx hrA hrB hltB
      go_wp2_with (first
        | (refine wpList_load_mid rfl 33 (.tmp 36) rfl bA (oA + i * 6) rfl c.cells dT HRA.out HDT.out HDR.out (csize c) ?_)
        | (refine wpList_store_new rfl 33 (.tmp 8) (.tmp 37) rfl _ c.cells rfl rfl rfl (csize c) (call_one c) ?_
           intro w5 hB5 k5 z5
           obtain ⟨g, hg⟩ : ∃ g, g = wr.heap.size := ⟨_, rfl⟩
           rw [← hg] at hB5 ⊢
           have HG : Hid (g = wr.heap.size) := Lib.hid hg
           have H5 : Hid (Hc w p1 p2 G1 G2 vs ws g c w5) := Lib.hid ⟨HV.out.keep k5 (fun _ _ e => e), HU.out.keep k5 (fun _ _ e => e), HD.out, HF1.out, HF2.out, HK.out.trans k5 (fun _ e => e.elim), hB5, fun e => by have := HV.out.lt g e; omega, fun e => by have := HU.out.lt g e; omega⟩
           clear hB5 k5 z5 hg)
        | fail)
      have c4 := H5.out.c4
      have cx := HXC.out w5 H5.out.k
      by_cases hxl : x.length = c.text.length
      · have e1 : ((x.length : Int) == (c.text.length : Int)) = true := by rw [hxl]; simp
        have e2 : ((x.length : Int) != (c.text.length : Int)) = false := by rw [hxl]; simp
        have HXE := Lib.hid hxl
        clear hxl
        have e3 : (i : Int).tdiv 256 = ((i / 256 : Nat) : Int) := by rw [Int.tdiv_eq_ediv_of_nonneg (by omega)]; omega
        have e4 : wrap64 ((i / 256 : Nat) : Int) = ((i / 256 : Nat) : Int) := by simp only [wrap64]; omega
        obtain ⟨ih, hih⟩ : ∃ ih, ih = i / 256 := ⟨_, rfl⟩
        rw [← hih] at e3 e4
        have HIH := Lib.hid hih
        clear hih
        go_quiet (fail)
        have H6 := Lib.hid (H5.out.keep ((Kp.refl nob w5).drewN nq))
        clear c4 cx H5
        generalize w5.drewN nq = w6 at *
        have HNC : Hid ([Value.int .u8 (i : Int), .int .u8 ((ih : Int) % 256)] = bvs (nth i)) := Lib.hid (by rw [← nth_cells, HIH.out, show (i : Int) % 256 = (i : Int) by omega])
        have HN7 : Hid (Arg (w6.alloc (.cells #[.int .u8 (i : Int), .int .u8 ((ih : Int) % 256)] 5)) (U2 G1 G2) (some ⟨w6.heap.size, 0, none⟩) 2 2 (nth i)) := Lib.hid ⟨rfl, by rw [← HNC.out]; exact row_new w6 _ _, .inr (fun k e e2 => by cases e; exact absurd (e2.elim (H6.out.v.lt _) (H6.out.u.lt _)) (Nat.lt_irrefl _)), Nat.le_refl _, by simp [maxLen], (fun e => by cases e)⟩
        have H7 := Lib.hid (H6.out.keep ((Kp.refl nob w6).alloc (.cells #[.int .u8 (i : Int), .int .u8 ((ih : Int) % 256)] 5)))
        have c1 := H7.out.c1
        clear H6 e1 e2
        go_wp2_with (first
          | (refine wpList_str_argN rfl 9 34 5 (.tmp 56) rfl strI u8sI u8I (c.key) (c.key.length) rfl (by have := HBG.out; unfold maxLen; omega) rfl ?_
             intro cc8 w8 k8 z8 ha8
             rw [show (w6.alloc (.cells #[.int .u8 (i : Int), .int .u8 ((ih : Int) % 256)] 5)).heap.size = w6.heap.size + 1 by simp] at ha8
             have H8 := Lib.hid (H7.out.keep k8); have A8 := Lib.hid (ha8 (U2 G1 G2) (fun k e => by have h : k < (w6.alloc (.cells #[.int .u8 (i : Int), .int .u8 ((ih : Int) % 256)] 5)).heap.size := e.elim (H7.out.v.lt k) (H7.out.u.lt k); simpa using h)); have K8 := Lib.hid k8
             have c4 := H8.out.c4
             clear k8 z8 ha8 c1)
          | (refine wpList_str_argN rfl 9 34 5 (.tmp 60) rfl strI u8sI u8I (c.text) (c.text.length) rfl (by have := HBG.out; unfold maxLen; omega) rfl ?_
             intro cc9 w9 k9 z9 ha9
             have H9 := Lib.hid (H8.out.keep k9); have A9 := Lib.hid (ha9 (U2 G1 G2) (fun k e => e.elim (H8.out.v.lt k) (H8.out.u.lt k))); have K9 := Lib.hid k9
             have c3 := H9.out.c3
             clear k9 z9 ha9 c4)
          | (refine wpList_str_argN rfl 9 34 5 (.tmp 63) rfl strI u8sI u8I (c.aad) (c.aad.length) rfl (by have := HBG.out; unfold maxLen; omega) rfl ?_
             intro cc10 w10 k10 z10 ha10
             have H10 := Lib.hid (H9.out.keep k10); have A10 := Lib.hid (ha10 (U2 G1 G2) (fun k e => e.elim (H9.out.v.lt k) (H9.out.u.lt k))); have K10 := Lib.hid k10
             clear k10 z10 ha10 c3)
          | fail)
        have HN10 := Lib.hid (((HN7.out.keep0 K8.out).keep0 K9.out).keep0 K10.out)
        refine (seal_one p1 G1 vs _ c.key.length cc8 c.key _ 2 2 (nth i) _ c.text.length cc9 c.text _ c.aad.length cc10 c.aad 34 w10 H10.out.v ((A8.out.keep0 K9.out).keep0 K10.out).one HN10.out.one (A9.out.keep0 K10.out).one A10.out.one (by have := HVL.out; omega) (by have := HBG.out; omega) (by rw [nth_length]; omega) (by have := HBG.out; omega) (by have := HBG.out; omega)).mono ?_
        rintro e w11 ⟨G3, X, cX, rfl, hq, hx⟩
        obtain ⟨TA, hTA⟩ : ∃ TA, TA = sealT c.key (nth i) c.aad c.text := ⟨_, rfl⟩
        rw [← hTA] at hq hx
        have HTA := Lib.hid hTA
        obtain ⟨Y, hY⟩ : ∃ Y, Y = out vs TA (c.text.length + 16) := ⟨_, rfl⟩
        rw [← hY] at hx
        have HY := Lib.hid hY
        have HYL := Lib.hid (show Y.length = c.text.length + 16 by rw [hY]; exact out_length _ _ _ (by omega))
        have H11 := Lib.hid (H10.out.seal1 hq)
        have HX11 := Lib.hid (hx.u1 (F2 := G2) HYL.out H10.out.u.lt)
        have HN11 := Lib.hid (HN10.out.seal1 hq.k hq.f)
        have HW11 := Lib.hid (H11.out.v)
        clear hTA hY hq hx H7 H8 H9 H10 A8 A9 A10 K8 K9 K10 HN7 HN10
        have c1 := H11.out.c1
        have c3 := H11.out.c3
        have cx := HXC.out w11 H11.out.k
        go_wp2
        have H12 := Lib.hid (H11.out.keep (Kp.refl nob w11).drew)
        have HN12 := Lib.hid (HN11.out.keep0 (Kp.refl nob w11).drew)
        have HX12 := Lib.hid (HX11.out.keep0 (Kp.refl nob w11).drew)
        have HS0 : Hid ((fun w' : World => Kp nob w w' ∧ Blk w' g 33 c.cells) w11.drew) := Lib.hid ⟨H12.out.k, H12.out.b⟩
        refine reg_begin (fun w' : World => Kp nob w w' ∧ Blk w' g 33 c.cells) (by kernel_rfl) HS0.out (fun _ => ?_)
        clear c1 c3 cx
        generalize w11.drew = wd at *
        refine reg_take (v := .pointer (some ⟨p2, 0, none⟩)) 0 (some 70) rfl rfl (by kernel_rfl) (by kernel_rfl) (by kernel_rfl) (by rfl) HS0.out (fun w hw => by go_simp) ?_
        simp only [Act.put, List.setIfInBounds_toArray, List.set_cons_zero, List.set_cons_succ]
        refine reg_take (v := .pointer (some ⟨g, 1, none⟩)) 1 (some 71) rfl rfl (by kernel_rfl) (by kernel_rfl) (by kernel_rfl) (by rfl) HS0.out (fun w hw => by go_simp) ?_
        simp only [Act.put, List.setIfInBounds_toArray, List.set_cons_zero, List.set_cons_succ]
        refine reg_take (v := .string (str c.key)) 2 (some 72) rfl rfl (by kernel_rfl) (by kernel_rfl) (by kernel_rfl) (by rfl) HS0.out (fun w hw => by have hc : w.cell? ⟨g, 1, none⟩ = some (.string (str c.key)) := (hw.2.cell 1).trans rfl; go_simp) ?_
        simp only [Act.put, List.setIfInBounds_toArray, List.set_cons_zero, List.set_cons_succ]
        refine reg_take (v := .slice (some ⟨w6.heap.size, 0, none⟩) 2 2) 4 (some 74) rfl rfl (by kernel_rfl) (by kernel_rfl) (by kernel_rfl) (by rfl) HS0.out (fun w hw => by go_simp) ?_
        simp only [Act.put, List.setIfInBounds_toArray, List.set_cons_zero, List.set_cons_succ]
        refine reg_take (v := .slice (some ⟨bB, oB, none⟩) m cB) 5 (some 75) rfl rfl (by kernel_rfl) (by kernel_rfl) (by kernel_rfl) (by rfl) HS0.out (fun w hw => by go_simp) ?_
        simp only [Act.put, List.setIfInBounds_toArray, List.set_cons_zero, List.set_cons_succ]
        refine reg_take (v := .int .i64 (i : Int)) 6 (some 76) rfl rfl (by kernel_rfl) (by kernel_rfl) (by kernel_rfl) (by rfl) HS0.out (fun w hw => by go_simp) ?_
        simp only [Act.put, List.setIfInBounds_toArray, List.set_cons_zero, List.set_cons_succ]
        refine reg_take (v := .pointer (some ⟨bB, oB + i, none⟩)) 7 (some 77) rfl rfl (by kernel_rfl) (by kernel_rfl) (by kernel_rfl) (by rfl) HS0.out (fun w hw => by go_simp) ?_
        simp only [Act.put, List.setIfInBounds_toArray, List.set_cons_zero, List.set_cons_succ]
        refine reg_take (v := .string (str x)) 8 (some 78) rfl rfl (by kernel_rfl) (by kernel_rfl) (by kernel_rfl) (by rfl) HS0.out (fun w hw => by have hc := HXC.out w hw.1; go_simp) ?_
        simp only [Act.put, List.setIfInBounds_toArray, List.set_cons_zero, List.set_cons_succ]
        refine reg_take (v := .pointer (some ⟨g, 3, none⟩)) 10 (some 80) rfl rfl (by kernel_rfl) (by kernel_rfl) (by kernel_rfl) (by rfl) HS0.out (fun w hw => by go_simp) ?_
        simp only [Act.put, List.setIfInBounds_toArray, List.set_cons_zero, List.set_cons_succ]
        refine reg_take (v := .string (str c.aad)) 11 (some 81) rfl rfl (by kernel_rfl) (by kernel_rfl) (by kernel_rfl) (by rfl) HS0.out (fun w hw => by have hc : w.cell? ⟨g, 3, none⟩ = some (.string (str c.aad)) := (hw.2.cell 3).trans rfl; go_simp) ?_
        simp only [Act.put, List.setIfInBounds_toArray, List.set_cons_zero, List.set_cons_succ]
        refine reg_many2 [3, 9, 12, 13] [(3, some 73), (9, some 79), (12, some 82), (13, some 83)] _ _ _ _ 6 (fun L vals w' => Kp nob wd w' ∧ (L 3 = true → PA wd.heap.size (vals 3) w' c.key.length c.key) ∧ (L 9 = true → PA wd.heap.size (vals 9) w' x.length x) ∧ (L 12 = true → PA wd.heap.size (vals 12) w' c.aad.length c.aad) ∧ (L 13 = true → PR wd.heap.size (vals 13) w' c.aad.length c.aad)) 20 rfl rfl rfl (by kernel_rfl) (by kernel_rfl) (by kernel_rfl) (by kernel_rfl) rfl (fun L vals w' h => ⟨H12.out.k.trans h.1 (fun _ e => e.elim), H12.out.b.keep h.1 (fun e => e)⟩) ?h0 ?st ?fin
        case h0 => exact ⟨Kp.refl nob wd, fun h => absurd h (by simp [lst]), fun h => absurd h (by simp [lst]), fun h => absurd h (by simp [lst]), fun h => absurd h (by simp [lst])⟩
        case st =>
          intro L vals w' a i' o hi ho hL hd hJ ev e0 K' hK'
          have hsz := hJ.1.size
          simp only [List.mem_cons, List.not_mem_nil, or_false] at hi
          rcases hi with rfl | rfl | rfl | rfl
          · obtain rfl := op_is ho rfl
            refine step_str wd.heap.size hsz (.tmp 72) rfl rfl (c.key) _ rfl (by have := HBG.out; omega) ((e0 72 (by kernel_rfl)).trans rfl) ?_
            intro v w2 k pa
            exact hK'.out v w2 ⟨hJ.1.trans k (fun _ e => e.elim), fun _ => by rw [upd_same]; exact pa, fun h => by rw [upd_other _ _ _ _ (by decide)] at h ⊢; exact (hJ.2.2.1 h).keep k, fun h => by rw [upd_other _ _ _ _ (by decide)] at h ⊢; exact (hJ.2.2.2.1 h).keep k, fun h => by rw [upd_other _ _ _ _ (by decide)] at h ⊢; exact (hJ.2.2.2.2 h).keep k⟩
          · obtain rfl := op_is ho rfl
            refine step_str wd.heap.size hsz (.tmp 78) rfl rfl (x) _ rfl (HXL.out) ((e0 78 (by kernel_rfl)).trans rfl) ?_
            intro v w2 k pa
            exact hK'.out v w2 ⟨hJ.1.trans k (fun _ e => e.elim), fun h => by rw [upd_other _ _ _ _ (by decide)] at h ⊢; exact (hJ.2.1 h).keep k, fun _ => by rw [upd_same]; exact pa, fun h => by rw [upd_other _ _ _ _ (by decide)] at h ⊢; exact (hJ.2.2.2.1 h).keep k, fun h => by rw [upd_other _ _ _ _ (by decide)] at h ⊢; exact (hJ.2.2.2.2 h).keep k⟩
          · obtain rfl := op_is ho rfl
            refine step_str wd.heap.size hsz (.tmp 81) rfl rfl (c.aad) _ rfl (by have := HBG.out; omega) ((e0 81 (by kernel_rfl)).trans rfl) ?_
            intro v w2 k pa
            exact hK'.out v w2 ⟨hJ.1.trans k (fun _ e => e.elim), fun h => by rw [upd_other _ _ _ _ (by decide)] at h ⊢; exact (hJ.2.1 h).keep k, fun h => by rw [upd_other _ _ _ _ (by decide)] at h ⊢; exact (hJ.2.2.1 h).keep k, fun _ => by rw [upd_same]; exact pa, fun h => by rw [upd_other _ _ _ _ (by decide)] at h ⊢; exact (hJ.2.2.2.2 h).keep k⟩
          · obtain rfl := op_is ho rfl
            have hL12 : L 12 = true := hd ⟨12, .data⟩ (by simp) rfl
            refine step_row1 wd.heap.size hsz (.tmp 82) rfl rfl (c.aad) _ (vals 12) (ev 12 (by simp) hL12 82 rfl) (hJ.2.2.2.1 hL12) ?_
            intro v w2 k pa
            exact hK'.out v w2 ⟨hJ.1.trans k (fun _ e => e.elim), fun h => by rw [upd_other _ _ _ _ (by decide)] at h ⊢; exact (hJ.2.1 h).keep k, fun h => by rw [upd_other _ _ _ _ (by decide)] at h ⊢; exact (hJ.2.2.1 h).keep k, fun h => by rw [upd_other _ _ _ _ (by decide)] at h ⊢; exact (hJ.2.2.2.1 h).keep k, fun _ => by rw [upd_same]; exact pa⟩
        case fin =>
          intro vals L w12 hall hJ
          obtain ⟨A3, c3, hv3, ha3⟩ := (hJ.2.1 (hall 3 (by simp))).h
          obtain ⟨A9, c9, hv9, ha9⟩ := (hJ.2.2.1 (hall 9 (by simp))).h
          obtain ⟨q13, A13, c13, hv13, ha13⟩ := (hJ.2.2.2.2 (hall 13 (by simp))).h
          have K12 := Lib.hid hJ.1
          generalize vals 12 = v12
          simp only [putZ, hv3, hv9, hv13]
          simp only [Act.put, List.setIfInBounds_toArray, List.set_cons_zero, List.set_cons_succ]
          have H12b := Lib.hid (H12.out.keep K12.out)
          have HN12b := Lib.hid (HN12.out.keep0 K12.out)
          have HX12b := Lib.hid (HX12.out.keep0 K12.out)
          have HS1 : Hid ((fun w' : World => Kp nob w w' ∧ Blk w' g 33 c.cells) w12) := Lib.hid ⟨H12b.out.k, H12b.out.b⟩
          have hlt2 : ∀ k, G2 k → k < wd.heap.size := H12.out.u.lt
          have hsl := seal_i p2 G2 ws A3 c.key.length c3 c.key (some ⟨w6.heap.size, 0, none⟩) 2 2 (nth i) A9 x.length c9 x (some ⟨q13, 0, none⟩) 1 1 [⟨A13, c.aad.length, c13, c.aad⟩] w12 H12b.out.u (ha3 G2 hlt2) HN12b.out.two (ha9 G2 hlt2) (ha13 G2 hlt2) (by have := HLK.out.len; have := HVL.out; omega) (by have := HBG.out; omega) (by rw [nth_length]; omega) (by have := HBG.out; have := HXE.out; omega) (by rw [Sha.catP_one]; have := HBG.out; show c.aad.length ≤ _; omega)
          rw [Sha.catP_one] at hsl
          have HSL := Lib.hid hsl
          clear hsl hlt2 ha3 ha9 ha13 hJ hall hv3 hv9 hv13
          refine reg_call 14 (some 84) rfl rfl (by kernel_rfl) (by rfl) _ _ (exec_func 11 _ _ [.pointer (some ⟨p2, 0, none⟩), .slice A3 c.key.length c3, .slice (some ⟨w6.heap.size, 0, none⟩) 2 2, .slice A9 x.length c9, .slice (some ⟨q13, 0, none⟩) 1 1] rfl (by kernel_rfl) rfl) ?_
          refine HSL.out.mono ?_
          rintro e w13 ⟨G4, X2, cX2, rfl, hq2, hx2⟩
          obtain ⟨TB, hTB⟩ : ∃ TB, TB = sealT c.key (nth i) c.aad x := ⟨_, rfl⟩
          have hq2 : Iq w12 G2 w13 p2 G4 (mk ws (sealT c.key (nth i) c.aad x)) := hq2
          have hx2 : Ans w12 w13 G4 X2 cX2 (out ws (sealT c.key (nth i) c.aad x) (x.length + 16)) := hx2
          rw [← hTB] at hq2 hx2
          have HTB := Lib.hid hTB
          have hYY : out ws TB (x.length + 16) = Y := by
            have hst := HLK.out.step (fun a b h1 h2 => nth_ne a b h1 (by have := HVL.out; omega)) c.key c.aad c.text x HXE.out.symm
            rw [HVL.out] at hst
            rw [hTB, HY.out, HTA.out]; exact hst.1.symm
          rw [hYY] at hx2
          have hLK2 : Like nth (mk vs TA) (mk ws TB) ∧ (mk vs TA).length = i + 1 := by
            have hst := HLK.out.step (fun a b h1 h2 => nth_ne a b h1 (by have := HVL.out; omega)) c.key c.aad c.text x HXE.out.symm
            rw [HVL.out] at hst
            rw [hTB, HTA.out]; exact ⟨hst.2.1, by have := hst.2.2; omega⟩
          have HLK2 := Lib.hid hLK2
          have H13 := Lib.hid (H12b.out.seal2 hq2)
          have HX13 := Lib.hid (HX12b.out.seal2 hq2.k hq2.f)
          have HN13 := Lib.hid (HN12b.out.seal2 hq2.k hq2.f)
          have HY13 := Lib.hid (hx2.u2 (F1 := G3) HYL.out H12b.out.v.lt)
          have HS2 : Hid ((fun w' : World => Kp nob w w' ∧ Blk w' g 33 c.cells) w13) := Lib.hid ⟨H13.out.k, H13.out.b⟩
          clear hTB hYY hLK2 hq2 hx2 HSL H12 H12b HN12 HN12b HX12 HX12b HS0 HS1 K12 H11 HN11 HX11 HW11
          rw [HXE.out]
          refine ⟨_, rfl, HS2.out, fun _ => ?_⟩
          simp only [Act.put, List.setIfInBounds_toArray, List.set_cons_zero, List.set_cons_succ]
          refine reg_take (v := .tuple #[.slice X2 (c.text.length + 16) cX2, .int .i64 0]) 15 (some 69) rfl rfl (by kernel_rfl) (by kernel_rfl) (by kernel_rfl) (by rfl) HS2.out (fun w hw => by go_simp) ?_
          simp only [Act.put, List.setIfInBounds_toArray, List.set_cons_zero, List.set_cons_succ]
          refine reg_take (v := .slice X2 (c.text.length + 16) cX2) 16 (some 85) rfl rfl (by kernel_rfl) (by kernel_rfl) (by kernel_rfl) (by rfl) HS2.out (fun w hw => by go_simp) ?_
          simp only [Act.put, List.setIfInBounds_toArray, List.set_cons_zero, List.set_cons_succ]
          refine reg_take (v := .int .i64 0) 17 (some 86) rfl rfl (by kernel_rfl) (by kernel_rfl) (by kernel_rfl) (by rfl) HS2.out (fun w hw => by go_simp) ?_
          simp only [Act.put, List.setIfInBounds_toArray, List.set_cons_zero, List.set_cons_succ]
          refine reg_take (v := .slice X2 (c.text.length + 16) cX2) 18 (some 12) rfl rfl (by kernel_rfl) (by kernel_rfl) (by kernel_rfl) (by rfl) HS2.out (fun w hw => by go_simp) ?_
          simp only [Act.put, List.setIfInBounds_toArray, List.set_cons_zero, List.set_cons_succ]
          refine reg_take (v := .int .i64 0) 19 (some 13) rfl rfl (by kernel_rfl) (by kernel_rfl) (by kernel_rfl) (by rfl) HS2.out (fun w hw => by go_simp) ?_
          simp only [Act.put, List.setIfInBounds_toArray, List.set_cons_zero, List.set_cons_succ]
          refine reg_end (by kernel_rfl) ?_
          have hcv1 := run_bytes_str (P := Try.prog) w13 34 9 5 u8sI u8I strI X (c.text.length + 16) cX Y HYL.out HX13.out.row
          have hcv2 := run_bytes_str (P := Try.prog) w13 34 9 5 u8sI u8I strI X2 (c.text.length + 16) cX2 Y HYL.out HY13.out.row
          have c1 := H13.out.c1
          have HTL : Hid ((mk vs TA).length ≤ 100000 ∧ (mk ws TB).length ≤ 100000) := Lib.hid (by have := HLK2.out.2; have := HLK2.out.1.len; omega)
          have HO1 : Hid (opn (mk vs TA) c.key (nth i) c.aad Y = some c.text) := Lib.hid (by rw [HY.out, HTA.out]; exact opn_sealed vs c.key (nth i) c.aad c.text (by have := HVL.out; omega))
          have HO2 : Hid (opn (mk ws TB) c.key (nth i) c.aad Y = some x) := Lib.hid (by
            have hst := HLK.out.step (fun a b h1 h2 => nth_ne a b h1 (by have := HVL.out; omega)) c.key c.aad c.text x HXE.out.symm
            rw [HVL.out] at hst
            rw [HY.out, HTA.out, hst.1, HTB.out]
            exact opn_sealed ws c.key (nth i) c.aad x (by have := HLK.out.len; have := HVL.out; omega))
          clear HS2
          go_wp2_with (first
            | (refine wpList_str_argN rfl 9 34 5 (.tmp 103) rfl strI u8sI u8I (c.key) (c.key.length) rfl (by have := HBG.out; unfold maxLen; omega) rfl ?_
               intro cc14 w14 k14 z14 ha14
               have H14 := Lib.hid (H13.out.keep k14); have A14 := Lib.hid (ha14 (U2 G3 G4) (fun k e => e.elim (H13.out.v.lt k) (H13.out.u.lt k))); have K14 := Lib.hid k14
               have c3 := H14.out.c3
               clear k14 z14 ha14 c1 hcv1 hcv2)
            | (refine wpList_str_argN rfl 9 34 5 (.tmp 108) rfl strI u8sI u8I (c.aad) (c.aad.length) rfl (by have := HBG.out; unfold maxLen; omega) rfl ?_
               intro cc15 w15 k15 z15 ha15
               have H15 := Lib.hid (H14.out.keep k15); have A15 := Lib.hid (ha15 (U2 G3 G4) (fun k e => e.elim (H14.out.v.lt k) (H14.out.u.lt k))); have K15 := Lib.hid k15
               clear k15 z15 ha15 c3)
            | fail)
          have K15b := Lib.hid (K14.out.trans K15.out (fun _ e => e.elim))
          refine (open_one p1 G3 (mk vs TA) _ c.key.length cc14 c.key (some ⟨w6.heap.size, 0, none⟩) 2 2 (nth i) X (c.text.length + 16) cX Y _ c.aad.length cc15 c.aad 34 w15 H15.out.v (A14.out.keep0 K15.out).one (HN13.out.keep0 K15b.out).one (HX13.out.keep0 K15b.out).one A15.out.one HTL.out.1 (by have := HBG.out; omega) (by rw [nth_length]; omega) (by rw [HYL.out]; have := HBG.out; omega) (by have := HBG.out; omega)).mono ?_
          rintro e w16 ho
          rw [HO1.out] at ho
          obtain ⟨⟨X3, c3', rfl, hr3⟩, ko⟩ := ho
          have H16 := Lib.hid (H15.out.keep ko)
          have K16 := Lib.hid (K15b.out.trans ko (fun _ e => e.elim))
          have HR3 := Lib.hid hr3
          clear ko hr3 H14 H15 A14 A15 K14 K15 K15b
          have c1 := H16.out.c1
          simp only [Option.getD_some, Option.isSome_some, if_true]
          go_wp2_with (first
            | (refine wpList_str_argN rfl 9 34 5 (.tmp 117) rfl strI u8sI u8I (c.key) (c.key.length) rfl (by have := HBG.out; unfold maxLen; omega) rfl ?_
               intro cc17 w17 k17 z17 ha17
               have H17 := Lib.hid (H16.out.keep k17); have A17 := Lib.hid (ha17 (U2 G3 G4) (fun k e => e.elim (H16.out.v.lt k) (H16.out.u.lt k))); have K17 := Lib.hid k17
               have c3 := H17.out.c3
               clear k17 z17 ha17 c1)
            | (refine wpList_str_argN rfl 9 34 5 (.tmp 122) rfl strI u8sI u8I (c.aad) (c.aad.length) rfl (by have := HBG.out; unfold maxLen; omega) rfl ?_
               intro cc18 w18 k18 z18 ha18
               have H18 := Lib.hid (H17.out.keep k18); have A18 := Lib.hid (ha18 (U2 G3 G4) (fun k e => e.elim (H17.out.v.lt k) (H17.out.u.lt k))); have K18 := Lib.hid k18
               clear k18 z18 ha18 c3)
            | fail)
          have K18b := Lib.hid ((K16.out.trans K17.out (fun _ e => e.elim)).trans K18.out (fun _ e => e.elim))
          refine (open_one p2 G4 (mk ws TB) _ c.key.length cc17 c.key (some ⟨w6.heap.size, 0, none⟩) 2 2 (nth i) X2 (c.text.length + 16) cX2 Y _ c.aad.length cc18 c.aad 34 w18 H18.out.u (A17.out.keep0 K18.out).two (HN13.out.keep0 K18b.out).two (HY13.out.keep0 K18b.out).two A18.out.two HTL.out.2 (by have := HBG.out; omega) (by rw [nth_length]; omega) (by rw [HYL.out]; have := HBG.out; omega) (by have := HBG.out; omega)).mono ?_
          rintro e w19 ho
          rw [HO2.out] at ho
          obtain ⟨⟨X4, c4', rfl, hr4⟩, ko⟩ := ho
          have H19 := Lib.hid (H18.out.keep ko)
          have HR4 := Lib.hid hr4
          have HR3b := Lib.hid (((HR3.out.keep0 K17.out).keep0 K18.out).keep0 ko)
          clear ko hr4 H17 H18 A17 A18 K17 K18 K18b K16 HR3
          simp only [Option.getD_some, Option.isSome_some, if_true]
          go_wp2
          have H20 := Lib.hid (H19.out.keep (Kp.refl nob w19).drew)
          have HC3 := Lib.hid (run_bytes_str (P := Try.prog) w19.drew 34 9 5 u8sI u8I strI X3 c.text.length c3' c.text rfl (HR3b.out.keep0 (Kp.refl nob w19).drew))
          have HC4 := Lib.hid (run_bytes_str (P := Try.prog) w19.drew 34 9 5 u8sI u8I strI X4 x.length c4' x rfl (HR4.out.keep0 (Kp.refl nob w19).drew))
          have HXD := Lib.hid (HXC.out w19.drew H20.out.k)
          have H4D := Lib.hid (H20.out.c4)
          clear H19 H16 H13 HR3b HR4 HX13 HY13 HN13
          refine reg_begin (fun w' => w' = w19.drew) (by kernel_rfl) rfl (fun _ => ?_)
          generalize w19.drew = wd at *
          have HSR : Hid (wd = wd) := Lib.hid rfl
          refine reg_take (v := .int .i64 0) 0 (some 128) rfl rfl (by kernel_rfl) (by kernel_rfl) (by kernel_rfl) (by rfl) HSR.out (fun w hw => by go_simp) ?_
          simp only [Act.put, List.setIfInBounds_toArray, List.set_cons_zero, List.set_cons_succ]
          refine reg_take (v := .bool false) 1 (some 129) rfl rfl (by kernel_rfl) (by kernel_rfl) (by kernel_rfl) (by rfl) HSR.out (fun w hw => by go_simp) ?_
          simp only [Act.put, List.setIfInBounds_toArray, List.set_cons_zero, List.set_cons_succ]
          refine reg_take (v := .bool false) 2 (some 130) rfl rfl (by kernel_rfl) (by kernel_rfl) (by kernel_rfl) (by rfl) HSR.out (fun w hw => by go_simp) ?_
          simp only [Act.put, List.setIfInBounds_toArray, List.set_cons_zero, List.set_cons_succ]
          refine reg_take (v := .int .i64 0) 3 (some 131) rfl rfl (by kernel_rfl) (by kernel_rfl) (by kernel_rfl) (by rfl) HSR.out (fun w hw => by go_simp) ?_
          simp only [Act.put, List.setIfInBounds_toArray, List.set_cons_zero, List.set_cons_succ]
          refine reg_take (v := .bool false) 4 (some 132) rfl rfl (by kernel_rfl) (by kernel_rfl) (by kernel_rfl) (by rfl) HSR.out (fun w hw => by go_simp) ?_
          simp only [Act.put, List.setIfInBounds_toArray, List.set_cons_zero, List.set_cons_succ]
          refine reg_take (v := .bool false) 5 (some 133) rfl rfl (by kernel_rfl) (by kernel_rfl) (by kernel_rfl) (by rfl) HSR.out (fun w hw => by go_simp) ?_
          simp only [Act.put, List.setIfInBounds_toArray, List.set_cons_zero, List.set_cons_succ]
          refine reg_take (v := .bool false) 6 (some 134) rfl rfl (by kernel_rfl) (by kernel_rfl) (by kernel_rfl) (by rfl) HSR.out (fun w hw => by go_simp) ?_
          simp only [Act.put, List.setIfInBounds_toArray, List.set_cons_zero, List.set_cons_succ]
          refine reg_take (v := .slice X3 c.text.length c3') 7 (some 135) rfl rfl (by kernel_rfl) (by kernel_rfl) (by kernel_rfl) (by rfl) HSR.out (fun w hw => by go_simp) ?_
          simp only [Act.put, List.setIfInBounds_toArray, List.set_cons_zero, List.set_cons_succ]
          refine reg_take (v := .string (str c.text)) 8 (some 136) rfl rfl (by kernel_rfl) (by kernel_rfl) (by kernel_rfl) (by rfl) HSR.out (fun w hw => by rw [hw]; have hc := HC3.out; go_simp) ?_
          simp only [Act.put, List.setIfInBounds_toArray, List.set_cons_zero, List.set_cons_succ]
          refine reg_take (v := .pointer (some ⟨g, 4, none⟩)) 9 (some 137) rfl rfl (by kernel_rfl) (by kernel_rfl) (by kernel_rfl) (by rfl) HSR.out (fun w hw => by go_simp) ?_
          simp only [Act.put, List.setIfInBounds_toArray, List.set_cons_zero, List.set_cons_succ]
          refine reg_take (v := .string (str c.text)) 10 (some 138) rfl rfl (by kernel_rfl) (by kernel_rfl) (by kernel_rfl) (by rfl) HSR.out (fun w hw => by rw [hw]; have hc := H4D.out; go_simp) ?_
          simp only [Act.put, List.setIfInBounds_toArray, List.set_cons_zero, List.set_cons_succ]
          refine reg_take (v := .bool false) 11 (some 139) rfl rfl (by kernel_rfl) (by kernel_rfl) (by kernel_rfl) (by rfl) HSR.out (fun w hw => by exact (exec_neq 136 138 _ c.text c.text rfl rfl rfl).trans (by simp)) ?_
          simp only [Act.put, List.setIfInBounds_toArray, List.set_cons_zero, List.set_cons_succ]
          refine reg_take (v := .bool false) 12 (some 140) rfl rfl (by kernel_rfl) (by kernel_rfl) (by kernel_rfl) (by rfl) HSR.out (fun w hw => by go_simp) ?_
          simp only [Act.put, List.setIfInBounds_toArray, List.set_cons_zero, List.set_cons_succ]
          refine reg_take (v := .bool false) 13 (some 141) rfl rfl (by kernel_rfl) (by kernel_rfl) (by kernel_rfl) (by rfl) HSR.out (fun w hw => by go_simp) ?_
          simp only [Act.put, List.setIfInBounds_toArray, List.set_cons_zero, List.set_cons_succ]
          refine reg_take (v := .slice X4 x.length c4') 14 (some 142) rfl rfl (by kernel_rfl) (by kernel_rfl) (by kernel_rfl) (by rfl) HSR.out (fun w hw => by go_simp) ?_
          simp only [Act.put, List.setIfInBounds_toArray, List.set_cons_zero, List.set_cons_succ]
          refine reg_take (v := .string (str x)) 15 (some 143) rfl rfl (by kernel_rfl) (by kernel_rfl) (by kernel_rfl) (by rfl) HSR.out (fun w hw => by rw [hw]; have hc := HC4.out; go_simp) ?_
          simp only [Act.put, List.setIfInBounds_toArray, List.set_cons_zero, List.set_cons_succ]
          refine reg_take (v := .slice (some ⟨bB, oB, none⟩) m cB) 16 (some 144) rfl rfl (by kernel_rfl) (by kernel_rfl) (by kernel_rfl) (by rfl) HSR.out (fun w hw => by go_simp) ?_
          simp only [Act.put, List.setIfInBounds_toArray, List.set_cons_zero, List.set_cons_succ]
          refine reg_take (v := .int .i64 (i : Int)) 17 (some 145) rfl rfl (by kernel_rfl) (by kernel_rfl) (by kernel_rfl) (by rfl) HSR.out (fun w hw => by go_simp) ?_
          simp only [Act.put, List.setIfInBounds_toArray, List.set_cons_zero, List.set_cons_succ]
          refine reg_take (v := .pointer (some ⟨bB, oB + i, none⟩)) 18 (some 146) rfl rfl (by kernel_rfl) (by kernel_rfl) (by kernel_rfl) (by rfl) HSR.out (fun w hw => by go_simp) ?_
          simp only [Act.put, List.setIfInBounds_toArray, List.set_cons_zero, List.set_cons_succ]
          refine reg_take (v := .string (str x)) 19 (some 147) rfl rfl (by kernel_rfl) (by kernel_rfl) (by kernel_rfl) (by rfl) HSR.out (fun w hw => by rw [hw]; have hc := HXD.out; go_simp) ?_
          simp only [Act.put, List.setIfInBounds_toArray, List.set_cons_zero, List.set_cons_succ]
          refine reg_take (v := .bool false) 20 (some 148) rfl rfl (by kernel_rfl) (by kernel_rfl) (by kernel_rfl) (by rfl) HSR.out (fun w hw => by exact (exec_neq 143 147 _ x x rfl rfl rfl).trans (by simp)) ?_
          simp only [Act.put, List.setIfInBounds_toArray, List.set_cons_zero, List.set_cons_succ]
          refine reg_take (v := .bool false) 21 (some 149) rfl rfl (by kernel_rfl) (by kernel_rfl) (by kernel_rfl) (by rfl) HSR.out (fun w hw => by go_simp) ?_
          simp only [Act.put, List.setIfInBounds_toArray, List.set_cons_zero, List.set_cons_succ]
          refine reg_end (by kernel_rfl) ?_
          clear HC3 HC4 HXD H4D
          go_wp2
          exact ⟨⟨i + 1, G3, G4, mk vs TA, mk ws TB, by omega, by go_num, HLK2.out.1, HLK2.out.2, H20.out.v, H20.out.u, H20.out.d, H20.out.f1, H20.out.f2, H20.out.k⟩, by simp [intOf]; omega⟩
      · have e1 : ((x.length : Int) == (c.text.length : Int)) = false := by rw [beq_eq_false_iff_ne]; omega
        have e2 : ((x.length : Int) != (c.text.length : Int)) = true := by rw [bne_iff_ne]; omega
        have HK5 := Lib.hid H5.out.k
        clear hxl
        go_quiet (fail)
        clear c4 cx
        go_wp2
        go_ret
        exact ⟨rfl, HK5.out.drewN nq⟩
    · obtain rfl : i = n := by omega
      go_wp2_with fail
      refine (size_i p1 G1 vs wr HV.out).mono ?_
      rintro e w5 ⟨rfl, rfl⟩
      go_wp2_with fail
      refine (size_i p2 G2 ws wr HU.out).mono ?_
      rintro e w5 ⟨rfl, rfl⟩
      rw [← HLK.out.len]
      go_wp2
      go_ret
      exact ⟨by simp, HK.out⟩
theorem hides_walk (A : Option Addr) (n cA : Nat) (cs : List CallI) (B : Option Addr) (m cB : Nat) (os : List (List UInt8)) (w : World) (hl : cs.length = n) (hn : A = none → cA = 0) (hr : Row w A (cs.flatMap CallI.cells)) (hc : n ≤ cA) (hm : cA ≤ maxLen) (hok : ∀ c ∈ cs, c.ok)
    (hl2 : os.length = m) (hn2 : B = none → cB = 0) (hr2 : Row w B (os.map fun s => .string (str s))) (hc2 : m ≤ cB) (hm2 : cB ≤ maxLen) (hw2 : ∀ s ∈ os, s.length ≤ 140737488355328) :
    Calls Try.prog 5 #[.slice A n cA, .slice B m cB] w fun e w' => e = .returned (.bool true) ∧ Kp nob w w' := by
  unfold maxLen at hm hm2
  by_cases hy : tot cs ≤ 4096 ∧ n ≤ 40 ∧ n ≤ m
  · exact hides_yes A n cA cs B m cB os w hl hr hok hl2 hr2 hy.1 hy.2.1 hy.2.2 (by omega) hw2
  · by_cases hg : tot cs ≤ 4096 ∧ n ≤ 40
    · have d1 : decide (m < n) = true := by simp; omega
      have hgr : (decide (4096 < tot cs) || decide (40 < n)) = false := by simp; omega
      have HR := Lib.hid hr; have HOK := Lib.hid hok; have HL := Lib.hid hl; have HG := Lib.hid hgr; have HN := Lib.hid (show n ≤ 9223372036854775807 by omega)
      clear hr hok hl hl2 hn2 hr2 hw2 hy hg hgr hc hm hc2 hm2
      go_enter Try.func5, Try.ntmps5
      go_wp2_with fail
      refine (alive_yes _).mono ?_
      rintro e w1 ⟨rfl, k1⟩
      have HK1 := Lib.hid k1; clear k1
      go_wp2_with fail
      refine (great_any A n cA cs w1 HL.out (HR.out.keep0 HK1.out) HOK.out HN.out).mono ?_
      rintro e w2 ⟨rfl, k2⟩
      rw [HG.out]
      have HK2 := Lib.hid (HK1.out.trans k2 (fun _ e => e.elim))
      clear k2 HK1
      go_wp2
      go_ret
      exact ⟨rfl, HK2.out⟩
    · have hgr : (decide (4096 < tot cs) || decide (40 < n)) = true := by simp; omega
      have HR := Lib.hid hr; have HOK := Lib.hid hok; have HL := Lib.hid hl; have HG := Lib.hid hgr; have HN := Lib.hid (show n ≤ 9223372036854775807 by omega)
      clear hr hok hl hl2 hn2 hr2 hw2 hy hg hgr hc hm hc2 hm2
      go_enter Try.func5, Try.ntmps5
      go_wp2_with fail
      refine (alive_yes _).mono ?_
      rintro e w1 ⟨rfl, k1⟩
      have HK1 := Lib.hid k1; clear k1
      go_wp2_with fail
      refine (great_any A n cA cs w1 HL.out (HR.out.keep0 HK1.out) HOK.out HN.out).mono ?_
      rintro e w2 ⟨rfl, k2⟩
      rw [HG.out]
      have HK2 := Lib.hid (HK1.out.trans k2 (fun _ e => e.elim))
      clear k2 HK1
      go_wp2
      go_ret
      exact ⟨rfl, HK2.out⟩
end Go.Proofs.Ytakhanganifpnaa.Ideal
