/- IdealTurned: with a byte turned nothing is opened, nor under another key, nor with another nonce, nor with more that is known. -/
import Derived.Test.YtakhanganifpnaaIdealL
import Derived.Test.YtakhanganifpnaaApp
namespace Go.Proofs.Ytakhanganifpnaa.Ideal
set_option linter.unusedVariables false
set_option linter.unusedSimpArgs false
open Go Go.RowKit Kit
open Sha (Pc PcsOk catP)

theorem ofInt_u8 (a : UInt8) : (BitVec.ofInt 8 (a.toNat : Int)).toNat = a.toNat := by
  rw [BitVec.ofInt_natCast, BitVec.toNat_ofNat]; exact Nat.mod_eq_of_lt a.toNat_lt
theorem wrap_u8 (n : Nat) : IntKind.u8.wrap (n : Int) = ((UInt8.ofNat n).toNat : Int) := by
  rw [IntKind.wrap_u8]; simp
@[go_sem] theorem u8_xor (a b : UInt8) : bits .xor .u8 (a.toNat : Int) (b.toNat : Int) = ((a ^^^ b).toNat : Int) := by
  show IntKind.u8.wrap ((BitVec.ofInt 8 (a.toNat : Int) ^^^ BitVec.ofInt 8 (b.toNat : Int)).toNat : Int) = _
  rw [BitVec.toNat_xor, ofInt_u8, ofInt_u8, wrap_u8, ← UInt8.toNat_xor, UInt8.ofNat_toNat]
theorem Arg.stored {w w2 : World} {F : Nat → Prop} {A : Option Addr} {n c b : Nat} {l : List UInt8} (h : Arg w F A n c l) (hA : ∀ k, ab A = some k → k ≠ b) (k : Kp (fun k => k = b) w w2) : Arg w2 F A n c l :=
  ⟨h.len, h.row.keep k (fun i e e2 => hA i e e2), h.far, h.cap, h.mx, h.nil⟩
theorem own_set_arg {w : World} {F : Nat → Prop} {b m c j : Nat} {Y : List UInt8} (ho : ∀ u, Kit.Own 5 (w.setCell ⟨b, j, none⟩ u) (some ⟨b, 0, none⟩) m c ((bvs Y).set j u)) (hl : Y.length = m) (hF : ¬ F b) (y x : UInt8) :
    Arg (w.setCell ⟨b, j, none⟩ (.int .u8 ((y.toNat ^^^ x.toNat : Nat) : Int))) F (some ⟨b, 0, none⟩) m c (Y.set j (y ^^^ x)) := by
  have h := ho (.int .u8 ((y.toNat ^^^ x.toNat : Nat) : Int))
  refine ⟨by rw [List.length_set]; exact hl, ?_, .inr (fun k e => by cases e; exact hF), h.cap.1, h.cap.2, (fun e => by cases e)⟩
  have hr := h.row
  rw [← UInt8.toNat_xor] at hr ⊢
  rw [show (bvs Y).set j (.int .u8 ((y ^^^ x).toNat : Int)) = bvs (Y.set j (y ^^^ x)) from (List.map_set (f := bv)).symm] at hr
  exact hr
@[go_sem] theorem str_x (l : List UInt8) : str l ++ (⟨#[120]⟩ : ByteArray) = str (l ++ [120]) := by apply ByteArray.ext; simp [str]
/-- A script's call in memory, and the code's world. -/
structure St (w0 w : World) (p g : Nat) (F : Nat → Prop) (ts : List Thing) (c : CallI) : Prop where
  i : Iw w p F ts
  k : Kp nob w0 w
  b : Blk w g 33 c.cells
theorem St.keep {w0 w w2 : World} {p g : Nat} {F : Nat → Prop} {ts : List Thing} {c : CallI} (h : St w0 w p g F ts c) (k : Kp nob w w2) : St w0 w2 p g F ts c :=
  ⟨h.i.keep k (fun _ _ e => e), h.k.trans k (fun _ e => e.elim), h.b.keep k (fun e => e)⟩
theorem St.c1 {w0 w : World} {p g : Nat} {F : Nat → Prop} {ts : List Thing} {c : CallI} (h : St w0 w p g F ts c) : w.cell? ⟨g, 1, none⟩ = some (.string (str c.key)) := by rw [h.b.cell]; rfl
theorem St.c2 {w0 w : World} {p g : Nat} {F : Nat → Prop} {ts : List Thing} {c : CallI} (h : St w0 w p g F ts c) : w.cell? ⟨g, 2, none⟩ = some (.string (str c.nonce)) := by rw [h.b.cell]; rfl
theorem St.c3 {w0 w : World} {p g : Nat} {F : Nat → Prop} {ts : List Thing} {c : CallI} (h : St w0 w p g F ts c) : w.cell? ⟨g, 3, none⟩ = some (.string (str c.aad)) := by rw [h.b.cell]; rfl
theorem St.c4 {w0 w : World} {p g : Nat} {F : Nat → Prop} {ts : List Thing} {c : CallI} (h : St w0 w p g F ts c) : w.cell? ⟨g, 4, none⟩ = some (.string (str c.text)) := by rw [h.b.cell]; rfl
theorem Ans.arg {w w2 : World} {F : Nat → Prop} {A : Option Addr} {c : Nat} {l : List UInt8} (h : Ans w w2 F A c l) (n : Nat) (hn : l.length = n) : Arg w2 F A n c l :=
  ⟨hn, h.row, .inr (fun k e => (h.far k e).2), hn ▸ h.cap, h.mx, h.nil⟩
theorem big_le (c : CallI) (h : big c ≤ 4096) : c.key.length ≤ 4096 ∧ c.nonce.length ≤ 4096 ∧ c.aad.length ≤ 4096 ∧ c.text.length ≤ 4096 := by unfold big at h; omega
set_option maxHeartbeats 4000000 in
set_option maxRecDepth 100000 in
theorem turned_yes (c : CallI) (at_ : Int) (x : UInt8) (w : World) (hok : c.ok) (ha : (Lit.int .i64 at_).wf = true) (hx : x ≠ 0) (ht : big c ≤ 4096) :
    Calls Try.prog 6 #[.agg c.cells.toArray, .int .i64 at_, .int .u8 (x.toNat : Int)] w fun e w' => e = .returned (.bool true) ∧ Kp nob w w' := by
  obtain ⟨dT, hdT, hdR⟩ := C_under
  have HDT := Lib.hid hdT; have HDR := Lib.hid hdR
  have HOK := Lib.hid hok; have HAT := Lib.hid ha; have HT := Lib.hid ht
  have HB := Lib.hid (show Blk (w.alloc (.cells c.cells.toArray 33)) w.heap.size 33 c.cells from Blk.new w _ _)
  have HK := Lib.hid ((Kp.refl nob w).alloc (.cells c.cells.toArray 33))
  have d0 : ((x.toNat : Int) == 0) = false := by
    rw [beq_eq_false_iff_ne]; intro e; exact hx (UInt8.toNat_inj.1 (by rw [Int.ofNat_eq_zero.1 e]; rfl))
  clear hdT hdR hok ha ht
  go_enter Try.func6, Try.ntmps6
  go_wp2_with fail
  refine (alive_yes _).mono ?_
  rintro e w1 ⟨rfl, k1⟩
  have HB1 := Lib.hid (HB.out.keep k1 (fun e => e)); have HK1 := Lib.hid (HK.out.trans k1 (fun _ e => e.elim)); clear k1
  have hcl := CallI.length c
  go_wp2_with (first
    | (refine wpList_load_blk rfl 33 (.tmp 3) rfl _ _ _ HB1.out rfl dT HDT.out HDR.out (csize c) ?_)
    | fail)
  rw [fold_all c.cells _ (by rw [CallI.length]; rfl)]
  refine (great_any _ 1 1 [c] (w1.alloc (.cells c.cells.toArray 33)) rfl (by rw [List.flatMap_cons, List.flatMap_nil, List.append_nil]; exact row_new w1 c.cells _) (fun c' h => by rw [List.mem_singleton.1 h]; exact HOK.out) (by omega)).mono ?_
  rintro e w2 ⟨rfl, k2⟩
  have htt : decide (4096 < tot [c]) = false := by
    have := HT.out
    rw [show tot [c] = big c from Nat.add_zero _]; simp; omega
  rw [htt]
  have HB2 := Lib.hid ((HB1.out.alloc (.cells c.cells.toArray 33)).keep k2 (fun e => e)); have HK2 := Lib.hid ((HK1.out.alloc (.cells c.cells.toArray 33)).trans k2 (fun _ e => e.elim))
  have HBG := Lib.hid (big_le c HT.out)
  clear k2 htt hcl HB1 HK1 HB HK
  go_wp2_with fail
  refine (new_i w2).mono ?_
  rintro e w3 ⟨p, F1, rfl, hq⟩
  have H3 : Hid (St w w3 p w.heap.size F1 [] c) := Lib.hid ⟨hq.i, HK2.out.trans hq.k (fun _ e => e.elim), HB2.out.keep hq.k (fun e => e)⟩
  have HF1 : Hid (∀ k, F1 k → w.heap.size ≤ k) := Lib.hid (fun k e => Nat.le_trans HK2.out.size ((hq.f k e).resolve_left (fun e => e)))
  have HG1 : Hid (¬ F1 w.heap.size) := Lib.hid (fun e => by have h1 := HB2.out.lt; have h2 := (hq.f _ e).resolve_left (fun e => e); omega)
  clear hq HB2 HK2 d0
  have c1 := H3.out.c1
  go_wp2_with (first
    | (refine wpList_str_arg rfl 9 34 5 (.tmp 34) rfl strI u8sI u8I (c.key) (by have := HBG.out; unfold maxLen; omega) rfl ?_
       intro cc4 w4 k4 z4 ha4
       have H4 := Lib.hid (H3.out.keep k4); have A4 := Lib.hid (ha4 F1 H3.out.i.lt); have K4 := Lib.hid k4
       have c2 := H4.out.c2
       clear k4 z4 ha4 c1)
    | (refine wpList_str_arg rfl 9 34 5 (.tmp 37) rfl strI u8sI u8I (c.nonce) (by have := HBG.out; unfold maxLen; omega) rfl ?_
       intro cc5 w5 k5 z5 ha5
       have H5 := Lib.hid (H4.out.keep k5); have A5 := Lib.hid (ha5 F1 H4.out.i.lt); have K5 := Lib.hid k5
       have c4 := H5.out.c4
       clear k5 z5 ha5 c2)
    | (refine wpList_str_arg rfl 9 34 5 (.tmp 40) rfl strI u8sI u8I (c.text) (by have := HBG.out; unfold maxLen; omega) rfl ?_
       intro cc6 w6 k6 z6 ha6
       have H6 := Lib.hid (H5.out.keep k6); have A6 := Lib.hid (ha6 F1 H5.out.i.lt); have K6 := Lib.hid k6
       have c3 := H6.out.c3
       clear k6 z6 ha6 c4)
    | (refine wpList_str_arg rfl 9 34 5 (.tmp 43) rfl strI u8sI u8I (c.aad) (by have := HBG.out; unfold maxLen; omega) rfl ?_
       intro cc7 w7 k7 z7 ha7
       have H7 := Lib.hid (H6.out.keep k7); have A7 := Lib.hid (ha7 F1 H6.out.i.lt); have K7 := Lib.hid k7
       clear k7 z7 ha7 c3)
    | fail)
  refine (seal_one p F1 [] _ _ cc4 c.key _ _ cc5 c.nonce _ _ cc6 c.text _ _ cc7 c.aad 34 w7 H7.out.i (((A4.out.keep0 K5.out).keep0 K6.out).keep0 K7.out) ((A5.out.keep0 K6.out).keep0 K7.out) (A6.out.keep0 K7.out) A7.out (Nat.zero_le _) (by have := HBG.out; omega) (by have := HBG.out; omega) (by have := HBG.out; omega) (by have := HBG.out; omega)).mono ?_
  rintro e w8 ⟨F2, X, cX, rfl, hq, hx8⟩
  obtain ⟨Y, hY⟩ : ∃ Y, Y = out [] (sealT c.key c.nonce c.aad c.text) (c.text.length + 16) := ⟨_, rfl⟩
  obtain ⟨TS, hTS⟩ : ∃ TS, TS = mk [] (sealT c.key c.nonce c.aad c.text) := ⟨_, rfl⟩
  obtain ⟨m, hm⟩ : ∃ m, m = c.text.length + 16 := ⟨_, rfl⟩
  rw [← hY] at hx8
  rw [← hTS] at hq
  rw [← hm]
  have HYL := Lib.hid (show Y.length = m by rw [hY, hm, out_length _ _ _ (by omega)])
  have H8 : Hid (St w w8 p w.heap.size F2 TS c) := Lib.hid ⟨hq.i, H7.out.k.since hq.k HF1.out, H7.out.b.keep hq.k HG1.out⟩
  have HX8 := Lib.hid (hx8.arg m HYL.out)
  have HY := Lib.hid hY; have HTS := Lib.hid hTS; have HM := Lib.hid hm
  have HTL : Hid (TS.length ≤ 100000) := Lib.hid (by rw [hTS]; have := mk_length_le [] (sealT c.key c.nonce c.aad c.text); simp at this; omega)
  have HMB : Hid (16 ≤ m ∧ m ≤ 4112) := Lib.hid (by have := HBG.out; omega)
  obtain ⟨a, haa⟩ : ∃ a : Nat, IntKind.u64.wrap at_ = (a : Int) := ⟨(IntKind.u64.wrap at_).toNat, by rw [IntKind.wrap_u64]; omega⟩
  obtain ⟨j, hj⟩ : ∃ j, j = a % m := ⟨_, rfl⟩
  have hjm : j < m := by rw [hj]; exact Nat.mod_lt _ (by omega)
  have u2 : IntKind.u64.wrap (m : Int) = (m : Int) := by have := HMB.out; rw [IntKind.wrap_u64]; omega
  have u3 : (a : Int).tmod (m : Int) = (j : Int) := by rw [Int.tmod_eq_emod_of_nonneg (by omega), hj]; rfl
  have u4 : wrap64 (j : Int) = (j : Int) := by have := HMB.out; unfold wrap64; omega
  have u5 : ((m : Int) == 0) = false := by rw [beq_eq_false_iff_ne]; have := HMB.out; omega
  have u6 : ¬ m = 0 := by have := HMB.out; omega
  obtain ⟨y0, hy0⟩ : ∃ y0, Y[j]? = some y0 := ⟨_, List.getElem?_eq_getElem (by rw [HYL.out]; exact hjm)⟩
  have HY0 := Lib.hid hy0; clear hy0
  have HJ := Lib.hid hjm
  obtain ⟨i0, hi, z0, z1, z2⟩ := info_parts (show (Try.prog.info? 5).map (fun i => (i.zero, i.size, i.bytes)) = some (some (.int .u8 0), 1, 1) by kernel_rfl)
  have HI := Lib.hid (And.intro hi (And.intro z0 (And.intro z1 z2)))
  have HBL := Lib.hid (show (bvs Y).length = m by rw [bvs_length]; exact HYL.out)
  have HXB : Hid (∀ k, ab X = some k → k < w8.heap.size) := Lib.hid (fun k e => HX8.out.row.lt (fun e2 => by have h1 := HBL.out; have h2 := HMB.out; rw [e2] at h1; simp at h1; omega) k e)
  have HO1 : Hid (opn TS c.key c.nonce c.aad (Y.set j (y0 ^^^ x)) = none) := Lib.hid (by
    have hj := (List.getElem?_eq_some_iff.1 HY0.out)
    obtain ⟨hj1, hj2⟩ := hj
    have := opn_turned c.key c.nonce c.aad c.text j x hx Y HY.out hj1
    rw [hj2, ← HTS.out] at this; exact this)
  have HO2 : Hid (∀ k2 n2 a2, ¬ (k2 = c.key ∧ n2 = c.nonce ∧ a2 = c.aad) → opn TS k2 n2 a2 Y = none) := Lib.hid (fun k2 n2 a2 h => by rw [HTS.out]; exact opn_other _ _ _ _ _ _ _ _ h)
  have HO3 : Hid (opn TS c.key c.nonce c.aad Y = some c.text) := Lib.hid (by rw [HTS.out, HY.out]; exact opn_sealed [] c.key c.nonce c.aad c.text (by simp))
  clear hj hjm hq hx8 hY hTS hm hi z0 z1 z2 A4 A5 A6 A7 K4 K5 K6 K7 H4 H5 H6 H7 H3
  go_wp2_with (first
    | (refine wpList_appR _ rfl (.tmp 51) (.tmp 52) 34 rfl 5 i0 (.int .u8 0) 1 u8sI HI.out.1 HI.out.2.1 HI.out.2.2.1 HI.out.2.2.2 rfl (some ⟨w8.heap.size, 0, none⟩) 0 0 [] rfl (own_empty w8) X m cX (bvs Y) rfl HX8.out.nil HBL.out (HX8.out.row.alloc _) (bvs_one _) (by have := HMB.out; omega) (by have := HMB.out; omega) ?_
       intro M cM w9 hown hg hab
       have HM9 := Lib.hid (copied (by simp) hown hg hab)
       have H9 := Lib.hid (H8.out.keep HM9.out.2.1); have HX9 := Lib.hid (HX8.out.keep0 HM9.out.2.1)
       have HMF : Hid (∀ k, ab M = some k → ¬ F2 k ∧ k ≠ w.heap.size) := Lib.hid (fun k e => ⟨fun e2 => by have h1 := HM9.out.2.2 k e; have h2 := H8.out.i.lt k e2; omega, fun e2 => by have h1 := HM9.out.2.2 k e; have h2 := H8.out.b.lt; omega⟩)
       obtain ⟨bM, hbM, hbl, hbc, hbf, hbs⟩ := HM9.out.1.at_ HJ.out
       subst hbM
       replace hbc : w9.cell? ⟨bM, j, none⟩ = some (.int .u8 (y0.toNat : Int)) := by rw [hbc, ← List.getElem?_eq_getElem, bvs, List.getElem?_map, HY0.out]; rfl
       have HBS := Lib.hid hbs
       clear hown hg hab hbl hbs
       have hcat1 : c.key.length + 1 ≤ 9223372036854775807 := by have := HBG.out; omega
       have hcat2 : c.nonce.length + 1 ≤ 9223372036854775807 := by have := HBG.out; omega
       have KS := (Kp.refl (fun k => k = bM) w9).setCell (p := ⟨bM, j, none⟩) (.inl rfl) (.int .u8 ((y0.toNat ^^^ x.toNat : Nat) : Int))
       have HZ := own_set_arg (F := F2) HBS.out HYL.out (HMF.out bM rfl).1 y0 x
       obtain ⟨w10, hw10⟩ : ∃ w10, w9.setCell ⟨bM, j, none⟩ (.int .u8 ((y0.toNat ^^^ x.toNat : Nat) : Int)) = w10 := ⟨_, rfl⟩
       rw [hw10] at KS HZ
       have HZ10 := Lib.hid HZ
       have HX10 := Lib.hid (HX9.out.stored (b := bM) (fun k e e2 => by have h1 := HXB.out k e; have h2 := HM9.out.2.2 bM rfl; omega) KS)
       have H10 : Hid (St w w10 p w.heap.size F2 TS c) := Lib.hid ⟨H9.out.i.keep KS (fun i e e2 => (HMF.out bM rfl).1 (by rw [← e2]; exact e)), H9.out.k.since KS (fun i e => by have h1 := HM9.out.2.2 bM rfl; have h2 := H8.out.k.size; omega), H9.out.b.keep KS (fun e => (HMF.out bM rfl).2 e.symm)⟩
       have c1 := H10.out.c1
       clear KS HZ HBS HM9 HMF H9 HX9)
    | (refine wpList_str_argN rfl 9 34 5 (.tmp 70) rfl strI u8sI u8I (c.key) (c.key.length) (rfl) (by have := HBG.out; unfold maxLen; omega) rfl ?_
       intro cc11 w11 k11 z11 ha11
       have H11 := Lib.hid (H10.out.keep k11); have A11 := Lib.hid (ha11 F2 H10.out.i.lt); have K11 := Lib.hid k11
       have c2 := H11.out.c2
       clear k11 z11 ha11 c1)
    | (refine wpList_str_argN rfl 9 34 5 (.tmp 73) rfl strI u8sI u8I (c.nonce) (c.nonce.length) (rfl) (by have := HBG.out; unfold maxLen; omega) rfl ?_
       intro cc12 w12 k12 z12 ha12
       have H12 := Lib.hid (H11.out.keep k12); have A12 := Lib.hid (ha12 F2 H11.out.i.lt); have K12 := Lib.hid k12
       have c3 := H12.out.c3
       clear k12 z12 ha12 c2)
    | (refine wpList_str_argN rfl 9 34 5 (.tmp 77) rfl strI u8sI u8I (c.aad) (c.aad.length) (rfl) (by have := HBG.out; unfold maxLen; omega) rfl ?_
       intro cc13 w13 k13 z13 ha13
       have H13 := Lib.hid (H12.out.keep k13); have A13 := Lib.hid (ha13 F2 H12.out.i.lt); have K13 := Lib.hid k13
       clear k13 z13 ha13 c3)
    | fail)
  have KB := Lib.hid ((K11.out.trans K12.out (fun _ e => e.elim)).trans K13.out (fun _ e => e.elim))
  have HT10 := Lib.hid (HZ10.out.keep0 KB.out)
  refine (open_one p F2 TS _ (c.key.length) cc11 (c.key) _ (c.nonce.length) cc12 (c.nonce) (some ⟨bM, 0, none⟩) m cM (Y.set j (y0 ^^^ x)) _ c.aad.length cc13 c.aad 34 w13 H13.out.i ((A11.out.keep0 K12.out).keep0 K13.out) (A12.out.keep0 K13.out) HT10.out A13.out HTL.out (by have := HBG.out; omega) (by have := HBG.out; omega) (by rw [List.length_set, HYL.out]; have := HMB.out; omega) (by have := HBG.out; omega)).mono ?_
  rintro e w14 ho
  have ho := ho.back KB.out
  rw [HO1.out] at ho
  obtain ⟨⟨X10, cX10, rfl, hr10⟩, ko⟩ := ho
  have H14 := Lib.hid (H10.out.keep ko); have HX14 := Lib.hid (HX10.out.keep0 ko); have HZ14 := Lib.hid (HZ10.out.keep0 ko); have HR10 := Lib.hid hr10
  have c1 := H14.out.c1
  clear ko hr10 KB HT10 A11 A12 A13 K11 K12 K13 H11 H12 H13 H10 HX10 HZ10
  simp only [Option.getD_none, Option.getD_some, Option.isSome_none, Option.isSome_some, List.length_nil, if_true, Bool.false_eq_true, if_false]
  go_wp2_with (first
    | (refine wpList_str_argN rfl 9 34 5 (.tmp 87) rfl strI u8sI u8I (c.key ++ [120]) (c.key.length + 1) (by rw [List.length_append]; rfl) (by have := HBG.out; unfold maxLen; omega) rfl ?_
       intro cc15 w15 k15 z15 ha15
       have H15 := Lib.hid (H14.out.keep k15); have A15 := Lib.hid (ha15 F2 H14.out.i.lt); have K15 := Lib.hid k15
       have c2 := H15.out.c2
       clear k15 z15 ha15 c1)
    | (refine wpList_str_argN rfl 9 34 5 (.tmp 90) rfl strI u8sI u8I (c.nonce) (c.nonce.length) (rfl) (by have := HBG.out; unfold maxLen; omega) rfl ?_
       intro cc16 w16 k16 z16 ha16
       have H16 := Lib.hid (H15.out.keep k16); have A16 := Lib.hid (ha16 F2 H15.out.i.lt); have K16 := Lib.hid k16
       have c3 := H16.out.c3
       clear k16 z16 ha16 c2)
    | (refine wpList_str_argN rfl 9 34 5 (.tmp 94) rfl strI u8sI u8I (c.aad) (c.aad.length) (rfl) (by have := HBG.out; unfold maxLen; omega) rfl ?_
       intro cc17 w17 k17 z17 ha17
       have H17 := Lib.hid (H16.out.keep k17); have A17 := Lib.hid (ha17 F2 H16.out.i.lt); have K17 := Lib.hid k17
       clear k17 z17 ha17 c3)
    | fail)
  have KB := Lib.hid ((K15.out.trans K16.out (fun _ e => e.elim)).trans K17.out (fun _ e => e.elim))
  have HT14 := Lib.hid (HX14.out.keep0 KB.out)
  refine (open_one p F2 TS _ (c.key.length + 1) cc15 (c.key ++ [120]) _ (c.nonce.length) cc16 (c.nonce) X m cX (Y) _ c.aad.length cc17 c.aad 34 w17 H17.out.i ((A15.out.keep0 K16.out).keep0 K17.out) (A16.out.keep0 K17.out) HT14.out A17.out HTL.out (by have := HBG.out; simp only [List.length_append, List.length_singleton]; omega) (by have := HBG.out; omega) (by rw [HYL.out]; have := HMB.out; omega) (by have := HBG.out; omega)).mono ?_
  rintro e w18 ho
  have ho := ho.back KB.out
  rw [HO2.out _ _ _ (fun h => by have := congrArg List.length h.1; simp at this)] at ho
  obtain ⟨⟨X14, cX14, rfl, hr14⟩, ko⟩ := ho
  have H18 := Lib.hid (H14.out.keep ko); have HX18 := Lib.hid (HX14.out.keep0 ko); have HZ18 := Lib.hid (HZ14.out.keep0 ko); have HR14 := Lib.hid hr14
  have c1 := H18.out.c1
  clear ko hr14 KB HT14 A15 A16 A17 K15 K16 K17 H15 H16 H17 H14 HX14 HZ14
  simp only [Option.getD_none, Option.getD_some, Option.isSome_none, Option.isSome_some, List.length_nil, if_true, Bool.false_eq_true, if_false]
  go_wp2_with (first
    | (refine wpList_str_argN rfl 9 34 5 (.tmp 103) rfl strI u8sI u8I (c.key) (c.key.length) (rfl) (by have := HBG.out; unfold maxLen; omega) rfl ?_
       intro cc19 w19 k19 z19 ha19
       have H19 := Lib.hid (H18.out.keep k19); have A19 := Lib.hid (ha19 F2 H18.out.i.lt); have K19 := Lib.hid k19
       have c2 := H19.out.c2
       clear k19 z19 ha19 c1)
    | (refine wpList_str_argN rfl 9 34 5 (.tmp 107) rfl strI u8sI u8I (c.nonce ++ [120]) (c.nonce.length + 1) (by rw [List.length_append]; rfl) (by have := HBG.out; unfold maxLen; omega) rfl ?_
       intro cc20 w20 k20 z20 ha20
       have H20 := Lib.hid (H19.out.keep k20); have A20 := Lib.hid (ha20 F2 H19.out.i.lt); have K20 := Lib.hid k20
       have c3 := H20.out.c3
       clear k20 z20 ha20 c2)
    | (refine wpList_str_argN rfl 9 34 5 (.tmp 111) rfl strI u8sI u8I (c.aad) (c.aad.length) (rfl) (by have := HBG.out; unfold maxLen; omega) rfl ?_
       intro cc21 w21 k21 z21 ha21
       have H21 := Lib.hid (H20.out.keep k21); have A21 := Lib.hid (ha21 F2 H20.out.i.lt); have K21 := Lib.hid k21
       clear k21 z21 ha21 c3)
    | fail)
  have KB := Lib.hid ((K19.out.trans K20.out (fun _ e => e.elim)).trans K21.out (fun _ e => e.elim))
  have HT18 := Lib.hid (HX18.out.keep0 KB.out)
  refine (open_one p F2 TS _ (c.key.length) cc19 (c.key) _ (c.nonce.length + 1) cc20 (c.nonce ++ [120]) X m cX (Y) _ c.aad.length cc21 c.aad 34 w21 H21.out.i ((A19.out.keep0 K20.out).keep0 K21.out) (A20.out.keep0 K21.out) HT18.out A21.out HTL.out (by have := HBG.out; omega) (by have := HBG.out; simp only [List.length_append, List.length_singleton]; omega) (by rw [HYL.out]; have := HMB.out; omega) (by have := HBG.out; omega)).mono ?_
  rintro e w22 ho
  have ho := ho.back KB.out
  rw [HO2.out _ _ _ (fun h => by have := congrArg List.length h.2.1; simp at this)] at ho
  obtain ⟨⟨X18, cX18, rfl, hr18⟩, ko⟩ := ho
  have H22 := Lib.hid (H18.out.keep ko); have HX22 := Lib.hid (HX18.out.keep0 ko); have HZ22 := Lib.hid (HZ18.out.keep0 ko); have HR18 := Lib.hid hr18
  have c1 := H22.out.c1
  clear ko hr18 KB HT18 A19 A20 A21 K19 K20 K21 H19 H20 H21 H18 HX18 HZ18
  simp only [Option.getD_none, Option.getD_some, Option.isSome_none, Option.isSome_some, List.length_nil, if_true, Bool.false_eq_true, if_false]
  go_wp2_with (first
    | (refine wpList_str_argN rfl 9 34 5 (.tmp 120) rfl strI u8sI u8I (c.key) (c.key.length) (rfl) (by have := HBG.out; unfold maxLen; omega) rfl ?_
       intro cc23 w23 k23 z23 ha23
       have H23 := Lib.hid (H22.out.keep k23); have A23 := Lib.hid (ha23 F2 H22.out.i.lt); have K23 := Lib.hid k23
       have c2 := H23.out.c2
       clear k23 z23 ha23 c1)
    | (refine wpList_str_argN rfl 9 34 5 (.tmp 123) rfl strI u8sI u8I (c.nonce) (c.nonce.length) (rfl) (by have := HBG.out; unfold maxLen; omega) rfl ?_
       intro cc24 w24 k24 z24 ha24
       have H24 := Lib.hid (H23.out.keep k24); have A24 := Lib.hid (ha24 F2 H23.out.i.lt); have K24 := Lib.hid k24
       have c3 := H24.out.c3
       clear k24 z24 ha24 c2)
    | (refine wpList_str_argN rfl 9 34 5 (.tmp 127) rfl strI u8sI u8I (c.aad) (c.aad.length) (rfl) (by have := HBG.out; unfold maxLen; omega) rfl ?_
       intro cc25 w25 k25 z25 ha25
       have H25 := Lib.hid (H24.out.keep k25); have A25 := Lib.hid (ha25 F2 H24.out.i.lt); have K25 := Lib.hid k25
       clear k25 z25 ha25 c3)
    | fail)
  have KB := Lib.hid ((K23.out.trans K24.out (fun _ e => e.elim)).trans K25.out (fun _ e => e.elim))
  have HT22 := Lib.hid (HX22.out.keep0 KB.out)
  have KA := Lib.hid ((Kp.refl nob w25).alloc (.cells (bvs [x]).toArray 5))
  have HL2 := Lib.hid (lit_arg w25 [x] 5 (0, 0) (by simp [maxLen]) F2 H25.out.i.lt)
  have hop := open_two p F2 TS _ (c.key.length) cc23 (c.key) _ (c.nonce.length) cc24 (c.nonce) X m cX (Y) _ _ c.aad.length cc25 1 1 c.aad [x] 34 _ (H25.out.i.keep KA.out (fun _ _ e => e)) (((A23.out.keep0 K24.out).keep0 K25.out).keep0 KA.out) ((A24.out.keep0 K25.out).keep0 KA.out) (HT22.out.keep0 KA.out) (A25.out.keep0 KA.out) HL2.out HTL.out (by have := HBG.out; omega) (by have := HBG.out; omega) (by rw [HYL.out]; have := HMB.out; omega) (by have := HBG.out; rw [List.length_append]; simp; omega)
  rw [show (w25.alloc (.cells (bvs [x]).toArray 5)).heap.size = w25.heap.size + 1 by simp] at hop
  refine hop.mono ?_
  rintro e w26 ho
  have ho := (ho.back KA.out).back KB.out
  rw [HO2.out _ _ _ (fun h => by have := congrArg List.length h.2.2; simp at this)] at ho
  obtain ⟨⟨X22, cX22, rfl, hr22⟩, ko⟩ := ho
  have H26 := Lib.hid (H22.out.keep ko); have HX26 := Lib.hid (HX22.out.keep0 ko); have HZ26 := Lib.hid (HZ22.out.keep0 ko); have HR22 := Lib.hid hr22
  have c1 := H26.out.c1
  clear ko hr22 KB HT22 A23 A24 A25 K23 K24 K25 H23 H24 H25 H22 HX22 HZ22 KA HL2 hop
  simp only [Option.getD_none, Option.getD_some, Option.isSome_none, Option.isSome_some, List.length_nil, if_true, Bool.false_eq_true, if_false]
  go_wp2_with (first
    | (refine wpList_str_argN rfl 9 34 5 (.tmp 138) rfl strI u8sI u8I (c.key) (c.key.length) (rfl) (by have := HBG.out; unfold maxLen; omega) rfl ?_
       intro cc27 w27 k27 z27 ha27
       have H27 := Lib.hid (H26.out.keep k27); have A27 := Lib.hid (ha27 F2 H26.out.i.lt); have K27 := Lib.hid k27
       have c2 := H27.out.c2
       clear k27 z27 ha27 c1)
    | (refine wpList_str_argN rfl 9 34 5 (.tmp 141) rfl strI u8sI u8I (c.nonce) (c.nonce.length) (rfl) (by have := HBG.out; unfold maxLen; omega) rfl ?_
       intro cc28 w28 k28 z28 ha28
       have H28 := Lib.hid (H27.out.keep k28); have A28 := Lib.hid (ha28 F2 H27.out.i.lt); have K28 := Lib.hid k28
       have c3 := H28.out.c3
       clear k28 z28 ha28 c2)
    | (refine wpList_str_argN rfl 9 34 5 (.tmp 145) rfl strI u8sI u8I (c.aad) (c.aad.length) (rfl) (by have := HBG.out; unfold maxLen; omega) rfl ?_
       intro cc29 w29 k29 z29 ha29
       have H29 := Lib.hid (H28.out.keep k29); have A29 := Lib.hid (ha29 F2 H28.out.i.lt); have K29 := Lib.hid k29
       clear k29 z29 ha29 c3)
    | fail)
  have KB := Lib.hid ((K27.out.trans K28.out (fun _ e => e.elim)).trans K29.out (fun _ e => e.elim))
  have HT26 := Lib.hid (HX26.out.keep0 KB.out)
  refine (open_one p F2 TS _ (c.key.length) cc27 (c.key) _ (c.nonce.length) cc28 (c.nonce) X m cX (Y) _ c.aad.length cc29 c.aad 34 w29 H29.out.i ((A27.out.keep0 K28.out).keep0 K29.out) (A28.out.keep0 K29.out) HT26.out A29.out HTL.out (by have := HBG.out; omega) (by have := HBG.out; omega) (by rw [HYL.out]; have := HMB.out; omega) (by have := HBG.out; omega)).mono ?_
  rintro e w30 ho
  have ho := ho.back KB.out
  rw [HO3.out] at ho
  obtain ⟨⟨X26, cX26, rfl, hr26⟩, ko⟩ := ho
  have H30 := Lib.hid (H26.out.keep ko); have HX30 := Lib.hid (HX26.out.keep0 ko); have HZ30 := Lib.hid (HZ26.out.keep0 ko); have HR26 := Lib.hid hr26
  have c1 := H30.out.c1
  clear ko hr26 KB HT26 A27 A28 A29 K27 K28 K29 H27 H28 H29 H26 HX26 HZ26
  simp only [Option.getD_none, Option.getD_some, Option.isSome_none, Option.isSome_some, List.length_nil, if_true, Bool.false_eq_true, if_false]
  have hcv := run_bytes_str (P := Try.prog) w30 34 9 5 (by kernel_rfl) (by kernel_rfl) (by kernel_rfl) X26 c.text.length cX26 c.text rfl HR26.out
  have c4 := H30.out.c4
  go_wp2
  go_ret
  exact ⟨rfl, H30.out.k⟩
set_option maxHeartbeats 1000000 in
set_option maxRecDepth 100000 in
theorem turned_no (c : CallI) (at_ n : Int) (w : World) (hok : c.ok) (h : 4096 < big c ∨ n = 0) :
    Calls Try.prog 6 #[.agg c.cells.toArray, .int .i64 at_, .int .u8 n] w fun e w' => e = .returned (.bool true) ∧ Kp nob w w' := by
  obtain ⟨dT, hdT, hdR⟩ := C_under
  have HDT := Lib.hid hdT; have HDR := Lib.hid hdR
  have HOK := Lib.hid hok; have HH := Lib.hid h
  have HB := Lib.hid (show Blk (w.alloc (.cells c.cells.toArray 33)) w.heap.size 33 c.cells from Blk.new w _ _)
  have HK := Lib.hid ((Kp.refl nob w).alloc (.cells c.cells.toArray 33))
  clear hdT hdR hok h
  go_enter Try.func6, Try.ntmps6
  go_wp2_with fail
  refine (alive_yes _).mono ?_
  rintro e w1 ⟨rfl, k1⟩
  have HB1 := Lib.hid (HB.out.keep k1 (fun e => e)); have HK1 := Lib.hid (HK.out.trans k1 (fun _ e => e.elim)); clear k1
  have hcl := CallI.length c
  go_wp2_with (first
    | (refine wpList_load_blk rfl 33 (.tmp 3) rfl _ _ _ HB1.out rfl dT HDT.out HDR.out (csize c) ?_)
    | fail)
  rw [fold_all c.cells _ (by rw [CallI.length]; rfl)]
  refine (great_any _ 1 1 [c] (w1.alloc (.cells c.cells.toArray 33)) rfl (by rw [List.flatMap_cons, List.flatMap_nil, List.append_nil]; exact row_new w1 c.cells _) (fun c' h => by rw [List.mem_singleton.1 h]; exact HOK.out) (by omega)).mono ?_
  rintro e w2 ⟨rfl, k2⟩
  rw [show tot [c] = big c from Nat.add_zero _]
  have HK2 := Lib.hid ((HK1.out.alloc (.cells c.cells.toArray 33)).trans k2 (fun _ e => e.elim))
  clear k2 hcl HB1 HK1 HB HK
  by_cases hb : 4096 < big c
  · have d1 : decide (4096 < big c) = true := by simp; omega
    rw [d1]
    clear d1
    go_wp2
    go_ret
    exact ⟨rfl, HK2.out⟩
  · have d1 : decide (4096 < big c) = false := by simp; omega
    rw [d1]
    obtain rfl : n = 0 := HH.out.resolve_left hb
    clear d1
    go_wp2
    go_ret
    exact ⟨rfl, HK2.out⟩
theorem turned_walk (c : CallI) (at_ n : Int) (w : World) (hok : c.ok) (ha : (Lit.int .i64 at_).wf = true) (hn : (Lit.int .u8 n).wf = true) :
    Calls Try.prog 6 #[.agg c.cells.toArray, .int .i64 at_, .int .u8 n] w fun e w' => e = .returned (.bool true) ∧ Kp nob w w' := by
  by_cases h : 4096 < big c ∨ n = 0
  · exact turned_no c at_ n w hok h
  · have h1 : 0 ≤ n ∧ n < 256 := by
      simp only [Lit.wf, IntKind.min, IntKind.max, IntKind.signed, IntKind.bits, Bool.and_eq_true, decide_eq_true_eq] at hn
      obtain ⟨a, b⟩ := hn
      simp at a b
      omega
    have e : n = ((UInt8.ofNat n.toNat).toNat : Int) := by rw [UInt8.toNat_ofNat']; omega
    rw [e]
    refine turned_yes c at_ (UInt8.ofNat n.toNat) w hok ha (fun e0 => ?_) (by omega)
    rw [e0] at e
    exact h (.inr (by rw [e]; rfl))
end Go.Proofs.Ytakhanganifpnaa.Ideal
