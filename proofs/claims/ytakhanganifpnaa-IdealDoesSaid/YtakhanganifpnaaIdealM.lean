/- Contracts of the document's own ideal world: a thing's bytes. -/
import Derived.Test.YtakhanganifpnaaIdealT
namespace Go.Proofs.Ytakhanganifpnaa.Ideal
set_option linter.unusedVariables false
set_option linter.unusedSimpArgs false
open Go Go.RowKit Kit

@[go_sem] theorem str_catI (l m : List UInt8) : str l ++ str m = str (l ++ m) := by
  apply ByteArray.ext; simp [str]
theorem T_info : (Try.prog.info? 45).map (fun i => (i.zero, i.size, i.bytes)) = some (some (.agg #[.int .u8 0, .string ByteArray.empty, .string ByteArray.empty, .string ByteArray.empty, .string ByteArray.empty]), 5, 72) := by kernel_rfl
theorem Ts_under : Try.prog.underlying 28 = some (.slice 45) := by kernel_rfl
theorem T_under : ∃ d, Try.prog.underlying 45 = some d ∧ d.isRow = true := ⟨.struct (Try.prog.fieldsOf 45), by kernel_rfl, rfl⟩
theorem tsize (t : Thing) : (Try.prog.info? 45).map (·.size) = some (tc t).length := by rw [tc_length]; kernel_rfl
/-- What the call keeps besides: all that is no part of the world. -/
theorem wrapI (x : Int) (n : Nat) (h : x = (n : Int)) (hn : n < 1000000) : IntKind.i64.wrap x = (n : Int) := by rw [h, IntKind.wrap_i64]; omega

/-- A text's length. -/
def lenS : Value → Nat
  | .string s => s.size
  | _ => 0

set_option maxHeartbeats 4000000 in
set_option maxRecDepth 100000 in
theorem make_doc (t : Thing) (n g : Nat) (F : Nat → Prop) (M : Option Addr) (cM : Nat) (ts : List Thing) (w : World) (hw : Wd w g F M cM ts) (hl : ts.length ≤ 100000) (hn : n ≤ 100000000) :
    Calls Try.prog 16 #[.pointer (some ⟨g, 0, none⟩), .agg (tc t).toArray, .int .i64 n] w fun e w' => e = .returned (.string (str (out ts t n))) ∧ ∃ F' M' cM', Mw w g F M cM (t ∈ ts) (mk ts t) F' M' cM' w' := by
  obtain ⟨dT, hdT, hdR⟩ := T_under
  have HDT := Lib.hid hdT; have HDR := Lib.hid hdR
  have HW := Lib.hid (hw.keep0 ((Kp.refl nob w).alloc (.cells (tc t).toArray 45)))
  have HB := Lib.hid (Blk.new w 45 (tc t))
  have HK := Lib.hid ((Kp.refl nob w).alloc (.cells (tc t).toArray 45))
  have HLT := Lib.hid hw.lt; have HG := Lib.hid hw.g
  have c0 : (w.alloc (.cells (tc t).toArray 45)).cell? ⟨g, 0, none⟩ = some (.slice M ts.length cM) := by rw [HW.out.b.cell]; rfl
  clear hdT hdR hw
  go_enter Try.func16, Try.ntmps16
  go_wp2
  clear c0
  go_loopw [7, 17] (fun vn vi wr => ∃ i : Nat, i ≤ ts.length ∧ vn = .int .i64 (numT ts t i) ∧ vi = .int .i64 i ∧ Wd wr g F M cM ts ∧ Blk wr w.heap.size 45 (tc t) ∧ Kp nob w wr)
    (fun _ vi _ => ts.length - (intOf vi).toNat)
  case atStart => exact ⟨0, by omega, rfl, rfl, HW.out, HB.out, HK.out⟩
  case' round =>
    obtain ⟨i, hi, rfl, rfl, h1, h2, h3⟩ := hrel
    have HW1 := Lib.hid h1; have HB1 := Lib.hid h2; have HK1 := Lib.hid h3
    clear h1 h2 h3 HW HB HK
    by_cases hlt : i < ts.length
    case' pos =>
      obtain ⟨x, hx⟩ : ∃ x, ts[i]? = some x := ⟨_, List.getElem?_eq_getElem hlt⟩
      obtain ⟨B, o, hM, hr⟩ := HW1.out.at_ i x hx
      have HR := Lib.hid hr
      have HS := Lib.hid (numT_succ ts t i)
      have hq : ∀ w, (Op.equalIn 10000 45 (.agg (tc x).toArray) (.agg (tc t).toArray)).run Try.prog w = .ok (decide (x = t)) w := fun w => eqT x t w
      obtain ⟨q, hqd⟩ : ∃ q, q = decide (x = t) := ⟨_, rfl⟩
      rw [← hqd] at hq
      have HQ := Lib.hid hqd; have HX := Lib.hid hx
      subst hM
      clear hr hqd hx
      cases q
      case' false =>
        have HN := Lib.hid (show numT ts t i = numT ts t (i + 1) by rw [HS.out, if_neg (by rw [HX.out]; intro e; have := HQ.out; rw [Option.some.inj e] at this; simp at this)])
      case' true =>
        have HN := Lib.hid (show i + 1 = numT ts t (i + 1) by rw [HS.out, if_pos (by rw [HX.out]; have := HQ.out; simp at this; rw [this])])
      all_goals
        go_wp2_with (first
          | (refine wpList_load_mid rfl 45 (.tmp 20) rfl B (o + i * 5) rfl (tc x) dT HR.out HDT.out HDR.out (tsize x) ?_)
          | (refine wpList_store_new rfl 45 (.tmp 9) (.tmp 21) rfl _ (tc x) rfl rfl rfl (tsize x) (tc_one x) ?_
             intro w2 hB2 k2 z2
             have HBX := Lib.hid hB2; have HW2 := Lib.hid (HW1.out.keep0 k2); have HB2 := Lib.hid (HB1.out.keep k2 (fun e => e)); have HK2 := Lib.hid (HK1.out.trans k2 (fun _ e => e.elim))
             clear hB2 k2 z2)
          | (refine wpList_load_blk rfl 45 (.tmp 9) rfl _ _ _ HBX.out rfl dT HDT.out HDR.out (tsize x) ?_)
          | (refine wpList_load_blk rfl 45 (.tmp 4) rfl _ _ _ HB2.out rfl dT HDT.out HDR.out (tsize t) ?_))
      all_goals exact ⟨⟨i + 1, by omega, by rw [← HN.out]; try rfl, by go_num, HW2.out, HB2.out, HK2.out⟩, by simp [intOf]; omega⟩
    case' neg =>
      obtain rfl : i = ts.length := by omega
      have HD := Lib.hid (show numT ts t ts.length = num ts t from rfl)
      rw [HD.out]
      have hnl := num_le ts t
      obtain ⟨N0, hN0⟩ : ∃ N0, N0 = num ts t := ⟨_, rfl⟩
      rw [← hN0] at hnl ⊢
      by_cases h0 : N0 = 0
      case' pos =>
        have HNew := Lib.hid (show t ∉ ts from (num_none ts t).1 (by rw [← hN0]; exact h0))
        clear hN0 HD
        subst h0
        go_wp2
        have HW2 := Lib.hid (HW1.out.keep0 (Kp.refl nob wr).drew); have HB2 := Lib.hid (HB1.out.keep (Kp.refl nob wr).drew (fun e => e)); have HK2 := Lib.hid HK1.out.drew
        have HS0 := Lib.hid HB2.out.range
        clear HW1 HB1 HK1
        refine reg_begin (fun w' => w'.rangeAt w.heap.size 0 (tc t)) (by kernel_rfl) HS0.out (fun _ => ?_)
        generalize wr.drew = wd at *
        refine reg_take (v := .pointer (some ⟨g, 0, none⟩)) 0 (some 30) rfl rfl (by kernel_rfl) (by kernel_rfl) (by kernel_rfl) (by rfl) HS0.out (fun w hw => by go_simp) ?_
        simp only [Act.put, List.setIfInBounds_toArray, List.set_cons_zero, List.set_cons_succ]
        refine reg_take (v := .pointer (some ⟨g, 0, none⟩)) 1 (some 31) rfl rfl (by kernel_rfl) (by kernel_rfl) (by kernel_rfl) (by rfl) HS0.out (fun w hw => by go_simp) ?_
        simp only [Act.put, List.setIfInBounds_toArray, List.set_cons_zero, List.set_cons_succ]
        refine reg_take (v := .pointer (some ⟨g, 0, none⟩)) 2 (some 32) rfl rfl (by kernel_rfl) (by kernel_rfl) (by kernel_rfl) (by rfl) HS0.out (fun w hw => by go_simp) ?_
        simp only [Act.put, List.setIfInBounds_toArray, List.set_cons_zero, List.set_cons_succ]
        refine reg_take (v := .pointer (some ⟨g, 0, none⟩)) 3 (some 33) rfl rfl (by kernel_rfl) (by kernel_rfl) (by kernel_rfl) (by rfl) HS0.out (fun w hw => by go_simp) ?_
        simp only [Act.put, List.setIfInBounds_toArray, List.set_cons_zero, List.set_cons_succ]
        refine reg_load 5 (some 35) 45 (.tmp 4) rfl rfl rfl (by kernel_rfl) (by kernel_rfl) (by kernel_rfl) (by rfl) HS0.out w.heap.size 0 rfl (tc t) dT (fun _ x => x) HDT.out HDR.out (tsize t) ?_
        simp only [Act.put, List.setIfInBounds_toArray, List.set_cons_zero, List.set_cons_succ]
        have c1 : wd.cell? ⟨g, 0, none⟩ = some (.slice M ts.length cM) := by rw [HW2.out.b.cell]; rfl
        have c2 : (wd.alloc (.cells (tc t).toArray 45)).cell? ⟨g, 0, none⟩ = some (.slice M ts.length cM) := by rw [(HW2.out.b.alloc _).cell]; rfl
        have htl := tc_length t
        have HSA := Lib.hid (show (wd.alloc (.cells (tc t).toArray 45)).rangeAt w.heap.size 0 (tc t) from range_keep HS0.out ((Kp.refl nob wd).alloc _) (fun e => e))
        obtain ⟨i0, hi0, hz0, hz1, hz2⟩ := info_parts3 T_info
        refine reg_stepOr (v := .slice M ts.length cM) (u := .slice (some ⟨wd.heap.size, 0, none⟩) 1 1) (wi := wd) (wj := wd.alloc (.cells (tc t).toArray 45)) 4 6 (some 34) (some 36) rfl rfl rfl rfl (by kernel_rfl) (by rfl) (by rfl) (by go_simp) (by go_simp; rw [fold_all (tc t) _ (by rw [tc_length]; rfl)]) HS0.out HSA.out (fun _ => ?wa) (fun _ => ?wb)
        case' wa =>
          simp only [Act.put, List.setIfInBounds_toArray, List.set_cons_zero, List.set_cons_succ]
          refine reg_step (v := .slice (some ⟨wd.heap.size, 0, none⟩) 1 1) (w' := wd.alloc (.cells (tc t).toArray 45)) 6 (some 36) rfl rfl (by kernel_rfl) (by rfl) (by go_simp; rw [fold_all (tc t) _ (by rw [tc_length]; rfl)]) HSA.out (fun _ => ?_)
          simp only [Act.put, List.setIfInBounds_toArray, List.set_cons_zero, List.set_cons_succ]
        case' wb =>
          simp only [Act.put, List.setIfInBounds_toArray, List.set_cons_zero, List.set_cons_succ]
          refine reg_step (v := .slice M ts.length cM) (w' := wd.alloc (.cells (tc t).toArray 45)) 4 (some 34) rfl rfl (by kernel_rfl) (by rfl) (by go_simp) HSA.out (fun _ => ?_)
          simp only [Act.put, List.setIfInBounds_toArray, List.set_cons_zero, List.set_cons_succ]
        all_goals
          refine reg_appK 7 (some 37) (.tmp 34) (.tmp 36) 28 rfl rfl rfl (by kernel_rfl) (by rfl) 5 (by decide) 45 i0 _ 72 Ts_under hi0 hz0 hz1 hz2 rfl M ts.length cM (tcs ts) rfl (HW2.out.o.alloc _) ⟨wd.heap.size, 0, none⟩ 1 1 (tc t) rfl rfl (row_new wd (tc t) _) (tc_one t) (by omega) (by omega) ?_
          intro M2 c2' w3 ho hg hab
          have hgr := HW2.out.grow (q := t ∈ ts) HNew.out HK2.out ho hg hab
          have hb3 := HB2.out.keep hgr.2 (fun e => by have := HLT.out _ (HW2.out.m _ e).1; omega)
          have HB3 := Lib.hid (hb3.far (p := ⟨g, 0, none⟩) (by have := HLT.out g HG.out; simp only; omega) (.slice M2 (ts.length + 1) c2'))
          have HM3 := Lib.hid hgr.1
          have c3 : w3.cell? ⟨g, 0, none⟩ = some (.slice M ts.length cM) := by
            rw [(HW2.out.b.keep hgr.2 (fun e => (HW2.out.m _ e).2 rfl)).cell]; rfl
          have f3 : w3.frozen? ⟨g, 0, none⟩ = false := (HW2.out.b.keep hgr.2 (fun e => (HW2.out.m _ e).2 rfl)).frozen _
          have HS3 := Lib.hid hb3.range
          clear ho hg hab hgr hb3 c1 c2
          refine ⟨HS3.out, fun _ => ?_⟩
          simp only [Act.put, List.setIfInBounds_toArray, List.set_cons_zero, List.set_cons_succ]
          refine reg_take (v := .pointer (some ⟨g, 0, none⟩)) 8 (some 38) rfl rfl (by kernel_rfl) (by kernel_rfl) (by kernel_rfl) (by rfl) HS3.out (fun w hw => by go_simp) ?_
          simp only [Act.put, List.setIfInBounds_toArray, List.set_cons_zero, List.set_cons_succ]
          refine reg_take (v := .pointer (some ⟨g, 0, none⟩)) 9 (some 39) rfl rfl (by kernel_rfl) (by kernel_rfl) (by kernel_rfl) (by rfl) HS3.out (fun w hw => by go_simp) ?_
          simp only [Act.put, List.setIfInBounds_toArray, List.set_cons_zero, List.set_cons_succ]
          refine reg_mute (w' := w3.setCell ⟨g, 0, none⟩ (.slice M2 (ts.length + 1) c2')) 10 none rfl rfl (by kernel_rfl) (by rfl) (by go_simp) HB3.out.range (fun _ => ?_)
          simp only [Act.put, List.setIfInBounds_toArray, List.set_cons_zero, List.set_cons_succ]
          refine reg_end (by kernel_rfl) ?_
          rw [← mk_new ts t HNew.out] at HM3
          have HNN := Lib.hid (show (ts.length : Int) + 1 = ((num (mk ts t) t : Nat) : Int) by rw [num_new ts t HNew.out]; rfl)
          have c4 : (w3.setCell ⟨g, 0, none⟩ (.slice M2 (ts.length + 1) c2')).cell? ⟨g, 0, none⟩ = some (.slice M2 (ts.length + 1) c2') := by
            have := HM3.out.d.b.cell 0
            rw [mk_new ts t HNew.out, List.length_append] at this
            exact this
          generalize hw4 : w3.setCell ⟨g, 0, none⟩ (.slice M2 (ts.length + 1) c2') = w4 at *
          clear hw4 c3 f3 HS3 HW2 HB2 HK2 HS0 HSA htl hi0 hz0 hz1 hz2
          go_wp2
          rw [HNN.out]
          clear c4
      case' neg =>
        have HOld := Lib.hid (show t ∈ ts from Decidable.byContradiction fun e => h0 (by rw [hN0]; exact (num_none ts t).2 e))
        have HM3 := Lib.hid (show Mw w g F M cM (t ∈ ts) (mk ts t) F M cM wr by rw [mk_old ts t HOld.out]; exact ⟨HW1.out, fun k e => .inl e, HK1.out.nob F, fun _ => ⟨⟨rfl, rfl, rfl⟩, HK1.out⟩⟩)
        have HB3 := Lib.hid HB1.out
        have HNN := Lib.hid (show (N0 : Int) = ((num (mk ts t) t : Nat) : Int) by rw [mk_old ts t HOld.out, hN0])
        have d0 : ((N0 : Int) == 0) = false := by rw [beq_eq_false_iff_ne]; omega
        clear hN0 HD HW1 HB1 HK1 h0
        go_wp2
        rw [HNN.out]
        clear d0
      all_goals
        have hNle : num (mk ts t) t ≤ 100001 := by have h1 := num_le (mk ts t) t; have h2 := mk_length_le ts t; omega
        have HOUT := Lib.hid (show out ts t n = tok t.kind (num (mk ts t) t) n from rfl)
        obtain ⟨N, hN⟩ : ∃ N, N = num (mk ts t) t := ⟨_, rfl⟩
        rw [← hN] at HOUT hNle ⊢
        clear hN HNN
        go_loopw [7, 10, 11] (fun vn vs vi wr => ∃ i : Nat, i ≤ 8 ∧ vn = .int .i64 ((N / 256 ^ i : Nat) : Int) ∧ vs = .string (str (le i N)) ∧ vi = .int .i64 i ∧ (∃ F' M' cM', Mw w g F M cM (t ∈ ts) (mk ts t) F' M' cM' wr) ∧ Blk wr w.heap.size 45 (tc t))
          (fun _ _ vi _ => 8 - (intOf vi).toNat)
  all_goals first
    | exact ⟨0, by omega, by simp, rfl, rfl, ⟨_, _, _, HM3.out⟩, HB3.out⟩
    | skip
  all_goals
    obtain ⟨i, hi, rfl, rfl, rfl, ⟨F', M', cM', hm⟩, hb⟩ := hrel
    have HM := Lib.hid hm; have HB := Lib.hid hb
    clear hm hb HM3 HB3
    by_cases hlt : i < 8
    case' pos =>
      obtain ⟨q, hq⟩ : ∃ q, q = N / 256 ^ i := ⟨_, rfl⟩
      obtain ⟨x, hx⟩ : ∃ x, x = UInt8.ofNat q := ⟨_, rfl⟩
      have hqN : q ≤ N := by rw [hq]; exact Nat.div_le_self _ _
      have HL := Lib.hid (show le i N ++ [x] = le (i + 1) N by rw [le_snoc, hx, hq])
      have HQ := Lib.hid (show q / 256 = N / 256 ^ (i + 1) by rw [hq, Nat.div_div_eq_div_mul, Nat.pow_succ])
      obtain ⟨r, hr⟩ : ∃ r, r = q % 256 := ⟨_, rfl⟩
      obtain ⟨q2, hq2⟩ : ∃ q2, q2 = q / 256 := ⟨_, rfl⟩
      have e1 : (q : Int).tmod 256 = (r : Int) := by rw [Int.tmod_eq_emod_of_nonneg (by omega)]; omega
      have e2 : IntKind.u8.wrap (r : Int) = (x.toNat : Int) := by rw [IntKind.wrap_u8, hx, UInt8.toNat_ofNat']; omega
      have e3 : (q : Int).tdiv 256 = (q2 : Int) := by rw [Int.tdiv_eq_ediv_of_nonneg (by omega)]; omega
      have e4 : IntKind.i64.wrap (q2 : Int) = (q2 : Int) := wrapI _ _ rfl (by omega)
      have e5 : IntKind.i64.wrap (r : Int) = (r : Int) := wrapI _ _ rfl (by omega)
      have hcv : (convert 34 9 (.slice (some ⟨wr.heap.size, 0, none⟩) 1 1)).run Try.prog (wr.alloc (.cells #[.int .u8 (x.toNat : Int)] 5)) = .ok (.string (str [x])) (wr.alloc (.cells #[.int .u8 (x.toNat : Int)] 5)) :=
        run_bytes_str _ 34 9 5 (by kernel_rfl) (by kernel_rfl) (by kernel_rfl) _ 1 1 [x] rfl (row_one wr (bv x) _)
      have c1 : (le i N).length ≤ 8 := by rw [le_length]; omega
      rw [← hq]
      rw [← hq2] at HQ
      clear hq hx hr hq2 hqN
      go_wp2
      have HKA := Lib.hid ((Kp.refl nob wr).alloc (.cells #[.int .u8 (x.toNat : Int)] 5))
      exact ⟨⟨i + 1, by omega, by rw [HQ.out], by rw [HL.out], by go_num, ⟨F', M', cM', HM.out.keep HKA.out⟩, HB.out.keep HKA.out (fun e => e)⟩, by simp [intOf]; omega⟩
    case' neg =>
      obtain rfl : i = 8 := by omega
      have ck : wr.cell? ⟨w.heap.size, 0, none⟩ = some (.int .u8 (t.kind.toNat : Int)) := by rw [HB.out.cell]; rfl
      have hcv : (convert 34 9 (.slice (some ⟨wr.heap.size, 0, none⟩) 1 1)).run Try.prog (wr.alloc (.cells #[.int .u8 (t.kind.toNat : Int)] 5)) = .ok (.string (str [t.kind])) (wr.alloc (.cells #[.int .u8 (t.kind.toNat : Int)] 5)) :=
        run_bytes_str _ 34 9 5 (by kernel_rfl) (by kernel_rfl) (by kernel_rfl) _ 1 1 [t.kind] rfl (row_one wr (bv t.kind) _)
      have c1 : (le 8 N).length = 8 := le_length 8 N
      have HM2 := Lib.hid (HM.out.keep ((Kp.refl nob wr).alloc (.cells #[.int .u8 (t.kind.toNat : Int)] 5)))
      go_wp2
      clear ck hcv HM HB
      go_loopw [10] (fun vs wx => ∃ j : Nat, j ≤ n - 9 ∧ vs = .string (str (le 8 N ++ [t.kind] ++ List.replicate j 0xee)) ∧ (∃ F' M' cM', Mw w g F M cM (t ∈ ts) (mk ts t) F' M' cM' wx))
        (fun vs _ => n - lenS vs)
  all_goals first
    | exact ⟨0, by omega, by simp, ⟨_, _, _, HM2.out⟩⟩
    | skip
  all_goals
    obtain ⟨j, hj, rfl, F', M', cM', hm⟩ := hrel
    have HM := Lib.hid hm
    clear hm HM2
    obtain ⟨Z, hZ⟩ : ∃ Z, Z = le 8 N ++ [t.kind] ++ List.replicate j 0xee := ⟨_, rfl⟩
    have hzl : Z.length = 9 + j := by rw [hZ]; simp [le_length]; omega
    have HZS := Lib.hid (show Z ++ [0xee] = le 8 N ++ [t.kind] ++ List.replicate (j + 1) 0xee by rw [hZ, List.append_assoc, ← List.replicate_succ']) 
    rw [← hZ]
    have HZ := Lib.hid hZ; clear hZ
    by_cases hlt : 9 + j < n
    · have hee : (ByteArray.mk #[238]) = str [0xee] := rfl
      rw [show (⟨#[238]⟩ : ByteArray) = str [0xee] from rfl]
      go_wp2
      exact ⟨⟨j + 1, by omega, by rw [HZS.out], ⟨F', M', cM', HM.out⟩⟩, by simp only [lenS, str_size, List.length_append, hzl, List.length_singleton]; omega⟩
    · have HEQ := Lib.hid (show Z = out ts t n by rw [HZ.out, HOUT.out, tok, show n - 9 = j by omega])
      go_wp2
      go_ret
      exact ⟨by rw [HEQ.out]; rfl, F', M', cM', HM.out⟩
end Go.Proofs.Ytakhanganifpnaa.Ideal
