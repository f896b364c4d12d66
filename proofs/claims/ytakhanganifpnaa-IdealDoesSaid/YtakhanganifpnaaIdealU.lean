/- The code's ideal world: what is opened. -/
import Derived.Test.YtakhanganifpnaaIdealQ
import Derived.Test.YtakhanganifpnaaBlkG
namespace Go.Proofs.Ytakhanganifpnaa.Ideal
set_option linter.unusedVariables false
set_option linter.unusedSimpArgs false
open Go Go.RowKit Kit
open Sha (Pc PcsOk catP catP_snoc catP_le)

theorem beq_sl (l m : List UInt8) : ((str l).toList == (str m).toList) = decide (l = m) := by
  rw [str_toList, str_toList, Bool.eq_iff_iff]; simp
theorem neq_str (w : World) (l m : List UInt8) : (binOp .neq 9 (.string (str l)) (.string (str m))).run Try.prog w = .ok (.bool (!decide (l = m))) w := by
  rw [binOp_string_neq, beq_sl]; rfl
theorem exec_neq {a : Act} {o : Oper} {w : World} (i j : Nat) (u : TypeId) (l m : List UInt8) (ho : o.op = .binOp .neq 9 (.tmp i) (.tmp j) u) (hx : a.eval (.tmp i) = .string (str l)) (hy : a.eval (.tmp j) = .string (str m)) : (execOp a.eval o).run Try.prog w = .ok (.value (.bool (!decide (l = m)))) w := by
  have hg : (eqGuard .neq 9 (.tmp i) (.tmp j) (.string (str l)) (.string (str m))).run Try.prog w = .ok () w := by kernel_rfl
  have hn := neq_str w l m
  unfold execOp
  simp only [ho, hx, hy, Sem.run_bind, hg, hn, Result.andThen_ok, Sem.run_pure]
set_option maxHeartbeats 400000 in
theorem equal_any (A B : Option Addr) (n c m d : Nat) (l k : List UInt8) (w : World) (hl : l.length = n) (hk : k.length = m) (hA : Row w A (bvs l)) (hB : Row w B (bvs k)) :
    Calls Try.prog 26 #[.slice A n c, .slice B m d] w fun e w' => e = .returned (.bool (decide (l = k))) ∧ w = w' := by
  have c1 := conv_row w A n c l hl hA
  have c2 := conv_row w B m d k hk hB
  have e1 := beq_sl l k
  go_enter Try.func26, Try.ntmps26
  go_wp2
  go_ret
  exact ⟨by rw [← e1]; rfl, rfl⟩
/-- The number that bytes begin with. -/
def numOf (b : List UInt8) : Int := (sNum (b, false)).1
theorem numOf_tok (k : UInt8) (n c : Nat) (h : n < 4611686018427387904) : numOf (tok k n c) = n := by
  have e : tok k n c = le 8 n ++ ([k] ++ List.replicate (c - 9) 0xee) := by rw [tok, List.append_assoc]
  unfold numOf
  rw [e, sNum, sTake_app _ _ 8 (by simp)]
  show wrap64 (lowN (le 8 n) : Nat) = n
  rw [lowN_le]
  have := Nat.mod_eq_of_lt (show n < 256 ^ 8 by omega)
  rw [this]
  have := IntKind.wrap_i64 (n : Int)
  simp only [wrap64] at *
  omega
/-- Nothing is opened, unless the bytes are those of a seal that was made so. -/
theorem opn_num {ts : List Thing} (hl : ts.length ≤ 100000) {key nonce aad b d : List UInt8} (h : opn ts key nonce aad b = some d) :
    sealT key nonce aad d ∈ ts ∧ b = tok 83 (num ts (sealT key nonce aad d)) (d.length + 16) ∧ numOf b = num ts (sealT key nonce aad d) := by
  obtain ⟨h1, h2⟩ := (opn_iff ts key nonce aad b d (by omega)).1 h
  rw [out_old _ _ _ h1] at h2
  have h2 : tok 83 (num ts (sealT key nonce aad d)) (d.length + 16) = b := h2
  have := num_le ts (sealT key nonce aad d)
  exact ⟨h1, h2.symm, by rw [← h2]; exact numOf_tok _ _ _ (by omega)⟩

set_option maxHeartbeats 4000000 in
set_option maxRecDepth 100000 in
theorem open_miss (p bn bs : Nat) (cs : List Thing) (K : Option Addr) (nk ck : Nat) (key : List UInt8) (N : Option Addr) (nn cn : Nat) (nonce : List UInt8) (T : Option Addr) (nt ct' : Nat) (text : List UInt8) (B : Option Addr) (m d : Nat) (ps : List Pc) (w0 : World)
    (hw : Cx w0 p bn bs cs (fun _ => True)) (hk : Arg w0 (Cf p bn bs) K nk ck key) (hn : Arg w0 (Cf p bn bs) N nn cn nonce) (ht : Arg w0 (Cf p bn bs) T nt ct' text) (hp : Args w0 (Cf p bn bs) B m ps) (lt : text.length ≤ 1048592) (lp : (catP ps).length ≤ 1048576) (hl : cs.length ≤ 100000)
    (hno : ∀ (i : Nat) (t : Thing), cs[i]? = some t → t.kind = 83 → (i : Int) + 1 ≠ numOf text) :
    Calls Try.prog 13 #[.pointer (some ⟨p, 0, none⟩), .slice K nk ck, .slice N nn cn, .slice T nt ct', .slice B m d] w0 fun e w' => e = .returned (.tuple #[.slice none 0 0, .int .i64 9]) ∧ Kp nob w0 w' := by
  have HNO := Lib.hid hno
  clear hno
  have HW := Lib.hid hw
  have HK := Lib.hid hk; have HN := Lib.hid hn; have HT := Lib.hid ht; have HP := Lib.hid hp
  have HLT := Lib.hid lt; have HLP := Lib.hid lp; have HL := Lib.hid hl
  have hz : ∀ w, (zeroValue 61).run Try.prog w = .ok (.agg (tc ⟨0, [], [], [], []⟩).toArray) w := fun w => by kernel_rfl
  have HZ := Lib.hid hz
  clear hw hk hn ht hp lt lp hl
  go_enter Try.func13, Try.ntmps13
  go_wp2_with fail
  refine (rRead2 T nt ct' text _ HT.out.len (by have := HT.out.len; have := HLT.out; omega) HT.out.nil HT.out.row).mono ?_
  rintro e w1 ⟨rb, A1, rfl, hr, k1, hf1, hlt1⟩
  have HK1 := Lib.hid k1
  have HF1 := Lib.hid (hf1 rb (.inl rfl))
  have HR := Lib.hid hr
  clear hr k1 hf1 hlt1 hz
  go_wp2_with fail
  refine (rNum rb A1 (text, false) _ HR.out).mono ?_
  rintro e w2 ⟨rfl, A2, _, k2, _⟩
  have HK2 := Lib.hid (HK1.out.since k2 (fun i e => by have e : i = rb := e; have := HF1.out; omega))
  have HW2 := Lib.hid (HW.out.keep0 HK2.out)
  rw [show (sNum (text, false)).1 = numOf text from rfl]
  clear k2
  have hc2 : w2.cell? ⟨p, 1, none⟩ = some (.map (some bs)) := by rw [HW2.out.b.cell]; rfl
  obtain ⟨q, hq⟩ : ∃ q, q = numOf text := ⟨_, rfl⟩
  rw [← hq]
  have HQ := Lib.hid hq
  clear hq
  obtain ⟨ps', m1, m2⟩ := HW2.out.s
  have HLK := Lib.hid (m1.look_not (t := 54) int_keys m2.keys smap_under (HZ.out w2) q (fun x hx e => by
    obtain ⟨i, t, h1, h2, rfl⟩ := m2.all x hx
    injection e with _ e
    exact HNO.out i t h1 h2 (by rw [e, HQ.out])))
  clear m1 m2
  go_wp2_with (first
    | (refine wpList_look_eq rfl (.tmp 24) (.tmp 25) 54 true rfl _ HLK.out ?_)
    | (refine wpList_store_new rfl 61 (.tmp 13) (.tmp 27) rfl _ (tc ⟨0, [], [], [], []⟩) rfl rfl rfl (by kernel_rfl) (tc_one _) ?_; intro w3 hB3 k3 z3; have HK3 := Lib.hid (HK2.out.trans k3 (fun _ e => e.elim)); clear hB3 k3 z3)
    | fail)
  go_ret2
  exact ⟨rfl, HK3.out⟩
set_option maxHeartbeats 4000000 in
set_option maxRecDepth 100000 in
theorem open_hit1 (p bn bs : Nat) (cs : List Thing) (K : Option Addr) (nk ck : Nat) (key : List UInt8) (N : Option Addr) (nn cn : Nat) (nonce : List UInt8) (T : Option Addr) (nt ct' : Nat) (text : List UInt8) (B : Option Addr) (m d : Nat) (ps : List Pc) (w0 : World)
    (hw : Cx w0 p bn bs cs (fun _ => True)) (hk : Arg w0 (Cf p bn bs) K nk ck key) (hn : Arg w0 (Cf p bn bs) N nn cn nonce) (ht : Arg w0 (Cf p bn bs) T nt ct' text) (hp : Args w0 (Cf p bn bs) B m ps) (lt : text.length ≤ 1048592) (lp : (catP ps).length ≤ 1048576) (hl : cs.length ≤ 100000)
    (i : Nat) (t : Thing) (hit : cs[i]? = some t) (hkd : t.kind = 83) (hnum : numOf text = (i : Int) + 1) (he : text ≠ tok 83 (i + 1) (t.d.length + 16)) :
    Calls Try.prog 13 #[.pointer (some ⟨p, 0, none⟩), .slice K nk ck, .slice N nn cn, .slice T nt ct', .slice B m d] w0 fun e w' => e = .returned (.tuple #[.slice none 0 0, .int .i64 9]) ∧ Kp nob w0 w' := by
  have HIT := Lib.hid hit; have HKD := Lib.hid hkd; have HNUM := Lib.hid hnum
  have hib : i < cs.length := (List.getElem?_eq_some_iff.1 hit).1
  have hd : t.d.length ≤ 1048576 := hw.sm t (List.mem_of_getElem? hit) hkd
  have hib2 : i ≤ 100000 := by omega
  clear hit hkd hnum hib
  have HE := Lib.hid he; clear he
  have HW := Lib.hid hw
  have HK := Lib.hid hk; have HN := Lib.hid hn; have HT := Lib.hid ht; have HP := Lib.hid hp
  have HLT := Lib.hid lt; have HLP := Lib.hid lp; have HL := Lib.hid hl
  have hz : ∀ w, (zeroValue 61).run Try.prog w = .ok (.agg (tc ⟨0, [], [], [], []⟩).toArray) w := fun w => by kernel_rfl
  have HZ := Lib.hid hz
  clear hw hk hn ht hp lt lp hl
  go_enter Try.func13, Try.ntmps13
  go_wp2_with fail
  refine (rRead2 T nt ct' text _ HT.out.len (by have := HT.out.len; have := HLT.out; omega) HT.out.nil HT.out.row).mono ?_
  rintro e w1 ⟨rb, A1, rfl, hr, k1, hf1, hlt1⟩
  have HK1 := Lib.hid k1
  have HF1 := Lib.hid (hf1 rb (.inl rfl))
  have HR := Lib.hid hr
  clear hr k1 hf1 hlt1 hz
  go_wp2_with fail
  refine (rNum rb A1 (text, false) _ HR.out).mono ?_
  rintro e w2 ⟨rfl, A2, _, k2, _⟩
  have HK2 := Lib.hid (HK1.out.since k2 (fun i e => by have e : i = rb := e; have := HF1.out; omega))
  have HW2 := Lib.hid (HW.out.keep0 HK2.out)
  rw [show (sNum (text, false)).1 = ((i : Int) + 1) from HNUM.out]
  clear k2
  have hc2 : w2.cell? ⟨p, 1, none⟩ = some (.map (some bs)) := by rw [HW2.out.b.cell]; rfl
  obtain ⟨ps', m1, m2⟩ := HW2.out.s
  have HLK := Lib.hid (m1.look_has (t := 54) int_keys m2.keys smap_under ((i : Int) + 1) (cv t) (m2.has i t HIT.out HKD.out trivial) (fun u hu => m2.one i t HIT.out u hu))
  clear m1 m2
  have hsl : ∀ w, Calls Try.prog 23 #[.agg (tc t).toArray, .int .i64 ((i : Int) + 1)] w fun e w' => ∃ A c, e = .returned (.slice A (t.d.length + 16) c) ∧ Kit.Own 5 w' A (t.d.length + 16) c (bvs (tok t.kind (i + 1) (t.d.length + 16))) ∧ Kp nob w w' ∧ Fresh w.heap.size A ∧ (A = none → c = 0) := fun w => by
    have := sealed_any t (i + 1) w (by omega) hd
    rwa [show ((i + 1 : Nat) : Int) = (i : Int) + 1 from rfl] at this
  have HSL := Lib.hid hsl
  clear hsl
  go_wp2_with (first
    | (refine wpList_look_eq rfl (.tmp 24) (.tmp 25) 54 true rfl _ HLK.out ?_)
    | (refine wpList_store_new rfl 61 (.tmp 13) (.tmp 27) rfl _ (tc t) rfl rfl rfl (by kernel_rfl) (tc_one _) ?_; intro w3 hB3 k3 z3; have HK3 := Lib.hid (HK2.out.trans k3 (fun _ e => e.elim)); have HB3 := Lib.hid hB3; clear hB3 k3 z3)
    | (refine wpList_load_gd 61 (.tmp 13) rfl (by rfl) _ _ (tc t) HB3.out rfl _ cthing_under rfl (by kernel_rfl) ?_)
    | fail)
  refine (HSL.out _).mono ?_
  rintro e w4 ⟨X, cX, rfl, ho4, k4, _, _⟩
  have HK4 := Lib.hid (HK3.out.trans k4 (fun _ e => e.elim))
  have HB4 := Lib.hid (HB3.out.keep k4 (fun e => e))
  have HRX := Lib.hid ho4.row
  clear ho4 k4
  go_wp2_with fail
  refine (equal_any T X nt ct' (t.d.length + 16) cX text (tok t.kind (i + 1) (t.d.length + 16)) _ HT.out.len (tok_length _ _ _ (by omega)) (HT.out.keep0 HK4.out).row HRX.out).mono ?_
  rintro e w5 ⟨rfl, rfl⟩
  rw [HKD.out, show decide (text = tok 83 (i + 1) (t.d.length + 16)) = false from decide_eq_false HE.out]
  go_wp2
  go_ret2
  exact ⟨rfl, HK4.out⟩
set_option maxHeartbeats 4000000 in
set_option maxRecDepth 100000 in
theorem open_hit2 (p bn bs : Nat) (cs : List Thing) (K : Option Addr) (nk ck : Nat) (key : List UInt8) (N : Option Addr) (nn cn : Nat) (nonce : List UInt8) (T : Option Addr) (nt ct' : Nat) (text : List UInt8) (B : Option Addr) (m d : Nat) (ps : List Pc) (w0 : World)
    (hw : Cx w0 p bn bs cs (fun _ => True)) (hk : Arg w0 (Cf p bn bs) K nk ck key) (hn : Arg w0 (Cf p bn bs) N nn cn nonce) (ht : Arg w0 (Cf p bn bs) T nt ct' text) (hp : Args w0 (Cf p bn bs) B m ps) (lt : text.length ≤ 1048592) (lp : (catP ps).length ≤ 1048576) (hl : cs.length ≤ 100000)
    (i : Nat) (t : Thing) (hit : cs[i]? = some t) (hkd : t.kind = 83) (hnum : numOf text = (i : Int) + 1) (he : text = tok 83 (i + 1) (t.d.length + 16)) (ha : t.a ≠ key) :
    Calls Try.prog 13 #[.pointer (some ⟨p, 0, none⟩), .slice K nk ck, .slice N nn cn, .slice T nt ct', .slice B m d] w0 fun e w' => e = .returned (.tuple #[.slice none 0 0, .int .i64 9]) ∧ Kp nob w0 w' := by
  have HIT := Lib.hid hit; have HKD := Lib.hid hkd; have HNUM := Lib.hid hnum
  have hib : i < cs.length := (List.getElem?_eq_some_iff.1 hit).1
  have hd : t.d.length ≤ 1048576 := hw.sm t (List.mem_of_getElem? hit) hkd
  have hib2 : i ≤ 100000 := by omega
  clear hit hkd hnum hib
  have HE := Lib.hid he; clear he
  have HHA := Lib.hid ha; clear ha
  have HW := Lib.hid hw
  have HK := Lib.hid hk; have HN := Lib.hid hn; have HT := Lib.hid ht; have HP := Lib.hid hp
  have HLT := Lib.hid lt; have HLP := Lib.hid lp; have HL := Lib.hid hl
  have hz : ∀ w, (zeroValue 61).run Try.prog w = .ok (.agg (tc ⟨0, [], [], [], []⟩).toArray) w := fun w => by kernel_rfl
  have HZ := Lib.hid hz
  clear hw hk hn ht hp lt lp hl
  go_enter Try.func13, Try.ntmps13
  go_wp2_with fail
  refine (rRead2 T nt ct' text _ HT.out.len (by have := HT.out.len; have := HLT.out; omega) HT.out.nil HT.out.row).mono ?_
  rintro e w1 ⟨rb, A1, rfl, hr, k1, hf1, hlt1⟩
  have HK1 := Lib.hid k1
  have HF1 := Lib.hid (hf1 rb (.inl rfl))
  have HR := Lib.hid hr
  clear hr k1 hf1 hlt1 hz
  go_wp2_with fail
  refine (rNum rb A1 (text, false) _ HR.out).mono ?_
  rintro e w2 ⟨rfl, A2, _, k2, _⟩
  have HK2 := Lib.hid (HK1.out.since k2 (fun i e => by have e : i = rb := e; have := HF1.out; omega))
  have HW2 := Lib.hid (HW.out.keep0 HK2.out)
  rw [show (sNum (text, false)).1 = ((i : Int) + 1) from HNUM.out]
  clear k2
  have hc2 : w2.cell? ⟨p, 1, none⟩ = some (.map (some bs)) := by rw [HW2.out.b.cell]; rfl
  obtain ⟨ps', m1, m2⟩ := HW2.out.s
  have HLK := Lib.hid (m1.look_has (t := 54) int_keys m2.keys smap_under ((i : Int) + 1) (cv t) (m2.has i t HIT.out HKD.out trivial) (fun u hu => m2.one i t HIT.out u hu))
  clear m1 m2
  have hsl : ∀ w, Calls Try.prog 23 #[.agg (tc t).toArray, .int .i64 ((i : Int) + 1)] w fun e w' => ∃ A c, e = .returned (.slice A (t.d.length + 16) c) ∧ Kit.Own 5 w' A (t.d.length + 16) c (bvs (tok t.kind (i + 1) (t.d.length + 16))) ∧ Kp nob w w' ∧ Fresh w.heap.size A ∧ (A = none → c = 0) := fun w => by
    have := sealed_any t (i + 1) w (by omega) hd
    rwa [show ((i + 1 : Nat) : Int) = (i : Int) + 1 from rfl] at this
  have HSL := Lib.hid hsl
  clear hsl
  go_wp2_with (first
    | (refine wpList_look_eq rfl (.tmp 24) (.tmp 25) 54 true rfl _ HLK.out ?_)
    | (refine wpList_store_new rfl 61 (.tmp 13) (.tmp 27) rfl _ (tc t) rfl rfl rfl (by kernel_rfl) (tc_one _) ?_; intro w3 hB3 k3 z3; have HK3 := Lib.hid (HK2.out.trans k3 (fun _ e => e.elim)); have HB3 := Lib.hid hB3; clear hB3 k3 z3)
    | (refine wpList_load_gd 61 (.tmp 13) rfl (by rfl) _ _ (tc t) HB3.out rfl _ cthing_under rfl (by kernel_rfl) ?_)
    | fail)
  refine (HSL.out _).mono ?_
  rintro e w4 ⟨X, cX, rfl, ho4, k4, _, _⟩
  have HK4 := Lib.hid (HK3.out.trans k4 (fun _ e => e.elim))
  have HB4 := Lib.hid (HB3.out.keep k4 (fun e => e))
  have HRX := Lib.hid ho4.row
  clear ho4 k4
  go_wp2_with fail
  refine (equal_any T X nt ct' (t.d.length + 16) cX text (tok t.kind (i + 1) (t.d.length + 16)) _ HT.out.len (tok_length _ _ _ (by omega)) (HT.out.keep0 HK4.out).row HRX.out).mono ?_
  rintro e w5 ⟨rfl, rfl⟩
  rw [HKD.out, show decide (text = tok 83 (i + 1) (t.d.length + 16)) = true from decide_eq_true HE.out]
  obtain ⟨q, hq⟩ : ∃ q, q = w2.heap.size := ⟨_, rfl⟩
  rw [← hq] at HB4 HB3 ⊢
  have HQ := Lib.hid hq
  clear hq HB3
  go_wp2
  have HS0 : Hid (Kp nob w0 w4.drew ∧ Blk w4.drew q 61 (tc t)) := Lib.hid ⟨HK4.out.drew, HB4.out⟩
  refine reg_begin (fun w' : World => Kp nob w0 w' ∧ Blk w' q 61 (tc t)) (by kernel_rfl) HS0.out (fun _ => ?_)
  refine reg_take (v := .pointer (some ⟨q, 1, none⟩)) 0 (some 39) rfl rfl (by kernel_rfl) (by kernel_rfl) (by kernel_rfl) (by rfl) HS0.out (fun w hw => by go_simp) ?_
  simp only [Act.put, List.setIfInBounds_toArray, List.set_cons_zero, List.set_cons_succ]
  refine reg_take (v := .string (str t.a)) 1 (some 40) rfl rfl (by kernel_rfl) (by kernel_rfl) (by kernel_rfl) (by rfl) HS0.out (fun w hw => by have hc : w.cell? ⟨q, 1, none⟩ = some (.string (str t.a)) := (hw.2.cell 1).trans rfl; go_simp) ?_
  simp only [Act.put, List.setIfInBounds_toArray, List.set_cons_zero, List.set_cons_succ]
  refine reg_take (v := .slice K nk ck) 2 (some 41) rfl rfl (by kernel_rfl) (by kernel_rfl) (by kernel_rfl) (by rfl) HS0.out (fun w hw => by go_simp) ?_
  simp only [Act.put, List.setIfInBounds_toArray, List.set_cons_zero, List.set_cons_succ]
  refine reg_bytesStr 3 (some 42) 34 9 5 (.tmp 41) rfl rfl rfl (by kernel_rfl) (by kernel_rfl) (by kernel_rfl) (by rfl) HS0.out u8i_under (by kernel_rfl) (by kernel_rfl) K nk ck key HK.out.len rfl (fun _ x => (HK.out.keep0 x.1).row) ?_
  simp only [Act.put, List.setIfInBounds_toArray, List.set_cons_zero, List.set_cons_succ]
  refine reg_take (v := .bool true) 4 (some 43) rfl rfl (by kernel_rfl) (by kernel_rfl) (by kernel_rfl) (by rfl) HS0.out (fun w hw => by exact (exec_neq 40 42 _ t.a key rfl rfl rfl).trans (by rw [show (!decide (t.a = key)) = true from by simp [HHA.out]])) ?_
  simp only [Act.put, List.setIfInBounds_toArray, List.set_cons_zero, List.set_cons_succ]
  refine reg_take (v := .bool true) 5 (some 44) rfl rfl (by kernel_rfl) (by kernel_rfl) (by kernel_rfl) (by rfl) HS0.out (fun w hw => by go_simp) ?_
  simp only [Act.put, List.setIfInBounds_toArray, List.set_cons_zero, List.set_cons_succ]
  refine reg_skip 6 (some 45) rfl rfl (by kernel_rfl) (by kernel_rfl) (by kernel_rfl) (by rfl) HS0.out ?_
  simp only [Act.put, List.setIfInBounds_toArray, List.set_cons_zero, List.set_cons_succ]
  refine reg_skip 7 (some 46) rfl rfl (by kernel_rfl) (by kernel_rfl) (by kernel_rfl) (by rfl) HS0.out ?_
  simp only [Act.put, List.setIfInBounds_toArray, List.set_cons_zero, List.set_cons_succ]
  refine reg_skip 8 (some 47) rfl rfl (by kernel_rfl) (by kernel_rfl) (by kernel_rfl) (by rfl) HS0.out ?_
  simp only [Act.put, List.setIfInBounds_toArray, List.set_cons_zero, List.set_cons_succ]
  refine reg_skip 9 (some 48) rfl rfl (by kernel_rfl) (by kernel_rfl) (by kernel_rfl) (by rfl) HS0.out ?_
  simp only [Act.put, List.setIfInBounds_toArray, List.set_cons_zero, List.set_cons_succ]
  refine reg_skip 10 (some 49) rfl rfl (by kernel_rfl) (by kernel_rfl) (by kernel_rfl) (by rfl) HS0.out ?_
  simp only [Act.put, List.setIfInBounds_toArray, List.set_cons_zero, List.set_cons_succ]
  refine reg_take (v := .bool true) 11 (some 50) rfl rfl (by kernel_rfl) (by kernel_rfl) (by kernel_rfl) (by rfl) HS0.out (fun w hw => by go_simp) ?_
  simp only [Act.put, List.setIfInBounds_toArray, List.set_cons_zero, List.set_cons_succ]
  refine reg_take (v := .bool true) 12 (some 51) rfl rfl (by kernel_rfl) (by kernel_rfl) (by kernel_rfl) (by rfl) HS0.out (fun w hw => by go_simp) ?_
  simp only [Act.put, List.setIfInBounds_toArray, List.set_cons_zero, List.set_cons_succ]
  refine reg_skip 13 (some 52) rfl rfl (by kernel_rfl) (by kernel_rfl) (by kernel_rfl) (by rfl) HS0.out ?_
  simp only [Act.put, List.setIfInBounds_toArray, List.set_cons_zero, List.set_cons_succ]
  refine reg_skip 14 (some 53) rfl rfl (by kernel_rfl) (by kernel_rfl) (by kernel_rfl) (by rfl) HS0.out ?_
  simp only [Act.put, List.setIfInBounds_toArray, List.set_cons_zero, List.set_cons_succ]
  refine reg_skip 15 (some 54) rfl rfl (by kernel_rfl) (by kernel_rfl) (by kernel_rfl) (by rfl) HS0.out ?_
  simp only [Act.put, List.setIfInBounds_toArray, List.set_cons_zero, List.set_cons_succ]
  refine reg_skip 16 (some 55) rfl rfl (by kernel_rfl) (by kernel_rfl) (by kernel_rfl) (by rfl) HS0.out ?_
  simp only [Act.put, List.setIfInBounds_toArray, List.set_cons_zero, List.set_cons_succ]
  refine reg_skip 17 (some 56) rfl rfl (by kernel_rfl) (by kernel_rfl) (by kernel_rfl) (by rfl) HS0.out ?_
  simp only [Act.put, List.setIfInBounds_toArray, List.set_cons_zero, List.set_cons_succ]
  refine reg_take (v := .bool true) 18 (some 57) rfl rfl (by kernel_rfl) (by kernel_rfl) (by kernel_rfl) (by rfl) HS0.out (fun w hw => by go_simp) ?_
  simp only [Act.put, List.setIfInBounds_toArray, List.set_cons_zero, List.set_cons_succ]
  refine reg_end (by kernel_rfl) ?_
  go_wp2
  go_ret2
  exact ⟨rfl, HS0.out.1⟩
set_option maxHeartbeats 4000000 in
set_option maxRecDepth 100000 in
theorem open_hit3 (p bn bs : Nat) (cs : List Thing) (K : Option Addr) (nk ck : Nat) (key : List UInt8) (N : Option Addr) (nn cn : Nat) (nonce : List UInt8) (T : Option Addr) (nt ct' : Nat) (text : List UInt8) (B : Option Addr) (m d : Nat) (ps : List Pc) (w0 : World)
    (hw : Cx w0 p bn bs cs (fun _ => True)) (hk : Arg w0 (Cf p bn bs) K nk ck key) (hn : Arg w0 (Cf p bn bs) N nn cn nonce) (ht : Arg w0 (Cf p bn bs) T nt ct' text) (hp : Args w0 (Cf p bn bs) B m ps) (lt : text.length ≤ 1048592) (lp : (catP ps).length ≤ 1048576) (hl : cs.length ≤ 100000)
    (i : Nat) (t : Thing) (hit : cs[i]? = some t) (hkd : t.kind = 83) (hnum : numOf text = (i : Int) + 1) (he : text = tok 83 (i + 1) (t.d.length + 16)) (ha : t.a = key) (hb : t.b ≠ nonce) :
    Calls Try.prog 13 #[.pointer (some ⟨p, 0, none⟩), .slice K nk ck, .slice N nn cn, .slice T nt ct', .slice B m d] w0 fun e w' => e = .returned (.tuple #[.slice none 0 0, .int .i64 9]) ∧ Kp nob w0 w' := by
  have HIT := Lib.hid hit; have HKD := Lib.hid hkd; have HNUM := Lib.hid hnum
  have hib : i < cs.length := (List.getElem?_eq_some_iff.1 hit).1
  have hd : t.d.length ≤ 1048576 := hw.sm t (List.mem_of_getElem? hit) hkd
  have hib2 : i ≤ 100000 := by omega
  clear hit hkd hnum hib
  have HE := Lib.hid he; clear he
  have HHA := Lib.hid ha; clear ha
  have HHB := Lib.hid hb; clear hb
  have HW := Lib.hid hw
  have HK := Lib.hid hk; have HN := Lib.hid hn; have HT := Lib.hid ht; have HP := Lib.hid hp
  have HLT := Lib.hid lt; have HLP := Lib.hid lp; have HL := Lib.hid hl
  have hz : ∀ w, (zeroValue 61).run Try.prog w = .ok (.agg (tc ⟨0, [], [], [], []⟩).toArray) w := fun w => by kernel_rfl
  have HZ := Lib.hid hz
  clear hw hk hn ht hp lt lp hl
  go_enter Try.func13, Try.ntmps13
  go_wp2_with fail
  refine (rRead2 T nt ct' text _ HT.out.len (by have := HT.out.len; have := HLT.out; omega) HT.out.nil HT.out.row).mono ?_
  rintro e w1 ⟨rb, A1, rfl, hr, k1, hf1, hlt1⟩
  have HK1 := Lib.hid k1
  have HF1 := Lib.hid (hf1 rb (.inl rfl))
  have HR := Lib.hid hr
  clear hr k1 hf1 hlt1 hz
  go_wp2_with fail
  refine (rNum rb A1 (text, false) _ HR.out).mono ?_
  rintro e w2 ⟨rfl, A2, _, k2, _⟩
  have HK2 := Lib.hid (HK1.out.since k2 (fun i e => by have e : i = rb := e; have := HF1.out; omega))
  have HW2 := Lib.hid (HW.out.keep0 HK2.out)
  rw [show (sNum (text, false)).1 = ((i : Int) + 1) from HNUM.out]
  clear k2
  have hc2 : w2.cell? ⟨p, 1, none⟩ = some (.map (some bs)) := by rw [HW2.out.b.cell]; rfl
  obtain ⟨ps', m1, m2⟩ := HW2.out.s
  have HLK := Lib.hid (m1.look_has (t := 54) int_keys m2.keys smap_under ((i : Int) + 1) (cv t) (m2.has i t HIT.out HKD.out trivial) (fun u hu => m2.one i t HIT.out u hu))
  clear m1 m2
  have hsl : ∀ w, Calls Try.prog 23 #[.agg (tc t).toArray, .int .i64 ((i : Int) + 1)] w fun e w' => ∃ A c, e = .returned (.slice A (t.d.length + 16) c) ∧ Kit.Own 5 w' A (t.d.length + 16) c (bvs (tok t.kind (i + 1) (t.d.length + 16))) ∧ Kp nob w w' ∧ Fresh w.heap.size A ∧ (A = none → c = 0) := fun w => by
    have := sealed_any t (i + 1) w (by omega) hd
    rwa [show ((i + 1 : Nat) : Int) = (i : Int) + 1 from rfl] at this
  have HSL := Lib.hid hsl
  clear hsl
  go_wp2_with (first
    | (refine wpList_look_eq rfl (.tmp 24) (.tmp 25) 54 true rfl _ HLK.out ?_)
    | (refine wpList_store_new rfl 61 (.tmp 13) (.tmp 27) rfl _ (tc t) rfl rfl rfl (by kernel_rfl) (tc_one _) ?_; intro w3 hB3 k3 z3; have HK3 := Lib.hid (HK2.out.trans k3 (fun _ e => e.elim)); have HB3 := Lib.hid hB3; clear hB3 k3 z3)
    | (refine wpList_load_gd 61 (.tmp 13) rfl (by rfl) _ _ (tc t) HB3.out rfl _ cthing_under rfl (by kernel_rfl) ?_)
    | fail)
  refine (HSL.out _).mono ?_
  rintro e w4 ⟨X, cX, rfl, ho4, k4, _, _⟩
  have HK4 := Lib.hid (HK3.out.trans k4 (fun _ e => e.elim))
  have HB4 := Lib.hid (HB3.out.keep k4 (fun e => e))
  have HRX := Lib.hid ho4.row
  clear ho4 k4
  go_wp2_with fail
  refine (equal_any T X nt ct' (t.d.length + 16) cX text (tok t.kind (i + 1) (t.d.length + 16)) _ HT.out.len (tok_length _ _ _ (by omega)) (HT.out.keep0 HK4.out).row HRX.out).mono ?_
  rintro e w5 ⟨rfl, rfl⟩
  rw [HKD.out, show decide (text = tok 83 (i + 1) (t.d.length + 16)) = true from decide_eq_true HE.out]
  obtain ⟨q, hq⟩ : ∃ q, q = w2.heap.size := ⟨_, rfl⟩
  rw [← hq] at HB4 HB3 ⊢
  have HQ := Lib.hid hq
  clear hq HB3
  go_wp2
  have HS0 : Hid (Kp nob w0 w4.drew ∧ Blk w4.drew q 61 (tc t)) := Lib.hid ⟨HK4.out.drew, HB4.out⟩
  refine reg_begin (fun w' : World => Kp nob w0 w' ∧ Blk w' q 61 (tc t)) (by kernel_rfl) HS0.out (fun _ => ?_)
  refine reg_take (v := .pointer (some ⟨q, 1, none⟩)) 0 (some 39) rfl rfl (by kernel_rfl) (by kernel_rfl) (by kernel_rfl) (by rfl) HS0.out (fun w hw => by go_simp) ?_
  simp only [Act.put, List.setIfInBounds_toArray, List.set_cons_zero, List.set_cons_succ]
  refine reg_take (v := .string (str t.a)) 1 (some 40) rfl rfl (by kernel_rfl) (by kernel_rfl) (by kernel_rfl) (by rfl) HS0.out (fun w hw => by have hc : w.cell? ⟨q, 1, none⟩ = some (.string (str t.a)) := (hw.2.cell 1).trans rfl; go_simp) ?_
  simp only [Act.put, List.setIfInBounds_toArray, List.set_cons_zero, List.set_cons_succ]
  refine reg_take (v := .slice K nk ck) 2 (some 41) rfl rfl (by kernel_rfl) (by kernel_rfl) (by kernel_rfl) (by rfl) HS0.out (fun w hw => by go_simp) ?_
  simp only [Act.put, List.setIfInBounds_toArray, List.set_cons_zero, List.set_cons_succ]
  refine reg_bytesStr 3 (some 42) 34 9 5 (.tmp 41) rfl rfl rfl (by kernel_rfl) (by kernel_rfl) (by kernel_rfl) (by rfl) HS0.out u8i_under (by kernel_rfl) (by kernel_rfl) K nk ck key HK.out.len rfl (fun _ x => (HK.out.keep0 x.1).row) ?_
  simp only [Act.put, List.setIfInBounds_toArray, List.set_cons_zero, List.set_cons_succ]
  refine reg_take (v := .bool false) 4 (some 43) rfl rfl (by kernel_rfl) (by kernel_rfl) (by kernel_rfl) (by rfl) HS0.out (fun w hw => by exact (exec_neq 40 42 _ t.a key rfl rfl rfl).trans (by rw [show (!decide (t.a = key)) = false from by simp [HHA.out]])) ?_
  simp only [Act.put, List.setIfInBounds_toArray, List.set_cons_zero, List.set_cons_succ]
  refine reg_take (v := .bool false) 5 (some 44) rfl rfl (by kernel_rfl) (by kernel_rfl) (by kernel_rfl) (by rfl) HS0.out (fun w hw => by go_simp) ?_
  simp only [Act.put, List.setIfInBounds_toArray, List.set_cons_zero, List.set_cons_succ]
  refine reg_take (v := .pointer (some ⟨q, 2, none⟩)) 6 (some 45) rfl rfl (by kernel_rfl) (by kernel_rfl) (by kernel_rfl) (by rfl) HS0.out (fun w hw => by go_simp) ?_
  simp only [Act.put, List.setIfInBounds_toArray, List.set_cons_zero, List.set_cons_succ]
  refine reg_take (v := .string (str t.b)) 7 (some 46) rfl rfl (by kernel_rfl) (by kernel_rfl) (by kernel_rfl) (by rfl) HS0.out (fun w hw => by have hc : w.cell? ⟨q, 2, none⟩ = some (.string (str t.b)) := (hw.2.cell 2).trans rfl; go_simp) ?_
  simp only [Act.put, List.setIfInBounds_toArray, List.set_cons_zero, List.set_cons_succ]
  refine reg_take (v := .slice N nn cn) 8 (some 47) rfl rfl (by kernel_rfl) (by kernel_rfl) (by kernel_rfl) (by rfl) HS0.out (fun w hw => by go_simp) ?_
  simp only [Act.put, List.setIfInBounds_toArray, List.set_cons_zero, List.set_cons_succ]
  refine reg_bytesStr 9 (some 48) 34 9 5 (.tmp 47) rfl rfl rfl (by kernel_rfl) (by kernel_rfl) (by kernel_rfl) (by rfl) HS0.out u8i_under (by kernel_rfl) (by kernel_rfl) N nn cn nonce HN.out.len rfl (fun _ x => (HN.out.keep0 x.1).row) ?_
  simp only [Act.put, List.setIfInBounds_toArray, List.set_cons_zero, List.set_cons_succ]
  refine reg_take (v := .bool true) 10 (some 49) rfl rfl (by kernel_rfl) (by kernel_rfl) (by kernel_rfl) (by rfl) HS0.out (fun w hw => by exact (exec_neq 46 48 _ t.b nonce rfl rfl rfl).trans (by rw [show (!decide (t.b = nonce)) = true from by simp [HHB.out]])) ?_
  simp only [Act.put, List.setIfInBounds_toArray, List.set_cons_zero, List.set_cons_succ]
  refine reg_take (v := .bool true) 11 (some 50) rfl rfl (by kernel_rfl) (by kernel_rfl) (by kernel_rfl) (by rfl) HS0.out (fun w hw => by go_simp) ?_
  simp only [Act.put, List.setIfInBounds_toArray, List.set_cons_zero, List.set_cons_succ]
  refine reg_take (v := .bool true) 12 (some 51) rfl rfl (by kernel_rfl) (by kernel_rfl) (by kernel_rfl) (by rfl) HS0.out (fun w hw => by go_simp) ?_
  simp only [Act.put, List.setIfInBounds_toArray, List.set_cons_zero, List.set_cons_succ]
  refine reg_skip 13 (some 52) rfl rfl (by kernel_rfl) (by kernel_rfl) (by kernel_rfl) (by rfl) HS0.out ?_
  simp only [Act.put, List.setIfInBounds_toArray, List.set_cons_zero, List.set_cons_succ]
  refine reg_skip 14 (some 53) rfl rfl (by kernel_rfl) (by kernel_rfl) (by kernel_rfl) (by rfl) HS0.out ?_
  simp only [Act.put, List.setIfInBounds_toArray, List.set_cons_zero, List.set_cons_succ]
  refine reg_skip 15 (some 54) rfl rfl (by kernel_rfl) (by kernel_rfl) (by kernel_rfl) (by rfl) HS0.out ?_
  simp only [Act.put, List.setIfInBounds_toArray, List.set_cons_zero, List.set_cons_succ]
  refine reg_skip 16 (some 55) rfl rfl (by kernel_rfl) (by kernel_rfl) (by kernel_rfl) (by rfl) HS0.out ?_
  simp only [Act.put, List.setIfInBounds_toArray, List.set_cons_zero, List.set_cons_succ]
  refine reg_skip 17 (some 56) rfl rfl (by kernel_rfl) (by kernel_rfl) (by kernel_rfl) (by rfl) HS0.out ?_
  simp only [Act.put, List.setIfInBounds_toArray, List.set_cons_zero, List.set_cons_succ]
  refine reg_take (v := .bool true) 18 (some 57) rfl rfl (by kernel_rfl) (by kernel_rfl) (by kernel_rfl) (by rfl) HS0.out (fun w hw => by go_simp) ?_
  simp only [Act.put, List.setIfInBounds_toArray, List.set_cons_zero, List.set_cons_succ]
  refine reg_end (by kernel_rfl) ?_
  go_wp2
  go_ret2
  exact ⟨rfl, HS0.out.1⟩
set_option maxHeartbeats 4000000 in
set_option maxRecDepth 100000 in
theorem open_hit4 (p bn bs : Nat) (cs : List Thing) (K : Option Addr) (nk ck : Nat) (key : List UInt8) (N : Option Addr) (nn cn : Nat) (nonce : List UInt8) (T : Option Addr) (nt ct' : Nat) (text : List UInt8) (B : Option Addr) (m d : Nat) (ps : List Pc) (w0 : World)
    (hw : Cx w0 p bn bs cs (fun _ => True)) (hk : Arg w0 (Cf p bn bs) K nk ck key) (hn : Arg w0 (Cf p bn bs) N nn cn nonce) (ht : Arg w0 (Cf p bn bs) T nt ct' text) (hp : Args w0 (Cf p bn bs) B m ps) (lt : text.length ≤ 1048592) (lp : (catP ps).length ≤ 1048576) (hl : cs.length ≤ 100000)
    (i : Nat) (t : Thing) (hit : cs[i]? = some t) (hkd : t.kind = 83) (hnum : numOf text = (i : Int) + 1) (he : text = tok 83 (i + 1) (t.d.length + 16)) (ha : t.a = key) (hb : t.b = nonce) (hc : t.c ≠ catP ps) :
    Calls Try.prog 13 #[.pointer (some ⟨p, 0, none⟩), .slice K nk ck, .slice N nn cn, .slice T nt ct', .slice B m d] w0 fun e w' => e = .returned (.tuple #[.slice none 0 0, .int .i64 9]) ∧ Kp nob w0 w' := by
  have HIT := Lib.hid hit; have HKD := Lib.hid hkd; have HNUM := Lib.hid hnum
  have hib : i < cs.length := (List.getElem?_eq_some_iff.1 hit).1
  have hd : t.d.length ≤ 1048576 := hw.sm t (List.mem_of_getElem? hit) hkd
  have hib2 : i ≤ 100000 := by omega
  clear hit hkd hnum hib
  have HE := Lib.hid he; clear he
  have HHA := Lib.hid ha; clear ha
  have HHB := Lib.hid hb; clear hb
  have HHC := Lib.hid hc; clear hc
  have HW := Lib.hid hw
  have HK := Lib.hid hk; have HN := Lib.hid hn; have HT := Lib.hid ht; have HP := Lib.hid hp
  have HLT := Lib.hid lt; have HLP := Lib.hid lp; have HL := Lib.hid hl
  have hz : ∀ w, (zeroValue 61).run Try.prog w = .ok (.agg (tc ⟨0, [], [], [], []⟩).toArray) w := fun w => by kernel_rfl
  have HZ := Lib.hid hz
  clear hw hk hn ht hp lt lp hl
  go_enter Try.func13, Try.ntmps13
  go_wp2_with fail
  refine (rRead2 T nt ct' text _ HT.out.len (by have := HT.out.len; have := HLT.out; omega) HT.out.nil HT.out.row).mono ?_
  rintro e w1 ⟨rb, A1, rfl, hr, k1, hf1, hlt1⟩
  have HK1 := Lib.hid k1
  have HF1 := Lib.hid (hf1 rb (.inl rfl))
  have HR := Lib.hid hr
  clear hr k1 hf1 hlt1 hz
  go_wp2_with fail
  refine (rNum rb A1 (text, false) _ HR.out).mono ?_
  rintro e w2 ⟨rfl, A2, _, k2, _⟩
  have HK2 := Lib.hid (HK1.out.since k2 (fun i e => by have e : i = rb := e; have := HF1.out; omega))
  have HW2 := Lib.hid (HW.out.keep0 HK2.out)
  rw [show (sNum (text, false)).1 = ((i : Int) + 1) from HNUM.out]
  clear k2
  have hc2 : w2.cell? ⟨p, 1, none⟩ = some (.map (some bs)) := by rw [HW2.out.b.cell]; rfl
  obtain ⟨ps', m1, m2⟩ := HW2.out.s
  have HLK := Lib.hid (m1.look_has (t := 54) int_keys m2.keys smap_under ((i : Int) + 1) (cv t) (m2.has i t HIT.out HKD.out trivial) (fun u hu => m2.one i t HIT.out u hu))
  clear m1 m2
  have hsl : ∀ w, Calls Try.prog 23 #[.agg (tc t).toArray, .int .i64 ((i : Int) + 1)] w fun e w' => ∃ A c, e = .returned (.slice A (t.d.length + 16) c) ∧ Kit.Own 5 w' A (t.d.length + 16) c (bvs (tok t.kind (i + 1) (t.d.length + 16))) ∧ Kp nob w w' ∧ Fresh w.heap.size A ∧ (A = none → c = 0) := fun w => by
    have := sealed_any t (i + 1) w (by omega) hd
    rwa [show ((i + 1 : Nat) : Int) = (i : Int) + 1 from rfl] at this
  have HSL := Lib.hid hsl
  clear hsl
  go_wp2_with (first
    | (refine wpList_look_eq rfl (.tmp 24) (.tmp 25) 54 true rfl _ HLK.out ?_)
    | (refine wpList_store_new rfl 61 (.tmp 13) (.tmp 27) rfl _ (tc t) rfl rfl rfl (by kernel_rfl) (tc_one _) ?_; intro w3 hB3 k3 z3; have HK3 := Lib.hid (HK2.out.trans k3 (fun _ e => e.elim)); have HB3 := Lib.hid hB3; clear hB3 k3 z3)
    | (refine wpList_load_gd 61 (.tmp 13) rfl (by rfl) _ _ (tc t) HB3.out rfl _ cthing_under rfl (by kernel_rfl) ?_)
    | fail)
  refine (HSL.out _).mono ?_
  rintro e w4 ⟨X, cX, rfl, ho4, k4, _, _⟩
  have HK4 := Lib.hid (HK3.out.trans k4 (fun _ e => e.elim))
  have HB4 := Lib.hid (HB3.out.keep k4 (fun e => e))
  have HRX := Lib.hid ho4.row
  clear ho4 k4
  go_wp2_with fail
  refine (equal_any T X nt ct' (t.d.length + 16) cX text (tok t.kind (i + 1) (t.d.length + 16)) _ HT.out.len (tok_length _ _ _ (by omega)) (HT.out.keep0 HK4.out).row HRX.out).mono ?_
  rintro e w5 ⟨rfl, rfl⟩
  rw [HKD.out, show decide (text = tok 83 (i + 1) (t.d.length + 16)) = true from decide_eq_true HE.out]
  obtain ⟨q, hq⟩ : ∃ q, q = w2.heap.size := ⟨_, rfl⟩
  rw [← hq] at HB4 HB3 ⊢
  have HQ := Lib.hid hq
  clear hq HB3
  go_wp2
  have HS0 : Hid (Kp nob w0 w4.drew ∧ Blk w4.drew q 61 (tc t)) := Lib.hid ⟨HK4.out.drew, HB4.out⟩
  refine reg_begin (fun w' : World => Kp nob w0 w' ∧ Blk w' q 61 (tc t)) (by kernel_rfl) HS0.out (fun _ => ?_)
  refine reg_take (v := .pointer (some ⟨q, 1, none⟩)) 0 (some 39) rfl rfl (by kernel_rfl) (by kernel_rfl) (by kernel_rfl) (by rfl) HS0.out (fun w hw => by go_simp) ?_
  simp only [Act.put, List.setIfInBounds_toArray, List.set_cons_zero, List.set_cons_succ]
  refine reg_take (v := .string (str t.a)) 1 (some 40) rfl rfl (by kernel_rfl) (by kernel_rfl) (by kernel_rfl) (by rfl) HS0.out (fun w hw => by have hc : w.cell? ⟨q, 1, none⟩ = some (.string (str t.a)) := (hw.2.cell 1).trans rfl; go_simp) ?_
  simp only [Act.put, List.setIfInBounds_toArray, List.set_cons_zero, List.set_cons_succ]
  refine reg_take (v := .slice K nk ck) 2 (some 41) rfl rfl (by kernel_rfl) (by kernel_rfl) (by kernel_rfl) (by rfl) HS0.out (fun w hw => by go_simp) ?_
  simp only [Act.put, List.setIfInBounds_toArray, List.set_cons_zero, List.set_cons_succ]
  refine reg_bytesStr 3 (some 42) 34 9 5 (.tmp 41) rfl rfl rfl (by kernel_rfl) (by kernel_rfl) (by kernel_rfl) (by rfl) HS0.out u8i_under (by kernel_rfl) (by kernel_rfl) K nk ck key HK.out.len rfl (fun _ x => (HK.out.keep0 x.1).row) ?_
  simp only [Act.put, List.setIfInBounds_toArray, List.set_cons_zero, List.set_cons_succ]
  refine reg_take (v := .bool false) 4 (some 43) rfl rfl (by kernel_rfl) (by kernel_rfl) (by kernel_rfl) (by rfl) HS0.out (fun w hw => by exact (exec_neq 40 42 _ t.a key rfl rfl rfl).trans (by rw [show (!decide (t.a = key)) = false from by simp [HHA.out]])) ?_
  simp only [Act.put, List.setIfInBounds_toArray, List.set_cons_zero, List.set_cons_succ]
  refine reg_take (v := .bool false) 5 (some 44) rfl rfl (by kernel_rfl) (by kernel_rfl) (by kernel_rfl) (by rfl) HS0.out (fun w hw => by go_simp) ?_
  simp only [Act.put, List.setIfInBounds_toArray, List.set_cons_zero, List.set_cons_succ]
  refine reg_take (v := .pointer (some ⟨q, 2, none⟩)) 6 (some 45) rfl rfl (by kernel_rfl) (by kernel_rfl) (by kernel_rfl) (by rfl) HS0.out (fun w hw => by go_simp) ?_
  simp only [Act.put, List.setIfInBounds_toArray, List.set_cons_zero, List.set_cons_succ]
  refine reg_take (v := .string (str t.b)) 7 (some 46) rfl rfl (by kernel_rfl) (by kernel_rfl) (by kernel_rfl) (by rfl) HS0.out (fun w hw => by have hc : w.cell? ⟨q, 2, none⟩ = some (.string (str t.b)) := (hw.2.cell 2).trans rfl; go_simp) ?_
  simp only [Act.put, List.setIfInBounds_toArray, List.set_cons_zero, List.set_cons_succ]
  refine reg_take (v := .slice N nn cn) 8 (some 47) rfl rfl (by kernel_rfl) (by kernel_rfl) (by kernel_rfl) (by rfl) HS0.out (fun w hw => by go_simp) ?_
  simp only [Act.put, List.setIfInBounds_toArray, List.set_cons_zero, List.set_cons_succ]
  refine reg_bytesStr 9 (some 48) 34 9 5 (.tmp 47) rfl rfl rfl (by kernel_rfl) (by kernel_rfl) (by kernel_rfl) (by rfl) HS0.out u8i_under (by kernel_rfl) (by kernel_rfl) N nn cn nonce HN.out.len rfl (fun _ x => (HN.out.keep0 x.1).row) ?_
  simp only [Act.put, List.setIfInBounds_toArray, List.set_cons_zero, List.set_cons_succ]
  refine reg_take (v := .bool false) 10 (some 49) rfl rfl (by kernel_rfl) (by kernel_rfl) (by kernel_rfl) (by rfl) HS0.out (fun w hw => by exact (exec_neq 46 48 _ t.b nonce rfl rfl rfl).trans (by rw [show (!decide (t.b = nonce)) = false from by simp [HHB.out]])) ?_
  simp only [Act.put, List.setIfInBounds_toArray, List.set_cons_zero, List.set_cons_succ]
  refine reg_take (v := .bool false) 11 (some 50) rfl rfl (by kernel_rfl) (by kernel_rfl) (by kernel_rfl) (by rfl) HS0.out (fun w hw => by go_simp) ?_
  simp only [Act.put, List.setIfInBounds_toArray, List.set_cons_zero, List.set_cons_succ]
  refine reg_take (v := .bool false) 12 (some 51) rfl rfl (by kernel_rfl) (by kernel_rfl) (by kernel_rfl) (by rfl) HS0.out (fun w hw => by go_simp) ?_
  simp only [Act.put, List.setIfInBounds_toArray, List.set_cons_zero, List.set_cons_succ]
  refine reg_take (v := .pointer (some ⟨q, 3, none⟩)) 13 (some 52) rfl rfl (by kernel_rfl) (by kernel_rfl) (by kernel_rfl) (by rfl) HS0.out (fun w hw => by go_simp) ?_
  simp only [Act.put, List.setIfInBounds_toArray, List.set_cons_zero, List.set_cons_succ]
  refine reg_take (v := .string (str t.c)) 14 (some 53) rfl rfl (by kernel_rfl) (by kernel_rfl) (by kernel_rfl) (by rfl) HS0.out (fun w hw => by have hc : w.cell? ⟨q, 3, none⟩ = some (.string (str t.c)) := (hw.2.cell 3).trans rfl; go_simp) ?_
  simp only [Act.put, List.setIfInBounds_toArray, List.set_cons_zero, List.set_cons_succ]
  refine reg_take (v := .slice B m d) 15 (some 54) rfl rfl (by kernel_rfl) (by kernel_rfl) (by kernel_rfl) (by rfl) HS0.out (fun w hw => by go_simp) ?_
  simp only [Act.put, List.setIfInBounds_toArray, List.set_cons_zero, List.set_cons_succ]
  refine reg_call 16 (some 55) rfl rfl (by kernel_rfl) (by rfl) _ _ (exec_func 21 _ _ [.slice B m d] rfl (by kernel_rfl) rfl) ?_
  refine (joined_any B m d ps (Cf p bn bs) _ (HP.out.keep0 HS0.out.1) (by have := HLP.out; omega)).mono ?_
  rintro e w6 ⟨rfl, k6⟩
  have HS1 : Hid (Kp nob w0 w6 ∧ Blk w6 q 61 (tc t)) := Lib.hid ⟨HS0.out.1.trans k6 (fun _ e => e.elim), HS0.out.2.keep k6 (fun e => e)⟩
  clear k6
  refine ⟨_, rfl, HS1.out, fun _ => ?_⟩
  simp only [Act.put, List.setIfInBounds_toArray, List.set_cons_zero, List.set_cons_succ]
  refine reg_take (v := .bool true) 17 (some 56) rfl rfl (by kernel_rfl) (by kernel_rfl) (by kernel_rfl) (by rfl) HS1.out (fun w hw => by exact (exec_neq 53 55 _ t.c (catP ps) rfl rfl rfl).trans (by rw [show (!decide (t.c = catP ps)) = true from by simp [HHC.out]])) ?_
  simp only [Act.put, List.setIfInBounds_toArray, List.set_cons_zero, List.set_cons_succ]
  refine reg_take (v := .bool true) 18 (some 57) rfl rfl (by kernel_rfl) (by kernel_rfl) (by kernel_rfl) (by rfl) HS1.out (fun w hw => by go_simp) ?_
  simp only [Act.put, List.setIfInBounds_toArray, List.set_cons_zero, List.set_cons_succ]
  refine reg_end (by kernel_rfl) ?_
  go_wp2
  go_ret2
  exact ⟨rfl, HS1.out.1⟩
set_option maxHeartbeats 4000000 in
set_option maxRecDepth 100000 in
theorem open_hit5 (p bn bs : Nat) (cs : List Thing) (K : Option Addr) (nk ck : Nat) (key : List UInt8) (N : Option Addr) (nn cn : Nat) (nonce : List UInt8) (T : Option Addr) (nt ct' : Nat) (text : List UInt8) (B : Option Addr) (m d : Nat) (ps : List Pc) (w0 : World)
    (hw : Cx w0 p bn bs cs (fun _ => True)) (hk : Arg w0 (Cf p bn bs) K nk ck key) (hn : Arg w0 (Cf p bn bs) N nn cn nonce) (ht : Arg w0 (Cf p bn bs) T nt ct' text) (hp : Args w0 (Cf p bn bs) B m ps) (lt : text.length ≤ 1048592) (lp : (catP ps).length ≤ 1048576) (hl : cs.length ≤ 100000)
    (i : Nat) (t : Thing) (hit : cs[i]? = some t) (hkd : t.kind = 83) (hnum : numOf text = (i : Int) + 1) (he : text = tok 83 (i + 1) (t.d.length + 16)) (ha : t.a = key) (hb : t.b = nonce) (hc : t.c = catP ps) :
    Calls Try.prog 13 #[.pointer (some ⟨p, 0, none⟩), .slice K nk ck, .slice N nn cn, .slice T nt ct', .slice B m d] w0 fun e w' => ∃ X cX, e = .returned (.tuple #[.slice X t.d.length cX, .int .i64 0]) ∧ Kp nob w0 w' ∧ Row w' X (bvs t.d) := by
  have HIT := Lib.hid hit; have HKD := Lib.hid hkd; have HNUM := Lib.hid hnum
  have hib : i < cs.length := (List.getElem?_eq_some_iff.1 hit).1
  have hd : t.d.length ≤ 1048576 := hw.sm t (List.mem_of_getElem? hit) hkd
  have hib2 : i ≤ 100000 := by omega
  clear hit hkd hnum hib
  have HE := Lib.hid he; clear he
  have HHA := Lib.hid ha; clear ha
  have HHB := Lib.hid hb; clear hb
  have HHC := Lib.hid hc; clear hc
  have HW := Lib.hid hw
  have HK := Lib.hid hk; have HN := Lib.hid hn; have HT := Lib.hid ht; have HP := Lib.hid hp
  have HLT := Lib.hid lt; have HLP := Lib.hid lp; have HL := Lib.hid hl
  have hz : ∀ w, (zeroValue 61).run Try.prog w = .ok (.agg (tc ⟨0, [], [], [], []⟩).toArray) w := fun w => by kernel_rfl
  have HZ := Lib.hid hz
  clear hw hk hn ht hp lt lp hl
  go_enter Try.func13, Try.ntmps13
  go_wp2_with fail
  refine (rRead2 T nt ct' text _ HT.out.len (by have := HT.out.len; have := HLT.out; omega) HT.out.nil HT.out.row).mono ?_
  rintro e w1 ⟨rb, A1, rfl, hr, k1, hf1, hlt1⟩
  have HK1 := Lib.hid k1
  have HF1 := Lib.hid (hf1 rb (.inl rfl))
  have HR := Lib.hid hr
  clear hr k1 hf1 hlt1 hz
  go_wp2_with fail
  refine (rNum rb A1 (text, false) _ HR.out).mono ?_
  rintro e w2 ⟨rfl, A2, _, k2, _⟩
  have HK2 := Lib.hid (HK1.out.since k2 (fun i e => by have e : i = rb := e; have := HF1.out; omega))
  have HW2 := Lib.hid (HW.out.keep0 HK2.out)
  rw [show (sNum (text, false)).1 = ((i : Int) + 1) from HNUM.out]
  clear k2
  have hc2 : w2.cell? ⟨p, 1, none⟩ = some (.map (some bs)) := by rw [HW2.out.b.cell]; rfl
  obtain ⟨ps', m1, m2⟩ := HW2.out.s
  have HLK := Lib.hid (m1.look_has (t := 54) int_keys m2.keys smap_under ((i : Int) + 1) (cv t) (m2.has i t HIT.out HKD.out trivial) (fun u hu => m2.one i t HIT.out u hu))
  clear m1 m2
  have hsl : ∀ w, Calls Try.prog 23 #[.agg (tc t).toArray, .int .i64 ((i : Int) + 1)] w fun e w' => ∃ A c, e = .returned (.slice A (t.d.length + 16) c) ∧ Kit.Own 5 w' A (t.d.length + 16) c (bvs (tok t.kind (i + 1) (t.d.length + 16))) ∧ Kp nob w w' ∧ Fresh w.heap.size A ∧ (A = none → c = 0) := fun w => by
    have := sealed_any t (i + 1) w (by omega) hd
    rwa [show ((i + 1 : Nat) : Int) = (i : Int) + 1 from rfl] at this
  have HSL := Lib.hid hsl
  clear hsl
  go_wp2_with (first
    | (refine wpList_look_eq rfl (.tmp 24) (.tmp 25) 54 true rfl _ HLK.out ?_)
    | (refine wpList_store_new rfl 61 (.tmp 13) (.tmp 27) rfl _ (tc t) rfl rfl rfl (by kernel_rfl) (tc_one _) ?_; intro w3 hB3 k3 z3; have HK3 := Lib.hid (HK2.out.trans k3 (fun _ e => e.elim)); have HB3 := Lib.hid hB3; clear hB3 k3 z3)
    | (refine wpList_load_gd 61 (.tmp 13) rfl (by rfl) _ _ (tc t) HB3.out rfl _ cthing_under rfl (by kernel_rfl) ?_)
    | fail)
  refine (HSL.out _).mono ?_
  rintro e w4 ⟨X, cX, rfl, ho4, k4, _, _⟩
  have HK4 := Lib.hid (HK3.out.trans k4 (fun _ e => e.elim))
  have HB4 := Lib.hid (HB3.out.keep k4 (fun e => e))
  have HRX := Lib.hid ho4.row
  clear ho4 k4
  go_wp2_with fail
  refine (equal_any T X nt ct' (t.d.length + 16) cX text (tok t.kind (i + 1) (t.d.length + 16)) _ HT.out.len (tok_length _ _ _ (by omega)) (HT.out.keep0 HK4.out).row HRX.out).mono ?_
  rintro e w5 ⟨rfl, rfl⟩
  rw [HKD.out, show decide (text = tok 83 (i + 1) (t.d.length + 16)) = true from decide_eq_true HE.out]
  obtain ⟨q, hq⟩ : ∃ q, q = w2.heap.size := ⟨_, rfl⟩
  rw [← hq] at HB4 HB3 ⊢
  have HQ := Lib.hid hq
  clear hq HB3
  go_wp2
  have HS0 : Hid (Kp nob w0 w4.drew ∧ Blk w4.drew q 61 (tc t)) := Lib.hid ⟨HK4.out.drew, HB4.out⟩
  refine reg_begin (fun w' : World => Kp nob w0 w' ∧ Blk w' q 61 (tc t)) (by kernel_rfl) HS0.out (fun _ => ?_)
  refine reg_take (v := .pointer (some ⟨q, 1, none⟩)) 0 (some 39) rfl rfl (by kernel_rfl) (by kernel_rfl) (by kernel_rfl) (by rfl) HS0.out (fun w hw => by go_simp) ?_
  simp only [Act.put, List.setIfInBounds_toArray, List.set_cons_zero, List.set_cons_succ]
  refine reg_take (v := .string (str t.a)) 1 (some 40) rfl rfl (by kernel_rfl) (by kernel_rfl) (by kernel_rfl) (by rfl) HS0.out (fun w hw => by have hc : w.cell? ⟨q, 1, none⟩ = some (.string (str t.a)) := (hw.2.cell 1).trans rfl; go_simp) ?_
  simp only [Act.put, List.setIfInBounds_toArray, List.set_cons_zero, List.set_cons_succ]
  refine reg_take (v := .slice K nk ck) 2 (some 41) rfl rfl (by kernel_rfl) (by kernel_rfl) (by kernel_rfl) (by rfl) HS0.out (fun w hw => by go_simp) ?_
  simp only [Act.put, List.setIfInBounds_toArray, List.set_cons_zero, List.set_cons_succ]
  refine reg_bytesStr 3 (some 42) 34 9 5 (.tmp 41) rfl rfl rfl (by kernel_rfl) (by kernel_rfl) (by kernel_rfl) (by rfl) HS0.out u8i_under (by kernel_rfl) (by kernel_rfl) K nk ck key HK.out.len rfl (fun _ x => (HK.out.keep0 x.1).row) ?_
  simp only [Act.put, List.setIfInBounds_toArray, List.set_cons_zero, List.set_cons_succ]
  refine reg_take (v := .bool false) 4 (some 43) rfl rfl (by kernel_rfl) (by kernel_rfl) (by kernel_rfl) (by rfl) HS0.out (fun w hw => by exact (exec_neq 40 42 _ t.a key rfl rfl rfl).trans (by rw [show (!decide (t.a = key)) = false from by simp [HHA.out]])) ?_
  simp only [Act.put, List.setIfInBounds_toArray, List.set_cons_zero, List.set_cons_succ]
  refine reg_take (v := .bool false) 5 (some 44) rfl rfl (by kernel_rfl) (by kernel_rfl) (by kernel_rfl) (by rfl) HS0.out (fun w hw => by go_simp) ?_
  simp only [Act.put, List.setIfInBounds_toArray, List.set_cons_zero, List.set_cons_succ]
  refine reg_take (v := .pointer (some ⟨q, 2, none⟩)) 6 (some 45) rfl rfl (by kernel_rfl) (by kernel_rfl) (by kernel_rfl) (by rfl) HS0.out (fun w hw => by go_simp) ?_
  simp only [Act.put, List.setIfInBounds_toArray, List.set_cons_zero, List.set_cons_succ]
  refine reg_take (v := .string (str t.b)) 7 (some 46) rfl rfl (by kernel_rfl) (by kernel_rfl) (by kernel_rfl) (by rfl) HS0.out (fun w hw => by have hc : w.cell? ⟨q, 2, none⟩ = some (.string (str t.b)) := (hw.2.cell 2).trans rfl; go_simp) ?_
  simp only [Act.put, List.setIfInBounds_toArray, List.set_cons_zero, List.set_cons_succ]
  refine reg_take (v := .slice N nn cn) 8 (some 47) rfl rfl (by kernel_rfl) (by kernel_rfl) (by kernel_rfl) (by rfl) HS0.out (fun w hw => by go_simp) ?_
  simp only [Act.put, List.setIfInBounds_toArray, List.set_cons_zero, List.set_cons_succ]
  refine reg_bytesStr 9 (some 48) 34 9 5 (.tmp 47) rfl rfl rfl (by kernel_rfl) (by kernel_rfl) (by kernel_rfl) (by rfl) HS0.out u8i_under (by kernel_rfl) (by kernel_rfl) N nn cn nonce HN.out.len rfl (fun _ x => (HN.out.keep0 x.1).row) ?_
  simp only [Act.put, List.setIfInBounds_toArray, List.set_cons_zero, List.set_cons_succ]
  refine reg_take (v := .bool false) 10 (some 49) rfl rfl (by kernel_rfl) (by kernel_rfl) (by kernel_rfl) (by rfl) HS0.out (fun w hw => by exact (exec_neq 46 48 _ t.b nonce rfl rfl rfl).trans (by rw [show (!decide (t.b = nonce)) = false from by simp [HHB.out]])) ?_
  simp only [Act.put, List.setIfInBounds_toArray, List.set_cons_zero, List.set_cons_succ]
  refine reg_take (v := .bool false) 11 (some 50) rfl rfl (by kernel_rfl) (by kernel_rfl) (by kernel_rfl) (by rfl) HS0.out (fun w hw => by go_simp) ?_
  simp only [Act.put, List.setIfInBounds_toArray, List.set_cons_zero, List.set_cons_succ]
  refine reg_take (v := .bool false) 12 (some 51) rfl rfl (by kernel_rfl) (by kernel_rfl) (by kernel_rfl) (by rfl) HS0.out (fun w hw => by go_simp) ?_
  simp only [Act.put, List.setIfInBounds_toArray, List.set_cons_zero, List.set_cons_succ]
  refine reg_take (v := .pointer (some ⟨q, 3, none⟩)) 13 (some 52) rfl rfl (by kernel_rfl) (by kernel_rfl) (by kernel_rfl) (by rfl) HS0.out (fun w hw => by go_simp) ?_
  simp only [Act.put, List.setIfInBounds_toArray, List.set_cons_zero, List.set_cons_succ]
  refine reg_take (v := .string (str t.c)) 14 (some 53) rfl rfl (by kernel_rfl) (by kernel_rfl) (by kernel_rfl) (by rfl) HS0.out (fun w hw => by have hc : w.cell? ⟨q, 3, none⟩ = some (.string (str t.c)) := (hw.2.cell 3).trans rfl; go_simp) ?_
  simp only [Act.put, List.setIfInBounds_toArray, List.set_cons_zero, List.set_cons_succ]
  refine reg_take (v := .slice B m d) 15 (some 54) rfl rfl (by kernel_rfl) (by kernel_rfl) (by kernel_rfl) (by rfl) HS0.out (fun w hw => by go_simp) ?_
  simp only [Act.put, List.setIfInBounds_toArray, List.set_cons_zero, List.set_cons_succ]
  refine reg_call 16 (some 55) rfl rfl (by kernel_rfl) (by rfl) _ _ (exec_func 21 _ _ [.slice B m d] rfl (by kernel_rfl) rfl) ?_
  refine (joined_any B m d ps (Cf p bn bs) _ (HP.out.keep0 HS0.out.1) (by have := HLP.out; omega)).mono ?_
  rintro e w6 ⟨rfl, k6⟩
  have HS1 : Hid (Kp nob w0 w6 ∧ Blk w6 q 61 (tc t)) := Lib.hid ⟨HS0.out.1.trans k6 (fun _ e => e.elim), HS0.out.2.keep k6 (fun e => e)⟩
  clear k6
  refine ⟨_, rfl, HS1.out, fun _ => ?_⟩
  simp only [Act.put, List.setIfInBounds_toArray, List.set_cons_zero, List.set_cons_succ]
  refine reg_take (v := .bool false) 17 (some 56) rfl rfl (by kernel_rfl) (by kernel_rfl) (by kernel_rfl) (by rfl) HS1.out (fun w hw => by exact (exec_neq 53 55 _ t.c (catP ps) rfl rfl rfl).trans (by rw [show (!decide (t.c = catP ps)) = false from by simp [HHC.out]])) ?_
  simp only [Act.put, List.setIfInBounds_toArray, List.set_cons_zero, List.set_cons_succ]
  refine reg_take (v := .bool false) 18 (some 57) rfl rfl (by kernel_rfl) (by kernel_rfl) (by kernel_rfl) (by rfl) HS1.out (fun w hw => by go_simp) ?_
  simp only [Act.put, List.setIfInBounds_toArray, List.set_cons_zero, List.set_cons_succ]
  refine reg_end (by kernel_rfl) ?_
  have hc6 : w6.cell? ⟨q, 4, none⟩ = some (.string (str t.d)) := (HS1.out.2.cell 4).trans rfl
  go_wp2_with (first
    | (refine wpList_str_argN rfl 9 34 5 (.tmp 59) rfl u8_string u8i_under (by kernel_rfl) t.d t.d.length rfl (by unfold maxLen; omega) rfl ?_; intro c7 w7 k7 z7 hA7; have H7 := Lib.hid (And.intro k7 hA7); clear k7 hA7 z7)
    | fail)
  go_ret2
  exact ⟨_, c7, rfl, HS1.out.1.trans H7.out.1 (fun _ e => e.elim), (H7.out.2 nob (fun _ e => e.elim)).row⟩
end Go.Proofs.Ytakhanganifpnaa.Ideal
