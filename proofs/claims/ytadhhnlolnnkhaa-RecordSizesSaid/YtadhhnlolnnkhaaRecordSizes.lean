/- RecordSizes: sizes of records go together, however they are parted. -/
import Derived.Test.YtadhhnlolnnkhaaRecN
import Derived.Test.YtadhhnlolnnkhaaScrR
namespace Go.Proofs.Ytadhhnlolnnkhaa.Rec
set_option linter.unusedVariables false
set_option linter.unusedSimpArgs false
open Go Go.RowKit Kit

/-- Where a slice's rest lies. -/
def cutK (A : Option Addr) (c k z : Nat) : Option Addr := if c = k then A else A.map (·.add (k * z))
theorem Row.cutK {w : World} {A : Option Addr} {xs : List Value} (h : Row w A xs) {c k z : Nat} (hl : xs.length ≤ c * z) : Row w (cutK A c k z) (xs.drop (k * z)) := by
  unfold Rec.cutK
  split
  · rename_i e; subst e; rw [List.drop_eq_nil_of_le hl]; exact Row.nil _ _
  · exact h.drop (k * z)
theorem recs_under : Try.prog.underlying 26 = some (.slice 23) := by kernel_rfl
theorem rec_sizeOf (w : World) : (sizeOf 23).run Try.prog w = .ok 6 w := by kernel_rfl
theorem run_to (A : Option Addr) (n c k : Nat) (hk : k ≤ n) (hc : n ≤ c) (w : World) : (Instr.slice 26 (.slice A n c) none (some (.int .i64 k)) none).run Try.prog w = .ok (.slice A k c) w := by
  have h1 : (0 : Int) ≤ k ∧ (k : Int) ≤ c := by omega
  have he := rec_sizeOf w
  cases A with
  | none => simp [Instr.slice, run_underlying recs_under, Instr.sliceBounds, run_sliceBound, he, h1]
  | some a =>
    have h3 : a.add 0 = a := rfl
    simp [Instr.slice, run_underlying recs_under, Instr.sliceBounds, run_sliceBound, he, h1, h3]
theorem run_from (A : Option Addr) (n c k : Nat) (hk : k ≤ n) (w : World) : (Instr.slice 26 (.slice A n c) (some (.int .i64 k)) none none).run Try.prog w = .ok (.slice (cutK A c k 6) (n - k) (c - k)) w := by
  have h1 : (0 : Int) ≤ k ∧ (k : Int) ≤ n := by omega
  have he := rec_sizeOf w
  simp [Instr.slice, run_underlying recs_under, Instr.sliceBounds, run_sliceBound, he, cutK, hk]
theorem exec_to {w : World} {a : Act} {o : Oper} (x y : Operand) (ho : o.op = .slice 26 x none (some y) none) (A : Option Addr) (n c k : Nat) (hx : a.eval x = .slice A n c) (hy : a.eval y = .int .i64 k) (hk : k ≤ n) (hc : n ≤ c) :
    (execOp a.eval o).run Try.prog w = .ok (.value (.slice A k c)) w := by
  have hr : (Instr.sliceAt 26 (.slice A n c) none (some (.int .i64 k)) none).run Try.prog w = .ok (.slice A k c) w := by
    have := run_to A n c k hk hc w
    unfold Instr.sliceAt
    simpa [run_underlying recs_under] using this
  unfold execOp
  simp only [ho, hx, hy, Option.map_some, Option.map_none, Sem.run_bind, hr, Result.andThen_ok, Sem.run_pure]
theorem exec_from {w : World} {a : Act} {o : Oper} (x y : Operand) (ho : o.op = .slice 26 x (some y) none none) (A : Option Addr) (n c k : Nat) (hx : a.eval x = .slice A n c) (hy : a.eval y = .int .i64 k) (hk : k ≤ n) :
    (execOp a.eval o).run Try.prog w = .ok (.value (.slice (cutK A c k 6) (n - k) (c - k))) w := by
  have hr : (Instr.sliceAt 26 (.slice A n c) (some (.int .i64 k)) none none).run Try.prog w = .ok (.slice (cutK A c k 6) (n - k) (c - k)) w := by
    have := run_from A n c k hk w
    unfold Instr.sliceAt
    simpa [run_underlying recs_under] using this
  unfold execOp
  simp only [ho, hx, hy, Option.map_some, Option.map_none, Sem.run_bind, hr, Result.andThen_ok, Sem.run_pure]
theorem total_good (rs : List Rec) (h : ∀ r ∈ rs, good r = true) : total rs ≤ rs.length * 548 := by
  induction rs with
  | nil => simp [total]
  | cons r rs ih =>
    have h1 := good_bounds r (h r (by simp))
    have h2 := ih (fun q hq => h q (by simp [hq]))
    simp only [total, List.map_cons, List.sum_cons, List.length_cons] at *
    omega
theorem total_parts (rs : List Rec) (k : Nat) : total (rs.take k) + total (rs.drop k) = total rs := by
  conv => rhs; rw [← List.take_append_drop k rs]
  simp only [total, List.map_append, List.sum_append]
theorem rrow_take {w : World} {A : Option Addr} {rs : List Rec} (h : Rrow w A rs) (k : Nat) : Rrow w A (rs.take k) := by
  unfold Rrow at *
  rw [← fm_take (k := 6) rs (fun a _ => rcells_length a)]
  exact h.take (k * 6)
theorem rrow_drop {w : World} {A : Option Addr} {rs : List Rec} (h : Rrow w A rs) (c k : Nat) (hl : rs.length ≤ c) : Rrow w (cutK A c k 6) (rs.drop k) := by
  unfold Rrow at *
  rw [← fm_drop (k := 6) rs (fun a _ => rcells_length a)]
  exact Row.cutK h (by rw [fm_length (k := 6) rs (fun a _ => rcells_length a)]; omega)

set_option maxHeartbeats 4000000 in
set_option maxRecDepth 100000 in
theorem sizes_walk (A : Option Addr) (n c : Nat) (rs : List Rec) (cut : Int) (w : World) (hl : rs.length = n) (hn : A = none → c = 0) (hr : Row w A (rs.flatMap rcells)) (hc : n ≤ c) (hm : c ≤ maxLen) (hw : ∀ r ∈ rs, r.ok) (hcut : (Lit.int .i64 cut).wf = true) :
    Calls Try.prog 7 #[.slice A n c, .int .i64 cut] w fun e w' => e = .returned (.bool true) ∧ Kp nob w w' := by
  have HR := Lib.hid (show Rrow w A rs from hr)
  have HLN := Lib.hid hl; have HC := Lib.hid hc; have HM := Lib.hid hm
  clear hr hl hn hm hw hcut
  have hgr := fun w' (k : Kp nob w w') => great_any A n c rs 60 w' HLN.out (HR.out.keep0 k) (by have := HC.out; have := HM.out; omega)
  cases hg : greatR rs 60 with
  | true =>
    rw [hg] at hgr
    go_enter Try.func7, Try.ntmps7
    go_wp2_with fail
    refine (alive_yes _).mono ?_
    rintro e w1 ⟨rfl, k1⟩
    go_wp2_with fail
    refine (hgr w1 k1).mono ?_
    rintro e w2 ⟨rfl, k2⟩
    go_wp2
    go_ret
    exact ⟨rfl, k1.trans k2 (fun _ e => e.elim)⟩
  | false =>
  rw [hg] at hgr
  have h60 : n ≤ 60 := by
    unfold greatR at hg
    simp only [Bool.or_eq_false_iff, decide_eq_false_iff_not] at hg
    have := HLN.out
    omega
  have hbd : ∀ r ∈ rs, r.body.length ≤ 4096 := by
    intro r hr
    unfold greatR at hg
    simp only [Bool.or_eq_false_iff, List.any_eq_false, decide_eq_true_eq] at hg
    have := hg.1 r hr
    omega
  have H60 := Lib.hid h60; have HBD := Lib.hid hbd
  clear hg hbd
  go_enter Try.func7, Try.ntmps7
  go_wp2_with fail
  refine (alive_yes _).mono ?_
  rintro e w1 ⟨rfl, k1⟩
  go_wp2_with fail
  refine (hgr w1 k1).mono ?_
  rintro e w2 ⟨rfl, k2⟩
  have HK2 := Lib.hid (k1.trans k2 (fun _ e => e.elim))
  clear hgr k1 k2
  by_cases h0 : cut < 0
  · have hb : decide (cut < 0) = true := decide_eq_true h0
    go_wp2
    go_ret
    exact ⟨rfl, HK2.out⟩
  by_cases h1 : (n : Int) < cut
  · have hb : decide (cut < 0) = false := decide_eq_false h0
    have hb1 : decide ((n : Int) < cut) = true := decide_eq_true h1
    go_wp2
    go_ret
    exact ⟨rfl, HK2.out⟩
  obtain ⟨q, rfl⟩ := Int.eq_ofNat_of_zero_le (show 0 ≤ cut by omega)
  have hb : decide ((q : Int) < 0) = false := decide_eq_false h0
  have hb1 : decide ((n : Int) < (q : Int)) = false := decide_eq_false h1
  have hb2 : decide (n < q) = false := decide_eq_false (by omega)
  have HQ := Lib.hid (show q ≤ n by omega)
  clear h0 h1 h60 hc
  go_wp2
  go_loopw [5, 26] (fun t i wr => ∃ k : Nat, k ≤ n ∧ i = .int .i64 k ∧ t = .int .i64 (total (rs.take k) : Nat) ∧ (∀ r ∈ rs.take k, good r = true) ∧ Kp nob w wr)
    (fun _ i _ => n - (intOf i).toNat)
  case atStart => exact ⟨0, Nat.zero_le _, rfl, rfl, (fun r h => by simp at h), HK2.out⟩
  case round =>
    obtain ⟨k, hk, rfl, rfl, ht, kr⟩ := hrel
    by_cases hlt : k < n
    · obtain ⟨bb, oo, rfl, hbb, hc0, hc1, hc2, hc3, hc4, hc5⟩ := (HR.out.keep0 kr).at_ (i := k) (by have := HLN.out; omega)
      have hsn := total_snoc rs k (by have := HLN.out; omega)
      have hmem : rs[k]'(by have := HLN.out; omega) ∈ rs := List.getElem_mem _
      have htk : rs.take (k + 1) = rs.take k ++ [rs[k]'(by have := HLN.out; omega)] := by rw [List.take_add_one, List.getElem?_eq_getElem (by have := HLN.out; omega)]; rfl
      obtain ⟨p, hpe⟩ : ∃ p, p = rs[k]'(by have := HLN.out; omega) := ⟨_, rfl⟩
      rw [← hpe] at hc0 hc1 hc2 hc3 hc4 hc5 hsn hmem htk
      have htg := total_good (rs.take k) ht
      have HTG := Lib.hid (show total (rs.take k) ≤ 60 * 548 by
        have := List.length_take_le k rs
        have h5 := H60.out
        rw [List.length_take] at htg
        omega)
      obtain ⟨T, hTe⟩ : ∃ T, T = total (rs.take k) := ⟨_, rfl⟩
      rw [← hTe] at hsn HTG ⊢
      have H2 := Lib.hid hTe; have H3 := Lib.hid hsn; have H4 := Lib.hid htk; have H5 := Lib.hid ht; have H6 := Lib.hid kr; have H7 := Lib.hid hmem
      have HLT := Lib.hid hlt
      clear hpe hTe hsn htk htg ht kr hmem
      go_wp2_with fail
      refine (cPut p _ (by have := HBD.out p H7.out; omega)).mono ?_
      rintro e w4 ⟨A1, n1, c1, E, rfl, k4, hP⟩
      have HP := Lib.hid hP
      have HK4 := Lib.hid ((H6.out.alloc (.cells (rcells p).toArray 23)).trans k4 (fun _ e => e.elim))
      clear hP k4
      rcases HP.out with ⟨gp, rfl⟩ | ⟨gp, rfl, np, _⟩
      · clear hlt
        go_wp2
        go_ret
        exact ⟨rfl, HK4.out⟩
      · have HN1 := Lib.hid np
        have hsum : IntKind.i64.wrap ((T : Int) + (n1 : Int)) = ((T + n1 : Nat) : Int) := by
          have := HBD.out p H7.out
          have := HTG.out
          rw [IntWalk.i64_in _ (by omega)]; simp
        obtain ⟨T1, hT1⟩ : ∃ T1, T1 = T + n1 := ⟨_, rfl⟩
        rw [← hT1] at hsum
        have HT1 := Lib.hid hT1
        have GP := Lib.hid gp
        clear gp np hT1
        have hnmx : n ≤ 9223372036854775807 := by have := H60.out; omega
        go_wp2
        go_roundw
        case rel =>
          refine ⟨k + 1, by have := HLT.out; omega, by go_num, by rw [H3.out, HT1.out, HN1.out], ?_, HK4.out⟩
          rw [H4.out]
          intro r hr
          rcases List.mem_append.1 hr with hr | hr
          · exact H5.out r hr
          · rw [List.mem_singleton.1 hr]; exact GP.out
        case measure => have := HLT.out; simp [intOf]; omega
    · obtain rfl : n = k := by omega
      rw [List.take_of_length_le (by have := HLN.out; omega)] at ht ⊢
      have htg := total_good rs ht
      have HTG := Lib.hid (show total rs ≤ 60 * 548 by have := HLN.out; have := H60.out; rw [HLN.out] at htg; omega)
      clear htg
      have hpt := total_parts rs q
      obtain ⟨T, hTe⟩ : ∃ T, T = total rs := ⟨_, rfl⟩
      rw [← hTe] at hpt HTG ⊢
      have HTE := Lib.hid hTe; have HPT := Lib.hid hpt
      have HK3 := Lib.hid kr
      have HLK := Lib.hid hlt
      clear hTe hpt ht kr hlt hk
      go_wp2
      refine reg_start (fun w' : World => Kp nob w w') (by kernel_rfl) HK3.out.drew (fun w5 hS5 => ?_)
      have HS5 := Lib.hid hS5
      clear hS5 HK3
      have hsum : IntKind.i64.wrap (((total (rs.take q) : Nat) : Int) + ((total (rs.drop q) : Nat) : Int)) = (T : Int) := by
        have := HTG.out
        have := HPT.out
        rw [IntWalk.i64_in _ (by omega)]; omega
      obtain ⟨T1, hT1⟩ : ∃ T1, T1 = total (rs.take q) := ⟨_, rfl⟩
      obtain ⟨T2, hT2⟩ : ∃ T2, T2 = total (rs.drop q) := ⟨_, rfl⟩
      rw [← hT1, ← hT2] at hsum HPT
      have HT1 := Lib.hid hT1; have HT2 := Lib.hid hT2
      clear hT1 hT2
      refine reg_take (v := .slice A n c) 0 (some 42) rfl rfl (by kernel_rfl) (by kernel_rfl) (by kernel_rfl) (by rfl) HS5.out (fun w hw => by go_simp) ?_
      simp only [Act.put, List.setIfInBounds_toArray, List.set_cons_zero, List.set_cons_succ]
      refine reg_take (v := .int .i64 (T : Int)) 2 (some 44) rfl rfl (by kernel_rfl) (by kernel_rfl) (by kernel_rfl) (by rfl) HS5.out (fun w hw => by go_simp) ?_
      simp only [Act.put, List.setIfInBounds_toArray, List.set_cons_zero, List.set_cons_succ]
      refine reg_call 1 (some 43) rfl rfl (by kernel_rfl) (by rfl) _ _ (exec_func 14 _ _ [.slice A n c] rfl (by kernel_rfl) rfl) ?_
      refine (size_any A n c rs w5 HLN.out (HR.out.keep0 HS5.out) (by have := HTG.out; rw [← HTE.out]; omega) (by have := HC.out; have := HM.out; omega)).mono ?_
      rintro e w6 ⟨rfl, k6⟩
      rw [← HTE.out]
      have HS6 := Lib.hid (HS5.out.trans k6 (fun _ e => e.elim))
      refine ⟨_, rfl, HS6.out, fun _ => ?_⟩
      simp only [Act.put, List.setIfInBounds_toArray, List.set_cons_zero, List.set_cons_succ]
      refine reg_take (v := .bool true) 3 (some 45) rfl rfl (by kernel_rfl) (by kernel_rfl) (by kernel_rfl) (by rfl) HS6.out (fun w hw => by go_simp) ?_
      simp only [Act.put, List.setIfInBounds_toArray, List.set_cons_zero, List.set_cons_succ]
      refine reg_take (v := .bool true) 4 (some 46) rfl rfl (by kernel_rfl) (by kernel_rfl) (by kernel_rfl) (by rfl) HS6.out (fun w hw => by go_simp) ?_
      simp only [Act.put, List.setIfInBounds_toArray, List.set_cons_zero, List.set_cons_succ]
      refine reg_take (v := .slice A n c) 5 (some 47) rfl rfl (by kernel_rfl) (by kernel_rfl) (by kernel_rfl) (by rfl) HS6.out (fun w hw => by go_simp) ?_
      simp only [Act.put, List.setIfInBounds_toArray, List.set_cons_zero, List.set_cons_succ]
      refine reg_take (v := .int .i64 (q : Int)) 6 (some 48) rfl rfl (by kernel_rfl) (by kernel_rfl) (by kernel_rfl) (by rfl) HS6.out (fun w hw => by go_simp) ?_
      simp only [Act.put, List.setIfInBounds_toArray, List.set_cons_zero, List.set_cons_succ]
      refine reg_take (v := .slice A q c) 7 (some 49) rfl rfl (by kernel_rfl) (by kernel_rfl) (by kernel_rfl) (by rfl) HS6.out (fun w hw => by exact exec_to (.tmp 47) (.tmp 48) rfl A n c q rfl rfl HQ.out HC.out) ?_
      simp only [Act.put, List.setIfInBounds_toArray, List.set_cons_zero, List.set_cons_succ]
      refine reg_take (v := .slice A n c) 9 (some 51) rfl rfl (by kernel_rfl) (by kernel_rfl) (by kernel_rfl) (by rfl) HS6.out (fun w hw => by go_simp) ?_
      simp only [Act.put, List.setIfInBounds_toArray, List.set_cons_zero, List.set_cons_succ]
      refine reg_take (v := .int .i64 (q : Int)) 10 (some 52) rfl rfl (by kernel_rfl) (by kernel_rfl) (by kernel_rfl) (by rfl) HS6.out (fun w hw => by go_simp) ?_
      simp only [Act.put, List.setIfInBounds_toArray, List.set_cons_zero, List.set_cons_succ]
      refine reg_take (v := .slice (cutK A c q 6) (n - q) (c - q)) 11 (some 53) rfl rfl (by kernel_rfl) (by kernel_rfl) (by kernel_rfl) (by rfl) HS6.out (fun w hw => by exact exec_from (.tmp 51) (.tmp 52) rfl A n c q rfl rfl HQ.out) ?_
      simp only [Act.put, List.setIfInBounds_toArray, List.set_cons_zero, List.set_cons_succ]
      refine reg_take (v := .int .i64 (T : Int)) 14 (some 56) rfl rfl (by kernel_rfl) (by kernel_rfl) (by kernel_rfl) (by rfl) HS6.out (fun w hw => by go_simp) ?_
      simp only [Act.put, List.setIfInBounds_toArray, List.set_cons_zero, List.set_cons_succ]
      refine reg_call 8 (some 50) rfl rfl (by kernel_rfl) (by rfl) _ _ (exec_func 14 _ _ [.slice A q c] rfl (by kernel_rfl) rfl) ?_
      refine (size_any A q c (rs.take q) w6 (by have := HLN.out; have := HQ.out; rw [List.length_take]; omega) (rrow_take (HR.out.keep0 HS6.out) q) (by have := HTG.out; have := HPT.out; rw [← HT1.out]; omega) (by have := HC.out; have := HM.out; have := HQ.out; omega)).mono ?_
      rintro e w7 ⟨rfl, k7⟩
      rw [← HT1.out]
      have HS7 := Lib.hid (HS6.out.trans k7 (fun _ e => e.elim))
      refine ⟨_, rfl, HS7.out, fun _ => ?_⟩
      simp only [Act.put, List.setIfInBounds_toArray, List.set_cons_zero, List.set_cons_succ]
      refine reg_call 12 (some 54) rfl rfl (by kernel_rfl) (by rfl) _ _ (exec_func 14 _ _ [.slice (cutK A c q 6) (n - q) (c - q)] rfl (by kernel_rfl) rfl) ?_
      refine (size_any (cutK A c q 6) (n - q) (c - q) (rs.drop q) w7 (by have := HLN.out; rw [List.length_drop]; omega) (rrow_drop (HR.out.keep0 HS7.out) c q (by have := HLN.out; have := HC.out; omega)) (by have := HTG.out; have := HPT.out; rw [← HT2.out]; omega) (by have := HC.out; have := HM.out; have := HQ.out; omega)).mono ?_
      rintro e w8 ⟨rfl, k8⟩
      rw [← HT2.out]
      have HS8 := Lib.hid (HS7.out.trans k8 (fun _ e => e.elim))
      refine ⟨_, rfl, HS8.out, fun _ => ?_⟩
      simp only [Act.put, List.setIfInBounds_toArray, List.set_cons_zero, List.set_cons_succ]
      refine reg_take (v := .int .i64 (T : Int)) 13 (some 55) rfl rfl (by kernel_rfl) (by kernel_rfl) (by kernel_rfl) (by rfl) HS8.out (fun w hw => by go_simp) ?_
      simp only [Act.put, List.setIfInBounds_toArray, List.set_cons_zero, List.set_cons_succ]
      refine reg_take (v := .bool true) 15 (some 57) rfl rfl (by kernel_rfl) (by kernel_rfl) (by kernel_rfl) (by rfl) HS8.out (fun w hw => by go_simp) ?_
      simp only [Act.put, List.setIfInBounds_toArray, List.set_cons_zero, List.set_cons_succ]
      refine reg_take (v := .bool true) 16 (some 58) rfl rfl (by kernel_rfl) (by kernel_rfl) (by kernel_rfl) (by rfl) HS8.out (fun w hw => by go_simp) ?_
      simp only [Act.put, List.setIfInBounds_toArray, List.set_cons_zero, List.set_cons_succ]
      refine reg_take (v := .bool true) 17 (some 59) rfl rfl (by kernel_rfl) (by kernel_rfl) (by kernel_rfl) (by rfl) HS8.out (fun w hw => by go_simp) ?_
      simp only [Act.put, List.setIfInBounds_toArray, List.set_cons_zero, List.set_cons_succ]
      refine reg_call 18 (some 60) rfl rfl (by kernel_rfl) (by rfl) _ _ (exec_func 14 _ _ [.slice none 0 0] rfl (by kernel_rfl) rfl) ?_
      refine (size_any none 0 0 [] w8 rfl (Row.nil _ _) (by simp [total]) (by simp [maxLen])).mono ?_
      rintro e w9 ⟨rfl, k9⟩
      rw [show ((total [] : Nat) : Int) = 0 from rfl]
      have HS9 := Lib.hid (HS8.out.trans k9 (fun _ e => e.elim))
      refine ⟨_, rfl, HS9.out, fun _ => ?_⟩
      simp only [Act.put, List.setIfInBounds_toArray, List.set_cons_zero, List.set_cons_succ]
      refine reg_take (v := .bool true) 19 (some 61) rfl rfl (by kernel_rfl) (by kernel_rfl) (by kernel_rfl) (by rfl) HS9.out (fun w hw => by go_simp) ?_
      simp only [Act.put, List.setIfInBounds_toArray, List.set_cons_zero, List.set_cons_succ]
      refine reg_take (v := .bool true) 20 (some 62) rfl rfl (by kernel_rfl) (by kernel_rfl) (by kernel_rfl) (by rfl) HS9.out (fun w hw => by go_simp) ?_
      simp only [Act.put, List.setIfInBounds_toArray, List.set_cons_zero, List.set_cons_succ]
      refine reg_take (v := .bool true) 21 (some 4) rfl rfl (by kernel_rfl) (by kernel_rfl) (by kernel_rfl) (by rfl) HS9.out (fun w hw => by go_simp) ?_
      simp only [Act.put, List.setIfInBounds_toArray, List.set_cons_zero, List.set_cons_succ]
      refine reg_end (by kernel_rfl) ?_
      go_wp2
      go_ret
      exact ⟨rfl, HS9.out⟩
end Go.Proofs.Ytadhhnlolnnkhaa.Rec
