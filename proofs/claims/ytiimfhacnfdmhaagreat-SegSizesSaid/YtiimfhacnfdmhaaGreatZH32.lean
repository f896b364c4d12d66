/- Lemmas: SegTp SegT SegSizesW. -/
import Derived.Test.YtiimfhacnfdmhaaGreatZH01
import Derived.Test.YtiimfhacnfdmhaaGreatZH28
import Derived.Test.YtiimfhacnfdmhaaGreatZH05
import Derived.Test.YtiimfhacnfdmhaaGreatZH27
import Derived.Test.YtiimfhacnfdmhaaGreatZH26
import Derived.Test.YtiimfhacnfdmhaaGreatZH30
set_option linter.unusedVariables false
set_option linter.unusedSimpArgs false
namespace Go.Proofs.YtiimfhacnfdmhaaGreat.Rec
open Go Go.RowKit Kit
def fit : Nat → List Rec → Nat
  | _, [] => 0
  | size, r :: rs => if 16384 < size + 63 + r.body.length then 0 else fit (size + 63 + r.body.length) rs + 1
theorem fit_cons (size : Nat) (r : Rec) (rs : List Rec) : fit size (r :: rs) = if 16384 < size + 63 + r.body.length then 0 else fit (size + 63 + r.body.length) rs + 1 := rfl
theorem fit_le : ∀ (rs : List Rec) (size : Nat), fit size rs ≤ rs.length
  | [], size => Nat.le_refl _
  | r :: rs, size => by
    have := fit_le rs (size + 63 + r.body.length)
    rw [fit_cons, List.length_cons]; split <;> omega
def room : List Rec → Nat
  | [] => 0
  | r :: rs => fit (48 + 63 + r.body.length) rs + 1
theorem room_cons (r : Rec) (rs : List Rec) : room (r :: rs) = fit (48 + 63 + r.body.length) rs + 1 := rfl
theorem room_le (rs : List Rec) : room rs ≤ rs.length := by
  cases rs with
  | nil => exact Nat.le_refl _
  | cons r rs => have := fit_le rs (48 + 63 + r.body.length); rw [room_cons, List.length_cons]; omega
theorem room_pos (rs : List Rec) (h : rs ≠ []) : 0 < room rs := by
  cases rs with
  | nil => exact absurd rfl h
  | cons r rs => rw [room_cons]; omega
theorem ftot_one (r : Rec) : ftot [r] = 48 + 63 + r.body.length := by simp [ftot]; omega
theorem ftot_more (cur : List Rec) (r : Rec) : ftot (cur ++ [r]) = ftot cur + 63 + r.body.length := by
  have := ftot_append cur [r]
  rw [ftot_one] at this; omega
theorem spl_pre : ∀ (l : List Rec) (D E : List (List Rec)) (cur : List Rec), l.foldl spl1 (D ++ E, cur) = (D ++ (l.foldl spl1 (E, cur)).1, (l.foldl spl1 (E, cur)).2)
  | [], D, E, cur => rfl
  | r :: l, D, E, cur => by
    rw [List.foldl_cons, List.foldl_cons]
    by_cases h : cur ≠ [] ∧ 16384 < ftot (cur ++ [r])
    · rw [spl1_many _ r h.1 h.2, spl1_many _ r h.1 h.2]
      have := spl_pre l D (E ++ [cur]) [r]
      simp only [← List.append_assoc] at this ⊢
      exact this
    · have e1 : spl1 (D ++ E, cur) r = (D ++ E, cur ++ [r]) := if_neg h
      have e2 : spl1 (E, cur) r = (E, cur ++ [r]) := if_neg h
      rw [e1, e2]
      exact spl_pre l D E (cur ++ [r])
theorem spl_fit : ∀ (l : List Rec) (D : List (List Rec)) (cur : List Rec), cur ≠ [] →
    l.foldl spl1 (D, cur) = if fit (ftot cur) l = l.length then (D, cur ++ l) else (l.drop (fit (ftot cur) l)).foldl spl1 (D ++ [cur ++ l.take (fit (ftot cur) l)], [])
  | [], D, cur, hc => by rw [if_pos (by rfl), List.append_nil]; rfl
  | r :: l, D, cur, hc => by
    rw [List.foldl_cons]
    by_cases h : 16384 < ftot cur + 63 + r.body.length
    · rw [spl1_many (D, cur) r hc (by rw [ftot_more]; exact h), fit_cons, if_pos h, if_neg (by simp), List.take_zero, List.drop_zero, List.append_nil, List.foldl_cons, spl1_empty _ r rfl]
      rfl
    · rw [spl1_few (D, cur) r (by have := ftot_more cur r; simp only; omega), spl_fit l D (cur ++ [r]) (by simp), ftot_more, fit_cons, if_neg h]
      simp only [List.length_cons, Nat.add_right_cancel_iff, List.take_succ_cons, List.drop_succ_cons, List.append_assoc, List.singleton_append]
theorem split_more (rs : List Rec) (h : rs ≠ []) : split rs = rs.take (room rs) :: split (rs.drop (room rs)) := by
  cases rs with
  | nil => exact absurd rfl h
  | cons r l =>
    have hA : splA (r :: l) = l.foldl spl1 ([], [r]) := rfl
    have hf := spl_fit l [] [r] (by simp)
    rw [ftot_one] at hf
    rw [room_cons, List.take_succ_cons, List.drop_succ_cons]
    by_cases hk : fit (48 + 63 + r.body.length) l = l.length
    · rw [if_pos hk] at hf
      rw [hk, List.take_length, List.drop_length]
      unfold split
      rw [hA, hf, splA_nil]
      rfl
    · rw [if_neg hk] at hf
      obtain ⟨k, hke⟩ : ∃ k, k = fit (48 + 63 + r.body.length) l := ⟨_, rfl⟩
      rw [← hke] at hf ⊢
      have hp := spl_pre (l.drop k) [r :: l.take k] [] []
      rw [List.append_nil] at hp
      unfold split
      rw [hA, hf]
      simp only [List.nil_append, List.singleton_append]
      rw [hp]
      unfold splA
      split <;> simp
theorem split_nil : split [] = [] := rfl
end Go.Proofs.YtiimfhacnfdmhaaGreat.Rec
namespace Go.Proofs.YtiimfhacnfdmhaaGreat.Seg
open Go Go.RowKit Kit
open Rec (Rec good ftot ftot_snoc ftot_take fsec split Rrow Sr SrOk rcells rcells_one rec_info rsl_info recs_und recss_und exec_recOne fit fit_cons room room_cons room_le room_pos total size_any ftot_one split_more split_nil)
theorem total_one (r : Rec) : total [r] = 36 + r.body.length := by simp [total]
set_option maxHeartbeats 1000000 in
set_option maxRecDepth 100000 in
theorem roomFor_c (A : Option Addr) (n c : Nat) (rs : List Rec) (w : World) (hl : rs.length = n) (hr : Rrow w A rs) (hT : ftot rs ≤ 1099511627776) (hn : n ≤ 1000000) :
    Calls Tryz.prog 38 #[.slice A n c] w fun e w' => e = .returned (.int .i64 (room rs : Nat)) ∧ Kp nob w w' := by
  have HS := Lib.hid (fun w' => size_c none 0 0 [] w' rfl (Row.nil _ _) (by rw [Rec.ftot_nil]; omega) (by omega))
  rw [Rec.ftot_nil] at HS
  have HR := Lib.hid hr
  have HL := Lib.hid hl
  have HT := Lib.hid hT
  clear hr hl hT
  go_enter Tryz.func38, Tryz.ntmps38
  go_wp2_with (first | (go_at_call 11; refine (HS.out _).mono ?_; rintro r w1 ⟨rfl, k1⟩) | fail)
  have HK1 := Lib.hid k1
  clear k1
  go_loopw [3, 9] (fun sz i wr => ∃ k : Nat, k ≤ n ∧ i = .int .i64 k ∧ sz = .int .i64 (ftot (rs.take k) : Nat) ∧ (0 < k → room rs = k + fit (ftot (rs.take k)) (rs.drop k)) ∧ Kp nob w wr)
    (fun _ i _ => n - (intOf i).toNat)
  case atStart => exact ⟨0, Nat.zero_le _, rfl, rfl, fun h => by omega, HK1.out⟩
  case round =>
    obtain ⟨k, hk, rfl, rfl, hrm, kr⟩ := hrel
    by_cases hlt : k < n
    · have hk2 : k < rs.length := by rw [HL.out]; exact hlt
      obtain ⟨bb, oo, rfl, hbb, hc0, hc1, hc2, hc3, hc4, hc5⟩ := (HR.out.keep0 kr).at_ (i := k) hk2
      have hsn := ftot_snoc rs k hk2
      have htk := ftot_take rs (k + 1)
      have hdr := List.drop_eq_getElem_cons hk2
      have hroom0 : k = 0 → room rs = fit (ftot (rs.take 1)) (rs.drop 1) + 1 := fun _ => by
        cases rs with
        | nil => simp at hk2
        | cons r rs => rw [room_cons]; simp only [List.take_succ_cons, List.take_zero, List.drop_succ_cons, List.drop_zero]; rw [ftot_one]
      obtain ⟨p, hpe⟩ : ∃ p, p = rs[k]'hk2 := ⟨_, rfl⟩
      rw [← hpe] at hc0 hc1 hc2 hc3 hc4 hc5 hsn hdr
      obtain ⟨T, hTe⟩ : ∃ T, T = ftot (rs.take k) := ⟨_, rfl⟩
      rw [← hTe] at hsn hrm ⊢
      have hTT := HT.out
      have hb1 : (T : Int) + (27 + (36 + (p.body.length : Int))) ≤ 1099511627776 := by omega
      have HN : Hid (0 < k → room rs = if 16384 < T + 63 + p.body.length then k else k + (fit (T + 63 + p.body.length) (rs.drop (k + 1)) + 1)) := Lib.hid (fun h => by
        rw [hrm h, hdr, fit_cons]; split <;> omega)
      have H0 := Lib.hid hroom0
      have HSN := Lib.hid hsn
      have HKR := Lib.hid kr
      have HBA := Lib.hid (Blk.new wr 34 (rcells p))
      have hSZ := fun w' (h : Rrow w' (some ⟨wr.heap.size + 1, 0, none⟩) [p]) => size_any (some ⟨wr.heap.size + 1, 0, none⟩) 1 1 [p] w' rfl h (by rw [total_one]; omega) (by simp [maxLen])
      rw [total_one] at hSZ
      have HSZ := Lib.hid hSZ
      clear hpe hTe hsn htk hdr hroom0 hrm kr hTT hSZ
      go_wp2_with (first
        | (refine wpList_gd (by rfl) (exec_recOne (.tmp 15) p rfl rfl) ?_)
        | fail)
      have hrow := row_new (wr.alloc (.cells (rcells p).toArray 34)) (rcells p) 34
      have e1 : (wr.alloc (.cells (rcells p).toArray 34)).heap.size = wr.heap.size + 1 := by simp
      rw [e1] at hrow
      have kA := ((Kp.refl nob wr).alloc (.cells (rcells p).toArray 34)).alloc (.cells (rcells p).toArray 34)
      refine (HSZ.out _ (by unfold Rrow; simp only [List.flatMap_cons, List.flatMap_nil, List.append_nil]; exact hrow)).mono ?_
      rintro r w3 ⟨rfl, k3⟩
      have HK3 := Lib.hid ((HKR.out.trans kA (fun _ e => e.elim)).trans k3 (fun _ e => e.elim))
      clear kA k3 hrow e1
      by_cases hbig : 16384 < T + 63 + p.body.length
      · have hb2 : (16384 : Int) < (T : Int) + (27 + (36 + (p.body.length : Int))) := by omega
        by_cases hk0 : k = 0
        · subst hk0
          have h1 := H0.out rfl
          have HN2 : Hid (0 < 0 + 1 → room rs = 0 + 1 + fit (ftot (rs.take (0 + 1))) (rs.drop (0 + 1))) := Lib.hid (fun _ => by rw [h1, Nat.zero_add]; omega)
          clear h1
          go_wp2
          go_roundw
          case rel => exact ⟨0 + 1, by omega, by go_num, by rw [HSN.out]; go_num, HN2.out, HK3.out⟩
          case measure => simp [intOf]; omega
        · have hkp : 0 < k := by omega
          have hd : decide (0 < k) = true := decide_eq_true hkp
          have h1 := HN.out hkp
          rw [if_pos hbig] at h1
          have H1 := Lib.hid h1
          clear h1
          go_wp2
          go_ret
          exact ⟨by rw [H1.out]; rfl, HK3.out⟩
      · have hb2 : (T : Int) + (27 + (36 + (p.body.length : Int))) ≤ 16384 := by omega
        have HN2 : Hid (0 < k + 1 → room rs = k + 1 + fit (ftot (rs.take (k + 1))) (rs.drop (k + 1))) := Lib.hid (fun _ => by
          by_cases hk0 : k = 0
          · subst hk0
            have h1 := H0.out rfl
            rw [h1, Nat.zero_add]; omega
          · have h1 := HN.out (by omega)
            rw [if_neg hbig, ← HSN.out] at h1
            omega)
        clear hbig
        go_wp2
        go_roundw
        case rel => exact ⟨k + 1, by omega, by go_num, by rw [HSN.out]; go_num, HN2.out, HK3.out⟩
        case measure => simp [intOf]; omega
    · obtain rfl : k = n := by omega
      have HRM : Hid (room rs = k) := Lib.hid (by
        by_cases h0 : 0 < k
        · rw [hrm h0, List.drop_of_length_le (by rw [HL.out]; exact Nat.le_refl _)]; rfl
        · have : rs = [] := List.eq_nil_of_length_eq_zero (by have := HL.out; omega)
          rw [this]; show 0 = k; omega)
      have HKR := Lib.hid kr
      clear hrm kr
      go_wp2
      go_ret
      exact ⟨by rw [HRM.out]; rfl, HKR.out⟩
theorem run_cut3 {P : Program} (t e : TypeId) (z : Nat) (ht : P.underlying t = some (.slice e)) (hz : ∀ w, (sizeOf e).run P w = .ok z w) (A : Option Addr) (n c k : Nat) (hk : k ≤ n) (hc : n ≤ c) (w : World) : (Instr.slice t (.slice A n c) none (some (.int .i64 k)) (some (.int .i64 k))).run P w = .ok (.slice A k k) w := by
  have h1 : (0 : Int) ≤ k ∧ (k : Int) ≤ c := by omega
  have he := hz w
  cases A with
  | none => simp [Instr.slice, run_underlying ht, Instr.sliceBounds, run_sliceBound, he, h1]
  | some a =>
    have h3 : a.add 0 = a := rfl
    simp [Instr.slice, run_underlying ht, Instr.sliceBounds, run_sliceBound, he, h1, h3]
theorem exec_cut3 {P : Program} (t e : TypeId) (z : Nat) (ht : P.underlying t = some (.slice e)) (hz : ∀ w, (sizeOf e).run P w = .ok z w) {w : World} {a : Act} {o : Oper} (x y u : Operand) (ho : o.op = .slice t x none (some y) (some u)) (A : Option Addr) (n c k : Nat) (hx : a.eval x = .slice A n c) (hy : a.eval y = .int .i64 k) (hu : a.eval u = .int .i64 k) (hk : k ≤ n) (hc : n ≤ c) :
    (execOp a.eval o).run P w = .ok (.value (.slice A k k)) w := by
  have hr : (Instr.sliceAt t (.slice A n c) none (some (.int .i64 k)) (some (.int .i64 k))).run P w = .ok (.slice A k k) w := by
    have := run_cut3 t e z ht hz A n c k hk hc w
    unfold Instr.sliceAt
    simpa [run_underlying ht] using this
  unfold execOp
  simp only [ho, hx, hy, hu, Option.map_some, Option.map_none, Sem.run_bind, hr, Result.andThen_ok, Sem.run_pure]
theorem rec_sizeOf (w : World) : (sizeOf 34).run Tryz.prog w = .ok 6 w := by kernel_rfl
theorem eq_nilR (w : World) (A : Option Addr) (n c : Nat) : (binOp .eql 22 (.slice A n c) (.slice none 0 0)).run Tryz.prog w = .ok (.bool A.isNone) w :=
  Lib.run_eql_slice_nil w 22 34 A n c 0 0 recs_und
set_option maxHeartbeats 1000000 in
set_option maxRecDepth 100000 in
theorem cloneR (A : Option Addr) (m d : Nat) (rs : List Rec) (w : World) (hm : rs.length = m) (hr : Rrow w A rs) (hm2 : m ≤ 1000000) (hA : A = none → d = 0) (hd : m ≤ d) :
    Calls Tryz.prog 37 #[.slice A m d] w fun e w' => ∃ (C : Option Addr) (cc : Nat), e = .returned (.slice C m cc) ∧ OwnK 6 34 w' C m cc (rs.flatMap rcells) ∧ Kp nob w w' ∧ ∀ j, ab C = some j → w.heap.size ≤ j := by
  have hq := eq_nilR
  cases A with
  | none =>
    obtain rfl := hA rfl
    obtain rfl : m = 0 := by omega
    obtain rfl : rs = [] := List.eq_nil_of_length_eq_zero hm
    go_enter Tryz.func37, Tryz.ntmps37
    go_wp2
    go_ret
    exact ⟨none, 0, rfl, OwnK.nil 6 _ _, Kp.refl _ _, fun j e => by cases e⟩
  | some a =>
    obtain ⟨i0, hi1, hi2, hi3, hi4⟩ := rec_info
    have HR := Lib.hid (Row.keep0 hr ((Kp.refl nob w).alloc (.cells #[] 34)))
    have HL := Lib.hid hm
    have hq1 := hq w (some a) m d
    clear hr hm hq
    go_enter Tryz.func37, Tryz.ntmps37
    go_wp2_with (first
      | (refine wpList_gd (by rfl) (Rec.exec_rec0 rfl) ?_)
      | (refine wpList_appEmpty_gd _ (.tmp 5) (.tmp 6) 22 rfl (by rfl) 6 (by decide) 34 i0 _ 56 recs_und hi1 hi2 hi3 hi4 rfl w.heap.size rfl (by have := ownK_new w 6 0 34 [] rfl (by simp [maxLen]); simpa using this) (some a) m d (rs.flatMap rcells) rfl (fun e => by cases e) (by rw [Rec.rcs_len, HL.out]) HR.out (by omega) (by simp [maxLen]; omega) ?_
         intro C cc w1 ho hk1 ha1)
      | fail)
    have HO := Lib.hid ho
    have HK := Lib.hid (((Kp.refl nob w).alloc (.cells #[] 34)).trans hk1 (fun _ e => e.elim))
    have HA1 := Lib.hid ha1
    clear ho hk1 ha1
    go_wp2
    go_ret
    refine ⟨C, cc, rfl, HO.out, HK.out, fun j e => ?_⟩
    rcases HA1.out with h | h
    · rw [h] at e; cases e; exact Nat.le_refl _
    · rw [h] at e; cases e; simp
def slLen : Value → Nat
  | .slice _ n _ => n
  | _ => 0
structure TS (w : World) (rs : List Rec) (C Y : Option Addr) (j : Nat) (wr : World) (X : Option Addr) (nx cx : Nat) (ps : List Sr) : Prop where
  row : Row wr Y ((rs.drop j).flatMap rcells)
  ya : ab Y = ab C
  yn : Y = none → C = none
  ext : ps.map (·.rs) ++ split (rs.drop j) = split rs
  own : OwnK 1 22 wr X nx cx (ps.map Sr.v)
  few : nx ≤ j
  ok : ∀ p ∈ ps, SrOk wr p ∧ ∀ i, ab p.A = some i → ab X ≠ some i
  xf : ∀ i, ab X = some i → w.heap.size ≤ i ∧ ab C ≠ some i
  k : Kp nob w wr
theorem cutK_none {A : Option Addr} {c k z : Nat} (h : cutK A c k z = none) : A = none := by
  unfold cutK at h
  split at h
  · exact h
  · simpa using h
theorem TS.more {w wr w2 w3 : World} {rs : List Rec} {C Y X X2 : Option Addr} {m cc j nx cx cx2 n : Nat} {ps : List Sr} (h : TS w rs C Y j wr X nx cx ps) (hm : rs.length = m) (hj : j < m) (hn : n = room (rs.drop j)) (hC : ∀ i, ab C = some i → i < w2.heap.size) (hcc : m ≤ cc) (hcm : cc ≤ maxLen) (hcn : C = none → cc = 0)
    (k2 : Kp nob wr w2) (ho : OwnK 1 22 w3 X2 (nx + 1) cx2 (ps.map Sr.v ++ [.slice Y n n])) (hg : Kp (rowF X) w2 w3) (hz : ab X2 = ab X ∨ ab X2 = some w2.heap.size) :
    TS w rs C (cutK Y (cc - j) n 6) (j + n) w3 X2 (nx + 1) cx2 (ps ++ [⟨Y, n, n, (rs.drop j).take n⟩]) := by
  have hdl : (rs.drop j).length = m - j := by rw [List.length_drop, hm]
  have hne : rs.drop j ≠ [] := fun e => by rw [e] at hdl; simp at hdl; omega
  have hr1 := room_pos _ hne
  have hr2 := room_le (rs.drop j)
  rw [hdl, ← hn] at hr2
  rw [← hn] at hr1
  have hxC : ∀ i, ab X2 = some i → w.heap.size ≤ i ∧ ab C ≠ some i := fun i e => by
    rcases hz with e2 | e2
    · rw [e2] at e; exact h.xf i e
    · rw [e2] at e; cases e
      exact ⟨by have := h.k.size; have := k2.size; omega, fun e3 => by have := hC _ e3; omega⟩
  have hrow3 : Row w3 Y ((rs.drop j).flatMap rcells) := (h.row.keep0 k2).keep hg (fun i e e2 => (h.xf i e2).2 (by rw [← h.ya]; exact e))
  have a1 : ((rs.drop j).flatMap rcells).drop (n * 6) = (rs.drop (j + n)).flatMap rcells := by
    rw [← List.drop_drop]
    conv => lhs; rw [← List.take_append_drop n (rs.drop j), List.flatMap_append]
    rw [List.drop_left' (by rw [Rec.rcs_len, List.length_take, hdl]; omega)]
  have a2 : ((rs.drop j).flatMap rcells).take (n * 6) = ((rs.drop j).take n).flatMap rcells := by
    conv => lhs; rw [← List.take_append_drop n (rs.drop j), List.flatMap_append]
    rw [List.take_left' (by rw [Rec.rcs_len, List.length_take, hdl]; omega)]
  have hcut : Row w3 (cutK Y (cc - j) n 6) ((rs.drop (j + n)).flatMap rcells) := by
    rw [← a1]
    exact hrow3.cutK (by rw [Rec.rcs_len, hdl]; omega)
  refine ⟨hcut, by rw [ab_cutK]; exact h.ya, fun e => h.yn (cutK_none e), ?_, by rw [List.map_append]; exact ho, by have := h.few; omega, fun p hp => ?_, hxC, (h.k.trans k2 (fun _ e => e.elim)).since hg (fun i e => (h.xf i e).1)⟩
  · rw [List.map_append, ← h.ext, split_more (rs.drop j) hne, ← hn, List.drop_drop, List.append_assoc]; rfl
  · rcases List.mem_append.1 hp with hp | hp
    · have h1 := h.ok p hp
      refine ⟨(h1.1.keep0 k2).keep hg (fun i e e2 => h1.2 i e e2), fun i e e2 => ?_⟩
      rcases hz with e3 | e3
      · rw [e3] at e2; exact h1.2 i e e2
      · rw [e3] at e2; cases e2
        have := h1.1.lt _ e
        have := k2.size
        omega
    · rcases List.mem_singleton.1 hp with rfl
      refine ⟨⟨by show ((rs.drop j).take n).length = n; rw [List.length_take, hdl]; omega, ?_, Nat.le_refl _, by show n ≤ maxLen; omega, fun e => ?_, fun i e => ?_⟩, fun i e e2 => ?_⟩
      · have h2 := hrow3.take (n * 6)
        rw [a2] at h2
        exact h2
      · exfalso
        have := hcn (h.yn e)
        omega
      · have e : ab Y = some i := e
        rw [h.ya] at e
        have := hC i e
        have := hg.size
        omega
      · have e : ab Y = some i := e
        rw [h.ya] at e
        exact (hxC i e2).2 e
set_option maxHeartbeats 2000000 in
set_option maxRecDepth 100000 in
theorem split_c : SplitC := by
  intro A m d rs w hm hr hT hm2 hA hd hdm
  have HCL := Lib.hid (cloneR A m d rs w hm hr hm2 hA hd)
  have HL := Lib.hid hm
  have HT := Lib.hid hT
  have HM := Lib.hid hm2
  clear hm hr hT hA hd hdm
  go_enter Tryz.func15, Tryz.ntmps15
  go_wp2_with fail
  refine HCL.out.mono ?_
  rintro r w1 ⟨C, cc, rfl, ho, k1, hC⟩
  have hcap := ho.cap
  have HC := Lib.hid (And.intro (fun i e => ho.lt i e : ∀ i, ab C = some i → i < w1.heap.size) (And.intro hcap.1 (And.intro hcap.2 (OwnZ.none_ ho))))
  have HTS := Lib.hid (show TS w rs C C 0 w1 none 0 0 [] from ⟨ho.row, rfl, fun e => e, rfl, OwnK.nil 1 22 w1, Nat.le_refl _, fun p hp => (by cases hp), fun i e => (by cases e), k1⟩)
  clear ho k1 hC hcap
  go_wp2
  go_loopw [3, 4] (fun ls rest wr => ∃ (j : Nat) (X Y : Option Addr) (nx cx : Nat) (ps : List Sr), ls = .slice X nx cx ∧ rest = .slice Y (m - j) (cc - j) ∧ j ≤ m ∧ w1.heap.size ≤ wr.heap.size ∧ TS w rs C Y j wr X nx cx ps)
    (fun _ rest _ => slLen rest)
  case atStart => exact ⟨0, none, C, 0, 0, [], rfl, rfl, Nat.zero_le _, Nat.le_refl _, HTS.out⟩
  case round =>
    obtain ⟨j, X, Y, nx, cx, ps, rfl, rfl, hj, kr, hts⟩ := hrel
    have HTS2 := Lib.hid hts
    have HKR := Lib.hid kr
    clear hts kr
    by_cases hlt : j < m
    · have hdl : (rs.drop j).length = m - j := by rw [List.length_drop, HL.out]
      have hft : ftot (rs.drop j) ≤ 1099511627776 := by
        have h1 := Rec.ftot_append (rs.take j) (rs.drop j)
        rw [List.take_append_drop] at h1
        have h2 : 48 ≤ ftot (rs.take j) := by unfold ftot; omega
        have := HT.out
        omega
      have HRF := Lib.hid (roomFor_c Y (m - j) (cc - j) (rs.drop j) wr hdl HTS2.out.row hft (by have := HM.out; omega))
      obtain ⟨n, hn⟩ : ∃ n, n = room (rs.drop j) := ⟨_, rfl⟩
      have hnl : n ≤ m - j := by rw [hn, ← hdl]; exact room_le _
      have hnp : 0 < n := by rw [hn]; exact room_pos _ (fun e => by rw [e] at hdl; simp at hdl; omega)
      rw [← hn] at HRF
      have HN := Lib.hid hn
      clear hdl hft hn
      have hmj : ((m - j : Nat) : Int) = (m : Int) - (j : Int) := by omega
      have hmj2 : 0 < m - j := by omega
      have hd0 : decide (0 < m - j) = true := decide_eq_true hmj2
      have hnx : nx ≤ 1000000 := by have := HTS2.out.few; omega
      obtain ⟨i0, hi1, hi2, hi3, hi4⟩ := rsl_info
      go_wp2_with (first
        | (go_at_call 38; refine HRF.out.mono ?_; rintro r w2 ⟨rfl, k2⟩; have HK2 := Lib.hid k2; have HO2 := Lib.hid (HTS2.out.own.keep k2 (fun _ _ e => e)); clear k2)
        | (refine wpList_gd (by rfl) (exec_cut3 22 34 6 recs_und rec_sizeOf (.tmp 14) (.tmp 15) (.tmp 16) rfl Y (m - j) (cc - j) n rfl rfl rfl hnl (by have := HC.out.2.1; omega)) ?_)
        | (refine wpList_appKO_gd _ (.tmp 13) (.tmp 18) 27 rfl (by rfl) 1 (by decide) 22 i0 _ 24 recss_und hi1 hi2 hi3 hi4 rfl X nx cx (ps.map Sr.v) rfl (HO2.out.alloc _) (some ⟨w2.heap.size, 0, none⟩) 1 1 [.slice Y n n] rfl (fun e => by cases e) rfl (row_new w2 [.slice Y n n] _) (fun u hu => by rcases List.mem_singleton.1 hu with rfl; rfl) (by omega) (by simp [maxLen]; omega) ?_
           intro X2 cx2 w3 ho2 hg2 hz2)
        | (refine wpList_gd (by rfl) (exec_fromK 22 34 6 recs_und rec_sizeOf (.tmp 20) (.tmp 21) rfl Y (m - j) (cc - j) n rfl rfl hnl) ?_)
        | fail)
      have ka : Kp nob wr (w2.alloc (.cells #[.slice Y n n] 22)) := HK2.out.alloc _
      have HNX := Lib.hid (HTS2.out.more HL.out hlt HN.out (fun i e => by have h1 := HC.out.1 i e; have h2 := HKR.out; have h3 := ka.size; omega) HC.out.2.1 HC.out.2.2.1 HC.out.2.2.2 ka ho2 ((Kp.refl _ _).grown hg2 (fun i e => .inl e)) hz2)
      have HKX : Hid (w1.heap.size ≤ w3.heap.size) := Lib.hid (by have h1 := HKR.out; have h2 := ka.size; have h3 := ((Kp.refl (rowF X) _).grown hg2 (fun i e => .inl e)).size; omega)
      have HE : Hid (m - j - n = m - (j + n) ∧ cc - j - n = cc - (j + n)) := Lib.hid (by omega)
      clear ho2 hg2 hz2 ka
      go_wp2_with (first
        | (refine wpList_gd (by rfl) (exec_fromK 22 34 6 recs_und rec_sizeOf (.tmp 20) (.tmp 21) rfl Y (m - j) (cc - j) n rfl rfl hnl) ?_)
        | fail)
      go_roundw
      case rel => exact ⟨j + n, X2, _, nx + 1, cx2, _, rfl, by rw [HE.out.1, HE.out.2], by omega, HKX.out, HNX.out⟩
      case measure => simp [slLen]; omega
    · obtain rfl : j = m := by omega
      have h0 : (rs.drop j) = [] := List.drop_of_length_le (by rw [HL.out]; exact Nat.le_refl _)
      have hex := HTS2.out.ext
      rw [h0, split_nil, List.append_nil] at hex
      have HEX := Lib.hid hex
      have hpl := HTS2.out.own.len
      rw [List.length_map, Nat.mul_one] at hpl
      have HPL := Lib.hid hpl
      have hjj : j - j = 0 := Nat.sub_self j
      rw [hjj]
      clear hex h0 hpl hjj
      go_wp2
      go_ret
      exact ⟨X, nx, cx, ps, rfl, HPL.out, HTS2.out.own.row, HEX.out, fun p hp => (HTS2.out.ok p hp).1, HTS2.out.k⟩
end Go.Proofs.YtiimfhacnfdmhaaGreat.Seg
namespace Go.Proofs.YtiimfhacnfdmhaaGreat.Seg
open Go Go.RowKit Kit
open Rec (Rec rcells)
theorem sizes_any (A : Option Addr) (n c : Nat) (rs : List Rec) (w : World)
    (hl : rs.length = n) (hn : A = none → c = 0) (hr : Row w A (rs.flatMap rcells)) (hc : n ≤ c) (hm : c ≤ maxLen) (hw : ∀ r ∈ rs, r.ok) :
    Calls Tryz.prog 3 #[.slice A n c] w fun e w' => e = .returned (.bool true) ∧ Kp nob w w' := by
  letI : Inhabited Sha.ShaTab := ⟨shaAny⟩
  letI : Inhabited Field.SqTab := ⟨sqAny⟩
  exact sizes_walk pk pack_c pk_shape sectors_c length_c size_c split_c A n c rs w hl hn hr hc hm
end Go.Proofs.YtiimfhacnfdmhaaGreat.Seg
