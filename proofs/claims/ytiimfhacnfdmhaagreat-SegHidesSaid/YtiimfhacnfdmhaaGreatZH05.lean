/- Lemmas: AppK RecA RecSa SegP VauA0 VauA. -/
import Derived.Test.YtiimfhacnfdmhaaGreatZH03
import Derived.Test.YtiimfhacnfdmhaaGreatZH04
import Derived.Test.YtiimfhacnfdmhaaGreatZH00
import Derived.Test.YtiimfhacnfdmhaaGreatZH01
import Derived.Test.YtiimfhacnfdmhaaGreatZH02
import Derived.Deep.QuietTactic
import Derived.BigQuiet
import Derived.Test.YtiimfhacnfdmhaaGreatRows
import Derived.StillTailTactics
import Derived.RegionTactic
set_option linter.unusedVariables false
set_option linter.unusedSimpArgs false
namespace Go.Proofs.YtiimfhacnfdmhaaGreat.Kit
open Go Go.RowKit
theorem exec_app {P : Program} {w w' : World} {a : Act} {o : Oper} {v : Value} (s x : Operand) (t : TypeId) (ho : o.op = .call { callee := .builtin .append, args := #[s, x], argTypes := #[t, t] }) (vs vx : Value) (hs : a.eval s = vs) (hx : a.eval x = vx)
    (hr : (Builtin.append_ #[t, t] o.type #[vs, vx]).run P w = .ok v w') : (execOp a.eval o).run P w = .ok (.value v) w' := by
  subst hs; subst hx
  unfold execOp
  simp only [ho, resolve, invoke, builtin, Sem.run_bind, Sem.run_pure, Result.andThen_ok, List.map_toArray, List.map_cons, List.map_nil, hr]
theorem run_appKO {P : Program} (w : World) (t ty : TypeId) (k : Nat) (hk : 0 < k) (e : TypeId) (i : TypeInfo) (z : Value) (bytes : Nat) (ht : P.underlying t = some (.slice e)) (hi : P.info? e = some i) (hz : i.zero = some z)
    (hsize : i.size = k) (hby : i.bytes = bytes) (hzs : z.cells.size = k)
    (A : Option Addr) (n c : Nat) (xs : List Value) (hown : OwnK k e w A n c xs)
    (B : Option Addr) (m d : Nat) (ys : List Value) (hB : B = none → m = 0) (hm : ys.length = m * k) (hrow : Row w B ys) (h1 : ∀ u ∈ ys, u.oneCell' = true)
    (hbytes : (n + m) * bytes ≤ 140737488355328) (hmx : n + m ≤ maxLen) : ∃ A' c' w', (Builtin.append_ #[t, t] ty #[.slice A n c, .slice B m d]).run P w = .ok (.slice A' (n + m) c') w' ∧ OwnK k e w' A' (n + m) c' (xs ++ ys) ∧ w.grownBy w' (ab A) ∧ (ab A' = ab A ∨ ab A' = some w.heap.size) := by
  cases B with
  | none =>
    have hd := hB rfl
    subst hd
    have hy : ys = [] := List.eq_nil_of_length_eq_zero (by simpa using hm)
    subst hy
    have hc := hown.cap.1
    refine ⟨A, c, w, ?_, by simpa using hown, World.grownBy.refl _ _, .inl rfl⟩
    cases A <;> simp [Builtin.append_, run_underlying ht, sizeOf, typeInfo, hi, Builtin.lenOf, Builtin.firstCells, hc, storeCells]
  | some ad => exact run_appK w t ty k hk e i z bytes ht hi hz hsize hby hzs A n c xs hown ad m d ys hm hrow h1 hbytes hmx
theorem run_appEmpty {P : Program} (w : World) (t ty : TypeId) (k : Nat) (hk : 0 < k) (e : TypeId) (i : TypeInfo) (z : Value) (bytes : Nat) (ht : P.underlying t = some (.slice e)) (hi : P.info? e = some i) (hz : i.zero = some z)
    (hsize : i.size = k) (hby : i.bytes = bytes) (hzs : z.cells.size = k)
    (g : Nat) (hg : OwnK k e w (some ⟨g, 0, none⟩) 0 0 [])
    (B : Option Addr) (m d : Nat) (ys : List Value) (hB : B = none → m = 0) (hm : ys.length = m * k) (hrow : Row w B ys)
    (hbytes : m * bytes ≤ 140737488355328) (hmx : m ≤ maxLen) : ∃ A' c' w', (Builtin.append_ #[t, t] ty #[.slice (some ⟨g, 0, none⟩) 0 0, .slice B m d]).run P w = .ok (.slice A' m c') w' ∧ OwnK k e w' A' m c' ys ∧ Kp nob w w' ∧ (ab A' = some g ∨ ab A' = some w.heap.size) := by
  by_cases h0 : m = 0
  · subst h0
    have hy : ys = [] := List.eq_nil_of_length_eq_zero (by simpa using hm)
    subst hy
    refine ⟨some ⟨g, 0, none⟩, 0, w, ?_, hg, Kp.refl _ _, .inl rfl⟩
    cases B <;> simp [Builtin.append_, run_underlying ht, sizeOf, typeInfo, hi, Builtin.lenOf, Builtin.firstCells, storeCells, loadCells, loadCellsFrom, Result.andThen]
  · obtain ⟨ad, rfl⟩ : ∃ ad, B = some ad := by
      cases B with
      | none => exact absurd (hB rfl) h0
      | some ad => exact ⟨ad, rfl⟩
    have hnews : ∀ j u, ys[j]? = some u → w.cell? (ad.add j) = some u := by
      intro j u hu
      rcases hrow with rfl | ⟨b, o', h, _, hcell⟩
      · simp at hu
      · cases h
        have := hcell j u hu
        by_cases hj : j = 0 <;> simpa [Addr.add, hj] using this
    have hr := run_append_grow (P := P) w t ty e i z ht hi hz ⟨g, 0, none⟩ 0 0 [] (by simp) (fun j v h => by simp at h) ad m d ys (by rw [hsize]; exact hm) hnews (by omega) (by simp only [maxLen] at hmx; omega) (growslice_fits (by simp only [maxLen] at hmx; omega) (by rw [hby]; simpa using hbytes))
    have hge := grownCap_ge w (0 + m) 0 e
    have hcm : grownCap w (0 + m) 0 e ≤ maxLen := grownCap_le_maxLen w (0 + m) 0 e (by omega)
    rw [Nat.zero_add] at hr hge hcm
    refine ⟨some ⟨w.heap.size, 0, none⟩, _, _, hr, ⟨hm, .inr ⟨w.heap.size, _, _, rfl, Nat.zero_le _, heap_alloc_new w.drew _, hge, hcm, ?_, ?_⟩⟩, (Kp.refl nob w).drew.alloc _, .inr rfl⟩
    · simp only [Array.size_append, List.size_toArray, size_zeroCells, hzs, List.length_nil, hm]
      rw [Nat.zero_add, ← Nat.add_mul]
      congr 1
      omega
    · simp only [Array.toList_append, List.nil_append]
      rw [← hm]
      simp
section
variable {P : Program} {md : Region.Mode} {ops : Array Oper} {Q : Exit → Act → World → Prop} {S : World → Prop}
theorem reg_appKO {oi : Oper} {fuel : Nat} {listed : Array Bool} {a : Act} {w : World} (ix : Nat) (dd : Option Tmp) (s x : Operand) (t : TypeId) (hi0 : ops[ix]? = some oi) (hd0 : oi.dst = dd)
    (ho : oi.op = .call { callee := .builtin .append, args := #[s, x], argTypes := #[t, t] }) (hr0 : Region.ready md ops listed = [ix]) (hw0 : Region.wanted oi (yielded ops a.tmps) = true)
    (k : Nat) (hk : 0 < k) (e : TypeId) (i : TypeInfo) (z : Value) (bytes : Nat) (ht : P.underlying t = some (.slice e)) (hi : P.info? e = some i) (hz : i.zero = some z)
    (hsize : i.size = k) (hby : i.bytes = bytes) (hzs : z.cells.size = k)
    (A : Option Addr) (n c : Nat) (xs : List Value) (hs : a.eval s = .slice A n c) (hown : OwnK k e w A n c xs)
    (B : Option Addr) (m d : Nat) (ys : List Value) (hx : a.eval x = .slice B m d) (hB : B = none → m = 0) (hm : ys.length = m * k) (hrow : Row w B ys) (h1 : ∀ u ∈ ys, u.oneCell' = true)
    (hbytes : (n + m) * bytes ≤ 140737488355328) (hmx : n + m ≤ maxLen)
    (h : ∀ A' c' w', OwnK k e w' A' (n + m) c' (xs ++ ys) → w.grownBy w' (ab A) → (ab A' = ab A ∨ ab A' = some w.heap.size) → S w' ∧ (S w' → wpAnyH P md ops (NoPanic Q) S fuel (listed.setIfInBounds ix true) (a.put dd (.slice A' (n + m) c')) w')) : wpAnyH P md ops (NoPanic Q) S (fuel + 1) listed a w := by
  subst hd0
  obtain ⟨A', c', w', hr, h2, h3, h4⟩ := run_appKO (P := P) w t oi.type k hk e i z bytes ht hi hz hsize hby hzs A n c xs hown B m d ys hB hm hrow h1 hbytes hmx
  obtain ⟨hS, hc⟩ := h A' c' w' h2 h3 h4
  refine wpAnyH_ready hr0 (by simp) (AllReadyH.cons hi0 (fun K' hK => ?_) AllReadyH.nil)
  rw [if_pos hw0]
  unfold Oper.wp
  rw [exec_app s x t ho _ _ hs hx hr]
  exact hK.out _ _ hS hc
end
theorem wpList_appKO_gd {P : Program} (w : World) {ops : Array Oper} {rest : List Oper} {o : Oper} {a : Act} {Q : Exit → Act → World → Prop} (s x : Operand) (t : TypeId)
    (ho : o.op = .call { callee := .builtin .append, args := #[s, x], argTypes := #[t, t] }) (hw : Region.wanted o (yielded ops a.tmps) = true)
    (k : Nat) (hk : 0 < k) (e : TypeId) (i : TypeInfo) (z : Value) (bytes : Nat) (ht : P.underlying t = some (.slice e)) (hi : P.info? e = some i) (hz : i.zero = some z)
    (hsize : i.size = k) (hby : i.bytes = bytes) (hzs : z.cells.size = k)
    (A : Option Addr) (n c : Nat) (xs : List Value) (hs : a.eval s = .slice A n c) (hown : OwnK k e w A n c xs)
    (B : Option Addr) (m d : Nat) (ys : List Value) (hx : a.eval x = .slice B m d) (hB : B = none → m = 0) (hm : ys.length = m * k) (hrow : Row w B ys) (h1 : ∀ u ∈ ys, u.oneCell' = true)
    (hbytes : (n + m) * bytes ≤ 140737488355328) (hmx : n + m ≤ maxLen)
    (h : ∀ A' c' w', OwnK k e w' A' (n + m) c' (xs ++ ys) → w.grownBy w' (ab A) → (ab A' = ab A ∨ ab A' = some w.heap.size) → wpList P ops Q rest (a.put o.dst (.slice A' (n + m) c')) w') : wpList P ops Q (o :: rest) a w := by
  obtain ⟨A', c', w', hr, h2, h3, h4⟩ := run_appKO (P := P) w t o.type k hk e i z bytes ht hi hz hsize hby hzs A n c xs hown B m d ys hB hm hrow h1 hbytes hmx
  exact wpList_gd hw (exec_app s x t ho _ _ hs hx hr) (h A' c' w' h2 h3 h4)
theorem wpList_appEmpty_gd {P : Program} (w : World) {ops : Array Oper} {rest : List Oper} {o : Oper} {a : Act} {Q : Exit → Act → World → Prop} (s x : Operand) (t : TypeId)
    (ho : o.op = .call { callee := .builtin .append, args := #[s, x], argTypes := #[t, t] }) (hw : Region.wanted o (yielded ops a.tmps) = true)
    (k : Nat) (hk : 0 < k) (e : TypeId) (i : TypeInfo) (z : Value) (bytes : Nat) (ht : P.underlying t = some (.slice e)) (hi : P.info? e = some i) (hz : i.zero = some z)
    (hsize : i.size = k) (hby : i.bytes = bytes) (hzs : z.cells.size = k)
    (g : Nat) (hs : a.eval s = .slice (some ⟨g, 0, none⟩) 0 0) (hg : OwnK k e w (some ⟨g, 0, none⟩) 0 0 [])
    (B : Option Addr) (m d : Nat) (ys : List Value) (hx : a.eval x = .slice B m d) (hB : B = none → m = 0) (hm : ys.length = m * k) (hrow : Row w B ys)
    (hbytes : m * bytes ≤ 140737488355328) (hmx : m ≤ maxLen)
    (h : ∀ A' c' w', OwnK k e w' A' m c' ys → Kp nob w w' → (ab A' = some g ∨ ab A' = some w.heap.size) → wpList P ops Q rest (a.put o.dst (.slice A' m c')) w') : wpList P ops Q (o :: rest) a w := by
  obtain ⟨A', c', w', hr, h2, h3, h4⟩ := run_appEmpty (P := P) w t o.type k hk e i z bytes ht hi hz hsize hby hzs g hg B m d ys hB hm hrow hbytes hmx
  exact wpList_gd hw (exec_app s x t ho _ _ hs hx hr) (h A' c' w' h2 h3 h4)
end Go.Proofs.YtiimfhacnfdmhaaGreat.Kit
namespace Go.Proofs.YtiimfhacnfdmhaaGreat.Rec
open Go Go.RowKit Kit
set_option maxHeartbeats 400000 in
theorem in_any (n lo hi : Int) (w : World) : Calls Tryz.prog 58 #[.int .i64 n, .int .i64 lo, .int .i64 hi] w fun e w' => e = .returned (.bool (inB n lo hi)) ∧ w = w' := by
  by_cases h : lo ≤ n
  · go_enter Tryz.func58, Tryz.ntmps58
    go_wp2
    go_ret
    simp [inB, h]
  · go_enter Tryz.func58, Tryz.ntmps58
    go_wp2
    go_ret
    simp [inB]; omega
set_option maxHeartbeats 4000000 in
set_option maxRecDepth 100000 in
theorem dGood (r : Rec) (w : World) : Calls Tryz.prog 33 #[rv r] w fun e w' => e = .returned (.bool (good r)) ∧ Kp nob w w' := by
  obtain ⟨kind, queue, id, num, wait, body⟩ := r
  unfold rv
  go_enter Tryz.func33, Tryz.ntmps33
  go_wp2_with (go_at_call 58; refine (in_any _ _ _ _).mono ?_; rintro e w' ⟨rfl, rfl⟩)
  all_goals
    go_ret
    refine ⟨?_, (Kp.refl _ _).alloc _⟩
    unfold good
    simp_all [str_toList] <;> omega
end Go.Proofs.YtiimfhacnfdmhaaGreat.Rec
namespace Go.Proofs.YtiimfhacnfdmhaaGreat.Rec
open Go Go.RowKit Kit
theorem Rrow.rng {w : World} {A : Option Addr} {rs : List Rec} (h : Rrow w A rs) {i : Nat} (hi : i < rs.length) : ∃ b o, A = some ⟨b, o, none⟩ ∧ w.rangeAt b (o + i * 6) (rcells rs[i]) := by
  rcases h with h | ⟨b, o, rfl, hb, hc⟩
  · have := congrArg List.length h
    rw [fm_length (k := 6) rs (fun a _ => rcells_length a)] at this
    simp only [List.length_nil] at this; omega
  · refine ⟨b, o, rfl, fun j u hu => ?_⟩
    have hj : j < 6 := by have := (List.getElem?_eq_some_iff.1 hu).1; rw [rcells_length] at this; exact this
    have e := fm_at (k := 6) rs (fun a _ => rcells_length a) i j rs[i] (List.getElem?_eq_getElem hi) hj
    rw [hu] at e
    rw [Nat.add_assoc]
    exact hc _ _ e
set_option maxRecDepth 100000 in
theorem exec_neR {a : Act} {o : Oper} {w : World} (x y : Operand) (p q : Rec) (ho : o.op = .binOp .neq 34 x y 34) (hx : a.eval x = .agg (rcells p).toArray) (hy : a.eval y = .agg (rcells q).toArray) :
    (execOp a.eval o).run Tryz.prog w = .ok (.value (.bool (!decide (p = q)))) w := by
  obtain ⟨k1, q1, i1, n1, w1, b1⟩ := p
  obtain ⟨k2, q2, i2, n2, w2, b2⟩ := q
  unfold rcells at hx hy
  unfold execOp
  simp only [ho, hx, hy]
  go_simp
  simp only [str_toList]
  repeat' split
  all_goals simp_all
theorem rec_under : Tryz.prog.underlying 34 = some (.struct (Tryz.prog.fieldsOf 34)) := by kernel_rfl
set_option maxHeartbeats 2000000 in
set_option maxRecDepth 100000 in
theorem fSame (A : Option Addr) (m d : Nat) (rs : List Rec) (B : Option Addr) (n c : Nat) (qs : List Rec) (w : World) (hm : rs.length = m) (hp : Rrow w A rs) (hd : m ≤ maxLen) (hn : qs.length = n) (hq : Rrow w B qs) :
    Calls Tryz.prog 17 #[.slice A m d, .slice B n c] w fun e w' => e = .returned (.bool (decide (rs = qs))) ∧ Kp nob w w' := by
  unfold maxLen at hd
  by_cases hmn : m = n
  · subst hmn
    have hne : ((m : Int) != (m : Int)) = false := by simp
    have HP := Lib.hid (And.intro hp hq); have HM := Lib.hid (And.intro hm hn)
    clear hp hq hm hn
    go_enter Tryz.func17, Tryz.ntmps17
    go_wp2
    clear hne
    go_loopw [13] (fun i wr => ∃ k : Nat, k ≤ m ∧ i = .int .i64 k ∧ rs.take k = qs.take k ∧ Kp nob w wr)
      (fun i _ => m - (intOf i).toNat)
    case atStart => exact ⟨0, Nat.zero_le _, rfl, by simp, Kp.refl _ _⟩
    case round =>
      obtain ⟨k, hk, rfl, ht, kr⟩ := hrel
      have HT := Lib.hid ht; have HKR := Lib.hid kr
      by_cases hlt : k < m
      · obtain ⟨b1, o1, rfl, r1⟩ := (HP.out.1.keep0 kr).rng (i := k) (by rw [HM.out.1]; exact hlt)
        obtain ⟨b2, o2, rfl, r2⟩ := (HP.out.2.keep0 kr).rng (i := k) (by rw [HM.out.2]; exact hlt)
        have hs1 : rs.take (k + 1) = rs.take k ++ [rs[k]'(by rw [HM.out.1]; exact hlt)] := by rw [List.take_add_one, List.getElem?_eq_getElem (by rw [HM.out.1]; exact hlt)]; rfl
        have hs2 : qs.take (k + 1) = qs.take k ++ [qs[k]'(by rw [HM.out.2]; exact hlt)] := by rw [List.take_add_one, List.getElem?_eq_getElem (by rw [HM.out.2]; exact hlt)]; rfl
        have hx1 : rs[k]? = some (rs[k]'(by rw [HM.out.1]; exact hlt)) := List.getElem?_eq_getElem _
        have hx2 : qs[k]? = some (qs[k]'(by rw [HM.out.2]; exact hlt)) := List.getElem?_eq_getElem _
        obtain ⟨p, hpe⟩ : ∃ p, p = rs[k]'(by rw [HM.out.1]; exact hlt) := ⟨_, rfl⟩
        obtain ⟨q, hqe⟩ : ∃ q, q = qs[k]'(by rw [HM.out.2]; exact hlt) := ⟨_, rfl⟩
        rw [← hpe] at r1 hs1 hx1
        rw [← hqe] at r2 hs2 hx2
        have H1 := Lib.hid (And.intro hs1 hs2); have H2 := Lib.hid (And.intro hx1 hx2)
        have HS : Hid (wr.drew.rangeAt b1 (o1 + k * 6) (rcells p) ∧ wr.drew.rangeAt b2 (o2 + k * 6) (rcells q)) := Lib.hid ⟨r1, r2⟩
        have HR1 := Lib.hid (rec_size p); have HR2 := Lib.hid (rec_size q)
        clear hs1 hs2 hx1 hx2 hpe hqe r1 r2 ht kr
        go_wp2_with fail
        have KD := Lib.hid (show Kp nob wr wr.drew from (Kp.refl nob wr).drew)
        refine reg_begin (fun wx => wx.rangeAt b1 (o1 + k * 6) (rcells p) ∧ wx.rangeAt b2 (o2 + k * 6) (rcells q)) (by kernel_rfl) HS.out (fun _ => ?_)
        generalize wr.drew = wd at *
        refine reg_take (v := .slice (some ⟨b1, o1, none⟩) m d) 0 (some 16) rfl rfl (by kernel_rfl) (by kernel_rfl) (by kernel_rfl) (by rfl) HS.out (fun w hw => by go_simp) ?_
        simp only [Act.put, List.setIfInBounds_toArray, List.set_cons_zero, List.set_cons_succ]
        refine reg_take (v := .int .i64 (k : Int)) 1 (some 17) rfl rfl (by kernel_rfl) (by kernel_rfl) (by kernel_rfl) (by rfl) HS.out (fun w hw => by go_simp) ?_
        simp only [Act.put, List.setIfInBounds_toArray, List.set_cons_zero, List.set_cons_succ]
        refine reg_take (v := .pointer (some ⟨b1, o1 + k * 6, none⟩)) 2 (some 18) rfl rfl (by kernel_rfl) (by kernel_rfl) (by kernel_rfl) (by rfl) HS.out (fun w hw => by go_simp) ?_
        simp only [Act.put, List.setIfInBounds_toArray, List.set_cons_zero, List.set_cons_succ]
        refine reg_load 3 (some 19) 34 (.tmp 18) rfl rfl rfl (by kernel_rfl) (by kernel_rfl) (by kernel_rfl) (by rfl) HS.out b1 (o1 + k * 6) rfl (rcells p) _ (fun w hw => hw.1) rec_under rfl HR1.out ?_
        simp only [Act.put, List.setIfInBounds_toArray, List.set_cons_zero, List.set_cons_succ]
        refine reg_take (v := .slice (some ⟨b2, o2, none⟩) m c) 4 (some 20) rfl rfl (by kernel_rfl) (by kernel_rfl) (by kernel_rfl) (by rfl) HS.out (fun w hw => by go_simp) ?_
        simp only [Act.put, List.setIfInBounds_toArray, List.set_cons_zero, List.set_cons_succ]
        refine reg_take (v := .int .i64 (k : Int)) 5 (some 21) rfl rfl (by kernel_rfl) (by kernel_rfl) (by kernel_rfl) (by rfl) HS.out (fun w hw => by go_simp) ?_
        simp only [Act.put, List.setIfInBounds_toArray, List.set_cons_zero, List.set_cons_succ]
        refine reg_take (v := .pointer (some ⟨b2, o2 + k * 6, none⟩)) 6 (some 22) rfl rfl (by kernel_rfl) (by kernel_rfl) (by kernel_rfl) (by rfl) HS.out (fun w hw => by go_simp) ?_
        simp only [Act.put, List.setIfInBounds_toArray, List.set_cons_zero, List.set_cons_succ]
        refine reg_load 7 (some 23) 34 (.tmp 22) rfl rfl rfl (by kernel_rfl) (by kernel_rfl) (by kernel_rfl) (by rfl) HS.out b2 (o2 + k * 6) rfl (rcells q) _ (fun w hw => hw.2) rec_under rfl HR2.out ?_
        simp only [Act.put, List.setIfInBounds_toArray, List.set_cons_zero, List.set_cons_succ]
        refine reg_take (v := .bool (!decide (p = q))) 8 (some 24) rfl rfl (by kernel_rfl) (by kernel_rfl) (by kernel_rfl) (by rfl) HS.out (fun w hw => by exact exec_neR (.tmp 19) (.tmp 23) p q rfl rfl rfl) ?_
        simp only [Act.put, List.setIfInBounds_toArray, List.set_cons_zero, List.set_cons_succ]
        refine reg_end (by kernel_rfl) ?_
        by_cases he : p = q
        · have hb : (!decide (p = q)) = false := by simp [he]
          rw [hb]
          have HE := Lib.hid he
          clear hb he
          go_wp2
          go_roundw
          case rel => exact ⟨k + 1, by omega, by go_num, by rw [H1.out.1, H1.out.2, HT.out, HE.out], HKR.out.trans KD.out (fun _ e => e.elim)⟩
          case measure => simp [intOf]; omega
        · have hb : (!decide (p = q)) = true := by simp [he]
          rw [hb]
          have HE := Lib.hid he
          clear hb he
          go_wp2
          go_ret
          exact ⟨by rw [decide_eq_false (fun e => HE.out (by have h1 := H2.out.1; rw [e, H2.out.2] at h1; exact (Option.some.inj h1).symm))]; try rfl, HKR.out.trans KD.out (fun _ e => e.elim)⟩
      · obtain rfl : k = m := by omega
        go_wp2
        go_ret
        have h1 := HT.out
        rw [List.take_of_length_le (by rw [HM.out.1]; exact Nat.le_refl _), List.take_of_length_le (by rw [HM.out.2]; exact Nat.le_refl _)] at h1
        exact ⟨by rw [decide_eq_true h1]; try rfl, HKR.out⟩
  · have hne : ((m : Int) != (n : Int)) = true := by simp; omega
    have HM := Lib.hid (show decide (rs = qs) = false from decide_eq_false (fun e => hmn (by rw [← hm, ← hn, e])))
    clear hp hq hm hn hmn
    go_enter Tryz.func17, Tryz.ntmps17
    go_wp2
    go_ret
    exact ⟨by rw [HM.out]; try rfl, Kp.refl _ _⟩
end Go.Proofs.YtiimfhacnfdmhaaGreat.Rec
namespace Go.Proofs.YtiimfhacnfdmhaaGreat.Rec
open Go Go.RowKit Kit
structure Sr where
  A : Option Addr
  n : Nat
  c : Nat
  rs : List Rec
def Sr.v (s : Sr) : Value := .slice s.A s.n s.c
structure SrOk (w : World) (s : Sr) : Prop where
  len : s.rs.length = s.n
  row : Rrow w s.A s.rs
  cap : s.n ≤ s.c
  mx : s.c ≤ maxLen
  nil : s.A = none → s.c = 0
  lt : ∀ i, ab s.A = some i → i < w.heap.size
theorem SrOk.keep {w w2 : World} {s : Sr} {F : Nat → Prop} (h : SrOk w s) (k : Kp F w w2) (hF : ∀ i, ab s.A = some i → ¬ F i) : SrOk w2 s := ⟨h.len, Row.keep h.row k hF, h.cap, h.mx, h.nil, fun i e => Nat.lt_of_lt_of_le (h.lt i e) k.size⟩
theorem SrOk.keep0 {w w2 : World} {s : Sr} (h : SrOk w s) (k : Kp nob w w2) : SrOk w2 s := h.keep k (fun _ _ e => e)
theorem rec_info : ∃ i, Tryz.prog.info? 34 = some i ∧ i.zero = some (.agg #[.int .i64 0, .int .i64 0, .int .i64 0, .int .i64 0, .int .i64 0, .string ⟨#[]⟩]) ∧ i.size = 6 ∧ i.bytes = 56 := info_parts3 (by kernel_rfl)
theorem rsl_info : ∃ i, Tryz.prog.info? 22 = some i ∧ i.zero = some (.slice none 0 0) ∧ i.size = 1 ∧ i.bytes = 24 := info_parts3 (by kernel_rfl)
theorem recs_und : Tryz.prog.underlying 22 = some (.slice 34) := by kernel_rfl
theorem recss_und : Tryz.prog.underlying 27 = some (.slice 22) := by kernel_rfl
theorem rcs_len (rs : List Rec) : (rs.flatMap rcells).length = rs.length * 6 := fm_length (k := 6) rs (fun a _ => rcells_length a)
theorem rcs_one (rs : List Rec) : ∀ u ∈ rs.flatMap rcells, u.oneCell' = true := by
  intro u hu
  obtain ⟨r, _, h⟩ := List.mem_flatMap.1 hu
  exact rcells_one r u h
structure Spl (w0 w : World) (X : Option Addr) (nx cx : Nat) (ps : List Sr) (s : Sr) (q : List (List Rec) × List Rec) : Prop where
  own : OwnK 1 22 w X nx cx (ps.map Sr.v)
  k : Kp nob w0 w
  xg : ∀ i, ab X = some i → w0.heap.size ≤ i
  ok : ∀ p ∈ ps, SrOk w p ∧ ∀ i, ab p.A = some i → ab X ≠ some i
  now : SrOk w s ∧ ∀ i, ab s.A = some i → ab X ≠ some i
  q1 : ps.map (·.rs) = q.1
  q2 : s.rs = q.2
def SpG (N n : Nat) (ys : List Value) (r : Rec) (i : Nat) (u : Value) (w : World) : Prop :=
  if i = 0 then ∃ g, u = .slice (some ⟨g, 0, none⟩) 0 0 ∧ OwnK 6 34 w (some ⟨g, 0, none⟩) 0 0 [] ∧ N ≤ g
  else if i = 2 then ∃ A c, u = .slice A n c ∧ OwnK 6 34 w A n c ys ∧ ∀ j, ab A = some j → N ≤ j
  else ∃ g, u = .slice (some ⟨g, 0, none⟩) 1 1 ∧ Row w (some ⟨g, 0, none⟩) (rcells r)
theorem SpG.keep (N n : Nat) (ys : List Value) (r : Rec) (i : Nat) (u : Value) (w w' : World) (h : SpG N n ys r i u w) (k : Kp nob w w') : SpG N n ys r i u w' := by
  unfold SpG at *
  split
  · rename_i e; rw [if_pos e] at h
    obtain ⟨g, h1, h2, h3⟩ := h
    exact ⟨g, h1, h2.keep k (fun _ _ e => e), h3⟩
  · rename_i e; rw [if_neg e] at h
    split
    · rename_i e2; rw [if_pos e2] at h
      obtain ⟨A, c, h1, h2, h3⟩ := h
      exact ⟨A, c, h1, h2.keep k (fun _ _ e => e), h3⟩
    · rename_i e2; rw [if_neg e2] at h
      obtain ⟨g, h1, h2⟩ := h
      exact ⟨g, h1, h2.keep0 k⟩
theorem exec_rec0 {a : Act} {o : Oper} {w : World} (ho : o.op = .buildSlice 22 0 #[]) :
    (execOp a.eval o).run Tryz.prog w = .ok (.value (.slice (some ⟨w.heap.size, 0, none⟩) 0 0)) (w.alloc (.cells #[] 34)) := by
  have h : (Instr.buildSlice 22 0 #[]).run Tryz.prog w = .ok (.slice (some ⟨w.heap.size, 0, none⟩) 0 0) (w.alloc (.cells #[] 34)) := by kernel_rfl
  unfold execOp
  simp [ho, h, Result.andThen]
set_option maxRecDepth 100000 in
theorem exec_recOne {a : Act} {o : Oper} {w : World} (x : Operand) (r : Rec) (ho : o.op = .buildSlice 22 1 #[(0, x)]) (hx : a.eval x = .agg (rcells r).toArray) :
    (execOp a.eval o).run Tryz.prog w = .ok (.value (.slice (some ⟨w.heap.size, 0, none⟩) 1 1)) (w.alloc (.cells (rcells r).toArray 34)) := by
  have h : (Instr.buildSlice 22 1 #[(0, .agg (rcells r).toArray)]).run Tryz.prog w = .ok (.slice (some ⟨w.heap.size, 0, none⟩) 1 1) (w.alloc (.cells (rcells r).toArray 34)) := by kernel_rfl
  unfold execOp
  simp [ho, hx, h, Result.andThen]
set_option maxHeartbeats 4000000 in
set_option maxRecDepth 100000 in
theorem fSplit (A : Option Addr) (m d : Nat) (rs : List Rec) (w : World) (hm : rs.length = m) (hp : Rrow w A rs) (hT : ftot rs ≤ 1099511627776) (hd : m ≤ 1000000) :
    Calls Tryz.prog 16 #[.slice A m d] w fun e w' => ∃ (X : Option Addr) (nx cx : Nat) (ps : List Sr), e = .returned (.slice X nx cx) ∧ ps.length = nx ∧ Row w' X (ps.map Sr.v) ∧ ps.map (·.rs) = split rs ∧ (∀ p ∈ ps, SrOk w' p) ∧ Kp nob w w' := by
  have HM := Lib.hid (And.intro hm (And.intro hT hd))
  have HP := Lib.hid hp
  clear hm hT hd hp
  go_enter Tryz.func16, Tryz.ntmps16
  go_wp2
  go_loopw [3, 4, 10] (fun out now i wr => ∃ k : Nat, k ≤ m ∧ i = .int .i64 k ∧ ∃ (X : Option Addr) (nx cx : Nat) (ps : List Sr) (s : Sr), out = .slice X nx cx ∧ now = s.v ∧ Spl w wr X nx cx ps s (splA (rs.take k)))
    (fun _ _ i _ => m - (intOf i).toNat)
  case atStart =>
    exact ⟨0, Nat.zero_le _, rfl, none, 0, 0, [], ⟨none, 0, 0, []⟩, rfl, rfl, ⟨OwnK.nil _ _ _, Kp.refl _ _, (fun i e => by cases e), (fun p hp => by cases hp), ⟨⟨rfl, Row.nil _ _, Nat.le_refl _, (by simp [maxLen]), fun _ => rfl, (fun i e => by cases e)⟩, (fun i e => by cases e)⟩, (by simp [splA_nil]), (by simp [splA_nil])⟩⟩
  case round =>
    obtain ⟨k, hk, rfl, X, nx, cx, ps, ⟨sA, sn, sc, sr⟩, rfl, rfl, hs⟩ := hrel
    have hkb : m ≤ 1000000 := HM.out.2.2
    by_cases hlt : k < m
    · have hk2 : k < rs.length := by rw [HM.out.1]; exact hlt
      obtain ⟨bb, oo, rfl, hbb, hc0, hc1, hc2, hc3, hc4, hc5⟩ := (HP.out.keep0 hs.k).at_ (i := k) hk2
      obtain ⟨p, hpe⟩ : ∃ p, p = rs[k]'hk2 := ⟨_, rfl⟩
      have HPE := Lib.hid hpe; have hk2' := hk2
      rw [← hpe] at hc0 hc1 hc2 hc3 hc4 hc5
      have HSN := Lib.hid (splA_snoc rs k hk2)
      rw [← hpe] at HSN
      have HS := Lib.hid hs
      unfold Sr.v
      clear hs hpe
      go_wp2
      obtain ⟨wa, hwa⟩ : ∃ wa, wa = wr.alloc (.cells #[.int .i64 p.kind, .int .i64 p.queue, .int .i64 p.id, .int .i64 p.num, .int .i64 p.wait, .string (str p.body)] 34) := ⟨_, rfl⟩
      have HB := Lib.hid (show Blk wa.drew wr.heap.size 34 (rcells p) from (show Blk wa wr.heap.size 34 (rcells p) by rw [hwa]; exact Blk.new' (by simp) rfl).keep (Kp.refl nob _).drew (fun e => e))
      have HK := Lib.hid (show Kp nob wr wa.drew by rw [hwa]; exact ((Kp.refl nob wr).alloc _).drew)
      have hwas : wa.drew.heap.size = wr.heap.size + 1 := by rw [hwa]; rw [show ∀ w : World, w.drew.heap.size = w.heap.size from fun _ => rfl]; simp
      rw [← hwa]
      have hcell := hc0
      clear hwa hc0 hc1 hc2 hc3 hc4 hc5 hcell
      refine reg_begin (fun w => Blk w wr.heap.size 34 (rcells p)) (by kernel_rfl) HB.out (fun _ => ?_)
      refine reg_take (v := .slice sA sn sc) 1 (some 15) rfl rfl (by kernel_rfl) (by kernel_rfl) (by kernel_rfl) (by rfl) HB.out (fun w hw => by go_simp) ?_
      simp only [Act.put, List.setIfInBounds_toArray, List.set_cons_zero, List.set_cons_succ]
      refine reg_load 3 (some 17) 34 (.tmp 6) rfl rfl rfl (by kernel_rfl) (by kernel_rfl) (by kernel_rfl) (by rfl) HB.out wr.heap.size 0 rfl (rcells p) _ (fun w hw => hw.range) rec_under rfl (rec_size p) ?_
      simp only [Act.put, List.setIfInBounds_toArray, List.set_cons_zero, List.set_cons_succ]
      have HN := Lib.hid ((HS.out.now.1).keep0 HK.out)
      have HTL : Hid (sn ≤ 1000000) := Lib.hid (by
        have h1 := splA_len (rs.take k); have h2 : sr = (splA (rs.take k)).2 := HS.out.q2; have h3 : sr.length = sn := HS.out.now.1.len; have h4 := HM.out.1; have h5 := HM.out.2.2
        rw [List.length_take, ← h2] at h1
        omega)
      refine reg_flow [0, 2, 4] [(0, some 14), (2, some 16), (4, some 18)] _ _ _ _ 2 7 (SpG (wr.heap.size + 1) sn (sr.flatMap rcells) p) rfl rfl rfl (by kernel_rfl) (by kernel_rfl) (by kernel_rfl) (by kernel_rfl) rfl (by kernel_rfl) (fun w' k => HB.out.keep k (fun e => e)) (fun i u w1 w2 h k => h.keep _ _ _ _ _ _ _ _ k) ?st ?hK
      case st =>
        intro i o a w1 hi ho hk e0 ev
        simp only [List.mem_cons, List.not_mem_nil, or_false] at hi
        have hsz := hk.size
        have hsz0 := HK.out.size
        rcases hi with rfl | rfl | rfl
        · obtain rfl := oper_is ho rfl
          refine .val (w' := w1.alloc (.cells #[] 34)) (.slice (some ⟨w1.heap.size, 0, none⟩) 0 0) (exec_rec0 rfl) ?_ ((Kp.refl nob w1).alloc _)
          exact ⟨w1.heap.size, rfl, by have := ownK_new w1 6 0 34 [] rfl (by simp [maxLen]); simpa using this, by omega⟩
        · obtain rfl := oper_is ho rfl
          obtain ⟨g, hg1, hg2, hg3⟩ : ∃ g, a.eval (.tmp 14) = .slice (some ⟨g, 0, none⟩) 0 0 ∧ OwnK 6 34 w1 (some ⟨g, 0, none⟩) 0 0 [] ∧ wr.heap.size + 1 ≤ g := ev 0 (by simp) (by kernel_rfl) 14 rfl
          have hx : a.eval (.tmp 15) = .slice sA sn sc := e0 15 (by kernel_rfl)
          obtain ⟨i, h1, h2, h3, h4⟩ := rec_info
          have hnn : sA = none → sn = 0 := fun e => by have h1 : sc = 0 := HN.out.nil e; have h2 : sn ≤ sc := HN.out.cap; omega
          obtain ⟨A', c', w', hr, ho, hk', hab⟩ := run_appEmpty (P := Tryz.prog) w1 22 22 6 (by decide) 34 i _ 56 recs_und h1 h2 h3 h4 rfl g hg2 sA sn sc (sr.flatMap rcells) hnn (by rw [rcs_len, HN.out.len]) (HN.out.row.keep0 hk) (by have := HTL.out; omega) (by have := HTL.out; simp [maxLen]; omega)
          refine .val (w' := w') (.slice A' sn c') (exec_app (.tmp 14) (.tmp 15) 22 rfl _ _ hg1 hx hr) ?_ hk'
          exact ⟨A', c', rfl, ho, fun j hj => by rcases hab with e | e <;> (rw [e] at hj; cases hj; omega)⟩
        · obtain rfl := oper_is ho rfl
          have hx : a.eval (.tmp 17) = .agg (rcells p).toArray := e0 17 (by kernel_rfl)
          refine .val (w' := w1.alloc (.cells (rcells p).toArray 34)) (.slice (some ⟨w1.heap.size, 0, none⟩) 1 1) (exec_recOne (.tmp 17) p rfl hx) ?_ ((Kp.refl nob w1).alloc _)
          exact ⟨w1.heap.size, rfl, row_new w1 (rcells p) _⟩
      case hK =>
        intro vals w1 hv hk
        obtain ⟨A2, c2, v2, own2, ge2⟩ : ∃ A c, vals 2 = .slice A sn c ∧ OwnK 6 34 w1 A sn c (sr.flatMap rcells) ∧ ∀ j, ab A = some j → wr.heap.size + 1 ≤ j := hv 2 (by simp)
        obtain ⟨g4, v4, row4⟩ : ∃ g, vals 4 = .slice (some ⟨g, 0, none⟩) 1 1 ∧ Row w1 (some ⟨g, 0, none⟩) (rcells p) := hv 4 (by simp)
        obtain ⟨v0, hv0⟩ : ∃ v0, v0 = vals 0 := ⟨_, rfl⟩
        simp only [putZ, v2, v4, ← hv0]
        simp only [Act.put, List.setIfInBounds_toArray, List.set_cons_zero, List.set_cons_succ]
        obtain ⟨i, h1, h2, h3, h4⟩ := rec_info
        refine reg_appKO 5 (some 19) (.tmp 16) (.tmp 18) 22 rfl rfl rfl (by kernel_rfl) (by rfl) 6 (by decide) 34 i _ 56 recs_und h1 h2 h3 h4 rfl A2 sn c2 _ rfl own2 (some ⟨g4, 0, none⟩) 1 1 (rcells p) rfl (fun e => by cases e) rfl row4 (rcells_one p) (by have := HTL.out; omega) (by have := HTL.out; simp [maxLen]; omega) ?_
        intro A' c' w2 hown hgr hab
        have hk2 : Kp nob wr w2 := (HK.out.trans hk (fun _ e => e.elim)).grown hgr (fun j hj => .inr (by have := ge2 j hj; omega))
        have hB2 : Blk w2 wr.heap.size 34 (rcells p) := by
          by_cases e : ab A2 = some wr.heap.size
          · have := ge2 _ e; omega
          · exact (HB.out.keep hk (fun e => e)).keep ((Kp.refl (fun j => ab A2 = some j) w1).grown hgr (fun j hj => .inl hj)) e
        refine ⟨hB2, fun _ => ?_⟩
        simp only [Act.put, List.setIfInBounds_toArray, List.set_cons_zero, List.set_cons_succ]
        refine reg_take (v := .slice A' (sn + 1) c') 6 (some 7) rfl rfl (by kernel_rfl) (by kernel_rfl) (by kernel_rfl) (by rfl) hB2 (fun w hw => by go_simp) ?_
        simp only [Act.put, List.setIfInBounds_toArray, List.set_cons_zero, List.set_cons_succ]
        refine reg_end (by kernel_rfl) ?_
        have hT2 : SrOk w2 ⟨A', sn + 1, c', sr ++ [p]⟩ := by
          refine ⟨by have := HN.out.len; simpa using this, ?_, hown.cap.1, hown.cap.2, OwnZ.none_ (e := 34) (z := 6) hown, hown.lt⟩
          show Row w2 A' ((sr ++ [p]).flatMap rcells)
          rw [List.flatMap_append]
          simpa using hown.row
        have hge : ∀ j, ab A' = some j → wr.heap.size ≤ j := fun j hj => hab.elim (fun e => by have := ge2 j (by rw [← e]; exact hj); omega) (fun e => by rw [e] at hj; cases hj; have := hk.size; have := HK.out.size; omega)
        have HT2 := Lib.hid hT2; have HGE := Lib.hid hge; have HK2 := Lib.hid hk2
        have HBR := Lib.hid hB2
        have hq2 : sr = (splA (rs.take k)).2 := HS.out.q2
        have HFT : Hid (ftot (sr ++ [p]) ≤ 1099511627776) := Lib.hid (by
          have e2 := ftot_take rs (k + 1); have e3 := HM.out.2.1
          have e5 := splA_flat (rs.take k)
          have e6 : rs.take (k + 1) = rs.take k ++ [p] := by rw [List.take_add_one, List.getElem?_eq_getElem hk2']; rw [← HPE.out]; rfl
          have e7 := ftot_append (splA (rs.take k)).1.flatten ((splA (rs.take k)).2 ++ [p])
          rw [← List.append_assoc, e5, ← e6] at e7
          have : 48 ≤ ftot (splA (rs.take k)).1.flatten := by unfold ftot; omega
          rw [hq2]
          omega)
        have HSZ := Lib.hid (fSize A' (sn + 1) c' (sr ++ [p]) w2 (by have := HN.out.len; simpa using this) hT2.row HFT.out (by have := hT2.cap; have := hT2.mx; simp only at *; omega))
        have hnow : SrOk w2 ⟨A', sn + 1, c', sr ++ [p]⟩ ∧ ∀ i, ab A' = some i → ab X ≠ some i := ⟨hT2, fun i e e2 => by have := hge i e; have := HS.out.own.lt i e2; omega⟩
        have HNOW := Lib.hid hnow
        have HX2 : Hid (Kp nob w w2 ∧ OwnK 1 22 w2 X nx cx (ps.map Sr.v) ∧ (∀ q ∈ ps, SrOk w2 q ∧ ∀ i, ab q.A = some i → ab X ≠ some i)) := Lib.hid ⟨HS.out.k.trans hk2 (fun _ e => e.elim), HS.out.own.keep hk2 (fun _ _ e => e), fun q hq => ⟨(HS.out.ok q hq).1.keep0 hk2, (HS.out.ok q hq).2⟩⟩
        have HKM : Hid (k + 1 ≤ m) := Lib.hid hlt
        have HQ2 := Lib.hid hq2
        have HLEN : Hid (sr.length = sn) := Lib.hid HN.out.len
        clear hT2 hge hk2 hB2 hgr hab hown own2 ge2 row4 v2 v4 hk h1 h2 h3 h4 hnow hq2
        by_cases h0 : sn = 0
        · subst h0
          have HR : Hid (spl1 (splA (rs.take k)) p = ((splA (rs.take k)).1, (splA (rs.take k)).2 ++ [p])) := Lib.hid (spl1_empty _ _ (by rw [← HQ2.out]; exact List.eq_nil_of_length_eq_zero HLEN.out))
          go_wp2
          go_roundw
          case rel =>
            exact ⟨k + 1, HKM.out, by go_num, X, nx, cx, ps, ⟨A', 0 + 1, c', sr ++ [p]⟩, rfl, rfl, ⟨HX2.out.2.1, HX2.out.1, HS.out.xg, HX2.out.2.2, HNOW.out, by rw [HSN.out, HR.out]; exact HS.out.q1, by rw [HSN.out, HR.out, ← HQ2.out]⟩⟩
          case measure => simp [intOf]; omega
        · have hpos : 0 < sn := by omega
          have HNE : Hid ((splA (rs.take k)).2 ≠ []) := Lib.hid (fun e => by have h1 := HLEN.out; rw [HQ2.out, e] at h1; simp at h1; omega)
          obtain ⟨T, hT⟩ : ∃ T, T = ftot (sr ++ [p]) := ⟨_, rfl⟩
          rw [← hT] at HSZ
          have HT := Lib.hid hT
          clear hT h0
          by_cases hbig : 16384 < T
          · have HR : Hid (spl1 (splA (rs.take k)) p = ((splA (rs.take k)).1 ++ [(splA (rs.take k)).2], [p])) := Lib.hid (spl1_many _ _ HNE.out (by rw [← HQ2.out, ← HT.out]; exact hbig))
            obtain ⟨ir, hr1, hr2, hr3, hr4⟩ := rsl_info
            have hnx : nx ≤ 1000000 := by
              have h1 := splA_len (rs.take k); have h4 := HM.out.1; have h5 := HM.out.2.2; have h6 := HS.out.own.len; have h7 := congrArg List.length HS.out.q1
              rw [List.length_take] at h1
              simp only [List.length_map, Nat.mul_one] at h6 h7
              omega
            have HNX := Lib.hid hnx
            clear hnx
            go_wp2_with (first
              | (go_at_call 12; refine HSZ.out.mono ?_; rintro e w5 ⟨rfl, k5⟩; have HK5 := Lib.hid k5; clear k5)
              | (refine wpList_appZ _ rfl (.tmp 28) (.tmp 30) 27 rfl 22 ir _ 1 24 recss_und hr1 hr2 hr3 hr4 rfl (by decide) X nx cx (ps.map Sr.v) rfl (HX2.out.2.1.keep (HK5.out.alloc _) (fun _ _ e => e)) (some ⟨w5.heap.size, 0, none⟩) 1 1 [.slice sA sn sc] rfl (fun e => by cases e) rfl (row_new w5 [.slice sA sn sc] _) (by intro u hu; rcases List.mem_singleton.1 hu with rfl; rfl) (by have := HNX.out; omega) (by have := HNX.out; omega) ?_; intro X2 c2x w6 ho6 hg6 ha6; have HO6 := Lib.hid ho6; have HG6 := Lib.hid hg6; have HA6 := Lib.hid ha6; have HB6 : Hid (Blk w6 wr.heap.size 34 (rcells p)) := Lib.hid ((HBR.out.keep (HK5.out.alloc _) (fun e => e)).keep ((Kp.refl (fun j => ab X = some j) _).grown hg6 (fun j hj => .inl hj)) (fun e => by have := HS.out.own.lt _ e; omega)); have b0 : w6.cell? ⟨wr.heap.size, 0, none⟩ = some (.int .i64 p.kind) := HB6.out.cell 0; have b1 : w6.cell? ⟨wr.heap.size, 1, none⟩ = some (.int .i64 p.queue) := HB6.out.cell 1; have b2 : w6.cell? ⟨wr.heap.size, 2, none⟩ = some (.int .i64 p.id) := HB6.out.cell 2; have b3 : w6.cell? ⟨wr.heap.size, 3, none⟩ = some (.int .i64 p.num) := HB6.out.cell 3; have b4 : w6.cell? ⟨wr.heap.size, 4, none⟩ = some (.int .i64 p.wait) := HB6.out.cell 4; have b5 : w6.cell? ⟨wr.heap.size, 5, none⟩ = some (.string (str p.body)) := HB6.out.cell 5; clear ho6 hg6 ha6)
              | fail)
            go_roundw
            case rel =>
              have k7 := HK5.out.alloc (.cells #[.slice sA sn sc] 22)
              have k6 : Kp (fun j => ab X = some j) w2 w6 := (k7.nob _).grown HG6.out (fun j hj => .inl hj)
              have k8 := k6.alloc (.cells #[.int .i64 p.kind, .int .i64 p.queue, .int .i64 p.id, .int .i64 p.num, .int .i64 p.wait, .string (str p.body)] 34)
              have hs5 := HK5.out.size
              have hs2 := HK2.out.size
              have hs6 := HG6.out
              have hX2 : ∀ i, ab X2 = some i → w2.heap.size ≤ i ∨ ab X = some i := fun i hi => HA6.out.elim (fun e => .inr (by rw [← e]; exact hi)) (fun e => .inl (by rw [e] at hi; cases hi; simp; omega))
              have hXl := HS.out.own.lt
              have hsn6 : w2.heap.size ≤ w6.heap.size := k6.size
              have hw0 : w.heap.size ≤ w2.heap.size := HX2.out.1.size
              have nX : ∀ (B : Option Addr), (∀ i, ab B = some i → ab X ≠ some i) → (∀ i, ab B = some i → i < w2.heap.size) → ∀ i, ab B = some i → ab X2 ≠ some i := fun B h1 h2 i hi e => (hX2 i e).elim (fun e2 => by have := h2 i hi; omega) (fun e2 => h1 i hi e2)
              have hown6 : OwnK 1 22 (w6.alloc (.cells #[.int .i64 p.kind, .int .i64 p.queue, .int .i64 p.id, .int .i64 p.num, .int .i64 p.wait, .string (str p.body)] 34)) X2 (nx + 1) c2x ((ps ++ [(⟨sA, sn, sc, sr⟩ : Sr)]).map Sr.v) := by
                have := OwnK.alloc (k := 1) (show OwnK 1 22 w6 X2 (nx + 1) c2x (ps.map Sr.v ++ [.slice sA sn sc]) from HO6.out) (.cells #[.int .i64 p.kind, .int .i64 p.queue, .int .i64 p.id, .int .i64 p.num, .int .i64 p.wait, .string (str p.body)] 34)
                rw [List.map_append]
                exact this
              have hold : ∀ q : Sr, SrOk w2 q → (∀ i, ab q.A = some i → ab X ≠ some i) → SrOk (w6.alloc (.cells #[.int .i64 p.kind, .int .i64 p.queue, .int .i64 p.id, .int .i64 p.num, .int .i64 p.wait, .string (str p.body)] 34)) q ∧ ∀ i, ab q.A = some i → ab X2 ≠ some i := fun q h1 h2 => ⟨h1.keep k8 (fun i e e2 => h2 i e e2), nX q.A h2 h1.lt⟩
              refine ⟨k + 1, HKM.out, by go_num, X2, nx + 1, c2x, ps ++ [⟨sA, sn, sc, sr⟩], ⟨some ⟨w6.heap.size, 0, none⟩, 1, 1, [p]⟩, rfl, rfl, ⟨hown6, HX2.out.1.trans k8 (fun i e => .inr (HS.out.xg i e)), fun i e => (hX2 i e).elim (fun e => by omega) (fun e => HS.out.xg i e), fun q hq => ?_, ⟨⟨rfl, ?_, Nat.le_refl _, (by simp [maxLen]), (fun e => by cases e), (fun i e => by cases e; simp)⟩, fun i e e2 => ?_⟩, ?_, ?_⟩⟩
              · rcases List.mem_append.1 hq with hq | hq
                · exact hold q (HX2.out.2.2 q hq).1 (HX2.out.2.2 q hq).2
                · rcases List.mem_singleton.1 hq with rfl
                  exact hold _ (HS.out.now.1.keep0 HK2.out) HS.out.now.2
              · show Row _ _ ([p].flatMap rcells)
                have := row_new w6 (rcells p) 34
                simpa [rcells] using this
              · cases e
                exact absurd (show w6.heap.size < w6.heap.size from OwnZ.lt (e := 22) (z := 1) HO6.out _ e2) (Nat.lt_irrefl _)
              · rw [HSN.out, HR.out, List.map_append, HS.out.q1]
                show _ ++ [sr] = _
                rw [HQ2.out]
              · rw [HSN.out, HR.out]
            case measure => simp [intOf]; omega
          · have HR : Hid (spl1 (splA (rs.take k)) p = ((splA (rs.take k)).1, (splA (rs.take k)).2 ++ [p])) := Lib.hid (spl1_few _ _ (by rw [← HQ2.out, ← HT.out]; omega))
            have hsm : T ≤ 16384 := by omega
            clear hbig
            go_wp2_with (first
              | (go_at_call 12; refine HSZ.out.mono ?_; rintro e w5 ⟨rfl, k5⟩; have HK5 := Lib.hid k5; clear k5)
              | fail)
            go_roundw
            case rel =>
              exact ⟨k + 1, HKM.out, by go_num, X, nx, cx, ps, ⟨A', sn + 1, c', sr ++ [p]⟩, rfl, rfl, ⟨HX2.out.2.1.keep HK5.out (fun _ _ e => e), HX2.out.1.trans HK5.out (fun _ e => e.elim), HS.out.xg, fun q hq => ⟨(HX2.out.2.2 q hq).1.keep0 HK5.out, (HX2.out.2.2 q hq).2⟩, ⟨HNOW.out.1.keep0 HK5.out, HNOW.out.2⟩, by rw [HSN.out, HR.out]; exact HS.out.q1, by rw [HSN.out, HR.out, ← HQ2.out]⟩⟩
            case measure => simp [intOf]; omega
    · obtain rfl : k = m := by omega
      have HS := Lib.hid hs
      have htk : rs.take k = rs := List.take_of_length_le (by rw [HM.out.1]; exact Nat.le_refl _)
      have HQ : Hid (ps.map (·.rs) = (splA rs).1 ∧ sr = (splA rs).2) := Lib.hid ⟨by have := HS.out.q1; rw [htk] at this; exact this, by have := HS.out.q2; rw [htk] at this; exact this⟩
      have HLEN : Hid (sr.length = sn) := Lib.hid HS.out.now.1.len
      unfold Sr.v
      clear hs htk
      have hpl : ps.length = nx := by have := HS.out.own.len; simpa using this
      have HPL := Lib.hid hpl
      have hnx : nx ≤ 1000000 := by
        have h1 := splA_len rs; have h4 := HM.out.1; have h7 := congrArg List.length HQ.out.1
        simp only [List.length_map] at h7
        omega
      have HNX := Lib.hid hnx
      clear hpl hnx
      by_cases h0 : sn = 0
      · subst h0
        have HSP : Hid (split rs = (splA rs).1) := Lib.hid (if_pos (by rw [← HQ.out.2]; exact List.eq_nil_of_length_eq_zero HLEN.out))
        go_wp2
        go_ret
        exact ⟨X, nx, cx, ps, rfl, HPL.out, HS.out.own.row, by rw [HSP.out]; exact HQ.out.1, fun q hq => (HS.out.ok q hq).1, HS.out.k⟩
      · have hpos : 0 < sn := by omega
        have HSP : Hid (split rs = (splA rs).1 ++ [(splA rs).2]) := Lib.hid (if_neg (fun e => by have h1 := HLEN.out; rw [HQ.out.2, e] at h1; simp at h1; omega))
        obtain ⟨ir, hr1, hr2, hr3, hr4⟩ := rsl_info
        clear h0
        go_wp2_with (first
          | (refine wpList_appZ _ rfl (.tmp 39) (.tmp 41) 27 rfl 22 ir _ 1 24 recss_und hr1 hr2 hr3 hr4 rfl (by decide) X nx cx (ps.map Sr.v) rfl (HS.out.own.keep ((Kp.refl nob _).alloc _) (fun _ _ e => e)) (some ⟨wr.heap.size, 0, none⟩) 1 1 [.slice sA sn sc] rfl (fun e => by cases e) rfl (row_new wr [.slice sA sn sc] _) (by intro u hu; rcases List.mem_singleton.1 hu with rfl; rfl) (by have := HNX.out; omega) (by have := HNX.out; omega) ?_; intro X2 c2x w6 ho6 hg6 ha6; have HO6 := Lib.hid ho6; have HG6 := Lib.hid hg6; clear ho6 hg6 ha6)
          | fail)
        go_ret
        have k6 : Kp (fun j => ab X = some j) wr w6 := (((Kp.refl nob wr).alloc (.cells #[.slice sA sn sc] 22)).nob _).grown HG6.out (fun j hj => .inl hj)
        refine ⟨X2, nx + 1, c2x, ps ++ [⟨sA, sn, sc, sr⟩], rfl, by simp [HPL.out], ?_, ?_, fun q hq => ?_, HS.out.k.trans k6 (fun i e => .inr (HS.out.xg i e))⟩
        · have := OwnZ.row (e := 22) (z := 1) HO6.out
          rw [List.map_append]
          exact this
        · rw [List.map_append, HSP.out, HQ.out.1]
          show _ ++ [sr] = _
          rw [HQ.out.2]
        · rcases List.mem_append.1 hq with hq | hq
          · exact (HS.out.ok q hq).1.keep k6 (fun i e e2 => (HS.out.ok q hq).2 i e e2)
          · rcases List.mem_singleton.1 hq with rfl
            exact HS.out.now.1.keep k6 (fun i e e2 => HS.out.now.2 i e e2)
end Go.Proofs.YtiimfhacnfdmhaaGreat.Rec
namespace Go.Proofs.YtiimfhacnfdmhaaGreat.Vault
open Go Go.RowKit Kit
def vcells (mk : Value) (ms : List UInt8) (lim m cl : Nat) : List Value := mk :: (bvs ms ++ [.int .i64 (lim : Nat), .map (some m), .int .i64 (cl : Nat)])
theorem vcells_at (mk : Value) (ms : List UInt8) (lim m cl i : Nat) (h : ms.length = 32) : (vcells mk ms lim m cl)[33 + i]? = ([.int .i64 (lim : Nat), .map (some m), .int .i64 (cl : Nat)] : List Value)[i]? := by
  rw [vcells, show 33 + i = (32 + i) + 1 by omega, List.getElem?_cons_succ, List.getElem?_append_right (by rw [bvs_length, h]; omega), bvs_length, h]
  congr 1; omega
theorem vcells_ms (mk : Value) (ms : List UInt8) (lim m cl : Nat) (i : Nat) (v : Value) (hv : (bvs ms)[i]? = some v) : (vcells mk ms lim m cl)[1 + i]? = some v := by
  rw [vcells, Nat.add_comm, List.getElem?_cons_succ, List.getElem?_append_left (List.getElem?_eq_some_iff.1 hv).1]; exact hv
theorem vcells_cl (mk : Value) (ms : List UInt8) (lim m cl cl' : Nat) (h : ms.length = 32) : (vcells mk ms lim m cl).set 35 (.int .i64 (cl' : Nat)) = vcells mk ms lim m cl' := by
  rw [vcells, show 35 = 34 + 1 from rfl, List.set_cons_succ, List.set_append_right _ _ (by rw [bvs_length, h]; omega), bvs_length, h]; rfl
structure Pl where
  val : List UInt8
  property : val.length = 44
deriving DecidableEq
theorem Pl.same {a b : Pl} (h : a.1 = b.1) : a = b := by
  obtain ⟨a, ha⟩ := a
  obtain ⟨b, hb⟩ := b
  simp only at h
  subst h; rfl
def pl (k n : List UInt8) (hk : k.length = 32) (hn : n.length = 12) : Pl := ⟨k ++ n, by simp [hk, hn]⟩
def pv (p : Pl) : Value := .agg (bvs p.1).toArray
structure Vb (w : World) (v m : Nat) (mk : Value) (ms : List UInt8) (lim : Nat) (ps : List (Value × Value)) (cl : Nat) : Prop where
  b : Blk w v 83 (vcells mk ms lim m cl)
  l : ms.length = 32
  s : MapB w m ps
  ne : v ≠ m
theorem Vb.keep {w w2 : World} {v m : Nat} {mk : Value} {ms : List UInt8} {lim : Nat} {ps : List (Value × Value)} {cl : Nat} {F : Nat → Prop} (h : Vb w v m mk ms lim ps cl) (k : Kp F w w2) (hv : ¬ F v) (hm : ¬ F m) : Vb w2 v m mk ms lim ps cl :=
  ⟨h.b.keep k hv, h.l, h.s.keep k hm, h.ne⟩
theorem Vb.keep0 {w w2 : World} {v m : Nat} {mk : Value} {ms : List UInt8} {lim : Nat} {ps : List (Value × Value)} {cl : Nat} (h : Vb w v m mk ms lim ps cl) (k : Kp nob w w2) : Vb w2 v m mk ms lim ps cl := h.keep k (fun e => e) (fun e => e)
theorem Vb.mk_ {w : World} {v m : Nat} {mk : Value} {ms : List UInt8} {lim : Nat} {ps : List (Value × Value)} {cl : Nat} (h : Vb w v m mk ms lim ps cl) : w.cell? ⟨v, 0, none⟩ = some mk := by rw [h.b.cell]; rfl
theorem Vb.lim_ {w : World} {v m : Nat} {mk : Value} {ms : List UInt8} {lim : Nat} {ps : List (Value × Value)} {cl : Nat} (h : Vb w v m mk ms lim ps cl) : w.cell? ⟨v, 33, none⟩ = some (.int .i64 (lim : Nat)) := by rw [h.b.cell]; exact vcells_at mk ms lim m cl 0 h.l
theorem Vb.map_ {w : World} {v m : Nat} {mk : Value} {ms : List UInt8} {lim : Nat} {ps : List (Value × Value)} {cl : Nat} (h : Vb w v m mk ms lim ps cl) : w.cell? ⟨v, 34, none⟩ = some (.map (some m)) := by rw [h.b.cell]; exact vcells_at mk ms lim m cl 1 h.l
theorem Vb.cl_ {w : World} {v m : Nat} {mk : Value} {ms : List UInt8} {lim : Nat} {ps : List (Value × Value)} {cl : Nat} (h : Vb w v m mk ms lim ps cl) : w.cell? ⟨v, 35, none⟩ = some (.int .i64 (cl : Nat)) := by rw [h.b.cell]; exact vcells_at mk ms lim m cl 2 h.l
theorem Vb.ms_ {w : World} {v m : Nat} {mk : Value} {ms : List UInt8} {lim : Nat} {ps : List (Value × Value)} {cl : Nat} (h : Vb w v m mk ms lim ps cl) : w.rangeAt v 1 (bvs ms) := fun j u hu => by rw [h.b.cell]; exact vcells_ms mk ms lim m cl j u hu
end Go.Proofs.YtiimfhacnfdmhaaGreat.Vault
namespace Go.Proofs.YtiimfhacnfdmhaaGreat.Vault
open Go Go.RowKit Kit
def refu (lim : Nat) (e s : Int) : Int := if e < 0 ∨ s < 0 then 1 else if 4294967296 ≤ e ∨ (lim : Int) ≤ s then 10 else 0
set_option maxHeartbeats 1000000 in
set_option maxRecDepth 100000 in
theorem refused_any (v m : Nat) (mk : Value) (ms : List UInt8) (lim : Nat) (ps : List (Value × Value)) (cl : Nat) (e s : Int) (w : World) (h : Vb w v m mk ms lim ps cl) :
    Calls Tryz.prog 89 #[.pointer (some ⟨v, 0, none⟩), .int .i64 e, .int .i64 s] w fun x w' => x = .returned (.int .i64 (refu lim e s)) ∧ w = w' := by
  have hc := h.lim_
  clear h
  obtain ⟨L, hL⟩ : ∃ L : Int, L = (lim : Int) := ⟨_, rfl⟩
  unfold refu
  rw [← hL] at hc ⊢
  clear hL
  by_cases h1 : e < 0
  · rw [if_pos (.inl h1)]
    go_enter Tryz.func89, Tryz.ntmps89
    go_wp2
    go_ret
    exact ⟨rfl, rfl⟩
  · by_cases h2 : s < 0
    · rw [if_pos (.inr h2)]
      go_enter Tryz.func89, Tryz.ntmps89
      go_wp2
      go_ret
      exact ⟨rfl, rfl⟩
    · rw [if_neg (by rintro (h | h) <;> contradiction)]
      by_cases h3 : 4294967296 ≤ e
      · rw [if_pos (.inl h3)]
        go_enter Tryz.func89, Tryz.ntmps89
        go_wp2
        go_ret
        exact ⟨rfl, rfl⟩
      · by_cases h4 : L ≤ s
        · rw [if_pos (.inr h4)]
          go_enter Tryz.func89, Tryz.ntmps89
          go_wp2
          go_ret
          exact ⟨rfl, rfl⟩
        · rw [if_neg (by rintro (h | h) <;> contradiction)]
          go_enter Tryz.func89, Tryz.ntmps89
          go_wp2
          go_ret
          exact ⟨rfl, rfl⟩
end Go.Proofs.YtiimfhacnfdmhaaGreat.Vault
