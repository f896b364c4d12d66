/- Lemmas: RegN DiskWr DiskSy CodeM CodeMI ChaR. -/
import Derived.Test.YtndkmfflpphoiaaZG13
set_option linter.unusedVariables false
set_option linter.unusedSimpArgs false
namespace Go.Proofs.Ytndkmfflpphoiaa.Kit
open Go Go.RowKit
section
variable {P : Program} {md : Region.Mode} {ops : Array Oper} {Q : Exit → Act → World → Prop} {S : World → Prop}
/-- An operation that runs in the world as it is, or a call: either may come next. -/
theorem reg_orCall {oi oj : Oper} {v : Value} {fuel : Nat} {listed : Array Bool} {a : Act} {w w' : World} (i j : Nat) (d e : Option Tmp) (hi : ops[i]? = some oi) (hd : oi.dst = d) (hj : ops[j]? = some oj) (he : oj.dst = e) (hr : Region.ready md ops listed = [i, j])
    (hw : Region.wanted oi (yielded ops a.tmps) = true) (hv : Region.wanted oj (yielded ops a.tmps) = true) (f : FuncId) (args : Array Value) (hx : (execOp a.eval oi).run P w = .ok (.value v) w') (hy : (execOp a.eval oj).run P w = .ok (.enter f args) w) (hS : S w')
    (h : S w' → wpAnyH P md ops (NoPanic Q) S fuel (listed.setIfInBounds i true) (a.put d v) w')
    (hc : Calls P f args w fun e' w' => ∃ v, e' = .returned v ∧ S w' ∧ (S w' → wpAnyH P md ops (NoPanic Q) S fuel (listed.setIfInBounds j true) (a.put e v) w')) : wpAnyH P md ops (NoPanic Q) S (fuel + 1) listed a w := by
  subst hd; subst he
  refine wpAnyH_ready hr (by simp) (AllReadyH.cons hi (fun K' hK => ?_) (AllReadyH.cons hj (fun K' hK => ?_) AllReadyH.nil))
  · rw [if_pos hw]
    unfold Oper.wp
    rw [hx]
    exact hK.out _ _ hS h
  · rw [if_pos hv]
    unfold Oper.wp
    rw [hy, Oper.upon_enter]
    refine hc.mono ?_
    rintro e w' ⟨v, rfl, hS, h⟩
    exact hK.out _ _ hS h
/-- One element is appended to a slice in the midst of a block, it alone is ready. -/
theorem reg_appAt {oi : Oper} {fuel : Nat} {listed : Array Bool} {a : Act} {w : World} (ix : Nat) (dd : Option Tmp) (s x : Operand) (t : TypeId) (hi0 : ops[ix]? = some oi) (hd0 : oi.dst = dd)
    (ho : oi.op = .call { callee := .builtin .append, args := #[s, x], argTypes := #[t, t] }) (hr0 : Region.ready md ops listed = [ix]) (hw0 : Region.wanted oi (yielded ops a.tmps) = true)
    (e : TypeId) (i : TypeInfo) (z : Value) (bytes : Nat) (ht : P.underlying t = some (.slice e)) (hi : P.info? e = some i) (hz : i.zero = some z)
    (hsize : i.size = 1) (hby : i.bytes = bytes) (hzs : z.cells.size = 1)
    (A : Option Addr) (n c : Nat) (xs : List Value) (hs : a.eval s = .slice A n c) (hown : RowAt e w A n c xs)
    (B : Addr) (d : Nat) (y : Value) (hx : a.eval x = .slice (some B) 1 d) (hrow : Row w (some B) [y]) (h1 : y.oneCell' = true)
    (hbytes : (n + 1) * bytes ≤ 140737488355328) (h63 : n + 1 ≤ 140737488355328)
    (h : ∀ A' c' w', RowAt e w' A' (n + 1) c' (xs ++ [y]) → w.grownBy w' (ab A) → (ab A' = ab A ∨ ab A' = some w.heap.size) → S w' ∧ (S w' → wpAnyH P md ops (NoPanic Q) S fuel (listed.setIfInBounds ix true) (a.put dd (.slice A' (n + 1) c')) w')) : wpAnyH P md ops (NoPanic Q) S (fuel + 1) listed a w := by
  subst hd0
  have hmx : n + 1 ≤ maxLen := by unfold maxLen; omega
  obtain ⟨A', c', w', hr, h2, h3, h4⟩ := run_appAt (P := P) w t oi.type e i z bytes ht hi hz hsize hby hzs A n c xs hown B d y hrow h1 hbytes hmx
  obtain ⟨hS, hc⟩ := h A' c' w' h2 h3 h4
  refine wpAnyH_ready hr0 (by simp) (AllReadyH.cons hi0 (fun K' hK => ?_) AllReadyH.nil)
  rw [if_pos hw0]
  unfold Oper.wp execOp
  simp only [ho, resolve, invoke, builtin, Sem.run_bind, Sem.run_pure, Result.andThen_ok, List.map_toArray, List.map_cons, List.map_nil, hs, hx, hr]
  exact hK.out _ _ hS hc
end
end Go.Proofs.Ytndkmfflpphoiaa.Kit
namespace Go.Proofs.Ytndkmfflpphoiaa.Disk
open Go Go.RowKit Kit
theorem actkeep (D : Dk) : (act D).1.keep = D.keep := by
  cases ho : D.off with
  | true => rw [act_off D ho]
  | false => rw [act_on D ho]
theorem actnow (D : Dk) : (act D).1.now = D.now ∧ (act D).1.waits = D.waits ∧ (act D).1.safe = D.safe := by
  cases ho : D.off with
  | true => rw [act_off D ho]; exact ⟨rfl, rfl, rfl⟩
  | false => rw [act_on D ho]; exact ⟨rfl, rfl, rfl⟩
theorem fw_under : Try.prog.underlying 48 = some (.slice 82) := by kernel_rfl
theorem fw_info : (Try.prog.info? 82).map (fun i => (i.zero, i.size, i.bytes)) = some (some (.agg #[.int .i64 0, .string ⟨#[]⟩]), 2, 24) := by kernel_rfl
theorem wcs_one (xs : List (Nat × List UInt8)) : ∀ u ∈ wcs xs, u.oneCell' = true := by
  intro u hu
  obtain ⟨x, _, hx⟩ := List.mem_flatMap.1 hu
  exact wc_one x u hx
theorem wcs_snoc (xs : List (Nat × List UInt8)) (x : Nat × List UInt8) : wcs (xs ++ [x]) = wcs xs ++ wc x := by
  rw [wcs, wcs, List.flatMap_append]; simp
def wc_ (p : Nat) (b : List UInt8) : List Value := wc (p, full b)
/-- Another row of sectors, made since. -/
theorem Dd.turnN {w w5 : World} {g : Nat} {F : Nat → Prop} {N S W N2 : Option Addr} {cN cS cW c2 : Nat} {D : Dk} (h : Dd w g F N S W cN cS cW D) (k : Kp nob w w5) (l2 : List (List UInt8)) (hl : l2.length = D.now.length) (hr : Row w5 N2 (svs l2)) (hc : D.now.length ≤ c2) (ha : ∀ j, ab N2 = some j → w.heap.size ≤ j ∧ j < w5.heap.size) :
    Dd (w5.setCell ⟨g, 0, none⟩ (.slice N2 D.now.length c2)) g (fun j => F j ∨ ab N2 = some j) N2 S W c2 cS cW { D with now := l2 } ∧ Kp F w (w5.setCell ⟨g, 0, none⟩ (.slice N2 D.now.length c2)) := by
  have h5 := h.keep0 k
  have ks : Kp (oneB g) w5 (w5.setCell ⟨g, 0, none⟩ (.slice N2 D.now.length c2)) := (Kp.refl (oneB g) w5).setCell (p := ⟨g, 0, none⟩) (.inl rfl) _
  have hg := h.b.lt
  have hne : ∀ j, ab N2 = some j → j ≠ g := fun j e => by have := (ha j e).1; omega
  refine ⟨⟨?_, hr.keep ks (fun j e e2 => hne j e e2), h5.safe.keep ks (fun j e e2 => (h5.fs j e).2 e2), h5.waits.keep ks (fun j e e2 => (h5.fw j e).2 e2), ⟨by show l2.length ≤ c2; omega, h.caps.2⟩, fun j e => ⟨.inr e, hne j e⟩, fun j e => ⟨.inl (h.fs j e).1, (h.fs j e).2⟩, fun j e => ⟨.inl (h.fw j e).1, (h.fw j e).2⟩, .inl h.g, ?_⟩, ?_⟩
  · show Blk _ _ _ [.slice N2 l2.length c2, _, _, _, _, _, _]
    rw [hl]; exact h5.b.set_ 0 _
  · intro j e
    have hz := ks.size
    rcases e with e | e
    · exact Nat.lt_of_lt_of_le (h5.lt j e) hz
    · exact Nat.lt_of_lt_of_le (ha j e).2 hz
  · exact (k.nob F).trans ks (fun j e => .inl (by have e : j = g := e; rw [e]; exact h.g))
/-- Another row of writes, made since. -/
theorem Dd.turnW {w w5 : World} {g : Nat} {F : Nat → Prop} {N S W W2 : Option Addr} {cN cS cW c2 n2 : Nat} {D : Dk} (h : Dd w g F N S W cN cS cW D) (k : Kp nob w w5) (l2 : List (Nat × List UInt8)) (hl : l2.length = n2) (hr : Row w5 W2 (wcs l2)) (hc : n2 ≤ c2) (ha : ∀ j, ab W2 = some j → w.heap.size ≤ j ∧ j < w5.heap.size) :
    Dd (w5.setCell ⟨g, 2, none⟩ (.slice W2 n2 c2)) g (fun j => F j ∨ ab W2 = some j) N S W2 cN cS c2 { D with waits := l2 } ∧ Kp F w (w5.setCell ⟨g, 2, none⟩ (.slice W2 n2 c2)) := by
  have h5 := h.keep0 k
  have ks : Kp (oneB g) w5 (w5.setCell ⟨g, 2, none⟩ (.slice W2 n2 c2)) := (Kp.refl (oneB g) w5).setCell (p := ⟨g, 2, none⟩) (.inl rfl) _
  have hg := h.b.lt
  have hne : ∀ j, ab W2 = some j → j ≠ g := fun j e => by have := (ha j e).1; omega
  refine ⟨⟨?_, h5.now.keep ks (fun j e e2 => (h5.fn j e).2 e2), h5.safe.keep ks (fun j e e2 => (h5.fs j e).2 e2), hr.keep ks (fun j e e2 => hne j e e2), ⟨h.caps.1, h.caps.2.1, by show l2.length ≤ c2; omega⟩, fun j e => ⟨.inl (h.fn j e).1, (h.fn j e).2⟩, fun j e => ⟨.inl (h.fs j e).1, (h.fs j e).2⟩, fun j e => ⟨.inr e, hne j e⟩, .inl h.g, ?_⟩, ?_⟩
  · show Blk _ _ _ [_, _, .slice W2 l2.length c2, _, _, _, _]
    rw [hl]; exact h5.b.set_ 2 _
  · intro j e
    have hz := ks.size
    rcases e with e | e
    · exact Nat.lt_of_lt_of_le (h5.lt j e) hz
    · exact Nat.lt_of_lt_of_le (ha j e).2 hz
  · exact (k.nob F).trans ks (fun j e => .inl (by have e : j = g := e; rw [e]; exact h.g))
/-- Not written: whatever keeps it. -/
theorem fWrite_no (D : Dk) (i : Int) (b : List UInt8) (g : Nat) (F : Nat → Prop) (N S W : Option Addr) (cN cS cW : Nat) (w : World) (h : Dd w g F N S W cN cS cW D) (hno : may E8 D i ≠ 0 ∨ 256 < b.length) (hb : b.length ≤ 140737488355328) :
    Calls Try.prog 39 #[.pointer (some ⟨g, 0, none⟩), .int .i64 i, .string (str b)] w fun e w' => e = .returned (.int .i64 (if may E8 D i = 0 then 3 else may E8 D i)) ∧ w = w' := by
  have HM := Lib.hid (fmay D i g F N S W cN cS cW w h)
  clear h
  by_cases hm : may E8 D i = 0
  · have hl : 256 < b.length := hno.resolve_left (fun e => e hm)
    have d1 : decide ((256 : Int) < (b.length : Int)) = true := decide_eq_true (by omega)
    have hs := str_size b
    rw [if_pos hm]
    rw [hm] at HM
    clear hno hm hl
    go_enter Try.func39, Try.ntmps39
    go_wp2_with fail
    refine HM.out.mono ?_
    rintro e w1 ⟨rfl, rfl⟩
    go_wp2
    go_ret
    exact ⟨rfl, rfl⟩
  · rw [if_neg hm]
    obtain ⟨m, hmm⟩ : ∃ m, m = may E8 D i := ⟨_, rfl⟩
    rw [← hmm] at HM hm ⊢
    have h1 : (m == 0) = false := beq_eq_false_iff_ne.2 hm
    have h2 : (m != 0) = true := by simp [hm]
    clear hno hm hmm
    go_enter Try.func39, Try.ntmps39
    go_wp2_with fail
    refine HM.out.mono ?_
    rintro e w1 ⟨rfl, rfl⟩
    go_wp2
    go_ret
    exact ⟨rfl, rfl⟩
set_option maxHeartbeats 8000000 in
set_option maxRecDepth 100000 in
theorem fWrite_yes (D : Dk) (p : Nat) (b : List UInt8) (g : Nat) (F : Nat → Prop) (N S W : Option Addr) (cN cS cW : Nat) (w : World) (h : Dd w g F N S W cN cS cW D) (ho : Ok D) (hoff : D.off = false) (hp : p < D.now.length) (hb : b.length ≤ 256) (hn : D.now.length ≤ 4096) (hw : D.waits.length ≤ 99999) (ha : D.acts ≤ 1000000000) (hf : D.fuse ≤ 9223372036854775807) :
    Calls Try.prog 39 #[.pointer (some ⟨g, 0, none⟩), .int .i64 (p : Int), .string (str b)] w fun e w' => e = .returned (.int .i64 (write E8 D p b).2) ∧ Dm w g F (write E8 D p b).1 w' := by
  have HM := Lib.hid (fmay D p g F N S W cN cS cW w h)
  rw [show may E8 D (p : Int) = 0 by rw [may, if_neg (by rw [hoff]; decide), if_neg (by omega)]; rfl] at HM
  have HA := Lib.hid (fAct D g F N S W cN cS cW w h ha hf)
  have HW := Lib.hid (show write E8 D (p : Int) b = (if (act D).2 then (lose (wrote (act D).1 p b) D.keep, 8) else (wrote (act D).1 p b, 0)) by
    rw [write, if_neg (by rw [hoff]; decide), if_neg (by omega), if_neg (by omega), Int.toNat_natCast]; rfl)
  rw [HW.out]
  have HFL := Lib.hid (full_length b hb)
  have HLT := Lib.hid (And.intro h.lt (And.intro h.g (And.intro h.fn (And.intro h.fs h.fw))))
  have HP := Lib.hid (And.intro hp (And.intro hn hw))
  have HOK := Lib.hid ho; have HBL := Lib.hid hb
  have d1 : decide ((256 : Int) < (b.length : Int)) = false := decide_eq_false (by omega)
  have hs := str_size b
  have HAK := Lib.hid (actkeep D); have HAN := Lib.hid (actnow D)
  obtain ⟨D1, hD1⟩ : ∃ D1, D1 = (act D).1 := ⟨_, rfl⟩
  obtain ⟨gs, hgs⟩ : ∃ q, q = (act D).2 := ⟨_, rfl⟩
  rw [← hD1, ← hgs] at HA HW ⊢
  rw [← hD1] at HAK HAN
  have HD1 := Lib.hid hD1
  have HO1 := Lib.hid (show Ok D1 by rw [hD1]; exact act_ok D ho)
  clear h hoff hp hb hn hw ha hf hD1 hgs ho HW
  go_enter Try.func39, Try.ntmps39
  go_wp2_with fail
  refine HM.out.mono ?_
  rintro e w1 ⟨rfl, rfl⟩
  go_wp2_with fail
  refine HA.out.mono ?_
  rintro e w2 ⟨rfl, h2, k2⟩
  have H2 := Lib.hid h2; have K2 := Lib.hid k2
  clear h2 k2 d1 hs
  go_upto_region 7 with fail
  go_cut [] from 20 to 30 (fun wx => ∃ (F2 : Nat → Prop) (N2 : Option Addr) (c2 : Nat), Dd wx g F2 N2 S W c2 cS cW { D1 with now := D1.now.set p (full b) } ∧ (∀ j, F2 j → F j ∨ w.heap.size ≤ j) ∧ Kp F w wx)
  case first =>
    have K3 := Lib.hid K2.out.drew
    have H3 := Lib.hid (H2.out.keep0 (Kp.refl nob w2).drew)
    refine reg_begin (fun _ => True) (by kernel_rfl) trivial (fun _ => ?_)
    have K3d := Lib.hid (show Kp nob w2 w2.drew from (Kp.refl nob w2).drew)
    generalize w2.drew = w3 at *
    refine reg_take (v := .pointer (some ⟨g, 0, none⟩)) 0 (some 20) rfl rfl (by kernel_rfl) (by kernel_rfl) (by kernel_rfl) (by rfl) trivial (fun w hw => by go_simp) ?_
    simp only [Act.put, List.setIfInBounds_toArray, List.set_cons_zero, List.set_cons_succ]
    refine reg_take (v := .pointer (some ⟨g, 0, none⟩)) 1 (some 21) rfl rfl (by kernel_rfl) (by kernel_rfl) (by kernel_rfl) (by rfl) trivial (fun w hw => by go_simp) ?_
    simp only [Act.put, List.setIfInBounds_toArray, List.set_cons_zero, List.set_cons_succ]
    refine reg_take (v := .pointer (some ⟨g, 0, none⟩)) 2 (some 22) rfl rfl (by kernel_rfl) (by kernel_rfl) (by kernel_rfl) (by rfl) trivial (fun w hw => by go_simp) ?_
    simp only [Act.put, List.setIfInBounds_toArray, List.set_cons_zero, List.set_cons_succ]
    refine reg_take (v := .pointer (some ⟨g, 0, none⟩)) 3 (some 23) rfl rfl (by kernel_rfl) (by kernel_rfl) (by kernel_rfl) (by rfl) trivial (fun w hw => by go_simp) ?_
    simp only [Act.put, List.setIfInBounds_toArray, List.set_cons_zero, List.set_cons_succ]
    refine reg_take (v := .int .i64 (p : Int)) 5 (some 25) rfl rfl (by kernel_rfl) (by kernel_rfl) (by kernel_rfl) (by rfl) trivial (fun w hw => by go_simp) ?_
    simp only [Act.put, List.setIfInBounds_toArray, List.set_cons_zero, List.set_cons_succ]
    refine reg_take (v := .string (str b)) 6 (some 26) rfl rfl (by kernel_rfl) (by kernel_rfl) (by kernel_rfl) (by rfl) trivial (fun w hw => by go_simp) ?_
    simp only [Act.put, List.setIfInBounds_toArray, List.set_cons_zero, List.set_cons_succ]
    have hc3 : w3.cell? ⟨g, 0, none⟩ = some (.slice N D1.now.length cN) := H3.out.b.cell 0
    refine reg_orCall (v := .slice N D1.now.length cN) (w' := w3) 4 7 (some 24) (some 27) rfl rfl rfl rfl (by kernel_rfl) (by rfl) (by rfl) _ _ (by go_simp) (exec_func 51 _ _ [.string (str b)] rfl (by kernel_rfl) rfl) trivial (fun _ => ?_) ?_
    case' refine_1 =>
      simp only [Act.put, List.setIfInBounds_toArray, List.set_cons_zero, List.set_cons_succ]
      clear hc3
      refine reg_call 7 (some 27) rfl rfl (by kernel_rfl) (by rfl) _ _ (exec_func 51 _ _ [.string (str b)] rfl (by kernel_rfl) rfl) ?_
      refine (fFull b w3 HBL.out).mono ?_
      rintro e w4 ⟨rfl, k4⟩
      have K4 := Lib.hid k4
      clear k4
      refine ⟨_, rfl, trivial, fun _ => ?_⟩
    case' refine_2 =>
      refine (fFull b w3 HBL.out).mono ?_
      rintro e w4 ⟨rfl, k4⟩
      have K4 := Lib.hid k4
      have hc4 : w4.cell? ⟨g, 0, none⟩ = some (.slice N D1.now.length cN) := (H3.out.b.keep k4 (fun e => e)).cell 0
      clear k4 hc3
      refine ⟨_, rfl, trivial, fun _ => ?_⟩
      simp only [Act.put, List.setIfInBounds_toArray, List.set_cons_zero, List.set_cons_succ]
      refine reg_step (w' := w4) (v := .slice N D1.now.length cN) 4 (some 24) rfl rfl (by kernel_rfl) (by rfl) (by go_simp) trivial (fun _ => ?_)
      clear hc4
    all_goals
      simp only [Act.put, List.setIfInBounds_toArray, List.set_cons_zero, List.set_cons_succ]
      have H4 := Lib.hid (H3.out.keep0 K4.out); have K4d := Lib.hid (K3d.out.trans K4.out (fun _ e => e.elim))
      refine reg_call 8 (some 28) rfl rfl (by kernel_rfl) (by rfl) _ _ (exec_func 47 _ _ [.slice N D1.now.length cN, .int .i64 (p : Int), .string (str (full b))] rfl (by kernel_rfl) rfl) ?_
      refine (fput D1.now N D1.now.length cN p (full b) w4 H4.out.now rfl (by rw [HAN.out.1]; exact HP.out.1) (by rw [HAN.out.1]; have := HP.out.2.1; omega)).mono ?_
      rintro e w5 ⟨N2, c2, rfl, hr5, hc5, ha5, k5⟩
      have H5 := Lib.hid (H4.out.keep0 k5)
      have HR5 := Lib.hid hr5; have HC5 := Lib.hid hc5; have HA5 := Lib.hid ha5; have K5 := Lib.hid ((K3d.out.trans K4.out (fun _ e => e.elim)).trans k5 (fun _ e => e.elim))
      have HSZ := Lib.hid (Nat.le_trans K3.out.size K4.out.size)
      clear hr5 hc5 ha5 k5
      refine ⟨_, rfl, trivial, fun _ => ?_⟩
      simp only [Act.put, List.setIfInBounds_toArray, List.set_cons_zero, List.set_cons_succ]
      refine reg_take (v := .pointer (some ⟨g, 0, none⟩)) 9 (some 29) rfl rfl (by kernel_rfl) (by kernel_rfl) (by kernel_rfl) (by rfl) trivial (fun w hw => by go_simp) ?_
      simp only [Act.put, List.setIfInBounds_toArray, List.set_cons_zero, List.set_cons_succ]
      refine reg_take (v := .pointer (some ⟨g, 0, none⟩)) 10 (some 30) rfl rfl (by kernel_rfl) (by kernel_rfl) (by kernel_rfl) (by rfl) trivial (fun w hw => by go_simp) ?_
      simp only [Act.put, List.setIfInBounds_toArray, List.set_cons_zero, List.set_cons_succ]
      have hc6 : w5.cell? ⟨g, 0, none⟩ = some (.slice N D1.now.length cN) := H5.out.b.cell 0
      have hf6 : w5.frozen? ⟨g, 0, none⟩ = false := H5.out.b.frozen 0
      refine reg_mute (w' := w5.setCell ⟨g, 0, none⟩ (.slice N2 D1.now.length c2)) 11 none rfl rfl (by kernel_rfl) (by rfl) (by go_simp) trivial (fun _ => ?_)
      simp only [Act.put, List.setIfInBounds_toArray, List.set_cons_zero, List.set_cons_succ]
      refine reg_end (by kernel_rfl) ?_
      clear hc6 hf6
      obtain ⟨hq1, hq2⟩ := H2.out.turnN K5.out (D1.now.set p (full b)) (List.length_set ..) HR5.out HC5.out (fun j e => ⟨Nat.le_trans K4d.out.size (HA5.out j e).1, (HA5.out j e).2⟩)
      have HQ := Lib.hid (And.intro hq1 hq2)
      clear hq1 hq2
      go_wp2_with fail
      go_meet
      exact ⟨_, N2, c2, HQ.out.1, fun j e => e.elim .inl (fun e => .inr (Nat.le_trans (Nat.le_trans K2.out.size K4d.out.size) (HA5.out j e).1)), (K2.out.mono (fun i _ e => by have e : i = g := e; rw [e]; exact HLT.out.2.1)).trans HQ.out.2 (fun i e => .inl e)⟩
  case rest =>
    obtain ⟨F2, N2, c2, hd2, hf2, hk2⟩ := hcut
    have HD2 := Lib.hid hd2; have HF2 := Lib.hid hf2; have HK2 := Lib.hid hk2
    clear hd2 hf2 hk2 H2 K2
    have hc2 : (wc.alloc (.cells #[] 82)).cell? ⟨g, 2, none⟩ = some (.slice W D1.waits.length cW) := (HD2.out.keep0 ((Kp.refl nob wc).alloc (.cells #[] 82))).b.cell 2
    have HCZ := Lib.hid (show (wcs D1.waits).length = D1.waits.length * 2 from wcs_length _)
    obtain ⟨i0, hi0, hz0, hz1, hz2⟩ := info_parts3 fw_info
    have HI := Lib.hid (And.intro hi0 (And.intro hz0 (And.intro hz1 hz2)))
    have HOW := Lib.hid (show OwnZ 82 2 (wc.alloc (.cells #[] 82)) (some ⟨wc.heap.size, 0, none⟩) 0 0 [] from World.ownsRow_made wc #[] 0 (Nat.zero_le _) (by simp [maxLen]) rfl)
    have HRW := Lib.hid (HD2.out.waits.alloc (.cells #[] 82))
    have HWN := Lib.hid (show W = none → D1.waits.length = 0 from fun e => by
      rcases HD2.out.waits with h | ⟨b', o', h, _⟩
      · have h9 := congrArg List.length h
        rw [wcs_length] at h9
        have h8 : D1.waits.length * 2 = 0 := h9
        omega
      · rw [e] at h; cases h)
    clear hi0 hz0 hz1 hz2
    go_wp2_with (at_builtin; refine wpList_appZ _ rfl (.tmp 32) (.tmp 36) 48 rfl 82 i0 _ 2 24 fw_under HI.out.1 HI.out.2.1 HI.out.2.2.1 HI.out.2.2.2 rfl (by decide) _ 0 0 [] rfl HOW.out W D1.waits.length cW (wcs D1.waits) rfl HWN.out (wcs_length _) HRW.out (wcs_one _) (by rw [HAN.out.2.1]; have := HP.out.2.2; omega) (by rw [HAN.out.2.1]; have := HP.out.2.2; omega) ?_)
    intro M cM w6 hM hgM habM
    have K6 := Lib.hid (((Kp.refl nob wc).alloc (.cells #[] 82)).grown hgM (fun k e => .inr (by cases e; exact Nat.le_refl _)))
    have NM := Lib.hid (show ∀ k, ab M = some k → wc.heap.size ≤ k from fun k e => by
      rcases habM with h | h <;> rw [h] at e <;> cases e
      · exact Nat.le_refl _
      · exact Nat.le_succ _)
    have HM6 := Lib.hid hM
    clear hM hgM habM HOW HRW hc2
    go_wp2_with fail
    refine (fFull b w6 HBL.out).mono ?_
    rintro e w7 ⟨rfl, k7⟩
    have K7 := Lib.hid (K6.out.trans k7 (fun _ e => e.elim))
    have HM7 := Lib.hid (HM6.out.keep k7 (fun _ _ e => e))
    clear k7 HM6 K6
    have HR8 := Lib.hid (show Row (w7.alloc (.cells #[.int .i64 (p : Int), .string (str (full b))] 82)) (some ⟨w7.heap.size, 0, none⟩) (wc_ p b) from row_new w7 (wc_ p b) _)
    have HM8 := Lib.hid (HM7.out.keep ((Kp.refl nob w7).alloc (.cells #[.int .i64 (p : Int), .string (str (full b))] 82)) (fun _ _ e => e))
    have K8 := Lib.hid (K7.out.alloc (.cells #[.int .i64 (p : Int), .string (str (full b))] 82))
    go_wp2_with (at_builtin; refine wpList_appZ _ rfl (.tmp 37) (.tmp 42) 48 rfl 82 i0 _ 2 24 fw_under HI.out.1 HI.out.2.1 HI.out.2.2.1 HI.out.2.2.2 rfl (by decide) M D1.waits.length cM (wcs D1.waits) rfl HM8.out (some ⟨w7.heap.size, 0, none⟩) 1 1 (wc_ p b) rfl (fun e => by cases e) rfl HR8.out (wc_one _) (by rw [HAN.out.2.1]; have := HP.out.2.2; omega) (by rw [HAN.out.2.1]; have := HP.out.2.2; omega) ?_)
    intro W3 c3 w8 o8 g8 a8
    have K9 := Lib.hid (K8.out.grown g8 (fun k e => .inr (NM.out k e.symm.symm)))
    have HA8 := Lib.hid (show ∀ j, ab W3 = some j → wc.heap.size ≤ j ∧ j < w8.heap.size from fun j e => ⟨by
      rcases a8 with h | h
      · rw [h] at e; exact NM.out j e
      · rw [h] at e; cases e; have := K7.out.size; omega, o8.lt j e⟩)
    have HT := Lib.hid (HD2.out.turnW K9.out (D1.waits ++ [(p, full b)]) (n2 := D1.waits.length + 1) (List.length_append ..) (by rw [wcs_snoc]; exact o8.row) o8.cap.1 HA8.out)
    have hc9 : w8.cell? ⟨g, 2, none⟩ = some (.slice W D1.waits.length cW) := (HD2.out.keep0 K9.out).b.cell 2
    have hf9 : w8.frozen? ⟨g, 2, none⟩ = false := (HD2.out.keep0 K9.out).b.frozen 2
    clear o8 g8 a8 K7 HM7 HM8 HR8 K8
    have HDE := Lib.hid (show Dd (w8.setCell ⟨g, 2, none⟩ (.slice W3 (D1.waits.length + 1) c3)) g (fun j => F2 j ∨ ab W3 = some j) N2 S W3 c2 cS c3 (wrote D1 p b) from HT.out.1)
    have HFE := Lib.hid (show ∀ j, (F2 j ∨ ab W3 = some j) → F j ∨ w.heap.size ≤ j from fun j e => e.elim (fun e => HF2.out j e) (fun e => .inr (Nat.le_trans HK2.out.size (HA8.out j e).1)))
    have HKE := Lib.hid (show Kp F w (w8.setCell ⟨g, 2, none⟩ (.slice W3 (D1.waits.length + 1) c3)) from HK2.out.trans HT.out.2 (fun i e => HF2.out i e))
    have HDM := Lib.hid (show Dm w g F (wrote D1 p b) (w8.setCell ⟨g, 2, none⟩ (.slice W3 (D1.waits.length + 1) c3)) from ⟨_, _, _, _, _, _, _, HDE.out, HFE.out, HKE.out⟩)
    have HOE := Lib.hid (show Ok (wrote D1 p b) from wrote_ok D1 p b HO1.out (by rw [HAN.out.1]; exact HP.out.1) HBL.out)
    have HNE := Lib.hid (show (wrote D1 p b).now.length ≤ 4096 ∧ (wrote D1 p b).waits.length ≤ 100000 from ⟨by show (D1.now.set p (full b)).length ≤ 4096; rw [List.length_set, HAN.out.1]; exact HP.out.2.1, by show (D1.waits ++ [(p, full b)]).length ≤ 100000; rw [List.length_append, HAN.out.2.1]; have := HP.out.2.2; simp; omega⟩)
    cases gs with
    | false =>
      go_wp2
      go_ret
      exact ⟨rfl, HDM.out⟩
    | true =>
      go_upto_region 9 with fail
      clear hc9 hf9
      generalize w8.setCell ⟨g, 2, none⟩ (.slice W3 (D1.waits.length + 1) c3) = w9 at *
      have hk9 : w9.cell? ⟨g, 6, none⟩ = some (.int .u64 (D.keep : Int)) := by
        have := HDE.out.b.cell 6
        rw [this]
        show some (Value.int .u64 (D1.keep : Int)) = _
        rw [HAK.out]
      go_wp2_with fail
      refine (fLose (wrote D1 p b) D.keep g _ N2 S W3 c2 cS c3 w9 HDE.out HOE.out HNE.out.1 HNE.out.2).mono ?_
      rintro e wf ⟨rfl, Ff, Nf, Sf, Wf, aN, aS, aW, hdf, hff, hkf⟩
      have HDF := Lib.hid hdf; have HFF := Lib.hid hff; have HKF := Lib.hid hkf
      clear hdf hff hkf hk9
      go_wp2
      go_ret
      exact ⟨rfl, Ff, Nf, Sf, Wf, aN, aS, aW, HDF.out, fun k e => (HFF.out k e).elim (fun e => HFE.out k e) (fun e => .inr (Nat.le_trans HKE.out.size e)), HKE.out.trans HKF.out (fun i e => HFE.out i e)⟩
/-- What stands behind a call whose own turns came first. -/
theorem Dm.back {w w1 w2 : World} {g : Nat} {F : Nat → Prop} {D : Dk} (k : Kp F w w1) (h : Dm w1 g F D w2) : Dm w g F D w2 := by
  obtain ⟨F', N, S, W, cN, cS, cW, h1, h2, h3⟩ := h
  exact ⟨F', N, S, W, cN, cS, cW, h1, fun j e => (h2 j e).elim .inl (fun e => .inr (Nat.le_trans k.size e)), k.trans h3 (fun i e => .inl e)⟩
theorem Dm.own {w w1 : World} {g : Nat} {F : Nat → Prop} {N S W : Option Addr} {cN cS cW : Nat} {D : Dk} (h : Dd w1 g F N S W cN cS cW D) (k : Kp F w w1) : Dm w g F D w1 := ⟨F, N, S, W, cN, cS, cW, h, fun _ e => .inl e, k⟩
/-- All that is there is safe. -/
theorem Dd.safe_ {w : World} {g : Nat} {F : Nat → Prop} {N S W : Option Addr} {cN cS cW : Nat} {D : Dk} (h : Dd w g F N S W cN cS cW D) :
    Dd ((w.setCell ⟨g, 1, none⟩ (.slice N D.now.length cN)).setCell ⟨g, 2, none⟩ (.slice none 0 0)) g F N N none cN cN 0 { D with safe := D.now, waits := [] } ∧ Kp (oneB g) w ((w.setCell ⟨g, 1, none⟩ (.slice N D.now.length cN)).setCell ⟨g, 2, none⟩ (.slice none 0 0)) := by
  have ks : Kp (oneB g) w ((w.setCell ⟨g, 1, none⟩ (.slice N D.now.length cN)).setCell ⟨g, 2, none⟩ (.slice none 0 0)) := ((Kp.refl (oneB g) w).setCell (p := ⟨g, 1, none⟩) (.inl rfl) _).setCell (p := ⟨g, 2, none⟩) (.inl rfl) _
  refine ⟨⟨(h.b.set_ 1 _).set_ 2 _, h.now.keep ks (fun j e e2 => (h.fn j e).2 e2), h.now.keep ks (fun j e e2 => (h.fn j e).2 e2), Row.nil _ _, ⟨h.caps.1, h.caps.1, Nat.le_refl _⟩, h.fn, h.fn, (fun j e => by cases e), h.g, fun j e => Nat.lt_of_lt_of_le (h.lt j e) ks.size⟩, ks⟩
set_option maxHeartbeats 4000000 in
set_option maxRecDepth 100000 in
theorem fSync (D : Dk) (g : Nat) (F : Nat → Prop) (N S W : Option Addr) (cN cS cW : Nat) (w : World) (h : Dd w g F N S W cN cS cW D) (ho : Ok D) (hn : D.now.length ≤ 4096) (hw : D.waits.length ≤ 100000) (ha : D.acts ≤ 1000000000) (hf : D.fuse ≤ 9223372036854775807) :
    Calls Try.prog 20 #[.pointer (some ⟨g, 0, none⟩)] w fun e w' => e = .returned (.int .i64 (sync E8 D).2) ∧ Dm w g F (sync E8 D).1 w' := by
  have HD := Lib.hid h
  obtain ⟨c0, c1, c2, c3, c4, c5, c6⟩ := h.cells
  clear c0 c1 c2 c4 c5 c6
  cases hoff : D.off with
  | true =>
    rw [hoff] at c3
    have HS := Lib.hid (show sync E8 D = (D, 8) by rw [sync, if_pos hoff]; rfl)
    clear h ho hn hw ha hf hoff
    go_enter Try.func20, Try.ntmps20
    go_wp2
    go_ret
    rw [HS.out]
    exact ⟨rfl, Dm.own HD.out (Kp.refl _ _)⟩
  | false =>
    rw [hoff] at c3
    have HA := Lib.hid (fAct D g F N S W cN cS cW w h ha hf)
    have HS := Lib.hid (show sync E8 D = (if (act D).2 then (lose (act D).1 D.keep, 8) else ({ (act D).1 with safe := D.now, waits := [] }, 0)) by rw [sync, if_neg (by rw [hoff]; decide)]; rfl)
    have HN := Lib.hid (actnow D); have HKP := Lib.hid (actkeep D)
    have HOK := Lib.hid (act_ok D ho)
    have HB := Lib.hid (And.intro hn hw)
    have HG := Lib.hid h.g
    rw [HS.out]
    obtain ⟨D1, hD1⟩ : ∃ D1, D1 = (act D).1 := ⟨_, rfl⟩
    obtain ⟨gs, hgs⟩ : ∃ q, q = (act D).2 := ⟨_, rfl⟩
    rw [← hD1] at HN HKP HOK HA
    rw [← hgs] at HA
    rw [← hgs, ← hD1]
    clear h ho hn hw ha hf hoff HS hD1 hgs
    go_enter Try.func20, Try.ntmps20
    go_wp2_with fail
    refine HA.out.mono ?_
    rintro e w2 ⟨rfl, h2, k2⟩
    have H2 := Lib.hid h2; have K2 := Lib.hid (k2.mono (G := F) (fun i _ e => by have e : i = g := e; rw [e]; exact HG.out))
    obtain ⟨c0, c1, c2, _, _, _, c6⟩ := h2.cells
    clear h2 k2 c3 HA
    cases gs with
    | true =>
      rw [HKP.out] at c6
      go_wp2_with fail
      refine (fLose D1 D.keep g F N S W cN cS cW w2 H2.out HOK.out (by rw [HN.out.1]; exact HB.out.1) (by rw [HN.out.2.1]; exact HB.out.2)).mono ?_
      rintro e w3 ⟨rfl, h3⟩
      have H3 := Lib.hid h3
      clear h3 c0 c1 c2 c6
      go_wp2
      go_ret
      exact ⟨rfl, Dm.back K2.out H3.out⟩
    | false =>
      have f1 : w2.frozen? ⟨g, 1, none⟩ = false := H2.out.b.frozen 1
      have f2 : ((w2.setCell ⟨g, 1, none⟩ (.slice N D1.now.length cN)).frozen? ⟨g, 2, none⟩) = false := (H2.out.b.set_ 1 _).frozen 2
      have e2 : (w2.setCell ⟨g, 1, none⟩ (.slice N D1.now.length cN)).cell? ⟨g, 2, none⟩ = some (.slice W D1.waits.length cW) := (H2.out.b.set_ 1 _).cell 2
      clear c2 c6
      go_wp2
      go_ret
      obtain ⟨q1, q2⟩ := H2.out.safe_
      rw [← HN.out.1]
      exact ⟨rfl, Dm.own q1 (K2.out.trans q2 (fun i e => .inl (by have e : i = g := e; rw [e]; exact HG.out)))⟩
theorem flat_take (ls : List (List UInt8)) (k : Nat) (x : List UInt8) (h : ls[k]? = some x) : (ls.take (k + 1)).flatten = (ls.take k).flatten ++ x := by
  rw [List.take_add_one, h]; simp
theorem flat_le (ls : List (List UInt8)) (k : Nat) (h : ∀ s ∈ ls, s.length = 256) : (ls.take k).flatten.length ≤ 256 * ls.length := by
  induction ls generalizing k with
  | nil => simp
  | cons x ls ih =>
    cases k with
    | zero => simp
    | succ k =>
      have := ih k (fun s hs => h s (by simp [hs]))
      have := h x (by simp)
      simp only [List.take_succ_cons, List.flatten_cons, List.length_append, List.length_cons]
      omega
set_option maxHeartbeats 2000000 in
set_option maxRecDepth 100000 in
theorem fImage (D : Dk) (g : Nat) (F : Nat → Prop) (N S W : Option Addr) (cN cS cW : Nat) (w : World) (h : Dd w g F N S W cN cS cW D) (ho : Ok D) (hn : D.now.length ≤ 4096) :
    Calls Try.prog 31 #[.pointer (some ⟨g, 0, none⟩)] w fun e w' => e = .returned (.string (str (image D))) ∧ w = w' := by
  obtain ⟨c0, c1, c2, c3, c4, c5, c6⟩ := h.cells
  clear c1 c2 c3 c4 c5 c6
  have hrow := h.now
  have HO := Lib.hid ho.now
  unfold image
  obtain ⟨ls, hls⟩ : ∃ ls, ls = D.now := ⟨_, rfl⟩
  rw [← hls] at hrow hn HO c0 ⊢
  clear h ho hls
  obtain ⟨n, hnl⟩ : ∃ n, n = ls.length := ⟨_, rfl⟩
  rw [← hnl] at c0 hn
  have HN := Lib.hid hnl
  have hlen := hnl
  clear hnl
  go_enter Try.func31, Try.ntmps31
  go_wp2
  go_loopw [3, 11] (fun vs vi wr => ∃ k : Nat, k ≤ n ∧ vi = .int .i64 k ∧ vs = .string (str (ls.take k).flatten) ∧ w = wr)
    (fun _ vi _ => n - (intOf vi).toNat)
  case atStart => exact ⟨0, Nat.zero_le _, rfl, rfl, rfl⟩
  case round =>
    obtain ⟨k, hk, rfl, rfl, rfl⟩ := hrel
    by_cases hlt : k < n
    · obtain ⟨x, hx⟩ : ∃ x, ls[k]? = some x := ⟨_, List.getElem?_eq_getElem (by omega)⟩
      have hsv : (svs ls)[k]? = some (.string (str x)) := by rw [svs, List.getElem?_map, hx]; rfl
      rcases hrow with hr | ⟨b, o, rfl, hb, hr⟩
      · rw [hr] at hsv; cases hsv
      have hcell : w.cell? ⟨b, o + k, none⟩ = some (.string (str x)) := hr k _ hsv
      have HF := Lib.hid (flat_take ls k x hx)
      have hz : (str (ls.take k).flatten).size + (str x).size ≤ 9223372036854775807 := by
        rw [str_size, str_size]
        have := flat_le ls k HO.out
        have := HO.out x (List.mem_of_getElem? hx)
        omega
      generalize (ls.take k).flatten = P at *
      clear hx hsv hr hb
      go_wp2
      go_roundw
      case rel => exact ⟨k + 1, by omega, by go_num, by rw [HF.out, str_append2], by first | trivial | rfl⟩
      case measure => simp [intOf]; omega
    · obtain rfl : k = n := by omega
      rw [List.take_of_length_le (by omega)]
      go_wp2
      go_ret
      exact ⟨rfl, rfl⟩
end Go.Proofs.Ytndkmfflpphoiaa.Disk
namespace Go.Proofs.Ytndkmfflpphoiaa
open Go Go.RowKit Kit
/-- The document's reader at block b. -/
def IsM (w : World) (b : Nat) (s : List UInt8 × Bool) : Prop := w.heap[b]? = some (.cells #[.string (str s.1), .bool s.2] 97 (0, 0)) ∧ s.1.length ≤ 1099511627776
theorem IsM.lt {w : World} {b : Nat} {s : List UInt8 × Bool} (h : IsM w b s) : b < w.heap.size := by
  rcases Nat.lt_or_ge b w.heap.size with hlt | hge
  · exact hlt
  · have := h.1; rw [Array.getElem?_eq_none hge] at this; cases this
theorem IsM.keep {F : Nat → Prop} {w w' : World} {b : Nat} {s : List UInt8 × Bool} (h : IsM w b s) (hk : Kp F w w') (hf : ¬ F b) : IsM w' b s :=
  ⟨by rw [hk.block b h.lt hf]; exact h.1, h.2⟩
theorem IsM.cells {w : World} {b : Nat} {s : List UInt8 × Bool} (h : IsM w b s) : w.cell? ⟨b, 0, none⟩ = some (.string (str s.1)) ∧ w.cell? ⟨b, 1, none⟩ = some (.bool s.2) ∧ w.frozen? ⟨b, 0, none⟩ = false ∧ w.frozen? ⟨b, 1, none⟩ = false :=
  ⟨by rw [cell_of_heap h.1]; rfl, by rw [cell_of_heap h.1]; rfl, frozen_of_heap h.1 0, frozen_of_heap h.1 1⟩
theorem IsM.set {w : World} {b : Nat} {s : List UInt8 × Bool} (h : IsM w b s) (l : List UInt8) (hl : l.length ≤ 1099511627776) : IsM (w.setCell ⟨b, 0, none⟩ (.string (str l))) b (l, s.2) ∧ Kp (oneF b) w (w.setCell ⟨b, 0, none⟩ (.string (str l))) := by
  refine ⟨⟨?_, hl⟩, (Kp.refl (oneF b) w).setCell (p := ⟨b, 0, none⟩) (.inl rfl) _⟩
  have := heap_setCell h.1 0 (.string (str l))
  simpa using this
theorem IsM.bust {w : World} {b : Nat} {s : List UInt8 × Bool} (h : IsM w b s) : IsM ((w.setCell ⟨b, 1, none⟩ (.bool true)).setCell ⟨b, 0, none⟩ (.string ⟨#[]⟩)) b bust ∧ Kp (oneF b) w ((w.setCell ⟨b, 1, none⟩ (.bool true)).setCell ⟨b, 0, none⟩ (.string ⟨#[]⟩)) := by
  refine ⟨⟨?_, by simp [Go.Proofs.Ytndkmfflpphoiaa.bust]⟩, ((Kp.refl (oneF b) w).setCell (p := ⟨b, 1, none⟩) (.inl rfl) _).setCell (p := ⟨b, 0, none⟩) (.inl rfl) _⟩
  have := heap_setCell (heap_setCell h.1 1 (.bool true)) 0 (.string ⟨#[]⟩)
  simpa [Go.Proofs.Ytndkmfflpphoiaa.bust, str] using this
theorem str_extract (l : List UInt8) (a b : Nat) : (str l).extract a b = str ((l.drop a).take (b - a)) := by
  apply ByteArray.ext
  rw [ByteArray.data_extract]
  simp [str]
def MPost (w : World) (b : Nat) (s : List UInt8 × Bool) (w' : World) : Prop := IsM w' b s ∧ Kp (oneF b) w w'
set_option maxHeartbeats 1000000 in
theorem mTake (b : Nat) (s : List UInt8 × Bool) (n : Int) (w : World) (h : IsM w b s) :
    Calls Try.prog 62 #[.pointer (some ⟨b, 0, none⟩), .int .i64 n] w fun e w' => e = .returned (.tuple #[.string (str (sTake s n).1.1), .bool (sTake s n).1.2]) ∧ MPost w b (sTake s n).2 w' := by
  have hh := h
  obtain ⟨h1, h2, h3, h4⟩ := h.cells
  have hl := h.2
  obtain ⟨l, bad⟩ := s
  simp only at h1 h2 hl
  have HH := Lib.hid hh; clear hh h
  cases bad with
  | true =>
    have e : sTake (l, true) n = (([], false), bust) := by simp [sTake, can]
    rw [e]
    go_enter Try.func62, Try.ntmps62
    go_wp2
    go_ret2
    exact ⟨rfl, HH.out.bust⟩
  | false =>
    by_cases h0 : n < 0
    · have e : sTake (l, false) n = (([], false), bust) := by simp [sTake, can]; omega
      rw [e]
      have hb : decide (n < 0) = true := decide_eq_true h0
      go_enter Try.func62, Try.ntmps62
      go_wp2
      go_ret2
      exact ⟨rfl, HH.out.bust⟩
    · by_cases h5 : (l.length : Int) < n
      · have e : sTake (l, false) n = (([], false), bust) := by simp [sTake, can]; omega
        rw [e]
        have hb : decide (n < 0) = false := decide_eq_false h0
        have hb2 : decide ((l.length : Int) < n) = true := decide_eq_true h5
        go_enter Try.func62, Try.ntmps62
        go_wp2
        go_ret2
        exact ⟨rfl, HH.out.bust⟩
      · obtain ⟨k, rfl⟩ := Int.eq_ofNat_of_zero_le (by omega : 0 ≤ n)
        have hk : k ≤ l.length := by omega
        have e : sTake (l, false) (k : Int) = ((l.take k, true), (l.drop k, false)) := by simp [sTake, can, hk]
        rw [e]
        clear h0 h5 e
        go_enter Try.func62, Try.ntmps62
        go_wp2
        go_ret2
        have e1 : (str l).extract 0 k = str (l.take k) := by rw [str_extract]; simp
        have e2 : (str l).extract k l.length = str (l.drop k) := by rw [str_extract, List.take_of_length_le (by simp)]
        rw [e1, e2]
        exact ⟨rfl, HH.out.set (l.drop k) (by simp; omega)⟩
theorem sTake_ok (s : List UInt8 × Bool) (n : Int) (h : (sTake s n).1.2 = true) : ((sTake s n).1.1.length : Int) = n ∧ (sTake s n).2.2 = false := by
  unfold sTake at *
  split at h <;> rename_i hc
  · rw [if_pos hc]
    simp only [can, decide_eq_true_eq] at hc
    refine ⟨?_, rfl⟩
    simp only [List.length_take]; omega
  · cases h
theorem sTake_not (s : List UInt8 × Bool) (n : Int) (h : (sTake s n).1.2 = false) : sTake s n = (([], false), bust) := by
  unfold sTake at *
  split at h <;> rename_i hc
  · cases h
  · rw [if_neg hc]
theorem wrap_none : wrap64 (lowN [] : Nat) = 0 := by decide +kernel
theorem lowN_drop (t : List UInt8) (k : Nat) (h : k < t.length) : lowN (t.drop k) = t[k].toNat + 256 * lowN (t.drop (k + 1)) := by
  rw [List.drop_eq_getElem_cons h]; rfl
set_option maxHeartbeats 1000000 in
theorem mNum (b : Nat) (s : List UInt8 × Bool) (w : World) (h : IsM w b s) :
    Calls Try.prog 61 #[.pointer (some ⟨b, 0, none⟩)] w fun e w' => e = .returned (.int .i64 (sNum s).1) ∧ MPost w b (sNum s).2 w' := by
  have htk := mTake b s 8 w h
  cases hok : (sTake s 8).1.2 with
  | false =>
    have e := sTake_not s 8 hok
    have e2 : sNum s = (0, bust) := by rw [sNum, e]; exact Prod.ext wrap_none rfl
    rw [e2]
    rw [e] at htk
    go_enter Try.func61, Try.ntmps61
    clear e e2 hok
    go_wp2_with fail
    refine htk.mono ?_
    rintro e w1 ⟨rfl, h1⟩
    go_wp2
    refine wp_loop_rounds 1 ?_
    rw [rounds_succ]
    go_wp2
    go_ret
    exact ⟨rfl, h1⟩
  | true =>
    have hl := (sTake_ok s 8 hok).1
    rw [hok] at htk
    have e2 : sNum s = (wrap64 (lowN (sTake s 8).1.1 : Nat), (sTake s 8).2) := rfl
    rw [e2]
    obtain ⟨t, ht⟩ : ∃ t, t = (sTake s 8).1.1 := ⟨_, rfl⟩
    rw [← ht] at htk hl ⊢
    have hl8 : t.length = 8 := by omega
    have HT := Lib.hid ht
    clear e2 hok ht hl
    go_enter Try.func61, Try.ntmps61
    go_wp2_with fail
    refine htk.mono ?_
    rintro e w1 ⟨rfl, h1⟩
    clear htk
    go_wp2
    go_loop [5, 6] (fun y i => ∃ k : Nat, k ≤ 8 ∧ i = .int .i64 ((k : Int) - 1) ∧ y = .int .u64 (lowN (t.drop k) : Nat)) (fun _ i => (intOf i + 1).toNat)
    case atStart => exact ⟨8, by omega, rfl, by rw [List.drop_of_length_le (by omega)]; rfl⟩
    case round =>
      obtain ⟨k, hk, rfl, rfl⟩ := hrel
      by_cases hlt : 0 < k
      · obtain ⟨j, rfl⟩ : ∃ j, k = j + 1 := ⟨k - 1, by omega⟩
        have hj : j < t.length := by omega
        have hdr := lowN_drop t j hj
        have hb := lowN_lt (t.drop (j + 1))
        have hb2 : 256 ^ (t.drop (j + 1)).length ≤ 256 ^ 7 := Nat.pow_le_pow_right (by omega) (by rw [List.length_drop]; omega)
        have hb3 : lowN (t.drop (j + 1)) < 72057594037927936 := Nat.lt_of_lt_of_le hb hb2
        have hx := t[j].toNat_lt
        have HD := Lib.hid hdr; have HB3 := Lib.hid hb3; have HL8 := Lib.hid hl8
        clear hdr hb hb2 hb3 hx
        have hj7 : j < 8 := by omega
        clear hl8
        go_wp2
        refine ⟨⟨j, by omega, rfl, ?_⟩, by simp [intOf]⟩
        have h3 := HB3.out
        have hx := t[j].toNat_lt
        rw [HD.out]
        have e3 : ∀ hb, ((str t)[j]'hb) = t[j] := fun _ => rfl
        rw [e3]
        obtain ⟨y, hy⟩ : ∃ y, y = t[j].toNat := ⟨_, rfl⟩
        rw [← hy] at hx ⊢
        rw [IntKind.wrap_u64, IntKind.wrap_u64, IntKind.wrap_u64]
        congr 1
        omega
      · obtain rfl : k = 0 := by omega
        go_wp2
        go_ret
        exact ⟨rfl, h1⟩
theorem MPost.bust {w w1 w' : World} {b : Nat} {s : List UInt8 × Bool} (h : MPost w b s w1) (h2 : MPost w1 b bust w') : MPost w b bust w' :=
  ⟨h2.1, h.2.trans h2.2 (fun _ e => .inl e)⟩
theorem MPost.then_ {w w1 w' : World} {b : Nat} {s s' : List UInt8 × Bool} (h : MPost w b s w1) (h2 : MPost w1 b s' w') : MPost w b s' w' :=
  ⟨h2.1, h.2.trans h2.2 (fun _ e => .inl e)⟩
theorem sTake_neg (s : List UInt8 × Bool) : sTake s (-1) = (([], false), bust) := by
  have : can s (-1) = false := by simp [can]
  simp [sTake, this]
set_option maxHeartbeats 1000000 in
theorem mIn (b : Nat) (s : List UInt8 × Bool) (lo hi : Int) (w : World) (h : IsM w b s) :
    Calls Try.prog 53 #[.pointer (some ⟨b, 0, none⟩), .int .i64 lo, .int .i64 hi] w fun e w' => e = .returned (.int .i64 (sIn s lo hi).1) ∧ MPost w b (sIn s lo hi).2 w' := by
  have hnum := mNum b s w h
  obtain ⟨n, hn⟩ : ∃ n, n = (sNum s).1 := ⟨_, rfl⟩
  obtain ⟨s1, hs1⟩ : ∃ s1, s1 = (sNum s).2 := ⟨_, rfl⟩
  rw [← hn, ← hs1] at hnum
  have hbad : s1.2 = true → n = 0 ∧ s1 = bust := by
    intro hb
    rw [hs1] at hb
    simp only [sNum] at hb hn hs1
    cases hok : (sTake s 8).1.2 with
    | true => have := (sTake_ok s 8 hok).2; rw [this] at hb; cases hb
    | false =>
      have e := sTake_not s 8 hok
      rw [e] at hn hs1
      exact ⟨hn.trans wrap_none, hs1⟩
  have hin : sIn s lo hi = if n < lo ∨ hi < n then (0, bust) else (n, s1) := by rw [sIn, ← hn, hs1, hn]
  have HI := Lib.hid hin; have HB := Lib.hid hbad; clear hin hn hs1 hbad
  have hneg : ∀ w1, IsM w1 b s1 → Calls Try.prog 62 #[.pointer (some ⟨b, 0, none⟩), .int .i64 (-1)] w1 fun e w' => e = .returned (.tuple #[.string (str []), .bool false]) ∧ MPost w1 b bust w' := by
    intro w1 h1
    have := mTake b s1 (-1) w1 h1
    rwa [sTake_neg] at this
  have HN := Lib.hid hneg; clear hneg
  cases hb : s1.2 with
  | true =>
    have hB := HB.out hb
    have HB2 := Lib.hid hB; clear hB
    go_enter Try.func53, Try.ntmps53
    go_wp2_with fail
    refine hnum.mono ?_
    rintro e w1 ⟨rfl, hp⟩
    have hc := hp.1.cells
    rw [hb] at hc
    obtain ⟨_, hc1, _, _⟩ := hc
    clear hb
    go_wp2_with (go_at_call 62; refine (HN.out _ hp.1).mono ?_; rintro e w2 ⟨rfl, h2⟩)
    go_ret
    have e : sIn s lo hi = (0, bust) := by
      rw [HI.out, HB2.out.1, HB2.out.2]
      split <;> rfl
    rw [e]
    exact ⟨rfl, hp.bust h2⟩
  | false =>
    by_cases c1 : n < lo
    · go_enter Try.func53, Try.ntmps53
      go_wp2_with fail
      refine hnum.mono ?_
      rintro e w1 ⟨rfl, hp⟩
      have hc := hp.1.cells
      rw [hb] at hc
      obtain ⟨_, hc1, _, _⟩ := hc
      clear hb
      go_wp2_with (go_at_call 62; refine (HN.out _ hp.1).mono ?_; rintro e w2 ⟨rfl, h2⟩)
      go_ret
      rw [HI.out, if_pos (.inl c1)]
      exact ⟨rfl, hp.bust h2⟩
    · by_cases c2 : hi < n
      · go_enter Try.func53, Try.ntmps53
        go_wp2_with fail
        refine hnum.mono ?_
        rintro e w1 ⟨rfl, hp⟩
        have hc := hp.1.cells
        rw [hb] at hc
        obtain ⟨_, hc1, _, _⟩ := hc
        clear hb
        go_wp2_with (go_at_call 62; refine (HN.out _ hp.1).mono ?_; rintro e w2 ⟨rfl, h2⟩)
        go_ret
        rw [HI.out, if_pos (.inr c2)]
        exact ⟨rfl, hp.bust h2⟩
      · go_enter Try.func53, Try.ntmps53
        go_wp2_with fail
        refine hnum.mono ?_
        rintro e w1 ⟨rfl, hp⟩
        have hc := hp.1.cells
        rw [hb] at hc
        obtain ⟨_, hc1, _, _⟩ := hc
        clear hb
        go_wp2
        go_ret
        rw [HI.out, if_neg (by omega)]
        exact ⟨rfl, hp⟩
end Go.Proofs.Ytndkmfflpphoiaa
namespace Go.Proofs.Ytndkmfflpphoiaa.Disk
open Go Go.RowKit Kit
/-- The document's area at b, of the disk at g. -/
def Da (w : World) (b g : Nat) (a : Ar) : Prop := Blk w b 56 [.pointer (some ⟨g, 0, none⟩), .int .i64 (a.top : Int), .int .i64 (a.pos : Int)]
theorem area_build (g : Nat) (t : Int) (w : World) : (Instr.build 56 #[(0, .pointer (some ⟨g, 0, none⟩)), (1, .int .i64 t)]).run Try.prog w = .ok (.agg #[.pointer (some ⟨g, 0, none⟩), .int .i64 t, .int .i64 0]) w := by kernel_rfl
theorem area_build2 (g : Nat) (t p : Int) (w : World) : (Instr.build 56 #[(0, .pointer (some ⟨g, 0, none⟩)), (2, .int .i64 p), (1, .int .i64 t)]).run Try.prog w = .ok (.agg #[.pointer (some ⟨g, 0, none⟩), .int .i64 t, .int .i64 p]) w := by kernel_rfl
set_option maxHeartbeats 1000000 in
set_option maxRecDepth 100000 in
theorem fHalf (n : Nat) (N : Option Addr) (cN : Nat) (epoch : Int) (g : Nat) (w : World) (hc : w.cell? ⟨g, 0, none⟩ = some (.slice N n cN)) (hn : n ≤ 4096) (he : 0 ≤ epoch) :
    Calls Try.prog 13 #[.pointer (some ⟨g, 0, none⟩), .int .i64 epoch] w fun e w' => ∃ b, e = .returned (.pointer (some ⟨b, 0, none⟩)) ∧ Da w' b g (aHalf n (decide (epoch % 2 = 1))) ∧ Kp nob w w' ∧ w.heap.size ≤ b := by
  obtain ⟨h, hh⟩ : ∃ h, h = n / 2 := ⟨_, rfl⟩
  have e1 : (n : Int).tdiv 2 = (h : Int) := by rw [Int.tdiv_eq_ediv_of_nonneg (by omega)]; omega
  have e2 : epoch.tmod 2 = epoch % 2 := Int.tmod_eq_emod_of_nonneg he
  have hb1 := area_build g
  have hb2 := area_build2 g
  have hh4 : h ≤ 2048 := by omega
  unfold Da aHalf
  rw [← hh]
  by_cases ho : epoch % 2 = 0
  · rw [decide_eq_false (by omega)]
    rw [ho] at e2
    clear hh hn ho
    go_enter Try.func13, Try.ntmps13
    go_wp2
    go_ret
    exact ⟨_, rfl, Blk.new w _ _, (Kp.refl nob w).alloc _, Nat.le_refl _⟩
  · rw [decide_eq_true (by omega)]
    have e3 : epoch % 2 = 1 := by omega
    rw [e3] at e2
    have e4 : IntKind.i64.wrap (2 * (h : Int)) = ((2 * h : Nat) : Int) := by rw [IntWalk.i64_in _ (by omega)]; omega
    clear hh hn ho e3
    go_enter Try.func13, Try.ntmps13
    go_wp2
    go_ret
    exact ⟨_, rfl, Blk.new w _ _, (Kp.refl nob w).alloc _, Nat.le_refl _⟩
theorem reader_build (s : ByteArray) (w : World) : (Instr.build 97 #[(0, .string s)]).run Try.prog w = .ok (.agg #[.string s, .bool false]) w := by kernel_rfl
set_option maxHeartbeats 1000000 in
set_option maxRecDepth 100000 in
theorem fLength (s : List UInt8) (w : World) (hs : s.length ≤ 1099511627776) :
    Calls Try.prog 33 #[.string (str s)] w fun e w' => e = .returned (.int .i64 (flen s : Int)) ∧ Kp nob w w' := by
  have hb := reader_build (str s)
  have hsz := str_size s
  have HFI := Lib.hid (flen_int s)
  have hm : IsM (w.alloc (.cells #[.string (str s), .bool false] 97)) w.heap.size (s, false) := ⟨heap_alloc_new w _, hs⟩
  have HM := Lib.hid (mIn w.heap.size (s, false) 48 16384 _ hm)
  obtain ⟨n, hn⟩ : ∃ n, n = (sIn (s, false) 48 16384).1 := ⟨_, rfl⟩
  have HN := Lib.hid (show fnum s = n from (fnum_eq s).trans hn.symm)
  rw [← hn] at HM
  clear hm hn
  go_enter Try.func33, Try.ntmps33
  go_wp2_with fail
  refine HM.out.mono ?_
  rintro e w2 ⟨rfl, h2⟩
  have HK := Lib.hid ((((Kp.refl nob w).alloc (.cells #[.string (str s), .bool false] 97))).since h2.2 (fun i e => by have e : i = w.heap.size := e; omega))
  clear h2
  rw [HN.out] at HFI
  by_cases hl : (s.length : Int) < n
  · rw [if_pos hl] at HFI
    go_wp2
    go_ret
    exact ⟨by rw [HFI.out]; rfl, HK.out⟩
  · rw [if_neg hl] at HFI
    go_wp2
    go_ret
    exact ⟨by rw [HFI.out]; rfl, HK.out⟩
end Go.Proofs.Ytndkmfflpphoiaa.Disk
