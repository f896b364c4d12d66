/- MeterDoes: in every script each answer, the value, and the disk's acts are the document's; a nil register. -/
import Derived.Test.YtchdobneipfghaaZMtT
import Derived.Deep.Cut
import Derived.Deep.CutRange
import Derived.Deep.CutBlock
namespace Go.Proofs.Ytchdobneipfghaa.Meter
set_option linter.unusedVariables false
set_option linter.unusedSimpArgs false
open Go Go.RowKit Kit Disk

theorem Sm.stepM {D : Dk} {k l : Nat} (h : Sm D k l) (hok : Ok D) (t : Mt) (x : Mc) (hx : McOk x) : Sm (stepM t D x).2 (k + 1) l := by
  unfold Meter.stepM
  split
  · exact Sm.next h hok t x.ep x.r
  · split
    · exact (h.lose hok _).up
    · split
      · exact (Sm.on h).up
      · split
        · exact (Sm.arm h x.ep x.K hx.ep hx.K).up
        · split
          · exact h.write hok _ _
          · exact h.up
theorem Tm.turn {w wr w2 : World} {m g N S m2 g2 : Nat} {bs : List (Nat × TypeId × List Value)} {t t' : Mt} {D D' : Dk} {W : Option Addr} {cW : Nat} {p : Pf} {b : Nat} {ty : TypeId} {cs cs2 : List Value} (h : Tm w wr m g N S m2 g2 ((b, ty, cs) :: bs) t D t' D' W cW p) (hk : Kp (oneB b) wr w2) (hb : Blk w2 b ty cs2) (hne : ∀ q ∈ bs, q.1 ≠ b) : Tm w w2 m g N S m2 g2 ((b, ty, cs2) :: bs) t D t' D' W cW p := by
  obtain ⟨b1, b2, b3, b4⟩ := h.bl _ List.mem_cons_self
  have hm : ∀ i, mF m g N S W i → ¬ oneB b i := fun i e e2 => b2 (by have e2 : i = b := e2; rw [← e2]; exact e)
  have he : ∀ i, eF m2 p.F i → ¬ oneB b i := fun i e e2 => b3 (by have e2 : i = b := e2; rw [← e2]; exact e)
  refine ⟨⟨h.co.d.keep hk (fun i e => hm i (.inr e)), h.co.me.keep hk (hm m (.inl rfl)), h.co.ne, h.co.fd, h.co.fm, h.co.k.since hk (fun i e => by have e : i = b := e; rw [e]; exact b4)⟩, h.dd.keep hk (fun i e => he i (.inr e)), h.de.keep hk (he m2 (.inl rfl)), h.ne, h.fd, h.ap, fun q hq => ?_⟩
  rcases List.mem_cons.1 hq with rfl | hq
  · exact ⟨hb, b2, b3, b4⟩
  · exact ⟨(h.bl q (List.mem_cons_of_mem _ hq)).1.keep hk (hne q hq), (h.bl q (List.mem_cons_of_mem _ hq)).2⟩
theorem sm0 (t : Mt) (D : Dk) (x : Mc) (h : x.kind = 0) : stepM t D x = ((nxt t D x.ep x.r).1, (nxt t D x.ep x.r).2.1) := by rw [stepM, if_pos h]
theorem sm1 (t : Mt) (D : Dk) (x : Mc) (h : x.kind = 1) : stepM t D x = (t, lose D x.K) := by rw [stepM, if_neg (by omega), if_pos h]
theorem sm2 (t : Mt) (D : Dk) (x : Mc) (h : x.kind = 2) : stepM t D x = (t, Disk.on D) := by rw [stepM, if_neg (by omega), if_neg (by omega), if_pos h]
theorem sm3 (t : Mt) (D : Dk) (x : Mc) (h : x.kind = 3) : stepM t D x = (t, arm D x.ep x.K) := by rw [stepM, if_neg (by omega), if_neg (by omega), if_neg (by omega), if_pos h]
theorem sm4 (t : Mt) (D : Dk) (x : Mc) (h : x.kind = 4) : stepM t D x = (t, (Disk.write E8 D 0 x.r).1) := by rw [stepM, if_neg (by omega), if_neg (by omega), if_neg (by omega), if_neg (by omega), if_pos h]
theorem sm5 (t : Mt) (D : Dk) (x : Mc) (h : x.kind ≠ 0 ∧ x.kind ≠ 1 ∧ x.kind ≠ 2 ∧ x.kind ≠ 3 ∧ x.kind ≠ 4) : stepM t D x = (t, D) := by rw [stepM, if_neg h.1, if_neg h.2.1, if_neg h.2.2.1, if_neg h.2.2.2.1, if_neg h.2.2.2.2]
theorem call_row (x : Mc) {w : World} {g : Nat} (h : Blk w g 35 x.cells) : Row w (some ⟨g, 2, none⟩) (bvs x.r) :=
  .inr ⟨g, 2, rfl, h.lt, fun i u hu => call_r x h i u hu⟩
theorem Tm.first {w w1 w2 w3 w4 w5 : World} {g N S m : Nat} {D D' : Dk} {t t' : Mt} (k1 : Kp nob w w1) {F2 : Nat → Prop} {N2 S2 : Option Addr} {aN aS g2 m2 : Nat}
    (hd : Cd w2 g N S none 0 D) (k2 : Kp nob w1 w2) (n2 : ∀ k, dF g N S none k → w1.heap.size ≤ k) (he : Dd w3 g2 F2 N2 S2 none aN aS 0 D') (k3 : Kp nob w2 w3) (n3 : ∀ k, F2 k → w2.heap.size ≤ k)
    (hm : Mb w4 m (some ⟨g, 0, none⟩) t) (k4 : Kp nob w3 w4) (hme : m = w3.heap.size) (hf : Fb w5 m2 (some ⟨g2, 0, none⟩) t') (k5 : Kp nob w4 w5) (hfe : m2 = w4.heap.size) : Tm w w5 m g N S m2 g2 [] t D t' D' none 0 ⟨F2, N2, S2, none, aN, aS, 0⟩ := by
  have z1 := k1.size; have z2 := k2.size; have z3 := k3.size; have z4 := k4.size; have z5 := k5.size
  have l2 := hd.lt; have l3 := he.lt; have lm := hm.b.lt
  refine ⟨⟨((hd.keep0 k3).keep0 k4).keep0 k5, hm.keep0 k5, fun e => by have := l2 m e; omega, fun k e => by have := n2 k e; omega, by omega, (((k1.trans k2 (fun _ e => e.elim)).trans k3 (fun _ e => e.elim)).trans k4 (fun _ e => e.elim)).trans k5 (fun _ e => e.elim)⟩, (he.keep0 k4).keep0 k5, hf, fun e => by have := l3 m2 e; omega, fun k e => ?_, fun k e e2 => ?_, fun b hb => by cases hb⟩
  · rcases e with e | e
    · omega
    · have := n3 k e; omega
  · rcases e with e | e <;> rcases e2 with e2 | e2
    · omega
    · have := l3 k e2; omega
    · have := l2 k e; omega
    · have := l2 k e; have := n3 k e2; omega
set_option maxHeartbeats 16000000 in
set_option maxRecDepth 100000 in
theorem does_yes (mo : Int) (A : Option Addr) (n c : Nat) (cs : List Mc) (w : World) (hn : cs.length = n) (hr : Row w A (cs.flatMap Mc.cells)) (hl : ∀ c ∈ cs, McOk c) (h80 : n ≤ 80) :
    Calls Try.prog 3 #[.int .i64 mo, .slice A n c] w fun e w' => e = .returned (.bool true) ∧ Kp nob w w' := by
  have HN := Lib.hid hn; have HR := Lib.hid hr; have HL := Lib.hid hl
  have d0 : decide ((80 : Int) < (n : Int)) = false := decide_eq_false (by omega)
  have H80 := Lib.hid h80
  clear hn hr hl h80
  go_enter Try.func3, Try.ntmps3
  go_wp2_with fail
  refine (alive_yes w).mono ?_
  rintro e w1 ⟨rfl, k1⟩
  have K1 := Lib.hid k1
  clear k1
  go_wp2_with fail
  refine (Disk.new_any 2 w1).mono ?_
  rintro e w2 ⟨g, N, S, rfl, h2, k2, n2⟩
  have H2 := Lib.hid h2; have K2 := Lib.hid k2; have N2 := Lib.hid n2
  clear h2 k2 n2
  go_wp2_with fail
  refine (fNew 2 w2).mono ?_
  rintro e w3 ⟨g2, F2, N2', S2', aN, aS, rfl, h3, n3, k3⟩
  have H3 := Lib.hid h3; have K3 := Lib.hid k3; have N3 := Lib.hid n3
  clear h3 n3 k3
  go_wp2_with fail
  refine (new_any mo (some ⟨g, 0, none⟩) w3).mono ?_
  rintro e w4 ⟨rfl, h4, k4⟩
  obtain ⟨m, hm⟩ : ∃ m, m = w3.heap.size := ⟨_, rfl⟩
  rw [← hm] at h4 ⊢
  have H4 := Lib.hid h4; have K4 := Lib.hid k4; have HM := Lib.hid hm
  clear h4 k4 hm
  go_wp2_with fail
  refine (fMNew mo (some ⟨g2, 0, none⟩) w4).mono ?_
  rintro e w5 ⟨rfl, h5, k5⟩
  obtain ⟨m2, hm2⟩ : ∃ m2, m2 = w4.heap.size := ⟨_, rfl⟩
  rw [← hm2] at h5 ⊢
  have HT0 := Lib.hid (Tm.first K1.out H2.out K2.out N2.out H3.out K3.out N3.out H4.out K4.out HM.out h5 k5 hm2)
  clear h5 k5 hm2 d0 H2 K2 N2 H3 K3 N3 H4 K4 HM
  go_wp2
  go_loopw [32] (fun vi wr => ∃ (k : Nat) (t : Mt) (D : Dk) (W : Option Addr) (cW : Nat) (p : Pf), k ≤ n ∧ vi = .int .i64 k ∧ Tm w wr m g N S m2 g2 [] t D t D W cW p ∧ Sm D k 2)
    (fun vi _ => n - (intOf vi).toNat)
  case atStart => exact ⟨0, fresh mo, _, none, 0, _, Nat.zero_le _, rfl, HT0.out, ⟨Nat.zero_le _, Nat.zero_le _, by decide, by decide, rfl⟩⟩
  case round =>
    obtain ⟨k, t, D, W, cW, p, hk, rfl, ht, hs⟩ := hrel
    have HT := Lib.hid ht; have HS := Lib.hid hs
    clear ht hs HT0
    by_cases hlt : k < n
    · obtain ⟨x, hx⟩ : ∃ x, cs[k]? = some x := ⟨_, List.getElem?_eq_getElem (by rw [HN.out]; exact hlt)⟩
      obtain ⟨b, o, rfl, hrg⟩ := mcs_at HL.out (HR.out.keep0 HT.out.co.k) k x hx
      have HRG := Lib.hid hrg
      have HX := Lib.hid (HL.out x (List.mem_of_getElem? hx))
      have HLT := Lib.hid hlt
      have HLK := Lib.hid (show k ≤ 80 by have := H80.out; omega)
      obtain ⟨k1', hk1⟩ : ∃ k1, k1 = k + 1 := ⟨_, rfl⟩
      have HE5 := Lib.hid (show IntKind.i64.wrap ((k : Int) + 1) = (k1' : Int) by have := HLK.out; rw [IntWalk.i64_in _ (by omega)]; omega)
      have HK1 := Lib.hid hk1
      have HSX := Lib.hid (Sm.stepM HS.out HT.out.co.d.ok t x HX.out)
      clear hx hrg hlt hk hk1
      go_upto_block 2 with ((with_reducible refine wpList_here ?_); first
        | (refine wpList_load_mid rfl 35 (.tmp 34) rfl b (o + k * 35) rfl x.cells _ HRG.out call_under rfl (call_size x HX.out.r) ?_)
        | (refine wpList_store_new rfl 35 (.tmp 10) (.tmp 35) rfl _ x.cells rfl rfl (by rw [x.len HX.out.r]; rfl) (call_size x HX.out.r) x.one ?_
           intro w5 hB5 k5 z5
           obtain ⟨gc, hgc⟩ : ∃ g, g = wr.heap.size := ⟨_, rfl⟩
           rw [← hgc] at hB5 ⊢
           have HT5 := Lib.hid (HT.out.add k5 gc _ _ hB5 (Nat.le_of_eq hgc.symm))
           have HC5 := Lib.hid (call_c x HX.out.r hB5)
           obtain ⟨q0, q1, q2⟩ := HC5.out
           clear q1 q2 hB5 k5 z5 hgc))
      go_cut [] from 36 to 95 (fun wx => ∃ (t2 : Mt) (D2 : Dk) (W2 : Option Addr) (c2 : Nat) (p2 : Pf), Tm w wx m g N S m2 g2 [] t2 D2 t2 D2 W2 c2 p2 ∧ Sm D2 (k + 1) 2)
      case first =>
        have HBC := Lib.hid (show Blk w5 gc 35 x.cells from (HT5.out.bl _ List.mem_cons_self).1)
        rcases kinds x.kind with hkd | hkd | hkd | hkd | hkd | hkd
        · have HST := Lib.hid (sm0 t D x hkd)
          rw [HST.out] at HSX
          have t0 : (x.kind == 0) = true := beq_iff_eq.2 hkd
          clear hkd
          go_upto_region 12 with fail
          have HQ0 := Lib.hid (HBC.out.keep (Kp.refl nob w5).drew (fun e => e))
          have HD0 := Lib.hid (HT5.out.keep0 (Kp.refl nob w5).drew)
          refine reg_begin (fun w' => Blk w' gc 35 x.cells) (by kernel_rfl) HQ0.out (fun _ => ?_)
          generalize w5.drew = wd at *
          clear q0
          refine reg_take (v := .pointer (some ⟨m, 0, none⟩)) 0 (some 40) rfl rfl (by kernel_rfl) (by kernel_rfl) (by kernel_rfl) (by rfl) HQ0.out (fun w hw => by go_simp) ?_
          simp only [Act.put, List.setIfInBounds_toArray, List.set_cons_zero, List.set_cons_succ]
          refine reg_take (v := .pointer (some ⟨gc, 1, none⟩)) 1 (some 41) rfl rfl (by kernel_rfl) (by kernel_rfl) (by kernel_rfl) (by rfl) HQ0.out (fun w hw => by go_simp) ?_
          simp only [Act.put, List.setIfInBounds_toArray, List.set_cons_zero, List.set_cons_succ]
          refine reg_take (v := .int .i64 x.ep) 2 (some 42) rfl rfl (by kernel_rfl) (by kernel_rfl) (by kernel_rfl) (by rfl) HQ0.out (fun w hw => by have hc := (call_c x HX.out.r hw).2.1; go_simp) ?_
          simp only [Act.put, List.setIfInBounds_toArray, List.set_cons_zero, List.set_cons_succ]
          refine reg_take (v := .pointer (some ⟨gc, 2, none⟩)) 3 (some 43) rfl rfl (by kernel_rfl) (by kernel_rfl) (by kernel_rfl) (by rfl) HQ0.out (fun w hw => by go_simp) ?_
          simp only [Act.put, List.setIfInBounds_toArray, List.set_cons_zero, List.set_cons_succ]
          refine reg_load 4 (some 44) 32 (.tmp 43) rfl rfl rfl (by kernel_rfl) (by kernel_rfl) (by kernel_rfl) (by rfl) HQ0.out gc 2 rfl (bvs x.r) _ (fun w hw => call_r x hw) root_under rfl (root_size _ HX.out.r) ?_
          simp only [Act.put, List.setIfInBounds_toArray, List.set_cons_zero, List.set_cons_succ]
          refine reg_take (v := .pointer (some ⟨m2, 0, none⟩)) 6 (some 46) rfl rfl (by kernel_rfl) (by kernel_rfl) (by kernel_rfl) (by rfl) HQ0.out (fun w hw => by go_simp) ?_
          simp only [Act.put, List.setIfInBounds_toArray, List.set_cons_zero, List.set_cons_succ]
          refine reg_take (v := .pointer (some ⟨gc, 1, none⟩)) 7 (some 47) rfl rfl (by kernel_rfl) (by kernel_rfl) (by kernel_rfl) (by rfl) HQ0.out (fun w hw => by go_simp) ?_
          simp only [Act.put, List.setIfInBounds_toArray, List.set_cons_zero, List.set_cons_succ]
          refine reg_take (v := .int .i64 x.ep) 8 (some 48) rfl rfl (by kernel_rfl) (by kernel_rfl) (by kernel_rfl) (by rfl) HQ0.out (fun w hw => by have hc := (call_c x HX.out.r hw).2.1; go_simp) ?_
          simp only [Act.put, List.setIfInBounds_toArray, List.set_cons_zero, List.set_cons_succ]
          refine reg_take (v := .pointer (some ⟨gc, 2, none⟩)) 9 (some 49) rfl rfl (by kernel_rfl) (by kernel_rfl) (by kernel_rfl) (by rfl) HQ0.out (fun w hw => by go_simp) ?_
          simp only [Act.put, List.setIfInBounds_toArray, List.set_cons_zero, List.set_cons_succ]
          refine reg_load 10 (some 50) 32 (.tmp 49) rfl rfl rfl (by kernel_rfl) (by kernel_rfl) (by kernel_rfl) (by rfl) HQ0.out gc 2 rfl (bvs x.r) _ (fun w hw => call_r x hw) root_under rfl (root_size _ HX.out.r) ?_
          simp only [Act.put, List.setIfInBounds_toArray, List.set_cons_zero, List.set_cons_succ]
          refine reg_call 5 (some 45) rfl rfl (by kernel_rfl) (by rfl) _ _ (exec_func 12 _ _ [.pointer (some ⟨m, 0, none⟩), .int .i64 x.ep, .agg (bvs x.r).toArray] rfl (by kernel_rfl) rfl) ?_
          refine (nxt_any HD0.out.co x.ep x.r HX.out.r HS.out (by have := HLK.out; omega)).mono ?_
          rintro e w6 ⟨rfl, z6⟩
          obtain ⟨W6, c6, h6⟩ := HD0.out.code z6
          have H6 := Lib.hid h6
          have HQ6 := Lib.hid (show Blk w6 gc 35 x.cells from (h6.bl _ List.mem_cons_self).1)
          clear h6 z6
          refine ⟨_, rfl, HQ6.out, fun _ => ?_⟩
          simp only [Act.put, List.setIfInBounds_toArray, List.set_cons_zero, List.set_cons_succ]
          refine reg_call 11 (some 51) rfl rfl (by kernel_rfl) (by rfl) _ _ (exec_func 13 _ _ [.pointer (some ⟨m2, 0, none⟩), .int .i64 x.ep, .agg (bvs x.r).toArray] rfl (by kernel_rfl) rfl) ?_
          refine (fNext t D x.ep x.r m2 g2 p.F p.N p.S p.W p.cN p.cS p.cW w6 H6.out.de H6.out.dd HX.out.r H6.out.ne HT5.out.co.d.ok (by rw [HS.out.len]; decide) (by have := HS.out.waits; have := HLK.out; omega) (by have := HS.out.acts; have := HLK.out; omega) HS.out.fuse).mono ?_
          rintro e w7 ⟨rfl, z7⟩
          obtain ⟨p7, h7⟩ := H6.out.doc z7
          have H7 := Lib.hid h7
          have HQ7 := Lib.hid (show Blk w7 gc 35 x.cells from (h7.bl _ List.mem_cons_self).1)
          clear h7 z7
          refine ⟨_, rfl, HQ7.out, fun _ => ?_⟩
          simp only [Act.put, List.setIfInBounds_toArray, List.set_cons_zero, List.set_cons_succ]
          refine reg_take (v := .bool false) 12 (some 52) rfl rfl (by kernel_rfl) (by kernel_rfl) (by kernel_rfl) (by rfl) HQ7.out (fun w hw => by go_simp) ?_
          simp only [Act.put, List.setIfInBounds_toArray, List.set_cons_zero, List.set_cons_succ]
          refine reg_end (by kernel_rfl) ?_
          go_wp2
          go_meet
          exact ⟨_, _, W6, c6, p7, H7.out.nil, HSX.out⟩
        · have HST := Lib.hid (sm1 t D x hkd)
          rw [HST.out] at HSX
          have t0 : (x.kind == 0) = false := beq_eq_false_iff_ne.2 (by omega)
          have t1 : (x.kind == 1) = true := beq_iff_eq.2 hkd
          have qk := HC5.out.2.2
          clear hkd
          go_wp2_with fail
          refine (off_any D x.K g N S W cW w5 HT5.out.co.d (by have := HS.out.waits; have := HLK.out; omega) HX.out.K).mono ?_
          rintro e w6 ⟨rfl, z6⟩
          obtain ⟨W6, c6, h6⟩ := HT5.out.disk z6
          have H6 := Lib.hid h6
          clear qk q0
          have qk := (call_c x HX.out.r (show Blk w6 gc 35 x.cells from (h6.bl _ List.mem_cons_self).1)).2.2
          clear h6 z6
          go_wp2_with fail
          refine (fLose D x.K g2 p.F p.N p.S p.W p.cN p.cS p.cW w6 H6.out.dd HT5.out.co.d.ok (by rw [HS.out.len]; decide) (by have := HS.out.waits; have := HLK.out; omega)).mono ?_
          rintro e w7 ⟨rfl, z7⟩
          obtain ⟨p7, h7⟩ := H6.out.ddisk z7
          have H7 := Lib.hid h7
          clear h7 z7 qk
          go_wp2
          go_meet
          exact ⟨_, _, W6, c6, p7, H7.out.nil, HSX.out⟩
        · have HST := Lib.hid (sm2 t D x hkd)
          rw [HST.out] at HSX
          have t0 : (x.kind == 0) = false := beq_eq_false_iff_ne.2 (by omega)
          have t1 : (x.kind == 1) = false := beq_eq_false_iff_ne.2 (by omega)
          have t2 : (x.kind == 2) = true := beq_iff_eq.2 hkd
          clear hkd
          go_wp2_with fail
          refine (on_any D g N S W cW w5 HT5.out.co.d).mono ?_
          rintro e w6 ⟨rfl, h6, k6⟩
          obtain ⟨W6, c6, h6⟩ := HT5.out.one h6 k6
          have H6 := Lib.hid h6
          have c3 : w6.cell? ⟨g2, 3, none⟩ = some (.bool D.off) := h6.dd.b.cell 3
          have f3 : w6.frozen? ⟨g2, 3, none⟩ = false := h6.dd.b.frozen 3
          have kk := Lib.hid ((Kp.refl (oneB g2) w6).setCell (p := ⟨g2, 3, none⟩) (.inl rfl) (.bool false))
          have hb := Lib.hid (h6.dd.b.set_ 3 (.bool false))
          obtain ⟨p7, h7⟩ := h6.done (h6.dd.own (D2 := Disk.on D) kk.out rfl rfl rfl hb.out) kk.out
          have H7 := Lib.hid h7
          clear h6 k6 q0 h7 kk hb
          go_wp2
          go_meet
          exact ⟨_, _, W6, c6, p7, H7.out.nil, HSX.out⟩
        · have HST := Lib.hid (sm3 t D x hkd)
          rw [HST.out] at HSX
          have t0 : (x.kind == 0) = false := beq_eq_false_iff_ne.2 (by omega)
          have t1 : (x.kind == 1) = false := beq_eq_false_iff_ne.2 (by omega)
          have t2 : (x.kind == 2) = false := beq_eq_false_iff_ne.2 (by omega)
          have t3 : (x.kind == 3) = true := beq_iff_eq.2 hkd
          obtain ⟨_, qe, qk⟩ := HC5.out
          clear hkd
          go_wp2_with fail
          refine (arm_any D x.ep x.K g N S W cW w5 HT5.out.co.d).mono ?_
          rintro e w6 ⟨rfl, h6, k6⟩
          obtain ⟨W6, c6, h6⟩ := HT5.out.one h6 k6
          have H6 := Lib.hid h6
          clear qk qe q0
          obtain ⟨_, qe, qk⟩ := call_c x HX.out.r (show Blk w6 gc 35 x.cells from (h6.bl _ List.mem_cons_self).1)
          clear h6 k6
          go_wp2_with fail
          refine (fArm D x.ep x.K g2 p.F p.N p.S p.W p.cN p.cS p.cW w6 H6.out.dd).mono ?_
          rintro e w7 ⟨rfl, h7, k7⟩
          obtain ⟨p7, h7⟩ := H6.out.done h7 k7
          have H7 := Lib.hid h7
          clear h7 k7 qe qk
          go_wp2
          go_meet
          exact ⟨_, _, W6, c6, p7, H7.out.nil, HSX.out⟩
        · have HST := Lib.hid (sm4 t D x hkd)
          rw [HST.out] at HSX
          have t0 : (x.kind == 0) = false := beq_eq_false_iff_ne.2 (by omega)
          have t1 : (x.kind == 1) = false := beq_eq_false_iff_ne.2 (by omega)
          have t2 : (x.kind == 2) = false := beq_eq_false_iff_ne.2 (by omega)
          have t3 : (x.kind == 3) = false := beq_eq_false_iff_ne.2 (by omega)
          have t4 : (x.kind == 4) = true := beq_iff_eq.2 hkd
          clear hkd
          go_upto_region 24 with fail
          have HQ0 := Lib.hid (HBC.out.keep (Kp.refl nob w5).drew (fun e => e))
          have HD0 := Lib.hid (HT5.out.keep0 (Kp.refl nob w5).drew)
          refine reg_begin (fun w' => Blk w' gc 35 x.cells) (by kernel_rfl) HQ0.out (fun _ => ?_)
          generalize w5.drew = wd at *
          clear q0
          refine reg_take (v := .pointer (some ⟨g, 0, none⟩)) 0 (some 86) rfl rfl (by kernel_rfl) (by kernel_rfl) (by kernel_rfl) (by rfl) HQ0.out (fun w hw => by go_simp) ?_
          simp only [Act.put, List.setIfInBounds_toArray, List.set_cons_zero, List.set_cons_succ]
          refine reg_take (v := .pointer (some ⟨gc, 2, none⟩)) 1 (some 87) rfl rfl (by kernel_rfl) (by kernel_rfl) (by kernel_rfl) (by rfl) HQ0.out (fun w hw => by go_simp) ?_
          simp only [Act.put, List.setIfInBounds_toArray, List.set_cons_zero, List.set_cons_succ]
          refine reg_take (v := .slice (some ⟨gc, 2, none⟩) 32 32) 2 (some 88) rfl rfl (by kernel_rfl) (by kernel_rfl) (by kernel_rfl) (by rfl) HQ0.out (fun w hw => by go_simp) ?_
          simp only [Act.put, List.setIfInBounds_toArray, List.set_cons_zero, List.set_cons_succ]
          refine reg_take (v := .pointer (some ⟨g2, 0, none⟩)) 4 (some 90) rfl rfl (by kernel_rfl) (by kernel_rfl) (by kernel_rfl) (by rfl) HQ0.out (fun w hw => by go_simp) ?_
          simp only [Act.put, List.setIfInBounds_toArray, List.set_cons_zero, List.set_cons_succ]
          refine reg_take (v := .pointer (some ⟨gc, 2, none⟩)) 5 (some 91) rfl rfl (by kernel_rfl) (by kernel_rfl) (by kernel_rfl) (by rfl) HQ0.out (fun w hw => by go_simp) ?_
          simp only [Act.put, List.setIfInBounds_toArray, List.set_cons_zero, List.set_cons_succ]
          refine reg_take (v := .slice (some ⟨gc, 2, none⟩) 32 32) 6 (some 92) rfl rfl (by kernel_rfl) (by kernel_rfl) (by kernel_rfl) (by rfl) HQ0.out (fun w hw => by go_simp) ?_
          simp only [Act.put, List.setIfInBounds_toArray, List.set_cons_zero, List.set_cons_succ]
          refine reg_bytesStr 7 (some 93) 45 9 5 (.tmp 92) rfl rfl rfl (by kernel_rfl) (by kernel_rfl) (by kernel_rfl) (by rfl) HQ0.out u8_under (by kernel_rfl) u8_string (some ⟨gc, 2, none⟩) 32 32 x.r HX.out.r rfl (fun w h => call_row x h) ?_
          simp only [Act.put, List.setIfInBounds_toArray, List.set_cons_zero, List.set_cons_succ]
          refine reg_call 3 (some 89) rfl rfl (by kernel_rfl) (by rfl) _ _ (exec_func 19 _ _ [.pointer (some ⟨g, 0, none⟩), .int .i64 0, .slice (some ⟨gc, 2, none⟩) 32 32] rfl (by kernel_rfl) rfl) ?_
          refine (write_any D 0 (some ⟨gc, 2, none⟩) 32 32 x.r g N S W cW wd HD0.out.co.d HX.out.r (call_row x HQ0.out) (by decide) (by have := HS.out.waits; have := HLK.out; omega) (by have := HS.out.acts; have := HLK.out; omega) HS.out.fuse HS.out.keep).mono ?_
          rintro e w6 ⟨rfl, z6⟩
          obtain ⟨W6, c6, h6⟩ := HD0.out.disk z6
          have H6 := Lib.hid h6
          have HQ6 := Lib.hid (show Blk w6 gc 35 x.cells from (h6.bl _ List.mem_cons_self).1)
          clear h6 z6
          refine ⟨_, rfl, HQ6.out, fun _ => ?_⟩
          simp only [Act.put, List.setIfInBounds_toArray, List.set_cons_zero, List.set_cons_succ]
          refine reg_call 8 (some 94) rfl rfl (by kernel_rfl) (by rfl) _ _ (exec_func 20 _ _ [.pointer (some ⟨g2, 0, none⟩), .int .i64 0, .string (str x.r)] rfl (by kernel_rfl) rfl) ?_
          refine (fWrite0 D x.r g2 p.F p.N p.S p.W p.cN p.cS p.cW w6 H6.out.dd HT5.out.co.d.ok (by rw [HX.out.r]; decide) HS.out.len (by have := HS.out.waits; have := HLK.out; omega) (by have := HS.out.acts; have := HLK.out; omega) HS.out.fuse).mono ?_
          rintro e w7 ⟨rfl, z7⟩
          obtain ⟨p7, h7⟩ := H6.out.ddisk z7
          have H7 := Lib.hid h7
          have HQ7 := Lib.hid (show Blk w7 gc 35 x.cells from (h7.bl _ List.mem_cons_self).1)
          clear h7 z7
          refine ⟨_, rfl, HQ7.out, fun _ => ?_⟩
          simp only [Act.put, List.setIfInBounds_toArray, List.set_cons_zero, List.set_cons_succ]
          refine reg_take (v := .bool false) 9 (some 95) rfl rfl (by kernel_rfl) (by kernel_rfl) (by kernel_rfl) (by rfl) HQ7.out (fun w hw => by go_simp) ?_
          simp only [Act.put, List.setIfInBounds_toArray, List.set_cons_zero, List.set_cons_succ]
          refine reg_end (by kernel_rfl) ?_
          go_wp2
          go_meet
          exact ⟨_, _, W6, c6, p7, H7.out.nil, HSX.out⟩
        · have HST := Lib.hid (sm5 t D x hkd)
          rw [HST.out] at HSX
          have t0 : (x.kind == 0) = false := beq_eq_false_iff_ne.2 hkd.1
          have t1 : (x.kind == 1) = false := beq_eq_false_iff_ne.2 hkd.2.1
          have t2 : (x.kind == 2) = false := beq_eq_false_iff_ne.2 hkd.2.2.1
          have t3 : (x.kind == 3) = false := beq_eq_false_iff_ne.2 hkd.2.2.2.1
          have t4 : (x.kind == 4) = false := beq_eq_false_iff_ne.2 hkd.2.2.2.2
          clear hkd
          go_wp2
          go_meet
          exact ⟨t, D, W, cW, p, HT5.out.nil, HSX.out⟩
      case rest =>
        obtain ⟨t2, D2, W2, c2, p2, h2, hs2⟩ := hcut
        have HT2 := Lib.hid h2; have HS2 := Lib.hid hs2
        have HR2 := Lib.hid h2.de.k.root
        clear h2 hs2 HT HS HT5 HC5 HSX q0
        cases hoff : D2.off with
        | true =>
          have HP := Lib.hid (show Pow wc (some ⟨g, 0, none⟩) true by have := Cd.pow HT2.out.co.d; rwa [hoff] at this)
          have HOFF := Lib.hid hoff
          clear hoff
          go_wp2_with fail
          refine (get_any t2 m (some ⟨g, 0, none⟩) true wc HT2.out.co.me HP.out).mono ?_
          rintro e wd ⟨rfl, kd⟩
          have HT3 := Lib.hid (HT2.out.keep0 kd)
          clear kd
          go_upto_region 27 with ((with_reducible refine wpList_here ?_); first
            | (refine wpList_store_new rfl 48 (.tmp 11) (.tmp 99) rfl _ (vcells none_) rfl rfl (by rw [vcells_length _ z32_length]; rfl) (val_size _ z32_length) (vcells_one _) ?_
               intro we hBe ke ze
               obtain ⟨gv, hgv⟩ : ∃ gv, gv = wd.heap.size := ⟨_, rfl⟩
               rw [← hgv] at hBe ⊢
               have HT4 := Lib.hid (HT3.out.add ke gv _ _ hBe (Nat.le_of_eq hgv.symm))
               clear hBe ke ze hgv))
          have HT5 := Lib.hid (HT4.out.keep0 (Kp.refl nob we).drew)
          have HQ5 := Lib.hid HT5.out.de
          refine reg_begin (fun w' => Fb w' m2 (some ⟨g2, 0, none⟩) t2) (by kernel_rfl) HQ5.out (fun _ => ?_)
          generalize we.drew = wq at *
          refine reg_take (v := .pointer (some ⟨m2, 0, none⟩)) 0 (some 101) rfl rfl (by kernel_rfl) (by kernel_rfl) (by kernel_rfl) (by rfl) HQ5.out (fun w hw => by go_simp) ?_
          simp only [Act.put, List.setIfInBounds_toArray, List.set_cons_zero, List.set_cons_succ]
          refine reg_take (v := .pointer (some ⟨m2, 0, none⟩)) 1 (some 102) rfl rfl (by kernel_rfl) (by kernel_rfl) (by kernel_rfl) (by rfl) HQ5.out (fun w hw => by go_simp) ?_
          simp only [Act.put, List.setIfInBounds_toArray, List.set_cons_zero, List.set_cons_succ]
          refine reg_take (v := .pointer (some ⟨m2, 0, none⟩)) 2 (some 103) rfl rfl (by kernel_rfl) (by kernel_rfl) (by kernel_rfl) (by rfl) HQ5.out (fun w hw => by go_simp) ?_
          simp only [Act.put, List.setIfInBounds_toArray, List.set_cons_zero, List.set_cons_succ]
          refine reg_take (v := .int .i64 (t2.count : Int)) 3 (some 104) rfl rfl (by kernel_rfl) (by kernel_rfl) (by kernel_rfl) (by rfl) HQ5.out (fun w hw => by have hc := hw.cells.1; go_simp) ?_
          simp only [Act.put, List.setIfInBounds_toArray, List.set_cons_zero, List.set_cons_succ]
          refine reg_take (v := .pointer (some ⟨m2, 0, none⟩)) 4 (some 105) rfl rfl (by kernel_rfl) (by kernel_rfl) (by kernel_rfl) (by rfl) HQ5.out (fun w hw => by go_simp) ?_
          simp only [Act.put, List.setIfInBounds_toArray, List.set_cons_zero, List.set_cons_succ]
          refine reg_take (v := .pointer (some ⟨m2, 0, none⟩)) 5 (some 106) rfl rfl (by kernel_rfl) (by kernel_rfl) (by kernel_rfl) (by rfl) HQ5.out (fun w hw => by go_simp) ?_
          simp only [Act.put, List.setIfInBounds_toArray, List.set_cons_zero, List.set_cons_succ]
          refine reg_take (v := .pointer (some ⟨m2, 1, none⟩)) 6 (some 107) rfl rfl (by kernel_rfl) (by kernel_rfl) (by kernel_rfl) (by rfl) HQ5.out (fun w hw => by go_simp) ?_
          simp only [Act.put, List.setIfInBounds_toArray, List.set_cons_zero, List.set_cons_succ]
          refine reg_take (v := .int .i64 t2.epoch) 7 (some 108) rfl rfl (by kernel_rfl) (by kernel_rfl) (by kernel_rfl) (by rfl) HQ5.out (fun w hw => by have hc := hw.cells.2.1; go_simp) ?_
          simp only [Act.put, List.setIfInBounds_toArray, List.set_cons_zero, List.set_cons_succ]
          refine reg_take (v := .pointer (some ⟨m2, 0, none⟩)) 8 (some 109) rfl rfl (by kernel_rfl) (by kernel_rfl) (by kernel_rfl) (by rfl) HQ5.out (fun w hw => by go_simp) ?_
          simp only [Act.put, List.setIfInBounds_toArray, List.set_cons_zero, List.set_cons_succ]
          refine reg_take (v := .pointer (some ⟨m2, 0, none⟩)) 9 (some 110) rfl rfl (by kernel_rfl) (by kernel_rfl) (by kernel_rfl) (by rfl) HQ5.out (fun w hw => by go_simp) ?_
          simp only [Act.put, List.setIfInBounds_toArray, List.set_cons_zero, List.set_cons_succ]
          refine reg_take (v := .pointer (some ⟨m2, 2, none⟩)) 10 (some 111) rfl rfl (by kernel_rfl) (by kernel_rfl) (by kernel_rfl) (by rfl) HQ5.out (fun w hw => by go_simp) ?_
          simp only [Act.put, List.setIfInBounds_toArray, List.set_cons_zero, List.set_cons_succ]
          refine reg_load 11 (some 112) 32 (.tmp 111) rfl rfl rfl (by kernel_rfl) (by kernel_rfl) (by kernel_rfl) (by rfl) HQ5.out m2 2 rfl (bvs t2.root) _ (fun w hw => hw.range) root_under rfl (root_size _ HR2.out) ?_
          simp only [Act.put, List.setIfInBounds_toArray, List.set_cons_zero, List.set_cons_succ]
          refine reg_take (v := .agg (vcells t2).toArray) 12 (some 113) rfl rfl (by kernel_rfl) (by kernel_rfl) (by kernel_rfl) (by rfl) HQ5.out (fun w hw => by exact exec_bld _ _ rfl [(0, .int .i64 (t2.count : Int)), (1, .int .i64 t2.epoch), (2, .agg (bvs t2.root).toArray)] _ rfl (build_value t2 _ _ _ rfl rfl rfl HR2.out _)) ?_
          simp only [Act.put, List.setIfInBounds_toArray, List.set_cons_zero, List.set_cons_succ]
          obtain ⟨gw, hgw⟩ : ∃ q, q = wq.heap.size := ⟨_, rfl⟩
          obtain ⟨wr2, hwr2⟩ : ∃ q, q = wq.alloc (.cells (vcells none_).toArray 48) := ⟨_, rfl⟩
          have HK6 := Lib.hid (show Kp nob wq wr2 by rw [hwr2]; exact (Kp.refl nob wq).alloc _)
          have HBW := Lib.hid (show Blk wr2 gw 48 (vcells none_) by rw [hgw, hwr2]; exact Blk.new wq _ _)
          have HGW := Lib.hid (show wq.heap.size ≤ gw from Nat.le_of_eq hgw.symm)
          have HQ6 := Lib.hid (HQ5.out.keep0 HK6.out)
          refine reg_step (v := .pointer (some ⟨gw, 0, none⟩)) (w' := wr2) 13 (some 13) rfl rfl (by kernel_rfl) (by rfl) (by have hz := zval_run; rw [hgw, hwr2]; go_simp) HQ6.out (fun _ => ?_)
          clear hgw hwr2
          simp only [Act.put, List.setIfInBounds_toArray, List.set_cons_zero, List.set_cons_succ]
          refine reg_store 14 none 48 (.tmp 13) (.tmp 113) rfl rfl rfl (by kernel_rfl) (by rfl) gw _ (vcells none_) (vcells t2) HBW.out rfl rfl (by rw [vcells_length _ HR2.out, vcells_length _ z32_length]) (val_size _ HR2.out) (vcells_one _) ?_
          intro ws hBs ks zs
          have HK7 := Lib.hid (HK6.out.since ks (fun i e => by have e : i = gw := e; rw [e]; exact HGW.out))
          have HT7 := Lib.hid (HT5.out.add HK7.out gw _ _ hBs HGW.out)
          have HNE := Lib.hid (show gv ≠ gw from fun e => by have := (HT5.out.bl _ List.mem_cons_self).1.lt; have := HGW.out; have e : gv = gw := e; omega)
          clear hBs ks zs
          refine ⟨HT7.out.de, fun _ => ?_⟩
          simp only [Act.put, List.setIfInBounds_toArray, List.set_cons_zero, List.set_cons_succ]
          refine reg_end (by kernel_rfl) ?_
          have x3 : ws.cell? ⟨g2, 3, none⟩ = some (.bool true) := by
            have := HT7.out.dd.b.cell 3
            rw [this]
            show some (Value.bool D2.off) = _
            rw [HOFF.out]
          go_upto_region 30 with ((with_reducible refine wpList_here ?_); first
            | (refine wpList_built rfl 48 _ rfl (.agg (vcells none_).toArray) (by exact exec_bld _ _ rfl [] _ rfl (zval_build _)) ?_)
            | (refine wpList_store_blk rfl 48 (.tmp 13) (.tmp 118) rfl _ _ (vcells t2) (vcells none_) (HT7.out.bl _ List.mem_cons_self).1 rfl rfl (by rw [vcells_length _ HR2.out, vcells_length _ z32_length]) (val_size _ z32_length) (vcells_one _) ?_
               intro wt hBt kt zt
               have HT8 := Lib.hid (HT7.out.turn kt hBt (fun q hq => by rw [List.mem_singleton.1 hq]; exact HNE.out))
               clear hBt kt zt x3))
          have HT9 := Lib.hid (HT8.out.keep0 (Kp.refl nob wt).drew)
          have HS9 := Lib.hid (Kp.refl nob wt.drew)
          refine reg_begin (fun w' => Kp nob wt.drew w') (by kernel_rfl) HS9.out (fun _ => ?_)
          generalize wt.drew = w9 at *
          obtain ⟨q, hq⟩ : ∃ q, q = t2.most - t2.count := ⟨_, rfl⟩
          have HE := Lib.hid (show IntKind.i64.wrap ((t2.most : Int) - (t2.count : Int)) = (q : Int) by have := HT9.out.de.k.le; have := HT9.out.de.k.most; rw [IntWalk.i64_in _ (by omega)]; omega)
          have HLF := Lib.hid (fun (w' : World) (h' : Mb w' m (some ⟨g, 0, none⟩) t2) => left_any t2 m (some ⟨g, 0, none⟩) w' h')
          rw [← hq] at HLF
          clear hq
          refine reg_load 0 (some 119) 48 (.tmp 11) rfl rfl rfl (by kernel_rfl) (by kernel_rfl) (by kernel_rfl) (by rfl) HS9.out gv 0 rfl (vcells none_) _ (fun w hw => ((HT9.out.bl _ (List.mem_cons_of_mem _ List.mem_cons_self)).1.keep hw (fun e => e)).range) val_under rfl (val_size _ z32_length) ?_
          simp only [Act.put, List.setIfInBounds_toArray, List.set_cons_zero, List.set_cons_succ]
          refine reg_load 1 (some 120) 48 (.tmp 13) rfl rfl rfl (by kernel_rfl) (by kernel_rfl) (by kernel_rfl) (by rfl) HS9.out gw 0 rfl (vcells none_) _ (fun w hw => ((HT9.out.bl _ List.mem_cons_self).1.keep hw (fun e => e)).range) val_under rfl (val_size _ z32_length) ?_
          simp only [Act.put, List.setIfInBounds_toArray, List.set_cons_zero, List.set_cons_succ]
          refine reg_take (v := .bool false) 2 (some 121) rfl rfl (by kernel_rfl) (by kernel_rfl) (by kernel_rfl) (by rfl) HS9.out (fun w hw => by exact exec_neV_same 119 120 _ none_ z32_length rfl rfl rfl) ?_
          simp only [Act.put, List.setIfInBounds_toArray, List.set_cons_zero, List.set_cons_succ]
          refine reg_take (v := .bool false) 3 (some 122) rfl rfl (by kernel_rfl) (by kernel_rfl) (by kernel_rfl) (by rfl) HS9.out (fun w hw => by go_simp) ?_
          simp only [Act.put, List.setIfInBounds_toArray, List.set_cons_zero, List.set_cons_succ]
          refine reg_take (v := .int .i64 8) 4 (some 123) rfl rfl (by kernel_rfl) (by kernel_rfl) (by kernel_rfl) (by rfl) HS9.out (fun w hw => by go_simp) ?_
          simp only [Act.put, List.setIfInBounds_toArray, List.set_cons_zero, List.set_cons_succ]
          refine reg_take (v := .bool true) 5 (some 124) rfl rfl (by kernel_rfl) (by kernel_rfl) (by kernel_rfl) (by rfl) HS9.out (fun w hw => by go_simp) ?_
          simp only [Act.put, List.setIfInBounds_toArray, List.set_cons_zero, List.set_cons_succ]
          refine reg_take (v := .pointer (some ⟨g2, 0, none⟩)) 6 (some 125) rfl rfl (by kernel_rfl) (by kernel_rfl) (by kernel_rfl) (by rfl) HS9.out (fun w hw => by go_simp) ?_
          simp only [Act.put, List.setIfInBounds_toArray, List.set_cons_zero, List.set_cons_succ]
          refine reg_take (v := .pointer (some ⟨g2, 0, none⟩)) 7 (some 126) rfl rfl (by kernel_rfl) (by kernel_rfl) (by kernel_rfl) (by rfl) HS9.out (fun w hw => by go_simp) ?_
          simp only [Act.put, List.setIfInBounds_toArray, List.set_cons_zero, List.set_cons_succ]
          refine reg_take (v := .pointer (some ⟨g2, 3, none⟩)) 8 (some 127) rfl rfl (by kernel_rfl) (by kernel_rfl) (by kernel_rfl) (by rfl) HS9.out (fun w hw => by go_simp) ?_
          simp only [Act.put, List.setIfInBounds_toArray, List.set_cons_zero, List.set_cons_succ]
          refine reg_take (v := .bool true) 9 (some 128) rfl rfl (by kernel_rfl) (by kernel_rfl) (by kernel_rfl) (by rfl) HS9.out (fun w hw => by have hc : w.cell? ⟨g2, 3, none⟩ = some (.bool true) := by { have h9 := (HT9.out.keep0 hw).dd.b.cell 3; rw [h9]; show some (Value.bool D2.off) = _; rw [HOFF.out] }; go_simp) ?_
          simp only [Act.put, List.setIfInBounds_toArray, List.set_cons_zero, List.set_cons_succ]
          refine reg_take (v := .bool false) 10 (some 129) rfl rfl (by kernel_rfl) (by kernel_rfl) (by kernel_rfl) (by rfl) HS9.out (fun w hw => by go_simp) ?_
          simp only [Act.put, List.setIfInBounds_toArray, List.set_cons_zero, List.set_cons_succ]
          refine reg_take (v := .bool false) 11 (some 130) rfl rfl (by kernel_rfl) (by kernel_rfl) (by kernel_rfl) (by rfl) HS9.out (fun w hw => by go_simp) ?_
          simp only [Act.put, List.setIfInBounds_toArray, List.set_cons_zero, List.set_cons_succ]
          refine reg_take (v := .bool false) 12 (some 131) rfl rfl (by kernel_rfl) (by kernel_rfl) (by kernel_rfl) (by rfl) HS9.out (fun w hw => by go_simp) ?_
          simp only [Act.put, List.setIfInBounds_toArray, List.set_cons_zero, List.set_cons_succ]
          refine reg_take (v := .int .i64 8) 13 (some 132) rfl rfl (by kernel_rfl) (by kernel_rfl) (by kernel_rfl) (by rfl) HS9.out (fun w hw => by go_simp) ?_
          simp only [Act.put, List.setIfInBounds_toArray, List.set_cons_zero, List.set_cons_succ]
          refine reg_take (v := .bool true) 14 (some 133) rfl rfl (by kernel_rfl) (by kernel_rfl) (by kernel_rfl) (by rfl) HS9.out (fun w hw => by go_simp) ?_
          simp only [Act.put, List.setIfInBounds_toArray, List.set_cons_zero, List.set_cons_succ]
          refine reg_take (v := .bool true) 15 (some 134) rfl rfl (by kernel_rfl) (by kernel_rfl) (by kernel_rfl) (by rfl) HS9.out (fun w hw => by go_simp) ?_
          simp only [Act.put, List.setIfInBounds_toArray, List.set_cons_zero, List.set_cons_succ]
          refine reg_take (v := .int .i64 8) 16 (some 135) rfl rfl (by kernel_rfl) (by kernel_rfl) (by kernel_rfl) (by rfl) HS9.out (fun w hw => by go_simp) ?_
          simp only [Act.put, List.setIfInBounds_toArray, List.set_cons_zero, List.set_cons_succ]
          refine reg_take (v := .bool false) 17 (some 136) rfl rfl (by kernel_rfl) (by kernel_rfl) (by kernel_rfl) (by rfl) HS9.out (fun w hw => by go_simp) ?_
          simp only [Act.put, List.setIfInBounds_toArray, List.set_cons_zero, List.set_cons_succ]
          refine reg_take (v := .bool false) 18 (some 137) rfl rfl (by kernel_rfl) (by kernel_rfl) (by kernel_rfl) (by rfl) HS9.out (fun w hw => by go_simp) ?_
          simp only [Act.put, List.setIfInBounds_toArray, List.set_cons_zero, List.set_cons_succ]
          refine reg_take (v := .bool false) 19 (some 138) rfl rfl (by kernel_rfl) (by kernel_rfl) (by kernel_rfl) (by rfl) HS9.out (fun w hw => by go_simp) ?_
          simp only [Act.put, List.setIfInBounds_toArray, List.set_cons_zero, List.set_cons_succ]
          refine reg_take (v := .bool false) 20 (some 139) rfl rfl (by kernel_rfl) (by kernel_rfl) (by kernel_rfl) (by rfl) HS9.out (fun w hw => by go_simp) ?_
          simp only [Act.put, List.setIfInBounds_toArray, List.set_cons_zero, List.set_cons_succ]
          refine reg_take (v := .pointer (some ⟨m, 0, none⟩)) 21 (some 140) rfl rfl (by kernel_rfl) (by kernel_rfl) (by kernel_rfl) (by rfl) HS9.out (fun w hw => by go_simp) ?_
          simp only [Act.put, List.setIfInBounds_toArray, List.set_cons_zero, List.set_cons_succ]
          refine reg_take (v := .pointer (some ⟨m2, 0, none⟩)) 23 (some 142) rfl rfl (by kernel_rfl) (by kernel_rfl) (by kernel_rfl) (by rfl) HS9.out (fun w hw => by go_simp) ?_
          simp only [Act.put, List.setIfInBounds_toArray, List.set_cons_zero, List.set_cons_succ]
          refine reg_take (v := .pointer (some ⟨m2, 0, none⟩)) 24 (some 143) rfl rfl (by kernel_rfl) (by kernel_rfl) (by kernel_rfl) (by rfl) HS9.out (fun w hw => by go_simp) ?_
          simp only [Act.put, List.setIfInBounds_toArray, List.set_cons_zero, List.set_cons_succ]
          refine reg_take (v := .pointer (some ⟨m2, 34, none⟩)) 25 (some 144) rfl rfl (by kernel_rfl) (by kernel_rfl) (by kernel_rfl) (by rfl) HS9.out (fun w hw => by go_simp) ?_
          simp only [Act.put, List.setIfInBounds_toArray, List.set_cons_zero, List.set_cons_succ]
          refine reg_take (v := .int .i64 (t2.most : Int)) 26 (some 145) rfl rfl (by kernel_rfl) (by kernel_rfl) (by kernel_rfl) (by rfl) HS9.out (fun w hw => by have hc := (HT9.out.keep0 hw).de.cells.2.2.1; go_simp) ?_
          simp only [Act.put, List.setIfInBounds_toArray, List.set_cons_zero, List.set_cons_succ]
          refine reg_take (v := .pointer (some ⟨m2, 0, none⟩)) 27 (some 146) rfl rfl (by kernel_rfl) (by kernel_rfl) (by kernel_rfl) (by rfl) HS9.out (fun w hw => by go_simp) ?_
          simp only [Act.put, List.setIfInBounds_toArray, List.set_cons_zero, List.set_cons_succ]
          refine reg_take (v := .pointer (some ⟨m2, 0, none⟩)) 28 (some 147) rfl rfl (by kernel_rfl) (by kernel_rfl) (by kernel_rfl) (by rfl) HS9.out (fun w hw => by go_simp) ?_
          simp only [Act.put, List.setIfInBounds_toArray, List.set_cons_zero, List.set_cons_succ]
          refine reg_take (v := .pointer (some ⟨m2, 0, none⟩)) 29 (some 148) rfl rfl (by kernel_rfl) (by kernel_rfl) (by kernel_rfl) (by rfl) HS9.out (fun w hw => by go_simp) ?_
          simp only [Act.put, List.setIfInBounds_toArray, List.set_cons_zero, List.set_cons_succ]
          refine reg_take (v := .int .i64 (t2.count : Int)) 30 (some 149) rfl rfl (by kernel_rfl) (by kernel_rfl) (by kernel_rfl) (by rfl) HS9.out (fun w hw => by have hc := (HT9.out.keep0 hw).de.cells.1; go_simp) ?_
          simp only [Act.put, List.setIfInBounds_toArray, List.set_cons_zero, List.set_cons_succ]
          refine reg_take (v := .int .i64 (q : Int)) 31 (some 150) rfl rfl (by kernel_rfl) (by kernel_rfl) (by kernel_rfl) (by rfl) HS9.out (fun w hw => by have he := HE.out; go_simp) ?_
          simp only [Act.put, List.setIfInBounds_toArray, List.set_cons_zero, List.set_cons_succ]
          refine reg_call 22 (some 141) rfl rfl (by kernel_rfl) (by rfl) _ _ (exec_func 22 _ _ [.pointer (some ⟨m, 0, none⟩)] rfl (by kernel_rfl) rfl) ?_
          refine (HLF.out w9 HT9.out.co.me).mono ?_
          rintro e wl ⟨rfl, kl⟩
          have HSL := Lib.hid (show Kp nob w9 wl from kl)
          clear kl
          refine ⟨_, rfl, HSL.out, fun _ => ?_⟩
          simp only [Act.put, List.setIfInBounds_toArray, List.set_cons_zero, List.set_cons_succ]
          refine reg_take (v := .bool false) 32 (some 151) rfl rfl (by kernel_rfl) (by kernel_rfl) (by kernel_rfl) (by rfl) HSL.out (fun w hw => by go_simp) ?_
          simp only [Act.put, List.setIfInBounds_toArray, List.set_cons_zero, List.set_cons_succ]
          refine reg_take (v := .bool false) 33 (some 152) rfl rfl (by kernel_rfl) (by kernel_rfl) (by kernel_rfl) (by rfl) HSL.out (fun w hw => by go_simp) ?_
          simp only [Act.put, List.setIfInBounds_toArray, List.set_cons_zero, List.set_cons_succ]
          refine reg_take (v := .bool false) 34 (some 153) rfl rfl (by kernel_rfl) (by kernel_rfl) (by kernel_rfl) (by rfl) HSL.out (fun w hw => by go_simp) ?_
          simp only [Act.put, List.setIfInBounds_toArray, List.set_cons_zero, List.set_cons_succ]
          refine reg_take (v := .pointer (some ⟨g, 0, none⟩)) 35 (some 154) rfl rfl (by kernel_rfl) (by kernel_rfl) (by kernel_rfl) (by rfl) HSL.out (fun w hw => by go_simp) ?_
          simp only [Act.put, List.setIfInBounds_toArray, List.set_cons_zero, List.set_cons_succ]
          refine reg_take (v := .pointer (some ⟨g2, 0, none⟩)) 37 (some 156) rfl rfl (by kernel_rfl) (by kernel_rfl) (by kernel_rfl) (by rfl) HSL.out (fun w hw => by go_simp) ?_
          simp only [Act.put, List.setIfInBounds_toArray, List.set_cons_zero, List.set_cons_succ]
          refine reg_take (v := .pointer (some ⟨g2, 0, none⟩)) 38 (some 157) rfl rfl (by kernel_rfl) (by kernel_rfl) (by kernel_rfl) (by rfl) HSL.out (fun w hw => by go_simp) ?_
          simp only [Act.put, List.setIfInBounds_toArray, List.set_cons_zero, List.set_cons_succ]
          refine reg_take (v := .pointer (some ⟨g2, 4, none⟩)) 39 (some 158) rfl rfl (by kernel_rfl) (by kernel_rfl) (by kernel_rfl) (by rfl) HSL.out (fun w hw => by go_simp) ?_
          simp only [Act.put, List.setIfInBounds_toArray, List.set_cons_zero, List.set_cons_succ]
          refine reg_take (v := .int .i64 (D2.acts : Int)) 40 (some 159) rfl rfl (by kernel_rfl) (by kernel_rfl) (by kernel_rfl) (by rfl) HSL.out (fun w hw => by have hc := (HT9.out.keep0 hw).dd.b.cell 4; have hc2 : w.cell? ⟨g2, 4, none⟩ = some (.int .i64 (D2.acts : Int)) := hc; clear hc; go_simp) ?_
          simp only [Act.put, List.setIfInBounds_toArray, List.set_cons_zero, List.set_cons_succ]
          refine reg_call 36 (some 155) rfl rfl (by kernel_rfl) (by rfl) _ _ (exec_func 23 _ _ [.pointer (some ⟨g, 0, none⟩)] rfl (by kernel_rfl) rfl) ?_
          refine (acts_any D2 g N S W2 c2 wl (HT9.out.keep0 HSL.out).co.d).mono ?_
          rintro e wm ⟨rfl, rfl⟩
          refine ⟨_, rfl, HSL.out, fun _ => ?_⟩
          simp only [Act.put, List.setIfInBounds_toArray, List.set_cons_zero, List.set_cons_succ]
          refine reg_take (v := .bool false) 41 (some 160) rfl rfl (by kernel_rfl) (by kernel_rfl) (by kernel_rfl) (by rfl) HSL.out (fun w hw => by go_simp) ?_
          simp only [Act.put, List.setIfInBounds_toArray, List.set_cons_zero, List.set_cons_succ]
          refine reg_take (v := .bool false) 42 (some 161) rfl rfl (by kernel_rfl) (by kernel_rfl) (by kernel_rfl) (by rfl) HSL.out (fun w hw => by go_simp) ?_
          simp only [Act.put, List.setIfInBounds_toArray, List.set_cons_zero, List.set_cons_succ]
          refine reg_take (v := .bool false) 43 (some 162) rfl rfl (by kernel_rfl) (by kernel_rfl) (by kernel_rfl) (by rfl) HSL.out (fun w hw => by go_simp) ?_
          simp only [Act.put, List.setIfInBounds_toArray, List.set_cons_zero, List.set_cons_succ]
          refine reg_take (v := .pointer (some ⟨g, 0, none⟩)) 44 (some 163) rfl rfl (by kernel_rfl) (by kernel_rfl) (by kernel_rfl) (by rfl) HSL.out (fun w hw => by go_simp) ?_
          simp only [Act.put, List.setIfInBounds_toArray, List.set_cons_zero, List.set_cons_succ]
          refine reg_take (v := .pointer (some ⟨g2, 0, none⟩)) 46 (some 165) rfl rfl (by kernel_rfl) (by kernel_rfl) (by kernel_rfl) (by rfl) HSL.out (fun w hw => by go_simp) ?_
          simp only [Act.put, List.setIfInBounds_toArray, List.set_cons_zero, List.set_cons_succ]
          refine reg_take (v := .pointer (some ⟨g2, 0, none⟩)) 47 (some 166) rfl rfl (by kernel_rfl) (by kernel_rfl) (by kernel_rfl) (by rfl) HSL.out (fun w hw => by go_simp) ?_
          simp only [Act.put, List.setIfInBounds_toArray, List.set_cons_zero, List.set_cons_succ]
          refine reg_take (v := .pointer (some ⟨g2, 3, none⟩)) 48 (some 167) rfl rfl (by kernel_rfl) (by kernel_rfl) (by kernel_rfl) (by rfl) HSL.out (fun w hw => by go_simp) ?_
          simp only [Act.put, List.setIfInBounds_toArray, List.set_cons_zero, List.set_cons_succ]
          refine reg_take (v := .bool true) 49 (some 168) rfl rfl (by kernel_rfl) (by kernel_rfl) (by kernel_rfl) (by rfl) HSL.out (fun w hw => by have hc : w.cell? ⟨g2, 3, none⟩ = some (.bool true) := by { have h9 := (HT9.out.keep0 hw).dd.b.cell 3; rw [h9]; show some (Value.bool D2.off) = _; rw [HOFF.out] }; go_simp) ?_
          simp only [Act.put, List.setIfInBounds_toArray, List.set_cons_zero, List.set_cons_succ]
          refine reg_call 45 (some 164) rfl rfl (by kernel_rfl) (by rfl) _ _ (exec_func 24 _ _ [.pointer (some ⟨g, 0, none⟩)] rfl (by kernel_rfl) rfl) ?_
          refine (down_any D2 g N S W2 c2 wl (HT9.out.keep0 HSL.out).co.d).mono ?_
          rintro e wm ⟨rfl, rfl⟩
          rw [HOFF.out]
          refine ⟨_, rfl, HSL.out, fun _ => ?_⟩
          simp only [Act.put, List.setIfInBounds_toArray, List.set_cons_zero, List.set_cons_succ]
          refine reg_take (v := .bool false) 50 (some 169) rfl rfl (by kernel_rfl) (by kernel_rfl) (by kernel_rfl) (by rfl) HSL.out (fun w hw => by go_simp) ?_
          simp only [Act.put, List.setIfInBounds_toArray, List.set_cons_zero, List.set_cons_succ]
          refine reg_take (v := .bool false) 51 (some 170) rfl rfl (by kernel_rfl) (by kernel_rfl) (by kernel_rfl) (by rfl) HSL.out (fun w hw => by go_simp) ?_
          simp only [Act.put, List.setIfInBounds_toArray, List.set_cons_zero, List.set_cons_succ]
          refine reg_end (by kernel_rfl) ?_
          have e5 := HE5.out
          go_wp2
          clear e5
          go_roundw
          case rel => exact ⟨k1', t2, D2, W2, c2, p2, by rw [HK1.out]; exact HLT.out, rfl, (HT9.out.keep0 HSL.out).nil, by rw [HK1.out]; exact HS2.out⟩
          case measure => have := HK1.out; have := HLT.out; simp [intOf]; omega
        | false =>
          have HP := Lib.hid (show Pow wc (some ⟨g, 0, none⟩) false by have := Cd.pow HT2.out.co.d; rwa [hoff] at this)
          have HOFF := Lib.hid hoff
          clear hoff
          go_wp2_with fail
          refine (get_any t2 m (some ⟨g, 0, none⟩) false wc HT2.out.co.me HP.out).mono ?_
          rintro e wd ⟨rfl, kd⟩
          have HT3 := Lib.hid (HT2.out.keep0 kd)
          clear kd
          go_upto_region 27 with ((with_reducible refine wpList_here ?_); first
            | (refine wpList_store_new rfl 48 (.tmp 11) (.tmp 99) rfl _ (vcells t2) rfl rfl (by rw [vcells_length _ HR2.out]; rfl) (val_size _ HR2.out) (vcells_one _) ?_
               intro we hBe ke ze
               obtain ⟨gv, hgv⟩ : ∃ gv, gv = wd.heap.size := ⟨_, rfl⟩
               rw [← hgv] at hBe ⊢
               have HT4 := Lib.hid (HT3.out.add ke gv _ _ hBe (Nat.le_of_eq hgv.symm))
               clear hBe ke ze hgv))
          have HT5 := Lib.hid (HT4.out.keep0 (Kp.refl nob we).drew)
          have HQ5 := Lib.hid HT5.out.de
          refine reg_begin (fun w' => Fb w' m2 (some ⟨g2, 0, none⟩) t2) (by kernel_rfl) HQ5.out (fun _ => ?_)
          generalize we.drew = wq at *
          refine reg_take (v := .pointer (some ⟨m2, 0, none⟩)) 0 (some 101) rfl rfl (by kernel_rfl) (by kernel_rfl) (by kernel_rfl) (by rfl) HQ5.out (fun w hw => by go_simp) ?_
          simp only [Act.put, List.setIfInBounds_toArray, List.set_cons_zero, List.set_cons_succ]
          refine reg_take (v := .pointer (some ⟨m2, 0, none⟩)) 1 (some 102) rfl rfl (by kernel_rfl) (by kernel_rfl) (by kernel_rfl) (by rfl) HQ5.out (fun w hw => by go_simp) ?_
          simp only [Act.put, List.setIfInBounds_toArray, List.set_cons_zero, List.set_cons_succ]
          refine reg_take (v := .pointer (some ⟨m2, 0, none⟩)) 2 (some 103) rfl rfl (by kernel_rfl) (by kernel_rfl) (by kernel_rfl) (by rfl) HQ5.out (fun w hw => by go_simp) ?_
          simp only [Act.put, List.setIfInBounds_toArray, List.set_cons_zero, List.set_cons_succ]
          refine reg_take (v := .int .i64 (t2.count : Int)) 3 (some 104) rfl rfl (by kernel_rfl) (by kernel_rfl) (by kernel_rfl) (by rfl) HQ5.out (fun w hw => by have hc := hw.cells.1; go_simp) ?_
          simp only [Act.put, List.setIfInBounds_toArray, List.set_cons_zero, List.set_cons_succ]
          refine reg_take (v := .pointer (some ⟨m2, 0, none⟩)) 4 (some 105) rfl rfl (by kernel_rfl) (by kernel_rfl) (by kernel_rfl) (by rfl) HQ5.out (fun w hw => by go_simp) ?_
          simp only [Act.put, List.setIfInBounds_toArray, List.set_cons_zero, List.set_cons_succ]
          refine reg_take (v := .pointer (some ⟨m2, 0, none⟩)) 5 (some 106) rfl rfl (by kernel_rfl) (by kernel_rfl) (by kernel_rfl) (by rfl) HQ5.out (fun w hw => by go_simp) ?_
          simp only [Act.put, List.setIfInBounds_toArray, List.set_cons_zero, List.set_cons_succ]
          refine reg_take (v := .pointer (some ⟨m2, 1, none⟩)) 6 (some 107) rfl rfl (by kernel_rfl) (by kernel_rfl) (by kernel_rfl) (by rfl) HQ5.out (fun w hw => by go_simp) ?_
          simp only [Act.put, List.setIfInBounds_toArray, List.set_cons_zero, List.set_cons_succ]
          refine reg_take (v := .int .i64 t2.epoch) 7 (some 108) rfl rfl (by kernel_rfl) (by kernel_rfl) (by kernel_rfl) (by rfl) HQ5.out (fun w hw => by have hc := hw.cells.2.1; go_simp) ?_
          simp only [Act.put, List.setIfInBounds_toArray, List.set_cons_zero, List.set_cons_succ]
          refine reg_take (v := .pointer (some ⟨m2, 0, none⟩)) 8 (some 109) rfl rfl (by kernel_rfl) (by kernel_rfl) (by kernel_rfl) (by rfl) HQ5.out (fun w hw => by go_simp) ?_
          simp only [Act.put, List.setIfInBounds_toArray, List.set_cons_zero, List.set_cons_succ]
          refine reg_take (v := .pointer (some ⟨m2, 0, none⟩)) 9 (some 110) rfl rfl (by kernel_rfl) (by kernel_rfl) (by kernel_rfl) (by rfl) HQ5.out (fun w hw => by go_simp) ?_
          simp only [Act.put, List.setIfInBounds_toArray, List.set_cons_zero, List.set_cons_succ]
          refine reg_take (v := .pointer (some ⟨m2, 2, none⟩)) 10 (some 111) rfl rfl (by kernel_rfl) (by kernel_rfl) (by kernel_rfl) (by rfl) HQ5.out (fun w hw => by go_simp) ?_
          simp only [Act.put, List.setIfInBounds_toArray, List.set_cons_zero, List.set_cons_succ]
          refine reg_load 11 (some 112) 32 (.tmp 111) rfl rfl rfl (by kernel_rfl) (by kernel_rfl) (by kernel_rfl) (by rfl) HQ5.out m2 2 rfl (bvs t2.root) _ (fun w hw => hw.range) root_under rfl (root_size _ HR2.out) ?_
          simp only [Act.put, List.setIfInBounds_toArray, List.set_cons_zero, List.set_cons_succ]
          refine reg_take (v := .agg (vcells t2).toArray) 12 (some 113) rfl rfl (by kernel_rfl) (by kernel_rfl) (by kernel_rfl) (by rfl) HQ5.out (fun w hw => by exact exec_bld _ _ rfl [(0, .int .i64 (t2.count : Int)), (1, .int .i64 t2.epoch), (2, .agg (bvs t2.root).toArray)] _ rfl (build_value t2 _ _ _ rfl rfl rfl HR2.out _)) ?_
          simp only [Act.put, List.setIfInBounds_toArray, List.set_cons_zero, List.set_cons_succ]
          obtain ⟨gw, hgw⟩ : ∃ q, q = wq.heap.size := ⟨_, rfl⟩
          obtain ⟨wr2, hwr2⟩ : ∃ q, q = wq.alloc (.cells (vcells none_).toArray 48) := ⟨_, rfl⟩
          have HK6 := Lib.hid (show Kp nob wq wr2 by rw [hwr2]; exact (Kp.refl nob wq).alloc _)
          have HBW := Lib.hid (show Blk wr2 gw 48 (vcells none_) by rw [hgw, hwr2]; exact Blk.new wq _ _)
          have HGW := Lib.hid (show wq.heap.size ≤ gw from Nat.le_of_eq hgw.symm)
          have HQ6 := Lib.hid (HQ5.out.keep0 HK6.out)
          refine reg_step (v := .pointer (some ⟨gw, 0, none⟩)) (w' := wr2) 13 (some 13) rfl rfl (by kernel_rfl) (by rfl) (by have hz := zval_run; rw [hgw, hwr2]; go_simp) HQ6.out (fun _ => ?_)
          clear hgw hwr2
          simp only [Act.put, List.setIfInBounds_toArray, List.set_cons_zero, List.set_cons_succ]
          refine reg_store 14 none 48 (.tmp 13) (.tmp 113) rfl rfl rfl (by kernel_rfl) (by rfl) gw _ (vcells none_) (vcells t2) HBW.out rfl rfl (by rw [vcells_length _ HR2.out, vcells_length _ z32_length]) (val_size _ HR2.out) (vcells_one _) ?_
          intro ws hBs ks zs
          have HK7 := Lib.hid (HK6.out.since ks (fun i e => by have e : i = gw := e; rw [e]; exact HGW.out))
          have HT7 := Lib.hid (HT5.out.add HK7.out gw _ _ hBs HGW.out)
          have HNE := Lib.hid (show gv ≠ gw from fun e => by have := (HT5.out.bl _ List.mem_cons_self).1.lt; have := HGW.out; have e : gv = gw := e; omega)
          clear hBs ks zs
          refine ⟨HT7.out.de, fun _ => ?_⟩
          simp only [Act.put, List.setIfInBounds_toArray, List.set_cons_zero, List.set_cons_succ]
          refine reg_end (by kernel_rfl) ?_
          have x3 : ws.cell? ⟨g2, 3, none⟩ = some (.bool false) := by
            have := HT7.out.dd.b.cell 3
            rw [this]
            show some (Value.bool D2.off) = _
            rw [HOFF.out]
          go_upto_region 30 with fail
          clear x3
          have HT8 := Lib.hid HT7.out
          have HT9 := Lib.hid (HT8.out.keep0 (Kp.refl nob ws).drew)
          have HS9 := Lib.hid (Kp.refl nob ws.drew)
          refine reg_begin (fun w' => Kp nob ws.drew w') (by kernel_rfl) HS9.out (fun _ => ?_)
          generalize ws.drew = w9 at *
          obtain ⟨q, hq⟩ : ∃ q, q = t2.most - t2.count := ⟨_, rfl⟩
          have HE := Lib.hid (show IntKind.i64.wrap ((t2.most : Int) - (t2.count : Int)) = (q : Int) by have := HT9.out.de.k.le; have := HT9.out.de.k.most; rw [IntWalk.i64_in _ (by omega)]; omega)
          have HLF := Lib.hid (fun (w' : World) (h' : Mb w' m (some ⟨g, 0, none⟩) t2) => left_any t2 m (some ⟨g, 0, none⟩) w' h')
          rw [← hq] at HLF
          clear hq
          refine reg_load 0 (some 119) 48 (.tmp 11) rfl rfl rfl (by kernel_rfl) (by kernel_rfl) (by kernel_rfl) (by rfl) HS9.out gv 0 rfl (vcells t2) _ (fun w hw => ((HT9.out.bl _ (List.mem_cons_of_mem _ List.mem_cons_self)).1.keep hw (fun e => e)).range) val_under rfl (val_size _ HR2.out) ?_
          simp only [Act.put, List.setIfInBounds_toArray, List.set_cons_zero, List.set_cons_succ]
          refine reg_load 1 (some 120) 48 (.tmp 13) rfl rfl rfl (by kernel_rfl) (by kernel_rfl) (by kernel_rfl) (by rfl) HS9.out gw 0 rfl (vcells t2) _ (fun w hw => ((HT9.out.bl _ List.mem_cons_self).1.keep hw (fun e => e)).range) val_under rfl (val_size _ HR2.out) ?_
          simp only [Act.put, List.setIfInBounds_toArray, List.set_cons_zero, List.set_cons_succ]
          refine reg_take (v := .bool false) 2 (some 121) rfl rfl (by kernel_rfl) (by kernel_rfl) (by kernel_rfl) (by rfl) HS9.out (fun w hw => by exact exec_neV_same 119 120 _ t2 HR2.out rfl rfl rfl) ?_
          simp only [Act.put, List.setIfInBounds_toArray, List.set_cons_zero, List.set_cons_succ]
          refine reg_take (v := .bool false) 3 (some 122) rfl rfl (by kernel_rfl) (by kernel_rfl) (by kernel_rfl) (by rfl) HS9.out (fun w hw => by go_simp) ?_
          simp only [Act.put, List.setIfInBounds_toArray, List.set_cons_zero, List.set_cons_succ]
          refine reg_take (v := .int .i64 0) 4 (some 123) rfl rfl (by kernel_rfl) (by kernel_rfl) (by kernel_rfl) (by rfl) HS9.out (fun w hw => by go_simp) ?_
          simp only [Act.put, List.setIfInBounds_toArray, List.set_cons_zero, List.set_cons_succ]
          refine reg_take (v := .bool false) 5 (some 124) rfl rfl (by kernel_rfl) (by kernel_rfl) (by kernel_rfl) (by rfl) HS9.out (fun w hw => by go_simp) ?_
          simp only [Act.put, List.setIfInBounds_toArray, List.set_cons_zero, List.set_cons_succ]
          refine reg_take (v := .pointer (some ⟨g2, 0, none⟩)) 6 (some 125) rfl rfl (by kernel_rfl) (by kernel_rfl) (by kernel_rfl) (by rfl) HS9.out (fun w hw => by go_simp) ?_
          simp only [Act.put, List.setIfInBounds_toArray, List.set_cons_zero, List.set_cons_succ]
          refine reg_take (v := .pointer (some ⟨g2, 0, none⟩)) 7 (some 126) rfl rfl (by kernel_rfl) (by kernel_rfl) (by kernel_rfl) (by rfl) HS9.out (fun w hw => by go_simp) ?_
          simp only [Act.put, List.setIfInBounds_toArray, List.set_cons_zero, List.set_cons_succ]
          refine reg_take (v := .pointer (some ⟨g2, 3, none⟩)) 8 (some 127) rfl rfl (by kernel_rfl) (by kernel_rfl) (by kernel_rfl) (by rfl) HS9.out (fun w hw => by go_simp) ?_
          simp only [Act.put, List.setIfInBounds_toArray, List.set_cons_zero, List.set_cons_succ]
          refine reg_take (v := .bool false) 9 (some 128) rfl rfl (by kernel_rfl) (by kernel_rfl) (by kernel_rfl) (by rfl) HS9.out (fun w hw => by have hc : w.cell? ⟨g2, 3, none⟩ = some (.bool false) := by { have h9 := (HT9.out.keep0 hw).dd.b.cell 3; rw [h9]; show some (Value.bool D2.off) = _; rw [HOFF.out] }; go_simp) ?_
          simp only [Act.put, List.setIfInBounds_toArray, List.set_cons_zero, List.set_cons_succ]
          refine reg_take (v := .bool false) 10 (some 129) rfl rfl (by kernel_rfl) (by kernel_rfl) (by kernel_rfl) (by rfl) HS9.out (fun w hw => by go_simp) ?_
          simp only [Act.put, List.setIfInBounds_toArray, List.set_cons_zero, List.set_cons_succ]
          refine reg_take (v := .bool false) 11 (some 130) rfl rfl (by kernel_rfl) (by kernel_rfl) (by kernel_rfl) (by rfl) HS9.out (fun w hw => by go_simp) ?_
          simp only [Act.put, List.setIfInBounds_toArray, List.set_cons_zero, List.set_cons_succ]
          refine reg_take (v := .bool false) 12 (some 131) rfl rfl (by kernel_rfl) (by kernel_rfl) (by kernel_rfl) (by rfl) HS9.out (fun w hw => by go_simp) ?_
          simp only [Act.put, List.setIfInBounds_toArray, List.set_cons_zero, List.set_cons_succ]
          refine reg_take (v := .int .i64 0) 13 (some 132) rfl rfl (by kernel_rfl) (by kernel_rfl) (by kernel_rfl) (by rfl) HS9.out (fun w hw => by go_simp) ?_
          simp only [Act.put, List.setIfInBounds_toArray, List.set_cons_zero, List.set_cons_succ]
          refine reg_take (v := .bool false) 14 (some 133) rfl rfl (by kernel_rfl) (by kernel_rfl) (by kernel_rfl) (by rfl) HS9.out (fun w hw => by go_simp) ?_
          simp only [Act.put, List.setIfInBounds_toArray, List.set_cons_zero, List.set_cons_succ]
          refine reg_take (v := .bool false) 15 (some 134) rfl rfl (by kernel_rfl) (by kernel_rfl) (by kernel_rfl) (by rfl) HS9.out (fun w hw => by go_simp) ?_
          simp only [Act.put, List.setIfInBounds_toArray, List.set_cons_zero, List.set_cons_succ]
          refine reg_skip 16 (some 135) rfl rfl (by kernel_rfl) (by kernel_rfl) (by kernel_rfl) (by rfl) HS9.out ?_
          simp only [Act.put, List.setIfInBounds_toArray, List.set_cons_zero, List.set_cons_succ]
          refine reg_skip 17 (some 136) rfl rfl (by kernel_rfl) (by kernel_rfl) (by kernel_rfl) (by rfl) HS9.out ?_
          simp only [Act.put, List.setIfInBounds_toArray, List.set_cons_zero, List.set_cons_succ]
          refine reg_take (v := .bool false) 18 (some 137) rfl rfl (by kernel_rfl) (by kernel_rfl) (by kernel_rfl) (by rfl) HS9.out (fun w hw => by go_simp) ?_
          simp only [Act.put, List.setIfInBounds_toArray, List.set_cons_zero, List.set_cons_succ]
          refine reg_take (v := .bool false) 19 (some 138) rfl rfl (by kernel_rfl) (by kernel_rfl) (by kernel_rfl) (by rfl) HS9.out (fun w hw => by go_simp) ?_
          simp only [Act.put, List.setIfInBounds_toArray, List.set_cons_zero, List.set_cons_succ]
          refine reg_take (v := .bool false) 20 (some 139) rfl rfl (by kernel_rfl) (by kernel_rfl) (by kernel_rfl) (by rfl) HS9.out (fun w hw => by go_simp) ?_
          simp only [Act.put, List.setIfInBounds_toArray, List.set_cons_zero, List.set_cons_succ]
          refine reg_take (v := .pointer (some ⟨m, 0, none⟩)) 21 (some 140) rfl rfl (by kernel_rfl) (by kernel_rfl) (by kernel_rfl) (by rfl) HS9.out (fun w hw => by go_simp) ?_
          simp only [Act.put, List.setIfInBounds_toArray, List.set_cons_zero, List.set_cons_succ]
          refine reg_take (v := .pointer (some ⟨m2, 0, none⟩)) 23 (some 142) rfl rfl (by kernel_rfl) (by kernel_rfl) (by kernel_rfl) (by rfl) HS9.out (fun w hw => by go_simp) ?_
          simp only [Act.put, List.setIfInBounds_toArray, List.set_cons_zero, List.set_cons_succ]
          refine reg_take (v := .pointer (some ⟨m2, 0, none⟩)) 24 (some 143) rfl rfl (by kernel_rfl) (by kernel_rfl) (by kernel_rfl) (by rfl) HS9.out (fun w hw => by go_simp) ?_
          simp only [Act.put, List.setIfInBounds_toArray, List.set_cons_zero, List.set_cons_succ]
          refine reg_take (v := .pointer (some ⟨m2, 34, none⟩)) 25 (some 144) rfl rfl (by kernel_rfl) (by kernel_rfl) (by kernel_rfl) (by rfl) HS9.out (fun w hw => by go_simp) ?_
          simp only [Act.put, List.setIfInBounds_toArray, List.set_cons_zero, List.set_cons_succ]
          refine reg_take (v := .int .i64 (t2.most : Int)) 26 (some 145) rfl rfl (by kernel_rfl) (by kernel_rfl) (by kernel_rfl) (by rfl) HS9.out (fun w hw => by have hc := (HT9.out.keep0 hw).de.cells.2.2.1; go_simp) ?_
          simp only [Act.put, List.setIfInBounds_toArray, List.set_cons_zero, List.set_cons_succ]
          refine reg_take (v := .pointer (some ⟨m2, 0, none⟩)) 27 (some 146) rfl rfl (by kernel_rfl) (by kernel_rfl) (by kernel_rfl) (by rfl) HS9.out (fun w hw => by go_simp) ?_
          simp only [Act.put, List.setIfInBounds_toArray, List.set_cons_zero, List.set_cons_succ]
          refine reg_take (v := .pointer (some ⟨m2, 0, none⟩)) 28 (some 147) rfl rfl (by kernel_rfl) (by kernel_rfl) (by kernel_rfl) (by rfl) HS9.out (fun w hw => by go_simp) ?_
          simp only [Act.put, List.setIfInBounds_toArray, List.set_cons_zero, List.set_cons_succ]
          refine reg_take (v := .pointer (some ⟨m2, 0, none⟩)) 29 (some 148) rfl rfl (by kernel_rfl) (by kernel_rfl) (by kernel_rfl) (by rfl) HS9.out (fun w hw => by go_simp) ?_
          simp only [Act.put, List.setIfInBounds_toArray, List.set_cons_zero, List.set_cons_succ]
          refine reg_take (v := .int .i64 (t2.count : Int)) 30 (some 149) rfl rfl (by kernel_rfl) (by kernel_rfl) (by kernel_rfl) (by rfl) HS9.out (fun w hw => by have hc := (HT9.out.keep0 hw).de.cells.1; go_simp) ?_
          simp only [Act.put, List.setIfInBounds_toArray, List.set_cons_zero, List.set_cons_succ]
          refine reg_take (v := .int .i64 (q : Int)) 31 (some 150) rfl rfl (by kernel_rfl) (by kernel_rfl) (by kernel_rfl) (by rfl) HS9.out (fun w hw => by have he := HE.out; go_simp) ?_
          simp only [Act.put, List.setIfInBounds_toArray, List.set_cons_zero, List.set_cons_succ]
          refine reg_call 22 (some 141) rfl rfl (by kernel_rfl) (by rfl) _ _ (exec_func 22 _ _ [.pointer (some ⟨m, 0, none⟩)] rfl (by kernel_rfl) rfl) ?_
          refine (HLF.out w9 HT9.out.co.me).mono ?_
          rintro e wl ⟨rfl, kl⟩
          have HSL := Lib.hid (show Kp nob w9 wl from kl)
          clear kl
          refine ⟨_, rfl, HSL.out, fun _ => ?_⟩
          simp only [Act.put, List.setIfInBounds_toArray, List.set_cons_zero, List.set_cons_succ]
          refine reg_take (v := .bool false) 32 (some 151) rfl rfl (by kernel_rfl) (by kernel_rfl) (by kernel_rfl) (by rfl) HSL.out (fun w hw => by go_simp) ?_
          simp only [Act.put, List.setIfInBounds_toArray, List.set_cons_zero, List.set_cons_succ]
          refine reg_take (v := .bool false) 33 (some 152) rfl rfl (by kernel_rfl) (by kernel_rfl) (by kernel_rfl) (by rfl) HSL.out (fun w hw => by go_simp) ?_
          simp only [Act.put, List.setIfInBounds_toArray, List.set_cons_zero, List.set_cons_succ]
          refine reg_take (v := .bool false) 34 (some 153) rfl rfl (by kernel_rfl) (by kernel_rfl) (by kernel_rfl) (by rfl) HSL.out (fun w hw => by go_simp) ?_
          simp only [Act.put, List.setIfInBounds_toArray, List.set_cons_zero, List.set_cons_succ]
          refine reg_take (v := .pointer (some ⟨g, 0, none⟩)) 35 (some 154) rfl rfl (by kernel_rfl) (by kernel_rfl) (by kernel_rfl) (by rfl) HSL.out (fun w hw => by go_simp) ?_
          simp only [Act.put, List.setIfInBounds_toArray, List.set_cons_zero, List.set_cons_succ]
          refine reg_take (v := .pointer (some ⟨g2, 0, none⟩)) 37 (some 156) rfl rfl (by kernel_rfl) (by kernel_rfl) (by kernel_rfl) (by rfl) HSL.out (fun w hw => by go_simp) ?_
          simp only [Act.put, List.setIfInBounds_toArray, List.set_cons_zero, List.set_cons_succ]
          refine reg_take (v := .pointer (some ⟨g2, 0, none⟩)) 38 (some 157) rfl rfl (by kernel_rfl) (by kernel_rfl) (by kernel_rfl) (by rfl) HSL.out (fun w hw => by go_simp) ?_
          simp only [Act.put, List.setIfInBounds_toArray, List.set_cons_zero, List.set_cons_succ]
          refine reg_take (v := .pointer (some ⟨g2, 4, none⟩)) 39 (some 158) rfl rfl (by kernel_rfl) (by kernel_rfl) (by kernel_rfl) (by rfl) HSL.out (fun w hw => by go_simp) ?_
          simp only [Act.put, List.setIfInBounds_toArray, List.set_cons_zero, List.set_cons_succ]
          refine reg_take (v := .int .i64 (D2.acts : Int)) 40 (some 159) rfl rfl (by kernel_rfl) (by kernel_rfl) (by kernel_rfl) (by rfl) HSL.out (fun w hw => by have hc := (HT9.out.keep0 hw).dd.b.cell 4; have hc2 : w.cell? ⟨g2, 4, none⟩ = some (.int .i64 (D2.acts : Int)) := hc; clear hc; go_simp) ?_
          simp only [Act.put, List.setIfInBounds_toArray, List.set_cons_zero, List.set_cons_succ]
          refine reg_call 36 (some 155) rfl rfl (by kernel_rfl) (by rfl) _ _ (exec_func 23 _ _ [.pointer (some ⟨g, 0, none⟩)] rfl (by kernel_rfl) rfl) ?_
          refine (acts_any D2 g N S W2 c2 wl (HT9.out.keep0 HSL.out).co.d).mono ?_
          rintro e wm ⟨rfl, rfl⟩
          refine ⟨_, rfl, HSL.out, fun _ => ?_⟩
          simp only [Act.put, List.setIfInBounds_toArray, List.set_cons_zero, List.set_cons_succ]
          refine reg_take (v := .bool false) 41 (some 160) rfl rfl (by kernel_rfl) (by kernel_rfl) (by kernel_rfl) (by rfl) HSL.out (fun w hw => by go_simp) ?_
          simp only [Act.put, List.setIfInBounds_toArray, List.set_cons_zero, List.set_cons_succ]
          refine reg_take (v := .bool false) 42 (some 161) rfl rfl (by kernel_rfl) (by kernel_rfl) (by kernel_rfl) (by rfl) HSL.out (fun w hw => by go_simp) ?_
          simp only [Act.put, List.setIfInBounds_toArray, List.set_cons_zero, List.set_cons_succ]
          refine reg_take (v := .bool false) 43 (some 162) rfl rfl (by kernel_rfl) (by kernel_rfl) (by kernel_rfl) (by rfl) HSL.out (fun w hw => by go_simp) ?_
          simp only [Act.put, List.setIfInBounds_toArray, List.set_cons_zero, List.set_cons_succ]
          refine reg_take (v := .pointer (some ⟨g, 0, none⟩)) 44 (some 163) rfl rfl (by kernel_rfl) (by kernel_rfl) (by kernel_rfl) (by rfl) HSL.out (fun w hw => by go_simp) ?_
          simp only [Act.put, List.setIfInBounds_toArray, List.set_cons_zero, List.set_cons_succ]
          refine reg_take (v := .pointer (some ⟨g2, 0, none⟩)) 46 (some 165) rfl rfl (by kernel_rfl) (by kernel_rfl) (by kernel_rfl) (by rfl) HSL.out (fun w hw => by go_simp) ?_
          simp only [Act.put, List.setIfInBounds_toArray, List.set_cons_zero, List.set_cons_succ]
          refine reg_take (v := .pointer (some ⟨g2, 0, none⟩)) 47 (some 166) rfl rfl (by kernel_rfl) (by kernel_rfl) (by kernel_rfl) (by rfl) HSL.out (fun w hw => by go_simp) ?_
          simp only [Act.put, List.setIfInBounds_toArray, List.set_cons_zero, List.set_cons_succ]
          refine reg_take (v := .pointer (some ⟨g2, 3, none⟩)) 48 (some 167) rfl rfl (by kernel_rfl) (by kernel_rfl) (by kernel_rfl) (by rfl) HSL.out (fun w hw => by go_simp) ?_
          simp only [Act.put, List.setIfInBounds_toArray, List.set_cons_zero, List.set_cons_succ]
          refine reg_take (v := .bool false) 49 (some 168) rfl rfl (by kernel_rfl) (by kernel_rfl) (by kernel_rfl) (by rfl) HSL.out (fun w hw => by have hc : w.cell? ⟨g2, 3, none⟩ = some (.bool false) := by { have h9 := (HT9.out.keep0 hw).dd.b.cell 3; rw [h9]; show some (Value.bool D2.off) = _; rw [HOFF.out] }; go_simp) ?_
          simp only [Act.put, List.setIfInBounds_toArray, List.set_cons_zero, List.set_cons_succ]
          refine reg_call 45 (some 164) rfl rfl (by kernel_rfl) (by rfl) _ _ (exec_func 24 _ _ [.pointer (some ⟨g, 0, none⟩)] rfl (by kernel_rfl) rfl) ?_
          refine (down_any D2 g N S W2 c2 wl (HT9.out.keep0 HSL.out).co.d).mono ?_
          rintro e wm ⟨rfl, rfl⟩
          rw [HOFF.out]
          refine ⟨_, rfl, HSL.out, fun _ => ?_⟩
          simp only [Act.put, List.setIfInBounds_toArray, List.set_cons_zero, List.set_cons_succ]
          refine reg_take (v := .bool false) 50 (some 169) rfl rfl (by kernel_rfl) (by kernel_rfl) (by kernel_rfl) (by rfl) HSL.out (fun w hw => by go_simp) ?_
          simp only [Act.put, List.setIfInBounds_toArray, List.set_cons_zero, List.set_cons_succ]
          refine reg_take (v := .bool false) 51 (some 170) rfl rfl (by kernel_rfl) (by kernel_rfl) (by kernel_rfl) (by rfl) HSL.out (fun w hw => by go_simp) ?_
          simp only [Act.put, List.setIfInBounds_toArray, List.set_cons_zero, List.set_cons_succ]
          refine reg_end (by kernel_rfl) ?_
          have e5 := HE5.out
          go_wp2
          clear e5
          go_roundw
          case rel => exact ⟨k1', t2, D2, W2, c2, p2, by rw [HK1.out]; exact HLT.out, rfl, (HT9.out.keep0 HSL.out).nil, by rw [HK1.out]; exact HS2.out⟩
          case measure => have := HK1.out; have := HLT.out; simp [intOf]; omega
    · obtain rfl : k = n := by omega
      clear hlt hk
      go_wp2_with fail
      refine (get_none wr).mono ?_
      rintro e wa ⟨rfl, ka⟩
      have HKA := Lib.hid (HT.out.co.k.trans ka (fun _ e => e.elim))
      clear ka
      go_wp2_with ((with_reducible refine wpList_here ?_); first
        | (refine wpList_exec_gd (by rfl) (by exact exec_bld _ _ rfl [] _ rfl (z32_build _)) ?_)
        | (refine wpList_store_new rfl 48 (.tmp 15) (.tmp 175) rfl _ (vcells none_) rfl rfl rfl (val_size _ z32_length) (vcells_one _) ?_
           intro wb hBb kb zb
           have HKB := Lib.hid (HKA.out.trans kb (fun _ e => e.elim))
           clear hBb kb zb))
      refine (next_none 0 z32 wb).mono ?_
      rintro e wc ⟨rfl, kc⟩
      have HKC := Lib.hid (HKB.out.trans kc (fun _ e => e.elim))
      clear kc
      go_wp2_with fail
      refine (left_none wc).mono ?_
      rintro e we ⟨rfl, rfl⟩
      go_wp2
      go_ret
      exact ⟨rfl, HKC.out⟩
end Go.Proofs.Ytchdobneipfghaa.Meter
