/- RecordBack: a record that can be is read from its bytes, and from nothing shorter or longer; bytes that are read are those of what they are read as. -/
import Derived.Test.YtadhhnlolnnkhaaRecEq
import Derived.Test.YtadhhnlolnnkhaaScrR
namespace Go.Proofs.Ytadhhnlolnnkhaa.Rec
set_option linter.unusedVariables false
set_option linter.unusedSimpArgs false
open Go Go.RowKit Kit

/-- The record's box and the bytes handed in. -/
structure Bk (w : World) (r : Rec) (B : Option Addr) (l : List UInt8) (w2 : World) : Prop where
  x : Blk w2 w.heap.size 23 (rcells r)
  b : Row w2 B (bvs l)
  k : Kp nob w w2
theorem Bk.keep {w w2 w3 : World} {r : Rec} {B : Option Addr} {l : List UInt8} (h : Bk w r B l w2) (k : Kp nob w2 w3) : Bk w r B l w3 := ⟨h.x.keep k (fun e => e), h.b.keep0 k, h.k.trans k (fun _ e => e.elim)⟩

set_option maxHeartbeats 4000000 in
set_option maxRecDepth 100000 in
theorem back_walk (r : Rec) (B : Option Addr) (m c : Nat) (l : List UInt8) (w : World) (hw : r.ok) (hl : l.length = m) (hn : B = none → c = 0) (hr : Row w B (bvs l)) (hc : m ≤ c) (hm : c ≤ maxLen) :
    Calls Try.prog 5 #[rv r, .slice B m c] w fun e w' => e = .returned (.bool true) ∧ Kp nob w w' := by
  have HW := Lib.hid (show r.body.length ≤ 140737488355328 from hw.2.2.2.2.2)
  have T0 : Hid (Bk w r B l (w.alloc (.cells (rcells r).toArray 23))) := Lib.hid ⟨Blk.new w _ _, hr.alloc _, (Kp.refl nob w).alloc _⟩
  have HLN := Lib.hid hl; have HNN := Lib.hid hn
  have hgr := great_one r
  clear hw hr hl hn hc hm
  unfold rv
  go_enter Try.func5, Try.ntmps5
  go_wp2_with fail
  refine (alive_yes _).mono ?_
  rintro e w1 ⟨rfl, k1⟩
  have T1 := Lib.hid (T0.out.keep k1)
  obtain ⟨c0, c1, c2, c3, c4, c5⟩ := box_cells T1.out.x
  clear T0 k1
  go_wp2_with fail
  refine (hgr _ _ rfl _).mono ?_
  rintro e w2 ⟨rfl, k2⟩
  have T2 := Lib.hid (T1.out.keep k2)
  clear T1 k2 c0 c1 c2 c3 c4 c5 hgr
  cases hg : (decide (4096 < r.body.length)) with
  | true =>
    go_wp2
    go_ret
    exact ⟨rfl, T2.out.k⟩
  | false =>
  by_cases hg2 : 4096 < m
  · have hb : decide ((4096 : Int) < (m : Int)) = true := by simp; omega
    go_wp2
    go_ret
    exact ⟨rfl, T2.out.k⟩
  have hb : decide ((4096 : Int) < (m : Int)) = false := by simp; omega
  have HL := Lib.hid (show r.body.length ≤ 4096 ∧ m ≤ 4096 by simp only [decide_eq_false_iff_not] at hg; omega)
  clear hg hg2
  obtain ⟨d, hd1, hd2⟩ := rec_under
  have hgt := get_any B m c l w2 HLN.out (by have := HL.out; omega) HNN.out T2.out.b
  have HGT := Lib.hid hgt
  clear hgt
  cases hq : recGet l with
  | none =>
    rw [gotR, gotE, hq] at HGT
    simp only [Option.getD_none, Option.isSome_none, Bool.false_eq_true, if_false] at HGT
    go_wp2_with fail
    refine HGT.out.mono ?_
    rintro e w3 ⟨rfl, k3⟩
    have T3 := Lib.hid (T2.out.keep k3)
    clear T2 k3 HGT hb
    obtain ⟨c0, c1, c2, c3, c4, c5⟩ := box_cells (T3.out.keep ((Kp.refl nob w3).alloc (.cells (rcells zr).toArray 23))).x
    have T5 := Lib.hid (T3.out.keep ((Kp.refl nob w3).alloc (.cells (rcells zr).toArray 23)))
    unfold rcells zr at c0 c1 c2 c3 c4 c5
    unfold rv zr
    clear T3
    go_wp2_with fail
    refine (cPut r _ (by have := HL.out; omega)).mono ?_
    rintro e w6 ⟨A, n, cA, E, rfl, k6, hP⟩
    have T6 := Lib.hid (T5.out.keep k6)
    clear T5 k6
    rcases hP with ⟨gr, rfl⟩ | ⟨gr, rfl, nn, ho⟩
    · go_wp2
      go_ret
      exact ⟨rfl, T6.out.k⟩
    have hzz : ∃ l0 z, recB r = l0 ++ [z] := by
      rcases List.eq_nil_or_concat (recB r) with h | ⟨l0, z, h⟩
      · exact absurd h (recB_ne r)
      · exact ⟨l0, z, by rw [h, List.concat_eq_append]⟩
    obtain ⟨l0, z, hz⟩ := hzz
    obtain ⟨b0, hA⟩ : ∃ b0, A = some ⟨b0, 0, none⟩ := by
      obtain ⟨b0, hA, _⟩ := ho.at_ (i := 0) (by omega)
      exact ⟨b0, hA⟩
    subst hA
    have hln : (recB r).length = n := by rw [recB_length r (by have := HL.out; omega), nn]
    have hl0 : l0.length + 1 = n := by rw [← hln, hz]; simp
    have hcap := ho.cap.1
    obtain ⟨q, hq0⟩ : ∃ q, q = l0.length := ⟨_, rfl⟩
    have hnq : n = q + 1 := by omega
    have e1 := recGet_recB r gr
    have e2 := recGet_less r gr l0 z hz.symm
    have e3 := recGet_more r 0 gr
    have HO := Lib.hid ho
    have HG1 := Lib.hid (show ∀ w', Row w' (some ⟨b0, 0, none⟩) (bvs (recB r)) → Calls Try.prog 16 #[.slice (some ⟨b0, 0, none⟩) n cA] w' fun e w2 => e = .returned (.tuple #[.agg (rcells r).toArray, .int .i64 0]) ∧ Kp nob w' w2 from fun w' hrow => by
      have := get_any (some ⟨b0, 0, none⟩) n cA (recB r) w' hln (by have := HL.out; omega) (fun e => by cases e) hrow
      rw [gotR, gotE, e1] at this
      exact this)
    have HG2 := Lib.hid (show ∀ w', Row w' (some ⟨b0, 0, none⟩) (bvs (recB r)) → Calls Try.prog 16 #[.slice (some ⟨b0, 0, none⟩) q cA] w' fun e w2 => e = .returned (.tuple #[.agg (rcells zr).toArray, .int .i64 4]) ∧ Kp nob w' w2 from fun w' hrow => by
      have hrow0 : Row w' (some ⟨b0, 0, none⟩) (bvs l0) := by
        have h1 := hrow.take q
        have h2 : (bvs (recB r)).take q = bvs l0 := by rw [hz, bvs_append, List.take_append_of_le_length (by rw [bvs_length]; omega), List.take_of_length_le (by rw [bvs_length]; omega)]
        rwa [h2] at h1
      have := get_any (some ⟨b0, 0, none⟩) q cA l0 w' hq0.symm (by have := HL.out; omega) (fun e => by cases e) hrow0
      rw [gotR, gotE, e2] at this
      exact this)
    have HG3 := Lib.hid (show ∀ w' A3 c3, A3 ≠ none → Row w' A3 (bvs (recB r ++ [0])) → Calls Try.prog 16 #[.slice A3 (n + 1) c3] w' fun e w2 => e = .returned (.tuple #[.agg (rcells zr).toArray, .int .i64 4]) ∧ Kp nob w' w2 from fun w' A3 c3 hA3 hrow => by
      have := get_any A3 (n + 1) c3 (recB r ++ [0]) w' (by rw [List.length_append, hln]; rfl) (by have := HL.out; omega) (fun e => absurd e hA3) hrow
      rw [gotR, gotE, e3] at this
      exact this)
    have HLN2 := Lib.hid hln
    have HNQ := Lib.hid hnq
    have HN5 := Lib.hid (show n ≤ 5000 by have := HL.out; omega)
    have hsub : IntKind.i64.wrap ((n : Int) - 1) = (q : Int) := by rw [hnq, IntWalk.i64_in _ (by have := HN5.out; omega)]; omega
    have hqc : q ≤ cA := by omega
    clear ho hz hln hl0 hq0 e1 e2 e3 nn hnq gr
    unfold rcells at HG1
    unfold rcells zr at HG2 HG3
    go_wp2_with fail
    refine (HG1.out w6 HO.out.row).mono ?_
    rintro e w7 ⟨rfl, k7⟩
    have T7 := Lib.hid ((T6.out.keep k7).keep ((Kp.refl nob w7).alloc (.cells (rcells r).toArray 23)))
    have HO7 := Lib.hid ((HO.out.keep k7 (fun _ _ e => e)).alloc (.cells (rcells r).toArray 23))
    have HB7 := Lib.hid (Blk.new w7 23 (rcells r))
    obtain ⟨g7, hg7⟩ : ∃ g7, g7 = w7.heap.size := ⟨_, rfl⟩
    clear T6 HO k7
    go_wp2_with fail
    refine (HG2.out _ HO7.out.row).mono ?_
    rintro e w8 ⟨rfl, k8⟩
    have k8a := (Kp.refl nob w8).alloc (.cells (rcells zr).toArray 23)
    have T8 := Lib.hid ((T7.out.keep k8).keep k8a)
    have HO8 := Lib.hid ((HO7.out.keep k8 (fun _ _ e => e)).keep k8a (fun _ _ e => e))
    have HB8 := Lib.hid ((HB7.out.keep k8 (fun e => e)).keep k8a (fun e => e))
    have HOE := Lib.hid (show Own 5 ((w8.alloc (.cells (rcells zr).toArray 23)).alloc (.cells #[] 5)) (some ⟨w8.heap.size + 1, 0, none⟩) 0 0 [] from by
      have hsz : w8.heap.size + 1 = (w8.alloc (.cells (rcells zr).toArray 23)).heap.size := by simp
      rw [hsz]; exact World.ownsRow_made _ #[] 0 (Nat.zero_le _) (by simp [maxLen]) rfl)
    obtain ⟨i0, hi, hz0, hz1, hz2⟩ := info_parts u8_info
    clear T7 HO7 HB7 k8 k8a hsub hqc
    go_wp2_with (at_builtin; refine wpList_appR _ rfl (.tmp 70) (.tmp 71) 27 rfl 5 i0 (.int .u8 0) 1 u8_under hi hz0 hz1 hz2 rfl _ 0 0 [] rfl HOE.out _ n cA (bvs (recB r)) rfl (fun h => by cases h) (by rw [bvs_length]; exact HLN2.out) (HO8.out.alloc _).row (bvs_one _) (by have := HN5.out; omega) (by have := HN5.out; omega) ?_)
    intro A9 c9 w9 ho9 hg9 hab9
    have k9 := ((Kp.refl nob (w8.alloc (.cells (rcells zr).toArray 23))).alloc (.cells #[] 5)).grown hg9 (fun k hk => .inr (by cases hk; simp))
    have HAB9 := Lib.hid (show ∀ k, ab A9 = some k → w8.heap.size + 1 ≤ k from fun k hk => by rcases hab9 with h | h <;> rw [h] at hk <;> simp [ab] at hk <;> omega)
    have HO9 := Lib.hid ho9
    clear ho9 hg9 hab9 HOE
    have h10 : ∀ u ∈ [bv 0], u.oneCell' = true := by intro u hu; simp at hu; subst hu; rfl
    have HK9 := Lib.hid k9
    clear k9
    go_wp2_with (at_builtin; refine wpList_appR _ rfl (.tmp 72) (.tmp 73) 27 rfl 5 i0 (.int .u8 0) 1 u8_under hi hz0 hz1 hz2 rfl A9 n c9 (bvs (recB r)) rfl (HO9.out.alloc _) (some ⟨w9.heap.size, 0, none⟩) 1 1 [bv 0] rfl (fun h => by cases h) rfl (row_one w9 (bv 0) _) h10 (by have := HN5.out; omega) (by have := HN5.out; omega) ?_)
    intro A10 c10 w10 ho10 hg10 hab10
    have k10 := (HK9.out.alloc (.cells #[.int .u8 0] 5)).grown hg10 (fun k hk => .inr (by have := HAB9.out k hk; simp; omega))
    have T10 := Lib.hid (T8.out.keep k10)
    have HB10 := Lib.hid (HB8.out.keep k10 (fun e => e))
    obtain ⟨b9, hA9⟩ : ∃ b9, A9 = some ⟨b9, 0, none⟩ := by
      obtain ⟨b5, h5, _⟩ := HO9.out.at_ (i := 0) (by have := HNQ.out; omega)
      exact ⟨b5, h5⟩
    have hne : A10 ≠ none := by
      rintro rfl
      rcases hab10 with h | h
      · rw [hA9] at h; cases h
      · cases h
    have HO10 := Lib.hid (show Row w10 A10 (bvs (recB r ++ [0])) by
      have := ho10.row
      rwa [show bvs (recB r) ++ [bv 0] = bvs (recB r ++ [0]) by rw [bvs_append]; rfl] at this)
    have HNE := Lib.hid hne
    clear T8 HB8 HO8 HO9 HK9 HAB9 hne ho10 hg10 hab10 k10 h10
    go_wp2_with fail
    refine (HG3.out w10 A10 c10 HNE.out HO10.out).mono ?_
    rintro e w11 ⟨rfl, k11⟩
    have k11a := (Kp.refl nob w11).alloc (.cells (rcells zr).toArray 23)
    have T11 := Lib.hid ((T10.out.keep k11).keep k11a)
    have hB11 := (HB10.out.keep k11 (fun e => e)).keep k11a (fun e => e)
    obtain ⟨p0, p1, p2, p3, p4, p5⟩ := box_cells T11.out.x
    obtain ⟨r0, r1, r2, r3, r4, r5⟩ := box_cells hB11
    clear hB11 T10 HB10 k11 k11a
    unfold rcells zr at p0 p1 p2 p3 p4 p5 r0 r1 r2 r3 r4 r5
    go_wp2_with (refine wpList_gd (by rfl) (exec_eqR (.tmp 81) (.tmp 82) r r rfl rfl rfl) ?_)
    go_ret
    exact ⟨by simp, T11.out.k⟩
  | some R =>
    obtain ⟨gR, hRl⟩ := recGet_some l R hq
    have gRb := good_bounds R gR
    rw [gotR, gotE, hq] at HGT
    simp only [Option.getD_some, Option.isSome_some, if_true] at HGT
    go_wp2_with fail
    refine HGT.out.mono ?_
    rintro e w3 ⟨rfl, k3⟩
    have T3 := Lib.hid ((T2.out.keep k3).keep ((Kp.refl nob w3).alloc (.cells (rcells R).toArray 23)))
    obtain ⟨R', hR'⟩ : ∃ R', R' = R := ⟨_, rfl⟩
    have HPU := Lib.hid (fun w' => put_yes R w' gR)
    unfold rv at HPU
    unfold rv
    clear T2 k3 HGT hb
    go_wp2_with fail
    refine (HPU.out _).mono ?_
    rintro e w4 ⟨A1, cR, rfl, hoR, _, k4⟩
    have T5 := Lib.hid (T3.out.keep k4)
    obtain ⟨nR, hnR⟩ : ∃ nR, nR = 36 + R.body.length := ⟨_, rfl⟩
    rw [← hnR] at hoR ⊢
    rw [hRl] at hoR
    have hv1 := conv_row w4 A1 nR cR l (by rw [← hRl, recB_length R (by omega), hnR]) hoR.row
    have hv2 := conv_row w4 B m c l HLN.out T5.out.b
    obtain ⟨c0, c1, c2, c3, c4, c5⟩ := box_cells T5.out.x
    have HC := Lib.hid (⟨c0, c1, c2, c3, c4, c5⟩ : w4.cell? ⟨w.heap.size, 0, none⟩ = some (.int .i64 r.kind) ∧ w4.cell? ⟨w.heap.size, 1, none⟩ = some (.int .i64 r.queue) ∧ w4.cell? ⟨w.heap.size, 2, none⟩ = some (.int .i64 r.id) ∧ w4.cell? ⟨w.heap.size, 3, none⟩ = some (.int .i64 r.num) ∧ w4.cell? ⟨w.heap.size, 4, none⟩ = some (.int .i64 r.wait) ∧ w4.cell? ⟨w.heap.size, 5, none⟩ = some (.string (str r.body)))
    clear T3 HPU hoR hnR hRl gRb gR k4 hR'
    go_wp2_with fail
    refine (cPut r _ (by have := HL.out; omega)).mono ?_
    rintro e w6 ⟨A, n, cA, E, rfl, k6, hP⟩
    have T6 := Lib.hid (T5.out.keep k6)
    clear T5 k6
    rcases hP with ⟨gr, rfl⟩ | ⟨gr, rfl, nn, ho⟩
    · go_wp2
      go_ret
      exact ⟨rfl, T6.out.k⟩
    have hzz : ∃ l0 z, recB r = l0 ++ [z] := by
      rcases List.eq_nil_or_concat (recB r) with h | ⟨l0, z, h⟩
      · exact absurd h (recB_ne r)
      · exact ⟨l0, z, by rw [h, List.concat_eq_append]⟩
    obtain ⟨l0, z, hz⟩ := hzz
    obtain ⟨b0, hA⟩ : ∃ b0, A = some ⟨b0, 0, none⟩ := by
      obtain ⟨b0, hA, _⟩ := ho.at_ (i := 0) (by omega)
      exact ⟨b0, hA⟩
    subst hA
    have hln : (recB r).length = n := by rw [recB_length r (by have := HL.out; omega), nn]
    have hl0 : l0.length + 1 = n := by rw [← hln, hz]; simp
    have hcap := ho.cap.1
    obtain ⟨q, hq0⟩ : ∃ q, q = l0.length := ⟨_, rfl⟩
    have hnq : n = q + 1 := by omega
    have e1 := recGet_recB r gr
    have e2 := recGet_less r gr l0 z hz.symm
    have e3 := recGet_more r 0 gr
    have HO := Lib.hid ho
    have HG1 := Lib.hid (show ∀ w', Row w' (some ⟨b0, 0, none⟩) (bvs (recB r)) → Calls Try.prog 16 #[.slice (some ⟨b0, 0, none⟩) n cA] w' fun e w2 => e = .returned (.tuple #[.agg (rcells r).toArray, .int .i64 0]) ∧ Kp nob w' w2 from fun w' hrow => by
      have := get_any (some ⟨b0, 0, none⟩) n cA (recB r) w' hln (by have := HL.out; omega) (fun e => by cases e) hrow
      rw [gotR, gotE, e1] at this
      exact this)
    have HG2 := Lib.hid (show ∀ w', Row w' (some ⟨b0, 0, none⟩) (bvs (recB r)) → Calls Try.prog 16 #[.slice (some ⟨b0, 0, none⟩) q cA] w' fun e w2 => e = .returned (.tuple #[.agg (rcells zr).toArray, .int .i64 4]) ∧ Kp nob w' w2 from fun w' hrow => by
      have hrow0 : Row w' (some ⟨b0, 0, none⟩) (bvs l0) := by
        have h1 := hrow.take q
        have h2 : (bvs (recB r)).take q = bvs l0 := by rw [hz, bvs_append, List.take_append_of_le_length (by rw [bvs_length]; omega), List.take_of_length_le (by rw [bvs_length]; omega)]
        rwa [h2] at h1
      have := get_any (some ⟨b0, 0, none⟩) q cA l0 w' hq0.symm (by have := HL.out; omega) (fun e => by cases e) hrow0
      rw [gotR, gotE, e2] at this
      exact this)
    have HG3 := Lib.hid (show ∀ w' A3 c3, A3 ≠ none → Row w' A3 (bvs (recB r ++ [0])) → Calls Try.prog 16 #[.slice A3 (n + 1) c3] w' fun e w2 => e = .returned (.tuple #[.agg (rcells zr).toArray, .int .i64 4]) ∧ Kp nob w' w2 from fun w' A3 c3 hA3 hrow => by
      have := get_any A3 (n + 1) c3 (recB r ++ [0]) w' (by rw [List.length_append, hln]; rfl) (by have := HL.out; omega) (fun e => absurd e hA3) hrow
      rw [gotR, gotE, e3] at this
      exact this)
    have HLN2 := Lib.hid hln
    have HNQ := Lib.hid hnq
    have HN5 := Lib.hid (show n ≤ 5000 by have := HL.out; omega)
    have hsub : IntKind.i64.wrap ((n : Int) - 1) = (q : Int) := by rw [hnq, IntWalk.i64_in _ (by have := HN5.out; omega)]; omega
    have hqc : q ≤ cA := by omega
    clear ho hz hln hl0 hq0 e1 e2 e3 nn hnq gr
    unfold rcells at HG1
    unfold rcells zr at HG2 HG3
    go_wp2_with fail
    refine (HG1.out w6 HO.out.row).mono ?_
    rintro e w7 ⟨rfl, k7⟩
    have T7 := Lib.hid ((T6.out.keep k7).keep ((Kp.refl nob w7).alloc (.cells (rcells r).toArray 23)))
    have HO7 := Lib.hid ((HO.out.keep k7 (fun _ _ e => e)).alloc (.cells (rcells r).toArray 23))
    have HB7 := Lib.hid (Blk.new w7 23 (rcells r))
    obtain ⟨g7, hg7⟩ : ∃ g7, g7 = w7.heap.size := ⟨_, rfl⟩
    clear T6 HO k7
    go_wp2_with fail
    refine (HG2.out _ HO7.out.row).mono ?_
    rintro e w8 ⟨rfl, k8⟩
    have k8a := (Kp.refl nob w8).alloc (.cells (rcells zr).toArray 23)
    have T8 := Lib.hid ((T7.out.keep k8).keep k8a)
    have HO8 := Lib.hid ((HO7.out.keep k8 (fun _ _ e => e)).keep k8a (fun _ _ e => e))
    have HB8 := Lib.hid ((HB7.out.keep k8 (fun e => e)).keep k8a (fun e => e))
    have HOE := Lib.hid (show Own 5 ((w8.alloc (.cells (rcells zr).toArray 23)).alloc (.cells #[] 5)) (some ⟨w8.heap.size + 1, 0, none⟩) 0 0 [] from by
      have hsz : w8.heap.size + 1 = (w8.alloc (.cells (rcells zr).toArray 23)).heap.size := by simp
      rw [hsz]; exact World.ownsRow_made _ #[] 0 (Nat.zero_le _) (by simp [maxLen]) rfl)
    obtain ⟨i0, hi, hz0, hz1, hz2⟩ := info_parts u8_info
    clear T7 HO7 HB7 k8 k8a hsub hqc
    go_wp2_with (at_builtin; refine wpList_appR _ rfl (.tmp 70) (.tmp 71) 27 rfl 5 i0 (.int .u8 0) 1 u8_under hi hz0 hz1 hz2 rfl _ 0 0 [] rfl HOE.out _ n cA (bvs (recB r)) rfl (fun h => by cases h) (by rw [bvs_length]; exact HLN2.out) (HO8.out.alloc _).row (bvs_one _) (by have := HN5.out; omega) (by have := HN5.out; omega) ?_)
    intro A9 c9 w9 ho9 hg9 hab9
    have k9 := ((Kp.refl nob (w8.alloc (.cells (rcells zr).toArray 23))).alloc (.cells #[] 5)).grown hg9 (fun k hk => .inr (by cases hk; simp))
    have HAB9 := Lib.hid (show ∀ k, ab A9 = some k → w8.heap.size + 1 ≤ k from fun k hk => by rcases hab9 with h | h <;> rw [h] at hk <;> simp [ab] at hk <;> omega)
    have HO9 := Lib.hid ho9
    clear ho9 hg9 hab9 HOE
    have h10 : ∀ u ∈ [bv 0], u.oneCell' = true := by intro u hu; simp at hu; subst hu; rfl
    have HK9 := Lib.hid k9
    clear k9
    go_wp2_with (at_builtin; refine wpList_appR _ rfl (.tmp 72) (.tmp 73) 27 rfl 5 i0 (.int .u8 0) 1 u8_under hi hz0 hz1 hz2 rfl A9 n c9 (bvs (recB r)) rfl (HO9.out.alloc _) (some ⟨w9.heap.size, 0, none⟩) 1 1 [bv 0] rfl (fun h => by cases h) rfl (row_one w9 (bv 0) _) h10 (by have := HN5.out; omega) (by have := HN5.out; omega) ?_)
    intro A10 c10 w10 ho10 hg10 hab10
    have k10 := (HK9.out.alloc (.cells #[.int .u8 0] 5)).grown hg10 (fun k hk => .inr (by have := HAB9.out k hk; simp; omega))
    have T10 := Lib.hid (T8.out.keep k10)
    have HB10 := Lib.hid (HB8.out.keep k10 (fun e => e))
    obtain ⟨b9, hA9⟩ : ∃ b9, A9 = some ⟨b9, 0, none⟩ := by
      obtain ⟨b5, h5, _⟩ := HO9.out.at_ (i := 0) (by have := HNQ.out; omega)
      exact ⟨b5, h5⟩
    have hne : A10 ≠ none := by
      rintro rfl
      rcases hab10 with h | h
      · rw [hA9] at h; cases h
      · cases h
    have HO10 := Lib.hid (show Row w10 A10 (bvs (recB r ++ [0])) by
      have := ho10.row
      rwa [show bvs (recB r) ++ [bv 0] = bvs (recB r ++ [0]) by rw [bvs_append]; rfl] at this)
    have HNE := Lib.hid hne
    clear T8 HB8 HO8 HO9 HK9 HAB9 hne ho10 hg10 hab10 k10 h10
    go_wp2_with fail
    refine (HG3.out w10 A10 c10 HNE.out HO10.out).mono ?_
    rintro e w11 ⟨rfl, k11⟩
    have k11a := (Kp.refl nob w11).alloc (.cells (rcells zr).toArray 23)
    have T11 := Lib.hid ((T10.out.keep k11).keep k11a)
    have hB11 := (HB10.out.keep k11 (fun e => e)).keep k11a (fun e => e)
    obtain ⟨p0, p1, p2, p3, p4, p5⟩ := box_cells T11.out.x
    obtain ⟨r0, r1, r2, r3, r4, r5⟩ := box_cells hB11
    clear hB11 T10 HB10 k11 k11a
    unfold rcells zr at p0 p1 p2 p3 p4 p5 r0 r1 r2 r3 r4 r5
    go_wp2_with (refine wpList_gd (by rfl) (exec_eqR (.tmp 81) (.tmp 82) r r rfl rfl rfl) ?_)
    go_ret
    exact ⟨by simp, T11.out.k⟩
end Go.Proofs.Ytadhhnlolnnkhaa.Rec
