/- Lemmas: DskD DskE DskW DskNw DskF. -/
import Derived.Test.YtigdlnfgdjfdoaaGreatZK17
import Derived.Laws.MakeOwn
set_option maxHeartbeats 4000000
set_option maxRecDepth 100000
set_option linter.unusedVariables false
set_option linter.unusedSimpArgs false
namespace Go.Proofs.YtigdlnfgdjfdoaaGreat
namespace Disk
open Go Go.RowKit Kit
theorem off_any (D : Dk) (keep : Nat) (g N S : Nat) (W : Option Addr) (cW : Nat) (w : World) (h : Cd w g N S W cW D) (hw : D.waits.length ≤ 100000) (hk : keep < 18446744073709551616) :
    Calls Tryz.prog 16 #[.pointer (some ⟨g, 0, none⟩), .int .u64 (keep : Int)] w fun e w' => e = .returned (.tuple #[]) ∧ Dz w g N S W (lose D keep) w' := by
 have HR := Lib.hid (refused_any D g N S W cW w h)
 have HS := Lib.hid (settle_any D keep g N S W cW w h hw hk)
 have HD := Lib.hid h
 clear h hw hk
 cases ho : D.off with
 | true =>
   rw [ho] at HR
   have HL := Lib.hid (lose_off D keep ho)
   clear ho
   go_enter Tryz.func16, Tryz.ntmps16
   go_wp2_with fail
   refine HR.out.mono ?_
   rintro e w1 ⟨rfl, rfl⟩
   go_wp2
   refine bodyPost_ret (results_none rfl _ _ _) rfl ⟨rfl, ?_⟩
   rw [HL.out]; exact HD.out.self
 | false =>
   rw [ho] at HR
   have HL := Lib.hid (lose_on D keep ho)
   clear ho
   go_enter Tryz.func16, Tryz.ntmps16
   go_wp2_with fail
   refine HR.out.mono ?_
   rintro e w1 ⟨rfl, rfl⟩
   go_wp2_with fail
   refine HS.out.mono ?_
   rintro e w2 ⟨rfl, h2, k2⟩
   have c3 := h2.cells.2.2.2.1
   have c5 := h2.cells.2.2.2.2.2.1
   have f3 : w2.frozen? ⟨g, 3, none⟩ = false := h2.b.frozen _
   have f5 : w2.frozen? ⟨g, 5, none⟩ = false := h2.b.frozen _
   have H2 := Lib.hid h2; have K2 := Lib.hid k2
   clear h2 k2
   go_wp2
   have kg : Kp (oneB g) w2 ((w2.setCell ⟨g, 3, none⟩ (.bool true)).setCell ⟨g, 5, none⟩ (.int .i64 0)) := ((Kp.refl (oneB g) w2).setCell (p := ⟨g, 3, none⟩) (.inl rfl) _).setCell (p := ⟨g, 5, none⟩) (.inl rfl) _
   have hb := (H2.out.b.set_ 3 (.bool true)).set_ 5 (.int .i64 0)
   refine bodyPost_end (results_none rfl _ _ _) rfl ⟨rfl, ?_⟩
   rw [HL.out]
   refine ⟨none, 0, H2.out.own kg rfl rfl rfl hb, K2.out.trans kg (fun i e => .inl (.inl e)), fun k e => by cases e⟩
theorem act_length (D : Dk) : (act D).1.waits = D.waits := by
 cases ho : D.off with
 | true => rw [act_off D ho]
 | false => rw [act_on D ho]
def acted (D : Dk) : Dk × Int := if (act D).2 then (lose (act D).1 D.keep, 8) else ((act D).1, 0)
theorem actw_any (D : Dk) (g N S : Nat) (W : Option Addr) (cW : Nat) (w : World) (h : Cd w g N S W cW D) (hw : D.waits.length ≤ 100000) (ha : D.acts ≤ 1000000000000) (hf : D.fuse ≤ 9223372036854775807) (hk : D.keep < 18446744073709551616) :
    Calls Tryz.prog 96 #[.pointer (some ⟨g, 0, none⟩)] w fun e w' => e = .returned (.int .i64 (acted D).2) ∧ Dz w g N S W (acted D).1 w' := by
 have HA := Lib.hid (act1_any D g N S W cW w h ha hf)
 have HD := Lib.hid h
 have HW := Lib.hid hw; have HK := Lib.hid hk
 clear h hw ha hf hk
 cases hg : (act D).2 with
 | false =>
   have HE := Lib.hid (show acted D = ((act D).1, 0) by rw [acted, hg]; rfl)
   rw [told_no D hg] at HA
   clear hg
   go_enter Tryz.func96, Tryz.ntmps96
   go_wp2_with fail
   refine HA.out.mono ?_
   rintro e w1 ⟨rfl, h1, k1⟩
   have H1 := Lib.hid h1; have K1 := Lib.hid k1
   clear h1 k1
   go_wp2
   go_ret
   rw [HE.out]
   exact ⟨rfl, W, cW, H1.out, K1.out.mono (fun i _ e => .inl e), fun k e => .inl e⟩
 | true =>
   have HE := Lib.hid (show acted D = (lose (act D).1 D.keep, 8) by rw [acted, hg]; rfl)
   rw [told_yes D hg] at HA
   clear hg
   go_enter Tryz.func96, Tryz.ntmps96
   go_wp2_with fail
   refine HA.out.mono ?_
   rintro e w1 ⟨rfl, h1, k1⟩
   have H1 := Lib.hid h1; have K1 := Lib.hid k1
   clear h1 k1
   go_wp2_with fail
   refine (off_any (act D).1 D.keep g N S W cW w1 H1.out (by rw [act_length]; exact HW.out) HK.out).mono ?_
   rintro e w2 ⟨rfl, h2⟩
   have H2 := Lib.hid h2
   clear h2
   go_wp2
   go_ret
   rw [HE.out]
   exact ⟨rfl, Dz.trans (K1.out.mono (fun i _ e => .inl e)) (fun k e => .inl e) H2.out⟩
theorem list_fn (n : Nat) (l : List UInt8) (h : l.length = n) : ∃ f : Fin n → UInt8, l = List.ofFn f := by
 subst h
 refine ⟨fun i => l[i], ?_⟩
 apply List.ext_getElem
 · simp
 · intro i h1 h2; simp
theorem exec_bld {P : Program} {a : Act} {o : Oper} {w w' : World} (t : TypeId) (fs : Array (Nat × Operand)) (ho : o.op = .build t fs) (ps : List (Nat × Value)) (r : Value) (hp : fs.toList.map (fun p => (p.1, a.eval p.2)) = ps) (h : (Instr.build t ps.toArray).run P w = .ok r w') : (execOp a.eval o).run P w = .ok (.value r) w' := by
 subst hp
 have e : (fs.map fun p => (p.1, a.eval p.2)) = (fs.toList.map (fun p => (p.1, a.eval p.2))).toArray := by rw [← Array.toList_map, Array.toArray_toList]
 rw [← e] at h
 simp [execOp, ho, h, Result.andThen]
theorem build_wr0 (f : Fin 256 → UInt8) (i : Int) (w : World) : (Instr.build 95 #[(0, .int .i64 i), (1, .agg (bvs (List.ofFn f)).toArray)]).run Tryz.prog w = .ok (.agg (.int .i64 i :: bvs (List.ofFn f)).toArray) w := by kernel_rfl
theorem build_wr (i : Int) (s : List UInt8) (h : s.length = 256) (w : World) : (Instr.build 95 #[(0, .int .i64 i), (1, .agg (bvs s).toArray)]).run Tryz.prog w = .ok (.agg (.int .i64 i :: bvs s).toArray) w := by
 obtain ⟨f, rfl⟩ := list_fn 256 s h
 exact build_wr0 f i w
theorem slice_wr0 (f : Fin 256 → UInt8) (i : Int) (w : World) : (Instr.buildSlice 84 1 #[(0, .agg (.int .i64 i :: bvs (List.ofFn f)).toArray)]).run Tryz.prog w = .ok (.slice (some ⟨w.heap.size, 0, none⟩) 1 1) (w.alloc (.cells (.int .i64 i :: bvs (List.ofFn f)).toArray 95)) := by kernel_rfl
theorem exec_slice_wr {act : Act} {o : Oper} {w : World} (x : Operand) (i : Int) (s : List UInt8) (h : s.length = 256) (ho : o.op = .buildSlice 84 1 #[(0, x)]) (hx : act.eval x = .agg (.int .i64 i :: bvs s).toArray) :
    (execOp act.eval o).run Tryz.prog w = .ok (.value (.slice (some ⟨w.heap.size, 0, none⟩) 1 1)) (w.alloc (.cells (.int .i64 i :: bvs s).toArray 95)) := by
 obtain ⟨f, rfl⟩ := list_fn 256 s h
 have hr := slice_wr0 f i w
 unfold execOp
 simp only [ho, hx, Sem.run_bind, List.map_toArray, List.map_cons, List.map_nil, hr, Result.andThen_ok, Sem.run_pure]
theorem wpStill_exec {P : Program} {ops : Array Oper} {w : World} {Q : Act → Prop} {a : Act} {o : Oper} {rest : List Oper} (hgd : o.guard = none) (v : Value)
    (hr : (execOp a.eval o).run P w = .ok (.value v) w) (h : wpStill P ops w Q rest (a.put o.dst v)) : wpStill P ops w Q (o :: rest) a :=
 wpStill_step fun K hK => by
  rw [if_pos (by simp [Region.wanted, hgd])]
  unfold Oper.still
  rw [hr, Oper.stillUpon_value]
  exact hK _ h
theorem wr_info : (Tryz.prog.info? 95).map (fun i => (i.zero, i.size, i.bytes)) = some (some (.agg zwr.toArray), 257, 264) := by kernel_rfl
theorem wrs_under : Tryz.prog.underlying 84 = some (.slice 95) := by kernel_rfl
theorem zwr_cells : (Value.agg zwr.toArray).cells.size = 257 := by
 show zwr.toArray.size = 257
 rw [List.size_toArray, zwr_length]
theorem has_of (D : Dk) (p : Nat) (h : p < D.now.length) : has D (p : Int) = true := by unfold has; exact decide_eq_true (by omega)
theorem has_not (D : Dk) (i : Int) (h : i < 0 ∨ (D.now.length : Int) ≤ i) : has D i = false := by unfold has; exact decide_eq_false (by omega)
theorem acted_wrote (D : Dk) (p : Nat) (b : List UInt8) (ho : D.off = false) (hp : p < D.now.length) (hb : b.length ≤ 256) : acted (wrote D p b) = write E8 D (p : Int) b := by
 have e : write E8 D (p : Int) b = if (act D).2 then (lose (wrote (act D).1 p b) D.keep, 8) else (wrote (act D).1 p b, 0) := by
  rw [write, if_neg (by rw [ho]; decide), if_neg (by omega), if_neg (by omega), Int.toNat_natCast]; rfl
 rw [acted, e, act_on (wrote D p b) ho, act_on D ho]
 rfl
theorem cd_wrote {w w2 : World} {g N S : Nat} {W W2 : Option Addr} {cW c2 : Nat} {D : Dk} (h : Cd w g N S W cW D) (p : Nat) (b : List UInt8) (hp : p < D.now.length) (hb : b.length ≤ 256)
    (hB : Blk w2 g 86 [.slice (some ⟨N, 0, none⟩) D.now.length D.now.length, .slice (some ⟨S, 0, none⟩) D.now.length D.now.length, .slice W2 (D.waits.length + 1) c2, .bool D.off, .int .i64 (D.acts : Int), .int .i64 (D.fuse : Int), .int .u64 (D.keep : Int)])
    (hN : Blk w2 N 90 ((D.now.set p (full b)).flatMap bvs)) (hS : Blk w2 S 90 (D.safe.flatMap bvs)) (hW : OwnK 257 95 w2 W2 (D.waits.length + 1) c2 (D.waits.flatMap wcell ++ wcell (p, full b)))
    (hn : ∀ k, ab W2 = some k → k ≠ g ∧ k ≠ N ∧ k ≠ S) : Cd w2 g N S W2 c2 (wrote D p b) := by
 refine ⟨?_, hN, hS, ?_, wrote_ok D p b h.ok hp hb, ?_, ?_, h.ne, hn⟩
 · show Blk _ _ _ [.slice _ (D.now.set p (full b)).length (D.now.set p (full b)).length, .slice _ (D.now.set p (full b)).length (D.now.set p (full b)).length, .slice W2 (D.waits ++ [(p, full b)]).length c2, _, _, _, _]
   rw [List.length_set, List.length_append]
   exact hB
 · show OwnK _ _ _ _ (D.waits ++ [(p, full b)]).length _ ((D.waits ++ [(p, full b)]).flatMap wcell)
   rw [List.length_append, List.flatMap_append]
   simpa using hW
 · show D.now.set p (full b) = allw (D.waits ++ [(p, full b)]) D.safe
   rw [allw_snoc, ← h.al]
 · show (D.now.set p (full b)).length ≤ 4096
   rw [List.length_set]; exact h.max
theorem write_no (D : Dk) (i : Int) (A : Option Addr) (n c : Nat) (b : List UInt8) (g N S : Nat) (W : Option Addr) (cW : Nat) (w : World) (h : Cd w g N S W cW D) (hn : b.length = n) (hr : Row w A (bvs b)) (hm : n ≤ maxLen) (hno : D.off = true ∨ (i < 0 ∨ (D.now.length : Int) ≤ i) ∨ 256 < b.length) :
    Calls Tryz.prog 95 #[.pointer (some ⟨g, 0, none⟩), .int .i64 i, .slice A n c] w fun e w' => e = .returned (.int .i64 (write E8 D i b).2) ∧ (write E8 D i b).1 = D ∧ Kp nob w w' := by
 have HR := Lib.hid (refused_any D g N S W cW w h)
 have HFI := Lib.hid (filled_any D i A n c b g N S W cW w h hn hr hm)
 clear h hr hm
 cases ho : D.off with
 | true =>
   rw [ho] at HR
   have HW := Lib.hid (show write E8 D i b = (D, 8) by rw [write, if_pos ho]; rfl)
   clear ho hno
   go_enter Tryz.func95, Tryz.ntmps95
   go_wp2_with fail
   refine HR.out.mono ?_
   rintro e w1 ⟨rfl, rfl⟩
   go_wp2
   go_ret
   rw [HW.out]; exact ⟨rfl, rfl, Kp.refl _ _⟩
 | false =>
   rw [ho] at HR
   have hF : ∃ s k, fill D i b = (s, k) ∧ s.length = 256 ∧ (k == 0) = false ∧ write E8 D i b = (D, k) := by
    by_cases h1 : i < 0 ∨ (D.now.length : Int) ≤ i
    · exact ⟨z256, 1, by rw [fill, has_not D i h1]; rfl, z256_length, rfl, by rw [write, if_neg (by rw [ho]; decide), if_pos h1]; rfl⟩
    · have h2 : 256 < b.length := by
        rcases hno with h | h | h
        · rw [ho] at h; cases h
        · exact absurd h h1
        · exact h
      have hh : has D i = true := by unfold has; exact decide_eq_true (by omega)
      exact ⟨z256, 3, by rw [fill, hh, if_pos h2]; rfl, z256_length, rfl, by rw [write, if_neg (by rw [ho]; decide), if_neg h1, if_pos h2]; rfl⟩
   obtain ⟨s, k, hf, hs, hk, hw⟩ := hF
   rw [hf] at HFI
   have HW := Lib.hid hw; have HSL := Lib.hid hs
   have hz := zsec_run
   clear hf hw ho hno hs
   go_enter Tryz.func95, Tryz.ntmps95
   go_wp2_with fail
   refine HR.out.mono ?_
   rintro e w1 ⟨rfl, rfl⟩
   go_wp2_with fail
   refine HFI.out.mono ?_
   rintro e w2 ⟨rfl, k2⟩
   have HK2 := Lib.hid k2
   clear k2
   go_wp2_with (refine wpList_store_blk rfl 90 (.tmp 8) (.tmp 20) rfl _ _ zsec (bvs s) (Blk.new _ _ _) rfl rfl (by rw [bvs_length, HSL.out, zsec_length]) (sec_size' _ HSL.out) (bvs_one _) ?_; intro w3 hB3 k3 z3; have HK3 := Lib.hid ((HK2.out.alloc _).since k3 (fun i e => by have e : i = w2.heap.size := e; have := HK2.out.size; omega)); clear hB3 k3 z3)
   go_ret
   rw [HW.out]; exact ⟨rfl, rfl, HK3.out⟩
theorem write_yes (D : Dk) (p : Nat) (A : Option Addr) (n c : Nat) (b : List UInt8) (g N S : Nat) (W : Option Addr) (cW : Nat) (w : World) (h : Cd w g N S W cW D) (hn : b.length = n) (hr : Row w A (bvs b)) (ho : D.off = false) (hp : p < D.now.length) (hb : b.length ≤ 256)
    (hw : D.waits.length ≤ 99999) (ha : D.acts ≤ 1000000000000) (hf : D.fuse ≤ 9223372036854775807) (hk : D.keep < 18446744073709551616) :
    Calls Tryz.prog 95 #[.pointer (some ⟨g, 0, none⟩), .int .i64 (p : Int), .slice A n c] w fun e w' => e = .returned (.int .i64 (write E8 D p b).2) ∧ Dz w g N S W (write E8 D p b).1 w' := by
 have HR := Lib.hid (refused_any D g N S W cW w h)
 rw [ho] at HR
 have HFI := Lib.hid (filled_any D p A n c b g N S W cW w h hn hr (by simp [maxLen]; omega))
 rw [show fill D p b = (full b, 0) by rw [fill, has_of D p hp, if_pos rfl, if_neg (by omega)]] at HFI
 have HE := Lib.hid (acted_wrote D p b ho hp hb)
 rw [← HE.out]
 have HD := Lib.hid h
 have HFB := Lib.hid (full_length b hb)
 have HSZ := Lib.hid (sec_size' _ HFB.out)
 have HP := Lib.hid hp; have HBL := Lib.hid hb; have HWL := Lib.hid hw
 have HAA := Lib.hid (fun (w' : World) (W2 : Option Addr) (c2 : Nat) (h' : Cd w' g N S W2 c2 (wrote D p b)) => actw_any (wrote D p b) g N S W2 c2 w' h' (by show (D.waits ++ [(p, full b)]).length ≤ 100000; rw [List.length_append]; simp; omega) ha hf hk)
 have HFS := Lib.hid (flat_set D.now h.ok.now p (full b) hp HFB.out)
 have HFL := Lib.hid (show p * 256 + (bvs (full b)).length ≤ (D.now.flatMap bvs).length by rw [flat_len _ h.ok.now, bvs_length, HFB.out]; omega)
 obtain ⟨i0, hi, hz0, hz1, hz2⟩ := info_parts3 wr_info
 have HI := Lib.hid (And.intro hi (And.intro hz0 (And.intro hz1 hz2)))
 have hz := zsec_run
 clear h hn hr ho hb hw ha hf hk hi hz0 hz1 hz2
 go_enter Tryz.func95, Tryz.ntmps95
 go_wp2_with fail
 refine HR.out.mono ?_
 rintro e w1 ⟨rfl, rfl⟩
 go_wp2_with fail
 refine HFI.out.mono ?_
 rintro e w2 ⟨rfl, k2⟩
 have HK2 := Lib.hid k2
 clear k2
 go_wp2_with (refine wpList_store_blk rfl 90 (.tmp 8) (.tmp 20) rfl _ _ zsec (bvs (full b)) (Blk.new _ _ _) rfl rfl (by rw [bvs_length, HFB.out, zsec_length]) HSZ.out (bvs_one _) ?_
              intro w3 hB3 k3 z3
              obtain ⟨g3, hg3⟩ : ∃ g3, g3 = w2.heap.size := ⟨_, rfl⟩
              rw [← hg3] at hB3 ⊢
              have HB3 := Lib.hid hB3
              have HK3 := Lib.hid ((HK2.out.alloc _).since k3 (fun i e => by have e : i = w2.heap.size := e; have := HK2.out.size; omega))
              have HG3 := Lib.hid (show w.heap.size ≤ g3 by rw [hg3]; exact HK2.out.size)
              clear hB3 k3 z3 hg3)
 -- the sector is written
 refine wp_region_still_tail 7 (by kernel_rfl) (by kernel_rfl) ?_
 change wpStill _ _ w3.drew (fun a' => wpList _ _ _ _ a' w3.drew) _ _
 have HK4 := Lib.hid HK3.out.drew
 have HB4 := Lib.hid (HB3.out.keep (Kp.refl nob w3).drew (fun e => e))
 have HD4 := Lib.hid (HD.out.keep0 HK4.out)
 have hc0 := HD4.out.cells.1
 have hld := run_loadAt_mid (P := Tryz.prog) w3.drew g3 0 90 (bvs (full b)) _ HB4.out.range sec_under rfl HSZ.out
 generalize w3.drew = w4 at *
 clear HB3 HK3
 simp only [List.take_succ_cons, List.take_zero, List.drop_succ_cons, List.drop_zero]
 repeat (first | still_step | (refine wpStill_load rfl 90 (.tmp 8) rfl _ _ rfl hld ?_))
 refine wpStill_nil ?_
 clear hld hc0
 go_wp2_with (refine wpList_store_in rfl 90 (.tmp 31) (.tmp 30) rfl N (p * 256) _ _ (bvs (full b)) HD4.out.now rfl rfl HFL.out HSZ.out (bvs_one _) ?_; intro w5 hB5 k5 z5; rw [HFS.out] at hB5; have HN5 := Lib.hid hB5; have HK5 := Lib.hid k5; clear hB5 k5 z5)
 have HG5 := Lib.hid (HD4.out.b.keep HK5.out (fun e => HD.out.ne.1 e.symm))
 have HS5 := Lib.hid (HD4.out.safe.keep HK5.out (fun e => HD.out.ne.2.2 e.symm))
 have HW5 := Lib.hid (HD4.out.waits.keep HK5.out (fun j e e2 => (HD.out.nw j e).2.1 e2))
 have HB5 := Lib.hid (HB4.out.keep HK5.out (fun e => by have := HD.out.lt N (.inr (.inl rfl)); have := HG3.out; have e : g3 = N := e; omega))
 have HKW := Lib.hid ((HK4.out.nob (dF g N S W)).trans HK5.out (fun i e => .inl (.inr (.inl e))))
 clear HD4 HB4
 -- it waits
 have HK6 := Lib.hid (Kp.refl nob w5).drew
 have HS6 := Lib.hid (HB5.out.keep HK6.out (fun e => e))
 have HG6 := Lib.hid (HG5.out.keep HK6.out (fun e => e))
 have HOW6 := Lib.hid (HW5.out.keep HK6.out (fun _ _ e => e))
 refine reg_begin (fun w' => Blk w' g3 90 (bvs (full b))) (by kernel_rfl) HS6.out (fun _ => ?_)
 generalize w5.drew = w6 at *
 refine reg_tk (v := .pointer (some ⟨g, 0, none⟩)) 0 32 rfl rfl (by kernel_rfl) (by rfl) HS6.out (fun w hw => by go_simp) ?_; simp only [Act.put, zp1, zp2, zp3]
 refine reg_tk (v := .pointer (some ⟨g, 0, none⟩)) 1 33 rfl rfl (by kernel_rfl) (by rfl) HS6.out (fun w hw => by go_simp) ?_; simp only [Act.put, zp1, zp2, zp3]
 refine reg_tk (v := .pointer (some ⟨g, 0, none⟩)) 2 34 rfl rfl (by kernel_rfl) (by rfl) HS6.out (fun w hw => by go_simp) ?_; simp only [Act.put, zp1, zp2, zp3]
 refine reg_tk (v := .pointer (some ⟨g, 2, none⟩)) 3 35 rfl rfl (by kernel_rfl) (by rfl) HS6.out (fun w hw => by go_simp) ?_; simp only [Act.put, zp1, zp2, zp3]
 refine reg_tk (v := .int .i64 (p : Int)) 5 37 rfl rfl (by kernel_rfl) (by rfl) HS6.out (fun w hw => by go_simp) ?_; simp only [Act.put, zp1, zp2, zp3]
 refine reg_load 6 (some 38) 90 (.tmp 8) rfl rfl rfl (by kernel_rfl) (by kernel_rfl) (by kernel_rfl) (by rfl) HS6.out g3 0 rfl (bvs (full b)) _ (fun w hw => hw.range) sec_under rfl HSZ.out ?_; simp only [Act.put, zp1, zp2, zp3]
 refine reg_tk (v := .agg (.int .i64 (p : Int) :: bvs (full b)).toArray) 7 39 rfl rfl (by kernel_rfl) (by rfl) HS6.out (fun w hw => by exact exec_bld _ _ rfl [(0, .int .i64 (p : Int)), (1, .agg (bvs (full b)).toArray)] _ rfl (build_wr _ _ HFB.out _)) ?_; simp only [Act.put, zp1, zp2, zp3]
 have HS7 := Lib.hid (HS6.out.alloc (.cells (.int .i64 (p : Int) :: bvs (full b)).toArray 95))
 have HG7 := Lib.hid (HG6.out.alloc (.cells (.int .i64 (p : Int) :: bvs (full b)).toArray 95))
 have hc6 : w6.cell? ⟨g, 2, none⟩ = some (.slice W D.waits.length cW) := by rw [HG6.out.cell]; rfl
 have hc7 : (w6.alloc (.cells (.int .i64 (p : Int) :: bvs (full b)).toArray 95)).cell? ⟨g, 2, none⟩ = some (.slice W D.waits.length cW) := by rw [HG7.out.cell]; rfl
 refine reg_stepOr (v := .slice W D.waits.length cW) (wi := w6) (u := .slice (some ⟨w6.heap.size, 0, none⟩) 1 1) (wj := w6.alloc (.cells (.int .i64 (p : Int) :: bvs (full b)).toArray 95)) 4 8 (some 36) (some 40) rfl rfl rfl rfl (by kernel_rfl) (by rfl) (by rfl) (by clear hc7; go_simp) (exec_slice_wr (.tmp 39) (p : Int) (full b) HFB.out rfl rfl) HS6.out HS7.out (fun _ => ?_) (fun _ => ?_)
 case' refine_1 =>
  simp only [Act.put, zp1, zp2, zp3]
  refine reg_step 8 (some 40) rfl rfl (by kernel_rfl) (by rfl) (exec_slice_wr (.tmp 39) (p : Int) (full b) HFB.out rfl rfl) HS7.out (fun _ => ?_)
 case' refine_2 =>
  simp only [Act.put, zp1, zp2, zp3]
  refine reg_step (w' := w6.alloc (.cells (.int .i64 (p : Int) :: bvs (full b)).toArray 95)) (v := .slice W D.waits.length cW) 4 (some 36) rfl rfl (by kernel_rfl) (by rfl) (by clear hc6; go_simp) HS7.out (fun _ => ?_)
 all_goals
  simp only [Act.put, zp1, zp2, zp3]
  have HNW := Lib.hid HD.out.nw
  refine reg_appK 9 (some 41) (.tmp 36) (.tmp 40) 84 rfl rfl rfl (by kernel_rfl) (by rfl) 257 (by decide) 95 i0 _ 264 wrs_under HI.out.1 HI.out.2.1 HI.out.2.2.1 HI.out.2.2.2 zwr_cells W D.waits.length cW (D.waits.flatMap wcell) rfl (HOW6.out.alloc _) ⟨w6.heap.size, 0, none⟩ 1 1 (wcell (p, full b)) rfl (by rw [wcell_length _ HFB.out]) (row_new w6 (wcell (p, full b)) _) (wcell_one _) (by have := HWL.out; omega) (by have := HWL.out; omega) ?_
  intro W2 c2 w7 o7 g7 a7
  have hF7 : Kp (fun i => ab W = some i) (w6.alloc (.cells (.int .i64 (p : Int) :: bvs (full b)).toArray 95)) w7 := (Kp.refl _ _).grown g7 (fun k e => .inl e)
  have HS8 := Lib.hid (HS7.out.keep hF7 (fun e => by have := HD.out.waits.lt g3 e; have := HG3.out; omega))
  have HG8 := Lib.hid (HG7.out.keep hF7 (fun e => (HNW.out g e).1 rfl))
  have HK67 : Hid (Kp (fun i => ab W = some i) w6 w7) := Lib.hid (((Kp.refl _ w6).alloc _).trans hF7 (fun i e => .inl e))
  have HO7 := Lib.hid o7
  have hsz6 : w.heap.size ≤ w6.heap.size := Nat.le_trans HKW.out.size HK6.out.size
  have HW7 : Hid (∀ k, ab W2 = some k → ab W = some k ∨ w.heap.size ≤ k) := Lib.hid (fun k e => by
   rcases a7 with h | h
   · exact .inl (by rw [← h]; exact e)
   · rw [h] at e; cases e; right; simp; omega)
  clear o7 g7 a7 hF7
  refine ⟨HS8.out, fun _ => ?_⟩
  simp only [Act.put, zp1, zp2, zp3]
  refine reg_tk (v := .pointer (some ⟨g, 0, none⟩)) 10 42 rfl rfl (by kernel_rfl) (by rfl) HS8.out (fun w hw => by go_simp) ?_; simp only [Act.put, zp1, zp2, zp3]
  refine reg_tk (v := .pointer (some ⟨g, 2, none⟩)) 11 43 rfl rfl (by kernel_rfl) (by rfl) HS8.out (fun w hw => by go_simp) ?_; simp only [Act.put, zp1, zp2, zp3]
  have HN7 := Lib.hid ((HN5.out.keep HK6.out (fun e => e)).keep HK67.out (fun e => (HNW.out N e).2.1 rfl))
  have HSA7 := Lib.hid ((HS5.out.keep HK6.out (fun e => e)).keep HK67.out (fun e => (HNW.out S e).2.2 rfl))
  have c2' : w7.cell? ⟨g, 2, none⟩ = some (.slice W D.waits.length cW) := by rw [HG8.out.cell]; rfl
  have f2' : w7.frozen? ⟨g, 2, none⟩ = false := HG8.out.frozen _
  have kg : Kp (oneB g) w7 (w7.setCell ⟨g, 2, none⟩ (.slice W2 (D.waits.length + 1) c2)) := (Kp.refl (oneB g) w7).setCell (p := ⟨g, 2, none⟩) (.inl rfl) _
  have hbg := HG8.out.set_ 2 (.slice W2 (D.waits.length + 1) c2)
  have hlt := HD.out.lt
  have hnw2 : ∀ k, ab W2 = some k → k ≠ g ∧ k ≠ N ∧ k ≠ S := fun k e => by
   rcases HW7.out k e with h | h
   · exact HNW.out k h
   · have h1 := hlt g (.inl rfl); have h2 := hlt N (.inr (.inl rfl)); have h3 := hlt S (.inr (.inr (.inl rfl)))
     exact ⟨by omega, by omega, by omega⟩
  have hcd := cd_wrote HD.out p b HP.out HBL.out hbg (HN7.out.keep kg HD.out.ne.1) (HSA7.out.keep kg HD.out.ne.2.1) (HO7.out.keep kg (fun k e e2 => (hnw2 k e).1 e2)) hnw2
  have HCD := Lib.hid hcd
  have HKZ := Lib.hid (((HKW.out.trans HK6.out (fun _ e => e.elim)).trans HK67.out (fun i e => .inl (.inr (.inr (.inr e))))).trans kg (fun i e => .inl (.inl e)))
  have HS9 := Lib.hid (HS8.out.keep kg (fun e => by have h1 := hlt g (.inl rfl); have := HG3.out; have e : g3 = g := e; omega))
  clear hcd hlt hnw2 hbg kg
  refine reg_mute (w' := w7.setCell ⟨g, 2, none⟩ (.slice W2 (D.waits.length + 1) c2)) 12 none rfl rfl (by kernel_rfl) (by rfl) (by go_simp) HS9.out (fun _ => ?_)
  simp only [Act.put, zp1, zp2, zp3]
  refine reg_end (by kernel_rfl) ?_
  clear c2' f2' hc6 hc7
  go_wp2_with fail
  refine (HAA.out _ W2 c2 HCD.out).mono ?_
  rintro e w8 ⟨rfl, h8⟩
  have H8 := Lib.hid h8
  clear h8
  go_wp2
  go_ret
  exact ⟨rfl, Dz.trans HKZ.out HW7.out H8.out⟩
theorem write_any (D : Dk) (i : Int) (A : Option Addr) (n c : Nat) (b : List UInt8) (g N S : Nat) (W : Option Addr) (cW : Nat) (w : World) (h : Cd w g N S W cW D) (hn : b.length = n) (hr : Row w A (bvs b)) (hm : n ≤ 140737488355328)
    (hw : D.waits.length ≤ 99999) (ha : D.acts ≤ 1000000000000) (hf : D.fuse ≤ 9223372036854775807) (hk : D.keep < 18446744073709551616) :
    Calls Tryz.prog 95 #[.pointer (some ⟨g, 0, none⟩), .int .i64 i, .slice A n c] w fun e w' => e = .returned (.int .i64 (write E8 D i b).2) ∧ Dz w g N S W (write E8 D i b).1 w' := by
 by_cases hno : D.off = true ∨ (i < 0 ∨ (D.now.length : Int) ≤ i) ∨ 256 < b.length
 · refine (write_no D i A n c b g N S W cW w h hn hr (by simp [maxLen]; omega) hno).mono ?_
   rintro e w' ⟨rfl, h2, k⟩
   rw [h2]
   exact ⟨rfl, h.self.then k⟩
 · have h1 : D.off = false := by
     cases ho : D.off with
     | false => rfl
     | true => exact absurd (.inl ho) hno
   obtain ⟨p, rfl⟩ : ∃ p : Nat, i = p := ⟨i.toNat, by omega⟩
   exact write_yes D p A n c b g N S W cW w h hn hr h1 (by omega) (by omega) hw ha hf hk
structure Sm (D : Dk) (k m : Nat) : Prop where
 acts : D.acts ≤ k
 waits : D.waits.length ≤ k
 fuse : D.fuse ≤ 9223372036854775807
 keep : D.keep < 18446744073709551616
 len : D.now.length = m
theorem Sm.act {D : Dk} {k m : Nat} (h : Sm D k m) : Sm (act D).1 (k + 1) m := by
 cases ho : D.off with
 | true => rw [act_off D ho]; exact ⟨by have := h.acts; show D.acts ≤ _; omega, by have := h.waits; show D.waits.length ≤ _; omega, h.fuse, h.keep, h.len⟩
 | false => rw [act_on D ho]; exact ⟨by have := h.acts; show D.acts + 1 ≤ _; omega, by have := h.waits; show D.waits.length ≤ _; omega, by have := h.fuse; show D.fuse - 1 ≤ _; omega, h.keep, h.len⟩
theorem Sm.lose {D : Dk} {k m : Nat} (h : Sm D k m) (hok : Ok D) (q : Nat) : Sm (lose D q) k m := by
 have hl := lose_length D q hok
 cases ho : D.off with
 | true => rw [lose_off D q ho]; exact h
 | false =>
   refine ⟨?_, ?_, ?_, ?_, by rw [hl, h.len]⟩ <;> rw [lose_on D q ho]
   · exact h.acts
   · exact Nat.zero_le _
   · exact Nat.zero_le _
   · exact h.keep
theorem Sm.write {D : Dk} {k m : Nat} (h : Sm D k m) (hok : Ok D) (i : Int) (b : List UInt8) : Sm (write E8 D i b).1 (k + 1) m := by
 have h0 : Sm D (k + 1) m := ⟨by have := h.acts; omega, by have := h.waits; omega, h.fuse, h.keep, h.len⟩
 unfold Disk.write
 split
 · exact h0
 · split
   · exact h0
   · split
     · exact h0
     · rename_i h1 h2 h3
       have ha := h.act
       have hon := act_on D (by simpa using h1)
       have hw : Sm (wrote (Disk.act D).1 i.toNat b) (k + 1) m := by
        refine ⟨ha.acts, ?_, ha.fuse, ha.keep, by show ((Disk.act D).1.now.set _ _).length = _; rw [List.length_set]; exact ha.len⟩
        show ((Disk.act D).1.waits ++ [_]).length ≤ _
        rw [act_length, List.length_append]
        have := h.waits
        simp; omega
       split
       · exact hw.lose (wrote_ok _ _ _ (act_ok D hok) (by rw [hon]; simp only; omega) (by omega)) _
       · exact hw
theorem Sm.sync {D : Dk} {k m : Nat} (h : Sm D k m) (hok : Ok D) : Sm (sync E8 D).1 (k + 1) m := by
 have h0 : Sm D (k + 1) m := ⟨by have := h.acts; omega, by have := h.waits; omega, h.fuse, h.keep, h.len⟩
 unfold Disk.sync
 split
 · exact h0
 · split
   · exact h.act.lose (act_ok D hok) _
   · exact ⟨h.act.acts, Nat.zero_le _, h.act.fuse, h.act.keep, h.act.len⟩
theorem secs_zero (n : Nat) : (List.replicate n z256).flatMap bvs = List.replicate (n * 256) (bv 0) := by
 induction n with
 | zero => rw [Nat.zero_mul]; rfl
 | succ n ih => rw [List.replicate_succ, List.flatMap_cons, ih, z256, bvs, List.map_replicate, List.replicate_append_replicate, Nat.succ_mul, Nat.add_comm]
theorem zsec_at (j : Nat) (h : j < 256) : zsec.toArray[j]! = bv 0 := by
 have h1 : zsec[j]? = some (bv 0) := by
  rw [zsec, bvs, List.getElem?_map, z256, List.getElem?_replicate, if_pos h]; rfl
 have h2 : zsec.toArray[j]? = some (bv 0) := by rw [List.getElem?_toArray]; exact h1
 rw [getElem!_def, h2]
theorem made_secs (n : Nat) : madeCells zsec.toArray (n * 256) = ((List.replicate n z256).flatMap bvs).toArray := by
 rw [secs_zero]
 have hz : zsec.toArray.size = 256 := by rw [List.size_toArray, zsec_length]
 apply Array.ext_getElem?
 intro i
 rw [madeCells, Array.getElem?_map, List.getElem?_toArray (xs := List.replicate (n * 256) (bv 0)), List.getElem?_replicate]
 by_cases h : i < n * 256
 · rw [Array.getElem?_range, if_pos h, if_pos h, Option.map_some, hz, zsec_at _ (Nat.mod_lt _ (by decide))]
 · rw [Array.getElem?_range, if_neg h, if_neg h]; rfl
theorem secs_under : Tryz.prog.underlying 83 = some (.slice 90) := by kernel_rfl
theorem sec_info : (Tryz.prog.info? 90).map (fun i => (i.zero, i.size, i.bytes)) = some (some (.agg zsec.toArray), 256, 256) := by kernel_rfl
theorem make_secs (n : Nat) (hn : n ≤ 4096) (w : World) : (Instr.makeSlice 83 (.int .i64 (n : Int)) (.int .i64 (n : Int))).run Tryz.prog w = .ok (.slice (some ⟨w.heap.size, 0, none⟩) n n) (w.alloc (.cells ((List.replicate n z256).flatMap bvs).toArray 90)) := by
 obtain ⟨i0, hi, hz0, hz1, hz2⟩ := info_parts3 sec_info
 have hr := run_make (P := Tryz.prog) w 83 90 i0 _ secs_under hi hz0 .i64 .i64 n n (by omega) (by omega) (by rw [hz2]; omega) (by omega)
 rw [hz1, Int.toNat_natCast, show (Value.agg zsec.toArray).cells = zsec.toArray from rfl, made_secs] at hr
 exact hr
def clamp (n : Int) : Nat := min n.toNat 4096
theorem new_cd {w : World} {g N S n : Nat} (hn : n ≤ 4096) (hB : Blk w g 86 [.slice (some ⟨N, 0, none⟩) n n, .slice (some ⟨S, 0, none⟩) n n, .slice none 0 0, .bool false, .int .i64 0, .int .i64 0, .int .u64 0])
    (hN : Blk w N 90 ((List.replicate n z256).flatMap bvs)) (hS : Blk w S 90 ((List.replicate n z256).flatMap bvs)) (ne : N ≠ g ∧ S ≠ g ∧ N ≠ S) : Cd w g N S none 0 (new n) := by
 refine ⟨?_, hN, hS, OwnK.nil _ _ _, new_ok n, rfl, ?_, ne, fun k e => by cases e⟩
 · show Blk _ _ _ [.slice _ (List.replicate n (full [])).length (List.replicate n (full [])).length, .slice _ (List.replicate n (full [])).length (List.replicate n (full [])).length, _, _, _, _, _]
   rw [List.length_replicate]
   exact hB
 · show (List.replicate n (full [])).length ≤ 4096
   rw [List.length_replicate]; exact hn
theorem dk_cells (N S m : Nat) (w : World) : (Instr.build 86 #[(0, .slice (some ⟨N, 0, none⟩) m m), (1, .slice (some ⟨S, 0, none⟩) m m)]).run Tryz.prog w = .ok (.agg #[.slice (some ⟨N, 0, none⟩) m m, .slice (some ⟨S, 0, none⟩) m m, .slice none 0 0, .bool false, .int .i64 0, .int .i64 0, .int .u64 0]) w := by kernel_rfl
theorem new_end {a m : Nat} {w w1 : World} {N S : Nat} (hm : m ≤ 4096) (h1 : Kp nob w w1) (ha : w1.heap.size = a) (hNS : (N = a ∧ S = a + 1) ∨ (N = a + 1 ∧ S = a)) :
    Cd (((w1.alloc (.cells ((List.replicate m z256).flatMap bvs).toArray 90)).alloc (.cells ((List.replicate m z256).flatMap bvs).toArray 90)).alloc (.cells #[.slice (some ⟨N, 0, none⟩) m m, .slice (some ⟨S, 0, none⟩) m m, .slice none 0 0, .bool false, .int .i64 0, .int .i64 0, .int .u64 0] 86)) (a + 2) N S none 0 (new m) ∧ Kp nob w (((w1.alloc (.cells ((List.replicate m z256).flatMap bvs).toArray 90)).alloc (.cells ((List.replicate m z256).flatMap bvs).toArray 90)).alloc (.cells #[.slice (some ⟨N, 0, none⟩) m m, .slice (some ⟨S, 0, none⟩) m m, .slice none 0 0, .bool false, .int .i64 0, .int .i64 0, .int .u64 0] 86)) ∧ (∀ k, dF (a + 2) N S none k → w.heap.size ≤ k) := by
 have hs := h1.size
 have b1 : Blk (w1.alloc (.cells ((List.replicate m z256).flatMap bvs).toArray 90)) a 90 ((List.replicate m z256).flatMap bvs) := Blk.new' ha.symm rfl
 have b2 : Blk ((w1.alloc (.cells ((List.replicate m z256).flatMap bvs).toArray 90)).alloc (.cells ((List.replicate m z256).flatMap bvs).toArray 90)) (a + 1) 90 ((List.replicate m z256).flatMap bvs) := Blk.new' (by simp [ha]) rfl
 refine ⟨new_cd hm (Blk.new' (by simp [ha]) rfl) ?_ ?_ ?_, ((h1.alloc _).alloc _).alloc _, ?_⟩
 · rcases hNS with ⟨rfl, rfl⟩ | ⟨rfl, rfl⟩
   · exact (b1.alloc _).alloc _
   · exact b2.alloc _
 · rcases hNS with ⟨rfl, rfl⟩ | ⟨rfl, rfl⟩
   · exact b2.alloc _
   · exact (b1.alloc _).alloc _
 · rcases hNS with ⟨rfl, rfl⟩ | ⟨rfl, rfl⟩ <;> exact ⟨by omega, by omega, by omega⟩
 · intro k e
   rcases e with e | e | e | e
   · omega
   · rcases hNS with ⟨rfl, rfl⟩ | ⟨rfl, rfl⟩ <;> omega
   · rcases hNS with ⟨rfl, rfl⟩ | ⟨rfl, rfl⟩ <;> omega
   · cases e
theorem exec_mk {act : Act} {o : Oper} {w w' : World} {r : Value} (x : Operand) (V : Int) (m : Nat) (ho : o.op = .makeSlice 83 x x) (hx : act.eval x = .int .i64 V) (h : (Instr.makeSlice 83 (.int .i64 V) (.int .i64 V)).run Tryz.prog w = .ok r w') :
    (execOp act.eval o).run Tryz.prog w = .ok (.value r) w' := by
 unfold execOp
 simp only [ho, hx, Sem.run_bind, h, Result.andThen_ok, Sem.run_pure]
theorem new_any (n : Int) (w : World) :
    Calls Tryz.prog 31 #[.int .i64 n] w fun e w' => ∃ g N S, e = .returned (.pointer (some ⟨g, 0, none⟩)) ∧ Cd w' g N S none 0 (new (clamp n)) ∧ Kp nob w w' ∧ (∀ k, dF g N S none k → w.heap.size ≤ k) := by
 obtain ⟨m, hm⟩ : ∃ m, m = clamp n := ⟨_, rfl⟩
 have h1 : m ≤ 4096 := by rw [hm]; exact Nat.min_le_right _ _
 have hmk0 := fun w => make_secs m h1 w
 rw [← hm]
 have HM := Lib.hid h1
 by_cases hn : n < 0
 · have hmk := fun w => (show _ = _ from hmk0 w)
   rw [show ((m : Nat) : Int) = 0 by unfold clamp at hm; omega] at hmk
   clear hm h1 hmk0
   go_enter Tryz.func31, Tryz.ntmps31
   go_wp2
   have HK1 := Lib.hid (Kp.refl nob w).drew
   refine reg_begin (fun _ => True) (by kernel_rfl) trivial (fun _ => ?_)
   obtain ⟨a, ha⟩ : ∃ a, w.drew.heap.size = a := ⟨_, rfl⟩
   have HA := Lib.hid ha
   generalize w.drew = w1 at *
   refine reg_tk (v := .int .i64 0) 0 6 rfl rfl (by kernel_rfl) (by rfl) trivial (fun w hw => by go_simp) ?_; simp only [Act.put, zp1, zp2, zp3]
   refine reg_tk (v := .int .i64 0) 2 8 rfl rfl (by kernel_rfl) (by rfl) trivial (fun w hw => by go_simp) ?_; simp only [Act.put, zp1, zp2, zp3]
   refine reg_stepOr (v := .slice (some ⟨w1.heap.size, 0, none⟩) m m) (wi := w1.alloc (.cells ((List.replicate m z256).flatMap bvs).toArray 90)) (u := .slice (some ⟨w1.heap.size, 0, none⟩) m m) (wj := w1.alloc (.cells ((List.replicate m z256).flatMap bvs).toArray 90)) 1 3 (some 7) (some 9) rfl rfl rfl rfl (by kernel_rfl) (by rfl) (by rfl) (exec_mk (.tmp 6) 0 m rfl rfl (hmk _)) (exec_mk (.tmp 8) 0 m rfl rfl (hmk _)) trivial trivial (fun _ => ?_) (fun _ => ?_)
   case' refine_1 =>
    simp only [Act.put, zp1, zp2, zp3]
    refine reg_step (v := .slice (some ⟨(w1.alloc (.cells ((List.replicate m z256).flatMap bvs).toArray 90)).heap.size, 0, none⟩) m m) (w' := (w1.alloc (.cells ((List.replicate m z256).flatMap bvs).toArray 90)).alloc (.cells ((List.replicate m z256).flatMap bvs).toArray 90)) 3 (some 9) rfl rfl (by kernel_rfl) (by rfl) (exec_mk (.tmp 8) 0 m rfl rfl (hmk _)) trivial (fun _ => ?_)
    simp only [Act.put, zp1, zp2, zp3]
    rw [show (w1.alloc (.cells ((List.replicate m z256).flatMap bvs).toArray 90)).heap.size = a + 1 by simp [HA.out], HA.out]
    refine reg_tk (v := .agg #[.slice (some ⟨a, 0, none⟩) m m, .slice (some ⟨a + 1, 0, none⟩) m m, .slice none 0 0, .bool false, .int .i64 0, .int .i64 0, .int .u64 0]) 4 10 rfl rfl (by kernel_rfl) (by rfl) trivial (fun w hw => by exact exec_bld _ _ rfl [(0, .slice (some ⟨a, 0, none⟩) m m), (1, .slice (some ⟨a + 1, 0, none⟩) m m)] _ rfl (dk_cells _ _ _ _)) ?_; simp only [Act.put, zp1, zp2, zp3]
    refine reg_step (v := .pointer (some ⟨((w1.alloc (.cells ((List.replicate m z256).flatMap bvs).toArray 90)).alloc (.cells ((List.replicate m z256).flatMap bvs).toArray 90)).heap.size, 0, none⟩)) (w' := ((w1.alloc (.cells ((List.replicate m z256).flatMap bvs).toArray 90)).alloc (.cells ((List.replicate m z256).flatMap bvs).toArray 90)).alloc (.cells #[.slice (some ⟨a, 0, none⟩) m m, .slice (some ⟨a + 1, 0, none⟩) m m, .slice none 0 0, .bool false, .int .i64 0, .int .i64 0, .int .u64 0] 86)) 5 (some 11) rfl rfl (by kernel_rfl) (by rfl) (by kernel_rfl) trivial (fun _ => ?_)
    simp only [Act.put, zp1, zp2, zp3]
    rw [show ((w1.alloc (.cells ((List.replicate m z256).flatMap bvs).toArray 90)).alloc (.cells ((List.replicate m z256).flatMap bvs).toArray 90)).heap.size = a + 2 by simp [HA.out]]
    refine reg_tk (v := .pointer (some ⟨a + 2, 0, none⟩)) 6 2 rfl rfl (by kernel_rfl) (by rfl) trivial (fun w hw => by go_simp) ?_; simp only [Act.put, zp1, zp2, zp3]
    refine reg_end (by kernel_rfl) ?_
    go_wp2
    go_ret
    exact ⟨a + 2, a, a + 1, rfl, new_end HM.out HK1.out HA.out (.inl ⟨rfl, rfl⟩)⟩
   case' refine_2 =>
    simp only [Act.put, zp1, zp2, zp3]
    refine reg_step (v := .slice (some ⟨(w1.alloc (.cells ((List.replicate m z256).flatMap bvs).toArray 90)).heap.size, 0, none⟩) m m) (w' := (w1.alloc (.cells ((List.replicate m z256).flatMap bvs).toArray 90)).alloc (.cells ((List.replicate m z256).flatMap bvs).toArray 90)) 1 (some 7) rfl rfl (by kernel_rfl) (by rfl) (exec_mk (.tmp 6) 0 m rfl rfl (hmk _)) trivial (fun _ => ?_)
    simp only [Act.put, zp1, zp2, zp3]
    rw [show (w1.alloc (.cells ((List.replicate m z256).flatMap bvs).toArray 90)).heap.size = a + 1 by simp [HA.out], HA.out]
    refine reg_tk (v := .agg #[.slice (some ⟨a + 1, 0, none⟩) m m, .slice (some ⟨a, 0, none⟩) m m, .slice none 0 0, .bool false, .int .i64 0, .int .i64 0, .int .u64 0]) 4 10 rfl rfl (by kernel_rfl) (by rfl) trivial (fun w hw => by exact exec_bld _ _ rfl [(0, .slice (some ⟨a + 1, 0, none⟩) m m), (1, .slice (some ⟨a, 0, none⟩) m m)] _ rfl (dk_cells _ _ _ _)) ?_; simp only [Act.put, zp1, zp2, zp3]
    refine reg_step (v := .pointer (some ⟨((w1.alloc (.cells ((List.replicate m z256).flatMap bvs).toArray 90)).alloc (.cells ((List.replicate m z256).flatMap bvs).toArray 90)).heap.size, 0, none⟩)) (w' := ((w1.alloc (.cells ((List.replicate m z256).flatMap bvs).toArray 90)).alloc (.cells ((List.replicate m z256).flatMap bvs).toArray 90)).alloc (.cells #[.slice (some ⟨a + 1, 0, none⟩) m m, .slice (some ⟨a, 0, none⟩) m m, .slice none 0 0, .bool false, .int .i64 0, .int .i64 0, .int .u64 0] 86)) 5 (some 11) rfl rfl (by kernel_rfl) (by rfl) (by kernel_rfl) trivial (fun _ => ?_)
    simp only [Act.put, zp1, zp2, zp3]
    rw [show ((w1.alloc (.cells ((List.replicate m z256).flatMap bvs).toArray 90)).alloc (.cells ((List.replicate m z256).flatMap bvs).toArray 90)).heap.size = a + 2 by simp [HA.out]]
    refine reg_tk (v := .pointer (some ⟨a + 2, 0, none⟩)) 6 2 rfl rfl (by kernel_rfl) (by rfl) trivial (fun w hw => by go_simp) ?_; simp only [Act.put, zp1, zp2, zp3]
    refine reg_end (by kernel_rfl) ?_
    go_wp2
    go_ret
    exact ⟨a + 2, a + 1, a, rfl, new_end HM.out HK1.out HA.out (.inr ⟨rfl, rfl⟩)⟩
 · by_cases hb : 4096 < n
   · have hmk := fun w => (show _ = _ from hmk0 w)
     rw [show ((m : Nat) : Int) = 4096 by unfold clamp at hm; omega] at hmk
     have h0 : 0 ≤ n := by omega
     clear hm h1 hmk0 hn
     go_enter Tryz.func31, Tryz.ntmps31
     go_wp2
     have HK1 := Lib.hid (Kp.refl nob w).drew
     refine reg_begin (fun _ => True) (by kernel_rfl) trivial (fun _ => ?_)
     obtain ⟨a, ha⟩ : ∃ a, w.drew.heap.size = a := ⟨_, rfl⟩
     have HA := Lib.hid ha
     generalize w.drew = w1 at *
     refine reg_tk (v := .int .i64 4096) 0 6 rfl rfl (by kernel_rfl) (by rfl) trivial (fun w hw => by go_simp) ?_; simp only [Act.put, zp1, zp2, zp3]
     refine reg_tk (v := .int .i64 4096) 2 8 rfl rfl (by kernel_rfl) (by rfl) trivial (fun w hw => by go_simp) ?_; simp only [Act.put, zp1, zp2, zp3]
     refine reg_stepOr (v := .slice (some ⟨w1.heap.size, 0, none⟩) m m) (wi := w1.alloc (.cells ((List.replicate m z256).flatMap bvs).toArray 90)) (u := .slice (some ⟨w1.heap.size, 0, none⟩) m m) (wj := w1.alloc (.cells ((List.replicate m z256).flatMap bvs).toArray 90)) 1 3 (some 7) (some 9) rfl rfl rfl rfl (by kernel_rfl) (by rfl) (by rfl) (exec_mk (.tmp 6) 4096 m rfl rfl (hmk _)) (exec_mk (.tmp 8) 4096 m rfl rfl (hmk _)) trivial trivial (fun _ => ?_) (fun _ => ?_)
     case' refine_1 =>
      simp only [Act.put, zp1, zp2, zp3]
      refine reg_step (v := .slice (some ⟨(w1.alloc (.cells ((List.replicate m z256).flatMap bvs).toArray 90)).heap.size, 0, none⟩) m m) (w' := (w1.alloc (.cells ((List.replicate m z256).flatMap bvs).toArray 90)).alloc (.cells ((List.replicate m z256).flatMap bvs).toArray 90)) 3 (some 9) rfl rfl (by kernel_rfl) (by rfl) (exec_mk (.tmp 8) 4096 m rfl rfl (hmk _)) trivial (fun _ => ?_)
      simp only [Act.put, zp1, zp2, zp3]
      rw [show (w1.alloc (.cells ((List.replicate m z256).flatMap bvs).toArray 90)).heap.size = a + 1 by simp [HA.out], HA.out]
      refine reg_tk (v := .agg #[.slice (some ⟨a, 0, none⟩) m m, .slice (some ⟨a + 1, 0, none⟩) m m, .slice none 0 0, .bool false, .int .i64 0, .int .i64 0, .int .u64 0]) 4 10 rfl rfl (by kernel_rfl) (by rfl) trivial (fun w hw => by exact exec_bld _ _ rfl [(0, .slice (some ⟨a, 0, none⟩) m m), (1, .slice (some ⟨a + 1, 0, none⟩) m m)] _ rfl (dk_cells _ _ _ _)) ?_; simp only [Act.put, zp1, zp2, zp3]
      refine reg_step (v := .pointer (some ⟨((w1.alloc (.cells ((List.replicate m z256).flatMap bvs).toArray 90)).alloc (.cells ((List.replicate m z256).flatMap bvs).toArray 90)).heap.size, 0, none⟩)) (w' := ((w1.alloc (.cells ((List.replicate m z256).flatMap bvs).toArray 90)).alloc (.cells ((List.replicate m z256).flatMap bvs).toArray 90)).alloc (.cells #[.slice (some ⟨a, 0, none⟩) m m, .slice (some ⟨a + 1, 0, none⟩) m m, .slice none 0 0, .bool false, .int .i64 0, .int .i64 0, .int .u64 0] 86)) 5 (some 11) rfl rfl (by kernel_rfl) (by rfl) (by kernel_rfl) trivial (fun _ => ?_)
      simp only [Act.put, zp1, zp2, zp3]
      rw [show ((w1.alloc (.cells ((List.replicate m z256).flatMap bvs).toArray 90)).alloc (.cells ((List.replicate m z256).flatMap bvs).toArray 90)).heap.size = a + 2 by simp [HA.out]]
      refine reg_tk (v := .pointer (some ⟨a + 2, 0, none⟩)) 6 2 rfl rfl (by kernel_rfl) (by rfl) trivial (fun w hw => by go_simp) ?_; simp only [Act.put, zp1, zp2, zp3]
      refine reg_end (by kernel_rfl) ?_
      go_wp2
      go_ret
      exact ⟨a + 2, a, a + 1, rfl, new_end HM.out HK1.out HA.out (.inl ⟨rfl, rfl⟩)⟩
     case' refine_2 =>
      simp only [Act.put, zp1, zp2, zp3]
      refine reg_step (v := .slice (some ⟨(w1.alloc (.cells ((List.replicate m z256).flatMap bvs).toArray 90)).heap.size, 0, none⟩) m m) (w' := (w1.alloc (.cells ((List.replicate m z256).flatMap bvs).toArray 90)).alloc (.cells ((List.replicate m z256).flatMap bvs).toArray 90)) 1 (some 7) rfl rfl (by kernel_rfl) (by rfl) (exec_mk (.tmp 6) 4096 m rfl rfl (hmk _)) trivial (fun _ => ?_)
      simp only [Act.put, zp1, zp2, zp3]
      rw [show (w1.alloc (.cells ((List.replicate m z256).flatMap bvs).toArray 90)).heap.size = a + 1 by simp [HA.out], HA.out]
      refine reg_tk (v := .agg #[.slice (some ⟨a + 1, 0, none⟩) m m, .slice (some ⟨a, 0, none⟩) m m, .slice none 0 0, .bool false, .int .i64 0, .int .i64 0, .int .u64 0]) 4 10 rfl rfl (by kernel_rfl) (by rfl) trivial (fun w hw => by exact exec_bld _ _ rfl [(0, .slice (some ⟨a + 1, 0, none⟩) m m), (1, .slice (some ⟨a, 0, none⟩) m m)] _ rfl (dk_cells _ _ _ _)) ?_; simp only [Act.put, zp1, zp2, zp3]
      refine reg_step (v := .pointer (some ⟨((w1.alloc (.cells ((List.replicate m z256).flatMap bvs).toArray 90)).alloc (.cells ((List.replicate m z256).flatMap bvs).toArray 90)).heap.size, 0, none⟩)) (w' := ((w1.alloc (.cells ((List.replicate m z256).flatMap bvs).toArray 90)).alloc (.cells ((List.replicate m z256).flatMap bvs).toArray 90)).alloc (.cells #[.slice (some ⟨a + 1, 0, none⟩) m m, .slice (some ⟨a, 0, none⟩) m m, .slice none 0 0, .bool false, .int .i64 0, .int .i64 0, .int .u64 0] 86)) 5 (some 11) rfl rfl (by kernel_rfl) (by rfl) (by kernel_rfl) trivial (fun _ => ?_)
      simp only [Act.put, zp1, zp2, zp3]
      rw [show ((w1.alloc (.cells ((List.replicate m z256).flatMap bvs).toArray 90)).alloc (.cells ((List.replicate m z256).flatMap bvs).toArray 90)).heap.size = a + 2 by simp [HA.out]]
      refine reg_tk (v := .pointer (some ⟨a + 2, 0, none⟩)) 6 2 rfl rfl (by kernel_rfl) (by rfl) trivial (fun w hw => by go_simp) ?_; simp only [Act.put, zp1, zp2, zp3]
      refine reg_end (by kernel_rfl) ?_
      go_wp2
      go_ret
      exact ⟨a + 2, a + 1, a, rfl, new_end HM.out HK1.out HA.out (.inr ⟨rfl, rfl⟩)⟩
   · have hmk := fun w => (show _ = _ from hmk0 w)
     rw [show ((m : Nat) : Int) = n by unfold clamp at hm; omega] at hmk
     have h0 : 0 ≤ n := by omega
     have hb' : n ≤ 4096 := by omega
     clear hm h1 hmk0 hn hb
     go_enter Tryz.func31, Tryz.ntmps31
     go_wp2
     have HK1 := Lib.hid (Kp.refl nob w).drew
     refine reg_begin (fun _ => True) (by kernel_rfl) trivial (fun _ => ?_)
     obtain ⟨a, ha⟩ : ∃ a, w.drew.heap.size = a := ⟨_, rfl⟩
     have HA := Lib.hid ha
     generalize w.drew = w1 at *
     refine reg_tk (v := .int .i64 n) 0 6 rfl rfl (by kernel_rfl) (by rfl) trivial (fun w hw => by go_simp) ?_; simp only [Act.put, zp1, zp2, zp3]
     refine reg_tk (v := .int .i64 n) 2 8 rfl rfl (by kernel_rfl) (by rfl) trivial (fun w hw => by go_simp) ?_; simp only [Act.put, zp1, zp2, zp3]
     refine reg_stepOr (v := .slice (some ⟨w1.heap.size, 0, none⟩) m m) (wi := w1.alloc (.cells ((List.replicate m z256).flatMap bvs).toArray 90)) (u := .slice (some ⟨w1.heap.size, 0, none⟩) m m) (wj := w1.alloc (.cells ((List.replicate m z256).flatMap bvs).toArray 90)) 1 3 (some 7) (some 9) rfl rfl rfl rfl (by kernel_rfl) (by rfl) (by rfl) (exec_mk (.tmp 6) n m rfl rfl (hmk _)) (exec_mk (.tmp 8) n m rfl rfl (hmk _)) trivial trivial (fun _ => ?_) (fun _ => ?_)
     case' refine_1 =>
      simp only [Act.put, zp1, zp2, zp3]
      refine reg_step (v := .slice (some ⟨(w1.alloc (.cells ((List.replicate m z256).flatMap bvs).toArray 90)).heap.size, 0, none⟩) m m) (w' := (w1.alloc (.cells ((List.replicate m z256).flatMap bvs).toArray 90)).alloc (.cells ((List.replicate m z256).flatMap bvs).toArray 90)) 3 (some 9) rfl rfl (by kernel_rfl) (by rfl) (exec_mk (.tmp 8) n m rfl rfl (hmk _)) trivial (fun _ => ?_)
      simp only [Act.put, zp1, zp2, zp3]
      rw [show (w1.alloc (.cells ((List.replicate m z256).flatMap bvs).toArray 90)).heap.size = a + 1 by simp [HA.out], HA.out]
      refine reg_tk (v := .agg #[.slice (some ⟨a, 0, none⟩) m m, .slice (some ⟨a + 1, 0, none⟩) m m, .slice none 0 0, .bool false, .int .i64 0, .int .i64 0, .int .u64 0]) 4 10 rfl rfl (by kernel_rfl) (by rfl) trivial (fun w hw => by exact exec_bld _ _ rfl [(0, .slice (some ⟨a, 0, none⟩) m m), (1, .slice (some ⟨a + 1, 0, none⟩) m m)] _ rfl (dk_cells _ _ _ _)) ?_; simp only [Act.put, zp1, zp2, zp3]
      refine reg_step (v := .pointer (some ⟨((w1.alloc (.cells ((List.replicate m z256).flatMap bvs).toArray 90)).alloc (.cells ((List.replicate m z256).flatMap bvs).toArray 90)).heap.size, 0, none⟩)) (w' := ((w1.alloc (.cells ((List.replicate m z256).flatMap bvs).toArray 90)).alloc (.cells ((List.replicate m z256).flatMap bvs).toArray 90)).alloc (.cells #[.slice (some ⟨a, 0, none⟩) m m, .slice (some ⟨a + 1, 0, none⟩) m m, .slice none 0 0, .bool false, .int .i64 0, .int .i64 0, .int .u64 0] 86)) 5 (some 11) rfl rfl (by kernel_rfl) (by rfl) (by kernel_rfl) trivial (fun _ => ?_)
      simp only [Act.put, zp1, zp2, zp3]
      rw [show ((w1.alloc (.cells ((List.replicate m z256).flatMap bvs).toArray 90)).alloc (.cells ((List.replicate m z256).flatMap bvs).toArray 90)).heap.size = a + 2 by simp [HA.out]]
      refine reg_tk (v := .pointer (some ⟨a + 2, 0, none⟩)) 6 2 rfl rfl (by kernel_rfl) (by rfl) trivial (fun w hw => by go_simp) ?_; simp only [Act.put, zp1, zp2, zp3]
      refine reg_end (by kernel_rfl) ?_
      go_wp2
      go_ret
      exact ⟨a + 2, a, a + 1, rfl, new_end HM.out HK1.out HA.out (.inl ⟨rfl, rfl⟩)⟩
     case' refine_2 =>
      simp only [Act.put, zp1, zp2, zp3]
      refine reg_step (v := .slice (some ⟨(w1.alloc (.cells ((List.replicate m z256).flatMap bvs).toArray 90)).heap.size, 0, none⟩) m m) (w' := (w1.alloc (.cells ((List.replicate m z256).flatMap bvs).toArray 90)).alloc (.cells ((List.replicate m z256).flatMap bvs).toArray 90)) 1 (some 7) rfl rfl (by kernel_rfl) (by rfl) (exec_mk (.tmp 6) n m rfl rfl (hmk _)) trivial (fun _ => ?_)
      simp only [Act.put, zp1, zp2, zp3]
      rw [show (w1.alloc (.cells ((List.replicate m z256).flatMap bvs).toArray 90)).heap.size = a + 1 by simp [HA.out], HA.out]
      refine reg_tk (v := .agg #[.slice (some ⟨a + 1, 0, none⟩) m m, .slice (some ⟨a, 0, none⟩) m m, .slice none 0 0, .bool false, .int .i64 0, .int .i64 0, .int .u64 0]) 4 10 rfl rfl (by kernel_rfl) (by rfl) trivial (fun w hw => by exact exec_bld _ _ rfl [(0, .slice (some ⟨a + 1, 0, none⟩) m m), (1, .slice (some ⟨a, 0, none⟩) m m)] _ rfl (dk_cells _ _ _ _)) ?_; simp only [Act.put, zp1, zp2, zp3]
      refine reg_step (v := .pointer (some ⟨((w1.alloc (.cells ((List.replicate m z256).flatMap bvs).toArray 90)).alloc (.cells ((List.replicate m z256).flatMap bvs).toArray 90)).heap.size, 0, none⟩)) (w' := ((w1.alloc (.cells ((List.replicate m z256).flatMap bvs).toArray 90)).alloc (.cells ((List.replicate m z256).flatMap bvs).toArray 90)).alloc (.cells #[.slice (some ⟨a + 1, 0, none⟩) m m, .slice (some ⟨a, 0, none⟩) m m, .slice none 0 0, .bool false, .int .i64 0, .int .i64 0, .int .u64 0] 86)) 5 (some 11) rfl rfl (by kernel_rfl) (by rfl) (by kernel_rfl) trivial (fun _ => ?_)
      simp only [Act.put, zp1, zp2, zp3]
      rw [show ((w1.alloc (.cells ((List.replicate m z256).flatMap bvs).toArray 90)).alloc (.cells ((List.replicate m z256).flatMap bvs).toArray 90)).heap.size = a + 2 by simp [HA.out]]
      refine reg_tk (v := .pointer (some ⟨a + 2, 0, none⟩)) 6 2 rfl rfl (by kernel_rfl) (by rfl) trivial (fun w hw => by go_simp) ?_; simp only [Act.put, zp1, zp2, zp3]
      refine reg_end (by kernel_rfl) ?_
      go_wp2
      go_ret
      exact ⟨a + 2, a + 1, a, rfl, new_end HM.out HK1.out HA.out (.inr ⟨rfl, rfl⟩)⟩
theorem now_part {w : World} {g N S : Nat} {W : Option Addr} {cW : Nat} {D : Dk} (h : Cd w g N S W cW D) (p : Nat) (s : List UInt8) (hs : D.now[p]? = some s) : w.rangeAt N (p * 256) (bvs s) :=
 h.now.part _ _ (fun j u hu => fm_part D.now (k := 256) (f := bvs) (fun a ha => by rw [bvs_length, h.ok.now a ha]) p s hs j u hu)
theorem read_yes (D : Dk) (p : Nat) (s : List UInt8) (g N S : Nat) (W : Option Addr) (cW : Nat) (w : World) (h : Cd w g N S W cW D) (ho : D.off = false) (hs : D.now[p]? = some s) :
    Calls Tryz.prog 100 #[.pointer (some ⟨g, 0, none⟩), .int .i64 (p : Int)] w fun e w' => ∃ k, e = .returned (.tuple #[.slice (some ⟨k, 0, none⟩) 256 256, .int .i64 0]) ∧ Blk w' k 90 (bvs s) ∧ Kp nob w w' ∧ w.heap.size ≤ k := by
 have hp : p < D.now.length := (List.getElem?_eq_some_iff.1 hs).1
 have HR := Lib.hid (refused_any D g N S W cW w h)
 rw [ho] at HR
 have HA := Lib.hid (has_any D p g N S W cW w h)
 rw [has_of D p hp] at HA
 have HSL := Lib.hid (h.ok.now s (List.mem_of_getElem? hs))
 have HSZ := Lib.hid (sec_size' s HSL.out)
 have HRG := Lib.hid (now_part h p s hs)
 have c0 := h.cells.1
 have hz := zsec_run
 clear h ho hs
 go_enter Tryz.func100, Tryz.ntmps100
 go_wp2_with fail
 refine HR.out.mono ?_
 rintro e w1 ⟨rfl, rfl⟩
 go_wp2_with fail
 refine HA.out.mono ?_
 rintro e w2 ⟨rfl, rfl⟩
 go_wp2_with (first
  | (refine wpList_load_mid rfl 90 (.tmp 22) rfl N (p * 256) rfl (bvs s) _ HRG.out sec_under rfl HSZ.out ?_)
  | (refine wpList_store_blk rfl 90 (.tmp 7) (.tmp 23) rfl _ _ zsec (bvs s) (Blk.new _ _ _) rfl rfl (by rw [bvs_length, HSL.out, zsec_length]) HSZ.out (bvs_one _) ?_
     intro w3 hB3 k3 z3
     have HB3 := Lib.hid hB3
     have HK3 := Lib.hid (((Kp.refl nob w).alloc _).since k3 (fun i e => Nat.le_of_eq e.symm))
     clear hB3 k3 z3))
 go_ret2
 exact ⟨w.heap.size, rfl, HB3.out, HK3.out, Nat.le_refl _⟩
theorem sync_any (D : Dk) (g N S : Nat) (W : Option Addr) (cW : Nat) (w : World) (h : Cd w g N S W cW D) (hw : D.waits.length ≤ 100000) (ha : D.acts ≤ 1000000000000) (hf : D.fuse ≤ 9223372036854775807) (hk : D.keep < 18446744073709551616) :
    Calls Tryz.prog 81 #[.pointer (some ⟨g, 0, none⟩)] w fun e w' => e = .returned (.int .i64 (sync E8 D).2) ∧ Dz w g N S W (sync E8 D).1 w' := by
 have HR := Lib.hid (refused_any D g N S W cW w h)
 have HA := Lib.hid (actw_any D g N S W cW w h hw ha hf hk)
 have HD := Lib.hid h
 have HW := Lib.hid hw
 clear h hw ha hf hk
 cases ho : D.off with
 | true =>
   rw [ho] at HR
   have HS := Lib.hid (show sync E8 D = (D, 8) by rw [sync, if_pos ho]; rfl)
   rw [HS.out]
   clear ho
   go_enter Tryz.func81, Tryz.ntmps81
   go_wp2_with fail
   refine HR.out.mono ?_
   rintro e w1 ⟨rfl, rfl⟩
   go_wp2
   go_ret
   exact ⟨rfl, HD.out.self⟩
 | false =>
   rw [ho] at HR
   cases hg : (act D).2 with
   | true =>
     have HS := Lib.hid (show sync E8 D = (lose (act D).1 D.keep, 8) by rw [sync, if_neg (by rw [ho]; decide), if_pos hg]; rfl)
     rw [HS.out]
     rw [show acted D = (lose (act D).1 D.keep, 8) by rw [acted, if_pos hg]] at HA
     clear ho hg
     go_enter Tryz.func81, Tryz.ntmps81
     go_wp2_with fail
     refine HR.out.mono ?_
     rintro e w1 ⟨rfl, rfl⟩
     go_wp2_with fail
     refine HA.out.mono ?_
     rintro e w2 ⟨rfl, h2⟩
     have H2 := Lib.hid h2
     clear h2
     go_wp2
     go_ret
     exact ⟨rfl, H2.out⟩
   | false =>
     have HS := Lib.hid (show sync E8 D = ({ (act D).1 with safe := D.now, waits := [] }, 0) by rw [sync, if_neg (by rw [ho]; decide), if_neg (by rw [hg]; decide)]; rfl)
     rw [HS.out]
     rw [show acted D = ((act D).1, 0) by rw [acted, if_neg (by rw [hg]; decide)]] at HA
     have HO := Lib.hid (act_on D ho)
     clear ho hg
     go_enter Tryz.func81, Tryz.ntmps81
     go_wp2_with fail
     refine HR.out.mono ?_
     rintro e w1 ⟨rfl, rfl⟩
     go_wp2_with fail
     refine HA.out.mono ?_
     rintro e w2 ⟨rfl, W2, c2, h2, k2, n2⟩
     have H2 := Lib.hid h2; have K2 := Lib.hid k2; have N2 := Lib.hid n2
     clear h2 k2 n2
     go_wp2_with fail
     refine (settle_any (act D).1 18446744073709551615 g N S W2 c2 w2 H2.out (by rw [act_length]; exact HW.out) (by decide)).mono ?_
     rintro e w3 ⟨rfl, h3, k3⟩
     have H3 := Lib.hid h3; have K3 := Lib.hid k3
     clear h3 k3
     go_wp2
     go_ret
     refine ⟨rfl, none, 0, ?_, K2.out.trans K3.out (fun i e => Dz.df (w2 := w) N2.out i e), fun k e => by cases e⟩
     have := H3.out
     rw [over_all, ← H2.out.al] at this
     rw [HO.out] at this ⊢
     exact this
end Disk
end Go.Proofs.YtigdlnfgdjfdoaaGreat
