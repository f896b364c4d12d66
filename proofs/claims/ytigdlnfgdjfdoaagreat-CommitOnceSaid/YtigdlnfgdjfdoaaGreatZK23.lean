/- Lemmas: MtA MtB MtC MtD. -/
import Derived.Test.YtigdlnfgdjfdoaaGreatZK18
set_option maxHeartbeats 4000000
set_option maxRecDepth 100000
set_option linter.unusedVariables false
set_option linter.unusedSimpArgs false
namespace Go.Proofs.YtigdlnfgdjfdoaaGreat
namespace Meter
open Go Go.RowKit Kit Disk
def vcells (t : Mt) : List Value := .int .i64 (t.count : Int) :: .int .i64 t.epoch :: bvs t.root
theorem vcells_length (t : Mt) (h : t.root.length = 32) : (vcells t).length = 34 := by simp [vcells, h]
theorem vcells_one (t : Mt) : ∀ u ∈ vcells t, u.oneCell' = true := by
 intro u hu
 rcases List.mem_cons.1 hu with rfl | hu
 · rfl
 · rcases List.mem_cons.1 hu with rfl | hu
   · rfl
   · exact bvs_one _ u hu
def mcells (t : Mt) (X : Option Addr) : List Value := vcells t ++ [.int .i64 (t.most : Int), .pointer X]
theorem mcells_length (t : Mt) (X : Option Addr) (h : t.root.length = 32) : (mcells t X).length = 36 := by rw [mcells, List.length_append, vcells_length t h]; rfl
structure Mb (w : World) (m : Nat) (X : Option Addr) (t : Mt) : Prop where
 b : Blk w m 51 (mcells t X)
 k : Mk t
theorem Mb.keep {w w2 : World} {m : Nat} {X : Option Addr} {t : Mt} {G : Nat → Prop} (h : Mb w m X t) (k : Kp G w w2) (hm : ¬ G m) : Mb w2 m X t := ⟨h.b.keep k hm, h.k⟩
theorem Mb.keep0 {w w2 : World} {m : Nat} {X : Option Addr} {t : Mt} (h : Mb w m X t) (k : Kp nob w w2) : Mb w2 m X t := h.keep k (fun e => e)
theorem Mb.cells {w : World} {m : Nat} {X : Option Addr} {t : Mt} (h : Mb w m X t) : w.cell? ⟨m, 0, none⟩ = some (.int .i64 (t.count : Int)) ∧ w.cell? ⟨m, 1, none⟩ = some (.int .i64 t.epoch) ∧ w.cell? ⟨m, 34, none⟩ = some (.int .i64 (t.most : Int)) ∧ w.cell? ⟨m, 35, none⟩ = some (.pointer X) := by
 have hl := vcells_length t h.k.root
 refine ⟨h.b.cell 0, h.b.cell 1, ?_, ?_⟩
 · rw [h.b.cell, mcells, List.getElem?_append_right (by omega), hl]; rfl
 · rw [h.b.cell, mcells, List.getElem?_append_right (by omega), hl]; rfl
theorem Mb.range {w : World} {m : Nat} {X : Option Addr} {t : Mt} (h : Mb w m X t) : w.rangeAt m 0 (vcells t) :=
 h.b.part 0 (vcells t) (fun j v hv => by rw [Nat.zero_add, mcells, List.getElem?_append_left (List.getElem?_eq_some_iff.1 hv).1]; exact hv)
theorem val_under : Tryz.prog.underlying 49 = some (.struct (Tryz.prog.fieldsOf 49)) := by kernel_rfl
theorem val_size (t : Mt) (h : t.root.length = 32) : (Tryz.prog.info? 49).map (·.size) = some (vcells t).length := by rw [vcells_length t h]; kernel_rfl
theorem root_under : Tryz.prog.underlying 47 = some (.array 32 5) := by kernel_rfl
theorem root_size (r : List UInt8) (h : r.length = 32) : (Tryz.prog.info? 47).map (·.size) = some (bvs r).length := by rw [bvs_length, h]; kernel_rfl
def none_ : Mt := ⟨0, 0, z32, 0⟩
theorem zval_run (w : World) : (zeroValue 49).run Tryz.prog w = .ok (.agg (vcells none_).toArray) w := by kernel_rfl
theorem zval_build (w : World) : (Instr.build 49 #[]).run Tryz.prog w = .ok (.agg (vcells none_).toArray) w := by kernel_rfl
def Pow (w : World) (X : Option Addr) (off : Bool) : Prop := ∀ w', Kp nob w w' → Calls Tryz.prog 55 #[.pointer X] w' fun e w2 => e = .returned (.bool off) ∧ w' = w2
theorem Cd.pow {w : World} {g N S : Nat} {W : Option Addr} {cW : Nat} {D : Dk} (h : Cd w g N S W cW D) : Pow w (some ⟨g, 0, none⟩) D.off := fun w' k => down_any D g N S W cW w' (h.keep0 k)
theorem refused_any (t : Mt) (m : Nat) (X : Option Addr) (off : Bool) (w : World) (h : Mb w m X t) (hp : Pow w X off) :
    Calls Tryz.prog 74 #[.pointer (some ⟨m, 0, none⟩)] w fun e w' => e = .returned (.int .i64 (if off then 8 else 0)) ∧ w = w' := by
 have c := h.cells.2.2.2
 have HP := Lib.hid (hp w (Kp.refl _ _))
 clear h hp
 cases off with
 | true =>
   go_enter Tryz.func74, Tryz.ntmps74
   go_wp2_with fail
   refine HP.out.mono ?_
   rintro e w1 ⟨rfl, rfl⟩
   go_wp2
   go_ret
   exact ⟨rfl, rfl⟩
 | false =>
   go_enter Tryz.func74, Tryz.ntmps74
   go_wp2_with fail
   refine HP.out.mono ?_
   rintro e w1 ⟨rfl, rfl⟩
   go_wp2
   go_ret
   exact ⟨rfl, rfl⟩
theorem left_any (t : Mt) (m : Nat) (X : Option Addr) (w : World) (h : Mb w m X t) :
    Calls Tryz.prog 42 #[.pointer (some ⟨m, 0, none⟩)] w fun e w' => e = .returned (.int .i64 ((t.most - t.count : Nat) : Int)) ∧ Kp nob w w' := by
 obtain ⟨c0, c1, c2, c3⟩ := h.cells
 obtain ⟨q, hq⟩ : ∃ q, q = t.most - t.count := ⟨_, rfl⟩
 have e1 : IntKind.i64.wrap ((t.most : Int) - (t.count : Int)) = (q : Int) := by have := h.k.le; have := h.k.most; rw [IntWalk.i64_in _ (by omega)]; omega
 rw [← hq]
 clear h c1 c3 hq
 go_enter Tryz.func42, Tryz.ntmps42
 go_wp2
 go_quiet (fail)
 go_wp2
 go_ret
 exact ⟨rfl, (Kp.refl nob w).drewN _⟩
theorem get_any (t : Mt) (m : Nat) (X : Option Addr) (off : Bool) (w : World) (h : Mb w m X t) (hp : Pow w X off) :
    Calls Tryz.prog 54 #[.pointer (some ⟨m, 0, none⟩)] w fun e w' => e = .returned (.tuple #[.agg (vcells (if off then none_ else t)).toArray, .int .i64 (if off then 8 else 0)]) ∧ Kp nob w w' := by
 have hz := zval_run
 have HK := Lib.hid ((Kp.refl nob w).alloc (.cells (vcells none_).toArray 49))
 have HB := Lib.hid (Blk.new w 49 (vcells none_))
 have HRF := Lib.hid (fun w' (k : Kp nob w w') => refused_any t m X off w' (h.keep0 k) (fun w2 k2 => hp w2 (k.trans k2 (fun _ e => e.elim))))
 have HM := Lib.hid h
 have HZS := Lib.hid (val_size none_ z32_length)
 have HZO := Lib.hid (vcells_one none_)
 clear h hp
 cases off with
 | true =>
   go_enter Tryz.func54, Tryz.ntmps54
   go_wp2_with fail
   refine (HRF.out _ HK.out).mono ?_
   rintro e w1 ⟨rfl, rfl⟩
   go_wp2_with (first
    | (refine wpList_built rfl 49 _ rfl (.agg (vcells none_).toArray) (by exact exec_bld _ _ rfl [] _ rfl (zval_build _)) ?_)
    | (refine wpList_store_blk rfl 49 (.tmp 2) (.tmp 9) rfl _ _ (vcells none_) (vcells none_) HB.out rfl rfl rfl HZS.out HZO.out ?_; intro w2 hB2 k2 z2; have HB2 := Lib.hid hB2; have HK2 := Lib.hid (HK.out.since k2 (fun i e => Nat.le_of_eq e.symm)); clear hB2 k2 z2))
   exact bodyPost_ret (results_row_tmp rfl _ _ w.heap.size _ (vcells none_) _ rfl HB2.out val_under rfl HZS.out _ rfl) rfl ⟨rfl, HK2.out⟩
 | false =>
   have HVS := Lib.hid (val_size t HM.out.k.root)
   have HLE := Lib.hid (show (vcells t).length = (vcells none_).length by rw [vcells_length _ HM.out.k.root, vcells_length _ z32_length])
   go_enter Tryz.func54, Tryz.ntmps54
   go_wp2_with fail
   refine (HRF.out _ HK.out).mono ?_
   rintro e w1 ⟨rfl, rfl⟩
   go_wp2_with (first
    | (refine wpList_load_mid rfl 49 (.tmp 13) rfl m 0 rfl (vcells t) _ (HM.out.keep0 HK.out).range val_under rfl HVS.out ?_)
    | (refine wpList_store_blk rfl 49 (.tmp 2) (.tmp 14) rfl _ _ (vcells none_) (vcells t) HB.out rfl rfl HLE.out HVS.out (vcells_one _) ?_; intro w2 hB2 k2 z2; have HB2 := Lib.hid hB2; have HK2 := Lib.hid (HK.out.since k2 (fun i e => Nat.le_of_eq e.symm)); clear hB2 k2 z2))
   exact bodyPost_ret (results_row_tmp rfl _ _ w.heap.size _ (vcells t) _ rfl HB2.out val_under rfl HVS.out _ rfl) rfl ⟨rfl, HK2.out⟩
theorem build_val0 (f : Fin 32 → UInt8) (c e : Int) (w : World) : (Instr.build 49 #[(0, .int .i64 c), (1, .int .i64 e), (2, .agg (bvs (List.ofFn f)).toArray)]).run Tryz.prog w = .ok (.agg (.int .i64 c :: .int .i64 e :: bvs (List.ofFn f)).toArray) w := by kernel_rfl
theorem build_val (c e : Int) (r : List UInt8) (h : r.length = 32) (w : World) : (Instr.build 49 #[(0, .int .i64 c), (1, .int .i64 e), (2, .agg (bvs r).toArray)]).run Tryz.prog w = .ok (.agg (.int .i64 c :: .int .i64 e :: bvs r).toArray) w := by
 obtain ⟨f, rfl⟩ := list_fn 32 r h
 exact build_val0 f c e w
theorem splice_val (t t2 : Mt) (X : Option Addr) (h : t.root.length = 32) (h2 : t2.root.length = 32) (hm : t2.most = t.most) : splice (mcells t X) 0 (vcells t2) = mcells t2 X := by
 rw [splice, List.take_zero, List.nil_append, Nat.zero_add, vcells_length t2 h2, mcells, mcells, hm, List.drop_append_of_le_length (by rw [vcells_length t h]; exact Nat.le_refl _), List.drop_of_length_le (by rw [vcells_length t h]; exact Nat.le_refl _), List.nil_append]
theorem goOn_any (t : Mt) (e : Int) (r : List UInt8) (m : Nat) (X : Option Addr) (w : World) (h : Mb w m X t) (hr : r.length = 32) (hc : t.count < t.most) :
    Calls Tryz.prog 98 #[.pointer (some ⟨m, 0, none⟩), .int .i64 e, .agg (bvs r).toArray] w fun e' w' => e' = .returned (.tuple #[]) ∧ Mb w' m X (t.on e r) ∧ Kp (oneB m) w w' := by
 obtain ⟨q, hq⟩ : ∃ q, q = t.count + 1 := ⟨_, rfl⟩
 have hmo := h.k.most
 have e1 : IntKind.i64.wrap ((t.count : Int) + 1) = (q : Int) := by rw [IntWalk.i64_in _ (by omega)]; omega
 have HM := Lib.hid h
 have HON := Lib.hid (h.k.on e r hr hc)
 have HQ := Lib.hid (show vcells (t.on e r) = .int .i64 (q : Int) :: .int .i64 e :: bvs r by rw [hq]; rfl)
 have HSP := Lib.hid (splice_val t (t.on e r) X h.k.root hr rfl)
 have HVS := Lib.hid (val_size (t.on e r) hr)
 have HVO := Lib.hid (vcells_one (t.on e r))
 have HFI := Lib.hid (show 0 + (vcells (t.on e r)).length ≤ (mcells t X).length by rw [vcells_length _ hr, mcells_length _ _ h.k.root]; omega)
 rw [HQ.out] at HVS HVO HFI HSP
 have HR := Lib.hid hr
 have HRZ := Lib.hid (root_size r hr)
 clear h hr hc hmo hq
 go_enter Tryz.func98, Tryz.ntmps98
 go_wp2
 obtain ⟨g1, hg1⟩ : ∃ g, g = w.heap.size := ⟨_, rfl⟩
 have HK1 := Lib.hid ((Kp.refl nob w).alloc (.cells (bvs r).toArray 47))
 have HB1 := Lib.hid (Blk.new w 47 (bvs r))
 rw [← hg1] at HB1 ⊢
 generalize w.alloc (.cells (bvs r).toArray 47) = w1 at *
 refine wp_region_still_tail 12 (by kernel_rfl) (by kernel_rfl) ?_
 change wpStill _ _ w1.drew (fun a' => wpList _ _ _ _ a' w1.drew) _ _
 have HK2 := Lib.hid HK1.out.drew
 have HB2 := Lib.hid (HB1.out.keep (Kp.refl nob w1).drew (fun e => e))
 have HM2 := Lib.hid (HM.out.keep0 HK2.out)
 have c0 := HM2.out.cells.1
 have hld := run_loadAt_mid (P := Tryz.prog) w1.drew g1 0 47 (bvs r) _ HB2.out.range root_under rfl HRZ.out
 clear hg1
 generalize w1.drew = w2 at *
 clear HB1 HK1
 simp only [List.take_succ_cons, List.take_zero, List.drop_succ_cons, List.drop_zero]
 repeat (first | (refine wpStill_load rfl 47 (.tmp 5) rfl _ _ rfl hld ?_) | (refine wpStill_exec rfl (.agg (.int .i64 (q : Int) :: .int .i64 e :: bvs r).toArray) (by exact exec_bld _ _ rfl [(0, .int .i64 (q : Int)), (1, .int .i64 e), (2, .agg (bvs r).toArray)] _ rfl (build_val _ _ _ HR.out _)) ?_) | still_step)
 refine wpStill_nil ?_
 clear hld c0
 go_wp2_with (refine wpList_store_in rfl 49 (.tmp 17) (.tmp 15) rfl m 0 _ _ (.int .i64 (q : Int) :: .int .i64 e :: bvs r) HM2.out.b rfl rfl HFI.out HVS.out HVO.out ?_; intro w5 hB5 k5 z5; rw [HSP.out] at hB5; have HB5 := Lib.hid hB5; have HK5 := Lib.hid k5; clear hB5 k5 z5)
 exact bodyPost_end (results_none rfl _ _ _) rfl ⟨rfl, ⟨HB5.out, HON.out⟩, (HK2.out.nob _).trans HK5.out (fun i e => .inl e)⟩
def mF (m g N S : Nat) (W : Option Addr) : Nat → Prop := fun k => k = m ∨ dF g N S W k
def Mz (w : World) (m g N S : Nat) (W : Option Addr) (t : Mt) (D : Dk) (w2 : World) : Prop := ∃ (W2 : Option Addr) (c2 : Nat), Cd w2 g N S W2 c2 D ∧ Mb w2 m (some ⟨g, 0, none⟩) t ∧ Kp (mF m g N S W) w w2 ∧ ∀ k, ab W2 = some k → ab W = some k ∨ w.heap.size ≤ k
theorem next_no (t : Mt) (e : Int) (r : List UInt8) (m : Nat) (X : Option Addr) (off : Bool) (w : World) (h : Mb w m X t) (hr : r.length = 32) (hp : Pow w X off) (hno : why t off e ≠ 0) :
    Calls Tryz.prog 82 #[.pointer (some ⟨m, 0, none⟩), .int .i64 e, .agg (bvs r).toArray] w fun e' w' => e' = .returned (.int .i64 (why t off e)) ∧ Kp nob w w' := by
 have HK1 := Lib.hid ((Kp.refl nob w).alloc (.cells (bvs r).toArray 47))
 have HRF := Lib.hid (refused_any t m X off (w.alloc (.cells (bvs r).toArray 47)) (h.keep0 HK1.out) (fun w2 k2 => hp w2 (HK1.out.trans k2 (fun _ e => e.elim))))
 have HM1 := Lib.hid (h.keep0 HK1.out)
 clear hp h
 cases off with
 | true =>
   rw [why_off]
   clear hno
   go_enter Tryz.func82, Tryz.ntmps82
   go_wp2_with fail
   refine HRF.out.mono ?_
   rintro e w1 ⟨rfl, rfl⟩
   go_wp2
   go_ret
   exact ⟨rfl, HK1.out⟩
 | false =>
   have c1 := HM1.out.cells.2.1
   by_cases he : e < t.epoch
   · rw [why_arg t e he]
     clear hno
     go_enter Tryz.func82, Tryz.ntmps82
     go_wp2_with fail
     refine HRF.out.mono ?_
     rintro e w1 ⟨rfl, rfl⟩
     go_wp2
     go_ret
     exact ⟨rfl, HK1.out⟩
   · by_cases hs : t.most ≤ t.count
     · rw [why_spent t e he hs]
       have HL := Lib.hid (left_any t m X (w.alloc (.cells (bvs r).toArray 47)) HM1.out)
       rw [show t.most - t.count = 0 by omega] at HL
       clear hno hs
       go_enter Tryz.func82, Tryz.ntmps82
       go_wp2_with fail
       refine HRF.out.mono ?_
       rintro e w1 ⟨rfl, rfl⟩
       go_wp2_with fail
       refine HL.out.mono ?_
       rintro e w2 ⟨rfl, k2⟩
       have HK2 := Lib.hid (HK1.out.trans k2 (fun _ e => e.elim))
       clear k2
       go_wp2
       go_ret
       exact ⟨rfl, HK2.out⟩
     · exact absurd (why_no t e he hs) hno
theorem high_bit (k : Nat) (hk : k < 18446744073709551616) : ∃ z : Nat, bits .and .u64 (k : Int) 9223372036854775808 = (z : Int) ∧ (z = 0 ↔ high k = false) := by
 obtain ⟨z, h1, h2⟩ := kept_bit k 63 63 rfl hk
 refine ⟨z, h1, h2.trans ?_⟩
 have e : kept k 63 = high k := by
  unfold kept high
  rw [show (63 % 64 : Nat) = 63 from rfl, show (2 ^ 63 : Nat) = 9223372036854775808 from rfl, Bool.eq_iff_iff, decide_eq_true_iff, decide_eq_true_iff]
  omega
 rw [e]
theorem Mz.no {w w2 : World} {m g N S : Nat} {W : Option Addr} {cW : Nat} {D : Dk} {t : Mt} (h : Mb w m (some ⟨g, 0, none⟩) t) (hd : Cd w g N S W cW D) (k : Kp nob w w2) : Mz w m g N S W t D w2 := ⟨W, cW, hd.keep0 k, h.keep0 k, k.nob _, fun _ e => .inl e⟩
theorem next_any (t : Mt) (D : Dk) (e : Int) (r : List UInt8) (m g N S : Nat) (W : Option Addr) (cW : Nat) (w : World) (h : Mb w m (some ⟨g, 0, none⟩) t) (hd : Cd w g N S W cW D) (hr : r.length = 32) (hm : ¬ dF g N S W m)
    (hw : D.waits.length ≤ 100000) (ha : D.acts ≤ 1000000000000) (hf : D.fuse ≤ 9223372036854775807) (hk : D.keep < 18446744073709551616) :
    Calls Tryz.prog 82 #[.pointer (some ⟨m, 0, none⟩), .int .i64 e, .agg (bvs r).toArray] w fun e' w' => e' = .returned (.int .i64 (nxt t D e r).2.2) ∧ Mz w m g N S W (nxt t D e r).1 (nxt t D e r).2.1 w' := by
 by_cases hno : why t D.off e = 0
 case neg =>
  rw [nxt_no hno]
  refine (next_no t e r m _ D.off w h hr (Cd.pow hd) hno).mono ?_
  rintro e w2 ⟨rfl, k⟩
  exact ⟨rfl, Mz.no h hd k⟩
 obtain ⟨ho, he, hs⟩ := why_0 hno
 obtain ⟨g1, hg1⟩ : ∃ g, g = w.heap.size := ⟨_, rfl⟩
 have HK1 := Lib.hid ((Kp.refl nob w).alloc (.cells (bvs r).toArray 47))
 have HB1 := Lib.hid (Blk.new w 47 (bvs r))
 have HRF := Lib.hid (refused_any t m _ D.off (w.alloc (.cells (bvs r).toArray 47)) (h.keep0 HK1.out) (Cd.pow (hd.keep0 HK1.out)))
 rw [ho] at HRF
 have HL := Lib.hid (left_any t m _ (w.alloc (.cells (bvs r).toArray 47)) (h.keep0 HK1.out))
 have HM1 := Lib.hid (h.keep0 HK1.out)
 have HD1 := Lib.hid (hd.keep0 HK1.out)
 have HG1 := Lib.hid (show ¬ dF g N S W g1 ∧ g1 ≠ m from ⟨fun e => by have := hd.lt g1 e; omega, fun e => by have := h.b.lt; omega⟩)
 rw [← hg1] at HB1
 have HR := Lib.hid hr
 have HRZ := Lib.hid (root_size r hr)
 have HS := Lib.hid (show t.count < t.most by omega)
 have HNE := Lib.hid hm
 have HWA := Lib.hid (And.intro hw (And.intro ha (And.intro hf hk)))
 obtain ⟨q, hq⟩ : ∃ q, q = t.most - t.count := ⟨_, rfl⟩
 rw [← hq] at HL
 have hq0 : ((q : Int) == 0) = false := beq_eq_false_iff_ne.2 (by omega)
 have c1 := HM1.out.cells.2.1
 have HNO := Lib.hid hno
 have HGE := Lib.hid hg1
 clear h hd hr hno hs hq hm hw ha hf ho hg1
 cases hac : (act D).2 with
 | false =>
   have HN := Lib.hid (nxt_on (r := r) HNO.out hac)
   have HT := Lib.hid (told_no D hac)
   rw [HN.out]
   clear hac hk
   go_enter Tryz.func82, Tryz.ntmps82
   go_wp2_with fail
   rw [← HGE.out]
   refine HRF.out.mono ?_
   rintro e w1 ⟨rfl, rfl⟩
   go_wp2_with fail
   refine HL.out.mono ?_
   rintro e w2 ⟨rfl, k2⟩
   have HK2 := Lib.hid (HK1.out.trans k2 (fun _ e => e.elim))
   have HB2 := Lib.hid (HB1.out.keep k2 (fun e => e))
   have HM2 := Lib.hid (HM1.out.keep0 k2)
   have HD2 := Lib.hid (HD1.out.keep0 k2)
   have c3 := HM2.out.cells.2.2.2
   clear k2 c1
   go_wp2_with fail
   refine (act1_any D g N S W cW w2 HD2.out HWA.out.2.1 HWA.out.2.2.1).mono ?_
   rintro e w3 ⟨rfl, h3, k3⟩
   have HD3 := Lib.hid h3; have HK3 := Lib.hid k3
   have HM3 := Lib.hid (HM2.out.keep k3 (fun e => HNE.out (.inl e)))
   have HB3 := Lib.hid (HB2.out.keep k3 (fun e => HG1.out.1 (.inl e)))
   clear h3 k3 c3
   rw [HT.out]
   go_wp2_with (refine wpList_load_blk rfl 47 (.tmp 5) rfl _ _ _ HB3.out rfl _ root_under rfl HRZ.out ?_)
   refine (goOn_any t _ r m _ w3 HM3.out HR.out HS.out).mono ?_
   rintro e w4 ⟨rfl, h4, k4⟩
   have H4 := Lib.hid h4; have K4 := Lib.hid k4
   have HD4 := Lib.hid (HD3.out.keep k4 (fun i e e2 => HNE.out (by rw [← e2]; exact e)))
   clear h4 k4
   go_wp2
   go_ret
   exact ⟨rfl, W, cW, HD4.out, H4.out, ((HK2.out.nob _).trans HK3.out (fun i e => .inl (.inr (.inl e)))).trans K4.out (fun i e => .inl (.inl e)), fun k e => .inl e⟩
 | true =>
   have HT := Lib.hid (told_yes D hac)
   obtain ⟨z, hz1, hz2⟩ := high_bit D.keep hk
   cases hhi : high D.keep with
   | true =>
     have HN := Lib.hid (nxt_hi (r := r) HNO.out hac hhi)
     have hz0 : ((z : Int) == 0) = false := beq_eq_false_iff_ne.2 (fun e => by have := hz2.1 (by omega); rw [hhi] at this; cases this)
     have HZ := Lib.hid (And.intro hz1 hz0)
     rw [HN.out]
     clear hac hk hz1 hz2 hz0 hhi
     go_enter Tryz.func82, Tryz.ntmps82
     go_wp2_with fail
     rw [← HGE.out]
     refine HRF.out.mono ?_
     rintro e w1 ⟨rfl, rfl⟩
     go_wp2_with fail
     refine HL.out.mono ?_
     rintro e w2 ⟨rfl, k2⟩
     have HK2 := Lib.hid (HK1.out.trans k2 (fun _ e => e.elim))
     have HB2 := Lib.hid (HB1.out.keep k2 (fun e => e))
     have HM2 := Lib.hid (HM1.out.keep0 k2)
     have HD2 := Lib.hid (HD1.out.keep0 k2)
     have c3 := HM2.out.cells.2.2.2
     clear k2 c1
     go_wp2_with fail
     refine (act1_any D g N S W cW w2 HD2.out HWA.out.2.1 HWA.out.2.2.1).mono ?_
     rintro e w3 ⟨rfl, h3, k3⟩
     have HD3 := Lib.hid h3; have HK3 := Lib.hid k3
     have HM3 := Lib.hid (HM2.out.keep k3 (fun e => HNE.out (.inl e)))
     have HB3 := Lib.hid (HB2.out.keep k3 (fun e => HG1.out.1 (.inl e)))
     clear h3 k3 c3
     rw [HT.out]
     obtain ⟨hz1, hz0⟩ := HZ.out
     go_wp2_with (refine wpList_load_blk rfl 47 (.tmp 5) rfl _ _ _ HB3.out rfl _ root_under rfl HRZ.out ?_)
     refine (goOn_any t _ r m _ w3 HM3.out HR.out HS.out).mono ?_
     rintro e w4 ⟨rfl, h4, k4⟩
     have H4 := Lib.hid h4; have K4 := Lib.hid k4
     have HD4 := Lib.hid (HD3.out.keep k4 (fun i e e2 => HNE.out (by rw [← e2]; exact e)))
     have c4 := h4.cells.2.2.2
     clear h4 k4 hz1 hz0
     go_wp2_with fail
     refine (off_any (act D).1 D.keep g N S W cW w4 HD4.out (by rw [act_length]; exact HWA.out.1) HWA.out.2.2.2).mono ?_
     rintro e w5 ⟨rfl, W5, c5, h5, k5, n5⟩
     have H5 := Lib.hid h5; have K5 := Lib.hid k5; have N5 := Lib.hid n5
     have HM5 := Lib.hid (H4.out.keep k5 HNE.out)
     have HKK := Lib.hid (((HK2.out.nob (mF m g N S W)).trans HK3.out (fun i e => .inl (.inr (.inl e)))).trans K4.out (fun i e => .inl (.inl e)))
     clear h5 k5 n5 c4
     go_wp2
     go_ret
     exact ⟨rfl, W5, c5, H5.out, HM5.out, HKK.out.trans K5.out (fun i e => .inl (.inr e)), fun k e => (N5.out k e).imp id (fun h => Nat.le_trans HKK.out.size h)⟩
   | false =>
     have HN := Lib.hid (nxt_lo (r := r) HNO.out hac hhi)
     have hz0 : z = 0 := hz2.2 hhi
     subst hz0
     have HZ := Lib.hid hz1
     rw [HN.out]
     clear hac hk hz1 hz2 hhi
     go_enter Tryz.func82, Tryz.ntmps82
     go_wp2_with fail
     rw [← HGE.out]
     refine HRF.out.mono ?_
     rintro e w1 ⟨rfl, rfl⟩
     go_wp2_with fail
     refine HL.out.mono ?_
     rintro e w2 ⟨rfl, k2⟩
     have HK2 := Lib.hid (HK1.out.trans k2 (fun _ e => e.elim))
     have HM2 := Lib.hid (HM1.out.keep0 k2)
     have HD2 := Lib.hid (HD1.out.keep0 k2)
     have c3 := HM2.out.cells.2.2.2
     clear k2 c1
     go_wp2_with fail
     refine (act1_any D g N S W cW w2 HD2.out HWA.out.2.1 HWA.out.2.2.1).mono ?_
     rintro e w3 ⟨rfl, h3, k3⟩
     have HD3 := Lib.hid h3; have HK3 := Lib.hid k3
     have HM3 := Lib.hid (HM2.out.keep k3 (fun e => HNE.out (.inl e)))
     have c4 := HM3.out.cells.2.2.2
     clear h3 k3 c3
     rw [HT.out]
     have hz1 := HZ.out
     go_wp2_with fail
     refine (off_any (act D).1 D.keep g N S W cW w3 HD3.out (by rw [act_length]; exact HWA.out.1) HWA.out.2.2.2).mono ?_
     rintro e w5 ⟨rfl, W5, c5, h5, k5, n5⟩
     have H5 := Lib.hid h5; have K5 := Lib.hid k5; have N5 := Lib.hid n5
     have HM5 := Lib.hid (HM3.out.keep k5 HNE.out)
     have HKK := Lib.hid ((HK2.out.nob (mF m g N S W)).trans HK3.out (fun i e => .inl (.inr (.inl e))))
     clear h5 k5 n5 c4 hz1
     go_wp2
     go_ret
     exact ⟨rfl, W5, c5, H5.out, HM5.out, HKK.out.trans K5.out (fun i e => .inl (.inr e)), fun k e => (N5.out k e).imp id (fun h => Nat.le_trans HKK.out.size h)⟩
theorem rebuilt (n : Int) (X : Option Addr) (w : World) : (Instr.build 51 #[(1, .int .i64 n), (2, .pointer X)]).run Tryz.prog w = .ok (.agg (vcells none_ ++ ([.int .i64 n, .pointer X] : List Value)).toArray) w := by kernel_rfl
theorem new_any (n : Int) (X : Option Addr) (w : World) :
    Calls Tryz.prog 32 #[.int .i64 n, .pointer X] w fun e w' => e = .returned (.pointer (some ⟨w.heap.size, 0, none⟩)) ∧ Mb w' w.heap.size X (fresh n) ∧ Kp nob w w' := by
 have hmx2 : (if n < 0 then 0 else n) = (n.toNat : Int) := by split <;> omega
 have hmx : (if 0 < n then n else 0) = (n.toNat : Int) := by split <;> omega
 obtain ⟨p, hp⟩ : ∃ p : Nat, p = n.toNat := ⟨_, rfl⟩
 have HL := Lib.hid (show lim n = min p 1099511627776 by rw [lim, hp])
 rw [← hp] at hmx hmx2
 obtain ⟨q, hq⟩ : ∃ q : Nat, q = lim n := ⟨_, rfl⟩
 have hq2 : q = min p 1099511627776 := by rw [hq, HL.out]
 have hm1 : (if (1099511627776 : Int) < (p : Int) then 1099511627776 else (p : Int)) = (q : Int) := by split <;> omega
 have hm2 : (if (p : Int) < 1099511627776 then (p : Int) else 1099511627776) = (q : Int) := by split <;> omega
 have HF := Lib.hid (show mcells (fresh n) X = vcells none_ ++ ([.int .i64 (q : Int), .pointer X] : List Value) by rw [hq]; rfl)
 clear hp hq hq2
 go_enter Tryz.func32, Tryz.ntmps32
 go_wp2_with (refine wpList_built rfl 51 _ rfl (.agg (vcells none_ ++ ([.int .i64 (q : Int), .pointer X] : List Value)).toArray) (by exact exec_bld _ _ rfl [(1, .int .i64 (q : Int)), (2, .pointer X)] _ rfl (rebuilt _ _ _)) ?_)
 go_ret
 refine ⟨rfl, ⟨?_, fresh_ok n⟩, (Kp.refl nob w).alloc _⟩
 rw [HF.out]
 exact Blk.new w _ _
end Meter
end Go.Proofs.YtigdlnfgdjfdoaaGreat
