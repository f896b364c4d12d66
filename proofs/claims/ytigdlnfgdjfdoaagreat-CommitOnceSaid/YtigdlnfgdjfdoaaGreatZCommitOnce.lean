/- CommitOnce: no number seals two texts, whenever the power goes. -/
import Derived.Test.YtigdlnfgdjfdoaaGreatZK39
import Derived.Deep.Cut
import Derived.Deep.DeepCutAuto
import Derived.Deep.CutRange
import Derived.Deep.CutBlock
set_option maxHeartbeats 4000000
set_option maxRecDepth 100000
set_option linter.unusedVariables false
set_option linter.unusedSimpArgs false
namespace Go.Proofs.YtigdlnfgdjfdoaaGreat
namespace Com
open Go Go.RowKit Kit
open Rec (Rec good Rrow rcells exec_recOne rec_info recs_und rcs_len rcs_one)
open Ideal (Ts Thing hashT)
open Disk
open Meter (Mt Mk Mb nxt)
theorem here_ {P : Program} {ops : Array Oper} {Q : Exit → Act → World → Prop} {l : List Oper} {a : Act} {w : World} (h : wpList P ops Q l a w) : wpList P ops Q l a w := h
theorem step_under : Tryz.prog.underlying 35 = some (.struct (Tryz.prog.fieldsOf 35)) := by kernel_rfl
theorem step_size (s : Stp) : (Tryz.prog.info? 35).map (·.size) = some s.cells.length := by rw [s.cells_length]; kernel_rfl
theorem Stp.one (s : Stp) : ∀ u ∈ s.cells, u.oneCell' = true := by
 intro u hu
 simp only [Stp.cells, List.mem_cons, List.not_mem_nil, or_false] at hu
 rcases hu with rfl | rfl | rfl | rfl | rfl <;> rfl
theorem exec_rec0 {a : Act} {o : Oper} {w : World} (ho : o.op = .buildSlice 29 0 #[]) :
    (execOp a.eval o).run Tryz.prog w = .ok (.value (.slice (some ⟨w.heap.size, 0, none⟩) 0 0)) (w.alloc (.cells #[] 67)) := by
 have h : (Instr.buildSlice 29 0 #[]).run Tryz.prog w = .ok (.slice (some ⟨w.heap.size, 0, none⟩) 0 0) (w.alloc (.cells #[] 67)) := by kernel_rfl
 unfold execOp
 simp [ho, h, Result.andThen]
theorem scells_1 (s : Stp) : s.cells[1]? = some (.slice s.A s.n s.c) := rfl
theorem scells_2 (s : Stp) : s.cells[2]? = some (.int .i64 s.fuse) := rfl
theorem scells_3 (s : Stp) : s.cells[3]? = some (.int .u64 (s.keep : Int)) := rfl
theorem Oc.beside2 {w wr : World} {z : Zf} {p l a : Nat} {L : Lo} {i b : Nat} {v : Zv} {D : Dk} {t : Mt} {xs ys : List Rec} {fresh : Bool} {Y : Option Addr} {cy : Nat} {hist : Nat → List Rec} (h : Oc w wr z p l a L i b v D t xs ys fresh Y cy hist) : ¬ (own z v p ∨ p = l ∨ p = a) := fun e => by
 have h1 := h.g.b.be p (.inl (.inl rfl))
 rcases e with e | e | e
 · exact h1.2.2 e
 · exact h.g.nl (.inl e.symm)
 · exact h.g.na (.inl e.symm)
def Rnd (w2 wx : World) (z : Zf) (p i b : Nat) (v6 v8 : Value) : Prop := ∃ fresh l a L v D t xs ys Y cy hist, v6 = .slice Y ys.length cy ∧ v8 = .bool fresh ∧ Oc w2 wx z p l a L i b v D t xs ys fresh Y cy hist
theorem once_walk (n : Int) (A : Option Addr) (m c : Nat) (ss : List Stp) (w : World) (hl : ss.length = m) (hr : Row w A (ss.flatMap Stp.cells)) (hc : m ≤ c) (hm : c ≤ maxLen) (hok : ∀ s ∈ ss, StpOk w s) :
    Calls Tryz.prog 5 #[.int .i64 n, .slice A m c] w fun e w' => e = .returned (.bool true) ∧ Kp nob w w' := by
 have HAL := Lib.hid (fun w => alive_yes w)
 have HGR := Lib.hid (fun w' (k : Kp nob w w') => lgreat_any A m c ss w' hl (hr.keep0 k) hc hm (fun s hs => (hok s hs).kept k (fun _ _ e => e)))
 have HR := Lib.hid hr
 have HOK := Lib.hid hok
 have HL := Lib.hid hl
 have hmx : m ≤ 9223372036854775807 := by unfold maxLen at hm; omega
 clear hr hok hl hc hm
 go_enter Tryz.func5, Tryz.ntmps5
 go_wp2_with fail
 refine (HAL.out _).mono ?_
 rintro e w1 ⟨rfl, k1⟩
 have HK1 := Lib.hid k1
 clear k1
 go_wp2_with fail
 refine (HGR.out w1 HK1.out).mono ?_
 rintro e w2 ⟨b, rfl, k2, hb⟩
 have HK2 := Lib.hid (HK1.out.trans k2 (fun _ e => e.elim))
 clear k2
 cases b with
 | true =>
   go_wp2
   go_ret
   exact ⟨rfl, HK2.out⟩
 | false =>
 have HF := Lib.hid (hb rfl)
 clear hb
 by_cases hn0 : n < 0
 · have hd0 : decide (n < 0) = true := decide_eq_true hn0
   go_wp2
   go_ret
   exact ⟨rfl, HK2.out⟩
 have hd0 : decide (n < 0) = false := decide_eq_false hn0
 by_cases hn1 : 100 < n
 · have hd1 : decide ((100 : Int) < n) = true := decide_eq_true hn1
   go_wp2
   go_ret
   exact ⟨rfl, HK2.out⟩
 have hd1 : decide ((100 : Int) < n) = false := decide_eq_false hn1
 go_wp2_with fail
 refine (place_any n 1099511627776 1099511627776 w2).mono ?_
 rintro r w3 ⟨z, v, p, rfl, hn⟩
 have HN := Lib.hid (hn.ob (by omega))
 clear hn hn0 hn1 hd0 hd1
 go_wp2_with fail
 refine (HN.out.open_c (by decide) rfl).mono ?_
 rintro r w4 ⟨l, a, L, v2, Z, cz, rfl, hoc⟩
 have HO := Lib.hid hoc
 clear hoc
 go_wp2
 go_loopw [6, 8, 34] (fun v6 v8 vi wr => ∃ k : Nat, k ≤ m ∧ vi = .int .i64 k ∧ Rnd w2 wr z p k (1 + tot (ss.take k)) v6 v8)
  (fun _ _ i _ => m - (intOf i).toNat)
 case atStart => exact ⟨0, Nat.zero_le _, rfl, _, l, a, L, v2, _, _, _, _, Z, cz, _, rfl, rfl, HO.out⟩
 case round =>
  clear HO HN
  obtain ⟨k, hk, rfl, fresh, l, a, L, v, D, t, xs, ys, Y, cy, hist, rfl, rfl, hoc⟩ := hrel
  by_cases hlt : k < m
  · have hkl : k < ss.length := by rw [HL.out]; exact hlt
    have HKW := Lib.hid (HK2.out.trans hoc.o.pb.kp (fun _ e => e.elim))
    obtain ⟨bb, oo, rfl, hbb, hrg, hc0, hc1, hc2, hc3, hc4⟩ := Srow.at_ (HR.out.keep0 HKW.out) (i := k) hkl
    have hmem : ss[k]'hkl ∈ ss := List.getElem_mem _
    have hsn := tot_snoc ss k hkl
    have htt := tot_take ss (k + 1)
    obtain ⟨s, hs⟩ : ∃ s, s = ss[k]'hkl := ⟨_, rfl⟩
    rw [← hs] at hrg hmem hsn
    have HSO := Lib.hid ((HOK.out s hmem).kept HK2.out (fun _ _ e => e))
    have HSB := Lib.hid (HF.out.b s hmem)
    have HRG := Lib.hid hrg
    have HT := Lib.hid (And.intro hsn htt)
    have hk30 : k ≤ 30 := by have h1 := HF.out.n; rw [HL.out] at h1; omega
    have HK30 := Lib.hid hk30
    have HOC := Lib.hid hoc
    have hlt2 : (k : Int) < (m : Int) := by omega
    have HLT := Lib.hid hlt
    clear hrg hmem hsn htt hs hoc hc0 hc1 hc2 hc3 hc4 hkl hk hlt hk30
    have hzs : True := trivial
    go_upto_block 2 with ((with_reducible refine here_ ?_); first
     | (refine wpList_load_mid rfl 35 (.tmp 36) rfl bb (oo + k * 5) rfl s.cells _ HRG.out step_under rfl (step_size s) ?_)
     | (refine wpList_store_new rfl 35 (.tmp 10) (.tmp 37) rfl _ s.cells rfl rfl rfl (step_size s) s.one ?_
        intro w5 hB5 k5 z5
        obtain ⟨gs, hgs⟩ : ∃ g, g = wr.heap.size := ⟨_, rfl⟩
        rw [← hgs] at hB5 ⊢
        have HO5 := Lib.hid (HOC.out.keep k5)
        have HG5 : Hid (Gs w5 z v l a gs s) := Lib.hid ⟨hB5, fun e => by have := HOC.out.g.b.lt gs e; omega, fun e => by have := HOC.out.g.lg.b.lt; omega, fun e => by have h1 : a < wr.heap.size := Blk.lt HOC.out.g.ar; omega⟩
        clear hB5 k5 z5 hgs))
    have HNP : Hid (¬ own z v p) := Lib.hid (fun e => HOC.out.beside2 (.inl e))
    go_wp2
    refine reg_begin (fun w' => Kp (own z v) w5 w') (by kernel_rfl) ((Kp.refl _ w5).drew) (fun HS => ?_)
    refine reg_tk (v := .pointer (some ⟨p, 0, none⟩)) 0 38 rfl rfl (by kernel_rfl) (by rfl) HS (fun w' hw => by go_simp) ?_; simp only [Act.put, zp1, zp2, zp3]
    refine reg_tk (v := .pointer (some ⟨p, 0, none⟩)) 1 39 rfl rfl (by kernel_rfl) (by rfl) HS (fun w' hw => by go_simp) ?_; simp only [Act.put, zp1, zp2, zp3]
    refine reg_tk (v := .pointer (some ⟨p, 1, none⟩)) 2 40 rfl rfl (by kernel_rfl) (by rfl) HS (fun w' hw => by go_simp) ?_; simp only [Act.put, zp1, zp2, zp3]
    refine reg_tk (v := .pointer (some ⟨z.g, 0, none⟩)) 3 41 rfl rfl (by kernel_rfl) (by rfl) HS (fun w' hw => by have c := (HO5.out.o.bl.keep hw HNP.out).cell 1; rw [pcells_1] at c; go_simp) ?_; simp only [Act.put, zp1, zp2, zp3]
    refine reg_tk (v := .pointer (some ⟨gs, 2, none⟩)) 4 42 rfl rfl (by kernel_rfl) (by rfl) HS (fun w' hw => by go_simp) ?_; simp only [Act.put, zp1, zp2, zp3]
    refine reg_tk (v := .int .i64 s.fuse) 5 43 rfl rfl (by kernel_rfl) (by rfl) HS (fun w' hw => by have c := (HG5.out.b.keep hw HG5.out.n.1).cell 2; rw [scells_2] at c; go_simp) ?_; simp only [Act.put, zp1, zp2, zp3]
    refine reg_tk (v := .pointer (some ⟨gs, 3, none⟩)) 6 44 rfl rfl (by kernel_rfl) (by rfl) HS (fun w' hw => by go_simp) ?_; simp only [Act.put, zp1, zp2, zp3]
    refine reg_tk (v := .int .u64 (s.keep : Int)) 7 45 rfl rfl (by kernel_rfl) (by rfl) HS (fun w' hw => by have c := (HG5.out.b.keep hw HG5.out.n.1).cell 3; rw [scells_3] at c; go_simp) ?_; simp only [Act.put, zp1, zp2, zp3]
    refine reg_call 8 (some 46) rfl rfl (by kernel_rfl) (by rfl) _ _ (exec_func 14 _ _ [.pointer (some ⟨z.g, 0, none⟩), .int .i64 s.fuse, .int .u64 (s.keep : Int)] rfl (by kernel_rfl) rfl) ?_
    refine ((HO5.out.keep ((Kp.refl nob w5).drew)).arm_c s.fuse s.keep HSO.out.fuse.2 HSO.out.keep).mono ?_
    rintro r w6 ⟨rfl, v6, ho6, k6, hs6⟩
    have HS6 : Kp (own z v) w5 w6 := HS.trans k6 (fun j e => .inl e)
    refine ⟨_, rfl, HS6, fun _ => ?_⟩
    simp only [Act.put, zp1, zp2, zp3]
    refine reg_end (by kernel_rfl) ?_
    have HG6 : Hid (Gs w6 z v6 l a gs s) := Lib.hid ⟨HG5.out.b.keep HS6 HG5.out.n.1, fun e => (hs6 gs e).elim HG5.out.n.1 (fun e => by have h1 := HG5.out.b.lt; have h2 : w5.drew.heap.size = w5.heap.size := rfl; omega), HG5.out.n.2⟩
    have HO6 := Lib.hid ho6
    clear ho6 k6 hs6 HS HS6 HO5 HG5 HOC HNP
    rename_i hK hS9
    refine hK _ _ ?_
    clear hK hS9
    refine wp_seq_k (fun K1 hK1 => ?_)
    go_cut [6, 7, 8] from 35 to 120 (fun v6 v7 v8 wx => ∃ (e : Int) (fr : Bool), v7 = .int .i64 e ∧ v8 = .bool fr ∧ CutR w2 wx z p l (k + 1) (1 + tot (ss.take (k + 1))) gs s v6 e fr)
    case first =>
     clear hK1
     have c3 := HO6.out.o.bl.cell 3
     rw [pcells_3] at c3
     have c3 : w6.cell? ⟨p, 3, none⟩ = some (.pointer (some ⟨l, 0, none⟩)) := c3
     have q0 : w6.cell? ⟨gs, 0, none⟩ = some (.bool s.turn) := HG6.out.b.cell 0
     have HLE : Hid (1 + tot (ss.take k) ≤ 1 + tot (ss.take (k + 1)) ∧ 1 + tot (ss.take (k + 1)) ≤ 101 ∧ 1 + tot (ss.take k) + s.rs.length = 1 + tot (ss.take (k + 1))) := Lib.hid (by have h1 := HT.out; have h2 := HF.out.t; omega)
     have HK31 : Hid (k ≤ 31) := Lib.hid (by have := HK30.out; omega)
     cases fresh with
     | false =>
       by_cases hy : ys = []
       · subst hy
         go_wp2_with (first
          | (refine wpList_gd (by rfl) (exec_recOne (.tmp 56) tick rfl rfl) ?_
             have hr7 := row_new w6 (rcells tick) 67
             have k7 : Kp nob w6 (w6.alloc (.cells (rcells tick).toArray 67)) := (Kp.refl nob w6).alloc _
             have hz7 : w6.heap.size < (w6.alloc (.cells (rcells tick).toArray 67)).heap.size := by simp
             generalize w6.alloc (.cells (rcells tick).toArray 67) = w7 at hr7 k7 hz7 ⊢
             have HR7 := Lib.hid (And.intro hr7 (And.intro k7 hz7))
             have c37 := (HO6.out.o.bl.keep k7 (fun e => e)).cell 3
             rw [pcells_3] at c37
             have c37 : w7.cell? ⟨p, 3, none⟩ = some (.pointer (some ⟨l, 0, none⟩)) := c37
             clear hr7 k7 hz7 c3)
          | fail)
         have ht := HO6.out.tick_ HR7.out.2.1 HR7.out.2.2 (by unfold Rrow; simp only [List.flatMap_cons, List.flatMap_nil, List.append_nil]; exact HR7.out.1)
         have k7 := HR7.out.2.1
         refine ((ht.le_ HLE.out.1 HLE.out.2.1).turn_c (by simp) HK31.out (HG6.out.keep0 k7)).mono ?_
         rintro r w71 ⟨e, rfl, hcut⟩
         clear ht k7 HR7 c37
         by_cases he : e = 0
         · subst he
           go_wp2
           go_meet
           exact ⟨0, true, rfl, rfl, by simpa using hcut⟩
         · have hb : (e == 0) = false := beq_eq_false_iff_ne.2 he
           go_wp2
           go_meet
           exact ⟨e, false, rfl, rfl, by simpa [he] using hcut⟩
       · have e0 : ((ys.length : Int) == 0) = false := by
           have : ys.length ≠ 0 := fun e => hy (List.eq_nil_of_length_eq_zero e)
           simp; exact hy
         go_wp2_with fail
         refine ((HO6.out.le_ HLE.out.1 HLE.out.2.1).turn_c hy HK31.out HG6.out).mono ?_
         rintro r w7 ⟨e, rfl, hcut⟩
         by_cases he : e = 0
         · subst he
           go_wp2
           go_meet
           exact ⟨0, true, rfl, rfl, by simpa using hcut⟩
         · have hb : (e == 0) = false := beq_eq_false_iff_ne.2 he
           go_wp2
           go_meet
           exact ⟨e, false, rfl, rfl, by simpa [he] using hcut⟩
     | true =>
       have hy : ys ≠ [] := by
        obtain ⟨h1, h2, _⟩ := HO6.out.fr rfl
        rw [h1]; exact h2
       cases hst : s.turn with
       | true =>
         rw [hst] at q0
         have e0 : ((ys.length : Int) == 0) = false := by simp; exact hy
         go_wp2_with fail
         refine ((HO6.out.le_ HLE.out.1 HLE.out.2.1).turn_c hy HK31.out HG6.out).mono ?_
         rintro r w7 ⟨e, rfl, hcut⟩
         go_wp2
         go_meet
         exact ⟨e, true, rfl, rfl, by simpa using hcut⟩
       | false =>
         rw [hst] at q0
         have HF6 : Hid (¬ (own z v6 p ∨ p = l ∨ p = a) ∧ ¬ (own z v6 gs ∨ gs = l ∨ gs = a)) := Lib.hid ⟨HO6.out.beside2, fun e => by
          rcases e with e | e | e
          · exact HG6.out.n.1 e
          · exact HG6.out.n.2.1 e
          · exact HG6.out.n.2.2 e⟩
         clear c3
         go_wp2
         refine reg_begin (fun w' => Kp (fun j => own z v6 j ∨ j = l ∨ j = a) w6 w') (by kernel_rfl) ((Kp.refl _ w6).drew) (fun HS => ?_)
         refine reg_tk (v := .pointer (some ⟨p, 0, none⟩)) 0 69 rfl rfl (by kernel_rfl) (by rfl) HS (fun w' hw => by go_simp) ?_; simp only [Act.put, zp1, zp2, zp3]
         refine reg_tk (v := .pointer (some ⟨p, 0, none⟩)) 1 70 rfl rfl (by kernel_rfl) (by rfl) HS (fun w' hw => by go_simp) ?_; simp only [Act.put, zp1, zp2, zp3]
         refine reg_tk (v := .pointer (some ⟨p, 3, none⟩)) 2 71 rfl rfl (by kernel_rfl) (by rfl) HS (fun w' hw => by go_simp) ?_; simp only [Act.put, zp1, zp2, zp3]
         refine reg_tk (v := .pointer (some ⟨l, 0, none⟩)) 3 72 rfl rfl (by kernel_rfl) (by rfl) HS (fun w' hw => by have c := (HO6.out.o.bl.keep hw HF6.out.1).cell 3; rw [pcells_3] at c; go_simp) ?_; simp only [Act.put, zp1, zp2, zp3]
         refine reg_tk (v := .pointer (some ⟨gs, 1, none⟩)) 4 73 rfl rfl (by kernel_rfl) (by rfl) HS (fun w' hw => by go_simp) ?_; simp only [Act.put, zp1, zp2, zp3]
         refine reg_tk (v := .slice s.A s.n s.c) 5 74 rfl rfl (by kernel_rfl) (by rfl) HS (fun w' hw => by have c := (HG6.out.b.keep hw HF6.out.2).cell 1; rw [scells_1] at c; go_simp) ?_; simp only [Act.put, zp1, zp2, zp3]
         refine reg_call 6 (some 75) rfl rfl (by kernel_rfl) (by rfl) _ _ (exec_func 24 _ _ [.pointer (some ⟨l, 0, none⟩), .slice s.A s.n s.c] rfl (by kernel_rfl) rfl) ?_
         refine ((HO6.out.keep ((Kp.refl nob w6).drew)).commit_c HK31.out (HG6.out.keep0 ((Kp.refl nob w6).drew)) HSO.out HSB.out (by rw [HLE.out.2.2]; exact HLE.out.2.1)).mono ?_
         rintro r w7 ⟨e, rfl, k7, hres⟩
         have HS7 : Kp (fun j => own z v6 j ∨ j = l ∨ j = a) w6 w7 := HS.trans k7 (fun j e => .inl e)
         refine ⟨_, rfl, HS7, fun _ => ?_⟩
         simp only [Act.put, zp1, zp2, zp3]
         refine reg_tk (v := .int .i64 e) 7 7 rfl rfl (by kernel_rfl) (by rfl) HS7 (fun w' hw => by go_simp) ?_; simp only [Act.put, zp1, zp2, zp3]
         refine reg_end (by kernel_rfl) ?_
         clear HS HS7 k7
         rw [HLE.out.2.2] at hres
         rcases hres with ⟨he, hcut⟩ | ⟨he, hkw, hgb, hrw, hrest⟩
         · have hb : (e == 0) = false := beq_eq_false_iff_ne.2 he
           go_wp2
           go_meet
           exact ⟨e, true, rfl, rfl, hcut⟩
         · subst he
           have HGB := Lib.hid hgb
           have HRW := Lib.hid hrw
           have HRE := Lib.hid hrest
           have HKW := Lib.hid hkw
           have HCY := Lib.hid (And.intro HO6.out.cap HO6.out.yl)
           clear hgb hrw hrest hkw
           go_wp2
           refine reg_begin (fun w' => Kp (nob) w7 w') (by kernel_rfl) ((Kp.refl _ w7).drew) (fun HS => ?_)
           refine reg_tk (v := .slice Y ys.length cy) 1 79 rfl rfl (by kernel_rfl) (by rfl) HS (fun w' hw => by go_simp) ?_; simp only [Act.put, zp1, zp2, zp3]
           refine reg_tk (v := .pointer (some ⟨gs, 1, none⟩)) 3 81 rfl rfl (by kernel_rfl) (by rfl) HS (fun w' hw => by go_simp) ?_; simp only [Act.put, zp1, zp2, zp3]
           refine reg_tk (v := .slice s.A s.n s.c) 4 82 rfl rfl (by kernel_rfl) (by rfl) HS (fun w' hw => by have c := (HGB.out.keep hw (fun e => e)).cell 1; rw [scells_1] at c; go_simp) ?_; simp only [Act.put, zp1, zp2, zp3]
           refine reg_step (v := .slice (some ⟨w7.drew.heap.size, 0, none⟩) 0 0) (w' := w7.drew.alloc (.cells #[] 67)) 0 (some 78) rfl rfl (by kernel_rfl) (by rfl) (exec_rec0 rfl) (HS.alloc _) (fun HS2 => ?_)
           simp only [Act.put, zp1, zp2, zp3]
           obtain ⟨i0, hi1, hi2, hi3, hi4⟩ := rec_info
           have hyl : ys.length ≤ 101 := by have h1 := HCY.out.2; have h2 := HLE.out; omega
           have hsn : s.n ≤ 101 := by have h1 := HSO.out.len; have h2 := HLE.out; omega
           have hown0 : OwnK 6 67 (w7.drew.alloc (.cells #[] 67)) (some ⟨w7.drew.heap.size, 0, none⟩) 0 0 [] := OwnK.of_blk (Blk.new w7.drew 67 []) rfl rfl (Nat.le_refl _) (Nat.zero_le _)
           have k0 : Kp nob w7 (w7.drew.alloc (.cells #[] 67)) := HS2
           obtain ⟨A1, c1, w9, hr9, ho9, hg9, hz9⟩ := run_appKO (P := Tryz.prog) (w7.drew.alloc (.cells #[] 67)) 29 29 6 (by decide) 67 i0 _ 56 recs_und hi1 hi2 hi3 hi4 rfl (some ⟨w7.drew.heap.size, 0, none⟩) 0 0 [] hown0 Y ys.length cy (ys.flatMap rcells) (fun e => by have h1 := HCY.out.1.2.2 e; have h2 := HCY.out.1.1; omega) (rcs_len ys) (Row.keep0 HRW.out k0) (rcs_one ys) (by omega) (by simp [maxLen]; omega)
           have hsz0 : (w7.drew.alloc (.cells #[] 67)).heap.size = w7.heap.size + 1 := by simp
           have hd7 : w7.drew.heap.size = w7.heap.size := rfl
           have k9 : Kp nob w7 w9 := k0.grown hg9 (fun i e => .inr (by have e : w7.drew.heap.size = i := Option.some.inj e; omega))
           have n9 : ∀ j, ab A1 = some j → w7.heap.size ≤ j := fun j e => by
            rcases hz9 with h | h
            · rw [h] at e; have e : w7.drew.heap.size = j := Option.some.inj e; omega
            · rw [h] at e; have e := Option.some.inj e; omega
           refine reg_step (v := .slice A1 (0 + ys.length) c1) (w' := w9) 2 (some 80) rfl rfl (by kernel_rfl) (by rfl) (exec_app (.tmp 78) (.tmp 79) 29 rfl _ _ rfl rfl hr9) k9 (fun HS3 => ?_)
           simp only [Act.put, zp1, zp2, zp3]
           obtain ⟨A2, c2, w10, hr10, ho10, hg10, hz10⟩ := run_appKO (P := Tryz.prog) w9 29 29 6 (by decide) 67 i0 _ 56 recs_und hi1 hi2 hi3 hi4 rfl A1 (0 + ys.length) c1 ([] ++ ys.flatMap rcells) ho9 s.A s.n s.c (s.rs.flatMap rcells) (fun e => by have h1 := HSO.out.nil e; have h2 := HSO.out.cap; omega) (by rw [rcs_len, HSO.out.len]) (Row.keep0 (Row.keep0 HSO.out.row HKW.out) k9) (rcs_one s.rs) (by omega) (by simp [maxLen]; omega)
           have k10 : Kp nob w7 w10 := k9.grown hg10 (fun i e => .inr (n9 i e))
           have n10 : ∀ j, ab A2 = some j → w7.heap.size ≤ j := fun j e => by
            rcases hz10 with h | h
            · rw [h] at e; exact n9 j e
            · rw [h] at e; have e := Option.some.inj e; have := k9.size; omega
           refine reg_step (v := .slice A2 (0 + ys.length + s.n) c2) (w' := w10) 5 (some 83) rfl rfl (by kernel_rfl) (by rfl) (exec_app (.tmp 80) (.tmp 82) 29 rfl _ _ rfl rfl hr10) k10 (fun HS4 => ?_)
           simp only [Act.put, zp1, zp2, zp3]
           refine reg_tk (v := .slice A2 (0 + ys.length + s.n) c2) 6 6 rfl rfl (by kernel_rfl) (by rfl) HS4 (fun w' hw => by go_simp) ?_; simp only [Act.put, zp1, zp2, zp3]
           refine reg_end (by kernel_rfl) ?_
           have hlen : (ys ++ s.rs).length = 0 + ys.length + s.n := by rw [List.length_append, HSO.out.len]; omega
           have hfin := HRE.out w10 A2 c2 k10 (by unfold Rrow; rw [List.flatMap_append]; have h1 := ho10.row; rw [List.nil_append] at h1; exact h1) ⟨by rw [hlen]; exact ho10.cap.1, ho10.cap.2, ho10.none_⟩ (fun j e => ⟨n10 j e, ho10.lt j e⟩)
           rw [hlen] at hfin
           have HFI := Lib.hid hfin
           clear HS HS2 HS3 HS4 hr9 ho9 hg9 hz9 hr10 ho10 hg10 hz10 k0 k9 k10 n9 n10 hown0 hsz0 hd7 hi1 hi2 hi3 hi4 hlen hfin
           go_wp2
           go_meet
           exact ⟨0, true, rfl, rfl, HFI.out⟩
    case rest =>
     clear HO6 HG6
     obtain ⟨e, fr, rfl, rfl, hgb, hres⟩ := hcut
     refine hK1 _ _ ?_
     clear hK1
     have HK31 : Hid (k + 1 ≤ 31) := Lib.hid (by have := HK30.out; omega)
     rcases hres with ⟨h8, a, L, v, D, t, xs, ys, Y, cy, hist, rfl, hng, hoc⟩ | ⟨h8, v, D, t, xs, hist, hng, hob⟩
     · have c1 := hoc.o.bl.cell 1
       rw [pcells_1] at c1
       have HOC := Lib.hid hoc
       have HGB := Lib.hid (And.intro hgb hng)
       clear hoc hgb hng
       go_wp2_with fail
       refine (HOC.out.arm_c 0 0 (by decide) (by decide)).mono ?_
       rintro r w8 ⟨rfl, v8, ho8, k8, hs8⟩
       have HO8 := Lib.hid ho8
       have HG8 := Lib.hid (HGB.out.1.keep k8 HGB.out.2)
       have HNG8 : Hid (¬ own z v8 gs) := Lib.hid (fun e => (hs8 gs e).elim HGB.out.2 (fun e => by have := HGB.out.1.lt; omega))
       have c0 := ho8.o.bl.cell 0
       rw [pcells_0] at c0
       have HCL := Lib.hid (ho8.o.clashes)
       have q4 : w8.cell? ⟨gs, 4, none⟩ = some (.bool s.again) := HG8.out.cell 4
       have hb8 : (e == 8) = false := beq_eq_false_iff_ne.2 h8
       have HB8 := Lib.hid ho8.o
       clear ho8 k8 hs8 c1 h8
       go_wp2_with fail
       refine HCL.out.mono ?_
       rintro r w8' ⟨rfl, rfl⟩
       clear c0 HCL
       cases hag : s.again with
       | false =>
         rw [hag] at q4
         have hlt : k < m := HLT.out
         have hm9 : m ≤ 9223372036854775807 := hmx
         go_wp2
         go_roundw
         case rel => exact ⟨k + 1, by omega, by go_num, fr, l, a, L, v8, _, _, _, _, Y, cy, _, rfl, rfl, HO8.out⟩
         case measure => simp [intOf]; omega
       | true =>
         rw [hag] at q4
         clear HO8
         go_wp2
         have HF8 : Hid (¬ own z v8 p ∧ ¬ own z v8 gs) := Lib.hid ⟨(HB8.out.pb.be p rfl).2.2, HNG8.out⟩
         refine reg_begin (fun w' => Kp (own z v8) w8 w') (by kernel_rfl) ((Kp.refl _ w8).drew) (fun HS => ?_)
         refine reg_tk (v := .pointer (some ⟨p, 0, none⟩)) 0 101 rfl rfl (by kernel_rfl) (by rfl) HS (fun w' hw => by go_simp) ?_; simp only [Act.put, zp1, zp2, zp3]
         refine reg_tk (v := .pointer (some ⟨p, 0, none⟩)) 1 102 rfl rfl (by kernel_rfl) (by rfl) HS (fun w' hw => by go_simp) ?_; simp only [Act.put, zp1, zp2, zp3]
         refine reg_tk (v := .pointer (some ⟨p, 1, none⟩)) 2 103 rfl rfl (by kernel_rfl) (by rfl) HS (fun w' hw => by go_simp) ?_; simp only [Act.put, zp1, zp2, zp3]
         refine reg_tk (v := .pointer (some ⟨z.g, 0, none⟩)) 3 104 rfl rfl (by kernel_rfl) (by rfl) HS (fun w' hw => by have c := (HB8.out.bl.keep hw HF8.out.1).cell 1; rw [pcells_1] at c; go_simp) ?_; simp only [Act.put, zp1, zp2, zp3]
         refine reg_tk (v := .pointer (some ⟨gs, 3, none⟩)) 4 105 rfl rfl (by kernel_rfl) (by rfl) HS (fun w' hw => by go_simp) ?_; simp only [Act.put, zp1, zp2, zp3]
         refine reg_tk (v := .int .u64 (s.keep : Int)) 5 106 rfl rfl (by kernel_rfl) (by rfl) HS (fun w' hw => by have c := (HG8.out.keep hw HF8.out.2).cell 3; rw [scells_3] at c; go_simp) ?_; simp only [Act.put, zp1, zp2, zp3]
         refine reg_call 6 (some 107) rfl rfl (by kernel_rfl) (by rfl) _ _ (exec_func 16 _ _ [.pointer (some ⟨z.g, 0, none⟩), .int .u64 (s.keep : Int)] rfl (by kernel_rfl) rfl) ?_
         refine ((HB8.out.keep ((Kp.refl nob w8).drew)).off_c HK31.out s.keep HSO.out.keep).mono ?_
         rintro r w9 ⟨rfl, v9, hb9, k9, hs9⟩
         have HS9 : Kp (own z v8) w8 w9 := HS.trans k9 (fun j e => .inl e)
         refine ⟨_, rfl, HS9, fun _ => ?_⟩
         simp only [Act.put, zp1, zp2, zp3]
         refine reg_end (by kernel_rfl) ?_
         have HB9 := Lib.hid hb9
         have c1 := hb9.bl.cell 1
         rw [pcells_1] at c1
         clear hb9 k9 hs9 HS HS9
         go_wp2_with fail
         refine (HB9.out.on_c).mono ?_
         rintro r w10 ⟨rfl, v10, hb10, k10, hs10⟩
         have HB10 := Lib.hid hb10
         clear hb10 k10 hs10 c1
         go_wp2_with fail
         refine (HB10.out.open_c HK31.out rfl).mono ?_
         rintro r w11 ⟨l2, a2, L2, v11, Z2, cz2, rfl, hoc⟩
         have HOC := Lib.hid hoc
         clear hoc
         have hlt : k < m := HLT.out
         have hm9 : m ≤ 9223372036854775807 := hmx
         go_wp2
         go_roundw
         case rel => exact ⟨k + 1, by omega, by go_num, false, l2, a2, L2, v11, _, _, _, _, Z2, cz2, _, rfl, rfl, HOC.out⟩
         case measure => simp [intOf]; omega
     · subst h8
       have c1 := hob.bl.cell 1
       rw [pcells_1] at c1
       have HOC := Lib.hid hob
       have HGB := Lib.hid (And.intro hgb hng)
       clear hob hgb hng
       go_wp2_with fail
       refine (HOC.out.arm_c 0 0 (by decide) (by decide)).mono ?_
       rintro r w8 ⟨rfl, v8, ho8, k8, hs8⟩
       have HG8 := Lib.hid (HGB.out.1.keep k8 HGB.out.2)
       have HNG8 : Hid (¬ own z v8 gs) := Lib.hid (fun e => (hs8 gs e).elim HGB.out.2 (fun e => by have := HGB.out.1.lt; omega))
       have c0 := ho8.bl.cell 0
       rw [pcells_0] at c0
       have HCL := Lib.hid (ho8.clashes)
       have HB8 := Lib.hid ho8
       clear ho8 k8 hs8 c1
       go_wp2_with fail
       refine HCL.out.mono ?_
       rintro r w8' ⟨rfl, rfl⟩
       clear c0 HCL
       go_wp2
       have HF8 : Hid (¬ own z v8 p ∧ ¬ own z v8 gs) := Lib.hid ⟨(HB8.out.pb.be p rfl).2.2, HNG8.out⟩
       refine reg_begin (fun w' => Kp (own z v8) w8 w') (by kernel_rfl) ((Kp.refl _ w8).drew) (fun HS => ?_)
       refine reg_tk (v := .pointer (some ⟨p, 0, none⟩)) 0 101 rfl rfl (by kernel_rfl) (by rfl) HS (fun w' hw => by go_simp) ?_; simp only [Act.put, zp1, zp2, zp3]
       refine reg_tk (v := .pointer (some ⟨p, 0, none⟩)) 1 102 rfl rfl (by kernel_rfl) (by rfl) HS (fun w' hw => by go_simp) ?_; simp only [Act.put, zp1, zp2, zp3]
       refine reg_tk (v := .pointer (some ⟨p, 1, none⟩)) 2 103 rfl rfl (by kernel_rfl) (by rfl) HS (fun w' hw => by go_simp) ?_; simp only [Act.put, zp1, zp2, zp3]
       refine reg_tk (v := .pointer (some ⟨z.g, 0, none⟩)) 3 104 rfl rfl (by kernel_rfl) (by rfl) HS (fun w' hw => by have c := (HB8.out.bl.keep hw HF8.out.1).cell 1; rw [pcells_1] at c; go_simp) ?_; simp only [Act.put, zp1, zp2, zp3]
       refine reg_tk (v := .pointer (some ⟨gs, 3, none⟩)) 4 105 rfl rfl (by kernel_rfl) (by rfl) HS (fun w' hw => by go_simp) ?_; simp only [Act.put, zp1, zp2, zp3]
       refine reg_tk (v := .int .u64 (s.keep : Int)) 5 106 rfl rfl (by kernel_rfl) (by rfl) HS (fun w' hw => by have c := (HG8.out.keep hw HF8.out.2).cell 3; rw [scells_3] at c; go_simp) ?_; simp only [Act.put, zp1, zp2, zp3]
       refine reg_call 6 (some 107) rfl rfl (by kernel_rfl) (by rfl) _ _ (exec_func 16 _ _ [.pointer (some ⟨z.g, 0, none⟩), .int .u64 (s.keep : Int)] rfl (by kernel_rfl) rfl) ?_
       refine ((HB8.out.keep ((Kp.refl nob w8).drew)).off_c HK31.out s.keep HSO.out.keep).mono ?_
       rintro r w9 ⟨rfl, v9, hb9, k9, hs9⟩
       have HS9 : Kp (own z v8) w8 w9 := HS.trans k9 (fun j e => .inl e)
       refine ⟨_, rfl, HS9, fun _ => ?_⟩
       simp only [Act.put, zp1, zp2, zp3]
       refine reg_end (by kernel_rfl) ?_
       have HB9 := Lib.hid hb9
       have c1 := hb9.bl.cell 1
       rw [pcells_1] at c1
       clear hb9 k9 hs9 HS HS9
       go_wp2_with fail
       refine (HB9.out.on_c).mono ?_
       rintro r w10 ⟨rfl, v10, hb10, k10, hs10⟩
       have HB10 := Lib.hid hb10
       clear hb10 k10 hs10 c1
       go_wp2_with fail
       refine (HB10.out.open_c HK31.out rfl).mono ?_
       rintro r w11 ⟨l2, a2, L2, v11, Z2, cz2, rfl, hoc⟩
       have HOC := Lib.hid hoc
       clear hoc
       have hlt : k < m := HLT.out
       have hm9 : m ≤ 9223372036854775807 := hmx
       go_wp2
       go_roundw
       case rel => exact ⟨k + 1, by omega, by go_num, false, l2, a2, L2, v11, _, _, _, _, Z2, cz2, _, rfl, rfl, HOC.out⟩
       case measure => simp [intOf]; omega
  · obtain rfl : k = m := by omega
    have HKW := Lib.hid (HK2.out.trans hoc.o.pb.kp (fun _ e => e.elim))
    clear hoc
    go_wp2
    go_ret
    exact ⟨rfl, HKW.out⟩
end Com
end Go.Proofs.YtigdlnfgdjfdoaaGreat
