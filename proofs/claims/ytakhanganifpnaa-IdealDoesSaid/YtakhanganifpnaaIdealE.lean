/- The code's ideal world: pieces in one, how long they are; digests; a new world, how many things it has. -/
import Derived.Test.YtakhanganifpnaaIdealN
import Derived.Test.YtakhanganifpnaaIdealB
import Derived.Laws.Cover3
namespace Go.Proofs.Ytakhanganifpnaa.Ideal
set_option linter.unusedVariables false
set_option linter.unusedSimpArgs false
open Go Go.RowKit Kit
open Sha (Pc PcsOk catP catP_snoc catP_le)

set_option maxHeartbeats 1000000 in
theorem joined_any (B : Option Addr) (m d : Nat) (ps : List Pc) (F : Nat → Prop) (w : World) (hp : Args w F B m ps) (hl : (catP ps).length ≤ 1099511627776) :
    Calls Try.prog 21 #[.slice B m d] w fun e w' => e = .returned (.string (str (catP ps))) ∧ Kp nob w w' := by
  go_enter Try.func21, Try.ntmps21
  go_wp2_with fail
  refine (Cat.concat_any B m d ps _ hp.len hp.row (hp.pcs.mono (fun _ e => e.elim)) hp.nil hp.max hl).mono ?_
  rintro e w1 ⟨A, c, rfl, ho, k, hf⟩
  have hc := conv_row w1 A _ c (catP ps) rfl ho.row
  have HK := Lib.hid k
  clear ho hf k
  go_wp2
  go_ret
  exact ⟨rfl, HK.out⟩
set_option maxHeartbeats 1000000 in
theorem size_any (B : Option Addr) (m d : Nat) (ps : List Pc) (F : Nat → Prop) (w : World) (hp : Args w F B m ps) (hl : (catP ps).length ≤ 1099511627776) :
    Calls Try.prog 20 #[.slice B m d] w fun e w' => e = .returned (.int .i64 (catP ps).length) ∧ w = w' := by
  have HM := Lib.hid hp.len; have HL := Lib.hid hl
  have hmm := hp.max
  have HPC : Hid (∀ k, k < m → ∃ (p : Pc) (bb oo : Nat), B = some ⟨bb, oo, none⟩ ∧ w.cell? ⟨bb, oo + k, none⟩ = some (.slice p.A p.n p.c) ∧ (catP (ps.take (k + 1))).length = (catP (ps.take k)).length + p.n ∧ (catP (ps.take (k + 1))).length ≤ (catP ps).length) := Lib.hid (by
    intro k hlt
    obtain ⟨p, hpk⟩ : ∃ p, p = ps[k]'(by rw [HM.out]; exact hlt) := ⟨_, rfl⟩
    obtain ⟨bb, oo, rfl, hbb, hcell⟩ := hp.row.at_ (i := k) (by simp [HM.out]; exact hlt)
    have hmem : p ∈ ps := by rw [hpk]; exact List.getElem_mem _
    obtain ⟨q1, q2, _, q4, q5⟩ := hp.pcs p hmem
    have hsn := catP_snoc ps k (by rw [HM.out]; exact hlt)
    exact ⟨p, bb, oo, rfl, by rw [hcell, hpk]; simp [Pc.v], by rw [hsn, List.length_append, ← hpk, q1], catP_le ps (k + 1)⟩)
  clear hp hl
  go_enter Try.func20, Try.ntmps20
  go_wp2
  go_loop [3, 8] (fun vr vi => ∃ (k : Nat), k ≤ m ∧ vi = .int .i64 k ∧ vr = .int .i64 ((catP (ps.take k)).length : Int))
    (fun _ vi => m - (intOf vi).toNat)
  case atStart => exact ⟨0, Nat.zero_le _, rfl, by simp [catP]⟩
  case round =>
    obtain ⟨k, hk, rfl, rfl⟩ := hrel
    by_cases hlt : k < m
    · obtain ⟨p, bb, oo, rfl, hce, hS, hle⟩ := HPC.out k hlt
      obtain ⟨I, hI⟩ : ∃ I, I = (catP (ps.take k)).length := ⟨_, rfl⟩
      obtain ⟨J, hJ⟩ : ∃ J, J = (catP (ps.take (k + 1))).length := ⟨_, rfl⟩
      rw [← hI, ← hJ] at hS
      rw [← hJ] at hle
      rw [← hI]
      have HJ := Lib.hid hJ
      have hl := HL.out
      have e1 : IntKind.i64.wrap ((I : Int) + (p.n : Int)) = (J : Int) := by rw [IntKind.wrap_i64]; omega
      clear hS hle hI hJ hl
      go_wp2
      go_round
      case rel => exact ⟨k + 1, by omega, by go_num, by rw [HJ.out]⟩
      case measure => simp [intOf]; omega
    · obtain rfl : m = k := by omega
      have hI : (catP (ps.take m)).length = (catP ps).length := by rw [List.take_of_length_le (by rw [HM.out]; omega)]
      rw [hI]
      obtain ⟨L, hL⟩ : ∃ L, L = (catP ps).length := ⟨_, rfl⟩
      rw [← hL]
      have HLL := Lib.hid hL
      clear hI hL
      go_wp2
      go_ret
      exact ⟨by rw [← HLL.out]; rfl, rfl⟩
theorem arr32_under : Try.prog.underlying 41 = some (.array 32 5) := by kernel_rfl
def z32 : List UInt8 := List.replicate 32 0
def zc : List Value := bvs z32
theorem zc_run (w : World) : (zeroValue 41).run Try.prog w = .ok (.agg zc.toArray) w := by kernel_rfl
theorem zc_eq : zc = bvs z32 := rfl
theorem zc_length : zc.length = 32 := by simp [zc, z32]
theorem zc_info : (Try.prog.info? 41).map (·.size) = some zc.length := by rw [zc_length]; kernel_rfl
attribute [irreducible] zc
set_option maxHeartbeats 2000000 in
set_option maxRecDepth 100000 in
theorem digest_nil (v : Value) (t : Thing) (hv : v = .agg (tc t).toArray) (w : World) :
    Calls Try.prog 27 #[.pointer none, v] w fun e w' => e = .returned (.agg (bvs z32).toArray) ∧ Kp nob w w' := by
  subst hv
  have hz := zc_run
  have HB := Lib.hid (show Blk ((w.alloc (.cells (tc t).toArray 61)).alloc (.cells zc.toArray 41)) (w.heap.size + 1) 41 zc from Blk.new' (by simp) rfl)
  have HK := Lib.hid (((Kp.refl nob w).alloc (.cells (tc t).toArray 61)).alloc (.cells zc.toArray 41))
  go_enter Try.func27, Try.ntmps27
  go_wp2_with (first
    | (refine wpList_store_blk rfl 41 (.tmp 4) (.tmp 7) rfl _ _ zc zc HB.out rfl rfl rfl zc_info (by rw [zc_eq]; exact bvs_one _) ?_; intro w2 hB2 k2 z2)
    | fail)
  have hsz : (Try.prog.info? 41).map (·.size) = some zc.toArray.size := by rw [List.size_toArray]; exact zc_info
  refine bodyPost_ret (results_cell_row rfl _ _ (w.heap.size + 1) _ _ _ _ rfl hB2 arr32_under rfl hsz) rfl ⟨by rw [zc_eq], HK.out.since k2 (fun i e => by cases e; omega)⟩
set_option maxHeartbeats 4000000 in
set_option maxRecDepth 100000 in
theorem digest_any (p bn bs : Nat) (cs : List Thing) (t : Thing) (w0 : World) (hw : Cx w0 p bn bs cs (fun _ => True)) (hl : cs.length ≤ 100000) (hk : t.kind ≠ 83) :
    Calls Try.prog 27 #[.pointer (some ⟨p, 0, none⟩), .agg (tc t).toArray] w0 fun e w' => e = .returned (.agg (bvs (tok t.kind (num (mk cs t) t) 32)).toArray) ∧ Cx w' p bn bs (mk cs t) (fun _ => True) ∧ Kp (fun i => i = bn) w0 w' := by
  have HKD := Lib.hid hk
  have HNE : Hid (w0.heap.size ≠ bn ∧ w0.heap.size + 1 ≠ bn) := Lib.hid (by have := hw.lt bn (.inr (.inl rfl)); omega)
  have HW := Lib.hid hw
  clear hk hw
  have hz := zc_run
  go_enter Try.func27, Try.ntmps27
  go_wp2
  generalize hw1 : (w0.alloc (.cells (tc t).toArray 61)).alloc (.cells zc.toArray 41) = w1 at *
  have HT : Hid (Blk w1.drew w0.heap.size 61 (tc t)) := Lib.hid (by rw [← hw1]; exact ((Blk.new w0 _ _).alloc _).keep (Kp.refl nob _).drew (fun e => e))
  have HZ : Hid (Blk w1.drew (w0.heap.size + 1) 41 zc) := Lib.hid (by rw [← hw1]; exact (Blk.new' (by simp) rfl : Blk _ (w0.heap.size + 1) 41 zc).keep (Kp.refl nob _).drew (fun e => e))
  have HK1 : Hid (Kp nob w0 w1.drew) := Lib.hid (by rw [← hw1]; exact (((Kp.refl nob w0).alloc _).alloc _).drew)
  have HW1 := Lib.hid (HW.out.keep0 HK1.out)
  clear hw1
  have HS0 : Hid ((fun w2 : World => Blk w2 w0.heap.size 61 (tc t)) w1.drew) := Lib.hid HT.out
  refine reg_begin (fun w2 : World => Blk w2 w0.heap.size 61 (tc t)) (by kernel_rfl) HS0.out (fun _ => ?_)
  refine reg_load 0 (some 8) 61 (.tmp 3) rfl rfl rfl (by kernel_rfl) (by kernel_rfl) (by kernel_rfl) (by rfl) HS0.out (w0.heap.size) 0 rfl (tc t) _ (fun w hw => hw.range) cthing_under rfl (by kernel_rfl) ?_
  simp only [Act.put, List.setIfInBounds_toArray, List.set_cons_zero, List.set_cons_succ]
  refine reg_take (v := .pointer (some ⟨p, 0, none⟩)) 1 (some 9) rfl rfl (by kernel_rfl) (by kernel_rfl) (by kernel_rfl) (by rfl) HS0.out (fun w hw => by go_simp) ?_
  simp only [Act.put, List.setIfInBounds_toArray, List.set_cons_zero, List.set_cons_succ]
  refine reg_load 2 (some 10) 61 (.tmp 3) rfl rfl rfl (by kernel_rfl) (by kernel_rfl) (by kernel_rfl) (by rfl) HS0.out (w0.heap.size) 0 rfl (tc t) _ (fun w hw => hw.range) cthing_under rfl (by kernel_rfl) ?_
  simp only [Act.put, List.setIfInBounds_toArray, List.set_cons_zero, List.set_cons_succ]
  refine reg_call 3 (some 11) rfl rfl (by kernel_rfl) (by rfl) _ _ (exec_func 22 _ _ [.pointer (some ⟨p, 0, none⟩), .agg (tc t).toArray] rfl (by kernel_rfl) rfl) ?_
  refine (number_any p bn bs cs t _ HW1.out hl (fun e => absurd e HKD.out)).mono ?_
  rintro e w2 ⟨rfl, hx2, k2⟩
  have HX2 := Lib.hid hx2
  have HK2 := Lib.hid k2
  have HS1 : Hid (Blk w2 w0.heap.size 61 (tc t)) := Lib.hid (HS0.out.keep k2 (fun e => HNE.out.1 e))
  clear hx2 k2
  refine ⟨_, rfl, HS1.out, fun _ => ?_⟩
  simp only [Act.put, List.setIfInBounds_toArray, List.set_cons_zero, List.set_cons_succ]
  obtain ⟨N, hN⟩ : ∃ N, N = num (mk cs t) t := ⟨_, rfl⟩
  rw [← hN]
  have HN := Lib.hid hN
  clear hN
  refine reg_call 4 (some 12) rfl rfl (by kernel_rfl) (by rfl) _ _ (exec_func 29 _ _ [.agg (tc t).toArray, .int .i64 N, .int .i64 32] rfl (by kernel_rfl) rfl) ?_
  refine (bytes_any t N 32 _ (by have := num_le (mk cs t) t; have := mk_length_le cs t; have := HN.out; omega) (by omega) (by omega)).mono ?_
  rintro e w3 ⟨A, c, rfl, ho, k3, hf, hn⟩
  have HX3 := Lib.hid (HX2.out.keep0 k3)
  have HK3 := Lib.hid (HK2.out.trans (k3.nob (fun i => i = bn)) (fun i e => .inl e))
  have HS2 : Hid (Blk w3 w0.heap.size 61 (tc t)) := Lib.hid (HS1.out.keep k3 (fun e => e))
  have HZ3 := Lib.hid ((HZ.out.keep HK2.out (fun e => HNE.out.2 e)).keep k3 (fun e => e))
  have HTL := Lib.hid (show (tok t.kind N 32).length = 32 from tok_length _ _ _ (by omega))
  have hrow := ho.row
  rcases hrow with h0 | ⟨b, o, rfl, _, hcell⟩
  · exact absurd (congrArg List.length h0) (by rw [bvs_length, HTL.out]; simp)
  have HRG : Hid (w3.rangeAt b o (bvs (tok t.kind N 32))) := Lib.hid hcell
  have hat : ∀ w, (Instr.arrayAt 41 (.slice (some ⟨b, o, none⟩) 32 c)).run Try.prog w = .ok (.pointer (some ⟨b, o, none⟩)) w := fun w => run_arrayAt w 41 5 32 _ 32 c arr32_under (Nat.le_refl _)
  clear ho k3 hf hn hcell
  refine ⟨_, rfl, HS2.out, fun _ => ?_⟩
  simp only [Act.put, List.setIfInBounds_toArray, List.set_cons_zero, List.set_cons_succ]
  refine reg_take (v := .pointer (some ⟨b, o, none⟩)) 5 (some 13) rfl rfl (by kernel_rfl) (by kernel_rfl) (by kernel_rfl) (by rfl) HS2.out (fun w hw => by go_simp) ?_
  simp only [Act.put, List.setIfInBounds_toArray, List.set_cons_zero, List.set_cons_succ]
  refine reg_loadNow 6 (some 14) 41 (.tmp 13) rfl rfl rfl (by kernel_rfl) (by rfl) HS2.out b o rfl (bvs (tok t.kind N 32)) _ HRG.out arr32_under rfl (by rw [bvs_length, HTL.out]; kernel_rfl) ?_
  simp only [Act.put, List.setIfInBounds_toArray, List.set_cons_zero, List.set_cons_succ]
  refine reg_store 7 none 41 (.tmp 4) (.tmp 14) rfl rfl rfl (by kernel_rfl) (by rfl) (w0.heap.size + 1) 41 _ (bvs (tok t.kind N 32)) HZ3.out rfl rfl (by rw [bvs_length, zc_length, HTL.out]) (by rw [bvs_length, HTL.out]; kernel_rfl) (bvs_one _) ?_
  intro w4 hB4 k4 z4
  refine ⟨HS2.out.keep k4 (fun e => by have e : w0.heap.size = w0.heap.size + 1 := e; omega), fun _ => ?_⟩
  simp only [Act.put, List.setIfInBounds_toArray, List.set_cons_zero, List.set_cons_succ]
  refine reg_end (by kernel_rfl) ?_
  have hsz : (Try.prog.info? 41).map (·.size) = some (bvs (tok t.kind N 32)).toArray.size := by rw [List.size_toArray, bvs_length, HTL.out]; kernel_rfl
  have HX4 := HX3.out.keep k4 (fun i hi e => by have e : i = w0.heap.size + 1 := e; have := HW.out.lt i hi; omega)
  have HK4 := ((HK1.out.nob (fun i => i = bn)).trans HK3.out (fun i e => .inl e)).trans k4 (fun i e => .inr (by have e : i = w0.heap.size + 1 := e; omega))
  have HE := Lib.hid (And.intro HX4 HK4)
  have hB := hB4
  clear hB4 k4 z4 HX4 HK4 hat
  go_wp2
  refine bodyPost_ret (results_cell_row rfl _ _ (w0.heap.size + 1) _ _ _ _ rfl hB arr32_under rfl hsz) rfl ⟨by rw [HN.out], HE.out.1.imp (fun u hu hk _ => ?_), HE.out.2⟩
  rcases (mem_mk _ _ _).1 hu with rfl | hu
  · exact absurd hk HKD.out
  · exact hu
end Go.Proofs.Ytakhanganifpnaa.Ideal
