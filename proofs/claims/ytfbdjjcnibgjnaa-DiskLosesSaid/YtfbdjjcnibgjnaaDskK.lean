/- The disk: somebody writes a sector. -/
import Derived.Test.YtfbdjjcnibgjnaaDskJ
namespace Go.Proofs.Ytfbdjjcnibgjnaa.Disk
set_option linter.unusedVariables false
set_option linter.unusedSimpArgs false
open Go Go.RowKit Kit

set_option maxHeartbeats 4000000 in
set_option maxRecDepth 100000 in
theorem forge_no (D : Dk) (i : Int) (A : Option Addr) (n c : Nat) (b : List UInt8) (g N S : Nat) (W : Option Addr) (cW : Nat) (w : World) (h : Cd w g N S W cW D) (hn : b.length = n) (hr : Row w A (bvs b)) (hm : n ≤ maxLen) (hno : (i < 0 ∨ (D.now.length : Int) ≤ i) ∨ 256 < b.length) :
    Calls Try.prog 20 #[.pointer (some ⟨g, 0, none⟩), .int .i64 i, .slice A n c] w fun e w' => e = .returned (.int .i64 (forge E8 D i b).2) ∧ (forge E8 D i b).1 = D ∧ Kp nob w w' := by
  have HK0 := Lib.hid ((Kp.refl nob w).alloc (.cells #[.int .i64 i] 3))
  have HFI := Lib.hid (filled_any D i A n c b g N S W cW _ (h.keep0 HK0.out) hn (hr.keep0 HK0.out) hm)
  have hF : ∃ s k, fill D i b = (s, k) ∧ s.length = 256 ∧ (k == 0) = false ∧ forge E8 D i b = (D, k) := by
    by_cases h1 : i < 0 ∨ (D.now.length : Int) ≤ i
    · exact ⟨z256, 1, by rw [fill, has_not D i h1]; rfl, z256_length, rfl, by rw [forge, if_pos h1]; rfl⟩
    · have h2 : 256 < b.length := hno.resolve_left h1
      have hh : has D i = true := by unfold has; exact decide_eq_true (by omega)
      exact ⟨z256, 3, by rw [fill, hh, if_pos rfl, if_pos h2], z256_length, rfl, by rw [forge, if_neg h1, if_pos h2]; rfl⟩
  obtain ⟨s, k, hf, hs, hk, hw⟩ := hF
  rw [hf] at HFI
  have HW := Lib.hid hw; have HSL := Lib.hid hs
  have hz := zsec_run
  have hci : (w.alloc (.cells #[.int .i64 i] 3)).cell? ⟨w.heap.size, 0, none⟩ = some (.int .i64 i) := by rw [(Blk.new w 3 [.int .i64 i]).cell]; rfl
  clear hf hw hno hs h hr hm
  go_enter Try.func20, Try.ntmps20
  go_wp2_with fail
  refine HFI.out.mono ?_
  rintro e w2 ⟨rfl, k2⟩
  have HK2 := Lib.hid (HK0.out.trans k2 (fun _ e => e.elim))
  clear k2
  go_wp2_with (refine wpList_store_blk rfl 56 (.tmp 7) (.tmp 16) rfl _ _ zsec (bvs s) (Blk.new _ _ _) rfl rfl (by rw [bvs_length, HSL.out, zsec_length]) (sec_size' _ HSL.out) (bvs_one _) ?_; intro w3 hB3 k3 z3; have HK3 := Lib.hid ((HK2.out.alloc _).since k3 (fun i e => by have e : i = w2.heap.size := e; have := HK2.out.size; omega)); clear hB3 k3 z3)
  go_ret
  rw [HW.out]; exact ⟨rfl, rfl, HK3.out⟩
/-- What is there behind it. -/
theorem cd_forged {w w2 : World} {g N S : Nat} {W : Option Addr} {cW : Nat} {D : Dk} (h : Cd w g N S W cW D) (p : Nat) (b : List UInt8) (hp : p < D.now.length) (hb : b.length ≤ 256)
    (hB : Blk w2 g 54 [.slice (some ⟨N, 0, none⟩) D.now.length D.now.length, .slice (some ⟨S, 0, none⟩) D.now.length D.now.length, .slice W (but p D.waits).length cW, .bool D.off, .int .i64 (D.acts : Int), .int .i64 (D.fuse : Int), .int .u64 (D.keep : Int)])
    (hN : Blk w2 N 56 ((D.now.set p (full b)).flatMap bvs)) (hS : Blk w2 S 56 ((D.safe.set p (full b)).flatMap bvs)) (hW : OwnK 257 60 w2 W (but p D.waits).length cW ((but p D.waits).flatMap wcell)) : Cd w2 g N S W cW (forged D p b) := by
  refine ⟨?_, hN, hS, hW, forged_ok D p b h.ok hb, ?_, ?_, h.ne, h.nw⟩
  · show Blk _ _ _ [.slice _ (D.now.set p (full b)).length (D.now.set p (full b)).length, .slice _ (D.now.set p (full b)).length (D.now.set p (full b)).length, _, _, _, _, _]
    rw [List.length_set]
    exact hB
  · show D.now.set p (full b) = allw (but p D.waits) (D.safe.set p (full b))
    rw [but, allw_forge, ← h.al]
  · show (D.now.set p (full b)).length ≤ 4096
    rw [List.length_set]; exact h.max
set_option maxHeartbeats 4000000 in
set_option maxRecDepth 100000 in
theorem forge_yes (D : Dk) (p : Nat) (A : Option Addr) (n c : Nat) (b : List UInt8) (g N S : Nat) (W : Option Addr) (cW : Nat) (w : World) (h : Cd w g N S W cW D) (hn : b.length = n) (hr : Row w A (bvs b)) (hp : p < D.now.length) (hb : b.length ≤ 256) (hw : D.waits.length ≤ 100000) :
    Calls Try.prog 20 #[.pointer (some ⟨g, 0, none⟩), .int .i64 (p : Int), .slice A n c] w fun e w' => e = .returned (.int .i64 0) ∧ Dz w g N S W (forged D p b) w' := by
  have HK0 := Lib.hid ((Kp.refl nob w).alloc (.cells #[.int .i64 (p : Int)] 3))
  have HFI := Lib.hid (filled_any D p A n c b g N S W cW _ (h.keep0 HK0.out) hn (hr.keep0 HK0.out) (by simp [maxLen]; omega))
  rw [show fill D p b = (full b, 0) by rw [fill, has_of D p hp, if_pos rfl, if_neg (by omega)]] at HFI
  have HD := Lib.hid h
  have HFB := Lib.hid (full_length b hb)
  have HSZ := Lib.hid (sec_size' _ HFB.out)
  have HP := Lib.hid hp; have HBL := Lib.hid hb; have HWL := Lib.hid hw
  have HFS := Lib.hid (flat_set D.now h.ok.now p (full b) hp HFB.out)
  have HFT := Lib.hid (flat_set D.safe h.ok.safe2 p (full b) (by rw [h.ok.safe]; exact hp) HFB.out)
  have HFL := Lib.hid (show p * 256 + (bvs (full b)).length ≤ (D.now.flatMap bvs).length by rw [flat_len _ h.ok.now, bvs_length, HFB.out]; omega)
  have HFM := Lib.hid (show p * 256 + (bvs (full b)).length ≤ (D.safe.flatMap bvs).length by rw [flat_len _ h.ok.safe2, bvs_length, HFB.out, h.ok.safe]; omega)
  have hz := zsec_run
  have HCI := Lib.hid (Blk.new w 3 [.int .i64 (p : Int)])
  have hci : (w.alloc (.cells #[.int .i64 (p : Int)] 3)).cell? ⟨w.heap.size, 0, none⟩ = some (.int .i64 (p : Int)) := by rw [HCI.out.cell]; rfl
  clear h hn hr hb hw
  go_enter Try.func20, Try.ntmps20
  go_wp2_with fail
  refine HFI.out.mono ?_
  rintro e w2 ⟨rfl, k2⟩
  have HC2 := Lib.hid (HCI.out.keep k2 (fun e => e))
  have HK2 := Lib.hid (HK0.out.trans k2 (fun _ e => e.elim))
  clear k2 hci
  go_wp2_with (refine wpList_store_blk rfl 56 (.tmp 7) (.tmp 16) rfl _ _ zsec (bvs (full b)) (Blk.new _ _ _) rfl rfl (by rw [bvs_length, HFB.out, zsec_length]) HSZ.out (bvs_one _) ?_
               intro w3 hB3 k3 z3
               obtain ⟨g3, hg3⟩ : ∃ g3, g3 = w2.heap.size := ⟨_, rfl⟩
               rw [← hg3] at hB3 ⊢
               have HB3 := Lib.hid hB3
               have HK23 := Lib.hid (((Kp.refl nob w2).alloc _).since k3 (fun i e => Nat.le_of_eq e.symm))
               have HG3 := Lib.hid (show w.heap.size < g3 by rw [hg3]; have := HC2.out.lt; exact this)
               clear hB3 k3 z3 hg3)
  have HK3 := Lib.hid (HK2.out.trans HK23.out (fun _ e => e.elim))
  have HC3 := Lib.hid (HC2.out.keep HK23.out (fun e => e))
  have HK4 := Lib.hid (Kp.refl nob w3).drew
  have HD4 := Lib.hid (HD.out.keep0 (HK3.out.trans HK4.out (fun _ e => e.elim)))
  have HS4 := Lib.hid (And.intro HD4.out.b (And.intro (HC3.out.keep HK4.out (fun e => e)) (HB3.out.keep HK4.out (fun e => e))))
  have HK34 := Lib.hid (HK3.out.trans HK4.out (fun _ e => e.elim))
  have HLI := Lib.hid (fun (w' : World) (h : Blk w' w.heap.size 3 [.int .i64 (p : Int)]) => (show w'.cell? ⟨w.heap.size, 0, none⟩ = some (.int .i64 (p : Int)) by rw [h.cell]; rfl))
  refine reg_begin (fun w' => Blk w' g 54 [.slice (some ⟨N, 0, none⟩) D.now.length D.now.length, .slice (some ⟨S, 0, none⟩) D.now.length D.now.length, .slice W D.waits.length cW, .bool D.off, .int .i64 (D.acts : Int), .int .i64 (D.fuse : Int), .int .u64 (D.keep : Int)] ∧ Blk w' w.heap.size 3 [.int .i64 (p : Int)] ∧ Blk w' g3 56 (bvs (full b))) (by kernel_rfl) HS4.out (fun _ => ?_)
  generalize w3.drew = w4 at *
  have hp1 := HP.out
  refine reg_take (v := .pointer (some ⟨g, 0, none⟩)) 0 (some 21) rfl rfl (by kernel_rfl) (by kernel_rfl) (by kernel_rfl) (by rfl) HS4.out (fun w hw => by go_simp) ?_
  simp only [Act.put, List.setIfInBounds_toArray, List.set_cons_zero, List.set_cons_succ]
  refine reg_take (v := .pointer (some ⟨g, 0, none⟩)) 1 (some 22) rfl rfl (by kernel_rfl) (by kernel_rfl) (by kernel_rfl) (by rfl) HS4.out (fun w hw => by go_simp) ?_
  simp only [Act.put, List.setIfInBounds_toArray, List.set_cons_zero, List.set_cons_succ]
  refine reg_take (v := .pointer (some ⟨g, 0, none⟩)) 2 (some 23) rfl rfl (by kernel_rfl) (by kernel_rfl) (by kernel_rfl) (by rfl) HS4.out (fun w hw => by go_simp) ?_
  simp only [Act.put, List.setIfInBounds_toArray, List.set_cons_zero, List.set_cons_succ]
  refine reg_take (v := .slice (some ⟨N, 0, none⟩) D.now.length D.now.length) 3 (some 24) rfl rfl (by kernel_rfl) (by kernel_rfl) (by kernel_rfl) (by rfl) HS4.out (fun w hw => by have hc : w.cell? ⟨g, 0, none⟩ = some (.slice (some ⟨N, 0, none⟩) D.now.length D.now.length) := by { rw [hw.1.cell]; rfl }; go_simp) ?_
  simp only [Act.put, List.setIfInBounds_toArray, List.set_cons_zero, List.set_cons_succ]
  refine reg_take (v := .int .i64 (p : Int)) 4 (some 25) rfl rfl (by kernel_rfl) (by kernel_rfl) (by kernel_rfl) (by rfl) HS4.out (fun w hw => by have hc := HLI.out w hw.2.1; go_simp) ?_
  simp only [Act.put, List.setIfInBounds_toArray, List.set_cons_zero, List.set_cons_succ]
  refine reg_take (v := .pointer (some ⟨g, 0, none⟩)) 5 (some 26) rfl rfl (by kernel_rfl) (by kernel_rfl) (by kernel_rfl) (by rfl) HS4.out (fun w hw => by go_simp) ?_
  simp only [Act.put, List.setIfInBounds_toArray, List.set_cons_zero, List.set_cons_succ]
  refine reg_take (v := .pointer (some ⟨g, 0, none⟩)) 6 (some 27) rfl rfl (by kernel_rfl) (by kernel_rfl) (by kernel_rfl) (by rfl) HS4.out (fun w hw => by go_simp) ?_
  simp only [Act.put, List.setIfInBounds_toArray, List.set_cons_zero, List.set_cons_succ]
  refine reg_take (v := .pointer (some ⟨g, 1, none⟩)) 7 (some 28) rfl rfl (by kernel_rfl) (by kernel_rfl) (by kernel_rfl) (by rfl) HS4.out (fun w hw => by go_simp) ?_
  simp only [Act.put, List.setIfInBounds_toArray, List.set_cons_zero, List.set_cons_succ]
  refine reg_take (v := .slice (some ⟨S, 0, none⟩) D.now.length D.now.length) 8 (some 29) rfl rfl (by kernel_rfl) (by kernel_rfl) (by kernel_rfl) (by rfl) HS4.out (fun w hw => by have hc : w.cell? ⟨g, 1, none⟩ = some (.slice (some ⟨S, 0, none⟩) D.now.length D.now.length) := by { rw [hw.1.cell]; rfl }; go_simp) ?_
  simp only [Act.put, List.setIfInBounds_toArray, List.set_cons_zero, List.set_cons_succ]
  refine reg_take (v := .int .i64 (p : Int)) 9 (some 30) rfl rfl (by kernel_rfl) (by kernel_rfl) (by kernel_rfl) (by rfl) HS4.out (fun w hw => by have hc := HLI.out w hw.2.1; go_simp) ?_
  simp only [Act.put, List.setIfInBounds_toArray, List.set_cons_zero, List.set_cons_succ]
  refine reg_load 10 (some 31) 56 (.tmp 7) rfl rfl rfl (by kernel_rfl) (by kernel_rfl) (by kernel_rfl) (by rfl) HS4.out g3 0 rfl (bvs (full b)) _ (fun w hw => hw.2.2.range) sec_under rfl HSZ.out ?_
  simp only [Act.put, List.setIfInBounds_toArray, List.set_cons_zero, List.set_cons_succ]
  refine reg_load 11 (some 32) 56 (.tmp 7) rfl rfl rfl (by kernel_rfl) (by kernel_rfl) (by kernel_rfl) (by rfl) HS4.out g3 0 rfl (bvs (full b)) _ (fun w hw => hw.2.2.range) sec_under rfl HSZ.out ?_
  simp only [Act.put, List.setIfInBounds_toArray, List.set_cons_zero, List.set_cons_succ]
  refine reg_take (v := .pointer (some ⟨N, p * 256, none⟩)) 12 (some 33) rfl rfl (by kernel_rfl) (by kernel_rfl) (by kernel_rfl) (by rfl) HS4.out (fun w hw => by go_simp) ?_
  simp only [Act.put, List.setIfInBounds_toArray, List.set_cons_zero, List.set_cons_succ]
  have hlt := HD.out.lt
  have l1 := hlt g (.inl rfl); have l2 := hlt N (.inr (.inl rfl)); have l3 := hlt S (.inr (.inr (.inl rfl)))
  have hg3 := HG3.out
  have hne := HD.out.ne
  refine reg_storeIn 13 none 56 (.tmp 33) (.tmp 31) rfl rfl rfl (by kernel_rfl) (by rfl) N (p * 256) _ _ (bvs (full b)) HD4.out.now rfl rfl HFL.out HSZ.out (bvs_one _) ?_
  intro w5 hB5 k5 z5
  rw [HFS.out] at hB5
  have HS5 := Lib.hid (And.intro (HS4.out.1.keep k5 (fun e => hne.1 e.symm)) (And.intro (HS4.out.2.1.keep k5 (fun e => by have e : w.heap.size = N := e; omega)) (HS4.out.2.2.keep k5 (fun e => by have e : g3 = N := e; omega))))
  have HN5 := Lib.hid hB5
  have HT5 := Lib.hid (HD4.out.safe.keep k5 (fun e => hne.2.2 e.symm))
  have HO5 := Lib.hid (HD4.out.waits.keep k5 (fun j e e2 => (HD.out.nw j e).2.1 e2))
  have HK5 := Lib.hid ((HK34.out.nob (dF g N S W)).trans k5 (fun i e => .inl (.inr (.inl e))))
  clear hB5 k5 z5
  refine ⟨HS5.out, fun _ => ?_⟩
  simp only [Act.put, List.setIfInBounds_toArray, List.set_cons_zero, List.set_cons_succ]
  refine reg_take (v := .pointer (some ⟨S, p * 256, none⟩)) 14 (some 34) rfl rfl (by kernel_rfl) (by kernel_rfl) (by kernel_rfl) (by rfl) HS5.out (fun w hw => by go_simp) ?_
  simp only [Act.put, List.setIfInBounds_toArray, List.set_cons_zero, List.set_cons_succ]
  refine reg_storeIn 15 none 56 (.tmp 34) (.tmp 32) rfl rfl rfl (by kernel_rfl) (by rfl) S (p * 256) _ _ (bvs (full b)) HT5.out rfl rfl HFM.out HSZ.out (bvs_one _) ?_
  intro w6 hB6 k6 z6
  rw [HFT.out] at hB6
  have HS6 := Lib.hid (And.intro (HS5.out.1.keep k6 (fun e => hne.2.1 e.symm)) (And.intro (HS5.out.2.1.keep k6 (fun e => by have e : w.heap.size = S := e; omega)) (HS5.out.2.2.keep k6 (fun e => by have e : g3 = S := e; omega))))
  have HN6 := Lib.hid (HN5.out.keep k6 (fun e => hne.2.2 e))
  have HT6 := Lib.hid hB6
  have HO6 := Lib.hid (HO5.out.keep k6 (fun j e e2 => (HD.out.nw j e).2.2 e2))
  have HK6 := Lib.hid (HK5.out.trans k6 (fun i e => .inl (.inr (.inr (.inl e)))))
  clear hB6 k6 z6
  refine ⟨HS6.out, fun _ => ?_⟩
  simp only [Act.put, List.setIfInBounds_toArray, List.set_cons_zero, List.set_cons_succ]
  refine reg_end (by kernel_rfl) ?_
  have c2 : w6.cell? ⟨g, 2, none⟩ = some (.slice W D.waits.length cW) := by rw [HS6.out.1.cell]; rfl
  have f2 : w6.frozen? ⟨g, 2, none⟩ = false := HS6.out.1.frozen _
  have hmf : ∀ (fn : Fn) (first cap : Array Value) (w : World), (Instr.makeFunc fn first cap).run Try.prog w = .ok (.func fn first cap) w := fun _ _ _ _ => rfl
  clear hp1 hlt l1 l2 l3
  go_wp2_with fail
  have hdel := delete_any D.waits w.heap.size p W D.waits.length cW w6 HO6.out rfl (fun x hx => (HD.out.ok.waits x hx).2) HWL.out (by rw [HS6.out.2.1.cell]; rfl) HS6.out.2.1.lt (fun k e e2 => by have := HD.out.lt k (.inr (.inr (.inr e))); omega)
  unfold predV at hdel
  refine hdel.mono ?_
  rintro e w7 ⟨rfl, o7, k7⟩
  have HK7 := Lib.hid k7
  have HO7 := Lib.hid o7
  have HS7 := Lib.hid (HS6.out.1.keep k7 (fun e => (HD.out.nw g e).1 rfl))
  have HN7 := Lib.hid (HN6.out.keep k7 (fun e => (HD.out.nw N e).2.1 rfl))
  have HT7 := Lib.hid (HT6.out.keep k7 (fun e => (HD.out.nw S e).2.2 rfl))
  have c2' : w7.cell? ⟨g, 2, none⟩ = some (.slice W D.waits.length cW) := by rw [HS7.out.cell]; rfl
  have f2' : w7.frozen? ⟨g, 2, none⟩ = false := HS7.out.frozen _
  clear hdel o7 k7 c2 f2
  go_wp2
  go_ret
  have kg : Kp (oneB g) w7 (w7.setCell ⟨g, 2, none⟩ (.slice W (but p D.waits).length cW)) := (Kp.refl (oneB g) w7).setCell (p := ⟨g, 2, none⟩) (.inl rfl) _
  have hbg := HS7.out.set_ 2 (.slice W (but p D.waits).length cW)
  exact ⟨rfl, W, cW, cd_forged HD.out p b HP.out HBL.out hbg (HN7.out.keep kg HD.out.ne.1) (HT7.out.keep kg HD.out.ne.2.1) (HO7.out.keep kg (fun k e e2 => (HD.out.nw k e).1 e2)), (HK6.out.trans HK7.out (fun i e => .inl (.inr (.inr (.inr e))))).trans kg (fun i e => .inl (.inl e)), fun k e => .inl e⟩
end Go.Proofs.Ytfbdjjcnibgjnaa.Disk
