/- Lemmas: VauJ VauR0 VauHi VauN VauX VauY. -/
import Derived.Test.YtigdlnfgdjfdoaaGreatZK12
set_option maxHeartbeats 4000000
set_option maxRecDepth 100000
set_option linter.unusedVariables false
set_option linter.unusedSimpArgs false
namespace Go.Proofs.YtigdlnfgdjfdoaaGreat
namespace Vault
open Go Go.RowKit Kit
open Ideal (Iw Iq Ans Arg Args Thing mk out sealT opn derT hashT z32 zc zc_run zc_length zc_eq args_one arr32_under)
open Sha (Pc PcsOk catP)
structure Kw (w : World) (A : Option Addr) (l : List UInt8) (w2 : World) : Prop where
 z : Blk w2 w.heap.size 77 zc
 i : IsW w2 (w.heap.size + 1) A l
 f : ∀ k, WF (w.heap.size + 1) A k → w.heap.size < k
 k : Kp nob w w2
theorem Kw.keep {w w2 w3 : World} {A : Option Addr} {l : List UInt8} (h : Kw w A l w2) (k : Kp nob w2 w3) : Kw w A l w3 := ⟨h.z.keep k (fun e => e), h.i.keep k (fun _ _ e => e), h.f, h.k.trans k (fun _ e => e.elim)⟩
theorem Kw.step {w w2 w3 : World} {A : Option Addr} {l l2 : List UInt8} (h : Kw w A l w2) (p : WPost w2 (w.heap.size + 1) A l2 w3) : ∃ A2, Kw w A2 l2 w3 := by
 obtain ⟨A2, h1, k2, g2⟩ := p
 have hs := h.k.size
 have hb := h.i.lt
 refine ⟨A2, h.z.keep k2 (fun e => Nat.lt_irrefl _ (h.f _ e)), h1, fun k hk => ?_, h.k.since k2 (fun i e => Nat.le_of_lt (h.f i e))⟩
 rcases hk with rfl | hk
 · omega
 · rcases g2 with g | ⟨j, g, hj⟩
   · rw [g] at hk; exact h.f k (.inr hk)
   · rw [g] at hk
     simp only [Option.some.injEq] at hk
     omega
theorem key_i (v m p : Nat) (F : Nat → Prop) (ts : List Thing) (ms : List UInt8) (lim : Nat) (ps : List (Value × Value)) (cl : Nat) (s : ByteArray) (B : Option Addr) (n c : Nat) (ns : List Int) (w : World)
    (hv : Vb w v m (imk p) ms lim ps cl) (hw : Iw w p F ts) (hF : ¬ F v ∧ ¬ F m) (hn : ns.length = n) (hr : Row w B (ivs ns)) (hB : ∀ k, ab B = some k → k < w.heap.size) (hl : ts.length ≤ 100000) (hs : s.size ≤ 100000) (hns : n ≤ 10000) :
    Calls Tryz.prog 126 #[.pointer (some ⟨v, 0, none⟩), .string s, .slice B n c] w fun x w' => ∃ F2, x = .returned (.agg (bvs (out ts (derT ms (pur s ns)) 32)).toArray) ∧ Iq w F w' p F2 (mk ts (derT ms (pur s ns))) := by
 have hz := zk_run
 have HV := Lib.hid hv; have HW := Lib.hid hw
 have HH := Lib.hid (And.intro hn (And.intro hl (And.intro hs hns)))
 have HL := Lib.hid (show (pur s ns).length ≤ 1048576 by have := pur_le s ns; omega)
 have HTX := Lib.hid (show (textB s).length ≤ 200000 by have := textB_le s; omega)
 have H0 : Hid (Kw w none [] (((w.alloc (.cells zc.toArray 77)).alloc (.cells #[.slice none 0 0] 137)).alloc (.cells #[.string s] 9))) := Lib.hid (by
  have := isW_new (w.alloc (.cells zc.toArray 77))
  rw [show (w.alloc (.cells zc.toArray 77)).heap.size = w.heap.size + 1 by simp] at this
  refine ⟨((Blk.new' rfl rfl).alloc _).alloc _, this.alloc _, fun k hk => ?_, (((Kp.refl _ _).alloc _).alloc _).alloc _⟩
  rcases hk with rfl | hk
  · omega
  · cases hk)
 have HR0 : Hid (Row (((w.alloc (.cells zc.toArray 77)).alloc (.cells #[.slice none 0 0] 137)).alloc (.cells #[.string s] 9)) (some ⟨w.heap.size + 1 + 1, 0, none⟩) (svs [s])) := Lib.hid (by
  have := row_new ((w.alloc (.cells zc.toArray 77)).alloc (.cells #[.slice none 0 0] 137)) (svs [s]) 9
  rw [show ((w.alloc (.cells zc.toArray 77)).alloc (.cells #[.slice none 0 0] 137)).heap.size = w.heap.size + 1 + 1 by simp] at this
  exact this)
 have HRN := Lib.hid hr
 have HBN := Lib.hid hB
 clear hv hw hr hB hn hl hs hns
 go_enter Tryz.func126, Tryz.ntmps126
 go_wp2_with fail
 refine (wText (w.heap.size + 1) none [] (some ⟨w.heap.size + 1 + 1, 0, none⟩) 1 1 [s] _ ?own rfl ?row (fun k hk => ?far) (by omega) (by have := HTX.out; simpa using (by omega : (textB s).length ≤ 1099511627776))).mono ?_
 case own => exact H0.out.i
 case row => exact HR0.out
 case far =>
  simp only [ab, Option.map_some, Option.some.injEq] at hk
  rintro (h | h)
  · omega
  · cases h
 rintro x w2 ⟨rfl, hp⟩
 obtain ⟨A2, h2⟩ := H0.out.step hp
 rw [show [] ++ [s].flatMap textB = textB s by simp] at h2
 have H2 := Lib.hid h2
 clear h2 hp H0 HR0
 go_wp2_with fail
 refine (wNum (w.heap.size + 1) A2 (textB s) B n c ns w2 H2.out.i HH.out.1 (HRN.out.keep0 H2.out.k) (fun k hk h => by have := H2.out.f k h; have := HBN.out k hk; omega) (by have := HH.out.2.2.2; omega) (by have := HTX.out; have := HH.out.2.2.2; omega)).mono ?_
 rintro x w3 ⟨rfl, hp⟩
 obtain ⟨A3, h3⟩ := H2.out.step hp
 have H3 : Hid (Kw w A3 (pur s ns) w3) := Lib.hid h3
 clear h3 hp H2
 go_wp2
 have HV3 := Lib.hid (HV.out.keep0 H3.out.k)
 have HW3 := Lib.hid (HW.out.keep H3.out.k (fun _ _ e => e))
 have hF3 := HW.out.lt
 have HS : Hid (Kp F w w3.drew ∧ Vb w3.drew v m (imk p) ms lim ps cl ∧ ∃ cs, Blk w3.drew w.heap.size 77 cs ∧ cs.length = 32) := Lib.hid ⟨(H3.out.k.nob F).drew, HV3.out.keep0 (Kp.refl nob _).drew, zc, H3.out.z.keep (Kp.refl nob _).drew (fun e => e), zc_length⟩
 have HMS := Lib.hid (key_size ms HV.out.l)
 refine reg_begin (fun w4 => Kp F w w4 ∧ Vb w4 v m (imk p) ms lim ps cl ∧ ∃ cs, Blk w4 w.heap.size 77 cs ∧ cs.length = 32) (by kernel_rfl) HS.out (fun _ => ?_)
 refine reg_tk (v := .pointer (some ⟨v, 0, none⟩)) 0 16 rfl rfl (by kernel_rfl) (by rfl) HS.out (fun w hw => by go_simp) ?_; simp only [Act.put, zp1, zp2, zp3]
 refine reg_tk (v := .pointer (some ⟨v, 0, none⟩)) 1 17 rfl rfl (by kernel_rfl) (by rfl) HS.out (fun w hw => by go_simp) ?_; simp only [Act.put, zp1, zp2, zp3]
 refine reg_tk (v := .pointer (some ⟨v, 0, none⟩)) 2 18 rfl rfl (by kernel_rfl) (by rfl) HS.out (fun w hw => by go_simp) ?_; simp only [Act.put, zp1, zp2, zp3]
 refine reg_tk (v := imk p) 3 19 rfl rfl (by kernel_rfl) (by rfl) HS.out (fun w hw => by have hc := hw.2.1.mk_; go_simp) ?_; simp only [Act.put, zp1, zp2, zp3]
 refine reg_tk (v := .pointer (some ⟨v, 0, none⟩)) 4 20 rfl rfl (by kernel_rfl) (by rfl) HS.out (fun w hw => by go_simp) ?_; simp only [Act.put, zp1, zp2, zp3]
 refine reg_tk (v := .pointer (some ⟨v, 0, none⟩)) 5 21 rfl rfl (by kernel_rfl) (by rfl) HS.out (fun w hw => by go_simp) ?_; simp only [Act.put, zp1, zp2, zp3]
 refine reg_tk (v := .pointer (some ⟨v, 1, none⟩)) 6 22 rfl rfl (by kernel_rfl) (by rfl) HS.out (fun w hw => by go_simp) ?_; simp only [Act.put, zp1, zp2, zp3]
 refine reg_load 7 (some 23) 77 (.tmp 22) rfl rfl rfl (by kernel_rfl) (by kernel_rfl) (by kernel_rfl) (by rfl) HS.out v 1 rfl (bvs ms) _ (fun w hw => hw.2.1.ms_) key_under rfl HMS.out ?_; simp only [Act.put, zp1, zp2, zp3]
 refine reg_tk (v := imk p) 9 25 rfl rfl (by kernel_rfl) (by rfl) HS.out (fun w hw => by first | (go_simp; done) | kernel_rfl) ?_; simp only [Act.put, zp1, zp2, zp3]
 refine reg_tk (v := imk p) 10 26 rfl rfl (by kernel_rfl) (by rfl) HS.out (fun w hw => by go_simp) ?_; simp only [Act.put, zp1, zp2, zp3]
 refine reg_call 8 (some 24) rfl rfl (by kernel_rfl) (by rfl) _ _ (exec_func 71 _ _ [.pointer (some ⟨w.heap.size + 1, 0, none⟩)] rfl (by kernel_rfl) rfl) ?_
 have H3d := Lib.hid (H3.out.keep (Kp.refl nob w3).drew)
 refine (wBytes (w.heap.size + 1) A3 (pur s ns) _ H3d.out.i (by have := HL.out; omega)).mono ?_
 rintro x w5 ⟨Y, cY, rfl, hY, k5, fY, nY⟩
 have k05 := H3d.out.k.trans k5 (fun _ e => e.elim)
 have HA : Hid (Arg w5 F Y (pur s ns).length cY (pur s ns)) := Lib.hid ⟨rfl, hY.row, .inr (fun k e h => by have := fY k e; have := hF3 k h; have := H3d.out.k.size; omega), hY.cap.1, hY.cap.2, nY⟩
 have HS5 : Hid (Kp F w w5 ∧ Vb w5 v m (imk p) ms lim ps cl ∧ ∃ cs, Blk w5 w.heap.size 77 cs ∧ cs.length = 32) := Lib.hid ⟨k05.nob F, HS.out.2.1.keep0 k5, zc, H3d.out.z.keep k5 (fun e => e), zc_length⟩
 have HW5 := Lib.hid (HW.out.keep k05 (fun _ _ e => e))
 have HK5 := Lib.hid k05
 clear hY k5 fY nY k05
 refine ⟨_, rfl, HS5.out, fun _ => ?_⟩
 simp only [Act.put, zp1, zp2, zp3]
 refine reg_call 11 (some 27) rfl rfl (by kernel_rfl) (by rfl) _ _ (exec_invoke 148 117 (.agg #[.pointer (some ⟨p, 0, none⟩)]) (.agg #[.pointer (some ⟨p, 0, none⟩)]) _ _ _ _ [.agg (bvs ms).toArray, .slice Y (pur s ns).length cY] rfl rfl (by kernel_rfl) (by kernel_rfl) rfl) ?_
 refine (im_derive p F ts ms HV.out.l Y _ cY (pur s ns) w5 HW5.out HA.out HH.out.2.1 HL.out).mono ?_
 rintro x w6 ⟨F2, rfl, hq⟩
 have HNZ : Hid (¬ F2 w.heap.size) := Lib.hid (fun h => (hq.f _ h).elim (fun h => Nat.lt_irrefl _ (hF3 _ h)) (fun h => by obtain ⟨cs, h1, _⟩ := HS5.out.2.2; have := h1.lt; omega))
 have HFZ : Hid (¬ F w.heap.size) := Lib.hid (fun h => Nat.lt_irrefl _ (hF3 _ h))
 have HQ := Lib.hid (hq.back HK5.out)
 have HS6 : Hid (Kp F w w6 ∧ Vb w6 v m (imk p) ms lim ps cl ∧ ∃ cs, Blk w6 w.heap.size 77 cs ∧ cs.length = 32) := Lib.hid ⟨HQ.out.k, HS5.out.2.1.keep hq.k hF.1 hF.2, let ⟨cs, h1, h2⟩ := HS5.out.2.2; ⟨cs, h1.keep hq.k HFZ.out, h2⟩⟩
 clear hq
 obtain ⟨D, hD⟩ : ∃ D, D = out ts (derT ms (pur s ns)) 32 := ⟨_, rfl⟩
 have HTL := Lib.hid (show (bvs D).length = 32 by rw [hD]; exact out_len32 _ _)
 have HDD := Lib.hid hD
 rw [← hD]
 clear hD
 refine ⟨_, rfl, HS6.out, fun _ => ?_⟩
 simp only [Act.put, zp1, zp2, zp3]
 obtain ⟨cs, hcs, hcl⟩ := HS6.out.2.2
 refine reg_store 12 none 77 (.tmp 6) (.tmp 27) rfl rfl rfl (by kernel_rfl) (by rfl) w.heap.size 77 cs (bvs D) hcs rfl rfl (by rw [HTL.out, hcl]) (by rw [HTL.out]; kernel_rfl) (bvs_one _) ?_
 intro w7 hB7 k7 z7
 have HW7 := Lib.hid (HQ.out.i.keep k7 (fun i h e => HNZ.out (by have e : i = w.heap.size := e; rw [← e]; exact h)))
 have HK7 := Lib.hid (HQ.out.k.trans k7 (fun i e => .inr (by have e : i = w.heap.size := e; omega)))
 have hv1 := HV.out.b.lt
 have hm1 := HV.out.s.lt
 have HB7 := Lib.hid hB7
 refine ⟨⟨HK7.out, HS6.out.2.1.keep k7 (fun e => by have e : v = w.heap.size := e; omega) (fun e => by have e : m = w.heap.size := e; omega), ⟨_, hB7, HTL.out⟩⟩, fun _ => ?_⟩
 clear k7 z7 hB7 hcs hcl hv1 hm1
 simp only [Act.put, zp1, zp2, zp3]
 refine reg_end (by kernel_rfl) ?_
 go_wp2
 have hsz : (Tryz.prog.info? 77).map (·.size) = some (bvs D).toArray.size := by rw [List.size_toArray, HTL.out]; kernel_rfl
 exact bodyPost_ret (results_cell_row rfl _ _ w.heap.size _ _ _ _ rfl HB7.out key_under rfl hsz) rfl (by first | exact ⟨F2, by rw [HDD.out], HW7.out, HQ.out.f, HK7.out⟩ | exact ⟨by rw [HDD.out], F2, HW7.out, HQ.out.f, HK7.out⟩)
end Vault
namespace Vault
open Go Go.RowKit Kit
open Sha (Pc PcsOk catP)
def rmk : Value := .iface 123 (.agg #[])
def zr : List Value := bvs (List.replicate 32 0)
theorem zrk_run (w : World) : (zeroValue 77).run Tryz.prog w = .ok (.agg zr.toArray) w := by kernel_rfl
theorem zr_length : zr.length = 32 := by simp [zr]
attribute [irreducible] zr
theorem rarr_under : Tryz.prog.underlying 47 = some (.array 32 5) := by kernel_rfl
theorem rkey_under : Tryz.prog.underlying 77 = some (.array 32 5) := by kernel_rfl
theorem rarr_size (l : List UInt8) (h : l.length = 32) : (Tryz.prog.info? 47).map (·.size) = some (bvs l).length := by rw [bvs_length, h]; kernel_rfl
theorem rkey_size (l : List UInt8) (h : l.length = 32) : (Tryz.prog.info? 77).map (·.size) = some (bvs l).length := by rw [bvs_length, h]; kernel_rfl
theorem wpList_enter_gd {P : Program} {w : World} {ops : Array Oper} {rest : List Oper} {o : Oper} {a : Act} {Q : Exit → Act → World → Prop} (hw : Region.wanted o (yielded ops a.tmps) = true)
    (g : FuncId) (args : Array Value) (hx : (execOp a.eval o).run P w = .ok (.enter g args) w) (hc : Calls P g args w fun e w' => ∃ u, e = .returned u ∧ wpList P ops Q rest (a.put o.dst u) w') : wpList P ops Q (o :: rest) a w :=
 wpList_step fun K hK => by
  rw [if_pos hw]
  unfold Oper.wp
  rw [hx, Oper.upon_enter]
  refine hc.mono ?_
  rintro e w' ⟨u, rfl, h⟩
  exact hK _ _ h
open Ideal (Iw Iq Ans Arg Args Thing mk out sealT opn derT hashT z32 zc zc_run zc_length zc_eq)
theorem im_hash (p : Nat) (F : Nat → Prop) (ts : List Thing) (B : Option Addr) (m d : Nat) (ps : List Pc) (w0 : World)
    (hw : Iw w0 p F ts) (hp : Args w0 F B m ps) (hl : ts.length ≤ 100000) (lp : (catP ps).length ≤ 1048576) :
    Calls Tryz.prog 149 #[.agg #[.pointer (some ⟨p, 0, none⟩)], .slice B m d] w0 fun e w' => ∃ F2, e = .returned (.agg (bvs (out ts (hashT (catP ps)) 32)).toArray) ∧ Iq w0 F w' p F2 (mk ts (hashT (catP ps))) := by
 have hz := zc_run
 have k0 : Kp nob w0 ((w0.alloc (.cells #[.pointer (some ⟨p, 0, none⟩)] 117)).alloc (.cells zc.toArray 47)) := ((Kp.refl nob w0).alloc _).alloc _
 have HB := Lib.hid (show Blk ((w0.alloc (.cells #[.pointer (some ⟨p, 0, none⟩)] 117)).alloc (.cells zc.toArray 47)) (w0.heap.size + 1) 47 zc from Blk.new' (by simp) rfl)
 have HOF := Lib.hid (Ideal.hash_i p F ts B m d ps _ (hw.keep k0 (fun _ _ e => e)) (hp.keep0 k0) hl lp)
 have HL := Lib.hid (show (out ts (hashT (catP ps)) 32).length = 32 from Ideal.out_length _ _ _ (by omega))
 have HK := Lib.hid k0
 have hF := hw.lt
 clear hw hp hl lp k0
 obtain ⟨T, hT⟩ : ∃ T, T = mk ts (hashT (catP ps)) := ⟨_, rfl⟩
 rw [← hT] at HOF ⊢
 generalize out ts (hashT (catP ps)) 32 = D at *
 go_enter Tryz.func149, Tryz.ntmps149
 go_wp2_with (first
  | (go_at_call 154; refine HOF.out.mono ?_; rintro e w2 ⟨F2, rfl, hq⟩; have HB2 := Lib.hid (HB.out.keep hq.k (fun e => by have := hF _ e; omega)); have HQ := Lib.hid (hq.back HK.out); have HN := Lib.hid (show ¬ F2 (w0.heap.size + 1) from fun e => (hq.f _ e).elim (fun e => by have := hF _ e; omega) (fun e => by simp at e <;> omega)); clear hq)
  | (refine wpList_store_blk rfl 47 (.tmp 4) (.tmp 8) rfl _ _ _ (bvs D) HB2.out rfl rfl (by rw [bvs_length, HL.out, zc_length]) (by rw [bvs_length, HL.out]; kernel_rfl) (bvs_one _) ?_; intro w3 hB3 k3 z3)
  | fail)
 exact bodyPost_ret (results_cell_row rfl _ _ (w0.heap.size + 1) _ _ _ _ rfl hB3 rarr_under rfl (by rw [List.size_toArray]; exact rarr_size D HL.out)) rfl (by
  have hA : Iw w3 p F2 T := HQ.out.i.keep k3 (fun i h e => HN.out (by have e : i = w0.heap.size + 1 := e; rw [← e]; exact h))
  have hC : Kp F w0 w3 := HQ.out.k.trans k3 (fun i e => .inr (by have e : i = w0.heap.size + 1 := e; omega))
  first | exact ⟨F2, rfl, hA, HQ.out.f, hC⟩ | exact ⟨rfl, F2, hA, HQ.out.f, hC⟩)
theorem hash_ideal (v m p : Nat) (F : Nat → Prop) (ts : List Thing) (ms : List UInt8) (lim : Nat) (sl : List (Value × Value)) (cl : Nat) (B : Option Addr) (n d : Nat) (ps : List Pc) (w0 : World) (hv : Vb w0 v m (imk p) ms lim sl cl)
    (hw : Iw w0 p F ts) (hp : Args w0 F B n ps) (hl : ts.length ≤ 100000) (lp : (catP ps).length ≤ 1048576) :
    Calls Tryz.prog 70 #[.pointer (some ⟨v, 0, none⟩), .slice B n d] w0 fun e w' => ∃ F2, e = .returned (.agg (bvs (out ts (hashT (catP ps)) 32)).toArray) ∧ Iq w0 F w' p F2 (mk ts (hashT (catP ps))) := by
 have hz := zc_run
 have k0 : Kp nob w0 (w0.alloc (.cells zc.toArray 47)) := (Kp.refl nob w0).alloc _
 have HB := Lib.hid (show Blk (w0.alloc (.cells zc.toArray 47)) w0.heap.size 47 zc from Blk.new' (by simp) rfl)
 have HOF := Lib.hid (im_hash p F ts B n d ps _ (hw.keep k0 (fun _ _ e => e)) (hp.keep0 k0) hl lp)
 have HL := Lib.hid (show (out ts (hashT (catP ps)) 32).length = 32 from Ideal.out_length _ _ _ (by omega))
 have HK := Lib.hid k0
 have hc := (hv.keep0 k0).mk_
 have hF := hw.lt
 clear hv hw hp hl lp k0
 obtain ⟨T, hT⟩ : ∃ T, T = mk ts (hashT (catP ps)) := ⟨_, rfl⟩
 rw [← hT] at HOF ⊢
 generalize out ts (hashT (catP ps)) 32 = D at *
 go_enter Tryz.func70, Tryz.ntmps70
 go_wp2_with (first
  | (refine wpList_enter_gd (by rfl) _ _ (exec_invoke 149 117 (.agg #[.pointer (some ⟨p, 0, none⟩)]) (.agg #[.pointer (some ⟨p, 0, none⟩)]) _ _ _ _ [.slice B n d] rfl rfl (by kernel_rfl) (by kernel_rfl) rfl) ?_; refine HOF.out.mono ?_; rintro e w2 ⟨F2, rfl, hq⟩; refine ⟨_, rfl, ?_⟩; have HB2 := Lib.hid (HB.out.keep hq.k (fun e => by have := hF _ e; omega)); have HQ := Lib.hid (hq.back HK.out); have HN := Lib.hid (show ¬ F2 w0.heap.size from fun e => (hq.f _ e).elim (fun e => by have := hF _ e; omega) (fun e => by simp at e <;> omega)); clear hq)
  | (refine wpList_store_blk rfl 47 (.tmp 4) (.tmp 13) rfl _ _ _ (bvs D) HB2.out rfl rfl (by rw [bvs_length, HL.out, zc_length]) (by rw [bvs_length, HL.out]; kernel_rfl) (bvs_one _) ?_; intro w3 hB3 k3 z3)
  | fail)
 exact bodyPost_ret (results_cell_row rfl _ _ w0.heap.size _ _ _ _ rfl hB3 rarr_under rfl (by rw [List.size_toArray]; exact rarr_size D HL.out)) rfl (by
  have hA : Iw w3 p F2 T := HQ.out.i.keep k3 (fun i h e => HN.out (by have e : i = w0.heap.size := e; rw [← e]; exact h))
  have hC : Kp F w0 w3 := HQ.out.k.trans k3 (fun i e => .inr (by have e : i = w0.heap.size := e; omega))
  first | exact ⟨F2, rfl, hA, HQ.out.f, hC⟩ | exact ⟨rfl, F2, hA, HQ.out.f, hC⟩)
end Vault
namespace Vault
open Go Go.RowKit Kit
open Ideal (Arg)
theorem sealed_under : Tryz.prog.underlying 99 = some (.map 213 58) := by kernel_rfl
theorem sl_zero (w : World) : (zeroValue 58).run Tryz.prog w = .ok (.slice none 0 0) w := by kernel_rfl
theorem place_sz (p : Pl) : (Tryz.prog.info? 213).map (·.size) = some (bvs p.1).length := by rw [bvs_length, p.2]; kernel_rfl
def dift (a b : List UInt8) : Bool := decide (a ≠ b)
theorem vs_put {F : Nat → Prop} {w w' : World} {v m : Nat} {mk : Value} {ms : List UInt8} {lim : Nat} {sx : List (Pl × (Value × List UInt8))} {cl cl' : Nat} {p : Pl} {x : Value} {t : List UInt8} (hv : Vb w v m mk ms lim (ents (·.1) sx) cl) (hnd : (sx.map (·.1)).Nodup) (hk : ∀ q ∈ sx, Kpt F w v m q.2.1 q.2.2)
    (hb : Blk w' v 101 (vcells mk ms lim m cl')) (hm : MapB w' m (ents (·.1) (upd sx p (x, t)))) (k : Kp (vF v m) w w') (hx : Kpt F w' v m x t) : Vs F w' v m mk ms lim (upd (sx.map fun q => (q.1, q.2.2)) p t) cl' := by
 refine ⟨upd sx p (x, t), upd_map (fun y : Value × List UInt8 => y.2) sx p (x, t), ⟨hb, hv.l, hm, hv.ne⟩, upd_keys _ _ _ hnd, fun q hq => ?_⟩
 rcases upd_mem _ _ _ _ hq with h | h
 · exact (hk q h).keep k (fun i e => .inr e)
 · rw [h]; exact hx
theorem note_any : NoteC dift (fun _ => True) := by
 intro F v m mk ms lim sl cl p T n c text w _ hv hF ha hc hl
 obtain ⟨sx, rfl, hvb, hnd, hk⟩ := hv
 show Calls Tryz.prog 127 #[.pointer (some ⟨v, 0, none⟩), .agg (bvs p.1).toArray, .slice T n c] w _
 have hlm := last_map (fun y : Value × List UInt8 => y.2) sx p
 have HL := fun (w' : World) (h : MapB w' m (ents (·.1) sx)) => look_last (P := Tryz.prog) place_keys sealed_under (·.1) w' (sl_zero w') m sx p h hnd
 have HST := Lib.hid (fun (w' : World) (x : Value × List UInt8) (h : MapB w' m (ents (·.1) sx)) => store_upd (P := Tryz.prog) place_keys sealed_under (·.1) w' m sx p x h hnd)
 have HND := Lib.hid hnd
 have HV := Lib.hid hvb; have HA := Lib.hid ha; have HK := Lib.hid hk
 have hml : m < w.heap.size := hvb.s.lt
 have HB0 : Hid (Kp nob w (w.alloc (.cells (bvs p.1).toArray 213)).drew ∧ Blk (w.alloc (.cells (bvs p.1).toArray 213)).drew w.heap.size 213 (bvs p.1)) := Lib.hid ⟨((Kp.refl nob w).alloc _).drew, (Blk.new w 213 (bvs p.1)).keep (Kp.refl nob _).drew (fun e => e)⟩
 have HPS := Lib.hid (place_sz p)
 have HLT := Lib.hid (And.intro hvb.b.lt hml)
 have HCL : Hid (text.length = n ∧ n ≤ 1099511627776) := Lib.hid ⟨ha.len, by have := ha.len; omega⟩
 have HFL := Lib.hid hF
 have HC34 := Lib.hid (fun (w' : World) (k : Nat) (h : Blk w' v 101 (vcells mk ms lim m k)) => (show w'.cell? ⟨v, 34, none⟩ = some (.map (some m)) by rw [h.cell]; exact vcells_at mk ms lim m k 1 hvb.l))
 have HCC := Lib.hid hc
 cases hls : last sx p with
 | none =>
   have HL2 : Hid (∀ w', MapB w' m (ents (·.1) sx) → (Instr.lookup 99 (.map (some m)) (pv p) true).run Tryz.prog w' = .ok (.tuple #[.slice none 0 0, .bool false]) w') := Lib.hid (fun w' h => by have := HL w' h; rw [hls] at this; exact this)
   have HCS : Hid (clash dift (sx.map fun q => (q.1, q.2.2)) p text = 0) := Lib.hid (by rw [clash, hlm, hls]; rfl)
   clear hls HL hlm hF ha hc hl hk hvb hnd hml
   go_enter Tryz.func127, Tryz.ntmps127
   go_wp2
   refine reg_begin (fun w' => Kp nob w w' ∧ Blk w' w.heap.size 213 (bvs p.1)) (by kernel_rfl) HB0.out (fun _ => ?_)
   generalize (w.alloc (.cells (bvs p.1).toArray 213)).drew = w1 at *
   refine reg_tk (v := .pointer (some ⟨v, 0, none⟩)) 0 9 rfl rfl (by kernel_rfl) (by rfl) HB0.out (fun w hw => by go_simp) ?_; simp only [Act.put, zp1, zp2, zp3]
   refine reg_tk (v := .pointer (some ⟨v, 0, none⟩)) 1 10 rfl rfl (by kernel_rfl) (by rfl) HB0.out (fun w hw => by go_simp) ?_; simp only [Act.put, zp1, zp2, zp3]
   refine reg_tk (v := .pointer (some ⟨v, 34, none⟩)) 2 11 rfl rfl (by kernel_rfl) (by rfl) HB0.out (fun w hw => by go_simp) ?_; simp only [Act.put, zp1, zp2, zp3]
   refine reg_tk (v := .map (some m)) 3 12 rfl rfl (by kernel_rfl) (by rfl) HB0.out (fun w hw => by have hc := (HV.out.keep0 hw.1).map_; go_simp) ?_; simp only [Act.put, zp1, zp2, zp3]
   refine reg_load 4 (some 13) 213 (.tmp 4) rfl rfl rfl (by kernel_rfl) (by kernel_rfl) (by kernel_rfl) (by rfl) HB0.out w.heap.size 0 rfl (bvs p.1) _ (fun w hw => hw.2.range) place_under rfl HPS.out ?_; simp only [Act.put, zp1, zp2, zp3]
   refine reg_tk (v := .tuple #[.slice none 0 0, .bool false]) 5 14 rfl rfl (by kernel_rfl) (by rfl) HB0.out (fun w hw => by exact exec_look (.tmp 12) (.tmp 13) 99 true rfl (.map (some m)) (pv p) _ rfl rfl (HL2.out w (HV.out.keep0 hw.1).s)) ?_; simp only [Act.put, zp1, zp2, zp3]
   refine reg_tk (v := .tuple #[.slice none 0 0, .bool false]) 6 8 rfl rfl (by kernel_rfl) (by rfl) HB0.out (fun w hw => by go_simp) ?_; simp only [Act.put, zp1, zp2, zp3]
   refine reg_tk (v := .slice none 0 0) 7 15 rfl rfl (by kernel_rfl) (by rfl) HB0.out (fun w hw => by go_simp) ?_; simp only [Act.put, zp1, zp2, zp3]
   refine reg_tk (v := .bool false) 8 16 rfl rfl (by kernel_rfl) (by rfl) HB0.out (fun w hw => by go_simp) ?_; simp only [Act.put, zp1, zp2, zp3]
   refine reg_tk (v := .slice none 0 0) 9 6 rfl rfl (by kernel_rfl) (by rfl) HB0.out (fun w hw => by go_simp) ?_; simp only [Act.put, zp1, zp2, zp3]
   refine reg_tk (v := .bool false) 10 7 rfl rfl (by kernel_rfl) (by rfl) HB0.out (fun w hw => by go_simp) ?_; simp only [Act.put, zp1, zp2, zp3]
   refine reg_end (by kernel_rfl) ?_
   go_wp2
   have k5 : Kp nob w w1.drew := HB0.out.1.drew
   have HS5 : Hid (Kp (vF v m) w w1.drew ∧ Blk w1.drew w.heap.size 213 (bvs p.1) ∧ Blk w1.drew v 101 (vcells mk ms lim m cl)) := Lib.hid ⟨k5.nob _, HB0.out.2.keep (Kp.refl nob _).drew (fun e => e), (HV.out.keep0 k5).b⟩
   have HR5 : Hid (Row w1.drew T (bvs text)) := Lib.hid (HA.out.row.keep0 k5)
   have HM5 : Hid (MapB w1.drew m (ents (·.1) sx)) := Lib.hid ((HV.out.keep0 k5).s)
   clear k5
   refine reg_begin (fun w' => Kp (vF v m) w w' ∧ Blk w' w.heap.size 213 (bvs p.1) ∧ Blk w' v 101 (vcells mk ms lim m cl)) (by kernel_rfl) HS5.out (fun _ => ?_)
   generalize (w1).drew = w5 at *
   refine reg_tk (v := .pointer (some ⟨v, 0, none⟩)) 0 31 rfl rfl (by kernel_rfl) (by rfl) HS5.out (fun w hw => by go_simp) ?_; simp only [Act.put, zp1, zp2, zp3]
   refine reg_tk (v := .pointer (some ⟨v, 0, none⟩)) 1 32 rfl rfl (by kernel_rfl) (by rfl) HS5.out (fun w hw => by go_simp) ?_; simp only [Act.put, zp1, zp2, zp3]
   refine reg_tk (v := .pointer (some ⟨v, 34, none⟩)) 2 33 rfl rfl (by kernel_rfl) (by rfl) HS5.out (fun w hw => by go_simp) ?_; simp only [Act.put, zp1, zp2, zp3]
   refine reg_tk (v := .map (some m)) 3 34 rfl rfl (by kernel_rfl) (by rfl) HS5.out (fun w hw => by have hc := HC34.out w cl hw.2.2; go_simp) ?_; simp only [Act.put, zp1, zp2, zp3]
   refine reg_load 4 (some 35) 213 (.tmp 4) rfl rfl rfl (by kernel_rfl) (by kernel_rfl) (by kernel_rfl) (by rfl) HS5.out w.heap.size 0 rfl (bvs p.1) _ (fun w hw => hw.2.1.range) place_under rfl HPS.out ?_; simp only [Act.put, zp1, zp2, zp3]
   refine reg_tk (v := .slice T n c) 5 36 rfl rfl (by kernel_rfl) (by rfl) HS5.out (fun w hw => by go_simp) ?_; simp only [Act.put, zp1, zp2, zp3]
   refine reg_call 6 (some 37) rfl rfl (by kernel_rfl) (by rfl) _ _ (exec_func 84 _ _ [.slice T n c] rfl (by kernel_rfl) rfl) ?_
   refine (clone_any T n c text w5 HCL.out.1 HCL.out.2 HA.out.nil HR5.out).mono ?_
   rintro e w6 ⟨A6, c6, rfl, o6, k6, f6, n6⟩
   have HS6 : Hid (Kp (vF v m) w w6 ∧ Blk w6 w.heap.size 213 (bvs p.1) ∧ Blk w6 v 101 (vcells mk ms lim m cl)) := Lib.hid ⟨HS5.out.1.trans k6 (fun _ e => e.elim), HS5.out.2.1.keep k6 (fun e => e), HS5.out.2.2.keep k6 (fun e => e)⟩
   have HM6 := Lib.hid (HM5.out.keep k6 (fun e => e))
   have HO6 := Lib.hid o6; have HN6 := Lib.hid n6
   have HF6 : Hid (∀ k, ab A6 = some k → w.heap.size ≤ k ∧ k < w6.heap.size) := Lib.hid (fun k e => ⟨Nat.le_trans HS5.out.1.size (f6 k e), o6.lt k e⟩)
   clear o6 k6 f6 n6
   refine ⟨_, rfl, HS6.out, fun _ => ?_⟩
   simp only [Act.put, zp1, zp2, zp3]
   obtain ⟨w7, h7, m7, k7, z7⟩ := HST.out w6 (.slice A6 text.length c6, text) HM6.out
   have hvm : v ≠ m := HV.out.ne
   have K7 : Kp (vF v m) w w7 := HS6.out.1.trans k7 (fun i e => .inl (.inr e))
   have hb7 : Blk w7 v 101 (vcells mk ms lim m cl) := HS6.out.2.2.keep k7 (fun e => hvm e)
   refine reg_update (w' := w7) 7 none (.tmp 34) (.tmp 35) (.tmp 37) 99 rfl rfl rfl (by kernel_rfl) (by rfl) (.map (some m)) (pv p) (.slice A6 text.length c6) rfl rfl rfl h7 ⟨K7, HS6.out.2.1.keep k7 (fun e => by have e : w.heap.size = m := e; have := HLT.out.2; omega), hb7⟩ (fun _ => ?_)
   simp only [Act.put, zp1, zp2, zp3]
   refine reg_end (by kernel_rfl) ?_
   have hkp : Kpt F w7 v m (.slice A6 text.length c6) text := ⟨A6, c6, rfl, HO6.out.cap.1, HO6.out.cap.2, HN6.out, HO6.out.row.keep k7 (fun k e e2 => by have e2 : k = m := e2; have := (HF6.out k e).1; have := HLT.out.2; omega), fun k e => by
    have h1 := HF6.out k e
    have h2 := HLT.out
    exact ⟨fun e2 => by have := HFL.out k e2; omega, by omega, by omega, by omega⟩⟩
   have hvs := vs_put HV.out HND.out HK.out hb7 m7 K7 hkp
   clear hvm h7 m7 z7
   go_wp2
   refine bodyPost_end (results_none rfl _ _ _) rfl ⟨rfl, ?_, K7⟩
   rw [HCS.out, Nat.add_zero]
   exact hvs
 | some xu =>
   obtain ⟨x, u⟩ := xu
   have HL2 : Hid (∀ w', MapB w' m (ents (·.1) sx) → (Instr.lookup 99 (.map (some m)) (pv p) true).run Tryz.prog w' = .ok (.tuple #[x, .bool true]) w') := Lib.hid (fun w' h => by have := HL w' h; rw [hls] at this; exact this)
   obtain ⟨X, cX, hx0, hx1, hx2, hx3, hx4, hx5⟩ := hk _ (last_mem _ _ _ hls)
   simp only at hx0 hx1 hx2 hx3 hx4 hx5
   subst hx0
   have HX4 := Lib.hid hx4
   obtain ⟨nu, hnu⟩ : ∃ k, k = u.length := ⟨_, rfl⟩
   rw [← hnu] at HL2
   have HNU := Lib.hid hnu
   by_cases hut : u = text
   · have HE := Lib.hid (fun (w' : World) (k : Kp nob w w') => (show Calls Tryz.prog 129 #[.slice X nu cX, .slice T n c] w' fun e w2 => e = .returned (.bool true) ∧ w' = w2 by
       have := Ideal.equal_any X T nu cX n c u text w' HNU.out.symm HCL.out.1 (HX4.out.keep0 k) (HA.out.row.keep0 k)
       rw [decide_eq_true hut] at this; exact this))
     have HCS : Hid (clash dift (sx.map fun q => (q.1, q.2.2)) p text = 0) := Lib.hid (by rw [clash, hlm, hls]; simp [dift, hut])
     have HUS : Hid (upd (sx.map fun q => (q.1, q.2.2)) p text = sx.map fun q => (q.1, q.2.2)) := Lib.hid (upd_same _ _ _ (by rw [hlm, hls, ← hut]; rfl))
     clear hls HL hlm hF ha hc hl hk hvb hnd hml hx1 hx2 hx3 hx4 hx5 hnu
     go_enter Tryz.func127, Tryz.ntmps127
     go_wp2
     refine reg_begin (fun w' => Kp nob w w' ∧ Blk w' w.heap.size 213 (bvs p.1)) (by kernel_rfl) HB0.out (fun _ => ?_)
     generalize (w.alloc (.cells (bvs p.1).toArray 213)).drew = w1 at *
     refine reg_tk (v := .pointer (some ⟨v, 0, none⟩)) 0 9 rfl rfl (by kernel_rfl) (by rfl) HB0.out (fun w hw => by go_simp) ?_; simp only [Act.put, zp1, zp2, zp3]
     refine reg_tk (v := .pointer (some ⟨v, 0, none⟩)) 1 10 rfl rfl (by kernel_rfl) (by rfl) HB0.out (fun w hw => by go_simp) ?_; simp only [Act.put, zp1, zp2, zp3]
     refine reg_tk (v := .pointer (some ⟨v, 34, none⟩)) 2 11 rfl rfl (by kernel_rfl) (by rfl) HB0.out (fun w hw => by go_simp) ?_; simp only [Act.put, zp1, zp2, zp3]
     refine reg_tk (v := .map (some m)) 3 12 rfl rfl (by kernel_rfl) (by rfl) HB0.out (fun w hw => by have hc := (HV.out.keep0 hw.1).map_; go_simp) ?_; simp only [Act.put, zp1, zp2, zp3]
     refine reg_load 4 (some 13) 213 (.tmp 4) rfl rfl rfl (by kernel_rfl) (by kernel_rfl) (by kernel_rfl) (by rfl) HB0.out w.heap.size 0 rfl (bvs p.1) _ (fun w hw => hw.2.range) place_under rfl HPS.out ?_; simp only [Act.put, zp1, zp2, zp3]
     refine reg_tk (v := .tuple #[.slice X nu cX, .bool true]) 5 14 rfl rfl (by kernel_rfl) (by rfl) HB0.out (fun w hw => by exact exec_look (.tmp 12) (.tmp 13) 99 true rfl (.map (some m)) (pv p) _ rfl rfl (HL2.out w (HV.out.keep0 hw.1).s)) ?_; simp only [Act.put, zp1, zp2, zp3]
     refine reg_tk (v := .tuple #[.slice X nu cX, .bool true]) 6 8 rfl rfl (by kernel_rfl) (by rfl) HB0.out (fun w hw => by go_simp) ?_; simp only [Act.put, zp1, zp2, zp3]
     refine reg_tk (v := .slice X nu cX) 7 15 rfl rfl (by kernel_rfl) (by rfl) HB0.out (fun w hw => by go_simp) ?_; simp only [Act.put, zp1, zp2, zp3]
     refine reg_tk (v := .bool true) 8 16 rfl rfl (by kernel_rfl) (by rfl) HB0.out (fun w hw => by go_simp) ?_; simp only [Act.put, zp1, zp2, zp3]
     refine reg_tk (v := .slice X nu cX) 9 6 rfl rfl (by kernel_rfl) (by rfl) HB0.out (fun w hw => by go_simp) ?_; simp only [Act.put, zp1, zp2, zp3]
     refine reg_tk (v := .bool true) 10 7 rfl rfl (by kernel_rfl) (by rfl) HB0.out (fun w hw => by go_simp) ?_; simp only [Act.put, zp1, zp2, zp3]
     refine reg_end (by kernel_rfl) ?_
     go_wp2_with fail
     refine (HE.out _ HB0.out.1).mono ?_
     rintro e w2 ⟨rfl, rfl⟩
     go_wp2
     refine bodyPost_ret (results_none rfl _ _ _) rfl ⟨rfl, ?_, HB0.out.1.nob _⟩
     rw [HCS.out, HUS.out, Nat.add_zero]
     exact ⟨sx, rfl, HV.out.keep0 HB0.out.1, HND.out, fun q hq => (HK.out q hq).keep HB0.out.1 (fun i e => e.elim)⟩
   · have HE := Lib.hid (fun (w' : World) (k : Kp nob w w') => (show Calls Tryz.prog 129 #[.slice X nu cX, .slice T n c] w' fun e w2 => e = .returned (.bool false) ∧ w' = w2 by
       have := Ideal.equal_any X T nu cX n c u text w' HNU.out.symm HCL.out.1 (HX4.out.keep0 k) (HA.out.row.keep0 k)
       rw [decide_eq_false hut] at this; exact this))
     have HCS : Hid (clash dift (sx.map fun q => (q.1, q.2.2)) p text = 1) := Lib.hid (by rw [clash, hlm, hls]; simp [dift, hut])
     obtain ⟨cl1, hcl1⟩ : ∃ k, k = cl + 1 := ⟨_, rfl⟩
     have e1 : IntKind.i64.wrap ((cl : Int) + 1) = (cl1 : Int) := by rw [IntWalk.i64_in _ (by omega)]; omega
     have HC1 := Lib.hid hcl1; have HW1 := Lib.hid e1
     clear hls HL hlm hF ha hc hl hk hvb hnd hml hx1 hx2 hx3 hx4 hx5 hnu hcl1 e1
     go_enter Tryz.func127, Tryz.ntmps127
     go_wp2
     refine reg_begin (fun w' => Kp nob w w' ∧ Blk w' w.heap.size 213 (bvs p.1)) (by kernel_rfl) HB0.out (fun _ => ?_)
     generalize (w.alloc (.cells (bvs p.1).toArray 213)).drew = w1 at *
     refine reg_tk (v := .pointer (some ⟨v, 0, none⟩)) 0 9 rfl rfl (by kernel_rfl) (by rfl) HB0.out (fun w hw => by go_simp) ?_; simp only [Act.put, zp1, zp2, zp3]
     refine reg_tk (v := .pointer (some ⟨v, 0, none⟩)) 1 10 rfl rfl (by kernel_rfl) (by rfl) HB0.out (fun w hw => by go_simp) ?_; simp only [Act.put, zp1, zp2, zp3]
     refine reg_tk (v := .pointer (some ⟨v, 34, none⟩)) 2 11 rfl rfl (by kernel_rfl) (by rfl) HB0.out (fun w hw => by go_simp) ?_; simp only [Act.put, zp1, zp2, zp3]
     refine reg_tk (v := .map (some m)) 3 12 rfl rfl (by kernel_rfl) (by rfl) HB0.out (fun w hw => by have hc := (HV.out.keep0 hw.1).map_; go_simp) ?_; simp only [Act.put, zp1, zp2, zp3]
     refine reg_load 4 (some 13) 213 (.tmp 4) rfl rfl rfl (by kernel_rfl) (by kernel_rfl) (by kernel_rfl) (by rfl) HB0.out w.heap.size 0 rfl (bvs p.1) _ (fun w hw => hw.2.range) place_under rfl HPS.out ?_; simp only [Act.put, zp1, zp2, zp3]
     refine reg_tk (v := .tuple #[.slice X nu cX, .bool true]) 5 14 rfl rfl (by kernel_rfl) (by rfl) HB0.out (fun w hw => by exact exec_look (.tmp 12) (.tmp 13) 99 true rfl (.map (some m)) (pv p) _ rfl rfl (HL2.out w (HV.out.keep0 hw.1).s)) ?_; simp only [Act.put, zp1, zp2, zp3]
     refine reg_tk (v := .tuple #[.slice X nu cX, .bool true]) 6 8 rfl rfl (by kernel_rfl) (by rfl) HB0.out (fun w hw => by go_simp) ?_; simp only [Act.put, zp1, zp2, zp3]
     refine reg_tk (v := .slice X nu cX) 7 15 rfl rfl (by kernel_rfl) (by rfl) HB0.out (fun w hw => by go_simp) ?_; simp only [Act.put, zp1, zp2, zp3]
     refine reg_tk (v := .bool true) 8 16 rfl rfl (by kernel_rfl) (by rfl) HB0.out (fun w hw => by go_simp) ?_; simp only [Act.put, zp1, zp2, zp3]
     refine reg_tk (v := .slice X nu cX) 9 6 rfl rfl (by kernel_rfl) (by rfl) HB0.out (fun w hw => by go_simp) ?_; simp only [Act.put, zp1, zp2, zp3]
     refine reg_tk (v := .bool true) 10 7 rfl rfl (by kernel_rfl) (by rfl) HB0.out (fun w hw => by go_simp) ?_; simp only [Act.put, zp1, zp2, zp3]
     refine reg_end (by kernel_rfl) ?_
     have e1 := HW1.out
     have c35 := (HV.out.keep0 HB0.out.1).cl_
     have f35 : w1.frozen? ⟨v, 35, none⟩ = false := (HV.out.keep0 HB0.out.1).b.frozen _
     go_wp2_with fail
     refine (HE.out _ HB0.out.1).mono ?_
     rintro e w2 ⟨rfl, rfl⟩
     go_wp2
     have k4 : Kp (vF v m) w (w1.setCell ⟨v, 35, none⟩ (.int .i64 (cl1 : Int))).drew := ((HB0.out.1.nob (vF v m)).setCell (p := ⟨v, 35, none⟩) (.inl (.inl rfl)) _).drew
     have b4 : Blk (w1.setCell ⟨v, 35, none⟩ (.int .i64 (cl1 : Int))) v 101 (vcells mk ms lim m cl1) := by
      have := (HV.out.keep0 HB0.out.1).b.set_ 35 (.int .i64 (cl1 : Int))
      rwa [vcells_cl _ _ _ _ _ _ HV.out.l] at this
     have kv : Kp (fun i => i = v) w1 (w1.setCell ⟨v, 35, none⟩ (.int .i64 (cl1 : Int))).drew := ((Kp.refl (fun i => i = v) w1).setCell (p := ⟨v, 35, none⟩) (.inl rfl) _).drew
     have HS5 : Hid (Kp (vF v m) w (w1.setCell ⟨v, 35, none⟩ (.int .i64 (cl1 : Int))).drew ∧ Blk (w1.setCell ⟨v, 35, none⟩ (.int .i64 (cl1 : Int))).drew w.heap.size 213 (bvs p.1) ∧ Blk (w1.setCell ⟨v, 35, none⟩ (.int .i64 (cl1 : Int))).drew v 101 (vcells mk ms lim m cl1)) := Lib.hid ⟨k4, HB0.out.2.keep kv (fun e => by have e : w.heap.size = v := e; have := HLT.out.1; omega), b4.keep (Kp.refl nob _).drew (fun e => e)⟩
     have HR5 : Hid (Row (w1.setCell ⟨v, 35, none⟩ (.int .i64 (cl1 : Int))).drew T (bvs text)) := Lib.hid (by
      rcases HA.out.far with h | h
      · rw [h]; exact Row.nil _ _
      · exact HA.out.row.keep k4 h)
     have HM5 : Hid (MapB (w1.setCell ⟨v, 35, none⟩ (.int .i64 (cl1 : Int))).drew m (ents (·.1) sx)) := Lib.hid ((HV.out.keep0 HB0.out.1).s.keep kv (fun e => HV.out.ne e.symm))
     clear k4 b4 kv c35 f35 e1
     refine reg_begin (fun w' => Kp (vF v m) w w' ∧ Blk w' w.heap.size 213 (bvs p.1) ∧ Blk w' v 101 (vcells mk ms lim m cl1)) (by kernel_rfl) HS5.out (fun _ => ?_)
     generalize (w1.setCell ⟨v, 35, none⟩ (.int .i64 (cl1 : Int))).drew = w5 at *
     refine reg_tk (v := .pointer (some ⟨v, 0, none⟩)) 0 31 rfl rfl (by kernel_rfl) (by rfl) HS5.out (fun w hw => by go_simp) ?_; simp only [Act.put, zp1, zp2, zp3]
     refine reg_tk (v := .pointer (some ⟨v, 0, none⟩)) 1 32 rfl rfl (by kernel_rfl) (by rfl) HS5.out (fun w hw => by go_simp) ?_; simp only [Act.put, zp1, zp2, zp3]
     refine reg_tk (v := .pointer (some ⟨v, 34, none⟩)) 2 33 rfl rfl (by kernel_rfl) (by rfl) HS5.out (fun w hw => by go_simp) ?_; simp only [Act.put, zp1, zp2, zp3]
     refine reg_tk (v := .map (some m)) 3 34 rfl rfl (by kernel_rfl) (by rfl) HS5.out (fun w hw => by have hc := HC34.out w cl1 hw.2.2; go_simp) ?_; simp only [Act.put, zp1, zp2, zp3]
     refine reg_load 4 (some 35) 213 (.tmp 4) rfl rfl rfl (by kernel_rfl) (by kernel_rfl) (by kernel_rfl) (by rfl) HS5.out w.heap.size 0 rfl (bvs p.1) _ (fun w hw => hw.2.1.range) place_under rfl HPS.out ?_; simp only [Act.put, zp1, zp2, zp3]
     refine reg_tk (v := .slice T n c) 5 36 rfl rfl (by kernel_rfl) (by rfl) HS5.out (fun w hw => by go_simp) ?_; simp only [Act.put, zp1, zp2, zp3]
     refine reg_call 6 (some 37) rfl rfl (by kernel_rfl) (by rfl) _ _ (exec_func 84 _ _ [.slice T n c] rfl (by kernel_rfl) rfl) ?_
     refine (clone_any T n c text w5 HCL.out.1 HCL.out.2 HA.out.nil HR5.out).mono ?_
     rintro e w6 ⟨A6, c6, rfl, o6, k6, f6, n6⟩
     have HS6 : Hid (Kp (vF v m) w w6 ∧ Blk w6 w.heap.size 213 (bvs p.1) ∧ Blk w6 v 101 (vcells mk ms lim m cl1)) := Lib.hid ⟨HS5.out.1.trans k6 (fun _ e => e.elim), HS5.out.2.1.keep k6 (fun e => e), HS5.out.2.2.keep k6 (fun e => e)⟩
     have HM6 := Lib.hid (HM5.out.keep k6 (fun e => e))
     have HO6 := Lib.hid o6; have HN6 := Lib.hid n6
     have HF6 : Hid (∀ k, ab A6 = some k → w.heap.size ≤ k ∧ k < w6.heap.size) := Lib.hid (fun k e => ⟨Nat.le_trans HS5.out.1.size (f6 k e), o6.lt k e⟩)
     clear o6 k6 f6 n6
     refine ⟨_, rfl, HS6.out, fun _ => ?_⟩
     simp only [Act.put, zp1, zp2, zp3]
     obtain ⟨w7, h7, m7, k7, z7⟩ := HST.out w6 (.slice A6 text.length c6, text) HM6.out
     have hvm : v ≠ m := HV.out.ne
     have K7 : Kp (vF v m) w w7 := HS6.out.1.trans k7 (fun i e => .inl (.inr e))
     have hb7 : Blk w7 v 101 (vcells mk ms lim m cl1) := HS6.out.2.2.keep k7 (fun e => hvm e)
     refine reg_update (w' := w7) 7 none (.tmp 34) (.tmp 35) (.tmp 37) 99 rfl rfl rfl (by kernel_rfl) (by rfl) (.map (some m)) (pv p) (.slice A6 text.length c6) rfl rfl rfl h7 ⟨K7, HS6.out.2.1.keep k7 (fun e => by have e : w.heap.size = m := e; have := HLT.out.2; omega), hb7⟩ (fun _ => ?_)
     simp only [Act.put, zp1, zp2, zp3]
     refine reg_end (by kernel_rfl) ?_
     have hkp : Kpt F w7 v m (.slice A6 text.length c6) text := ⟨A6, c6, rfl, HO6.out.cap.1, HO6.out.cap.2, HN6.out, HO6.out.row.keep k7 (fun k e e2 => by have e2 : k = m := e2; have := (HF6.out k e).1; have := HLT.out.2; omega), fun k e => by
      have h1 := HF6.out k e
      have h2 := HLT.out
      exact ⟨fun e2 => by have := HFL.out k e2; omega, by omega, by omega, by omega⟩⟩
     have hvs := vs_put HV.out HND.out HK.out hb7 m7 K7 hkp
     clear hvm h7 m7 z7
     go_wp2
     refine bodyPost_end (results_none rfl _ _ _) rfl ⟨rfl, ?_, K7⟩
     rw [HCS.out, ← HC1.out]
     exact hvs
end Vault
structure Sha.ShaTab where
structure Field.SqTab where
instance : Inhabited Sha.ShaTab := ⟨{}⟩
instance : Inhabited Field.SqTab := ⟨{}⟩
namespace Vault
open Go Go.RowKit Kit
open Ideal (Iw Iq Ans Arg Args Thing mk out sealT opn derT hashT z32 Ts)
open Sha (Pc PcsOk catP)
structure Vc where
 v : Nat
 m : Nat
 p : Nat
 ms : List UInt8
 lim : Nat
 b : Nat
structure Vt where
 F : Nat → Prop
 P : Nat → Prop
 o : Ts
 sl : List (Pl × List UInt8)
 cl : Nat
def mkr : Ts → Nat → Value
 | .real _, _ => rmk
 | .dream _, p => imk p
def Wd (w : World) (b p : Nat) (F : Nat → Prop) : Ts → Prop
 | .real _ => False
 | .dream ts => Iw w p F ts
def oth (w : World) (F P : Nat → Prop) : Nat → Prop := fun i => F i ∨ i < w.heap.size ∧ ¬ P i
structure Vx (w : World) (c : Vc) (x : Vt) : Prop where
 vs : Vs (oth w x.F x.P) w c.v c.m (mkr x.o c.p) c.ms c.lim x.sl x.cl
 wd : Wd w c.b c.p x.F x.o
 sub : ∀ i, x.F i → x.P i
 own : x.P c.v ∧ x.P c.m
 ne : ¬ x.F c.v ∧ ¬ x.F c.m
 lt : ∀ i, x.P i → i < w.heap.size
 ge : ∀ i, x.P i → c.b ≤ i
 sz : c.b ≤ w.heap.size
structure Vq (w : World) (c : Vc) (x : Vt) (w2 : World) (x2 : Vt) : Prop where
 now : Vx w2 c x2
 P : ∀ i, x2.P i → x.P i ∨ w.heap.size ≤ i
 kp : Kp x.P w w2
theorem Wd.keep {w w2 : World} {b p : Nat} {F H : Nat → Prop} {o : Ts} (h : Wd w b p F o) (k : Kp H w w2) (hF : ∀ i, F i → ¬ H i) (hH : ∀ i, H i → b ≤ i) : Wd w2 b p F o := by
 cases o with
 | real f => exact h.elim
 | dream ts => exact Iw.keep h k hF
theorem Kp.low {H : Nat → Prop} {w w2 : World} (k : Kp H w w2) : Kp (fun i => i < w.heap.size ∧ H i) w w2 := k.mono (fun i h e => ⟨h, e⟩)
theorem Vx.keep {w w2 : World} {c : Vc} {x : Vt} {H : Nat → Prop} (h : Vx w c x) (k : Kp H w w2) (hH : ∀ i, i < w.heap.size → H i → c.b ≤ i ∧ ¬ x.P i) : Vx w2 c x := by
 have hv : ¬ H c.v := fun e => (hH _ (h.lt _ h.own.1) e).2 h.own.1
 have hm : ¬ H c.m := fun e => (hH _ (h.lt _ h.own.2) e).2 h.own.2
 have hs := k.size
 refine ⟨h.vs.turnG k (fun i l e => .inr ⟨l, (hH i l e).2⟩) hv hm (fun i e => ?_), h.wd.keep (Kp.low k) (fun i e e2 => (hH i e2.1 e2.2).2 (h.sub i e)) (fun i e => (hH i e.1 e.2).1), h.sub, h.own, h.ne, fun i e => Nat.lt_of_lt_of_le (h.lt i e) hs, h.ge, Nat.le_trans h.sz hs⟩
 rcases e with e | ⟨e1, e2⟩
 · exact .inl (.inl e)
 · by_cases hl : i < w.heap.size
   · exact .inl (.inr ⟨hl, e2⟩)
   · exact .inr (by omega)
theorem Vx.keep0 {w w2 : World} {c : Vc} {x : Vt} (h : Vx w c x) (k : Kp nob w w2) : Vx w2 c x := h.keep k (fun _ _ e => e.elim)
theorem Vx.alloc {w : World} {c : Vc} {x : Vt} (h : Vx w c x) (o : Obj) : Vx (w.alloc o) c x := h.keep0 ((Kp.refl nob w).alloc o)
theorem Vx.world {w w2 : World} {c : Vc} {F P F2 : Nat → Prop} {sl : List (Pl × List UInt8)} {cl : Nat} {ts ts2 : List Thing} (h : Vx w c ⟨F, P, .dream ts, sl, cl⟩) (q : Iq w F w2 c.p F2 ts2) : Vq w c ⟨F, P, .dream ts, sl, cl⟩ w2 ⟨F2, fun i => P i ∨ F2 i, .dream ts2, sl, cl⟩ := by
 have hs := q.k.size
 have hlt2 := Iw.lt q.i
 have hv : c.v < w.heap.size := h.lt _ h.own.1
 have hm : c.m < w.heap.size := h.lt _ h.own.2
 have hz : c.b ≤ w.heap.size := h.sz
 refine ⟨⟨h.vs.turnG q.k (fun i l e => .inl e) h.ne.1 h.ne.2 (fun i e => ?_), q.i, fun i e => .inr e, ⟨.inl h.own.1, .inl h.own.2⟩, ⟨fun e => (q.f _ e).elim h.ne.1 (fun e => by omega), fun e => (q.f _ e).elim h.ne.2 (fun e => by omega)⟩, fun i e => ?_, fun i e => ?_, by omega⟩, fun i e => ?_, q.k.mono (fun i _ e => h.sub i e)⟩
 · rcases e with e | ⟨e1, e2⟩
   · exact (q.f i e).elim (fun e => .inl (.inl e)) .inr
   · by_cases hl : i < w.heap.size
     · exact .inl (.inr ⟨hl, fun e => e2 (.inl e)⟩)
     · exact .inr (by omega)
 · rcases e with e | e
   · exact Nat.lt_of_lt_of_le (h.lt i e) hs
   · exact hlt2 i e
 · rcases e with e | e
   · exact h.ge i e
   · exact (q.f i e).elim (fun e => h.ge i (h.sub i e)) (fun e => by omega)
 · rcases e with e | e
   · exact .inl e
   · exact (q.f i e).elim (fun e => .inl (h.sub i e)) .inr
theorem hash_v (c : Vc) (x : Vt) (B : Option Addr) (n d : Nat) (ps : List Pc) (w : World) (h : Vx w c x) (hp : Args w x.P B n ps) (hf : x.o.few 100000) (lp : (catP ps).length ≤ 1048576) :
    Calls Tryz.prog 70 #[.pointer (some ⟨c.v, 0, none⟩), .slice B n d] w fun e w' => ∃ F2 P2, e = .returned (.agg (bvs (x.o.val (hashT (catP ps)) 32)).toArray) ∧ Vq w c x w' ⟨F2, P2, x.o.nx (hashT (catP ps)), x.sl, x.cl⟩ := by
 obtain ⟨F, P, o, sl, cl⟩ := x
 cases o with
 | real f => exact h.wd.elim
 | dream ts =>
   refine (hash_ideal c.v c.m c.p F ts c.ms c.lim _ cl B n d ps w h.vs.b h.wd (hp.mono (fun i _ e => h.sub i e)) hf lp).mono ?_
   rintro e w' ⟨F2, rfl, q⟩
   exact ⟨F2, _, rfl, h.world q⟩
theorem key_v (c : Vc) (x : Vt) (s : ByteArray) (B : Option Addr) (n d : Nat) (ns : List Int) (w : World) (h : Vx w c x) (hn : ns.length = n) (hr : Row w B (ivs ns)) (hB : ∀ k, ab B = some k → k < w.heap.size) (hf : x.o.few 100000) (hs : s.size ≤ 100000) (hns : n ≤ 10000) :
    Calls Tryz.prog 126 #[.pointer (some ⟨c.v, 0, none⟩), .string s, .slice B n d] w fun e w' => ∃ F2 P2, e = .returned (.agg (bvs (x.o.val (derT c.ms (pur s ns)) 32)).toArray) ∧ Vq w c x w' ⟨F2, P2, x.o.nx (derT c.ms (pur s ns)), x.sl, x.cl⟩ := by
 obtain ⟨F, P, o, sl, cl⟩ := x
 cases o with
 | real f => exact h.wd.elim
 | dream ts =>
   refine (key_i c.v c.m c.p F ts c.ms c.lim _ cl s B n d ns w h.vs.b h.wd h.ne hn hr hB hf hs hns).mono ?_
   rintro e w' ⟨F2, rfl, q⟩
   exact ⟨F2, _, rfl, h.world q⟩
theorem Vx.sealed {w w2 : World} {c : Vc} {F P F2 : Nat → Prop} {o o2 : Ts} {sl sl2 : List (Pl × List UInt8)} {cl cl2 : Nat} {X : Option Addr} (h : Vx w c ⟨F, P, o, sl, cl⟩) (hmk : mkr o2 c.p = mkr o c.p)
    (hv : Vs (fun i => oth w F P i ∨ F2 i ∨ ab X = some i) w2 c.v c.m (mkr o c.p) c.ms c.lim sl2 cl2) (hd : Wd w2 c.b c.p F2 o2) (hf : ∀ i, F2 i → F i ∨ w.heap.size ≤ i) (hl : ∀ i, F2 i → i < w2.heap.size) (hx : ∀ i, ab X = some i → w.heap.size ≤ i ∧ ¬ F2 i) (k : Kp (uF F c.v c.m) w w2) :
    Vq w c ⟨F, P, o, sl, cl⟩ w2 ⟨F2, fun i => P i ∨ (w.heap.size ≤ i ∧ i < w2.heap.size ∧ ab X ≠ some i), o2, sl2, cl2⟩ := by
 have hs := k.size
 have h1 : c.v < w.heap.size := h.lt _ h.own.1
 have h2 : c.m < w.heap.size := h.lt _ h.own.2
 have hz : c.b ≤ w.heap.size := h.sz
 refine ⟨⟨?_, hd, fun i e => ?_, ⟨.inl h.own.1, .inl h.own.2⟩, ⟨fun e => (hf _ e).elim h.ne.1 (fun e => by omega), fun e => (hf _ e).elim h.ne.2 (fun e => by omega)⟩, fun i e => ?_, fun i e => ?_, by omega⟩, fun i e => ?_, k.mono (fun i _ e => ?_)⟩
 · show Vs _ w2 c.v c.m (mkr o2 c.p) c.ms c.lim sl2 cl2
   rw [hmk]
   refine hv.mono (fun i e => ?_)
   rcases e with e | ⟨e1, e2⟩
   · exact .inr (.inl e)
   · by_cases hl : i < w.heap.size
     · exact .inl (.inr ⟨hl, fun e => e2 (.inl e)⟩)
     · by_cases hX : ab X = some i
       · exact .inr (.inr hX)
       · exact absurd (.inr ⟨by omega, e1, hX⟩) e2
 · rcases hf i e with e3 | e3
   · exact .inl (h.sub i e3)
   · exact .inr ⟨e3, hl i e, fun e4 => (hx i e4).2 e⟩
 · rcases e with e | e
   · exact Nat.lt_of_lt_of_le (h.lt i e) hs
   · exact e.2.1
 · rcases e with e | e
   · exact h.ge i e
   · have := e.1; omega
 · rcases e with e | e
   · exact .inl e
   · exact .inr e.1
 · rcases e with e | e | e
   · exact h.sub i e
   · rw [e]; exact h.own.1
   · rw [e]; exact h.own.2
theorem Vx.olt {w : World} {c : Vc} {x : Vt} (h : Vx w c x) : ∀ k, oth w x.F x.P k → k < w.heap.size := fun k e => e.elim (fun e => h.lt k (h.sub k e)) (fun e => e.1)
theorem seal_v (c : Vc) (x : Vt) (key : List UInt8) (hk : key.length = 32) (e s : Int) (T : Option Addr) (nt ct' : Nat) (text : List UInt8) (B : Option Addr) (md d : Nat) (ps : List Pc) (w : World)
    (h : Vx w c x) (ht : Arg w x.P T nt ct' text) (hp : Args w x.P B md ps) (hf : x.o.few 100000) (lt : text.length ≤ 1048576) (lp : (catP ps).length ≤ 1048576) (hc : x.cl ≤ 1099511627776) (hr : refu c.lim e s = 0) :
    Calls Tryz.prog 113 #[.pointer (some ⟨c.v, 0, none⟩), .agg (bvs key).toArray, .int .i64 e, .int .i64 s, .slice T nt ct', .slice B md d] w fun r w' => ∃ F2 P2 X cX, r = .returned (.tuple #[.slice X (text.length + 16) cX, .int .i64 0]) ∧
     Vq w c x w' ⟨F2, P2, x.o.nx (sealT key (nonce e s) (catP ps) text), upd x.sl (pl key (nonce e s) hk (nonce_length e s)) text, x.cl + clash dift x.sl (pl key (nonce e s) hk (nonce_length e s)) text⟩ ∧ Ans w w' P2 X cX (x.o.val (sealT key (nonce e s) (catP ps) text) (text.length + 16)) := by
 obtain ⟨F, P, o, sl, cl⟩ := x
 cases o with
 | real f => exact h.wd.elim
 | dream ts =>
   refine (seal_yesG dift (fun _ => True) note_any c.v c.m c.p F ts c.ms c.lim sl cl (oth w F P) key hk e s T nt ct' text B md d ps w h.vs h.olt (fun k e => .inl e) h.wd h.ne (ht.mono (fun i _ e => ?_)) (hp.mono (fun i _ e => ?_)) hf lt lp hc hr (fun _ _ => trivial)).mono ?_
   · rcases e with e | e | e
     · exact h.sub i e
     · rw [e]; exact h.own.1
     · rw [e]; exact h.own.2
   · rcases e with e | e | e
     · exact h.sub i e
     · rw [e]; exact h.own.1
     · rw [e]; exact h.own.2
   rintro r w' ⟨F2, X, cX, rfl, q⟩
   refine ⟨F2, _, X, cX, rfl, Vx.sealed (X := X) h rfl q.vs q.iw q.f (Iw.lt q.iw) (fun i e => ⟨(q.x.far i e).1, fun e2 => (q.x.far i e).2 (.inl e2)⟩) q.kp, ⟨q.x.row, fun i e => ⟨(q.x.far i e).1, ?_⟩, q.x.cap, q.x.mx, q.x.nil⟩⟩
   intro e2
   rcases e2 with e2 | e2
   · have := h.lt i e2; have := (q.x.far i e).1; simp only at *; omega
   · exact e2.2.2 e
theorem seal_vno (c : Vc) (x : Vt) (key : List UInt8) (e s : Int) (T B : Value) (w : World) (h : Vx w c x) (hr : refu c.lim e s ≠ 0) :
    Calls Tryz.prog 113 #[.pointer (some ⟨c.v, 0, none⟩), .agg (bvs key).toArray, .int .i64 e, .int .i64 s, T, B] w fun r w' => r = .returned (.tuple #[.slice none 0 0, .int .i64 (refu c.lim e s)]) ∧ Kp nob w w' :=
 seal_no c.v c.m (mkr x.o c.p) c.ms c.lim _ x.cl _ e s T B w key rfl h.vs.b hr
theorem open_v (c : Vc) (x : Vt) (key : List UInt8) (hk : key.length = 32) (e s : Int) (T : Option Addr) (nt ct' : Nat) (b text : List UInt8) (B : Option Addr) (md d : Nat) (ps : List Pc) (w : World)
    (h : Vx w c x) (ht : Arg w x.P T nt ct' b) (hp : Args w x.P B md ps) (hf : x.o.few 100000) (lt : text.length ≤ 1048576) (lp : (catP ps).length ≤ 1048576) (hr : refu c.lim e s = 0)
    (hb : b = x.o.val (sealT key (nonce e s) (catP ps) text) (text.length + 16)) (hh : x.o.has (sealT key (nonce e s) (catP ps) text)) :
    Calls Tryz.prog 108 #[.pointer (some ⟨c.v, 0, none⟩), .agg (bvs key).toArray, .int .i64 e, .int .i64 s, .slice T nt ct', .slice B md d] w fun r w' => ∃ X cX, r = .returned (.tuple #[.slice X text.length cX, .int .i64 0]) ∧ Row w' X (bvs text) ∧ Kp nob w w' ∧ ∀ k, ab X = some k → w.heap.size ≤ k := by
 obtain ⟨F, P, o, sl, cl⟩ := x
 cases o with
 | real f => exact h.wd.elim
 | dream ts =>
   have hf : ts.length ≤ 100000 := hf
   have hbl : b.length = text.length + 16 := by rw [hb]; exact Ideal.out_length _ _ _ (by omega)
   refine (open_yes _ c.v c.m c.p F ts c.ms c.lim sl cl key hk e s T nt ct' b B md d ps w h.vs h.wd (ht.mono (fun i _ e => h.sub i e)) (hp.mono (fun i _ e => h.sub i e)) hf (by omega) lp hr).mono ?_
   rintro r w' ⟨X, cX, rfl, k, hrow, hx⟩
   have ho : opn ts key (nonce e s) (catP ps) b = some text := by rw [hb]; exact Ideal.opn_has ts key (nonce e s) (catP ps) text (by omega) hh
   rw [ho] at hrow ⊢
   exact ⟨X, cX, rfl, hrow, k, hx⟩
end Vault
namespace Vault
open Go Go.RowKit Kit
open Ideal (Iw Iq Ans Arg Args Thing mk out sealT opn derT hashT z32 Ts)
open Sha (Pc PcsOk catP)
theorem Vq.refl {w : World} {c : Vc} {x : Vt} (h : Vx w c x) : Vq w c x w x := ⟨h, fun i e => .inl e, Kp.refl _ _⟩
theorem Vq.back {w w1 w2 : World} {c : Vc} {x x2 : Vt} (h : Vq w1 c x w2 x2) (k : Kp nob w w1) : Vq w c x w2 x2 :=
 ⟨h.now, fun i e => (h.P i e).elim .inl (fun e => .inr (by have := k.size; omega)), (k.nob x.P).trans h.kp (fun i e => .inl e)⟩
theorem Vq.over {w w2 w3 : World} {c : Vc} {x x2 : Vt} {H : Nat → Prop} (h : Vq w c x w2 x2) (k : Kp H w2 w3) (hH : ∀ i, i < w2.heap.size → H i → w.heap.size ≤ i ∧ ¬ x2.P i) (hb : c.b ≤ w.heap.size) : Vq w c x w3 x2 :=
 ⟨h.now.keep k (fun i l e => ⟨by have := (hH i l e).1; omega, (hH i l e).2⟩), h.P, h.kp.trans (Kp.low k) (fun i e => .inr (hH i e.1 e.2).1)⟩
theorem Vq.over0 {w w2 w3 : World} {c : Vc} {x x2 : Vt} (h : Vq w c x w2 x2) (k : Kp nob w2 w3) : Vq w c x w3 x2 := ⟨h.now.keep0 k, h.P, h.kp.trans k (fun i e => e.elim)⟩
theorem Vq.trans {w w2 w3 : World} {c : Vc} {x x2 x3 : Vt} (h : Vq w c x w2 x2) (g : Vq w2 c x2 w3 x3) : Vq w c x w3 x3 :=
 ⟨g.now, fun i e => (g.P i e).elim (h.P i) (fun e => .inr (by have := h.kp.size; omega)), h.kp.trans g.kp (fun i e => h.P i e)⟩
theorem Vx.keepD {w w2 : World} {c : Vc} {x : Vt} {H : Nat → Prop} (h : Vx w c x) (ho : ∃ ts, x.o = .dream ts) (k : Kp H w w2) (hH : ∀ i, i < w.heap.size → H i → ¬ x.P i) : Vx w2 c x := by
 have hv : ¬ H c.v := fun e => hH _ (h.lt _ h.own.1) e h.own.1
 have hm : ¬ H c.m := fun e => hH _ (h.lt _ h.own.2) e h.own.2
 have hs := k.size
 refine ⟨h.vs.turnG k (fun i l e => .inr ⟨l, hH i l e⟩) hv hm (fun i e => ?_), ?_, h.sub, h.own, h.ne, fun i e => Nat.lt_of_lt_of_le (h.lt i e) hs, h.ge, Nat.le_trans h.sz hs⟩
 · rcases e with e | ⟨e1, e2⟩
   · exact .inl (.inl e)
   · by_cases hl : i < w.heap.size
     · exact .inl (.inr ⟨hl, e2⟩)
     · exact .inr (by omega)
 · obtain ⟨ts, ho⟩ := ho
   have hw := h.wd
   rw [ho] at hw ⊢
   exact Iw.keep (show Iw w c.p x.F ts from hw) (Kp.low k) (fun i e e2 => hH i e2.1 e2.2 (h.sub i e))
theorem Vq.new {w w1 w2 : World} {c : Vc} {x x2 : Vt} (h : Vq w1 c x w2 x2) (hx : Vx w c x) {i : Nat} (h1 : w.heap.size ≤ i) (h2 : i < w1.heap.size) : ¬ x2.P i := fun e =>
 (h.P i e).elim (fun e => by have := hx.lt i e; omega) (fun e => by omega)
theorem Vq.old {w w2 : World} {c : Vc} {x x2 : Vt} (h : Vq w c x w2 x2) {i : Nat} (h1 : ¬ x.P i) (h2 : i < w.heap.size) : ¬ x2.P i := fun e =>
 (h.P i e).elim h1 (fun e => by omega)
theorem Vq.blk {w w2 : World} {c : Vc} {x x2 : Vt} (h : Vq w c x w2 x2) {g : Nat} {t : TypeId} {cs : List Value} (hb : Blk w g t cs) (hg : ¬ x.P g) : Blk w2 g t cs := hb.keep h.kp hg
theorem Vq.arg {w w2 : World} {c : Vc} {x x2 : Vt} (h : Vq w c x w2 x2) {A : Option Addr} {n d : Nat} {l : List UInt8} (ha : Arg w x.P A n d l) : Arg w2 x2.P A n d l :=
 ⟨ha.len, by
  rcases ha.far with e | e
  · rw [e]; exact Row.nil _ _
  · exact ha.row.keep h.kp e, by
  by_cases e : l = []
  · exact .inl e
  · exact .inr (fun i hi hp => (h.P i hp).elim (ha.far.resolve_left e i hi) (fun hl => by have := ha.row.lt (by simpa [bvs] using e) i hi; omega)), ha.cap, ha.mx, ha.nil⟩
theorem ans_arg {w w2 : World} {P : Nat → Prop} {A : Option Addr} {d : Nat} {l : List UInt8} (h : Ans w w2 P A d l) : Arg w2 P A l.length d l := ⟨rfl, h.row, .inr (fun i hi => (h.far i hi).2), h.cap, h.mx, h.nil⟩
theorem vx_ideal {w w1 w2 : World} {v m p : Nat} {F : Nat → Prop} {ms : List UInt8} {lim : Nat} (hq : Iq w nob w1 p F []) (hv : Vb w2 v m (imk p) ms lim [] 0) (k2 : Kp nob w1 w2) (n1 : w1.heap.size ≤ v) (n2 : w1.heap.size ≤ m) :
    Vx w2 ⟨v, m, p, ms, lim, w.heap.size⟩ ⟨F, fun i => F i ∨ i = v ∨ i = m, .dream [], [], 0⟩ := by
 have hs1 := hq.k.size
 have hs2 := k2.size
 have hF := Iw.lt hq.i
 refine ⟨vs_new hv, Iw.keep hq.i k2 (fun _ _ e => e), fun i e => .inl e, ⟨.inr (.inl rfl), .inr (.inr rfl)⟩, ⟨fun e => by have := hF _ e; simp only at *; omega, fun e => by have := hF _ e; simp only at *; omega⟩, fun i e => ?_, fun i e => ?_, by simp only; omega⟩
 · rcases e with e | rfl | rfl
   · have := hF _ e; omega
   · exact hv.b.lt
   · exact hv.s.lt
 · rcases e with e | rfl | rfl
   · exact (hq.f i e).elim (fun e => e.elim) (fun e => e)
   · simp only; omega
   · simp only; omega
end Vault
end Go.Proofs.YtigdlnfgdjfdoaaGreat
