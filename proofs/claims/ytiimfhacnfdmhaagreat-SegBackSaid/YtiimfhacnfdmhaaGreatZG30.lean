/- Lemmas: MerC SegW SegX SegPs SegM SegRd. -/
import Derived.Test.YtiimfhacnfdmhaaGreatZG29b
import Derived.Laws.MakeOwn
set_option linter.unusedVariables false
set_option linter.unusedSimpArgs false
namespace Go.Proofs.YtiimfhacnfdmhaaGreat.Merkle
open Go Go.RowKit Kit
open Ideal (Iw Iq Ans Arg Args Thing mk out sealT opn derT hashT Ts half half_pow half_pos half_lt leafT pairT rootT rootT_none rootT_one rootT_more rootT_few1 rootT_length rootT_sub zc zc_run zc_length zc_eq args_one)
open Sha (Pc PcsOk catP)
open Vault
theorem dig_under : Tryz.prog.underlying 89 = some (.slice 32) := by kernel_rfl
theorem dig_sizeOf (w : World) : (sizeOf 32).run Tryz.prog w = .ok 32 w := by kernel_rfl
theorem wpList_load_rng {P : Program} {ops : Array Oper} {rest : List Oper} {op : Oper} {a : Act} {w : World} {Q : Exit → Act → World → Prop} (ty : TypeId) (x : Operand) (ho : op.op = .load ty x)
    (hw : Region.wanted op (yielded ops a.tmps) = true)
    (g o : Nat) (cs : List Value) (hB : w.rangeAt g o cs) (hx : a.eval x = .pointer (some ⟨g, o, none⟩)) (d : TypeDesc) (hu : P.underlying ty = some d) (hd : d.isRow = true) (hi : (P.info? ty).map (·.size) = some cs.length)
    (h : wpList P ops Q rest (a.put op.dst (.agg cs.toArray)) w) : wpList P ops Q (op :: rest) a w :=
  wpList_step fun K hK => by
    rw [if_pos hw]
    exact wp_load_mid ty x ho g o hx cs d hB hu hd hi (hK _ _ h)
structure Digs (w : World) (P : Nat → Prop) (A : Option Addr) (n d : Nat) (ls : List (List UInt8)) : Prop where
  len : ls.length = n
  row : Lrow w A ls
  l32 : ∀ e ∈ ls, e.length = 32
  far : ls = [] ∨ ∀ i, ab A = some i → ¬ P i
  cap : n ≤ d
  mx : d ≤ maxLen
theorem Digs.keep {w w2 : World} {P : Nat → Prop} {A : Option Addr} {n d : Nat} {ls : List (List UInt8)} (h : Digs w P A n d ls) (k : Kp P w w2) : Digs w2 P A n d ls := ⟨h.len, h.row.keep k h.far, h.l32, h.far, h.cap, h.mx⟩
theorem Digs.keep0 {w w2 : World} {P : Nat → Prop} {A : Option Addr} {n d : Nat} {ls : List (List UInt8)} (h : Digs w P A n d ls) (k : Kp nob w w2) : Digs w2 P A n d ls := ⟨h.len, h.row.keep0 k, h.l32, h.far, h.cap, h.mx⟩
theorem Digs.over {w : World} {P P2 : Nat → Prop} {A : Option Addr} {n d : Nat} {ls : List (List UInt8)} (h : Digs w P A n d ls) (hP : ∀ i, P2 i → P i ∨ w.heap.size ≤ i) : Digs w P2 A n d ls :=
  ⟨h.len, h.row, h.l32, by
    by_cases e : ls = []
    · exact .inl e
    · exact .inr (fun i hi hp => (hP i hp).elim (h.far.resolve_left e i hi) (fun hl => by have := h.row.lt h.l32 e i hi; omega)), h.cap, h.mx⟩
theorem Digs.take {w : World} {P : Nat → Prop} {A : Option Addr} {n d : Nat} {ls : List (List UInt8)} (h : Digs w P A n d ls) (k : Nat) (hk : k ≤ n) : Digs w P A k d (ls.take k) :=
  ⟨by rw [List.length_take, h.len]; omega, h.row.take h.l32 k, fun e he => h.l32 e (List.mem_of_mem_take he), h.far.imp (fun e => by rw [e]; simp) id, by have := h.cap; omega, h.mx⟩
theorem Digs.drop {w : World} {P : Nat → Prop} {A : Option Addr} {n d : Nat} {ls : List (List UInt8)} (h : Digs w P A n d ls) (k : Nat) : Digs w P (cutK A d k 32) (n - k) (d - k) (ls.drop k) :=
  ⟨by rw [List.length_drop, h.len], h.row.drop h.l32 d k (by rw [h.len]; exact h.cap), fun e he => h.l32 e (List.mem_of_mem_drop he), h.far.imp (fun e => by rw [e]; simp) (fun e i hi => e i (by rw [ab_cutK] at hi; exact hi)), by have := h.cap; omega, by have := h.mx; omega⟩
theorem Digs.call [Inhabited Sha.ShaTab] [Inhabited Field.SqTab] {w w2 : World} {c : Vc} {x x2 : Vt} {A : Option Addr} {n d : Nat} {ls : List (List UInt8)} (h : Digs w x.P A n d ls) (q : Vq w c x w2 x2) : Digs w2 x2.P A n d ls := ⟨h.len, h.row.keep q.kp h.far, h.l32, (h.over q.P).far, h.cap, h.mx⟩
def RootC [Inhabited Sha.ShaTab] [Inhabited Field.SqTab] (c : Vc) (N : Nat) : Prop := ∀ (ls : List (List UInt8)) (A : Option Addr) (n d : Nat) (x : Vt) (w : World) (k : Nat), n ≤ N → Vx w c x → Digs w x.P A n d ls → n ≤ 65536 → x.o.few (k + 1) → k + n ≤ 99999 → x.o.long →
  Calls Tryz.prog 81 #[.pointer (some ⟨c.v, 0, none⟩), .slice A n d] w fun e w' => ∃ F2 P2, e = .returned (.agg (bvs (rootT x.o ls).1).toArray) ∧ Vq w c x w' ⟨F2, P2, (rootT x.o ls).2, x.sl, x.cl⟩
set_option maxHeartbeats 2000000 in
set_option maxRecDepth 100000 in
theorem root_none [Inhabited Sha.ShaTab] [Inhabited Field.SqTab] (c : Vc) (A : Option Addr) (d : Nat) (x : Vt) (w : World) (h : Vx w c x) (hf : x.o.few 100000) (hlong : x.o.long) :
    Calls Tryz.prog 81 #[.pointer (some ⟨c.v, 0, none⟩), .slice A 0 d] w fun e w' => ∃ F2 P2, e = .returned (.agg (bvs (rootT x.o []).1).toArray) ∧ Vq w c x w' ⟨F2, P2, (rootT x.o []).2, x.sl, x.cl⟩ := by
  rw [rootT_none]
  have hz := zc_run
  have k0 : Kp nob w ((w.alloc (.cells zc.toArray 32)).alloc (.cells #[.int .u8 48] 5)) := ((Kp.refl nob w).alloc _).alloc _
  have a1 : Arg ((w.alloc (.cells zc.toArray 32)).alloc (.cells #[.int .u8 48] 5)) x.P (some ⟨w.heap.size + 1, 0, none⟩) 1 1 [48] := by
    have := one_arg (w.alloc (.cells zc.toArray 32)) x.P 48 5 (fun k e => by have := h.lt k e; simp; omega)
    simpa using this
  have HA : Hid (Args (((w.alloc (.cells zc.toArray 32)).alloc (.cells #[.int .u8 48] 5)).alloc (.cells #[.slice (some ⟨w.heap.size + 1, 0, none⟩) 1 1] 42)) x.P (some ⟨w.heap.size + 1 + 1, 0, none⟩) 1 [⟨some ⟨w.heap.size + 1, 0, none⟩, 1, 1, [48]⟩]) := Lib.hid (by
    have := args_one (t := 42) a1 (fun k e => by have := h.lt k e; simp; omega)
    simpa using this)
  have HK := Lib.hid (k0.alloc (.cells #[.slice (some ⟨w.heap.size + 1, 0, none⟩) 1 1] 42))
  have HB := Lib.hid ((((Blk.new w 32 zc).alloc (.cells #[.int .u8 48] 5)).alloc (.cells #[.slice (some ⟨w.heap.size + 1, 0, none⟩) 1 1] 42)))
  have HH := Lib.hid (hash_v c x _ 1 1 _ _ (h.keep0 HK.out) HA.out hf (by simp [catP]))
  have HCP : Hid (catP [⟨some ⟨w.heap.size + 1, 0, none⟩, 1, 1, [48]⟩] = [48]) := Lib.hid (by simp [catP])
  rw [HCP.out] at HH
  have HL := Lib.hid (hlong.len (hashT [48]) (.inl rfl))
  have HX := Lib.hid h
  clear h hf hlong k0 a1
  obtain ⟨D, hD⟩ : ∃ D, D = x.o.val (hashT [48]) 32 := ⟨_, rfl⟩
  obtain ⟨O, hO⟩ : ∃ O, O = x.o.nx (hashT [48]) := ⟨_, rfl⟩
  rw [← hD] at HH HL ⊢
  rw [← hO] at HH ⊢
  clear hD hO HCP HA
  go_enter Tryz.func81, Tryz.ntmps81
  go_wp2_with fail
  refine HH.out.mono ?_
  rintro e w2 ⟨F2, P2, rfl, q⟩
  have HN := Lib.hid (q.new HX.out (i := w.heap.size) (Nat.le_refl _) (by simp <;> omega))
  have HB2 := Lib.hid (HB.out.keep q.kp (fun e => by have := HX.out.lt _ e; omega))
  have HQ := Lib.hid (q.back HK.out)
  clear q
  go_wp2_with (first
    | (refine wpList_store_blk rfl 32 (.tmp 4) (.tmp 13) rfl _ _ _ (bvs D) HB2.out rfl rfl (by rw [bvs_length, HL.out, zc_length]) (by rw [bvs_length, HL.out]; kernel_rfl) (bvs_one _) ?_; intro w3 hB3 k3 z3)
    | fail)
  exact bodyPost_ret (results_cell_row rfl _ _ w.heap.size _ _ _ _ rfl hB3 rarr_under rfl (by rw [List.size_toArray]; exact rarr_size D HL.out)) rfl
    ⟨F2, P2, rfl, HQ.out.over k3 (fun i _ e => by have e : i = w.heap.size := e; subst e; exact ⟨Nat.le_refl _, HN.out⟩) HX.out.sz⟩
set_option maxHeartbeats 2000000 in
set_option maxRecDepth 100000 in
theorem root_one [Inhabited Sha.ShaTab] [Inhabited Field.SqTab] (c : Vc) (A : Option Addr) (d : Nat) (l : List UInt8) (x : Vt) (w : World) (h : Vx w c x) (hd : Digs w x.P A 1 d [l]) :
    Calls Tryz.prog 81 #[.pointer (some ⟨c.v, 0, none⟩), .slice A 1 d] w fun e w' => ∃ F2 P2, e = .returned (.agg (bvs (rootT x.o [l]).1).toArray) ∧ Vq w c x w' ⟨F2, P2, (rootT x.o [l]).2, x.sl, x.cl⟩ := by
  rw [rootT_one]
  have hz := zc_run
  have HB := Lib.hid (Blk.new w 32 zc)
  have hl : l.length = 32 := hd.l32 l (by simp)
  obtain ⟨bb, oo, rfl, hc⟩ := (hd.keep0 ((Kp.refl nob w).alloc (.cells zc.toArray 32))).row.rng hd.l32 (i := 0) (by simp)
  have HC : Hid ((w.alloc (.cells zc.toArray 32)).rangeAt bb oo (bvs l)) := Lib.hid (by simpa using hc)
  have HL := Lib.hid hl
  have HX := Lib.hid h
  clear h hd hc hl
  go_enter Tryz.func81, Tryz.ntmps81
  go_wp2_with (first
    | (refine wpList_load_rng 32 (.tmp 17) rfl rfl bb oo (bvs l) HC.out rfl _ rarr_under rfl (rarr_size l HL.out) ?_)
    | (refine wpList_store_blk rfl 32 (.tmp 4) (.tmp 18) rfl _ _ _ (bvs l) HB.out rfl rfl (by rw [bvs_length, HL.out, zc_length]) (by rw [bvs_length, HL.out]; kernel_rfl) (bvs_one _) ?_; intro w3 hB3 k3 z3)
    | fail)
  exact bodyPost_ret (results_cell_row rfl _ _ w.heap.size _ _ _ _ rfl hB3 rarr_under rfl (by rw [List.size_toArray]; exact rarr_size l HL.out)) rfl
    ⟨x.F, x.P, rfl, (Vq.refl HX.out).over0 (((Kp.refl nob w).alloc _).since k3 (fun i e => by have e : i = w.heap.size := e; omega))⟩
set_option maxHeartbeats 4000000 in
set_option maxRecDepth 100000 in
theorem root_more [Inhabited Sha.ShaTab] [Inhabited Field.SqTab] (c : Vc) (N : Nat) (ih : RootC c N) (ls : List (List UInt8)) (A : Option Addr) (n d : Nat) (x : Vt) (w : World) (k : Nat) (hN : n ≤ N + 1) (h2 : 2 ≤ n) (h : Vx w c x) (hd : Digs w x.P A n d ls) (hn : n ≤ 65536) (hf : x.o.few (k + 1)) (hk : k + n ≤ 99999) (hlong : x.o.long) :
    Calls Tryz.prog 81 #[.pointer (some ⟨c.v, 0, none⟩), .slice A n d] w fun e w' => ∃ F2 P2, e = .returned (.agg (bvs (rootT x.o ls).1).toArray) ∧ Vq w c x w' ⟨F2, P2, (rootT x.o ls).2, x.sl, x.cl⟩ := by
  have hlen := hd.len
  have hcap := hd.cap
  have hp := half_pos n
  have hlt := half_lt n h2
  obtain ⟨X, hX⟩ : ∃ X, rootT x.o (ls.take (half ls.length)) = X := ⟨_, rfl⟩
  obtain ⟨Y, hY⟩ : ∃ Y, rootT X.2 (ls.drop (half ls.length)) = Y := ⟨_, rfl⟩
  rw [rootT_more x.o ls (by omega) X Y hX hY]
  rw [hlen] at hX hY
  have t1 : (ls.take (half n)).length = half n := by rw [List.length_take]; omega
  have t2 : (ls.drop (half n)).length = n - half n := by rw [List.length_drop]; omega
  have n1 : ls.take (half n) ≠ [] := fun e => by rw [e] at t1; simp at t1; omega
  have n2 : ls.drop (half n) ≠ [] := fun e => by rw [e] at t2; simp at t2; omega
  have f1 : X.2.few (k + half n - 1 + 1) := by
    have := rootT_few1 x.o _ k n1 hf
    rw [hX, t1] at this
    exact this.mono (by omega)
  have f2 : Y.2.few 100000 := by
    have := rootT_few1 X.2 _ (k + half n - 1) n2 f1
    rw [hY, t2] at this
    exact this.mono (by omega)
  have g1 : X.2.long := by rw [← hX]; exact hlong.sub (rootT_sub _ _)
  have g2 : Y.2.long := by rw [← hY]; exact g1.sub (rootT_sub _ _)
  have l1 : X.1.length = 32 := by rw [← hX]; exact rootT_length _ _ hlong (fun e he => hd.l32 e (List.mem_of_mem_take he))
  have l2 : Y.1.length = 32 := by rw [← hY]; exact rootT_length _ _ g1 (fun e he => hd.l32 e (List.mem_of_mem_drop he))
  have HLL := Lib.hid (g2.len (pairT X.1 Y.1) (.inl rfl))
  obtain ⟨m, hm⟩ : ∃ m, m = half n := ⟨_, rfl⟩
  rw [← hm] at hX hY f1 hp hlt
  have hz := zc_run
  have k0 : Kp nob w ((w.alloc (.cells zc.toArray 32))) := (Kp.refl nob w).alloc _
  have k1 : Kp nob w ((w.alloc (.cells zc.toArray 32))).drew := k0.drew
  have HB := Lib.hid (show Blk (w.alloc (.cells zc.toArray 32)).drew w.heap.size 32 zc from (Blk.new w _ _).keep (Kp.refl nob _).drew (fun e => e))
  have hd1 := (hd.keep0 k1).take m (by omega)
  have H1 := ih (ls.take m) A m d x _ k (by omega) (h.keep0 k1) hd1 (by omega) hf (by omega) hlong
  rw [hX] at H1
  have HFH : Hid (∀ w, Calls Tryz.prog 101 #[.int .i64 n] w fun e w' => e = .returned (.int .i64 m) ∧ w' = w) := Lib.hid (fun w => by rw [hm]; exact firstHalf_any n w h2 hn)
  have HE := Lib.hid (And.intro (show (m : Int) ≤ n by omega) (show m ≤ n by omega))
  have c0 : ¬ ((n : Int) = 0) := by omega
  have c1 : ¬ ((n : Int) = 1) := by omega
  have HH1 := Lib.hid H1
  have HX := Lib.hid h; have HDG := Lib.hid hd; have HK1 := Lib.hid k1
  have HCAP := Lib.hid hcap
  have HR2 : Hid (∀ (x2 : Vt) (w2 : World), x2.o = X.2 → Vx w2 c x2 → Digs w2 x2.P (cutK A d m 32) (n - m) (d - m) (ls.drop m) → Calls Tryz.prog 81 #[.pointer (some ⟨c.v, 0, none⟩), .slice (cutK A d m 32) (n - m) (d - m)] w2 fun e w' => ∃ F2 P2, e = .returned (.agg (bvs Y.1).toArray) ∧ Vq w2 c x2 w' ⟨F2, P2, Y.2, x2.sl, x2.cl⟩) := Lib.hid (fun x2 w2 ho hv hg => by
    have := ih (ls.drop m) (cutK A d m 32) (n - m) (d - m) x2 w2 (k + m - 1) (by omega) hv hg (by omega) (by rw [ho]; exact f1) (by omega) (by rw [ho]; exact g1)
    rw [ho, hY] at this
    exact this)
  have HTW : Hid (∀ (x2 : Vt) (w2 : World), x2.o = Y.2 → Vx w2 c x2 → Calls Tryz.prog 102 #[.pointer (some ⟨c.v, 0, none⟩), .agg (bvs X.1).toArray, .agg (bvs Y.1).toArray] w2 fun e w' => ∃ F2 P2, e = .returned (.agg (bvs (Y.2.val (pairT X.1 Y.1) 32)).toArray) ∧ Vq w2 c x2 w' ⟨F2, P2, Y.2.nx (pairT X.1 Y.1), x2.sl, x2.cl⟩) := Lib.hid (fun x2 w2 ho hv => by
    have := two_v c x2 X.1 Y.1 w2 l1 l2 hv (by rw [ho]; exact f2) (by rw [ho]; exact g2)
    rw [ho] at this
    exact this)
  clear H1 hd1 h hd k0 k1 f1 f2 g1 g2 l1 l2 hX hY t1 t2 n1 n2 hf hlong ih hm hp hlt hlen hcap
  obtain ⟨D, hD⟩ : ∃ D, D = Y.2.val (pairT X.1 Y.1) 32 := ⟨_, rfl⟩
  obtain ⟨O, hO⟩ : ∃ O, O = Y.2.nx (pairT X.1 Y.1) := ⟨_, rfl⟩
  rw [← hD] at HLL HTW ⊢
  rw [← hO] at HTW ⊢
  clear hD hO
  go_enter Tryz.func81, Tryz.ntmps81
  go_wp2_with (first
    | (go_at_call 101; refine (HFH.out _).mono ?_; rintro e w' ⟨rfl, rfl⟩)
    | fail)
  obtain ⟨wb, hwb⟩ : ∃ wb, wb = w.alloc (.cells zc.toArray 32) := ⟨_, rfl⟩
  have hsz : wb.drew.heap.size = w.heap.size + 1 := by rw [hwb]; rw [show ∀ w : World, w.drew.heap.size = w.heap.size from fun _ => rfl]; simp
  rw [← hwb] at HB HK1 HH1 ⊢
  clear hwb
  refine reg_begin (fun _ => True) (by kernel_rfl) trivial (fun _ => ?_)
  refine reg_take (v := .pointer (some ⟨c.v, 0, none⟩)) 0 (some 22) rfl rfl (by kernel_rfl) (by kernel_rfl) (by kernel_rfl) (by rfl) trivial (fun w _ => by go_simp) ?_
  simp only [Act.put, List.setIfInBounds_toArray, List.set_cons_zero, List.set_cons_succ]
  refine reg_take (v := .pointer (some ⟨c.v, 0, none⟩)) 1 (some 23) rfl rfl (by kernel_rfl) (by kernel_rfl) (by kernel_rfl) (by rfl) trivial (fun w _ => by go_simp) ?_
  simp only [Act.put, List.setIfInBounds_toArray, List.set_cons_zero, List.set_cons_succ]
  refine reg_take (v := .slice A n d) 2 (some 24) rfl rfl (by kernel_rfl) (by kernel_rfl) (by kernel_rfl) (by rfl) trivial (fun w _ => by go_simp) ?_
  simp only [Act.put, List.setIfInBounds_toArray, List.set_cons_zero, List.set_cons_succ]
  refine reg_take (v := .int .i64 m) 3 (some 25) rfl rfl (by kernel_rfl) (by kernel_rfl) (by kernel_rfl) (by rfl) trivial (fun w _ => by go_simp) ?_
  simp only [Act.put, List.setIfInBounds_toArray, List.set_cons_zero, List.set_cons_succ]
  refine reg_take (v := .slice A m d) 4 (some 26) rfl rfl (by kernel_rfl) (by kernel_rfl) (by kernel_rfl) (by rfl) trivial (fun w _ => exec_toK 89 32 32 dig_under dig_sizeOf _ _ rfl A n d m rfl rfl HE.out.2 HCAP.out) ?_
  simp only [Act.put, List.setIfInBounds_toArray, List.set_cons_zero, List.set_cons_succ]
  refine reg_take (v := .pointer (some ⟨c.v, 0, none⟩)) 6 (some 28) rfl rfl (by kernel_rfl) (by kernel_rfl) (by kernel_rfl) (by rfl) trivial (fun w _ => by go_simp) ?_
  simp only [Act.put, List.setIfInBounds_toArray, List.set_cons_zero, List.set_cons_succ]
  refine reg_take (v := .slice A n d) 7 (some 29) rfl rfl (by kernel_rfl) (by kernel_rfl) (by kernel_rfl) (by rfl) trivial (fun w _ => by go_simp) ?_
  simp only [Act.put, List.setIfInBounds_toArray, List.set_cons_zero, List.set_cons_succ]
  refine reg_take (v := .int .i64 m) 8 (some 30) rfl rfl (by kernel_rfl) (by kernel_rfl) (by kernel_rfl) (by rfl) trivial (fun w _ => by go_simp) ?_
  simp only [Act.put, List.setIfInBounds_toArray, List.set_cons_zero, List.set_cons_succ]
  refine reg_take (v := .slice (cutK A d m 32) (n - m) (d - m)) 9 (some 31) rfl rfl (by kernel_rfl) (by kernel_rfl) (by kernel_rfl) (by rfl) trivial (fun w _ => exec_fromK 89 32 32 dig_under dig_sizeOf _ _ rfl A n d m rfl rfl HE.out.2) ?_
  simp only [Act.put, List.setIfInBounds_toArray, List.set_cons_zero, List.set_cons_succ]
  refine reg_call 5 (some 27) rfl rfl (by kernel_rfl) (by rfl) _ _ (exec_func 81 _ _ [.pointer (some ⟨c.v, 0, none⟩), .slice A m d] rfl (by kernel_rfl) rfl) ?_
  refine HH1.out.mono ?_
  rintro e w2 ⟨F2, P2, rfl, q⟩
  have HQ1 := Lib.hid (q.back HK1.out)
  have HB2 := Lib.hid (HB.out.keep q.kp (fun e => by have := HX.out.lt _ e; omega))
  have HDG2 := Lib.hid (((HDG.out.keep0 HK1.out).call q).drop m)
  have HV2 := Lib.hid q.now
  have HN2 := Lib.hid (q.new HX.out (i := w.heap.size) (Nat.le_refl _) (by omega))
  clear q HH1 HB HK1
  refine ⟨_, rfl, trivial, fun _ => ?_⟩
  simp only [Act.put, List.setIfInBounds_toArray, List.set_cons_zero, List.set_cons_succ]
  refine reg_call 10 (some 32) rfl rfl (by kernel_rfl) (by rfl) _ _ (exec_func 81 _ _ [.pointer (some ⟨c.v, 0, none⟩), .slice (cutK A d m 32) (n - m) (d - m)] rfl (by kernel_rfl) rfl) ?_
  refine (HR2.out _ _ rfl HV2.out HDG2.out).mono ?_
  rintro e w3 ⟨F3, P3, rfl, q⟩
  have HQ2 := Lib.hid (HQ1.out.trans q)
  have HB3 := Lib.hid (HB2.out.keep q.kp HN2.out)
  have HV3 := Lib.hid q.now
  have HN3 := Lib.hid (q.old HN2.out HB2.out.lt)
  clear q HR2 HB2 HV2 HN2 HQ1 HDG2 HDG
  refine ⟨_, rfl, trivial, fun _ => ?_⟩
  simp only [Act.put, List.setIfInBounds_toArray, List.set_cons_zero, List.set_cons_succ]
  refine reg_call 11 (some 33) rfl rfl (by kernel_rfl) (by rfl) _ _ (exec_func 102 _ _ [.pointer (some ⟨c.v, 0, none⟩), .agg (bvs X.1).toArray, .agg (bvs Y.1).toArray] rfl (by kernel_rfl) rfl) ?_
  refine (HTW.out _ _ rfl HV3.out).mono ?_
  rintro e w4 ⟨F4, P4, rfl, q⟩
  have HQ3 := Lib.hid (HQ2.out.trans q)
  have HB4 := Lib.hid (HB3.out.keep q.kp HN3.out)
  have HN4 := Lib.hid (q.old HN3.out HB3.out.lt)
  clear q HTW HB3 HV3 HN3 HQ2
  refine ⟨_, rfl, trivial, fun _ => ?_⟩
  simp only [Act.put, List.setIfInBounds_toArray, List.set_cons_zero, List.set_cons_succ]
  refine reg_store 12 none 32 (.tmp 4) (.tmp 33) rfl rfl rfl (by kernel_rfl) (by rfl) w.heap.size 32 zc (bvs D) HB4.out rfl rfl (by rw [bvs_length, HLL.out, zc_length]) (by rw [bvs_length, HLL.out]; kernel_rfl) (bvs_one _) ?_
  intro w5 hB5 k5 z5
  refine ⟨trivial, fun _ => ?_⟩
  simp only [Act.put, List.setIfInBounds_toArray, List.set_cons_zero, List.set_cons_succ]
  refine reg_end (by kernel_rfl) ?_
  have HB5 := Lib.hid hB5
  have HR : Hid (Vq w c x w5 ⟨F4, P4, O, x.sl, x.cl⟩) := Lib.hid (HQ3.out.over k5 (fun i _ e => by have e : i = w.heap.size := e; subst e; exact ⟨Nat.le_refl _, HN4.out⟩) HX.out.sz)
  clear hB5 k5 z5
  go_wp2
  exact bodyPost_ret (results_cell_row rfl _ _ w.heap.size _ _ _ _ rfl HB5.out rarr_under rfl (by rw [List.size_toArray]; exact rarr_size D HLL.out)) rfl (by first | exact ⟨F4, P4, rfl, HR.out⟩ | exact ⟨rfl, F4, P4, HR.out⟩)
theorem root_all [Inhabited Sha.ShaTab] [Inhabited Field.SqTab] (c : Vc) : ∀ N, RootC c N
  | 0 => fun ls A n d x w k hN h hd hn hf hk hl => by
    obtain rfl : n = 0 := by omega
    obtain rfl : ls = [] := List.eq_nil_of_length_eq_zero hd.len
    exact root_none c A d x w h (hf.mono (by omega)) hl
  | N + 1 => fun ls A n d x w k hN h hd hn hf hk hl => by
    have hlen := hd.len
    by_cases h2 : 2 ≤ n
    · exact root_more c N (root_all c N) ls A n d x w k hN h2 h hd hn hf hk hl
    · match ls, hd with
      | [], hd =>
        obtain rfl : n = 0 := by simpa using hlen.symm
        exact root_none c A d x w h (hf.mono (by omega)) hl
      | [l], hd =>
        obtain rfl : n = 1 := by simpa using hlen.symm
        exact root_one c A d l x w h hd
      | a :: b :: l, hd => exact absurd (show 2 ≤ n by rw [← hlen]; simp) h2
theorem root_v [Inhabited Sha.ShaTab] [Inhabited Field.SqTab] (c : Vc) (ls : List (List UInt8)) (A : Option Addr) (n d : Nat) (x : Vt) (w : World) (h : Vx w c x) (hd : Digs w x.P A n d ls) (hn : n ≤ 30000) (hf : x.o.few 60000) (hl : x.o.long) :
    Calls Tryz.prog 81 #[.pointer (some ⟨c.v, 0, none⟩), .slice A n d] w fun e w' => ∃ F2 P2, e = .returned (.agg (bvs (rootT x.o ls).1).toArray) ∧ Vq w c x w' ⟨F2, P2, (rootT x.o ls).2, x.sl, x.cl⟩ :=
  root_all c n ls A n d x w 60000 (Nat.le_refl _) h hd (by omega) (hf.mono (by omega)) (by omega) hl
end Go.Proofs.YtiimfhacnfdmhaaGreat.Merkle
namespace Go.Proofs.YtiimfhacnfdmhaaGreat.Seg
open Go Go.RowKit Kit
open Rec (Rec good ftot recB)
open Ideal (Ts Thing Ans Arg Args sealT derT hashT leafT rootT zc zc_run zc_length)
open Vault
open Merkle (Digs leaf_v root_v dig_under)
theorem run_dig0 (f : Fin 32 → UInt8) (w : World) : (Instr.buildSlice 89 1 #[(0, .agg (bvs (List.ofFn f)).toArray)]).run Tryz.prog w = .ok (.slice (some ⟨w.heap.size, 0, none⟩) 1 1) (w.alloc (.cells (bvs (List.ofFn f)).toArray 32)) := by kernel_rfl
theorem exec_dig1 {act : Act} {o : Oper} {w : World} (x : Operand) (s : List UInt8) (h : s.length = 32) (ho : o.op = .buildSlice 89 1 #[(0, x)]) (hx : act.eval x = .agg (bvs s).toArray) :
    (execOp act.eval o).run Tryz.prog w = .ok (.value (.slice (some ⟨w.heap.size, 0, none⟩) 1 1)) (w.alloc (.cells (bvs s).toArray 32)) := by
  obtain ⟨f, rfl⟩ := list_fn 32 s h
  have hr := run_dig0 f w
  unfold execOp
  simp only [ho, hx, Sem.run_bind, List.map_toArray, List.map_cons, List.map_nil, hr, Result.andThen_ok, Sem.run_pure]
theorem dig_info : (Tryz.prog.info? 32).map (fun i => (i.zero, i.size, i.bytes)) = some (some (.agg (bvs (List.replicate 32 0)).toArray), 32, 32) := by kernel_rfl
structure RL [Inhabited Sha.ShaTab] [Inhabited Field.SqTab] (w : World) (c : Vc) (x : Vt) (bs : List (List UInt8)) (k : Nat) (wr : World) (x2 : Vt) (Z : Option Addr) (cz : Nat) : Prop where
  q : Vq w c x wr x2
  o_ : x2.o = (lfA x.o (bs.take k)).1
  sl : x2.sl = x.sl
  cl : x2.cl = x.cl
  own : OwnK 32 32 wr Z k cz ((lfA x.o (bs.take k)).2.flatMap bvs)
  zf : ∀ i, ab Z = some i → w.heap.size < i ∧ ¬ x2.P i
  z : Blk wr w.heap.size 32 zc
  zn : ¬ x2.P w.heap.size
theorem RL.more [Inhabited Sha.ShaTab] [Inhabited Field.SqTab] {w wr w3 w4 w5 w6 : World} {c : Vc} {x x2 : Vt} {bs : List (List UInt8)} {k : Nat} {Z Z2 : Option Addr} {cz cz2 : Nat} {F2 P2 : Nat → Prop} (h : RL w c x bs k wr x2 Z cz) (hv : Vx w c x) (b : List UInt8) (hk : k < bs.length) (hb : b = bs[k])
    (k3 : Kp nob wr w3) (q4 : Vq w3 c x2 w4 ⟨F2, P2, x2.o.nx (leafT b), x2.sl, x2.cl⟩) (k5 : Kp nob w4 w5) (ho : OwnK 32 32 w6 Z2 (k + 1) cz2 ((lfA x.o (bs.take k)).2.flatMap bvs ++ bvs (x2.o.val (leafT b) 32))) (hg : Kp (rowF Z) w5 w6) (hz : ab Z2 = ab Z ∨ ab Z2 = some w5.heap.size) :
    RL w c x bs (k + 1) w6 ⟨F2, P2, x2.o.nx (leafT b), x2.sl, x2.cl⟩ Z2 cz2 := by
  subst hb
  have s1 := h.q.kp.size
  have s3 := k3.size
  have s4 := q4.kp.size
  have s5 := k5.size
  have hst := lfA_snoc x.o bs k hk
  have hzP : ∀ i, ab Z = some i → ¬ P2 i := fun i e => q4.old (h.zf i e).2 (by have := h.own.lt i e; omega)
  have hzl := h.z.lt
  refine ⟨(((h.q.over0 k3).trans q4).over0 k5).over hg (fun i _ e => ⟨by have := (h.zf i e).1; omega, hzP i e⟩) hv.sz, ?_, h.sl, h.cl, ?_, fun i e => ?_, ?_, q4.old h.zn (by omega)⟩
  · rw [hst]; unfold lf1; rw [← h.o_]
  · rw [hst]; unfold lf1; rw [← h.o_, List.flatMap_append]; simpa using ho
  · rcases hz with e2 | e2
    · rw [e2] at e; exact ⟨(h.zf i e).1, hzP i e⟩
    · rw [e2] at e; cases e
      exact ⟨by omega, fun e3 => by have := q4.now.lt _ e3; omega⟩
  · exact ((q4.blk (h.z.keep k3 (fun e => e)) h.zn).keep k5 (fun e => e)).keep hg (fun e => Nat.lt_irrefl _ (h.zf _ e).1)
set_option maxHeartbeats 2000000 in
set_option maxRecDepth 100000 in
theorem rootOf_c [Inhabited Sha.ShaTab] [Inhabited Field.SqTab] (c : Vc) (x : Vt) (A : Option Addr) (n d : Nat) (gs : List Pt) (w : World) (hx : Vx w c x) (hp : Parts w x.P A gs) (hl : gs.length = n) (hn : n ≤ 1000) (hf : x.o.few 50000) (hlong : x.o.long) (hb : ∀ g ∈ gs, g.b.length ≤ 1048000) :
    Calls Tryz.prog 54 #[.pointer (some ⟨c.v, 0, none⟩), .slice A n d] w fun r w' => ∃ F2 P2, r = .returned (.agg (bvs (rtA x.o (gs.map (·.b))).1).toArray) ∧ Vq w c x w' ⟨F2, P2, (rtA x.o (gs.map (·.b))).2, x.sl, x.cl⟩ := by
  have hz := zc_run
  have HX := Lib.hid hx
  have HP := Lib.hid hp
  have HL := Lib.hid hl
  have HF := Lib.hid (And.intro hf hlong)
  have HB := Lib.hid hb
  have HZ := Lib.hid (Blk.new w 32 zc)
  have HK := Lib.hid ((Kp.refl nob w).alloc (.cells zc.toArray 32))
  clear hx hp hl hf hlong hb
  obtain ⟨bs, hbs⟩ : ∃ bs, bs = gs.map (·.b) := ⟨_, rfl⟩
  have HBS := Lib.hid hbs
  rw [← hbs]
  clear hbs
  go_enter Tryz.func54, Tryz.ntmps54
  go_wp2
  go_loopw [5, 10] (fun ls i wr => ∃ k : Nat, k ≤ n ∧ i = .int .i64 k ∧ ∃ (x2 : Vt) (Z : Option Addr) (cz : Nat), ls = .slice Z k cz ∧ RL w c x bs k wr x2 Z cz)
    (fun _ i _ => n - (intOf i).toNat)
  case atStart =>
    refine ⟨0, Nat.zero_le _, rfl, x, none, 0, rfl, (Vq.refl HX.out).over0 HK.out, by rw [List.take_zero, lfA_nil], rfl, rfl, ?_, fun i h => (by cases h), HZ.out, fun e => (by have := HX.out.lt _ e; omega)⟩
    rw [List.take_zero, lfA_nil]
    exact OwnK.nil 32 32 _
  case round =>
    obtain ⟨k, hk, rfl, x2, Z, cz, rfl, hrl⟩ := hrel
    have hlen : bs.length = n := by rw [HBS.out, List.length_map, HL.out]
    have hfew : x2.o.few 52000 := by rw [hrl.o_]; exact (lfA_few x.o (bs.take k) 50000 HF.out.1).mono (by rw [List.length_take]; omega)
    have hlong : x2.o.long := by rw [hrl.o_]; exact HF.out.2.sub (lfA_from ..)
    have HFL := Lib.hid (And.intro hfew hlong)
    have HRL := Lib.hid hrl
    have HLEN := Lib.hid hlen
    clear hrl hfew hlong hlen
    by_cases hlt : k < n
    · have hk2 : k < gs.length := by rw [HL.out]; exact hlt
      have hpr := Parts.call HRL.out.q HP.out
      obtain ⟨bb, oo, rfl, hbb, hc0, hc1⟩ := hpr.at_ (i := k) hk2
      have harg := hpr.arg gs[k] (List.getElem_mem hk2)
      have hbl := HB.out gs[k] (List.getElem_mem hk2)
      have hbk : gs[k].b = bs[k]'(by rw [HLEN.out]; exact hlt) := by simp [HBS.out]
      obtain ⟨g, hg⟩ : ∃ g, g = gs[k] := ⟨_, rfl⟩
      rw [← hg] at hc0 hc1 harg hbl hbk
      have HG := Lib.hid (And.intro harg (And.intro hbl hbk))
      clear hg harg hbl hbk hpr
      have HKA := Lib.hid ((Kp.refl nob wr).alloc (.cells #[.int .i64 g.q, .slice g.X g.b.length g.c] 128))
      have HLF := Lib.hid (leaf_v c x2 g.X g.b.length g.c g.b (wr.alloc (.cells #[.int .i64 g.q, .slice g.X g.b.length g.c] 128)) (HRL.out.q.now.keep0 HKA.out) (HG.out.1.keep0 HKA.out) (HFL.out.1.mono (by omega)) HG.out.2.1 HFL.out.2)
      obtain ⟨D, hD⟩ : ∃ D, D = x2.o.val (leafT g.b) 32 := ⟨_, rfl⟩
      have hDl : D.length = 32 := by rw [hD]; exact HFL.out.2.len _ (.inl rfl)
      rw [← hD] at HLF
      have HD := Lib.hid (And.intro hDl hD)
      clear hD hDl
      go_wp2_with fail
      refine HLF.out.mono ?_
      rintro r w4 ⟨F2, P2, rfl, q4⟩
      have HQ4 := Lib.hid q4
      have hown : OwnK 32 32 (w4.alloc (.cells (bvs D).toArray 32)) Z k cz ((lfA x.o (bs.take k)).2.flatMap bvs) :=
        ((HRL.out.own.keep HKA.out (fun j _ e => e)).keep q4.kp (fun j e => (HRL.out.zf j e).2)).alloc _
      have HO := Lib.hid hown
      clear q4 hown HLF
      obtain ⟨i0, hi1, hi2, hi3, hi4⟩ := info_parts3 dig_info
      go_wp2_with (first
        | (refine wpList_gd (by rfl) (exec_dig1 (.tmp 18) D HD.out.1 rfl rfl) ?_)
        | (refine wpList_appKO_gd _ (.tmp 14) (.tmp 19) 89 rfl (by rfl) 32 (by decide) 32 i0 _ 32 dig_under hi1 hi2 hi3 hi4 (by simp [Value.cells, bvs]) Z k cz ((lfA x.o (bs.take k)).2.flatMap bvs) rfl HO.out (some ⟨w4.heap.size, 0, none⟩) 1 1 (bvs D) rfl (fun e => by cases e) (by rw [bvs_length, HD.out.1]) (row_new w4 (bvs D) _) (bvs_one _) (by omega) (by simp [maxLen]; omega) ?_
           intro Z2 cz2 w6 ho2 hg2 hz2)
        | fail)
      have hD2 := HD.out.2
      rw [hD2] at ho2
      have HNX := Lib.hid (HRL.out.more HX.out g.b (by rw [HLEN.out]; exact hlt) HG.out.2.2 HKA.out HQ4.out ((Kp.refl nob w4).alloc _) ho2 ((Kp.refl _ _).grown hg2 (fun j e => .inl e)) hz2)
      clear ho2 hg2 hz2 hD2
      go_wp2
      go_roundw
      case rel => exact ⟨k + 1, by omega, by go_num, _, Z2, cz2, rfl, HNX.out⟩
      case measure => simp [intOf]; omega
    · obtain rfl : k = n := by omega
      have hk3 : bs.take k = bs := List.take_of_length_le (by rw [HLEN.out]; exact Nat.le_refl _)
      have hdg : Digs wr x2.P Z k cz (lfA x.o bs).2 := by
        have ho := HRL.out.own
        rw [hk3] at ho
        exact ⟨by rw [lfA_length, HLEN.out], ho.row, lfA_32 _ _ HF.out.2, .inr (fun i e => (HRL.out.zf i e).2), ho.cap.1, ho.cap.2⟩
      have ho := HRL.out.o_
      rw [hk3] at ho
      have hroot := root_v c (lfA x.o bs).2 Z k cz x2 wr HRL.out.q.now hdg (by omega) (HFL.out.1.mono (by omega)) HFL.out.2
      rw [ho, ← rtA_eq, HRL.out.sl, HRL.out.cl] at hroot
      have HRT := Lib.hid hroot
      have hrl := rtA_length x.o bs HF.out.2
      obtain ⟨D, hD⟩ : ∃ D, D = (rtA x.o bs).1 := ⟨_, rfl⟩
      rw [← hD] at HRT hrl
      have HD := Lib.hid hrl
      have HDD := Lib.hid hD
      clear hdg ho hroot hrl hD hk3
      go_wp2_with fail
      refine HRT.out.mono ?_
      rintro r w2 ⟨F2, P2, rfl, q2⟩
      have HB2 := Lib.hid (q2.blk HRL.out.z HRL.out.zn)
      have HN := Lib.hid (q2.old HRL.out.zn HRL.out.z.lt)
      have HQ := Lib.hid (HRL.out.q.trans q2)
      clear q2
      go_wp2_with (first
        | (refine wpList_store_blk rfl 32 (.tmp 4) (.tmp 24) rfl _ _ _ (bvs D) HB2.out rfl rfl (by rw [bvs_length, HD.out, zc_length]) (rarr_size D HD.out) (bvs_one _) ?_; intro w3 hB3 k3 z3)
        | fail)
      exact bodyPost_ret (results_cell_row rfl _ _ w.heap.size _ _ _ _ rfl hB3 rarr_under rfl (by rw [List.size_toArray]; exact rarr_size D HD.out)) rfl
        ⟨F2, P2, by rw [← HDD.out], HQ.out.over k3 (fun i _ e => by have e : i = w.heap.size := e; subst e; exact ⟨Nat.le_refl _, HN.out⟩) HX.out.sz⟩
end Go.Proofs.YtiimfhacnfdmhaaGreat.Seg
namespace Go.Proofs.YtiimfhacnfdmhaaGreat.Seg
open Go Go.RowKit Kit
open Rec (Rec good ftot recB)
open Ideal (Ts Thing Ans Arg Args sealT derT hashT leafT rootT zc zc_run zc_length)
open Vault
open Merkle (arr_all)
def frK (T n : Nat) (gs : List Pt) (k : Nat) : List UInt8 := num8 T ++ num8 n ++ parB ((gs.take k).map Pt.two)
theorem frK_zero (T n : Nat) (gs : List Pt) : frK T n gs 0 = num8 T ++ num8 n := by unfold frK parB; simp
theorem frK_next (T n : Nat) (gs : List Pt) (k : Nat) (h : k < gs.length) : frK T n gs (k + 1) = frK T n gs k ++ num8 gs[k].q ++ textB (str gs[k].b) := by
  unfold frK
  have h2 := parB_snoc (gs.map Pt.two) k (by simpa using h)
  rw [← List.map_take, ← List.map_take] at h2
  rw [h2]
  simp [Pt.two, List.append_assoc]
theorem frK_le (T n : Nat) (gs : List Pt) (hb : ∀ g ∈ gs, g.b.length ≤ 1048000) (k : Nat) : (frK T n gs k).length ≤ 16 + k * 1048100 := by
  induction k with
  | zero => rw [frK_zero, List.length_append, num8_length, num8_length]; omega
  | succ k ih =>
    by_cases h : k < gs.length
    · rw [frK_next T n gs k h]
      have h1 := hb gs[k] (List.getElem_mem h)
      have h2 := textB_le (str gs[k].b)
      rw [str_size] at h2
      rw [List.length_append, List.length_append, num8_length]
      omega
    · have e : frK T n gs (k + 1) = frK T n gs k := by unfold frK; rw [List.take_of_length_le (by omega), List.take_of_length_le (by omega)]
      rw [e]; exact Nat.le_trans ih (Nat.add_le_add_left (Nat.mul_le_mul_right _ (Nat.le_succ k)) 16)
set_option maxHeartbeats 2000000 in
set_option maxRecDepth 100000 in
theorem written_c [Inhabited Sha.ShaTab] [Inhabited Field.SqTab] (c : Vc) (x : Vt) (T : Nat) (A : Option Addr) (n d : Nat) (gs : List Pt) (w : World) (hx : Vx w c x) (hp : Parts w x.P A gs) (hl : gs.length = n) (hn : n ≤ 1000) (hf : x.o.few 50000) (hlong : x.o.long) (hb : ∀ g ∈ gs, g.b.length ≤ 1048000) :
    Calls Tryz.prog 46 #[.pointer (some ⟨c.v, 0, none⟩), .int .i64 (T : Nat), .slice A n d] w fun r w' => ∃ F2 P2 X cX, r = .returned (.slice X (frB T (gs.map Pt.two) (rtA x.o (gs.map (·.b))).1).length cX) ∧
      Vq w c x w' ⟨F2, P2, (rtA x.o (gs.map (·.b))).2, x.sl, x.cl⟩ ∧ Ans w w' P2 X cX (frB T (gs.map Pt.two) (rtA x.o (gs.map (·.b))).1) := by
  have hz := zc_run
  have HX := Lib.hid hx
  have HP := Lib.hid hp
  have HL := Lib.hid hl
  have HF := Lib.hid (And.intro hf hlong)
  have HB := Lib.hid hb
  have HN := Lib.hid hn
  have HK := Lib.hid ((Kp.refl nob w).alloc (.cells #[.slice none 0 0] 71))
  have HW := Lib.hid (isW_new w)
  have HFK := Lib.hid (frK_le T n gs hb)
  clear hx hp hl hf hlong hb
  go_enter Tryz.func46, Tryz.ntmps46
  go_wp2_with fail
  have e1 : (w.alloc (.cells #[.slice none 0 0] 71)).heap.size = w.heap.size + 1 := by simp
  have hap := HW.out.apart
  have hrow := row_new (w.alloc (.cells #[.slice none 0 0] 71)) (ivs [(T : Int), (n : Int)]) 3
  rw [e1] at hap hrow
  refine (wNum w.heap.size none [] (some ⟨w.heap.size + 1, 0, none⟩) 2 2 [(T : Int), (n : Int)] _ (HW.out.alloc _) rfl hrow hap (by omega) (by simp)).mono ?_
  rintro r w2 ⟨rfl, Z0, h1, k2, g2⟩
  have e2 : ([] : List UInt8) ++ [(T : Int), (n : Int)].flatMap num8 = frK T n gs 0 := by rw [frK_zero]; simp
  rw [e2] at h1
  have HI := Lib.hid h1
  have HK2 : Hid (Kp nob w w2) := Lib.hid ((HK.out.alloc _).since k2 (fun i e => by
    rcases e with rfl | e
    · omega
    · cases e))
  have HG2 : Hid (∀ j, WF w.heap.size Z0 j → w.heap.size ≤ j) := Lib.hid (WF.ge (Nat.le_refl _) (fun k e => by
    rcases g2 with h | ⟨j, h, hj⟩
    · rw [h] at e; cases e
    · rw [h] at e; cases e; simp at hj; omega))
  clear h1 k2 g2 hap hrow e1 e2
  go_wp2
  go_loopw [18] (fun i wr => ∃ k : Nat, k ≤ n ∧ i = .int .i64 k ∧ ∃ (Z : Option Addr), IsW wr w.heap.size Z (frK T n gs k) ∧ Kp nob w wr ∧ ∀ j, WF w.heap.size Z j → w.heap.size ≤ j)
    (fun i _ => n - (intOf i).toNat)
  case atStart => exact ⟨0, Nat.zero_le _, rfl, Z0, HI.out, HK2.out, HG2.out⟩
  case round =>
    obtain ⟨k, hk, rfl, Z, hi, kr, hz⟩ := hrel
    by_cases hlt : k < n
    · have hk2 : k < gs.length := by rw [HL.out]; exact hlt
      have hpr := HP.out.keep0 kr
      obtain ⟨bb, oo, rfl, hbb, hc0, hc1⟩ := hpr.at_ (i := k) hk2
      have harg := hpr.arg gs[k] (List.getElem_mem hk2)
      have hbl := HB.out gs[k] (List.getElem_mem hk2)
      have hnx := frK_next T n gs k hk2
      have hfl := HFK.out k
      obtain ⟨g, hg⟩ : ∃ g, g = gs[k] := ⟨_, rfl⟩
      have hgm : g ∈ gs := by rw [hg]; exact List.getElem_mem hk2
      rw [← hg] at hc0 hc1 harg hbl hnx
      obtain ⟨F, hF⟩ : ∃ F, F = frK T n gs k := ⟨_, rfl⟩
      rw [← hF] at hnx hfl hi
      have HG := Lib.hid (And.intro hgm (And.intro hbl (And.intro hnx hfl)))
      have HI2 := Lib.hid hi
      have HKR := Lib.hid kr
      have HZ := Lib.hid hz
      have HBA := Lib.hid (Blk.new wr 128 [.int .i64 g.q, .slice g.X g.b.length g.c])
      have HKA := Lib.hid ((Kp.refl nob wr).alloc (.cells #[.int .i64 g.q, .slice g.X g.b.length g.c] 128))
      clear hg hgm harg hbl hnx hfl hi kr hz hpr hF
      go_wp2_with fail
      have hnn := HN.out
      have e1 : (wr.alloc (.cells #[.int .i64 g.q, .slice g.X g.b.length g.c] 128)).heap.size = wr.heap.size + 1 := by simp
      refine (wNum1 w.heap.size Z F g.q _ 3 _ e1 (HI2.out.keep HKA.out (fun _ _ e => e)) (by have := HG.out.2.2.2; omega)).mono ?_
      rintro r w3 ⟨rfl, Z3, h3, k3, g3⟩
      have HI3 := Lib.hid h3
      have HK3 : Hid (Kp nob w w3) := Lib.hid ((HKR.out.trans HKA.out (fun _ e => e.elim)).since k3 HZ.out)
      have hb3 : Blk w3 wr.heap.size 128 [.int .i64 g.q, .slice g.X g.b.length g.c] := HBA.out.keep k3 (fun e => by have := HI2.out.fLt _ e; omega)
      have hc3 : w3.cell? ⟨wr.heap.size, 1, none⟩ = some (.slice g.X g.b.length g.c) := hb3.cell 1
      have HZ3 : Hid (∀ j, WF w.heap.size Z3 j → w.heap.size ≤ j) := Lib.hid (WF.ge (Nat.le_refl _) (fun j e => by
        rcases g3 with h | ⟨j2, h, hj⟩
        · rw [h] at e; exact HZ.out j (.inr e)
        · rw [h] at e; cases e; have := HKR.out.size; have := HKA.out.size; omega))
      have harg3 : Arg w3 x.P g.X g.b.length g.c g.b := (HP.out.arg g HG.out.1).keep0 HK3.out
      have hcv := conv_row w3 g.X g.b.length g.c g.b rfl harg3.row
      clear h3 k3 g3 hb3 harg3
      go_wp2_with fail
      have htl := textB_le (str g.b)
      rw [str_size] at htl
      refine (wText w.heap.size Z3 (F ++ num8 g.q) (some ⟨w3.heap.size, 0, none⟩) 1 1 [str g.b] _ (HI3.out.alloc _) rfl (row_one w3 (.string (str g.b)) _) HI3.out.apart (by omega) (by have := HG.out.2.2.2; have := HG.out.2.1; simp; omega)).mono ?_
      rintro r w4 ⟨rfl, Z4, h4, k4, g4⟩
      have e4 : F ++ num8 g.q ++ [str g.b].flatMap textB = frK T n gs (k + 1) := by rw [HG.out.2.2.1]; simp
      rw [e4] at h4
      have HI4 := Lib.hid h4
      have HK4 : Hid (Kp nob w w4) := Lib.hid ((HK3.out.alloc _).since k4 HZ3.out)
      have HZ4 : Hid (∀ j, WF w.heap.size Z4 j → w.heap.size ≤ j) := Lib.hid (WF.ge (Nat.le_refl _) (fun j e => by
        rcases g4 with h | ⟨j2, h, hj⟩
        · rw [h] at e; exact HZ3.out j (.inr e)
        · rw [h] at e; cases e; have := HK3.out.size; simp at hj; omega))
      clear h4 k4 g4 e4 htl hcv hc3
      go_wp2
      go_roundw
      case rel => exact ⟨k + 1, by omega, by go_num, Z4, HI4.out, HK4.out, HZ4.out⟩
      case measure => simp [intOf]; omega
    · obtain rfl : k = n := by omega
      have hfr : ∀ rt, frK T k gs k ++ rt = frB T (gs.map Pt.two) rt := by
        intro rt
        unfold frK frB
        rw [List.take_of_length_le (by rw [HL.out]; exact Nat.le_refl _), List.length_map, HL.out]
      have HFR := Lib.hid hfr
      have hfl := HFK.out k
      have hro := rootOf_c c x A k d gs wr (HX.out.keep0 kr) (HP.out.keep0 kr) HL.out (by omega) HF.out.1 HF.out.2 HB.out
      have hrl := rtA_length x.o (gs.map (·.b)) HF.out.2
      obtain ⟨D, hD⟩ : ∃ D, D = rtA x.o (gs.map (·.b)) := ⟨_, rfl⟩
      rw [← hD] at hro hrl
      have HRO := Lib.hid hro
      have HD := Lib.hid (And.intro hD hrl)
      have HI2 := Lib.hid hi
      have HKR := Lib.hid kr
      have HZ2 := Lib.hid hz
      have HFL := Lib.hid hfl
      clear hfr hro hrl hD hi kr hz hfl
      go_wp2_with fail
      refine HRO.out.mono ?_
      rintro r w2 ⟨F2, P2, rfl, q2⟩
      have HQ2 := Lib.hid (q2.back HKR.out)
      have HI3 := Lib.hid (HI2.out.keep q2.kp (fun j e e2 => by have h1 := HZ2.out j e; have h2 := HX.out.lt j e2; omega))
      have HNP : Hid (∀ j, WF w.heap.size Z j → ¬ P2 j) := Lib.hid (fun j e e2 => (q2.P j e2).elim (fun e3 => by have h1 := HZ2.out j e; have h2 := HX.out.lt j e3; omega) (fun e3 => by have h1 := HI2.out.fLt j e; omega))
      have ha := arr_all w2.heap.size 0
      have HB5 := Lib.hid (Blk.new w2 32 zc)
      clear q2
      go_wp2_with (first
        | (refine wpList_store_blk rfl 32 (.tmp 10) (.tmp 34) rfl _ _ _ (bvs D.1) HB5.out rfl rfl (by rw [bvs_length, HD.out.2, zc_length]) (rarr_size D.1 HD.out.2) (bvs_one _) ?_; intro w3 hB3 k3 z3)
        | fail)
      have ka : Kp nob w2 (w2.alloc (.cells zc.toArray 32)) := (Kp.refl nob w2).alloc _
      have hI4 := (HI3.out.keep ka (fun _ _ e => e)).keep k3 (fun j e e2 => by have e2 : j = w2.heap.size := e2; have := HI3.out.fLt j e; omega)
      have hQ4 := (HQ2.out.over0 ka).over k3 (fun i _ e => by
        have e : i = w2.heap.size := e
        exact ⟨by have := HQ2.out.kp.size; omega, fun e2 => by have := HQ2.out.now.lt i e2; omega⟩) HX.out.sz
      have HI4 := Lib.hid hI4
      have HQ4 := Lib.hid hQ4
      have hrow : Row w3 (some ⟨w2.heap.size, 0, none⟩) (bvs D.1) := .inr ⟨w2.heap.size, 0, rfl, hB3.lt, fun i v hv => by rw [Nat.zero_add, hB3.cell]; exact hv⟩
      have HR3 := Lib.hid hrow
      have HS3 : Hid (w2.heap.size ≤ w3.heap.size) := Lib.hid (Nat.le_trans ka.size k3.size)
      clear hI4 hQ4 hrow hB3 k3 z3 ka
      go_wp2_with fail
      refine (wByte w.heap.size Z (frK T k gs k) (some ⟨w2.heap.size, 0, none⟩) 32 32 D.1 _ HI4.out (fun e => by cases e) HD.out.2 HR3.out (by have := HFL.out; omega)).mono ?_
      rintro r w4 ⟨rfl, Z4, h4, k4, g4⟩
      rw [HFR.out] at h4
      have hQ4 := HQ4.out.over k4 (fun i _ e => ⟨HZ2.out i e, HNP.out i e⟩) HX.out.sz
      have hlen : (frB T (gs.map Pt.two) D.1).length ≤ 1099511627776 := by rw [← HFR.out, List.length_append, HD.out.2]; have := HFL.out; omega
      have HI5 := Lib.hid h4
      have HQ5 := Lib.hid hQ4
      have HLEN := Lib.hid hlen
      have HS4 : Hid (w2.heap.size ≤ w4.heap.size) := Lib.hid (Nat.le_trans HS3.out k4.size)
      clear h4 k4 g4 hQ4 hlen
      go_wp2_with fail
      refine (wBytes w.heap.size Z4 _ _ HI5.out HLEN.out).mono ?_
      rintro r w5 ⟨X, cX, rfl, h5, h6, h7, h8⟩
      have hn5 : ∀ j, ab X = some j → w2.heap.size ≤ j := fun j e => Nat.le_trans HS4.out (h7 j e)
      have HFI : Hid (Vq w c x w5 ⟨F2, P2, D.2, x.sl, x.cl⟩ ∧ Ans w w5 P2 X cX (frB T (gs.map Pt.two) D.1)) := Lib.hid ⟨HQ5.out.over0 h6, h5.row, fun j e => ⟨by have h1 := hn5 j e; have h2 := HQ2.out.kp.size; omega, fun e2 => by have h1 := hn5 j e; have h2 := HQ2.out.now.lt j e2; omega⟩, h5.cap.1, h5.cap.2, h8⟩
      have HDD := Lib.hid HD.out.1
      clear h5 h6 h7 h8 hn5
      go_wp2
      go_ret
      refine ⟨F2, P2, X, cX, ?_, ?_, ?_⟩
      · rw [← HDD.out]; rfl
      · rw [← HDD.out]; exact HFI.out.1
      · rw [← HDD.out]; exact HFI.out.2
end Go.Proofs.YtiimfhacnfdmhaaGreat.Seg
namespace Go.Proofs.YtiimfhacnfdmhaaGreat.Seg
open Go Go.RowKit Kit
open Rec (Rec good ftot recB recB_length good_bounds)
open Ideal (Ts Thing sealT derT hashT leafT rootT)
open Vault (nonce pur)
theorem textB_length (l : List UInt8) (h : l.length < 16777216) : (textB (str l)).length = 3 + l.length := by
  unfold textB; rw [str_size, if_pos h, sl_str, List.length_append, le_length]
theorem fold_parts (ms : List UInt8) (e s : Int) (at' : List UInt8) (n : Nat) : ∀ (rs : List Rec) (q : Ts × List (Int × List UInt8)), q.1.long → (∀ r ∈ rs, good r = true) → (parB (rs.foldl (st1 ms e s at' n) q).2).length = (parB q.2).length + (ftot rs - 48)
  | [], q, h, hb => by simp [Rec.ftot_nil]
  | r :: rs, q, h, hb => by
    have h1 : (recB r).length = 36 + r.body.length := recB_length r (by have := good_bounds r (hb r (List.mem_cons_self)); omega)
    have hl := ((h.nx (keyT ms r.queue)).seal_ (q.1.val (keyT ms r.queue) 32) (nonce e (s + (q.2.length : Nat))) (besT at' q.2.length n) (recB r))
    have hf : ftot (r :: rs) = 63 + r.body.length + ftot rs := by simp [ftot]; omega
    have hg : 48 ≤ ftot rs := by unfold ftot; omega
    rw [List.foldl_cons, fold_parts ms e s at' n rs _ ((h.nx _).nx _) (fun x hx => hb x (by simp [hx])), hf]
    have : (parB (st1 ms e s at' n q r).2).length = (parB q.2).length + (63 + r.body.length) := by
      have hb1 := good_bounds r (hb r (List.mem_cons_self))
      unfold st1
      rw [parB_append, List.length_append]
      unfold parB
      simp only [List.flatMap_cons, List.flatMap_nil, List.append_nil, List.length_append, num8_length]
      unfold stT
      rw [textB_length _ (by rw [hl]; omega), hl, h1]; omega
    rw [this]; omega
theorem stA_parts (ms : List UInt8) (e s : Int) (at' : List UInt8) (n : Nat) (o : Ts) (rs : List Rec) (h : o.long) (hb : ∀ r ∈ rs, good r = true) : (parB (stA ms e s at' n o rs).2).length = ftot rs - 48 := by
  have := fold_parts ms e s at' n rs (o, []) h hb
  unfold stA
  rw [this]; unfold parB; simp
theorem lft_few (ms : List UInt8) (e s : Int) (at' : List UInt8) (o : Ts) (rs : List Rec) (k n : Nat) (h : o.few n) (hm : rs.length ≤ 1000) : (lft ms e s at' o rs k).few (n + 10000) := by
  unfold lft
  split
  · unfold end1
    have h1 := stA_few ms e s at' rs.length o (rs.take k) n h
    have h2 : (rs.take k).length ≤ rs.length := by rw [List.length_take]; omega
    split
    · exact (h1.nx _).mono (by omega)
    · exact h1.mono (by omega)
  · exact h.mono (by omega)
theorem lft_long (ms : List UInt8) (e s : Int) (at' : List UInt8) (o : Ts) (rs : List Rec) (k : Nat) (h : o.long) : (lft ms e s at' o rs k).long := by
  unfold lft
  split
  · unfold end1
    have h1 := h.sub (stA_from ms e s at' rs.length o (rs.take k))
    split
    · exact h1.nx _
    · exact h1
  · exact h
theorem pk_shape : PackS pk := by
  refine ⟨?err, ?begins, ?few, ?long, ?h32⟩
  case err =>
    intro o ms lim e s at' rs
    by_cases hn : rs = []
    · subst hn; rw [pk_nil]; rfl
    by_cases h : perrs lim e s 0 48 rs = 0
    · rw [pk_yes _ _ _ _ _ _ _ hn h, hdA_e, perr, if_neg hn, h]
    · rw [pk_no _ _ _ _ _ _ _ hn h, perr, if_neg hn]
  case begins =>
    intro o ms lim e s at' rs hl he
    by_cases hn : rs = []
    · subst hn; rw [pk_nil] at he; have he : (1 : Int) = 0 := he; omega
    by_cases h : perrs lim e s 0 48 rs = 0
    · have hp : perr lim e s rs = 0 := by rw [perr, if_neg hn]; exact h
      obtain ⟨_, hg, hft, _⟩ := perr_ok hp
      rw [pk_yes _ _ _ _ _ _ _ hn h, hdA_b]
      unfold frB
      refine ⟨num8 ((stA ms e s at' rs.length o rs).2.length : Nat) ++ parB (stA ms e s at' rs.length o rs).2 ++ (rtA (stA ms e s at' rs.length o rs).1 ((stA ms e s at' rs.length o rs).2.map (·.2))).1, by simp [List.append_assoc], ?_⟩
      have h1 := stA_parts ms e s at' rs.length o rs hl hg
      have h2 := rtA_length (stA ms e s at' rs.length o rs).1 ((stA ms e s at' rs.length o rs).2.map (·.2)) (hl.sub (stA_from ms e s at' rs.length o rs))
      have h3 : 48 ≤ ftot rs := by unfold ftot; omega
      simp only [List.length_append, num8_length, h1, h2]
      omega
    · rw [pk_no _ _ _ _ _ _ _ hn h] at he
      exact absurd he h
  case few =>
    intro o ms lim e s at' rs n hf hm
    by_cases hn : rs = []
    · subst hn; rw [pk_nil]; exact hf.mono (by omega)
    by_cases h : perrs lim e s 0 48 rs = 0
    · rw [pk_yes _ _ _ _ _ _ _ hn h, hdA_o]
      have h1 := rtA_few _ ((stA ms e s at' rs.length o rs).2.map (·.2)) _ (stA_few ms e s at' rs.length o rs n hf)
      rw [List.length_map, stA_length] at h1
      exact (h1.nx _).mono (by omega)
    · rw [pk_no _ _ _ _ _ _ _ hn h]
      exact lft_few ms e s at' o rs _ n hf hm
  case long =>
    intro o ms lim e s at' rs hl
    by_cases hn : rs = []
    · subst hn; rw [pk_nil]; exact hl
    by_cases h : perrs lim e s 0 48 rs = 0
    · rw [pk_yes _ _ _ _ _ _ _ hn h, hdA_o]
      exact (hl.sub ((stA_from ms e s at' rs.length o rs).trans (rtA_sub _ _))).nx _
    · rw [pk_no _ _ _ _ _ _ _ hn h]
      exact lft_long ms e s at' o rs _ hl
  case h32 =>
    intro o ms lim e s at' rs hl ha
    by_cases hn : rs = []
    · subst hn; rw [pk_nil]; exact ha
    by_cases h : perrs lim e s 0 48 rs = 0
    · rw [pk_yes _ _ _ _ _ _ _ hn h, hdA_h]
      exact (hl.sub ((stA_from ms e s at' rs.length o rs).trans (rtA_sub _ _))).len _ (.inl rfl)
    · rw [pk_no _ _ _ _ _ _ _ hn h]
      simp [Ideal.z32]
end Go.Proofs.YtiimfhacnfdmhaaGreat.Seg
namespace Go.Proofs.YtiimfhacnfdmhaaGreat.Seg
open Go Go.RowKit Kit
open Rec (Rec good ftot recB recB_length good_bounds Rrow)
open Ideal (Ts Thing Ans Arg Args sealT derT hashT leafT rootT zc zc_run zc_length zc_eq z32)
open Vault
theorem fold_lens (ms : List UInt8) (e s : Int) (at' : List UInt8) (n : Nat) : ∀ (rs : List Rec) (q : Ts × List (Int × List UInt8)), q.1.long → (∀ r ∈ rs, good r = true) → (∀ p ∈ q.2, p.2.length ≤ 16384) → ∀ p ∈ (rs.foldl (st1 ms e s at' n) q).2, p.2.length ≤ 16384
  | [], q, h, hb, hq => hq
  | r :: rs, q, h, hb, hq => by
    have hg := good_bounds r (hb r List.mem_cons_self)
    have h1 : (recB r).length = 36 + r.body.length := recB_length r (by omega)
    have hl := ((h.nx (keyT ms r.queue)).seal_ (q.1.val (keyT ms r.queue) 32) (nonce e (s + (q.2.length : Nat))) (besT at' q.2.length n) (recB r))
    refine fold_lens ms e s at' n rs _ ((h.nx _).nx _) (fun x hx => hb x (List.mem_cons_of_mem _ hx)) (fun p hp => ?_)
    unfold st1 at hp
    rcases List.mem_append.1 hp with hp | hp
    · exact hq p hp
    · rw [List.mem_singleton.1 hp]
      unfold stT
      simp only
      rw [hl, h1]; omega
theorem stA_lens (ms : List UInt8) (e s : Int) (at' : List UInt8) (n : Nat) (o : Ts) (rs : List Rec) (h : o.long) (hb : ∀ r ∈ rs, good r = true) : ∀ p ∈ (stA ms e s at' n o rs).2, p.2.length ≤ 16384 := by
  unfold stA
  exact fold_lens ms e s at' n rs (o, []) h hb (fun p hp => by cases hp)
theorem ans_call [Inhabited Sha.ShaTab] [Inhabited Field.SqTab] {w w1 w2 : World} {c : Vc} {x x2 : Vt} {X : Option Addr} {cX : Nat} {b : List UInt8} (h : Ans w w1 x.P X cX b) (q : Vq w1 c x w2 x2) (hb : b ≠ []) : Ans w w2 x2.P X cX b := by
  have hl := h.row.lt (fun e2 => hb (by have := congrArg List.length e2; rw [bvs_length] at this; exact List.eq_nil_of_length_eq_zero this))
  exact ⟨h.row.keep q.kp (fun i e => (h.far i e).2), fun i e => ⟨(h.far i e).1, q.old (h.far i e).2 (hl i e)⟩, h.cap, h.mx, h.nil⟩
set_option maxHeartbeats 4000000 in
set_option maxRecDepth 100000 in
theorem pack_c [Inhabited Sha.ShaTab] [Inhabited Field.SqTab] : PackC pk := by
  intro c x e s at' A m d rs w hx h32 hl hr hfar hm hb hf hlo hcl he hs hlim
  have hz := zc_run
  have k0 : Kp nob w ((w.alloc (.cells (bvs at').toArray 32)).alloc (.cells zc.toArray 32)) := ((Kp.refl nob w).alloc _).alloc _
  have HB1 := Lib.hid ((Blk.new w 32 (bvs at')).alloc (.cells zc.toArray 32))
  have HB2 := Lib.hid (show Blk ((w.alloc (.cells (bvs at').toArray 32)).alloc (.cells zc.toArray 32)) (w.heap.size + 1) 32 zc from Blk.new' (by simp) rfl)
  have HK := Lib.hid k0
  have HX0 := Lib.hid hx
  have HX := Lib.hid (hx.keep0 k0)
  have HSE := Lib.hid (sealed_c c x e s at' A m d rs _ (hx.keep0 k0) h32 hl (hr.keep0 k0) hfar hm hb hf hlo hcl he hs hlim)
  have HSZ := Lib.hid (fun w' (hr' : Rrow w' A rs) => size_c A m d rs w' hl hr' (by have := ftot_le5 rs hb; omega) (by omega))
  have H32 := Lib.hid h32
  have HL := Lib.hid hl
  have HR := Lib.hid (And.intro (hr.keep0 k0) hfar)
  have HF := Lib.hid (And.intro hf (And.intro hlo (And.intro hcl hm)))
  have hsz2 : ((w.alloc (.cells (bvs at').toArray 32)).alloc (.cells zc.toArray 32)).heap.size = w.heap.size + 2 := by simp
  have HS1 := Lib.hid hsz2
  clear hx h32 hl hr hfar hm hb hf hlo hcl he hs hlim k0 hsz2
  by_cases hm0 : m = 0
  · subst hm0
    have hrs : rs = [] := List.eq_nil_of_length_eq_zero HL.out
    rw [hrs, pk_nil]
    clear HSE HSZ
    go_enter Tryz.func23, Tryz.ntmps23
    go_wp2
    refine reg_begin (fun w' => Blk w' w.heap.size 32 (bvs at')) (by kernel_rfl) (HB1.out.keep (Kp.refl nob _).drew (fun e => e)) (fun hS0 => ?_)
    refine reg_load 0 (some 19) 32 (.tmp 8) rfl rfl rfl (by kernel_rfl) (by kernel_rfl) (by kernel_rfl) (by rfl) hS0 w.heap.size 0 rfl (bvs at') _ (fun w hw => hw.range) rarr_under rfl (rarr_size at' H32.out) ?_
    simp only [Act.put, List.setIfInBounds_toArray, List.set_cons_zero, List.set_cons_succ]
    refine reg_take (v := .slice none 0 0) 1 (some 10) rfl rfl (by kernel_rfl) (by kernel_rfl) (by kernel_rfl) (by rfl) hS0 (fun w' hw => by go_simp) ?_
    simp only [Act.put, List.setIfInBounds_toArray, List.set_cons_zero, List.set_cons_succ]
    refine reg_store 2 none 32 (.tmp 11) (.tmp 19) rfl rfl rfl (by kernel_rfl) (by rfl) (w.heap.size + 1) 32 zc (bvs at') (HB2.out.keep (Kp.refl nob _).drew (fun e => e)) rfl rfl (by rw [bvs_length, H32.out, zc_length]) (rarr_size at' H32.out) (bvs_one _) ?_
    intro w7 hB7 k7 z7
    have hS7 : Blk w7 w.heap.size 32 (bvs at') := hS0.keep k7 (fun e => by have e : w.heap.size = w.heap.size + 1 := e; omega)
    refine ⟨hS7, fun _ => ?_⟩
    simp only [Act.put, List.setIfInBounds_toArray, List.set_cons_zero, List.set_cons_succ]
    refine reg_take (v := .int .i64 1) 3 (some 12) rfl rfl (by kernel_rfl) (by kernel_rfl) (by kernel_rfl) (by rfl) hS7 (fun w' hw => by go_simp) ?_
    simp only [Act.put, List.setIfInBounds_toArray, List.set_cons_zero, List.set_cons_succ]
    refine reg_end (by kernel_rfl) ?_
    have HB7 := Lib.hid hB7
    have HQ : Hid (Vq w c x w7 x) := Lib.hid (((Vq.refl HX0.out).over0 HK.out.drew).over k7 (fun i _ e => by have e : i = w.heap.size + 1 := e; subst e; exact ⟨by omega, fun e => by have := HX0.out.lt _ e; omega⟩) HX0.out.sz)
    clear hB7 k7 z7 hS7 hS0
    go_wp2
    exact bodyPost_ret (results_mid rfl _ _ (w.heap.size + 1) _ _ _ rfl HB7.out rarr_under rfl (rarr_size at' H32.out) _ _ rfl rfl) rfl ⟨x.F, x.P, x.sl, x.cl, none, 0, rfl, HQ.out, by omega, Row.nil _ _, fun i e => (by cases e), Nat.le_refl _, (by decide), fun _ => rfl⟩
  have hmp : 0 < m := by omega
  have hm1 : ((m : Int) == 0) = false := by simp; omega
  have hm2 : decide (m = 0) = false := decide_eq_false hm0
  have hne : rs ≠ [] := fun e => hm0 (by rw [← HL.out, e]; rfl)
  by_cases hE : perrs c.lim e s 0 48 rs = 0
  · obtain ⟨R, hRe⟩ : ∃ R, R = pk x.o c.ms c.lim e s at' rs := ⟨_, rfl⟩
    have hpe : perr c.lim e s rs = 0 := by rw [perr, if_neg hne]; exact hE
    obtain ⟨_, hgood, hft, _⟩ := perr_ok hpe
    have hRl : R.b.length = ftot rs := by
      obtain ⟨rest, h1, h2⟩ := pk_shape.begins x.o c.ms c.lim e s at' rs HF.out.2.1 (by rw [pk_shape.err]; exact hpe)
      rw [hRe, h1, List.length_append, num8_length]; omega
    have hlens := stA_lens c.ms e s at' rs.length x.o rs HF.out.2.1 hgood
    rw [← hRe]
    rw [pk_yes _ _ _ _ _ _ _ hne hE] at hRe
    have HRE := Lib.hid (And.intro hRe (And.intro hRl hft))
    have HLN := Lib.hid hlens
    have HRW : Hid (∀ w2 x2, Vq ((w.alloc (.cells (bvs at').toArray 32)).alloc (.cells zc.toArray 32)) c x w2 x2 → Rrow w2 A rs) := Lib.hid (fun w2 x2 hq => HR.out.1.keep hq.kp (HR.out.2.resolve_left hne))
    have HSE2 := Lib.hid HSE.out
    have HE := Lib.hid hE
    clear hRe hRl hft hlens hgood hpe HSE hE hne
    go_enter Tryz.func23, Tryz.ntmps23
    go_wp2_with (first
      | (refine wpList_load_blk rfl 32 (.tmp 8) rfl _ _ _ HB1.out rfl _ rarr_under rfl (rarr_size at' H32.out) ?_)
      | fail)
    refine HSE2.out.mono ?_
    rintro r w2 ⟨x2, hq, hcl, hor⟩
    rcases hor with ⟨_, ho2, X, cX, gs, rfl, htw, hpt, hXn, hXc, hXm⟩ | ⟨h0, _⟩
    case inr => exact absurd HE.out h0
    rw [HL.out] at hcl
    have hgl : gs.length = m := by
      have h1 := congrArg List.length htw
      rw [List.length_map, stA_length, HL.out] at h1; exact h1
    have hmap : gs.map (·.b) = (gs.map Pt.two).map (·.2) := by rw [List.map_map]; rfl
    have hRb : R.b = frB (ftot rs) (gs.map Pt.two) (rtA x2.o (gs.map (·.b))).1 := by rw [HRE.out.1, hdA_b, ho2, hmap, htw]
    have hRo : R.o = (rtA x2.o (gs.map (·.b))).2.nx (hashT (at' ++ R.b)) := by rw [hRb, HRE.out.1, hdA_o, ho2, hmap, htw]
    have hRh : R.h = (rtA x2.o (gs.map (·.b))).2.val (hashT (at' ++ R.b)) 32 := by rw [hRb, HRE.out.1, hdA_h, ho2, hmap, htw]
    have hR0 : R.e = 0 := by rw [HRE.out.1, hdA_e]
    have hgb : ∀ g ∈ gs, g.b.length ≤ 1048000 := fun g hg => Nat.le_trans (HLN.out g.two (by rw [← htw]; exact List.mem_map_of_mem hg)) (by omega)
    have hfew : x2.o.few 12100 := by rw [ho2]; exact (stA_few c.ms e s at' rs.length x.o rs 10000 HF.out.1).mono (by have := HL.out; have := HF.out.2.2.2; omega)
    have hlong : x2.o.long := by rw [ho2]; exact HF.out.2.1.sub (stA_from ..)
    have HRR := Lib.hid (And.intro hRb (And.intro hRo (And.intro hRh hR0)))
    have HQ := Lib.hid hq
    have HPT := Lib.hid (And.intro hpt (And.intro hgl hgb))
    have HFL := Lib.hid (And.intro hfew hlong)
    have HCL := Lib.hid hcl
    have HSZ2 := Lib.hid (HSZ.out w2 (HRW.out w2 x2 hq))
    have hn0 : ¬ x.P w.heap.size := fun e => by have := HX0.out.lt _ e; omega
    have hn1 : ¬ x.P (w.heap.size + 1) := fun e => by have := HX0.out.lt _ e; omega
    have HB1' := Lib.hid (hq.blk HB1.out hn0)
    have HB2' := Lib.hid (hq.blk HB2.out hn1)
    have HN := Lib.hid (And.intro (hq.old hn0 HB1.out.lt) (hq.old hn1 HB2.out.lt))
    have hml := HL.out
    clear hq hcl ho2 htw hpt hXn hXc hXm hgl hmap hRb hRo hRh hR0 hgb hfew hlong hn0 hn1
    rw [hml]
    clear hml
    go_wp2_with fail
    refine HSZ2.out.mono ?_
    rintro r w3 ⟨rfl, k3⟩
    have HK3 := Lib.hid k3
    have hwr := written_c c x2 (ftot rs) X m cX gs w3 (HQ.out.now.keep0 k3) (HPT.out.1.keep0 k3) HPT.out.2.1 HF.out.2.2.2 (HFL.out.1.mono (by omega)) HFL.out.2 HPT.out.2.2
    rw [← HRR.out.1] at hwr
    have HWR := Lib.hid hwr
    clear k3 hwr
    go_wp2_with fail
    refine HWR.out.mono ?_
    rintro r w4 ⟨F4, P4, X4, c4, rfl, q4, a4⟩
    have hb1 := HB1'.out.keep HK3.out (fun e => e)
    have hb2 := HB2'.out.keep HK3.out (fun e => e)
    have HB14 := Lib.hid (q4.blk hb1 HN.out.1)
    have HB24 := Lib.hid (q4.blk hb2 HN.out.2)
    have HN4 := Lib.hid (And.intro (q4.old HN.out.1 hb1.lt) (q4.old HN.out.2 hb2.lt))
    have hbl : R.b.length ≤ 16384 := by rw [HRE.out.2.1]; exact HRE.out.2.2
    have hbn : R.b ≠ [] := fun e0 => by
      have h1 := HRE.out.2.1
      rw [e0] at h1
      have h2 : 48 ≤ ftot rs := by unfold ftot; omega
      simp at h1; omega
    have hfw : (rtA x2.o (gs.map (·.b))).2.few 100000 := (rtA_few _ _ _ HFL.out.1).mono (by rw [List.length_map, HPT.out.2.1]; have := HF.out.2.2.2; omega)
    have hlg : (rtA x2.o (gs.map (·.b))).2.long := HFL.out.2.sub (rtA_sub _ _)
    have hbe := behind_c c ⟨F4, P4, (rtA x2.o (gs.map (·.b))).2, x2.sl, x2.cl⟩ at' X4 R.b.length c4 R.b w4 q4.now H32.out (ans_arg a4) hfw (by omega) hlg
    dsimp only at hbe
    rw [← HRR.out.2.2.1, ← HRR.out.2.1] at hbe
    have hRhl : R.h.length = 32 := by rw [HRR.out.2.2.1]; exact hlg.len _ (.inl rfl)
    have HQ4 := Lib.hid (((HQ.out.over0 HK3.out).trans q4))
    have HA4 := Lib.hid a4
    have HBE := Lib.hid hbe
    have HH := Lib.hid (And.intro hRhl hbn)
    have HSS : Hid (w.heap.size ≤ w3.heap.size) := Lib.hid (Nat.le_trans (Nat.le_trans HK.out.size HQ.out.kp.size) HK3.out.size)
    clear q4 a4 hb1 hb2 hbl hbn hfw hlg hbe hRhl
    go_wp2_with (first
      | (refine wpList_load_blk rfl 32 (.tmp 8) rfl _ _ _ HB14.out rfl _ rarr_under rfl (rarr_size at' H32.out) ?_)
      | fail)
    refine HBE.out.mono ?_
    rintro r w5 ⟨F5, P5, rfl, q5⟩
    have HB25 := Lib.hid (q5.blk HB24.out HN4.out.2)
    have HN5 := Lib.hid (q5.old HN4.out.2 HB24.out.lt)
    have HQ5 := Lib.hid ((HQ4.out.trans q5).back HK.out)
    have HA5 := Lib.hid (ans_call HA4.out q5 HH.out.2)
    clear q5
    go_wp2_with (first
      | (refine wpList_store_blk rfl 32 (.tmp 11) (.tmp 42) rfl _ _ _ (bvs R.h) HB25.out rfl rfl (by rw [bvs_length, HH.out.1, zc_length]) (rarr_size R.h HH.out.1) (bvs_one _) ?_; intro w6 hB6 k6 z6)
      | fail)
    have HB6 := Lib.hid hB6
    have HQ6 : Hid (Vq w c x w6 ⟨F5, P5, R.o, x2.sl, x2.cl⟩) := Lib.hid (HQ5.out.over k6 (fun i _ e => by have e : i = w.heap.size + 1 := e; subst e; exact ⟨by omega, HN5.out⟩) HX0.out.sz)
    have HA6 : Hid (Ans w w6 P5 X4 c4 R.b) := Lib.hid (by
      have h := HA5.out
      refine ⟨h.row.keep k6 (fun i e e2 => ?_), fun i e => ⟨?_, (h.far i e).2⟩, h.cap, h.mx, h.nil⟩
      · have e2 : i = w.heap.size + 1 := e2
        have h1 := (h.far i e).1
        have h2 := HB2'.out.lt
        have h3 := HK3.out.size
        omega
      · have h1 := (h.far i e).1
        have h3 := HSS.out
        omega)
    clear hB6 k6 z6
    go_wp2
    exact bodyPost_ret (results_mid rfl _ _ (w.heap.size + 1) _ _ _ rfl HB6.out rarr_under rfl (rarr_size R.h HH.out.1) _ _ rfl rfl) rfl ⟨F5, P5, x2.sl, x2.cl, X4, c4, by rw [HRR.out.2.2.2]; rfl, HQ6.out, HCL.out, HA6.out⟩
  · rw [pk_no _ _ _ _ _ _ _ hne hE]
    obtain ⟨E, hEE⟩ : ∃ E, E = perrs c.lim e s 0 48 rs := ⟨_, rfl⟩
    have hse := HSE.out
    unfold SealP at hse
    rw [← hEE] at hse hE ⊢
    have HSE2 := Lib.hid hse
    have HE := Lib.hid hE
    have hb0 : (E != 0) = true := by simp; exact hE
    obtain ⟨o, ho⟩ : ∃ o, o = lft c.ms e s at' x.o rs (bad c.lim e s 0 48 rs) := ⟨_, rfl⟩
    rw [← ho] at HSE2 ⊢
    clear hse HSE hE hEE ho hne
    go_enter Tryz.func23, Tryz.ntmps23
    go_wp2_with (first
      | (refine wpList_load_blk rfl 32 (.tmp 8) rfl _ _ _ HB1.out rfl _ rarr_under rfl (rarr_size at' H32.out) ?_)
      | fail)
    refine HSE2.out.mono ?_
    rintro r w2 ⟨x2, hq, hcl, hor⟩
    rcases hor with ⟨h0, _⟩ | ⟨_, ho2, rfl⟩
    · exact absurd h0 HE.out
    have HQ := Lib.hid hq
    have HO := Lib.hid (And.intro ho2 hcl)
    have HB2' := Lib.hid (hq.blk HB2.out (fun e => by have := HX0.out.lt _ e; omega))
    have HNP : Hid (¬ x2.P (w.heap.size + 1)) := Lib.hid (hq.old (fun e => by have := HX0.out.lt _ e; omega) HB2.out.lt)
    clear hq hcl ho2
    have HZO : Hid (∀ u ∈ zc, u.oneCell' = true) := Lib.hid (by rw [zc_eq]; exact bvs_one _)
    have HZI : Hid ((Tryz.prog.info? 32).map (·.size) = some zc.length) := Lib.hid (by rw [zc_length]; kernel_rfl)
    go_wp2_with (first
      | (refine wpList_store_blk rfl 32 (.tmp 11) (.tmp 31) rfl _ _ _ zc HB2'.out rfl rfl rfl HZI.out HZO.out ?_; intro w6 hB6 k6 z6)
      | fail)
    have HB6 := Lib.hid hB6
    have HQ6 : Hid (Vq w c x w6 x2) := Lib.hid ((HQ.out.back HK.out).over k6 (fun i _ e => by have e : i = w.heap.size + 1 := e; subst e; exact ⟨by omega, HNP.out⟩) HX0.out.sz)
    clear hB6 k6 z6
    go_wp2
    exact bodyPost_ret (results_mid rfl _ _ (w.heap.size + 1) _ _ _ rfl HB6.out rarr_under rfl HZI.out _ _ rfl rfl) rfl ⟨x2.F, x2.P, x2.sl, x2.cl, none, 0, by rw [zc_eq]; rfl, by have h := HQ6.out; rw [show x2 = ⟨x2.F, x2.P, x2.o, x2.sl, x2.cl⟩ from rfl, HO.out.1] at h; exact h, by have := HO.out.2; have := HL.out; omega, Row.nil _ _, fun i e => (by cases e), Nat.le_refl _, (by decide), fun _ => rfl⟩
end Go.Proofs.YtiimfhacnfdmhaaGreat.Seg
namespace Go.Proofs.YtiimfhacnfdmhaaGreat.Seg
open Go Go.RowKit Kit
open Rec (Rec good ftot recB sNum_app sText_app)
open Ideal (Ts Thing Ans Arg Args sealT derT hashT leafT rootT zc zc_run zc_length)
open Vault
theorem run_str_bytesC {P : Program} (w : World) (src dst e : TypeId) (s : ByteArray) (hs : P.underlying src = some .string) (hd : P.underlying dst = some (.slice e)) (he : P.underlying e = some (.int .u8)) (hm : s.size ≤ maxLen) :
    ∃ (c : Nat) (w' : World), (convert src dst (.string s)).run P w = .ok (.slice (some ⟨w.heap.size, 0, none⟩) s.size c) w' ∧ Row w' (some ⟨w.heap.size, 0, none⟩) (bvs (sl s)) ∧ Kp Kit.nob w w' ∧ w'.heap.size = w.heap.size + 1 ∧ s.size ≤ c ∧ c ≤ maxLen := by
  obtain ⟨c, w', h1, h2, h3, h4⟩ := run_str_bytes w src dst e s hs hd he
  have h5 := run_bytes_of_string w src dst e s hs hd he
  rw [h1] at h5
  injection h5 with h5 h6
  injection h5 with h7 h8 h9
  subst h9
  exact ⟨_, w', h1, h2, h3, h4, grownCap_ge _ _ _ _, grownCap_le_maxLen _ _ _ _ hm⟩
theorem exec_str_bytesC {P : Program} {w : World} {o : Oper} {a : Act} (src dst e : TypeId) (x : Operand) (ho : o.op = .convert src dst x) (hs : P.underlying src = some .string) (hd : P.underlying dst = some (.slice e)) (he : P.underlying e = some (.int .u8)) (s : ByteArray) (hx : a.eval x = .string s) (hm : s.size ≤ maxLen) :
    ∃ (c : Nat) (w' : World), (execOp a.eval o).run P w = .ok (.value (.slice (some ⟨w.heap.size, 0, none⟩) s.size c)) w' ∧ Row w' (some ⟨w.heap.size, 0, none⟩) (bvs (sl s)) ∧ Kp Kit.nob w w' ∧ w'.heap.size = w.heap.size + 1 ∧ s.size ≤ c ∧ c ≤ maxLen := by
  obtain ⟨c, w', h1, h2⟩ := run_str_bytesC w src dst e s hs hd he hm
  refine ⟨c, w', ?_, h2⟩
  unfold execOp
  simp only [ho, hx, Sem.run_bind, h1, Result.andThen_ok, Sem.run_pure]
theorem wpList_str_bytesC {P : Program} {w : World} {ops : Array Oper} {rest : List Oper} {o : Oper} {a : Act} {Q : Exit → Act → World → Prop} (hw : Region.wanted o (yielded ops a.tmps) = true) (src dst e : TypeId) (x : Operand) (ho : o.op = .convert src dst x)
    (hs : P.underlying src = some .string) (hd : P.underlying dst = some (.slice e)) (he : P.underlying e = some (.int .u8)) (s : List UInt8) (hx : a.eval x = .string (str s)) (hm : s.length ≤ maxLen)
    (h : ∀ c w', Row w' (some ⟨w.heap.size, 0, none⟩) (bvs s) → Kp nob w w' → w'.heap.size = w.heap.size + 1 → s.length ≤ c → c ≤ maxLen → wpList P ops Q rest (a.put o.dst (.slice (some ⟨w.heap.size, 0, none⟩) s.length c)) w') : wpList P ops Q (o :: rest) a w := by
  obtain ⟨c, w', hr, h1, h2, h3, h4, h5⟩ := exec_str_bytesC (P := P) (w := w) (o := o) (a := a) src dst e x ho hs hd he (str s) hx (by rw [str_size]; exact hm)
  rw [sl_str] at h1
  rw [str_size] at hr h4
  exact wpList_gd hw hr (h c w' h1 h2 h3 h4 h5)
theorem make_parts (n : Nat) (hn : n ≤ 260) : ∃ cs : List Value, cs.length = n * 2 ∧ ∀ w, (Instr.makeSlice 84 (.int .i64 (n : Int)) (.int .i64 (n : Int))).run Tryz.prog w = .ok (.slice (some ⟨w.heap.size, 0, none⟩) n n) (w.alloc (.cells cs.toArray 128)) := by
  obtain ⟨i0, hi, hz0, hz1, hz2⟩ := info_parts3 part_info
  refine ⟨(madeCells #[.int .i64 0, .slice none 0 0] (n * 2)).toList, by simp [size_madeCells], fun w => ?_⟩
  have hr := run_make (P := Tryz.prog) w 84 128 i0 _ part_under hi hz0 .i64 .i64 n n (by omega) (by omega) (by rw [hz2]; omega) (by omega)
  rw [hz1, Int.toNat_natCast, show (Value.agg #[.int .i64 0, .slice none 0 0]).cells = #[.int .i64 0, .slice none 0 0] from rfl] at hr
  simpa using hr
theorem exec_make_parts {act : Act} {o : Oper} (x : Operand) (n : Nat) (cs : List Value) (w : World) (hr : (Instr.makeSlice 84 (.int .i64 (n : Int)) (.int .i64 (n : Int))).run Tryz.prog w = .ok (.slice (some ⟨w.heap.size, 0, none⟩) n n) (w.alloc (.cells cs.toArray 128))) (ho : o.op = .makeSlice 84 x x) (hx : act.eval x = .int .i64 (n : Int)) :
    (execOp act.eval o).run Tryz.prog w = .ok (.value (.slice (some ⟨w.heap.size, 0, none⟩) n n)) (w.alloc (.cells cs.toArray 128)) := by
  unfold execOp
  simp only [ho, hx, Sem.run_bind, hr, Result.andThen_ok, Sem.run_pure]
theorem sIn_app (q lo hi : Int) (W : List UInt8) (h : lo ≤ q ∧ q ≤ hi) (h2 : -9223372036854775808 ≤ q ∧ q ≤ 9223372036854775807) : sIn (num8 q ++ W, false) lo hi = (q, (W, false)) := by
  unfold sIn
  rw [sNum_app q W h2, if_neg (by omega)]
structure Fr (ps : List (Int × List UInt8)) (root b : List UInt8) : Prop where
  eq : b = frB b.length ps root
  root : root.length = 32
  len : 48 ≤ b.length ∧ b.length ≤ 16384
  few : 1 ≤ ps.length ∧ ps.length ≤ 260
  ok : ∀ p ∈ ps, (0 ≤ p.1 ∧ p.1 ≤ 16) ∧ p.2.length ≤ 16384
theorem Fr.lenF {ps : List (Int × List UInt8)} {root b : List UInt8} (h : Fr ps root b) : lenF b = b.length := by
  have e : b = num8 (b.length : Nat) ++ (num8 ps.length ++ parB ps ++ root) := by
    conv => lhs; rw [h.eq]
    unfold frB; simp [List.append_assoc]
  have hl : b.length = 8 + (num8 ps.length ++ parB ps ++ root).length := by
    conv => lhs; rw [e]
    rw [List.length_append, num8_length]
  have := lenF_of b.length (num8 ps.length ++ parB ps ++ root) [] hl h.len.1 h.len.2
  rw [List.append_nil, ← e] at this
  exact this
theorem Fr.drop8 {ps : List (Int × List UInt8)} {root b : List UInt8} (h : Fr ps root b) : b.drop 8 = num8 ps.length ++ (parB ps ++ root) := by
  conv => lhs; rw [h.eq]
  unfold frB
  rw [List.append_assoc, List.append_assoc, List.drop_left' (num8_length _)]
theorem Fr.next {ps : List (Int × List UInt8)} {root b : List UInt8} (h : Fr ps root b) {k : Nat} (hk : k < ps.length) : parB (ps.drop k) ++ root = num8 ps[k].1 ++ (textB (str ps[k].2) ++ (parB (ps.drop (k + 1)) ++ root)) := by
  rw [List.drop_eq_getElem_cons hk]
  unfold parB
  rw [List.flatMap_cons, List.append_assoc, List.append_assoc]
structure RdS (w : World) (ps : List (Int × List UInt8)) (root : List UInt8) (k X rb : Nat) (wr : World) (A : Option Addr) (cs : List Value) (gs : List Pt) : Prop where
  i : IsR wr rb A (parB (ps.drop k) ++ root) false
  z : Blk wr X 128 cs
  zl : cs.length = ps.length * 2
  zt : cs.take (k * 2) = gs.flatMap Pt.cells
  two : gs.map Pt.two = ps.take k
  arg : ∀ g ∈ gs, Arg wr nob g.X g.b.length g.c g.b
  far : ∀ g ∈ gs, ∀ j, ab g.X = some j → w.heap.size < j ∧ j ≠ rb ∧ j ≠ X ∧ j < wr.heap.size
  wf : ∀ j, WF rb A j → w.heap.size ≤ j ∧ j ≠ X
  xn : w.heap.size < X
  k : Kp nob w wr
theorem RdS.more {w wr w5 w6 w7 : World} {ps : List (Int × List UInt8)} {root : List UInt8} {k X rb cg : Nat} {A A5 : Option Addr} {cs : List Value} {gs : List Pt} (h : RdS w ps root k X rb wr A cs gs) (hk : k < ps.length)
    (i5 : IsR w5 rb A5 (parB (ps.drop (k + 1)) ++ root) false) (k5 : Kp (oneF rb) wr w5) (hA5 : ab A5 = ab A ∨ ab A5 = none) (k6 : Kp nob w5 w6) (s6 : w6.heap.size = w5.heap.size + 1) (r6 : Row w6 (some ⟨w5.heap.size, 0, none⟩) (bvs ps[k].2)) (hc : ps[k].2.length ≤ cg) (hm : cg ≤ maxLen)
    (b7 : Blk w7 X 128 (splice cs (k * 2) (Pt.cells ⟨ps[k].1, some ⟨w5.heap.size, 0, none⟩, cg, ps[k].2⟩))) (k7 : Kp (oneB X) w6 w7) (s7 : w7.heap.size = w6.heap.size) :
    RdS w ps root (k + 1) X rb w7 A5 (splice cs (k * 2) (Pt.cells ⟨ps[k].1, some ⟨w5.heap.size, 0, none⟩, cg, ps[k].2⟩)) (gs ++ [⟨ps[k].1, some ⟨w5.heap.size, 0, none⟩, cg, ps[k].2⟩]) := by
  have hz := h.zl
  have hX : X < wr.heap.size := h.z.lt
  have hs5 := k5.size
  have hrw := h.i.lt
  have hWF5 : ∀ j, WF rb A5 j → w.heap.size ≤ j ∧ j ≠ X := fun j e => by
    rcases e with e | e
    · exact h.wf j (.inl e)
    · rcases hA5 with e2 | e2
      · rw [e2] at e; exact h.wf j (.inr e)
      · rw [e2] at e; cases e
  have hrX : X ≠ rb := fun e => (h.wf rb (.inl rfl)).2 e.symm
  refine ⟨(i5.keep k6 (fun _ _ e => e)).keep k7 (fun j e e2 => (hWF5 j e).2 e2), b7, ?_, ?_, ?_, fun g hg => ?_, fun g hg j e => ?_, hWF5, h.xn, ?_⟩
  · unfold splice
    simp only [List.length_append, List.length_take, List.length_drop, Pt.cells, List.length_cons, List.length_nil]
    omega
  · have e1 : (cs.take (k * 2)).length = k * 2 := by rw [List.length_take]; omega
    rw [List.flatMap_append, ← h.zt]
    unfold splice
    rw [← List.append_assoc, List.take_left' (by rw [List.length_append, e1]; simp [Pt.cells]; omega)]
    simp
  · rw [List.map_append, h.two, List.take_add_one, List.getElem?_eq_getElem hk]; rfl
  · rcases List.mem_append.1 hg with hg | hg
    · have h1 := h.arg g hg
      refine ⟨h1.len, (((h1.row.keep k5 (fun j e e2 => ?_)).keep0 k6).keep k7 (fun j e e2 => ?_)), h1.far, h1.cap, h1.mx, h1.nil⟩
      · exact (h.far g hg j e).2.1 e2
      · exact (h.far g hg j e).2.2.1 e2
    · rcases List.mem_singleton.1 hg with rfl
      exact ⟨rfl, r6.keep k7 (fun j e e2 => by cases e; have e2 : w5.heap.size = X := e2; omega), .inr (fun j _ e => e), hc, hm, fun e => by cases e⟩
  · rcases List.mem_append.1 hg with hg | hg
    · have h1 := h.far g hg j e
      exact ⟨h1.1, h1.2.1, h1.2.2.1, by omega⟩
    · rcases List.mem_singleton.1 hg with rfl
      cases e
      have h1 := h.k.size
      have h2 := h.xn
      refine ⟨by simp only; omega, by simp only; omega, by simp only; omega, by simp only; omega⟩
  · exact ((h.k.since k5 (fun j e => (h.wf j (.inl e)).1)).trans k6 (fun _ e => e.elim)).since k7 (fun j e => by have e : j = X := e; have := h.xn; omega)
theorem cutK1_none {A : Option Addr} {c k z : Nat} (h : cutK A c k z = none) : A = none := by
  unfold cutK at h
  split at h
  · exact h
  · simpa using h
theorem u8_sizeOf (w : World) : (sizeOf 5).run Tryz.prog w = .ok 1 w := by kernel_rfl
theorem u8_kind : Tryz.prog.underlying 5 = some (.int .u8) := by kernel_rfl
theorem run_arrAt (A : Option Addr) (c : Nat) (w : World) : (Instr.arrayAt 32 (.slice A 32 c)).run Tryz.prog w = .ok (.pointer A) w := by
  have ha : Tryz.prog.underlying 32 = some (.array 32 5) := by kernel_rfl
  unfold Instr.arrayAt
  simp [run_underlying ha, Sem.run_bind, Result.andThen]
theorem exec_arrAt {a : Act} {o : Oper} {w : World} (x : Operand) (A : Option Addr) (c : Nat) (ho : o.op = .sliceToArrayPointer 32 x) (hx : a.eval x = .slice A 32 c) : (execOp a.eval o).run Tryz.prog w = .ok (.value (.pointer A)) w := by
  have h := run_arrAt A c w
  unfold execOp
  simp only [ho, hx, Sem.run_bind, h, Result.andThen_ok, Sem.run_pure]
set_option maxHeartbeats 4000000 in
set_option maxRecDepth 100000 in
theorem read_c (ps : List (Int × List UInt8)) (root b : List UInt8) (hfr : Fr ps root b) (A : Option Addr) (n d : Nat) (w : World) (hn : b.length = n) (hr : Row w A (bvs b)) (hA : A = none → d = 0) (hc : n ≤ d) (hm : d ≤ maxLen) :
    Calls Tryz.prog 53 #[.slice A n d] w fun r w' => ∃ (X : Option Addr) (cX : Nat) (gs : List Pt), r = .returned (.tuple #[.slice X ps.length cX, .agg (bvs root).toArray, .bool true]) ∧ gs.map Pt.two = ps ∧ Parts w' (fun i => i < w.heap.size) X gs ∧ Kp nob w w' := by
  have hz := zc_run
  have hb48 := hfr.len
  rw [hn] at hb48
  have HZ := Lib.hid (Blk.new w 32 zc)
  have HK := Lib.hid ((Kp.refl nob w).alloc (.cells zc.toArray 32))
  have HFR := Lib.hid hfr
  have hle := length_c A n d b (w.alloc (.cells zc.toArray 32)) hn (hr.keep0 HK.out) (by omega) hA hc hm
  rw [hfr.lenF, hn] at hle
  have HLE := Lib.hid hle
  have hcut : ∀ w', Kp nob w w' → Row w' (cutK A d 8 1) (bvs (b.drop 8)) := fun w' k' => by
    have h1 := (hr.keep0 k').cutK (c := d) (k := 8) (z := 1) (by rw [bvs_length, hn]; omega)
    rw [bvs, List.map_drop]; exact h1
  have HRD := Lib.hid (fun w' (k' : Kp nob w w') => rRead2 (cutK A d 8 1) (n - 8) (d - 8) (b.drop 8) w' (by rw [List.length_drop, hn]) (by omega) (fun e => by have := hA (cutK1_none e); omega) (hcut w' k'))
  rw [hfr.drop8] at HRD
  have hn8 : 8 ≤ n := by omega
  have hn0 : ((n : Int) == 0) = false := by simp; omega
  have hn1 : decide (n = 0) = false := decide_eq_false (by omega)
  have hd8 : (8 : Int) ≤ (n : Int) := by omega
  clear hle hcut hr hA hm hn hfr hb48
  obtain ⟨N, hN⟩ : ∃ N, N = ps.length := ⟨_, rfl⟩
  rw [← hN]
  have HN := Lib.hid hN
  clear hN
  go_enter Tryz.func53, Tryz.ntmps53
  go_wp2_with (first
    | (go_at_call 30; refine HLE.out.mono ?_; rintro r w1 ⟨rfl, k1⟩; have HK1 := Lib.hid (HK.out.trans k1 (fun _ e => e.elim)); have HZ1 := Lib.hid (HZ.out.keep k1 (fun e => e)); clear k1)
    | (refine wpList_gd (by rfl) (exec_fromK 42 5 1 u8_under u8_sizeOf (.tmp 22) (.const (.int .i64 8)) rfl A n d 8 rfl rfl hn8) ?_)
    | (go_at_call 56; refine (HRD.out w1 HK1.out).mono ?_; rintro r w2 ⟨rb, A2, rfl, h2, k2, h3, h4⟩)
    | fail)
  have hfw := HFR.out.few
  have hin := rIn rb A2 (num8 ps.length ++ (parB ps ++ root), false) 1 260 w2 h2
  rw [sIn_app (ps.length : Int) 1 260 (parB ps ++ root) (by omega) (by omega)] at hin
  have HIN := Lib.hid hin
  have HK2 := Lib.hid (HK1.out.trans k2 (fun _ e => e.elim))
  have HZ2 := Lib.hid (HZ1.out.keep k2 (fun e => e))
  have HW2 := Lib.hid (And.intro h3 h4)
  rw [← HN.out] at hfw HIN
  obtain ⟨cs, hcs, hmk⟩ := make_parts N hfw.2
  have HCS := Lib.hid hcs
  have HMK := Lib.hid hmk
  clear hin k2 h2 h3 h4 hcs hmk
  have hwz : w.heap.size < w2.heap.size := HZ2.out.lt
  go_wp2_with (first
    | (go_at_call 57; refine HIN.out.mono ?_; rintro r w3 ⟨rfl, A3, i3, k3, a3⟩)
    | (refine wpList_gd (by rfl) (exec_make_parts (.tmp 26) N cs _ (HMK.out _) rfl rfl) ?_)
    | fail)
  have s3 := k3.size
  have HWZ : Hid (w.heap.size ≠ rb) := Lib.hid (fun e => by have := HW2.out.1 rb (.inl rfl); have := HZ1.out.lt; omega)
  have HS : Hid (RdS w ps root 0 w3.heap.size rb (w3.alloc (.cells cs.toArray 128)) A3 cs []) := Lib.hid (by
    have hw3 : ∀ j, WF rb A3 j → w1.heap.size ≤ j ∧ j < w3.heap.size := fun j e => by
      rcases e with e | e
      · subst e; exact ⟨HW2.out.1 _ (.inl rfl), i3.lt⟩
      · rcases a3 with e2 | e2
        · rw [e2] at e; exact ⟨HW2.out.1 j (.inr e), by have := HW2.out.2 j (.inr e); omega⟩
        · rw [e2] at e; cases e
    have s1 := HK1.out.size
    refine ⟨?_, Blk.new w3 _ cs, by rw [HCS.out, HN.out], by simp, by simp, fun g hg => (by cases hg), fun g hg => (by cases hg), fun j e => ⟨by have := hw3 j e; omega, by have := hw3 j e; omega⟩, by omega, ((HK2.out.since k3 (fun j e => ?_)).alloc _)⟩
    · rw [List.drop_zero]; exact i3.keep ((Kp.refl nob w3).alloc _) (fun _ _ e => e)
    · have e : j = rb := e
      have := HW2.out.1 rb (.inl rfl)
      omega)
  have HZ3 : Hid (Blk (w3.alloc (.cells cs.toArray 128)) w.heap.size 32 zc) := Lib.hid ((HZ2.out.keep k3 (fun e => by have e : w.heap.size = rb := e; have := HW2.out.1 rb (.inl rfl); have := HZ1.out.lt; omega)).alloc _)
  obtain ⟨X, hX⟩ : ∃ X, X = w3.heap.size := ⟨_, rfl⟩
  obtain ⟨w4, hw4⟩ : ∃ w4, w4 = w3.alloc (.cells cs.toArray 128) := ⟨_, rfl⟩
  rw [← hX, ← hw4] at HS
  rw [← hw4] at HZ3
  rw [← hX, ← hw4]
  clear i3 k3 a3 s3 hX hw4 hwz HIN HMK HCS
  go_loopw [30] (fun i wr => ∃ k : Nat, k ≤ N ∧ i = .int .i64 k ∧ ∃ (A4 : Option Addr) (cs : List Value) (gs : List Pt), RdS w ps root k X rb wr A4 cs gs ∧ Blk wr w.heap.size 32 zc)
    (fun i _ => N - (intOf i).toNat)
  case atStart => exact ⟨0, Nat.zero_le _, rfl, A3, cs, [], HS.out, HZ3.out⟩
  case round =>
    obtain ⟨k, hk, rfl, A4, cs4, gs, hrs, hzr⟩ := hrel
    have HRS := Lib.hid hrs
    have HZR := Lib.hid hzr
    clear hrs hzr
    by_cases hlt : k < N
    · have hkp : k < ps.length := by rw [← HN.out]; exact hlt
      have hok := HFR.out.ok ps[k] (List.getElem_mem hkp)
      have hi4 := HRS.out.i
      rw [HFR.out.next hkp] at hi4
      have hzl := HRS.out.zl
      rw [← HN.out] at hzl
      obtain ⟨W, hW⟩ : ∃ W, W = parB (ps.drop (k + 1)) ++ root := ⟨_, rfl⟩
      obtain ⟨q, hq⟩ : ∃ q, q = ps[k].1 := ⟨_, rfl⟩
      obtain ⟨sb, hsb⟩ : ∃ sb, sb = ps[k].2 := ⟨_, rfl⟩
      rw [← hq, ← hsb, ← hW] at hi4
      rw [← hq, ← hsb] at hok
      have hin := rIn rb A4 (num8 q ++ (textB (str sb) ++ W), false) 0 16 wr hi4
      rw [sIn_app q 0 16 (textB (str sb) ++ W) (by omega) (by omega)] at hin
      have HIN := Lib.hid hin
      have htx := fun w5 A5 (i5 : IsR w5 rb A5 (textB (str sb) ++ W) false) => rText rb A5 (textB (str sb) ++ W, false) 16384 w5 i5
      rw [sText_app sb W 16384 (by omega) (by omega)] at htx
      have HTX := Lib.hid htx
      have HE := Lib.hid (And.intro hW (And.intro hq hsb))
      have hsl : sb.length ≤ 16384 := hok.2
      have HXR := Lib.hid HRS.out.xn
      have HXB : Hid (¬ oneF rb X) := Lib.hid (fun e => (HRS.out.wf rb (.inl rfl)).2 (show rb = X from (show X = rb from e).symm))
      clear hin htx hW hq hsb hi4 hok
      go_wp2_with (first
        | (go_at_call 57; refine HIN.out.mono ?_; rintro r w5 ⟨rfl, A5, i5, k5, a5⟩; have HI5 := Lib.hid (And.intro i5 (And.intro k5 a5)); clear i5 k5 a5)
        | (go_at_call 77; refine (HTX.out w5 A5 HI5.out.1).mono ?_; rintro r w6 ⟨rfl, A6, i6, k6, a6⟩; have HI6 := Lib.hid (And.intro i6 (And.intro k6 a6)); clear i6 k6 a6)
        | (refine wpList_str_bytesC (by rfl) 9 42 5 (.tmp 38) rfl u8_string u8_under u8_kind sb rfl (by simp [maxLen]; omega) ?_; intro cg w7 r7 k7 s7 hc7 hm7; have HR7 := Lib.hid (And.intro r7 (And.intro k7 (And.intro s7 (And.intro hc7 hm7)))); have HB7 := Lib.hid (((HRS.out.z.keep HI5.out.2.1 HXB.out).keep HI6.out.2.1 HXB.out).keep k7 (fun e => e)); clear r7 k7 s7 hc7 hm7)
        | (refine wpList_store_in rfl 128 (.tmp 41) (.tmp 40) rfl X (k * 2) 128 cs4 (Pt.cells ⟨q, some ⟨w6.heap.size, 0, none⟩, cg, sb⟩) HB7.out rfl rfl (by rw [hzl]; simp [Pt.cells]; omega) (by simp only [Pt.cells, List.length_cons, List.length_nil]; kernel_rfl) (fun u hu => by unfold Pt.cells at hu; simp only [List.mem_cons, List.not_mem_nil, or_false] at hu; rcases hu with rfl | rfl <;> rfl) ?_; intro w8 b8 k8 s8)
        | fail)
      have hq := HE.out.2.1
      have hsb := HE.out.2.2
      have hi6 := HI6.out.1
      rw [HE.out.1] at hi6
      have hk56 : Kp (oneF rb) wr w6 := HI5.out.2.1.trans HI6.out.2.1 (fun _ e => .inl e)
      have ha56 : ab A6 = ab A4 ∨ ab A6 = none := by
        rcases HI6.out.2.2 with e | e
        · rcases HI5.out.2.2 with e2 | e2
          · exact .inl (e.trans e2)
          · exact .inr (e.trans e2)
        · exact .inr e
      subst hq hsb
      have HNX := Lib.hid (HRS.out.more hkp hi6 hk56 ha56 HR7.out.2.1 HR7.out.2.2.1 HR7.out.1 HR7.out.2.2.2.1 HR7.out.2.2.2.2 b8 k8 s8)
      have HZN : Hid (Blk w8 w.heap.size 32 zc) := Lib.hid (((HZR.out.keep hk56 (fun e => by have e : w.heap.size = rb := e; exact HWZ.out e)).keep HR7.out.2.1 (fun e => e)).keep k8 (fun e => by have e : w.heap.size = X := e; have := HXR.out; omega))
      clear b8 k8 s8 hk56 ha56 hi6
      go_wp2
      go_roundw
      case rel => exact ⟨k + 1, by omega, by go_num, A6, _, _, HNX.out, HZN.out⟩
      case measure => simp [intOf]; omega
    · obtain rfl : k = N := by omega
      have hd0 : ps.drop k = [] := List.drop_of_length_le (by rw [← HN.out]; exact Nat.le_refl _)
      have hi4 := HRS.out.i
      rw [hd0, show parB [] ++ root = root ++ [] by unfold parB; simp] at hi4
      have hrt := HFR.out.root
      have htk := rTake rb A4 (root ++ [], false) 32 wr hi4 (by rw [List.append_nil, hrt]; omega)
      unfold TakePost at htk
      rw [sTake_app root [] 32 (by rw [hrt]; rfl)] at htk
      rw [hrt] at htk
      have HTK := Lib.hid htk
      have HRT := Lib.hid hrt
      have htw : gs.map Pt.two = ps := by
        have := HRS.out.two
        rw [List.take_of_length_le (by rw [← HN.out]; exact Nat.le_refl _)] at this; exact this
      have HTW := Lib.hid htw
      clear hd0 hi4 hrt htk htw
      go_wp2_with fail
      refine HTK.out.mono ?_
      rintro r w5 ⟨A5, c5, rfl, ho5, hf5, A6, i6, k6, a6⟩
      have HEN := Lib.hid (rEnd rb A6 ([], false) w5 i6)
      have hrow5 : Row w5 A5 (bvs root) := ho5.row
      have HR5 := Lib.hid (And.intro hrow5 hf5)
      have HK5 := Lib.hid k6
      clear ho5 hf5 i6 k6 a6 hrow5
      go_wp2_with (first
        | (go_at_call 79; refine HEN.out.mono ?_; rintro r w6 ⟨rfl, rfl⟩)
        | fail)
      obtain ⟨g5, o5, rfl, hlt5, hc5⟩ : ∃ g o, A5 = some ⟨g, o, none⟩ ∧ g < w5.heap.size ∧ w5.rangeAt g o (bvs root) := by
        rcases HR5.out.1 with e | ⟨g, o, h1, h2, h3⟩
        · exfalso; have := congrArg List.length e; rw [bvs_length, HRT.out] at this; simp at this
        · exact ⟨g, o, h1, h2, h3⟩
      have hg5 : wr.heap.size ≤ g5 := HR5.out.2 g5 rfl
      refine reg_begin (fun w' => w'.rangeAt g5 o5 (bvs root)) (by kernel_rfl) hc5 (fun hS6 => ?_)
      refine reg_take (v := .slice (some ⟨X, 0, none⟩) k k) 0 (some 52) rfl rfl (by kernel_rfl) (by kernel_rfl) (by kernel_rfl) (by rfl) hS6 (fun w' hw => by go_simp) ?_
      simp only [Act.put, List.setIfInBounds_toArray, List.set_cons_zero, List.set_cons_succ]
      refine reg_take (v := .slice (some ⟨g5, o5, none⟩) 32 c5) 1 (some 53) rfl rfl (by kernel_rfl) (by kernel_rfl) (by kernel_rfl) (by rfl) hS6 (fun w' hw => by go_simp) ?_
      simp only [Act.put, List.setIfInBounds_toArray, List.set_cons_zero, List.set_cons_succ]
      refine reg_take (v := .pointer (some ⟨g5, o5, none⟩)) 2 (some 54) rfl rfl (by kernel_rfl) (by kernel_rfl) (by kernel_rfl) (by rfl) hS6 (fun w' hw => exec_arrAt (.tmp 53) _ c5 rfl rfl) ?_
      simp only [Act.put, List.setIfInBounds_toArray, List.set_cons_zero, List.set_cons_succ]
      refine reg_load 3 (some 55) 32 (.tmp 54) rfl rfl rfl (by kernel_rfl) (by kernel_rfl) (by kernel_rfl) (by rfl) hS6 g5 o5 rfl (bvs root) _ (fun w hw => hw) rarr_under rfl (rarr_size root HRT.out) ?_
      simp only [Act.put, List.setIfInBounds_toArray, List.set_cons_zero, List.set_cons_succ]
      refine reg_take (v := .slice (some ⟨X, 0, none⟩) k k) 4 (some 2) rfl rfl (by kernel_rfl) (by kernel_rfl) (by kernel_rfl) (by rfl) hS6 (fun w' hw => by go_simp) ?_
      simp only [Act.put, List.setIfInBounds_toArray, List.set_cons_zero, List.set_cons_succ]
      have HZ6 := Lib.hid ((HZR.out.keep HK5.out (fun e => by have e : w.heap.size = rb := e; exact HWZ.out e)).keep (Kp.refl nob _).drew (fun e => e))
      refine reg_store 5 none 32 (.tmp 3) (.tmp 55) rfl rfl rfl (by kernel_rfl) (by rfl) w.heap.size 32 zc (bvs root) HZ6.out rfl rfl (by rw [bvs_length, HRT.out, zc_length]) (rarr_size root HRT.out) (bvs_one _) ?_
      intro w7 hB7 k7 z7
      have hS7 : w7.rangeAt g5 o5 (bvs root) := fun j v hv => by
        have hne : ¬ (g5 = w.heap.size) := by have := HRS.out.k.size; have := HZR.out.lt; omega
        rw [k7.cell (p := ⟨g5, o5 + j, none⟩) hlt5 hne]
        exact hS6 j v hv
      refine ⟨hS7, fun _ => ?_⟩
      simp only [Act.put, List.setIfInBounds_toArray, List.set_cons_zero, List.set_cons_succ]
      refine reg_take (v := .bool true) 6 (some 4) rfl rfl (by kernel_rfl) (by kernel_rfl) (by kernel_rfl) (by rfl) hS7 (fun w' hw => by go_simp) ?_
      simp only [Act.put, List.setIfInBounds_toArray, List.set_cons_zero, List.set_cons_succ]
      refine reg_end (by kernel_rfl) ?_
      have HB7 := Lib.hid hB7
      have kd : Kp (oneF rb) wr w5.drew := HK5.out.drew
      have hKW : Kp nob w w7 := ((HRS.out.k.since kd (fun j e => (HRS.out.wf j (.inl e)).1)).since k7 (fun j e => by have e : j = w.heap.size := e; omega))
      have hXrb : ¬ oneF rb X := fun e => (HRS.out.wf rb (.inl rfl)).2 (show rb = X from (show X = rb from e).symm)
      have hXw : ¬ (X = w.heap.size) := by have := HRS.out.xn; omega
      have hbx := (HRS.out.z.keep kd hXrb).keep k7 hXw
      have hcs4 : cs4 = gs.flatMap Pt.cells := by
        rw [← HRS.out.zt, List.take_of_length_le (by rw [HRS.out.zl, ← HN.out]; exact Nat.le_refl _)]
      have hpt : Parts w7 (fun i => i < w.heap.size) (some ⟨X, 0, none⟩) gs := by
        refine ⟨by rw [← hcs4]; exact hbx.row, .inr (fun j e => by cases e; have := HRS.out.xn; show ¬ (X < w.heap.size); omega), fun g hg => ?_⟩
        have h1 := HRS.out.arg g hg
        have h2 := HRS.out.far g hg
        exact ⟨h1.len, (h1.row.keep kd (fun j e e2 => (h2 j e).2.1 e2)).keep k7 (fun j e e2 => by have e2 : j = w.heap.size := e2; have := (h2 j e).1; omega), .inr (fun j e e2 => by have := (h2 j e).1; have e2 : j < w.heap.size := e2; omega), h1.cap, h1.mx, h1.nil⟩
      have HFI := Lib.hid (And.intro hKW hpt)
      have hkN := HN.out
      clear hB7 k7 z7 hS7 hS6 kd hKW hXrb hXw hbx hcs4 hpt
      go_wp2
      exact bodyPost_ret (results_mid rfl _ _ w.heap.size _ _ _ rfl HB7.out rarr_under rfl (rarr_size root HRT.out) _ _ rfl rfl) rfl ⟨some ⟨X, 0, none⟩, k, gs, rfl, HTW.out, HFI.out.2, HFI.out.1⟩
end Go.Proofs.YtiimfhacnfdmhaaGreat.Seg
