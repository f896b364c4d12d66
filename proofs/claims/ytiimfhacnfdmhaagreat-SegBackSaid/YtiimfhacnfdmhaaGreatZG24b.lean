/- Lemmas: VauK VauR2 VauR3. -/
import Derived.Test.YtiimfhacnfdmhaaGreatZG24
set_option linter.unusedVariables false
set_option linter.unusedSimpArgs false
namespace Go.Proofs.YtiimfhacnfdmhaaGreat.Vault
open Go Go.RowKit Kit
open Sha (Pc PcsOk catP)
theorem of_length [Inhabited Sha.ShaTab] (l : List UInt8) : (Sha.of l).length = 32 := by unfold Sha.of; exact Sha.digest_length _
set_option maxHeartbeats 1000000 in
set_option maxRecDepth 100000 in
theorem rm_hash [Inhabited Sha.ShaTab] (B : Option Addr) (m d : Nat) (ps : List Pc) (w0 : World) (ht : Sha.Tabs w0) (hm : ps.length = m) (hr : Row w0 B (ps.map Pc.v)) (hp : PcsOk w0 nob ps) (hmm : m ≤ 1099511627776) (hl : (catP ps).length ≤ 1099511627776) :
    Calls Tryz.prog 133 #[.agg #[], .slice B m d] w0 fun e w' => e = .returned (.agg (bvs (Sha.of (catP ps))).toArray) ∧ Kp nob w0 w' := by
  have hz := zr_run
  have k0 : Kp nob w0 ((w0.alloc (.cells #[] 69)).alloc (.cells zr.toArray 32)) := ((Kp.refl nob w0).alloc _).alloc _
  have HB := Lib.hid (show Blk ((w0.alloc (.cells #[] 69)).alloc (.cells zr.toArray 32)) (w0.heap.size + 1) 32 zr from Blk.new' (by simp) rfl)
  have HOF := Lib.hid (Sha.of_any B m d ps _ (ht.keep0 k0) hm (hr.keep0 k0) (hp.keep0 k0) hmm hl)
  have HL := Lib.hid (of_length (catP ps))
  have HK := Lib.hid k0
  clear ht hm hr hp hmm hl k0
  generalize Sha.of (catP ps) = D at *
  go_enter Tryz.func133, Tryz.ntmps133
  go_wp2_with (first
    | (go_at_call 137; refine HOF.out.mono ?_; rintro e w2 ⟨rfl, k2⟩; have HB2 := Lib.hid (HB.out.keep k2 (fun e => e)); have HK2 := Lib.hid k2; clear k2)
    | (refine wpList_store_blk rfl 32 (.tmp 4) (.tmp 6) rfl _ _ _ (bvs D) HB2.out rfl rfl (by rw [bvs_length, HL.out, zr_length]) (rarr_size D HL.out) (bvs_one _) ?_; intro w3 hB3 k3 z3)
    | fail)
  exact bodyPost_ret (results_cell_row rfl _ _ (w0.heap.size + 1) _ _ _ _ rfl hB3 rarr_under rfl (by rw [List.size_toArray]; exact rarr_size D HL.out)) rfl ⟨rfl, (HK.out.trans HK2.out (fun _ e => e.elim)).since k3 (fun i e => by cases e; omega)⟩
structure Ins (w : World) (B : Option Addr) (n : Nat) (ps : List Pc) : Prop where
  len : ps.length = n
  row : Row w B (ps.map Pc.v)
  pcs : PcsOk w nob ps
  max : n ≤ 1099511627776
  sum : (catP ps).length ≤ 1099510000000
theorem Ins.keep0 {w w2 : World} {B : Option Addr} {n : Nat} {ps : List Pc} (h : Ins w B n ps) (k : Kp nob w w2) : Ins w2 B n ps := ⟨h.len, h.row.keep0 k, h.pcs.keep0 k, h.max, h.sum⟩
set_option maxHeartbeats 1000000 in
set_option maxRecDepth 100000 in
theorem hash_real [Inhabited Sha.ShaTab] (v m : Nat) (ms : List UInt8) (lim : Nat) (sl : List (Value × Value)) (cl : Nat) (B : Option Addr) (n d : Nat) (ps : List Pc) (w0 : World) (hv : Vb w0 v m rmk ms lim sl cl) (ht : Sha.Tabs w0) (hp : Ins w0 B n ps) :
    Calls Tryz.prog 35 #[.pointer (some ⟨v, 0, none⟩), .slice B n d] w0 fun e w' => e = .returned (.agg (bvs (Sha.of (catP ps))).toArray) ∧ Kp nob w0 w' := by
  have hz := zr_run
  have k0 : Kp nob w0 (w0.alloc (.cells zr.toArray 32)) := (Kp.refl nob w0).alloc _
  have HB := Lib.hid (show Blk (w0.alloc (.cells zr.toArray 32)) w0.heap.size 32 zr from Blk.new' (by simp) rfl)
  have h1 := hp.keep0 k0
  have HOF := Lib.hid (rm_hash B n d ps _ (ht.keep0 k0) h1.len h1.row h1.pcs h1.max (by have := h1.sum; omega))
  have HL := Lib.hid (of_length (catP ps))
  have HK := Lib.hid k0
  have hc := (hv.keep0 k0).mk_
  clear hv ht hp k0 h1
  generalize Sha.of (catP ps) = D at *
  go_enter Tryz.func35, Tryz.ntmps35
  go_wp2_with (first
    | (refine wpList_enter_gd (by rfl) _ _ (exec_invoke 133 69 (.agg #[]) (.agg #[]) _ _ _ _ [.slice B n d] rfl rfl (by kernel_rfl) (by kernel_rfl) rfl) ?_; refine HOF.out.mono ?_; rintro e w2 ⟨rfl, k2⟩; refine ⟨_, rfl, ?_⟩; have HB2 := Lib.hid (HB.out.keep k2 (fun e => e)); have HK2 := Lib.hid k2; clear k2)
    | (refine wpList_store_blk rfl 32 (.tmp 4) (.tmp 13) rfl _ _ _ (bvs D) HB2.out rfl rfl (by rw [bvs_length, HL.out, zr_length]) (rarr_size D HL.out) (bvs_one _) ?_; intro w3 hB3 k3 z3)
    | fail)
  exact bodyPost_ret (results_cell_row rfl _ _ w0.heap.size _ _ _ _ rfl hB3 rarr_under rfl (by rw [List.size_toArray]; exact rarr_size D HL.out)) rfl ⟨rfl, (HK.out.trans HK2.out (fun _ e => e.elim)).since k3 (fun i e => by cases e; omega)⟩
theorem arr_at (X : Option Addr) (c : Nat) (w : World) : (Instr.arrayAt 39 (.slice X 32 c)).run Tryz.prog w = .ok (.pointer X) w := by kernel_rfl
set_option maxHeartbeats 2000000 in
set_option maxRecDepth 100000 in
theorem rm_derive [Inhabited Sha.ShaTab] (key : List UInt8) (hk : key.length = 32) (p : Pc) (w0 : World) (ht : Sha.Tabs w0) (hp : PcsOk w0 nob [p]) (hl : p.l.length ≤ 1099510000000) :
    Calls Tryz.prog 132 #[.agg #[], .agg (bvs key).toArray, .slice p.A p.n p.c] w0 fun e w' => e = .returned (.agg (bvs (Kdf.expand key p.l 32)).toArray) ∧ Kp nob w0 w' := by
  have hz := zrk_run
  have harr := arr_at
  have HKL := Lib.hid hk; have HT := Lib.hid ht; have HP := Lib.hid hp; have HPL := Lib.hid hl
  have hka : Blk (((w0.alloc (.cells #[] 69)).alloc (.cells (bvs key).toArray 39)).alloc (.cells zr.toArray 39)) (w0.heap.size + 1) 39 (bvs key) := (Blk.new' (by simp) rfl).alloc _
  have hzb : Blk (((w0.alloc (.cells #[] 69)).alloc (.cells (bvs key).toArray 39)).alloc (.cells zr.toArray 39)) (w0.heap.size + 2) 39 zr := Blk.new' (by simp) rfl
  have k1 : Kp nob w0 (((w0.alloc (.cells #[] 69)).alloc (.cells (bvs key).toArray 39)).alloc (.cells zr.toArray 39)) := (((Kp.refl nob w0).alloc _).alloc _).alloc _
  have HKA := Lib.hid hka; have HZB := Lib.hid hzb; have HK1 := Lib.hid k1
  have kal := kall (w0.heap.size + 1) 0 (((w0.alloc (.cells #[] 69)).alloc (.cells (bvs key).toArray 39)).alloc (.cells zr.toArray 39))
  clear hka hzb k1 hk ht hp hl
  go_enter Tryz.func132, Tryz.ntmps132
  go_wp2_with fail
  have k2 := HK1.out.alloc (.cells #[.slice p.A p.n p.c] 42)
  have hka2 := HKA.out.alloc (.cells #[.slice p.A p.n p.c] 42)
  have HZ2 := Lib.hid (HZB.out.alloc (.cells #[.slice p.A p.n p.c] 42))
  have hrow : Row ((((w0.alloc (.cells #[] 69)).alloc (.cells (bvs key).toArray 39)).alloc (.cells zr.toArray 39)).alloc (.cells #[.slice p.A p.n p.c] 42)) (some ⟨w0.heap.size + 1 + 1 + 1, 0, none⟩) ([p].map Pc.v) := by
    have := row_new (((w0.alloc (.cells #[] 69)).alloc (.cells (bvs key).toArray 39)).alloc (.cells zr.toArray 39)) [p.v] 42
    simpa [Pc.v] using this
  have hx := Kdf.expand_yes (some ⟨w0.heap.size + 1, 0, none⟩) 32 32 key 32 (some ⟨w0.heap.size + 1 + 1 + 1, 0, none⟩) 1 1 [p] _ (HT.out.keep0 k2) (by omega) HKL.out
    (.inr ⟨w0.heap.size + 1, 0, rfl, hka2.lt, fun i u hu => by rw [Nat.zero_add, hka2.cell]; exact hu⟩) (Nat.le_refl _) (by decide) (by omega) rfl hrow (HP.out.keep0 k2) (by omega) (by rw [Sha.catP_one]; exact HPL.out)
  rw [Sha.catP_one] at hx
  have HK2 := Lib.hid k2
  have HX := Lib.hid hx
  clear hx hrow hka2 k2
  refine HX.out.mono ?_
  rintro e w2 ⟨X, cX, rfl, ho, fX, k3⟩
  obtain ⟨D, hD⟩ : ∃ D, D = Kdf.expand key p.l 32 := ⟨_, rfl⟩
  have HL := Lib.hid (show D.length = 32 by rw [hD]; exact Kdf.expand_length key p.l 32)
  have HDD := Lib.hid hD
  rw [← hD] at ho
  clear hD
  have HB3 := Lib.hid (HZ2.out.keep k3 (fun e => e))
  have HK3 := Lib.hid (HK2.out.trans k3 (fun _ e => e.elim))
  have hrow := ho.row
  rcases hrow with hr | ⟨b, o, rfl, hb, hr⟩
  · have := HL.out
    rw [← bvs_length, hr] at this; cases this
  have HR := Lib.hid (show w2.rangeAt b o (bvs D) from hr)
  clear hr ho fX k3 hb HX HK2 HZ2
  have hs := HK1.out.size
  simp only [World.alloc, Array.size_push] at hs
  go_wp2_with (first
    | (refine wpList_load_mid rfl 39 (.tmp 17) rfl b o rfl (bvs D) _ HR.out rkey_under rfl (rkey_size D HL.out) ?_)
    | (refine wpList_store_blk rfl 39 (.tmp 6) (.tmp 18) rfl _ _ _ (bvs D) HB3.out rfl rfl (by rw [bvs_length, HL.out, zr_length]) (rkey_size D HL.out) (bvs_one _) ?_; intro w3 hB3 k3 z3)
    | fail)
  exact bodyPost_ret (results_cell_row rfl _ _ (w0.heap.size + 2) _ _ _ _ rfl hB3 rkey_under rfl (by rw [List.size_toArray]; exact rkey_size D HL.out)) rfl ⟨by rw [HDD.out], HK3.out.since k3 (fun i e => by cases e; omega)⟩
structure Kr (w : World) (A : Option Addr) (l : List UInt8) (w2 : World) : Prop where
  z : Blk w2 w.heap.size 39 zr
  i : IsW w2 (w.heap.size + 1) A l
  f : ∀ k, WF (w.heap.size + 1) A k → w.heap.size < k
  k : Kp nob w w2
theorem Kr.keep {w w2 w3 : World} {A : Option Addr} {l : List UInt8} (h : Kr w A l w2) (k : Kp nob w2 w3) : Kr w A l w3 := ⟨h.z.keep k (fun e => e), h.i.keep k (fun _ _ e => e), h.f, h.k.trans k (fun _ e => e.elim)⟩
theorem Kr.step {w w2 w3 : World} {A : Option Addr} {l l2 : List UInt8} (h : Kr w A l w2) (p : WPost w2 (w.heap.size + 1) A l2 w3) : ∃ A2, Kr w A2 l2 w3 := by
  obtain ⟨A2, h1, k2, g2⟩ := p
  have hs := h.k.size
  have hb := h.i.lt
  refine ⟨A2, h.z.keep k2 (fun e => Nat.lt_irrefl _ (h.f _ e)), h1, fun k hk => ?_, h.k.since k2 (fun i e => Nat.le_of_lt (h.f i e))⟩
  rcases hk with rfl | hk
  · omega
  · rcases g2 with g | ⟨j, g, hj⟩
    · rw [g] at hk; exact h.f k (.inr hk)
    · rw [g] at hk
      simp only [Option.some.injEq] at hk
      omega
set_option maxHeartbeats 4000000 in
set_option maxRecDepth 100000 in
theorem key_real [Inhabited Sha.ShaTab] (v m : Nat) (ms : List UInt8) (lim : Nat) (ps : List (Value × Value)) (cl : Nat) (s : ByteArray) (B : Option Addr) (n c : Nat) (ns : List Int) (w : World)
    (hv : Vb w v m rmk ms lim ps cl) (ht : Sha.Tabs w) (hn : ns.length = n) (hr : Row w B (ivs ns)) (hB : ∀ k, ab B = some k → k < w.heap.size) (hs : s.size ≤ 100000) (hns : n ≤ 10000) :
    Calls Tryz.prog 22 #[.pointer (some ⟨v, 0, none⟩), .string s, .slice B n c] w fun x w' => x = .returned (.agg (bvs (Kdf.expand ms (pur s ns) 32)).toArray) ∧ Kp nob w w' := by
  have hz := zrk_run
  have HV := Lib.hid hv; have HW := Lib.hid ht
  have HH := Lib.hid (And.intro hn (And.intro True.intro (And.intro hs hns)))
  have HL := Lib.hid (show (pur s ns).length ≤ 1048576 by have := pur_le s ns; omega)
  have HTX := Lib.hid (show (textB s).length ≤ 200000 by have := textB_le s; omega)
  have H0 : Hid (Kr w none [] (((w.alloc (.cells zr.toArray 39)).alloc (.cells #[.slice none 0 0] 71)).alloc (.cells #[.string s] 9))) := Lib.hid (by
    have := isW_new (w.alloc (.cells zr.toArray 39))
    rw [show (w.alloc (.cells zr.toArray 39)).heap.size = w.heap.size + 1 by simp] at this
    refine ⟨((Blk.new' rfl rfl).alloc _).alloc _, this.alloc _, fun k hk => ?_, (((Kp.refl _ _).alloc _).alloc _).alloc _⟩
    rcases hk with rfl | hk
    · omega
    · cases hk)
  have HR0 : Hid (Row (((w.alloc (.cells zr.toArray 39)).alloc (.cells #[.slice none 0 0] 71)).alloc (.cells #[.string s] 9)) (some ⟨w.heap.size + 1 + 1, 0, none⟩) (svs [s])) := Lib.hid (by
    have := row_new ((w.alloc (.cells zr.toArray 39)).alloc (.cells #[.slice none 0 0] 71)) (svs [s]) 9
    rw [show ((w.alloc (.cells zr.toArray 39)).alloc (.cells #[.slice none 0 0] 71)).heap.size = w.heap.size + 1 + 1 by simp] at this
    exact this)
  have HRN := Lib.hid hr
  have HBN := Lib.hid hB
  clear hv ht hr hB hn hs hns
  go_enter Tryz.func22, Tryz.ntmps22
  go_wp2_with fail
  refine (wText (w.heap.size + 1) none [] (some ⟨w.heap.size + 1 + 1, 0, none⟩) 1 1 [s] _ ?own rfl ?row (fun k hk => ?far) (by omega) (by have := HTX.out; simpa using (by omega : (textB s).length ≤ 1099511627776))).mono ?_
  case own => exact H0.out.i
  case row => exact HR0.out
  case far =>
    simp only [ab, Option.map_some, Option.some.injEq] at hk
    rintro (h | h)
    · omega
    · cases h
  rintro x w2 ⟨rfl, hp⟩
  obtain ⟨A2, h2⟩ := H0.out.step hp
  rw [show [] ++ [s].flatMap textB = textB s by simp] at h2
  have H2 := Lib.hid h2
  clear h2 hp H0 HR0
  go_wp2_with fail
  refine (wNum (w.heap.size + 1) A2 (textB s) B n c ns w2 H2.out.i HH.out.1 (HRN.out.keep0 H2.out.k) (fun k hk h => by have := H2.out.f k h; have := HBN.out k hk; omega) (by have := HH.out.2.2.2; omega) (by have := HTX.out; have := HH.out.2.2.2; omega)).mono ?_
  rintro x w3 ⟨rfl, hp⟩
  obtain ⟨A3, h3⟩ := H2.out.step hp
  have H3 : Hid (Kr w A3 (pur s ns) w3) := Lib.hid h3
  clear h3 hp H2
  go_wp2
  have HV3 := Lib.hid (HV.out.keep0 H3.out.k)
  have HS : Hid (Kp nob w w3.drew ∧ Vb w3.drew v m (rmk) ms lim ps cl ∧ ∃ cs, Blk w3.drew w.heap.size 39 cs ∧ cs.length = 32) := Lib.hid ⟨H3.out.k.drew, HV3.out.keep0 (Kp.refl nob _).drew, zr, H3.out.z.keep (Kp.refl nob _).drew (fun e => e), zr_length⟩
  have HMS := Lib.hid (rkey_size ms HV.out.l)
  refine reg_begin (fun w4 => Kp nob w w4 ∧ Vb w4 v m (rmk) ms lim ps cl ∧ ∃ cs, Blk w4 w.heap.size 39 cs ∧ cs.length = 32) (by kernel_rfl) HS.out (fun _ => ?_)
  refine reg_take (v := .pointer (some ⟨v, 0, none⟩)) 0 (some 16) rfl rfl (by kernel_rfl) (by kernel_rfl) (by kernel_rfl) (by rfl) HS.out (fun w hw => by go_simp) ?_
  simp only [Act.put, List.setIfInBounds_toArray, List.set_cons_zero, List.set_cons_succ]
  refine reg_take (v := .pointer (some ⟨v, 0, none⟩)) 1 (some 17) rfl rfl (by kernel_rfl) (by kernel_rfl) (by kernel_rfl) (by rfl) HS.out (fun w hw => by go_simp) ?_
  simp only [Act.put, List.setIfInBounds_toArray, List.set_cons_zero, List.set_cons_succ]
  refine reg_take (v := .pointer (some ⟨v, 0, none⟩)) 2 (some 18) rfl rfl (by kernel_rfl) (by kernel_rfl) (by kernel_rfl) (by rfl) HS.out (fun w hw => by go_simp) ?_
  simp only [Act.put, List.setIfInBounds_toArray, List.set_cons_zero, List.set_cons_succ]
  refine reg_take (v := rmk) 3 (some 19) rfl rfl (by kernel_rfl) (by kernel_rfl) (by kernel_rfl) (by rfl) HS.out (fun w hw => by have hc := hw.2.1.mk_; go_simp) ?_
  simp only [Act.put, List.setIfInBounds_toArray, List.set_cons_zero, List.set_cons_succ]
  refine reg_take (v := .pointer (some ⟨v, 0, none⟩)) 4 (some 20) rfl rfl (by kernel_rfl) (by kernel_rfl) (by kernel_rfl) (by rfl) HS.out (fun w hw => by go_simp) ?_
  simp only [Act.put, List.setIfInBounds_toArray, List.set_cons_zero, List.set_cons_succ]
  refine reg_take (v := .pointer (some ⟨v, 0, none⟩)) 5 (some 21) rfl rfl (by kernel_rfl) (by kernel_rfl) (by kernel_rfl) (by rfl) HS.out (fun w hw => by go_simp) ?_
  simp only [Act.put, List.setIfInBounds_toArray, List.set_cons_zero, List.set_cons_succ]
  refine reg_take (v := .pointer (some ⟨v, 1, none⟩)) 6 (some 22) rfl rfl (by kernel_rfl) (by kernel_rfl) (by kernel_rfl) (by rfl) HS.out (fun w hw => by go_simp) ?_
  simp only [Act.put, List.setIfInBounds_toArray, List.set_cons_zero, List.set_cons_succ]
  refine reg_load 7 (some 23) 39 (.tmp 22) rfl rfl rfl (by kernel_rfl) (by kernel_rfl) (by kernel_rfl) (by rfl) HS.out v 1 rfl (bvs ms) _ (fun w hw => hw.2.1.ms_) rkey_under rfl HMS.out ?_
  simp only [Act.put, List.setIfInBounds_toArray, List.set_cons_zero, List.set_cons_succ]
  refine reg_take (v := rmk) 9 (some 25) rfl rfl (by kernel_rfl) (by kernel_rfl) (by kernel_rfl) (by rfl) HS.out (fun w hw => by first | (go_simp; done) | kernel_rfl) ?_
  simp only [Act.put, List.setIfInBounds_toArray, List.set_cons_zero, List.set_cons_succ]
  refine reg_take (v := rmk) 10 (some 26) rfl rfl (by kernel_rfl) (by kernel_rfl) (by kernel_rfl) (by rfl) HS.out (fun w hw => by go_simp) ?_
  simp only [Act.put, List.setIfInBounds_toArray, List.set_cons_zero, List.set_cons_succ]
  refine reg_call 8 (some 24) rfl rfl (by kernel_rfl) (by rfl) _ _ (exec_func 42 _ _ [.pointer (some ⟨w.heap.size + 1, 0, none⟩)] rfl (by kernel_rfl) rfl) ?_
  have H3d := Lib.hid (H3.out.keep (Kp.refl nob w3).drew)
  refine (wBytes (w.heap.size + 1) A3 (pur s ns) _ H3d.out.i (by have := HL.out; omega)).mono ?_
  rintro x w5 ⟨Y, cY, rfl, hY, k5, fY, nY⟩
  have k05 := H3d.out.k.trans k5 (fun _ e => e.elim)
  have HA : Hid (PcsOk w5 nob [⟨Y, (pur s ns).length, cY, pur s ns⟩]) := Lib.hid (fun q hq => by
    simp only [List.mem_singleton] at hq
    subst hq
    exact ⟨rfl, hY.row, .inr (fun k e h => h), hY.cap.1, hY.cap.2⟩)
  have HS5 : Hid (Kp nob w w5 ∧ Vb w5 v m (rmk) ms lim ps cl ∧ ∃ cs, Blk w5 w.heap.size 39 cs ∧ cs.length = 32) := Lib.hid ⟨k05, HS.out.2.1.keep0 k5, zr, H3d.out.z.keep k5 (fun e => e), zr_length⟩
  have HK5 := Lib.hid k05
  clear hY k5 fY nY k05
  refine ⟨_, rfl, HS5.out, fun _ => ?_⟩
  simp only [Act.put, List.setIfInBounds_toArray, List.set_cons_zero, List.set_cons_succ]
  refine reg_call 11 (some 27) rfl rfl (by kernel_rfl) (by rfl) _ _ (exec_invoke 132 69 (.agg #[]) (.agg #[]) _ _ _ _ [.agg (bvs ms).toArray, .slice Y (pur s ns).length cY] rfl rfl (by kernel_rfl) (by kernel_rfl) rfl) ?_
  refine (rm_derive ms HV.out.l ⟨Y, (pur s ns).length, cY, pur s ns⟩ w5 (HW.out.keep0 HK5.out) HA.out (by have := HL.out; show (pur s ns).length ≤ _; omega)).mono ?_
  rintro x w6 ⟨rfl, k6⟩
  have HK6 := Lib.hid (HK5.out.trans k6 (fun _ e => e.elim))
  have HS6 : Hid (Kp nob w w6 ∧ Vb w6 v m rmk ms lim ps cl ∧ ∃ cs, Blk w6 w.heap.size 39 cs ∧ cs.length = 32) := Lib.hid ⟨HK6.out, HS5.out.2.1.keep0 k6, let ⟨cs, h1, h2⟩ := HS5.out.2.2; ⟨cs, h1.keep k6 (fun e => e), h2⟩⟩
  clear k6
  obtain ⟨D, hD⟩ : ∃ D, D = Kdf.expand ms (pur s ns) 32 := ⟨_, rfl⟩
  have HTL := Lib.hid (show (bvs D).length = 32 by rw [bvs_length, hD]; exact Kdf.expand_length _ _ _)
  have HDD := Lib.hid hD
  rw [← hD]
  clear hD
  refine ⟨_, rfl, HS6.out, fun _ => ?_⟩
  simp only [Act.put, List.setIfInBounds_toArray, List.set_cons_zero, List.set_cons_succ]
  obtain ⟨cs, hcs, hcl⟩ := HS6.out.2.2
  refine reg_store 12 none 39 (.tmp 6) (.tmp 27) rfl rfl rfl (by kernel_rfl) (by rfl) w.heap.size 39 cs (bvs D) hcs rfl rfl (by rw [HTL.out, hcl]) (by rw [HTL.out]; kernel_rfl) (bvs_one _) ?_
  intro w7 hB7 k7 z7
  have HK7 := Lib.hid (HK6.out.since k7 (fun i e => by have e : i = w.heap.size := e; omega))
  have hv1 := HV.out.b.lt
  have hm1 := HV.out.s.lt
  have HB7 := Lib.hid hB7
  refine ⟨⟨HK7.out, HS6.out.2.1.keep k7 (fun e => by have e : v = w.heap.size := e; omega) (fun e => by have e : m = w.heap.size := e; omega), ⟨_, hB7, HTL.out⟩⟩, fun _ => ?_⟩
  clear k7 z7 hB7 hcs hcl hv1 hm1
  simp only [Act.put, List.setIfInBounds_toArray, List.set_cons_zero, List.set_cons_succ]
  refine reg_end (by kernel_rfl) ?_
  go_wp2
  have hsz : (Tryz.prog.info? 39).map (·.size) = some (bvs D).toArray.size := by rw [List.size_toArray, HTL.out]; kernel_rfl
  exact bodyPost_ret (results_cell_row rfl _ _ w.heap.size _ _ _ _ rfl HB7.out rkey_under rfl hsz) rfl ⟨by rw [HDD.out], HK7.out⟩
end Go.Proofs.YtiimfhacnfdmhaaGreat.Vault
