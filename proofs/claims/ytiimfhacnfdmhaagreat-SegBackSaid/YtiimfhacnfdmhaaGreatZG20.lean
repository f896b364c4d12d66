/- Lemmas: VauT VauU VauG VauV VauH VauI. -/
import Derived.Test.YtiimfhacnfdmhaaGreatZG10
import Derived.Test.YtiimfhacnfdmhaaGreatZG19
set_option linter.unusedVariables false
set_option linter.unusedSimpArgs false
namespace Go.Proofs.YtiimfhacnfdmhaaGreat.Vault
open Go Go.RowKit Kit
open Ideal (Arg Args)
open Sha (Pc PcsOk catP)
open Gcm (SealAt Aad gs opened gs_length tag stream)
open Aes (allW)
open Field (Sq)
theorem args_aad {w : World} {F : Nat → Prop} {B : Option Addr} {m : Nat} {ps : List Pc} (h : Args w F B m ps) (hl : (catP ps).length ≤ 1048576) : Aad w B m ps := ⟨h.len, h.row, h.pcs.mono (fun _ e => e.elim), h.nil, h.max, by omega⟩
theorem nonce_size (l : List UInt8) (h : l.length = 12) : (Tryz.prog.info? 154).map (·.size) = some (bvs l).length := by rw [bvs_length, h]; kernel_rfl
theorem key_size' (l : List UInt8) (h : l.length = 32) : (Tryz.prog.info? 39).map (·.size) = some (bvs l).length := by rw [bvs_length, h]; kernel_rfl
set_option maxHeartbeats 1000000 in
set_option maxRecDepth 100000 in
theorem sealerOf_any [Inhabited Field.SqTab] (key : List UInt8) (hk : key.length = 32) (w : World) (hs : Sq w) :
    Calls Tryz.prog 138 #[.agg (bvs key).toArray] w fun e w' => ∃ p, e = .returned (.pointer (some ⟨p, 0, none⟩)) ∧ SealAt w' p (allW key) 13 ∧ Kp nob w w' := by
  have kall := key_all w.heap.size 0 (w.alloc (.cells (bvs key).toArray 39))
  have HB := Lib.hid (Blk.new w 39 (bvs key))
  have HK := Lib.hid hk
  have k0 := (Kp.refl nob w).alloc (.cells (bvs key).toArray 39)
  have HK0 := Lib.hid k0
  have HSQ := Lib.hid (hs.keep0 k0)
  clear hk hs k0
  go_enter Tryz.func138, Tryz.ntmps138
  go_wp2_with fail
  refine (Gcm.new_yes 8 key (some ⟨w.heap.size, 0, none⟩) 32 _ HSQ.out (by rw [HK.out]) (.inr rfl) (.inr ⟨w.heap.size, 0, rfl, HB.out.lt, fun i u hu => by rw [Nat.zero_add, HB.out.cell]; exact hu⟩) (by omega)).mono ?_
  rintro e w1 ⟨p, rfl, h1, h2, h3⟩
  have H1 := Lib.hid h1; have H3 := Lib.hid (HK0.out.trans h3 (fun _ e => e.elim))
  clear h1 h2 h3 kall
  go_wp2
  go_ret
  exact ⟨p, rfl, H1.out, H3.out⟩
structure Rb (w0 : World) (l : List UInt8) (w : World) : Prop where
  p : Blk w (w0.heap.size + 1) 157 (bvs l)
  k : Kp nob w0 w
theorem Rb.keep {w0 w w2 : World} {l : List UInt8} (h : Rb w0 l w) (k : Kp nob w w2) : Rb w0 l w2 := ⟨h.p.keep k (fun e => e), h.k.trans k (fun _ e => e.elim)⟩
theorem Rb.key {w0 w : World} {k n : List UInt8} (h : Rb w0 (k ++ n) w) : w.rangeAt (w0.heap.size + 1) 0 (bvs k) := fun i v hv => by
  rw [Nat.zero_add, h.p.cell, bvs_append, List.getElem?_append_left (List.getElem?_eq_some_iff.1 hv).1]; exact hv
theorem Rb.nonce {w0 w : World} {k n : List UInt8} (h : Rb w0 (k ++ n) w) (hk : k.length = 32) : w.rangeAt (w0.heap.size + 1) 32 (bvs n) := fun i v hv => by
  rw [h.p.cell, bvs_append, List.getElem?_append_right (by rw [bvs_length, hk]; omega), bvs_length, hk, show 32 + i - 32 = i by omega]; exact hv
theorem Rb.new (w0 : World) (l : List UInt8) : Rb w0 l ((w0.alloc (.cells #[] 69)).alloc (.cells (bvs l).toArray 157)).drew :=
  ⟨(Blk.new' (by simp) rfl).keep (Kp.refl nob _).drew (fun e => e), (((Kp.refl _ _).alloc _).alloc _).drew⟩
set_option maxHeartbeats 2000000 in
set_option maxRecDepth 100000 in
theorem rm_seal [Inhabited Field.SqTab] (key nonce : List UInt8) (hk : key.length = 32) (hn : nonce.length = 12) (T : Option Addr) (nt ct' : Nat) (text : List UInt8) (B : Option Addr) (m d : Nat) (ps : List Pc) (F : Nat → Prop) (w0 : World)
    (hs : Sq w0) (ht : Arg w0 nob T nt ct' text) (hp : Args w0 F B m ps) (lt : text.length ≤ 1048576) (lp : (catP ps).length ≤ 1048576) :
    Calls Tryz.prog 135 #[.agg #[], .agg (bvs (key ++ nonce)).toArray, .slice T nt ct', .slice B m d] w0 fun e w' => ∃ X cX, e = .returned (.tuple #[.slice X (text.length + 16) cX, .int .i64 0]) ∧ Kit.Own 5 w' X (text.length + 16) cX (bvs (gs (allW key) 13 nonce text (catP ps))) ∧ Kp nob w0 w' ∧ ∀ k, ab X = some k → w0.heap.size ≤ k := by
  have HT := Lib.hid ht; have HP := Lib.hid (args_aad hp lp)
  have HKN := Lib.hid (And.intro hk hn)
  have HLT := Lib.hid (And.intro lt lp)
  have HM := Lib.hid (Rb.new w0 (key ++ nonce))
  have HSQ := Lib.hid hs
  clear ht hp lp hk hn hs lt
  go_enter Tryz.func135, Tryz.ntmps135
  go_wp2
  generalize hw1 : ((w0.alloc (.cells #[] 69)).alloc (.cells (bvs (key ++ nonce)).toArray 157)) = wb at *
  have HS : Hid (Rb w0 (key ++ nonce) wb.drew) := HM
  clear hw1
  have HKS := Lib.hid (key_size' key HKN.out.1)
  have HNS := Lib.hid (nonce_size nonce HKN.out.2)
  refine reg_begin (Rb w0 (key ++ nonce)) (by kernel_rfl) HS.out (fun _ => ?_)
  refine reg_take (v := .pointer (some ⟨w0.heap.size + 1, 0, none⟩)) 0 (some 10) rfl rfl (by kernel_rfl) (by kernel_rfl) (by kernel_rfl) (by rfl) HS.out (fun w hw => by go_simp) ?_
  simp only [Act.put, List.setIfInBounds_toArray, List.set_cons_zero, List.set_cons_succ]
  refine reg_load 1 (some 11) 39 (.tmp 10) rfl rfl rfl (by kernel_rfl) (by kernel_rfl) (by kernel_rfl) (by rfl) HS.out (w0.heap.size + 1) 0 rfl (bvs key) _ (fun w hw => hw.key) key_under rfl HKS.out ?_
  simp only [Act.put, List.setIfInBounds_toArray, List.set_cons_zero, List.set_cons_succ]
  refine reg_take (v := .pointer (some ⟨w0.heap.size + 1, 32, none⟩)) 3 (some 13) rfl rfl (by kernel_rfl) (by kernel_rfl) (by kernel_rfl) (by rfl) HS.out (fun w hw => by go_simp) ?_
  simp only [Act.put, List.setIfInBounds_toArray, List.set_cons_zero, List.set_cons_succ]
  refine reg_load 4 (some 14) 154 (.tmp 13) rfl rfl rfl (by kernel_rfl) (by kernel_rfl) (by kernel_rfl) (by rfl) HS.out (w0.heap.size + 1) 32 rfl (bvs nonce) _ (fun w hw => hw.nonce HKN.out.1) arrN rfl HNS.out ?_
  simp only [Act.put, List.setIfInBounds_toArray, List.set_cons_zero, List.set_cons_succ]
  refine reg_take (v := .slice T nt ct') 5 (some 15) rfl rfl (by kernel_rfl) (by kernel_rfl) (by kernel_rfl) (by rfl) HS.out (fun w hw => by go_simp) ?_
  simp only [Act.put, List.setIfInBounds_toArray, List.set_cons_zero, List.set_cons_succ]
  refine reg_take (v := .slice B m d) 6 (some 16) rfl rfl (by kernel_rfl) (by kernel_rfl) (by kernel_rfl) (by rfl) HS.out (fun w hw => by go_simp) ?_
  simp only [Act.put, List.setIfInBounds_toArray, List.set_cons_zero, List.set_cons_succ]
  refine reg_call 2 (some 12) rfl rfl (by kernel_rfl) (by rfl) _ _ (exec_func 138 _ _ [.agg (bvs key).toArray] rfl (by kernel_rfl) rfl) ?_
  refine (sealerOf_any key HKN.out.1 _ (HSQ.out.keep0 HS.out.k)).mono ?_
  rintro e w2 ⟨q, rfl, h1, k2⟩
  have HS2 : Hid (Rb w0 (key ++ nonce) w2) := Lib.hid (HS.out.keep k2)
  have H1 := Lib.hid h1
  clear h1 k2 HS HM
  refine ⟨_, rfl, HS2.out, fun _ => ?_⟩
  simp only [Act.put, List.setIfInBounds_toArray, List.set_cons_zero, List.set_cons_succ]
  refine reg_call 7 (some 17) rfl rfl (by kernel_rfl) (by rfl) _ _ (exec_func 140 _ _ [.pointer (some ⟨q, 0, none⟩), .agg (bvs nonce).toArray, .slice T nt ct', .slice B m d] rfl (by kernel_rfl) rfl) ?_
  refine (Gcm.seal_yes q (allW key) 13 nonce text T nt ct' B m d ps w2 H1.out HKN.out.2 HT.out.len HT.out.cap (HT.out.row.keep0 HS2.out.k) (HP.out.keep0 HS2.out.k) (by rw [← HT.out.len]; exact HLT.out.1) HLT.out.2).mono ?_
  rintro e w3 ⟨X, cX, rfl, hx, k3, f3⟩
  rw [← HT.out.len] at hx ⊢
  have HX := Lib.hid hx
  have HFX := Lib.hid (fun k e => Nat.le_trans HS2.out.k.size (f3 k e))
  have HS3 : Hid (Rb w0 (key ++ nonce) w3) := Lib.hid (HS2.out.keep k3)
  clear hx k3 f3
  refine ⟨_, rfl, HS3.out, fun _ => ?_⟩
  simp only [Act.put, List.setIfInBounds_toArray, List.set_cons_zero, List.set_cons_succ]
  refine reg_take (v := .slice X (text.length + 16) cX) 8 (some 18) rfl rfl (by kernel_rfl) (by kernel_rfl) (by kernel_rfl) (by rfl) HS3.out (fun w hw => by go_simp) ?_
  simp only [Act.put, List.setIfInBounds_toArray, List.set_cons_zero, List.set_cons_succ]
  refine reg_take (v := .int .i64 0) 9 (some 19) rfl rfl (by kernel_rfl) (by kernel_rfl) (by kernel_rfl) (by rfl) HS3.out (fun w hw => by go_simp) ?_
  simp only [Act.put, List.setIfInBounds_toArray, List.set_cons_zero, List.set_cons_succ]
  refine reg_take (v := .slice X (text.length + 16) cX) 10 (some 8) rfl rfl (by kernel_rfl) (by kernel_rfl) (by kernel_rfl) (by rfl) HS3.out (fun w hw => by go_simp) ?_
  simp only [Act.put, List.setIfInBounds_toArray, List.set_cons_zero, List.set_cons_succ]
  refine reg_take (v := .int .i64 0) 11 (some 9) rfl rfl (by kernel_rfl) (by kernel_rfl) (by kernel_rfl) (by rfl) HS3.out (fun w hw => by go_simp) ?_
  simp only [Act.put, List.setIfInBounds_toArray, List.set_cons_zero, List.set_cons_succ]
  refine reg_end (by kernel_rfl) ?_
  go_wp2
  go_ret2
  exact ⟨X, cX, rfl, HX.out, HS3.out.k, HFX.out⟩
set_option maxHeartbeats 2000000 in
set_option maxRecDepth 100000 in
theorem rm_open [Inhabited Field.SqTab] (key nonce : List UInt8) (hk : key.length = 32) (hn : nonce.length = 12) (T : Option Addr) (nt ct' : Nat) (b text : List UInt8) (B : Option Addr) (m d : Nat) (ps : List Pc) (F : Nat → Prop) (w0 : World)
    (hs : Sq w0) (ht : Arg w0 nob T nt ct' b) (hp : Args w0 F B m ps) (lt : text.length ≤ 1048576) (hb : b = gs (allW key) 13 nonce text (catP ps)) (lp : (catP ps).length ≤ 1048576) :
    Calls Tryz.prog 134 #[.agg #[], .agg (bvs (key ++ nonce)).toArray, .slice T nt ct', .slice B m d] w0 fun e w' => ∃ X cX, e = .returned (.tuple #[.slice X text.length cX, .int .i64 0]) ∧ Row w' X (bvs text) ∧ Kp nob w0 w' ∧ ∀ k, ab X = some k → w0.heap.size ≤ k := by
  have HT := Lib.hid ht; have HP := Lib.hid (args_aad hp lp)
  have HKN := Lib.hid (And.intro hk hn)
  have HLT := Lib.hid (And.intro lt lp)
  have HM := Lib.hid (Rb.new w0 (key ++ nonce))
  have HSQ := Lib.hid hs
  have HBB := Lib.hid hb
  clear hb
  clear ht hp lp hk hn hs lt
  go_enter Tryz.func134, Tryz.ntmps134
  go_wp2
  generalize hw1 : ((w0.alloc (.cells #[] 69)).alloc (.cells (bvs (key ++ nonce)).toArray 157)) = wb at *
  have HS : Hid (Rb w0 (key ++ nonce) wb.drew) := HM
  clear hw1
  have HKS := Lib.hid (key_size' key HKN.out.1)
  have HNS := Lib.hid (nonce_size nonce HKN.out.2)
  refine reg_begin (Rb w0 (key ++ nonce)) (by kernel_rfl) HS.out (fun _ => ?_)
  refine reg_take (v := .pointer (some ⟨w0.heap.size + 1, 0, none⟩)) 0 (some 13) rfl rfl (by kernel_rfl) (by kernel_rfl) (by kernel_rfl) (by rfl) HS.out (fun w hw => by go_simp) ?_
  simp only [Act.put, List.setIfInBounds_toArray, List.set_cons_zero, List.set_cons_succ]
  refine reg_load 1 (some 14) 39 (.tmp 13) rfl rfl rfl (by kernel_rfl) (by kernel_rfl) (by kernel_rfl) (by rfl) HS.out (w0.heap.size + 1) 0 rfl (bvs key) _ (fun w hw => hw.key) key_under rfl HKS.out ?_
  simp only [Act.put, List.setIfInBounds_toArray, List.set_cons_zero, List.set_cons_succ]
  refine reg_take (v := .pointer (some ⟨w0.heap.size + 1, 32, none⟩)) 3 (some 16) rfl rfl (by kernel_rfl) (by kernel_rfl) (by kernel_rfl) (by rfl) HS.out (fun w hw => by go_simp) ?_
  simp only [Act.put, List.setIfInBounds_toArray, List.set_cons_zero, List.set_cons_succ]
  refine reg_load 4 (some 17) 154 (.tmp 16) rfl rfl rfl (by kernel_rfl) (by kernel_rfl) (by kernel_rfl) (by rfl) HS.out (w0.heap.size + 1) 32 rfl (bvs nonce) _ (fun w hw => hw.nonce HKN.out.1) arrN rfl HNS.out ?_
  simp only [Act.put, List.setIfInBounds_toArray, List.set_cons_zero, List.set_cons_succ]
  refine reg_take (v := .slice T nt ct') 5 (some 18) rfl rfl (by kernel_rfl) (by kernel_rfl) (by kernel_rfl) (by rfl) HS.out (fun w hw => by go_simp) ?_
  simp only [Act.put, List.setIfInBounds_toArray, List.set_cons_zero, List.set_cons_succ]
  refine reg_take (v := .slice B m d) 6 (some 19) rfl rfl (by kernel_rfl) (by kernel_rfl) (by kernel_rfl) (by rfl) HS.out (fun w hw => by go_simp) ?_
  simp only [Act.put, List.setIfInBounds_toArray, List.set_cons_zero, List.set_cons_succ]
  refine reg_call 2 (some 15) rfl rfl (by kernel_rfl) (by rfl) _ _ (exec_func 138 _ _ [.agg (bvs key).toArray] rfl (by kernel_rfl) rfl) ?_
  refine (sealerOf_any key HKN.out.1 _ (HSQ.out.keep0 HS.out.k)).mono ?_
  rintro e w2 ⟨q, rfl, h1, k2⟩
  have HS2 : Hid (Rb w0 (key ++ nonce) w2) := Lib.hid (HS.out.keep k2)
  have H1 := Lib.hid h1
  clear h1 k2 HS HM
  refine ⟨_, rfl, HS2.out, fun _ => ?_⟩
  simp only [Act.put, List.setIfInBounds_toArray, List.set_cons_zero, List.set_cons_succ]
  have hbl : b.length = text.length + 16 := by rw [HBB.out, gs_length]
  have hnt : nt = text.length + 16 := by rw [← HT.out.len, hbl]
  have hy : (tag (allW key) 13 nonce (catP ps) (b.take text.length) == b.drop text.length) = true := by
    rw [HBB.out, Gcm.gs_take, Gcm.gs_drop]; simp
  have hst : stream (allW key) 13 nonce (b.take text.length) = text := by rw [HBB.out, Gcm.gs_take, Gcm.stream_stream]
  subst hnt
  refine reg_call 7 (some 20) rfl rfl (by kernel_rfl) (by rfl) _ _ (exec_func 139 _ _ [.pointer (some ⟨q, 0, none⟩), .agg (bvs nonce).toArray, .slice T (text.length + 16) ct', .slice B m d] rfl (by kernel_rfl) rfl) ?_
  refine (Gcm.open_any q (allW key) 13 nonce b T text.length ct' B m d ps w2 H1.out HKN.out.2 hbl HT.out.cap (HT.out.row.keep0 HS2.out.k) (HP.out.keep0 HS2.out.k) HLT.out.1 HLT.out.2 true hy).mono ?_
  rintro e w3 ⟨k3, hx, _⟩
  obtain ⟨X, cX, rfl, ho, f3⟩ := hx rfl
  rw [hst] at ho
  have HX := Lib.hid ho.row
  have HFX := Lib.hid (fun k e => Nat.le_trans HS2.out.k.size (f3 k e))
  have HS3 : Hid (Rb w0 (key ++ nonce) w3) := Lib.hid (HS2.out.keep k3)
  clear ho hx k3 f3 hbl hy hst
  refine ⟨_, rfl, HS3.out, fun _ => ?_⟩
  simp only [Act.put, List.setIfInBounds_toArray, List.set_cons_zero, List.set_cons_succ]
  refine reg_take (v := .tuple #[.slice X text.length cX, .int .i64 0]) 8 (some 12) rfl rfl (by kernel_rfl) (by kernel_rfl) (by kernel_rfl) (by rfl) HS3.out (fun w hw => by go_simp) ?_
  simp only [Act.put, List.setIfInBounds_toArray, List.set_cons_zero, List.set_cons_succ]
  refine reg_take (v := .slice X text.length cX) 9 (some 21) rfl rfl (by kernel_rfl) (by kernel_rfl) (by kernel_rfl) (by rfl) HS3.out (fun w hw => by go_simp) ?_
  simp only [Act.put, List.setIfInBounds_toArray, List.set_cons_zero, List.set_cons_succ]
  refine reg_take (v := .int .i64 0) 10 (some 22) rfl rfl (by kernel_rfl) (by kernel_rfl) (by kernel_rfl) (by rfl) HS3.out (fun w hw => by go_simp) ?_
  simp only [Act.put, List.setIfInBounds_toArray, List.set_cons_zero, List.set_cons_succ]
  refine reg_take (v := .slice X text.length cX) 11 (some 10) rfl rfl (by kernel_rfl) (by kernel_rfl) (by kernel_rfl) (by rfl) HS3.out (fun w hw => by go_simp) ?_
  simp only [Act.put, List.setIfInBounds_toArray, List.set_cons_zero, List.set_cons_succ]
  refine reg_take (v := .int .i64 0) 12 (some 11) rfl rfl (by kernel_rfl) (by kernel_rfl) (by kernel_rfl) (by rfl) HS3.out (fun w hw => by go_simp) ?_
  simp only [Act.put, List.setIfInBounds_toArray, List.set_cons_zero, List.set_cons_succ]
  refine reg_end (by kernel_rfl) ?_
  go_wp2
  go_ret2
  exact ⟨X, cX, rfl, HX.out, HS3.out.k, HFX.out⟩
end Go.Proofs.YtiimfhacnfdmhaaGreat.Vault
namespace Go.Proofs.YtiimfhacnfdmhaaGreat.Vault
open Go Go.RowKit Kit
open Ideal (Arg Args)
open Sha (Pc PcsOk catP)
open Gcm (gs gs_length)
open Aes (allW)
open Field (Sq)
theorem place_sizeR (l : List UInt8) (h : l.length = 44) : (Tryz.prog.info? 157).map (·.size) = some (bvs l).length := by rw [bvs_length, h]; kernel_rfl
set_option maxHeartbeats 1000000 in
set_option maxRecDepth 100000 in
theorem real_any (ms : List UInt8) (lim : Int) (w : World) (h : ms.length = 32) :
    Calls Tryz.prog 18 #[.agg (bvs ms).toArray, .int .i64 lim] w fun e w' => ∃ v m, e = .returned (.pointer (some ⟨v, 0, none⟩)) ∧ Vb w' v m rmk ms lim.toNat [] 0 ∧ Kp nob w w' ∧ w.heap.size ≤ v ∧ w.heap.size ≤ m := by
  have HM := Lib.hid h
  have HB := Lib.hid (Blk.new w 39 (bvs ms))
  go_enter Tryz.func18, Tryz.ntmps18
  go_wp2_with (first
    | (refine wpList_load_blk rfl 39 (.tmp 2) rfl _ _ _ HB.out rfl _ key_under rfl (key_size ms HM.out) ?_)
    | (go_at_call 39; refine (newVault_any _ _ ms lim _ HM.out).mono ?_; rintro e w2 ⟨v, m, rfl, hv, k2, n1, n2⟩)
    | fail)
  go_ret
  simp at n1 n2
  exact ⟨v, m, rfl, hv, ((Kp.refl _ _).alloc _).trans k2 (fun _ e => e.elim), by omega, by omega⟩
set_option maxHeartbeats 4000000 in
set_option maxRecDepth 100000 in
theorem seal_realG [Inhabited Field.SqTab] (dif : List UInt8 → List UInt8 → Bool) (Z : World → Prop) (hN : NoteC dif Z) (v m : Nat) (ms : List UInt8) (lim : Nat) (sl : List (Pl × List UInt8)) (cl : Nat) (G : Nat → Prop) (key : List UInt8) (hk : key.length = 32) (e s : Int)
    (T : Option Addr) (nt ct' : Nat) (text : List UInt8) (B : Option Addr) (md d : Nat) (ps : List Pc) (w0 : World)
    (hv : Vs G w0 v m rmk ms lim sl cl) (hGs : ∀ k, G k → k < w0.heap.size) (ht : Arg w0 (vF v m) T nt ct' text) (hp : Args w0 (vF v m) B md ps) (lt : text.length ≤ 1048576) (lp : (catP ps).length ≤ 1048576) (hc : cl ≤ 1099511627776)
    (hr : refu lim e s = 0) (hs : Sq w0) (hz : ∀ w', Kp nob w0 w' → Z w') :
    Calls Tryz.prog 65 #[.pointer (some ⟨v, 0, none⟩), .agg (bvs key).toArray, .int .i64 e, .int .i64 s, .slice T nt ct', .slice B md d] w0 fun x w' => ∃ X cX, x = .returned (.tuple #[.slice X (text.length + 16) cX, .int .i64 0]) ∧
      Vs (fun i => G i ∨ ab X = some i) w' v m rmk ms lim (upd sl (pl key (nonce e s) hk (nonce_length e s)) text) (cl + clash dif sl (pl key (nonce e s) hk (nonce_length e s)) text) ∧ Kp (vF v m) w0 w' ∧ Arg w' (vF v m) X (text.length + 16) cX (gs (allW key) 13 (nonce e s) text (catP ps)) ∧ ∀ k, ab X = some k → w0.heap.size ≤ k := by
  have k0 := (Kp.refl nob w0).alloc (.cells (bvs key).toArray 39)
  have HB := Lib.hid (Blk.new w0 39 (bvs key))
  have HV0 := Lib.hid hv; have HT0 := Lib.hid ht; have HP0 := Lib.hid hp
  have HR := Lib.hid (show Calls Tryz.prog 89 #[.pointer (some ⟨v, 0, none⟩), .int .i64 e, .int .i64 s] (w0.alloc (.cells (bvs key).toArray 39)) fun x w' => x = .returned (.int .i64 0) ∧ (w0.alloc (.cells (bvs key).toArray 39)) = w' by
    have := refused_any v m rmk ms lim _ cl e s _ (hv.b.keep0 k0)
    rw [hr] at this; exact this)
  have HK0 := Lib.hid k0
  have HH := Lib.hid (And.intro hk (And.intro lt (And.intro lp hc)))
  obtain ⟨P0, hP0⟩ : ∃ P0, P0 = pl key (nonce e s) hk (nonce_length e s) := ⟨_, rfl⟩
  rw [← hP0]
  have HPV := Lib.hid (show pv P0 = .agg (bvs (key ++ nonce e s)).toArray by rw [hP0]; rfl)
  have HBP := Lib.hid (fun w => build_place key (nonce e s) hk (nonce_length e s) w)
  rw [← hP0, HPV.out] at HBP
  have HSQ := Lib.hid hs
  clear hv ht hp k0 hr hP0 hs
  go_enter Tryz.func65, Tryz.ntmps65
  go_wp2_with fail
  refine HR.out.mono ?_
  rintro x w1 ⟨rfl, rfl⟩
  clear HR
  clear hk lt lp hc
  go_wp2
  rename_i K1 hK1
  have hcont : ∀ (g : Nat) (w9 : World), Kp nob w0 w9 → Blk w9 g 157 (bvs (key ++ nonce e s)) → w0.heap.size ≤ g → K1 { tmps := #[.pointer (some ⟨v, 0, none⟩), .agg (bvs key).toArray, .int .i64 e, .int .i64 s, .slice T nt ct', .slice B md d, undef, .pointer (some ⟨w0.heap.size, 0, none⟩), undef, undef, undef, undef, .slice none 0 0, .int .i64 0, .int .i64 0, .pointer (some ⟨g, 0, none⟩), undef, undef, .pointer (some ⟨v, 0, none⟩), .int .i64 e, .int .i64 s, .int .i64 0, .int .i64 0, .bool false, undef, .agg (bvs key).toArray, .int .i64 e, .int .i64 s, .agg (bvs (nonce e s)).toArray, .agg (bvs (key ++ nonce e s)).toArray, undef, undef, undef, undef, undef, undef, undef, undef, undef, undef, undef, undef, undef, undef, undef, undef, undef, undef, undef], defers := [] } w9 := by
    intro g w9 k9 b9 hg
    have HK9 := Lib.hid k9
    have HT9 := Lib.hid ((HT0.out.keep0 k9).mono (G := nob) (fun i _ e => e.elim))
    have HP9 := Lib.hid (HP0.out.keep0 k9)
    have HS : Hid (Kp nob w0 w9.drew ∧ Blk w9.drew g 157 (bvs (key ++ nonce e s))) := Lib.hid ⟨k9.drew, b9.keep (Kp.refl nob _).drew (fun e => e)⟩
    have HPS := Lib.hid (place_sizeR (key ++ nonce e s) (by rw [List.length_append, HH.out.1, nonce_length]))
    clear hg k9 b9
    apply hK1
    go_wp2
    refine reg_begin (fun w => Kp nob w0 w ∧ Blk w g 157 (bvs (key ++ nonce e s))) (by kernel_rfl) HS.out (fun _ => ?_)
    refine reg_take (v := .pointer (some ⟨v, 0, none⟩)) 0 (some 31) rfl rfl (by kernel_rfl) (by kernel_rfl) (by kernel_rfl) (by rfl) HS.out (fun w hw => by go_simp) ?_
    simp only [Act.put, List.setIfInBounds_toArray, List.set_cons_zero, List.set_cons_succ]
    refine reg_take (v := .pointer (some ⟨v, 0, none⟩)) 1 (some 32) rfl rfl (by kernel_rfl) (by kernel_rfl) (by kernel_rfl) (by rfl) HS.out (fun w hw => by go_simp) ?_
    simp only [Act.put, List.setIfInBounds_toArray, List.set_cons_zero, List.set_cons_succ]
    refine reg_take (v := .pointer (some ⟨v, 0, none⟩)) 2 (some 33) rfl rfl (by kernel_rfl) (by kernel_rfl) (by kernel_rfl) (by rfl) HS.out (fun w hw => by go_simp) ?_
    simp only [Act.put, List.setIfInBounds_toArray, List.set_cons_zero, List.set_cons_succ]
    refine reg_take (v := rmk) 3 (some 34) rfl rfl (by kernel_rfl) (by kernel_rfl) (by kernel_rfl) (by rfl) HS.out (fun w hw => by have hc := (HV0.out.keep0 hw.1).b.mk_; go_simp) ?_
    simp only [Act.put, List.setIfInBounds_toArray, List.set_cons_zero, List.set_cons_succ]
    refine reg_load 4 (some 35) 157 (.tmp 15) rfl rfl rfl (by kernel_rfl) (by kernel_rfl) (by kernel_rfl) (by rfl) HS.out g 0 rfl (bvs (key ++ nonce e s)) _ (fun w hw => hw.2.range) place_under rfl HPS.out ?_
    simp only [Act.put, List.setIfInBounds_toArray, List.set_cons_zero, List.set_cons_succ]
    refine reg_take (v := .slice T nt ct') 5 (some 36) rfl rfl (by kernel_rfl) (by kernel_rfl) (by kernel_rfl) (by rfl) HS.out (fun w hw => by go_simp) ?_
    simp only [Act.put, List.setIfInBounds_toArray, List.set_cons_zero, List.set_cons_succ]
    refine reg_take (v := .slice B md d) 6 (some 37) rfl rfl (by kernel_rfl) (by kernel_rfl) (by kernel_rfl) (by rfl) HS.out (fun w hw => by go_simp) ?_
    simp only [Act.put, List.setIfInBounds_toArray, List.set_cons_zero, List.set_cons_succ]
    refine reg_call 7 (some 38) rfl rfl (by kernel_rfl) (by rfl) _ _ (exec_invoke 135 69 (.agg #[]) (.agg #[]) _ _ _ _ [.agg (bvs (key ++ nonce e s)).toArray, .slice T nt ct', .slice B md d] rfl rfl (by kernel_rfl) (by kernel_rfl) rfl) ?_
    have kd := (Kp.refl nob w9).drew
    refine (rm_seal key (nonce e s) HH.out.1 (nonce_length e s) T nt ct' text B md d ps (vF v m) _ ((HSQ.out.keep0 HK9.out).keep0 kd) (HT9.out.keep0 kd) (HP9.out.keep0 kd) HH.out.2.1 HH.out.2.2.1).mono ?_
    rintro x w2 ⟨X, cX, rfl, hx, k2, f2⟩
    have k02 := (HK9.out.trans kd (fun _ e => e.elim)).trans k2 (fun _ e => e.elim)
    have HX := Lib.hid hx
    have HFX := Lib.hid (fun k e => Nat.le_trans (HK9.out.trans kd (fun _ e => e.elim)).size (f2 k e))
    have HS2 : Hid (Kp nob w0 w2 ∧ Blk w2 g 157 (bvs (key ++ nonce e s))) := Lib.hid ⟨k02, HS.out.2.keep k2 (fun e => e)⟩
    clear hx k2 f2 k02 kd HS
    refine ⟨_, rfl, HS2.out, fun _ => ?_⟩
    simp only [Act.put, List.setIfInBounds_toArray, List.set_cons_zero, List.set_cons_succ]
    refine reg_take (v := .tuple #[.slice X (text.length + 16) cX, .int .i64 0]) 8 (some 30) rfl rfl (by kernel_rfl) (by kernel_rfl) (by kernel_rfl) (by rfl) HS2.out (fun w hw => by go_simp) ?_
    simp only [Act.put, List.setIfInBounds_toArray, List.set_cons_zero, List.set_cons_succ]
    refine reg_take (v := .slice X (text.length + 16) cX) 9 (some 39) rfl rfl (by kernel_rfl) (by kernel_rfl) (by kernel_rfl) (by rfl) HS2.out (fun w hw => by go_simp) ?_
    simp only [Act.put, List.setIfInBounds_toArray, List.set_cons_zero, List.set_cons_succ]
    refine reg_take (v := .int .i64 0) 10 (some 40) rfl rfl (by kernel_rfl) (by kernel_rfl) (by kernel_rfl) (by rfl) HS2.out (fun w hw => by go_simp) ?_
    simp only [Act.put, List.setIfInBounds_toArray, List.set_cons_zero, List.set_cons_succ]
    refine reg_take (v := .slice X (text.length + 16) cX) 11 (some 16) rfl rfl (by kernel_rfl) (by kernel_rfl) (by kernel_rfl) (by rfl) HS2.out (fun w hw => by go_simp) ?_
    simp only [Act.put, List.setIfInBounds_toArray, List.set_cons_zero, List.set_cons_succ]
    refine reg_take (v := .int .i64 0) 12 (some 17) rfl rfl (by kernel_rfl) (by kernel_rfl) (by kernel_rfl) (by rfl) HS2.out (fun w hw => by go_simp) ?_
    simp only [Act.put, List.setIfInBounds_toArray, List.set_cons_zero, List.set_cons_succ]
    refine reg_end (by kernel_rfl) ?_
    have HB2 := Lib.hid HS2.out.2
    have hlt : v < w0.heap.size ∧ m < w0.heap.size := ⟨HV0.out.b.b.lt, HV0.out.b.s.lt⟩
    have hG2 : ∀ k, (G k ∨ ab X = some k) → k < w2.heap.size := fun k e => e.elim (fun e => Nat.lt_of_lt_of_le (hGs k e) HS2.out.1.size) (fun e => HX.out.lt k e)
    have HNT := Lib.hid (hN (fun i => G i ∨ ab X = some i) v m rmk ms lim sl cl P0 T nt ct' text w2 (hz w2 HS2.out.1) (HV0.out.turnG (G2 := fun i => G i ∨ ab X = some i) HS2.out.1 (fun _ _ e => e.elim) (fun e => e) (fun e => e) (fun i e => e.elim .inl (fun e => .inr (HFX.out i e)))) hG2 (HT0.out.keep0 HS2.out.1) HH.out.2.2.2 HH.out.2.1)
    rw [HPV.out] at HNT
    have HLT := Lib.hid hlt
    clear hlt hz hN hG2 hGs
    go_wp2_with (first
      | (refine wpList_load_blk rfl 157 (.tmp 15) rfl _ _ _ HB2.out rfl _ place_under rfl HPS.out ?_)
      | (go_at_call 91; refine HNT.out.mono ?_; rintro x w3 ⟨rfl, hv3, k3⟩; have HV3 := Lib.hid hv3; have HK3 := Lib.hid k3; clear hv3 k3)
      | fail)
    go_ret2
    have hfx : ∀ k, ab X = some k → ¬ vF v m k := fun k e h => by have := HFX.out k e; have := HLT.out; rcases h with h | h <;> omega
    exact ⟨X, cX, rfl, HV3.out, (HS2.out.1.nob _).trans HK3.out (fun i e => .inl e), ⟨gs_length _ _ _ _ _, HX.out.row.keep HK3.out hfx, .inr hfx, HX.out.cap.1, HX.out.cap.2, own_none HX.out⟩, HFX.out⟩
  have HS : Hid (Kp nob w0 (w0.alloc (.cells (bvs key).toArray 39)).drew) := Lib.hid HK0.out.drew
  have HBK := Lib.hid (HB.out.keep (Kp.refl nob _).drew (fun e => e))
  have HKS := Lib.hid (key_size key HH.out.1)
  generalize hw1 : (w0.alloc (.cells (bvs key).toArray 39)).drew = w1 at *
  clear HB HK0
  refine reg_begin (fun w => Kp nob w0 w ∧ Blk w w0.heap.size 39 (bvs key)) (by kernel_rfl) ?hb (fun _ => ?_)
  case hb => rw [hw1]; exact ⟨HS.out, HBK.out⟩
  rw [hw1]
  clear hw1
  have HS0 := Lib.hid (And.intro HS.out HBK.out)
  have HPS := Lib.hid (place_sizeR (key ++ nonce e s) (by rw [List.length_append, HH.out.1, nonce_length]))
  refine reg_load 0 (some 25) 39 (.tmp 7) rfl rfl rfl (by kernel_rfl) (by kernel_rfl) (by kernel_rfl) (by rfl) HS0.out w0.heap.size 0 rfl (bvs key) _ (fun w hw => hw.2.range) key_under rfl HKS.out ?_
  simp only [Act.put, List.setIfInBounds_toArray, List.set_cons_zero, List.set_cons_succ]
  refine reg_take (v := .int .i64 e) 1 (some 26) rfl rfl (by kernel_rfl) (by kernel_rfl) (by kernel_rfl) (by rfl) HS0.out (fun w hw => by go_simp) ?_
  simp only [Act.put, List.setIfInBounds_toArray, List.set_cons_zero, List.set_cons_succ]
  refine reg_take (v := .int .i64 s) 2 (some 27) rfl rfl (by kernel_rfl) (by kernel_rfl) (by kernel_rfl) (by rfl) HS0.out (fun w hw => by go_simp) ?_
  simp only [Act.put, List.setIfInBounds_toArray, List.set_cons_zero, List.set_cons_succ]
  refine reg_callOr (w' := w1.alloc (.cells (bvs (List.replicate 44 0)).toArray 157)) (v := .pointer (some ⟨w1.heap.size, 0, none⟩)) 3 5 (some 28) (some 15) rfl rfl rfl rfl (by kernel_rfl) (by rfl) (by rfl) _ _ (exec_func 90 _ _ [.int .i64 e, .int .i64 s] rfl (by kernel_rfl) rfl) (by kernel_rfl) ⟨HS0.out.1.alloc _, HS0.out.2.alloc _⟩ ?_ (fun _ => ?_)
  · refine (nonceOf_any e s _).mono ?_
    rintro x w2 ⟨rfl, k2⟩
    have HS1 := Lib.hid (show Kp nob w0 w2 ∧ Blk w2 w0.heap.size 39 (bvs key) from ⟨HS0.out.1.trans k2 (fun _ e => e.elim), HS0.out.2.keep k2 (fun e => e)⟩)
    clear k2
    refine ⟨_, rfl, HS1.out, fun _ => ?_⟩
    simp only [Act.put, List.setIfInBounds_toArray, List.set_cons_zero, List.set_cons_succ]
    refine reg_take (v := .agg (bvs (key ++ nonce e s)).toArray) 4 (some 29) rfl rfl (by kernel_rfl) (by kernel_rfl) (by kernel_rfl) (by rfl) HS1.out (fun w hw => by exact exec_build _ _ rfl [(0, .agg (bvs key).toArray), (1, .agg (bvs (nonce e s)).toArray)] _ rfl (HBP.out w)) ?_
    simp only [Act.put, List.setIfInBounds_toArray, List.set_cons_zero, List.set_cons_succ]
    refine reg_step (w' := w2.alloc (.cells (bvs (List.replicate 44 0)).toArray 157)) (v := .pointer (some ⟨w2.heap.size, 0, none⟩)) 5 (some 15) rfl rfl (by kernel_rfl) (by rfl) (by kernel_rfl) ⟨HS1.out.1.alloc _, HS1.out.2.alloc _⟩ (fun _ => ?_)
    simp only [Act.put, List.setIfInBounds_toArray, List.set_cons_zero, List.set_cons_succ]
    have HB9 := Lib.hid (Blk.new w2 157 (bvs (List.replicate 44 0)))
    refine reg_store 6 none 157 (.tmp 15) (.tmp 29) rfl rfl rfl (by kernel_rfl) (by rfl) w2.heap.size 157 _ (bvs (key ++ nonce e s)) HB9.out rfl rfl (by rw [bvs_length, bvs_length, List.length_append, HH.out.1, nonce_length]; rfl) HPS.out (bvs_one _) ?_
    intro w5 b5 k5 z5
    have hge : w0.heap.size ≤ w2.heap.size := HS1.out.1.size
    have hk5 : Kp nob w0 w5 := (HS1.out.1.alloc _).since k5 (fun i e => by have e : i = w2.heap.size := e; omega)
    refine ⟨⟨hk5, (HS1.out.2.alloc _).keep k5 (fun e => by have e : w0.heap.size = w2.heap.size := e; have := HS1.out.2.lt; omega)⟩, fun _ => ?_⟩
    simp only [Act.put, List.setIfInBounds_toArray, List.set_cons_zero, List.set_cons_succ]
    exact reg_end (by kernel_rfl) (hcont w2.heap.size w5 hk5 b5 hge)
  · have HS1 := Lib.hid (show Kp nob w0 (w1.alloc (.cells (bvs (List.replicate 44 0)).toArray 157)) ∧ Blk (w1.alloc (.cells (bvs (List.replicate 44 0)).toArray 157)) w0.heap.size 39 (bvs key) from ⟨HS0.out.1.alloc _, HS0.out.2.alloc _⟩)
    have HB9 := Lib.hid (Blk.new w1 157 (bvs (List.replicate 44 0)))
    simp only [Act.put, List.setIfInBounds_toArray, List.set_cons_zero, List.set_cons_succ]
    refine reg_call 3 (some 28) rfl rfl (by kernel_rfl) (by rfl) _ _ (exec_func 90 _ _ [.int .i64 e, .int .i64 s] rfl (by kernel_rfl) rfl) ?_
    refine (nonceOf_any e s _).mono ?_
    rintro x w2 ⟨rfl, k2⟩
    have HS2 := Lib.hid (show Kp nob w0 w2 ∧ Blk w2 w0.heap.size 39 (bvs key) from ⟨HS1.out.1.trans k2 (fun _ e => e.elim), HS1.out.2.keep k2 (fun e => e)⟩)
    have HB8 := Lib.hid (HB9.out.keep k2 (fun e => e))
    clear k2
    refine ⟨_, rfl, HS2.out, fun _ => ?_⟩
    simp only [Act.put, List.setIfInBounds_toArray, List.set_cons_zero, List.set_cons_succ]
    refine reg_take (v := .agg (bvs (key ++ nonce e s)).toArray) 4 (some 29) rfl rfl (by kernel_rfl) (by kernel_rfl) (by kernel_rfl) (by rfl) HS2.out (fun w hw => by exact exec_build _ _ rfl [(0, .agg (bvs key).toArray), (1, .agg (bvs (nonce e s)).toArray)] _ rfl (HBP.out w)) ?_
    simp only [Act.put, List.setIfInBounds_toArray, List.set_cons_zero, List.set_cons_succ]
    refine reg_store 6 none 157 (.tmp 15) (.tmp 29) rfl rfl rfl (by kernel_rfl) (by rfl) w1.heap.size 157 _ (bvs (key ++ nonce e s)) HB8.out rfl rfl (by rw [bvs_length, bvs_length, List.length_append, HH.out.1, nonce_length]; rfl) HPS.out (bvs_one _) ?_
    intro w5 b5 k5 z5
    have hge : w0.heap.size ≤ w1.heap.size := HS0.out.1.size
    have hk5 : Kp nob w0 w5 := HS2.out.1.since k5 (fun i e => by have e : i = w1.heap.size := e; omega)
    refine ⟨⟨hk5, HS2.out.2.keep k5 (fun e => by have e : w0.heap.size = w1.heap.size := e; have := HS0.out.2.lt; omega)⟩, fun _ => ?_⟩
    simp only [Act.put, List.setIfInBounds_toArray, List.set_cons_zero, List.set_cons_succ]
    exact reg_end (by kernel_rfl) (hcont w1.heap.size w5 hk5 b5 hge)
set_option maxHeartbeats 4000000 in
set_option maxRecDepth 100000 in
theorem open_real [Inhabited Field.SqTab] (v m : Nat) (ms : List UInt8) (lim : Nat) (sl : List (Pl × List UInt8)) (cl : Nat) (G : Nat → Prop) (key : List UInt8) (hk : key.length = 32) (e s : Int)
    (T : Option Addr) (nt ct' : Nat) (b text : List UInt8) (B : Option Addr) (md d : Nat) (ps : List Pc) (F : Nat → Prop) (w0 : World)
    (hv : Vs G w0 v m rmk ms lim sl cl) (ht : Arg w0 nob T nt ct' b) (hp : Args w0 F B md ps) (lt : text.length ≤ 1048576) (hb : b = gs (allW key) 13 (nonce e s) text (catP ps)) (lp : (catP ps).length ≤ 1048576) (hr : refu lim e s = 0) (hs : Sq w0) :
    Calls Tryz.prog 82 #[.pointer (some ⟨v, 0, none⟩), .agg (bvs key).toArray, .int .i64 e, .int .i64 s, .slice T nt ct', .slice B md d] w0 fun x w' => ∃ X cX, x = .returned (.tuple #[.slice X text.length cX, .int .i64 0]) ∧ Row w' X (bvs text) ∧ Kp nob w0 w' ∧ ∀ k, ab X = some k → w0.heap.size ≤ k := by
  have k0 := (Kp.refl nob w0).alloc (.cells (bvs key).toArray 39)
  have HB := Lib.hid (Blk.new w0 39 (bvs key))
  have HV0 := Lib.hid hv; have HT0 := Lib.hid ht; have HP0 := Lib.hid hp
  have HR := Lib.hid (show Calls Tryz.prog 89 #[.pointer (some ⟨v, 0, none⟩), .int .i64 e, .int .i64 s] (w0.alloc (.cells (bvs key).toArray 39)) fun x w' => x = .returned (.int .i64 0) ∧ (w0.alloc (.cells (bvs key).toArray 39)) = w' by
    have := refused_any v m rmk ms lim _ cl e s _ (hv.b.keep0 k0)
    rw [hr] at this; exact this)
  have HK0 := Lib.hid k0
  have HH := Lib.hid (And.intro hk (And.intro lt (And.intro lp hb)))
  have HBP := Lib.hid (fun w => build_place key (nonce e s) hk (nonce_length e s) w)
  rw [show pv (pl key (nonce e s) hk (nonce_length e s)) = .agg (bvs (key ++ nonce e s)).toArray from rfl] at HBP
  have HSQ := Lib.hid hs
  clear hv ht hp k0 hr hs hk lt lp hb
  go_enter Tryz.func82, Tryz.ntmps82
  go_wp2_with fail
  refine HR.out.mono ?_
  rintro x w1 ⟨rfl, rfl⟩
  clear HR
  go_wp2
  have HS : Hid (Kp nob w0 (w0.alloc (.cells (bvs key).toArray 39)).drew) := Lib.hid HK0.out.drew
  have HBK := Lib.hid (HB.out.keep (Kp.refl nob _).drew (fun e => e))
  have HKS := Lib.hid (key_size key HH.out.1)
  generalize hw1 : (w0.alloc (.cells (bvs key).toArray 39)).drew = w1 at *
  clear HB HK0
  refine reg_begin (fun w => Kp nob w0 w ∧ Blk w w0.heap.size 39 (bvs key)) (by kernel_rfl) ?hb (fun _ => ?_)
  case hb => rw [hw1]; exact ⟨HS.out, HBK.out⟩
  rw [hw1]
  clear hw1
  have HS0 := Lib.hid (And.intro HS.out HBK.out)
  refine reg_take (v := .pointer (some ⟨v, 0, none⟩)) 0 (some 22) rfl rfl (by kernel_rfl) (by kernel_rfl) (by kernel_rfl) (by rfl) HS0.out (fun w hw => by go_simp) ?_
  simp only [Act.put, List.setIfInBounds_toArray, List.set_cons_zero, List.set_cons_succ]
  refine reg_take (v := .pointer (some ⟨v, 0, none⟩)) 1 (some 23) rfl rfl (by kernel_rfl) (by kernel_rfl) (by kernel_rfl) (by rfl) HS0.out (fun w hw => by go_simp) ?_
  simp only [Act.put, List.setIfInBounds_toArray, List.set_cons_zero, List.set_cons_succ]
  refine reg_take (v := .pointer (some ⟨v, 0, none⟩)) 2 (some 24) rfl rfl (by kernel_rfl) (by kernel_rfl) (by kernel_rfl) (by rfl) HS0.out (fun w hw => by go_simp) ?_
  simp only [Act.put, List.setIfInBounds_toArray, List.set_cons_zero, List.set_cons_succ]
  refine reg_take (v := rmk) 3 (some 25) rfl rfl (by kernel_rfl) (by kernel_rfl) (by kernel_rfl) (by rfl) HS0.out (fun w hw => by have hc := (HV0.out.keep0 hw.1).b.mk_; go_simp) ?_
  simp only [Act.put, List.setIfInBounds_toArray, List.set_cons_zero, List.set_cons_succ]
  refine reg_load 4 (some 26) 39 (.tmp 7) rfl rfl rfl (by kernel_rfl) (by kernel_rfl) (by kernel_rfl) (by rfl) HS0.out w0.heap.size 0 rfl (bvs key) _ (fun w hw => hw.2.range) key_under rfl HKS.out ?_
  simp only [Act.put, List.setIfInBounds_toArray, List.set_cons_zero, List.set_cons_succ]
  refine reg_take (v := .int .i64 e) 5 (some 27) rfl rfl (by kernel_rfl) (by kernel_rfl) (by kernel_rfl) (by rfl) HS0.out (fun w hw => by go_simp) ?_
  simp only [Act.put, List.setIfInBounds_toArray, List.set_cons_zero, List.set_cons_succ]
  refine reg_take (v := .int .i64 s) 6 (some 28) rfl rfl (by kernel_rfl) (by kernel_rfl) (by kernel_rfl) (by rfl) HS0.out (fun w hw => by go_simp) ?_
  simp only [Act.put, List.setIfInBounds_toArray, List.set_cons_zero, List.set_cons_succ]
  refine reg_take (v := .slice T nt ct') 9 (some 31) rfl rfl (by kernel_rfl) (by kernel_rfl) (by kernel_rfl) (by rfl) HS0.out (fun w hw => by go_simp) ?_
  simp only [Act.put, List.setIfInBounds_toArray, List.set_cons_zero, List.set_cons_succ]
  refine reg_take (v := .slice B md d) 10 (some 32) rfl rfl (by kernel_rfl) (by kernel_rfl) (by kernel_rfl) (by rfl) HS0.out (fun w hw => by go_simp) ?_
  simp only [Act.put, List.setIfInBounds_toArray, List.set_cons_zero, List.set_cons_succ]
  refine reg_take (v := rmk) 11 (some 33) rfl rfl (by kernel_rfl) (by kernel_rfl) (by kernel_rfl) (by rfl) HS0.out (fun w hw => by first | (go_simp; done) | kernel_rfl) ?_
  simp only [Act.put, List.setIfInBounds_toArray, List.set_cons_zero, List.set_cons_succ]
  refine reg_take (v := rmk) 12 (some 34) rfl rfl (by kernel_rfl) (by kernel_rfl) (by kernel_rfl) (by rfl) HS0.out (fun w hw => by go_simp) ?_
  simp only [Act.put, List.setIfInBounds_toArray, List.set_cons_zero, List.set_cons_succ]
  refine reg_call 7 (some 29) rfl rfl (by kernel_rfl) (by rfl) _ _ (exec_func 90 _ _ [.int .i64 e, .int .i64 s] rfl (by kernel_rfl) rfl) ?_
  refine (nonceOf_any e s _).mono ?_
  rintro x w2 ⟨rfl, k2⟩
  have HS1 := Lib.hid (show Kp nob w0 w2 ∧ Blk w2 w0.heap.size 39 (bvs key) from ⟨HS0.out.1.trans k2 (fun _ e => e.elim), HS0.out.2.keep k2 (fun e => e)⟩)
  clear k2
  refine ⟨_, rfl, HS1.out, fun _ => ?_⟩
  simp only [Act.put, List.setIfInBounds_toArray, List.set_cons_zero, List.set_cons_succ]
  refine reg_take (v := .agg (bvs (key ++ nonce e s)).toArray) 8 (some 30) rfl rfl (by kernel_rfl) (by kernel_rfl) (by kernel_rfl) (by rfl) HS1.out (fun w hw => by exact exec_build _ _ rfl [(0, .agg (bvs key).toArray), (1, .agg (bvs (nonce e s)).toArray)] _ rfl (HBP.out w)) ?_
  simp only [Act.put, List.setIfInBounds_toArray, List.set_cons_zero, List.set_cons_succ]
  refine reg_call 13 (some 35) rfl rfl (by kernel_rfl) (by rfl) _ _ (exec_invoke 134 69 (.agg #[]) (.agg #[]) _ _ _ _ [.agg (bvs (key ++ nonce e s)).toArray, .slice T nt ct', .slice B md d] rfl rfl (by kernel_rfl) (by kernel_rfl) rfl) ?_
  refine (rm_open key (nonce e s) HH.out.1 (nonce_length e s) T nt ct' b text B md d ps F _ (HSQ.out.keep0 HS1.out.1) (HT0.out.keep0 HS1.out.1) (HP0.out.keep0 HS1.out.1) HH.out.2.1 HH.out.2.2.2 HH.out.2.2.1).mono ?_
  rintro x w3 ⟨X, cX, rfl, hx, k3, f3⟩
  have HX := Lib.hid hx
  have HFX := Lib.hid (fun k e => Nat.le_trans HS1.out.1.size (f3 k e))
  have HS3 := Lib.hid (show Kp nob w0 w3 ∧ Blk w3 w0.heap.size 39 (bvs key) from ⟨HS1.out.1.trans k3 (fun _ e => e.elim), HS1.out.2.keep k3 (fun e => e)⟩)
  clear hx k3 f3
  refine ⟨_, rfl, HS3.out, fun _ => ?_⟩
  simp only [Act.put, List.setIfInBounds_toArray, List.set_cons_zero, List.set_cons_succ]
  refine reg_take (v := .slice X text.length cX) 14 (some 36) rfl rfl (by kernel_rfl) (by kernel_rfl) (by kernel_rfl) (by rfl) HS3.out (fun w hw => by go_simp) ?_
  simp only [Act.put, List.setIfInBounds_toArray, List.set_cons_zero, List.set_cons_succ]
  refine reg_take (v := .int .i64 0) 15 (some 37) rfl rfl (by kernel_rfl) (by kernel_rfl) (by kernel_rfl) (by rfl) HS3.out (fun w hw => by go_simp) ?_
  simp only [Act.put, List.setIfInBounds_toArray, List.set_cons_zero, List.set_cons_succ]
  refine reg_take (v := .slice X text.length cX) 16 (some 12) rfl rfl (by kernel_rfl) (by kernel_rfl) (by kernel_rfl) (by rfl) HS3.out (fun w hw => by go_simp) ?_
  simp only [Act.put, List.setIfInBounds_toArray, List.set_cons_zero, List.set_cons_succ]
  refine reg_take (v := .int .i64 0) 17 (some 13) rfl rfl (by kernel_rfl) (by kernel_rfl) (by kernel_rfl) (by rfl) HS3.out (fun w hw => by go_simp) ?_
  simp only [Act.put, List.setIfInBounds_toArray, List.set_cons_zero, List.set_cons_succ]
  refine reg_end (by kernel_rfl) ?_
  go_wp2
  go_ret2
  exact ⟨X, cX, rfl, HX.out, HS3.out.1, HFX.out⟩
end Go.Proofs.YtiimfhacnfdmhaaGreat.Vault
namespace Go.Proofs.YtiimfhacnfdmhaaGreat.Vault
open Go Go.RowKit Kit
open Ideal (Iw Iq Ans Arg Args Thing mk out sealT opn derT hashT z32)
open Sha (Pc PcsOk catP)
theorem place_size (l : List UInt8) (h : l.length = 44) : (Tryz.prog.info? 157).map (·.size) = some (bvs l).length := by rw [bvs_length, h]; kernel_rfl
def uF (F : Nat → Prop) (v m : Nat) : Nat → Prop := fun i => F i ∨ vF v m i
structure Sealed (w0 w' : World) (v m p : Nat) (F F2 : Nat → Prop) (ms : List UInt8) (lim : Nat) (sl : List (Pl × List UInt8)) (cl : Nat) (ts : List Thing) (X : Option Addr) (cX : Nat) (l : List UInt8) : Prop where
  iw : Iw w' p F2 ts
  f : ∀ k, F2 k → F k ∨ w0.heap.size ≤ k
  vs : Vs F2 w' v m (imk p) ms lim sl cl
  kp : Kp (uF F v m) w0 w'
  ne : ¬ F2 v ∧ ¬ F2 m
  x : Ans w0 w' (uF F2 v m) X cX l
theorem _root_.Go.Proofs.YtiimfhacnfdmhaaGreat.Ideal.Ans.over {w0 w2 w3 : World} {F2 : Nat → Prop} {v m : Nat} {X : Option Addr} {cX : Nat} {l : List UInt8} (h : Ans w0 w2 F2 X cX l) (k : Kp (vF v m) w2 w3) (hv : v < w0.heap.size) (hm : m < w0.heap.size) : Ans w0 w3 (uF F2 v m) X cX l :=
  ⟨h.row.keep k (fun i e h2 => by have := (h.far i e).1; rcases h2 with h2 | h2 <;> omega), fun i e => ⟨(h.far i e).1, fun h2 => h2.elim (h.far i e).2 (fun h2 => by have := (h.far i e).1; rcases h2 with h2 | h2 <;> omega)⟩, h.cap, h.mx, h.nil⟩
theorem _root_.Go.Proofs.YtiimfhacnfdmhaaGreat.Ideal.Args.mono {w : World} {F G : Nat → Prop} {B : Option Addr} {m : Nat} {ps : List Pc} (h : Args w F B m ps) (hG : ∀ i, i < w.heap.size → G i → F i) : Args w G B m ps :=
  ⟨h.len, h.row, by
    by_cases e : ps = []
    · exact .inl e
    · exact .inr (fun k hk hg => (h.far.resolve_left e) k hk (hG k (h.row.lt (by simpa using e) k hk) hg)), fun q hq => by
    obtain ⟨h1, h2, h3, h4, h5⟩ := h.pcs q hq
    refine ⟨h1, h2, ?_, h4, h5⟩
    by_cases e : q.l = []
    · exact .inl e
    · exact .inr (fun k hk hg => (h3.resolve_left e) k hk (hG k (h2.lt (by simpa [bvs] using e) k hk) hg)), h.nil, h.max⟩
structure SealedG (G : Nat → Prop) (w0 w' : World) (v m p : Nat) (F F2 : Nat → Prop) (ms : List UInt8) (lim : Nat) (sl : List (Pl × List UInt8)) (cl : Nat) (ts : List Thing) (X : Option Addr) (cX : Nat) (l : List UInt8) : Prop where
  iw : Iw w' p F2 ts
  f : ∀ k, F2 k → F k ∨ w0.heap.size ≤ k
  vs : Vs (fun i => G i ∨ F2 i ∨ ab X = some i) w' v m (imk p) ms lim sl cl
  kp : Kp (uF F v m) w0 w'
  ne : ¬ F2 v ∧ ¬ F2 m
  x : Ans w0 w' (uF F2 v m) X cX l
set_option maxHeartbeats 4000000 in
set_option maxRecDepth 100000 in
theorem seal_yesG (dif : List UInt8 → List UInt8 → Bool) (Z : World → Prop) (hN : NoteC dif Z) (v m p : Nat) (F : Nat → Prop) (ts : List Thing) (ms : List UInt8) (lim : Nat) (sl : List (Pl × List UInt8)) (cl : Nat) (G : Nat → Prop) (key : List UInt8) (hk : key.length = 32) (e s : Int)
    (T : Option Addr) (nt ct' : Nat) (text : List UInt8) (B : Option Addr) (md d : Nat) (ps : List Pc) (w0 : World)
    (hv : Vs G w0 v m (imk p) ms lim sl cl) (hGs : ∀ k, G k → k < w0.heap.size) (hFG : ∀ k, F k → G k) (hw : Iw w0 p F ts) (hF : ¬ F v ∧ ¬ F m) (ht : Arg w0 (uF F v m) T nt ct' text) (hp : Args w0 (uF F v m) B md ps) (hl : ts.length ≤ 100000) (lt : text.length ≤ 1048576) (lp : (catP ps).length ≤ 1048576) (hc : cl ≤ 1099511627776)
    (hr : refu lim e s = 0) (hz : ∀ w', Kp F w0 w' → Z w') :
    Calls Tryz.prog 65 #[.pointer (some ⟨v, 0, none⟩), .agg (bvs key).toArray, .int .i64 e, .int .i64 s, .slice T nt ct', .slice B md d] w0 fun x w' => ∃ F2 X cX, x = .returned (.tuple #[.slice X (text.length + 16) cX, .int .i64 0]) ∧
      SealedG G w0 w' v m p F F2 ms lim (upd sl (pl key (nonce e s) hk (nonce_length e s)) text) (cl + clash dif sl (pl key (nonce e s) hk (nonce_length e s)) text) (mk ts (sealT key (nonce e s) (catP ps) text)) X cX (out ts (sealT key (nonce e s) (catP ps) text) (text.length + 16)) := by
  have k0 := (Kp.refl nob w0).alloc (.cells (bvs key).toArray 39)
  have HB := Lib.hid (Blk.new w0 39 (bvs key))
  have HV0 := Lib.hid hv; have HW0 := Lib.hid hw; have HT0 := Lib.hid ht; have HP0 := Lib.hid hp
  have HR := Lib.hid (show Calls Tryz.prog 89 #[.pointer (some ⟨v, 0, none⟩), .int .i64 e, .int .i64 s] (w0.alloc (.cells (bvs key).toArray 39)) fun x w' => x = .returned (.int .i64 0) ∧ (w0.alloc (.cells (bvs key).toArray 39)) = w' by
    obtain ⟨ps0, hvb⟩ := hv.vb
    have := refused_any v m (imk p) ms lim _ cl e s _ (hvb.keep0 k0)
    rw [hr] at this; exact this)
  have HK0 := Lib.hid k0
  have HH := Lib.hid (And.intro hk (And.intro hl (And.intro lt (And.intro lp hc))))
  obtain ⟨P0, hP0⟩ : ∃ P0, P0 = pl key (nonce e s) hk (nonce_length e s) := ⟨_, rfl⟩
  rw [← hP0]
  have HPV := Lib.hid (show pv P0 = .agg (bvs (key ++ nonce e s)).toArray by rw [hP0]; rfl)
  have HBP := Lib.hid (fun w => build_place key (nonce e s) hk (nonce_length e s) w)
  rw [← hP0, HPV.out] at HBP
  clear hv hw ht hp k0 hr hP0
  go_enter Tryz.func65, Tryz.ntmps65
  go_wp2_with fail
  refine HR.out.mono ?_
  rintro x w1 ⟨rfl, rfl⟩
  clear HR
  clear hk hl lt lp hc
  go_wp2
  rename_i K1 hK1
  have hcont : ∀ (g : Nat) (w9 : World), Kp nob w0 w9 → Blk w9 g 157 (bvs (key ++ nonce e s)) → w0.heap.size ≤ g → K1 { tmps := #[.pointer (some ⟨v, 0, none⟩), .agg (bvs key).toArray, .int .i64 e, .int .i64 s, .slice T nt ct', .slice B md d, undef, .pointer (some ⟨w0.heap.size, 0, none⟩), undef, undef, undef, undef, .slice none 0 0, .int .i64 0, .int .i64 0, .pointer (some ⟨g, 0, none⟩), undef, undef, .pointer (some ⟨v, 0, none⟩), .int .i64 e, .int .i64 s, .int .i64 0, .int .i64 0, .bool false, undef, .agg (bvs key).toArray, .int .i64 e, .int .i64 s, .agg (bvs (nonce e s)).toArray, .agg (bvs (key ++ nonce e s)).toArray, undef, undef, undef, undef, undef, undef, undef, undef, undef, undef, undef, undef, undef, undef, undef, undef, undef, undef, undef], defers := [] } w9 := by
    intro g w9 k9 b9 hg
    have HK9 := Lib.hid k9; have HG := Lib.hid hg
    have hF2 := HW0.out.lt
    have HFG := Lib.hid (show ¬ F g from fun e => by have := hF2 g e; omega)
    have HW9 := Lib.hid (HW0.out.keep k9 (fun _ _ e => e))
    have HT9 := Lib.hid ((HT0.out.keep0 k9).mono (G := F) (fun i _ e => .inl e))
    have HP9 := Lib.hid ((HP0.out.keep0 k9).mono (G := F) (fun i _ e => .inl e))
    have HS : Hid (Kp F w0 w9.drew ∧ Blk w9.drew g 157 (bvs (key ++ nonce e s))) := Lib.hid ⟨(k9.nob F).drew, b9.keep (Kp.refl nob _).drew (fun e => e)⟩
    have HV9 := Lib.hid (fun (w : World) (h : Kp F w0 w) => HV0.out.turnG h (G2 := G) (fun i _ e => hFG i e) hF.1 hF.2 (fun i e => .inl e))
    have HPS := Lib.hid (place_size (key ++ nonce e s) (by rw [List.length_append, HH.out.1, nonce_length]))
    clear hg k9 b9
    apply hK1
    go_wp2
    refine reg_begin (fun w => Kp F w0 w ∧ Blk w g 157 (bvs (key ++ nonce e s))) (by kernel_rfl) HS.out (fun _ => ?_)
    refine reg_take (v := .pointer (some ⟨v, 0, none⟩)) 0 (some 31) rfl rfl (by kernel_rfl) (by kernel_rfl) (by kernel_rfl) (by rfl) HS.out (fun w hw => by go_simp) ?_
    simp only [Act.put, List.setIfInBounds_toArray, List.set_cons_zero, List.set_cons_succ]
    refine reg_take (v := .pointer (some ⟨v, 0, none⟩)) 1 (some 32) rfl rfl (by kernel_rfl) (by kernel_rfl) (by kernel_rfl) (by rfl) HS.out (fun w hw => by go_simp) ?_
    simp only [Act.put, List.setIfInBounds_toArray, List.set_cons_zero, List.set_cons_succ]
    refine reg_take (v := .pointer (some ⟨v, 0, none⟩)) 2 (some 33) rfl rfl (by kernel_rfl) (by kernel_rfl) (by kernel_rfl) (by rfl) HS.out (fun w hw => by go_simp) ?_
    simp only [Act.put, List.setIfInBounds_toArray, List.set_cons_zero, List.set_cons_succ]
    refine reg_take (v := imk p) 3 (some 34) rfl rfl (by kernel_rfl) (by kernel_rfl) (by kernel_rfl) (by rfl) HS.out (fun w hw => by have hc := (HV9.out w hw.1).mk_; go_simp) ?_
    simp only [Act.put, List.setIfInBounds_toArray, List.set_cons_zero, List.set_cons_succ]
    refine reg_load 4 (some 35) 157 (.tmp 15) rfl rfl rfl (by kernel_rfl) (by kernel_rfl) (by kernel_rfl) (by rfl) HS.out g 0 rfl (bvs (key ++ nonce e s)) _ (fun w hw => hw.2.range) place_under rfl HPS.out ?_
    simp only [Act.put, List.setIfInBounds_toArray, List.set_cons_zero, List.set_cons_succ]
    refine reg_take (v := .slice T nt ct') 5 (some 36) rfl rfl (by kernel_rfl) (by kernel_rfl) (by kernel_rfl) (by rfl) HS.out (fun w hw => by go_simp) ?_
    simp only [Act.put, List.setIfInBounds_toArray, List.set_cons_zero, List.set_cons_succ]
    refine reg_take (v := .slice B md d) 6 (some 37) rfl rfl (by kernel_rfl) (by kernel_rfl) (by kernel_rfl) (by rfl) HS.out (fun w hw => by go_simp) ?_
    simp only [Act.put, List.setIfInBounds_toArray, List.set_cons_zero, List.set_cons_succ]
    refine reg_call 7 (some 38) rfl rfl (by kernel_rfl) (by rfl) _ _ (exec_invoke 203 105 (.agg #[.pointer (some ⟨p, 0, none⟩)]) (.agg #[.pointer (some ⟨p, 0, none⟩)]) _ _ _ _ [.agg (bvs (key ++ nonce e s)).toArray, .slice T nt ct', .slice B md d] rfl rfl (by kernel_rfl) (by kernel_rfl) rfl) ?_
    have kd := (Kp.refl nob w9).drew
    refine (im_seal p F ts key (nonce e s) HH.out.1 (nonce_length e s) T nt ct' text B md d ps _ (HW9.out.keep kd (fun _ _ e => e)) (HT9.out.keep0 kd) (HP9.out.keep0 kd) HH.out.2.1 HH.out.2.2.1 HH.out.2.2.2.1).mono ?_
    rintro x w2 ⟨F2, X, cX, rfl, hq, hx⟩
    have hq0 := hq.back (HK9.out.trans kd (fun _ e => e.elim))
    have HQ := Lib.hid hq0
    have HX := Lib.hid (hx.back (HK9.out.trans kd (fun _ e => e.elim)))
    have HS2 : Hid (Kp F w0 w2 ∧ Blk w2 g 157 (bvs (key ++ nonce e s))) := Lib.hid ⟨hq0.k, HS.out.2.keep hq.k HFG.out⟩
    clear hq hx hq0 kd HS
    refine ⟨_, rfl, HS2.out, fun _ => ?_⟩
    simp only [Act.put, List.setIfInBounds_toArray, List.set_cons_zero, List.set_cons_succ]
    refine reg_take (v := .tuple #[.slice X (text.length + 16) cX, .int .i64 0]) 8 (some 30) rfl rfl (by kernel_rfl) (by kernel_rfl) (by kernel_rfl) (by rfl) HS2.out (fun w hw => by go_simp) ?_
    simp only [Act.put, List.setIfInBounds_toArray, List.set_cons_zero, List.set_cons_succ]
    refine reg_take (v := .slice X (text.length + 16) cX) 9 (some 39) rfl rfl (by kernel_rfl) (by kernel_rfl) (by kernel_rfl) (by rfl) HS2.out (fun w hw => by go_simp) ?_
    simp only [Act.put, List.setIfInBounds_toArray, List.set_cons_zero, List.set_cons_succ]
    refine reg_take (v := .int .i64 0) 10 (some 40) rfl rfl (by kernel_rfl) (by kernel_rfl) (by kernel_rfl) (by rfl) HS2.out (fun w hw => by go_simp) ?_
    simp only [Act.put, List.setIfInBounds_toArray, List.set_cons_zero, List.set_cons_succ]
    refine reg_take (v := .slice X (text.length + 16) cX) 11 (some 16) rfl rfl (by kernel_rfl) (by kernel_rfl) (by kernel_rfl) (by rfl) HS2.out (fun w hw => by go_simp) ?_
    simp only [Act.put, List.setIfInBounds_toArray, List.set_cons_zero, List.set_cons_succ]
    refine reg_take (v := .int .i64 0) 12 (some 17) rfl rfl (by kernel_rfl) (by kernel_rfl) (by kernel_rfl) (by rfl) HS2.out (fun w hw => by go_simp) ?_
    simp only [Act.put, List.setIfInBounds_toArray, List.set_cons_zero, List.set_cons_succ]
    refine reg_end (by kernel_rfl) ?_
    have HV2 := Lib.hid (HV0.out.turnG HS2.out.1 (G2 := fun i => G i ∨ F2 i ∨ ab X = some i) (fun i _ e => hFG i e) hF.1 hF.2 (fun i e => e.elim .inl (fun e => e.elim (fun e => (HQ.out.f i e).elim (fun e => .inl (hFG i e)) .inr) (fun e => .inr (HX.out.far i e).1))))
    have hG2 : ∀ k, (G k ∨ F2 k ∨ ab X = some k) → k < w2.heap.size := fun k e => e.elim (fun e => Nat.lt_of_lt_of_le (hGs k e) HS2.out.1.size) (fun e => e.elim (HQ.out.i.lt k) (fun e => HX.out.row.lt (by intro e2; have h2 := congrArg List.length e2; rw [bvs_length, Ideal.out_length _ _ _ (by omega)] at h2; simp at h2) k e))
    have HB2 := Lib.hid HS2.out.2
    have hlt : v < w0.heap.size ∧ m < w0.heap.size := HV0.out.lt
    have HNE : Hid (¬ F2 v ∧ ¬ F2 m) := Lib.hid ⟨fun e => (HQ.out.f v e).elim hF.1 (fun e => by omega), fun e => (HQ.out.f m e).elim hF.2 (fun e => by omega)⟩
    have HNT := Lib.hid (hN (fun i => G i ∨ F2 i ∨ ab X = some i) v m (imk p) ms lim sl cl P0 T nt ct' text w2 (hz w2 HS2.out.1) HV2.out hG2 ((HT0.out.keep HS2.out.1 (fun i e => .inl e)).mono (fun i _ e => .inr e)) HH.out.2.2.2.2 HH.out.2.2.1)
    rw [HPV.out] at HNT
    have HLT := Lib.hid hlt
    clear hlt hF hF2 hz hN hG2 hGs hFG
    go_wp2_with (first
      | (refine wpList_load_blk rfl 157 (.tmp 15) rfl _ _ _ HB2.out rfl _ place_under rfl HPS.out ?_)
      | (go_at_call 91; refine HNT.out.mono ?_; rintro x w3 ⟨rfl, hv3, k3⟩; have HV3 := Lib.hid hv3; have HK3 := Lib.hid k3; clear hv3 k3)
      | fail)
    go_ret2
    exact ⟨F2, X, cX, rfl, HQ.out.i.keep HK3.out (fun i e h => h.elim (fun h => HNE.out.1 (h ▸ e)) (fun h => HNE.out.2 (h ▸ e))), HQ.out.f, HV3.out, (HQ.out.k.mono (fun i _ e => .inl e)).trans HK3.out (fun i e => .inl (.inr e)), HNE.out, HX.out.over HK3.out HLT.out.1 HLT.out.2⟩
  have HS : Hid (Kp nob w0 (w0.alloc (.cells (bvs key).toArray 39)).drew) := Lib.hid HK0.out.drew
  have HBK := Lib.hid (HB.out.keep (Kp.refl nob _).drew (fun e => e))
  have HKS := Lib.hid (key_size key HH.out.1)
  generalize hw1 : (w0.alloc (.cells (bvs key).toArray 39)).drew = w1 at *
  clear HB HK0
  refine reg_begin (fun w => Kp nob w0 w ∧ Blk w w0.heap.size 39 (bvs key)) (by kernel_rfl) ?hb (fun _ => ?_)
  case hb => rw [hw1]; exact ⟨HS.out, HBK.out⟩
  rw [hw1]
  clear hw1
  have HS0 := Lib.hid (And.intro HS.out HBK.out)
  have HPS := Lib.hid (place_size (key ++ nonce e s) (by rw [List.length_append, HH.out.1, nonce_length]))
  refine reg_load 0 (some 25) 39 (.tmp 7) rfl rfl rfl (by kernel_rfl) (by kernel_rfl) (by kernel_rfl) (by rfl) HS0.out w0.heap.size 0 rfl (bvs key) _ (fun w hw => hw.2.range) key_under rfl HKS.out ?_
  simp only [Act.put, List.setIfInBounds_toArray, List.set_cons_zero, List.set_cons_succ]
  refine reg_take (v := .int .i64 e) 1 (some 26) rfl rfl (by kernel_rfl) (by kernel_rfl) (by kernel_rfl) (by rfl) HS0.out (fun w hw => by go_simp) ?_
  simp only [Act.put, List.setIfInBounds_toArray, List.set_cons_zero, List.set_cons_succ]
  refine reg_take (v := .int .i64 s) 2 (some 27) rfl rfl (by kernel_rfl) (by kernel_rfl) (by kernel_rfl) (by rfl) HS0.out (fun w hw => by go_simp) ?_
  simp only [Act.put, List.setIfInBounds_toArray, List.set_cons_zero, List.set_cons_succ]
  refine reg_callOr (w' := w1.alloc (.cells (bvs (List.replicate 44 0)).toArray 157)) (v := .pointer (some ⟨w1.heap.size, 0, none⟩)) 3 5 (some 28) (some 15) rfl rfl rfl rfl (by kernel_rfl) (by rfl) (by rfl) _ _ (exec_func 90 _ _ [.int .i64 e, .int .i64 s] rfl (by kernel_rfl) rfl) (by kernel_rfl) ⟨HS0.out.1.alloc _, HS0.out.2.alloc _⟩ ?_ (fun _ => ?_)
  · refine (nonceOf_any e s _).mono ?_
    rintro x w2 ⟨rfl, k2⟩
    have HS1 := Lib.hid (show Kp nob w0 w2 ∧ Blk w2 w0.heap.size 39 (bvs key) from ⟨HS0.out.1.trans k2 (fun _ e => e.elim), HS0.out.2.keep k2 (fun e => e)⟩)
    clear k2
    refine ⟨_, rfl, HS1.out, fun _ => ?_⟩
    simp only [Act.put, List.setIfInBounds_toArray, List.set_cons_zero, List.set_cons_succ]
    refine reg_take (v := .agg (bvs (key ++ nonce e s)).toArray) 4 (some 29) rfl rfl (by kernel_rfl) (by kernel_rfl) (by kernel_rfl) (by rfl) HS1.out (fun w hw => by exact exec_build _ _ rfl [(0, .agg (bvs key).toArray), (1, .agg (bvs (nonce e s)).toArray)] _ rfl (HBP.out w)) ?_
    simp only [Act.put, List.setIfInBounds_toArray, List.set_cons_zero, List.set_cons_succ]
    refine reg_step (w' := w2.alloc (.cells (bvs (List.replicate 44 0)).toArray 157)) (v := .pointer (some ⟨w2.heap.size, 0, none⟩)) 5 (some 15) rfl rfl (by kernel_rfl) (by rfl) (by kernel_rfl) ⟨HS1.out.1.alloc _, HS1.out.2.alloc _⟩ (fun _ => ?_)
    simp only [Act.put, List.setIfInBounds_toArray, List.set_cons_zero, List.set_cons_succ]
    have HB9 := Lib.hid (Blk.new w2 157 (bvs (List.replicate 44 0)))
    refine reg_store 6 none 157 (.tmp 15) (.tmp 29) rfl rfl rfl (by kernel_rfl) (by rfl) w2.heap.size 157 _ (bvs (key ++ nonce e s)) HB9.out rfl rfl (by rw [bvs_length, bvs_length, List.length_append, HH.out.1, nonce_length]; rfl) HPS.out (bvs_one _) ?_
    intro w5 b5 k5 z5
    have hge : w0.heap.size ≤ w2.heap.size := HS1.out.1.size
    have hk5 : Kp nob w0 w5 := (HS1.out.1.alloc _).since k5 (fun i e => by have e : i = w2.heap.size := e; omega)
    refine ⟨⟨hk5, (HS1.out.2.alloc _).keep k5 (fun e => by have e : w0.heap.size = w2.heap.size := e; have := HS1.out.2.lt; omega)⟩, fun _ => ?_⟩
    simp only [Act.put, List.setIfInBounds_toArray, List.set_cons_zero, List.set_cons_succ]
    exact reg_end (by kernel_rfl) (hcont w2.heap.size w5 hk5 b5 hge)
  · have HS1 := Lib.hid (show Kp nob w0 (w1.alloc (.cells (bvs (List.replicate 44 0)).toArray 157)) ∧ Blk (w1.alloc (.cells (bvs (List.replicate 44 0)).toArray 157)) w0.heap.size 39 (bvs key) from ⟨HS0.out.1.alloc _, HS0.out.2.alloc _⟩)
    have HB9 := Lib.hid (Blk.new w1 157 (bvs (List.replicate 44 0)))
    simp only [Act.put, List.setIfInBounds_toArray, List.set_cons_zero, List.set_cons_succ]
    refine reg_call 3 (some 28) rfl rfl (by kernel_rfl) (by rfl) _ _ (exec_func 90 _ _ [.int .i64 e, .int .i64 s] rfl (by kernel_rfl) rfl) ?_
    refine (nonceOf_any e s _).mono ?_
    rintro x w2 ⟨rfl, k2⟩
    have HS2 := Lib.hid (show Kp nob w0 w2 ∧ Blk w2 w0.heap.size 39 (bvs key) from ⟨HS1.out.1.trans k2 (fun _ e => e.elim), HS1.out.2.keep k2 (fun e => e)⟩)
    have HB8 := Lib.hid (HB9.out.keep k2 (fun e => e))
    clear k2
    refine ⟨_, rfl, HS2.out, fun _ => ?_⟩
    simp only [Act.put, List.setIfInBounds_toArray, List.set_cons_zero, List.set_cons_succ]
    refine reg_take (v := .agg (bvs (key ++ nonce e s)).toArray) 4 (some 29) rfl rfl (by kernel_rfl) (by kernel_rfl) (by kernel_rfl) (by rfl) HS2.out (fun w hw => by exact exec_build _ _ rfl [(0, .agg (bvs key).toArray), (1, .agg (bvs (nonce e s)).toArray)] _ rfl (HBP.out w)) ?_
    simp only [Act.put, List.setIfInBounds_toArray, List.set_cons_zero, List.set_cons_succ]
    refine reg_store 6 none 157 (.tmp 15) (.tmp 29) rfl rfl rfl (by kernel_rfl) (by rfl) w1.heap.size 157 _ (bvs (key ++ nonce e s)) HB8.out rfl rfl (by rw [bvs_length, bvs_length, List.length_append, HH.out.1, nonce_length]; rfl) HPS.out (bvs_one _) ?_
    intro w5 b5 k5 z5
    have hge : w0.heap.size ≤ w1.heap.size := HS0.out.1.size
    have hk5 : Kp nob w0 w5 := HS2.out.1.since k5 (fun i e => by have e : i = w1.heap.size := e; omega)
    refine ⟨⟨hk5, HS2.out.2.keep k5 (fun e => by have e : w0.heap.size = w1.heap.size := e; have := HS0.out.2.lt; omega)⟩, fun _ => ?_⟩
    simp only [Act.put, List.setIfInBounds_toArray, List.set_cons_zero, List.set_cons_succ]
    exact reg_end (by kernel_rfl) (hcont w1.heap.size w5 hk5 b5 hge)
theorem seal_yes (dif : List UInt8 → List UInt8 → Bool) (Z : World → Prop) (hN : NoteC dif Z) (v m p : Nat) (F : Nat → Prop) (ts : List Thing) (ms : List UInt8) (lim : Nat) (sl : List (Pl × List UInt8)) (cl : Nat) (key : List UInt8) (hk : key.length = 32) (e s : Int)
    (T : Option Addr) (nt ct' : Nat) (text : List UInt8) (B : Option Addr) (md d : Nat) (ps : List Pc) (w0 : World)
    (hv : Vs F w0 v m (imk p) ms lim sl cl) (hw : Iw w0 p F ts) (hF : ¬ F v ∧ ¬ F m) (ht : Arg w0 (uF F v m) T nt ct' text) (hp : Args w0 (uF F v m) B md ps) (hl : ts.length ≤ 100000) (lt : text.length ≤ 1048576) (lp : (catP ps).length ≤ 1048576) (hc : cl ≤ 1099511627776)
    (hr : refu lim e s = 0) (hz : ∀ w', Kp F w0 w' → Z w') :
    Calls Tryz.prog 65 #[.pointer (some ⟨v, 0, none⟩), .agg (bvs key).toArray, .int .i64 e, .int .i64 s, .slice T nt ct', .slice B md d] w0 fun x w' => ∃ F2 X cX, x = .returned (.tuple #[.slice X (text.length + 16) cX, .int .i64 0]) ∧
      Sealed w0 w' v m p F F2 ms lim (upd sl (pl key (nonce e s) hk (nonce_length e s)) text) (cl + clash dif sl (pl key (nonce e s) hk (nonce_length e s)) text) (mk ts (sealT key (nonce e s) (catP ps) text)) X cX (out ts (sealT key (nonce e s) (catP ps) text) (text.length + 16)) :=
  (seal_yesG dif Z hN v m p F ts ms lim sl cl F key hk e s T nt ct' text B md d ps w0 hv hw.lt (fun _ e => e) hw hF ht hp hl lt lp hc hr hz).mono fun x w' h =>
    let ⟨F2, X, cX, h1, h2⟩ := h
    ⟨F2, X, cX, h1, ⟨h2.iw, h2.f, h2.vs.mono (fun i e => .inr (.inl e)), h2.kp, h2.ne, h2.x⟩⟩
set_option maxHeartbeats 4000000 in
set_option maxRecDepth 100000 in
theorem open_yes (G : Nat → Prop) (v m p : Nat) (F : Nat → Prop) (ts : List Thing) (ms : List UInt8) (lim : Nat) (sl : List (Pl × List UInt8)) (cl : Nat) (key : List UInt8) (hk : key.length = 32) (e s : Int)
    (T : Option Addr) (nt ct' : Nat) (b : List UInt8) (B : Option Addr) (md d : Nat) (ps : List Pc) (w0 : World)
    (hv : Vs G w0 v m (imk p) ms lim sl cl) (hw : Iw w0 p F ts) (ht : Arg w0 F T nt ct' b) (hp : Args w0 F B md ps) (hl : ts.length ≤ 100000) (lt : b.length ≤ 1048592) (lp : (catP ps).length ≤ 1048576) (hr : refu lim e s = 0) :
    Calls Tryz.prog 82 #[.pointer (some ⟨v, 0, none⟩), .agg (bvs key).toArray, .int .i64 e, .int .i64 s, .slice T nt ct', .slice B md d] w0 fun x w' => OpenA (opn ts key (nonce e s) (catP ps) b) w0 w' x := by
  have k0 := (Kp.refl nob w0).alloc (.cells (bvs key).toArray 39)
  have HB := Lib.hid (Blk.new w0 39 (bvs key))
  have HV0 := Lib.hid hv; have HW0 := Lib.hid hw; have HT0 := Lib.hid ht; have HP0 := Lib.hid hp
  have HR := Lib.hid (show Calls Tryz.prog 89 #[.pointer (some ⟨v, 0, none⟩), .int .i64 e, .int .i64 s] (w0.alloc (.cells (bvs key).toArray 39)) fun x w' => x = .returned (.int .i64 0) ∧ (w0.alloc (.cells (bvs key).toArray 39)) = w' by
    have := refused_any v m (imk p) ms lim _ cl e s _ (hv.b.keep0 k0)
    rw [hr] at this; exact this)
  have HK0 := Lib.hid k0
  have HH := Lib.hid (And.intro hk (And.intro hl (And.intro lt lp)))
  have HBP := Lib.hid (fun w => build_place key (nonce e s) hk (nonce_length e s) w)
  rw [show pv (pl key (nonce e s) hk (nonce_length e s)) = .agg (bvs (key ++ nonce e s)).toArray from rfl] at HBP
  clear hv hw ht hp k0 hr hk hl lt lp
  go_enter Tryz.func82, Tryz.ntmps82
  go_wp2_with fail
  refine HR.out.mono ?_
  rintro x w1 ⟨rfl, rfl⟩
  clear HR
  go_wp2
  have HS : Hid (Kp nob w0 (w0.alloc (.cells (bvs key).toArray 39)).drew) := Lib.hid HK0.out.drew
  have HBK := Lib.hid (HB.out.keep (Kp.refl nob _).drew (fun e => e))
  have HKS := Lib.hid (key_size key HH.out.1)
  generalize hw1 : (w0.alloc (.cells (bvs key).toArray 39)).drew = w1 at *
  clear HB HK0
  refine reg_begin (fun w => Kp nob w0 w ∧ Blk w w0.heap.size 39 (bvs key)) (by kernel_rfl) ?hb (fun _ => ?_)
  case hb => rw [hw1]; exact ⟨HS.out, HBK.out⟩
  rw [hw1]
  clear hw1
  have HS0 := Lib.hid (And.intro HS.out HBK.out)
  refine reg_take (v := .pointer (some ⟨v, 0, none⟩)) 0 (some 22) rfl rfl (by kernel_rfl) (by kernel_rfl) (by kernel_rfl) (by rfl) HS0.out (fun w hw => by go_simp) ?_
  simp only [Act.put, List.setIfInBounds_toArray, List.set_cons_zero, List.set_cons_succ]
  refine reg_take (v := .pointer (some ⟨v, 0, none⟩)) 1 (some 23) rfl rfl (by kernel_rfl) (by kernel_rfl) (by kernel_rfl) (by rfl) HS0.out (fun w hw => by go_simp) ?_
  simp only [Act.put, List.setIfInBounds_toArray, List.set_cons_zero, List.set_cons_succ]
  refine reg_take (v := .pointer (some ⟨v, 0, none⟩)) 2 (some 24) rfl rfl (by kernel_rfl) (by kernel_rfl) (by kernel_rfl) (by rfl) HS0.out (fun w hw => by go_simp) ?_
  simp only [Act.put, List.setIfInBounds_toArray, List.set_cons_zero, List.set_cons_succ]
  refine reg_take (v := imk p) 3 (some 25) rfl rfl (by kernel_rfl) (by kernel_rfl) (by kernel_rfl) (by rfl) HS0.out (fun w hw => by have hc := (HV0.out.keep0 hw.1).b.mk_; go_simp) ?_
  simp only [Act.put, List.setIfInBounds_toArray, List.set_cons_zero, List.set_cons_succ]
  refine reg_load 4 (some 26) 39 (.tmp 7) rfl rfl rfl (by kernel_rfl) (by kernel_rfl) (by kernel_rfl) (by rfl) HS0.out w0.heap.size 0 rfl (bvs key) _ (fun w hw => hw.2.range) key_under rfl HKS.out ?_
  simp only [Act.put, List.setIfInBounds_toArray, List.set_cons_zero, List.set_cons_succ]
  refine reg_take (v := .int .i64 e) 5 (some 27) rfl rfl (by kernel_rfl) (by kernel_rfl) (by kernel_rfl) (by rfl) HS0.out (fun w hw => by go_simp) ?_
  simp only [Act.put, List.setIfInBounds_toArray, List.set_cons_zero, List.set_cons_succ]
  refine reg_take (v := .int .i64 s) 6 (some 28) rfl rfl (by kernel_rfl) (by kernel_rfl) (by kernel_rfl) (by rfl) HS0.out (fun w hw => by go_simp) ?_
  simp only [Act.put, List.setIfInBounds_toArray, List.set_cons_zero, List.set_cons_succ]
  refine reg_take (v := .slice T nt ct') 9 (some 31) rfl rfl (by kernel_rfl) (by kernel_rfl) (by kernel_rfl) (by rfl) HS0.out (fun w hw => by go_simp) ?_
  simp only [Act.put, List.setIfInBounds_toArray, List.set_cons_zero, List.set_cons_succ]
  refine reg_take (v := .slice B md d) 10 (some 32) rfl rfl (by kernel_rfl) (by kernel_rfl) (by kernel_rfl) (by rfl) HS0.out (fun w hw => by go_simp) ?_
  simp only [Act.put, List.setIfInBounds_toArray, List.set_cons_zero, List.set_cons_succ]
  refine reg_take (v := imk p) 11 (some 33) rfl rfl (by kernel_rfl) (by kernel_rfl) (by kernel_rfl) (by rfl) HS0.out (fun w hw => by first | (go_simp; done) | kernel_rfl) ?_
  simp only [Act.put, List.setIfInBounds_toArray, List.set_cons_zero, List.set_cons_succ]
  refine reg_take (v := imk p) 12 (some 34) rfl rfl (by kernel_rfl) (by kernel_rfl) (by kernel_rfl) (by rfl) HS0.out (fun w hw => by go_simp) ?_
  simp only [Act.put, List.setIfInBounds_toArray, List.set_cons_zero, List.set_cons_succ]
  refine reg_call 7 (some 29) rfl rfl (by kernel_rfl) (by rfl) _ _ (exec_func 90 _ _ [.int .i64 e, .int .i64 s] rfl (by kernel_rfl) rfl) ?_
  refine (nonceOf_any e s _).mono ?_
  rintro x w2 ⟨rfl, k2⟩
  have HS1 := Lib.hid (show Kp nob w0 w2 ∧ Blk w2 w0.heap.size 39 (bvs key) from ⟨HS0.out.1.trans k2 (fun _ e => e.elim), HS0.out.2.keep k2 (fun e => e)⟩)
  clear k2
  refine ⟨_, rfl, HS1.out, fun _ => ?_⟩
  simp only [Act.put, List.setIfInBounds_toArray, List.set_cons_zero, List.set_cons_succ]
  refine reg_take (v := .agg (bvs (key ++ nonce e s)).toArray) 8 (some 30) rfl rfl (by kernel_rfl) (by kernel_rfl) (by kernel_rfl) (by rfl) HS1.out (fun w hw => by exact exec_build _ _ rfl [(0, .agg (bvs key).toArray), (1, .agg (bvs (nonce e s)).toArray)] _ rfl (HBP.out w)) ?_
  simp only [Act.put, List.setIfInBounds_toArray, List.set_cons_zero, List.set_cons_succ]
  refine reg_call 13 (some 35) rfl rfl (by kernel_rfl) (by rfl) _ _ (exec_invoke 202 105 (.agg #[.pointer (some ⟨p, 0, none⟩)]) (.agg #[.pointer (some ⟨p, 0, none⟩)]) _ _ _ _ [.agg (bvs (key ++ nonce e s)).toArray, .slice T nt ct', .slice B md d] rfl rfl (by kernel_rfl) (by kernel_rfl) rfl) ?_
  refine (im_open p F ts key (nonce e s) HH.out.1 (nonce_length e s) T nt ct' b B md d ps _ (HW0.out.keep HS1.out.1 (fun _ _ e => e)) (HT0.out.keep0 HS1.out.1) (HP0.out.keep0 HS1.out.1) HH.out.2.1 HH.out.2.2.1 HH.out.2.2.2).mono ?_
  rintro x w3 ⟨X, cX, rfl, k3, hx, f3⟩
  have HFX := Lib.hid (fun k e => Nat.le_trans HS1.out.1.size (f3 k e))
  clear f3
  obtain ⟨er, her⟩ : ∃ er : Int, er = (if (opn ts key (nonce e s) (catP ps) b).isSome then (0 : Int) else 9) := ⟨_, rfl⟩
  rw [← her]
  have HER := Lib.hid her
  have HX := Lib.hid hx
  have HS3 := Lib.hid (show Kp nob w0 w3 ∧ Blk w3 w0.heap.size 39 (bvs key) from ⟨HS1.out.1.trans k3 (fun _ e => e.elim), HS1.out.2.keep k3 (fun e => e)⟩)
  clear hx k3 her
  refine ⟨_, rfl, HS3.out, fun _ => ?_⟩
  simp only [Act.put, List.setIfInBounds_toArray, List.set_cons_zero, List.set_cons_succ]
  refine reg_take (v := .slice X ((opn ts key (nonce e s) (catP ps) b).getD []).length cX) 14 (some 36) rfl rfl (by kernel_rfl) (by kernel_rfl) (by kernel_rfl) (by rfl) HS3.out (fun w hw => by go_simp) ?_
  simp only [Act.put, List.setIfInBounds_toArray, List.set_cons_zero, List.set_cons_succ]
  refine reg_take (v := .int .i64 er) 15 (some 37) rfl rfl (by kernel_rfl) (by kernel_rfl) (by kernel_rfl) (by rfl) HS3.out (fun w hw => by go_simp) ?_
  simp only [Act.put, List.setIfInBounds_toArray, List.set_cons_zero, List.set_cons_succ]
  refine reg_take (v := .slice X ((opn ts key (nonce e s) (catP ps) b).getD []).length cX) 16 (some 12) rfl rfl (by kernel_rfl) (by kernel_rfl) (by kernel_rfl) (by rfl) HS3.out (fun w hw => by go_simp) ?_
  simp only [Act.put, List.setIfInBounds_toArray, List.set_cons_zero, List.set_cons_succ]
  refine reg_take (v := .int .i64 er) 17 (some 13) rfl rfl (by kernel_rfl) (by kernel_rfl) (by kernel_rfl) (by rfl) HS3.out (fun w hw => by go_simp) ?_
  simp only [Act.put, List.setIfInBounds_toArray, List.set_cons_zero, List.set_cons_succ]
  refine reg_end (by kernel_rfl) ?_
  go_wp2
  go_ret2
  unfold OpenA
  exact ⟨X, cX, by rw [← HER.out]; rfl, HS3.out.1, HX.out, HFX.out⟩
end Go.Proofs.YtiimfhacnfdmhaaGreat.Vault
namespace Go.Proofs.YtiimfhacnfdmhaaGreat.Vault
open Go Go.RowKit Kit
open Ideal (zc zc_run zc_length zc_eq z32 arr32_under)
theorem zk_run (w : World) : (zeroValue 39).run Tryz.prog w = .ok (.agg zc.toArray) w := by rw [zc_eq]; kernel_rfl
theorem z_build (w : World) : (Instr.build 32 #[]).run Tryz.prog w = .ok (.agg zc.toArray) w := by rw [zc_eq]; kernel_rfl
end Go.Proofs.YtiimfhacnfdmhaaGreat.Vault
namespace Go.Proofs.YtiimfhacnfdmhaaGreat.Vault
open Go Go.RowKit Kit
open Ideal (Iw Iq Ans Arg Args Thing mk out sealT opn derT hashT z32 zc zc_run zc_length zc_eq args_one arr32_under)
open Sha (Pc PcsOk catP)
structure Db (w0 : World) (t : TypeId) (G : Nat → Prop) (p : Nat) (l : List UInt8) (w : World) : Prop where
  m : Blk w w0.heap.size 105 [.pointer (some ⟨p, 0, none⟩)]
  p : Blk w (w0.heap.size + 1) 39 (bvs l)
  z : ∃ cs, Blk w (w0.heap.size + 2) t cs ∧ cs.length = 32
  k : Kp G w0 w
theorem Db.keep {w0 w w2 : World} {t : TypeId} {G : Nat → Prop} {p : Nat} {l : List UInt8} (h : Db w0 t G p l w) (k : Kp G w w2) (hG : ∀ i, G i → i < w0.heap.size) : Db w0 t G p l w2 := ⟨h.m.keep k (fun e => Nat.lt_irrefl _ (hG _ e)), h.p.keep k (fun e => by have := hG _ e; omega), (let ⟨cs, h1, h2⟩ := h.z; ⟨cs, h1.keep k (fun e => by have := hG _ e; omega), h2⟩), h.k.trans k (fun _ e => .inl e)⟩
theorem Db.keep0 {w0 w w2 : World} {t : TypeId} {G : Nat → Prop} {p : Nat} {l : List UInt8} (h : Db w0 t G p l w) (k : Kp nob w w2) : Db w0 t G p l w2 := ⟨h.m.keep k (fun e => e), h.p.keep k (fun e => e), (let ⟨cs, h1, h2⟩ := h.z; ⟨cs, h1.keep k (fun e => e), h2⟩), h.k.trans k (fun _ e => e.elim)⟩
theorem Db.zlt {w0 w : World} {t : TypeId} {G : Nat → Prop} {p : Nat} {l : List UInt8} (h : Db w0 t G p l w) : w0.heap.size + 2 < w.heap.size := let ⟨_, h1, _⟩ := h.z; h1.lt
theorem Db.key {w0 w : World} {t : TypeId} {G : Nat → Prop} {p : Nat} {k : List UInt8} (h : Db w0 t G p k w) (hk : k.length = 32) (F : Nat → Prop) (hF : ∀ i, F i → i < w0.heap.size) : Arg w F (some ⟨w0.heap.size + 1, 0, none⟩) 32 32 k :=
  ⟨hk, .inr ⟨w0.heap.size + 1, 0, rfl, h.p.lt, fun i v hv => by rw [Nat.zero_add, h.p.cell]; exact hv⟩, .inr (fun j e hj => by simp only [ab, Option.map_some, Option.some.injEq] at e; have := hF j hj; omega), Nat.le_refl _, by decide, fun e => by cases e⟩
theorem Db.new (w0 : World) (t : TypeId) (p : Nat) (l : List UInt8) : Db w0 t nob p l (((w0.alloc (.cells #[.pointer (some ⟨p, 0, none⟩)] 105)).alloc (.cells (bvs l).toArray 39)).alloc (.cells zc.toArray t)).drew :=
  ⟨(((Blk.new' rfl rfl).alloc _).alloc _).keep (Kp.refl nob _).drew (fun e => e), ((Blk.new' (by simp) rfl).alloc _).keep (Kp.refl nob _).drew (fun e => e), ⟨zc, (Blk.new' (by simp) rfl).keep (Kp.refl nob _).drew (fun e => e), zc_length⟩, ((((Kp.refl _ _).alloc _).alloc _).alloc _).drew⟩
theorem Db.to {w0 w : World} {t : TypeId} {G : Nat → Prop} {p : Nat} {l : List UInt8} (h : Db w0 t nob p l w) : Db w0 t G p l w := ⟨h.m, h.p, h.z, h.k.nob G⟩
theorem out_len32 (ts : List Thing) (t : Thing) : (bvs (out ts t 32)).length = 32 := by rw [bvs_length, Ideal.out_length _ _ _ (by omega)]
set_option maxHeartbeats 2000000 in
set_option maxRecDepth 100000 in
theorem im_derive (p : Nat) (F : Nat → Prop) (ts : List Thing) (key : List UInt8) (hk : key.length = 32) (T : Option Addr) (nt ct' : Nat) (text : List UInt8) (w0 : World)
    (hw : Iw w0 p F ts) (ht : Arg w0 F T nt ct' text) (hl : ts.length ≤ 100000) (lt : text.length ≤ 1048576) :
    Calls Tryz.prog 199 #[.agg #[.pointer (some ⟨p, 0, none⟩)], .agg (bvs key).toArray, .slice T nt ct'] w0 fun e w' => ∃ F2, e = .returned (.agg (bvs (out ts (derT key text) 32)).toArray) ∧ Iq w0 F w' p F2 (mk ts (derT key text)) := by
  have HW := Lib.hid hw
  have HKN := Lib.hid hk
  have HM := Lib.hid (Db.new w0 39 p key)
  have hz := zk_run
  have HT := Lib.hid ht; have HL := Lib.hid (And.intro hl lt); clear ht lt hl
  clear hw hk
  go_enter Tryz.func199, Tryz.ntmps199
  go_wp2
  generalize hw1 : (((w0.alloc (.cells #[.pointer (some ⟨p, 0, none⟩)] 105)).alloc (.cells (bvs key).toArray 39)).alloc (.cells zc.toArray 39)) = wb at *
  have HS : Hid (Db w0 39 F p key wb.drew) := Lib.hid HM.out.to
  have hF := HW.out.lt
  have HW1 := Lib.hid (HW.out.keep HM.out.k (fun _ _ e => e))
  have HTY := Lib.hid (HT.out.keep0 HM.out.k)
  clear hw1
  refine reg_begin (Db w0 39 F p key) (by kernel_rfl) HS.out (fun _ => ?_)
  refine reg_take (v := .pointer (some ⟨w0.heap.size, 0, none⟩)) 0 (some 7) rfl rfl (by kernel_rfl) (by kernel_rfl) (by kernel_rfl) (by rfl) HS.out (fun w hw => by go_simp) ?_
  simp only [Act.put, List.setIfInBounds_toArray, List.set_cons_zero, List.set_cons_succ]
  refine reg_take (v := .pointer (some ⟨p, 0, none⟩)) 1 (some 8) rfl rfl (by kernel_rfl) (by kernel_rfl) (by kernel_rfl) (by rfl) HS.out (fun w hw => by have hc : w.cell? ⟨w0.heap.size, 0, none⟩ = some (.pointer (some ⟨p, 0, none⟩)) := (by rw [hw.m.cell]; rfl); go_simp) ?_
  simp only [Act.put, List.setIfInBounds_toArray, List.set_cons_zero, List.set_cons_succ]
  refine reg_take (v := .slice (some ⟨w0.heap.size + 1, 0, none⟩) 32 32) 2 (some 9) rfl rfl (by kernel_rfl) (by kernel_rfl) (by kernel_rfl) (by rfl) HS.out (fun w hw => by have hc := key_all (w0.heap.size + 1) 0 w; go_simp) ?_
  simp only [Act.put, List.setIfInBounds_toArray, List.set_cons_zero, List.set_cons_succ]
  refine reg_take (v := .slice T nt ct') 3 (some 10) rfl rfl (by kernel_rfl) (by kernel_rfl) (by kernel_rfl) (by rfl) HS.out (fun w hw => by go_simp) ?_
  simp only [Act.put, List.setIfInBounds_toArray, List.set_cons_zero, List.set_cons_succ]
  have k9 : Kp nob w0 (wb.drew.alloc (.cells #[.slice T nt ct'] 42)) := HM.out.k.alloc _
  have HS1 : Hid (Db w0 39 F p key (wb.drew.alloc (.cells #[.slice T nt ct'] 42))) := Lib.hid (HS.out.keep0 ((Kp.refl nob _).alloc _))
  have HK9 := Lib.hid k9
  have HA := Lib.hid (args_one (t := 42) HTY.out HW1.out.lt)
  have HW2 := Lib.hid (HW1.out.keep ((Kp.refl nob _).alloc (.cells #[.slice T nt ct'] 42)) (fun _ _ e => e))
  clear k9
  refine reg_step (w' := wb.drew.alloc (.cells #[.slice T nt ct'] 42)) (v := .slice (some ⟨wb.drew.heap.size, 0, none⟩) 1 1) 4 (some 11) rfl rfl (by kernel_rfl) (by rfl) (by first | kernel_rfl | (go_simp; rfl)) HS1.out (fun _ => ?_)
  simp only [Act.put, List.setIfInBounds_toArray, List.set_cons_zero, List.set_cons_succ]
  refine reg_call 5 (some 12) rfl rfl (by kernel_rfl) (by rfl) _ _ (exec_func 204 _ _ [.pointer (some ⟨p, 0, none⟩), .slice (some ⟨w0.heap.size + 1, 0, none⟩) 32 32, .slice (some ⟨wb.drew.heap.size, 0, none⟩) 1 1] rfl (by kernel_rfl) rfl) ?_
  have hdv := Ideal.derive_i p F ts (some ⟨w0.heap.size + 1, 0, none⟩) 32 32 key _ _ 1 _ _ HW2.out (HS1.out.key HKN.out F hF) HA.out HL.out.1 (by rw [HKN.out]; omega) (by rw [Sha.catP_one]; exact HL.out.2)
  rw [Sha.catP_one] at hdv
  refine hdv.mono ?_
  clear hdv
  rintro e w2 ⟨F2, rfl, hq⟩
  have HNZ : Hid (¬ F2 (w0.heap.size + 2)) := Lib.hid (fun h => (hq.f _ h).elim (fun h => by have := hF _ h; omega) (fun h => by have := HS1.out.zlt; omega))
  have HQ := Lib.hid (hq.back HK9.out)
  have HS2 : Hid (Db w0 39 F p key w2) := Lib.hid (HS1.out.keep hq.k hF)
  clear hq HS HM HW1 HW2 HS1 HA HK9
  obtain ⟨D, hD⟩ : ∃ D, D = out ts (derT key text) 32 := ⟨_, rfl⟩
  have HTL := Lib.hid (show (bvs D).length = 32 by rw [hD]; exact out_len32 _ _)
  have HDD := Lib.hid hD
  rw [← hD]
  clear hD
  refine ⟨_, rfl, HS2.out, fun _ => ?_⟩
  simp only [Act.put, List.setIfInBounds_toArray, List.set_cons_zero, List.set_cons_succ]
  obtain ⟨cs, hcs, hcl⟩ := HS2.out.z
  refine reg_store 6 none 39 (.tmp 6) (.tmp 12) rfl rfl rfl (by kernel_rfl) (by rfl) (w0.heap.size + 2) 39 cs (bvs D) hcs rfl rfl (by rw [HTL.out, hcl]) (by rw [HTL.out]; kernel_rfl) (bvs_one _) ?_
  intro w4 hB4 k4 z4
  have HW4 := Lib.hid (HQ.out.i.keep k4 (fun i h e => HNZ.out (by have e : i = w0.heap.size + 2 := e; rw [← e]; exact h)))
  have hz4 : ¬ oneB (w0.heap.size + 2) w0.heap.size := fun e => by have e : w0.heap.size = w0.heap.size + 2 := e; omega
  have hz5 : ¬ oneB (w0.heap.size + 2) (w0.heap.size + 1) := fun e => by have e : w0.heap.size + 1 = w0.heap.size + 2 := e; omega
  have HK4 := Lib.hid (HQ.out.k.trans k4 (fun i e => .inr (by have e : i = w0.heap.size + 2 := e; omega)))
  have HB4 := Lib.hid hB4
  refine ⟨⟨HS2.out.m.keep k4 hz4, HS2.out.p.keep k4 hz5, ⟨_, hB4, HTL.out⟩, HK4.out⟩, fun _ => ?_⟩
  clear k4 z4 hB4 hz4 hz5 hcs hcl
  simp only [Act.put, List.setIfInBounds_toArray, List.set_cons_zero, List.set_cons_succ]
  refine reg_end (by kernel_rfl) ?_
  go_wp2
  have hsz : (Tryz.prog.info? 39).map (·.size) = some (bvs D).toArray.size := by rw [List.size_toArray, HTL.out]; kernel_rfl
  exact bodyPost_ret (results_cell_row rfl _ _ (w0.heap.size + 2) _ _ _ _ rfl HB4.out key_under rfl hsz) rfl (by first | exact ⟨F2, by rw [HDD.out], HW4.out, HQ.out.f, HK4.out⟩ | exact ⟨by rw [HDD.out], F2, HW4.out, HQ.out.f, HK4.out⟩)
end Go.Proofs.YtiimfhacnfdmhaaGreat.Vault
