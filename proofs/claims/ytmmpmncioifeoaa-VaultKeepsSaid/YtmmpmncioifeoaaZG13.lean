/- The code's ideal world: a thing's bytes. · The code's ideal world: pieces in one, how long they are; digests; a new world, how many things it has. · The code's ideal world: what it promises, in the document's words; tags, keys, digests. -/
import Derived.Test.YtmmpmncioifeoaaZG10
import Derived.Test.YtmmpmncioifeoaaZG04
import Derived.Test.YtmmpmncioifeoaaZG12
import Derived.Test.YtmmpmncioifeoaaZG11
import Derived.Laws.Cover3
namespace Go.Proofs.Ytmmpmncioifeoaa.Ideal
set_option linter.unusedVariables false
set_option linter.unusedSimpArgs false
open Go Go.RowKit Kit

theorem num8_nat (n : Nat) (h : n < 18446744073709551616) : num8 (n : Int) = le 8 n := by
  unfold num8; rw [show ((n : Int) % 18446744073709551616).toNat = n by omega]
/-- The writer of a thing's bytes, and the thing, behind some calls. -/
structure Bw (w0 : World) (t : Thing) (l : List UInt8) (A : Option Addr) (w : World) : Prop where
  i : IsW w (w0.heap.size + 1) A l
  t : Blk w w0.heap.size 101 (tc t)
  k : Kp nob w0 w
  f : ∀ j, WF (w0.heap.size + 1) A j → w0.heap.size + 1 ≤ j
theorem Bw.keep {w0 w w2 : World} {t : Thing} {l : List UInt8} {A : Option Addr} (h : Bw w0 t l A w) (k : Kp nob w w2) : Bw w0 t l A w2 :=
  ⟨h.i.keep k (fun _ _ e => e), h.t.keep k (fun e => e), h.k.trans k (fun _ e => e.elim), h.f⟩
theorem Bw.step {w0 w w2 : World} {t : Thing} {l l2 : List UInt8} {A : Option Addr} (h : Bw w0 t l A w) (hp : WPost w (w0.heap.size + 1) A l2 w2) : ∃ A2, Bw w0 t l2 A2 w2 := by
  obtain ⟨A2, h1, h2, h3⟩ := hp
  have hs := h.k.size
  have hb := h.t.lt
  have hf : ∀ j, WF (w0.heap.size + 1) A2 j → w0.heap.size + 1 ≤ j := by
    rintro j (rfl | e)
    · exact Nat.le_refl _
    · rcases h3 with h3 | ⟨q, h3, hq⟩
      · exact h.f j (.inr (by rw [← h3]; exact e))
      · rw [h3] at e; cases e
        have := h.i.lt
        omega
  exact ⟨A2, h1, h.t.keep h2 (fun e => by have := h.f _ e; omega), h.k.since h2 (fun i e => by have := h.f i e; omega), hf⟩
theorem wByte1 (b : Nat) (A : Option Addr) (l : List UInt8) (x : UInt8) (w : World) (t : TypeId) (H : Nat) (hH : w.heap.size = H) (h : IsW w b A l) (hl : l.length + 1 ≤ 1099511627776) :
    Calls Try.prog 64 #[.pointer (some ⟨b, 0, none⟩), .slice (some ⟨H, 0, none⟩) 1 1] (w.alloc (.cells #[bv x] t)) fun e w' => e = .returned (.tuple #[]) ∧ WPost w b A (l ++ [x]) w' := by
  subst hH
  refine (wByte b A l (some ⟨w.heap.size, 0, none⟩) 1 1 [x] _ (h.alloc _) (fun e => by cases e) rfl (row_one _ _ _) (by omega)).mono ?_
  rintro e w' ⟨rfl, hp⟩
  exact ⟨rfl, hp.later⟩
set_option maxHeartbeats 2000000 in
set_option maxRecDepth 100000 in
theorem bytes_any (t : Thing) (n k : Nat) (w0 : World) (hn : n < 4611686018427387904) (hk : 9 < k) (hk2 : k ≤ 1048592) :
    Calls Try.prog 60 #[.agg (tc t).toArray, .int .i64 n, .int .i64 k] w0 fun e w' => ∃ A c, e = .returned (.slice A k c) ∧ Kit.Own 5 w' A k c (bvs (tok t.kind n k)) ∧ Kp nob w0 w' ∧ Fresh w0.heap.size A ∧ (A = none → c = 0) := by
  have HB0 : Hid (Bw w0 t [] none ((w0.alloc (.cells (tc t).toArray 101)).alloc (.cells #[.slice none 0 0] 65))) := Lib.hid ⟨by
      have := isW_new (w0.alloc (.cells (tc t).toArray 101))
      simpa using this, (Blk.new w0 101 (tc t)).alloc _, ((Kp.refl nob w0).alloc _).alloc _, by rintro j (rfl | e); exact Nat.le_refl _; cases e⟩
  have HN := Lib.hid (num8_nat n (by omega))
  have HKN := Lib.hid (And.intro hk hk2)
  go_enter Try.func60, Try.ntmps60
  clear hk hk2 hn
  go_wp2_with fail
  refine (wNum1 (w0.heap.size + 1) none [] n _ _ _ (by simp) HB0.out.i (by simp)).mono ?_
  rintro e w1 ⟨rfl, hp⟩
  obtain ⟨A1, h1⟩ := HB0.out.step hp
  rw [HN.out, List.nil_append] at h1
  have HB1 := Lib.hid h1
  have hkind : w1.cell? ⟨w0.heap.size, 0, none⟩ = some (.int .u8 (t.kind.toNat : Int)) := by rw [h1.t.cell]; rfl
  obtain ⟨w1h, hw1h⟩ : ∃ H, H = w1.heap.size := ⟨_, rfl⟩
  have HH1 := Lib.hid hw1h
  clear h1 hp hw1h
  go_wp2_with fail
  refine (wByte1 (w0.heap.size + 1) A1 (le 8 n) t.kind _ _ _ rfl HB1.out.i (by simp)).mono ?_
  rintro e w2 ⟨rfl, hp⟩
  obtain ⟨A2, h2⟩ := HB1.out.step hp
  obtain ⟨L, hL⟩ : ∃ L, L = le 8 n ++ [t.kind] := ⟨_, rfl⟩
  rw [← hL] at h2
  have hL9 : L.length = 9 := by rw [hL]; simp
  have HB2 := Lib.hid h2
  have HL := Lib.hid hL
  have HL9 := Lib.hid hL9
  clear h2 hp hkind hL hL9
  go_wp2_with fail
  refine (wBytes (w0.heap.size + 1) A2 L _ HB2.out.i (by rw [HL9.out]; omega)).mono ?_
  rintro e w3 ⟨A3, c3, rfl, _, k3, _, _⟩
  rw [HL9.out]
  have HB3 := Lib.hid (HB2.out.keep k3)
  clear k3
  have hsub : IntKind.i64.wrap ((k : Int) - 9) = ((k - 9 : Nat) : Int) := by have := HKN.out; rw [IntKind.wrap_i64]; omega
  obtain ⟨m, hm⟩ : ∃ m, m = k - 9 := ⟨_, rfl⟩
  rw [← hm] at hsub
  have HM := Lib.hid hm
  clear hm
  go_wp2_with fail
  refine (Cat.rep_any (some ⟨w3.heap.size, 0, none⟩) 1 m 0xee _ (row_new w3 [bv 0xee] _) (Nat.le_refl _) (by have := HKN.out; have := HM.out; omega) (by have := HKN.out; have := HM.out; omega)).mono ?_
  rintro e w4 ⟨g, rfl, hrow, k4, _⟩
  have HB4 := Lib.hid ((HB3.out.keep ((Kp.refl nob w3).alloc (.cells #[bv 0xee] 5))).keep k4)
  have HR4 := Lib.hid hrow
  clear k4 hrow
  go_wp2_with fail
  refine (wByte (w0.heap.size + 1) A2 L (some ⟨g, 0, none⟩) m m (List.replicate m 0xee) _ HB4.out.i (fun e => by cases e) (by simp) HR4.out (by have := HKN.out; have := HM.out; rw [HL9.out]; omega)).mono ?_
  rintro e w5 ⟨rfl, hp⟩
  obtain ⟨A5, h5⟩ := HB4.out.step hp
  have hT : L ++ List.replicate m 0xee = tok t.kind n k := by rw [HL.out, HM.out]; rfl
  rw [hT] at h5
  have HB5 := Lib.hid h5
  have HTL := Lib.hid (show (tok t.kind n k).length = k from tok_length _ _ _ (by have := HKN.out; omega))
  clear h5 hp hT hsub
  go_wp2_with fail
  refine (wBytes (w0.heap.size + 1) A5 (tok t.kind n k) _ HB5.out.i (by have := HKN.out; rw [HTL.out]; omega)).mono ?_
  rintro e w6 ⟨A6, c6, rfl, ho6, k6, hf6, hn6⟩
  rw [HTL.out] at ho6 ⊢
  have H6 := Lib.hid (And.intro ho6 (And.intro k6 (And.intro hf6 hn6)))
  clear ho6 k6 hf6 hn6
  go_wp2
  go_ret
  exact ⟨A6, c6, rfl, H6.out.1, HB5.out.k.trans H6.out.2.1 (fun _ e => e.elim), fun j e => Nat.le_trans HB5.out.k.size (H6.out.2.2.1 j e), H6.out.2.2.2⟩
set_option maxHeartbeats 2000000 in
set_option maxRecDepth 100000 in
/-- A seal's bytes. -/
theorem sealed_any (t : Thing) (n : Nat) (w0 : World) (hn : n < 4611686018427387904) (hd : t.d.length ≤ 1048576) :
    Calls Try.prog 57 #[.agg (tc t).toArray, .int .i64 n] w0 fun e w' => ∃ A c, e = .returned (.slice A (t.d.length + 16) c) ∧ Kit.Own 5 w' A (t.d.length + 16) c (bvs (tok t.kind n (t.d.length + 16))) ∧ Kp nob w0 w' ∧ Fresh w0.heap.size A ∧ (A = none → c = 0) := by
  have HB := Lib.hid (Blk.new w0 101 (tc t))
  have hx : (w0.alloc (.cells (tc t).toArray 101)).cell? ⟨w0.heap.size, 4, none⟩ = some (.string (str t.d)) := by rw [HB.out.cell]; rfl
  obtain ⟨D, hD⟩ : ∃ D, D = t.d.length := ⟨_, rfl⟩
  have hsz : (str t.d).size = D := by rw [str_size, hD]
  have hadd : IntKind.i64.wrap ((D : Int) + 16) = ((D + 16 : Nat) : Int) := by rw [IntKind.wrap_i64]; omega
  have hK := bytes_any t n (D + 16) (w0.alloc (.cells (tc t).toArray 101)) hn (by omega) (by omega)
  rw [← hD]
  have HK := Lib.hid hK
  clear hK hD
  go_enter Try.func57, Try.ntmps57
  go_wp2_with (first | (refine wpList_load_blk rfl 101 (.tmp 2) rfl _ _ _ HB.out rfl _ cthing_under rfl (by kernel_rfl) ?_) | fail)
  refine HK.out.mono ?_
  rintro e w1 ⟨A, c, rfl, ho, k, hf, hn⟩
  have H1 := Lib.hid (And.intro ho (And.intro k (And.intro hf hn)))
  clear ho k hf hn
  go_wp2
  go_ret
  exact ⟨A, c, rfl, H1.out.1, ((Kp.refl nob w0).alloc _).trans H1.out.2.1 (fun _ e => e.elim), fun j e => Nat.le_trans (by simp) (H1.out.2.2.1 j e), H1.out.2.2.2⟩
end Go.Proofs.Ytmmpmncioifeoaa.Ideal
namespace Go.Proofs.Ytmmpmncioifeoaa.Ideal
set_option linter.unusedVariables false
set_option linter.unusedSimpArgs false
open Go Go.RowKit Kit
open Sha (Pc PcsOk catP catP_snoc catP_le)

set_option maxHeartbeats 1000000 in
theorem joined_any (B : Option Addr) (m d : Nat) (ps : List Pc) (F : Nat → Prop) (w : World) (hp : Args w F B m ps) (hl : (catP ps).length ≤ 1099511627776) :
    Calls Try.prog 54 #[.slice B m d] w fun e w' => e = .returned (.string (str (catP ps))) ∧ Kp nob w w' := by
  go_enter Try.func54, Try.ntmps54
  go_wp2_with fail
  refine (Cat.concat_any B m d ps _ hp.len hp.row (hp.pcs.mono (fun _ e => e.elim)) hp.nil hp.max hl).mono ?_
  rintro e w1 ⟨A, c, rfl, ho, k, hf⟩
  have hc := conv_row w1 A _ c (catP ps) rfl ho.row
  have HK := Lib.hid k
  clear ho hf k
  go_wp2
  go_ret
  exact ⟨rfl, HK.out⟩
set_option maxHeartbeats 1000000 in
theorem size_any (B : Option Addr) (m d : Nat) (ps : List Pc) (F : Nat → Prop) (w : World) (hp : Args w F B m ps) (hl : (catP ps).length ≤ 1099511627776) :
    Calls Try.prog 58 #[.slice B m d] w fun e w' => e = .returned (.int .i64 (catP ps).length) ∧ w = w' := by
  have HM := Lib.hid hp.len; have HL := Lib.hid hl
  have hmm := hp.max
  have HPC : Hid (∀ k, k < m → ∃ (p : Pc) (bb oo : Nat), B = some ⟨bb, oo, none⟩ ∧ w.cell? ⟨bb, oo + k, none⟩ = some (.slice p.A p.n p.c) ∧ (catP (ps.take (k + 1))).length = (catP (ps.take k)).length + p.n ∧ (catP (ps.take (k + 1))).length ≤ (catP ps).length) := Lib.hid (by
    intro k hlt
    obtain ⟨p, hpk⟩ : ∃ p, p = ps[k]'(by rw [HM.out]; exact hlt) := ⟨_, rfl⟩
    obtain ⟨bb, oo, rfl, hbb, hcell⟩ := hp.row.at_ (i := k) (by simp [HM.out]; exact hlt)
    have hmem : p ∈ ps := by rw [hpk]; exact List.getElem_mem _
    obtain ⟨q1, q2, _, q4, q5⟩ := hp.pcs p hmem
    have hsn := catP_snoc ps k (by rw [HM.out]; exact hlt)
    exact ⟨p, bb, oo, rfl, by rw [hcell, hpk]; simp [Pc.v], by rw [hsn, List.length_append, ← hpk, q1], catP_le ps (k + 1)⟩)
  clear hp hl
  go_enter Try.func58, Try.ntmps58
  go_wp2
  go_loop [3, 8] (fun vr vi => ∃ (k : Nat), k ≤ m ∧ vi = .int .i64 k ∧ vr = .int .i64 ((catP (ps.take k)).length : Int))
    (fun _ vi => m - (intOf vi).toNat)
  case atStart => exact ⟨0, Nat.zero_le _, rfl, by simp [catP]⟩
  case round =>
    obtain ⟨k, hk, rfl, rfl⟩ := hrel
    by_cases hlt : k < m
    · obtain ⟨p, bb, oo, rfl, hce, hS, hle⟩ := HPC.out k hlt
      obtain ⟨I, hI⟩ : ∃ I, I = (catP (ps.take k)).length := ⟨_, rfl⟩
      obtain ⟨J, hJ⟩ : ∃ J, J = (catP (ps.take (k + 1))).length := ⟨_, rfl⟩
      rw [← hI, ← hJ] at hS
      rw [← hJ] at hle
      rw [← hI]
      have HJ := Lib.hid hJ
      have hl := HL.out
      have e1 : IntKind.i64.wrap ((I : Int) + (p.n : Int)) = (J : Int) := by rw [IntKind.wrap_i64]; omega
      clear hS hle hI hJ hl
      go_wp2
      go_round
      case rel => exact ⟨k + 1, by omega, by go_num, by rw [HJ.out]⟩
      case measure => simp [intOf]; omega
    · obtain rfl : m = k := by omega
      have hI : (catP (ps.take m)).length = (catP ps).length := by rw [List.take_of_length_le (by rw [HM.out]; omega)]
      rw [hI]
      obtain ⟨L, hL⟩ : ∃ L, L = (catP ps).length := ⟨_, rfl⟩
      rw [← hL]
      have HLL := Lib.hid hL
      clear hI hL
      go_wp2
      go_ret
      exact ⟨by rw [← HLL.out]; rfl, rfl⟩
theorem arr32_under : Try.prog.underlying 27 = some (.array 32 5) := by kernel_rfl
def z32 : List UInt8 := List.replicate 32 0
def zc : List Value := bvs z32
theorem zc_run (w : World) : (zeroValue 27).run Try.prog w = .ok (.agg zc.toArray) w := by kernel_rfl
theorem zc_eq : zc = bvs z32 := rfl
theorem zc_length : zc.length = 32 := by simp [zc, z32]
theorem zc_info : (Try.prog.info? 27).map (·.size) = some zc.length := by rw [zc_length]; kernel_rfl
attribute [irreducible] zc
set_option maxHeartbeats 2000000 in
set_option maxRecDepth 100000 in
theorem digest_nil (v : Value) (t : Thing) (hv : v = .agg (tc t).toArray) (w : World) :
    Calls Try.prog 53 #[.pointer none, v] w fun e w' => e = .returned (.agg (bvs z32).toArray) ∧ Kp nob w w' := by
  subst hv
  have hz := zc_run
  have HB := Lib.hid (show Blk ((w.alloc (.cells (tc t).toArray 101)).alloc (.cells zc.toArray 27)) (w.heap.size + 1) 27 zc from Blk.new' (by simp) rfl)
  have HK := Lib.hid (((Kp.refl nob w).alloc (.cells (tc t).toArray 101)).alloc (.cells zc.toArray 27))
  go_enter Try.func53, Try.ntmps53
  go_wp2_with (first
    | (refine wpList_store_blk rfl 27 (.tmp 4) (.tmp 7) rfl _ _ zc zc HB.out rfl rfl rfl zc_info (by rw [zc_eq]; exact bvs_one _) ?_; intro w2 hB2 k2 z2)
    | fail)
  have hsz : (Try.prog.info? 27).map (·.size) = some zc.toArray.size := by rw [List.size_toArray]; exact zc_info
  refine bodyPost_ret (results_cell_row rfl _ _ (w.heap.size + 1) _ _ _ _ rfl hB2 arr32_under rfl hsz) rfl ⟨by rw [zc_eq], HK.out.since k2 (fun i e => by cases e; omega)⟩
set_option maxHeartbeats 4000000 in
set_option maxRecDepth 100000 in
theorem digest_any (p bn bs : Nat) (cs : List Thing) (t : Thing) (w0 : World) (hw : Cx w0 p bn bs cs (fun _ => True)) (hl : cs.length ≤ 100000) (hk : t.kind ≠ 83) :
    Calls Try.prog 53 #[.pointer (some ⟨p, 0, none⟩), .agg (tc t).toArray] w0 fun e w' => e = .returned (.agg (bvs (tok t.kind (num (mk cs t) t) 32)).toArray) ∧ Cx w' p bn bs (mk cs t) (fun _ => True) ∧ Kp (fun i => i = bn) w0 w' := by
  have HKD := Lib.hid hk
  have HNE : Hid (w0.heap.size ≠ bn ∧ w0.heap.size + 1 ≠ bn) := Lib.hid (by have := hw.lt bn (.inr (.inl rfl)); omega)
  have HW := Lib.hid hw
  clear hk hw
  have hz := zc_run
  go_enter Try.func53, Try.ntmps53
  go_wp2
  generalize hw1 : (w0.alloc (.cells (tc t).toArray 101)).alloc (.cells zc.toArray 27) = w1 at *
  have HT : Hid (Blk w1.drew w0.heap.size 101 (tc t)) := Lib.hid (by rw [← hw1]; exact ((Blk.new w0 _ _).alloc _).keep (Kp.refl nob _).drew (fun e => e))
  have HZ : Hid (Blk w1.drew (w0.heap.size + 1) 27 zc) := Lib.hid (by rw [← hw1]; exact (Blk.new' (by simp) rfl : Blk _ (w0.heap.size + 1) 27 zc).keep (Kp.refl nob _).drew (fun e => e))
  have HK1 : Hid (Kp nob w0 w1.drew) := Lib.hid (by rw [← hw1]; exact (((Kp.refl nob w0).alloc _).alloc _).drew)
  have HW1 := Lib.hid (HW.out.keep0 HK1.out)
  clear hw1
  have HS0 : Hid ((fun w2 : World => Blk w2 w0.heap.size 101 (tc t)) w1.drew) := Lib.hid HT.out
  refine reg_begin (fun w2 : World => Blk w2 w0.heap.size 101 (tc t)) (by kernel_rfl) HS0.out (fun _ => ?_)
  refine reg_load 0 (some 8) 101 (.tmp 3) rfl rfl rfl (by kernel_rfl) (by kernel_rfl) (by kernel_rfl) (by rfl) HS0.out (w0.heap.size) 0 rfl (tc t) _ (fun w hw => hw.range) cthing_under rfl (by kernel_rfl) ?_
  simp only [Act.put, List.setIfInBounds_toArray, List.set_cons_zero, List.set_cons_succ]
  refine reg_take (v := .pointer (some ⟨p, 0, none⟩)) 1 (some 9) rfl rfl (by kernel_rfl) (by kernel_rfl) (by kernel_rfl) (by rfl) HS0.out (fun w hw => by go_simp) ?_
  simp only [Act.put, List.setIfInBounds_toArray, List.set_cons_zero, List.set_cons_succ]
  refine reg_load 2 (some 10) 101 (.tmp 3) rfl rfl rfl (by kernel_rfl) (by kernel_rfl) (by kernel_rfl) (by rfl) HS0.out (w0.heap.size) 0 rfl (tc t) _ (fun w hw => hw.range) cthing_under rfl (by kernel_rfl) ?_
  simp only [Act.put, List.setIfInBounds_toArray, List.set_cons_zero, List.set_cons_succ]
  refine reg_call 3 (some 11) rfl rfl (by kernel_rfl) (by rfl) _ _ (exec_func 59 _ _ [.pointer (some ⟨p, 0, none⟩), .agg (tc t).toArray] rfl (by kernel_rfl) rfl) ?_
  refine (number_any p bn bs cs t _ HW1.out hl (fun e => absurd e HKD.out)).mono ?_
  rintro e w2 ⟨rfl, hx2, k2⟩
  have HX2 := Lib.hid hx2
  have HK2 := Lib.hid k2
  have HS1 : Hid (Blk w2 w0.heap.size 101 (tc t)) := Lib.hid (HS0.out.keep k2 (fun e => HNE.out.1 e))
  clear hx2 k2
  refine ⟨_, rfl, HS1.out, fun _ => ?_⟩
  simp only [Act.put, List.setIfInBounds_toArray, List.set_cons_zero, List.set_cons_succ]
  obtain ⟨N, hN⟩ : ∃ N, N = num (mk cs t) t := ⟨_, rfl⟩
  rw [← hN]
  have HN := Lib.hid hN
  clear hN
  refine reg_call 4 (some 12) rfl rfl (by kernel_rfl) (by rfl) _ _ (exec_func 60 _ _ [.agg (tc t).toArray, .int .i64 N, .int .i64 32] rfl (by kernel_rfl) rfl) ?_
  refine (bytes_any t N 32 _ (by have := num_le (mk cs t) t; have := mk_length_le cs t; have := HN.out; omega) (by omega) (by omega)).mono ?_
  rintro e w3 ⟨A, c, rfl, ho, k3, hf, hn⟩
  have HX3 := Lib.hid (HX2.out.keep0 k3)
  have HK3 := Lib.hid (HK2.out.trans (k3.nob (fun i => i = bn)) (fun i e => .inl e))
  have HS2 : Hid (Blk w3 w0.heap.size 101 (tc t)) := Lib.hid (HS1.out.keep k3 (fun e => e))
  have HZ3 := Lib.hid ((HZ.out.keep HK2.out (fun e => HNE.out.2 e)).keep k3 (fun e => e))
  have HTL := Lib.hid (show (tok t.kind N 32).length = 32 from tok_length _ _ _ (by omega))
  have hrow := ho.row
  rcases hrow with h0 | ⟨b, o, rfl, _, hcell⟩
  · exact absurd (congrArg List.length h0) (by rw [bvs_length, HTL.out]; simp)
  have HRG : Hid (w3.rangeAt b o (bvs (tok t.kind N 32))) := Lib.hid hcell
  have hat : ∀ w, (Instr.arrayAt 27 (.slice (some ⟨b, o, none⟩) 32 c)).run Try.prog w = .ok (.pointer (some ⟨b, o, none⟩)) w := fun w => run_arrayAt w 27 5 32 _ 32 c arr32_under (Nat.le_refl _)
  clear ho k3 hf hn hcell
  refine ⟨_, rfl, HS2.out, fun _ => ?_⟩
  simp only [Act.put, List.setIfInBounds_toArray, List.set_cons_zero, List.set_cons_succ]
  refine reg_take (v := .pointer (some ⟨b, o, none⟩)) 5 (some 13) rfl rfl (by kernel_rfl) (by kernel_rfl) (by kernel_rfl) (by rfl) HS2.out (fun w hw => by go_simp) ?_
  simp only [Act.put, List.setIfInBounds_toArray, List.set_cons_zero, List.set_cons_succ]
  refine reg_loadNow 6 (some 14) 27 (.tmp 13) rfl rfl rfl (by kernel_rfl) (by rfl) HS2.out b o rfl (bvs (tok t.kind N 32)) _ HRG.out arr32_under rfl (by rw [bvs_length, HTL.out]; kernel_rfl) ?_
  simp only [Act.put, List.setIfInBounds_toArray, List.set_cons_zero, List.set_cons_succ]
  refine reg_store 7 none 27 (.tmp 4) (.tmp 14) rfl rfl rfl (by kernel_rfl) (by rfl) (w0.heap.size + 1) 27 _ (bvs (tok t.kind N 32)) HZ3.out rfl rfl (by rw [bvs_length, zc_length, HTL.out]) (by rw [bvs_length, HTL.out]; kernel_rfl) (bvs_one _) ?_
  intro w4 hB4 k4 z4
  refine ⟨HS2.out.keep k4 (fun e => by have e : w0.heap.size = w0.heap.size + 1 := e; omega), fun _ => ?_⟩
  simp only [Act.put, List.setIfInBounds_toArray, List.set_cons_zero, List.set_cons_succ]
  refine reg_end (by kernel_rfl) ?_
  have hsz : (Try.prog.info? 27).map (·.size) = some (bvs (tok t.kind N 32)).toArray.size := by rw [List.size_toArray, bvs_length, HTL.out]; kernel_rfl
  have HX4 := HX3.out.keep k4 (fun i hi e => by have e : i = w0.heap.size + 1 := e; have := HW.out.lt i hi; omega)
  have HK4 := ((HK1.out.nob (fun i => i = bn)).trans HK3.out (fun i e => .inl e)).trans k4 (fun i e => .inr (by have e : i = w0.heap.size + 1 := e; omega))
  have HE := Lib.hid (And.intro HX4 HK4)
  have hB := hB4
  clear hB4 k4 z4 HX4 HK4 hat
  go_wp2
  refine bodyPost_ret (results_cell_row rfl _ _ (w0.heap.size + 1) _ _ _ _ rfl hB arr32_under rfl hsz) rfl ⟨by rw [HN.out], HE.out.1.imp (fun u hu hk _ => ?_), HE.out.2⟩
  rcases (mem_mk _ _ _).1 hu with rfl | hu
  · exact absurd hk HKD.out
  · exact hu
end Go.Proofs.Ytmmpmncioifeoaa.Ideal
namespace Go.Proofs.Ytmmpmncioifeoaa.Ideal
set_option linter.unusedVariables false
set_option linter.unusedSimpArgs false
open Go Go.RowKit Kit
open Sha (Pc PcsOk catP catP_snoc catP_le)

/-- A thing as the code keeps it: a tag's, a digest's, a key's pieces are its text. -/
def ct (t : Thing) : Thing := if t.kind = 83 then t else if t.kind = 72 then ⟨72, [], [], [], t.a⟩ else ⟨t.kind, t.a, [], [], t.b⟩
structure Good (t : Thing) : Prop where
  of ::
  or : t.kind = 83 ∨ ((t.kind = 77 ∨ t.kind = 68) ∧ t.c = [] ∧ t.d = []) ∨ (t.kind = 72 ∧ t.b = [] ∧ t.c = [] ∧ t.d = [])
theorem ct_seal (key nonce aad text : List UInt8) : ct (sealT key nonce aad text) = sealT key nonce aad text := rfl
theorem ct_mac (key l : List UInt8) : ct (macT key l) = ⟨77, key, [], [], l⟩ := rfl
theorem ct_der (key l : List UInt8) : ct (derT key l) = ⟨68, key, [], [], l⟩ := rfl
theorem ct_hash (l : List UInt8) : ct (hashT l) = ⟨72, [], [], [], l⟩ := rfl
theorem sealT_good (key nonce aad text : List UInt8) : Good (sealT key nonce aad text) := ⟨.inl rfl⟩
theorem macT_good (key l : List UInt8) : Good (macT key l) := ⟨.inr (.inl ⟨.inl rfl, rfl, rfl⟩)⟩
theorem derT_good (key l : List UInt8) : Good (derT key l) := ⟨.inr (.inl ⟨.inr rfl, rfl, rfl⟩)⟩
theorem hashT_good (l : List UInt8) : Good (hashT l) := ⟨.inr (.inr ⟨rfl, rfl, rfl, rfl⟩)⟩
theorem ct_kind (t : Thing) : (ct t).kind = t.kind := by
  unfold ct
  split
  · rfl
  · split
    · rename_i h; exact h.symm
    · rfl
theorem ct_inj {t u : Thing} (ht : Good t) (hu : Good u) (h : ct t = ct u) : t = u := by
  have hk : t.kind = u.kind := by rw [← ct_kind t, ← ct_kind u, h]
  obtain ⟨k, a, b, c, d⟩ := t
  obtain ⟨k', a', b', c', d'⟩ := u
  simp only at hk
  subst hk
  have h1 := ht.or
  have h2 := hu.or
  simp only at h1 h2
  unfold ct at h
  simp only at h
  by_cases h83 : k = 83
  · rw [if_pos h83, if_pos h83] at h; exact h
  · rw [if_neg h83, if_neg h83] at h
    rcases h1 with h1 | ⟨h1, rfl, rfl⟩ | ⟨rfl, rfl, rfl, rfl⟩
    · exact absurd h1 h83
    · have h72 : k ≠ 72 := by rcases h1 with rfl | rfl <;> decide
      rw [if_neg h72, if_neg h72] at h
      rcases h2 with h2 | ⟨_, rfl, rfl⟩ | ⟨h2, _⟩
      · exact absurd h2 h83
      · simp only [Thing.mk.injEq, true_and] at h
        rw [h.1, h.2]
      · exact absurd h2 h72
    · rcases h2 with h2 | ⟨h2, _⟩ | ⟨_, rfl, rfl, rfl⟩
      · exact absurd h2 h83
      · rcases h2 with h2 | h2 <;> exact absurd h2 (by decide)
      · simp only [if_true, Thing.mk.injEq, true_and] at h
        rw [h]
theorem num_ct {ts : List Thing} (hg : ∀ t ∈ ts, Good t) (t : Thing) (ht : Good t) : num (ts.map ct) (ct t) = num ts t := by
  have key : ∀ i, numT (ts.map ct) (ct t) i = numT ts t i := by
    intro i
    induction i with
    | zero => rfl
    | succ i ih =>
      rw [numT_succ, numT_succ, ih]
      have : ((ts.map ct)[i]? = some (ct t)) = (ts[i]? = some t) := by
        rw [List.getElem?_map]
        cases hx : ts[i]? with
        | none => simp
        | some x =>
          simp only [Option.map_some, Option.some.injEq]
          exact propext ⟨fun e => ct_inj (hg x (List.mem_of_getElem? hx)) ht e, fun e => by rw [e]⟩
      simp only [this]
  unfold num
  rw [List.length_map, key]
theorem mk_ct {ts : List Thing} (hg : ∀ t ∈ ts, Good t) (t : Thing) (ht : Good t) : mk (ts.map ct) (ct t) = (mk ts t).map ct := by
  unfold mk
  rw [num_ct hg t ht]
  split
  · rw [List.map_append]; rfl
  · rfl
theorem good_mk {ts : List Thing} (hg : ∀ t ∈ ts, Good t) (t : Thing) (ht : Good t) : ∀ u ∈ mk ts t, Good u := fun u hu => by
  rcases (mem_mk _ _ _).1 hu with rfl | hu
  · exact ht
  · exact hg u hu
theorem num_mk_ct {ts : List Thing} (hg : ∀ t ∈ ts, Good t) (t : Thing) (ht : Good t) : num (mk (ts.map ct) (ct t)) (ct t) = num (mk ts t) t := by
  rw [mk_ct hg t ht, num_ct (good_mk hg t ht) t ht]
theorem out_ct {ts : List Thing} (hg : ∀ t ∈ ts, Good t) (t : Thing) (n : Nat) (ht : Good t) : Ending.returned (Value.agg (bvs (tok t.kind (num (mk (ts.map ct) (ct t)) (ct t)) n)).toArray) = .returned (.agg (bvs (out ts t n)).toArray) := by
  rw [num_mk_ct hg t ht]; rfl

/-- The code's world at p, all its blocks F, with the things ts. -/
def Iw (w : World) (p : Nat) (F : Nat → Prop) (ts : List Thing) : Prop := ∃ bn bs, F = Cf p bn bs ∧ Cx w p bn bs (ts.map ct) (fun _ => True) ∧ ∀ t ∈ ts, Good t
theorem Iw.keep {w w2 : World} {p : Nat} {F G : Nat → Prop} {ts : List Thing} (h : Iw w p F ts) (k : Kp G w w2) (hF : ∀ i, F i → ¬ G i) : Iw w2 p F ts := by
  obtain ⟨bn, bs, rfl, h1, h2⟩ := h
  exact ⟨bn, bs, rfl, h1.keep k hF, h2⟩
theorem Iw.lt {w : World} {p : Nat} {F : Nat → Prop} {ts : List Thing} (h : Iw w p F ts) : ∀ k, F k → k < w.heap.size := by
  obtain ⟨bn, bs, rfl, h1, h2⟩ := h
  exact h1.lt
/-- A world behind a call. -/
structure Iq (w : World) (F : Nat → Prop) (w2 : World) (p : Nat) (F2 : Nat → Prop) (ts : List Thing) : Prop where
  i : Iw w2 p F2 ts
  f : ∀ k, F2 k → F k ∨ w.heap.size ≤ k
  k : Kp F w w2
/-- Bytes that are answered: new ones. -/
structure Ans (w w2 : World) (F2 : Nat → Prop) (A : Option Addr) (c : Nat) (l : List UInt8) : Prop where
  row : Row w2 A (bvs l)
  far : ∀ k, ab A = some k → w.heap.size ≤ k ∧ ¬ F2 k
  cap : l.length ≤ c
  mx : c ≤ maxLen
  nil : A = none → c = 0
theorem iw_more {w : World} {p bn bs : Nat} {F : Nat → Prop} {ts : List Thing} (hF : F = Cf p bn bs) (hg : ∀ t ∈ ts, Good t) (t : Thing) (ht : Good t) (h : Cx w p bn bs (mk (ts.map ct) (ct t)) (fun _ => True)) : Iw w p F (mk ts t) :=
  ⟨bn, bs, hF, by rw [← mk_ct hg t ht]; exact h, good_mk hg t ht⟩

set_option maxHeartbeats 1000000 in
set_option maxRecDepth 100000 in
theorem new_i (w : World) : Calls Try.prog 8 #[] w fun e w' => ∃ p F, e = .returned (.pointer (some ⟨p, 0, none⟩)) ∧ Iq w nob w' p F [] := by
  have hm := @run_makeMap Try.prog
  go_enter Try.func8, Try.ntmps8
  go_wp2
  go_ret
  have hB : Blk (((w.alloc (.map #[] 0)).alloc (.map #[] 0)).alloc (.cells #[.map (some w.heap.size), .map (some (w.heap.size + 1))] 49)) (w.heap.size + 2) 49 [.map (some w.heap.size), .map (some (w.heap.size + 1))] := Blk.new' (by simp) rfl
  have k1 := (Kp.refl nob w).alloc (.map #[] 0)
  have k2 := (Kp.refl nob (w.alloc (.map #[] 0))).alloc (.map #[] 0)
  have k3 := (Kp.refl nob ((w.alloc (.map #[] 0)).alloc (.map #[] 0))).alloc (.cells #[.map (some w.heap.size), .map (some (w.heap.size + 1))] 49)
  have m1 := ((mapB_new w).keep k2 (fun e => e)).keep k3 (fun e => e)
  have m2 : MapB ((w.alloc (.map #[] 0)).alloc (.map #[] 0)) (w.heap.size + 1) [] := by have := mapB_new (w.alloc (.map #[] 0)); simpa using this
  refine ⟨w.heap.size + 2, _, rfl, ⟨⟨w.heap.size, w.heap.size + 1, rfl, ⟨hB, m1, ⟨[], m2.keep k3 (fun e => e), ⟨fun q h => (by cases h), fun i t h => (by simp at h)⟩⟩, by omega, List.nodup_nil, fun t h => (by simp at h)⟩, fun t h => (by cases h)⟩, fun k e => .inr ?_, (k1.trans k2 (fun _ e => e.elim)).trans k3 (fun _ e => e.elim)⟩⟩
  rcases e with rfl | rfl | rfl <;> omega
set_option maxHeartbeats 4000000 in
set_option maxRecDepth 100000 in
theorem mac_i (p : Nat) (F : Nat → Prop) (ts : List Thing) (K : Option Addr) (nk ck : Nat) (key : List UInt8) (B : Option Addr) (m d : Nat) (ps : List Pc) (w0 : World)
    (hw : Iw w0 p F ts) (hk : Arg w0 F K nk ck key) (hp : Args w0 F B m ps) (hl : ts.length ≤ 100000) (lk : key.length ≤ 1048576) (lp : (catP ps).length ≤ 1048576) :
    Calls Try.prog 50 #[.pointer (some ⟨p, 0, none⟩), .slice K nk ck, .slice B m d] w0 fun e w' => ∃ F2, e = .returned (.agg (bvs (out ts (macT key (catP ps)) 32)).toArray) ∧ Iq w0 F w' p F2 (mk ts (macT key (catP ps))) := by
  obtain ⟨bn, bs, hF, hw, hg⟩ := hw
  have HG := Lib.hid hg
  have HF := Lib.hid hF
  have HW := Lib.hid hw
  have HNE : Hid (w0.heap.size ≠ bn) := Lib.hid (by have := hw.lt bn (.inr (.inl rfl)); omega)
  have HA := Lib.hid hk
  have HP := Lib.hid hp
  have hz := zc_run
  have HT0 := Lib.hid (Blk.new w0 27 zc)
  have HKA := Lib.hid ((Kp.refl nob w0).alloc (.cells zc.toArray 27))
  clear hk hp hw hF hg
  go_enter Try.func50, Try.ntmps50
  go_wp2
  generalize hw1 : w0.alloc (.cells zc.toArray 27) = w1 at *
  have HZ := Lib.hid (HT0.out.keep (Kp.refl nob w1).drew (fun e => e))
  have HK01 := Lib.hid HKA.out.drew
  have HK1 := Lib.hid (HK01.out.nob (fun i => i = bn))
  clear hw1 HT0 HKA
  have HS0 : Hid (Kp (fun i => i = bn) w0 w1.drew) := Lib.hid HK1.out
  refine reg_begin (Kp (fun i => i = bn) w0) (by kernel_rfl) HS0.out (fun _ => ?_)
  refine reg_take (v := .pointer (some ⟨p, 0, none⟩)) 0 (some 7) rfl rfl (by kernel_rfl) (by kernel_rfl) (by kernel_rfl) (by rfl) HS0.out (fun w hw => by go_simp) ?_
  simp only [Act.put, List.setIfInBounds_toArray, List.set_cons_zero, List.set_cons_succ]
  refine reg_take (v := .slice K nk ck) 1 (some 8) rfl rfl (by kernel_rfl) (by kernel_rfl) (by kernel_rfl) (by rfl) HS0.out (fun w hw => by go_simp) ?_
  simp only [Act.put, List.setIfInBounds_toArray, List.set_cons_zero, List.set_cons_succ]
  refine reg_bytesStr 2 (some 9) 29 9 5 (.tmp 8) rfl rfl rfl (by kernel_rfl) (by kernel_rfl) (by kernel_rfl) (by rfl) HS0.out u8i_under (by kernel_rfl) (by kernel_rfl) K nk ck key HA.out.len rfl (fun _ x => (HA.out.keep x (fun i e => by rw [HF.out]; exact .inr (.inl e))).row) ?_
  simp only [Act.put, List.setIfInBounds_toArray, List.set_cons_zero, List.set_cons_succ]
  refine reg_take (v := .slice B m d) 3 (some 10) rfl rfl (by kernel_rfl) (by kernel_rfl) (by kernel_rfl) (by rfl) HS0.out (fun w hw => by go_simp) ?_
  simp only [Act.put, List.setIfInBounds_toArray, List.set_cons_zero, List.set_cons_succ]
  refine reg_call 4 (some 11) rfl rfl (by kernel_rfl) (by rfl) _ _ (exec_func 54 _ _ [.slice B m d] rfl (by kernel_rfl) rfl) ?_
  refine (joined_any B m d ps F _ (HP.out.keep0 HK01.out) (by omega)).mono ?_
  rintro e w2 ⟨rfl, k2⟩
  have HS1 : Hid (Kp (fun i => i = bn) w0 w2) := Lib.hid (HS0.out.trans (k2.nob (fun i => i = bn)) (fun i e => .inl e))
  have HN2 := Lib.hid (HK01.out.trans k2 (fun _ e => e.elim))
  have HZ2 := Lib.hid (HZ.out.keep k2 (fun e => e))
  clear k2
  refine ⟨_, rfl, HS1.out, fun _ => ?_⟩
  simp only [Act.put, List.setIfInBounds_toArray, List.set_cons_zero, List.set_cons_succ]
  refine reg_take (v := .agg (tc ⟨77, key, [], [], catP ps⟩).toArray) 5 (some 12) rfl rfl (by kernel_rfl) (by kernel_rfl) (by kernel_rfl) (by rfl) HS1.out (fun w hw => by first | (go_simp; done) | kernel_rfl) ?_
  simp only [Act.put, List.setIfInBounds_toArray, List.set_cons_zero, List.set_cons_succ]
  refine reg_call 6 (some 13) rfl rfl (by kernel_rfl) (by rfl) _ _ (exec_func 53 _ _ [.pointer (some ⟨p, 0, none⟩), .agg (tc ⟨77, key, [], [], catP ps⟩).toArray] rfl (by kernel_rfl) rfl) ?_
  refine (digest_any p bn bs _ ⟨77, key, [], [], catP ps⟩ _ (HW.out.keep0 HN2.out) (by rw [List.length_map]; exact hl) (by decide : (77 : UInt8) ≠ 83)).mono ?_
  rintro e w3 ⟨rfl, hx, k3⟩
  have HS2 : Hid (Kp (fun i => i = bn) w0 w3) := Lib.hid (HS1.out.trans k3 (fun i e => .inl e))
  have HX3 := Lib.hid hx
  have HZ3 := Lib.hid (HZ2.out.keep k3 (fun e => HNE.out e))
  obtain ⟨D, hD⟩ : ∃ D, D = tok 77 (num (mk (ts.map ct) ⟨77, key, [], [], catP ps⟩) ⟨77, key, [], [], catP ps⟩) 32 := ⟨_, rfl⟩
  have HTL := Lib.hid (show D.length = 32 by rw [hD]; exact tok_length _ _ _ (by omega))
  have HDD := Lib.hid hD
  rw [← hD]
  clear hx k3 hD
  refine ⟨_, rfl, HS2.out, fun _ => ?_⟩
  simp only [Act.put, List.setIfInBounds_toArray, List.set_cons_zero, List.set_cons_succ]
  refine reg_store 7 none 27 (.tmp 6) (.tmp 13) rfl rfl rfl (by kernel_rfl) (by rfl) w0.heap.size 27 _ (bvs D) HZ3.out rfl rfl (by rw [bvs_length, zc_length, HTL.out]) (by rw [bvs_length, HTL.out]; kernel_rfl) (bvs_one _) ?_
  intro w4 hB4 k4 z4
  have HS3 : Hid (Kp (fun i => i = bn) w0 w4) := Lib.hid (HS2.out.trans k4 (fun i e => .inr (by have e : i = w0.heap.size := e; omega)))
  refine ⟨HS3.out, fun _ => ?_⟩
  simp only [Act.put, List.setIfInBounds_toArray, List.set_cons_zero, List.set_cons_succ]
  refine reg_end (by kernel_rfl) ?_
  go_wp2
  have hsz : (Try.prog.info? 27).map (·.size) = some (bvs D).toArray.size := by rw [List.size_toArray, bvs_length, HTL.out]; kernel_rfl
  have HX4 := HX3.out.keep k4 (fun i hi e => by have e : i = w0.heap.size := e; have := HW.out.lt i hi; omega)
  refine bodyPost_ret (results_cell_row rfl _ _ w0.heap.size _ _ _ _ rfl hB4 arr32_under rfl hsz) rfl ⟨F, by rw [HDD.out]; exact out_ct HG.out (macT key (catP ps)) 32 (macT_good key (catP ps)), iw_more HF.out HG.out (macT key (catP ps)) (macT_good key (catP ps)) HX4, fun _ e => .inl e, HS3.out.mono (fun i _ e => by rw [HF.out]; exact .inr (.inl e))⟩
set_option maxHeartbeats 4000000 in
set_option maxRecDepth 100000 in
theorem mac_nil (K : Option Addr) (nk ck : Nat) (key : List UInt8) (B : Option Addr) (m d : Nat) (ps : List Pc) (F : Nat → Prop) (w0 : World) (hk : Arg w0 nob K nk ck key) (hp : Args w0 F B m ps) (lp : (catP ps).length ≤ 1048576) :
    Calls Try.prog 50 #[.pointer none, .slice K nk ck, .slice B m d] w0 fun e w' => e = .returned (.agg (bvs z32).toArray) ∧ Kp nob w0 w' := by
  have HA := Lib.hid hk
  have HP := Lib.hid hp
  have hz := zc_run
  have HT0 := Lib.hid (Blk.new w0 27 zc)
  have HKA := Lib.hid ((Kp.refl nob w0).alloc (.cells zc.toArray 27))
  clear hk hp
  go_enter Try.func50, Try.ntmps50
  go_wp2
  generalize hw1 : w0.alloc (.cells zc.toArray 27) = w1 at *
  have HZ := Lib.hid (HT0.out.keep (Kp.refl nob w1).drew (fun e => e))
  have HK01 := Lib.hid HKA.out.drew
  have HK1 := Lib.hid (HK01.out.nob nob)
  clear hw1 HT0 HKA
  have HS0 : Hid (Kp nob w0 w1.drew) := Lib.hid HK1.out
  refine reg_begin (Kp nob w0) (by kernel_rfl) HS0.out (fun _ => ?_)
  refine reg_take (v := .pointer none) 0 (some 7) rfl rfl (by kernel_rfl) (by kernel_rfl) (by kernel_rfl) (by rfl) HS0.out (fun w hw => by go_simp) ?_
  simp only [Act.put, List.setIfInBounds_toArray, List.set_cons_zero, List.set_cons_succ]
  refine reg_take (v := .slice K nk ck) 1 (some 8) rfl rfl (by kernel_rfl) (by kernel_rfl) (by kernel_rfl) (by rfl) HS0.out (fun w hw => by go_simp) ?_
  simp only [Act.put, List.setIfInBounds_toArray, List.set_cons_zero, List.set_cons_succ]
  refine reg_bytesStr 2 (some 9) 29 9 5 (.tmp 8) rfl rfl rfl (by kernel_rfl) (by kernel_rfl) (by kernel_rfl) (by rfl) HS0.out u8i_under (by kernel_rfl) (by kernel_rfl) K nk ck key HA.out.len rfl (fun _ x => (HA.out.keep x (fun i e => e)).row) ?_
  simp only [Act.put, List.setIfInBounds_toArray, List.set_cons_zero, List.set_cons_succ]
  refine reg_take (v := .slice B m d) 3 (some 10) rfl rfl (by kernel_rfl) (by kernel_rfl) (by kernel_rfl) (by rfl) HS0.out (fun w hw => by go_simp) ?_
  simp only [Act.put, List.setIfInBounds_toArray, List.set_cons_zero, List.set_cons_succ]
  refine reg_call 4 (some 11) rfl rfl (by kernel_rfl) (by rfl) _ _ (exec_func 54 _ _ [.slice B m d] rfl (by kernel_rfl) rfl) ?_
  refine (joined_any B m d ps F _ (HP.out.keep0 HK01.out) (by omega)).mono ?_
  rintro e w2 ⟨rfl, k2⟩
  have HS1 : Hid (Kp nob w0 w2) := Lib.hid (HS0.out.trans (k2.nob nob) (fun i e => .inl e))
  have HN2 := Lib.hid (HK01.out.trans k2 (fun _ e => e.elim))
  have HZ2 := Lib.hid (HZ.out.keep k2 (fun e => e))
  clear k2
  refine ⟨_, rfl, HS1.out, fun _ => ?_⟩
  simp only [Act.put, List.setIfInBounds_toArray, List.set_cons_zero, List.set_cons_succ]
  refine reg_take (v := .agg (tc ⟨77, key, [], [], catP ps⟩).toArray) 5 (some 12) rfl rfl (by kernel_rfl) (by kernel_rfl) (by kernel_rfl) (by rfl) HS1.out (fun w hw => by first | (go_simp; done) | kernel_rfl) ?_
  simp only [Act.put, List.setIfInBounds_toArray, List.set_cons_zero, List.set_cons_succ]
  refine reg_call 6 (some 13) rfl rfl (by kernel_rfl) (by rfl) _ _ (exec_func 53 _ _ [.pointer none, .agg (tc ⟨77, key, [], [], catP ps⟩).toArray] rfl (by kernel_rfl) rfl) ?_
  refine (digest_nil _ ⟨77, key, [], [], catP ps⟩ rfl _).mono ?_
  rintro e w3 ⟨rfl, k3⟩
  have HS2 : Hid (Kp nob w0 w3) := Lib.hid (HS1.out.trans k3 (fun i e => .inl e))
  have HZ3 := Lib.hid (HZ2.out.keep k3 (fun e => e))
  obtain ⟨D, hD⟩ : ∃ D, D = z32 := ⟨_, rfl⟩
  have HTL := Lib.hid (show D.length = 32 by rw [hD]; simp [z32])
  have HDD := Lib.hid hD
  rw [← hD]
  clear k3 hD
  refine ⟨_, rfl, HS2.out, fun _ => ?_⟩
  simp only [Act.put, List.setIfInBounds_toArray, List.set_cons_zero, List.set_cons_succ]
  refine reg_store 7 none 27 (.tmp 6) (.tmp 13) rfl rfl rfl (by kernel_rfl) (by rfl) w0.heap.size 27 _ (bvs D) HZ3.out rfl rfl (by rw [bvs_length, zc_length, HTL.out]) (by rw [bvs_length, HTL.out]; kernel_rfl) (bvs_one _) ?_
  intro w4 hB4 k4 z4
  have HS3 : Hid (Kp nob w0 w4) := Lib.hid (HS2.out.trans k4 (fun i e => .inr (by have e : i = w0.heap.size := e; omega)))
  refine ⟨HS3.out, fun _ => ?_⟩
  simp only [Act.put, List.setIfInBounds_toArray, List.set_cons_zero, List.set_cons_succ]
  refine reg_end (by kernel_rfl) ?_
  go_wp2
  have hsz : (Try.prog.info? 27).map (·.size) = some (bvs D).toArray.size := by rw [List.size_toArray, bvs_length, HTL.out]; kernel_rfl
  refine bodyPost_ret (results_cell_row rfl _ _ w0.heap.size _ _ _ _ rfl hB4 arr32_under rfl hsz) rfl ⟨by rw [HDD.out], HS3.out⟩
set_option maxHeartbeats 4000000 in
set_option maxRecDepth 100000 in
theorem derive_i (p : Nat) (F : Nat → Prop) (ts : List Thing) (K : Option Addr) (nk ck : Nat) (key : List UInt8) (B : Option Addr) (m d : Nat) (ps : List Pc) (w0 : World)
    (hw : Iw w0 p F ts) (hk : Arg w0 F K nk ck key) (hp : Args w0 F B m ps) (hl : ts.length ≤ 100000) (lk : key.length ≤ 1048576) (lp : (catP ps).length ≤ 1048576) :
    Calls Try.prog 48 #[.pointer (some ⟨p, 0, none⟩), .slice K nk ck, .slice B m d] w0 fun e w' => ∃ F2, e = .returned (.agg (bvs (out ts (derT key (catP ps)) 32)).toArray) ∧ Iq w0 F w' p F2 (mk ts (derT key (catP ps))) := by
  obtain ⟨bn, bs, hF, hw, hg⟩ := hw
  have HG := Lib.hid hg
  have HF := Lib.hid hF
  have HW := Lib.hid hw
  have HNE : Hid (w0.heap.size ≠ bn) := Lib.hid (by have := hw.lt bn (.inr (.inl rfl)); omega)
  have HA := Lib.hid hk
  have HP := Lib.hid hp
  have hz := zc_run
  have HT0 := Lib.hid (Blk.new w0 27 zc)
  have HKA := Lib.hid ((Kp.refl nob w0).alloc (.cells zc.toArray 27))
  clear hk hp hw hF hg
  go_enter Try.func48, Try.ntmps48
  go_wp2
  generalize hw1 : w0.alloc (.cells zc.toArray 27) = w1 at *
  have HZ := Lib.hid (HT0.out.keep (Kp.refl nob w1).drew (fun e => e))
  have HK01 := Lib.hid HKA.out.drew
  have HK1 := Lib.hid (HK01.out.nob (fun i => i = bn))
  clear hw1 HT0 HKA
  have HS0 : Hid (Kp (fun i => i = bn) w0 w1.drew) := Lib.hid HK1.out
  refine reg_begin (Kp (fun i => i = bn) w0) (by kernel_rfl) HS0.out (fun _ => ?_)
  refine reg_take (v := .pointer (some ⟨p, 0, none⟩)) 0 (some 7) rfl rfl (by kernel_rfl) (by kernel_rfl) (by kernel_rfl) (by rfl) HS0.out (fun w hw => by go_simp) ?_
  simp only [Act.put, List.setIfInBounds_toArray, List.set_cons_zero, List.set_cons_succ]
  refine reg_take (v := .slice K nk ck) 1 (some 8) rfl rfl (by kernel_rfl) (by kernel_rfl) (by kernel_rfl) (by rfl) HS0.out (fun w hw => by go_simp) ?_
  simp only [Act.put, List.setIfInBounds_toArray, List.set_cons_zero, List.set_cons_succ]
  refine reg_bytesStr 2 (some 9) 29 9 5 (.tmp 8) rfl rfl rfl (by kernel_rfl) (by kernel_rfl) (by kernel_rfl) (by rfl) HS0.out u8i_under (by kernel_rfl) (by kernel_rfl) K nk ck key HA.out.len rfl (fun _ x => (HA.out.keep x (fun i e => by rw [HF.out]; exact .inr (.inl e))).row) ?_
  simp only [Act.put, List.setIfInBounds_toArray, List.set_cons_zero, List.set_cons_succ]
  refine reg_take (v := .slice B m d) 3 (some 10) rfl rfl (by kernel_rfl) (by kernel_rfl) (by kernel_rfl) (by rfl) HS0.out (fun w hw => by go_simp) ?_
  simp only [Act.put, List.setIfInBounds_toArray, List.set_cons_zero, List.set_cons_succ]
  refine reg_call 4 (some 11) rfl rfl (by kernel_rfl) (by rfl) _ _ (exec_func 54 _ _ [.slice B m d] rfl (by kernel_rfl) rfl) ?_
  refine (joined_any B m d ps F _ (HP.out.keep0 HK01.out) (by omega)).mono ?_
  rintro e w2 ⟨rfl, k2⟩
  have HS1 : Hid (Kp (fun i => i = bn) w0 w2) := Lib.hid (HS0.out.trans (k2.nob (fun i => i = bn)) (fun i e => .inl e))
  have HN2 := Lib.hid (HK01.out.trans k2 (fun _ e => e.elim))
  have HZ2 := Lib.hid (HZ.out.keep k2 (fun e => e))
  clear k2
  refine ⟨_, rfl, HS1.out, fun _ => ?_⟩
  simp only [Act.put, List.setIfInBounds_toArray, List.set_cons_zero, List.set_cons_succ]
  refine reg_take (v := .agg (tc ⟨68, key, [], [], catP ps⟩).toArray) 5 (some 12) rfl rfl (by kernel_rfl) (by kernel_rfl) (by kernel_rfl) (by rfl) HS1.out (fun w hw => by first | (go_simp; done) | kernel_rfl) ?_
  simp only [Act.put, List.setIfInBounds_toArray, List.set_cons_zero, List.set_cons_succ]
  refine reg_call 6 (some 13) rfl rfl (by kernel_rfl) (by rfl) _ _ (exec_func 53 _ _ [.pointer (some ⟨p, 0, none⟩), .agg (tc ⟨68, key, [], [], catP ps⟩).toArray] rfl (by kernel_rfl) rfl) ?_
  refine (digest_any p bn bs _ ⟨68, key, [], [], catP ps⟩ _ (HW.out.keep0 HN2.out) (by rw [List.length_map]; exact hl) (by decide : (68 : UInt8) ≠ 83)).mono ?_
  rintro e w3 ⟨rfl, hx, k3⟩
  have HS2 : Hid (Kp (fun i => i = bn) w0 w3) := Lib.hid (HS1.out.trans k3 (fun i e => .inl e))
  have HX3 := Lib.hid hx
  have HZ3 := Lib.hid (HZ2.out.keep k3 (fun e => HNE.out e))
  obtain ⟨D, hD⟩ : ∃ D, D = tok 68 (num (mk (ts.map ct) ⟨68, key, [], [], catP ps⟩) ⟨68, key, [], [], catP ps⟩) 32 := ⟨_, rfl⟩
  have HTL := Lib.hid (show D.length = 32 by rw [hD]; exact tok_length _ _ _ (by omega))
  have HDD := Lib.hid hD
  rw [← hD]
  clear hx k3 hD
  refine ⟨_, rfl, HS2.out, fun _ => ?_⟩
  simp only [Act.put, List.setIfInBounds_toArray, List.set_cons_zero, List.set_cons_succ]
  refine reg_store 7 none 27 (.tmp 6) (.tmp 13) rfl rfl rfl (by kernel_rfl) (by rfl) w0.heap.size 27 _ (bvs D) HZ3.out rfl rfl (by rw [bvs_length, zc_length, HTL.out]) (by rw [bvs_length, HTL.out]; kernel_rfl) (bvs_one _) ?_
  intro w4 hB4 k4 z4
  have HS3 : Hid (Kp (fun i => i = bn) w0 w4) := Lib.hid (HS2.out.trans k4 (fun i e => .inr (by have e : i = w0.heap.size := e; omega)))
  refine ⟨HS3.out, fun _ => ?_⟩
  simp only [Act.put, List.setIfInBounds_toArray, List.set_cons_zero, List.set_cons_succ]
  refine reg_end (by kernel_rfl) ?_
  go_wp2
  have hsz : (Try.prog.info? 27).map (·.size) = some (bvs D).toArray.size := by rw [List.size_toArray, bvs_length, HTL.out]; kernel_rfl
  have HX4 := HX3.out.keep k4 (fun i hi e => by have e : i = w0.heap.size := e; have := HW.out.lt i hi; omega)
  refine bodyPost_ret (results_cell_row rfl _ _ w0.heap.size _ _ _ _ rfl hB4 arr32_under rfl hsz) rfl ⟨F, by rw [HDD.out]; exact out_ct HG.out (derT key (catP ps)) 32 (derT_good key (catP ps)), iw_more HF.out HG.out (derT key (catP ps)) (derT_good key (catP ps)) HX4, fun _ e => .inl e, HS3.out.mono (fun i _ e => by rw [HF.out]; exact .inr (.inl e))⟩
set_option maxHeartbeats 4000000 in
set_option maxRecDepth 100000 in
theorem derive_nil (K : Option Addr) (nk ck : Nat) (key : List UInt8) (B : Option Addr) (m d : Nat) (ps : List Pc) (F : Nat → Prop) (w0 : World) (hk : Arg w0 nob K nk ck key) (hp : Args w0 F B m ps) (lp : (catP ps).length ≤ 1048576) :
    Calls Try.prog 48 #[.pointer none, .slice K nk ck, .slice B m d] w0 fun e w' => e = .returned (.agg (bvs z32).toArray) ∧ Kp nob w0 w' := by
  have HA := Lib.hid hk
  have HP := Lib.hid hp
  have hz := zc_run
  have HT0 := Lib.hid (Blk.new w0 27 zc)
  have HKA := Lib.hid ((Kp.refl nob w0).alloc (.cells zc.toArray 27))
  clear hk hp
  go_enter Try.func48, Try.ntmps48
  go_wp2
  generalize hw1 : w0.alloc (.cells zc.toArray 27) = w1 at *
  have HZ := Lib.hid (HT0.out.keep (Kp.refl nob w1).drew (fun e => e))
  have HK01 := Lib.hid HKA.out.drew
  have HK1 := Lib.hid (HK01.out.nob nob)
  clear hw1 HT0 HKA
  have HS0 : Hid (Kp nob w0 w1.drew) := Lib.hid HK1.out
  refine reg_begin (Kp nob w0) (by kernel_rfl) HS0.out (fun _ => ?_)
  refine reg_take (v := .pointer none) 0 (some 7) rfl rfl (by kernel_rfl) (by kernel_rfl) (by kernel_rfl) (by rfl) HS0.out (fun w hw => by go_simp) ?_
  simp only [Act.put, List.setIfInBounds_toArray, List.set_cons_zero, List.set_cons_succ]
  refine reg_take (v := .slice K nk ck) 1 (some 8) rfl rfl (by kernel_rfl) (by kernel_rfl) (by kernel_rfl) (by rfl) HS0.out (fun w hw => by go_simp) ?_
  simp only [Act.put, List.setIfInBounds_toArray, List.set_cons_zero, List.set_cons_succ]
  refine reg_bytesStr 2 (some 9) 29 9 5 (.tmp 8) rfl rfl rfl (by kernel_rfl) (by kernel_rfl) (by kernel_rfl) (by rfl) HS0.out u8i_under (by kernel_rfl) (by kernel_rfl) K nk ck key HA.out.len rfl (fun _ x => (HA.out.keep x (fun i e => e)).row) ?_
  simp only [Act.put, List.setIfInBounds_toArray, List.set_cons_zero, List.set_cons_succ]
  refine reg_take (v := .slice B m d) 3 (some 10) rfl rfl (by kernel_rfl) (by kernel_rfl) (by kernel_rfl) (by rfl) HS0.out (fun w hw => by go_simp) ?_
  simp only [Act.put, List.setIfInBounds_toArray, List.set_cons_zero, List.set_cons_succ]
  refine reg_call 4 (some 11) rfl rfl (by kernel_rfl) (by rfl) _ _ (exec_func 54 _ _ [.slice B m d] rfl (by kernel_rfl) rfl) ?_
  refine (joined_any B m d ps F _ (HP.out.keep0 HK01.out) (by omega)).mono ?_
  rintro e w2 ⟨rfl, k2⟩
  have HS1 : Hid (Kp nob w0 w2) := Lib.hid (HS0.out.trans (k2.nob nob) (fun i e => .inl e))
  have HN2 := Lib.hid (HK01.out.trans k2 (fun _ e => e.elim))
  have HZ2 := Lib.hid (HZ.out.keep k2 (fun e => e))
  clear k2
  refine ⟨_, rfl, HS1.out, fun _ => ?_⟩
  simp only [Act.put, List.setIfInBounds_toArray, List.set_cons_zero, List.set_cons_succ]
  refine reg_take (v := .agg (tc ⟨68, key, [], [], catP ps⟩).toArray) 5 (some 12) rfl rfl (by kernel_rfl) (by kernel_rfl) (by kernel_rfl) (by rfl) HS1.out (fun w hw => by first | (go_simp; done) | kernel_rfl) ?_
  simp only [Act.put, List.setIfInBounds_toArray, List.set_cons_zero, List.set_cons_succ]
  refine reg_call 6 (some 13) rfl rfl (by kernel_rfl) (by rfl) _ _ (exec_func 53 _ _ [.pointer none, .agg (tc ⟨68, key, [], [], catP ps⟩).toArray] rfl (by kernel_rfl) rfl) ?_
  refine (digest_nil _ ⟨68, key, [], [], catP ps⟩ rfl _).mono ?_
  rintro e w3 ⟨rfl, k3⟩
  have HS2 : Hid (Kp nob w0 w3) := Lib.hid (HS1.out.trans k3 (fun i e => .inl e))
  have HZ3 := Lib.hid (HZ2.out.keep k3 (fun e => e))
  obtain ⟨D, hD⟩ : ∃ D, D = z32 := ⟨_, rfl⟩
  have HTL := Lib.hid (show D.length = 32 by rw [hD]; simp [z32])
  have HDD := Lib.hid hD
  rw [← hD]
  clear k3 hD
  refine ⟨_, rfl, HS2.out, fun _ => ?_⟩
  simp only [Act.put, List.setIfInBounds_toArray, List.set_cons_zero, List.set_cons_succ]
  refine reg_store 7 none 27 (.tmp 6) (.tmp 13) rfl rfl rfl (by kernel_rfl) (by rfl) w0.heap.size 27 _ (bvs D) HZ3.out rfl rfl (by rw [bvs_length, zc_length, HTL.out]) (by rw [bvs_length, HTL.out]; kernel_rfl) (bvs_one _) ?_
  intro w4 hB4 k4 z4
  have HS3 : Hid (Kp nob w0 w4) := Lib.hid (HS2.out.trans k4 (fun i e => .inr (by have e : i = w0.heap.size := e; omega)))
  refine ⟨HS3.out, fun _ => ?_⟩
  simp only [Act.put, List.setIfInBounds_toArray, List.set_cons_zero, List.set_cons_succ]
  refine reg_end (by kernel_rfl) ?_
  go_wp2
  have hsz : (Try.prog.info? 27).map (·.size) = some (bvs D).toArray.size := by rw [List.size_toArray, bvs_length, HTL.out]; kernel_rfl
  refine bodyPost_ret (results_cell_row rfl _ _ w0.heap.size _ _ _ _ rfl hB4 arr32_under rfl hsz) rfl ⟨by rw [HDD.out], HS3.out⟩
set_option maxHeartbeats 4000000 in
set_option maxRecDepth 100000 in
theorem hash_i (p : Nat) (F : Nat → Prop) (ts : List Thing) (B : Option Addr) (m d : Nat) (ps : List Pc) (w0 : World)
    (hw : Iw w0 p F ts) (hp : Args w0 F B m ps) (hl : ts.length ≤ 100000) (lp : (catP ps).length ≤ 1048576) :
    Calls Try.prog 49 #[.pointer (some ⟨p, 0, none⟩), .slice B m d] w0 fun e w' => ∃ F2, e = .returned (.agg (bvs (out ts (hashT (catP ps)) 32)).toArray) ∧ Iq w0 F w' p F2 (mk ts (hashT (catP ps))) := by
  obtain ⟨bn, bs, hF, hw, hg⟩ := hw
  have HG := Lib.hid hg
  have HF := Lib.hid hF
  have HW := Lib.hid hw
  have HNE : Hid (w0.heap.size ≠ bn) := Lib.hid (by have := hw.lt bn (.inr (.inl rfl)); omega)
  clear hF hw hg
  have HP := Lib.hid hp
  have hz := zc_run
  have HZ := Lib.hid (Blk.new w0 27 zc)
  have HK1 := Lib.hid ((Kp.refl nob w0).alloc (.cells zc.toArray 27))
  clear hp
  go_enter Try.func49, Try.ntmps49
  go_wp2_with fail
  generalize hw1 : w0.alloc (.cells zc.toArray 27) = w1 at *
  clear hw1
  refine (joined_any B m d ps F _ (HP.out.keep0 HK1.out) (by omega)).mono ?_
  rintro e w2 ⟨rfl, k2⟩
  have HN2 := Lib.hid (HK1.out.trans k2 (fun _ e => e.elim))
  have HZ2 := Lib.hid (HZ.out.keep k2 (fun e => e))
  clear k2
  go_wp2_with fail
  refine (digest_any p bn bs _ ⟨72, [], [], [], catP ps⟩ _ (HW.out.keep0 HN2.out) (by rw [List.length_map]; exact hl) (by decide : (72 : UInt8) ≠ 83)).mono ?_
  rintro e w3 ⟨rfl, hx, k3⟩
  have HS2 := Lib.hid ((HN2.out.nob (fun i => i = bn)).trans k3 (fun _ e => .inl e))
  have HX3 := Lib.hid hx
  have HZ3 := Lib.hid (HZ2.out.keep k3 (fun e => HNE.out e))
  obtain ⟨D, hD⟩ : ∃ D, D = tok 72 (num (mk (ts.map ct) ⟨72, [], [], [], catP ps⟩) ⟨72, [], [], [], catP ps⟩) 32 := ⟨_, rfl⟩
  have HTL := Lib.hid (show D.length = 32 by rw [hD]; exact tok_length _ _ _ (by omega))
  have HDD := Lib.hid hD
  rw [← hD]
  clear hx k3 hD
  go_wp2_with (first
    | (refine wpList_store_blk rfl 27 (.tmp 4) (.tmp 9) rfl _ _ zc (bvs D) HZ3.out rfl rfl (by rw [bvs_length, zc_length, HTL.out]) (by rw [bvs_length, HTL.out]; kernel_rfl) (bvs_one _) ?_; intro w4 hB4 k4 z4)
    | fail)
  have hsz : (Try.prog.info? 27).map (·.size) = some (bvs D).toArray.size := by rw [List.size_toArray, bvs_length, HTL.out]; kernel_rfl
  have HX4 := HX3.out.keep k4 (fun i hi e => by have e : i = w0.heap.size := e; have := HW.out.lt i hi; omega)
  refine bodyPost_ret (results_cell_row rfl _ _ w0.heap.size _ _ _ _ rfl hB4 arr32_under rfl hsz) rfl ⟨F, by rw [HDD.out]; exact out_ct HG.out (hashT (catP ps)) 32 (hashT_good (catP ps)), iw_more HF.out HG.out (hashT (catP ps)) (hashT_good (catP ps)) HX4, fun _ e => .inl e, (HS2.out.trans k4 (fun i e => .inr (by have e : i = w0.heap.size := e; omega))).mono (fun i _ e => by rw [HF.out]; exact .inr (.inl e))⟩
set_option maxHeartbeats 4000000 in
set_option maxRecDepth 100000 in
theorem hash_nil (B : Option Addr) (m d : Nat) (ps : List Pc) (F : Nat → Prop) (w0 : World) (hp : Args w0 F B m ps) (lp : (catP ps).length ≤ 1048576) :
    Calls Try.prog 49 #[.pointer none, .slice B m d] w0 fun e w' => e = .returned (.agg (bvs z32).toArray) ∧ Kp nob w0 w' := by
  have HP := Lib.hid hp
  have hz := zc_run
  have HZ := Lib.hid (Blk.new w0 27 zc)
  have HK1 := Lib.hid ((Kp.refl nob w0).alloc (.cells zc.toArray 27))
  clear hp
  go_enter Try.func49, Try.ntmps49
  go_wp2_with fail
  generalize hw1 : w0.alloc (.cells zc.toArray 27) = w1 at *
  clear hw1
  refine (joined_any B m d ps F _ (HP.out.keep0 HK1.out) (by omega)).mono ?_
  rintro e w2 ⟨rfl, k2⟩
  have HN2 := Lib.hid (HK1.out.trans k2 (fun _ e => e.elim))
  have HZ2 := Lib.hid (HZ.out.keep k2 (fun e => e))
  clear k2
  go_wp2_with fail
  refine (digest_nil _ ⟨72, [], [], [], catP ps⟩ rfl _).mono ?_
  rintro e w3 ⟨rfl, k3⟩
  have HS2 := Lib.hid (HN2.out.trans k3 (fun _ e => e.elim))
  have HZ3 := Lib.hid (HZ2.out.keep k3 (fun e => e))
  obtain ⟨D, hD⟩ : ∃ D, D = z32 := ⟨_, rfl⟩
  have HTL := Lib.hid (show D.length = 32 by rw [hD]; simp [z32])
  have HDD := Lib.hid hD
  rw [← hD]
  clear k3 hD
  go_wp2_with (first
    | (refine wpList_store_blk rfl 27 (.tmp 4) (.tmp 9) rfl _ _ zc (bvs D) HZ3.out rfl rfl (by rw [bvs_length, zc_length, HTL.out]) (by rw [bvs_length, HTL.out]; kernel_rfl) (bvs_one _) ?_; intro w4 hB4 k4 z4)
    | fail)
  have hsz : (Try.prog.info? 27).map (·.size) = some (bvs D).toArray.size := by rw [List.size_toArray, bvs_length, HTL.out]; kernel_rfl
  refine bodyPost_ret (results_cell_row rfl _ _ w0.heap.size _ _ _ _ rfl hB4 arr32_under rfl hsz) rfl ⟨by rw [HDD.out], HS2.out.since k4 (fun i e => by cases e; exact Nat.le_refl _)⟩
end Go.Proofs.Ytmmpmncioifeoaa.Ideal
