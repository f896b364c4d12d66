/- What the laws of layer 9 play: alive. -/
import Derived.Test.YtakhanganifpnaaIdealD
import Derived.Test.YtakhanganifpnaaIdealG
import Derived.Lib.SlBytesConst
namespace Go.Proofs.Ytakhanganifpnaa.Ideal
set_option linter.unusedVariables false
set_option linter.unusedSimpArgs false
open Go Go.RowKit Kit
open Sha (Pc PcsOk catP)

theorem out_at (ts : List Thing) (t : Thing) (n k : Nat) (i : Nat) (v : UInt8) (hk : num (mk ts t) t = k) (h : (tok t.kind k n)[i]? = some v) : (bvs (out ts t n))[i]? = some (.int .u8 (v.toNat : Int)) := by
  rw [bvs, List.getElem?_map, out, hk, h]; rfl
theorem bvs_len32 (ts : List Thing) (t : Thing) : (bvs (out ts t 32)).length = 32 := by rw [bvs_length, out_length _ _ _ (by omega)]
theorem arr32I : (Try.prog.info? 41).map (·.size) = some 32 := by kernel_rfl
theorem bv_one (l : List UInt8) : ∀ u ∈ bvs l, u.oneCell' = true := bvs_one l
set_option maxHeartbeats 1000000 in
set_option maxRecDepth 100000 in
theorem alive_yes (w : World) :
    Calls Try.prog 8 #[] w fun e w' => e = .returned (.bool true) ∧ Kp nob w w' := by
  go_enter Try.func8, Try.ntmps8
  go_wp2_with fail
  refine (new_i w).mono ?_
  rintro e w1 ⟨p, F, rfl, hq⟩
  have HQ := Lib.hid hq; clear hq
  have kc := fun (w : World) (C : Array Value) (n c : Nat) => Lib.run_convert_bytes_const (P := Try.prog) w 34 5 C n c u8sI u8I
  go_wp2_with fail
  have k1 := (Kp.refl nob w1).alloc (.cells (bvs [120]).toArray 5 (1, 2))
  have hA := hash_one p F [] _ _ _ [120] 34 _ (HQ.out.i.mem _) (lit_arg w1 [120] 5 (1, 2) (by decide) F HQ.out.i.lt) (Nat.zero_le _) (by decide)
  rw [show (w1.alloc (.cells (bvs [120]).toArray 5 (1, 2))).heap.size = w1.heap.size + 1 by simp] at hA
  refine hA.mono ?_
  rintro e w2 ⟨F2, rfl, hq2⟩
  have HD := Lib.hid (show mk [] (hashT [120]) = [hashT [120]] from mk_new _ _ (by simp))
  have HQ2 := Lib.hid hq2
  have K1 := Lib.hid (HQ.out.k.trans k1 (fun _ e => e.elim))
  clear hq2 hA k1 kc
  obtain ⟨D, hD⟩ : ∃ D, D = out [] (hashT [120]) 32 := ⟨_, rfl⟩
  have hn1 : num (mk [] (hashT [120])) (hashT [120]) = 1 := num_new _ _ (by simp)
  have HL := Lib.hid (show (bvs D).length = 32 by rw [hD]; exact bvs_len32 _ _)
  have HC := Lib.hid (show (bvs D)[0]? = some (.int .u8 1) ∧ (bvs D)[1]? = some (.int .u8 0) ∧ (bvs D)[8]? = some (.int .u8 72) ∧ (bvs D)[9]? = some (.int .u8 238) by
    rw [hD]
    exact ⟨out_at _ _ 32 1 0 1 hn1 rfl, out_at _ _ 32 1 1 0 hn1 rfl, out_at _ _ 32 1 8 72 hn1 rfl, out_at _ _ 32 1 9 238 hn1 rfl⟩)
  rw [← hD]
  clear hD hn1
  go_wp2_with (first
    | (refine wpList_store_new rfl 41 (.tmp 2) (.tmp 8) rfl _ (bvs D) rfl rfl (by rw [HL.out]; rfl) (by rw [HL.out]; kernel_rfl) (bvs_one _) ?_
       intro w3 hB3 k3 z3
       have HS : Hid (Iw w3 p F2 [hashT [120]]) := Lib.hid (by rw [← HD.out]; exact HQ2.out.i.keep k3 (fun _ _ e => e))
       have HB := Lib.hid hB3; have HK3 := Lib.hid k3
       have c0 : w3.cell? ⟨w2.heap.size, 0, none⟩ = some (.int .u8 1) := by rw [hB3.cell, HC.out.1]
       have c1 : w3.cell? ⟨w2.heap.size, 1, none⟩ = some (.int .u8 0) := by rw [hB3.cell, HC.out.2.1]
       have c2 : w3.cell? ⟨w2.heap.size, 8, none⟩ = some (.int .u8 72) := by rw [hB3.cell, HC.out.2.2.1]
       have c3 : w3.cell? ⟨w2.heap.size, 9, none⟩ = some (.int .u8 238) := by rw [hB3.cell, HC.out.2.2.2]
       clear hB3 k3 z3)
    | fail)
  refine (size_i p F2 [hashT [120]] w3 HS.out).mono ?_
  rintro e w4 ⟨rfl, rfl⟩
  clear c0 c1 c2 c3
  go_wp2
  go_ret
  exact ⟨rfl, (K1.out.since HQ2.out.k (fun i e => (HQ.out.f i e).resolve_left (fun e => e))).trans HK3.out (fun _ e => e.elim)⟩
end Go.Proofs.Ytakhanganifpnaa.Ideal
