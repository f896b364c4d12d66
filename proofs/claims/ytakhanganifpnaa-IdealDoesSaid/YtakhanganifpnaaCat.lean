/- Contracts of the library's Grow and Concat, at bytes. -/
import Derived.Test.YtakhanganifpnaaRows
import Derived.Test.YtakhanganifpnaaAppB
import Derived.Test.YtakhanganifpnaaRegI
import Derived.Test.YtakhanganifpnaaPcs
import Derived.Test.YtakhanganifpnaaBlkC
namespace Go.Proofs.Ytakhanganifpnaa.Cat
set_option linter.unusedVariables false
set_option linter.unusedSimpArgs false
open Go Go.RowKit Kit
open Sha (Pc PcsOk catP catP_snoc catP_le)

theorem u8s_under : Try.prog.underlying 34 = some (.slice 5) := by kernel_rfl
theorem u8_size : ∀ w, (sizeOf 5).run Try.prog w = .ok 1 w := fun _ => by kernel_rfl
theorem slice_to (A : Option Addr) (n c i : Nat) (hi : i ≤ c) (w : World) : (Instr.slice 34 (.slice A n c) none (some (.int .i64 i)) none).run Try.prog w = .ok (.slice A i c) w := by
  have he : Try.prog.elem 34 = 5 := by kernel_rfl
  rw [run_slice_h w 34 A n c (by kernel_rfl) .i64 i (by omega) (by omega), he, u8_size]
  cases A <;> simp [Result.andThen, sliced, Addr.add]
theorem slice_of (A : Option Addr) (n c i j : Nat) (hi : i ≤ j) (hj : j ≤ c) (w : World) : (Instr.slice 34 (.slice A n c) (some (.int .i64 i)) (some (.int .i64 j)) none).run Try.prog w = .ok (.slice (cutA A c i) (j - i) (c - i)) w := by
  have he : Try.prog.elem 34 = 5 := by kernel_rfl
  rw [run_slice_lh w 34 A n c (by kernel_rfl) .i64 .i64 i j (by omega) (by omega) (by omega), he, u8_size]
  simp [Result.andThen, sliced, cutA]
theorem slice_from (A : Option Addr) (n c i : Nat) (hi : i ≤ n) (w : World) : (Instr.slice 34 (.slice A n c) (some (.int .i64 i)) none none).run Try.prog w = .ok (.slice (cutA A c i) (n - i) (c - i)) w :=
  run_slice_from _ 5 u8s_under (fun _ => by kernel_rfl) A n c i hi w
theorem slice_max (A : Option Addr) (n c i j : Nat) (hi : i ≤ j) (hj : j ≤ c) (w : World) : (Instr.slice 34 (.slice A n c) (some (.int .i64 i)) (some (.int .i64 j)) (some (.int .i64 j))).run Try.prog w = .ok (.slice (cutA A j i) (j - i) (j - i)) w := by
  have he : Try.prog.elem 34 = 5 := by kernel_rfl
  rw [run_slice_lhm w 34 A n c (by kernel_rfl) .i64 .i64 .i64 i j j (by omega) (by omega) (by omega) (by omega), he, u8_size]
  simp [Result.andThen, sliced, cutA]
set_option maxHeartbeats 1000000 in
set_option maxRecDepth 100000 in
/-- Room for N bytes, and none in it. -/
theorem grow_any (N : Nat) (w : World) (hN : N ≤ 1099511627776) :
    Calls Try.prog 33 #[.slice none 0 0, .int .i64 N] w fun e w' => ∃ A c, e = .returned (.slice A 0 c) ∧ Kit.Own 5 w' A 0 c [] ∧ Kp nob w w' ∧ ∀ k, ab A = some k → w.heap.size ≤ k := by
  have d0 : decide ((N : Int) < 0) = false := by simp
  go_enter Try.func33, Try.ntmps33
  by_cases h0 : N = 0
  · subst h0
    go_wp2
    go_ret
    exact ⟨none, 0, rfl, Kit.Own.nil _ _, Kp.refl _ _, fun _ e => by cases e⟩
  · have d1 : decide ((0 : Int) < (N : Int)) = true := by simp; omega
    have hs0 := slice_to none 0 0 0 (Nat.le_refl _)
    obtain ⟨i, hi, hz0, hz1, hz2⟩ := info_parts (show (Try.prog.info? 5).map (fun i => (i.zero, i.size, i.bytes)) = some (some (.int .u8 0), 1, 1) by kernel_rfl)
    have hz : i.zero = some (.int .u8 0) ∧ i.size = 1 ∧ i.bytes = 1 := ⟨hz0, hz1, hz2⟩
    have HI := Lib.hid hi; have HZ := Lib.hid hz
    clear hi hz hz0 hz1 hz2
    go_wp2_with (first
      | (refine wpList_appZero _ rfl (.tmp 20) (.tmp 21) 34 3 rfl 5 i .i64 .i64 u8s_under (by kernel_rfl) HI.out HZ.out.1 HZ.out.2.1 HZ.out.2.2 none 0 0 [] rfl (Kit.Own.nil _ _) N rfl (by omega) ?_
         intro A c w1 hown hg hab
         have HO := Lib.hid hown.zero
         have HK := Lib.hid (Kp.of_grown (F := nob) hg (fun k e => by cases e))
         have HA : Hid (∀ k, ab A = some k → w.heap.size ≤ k) := Lib.hid (fun k e => by
           rcases hab with h | h
           · rw [h] at e; cases e
           · rw [h] at e; cases e; exact Nat.le_refl _)
         have hsl := slice_to A (0 + N) c 0 (Nat.zero_le _)
         clear hown hg hab)
      | fail)
    go_ret
    exact ⟨A, c, rfl, HO.out, HK.out, HA.out⟩
set_option maxHeartbeats 1000000 in
set_option maxRecDepth 100000 in
/-- Pieces, one behind the other, in new memory. -/
theorem concat_any (B : Option Addr) (m d : Nat) (ps : List Pc) (w : World) (hm : ps.length = m) (hr : Row w B (ps.map Pc.v)) (hp : PcsOk w nob ps) (hnil : ∀ p ∈ ps, p.A = none → p.c = 0) (hmm : m ≤ 1099511627776) (hl : (catP ps).length ≤ 1099511627776) :
    Calls Try.prog 28 #[.slice B m d] w fun e w' => ∃ A c, e = .returned (.slice A (catP ps).length c) ∧ Kit.Own 5 w' A (catP ps).length c (bvs (catP ps)) ∧ Kp nob w w' ∧ ∀ k, ab A = some k → w.heap.size ≤ k := by
  have HM := Lib.hid hm; have HL := Lib.hid hl; clear hm hl
  have HPC : Hid (∀ k, k < m → ∃ (p : Pc) (bb oo : Nat), B = some ⟨bb, oo, none⟩ ∧ bb < w.heap.size ∧ w.cell? ⟨bb, oo + k, none⟩ = some (.slice p.A p.n p.c) ∧ p.l.length = p.n ∧ Row w p.A (bvs p.l) ∧ (p.A = none → p.c = 0) ∧ catP (ps.take (k + 1)) = catP (ps.take k) ++ p.l ∧ (catP (ps.take k)).length + p.n ≤ (catP ps).length) := Lib.hid (by
    intro k hlt
    obtain ⟨p, hpk⟩ : ∃ p, p = ps[k]'(by rw [HM.out]; exact hlt) := ⟨_, rfl⟩
    obtain ⟨bb, oo, rfl, hbb, hcell⟩ := hr.at_ (i := k) (by simp [HM.out]; exact hlt)
    have hmem : p ∈ ps := by rw [hpk]; exact List.getElem_mem _
    obtain ⟨q1, q2, _, q4, q5⟩ := hp p hmem
    have hsn := catP_snoc ps k (by rw [HM.out]; exact hlt)
    have hle := catP_le ps (k + 1)
    rw [hsn, List.length_append, ← hpk, q1] at hle
    exact ⟨p, bb, oo, rfl, hbb, by rw [hcell, hpk]; simp [Pc.v], q1, q2, hnil p hmem, by rw [hsn, hpk], hle⟩)
  clear hr hp hnil
  go_enter Try.func28, Try.ntmps28
  go_wp2
  go_loop [3, 11] (fun vr vi => ∃ (k : Nat), k ≤ m ∧ vi = .int .i64 k ∧ vr = .int .i64 ((catP (ps.take k)).length : Int))
    (fun _ vi => m - (intOf vi).toNat)
  case atStart => exact ⟨0, Nat.zero_le _, rfl, by simp [catP]⟩
  case round =>
    obtain ⟨k, hk, rfl, rfl⟩ := hrel
    by_cases hlt : k < m
    · obtain ⟨p, bb, oo, rfl, hbb, hce, q1, q2, q3, q4, q5⟩ := HPC.out k hlt
      have hS : (catP (ps.take (k + 1))).length = (catP (ps.take k)).length + p.n := by rw [q4, List.length_append, q1]
      have hle := HL.out
      obtain ⟨I, hI⟩ : ∃ I, I = (catP (ps.take k)).length := ⟨_, rfl⟩
      obtain ⟨J, hJ⟩ : ∃ J, J = (catP (ps.take (k + 1))).length := ⟨_, rfl⟩
      rw [← hI, ← hJ] at hS
      rw [← hI] at q5
      rw [← hI]
      have HJ := Lib.hid hJ
      have e1 : IntKind.i64.wrap ((I : Int) + (p.n : Int)) = (J : Int) := by rw [IntKind.wrap_i64]; omega
      have d1 : decide ((J : Int) < 0) = false := by simp
      clear hS hle hI hJ q1 q2 q3 q4
      go_wp2
      go_round
      case rel => exact ⟨k + 1, by omega, by go_num, by rw [HJ.out]⟩
      case measure => simp [intOf]; omega
    · obtain rfl : m = k := by omega
      have hI : (catP (ps.take m)).length = (catP ps).length := by rw [List.take_of_length_le (by rw [HM.out]; omega)]
      rw [hI]
      have hle := HL.out
      obtain ⟨L, hL⟩ : ∃ L, L = (catP ps).length := ⟨_, rfl⟩
      rw [← hL] at hle ⊢
      have HLL := Lib.hid hL
      clear hI hL
      go_wp2_with fail
      refine (grow_any L w hle).mono ?_
      rintro e w1 ⟨A, c, rfl, hO, k1, hA⟩
      have H1 := Lib.hid (And.intro hO (And.intro k1 hA))
      clear hO k1 hA
      go_wp2
      go_loopw [6, 27] (fun vr vi wr => ∃ (k : Nat) (A : Option Addr) (n c : Nat), k ≤ m ∧ vi = .int .i64 k ∧ n = (catP (ps.take k)).length ∧ vr = .slice A n c ∧ Kit.Own 5 wr A n c (bvs (catP (ps.take k))) ∧ Kp nob w wr ∧ ∀ k, ab A = some k → w.heap.size ≤ k)
        (fun _ vi _ => m - (intOf vi).toNat)
      case atStart => exact ⟨0, A, 0, c, Nat.zero_le _, rfl, rfl, rfl, H1.out.1, H1.out.2⟩
      case round =>
        obtain ⟨k, A, n, c, hk, rfl, hn, rfl, hO, hK, hA⟩ := hrel
        by_cases hlt : k < m
        · obtain ⟨p, bb, oo, rfl, hbb, hce, q1, q2, q3, q4, q5⟩ := HPC.out k hlt
          have hce' : wr.cell? ⟨bb, oo + k, none⟩ = some (.slice p.A p.n p.c) := by rw [hK.cell (p := ⟨bb, oo + k, none⟩) hbb (fun e => e), hce]
          have HR := Lib.hid (show Row wr p.A (bvs p.l) from q2.keep0 hK)
          have HPL := Lib.hid (show (bvs p.l).length = p.n by rw [bvs_length, q1])
          have hle := HL.out
          have hb1 : (n + p.n) * 1 ≤ 140737488355328 := by omega
          have hb2 : n + p.n ≤ 140737488355328 := by omega
          have H4 := Lib.hid (show n + p.n = (catP (ps.take (k + 1))).length by rw [q4, List.length_append, q1, hn])
          have H5 := Lib.hid (show bvs (catP (ps.take k)) ++ bvs p.l = bvs (catP (ps.take (k + 1))) by rw [q4, bvs_append])
          have H3 := Lib.hid q3
          have HO := Lib.hid hO; have HK := Lib.hid hK; have HA := Lib.hid hA; have HN := Lib.hid hn
          obtain ⟨i, hi, hz0, hz1, hz2⟩ := info_parts (show (Try.prog.info? 5).map (fun i => (i.zero, i.size, i.bytes)) = some (some (.int .u8 0), 1, 1) by kernel_rfl)
          have HI := Lib.hid hi; have HZ := Lib.hid (And.intro hz0 (And.intro hz1 hz2))
          clear hce q1 q2 q3 q4 q5 hle hO hK hA hn hi hz0 hz1 hz2 H1
          go_wp2_with (first
            | (refine wpList_appR _ rfl (.tmp 31) (.tmp 32) 34 rfl 5 i (.int .u8 0) 1 u8s_under HI.out HZ.out.1 HZ.out.2.1 HZ.out.2.2 rfl A n c _ rfl HO.out p.A p.n p.c (bvs p.l) rfl H3.out HPL.out HR.out (bvs_one _) hb1 hb2 ?_
               intro A' c' w' hown hg hab
               rw [H5.out] at hown
               have HO' := Lib.hid hown
               have HK' := Lib.hid (HK.out.since (Kp.of_grown (F := rowF A) hg (fun k e => e)) (fun k e => HA.out k e))
               have HA' : Hid (∀ k, ab A' = some k → w.heap.size ≤ k) := Lib.hid (fun k e => by
                 rcases hab with h | h
                 · exact HA.out k (by rw [← h]; exact e)
                 · rw [h] at e; cases e; exact HK.out.size)
               clear hown hg hab)
            | fail)
          go_roundw
          case rel => exact ⟨k + 1, A', n + p.n, c', by omega, by go_num, H4.out, rfl, HO'.out, HK'.out, HA'.out⟩
          case measure => simp [intOf]; omega
        · obtain rfl : m = k := by omega
          have hI : ps.take m = ps := List.take_of_length_le (by rw [HM.out]; omega)
          rw [hI] at hn hO
          have HO := Lib.hid hO; have HN := Lib.hid hn
          clear hI hn hO
          go_wp2
          go_ret
          exact ⟨A, c, by rw [HN.out]; rfl, by rw [← HN.out]; exact HO.out, hK, hA⟩
end Go.Proofs.Ytakhanganifpnaa.Cat
