/- Contracts of package gcm: a new sealer; whether there is too much. · Contracts of the library's Grow and Concat, at bytes. · Pure: a text taken exclusively with the blocks, piece by piece. No program is named here. -/
import Derived.Test.YtmmpmncioifeoaaZG33
import Derived.Test.YtmmpmncioifeoaaZG01
import Derived.Test.YtmmpmncioifeoaaZG11
import Derived.Test.YtmmpmncioifeoaaZG12
import Derived.Test.YtmmpmncioifeoaaZG24
namespace Go.Proofs.Ytmmpmncioifeoaa.Gcm
set_option linter.unusedVariables false
set_option linter.unusedSimpArgs false
open Go Go.RowKit Kit
open Aes (gb allW allW_length Ciph)
open Field (cb cb_inj Sq)
open Sha (Pc PcsOk catP catP_snoc catP_le)

/-- A sealer at p, of the words W, of R rounds and one more. -/
structure SealAt [Inhabited Field.SqTab] (w : World) (p : Nat) (W : List UInt8) (R : Nat) : Prop where
  c : ∃ g, Blk w p 156 [.pointer (some ⟨g, 0, none⟩)] ∧ Ciph w g W R
theorem SealAt.keep0 [Inhabited Field.SqTab] {w w2 : World} {p R : Nat} {W : List UInt8} (h : SealAt w p W R) (k : Kp nob w w2) : SealAt w2 p W R :=
  let ⟨g, h1, h2⟩ := h.c; ⟨g, h1.keep k (fun e => e), h2.keep0 k⟩
theorem SealAt.lt [Inhabited Field.SqTab] {w : World} {p R : Nat} {W : List UInt8} (h : SealAt w p W R) : p < w.heap.size := let ⟨_, h1, _⟩ := h.c; h1.lt

theorem new_no (A : Option Addr) (n c : Nat) (w : World) (h1 : n ≠ 16) (h2 : n ≠ 32) (hn : n ≤ 140737488355328) :
    Calls Try.prog 92 #[.slice A n c] w fun e w' => e = .returned (.tuple #[.pointer none, .int .i64 1]) ∧ w = w' := by
  go_enter Try.func92, Try.ntmps92
  go_wp2_with fail
  refine (Aes.new_no A n c w h1 h2 hn).mono ?_
  rintro e w' ⟨rfl, rfl⟩
  go_wp2
  go_ret2
  exact ⟨rfl, rfl⟩
set_option maxHeartbeats 1000000 in
theorem new_yes [Inhabited Field.SqTab] (n : Nat) (key : List UInt8) (A : Option Addr) (cA : Nat) (w : World) (ht : Sq w) (hk : key.length = 4 * n) (hn : n = 4 ∨ n = 8) (hr : Row w A (bvs key)) (hc : 4 * n ≤ cA) :
    Calls Try.prog 92 #[.slice A (4 * n) cA] w fun e w' => ∃ p, e = .returned (.tuple #[.pointer (some ⟨p, 0, none⟩), .int .i64 0]) ∧ SealAt w' p (allW key) (n + 5) ∧ w.heap.size ≤ p ∧ Kp nob w w' := by
  have HK := Lib.hid hk; have HR := Lib.hid hr; have HT := Lib.hid ht; have HN := Lib.hid hn; have HC := Lib.hid hc
  clear hk hr ht hn hc
  go_enter Try.func92, Try.ntmps92
  go_wp2_with fail
  refine (Aes.new_yes n key A cA w HT.out HK.out HN.out HR.out HC.out).mono ?_
  rintro e w1 ⟨g, rfl, hg, hge, k1⟩
  have HG := Lib.hid hg; have K1 := Lib.hid k1
  have hs := k1.size
  clear hg k1
  go_wp2
  go_ret2
  exact ⟨w1.heap.size, rfl, ⟨g, Blk.new w1 _ _, HG.out.keep0 ((Kp.refl nob w1).alloc _)⟩, hs, K1.out.alloc _⟩
set_option maxHeartbeats 1000000 in
theorem long_any (A : Option Addr) (n c : Nat) (B : Option Addr) (m d : Nat) (ps : List Pc) (w : World) (hm : ps.length = m) (hr : Row w B (ps.map Pc.v)) (hp : PcsOk w nob ps) (hn : n ≤ 1099511627776) (hmm : m ≤ 1099511627776) (hl : (catP ps).length ≤ 1099511627776) :
    Calls Try.prog 93 #[.slice A n c, .slice B m d] w fun e w' => e = .returned (.bool (decide (1048576 < n) || decide (1048576 < (catP ps).length))) ∧ w = w' := by
  have HM := Lib.hid hm; clear hm
  go_enter Try.func93, Try.ntmps93
  go_wp2
  go_loop [5, 10] (fun vr vi => ∃ (k : Nat) (I : Int), k ≤ m ∧ vi = .int .i64 k ∧ I = 1048576 - ((catP (ps.take k)).length : Int) ∧ vr = .int .i64 I)
    (fun _ vi => m - (intOf vi).toNat)
  case atStart => exact ⟨0, 1048576, Nat.zero_le _, rfl, by simp [catP], rfl⟩
  case round =>
    obtain ⟨k, I, hk, rfl, hI, rfl⟩ := hrel
    by_cases hlt : k < m
    · obtain ⟨p, hpk⟩ : ∃ p, p = ps[k]'(by rw [HM.out]; exact hlt) := ⟨_, rfl⟩
      obtain ⟨bb, oo, rfl, hbb, hcell⟩ := hr.at_ (i := k) (by simp [HM.out]; exact hlt)
      have hce : w.cell? ⟨bb, oo + k, none⟩ = some (.slice p.A p.n p.c) := by rw [hcell, hpk]; simp [Pc.v]
      obtain ⟨q1, _, _, q4, q5⟩ := hp p (by rw [hpk]; exact List.getElem_mem _)
      have hsn := catP_snoc ps k (by rw [HM.out]; exact hlt)
      have hle := catP_le ps (k + 1)
      rw [hsn, List.length_append, ← hpk, q1] at hle
      have hS : ((catP (ps.take (k + 1))).length : Int) = ((catP (ps.take k)).length : Int) + (p.n : Int) := by
        rw [hsn, List.length_append, ← hpk, q1]; omega
      obtain ⟨J, hJ⟩ : ∃ J : Int, J = 1048576 - ((catP (ps.take (k + 1))).length : Int) := ⟨_, rfl⟩
      have e1 : IntKind.i64.wrap (I - (p.n : Int)) = J := by rw [IntKind.wrap_i64]; omega
      have HJ := Lib.hid hJ
      clear hcell hpk hsn hle hS hI hJ
      go_wp2
      go_round
      case rel => exact ⟨k + 1, J, by omega, by go_num, HJ.out, rfl⟩
      case measure => simp [intOf]; omega
    · obtain rfl : k = m := by omega
      have hI' : I = 1048576 - ((catP ps).length : Int) := by rw [hI, List.take_of_length_le (by rw [HM.out]; omega)]
      obtain ⟨L, hL⟩ : ∃ L, L = (catP ps).length := ⟨_, rfl⟩
      rw [← hL] at hI' hl
      have HL := Lib.hid hL
      clear hI hL
      subst hI'
      by_cases h1 : 1048576 < n
      · have d1 : decide ((1048576 : Int) < (n : Int)) = true := by simp; omega
        have E : Hid ((decide (1048576 < n) || decide (1048576 < (catP ps).length)) = true) := Lib.hid (by simp [h1])
        clear h1
        go_wp2
        go_ret
        exact ⟨by rw [E.out]; first | rfl | go_simp, rfl⟩
      · have d1 : decide ((1048576 : Int) < (n : Int)) = false := by simp; omega
        by_cases h2 : 1048576 < L
        · have d2 : decide ((1048576 : Int) - (L : Int) < 0) = true := by simp; omega
          have E : Hid ((decide (1048576 < n) || decide (1048576 < (catP ps).length)) = true) := Lib.hid (by rw [← HL.out]; simp [h2])
          clear h1 h2
          go_wp2
          go_ret
          exact ⟨by rw [E.out]; first | rfl | go_simp | (rw [d2]; rfl), rfl⟩
        · have d2 : decide ((1048576 : Int) - (L : Int) < 0) = false := by simp; omega
          have E : Hid ((decide (1048576 < n) || decide (1048576 < (catP ps).length)) = false) := Lib.hid (by rw [← HL.out]; simp [h1, h2])
          clear h1 h2
          go_wp2
          go_ret
          exact ⟨by rw [E.out]; first | rfl | go_simp | (rw [d2]; rfl), rfl⟩
end Go.Proofs.Ytmmpmncioifeoaa.Gcm
namespace Go.Proofs.Ytmmpmncioifeoaa.Gcm
set_option linter.unusedVariables false
set_option linter.unusedSimpArgs false
open Go Go.RowKit Kit
open Sha (Pc PcsOk catP catP_snoc catP_le)

theorem u8_size : ∀ w, (sizeOf 5).run Try.prog w = .ok 1 w := fun _ => by kernel_rfl
theorem slice_to (A : Option Addr) (n c i : Nat) (hi : i ≤ c) (w : World) : (Instr.slice 29 (.slice A n c) none (some (.int .i64 i)) none).run Try.prog w = .ok (.slice A i c) w := by
  have he : Try.prog.elem 29 = 5 := by kernel_rfl
  rw [run_slice_h w 29 A n c (by kernel_rfl) .i64 i (by omega) (by omega), he, u8_size]
  cases A <;> simp [Result.andThen, sliced, Addr.add]
theorem slice_of (A : Option Addr) (n c i j : Nat) (hi : i ≤ j) (hj : j ≤ c) (w : World) : (Instr.slice 29 (.slice A n c) (some (.int .i64 i)) (some (.int .i64 j)) none).run Try.prog w = .ok (.slice (cutA A c i) (j - i) (c - i)) w := by
  have he : Try.prog.elem 29 = 5 := by kernel_rfl
  rw [run_slice_lh w 29 A n c (by kernel_rfl) .i64 .i64 i j (by omega) (by omega) (by omega), he, u8_size]
  simp [Result.andThen, sliced, cutA]
theorem slice_from (A : Option Addr) (n c i : Nat) (hi : i ≤ n) (w : World) : (Instr.slice 29 (.slice A n c) (some (.int .i64 i)) none none).run Try.prog w = .ok (.slice (cutA A c i) (n - i) (c - i)) w :=
  run_slice_from _ 5 u8s_under (fun _ => by kernel_rfl) A n c i hi w
theorem slice_max (A : Option Addr) (n c i j : Nat) (hi : i ≤ j) (hj : j ≤ c) (w : World) : (Instr.slice 29 (.slice A n c) (some (.int .i64 i)) (some (.int .i64 j)) (some (.int .i64 j))).run Try.prog w = .ok (.slice (cutA A j i) (j - i) (j - i)) w := by
  have he : Try.prog.elem 29 = 5 := by kernel_rfl
  rw [run_slice_lhm w 29 A n c (by kernel_rfl) .i64 .i64 .i64 i j j (by omega) (by omega) (by omega) (by omega), he, u8_size]
  simp [Result.andThen, sliced, cutA]
set_option maxHeartbeats 1000000 in
set_option maxRecDepth 100000 in
/-- Room for N bytes, and none in it. -/
theorem grow_any (N : Nat) (w : World) (hN : N ≤ 1099511627776) :
    Calls Try.prog 66 #[.slice none 0 0, .int .i64 N] w fun e w' => ∃ A c, e = .returned (.slice A 0 c) ∧ Kit.Own 5 w' A 0 c [] ∧ Kp nob w w' ∧ ∀ k, ab A = some k → w.heap.size ≤ k := by
  have d0 : decide ((N : Int) < 0) = false := by simp
  go_enter Try.func66, Try.ntmps66
  by_cases h0 : N = 0
  · subst h0
    go_wp2
    go_ret
    exact ⟨none, 0, rfl, Kit.Own.nil _ _, Kp.refl _ _, fun _ e => by cases e⟩
  · have d1 : decide ((0 : Int) < (N : Int)) = true := by simp; omega
    have hs0 := slice_to none 0 0 0 (Nat.le_refl _)
    obtain ⟨i, hi, hz0, hz1, hz2⟩ := info_parts (show (Try.prog.info? 5).map (fun i => (i.zero, i.size, i.bytes)) = some (some (.int .u8 0), 1, 1) by kernel_rfl)
    have hz : i.zero = some (.int .u8 0) ∧ i.size = 1 ∧ i.bytes = 1 := ⟨hz0, hz1, hz2⟩
    have HI := Lib.hid hi; have HZ := Lib.hid hz
    clear hi hz hz0 hz1 hz2
    go_wp2_with (first
      | (refine wpList_appZero _ rfl (.tmp 20) (.tmp 21) 29 3 rfl 5 i .i64 .i64 u8s_under (by kernel_rfl) HI.out HZ.out.1 HZ.out.2.1 HZ.out.2.2 none 0 0 [] rfl (Kit.Own.nil _ _) N rfl (by omega) ?_
         intro A c w1 hown hg hab
         have HO := Lib.hid hown.zero
         have HK := Lib.hid (Kp.of_grown (F := nob) hg (fun k e => by cases e))
         have HA : Hid (∀ k, ab A = some k → w.heap.size ≤ k) := Lib.hid (fun k e => by
           rcases hab with h | h
           · rw [h] at e; cases e
           · rw [h] at e; cases e; exact Nat.le_refl _)
         have hsl := slice_to A (0 + N) c 0 (Nat.zero_le _)
         clear hown hg hab)
      | fail)
    go_ret
    exact ⟨A, c, rfl, HO.out, HK.out, HA.out⟩
set_option maxHeartbeats 1000000 in
set_option maxRecDepth 100000 in
/-- Pieces, one behind the other, in new memory. -/
theorem concat_any (B : Option Addr) (m d : Nat) (ps : List Pc) (w : World) (hm : ps.length = m) (hr : Row w B (ps.map Pc.v)) (hp : PcsOk w nob ps) (hnil : ∀ p ∈ ps, p.A = none → p.c = 0) (hmm : m ≤ 1099511627776) (hl : (catP ps).length ≤ 1099511627776) :
    Calls Try.prog 61 #[.slice B m d] w fun e w' => ∃ A c, e = .returned (.slice A (catP ps).length c) ∧ Kit.Own 5 w' A (catP ps).length c (bvs (catP ps)) ∧ Kp nob w w' ∧ ∀ k, ab A = some k → w.heap.size ≤ k := by
  have HM := Lib.hid hm; have HL := Lib.hid hl; clear hm hl
  have HPC : Hid (∀ k, k < m → ∃ (p : Pc) (bb oo : Nat), B = some ⟨bb, oo, none⟩ ∧ bb < w.heap.size ∧ w.cell? ⟨bb, oo + k, none⟩ = some (.slice p.A p.n p.c) ∧ p.l.length = p.n ∧ Row w p.A (bvs p.l) ∧ (p.A = none → p.c = 0) ∧ catP (ps.take (k + 1)) = catP (ps.take k) ++ p.l ∧ (catP (ps.take k)).length + p.n ≤ (catP ps).length) := Lib.hid (by
    intro k hlt
    obtain ⟨p, hpk⟩ : ∃ p, p = ps[k]'(by rw [HM.out]; exact hlt) := ⟨_, rfl⟩
    obtain ⟨bb, oo, rfl, hbb, hcell⟩ := hr.at_ (i := k) (by simp [HM.out]; exact hlt)
    have hmem : p ∈ ps := by rw [hpk]; exact List.getElem_mem _
    obtain ⟨q1, q2, _, q4, q5⟩ := hp p hmem
    have hsn := catP_snoc ps k (by rw [HM.out]; exact hlt)
    have hle := catP_le ps (k + 1)
    rw [hsn, List.length_append, ← hpk, q1] at hle
    exact ⟨p, bb, oo, rfl, hbb, by rw [hcell, hpk]; simp [Pc.v], q1, q2, hnil p hmem, by rw [hsn, hpk], hle⟩)
  clear hr hp hnil
  go_enter Try.func61, Try.ntmps61
  go_wp2
  go_loop [3, 11] (fun vr vi => ∃ (k : Nat), k ≤ m ∧ vi = .int .i64 k ∧ vr = .int .i64 ((catP (ps.take k)).length : Int))
    (fun _ vi => m - (intOf vi).toNat)
  case atStart => exact ⟨0, Nat.zero_le _, rfl, by simp [catP]⟩
  case round =>
    obtain ⟨k, hk, rfl, rfl⟩ := hrel
    by_cases hlt : k < m
    · obtain ⟨p, bb, oo, rfl, hbb, hce, q1, q2, q3, q4, q5⟩ := HPC.out k hlt
      have hS : (catP (ps.take (k + 1))).length = (catP (ps.take k)).length + p.n := by rw [q4, List.length_append, q1]
      have hle := HL.out
      obtain ⟨I, hI⟩ : ∃ I, I = (catP (ps.take k)).length := ⟨_, rfl⟩
      obtain ⟨J, hJ⟩ : ∃ J, J = (catP (ps.take (k + 1))).length := ⟨_, rfl⟩
      rw [← hI, ← hJ] at hS
      rw [← hI] at q5
      rw [← hI]
      have HJ := Lib.hid hJ
      have e1 : IntKind.i64.wrap ((I : Int) + (p.n : Int)) = (J : Int) := by rw [IntKind.wrap_i64]; omega
      have d1 : decide ((J : Int) < 0) = false := by simp
      clear hS hle hI hJ q1 q2 q3 q4
      go_wp2
      go_round
      case rel => exact ⟨k + 1, by omega, by go_num, by rw [HJ.out]⟩
      case measure => simp [intOf]; omega
    · obtain rfl : m = k := by omega
      have hI : (catP (ps.take m)).length = (catP ps).length := by rw [List.take_of_length_le (by rw [HM.out]; omega)]
      rw [hI]
      have hle := HL.out
      obtain ⟨L, hL⟩ : ∃ L, L = (catP ps).length := ⟨_, rfl⟩
      rw [← hL] at hle ⊢
      have HLL := Lib.hid hL
      clear hI hL
      go_wp2_with fail
      refine (grow_any L w hle).mono ?_
      rintro e w1 ⟨A, c, rfl, hO, k1, hA⟩
      have H1 := Lib.hid (And.intro hO (And.intro k1 hA))
      clear hO k1 hA
      go_wp2
      go_loopw [6, 27] (fun vr vi wr => ∃ (k : Nat) (A : Option Addr) (n c : Nat), k ≤ m ∧ vi = .int .i64 k ∧ n = (catP (ps.take k)).length ∧ vr = .slice A n c ∧ Kit.Own 5 wr A n c (bvs (catP (ps.take k))) ∧ Kp nob w wr ∧ ∀ k, ab A = some k → w.heap.size ≤ k)
        (fun _ vi _ => m - (intOf vi).toNat)
      case atStart => exact ⟨0, A, 0, c, Nat.zero_le _, rfl, rfl, rfl, H1.out.1, H1.out.2⟩
      case round =>
        obtain ⟨k, A, n, c, hk, rfl, hn, rfl, hO, hK, hA⟩ := hrel
        by_cases hlt : k < m
        · obtain ⟨p, bb, oo, rfl, hbb, hce, q1, q2, q3, q4, q5⟩ := HPC.out k hlt
          have hce' : wr.cell? ⟨bb, oo + k, none⟩ = some (.slice p.A p.n p.c) := by rw [hK.cell (p := ⟨bb, oo + k, none⟩) hbb (fun e => e), hce]
          have HR := Lib.hid (show Row wr p.A (bvs p.l) from q2.keep0 hK)
          have HPL := Lib.hid (show (bvs p.l).length = p.n by rw [bvs_length, q1])
          have hle := HL.out
          have hb1 : (n + p.n) * 1 ≤ 140737488355328 := by omega
          have hb2 : n + p.n ≤ 140737488355328 := by omega
          have H4 := Lib.hid (show n + p.n = (catP (ps.take (k + 1))).length by rw [q4, List.length_append, q1, hn])
          have H5 := Lib.hid (show bvs (catP (ps.take k)) ++ bvs p.l = bvs (catP (ps.take (k + 1))) by rw [q4, bvs_append])
          have H3 := Lib.hid q3
          have HO := Lib.hid hO; have HK := Lib.hid hK; have HA := Lib.hid hA; have HN := Lib.hid hn
          obtain ⟨i, hi, hz0, hz1, hz2⟩ := info_parts (show (Try.prog.info? 5).map (fun i => (i.zero, i.size, i.bytes)) = some (some (.int .u8 0), 1, 1) by kernel_rfl)
          have HI := Lib.hid hi; have HZ := Lib.hid (And.intro hz0 (And.intro hz1 hz2))
          clear hce q1 q2 q3 q4 q5 hle hO hK hA hn hi hz0 hz1 hz2 H1
          go_wp2_with (first
            | (refine wpList_appR _ rfl (.tmp 31) (.tmp 32) 29 rfl 5 i (.int .u8 0) 1 u8s_under HI.out HZ.out.1 HZ.out.2.1 HZ.out.2.2 rfl A n c _ rfl HO.out p.A p.n p.c (bvs p.l) rfl H3.out HPL.out HR.out (bvs_one _) hb1 hb2 ?_
               intro A' c' w' hown hg hab
               rw [H5.out] at hown
               have HO' := Lib.hid hown
               have HK' := Lib.hid (HK.out.since (Kp.of_grown (F := rowF A) hg (fun k e => e)) (fun k e => HA.out k e))
               have HA' : Hid (∀ k, ab A' = some k → w.heap.size ≤ k) := Lib.hid (fun k e => by
                 rcases hab with h | h
                 · exact HA.out k (by rw [← h]; exact e)
                 · rw [h] at e; cases e; exact HK.out.size)
               clear hown hg hab)
            | fail)
          go_roundw
          case rel => exact ⟨k + 1, A', n + p.n, c', by omega, by go_num, H4.out, rfl, HO'.out, HK'.out, HA'.out⟩
          case measure => simp [intOf]; omega
        · obtain rfl : m = k := by omega
          have hI : ps.take m = ps := List.take_of_length_le (by rw [HM.out]; omega)
          rw [hI] at hn hO
          have HO := Lib.hid hO; have HN := Lib.hid hn
          clear hI hn hO
          go_wp2
          go_ret
          exact ⟨A, c, by rw [HN.out]; rfl, by rw [← HN.out]; exact HO.out, hK, hA⟩
end Go.Proofs.Ytmmpmncioifeoaa.Gcm
namespace Go.Proofs.Ytmmpmncioifeoaa.Gcm
set_option linter.unusedVariables false
set_option linter.unusedSimpArgs false
open Aes (gb tb enc enc_length)

/-- The k-th piece of 16 bytes; the last one may be shorter. -/
def piece (l : List UInt8) (k : Nat) : List UInt8 := (l.drop (16 * k)).take 16
theorem piece_eq (l : List UInt8) (k : Nat) : piece l k = (l.drop (16 * k)).take 16 := rfl
theorem piece_length (l : List UInt8) (k : Nat) : (piece l k).length = min 16 (l.length - 16 * k) := by rw [piece, List.length_take, List.length_drop]
theorem gb_piece (l : List UInt8) (k i : Nat) (h : i < 16) : gb (piece l k) i = gb l (16 * k + i) := by rw [piece, Ghash.gb_take _ _ _ h, Ghash.gb_drop]
def mask (E x : List UInt8) : List UInt8 := (List.range x.length).map fun j => gb x j ^^^ gb E j
theorem mask_length (E x : List UInt8) : (mask E x).length = x.length := by simp [mask]
theorem gb_mask (E x : List UInt8) (j : Nat) (h : j < x.length) : gb (mask E x) j = gb x j ^^^ gb E j := by
  rw [gb, mask, List.getD, List.getElem?_map, List.getElem?_range h]; rfl
theorem mask_nil (E : List UInt8) : mask E [] = [] := rfl
theorem mask_snoc (E x : List UInt8) (k : Nat) (h : k < x.length) : mask E (x.take (k + 1)) = mask E (x.take k) ++ [gb x k ^^^ gb E k] := by
  refine gb_ext (by simp [mask_length]; omega) fun i hi => ?_
  rw [mask_length, List.length_take] at hi
  rw [gb_mask _ _ _ (by rw [List.length_take]; omega), Ghash.gb_take _ _ _ (by omega)]
  by_cases hk : i < k
  · rw [gb, gb, gb, List.getD, List.getD, List.getD, List.getElem?_append_left (by rw [mask_length, List.length_take]; omega)]
    have := gb_mask E (x.take k) i (by rw [List.length_take]; omega)
    rw [Ghash.gb_take _ _ _ hk] at this
    exact this.symm
  · obtain rfl : i = k := by omega
    have hl : (mask E (x.take i)).length = i := by rw [mask_length, List.length_take]; omega
    conv => rhs; rw [gb, List.getD, List.getElem?_append_right (by omega), hl, Nat.sub_self]
    rfl
/-- Pieces, the i-th of all and what follow, each with its block. -/
def mks [Inhabited Field.SqTab] (W : List UInt8) (R : Nat) (n l : List UInt8) : Nat → List Nat → List UInt8
  | _, [] => []
  | i, x :: xs => mask (enc W R (nb n (i + 2))) (piece l x) ++ mks W R n l (i + 1) xs
theorem mks_nil [Inhabited Field.SqTab] (W : List UInt8) (R : Nat) (n l : List UInt8) (i : Nat) : mks W R n l i [] = [] := rfl
theorem mks_snoc [Inhabited Field.SqTab] (W : List UInt8) (R : Nat) (n l : List UInt8) (x : Nat) : ∀ (pre : List Nat) (i : Nat), mks W R n l i (pre ++ [x]) = mks W R n l i pre ++ mask (enc W R (nb n (i + pre.length + 2))) (piece l x)
  | [], i => by simp [mks]
  | y :: pre, i => by
    rw [List.cons_append, mks, mks, mks_snoc W R n l x pre (i + 1), List.append_assoc, List.length_cons, show i + 1 + pre.length + 2 = i + (pre.length + 1) + 2 by omega]
theorem mks_length [Inhabited Field.SqTab] (W : List UInt8) (R : Nat) (n l : List UInt8) : ∀ (pre : List Nat) (i : Nat), (mks W R n l i pre).length ≤ 16 * pre.length
  | [], i => by simp [mks]
  | y :: pre, i => by
    have := mks_length W R n l pre (i + 1)
    rw [mks, List.length_append, mask_length, piece_length, List.length_cons]; omega
theorem stream_block [Inhabited Field.SqTab] (W : List UInt8) (R : Nat) (n l : List UInt8) (k : Nat) : stream W R n (l.take (16 * (k + 1))) = stream W R n (l.take (16 * k)) ++ mask (enc W R (nb n (k + 2))) (piece l k) := by
  refine gb_ext (by simp only [stream_length, List.length_append, mask_length, piece_length, List.length_take]; omega) fun i hi => ?_
  rw [stream_length, List.length_take] at hi
  rw [gb_stream _ _ _ _ _ (by rw [List.length_take]; omega), Ghash.gb_take _ _ _ (by omega)]
  by_cases hk : i < 16 * k
  · conv => rhs; rw [gb, List.getD, List.getElem?_append_left (by rw [stream_length, List.length_take]; omega)]
    have := gb_stream W R n (l.take (16 * k)) i (by rw [List.length_take]; omega)
    rw [Ghash.gb_take _ _ _ hk] at this
    exact this.symm
  · have hl : (stream W R n (l.take (16 * k))).length = 16 * k := by rw [stream_length, List.length_take]; omega
    conv => rhs; rw [gb, List.getD, List.getElem?_append_right (by omega), hl]
    have := gb_mask (enc W R (nb n (k + 2))) (piece l k) (i - 16 * k) (by rw [piece_length]; omega)
    rw [gb_piece _ _ _ (by omega), show 16 * k + (i - 16 * k) = i by omega] at this
    rw [sb_eq, show i / 16 = k by omega, show i % 16 = i - 16 * k by omega]
    exact this.symm
theorem mks_range [Inhabited Field.SqTab] (W : List UInt8) (R : Nat) (n l : List UInt8) (k : Nat) : mks W R n l 0 (List.range k) = stream W R n (l.take (16 * k)) := by
  induction k with
  | zero => rw [List.range_zero, mks_nil, Nat.mul_zero, List.take_zero, stream_nil]
  | succ k ih => rw [List.range_succ, mks_snoc, ih, stream_block, List.length_range, Nat.zero_add]
theorem mks_all [Inhabited Field.SqTab] (W : List UInt8) (R : Nat) (n l : List UInt8) (k : Nat) (h : l.length ≤ 16 * k) : mks W R n l 0 (List.range k) = stream W R n l := by
  rw [mks_range, List.take_of_length_le h]
attribute [irreducible] piece mask mks
end Go.Proofs.Ytmmpmncioifeoaa.Gcm
