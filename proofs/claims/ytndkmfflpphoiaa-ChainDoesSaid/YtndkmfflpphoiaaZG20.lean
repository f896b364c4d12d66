/- Lemmas: DskF DskG. -/
import Derived.Test.YtndkmfflpphoiaaZG06
set_option linter.unusedVariables false
set_option linter.unusedSimpArgs false
namespace Go.Proofs.Ytndkmfflpphoiaa.Disk
open Go Go.RowKit Kit
set_option maxHeartbeats 2000000 in
set_option maxRecDepth 100000 in
theorem read_no (D : Dk) (i : Int) (g N S : Nat) (W : Option Addr) (cW : Nat) (w : World) (h : Cd w g N S W cW D) (hno : may E8 D i ≠ 0) :
    Calls Try.prog 32 #[.pointer (some ⟨g, 0, none⟩), .int .i64 i] w fun e w' => e = .returned (.tuple #[.slice none 0 0, .int .i64 (may E8 D i)]) ∧ Kp nob w w' := by
  have HR := Lib.hid (refused_any D g N S W cW w h)
  have HA := Lib.hid (has_any D i g N S W cW w h)
  clear h
  cases ho : D.off with
  | true =>
    rw [ho] at HR
    have HW := Lib.hid (show may E8 D i = 8 by rw [may, if_pos ho]; rfl)
    rw [HW.out]
    clear ho hno
    go_enter Try.func32, Try.ntmps32
    go_wp2_with fail
    refine HR.out.mono ?_
    rintro e w1 ⟨rfl, rfl⟩
    go_wp2
    go_ret2
    exact ⟨rfl, Kp.refl _ _⟩
  | false =>
    rw [ho] at HR
    have h1 : i < 0 ∨ (D.now.length : Int) ≤ i := by
      by_cases h1 : i < 0 ∨ (D.now.length : Int) ≤ i
      · exact h1
      · exact absurd (by rw [may, if_neg (by rw [ho]; decide), if_neg h1]; rfl) hno
    have HW := Lib.hid (show may E8 D i = 1 by rw [may, if_neg (by rw [ho]; decide), if_pos h1]; rfl)
    rw [has_not D i h1] at HA
    rw [HW.out]
    clear ho hno h1
    go_enter Try.func32, Try.ntmps32
    go_wp2_with fail
    refine HR.out.mono ?_
    rintro e w1 ⟨rfl, rfl⟩
    go_wp2_with fail
    refine HA.out.mono ?_
    rintro e w2 ⟨rfl, rfl⟩
    go_wp2
    go_ret2
    exact ⟨rfl, Kp.refl _ _⟩
theorem now_part {w : World} {g N S : Nat} {W : Option Addr} {cW : Nat} {D : Dk} (h : Cd w g N S W cW D) (p : Nat) (s : List UInt8) (hs : D.now[p]? = some s) : w.rangeAt N (p * 256) (bvs s) :=
  h.now.part _ _ (fun j u hu => fm_part D.now (k := 256) (f := bvs) (fun a ha => by rw [bvs_length, h.ok.now a ha]) p s hs j u hu)
set_option maxHeartbeats 2000000 in
set_option maxRecDepth 100000 in
theorem read_yes (D : Dk) (p : Nat) (s : List UInt8) (g N S : Nat) (W : Option Addr) (cW : Nat) (w : World) (h : Cd w g N S W cW D) (ho : D.off = false) (hs : D.now[p]? = some s) :
    Calls Try.prog 32 #[.pointer (some ⟨g, 0, none⟩), .int .i64 (p : Int)] w fun e w' => ∃ k, e = .returned (.tuple #[.slice (some ⟨k, 0, none⟩) 256 256, .int .i64 0]) ∧ Blk w' k 86 (bvs s) ∧ Kp nob w w' ∧ w.heap.size ≤ k := by
  have hp : p < D.now.length := (List.getElem?_eq_some_iff.1 hs).1
  have HR := Lib.hid (refused_any D g N S W cW w h)
  rw [ho] at HR
  have HA := Lib.hid (has_any D p g N S W cW w h)
  rw [has_of D p hp] at HA
  have HSL := Lib.hid (h.ok.now s (List.mem_of_getElem? hs))
  have HSZ := Lib.hid (sec_size' s HSL.out)
  have HRG := Lib.hid (now_part h p s hs)
  have c0 := h.cells.1
  have hz := zsec_run
  clear h ho hs
  go_enter Try.func32, Try.ntmps32
  go_wp2_with fail
  refine HR.out.mono ?_
  rintro e w1 ⟨rfl, rfl⟩
  go_wp2_with fail
  refine HA.out.mono ?_
  rintro e w2 ⟨rfl, rfl⟩
  go_wp2_with (first
    | (refine wpList_load_mid rfl 86 (.tmp 22) rfl N (p * 256) rfl (bvs s) _ HRG.out sec_under rfl HSZ.out ?_)
    | (refine wpList_store_blk rfl 86 (.tmp 7) (.tmp 23) rfl _ _ zsec (bvs s) (Blk.new _ _ _) rfl rfl (by rw [bvs_length, HSL.out, zsec_length]) HSZ.out (bvs_one _) ?_
       intro w3 hB3 k3 z3
       have HB3 := Lib.hid hB3
       have HK3 := Lib.hid (((Kp.refl nob w).alloc _).since k3 (fun i e => Nat.le_of_eq e.symm))
       clear hB3 k3 z3))
  go_ret2
  exact ⟨w.heap.size, rfl, HB3.out, HK3.out, Nat.le_refl _⟩
set_option maxHeartbeats 2000000 in
set_option maxRecDepth 100000 in
theorem sync_any (D : Dk) (g N S : Nat) (W : Option Addr) (cW : Nat) (w : World) (h : Cd w g N S W cW D) (hw : D.waits.length ≤ 100000) (ha : D.acts ≤ 1000000000000) (hf : D.fuse ≤ 9223372036854775807) (hk : D.keep < 18446744073709551616) :
    Calls Try.prog 19 #[.pointer (some ⟨g, 0, none⟩)] w fun e w' => e = .returned (.int .i64 (sync E8 D).2) ∧ Dz w g N S W (sync E8 D).1 w' := by
  have HR := Lib.hid (refused_any D g N S W cW w h)
  have HA := Lib.hid (actw_any D g N S W cW w h hw ha hf hk)
  have HD := Lib.hid h
  have HW := Lib.hid hw
  clear h hw ha hf hk
  cases ho : D.off with
  | true =>
    rw [ho] at HR
    have HS := Lib.hid (show sync E8 D = (D, 8) by rw [sync, if_pos ho]; rfl)
    rw [HS.out]
    clear ho
    go_enter Try.func19, Try.ntmps19
    go_wp2_with fail
    refine HR.out.mono ?_
    rintro e w1 ⟨rfl, rfl⟩
    go_wp2
    go_ret
    exact ⟨rfl, HD.out.self⟩
  | false =>
    rw [ho] at HR
    cases hg : (act D).2 with
    | true =>
      have HS := Lib.hid (show sync E8 D = (lose (act D).1 D.keep, 8) by rw [sync, if_neg (by rw [ho]; decide), if_pos hg]; rfl)
      rw [HS.out]
      rw [show acted D = (lose (act D).1 D.keep, 8) by rw [acted, if_pos hg]] at HA
      clear ho hg
      go_enter Try.func19, Try.ntmps19
      go_wp2_with fail
      refine HR.out.mono ?_
      rintro e w1 ⟨rfl, rfl⟩
      go_wp2_with fail
      refine HA.out.mono ?_
      rintro e w2 ⟨rfl, h2⟩
      have H2 := Lib.hid h2
      clear h2
      go_wp2
      go_ret
      exact ⟨rfl, H2.out⟩
    | false =>
      have HS := Lib.hid (show sync E8 D = ({ (act D).1 with safe := D.now, waits := [] }, 0) by rw [sync, if_neg (by rw [ho]; decide), if_neg (by rw [hg]; decide)]; rfl)
      rw [HS.out]
      rw [show acted D = ((act D).1, 0) by rw [acted, if_neg (by rw [hg]; decide)]] at HA
      have HO := Lib.hid (act_on D ho)
      clear ho hg
      go_enter Try.func19, Try.ntmps19
      go_wp2_with fail
      refine HR.out.mono ?_
      rintro e w1 ⟨rfl, rfl⟩
      go_wp2_with fail
      refine HA.out.mono ?_
      rintro e w2 ⟨rfl, W2, c2, h2, k2, n2⟩
      have H2 := Lib.hid h2; have K2 := Lib.hid k2; have N2 := Lib.hid n2
      clear h2 k2 n2
      go_wp2_with fail
      refine (settle_any (act D).1 18446744073709551615 g N S W2 c2 w2 H2.out (by rw [act_length]; exact HW.out) (by decide)).mono ?_
      rintro e w3 ⟨rfl, h3, k3⟩
      have H3 := Lib.hid h3; have K3 := Lib.hid k3
      clear h3 k3
      go_wp2
      go_ret
      refine ⟨rfl, none, 0, ?_, K2.out.trans K3.out (fun i e => Dz.df (w2 := w) N2.out i e), fun k e => by cases e⟩
      have := H3.out
      rw [over_all, ← H2.out.al] at this
      rw [HO.out] at this ⊢
      exact this
theorem make_cap (n : Nat) (hn : n ≤ 1048576) (w : World) : (Instr.makeSlice 36 (.int .i64 0) (.int .i64 (n : Int))).run Try.prog w = .ok (.slice (some ⟨w.heap.size, 0, none⟩) 0 n) (w.alloc (.cells (madeCells #[.int .u8 0] n) 5)) := by
  obtain ⟨i0, hi, hz0, hz1, hz2⟩ := info_parts3 (show (Try.prog.info? 5).map (fun i => (i.zero, i.size, i.bytes)) = some (some (.int .u8 0), 1, 1) by kernel_rfl)
  have hr := run_make (P := Try.prog) w 36 5 i0 (.int .u8 0) u8s_under hi hz0 .i64 .i64 0 n (by omega) (by omega) (by rw [hz2]; omega) (by omega)
  simpa [hz1, Value.cells] using hr
theorem u8s_info : (Try.prog.info? 5).map (fun i => (i.zero, i.size, i.bytes)) = some (some (.int .u8 0), 1, 1) := by kernel_rfl
theorem flat_take (ls : List (List UInt8)) (k : Nat) (s : List UInt8) (h : ls[k]? = some s) : (ls.take (k + 1)).flatten = (ls.take k).flatten ++ s := by
  rw [List.take_add_one, h, List.flatten_append]; simp
theorem flat_count (ls : List (List UInt8)) (h : ∀ s ∈ ls, s.length = 256) : ls.flatten.length = ls.length * 256 := by
  induction ls with
  | nil => rfl
  | cons l ls ih => rw [List.flatten_cons, List.length_append, h l (by simp), ih (fun s hs => h s (by simp [hs])), List.length_cons, Nat.succ_mul, Nat.add_comm]
theorem image_length (D : Dk) (h : Ok D) : (image D).length = D.now.length * 256 := flat_count D.now h.now
set_option maxHeartbeats 4000000 in
set_option maxRecDepth 100000 in
theorem image_any (D : Dk) (g N S : Nat) (W : Option Addr) (cW : Nat) (w : World) (h : Cd w g N S W cW D) :
    Calls Try.prog 30 #[.pointer (some ⟨g, 0, none⟩)] w fun e w' => ∃ A c, e = .returned (.slice A (D.now.length * 256) c) ∧ Own 5 w' A (D.now.length * 256) c (bvs (image D)) ∧ Kp nob w w' ∧ ∀ k, ab A = some k → w.heap.size ≤ k := by
  have c0 := h.cells.1
  have HD := Lib.hid h
  obtain ⟨q, hq⟩ : ∃ q, q = D.now.length * 256 := ⟨_, rfl⟩
  have hmax := h.max
  have e1 : IntKind.i64.wrap ((D.now.length : Int) * 256) = (q : Int) := by rw [IntWalk.i64_in _ (by omega)]; omega
  have hmk := fun w => make_cap q (by omega) w
  have HM := Lib.hid hmax
  have hz := zsec_run
  obtain ⟨i0, hi, hz0, hz1, hz2⟩ := info_parts3 u8s_info
  have HI := Lib.hid (And.intro hi (And.intro hz0 (And.intro hz1 hz2)))
  have HQ := Lib.hid hq
  have ho : Own 5 (w.alloc (.cells (madeCells #[.int .u8 0] q) 5)) (some ⟨w.heap.size, 0, none⟩) 0 q [] := World.ownsRow_made w _ q (Nat.zero_le _) (by simp [maxLen]; omega) (by rw [size_madeCells]; omega)
  have HO := Lib.hid ho
  have k1 : Kp nob w (w.alloc (.cells (madeCells #[.int .u8 0] q) 5)) := (Kp.refl nob w).alloc _
  have HK1 := Lib.hid k1
  have c0' := (h.keep0 k1).cells.1
  rw [← hq]
  clear h hi hz0 hz1 hz2 hq ho k1
  go_enter Try.func30, Try.ntmps30
  go_wp2
  go_loopw [3, 20] (fun vb vi wr => ∃ (k : Nat) (A : Option Addr) (c : Nat), k ≤ D.now.length ∧ vi = .int .i64 k ∧ vb = .slice A (k * 256) c ∧ Own 5 wr A (k * 256) c (bvs (D.now.take k).flatten) ∧ Kp nob w wr ∧ ∀ j, ab A = some j → w.heap.size ≤ j)
    (fun _ vi _ => D.now.length - (intOf vi).toNat)
  case atStart => exact ⟨0, _, _, by omega, rfl, by rw [Nat.zero_mul], by rw [Nat.zero_mul, List.take_zero]; exact HO.out, HK1.out, fun j e => by cases e; exact Nat.le_refl _⟩
  case round =>
    obtain ⟨k, A, c, hk, rfl, rfl, ho, hkp, hf⟩ := hrel
    have HOr := Lib.hid ho; have HKr := Lib.hid hkp; have HF := Lib.hid hf
    clear ho hkp hf
    by_cases hlt : k < D.now.length
    · obtain ⟨s, hs⟩ : ∃ s, D.now[k]? = some s := ⟨_, List.getElem?_eq_getElem hlt⟩
      have HRG := Lib.hid (now_part (HD.out.keep0 HKr.out) k s hs)
      have HSL := Lib.hid (HD.out.ok.now s (List.mem_of_getElem? hs))
      have HSZ := Lib.hid (sec_size' s HSL.out)
      have HNX := Lib.hid (flat_take D.now k s hs)
      have HML := Lib.hid (show k * 256 + 256 ≤ 2000000 by have := HM.out; omega)
      clear hs
      go_wp2_with (first
        | (refine wpList_load_mid rfl 86 (.tmp 22) rfl N (k * 256) rfl (bvs s) _ HRG.out sec_under rfl HSZ.out ?_)
        | (refine wpList_store_blk rfl 86 (.tmp 5) (.tmp 23) rfl _ _ zsec (bvs s) (Blk.new _ _ _) rfl rfl (by rw [bvs_length, HSL.out, zsec_length]) HSZ.out (bvs_one _) ?_
           intro w3 hB3 k3 z3
           obtain ⟨g3, hg3⟩ : ∃ g3, g3 = wr.heap.size := ⟨_, rfl⟩
           rw [← hg3] at hB3 ⊢
           have HB3 := Lib.hid hB3
           have HK3 := Lib.hid (((Kp.refl nob wr).alloc _).since k3 (fun i e => Nat.le_of_eq e.symm))
           have HO3 := Lib.hid (HOr.out.keep HK3.out (fun _ _ e => e))
           clear hB3 k3 z3 hg3)
        | (at_builtin
           refine wpList_appR _ rfl (.tmp 24) (.tmp 25) 36 rfl 5 i0 (.int .u8 0) 1 u8s_under HI.out.1 HI.out.2.1 HI.out.2.2.1 HI.out.2.2.2 rfl A (k * 256) c (bvs (D.now.take k).flatten) rfl HO3.out (some ⟨g3, 0, none⟩) 256 256 (bvs s) rfl (fun e => by cases e) (by rw [bvs_length, HSL.out]) HB3.out.row (bvs_one _) (by have := HML.out; omega) (by have := HML.out; omega) ?_
           intro A4 c4 w4 o4 g4 a4
           have HO4 := Lib.hid o4
           have HK4 := Lib.hid ((HKr.out.trans HK3.out (fun _ e => e.elim)).grown g4 (fun j e => .inr (HF.out j e)))
           have HF4 : Hid (∀ j, ab A4 = some j → w.heap.size ≤ j) := Lib.hid (fun j e => by
             rcases a4 with h | h
             · exact HF.out j (by rw [← h]; exact e)
             · rw [h] at e; cases e; exact Nat.le_trans HKr.out.size HK3.out.size)
           clear o4 g4 a4))
      refine ⟨⟨k + 1, A4, c4, hlt, by go_num, by rw [Nat.succ_mul], ?_, HK4.out, HF4.out⟩, by simp [intOf]; omega⟩
      rw [HNX.out, bvs_append, Nat.succ_mul]
      exact HO4.out
    · obtain rfl : k = D.now.length := by omega
      clear hlt hk
      go_wp2
      go_ret
      have := HOr.out
      rw [List.take_length] at this
      have e := HQ.out
      subst e
      exact ⟨A, c, rfl, this, HKr.out, HF.out⟩
end Go.Proofs.Ytndkmfflpphoiaa.Disk
