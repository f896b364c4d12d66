/- The disk: its image. -/
import Derived.Test.YtfbdjjcnibgjnaaDskF
namespace Go.Proofs.Ytfbdjjcnibgjnaa.Disk
set_option linter.unusedVariables false
set_option linter.unusedSimpArgs false
open Go Go.RowKit Kit

theorem u8s_info : (Try.prog.info? 5).map (fun i => (i.zero, i.size, i.bytes)) = some (some (.int .u8 0), 1, 1) := by kernel_rfl
theorem flat_take (ls : List (List UInt8)) (k : Nat) (s : List UInt8) (h : ls[k]? = some s) : (ls.take (k + 1)).flatten = (ls.take k).flatten ++ s := by
  rw [List.take_add_one, h, List.flatten_append]; simp
theorem flat_count (ls : List (List UInt8)) (h : ∀ s ∈ ls, s.length = 256) : ls.flatten.length = ls.length * 256 := by
  induction ls with
  | nil => rfl
  | cons l ls ih => rw [List.flatten_cons, List.length_append, h l (by simp), ih (fun s hs => h s (by simp [hs])), List.length_cons, Nat.succ_mul, Nat.add_comm]
theorem image_length (D : Dk) (h : Ok D) : (image D).length = D.now.length * 256 := flat_count D.now h.now
set_option maxHeartbeats 4000000 in
set_option maxRecDepth 100000 in
theorem image_any (D : Dk) (g N S : Nat) (W : Option Addr) (cW : Nat) (w : World) (h : Cd w g N S W cW D) :
    Calls Try.prog 18 #[.pointer (some ⟨g, 0, none⟩)] w fun e w' => ∃ A c, e = .returned (.slice A (D.now.length * 256) c) ∧ Own 5 w' A (D.now.length * 256) c (bvs (image D)) ∧ Kp nob w w' ∧ ∀ k, ab A = some k → w.heap.size ≤ k := by
  have c0 := h.cells.1
  have HD := Lib.hid h
  obtain ⟨q, hq⟩ : ∃ q, q = D.now.length * 256 := ⟨_, rfl⟩
  have hmax := h.max
  have e1 : IntKind.i64.wrap ((D.now.length : Int) * 256) = (q : Int) := by rw [IntWalk.i64_in _ (by omega)]; omega
  have hmk := fun w => make_cap q (by omega) w
  have HM := Lib.hid hmax
  have hz := zsec_run
  obtain ⟨i0, hi, hz0, hz1, hz2⟩ := info_parts3 u8s_info
  have HI := Lib.hid (And.intro hi (And.intro hz0 (And.intro hz1 hz2)))
  have HQ := Lib.hid hq
  have ho : Own 5 (w.alloc (.cells (madeCells #[.int .u8 0] q) 5)) (some ⟨w.heap.size, 0, none⟩) 0 q [] := World.ownsRow_made w _ q (Nat.zero_le _) (by simp [maxLen]; omega) (by rw [size_madeCells]; omega)
  have HO := Lib.hid ho
  have k1 : Kp nob w (w.alloc (.cells (madeCells #[.int .u8 0] q) 5)) := (Kp.refl nob w).alloc _
  have HK1 := Lib.hid k1
  have c0' := (h.keep0 k1).cells.1
  rw [← hq]
  clear h hi hz0 hz1 hz2 hq ho k1
  go_enter Try.func18, Try.ntmps18
  go_wp2
  go_loopw [3, 20] (fun vb vi wr => ∃ (k : Nat) (A : Option Addr) (c : Nat), k ≤ D.now.length ∧ vi = .int .i64 k ∧ vb = .slice A (k * 256) c ∧ Own 5 wr A (k * 256) c (bvs (D.now.take k).flatten) ∧ Kp nob w wr ∧ ∀ j, ab A = some j → w.heap.size ≤ j)
    (fun _ vi _ => D.now.length - (intOf vi).toNat)
  case atStart => exact ⟨0, _, _, by omega, rfl, by rw [Nat.zero_mul], by rw [Nat.zero_mul, List.take_zero]; exact HO.out, HK1.out, fun j e => by cases e; exact Nat.le_refl _⟩
  case round =>
    obtain ⟨k, A, c, hk, rfl, rfl, ho, hkp, hf⟩ := hrel
    have HOr := Lib.hid ho; have HKr := Lib.hid hkp; have HF := Lib.hid hf
    clear ho hkp hf
    by_cases hlt : k < D.now.length
    · obtain ⟨s, hs⟩ : ∃ s, D.now[k]? = some s := ⟨_, List.getElem?_eq_getElem hlt⟩
      have HRG := Lib.hid (now_part (HD.out.keep0 HKr.out) k s hs)
      have HSL := Lib.hid (HD.out.ok.now s (List.mem_of_getElem? hs))
      have HSZ := Lib.hid (sec_size' s HSL.out)
      have HNX := Lib.hid (flat_take D.now k s hs)
      have HML := Lib.hid (show k * 256 + 256 ≤ 2000000 by have := HM.out; omega)
      clear hs
      go_wp2_with (first
        | (refine wpList_load_mid rfl 56 (.tmp 22) rfl N (k * 256) rfl (bvs s) _ HRG.out sec_under rfl HSZ.out ?_)
        | (refine wpList_store_blk rfl 56 (.tmp 5) (.tmp 23) rfl _ _ zsec (bvs s) (Blk.new _ _ _) rfl rfl (by rw [bvs_length, HSL.out, zsec_length]) HSZ.out (bvs_one _) ?_
           intro w3 hB3 k3 z3
           obtain ⟨g3, hg3⟩ : ∃ g3, g3 = wr.heap.size := ⟨_, rfl⟩
           rw [← hg3] at hB3 ⊢
           have HB3 := Lib.hid hB3
           have HK3 := Lib.hid (((Kp.refl nob wr).alloc _).since k3 (fun i e => Nat.le_of_eq e.symm))
           have HO3 := Lib.hid (HOr.out.keep HK3.out (fun _ _ e => e))
           clear hB3 k3 z3 hg3)
        | (at_builtin
           refine wpList_appR _ rfl (.tmp 24) (.tmp 25) 32 rfl 5 i0 (.int .u8 0) 1 u8s_under HI.out.1 HI.out.2.1 HI.out.2.2.1 HI.out.2.2.2 rfl A (k * 256) c (bvs (D.now.take k).flatten) rfl HO3.out (some ⟨g3, 0, none⟩) 256 256 (bvs s) rfl (fun e => by cases e) (by rw [bvs_length, HSL.out]) HB3.out.row (bvs_one _) (by have := HML.out; omega) (by have := HML.out; omega) ?_
           intro A4 c4 w4 o4 g4 a4
           have HO4 := Lib.hid o4
           have HK4 := Lib.hid ((HKr.out.trans HK3.out (fun _ e => e.elim)).grown g4 (fun j e => .inr (HF.out j e)))
           have HF4 : Hid (∀ j, ab A4 = some j → w.heap.size ≤ j) := Lib.hid (fun j e => by
             rcases a4 with h | h
             · exact HF.out j (by rw [← h]; exact e)
             · rw [h] at e; cases e; exact Nat.le_trans HKr.out.size HK3.out.size)
           clear o4 g4 a4))
      refine ⟨⟨k + 1, A4, c4, hlt, by go_num, by rw [Nat.succ_mul], ?_, HK4.out, HF4.out⟩, by simp [intOf]; omega⟩
      rw [HNX.out, bvs_append, Nat.succ_mul]
      exact HO4.out
    · obtain rfl : k = D.now.length := by omega
      clear hlt hk
      go_wp2
      go_ret
      have := HOr.out
      rw [List.take_length] at this
      have e := HQ.out
      subst e
      exact ⟨A, c, rfl, this, HKr.out, HF.out⟩
end Go.Proofs.Ytfbdjjcnibgjnaa.Disk
