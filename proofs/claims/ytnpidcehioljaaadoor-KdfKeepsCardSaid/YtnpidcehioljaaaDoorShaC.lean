/- Contracts of package sha: a piece taken in; the end. -/
import Derived.Test.YtnpidcehioljaaaDoorShaB
import Derived.Deep.RegionLaw
namespace Go.Proofs.YtnpidcehioljaaaDoor.Sha
open Go Go.RowKit Kit

theorem u8s_under : Tryd.prog.underlying 22 = some (.slice 5) := by kernel_rfl
theorem cells_splice (s : St) (blk cs : List UInt8) (u : Nat) (v : Value) (h : u + cs.length ≤ blk.length) :
    splice (uvs s.list ++ bvs blk ++ [v]) (8 + u) (bvs cs) = uvs s.list ++ bvs (splice blk u cs) ++ [v] := by
  have h8 : (uvs s.list).length = 8 := rfl
  unfold splice
  simp only [bvs_append, List.append_assoc]
  rw [List.take_append, List.take_of_length_le (by omega), h8, Nat.add_sub_cancel_left, List.take_append_of_le_length (by simp; omega), List.append_assoc]
  congr 2
  · simp [bvs]
  · congr 1
    rw [List.drop_append, List.drop_eq_nil_of_le (by rw [h8]; omega), h8, show 8 + u + (bvs cs).length - 8 = u + cs.length by simp; omega, List.nil_append, List.drop_append_of_le_length (by simp; omega)]
    simp [bvs]
theorem cells_size (s : St) (blk : List UInt8) (v v' : Value) (h : blk.length = 64) : (uvs s.list ++ bvs blk ++ [v]).set 72 v' = uvs s.list ++ bvs blk ++ [v'] := by
  rw [List.set_append_right _ _ (by simp [St.list, h])]; simp [St.list, h]

/-- The Hash at block b has taken l in. -/
def Has (w : World) (b : Nat) (l : List UInt8) : Prop := ∃ s blk, Taken l s blk ∧ IsH w b s blk l.length
theorem Has.lt {w : World} {b : Nat} {l : List UInt8} (h : Has w b l) : b < w.heap.size := by obtain ⟨s, blk, _, h⟩ := h; exact h.lt
theorem Has.keep {F : Nat → Prop} {w w' : World} {b : Nat} {l : List UInt8} (h : Has w b l) (hk : Kp F w w') (hf : ¬ F b) : Has w' b l := by
  obtain ⟨s, blk, h1, h2⟩ := h; exact ⟨s, blk, h1, h2.keep hk hf⟩

theorem slice_block (b u : Nat) (hu : u < 64) (w : World) : (Instr.sliceAt 48 (.pointer (some ⟨b, 8, none⟩)) (some (.int .i64 u)) none none).run Tryd.prog w = .ok (.slice (some ⟨b, 8 + u, none⟩) (64 - u) (64 - u)) w := by
  have ha : Tryd.prog.underlying 48 = some (.array (Tryd.prog.arrayLen 48) (Tryd.prog.elem 48)) := by kernel_rfl
  have hl : Tryd.prog.arrayLen 48 = 64 := by kernel_rfl
  have he : Tryd.prog.elem 48 = 5 := by kernel_rfl
  have hz : ∀ w, (sizeOf 5).run Tryd.prog w = .ok 1 w := fun _ => by kernel_rfl
  rw [run_sliceAt_array_l w _ _ ha _ _ (by omega) (by rw [hl]; omega), hl, he, hz]
  simp [Result.andThen, slicedAt, show ¬ 64 = u by omega, Addr.add]

set_option maxHeartbeats 1000000 in
theorem take_any (b : Nat) (l : List UInt8) (A : Option Addr) (m c : Nat) (ml : List UInt8) (w : World) (h : Has w b l) (ht : Tabs w) (hb : Far b) (hm : ml.length = m) (hr : Row w A (bvs ml)) (hA : ml = [] ∨ ∀ k, ab A = some k → k ≠ b) (hc : m ≤ c) (hc2 : c ≤ maxLen) (hl : l.length + m ≤ 1099511627776) :
    Calls Tryd.prog 27 #[.pointer (some ⟨b, 0, none⟩), .slice A m c] w fun e w' => e = .returned (.tuple #[]) ∧ Has w' b (l ++ ml) ∧ Kp (oneB b) w w' := by
  unfold maxLen at hc2
  go_enter Tryd.func27, Tryd.ntmps27
  go_wp2
  go_loopw [1] (fun p wr => ∃ (k : Nat) (A' : Option Addr) (c' : Nat), k ≤ m ∧ p = .slice A' (m - k : Nat) c' ∧ m - k ≤ c' ∧ c' ≤ 9223372036854775807 ∧ Has wr b (l ++ ml.take k) ∧ Kp (oneB b) w wr ∧ Row wr A' (bvs (ml.drop k)) ∧ (ml = [] ∨ ∀ j, ab A' = some j → j ≠ b))
    (fun p _ => match p with | .slice _ n _ => n | _ => 0)
  case atStart => exact ⟨0, A, c, by omega, by simp, by omega, hc2, by simpa using h, Kp.refl _ _, by simpa using hr, hA⟩
  case round =>
    obtain ⟨k, A', c', hk, rfl, hcc, hcc2, hh, hkp, hrow, hA'⟩ := hrel
    obtain ⟨N, hN⟩ : ∃ N, N = (l ++ ml.take k).length := ⟨_, rfl⟩
    have hN2 : N = l.length + k := by rw [hN, List.length_append, List.length_take, hm, Nat.min_eq_left hk]
    by_cases hlt : k < m
    · replace hA' := hA'.resolve_left (fun e => by rw [e] at hm; simp at hm; omega)
      obtain ⟨s, blk, htk, hish⟩ := hh
      rw [← hN] at hish
      have hsz := hish.size
      have hfz : wr.frozen? ⟨b, 72, none⟩ = false := hish.2.frozen _
      have hbl := hish.1
      obtain ⟨R, hR⟩ : ∃ R, R = m - k := ⟨_, rfl⟩
      rw [← hR] at hcc ⊢
      obtain ⟨u, hu⟩ : ∃ u, u = N % 64 := ⟨_, rfl⟩
      have hu1 : u < 64 := by omega
      have hu2 : u ≤ 64 := by omega
      have hu3 : ¬ (64 = u) := by omega
      have hum : ((N : Int).tmod 64) = (u : Int) := by rw [Int.tmod_eq_emod_of_nonneg (by omega)]; omega
      have hsl := slice_block b u hu1
      have hB := Lib.hid hish.2
      have HN := Lib.hid hN
      have HU := Lib.hid hu
      have HR := Lib.hid hR
      have HH := Lib.hid htk
      have HI := Lib.hid hish
      have hR1 : 0 < R := by omega
      obtain ⟨cs, hcs⟩ : ∃ cs, cs = (ml.drop k).take (64 - u) := ⟨_, rfl⟩
      have hcl : (bvs cs).length = Nat.min R (64 - u) := by rw [bvs_length, hcs, List.length_take, List.length_drop, hm, hR, Nat.min_comm]
      have hfit : 8 + u + (bvs cs).length ≤ (uvs s.list ++ bvs blk ++ [Value.int .i64 N]).length := by
        rw [hcl]; have : Nat.min R (64 - u) ≤ 64 - u := Nat.min_le_right R (64 - u); simp [St.list, hbl]; omega
      have hrc : Row wr A' (bvs cs) := by
        have := hrow.take (64 - u)
        rwa [bvs, ← List.map_take, ← hcs] at this
      have hcl2 : cs.length = min R (64 - u) := by rw [← bvs_length, hcl]
      obtain ⟨r, hr2⟩ : ∃ r, r = cs.length := ⟨_, rfl⟩
      have hr0 : 0 < r := by omega
      have hr1 : r ≤ R := by omega
      have hr3 : u + r ≤ 64 := by omega
      have HCL := Lib.hid hcl; have HF := Lib.hid hfit; have HRC := Lib.hid (hrc.keep0 (Kp.refl nob _).drew)
      have HCS := Lib.hid hcs; have HR2 := Lib.hid hr2; have HM := Lib.hid hm
      clear hN hN2 hu hR htk hish hm hk hcs hcl hfit hrc hcl2 hr2
      go_wp2
      go_region_law (first | (refine step_copy_blk rfl (.tmp 16) (.tmp 17) 22 22 rfl 5 u8s_under (by kernel_rfl) b (8 + u) _ _ _ _ _ _ rfl rfl _ _ hB.out (bvs cs) HCL.out (fun _ => rfl) HRC.out HF.out (bvs_one _) ?_; rw [bvs_length, ← HR2.out]; intro w2 hB2 k2 z2))
      rw [cells_splice s blk cs u _ (by rw [← HR2.out]; omega)] at hB2
      have hbl2 : (splice blk u cs).length = 64 := by rw [length_splice _ _ _ (by rw [← HR2.out]; omega), hbl]
      have hI2 : IsH w2 b s (splice blk u cs) N := ⟨hbl2, hB2⟩
      have hsz2 := hI2.size
      have hfz2 : w2.frozen? ⟨b, 72, none⟩ = false := hB2.frozen _
      have HI2 := Lib.hid hI2; have Z2 := Lib.hid z2; have HBL2 := Lib.hid hbl2
      clear hI2 hB2 z2 hbl2 hsz hfz hsl hum
      have hNr : (N : Int) + r ≤ 9223372036854775807 := by have := HN.out; rw [List.length_append, List.length_take] at this; omega
      have hcut : ∀ wx, (Instr.slice 22 (.slice A' R c') (some (.int .i64 r)) none none).run Tryd.prog wx = .ok (.slice (cutA A' c' r) (R - r) (c' - r)) wx := run_slice_from _ _ u8s_under (fun _ => by kernel_rfl) A' R c' r hr1
      have HG : Hid (∀ j, ab (cutA A' c' r) = some j → j ≠ b) := Lib.hid (by rw [ab_cut]; exact hA')
      have HRW : Hid (Row wr (cutA A' c' r) (bvs (ml.drop (k + r)))) := Lib.hid (by
        have := hrow.cut (c := c') (k := r) (by rw [bvs_length, List.length_drop, HM.out, ← HR.out]; omega)
        rwa [bvs, ← List.map_drop, List.drop_drop] at this)
      have HTK : Hid (l ++ ml.take (k + r) = l ++ ml.take k ++ cs) := Lib.hid (by
        rw [HCS.out, List.append_assoc, List.take_add]
        congr 2
        apply List.take_eq_take_iff.2
        have := HR2.out; rw [HCS.out, List.length_take] at this; rw [List.length_drop] at *; omega)
      generalize cutA A' c' r = A2 at hcut HG HRW
      obtain ⟨R2, hR2⟩ : ∃ x, x = R - r := ⟨_, rfl⟩
      obtain ⟨c2, hc2'⟩ : ∃ x, x = c' - r := ⟨_, rfl⟩
      rw [← hR2, ← hc2'] at hcut
      have HRR := Lib.hid hR2; have HC2 := Lib.hid hc2'
      clear hR2 hc2'
      have hz2 : w2.frozen? ⟨b, 72, none⟩ = false := hfz2
      have hI3 : Hid (IsH (w2.setCell ⟨b, 72, none⟩ (.int .i64 ((N : Int) + r))) b s (splice blk u cs) (N + r)) := Lib.hid ⟨HBL2.out, by
        have := HI2.out.2.set_ 72 (.int .i64 ((N : Int) + r))
        rw [cells_size _ _ _ _ HBL2.out] at this
        simpa using this⟩
      have K3 : Kp (oneB b) w (w2.setCell ⟨b, 72, none⟩ (.int .i64 ((N : Int) + r))) := (hkp.drew.trans k2 (fun _ e => .inl e)).setCell (p := ⟨b, 72, none⟩) (.inl rfl) _
      have T3 := ht.keep K3 (fun k e => by cases e; exact hb)
      have R3 : Row (w2.setCell ⟨b, 72, none⟩ (.int .i64 ((N : Int) + r))) A2 (bvs (ml.drop (k + r))) := HRW.out.keep (F := oneB b) (((Kp.refl _ wr).drew.trans k2 (fun _ e => .inl e)).setCell (p := ⟨b, 72, none⟩) (.inl rfl) _) (fun j e e' => HG.out j e e')
      have hlen : (l ++ ml.take k).length = N := HN.out.symm
      have HLEN := Lib.hid hlen; clear hlen
      by_cases hfull : u + r = 64
      · have hmod : (((N : Int) + r) % 64 == 0) = true := by rw [beq_iff_eq]; have := HU.out; omega
        have HFU := Lib.hid hfull; clear hfull
        go_wp2_with fail
        refine (mix_any b s _ _ _ hI3.out T3).mono ?_
        rintro e w4 ⟨rfl, hI4, k4⟩
        have hT : Taken (l ++ ml.take k ++ cs) (next s (splice blk u cs)) (splice blk u cs) := by
          have := HH.out.full (cs := cs) (by have := HLEN.out; have := HU.out; have := HFU.out; have := HR2.out; omega)
          rwa [HLEN.out, ← HU.out] at this
        have hfin : Hid (Has w4 b (l ++ ml.take (k + r))) := Lib.hid (by
          rw [HTK.out]
          exact ⟨_, _, hT, by rw [List.length_append, HLEN.out, ← HR2.out]; exact hI4⟩)
        clear hI4 hT
        go_wp2
        refine ⟨⟨k + r, A2, c2, ?_, ?_, ?_, ?_, hfin.out, K3.trans k4 (fun _ e => .inl e), R3.keep k4 (fun j e e' => HG.out j e e'), .inr HG.out⟩, ?_⟩
        · have := HR.out; omega
        · rw [show m - (k + r) = R2 by have := HR.out; have := HRR.out; omega]
        · have := HR.out; have := HC2.out; omega
        · have := HC2.out; omega
        · show R2 < R; have := HRR.out; omega
      · have hmod : (((N : Int) + r) % 64 == 0) = false := by rw [beq_eq_false_iff_ne]; have := HU.out; omega
        have hT : Taken (l ++ ml.take k ++ cs) s (splice blk u cs) := by
          have := HH.out.more (cs := cs) (by have := HLEN.out; have := HU.out; have := HR2.out; omega)
          rwa [HLEN.out, ← HU.out] at this
        have hfin : Hid (Has (w2.setCell ⟨b, 72, none⟩ (.int .i64 ((N : Int) + r))) b (l ++ ml.take (k + r))) := Lib.hid (by
          rw [HTK.out]
          exact ⟨_, _, hT, by rw [List.length_append, HLEN.out, ← HR2.out]; exact hI3.out⟩)
        clear hT
        go_wp2
        refine ⟨⟨k + r, A2, c2, ?_, ?_, ?_, ?_, hfin.out, K3, R3, .inr HG.out⟩, ?_⟩
        · have := HR.out; omega
        · rw [show m - (k + r) = R2 by have := HR.out; have := HRR.out; omega]
        · have := HR.out; have := HC2.out; omega
        · have := HC2.out; omega
        · show R2 < R; have := HRR.out; omega
    · obtain rfl : k = m := by omega
      have hfin : Has wr b (l ++ ml) := by rwa [List.take_of_length_le (by omega)] at hh
      have hz : k - k = 0 := by omega
      clear hN hN2
      go_wp2
      go_end0
      exact ⟨rfl, hfin, hkp⟩
end Go.Proofs.YtnpidcehioljaaaDoor.Sha
