/- Contracts of package sha: the end, the digest, the calls. -/
import Derived.Test.YtnpidcehioljaaaDoorShaC
namespace Go.Proofs.YtnpidcehioljaaaDoor.Sha
open Go Go.RowKit Kit

theorem u8_zero : ∀ w, (zeroValue 5).run Tryd.prog w = .ok (.int .u8 0) w := fun _ => by kernel_rfl
theorem slice_block_i (b i : Nat) (hu : i ≤ 64) (w : World) : (Instr.sliceAt 48 (.pointer (some ⟨b, 8, none⟩)) (some (.int .i64 (i : Int))) none none).run Tryd.prog w = .ok (.slice (if 64 = i then some ⟨b, 8, none⟩ else some ⟨b, 8 + i, none⟩) (64 - i) (64 - i)) w := by
  have ha : Tryd.prog.underlying 48 = some (.array (Tryd.prog.arrayLen 48) (Tryd.prog.elem 48)) := by kernel_rfl
  have hl : Tryd.prog.arrayLen 48 = 64 := by kernel_rfl
  have he : Tryd.prog.elem 48 = 5 := by kernel_rfl
  have hz : ∀ w, (sizeOf 5).run Tryd.prog w = .ok 1 w := fun _ => by kernel_rfl
  rw [run_sliceAt_array_l w _ _ ha _ _ (by omega) (by rw [hl]; omega), hl, he, hz]
  simp only [Result.andThen, slicedAt, Int.toNat_natCast, Nat.mul_one, Addr.add_mid]
  by_cases h : 64 = i <;> simp [h]

/-- The block behind the first step of the end. -/
def ended (blk : List UInt8) (u : Nat) : List UInt8 := blk.take u ++ 128 :: List.replicate (63 - u) 0
theorem ended_length (blk : List UInt8) (u : Nat) (h : blk.length = 64) (hu : u < 64) : (ended blk u).length = 64 := by simp [ended]; omega
theorem ended_cells (s : St) (blk : List UInt8) (u : Nat) (v : Value) (h : blk.length = 64) (hu : u < 64) :
    splice ((uvs s.list ++ bvs blk ++ [v]).set (8 + u) (.int .u8 128)) (8 + (u + 1)) (List.replicate (63 - u) (.int .u8 0)) = uvs s.list ++ bvs (ended blk u) ++ [v] := by
  have e1 : (uvs s.list ++ bvs blk ++ [v]).set (8 + u) (.int .u8 128) = uvs s.list ++ bvs (blk.set u 128) ++ [v] := by
    rw [List.append_assoc, List.set_append_right _ _ (by simp [St.list]), List.set_append_left _ _ (by simp [St.list]; omega), ← List.append_assoc]
    congr 2
    rw [show 8 + u - (uvs s.list).length = u by simp [St.list], bvs, bvs, List.map_set]; rfl
  have e2 : List.replicate (63 - u) (Value.int .u8 0) = bvs (List.replicate (63 - u) 0) := by rw [bvs, List.map_replicate]; rfl
  rw [e1, e2, cells_splice _ _ _ _ _ (by simp; omega)]
  congr 3
  unfold splice ended
  rw [List.take_succ_eq_append_getElem (by simp; omega), List.take_set_of_le (Nat.le_refl _), List.drop_eq_nil_of_le (by simp; omega)]
  simp

theorem zeroed_cells (s : St) (blk : List UInt8) (v : Value) (h : blk.length = 64) :
    splice (uvs s.list ++ bvs blk ++ [v]) 8 (List.replicate 64 (.int .u8 0)) = uvs s.list ++ bvs (List.replicate 64 0) ++ [v] := by
  have e2 : List.replicate 64 (Value.int .u8 0) = bvs (List.replicate 64 0) := by rw [bvs, List.map_replicate]; rfl
  rw [e2]
  have := cells_splice s blk (List.replicate 64 0) 0 v (by simp; omega)
  rw [Nat.add_zero] at this
  rw [this]
  congr 3
  unfold splice
  rw [List.drop_eq_nil_of_le (by simp; omega)]
  simp
/-- A block, its last i bytes the count's. -/
def cnt (B : List UInt8) (n i : Nat) : List UInt8 := B.take (64 - i) ++ (le i (8 * n)).reverse
theorem cnt_zero (B : List UInt8) (n : Nat) (h : B.length = 64) : cnt B n 0 = B := by simp only [cnt, le, List.reverse_nil, List.append_nil, Nat.sub_zero]; exact List.take_of_length_le (by omega)
theorem cnt_succ (B : List UInt8) (n i : Nat) (h : B.length = 64) (hi : i < 8) : (cnt B n i).set (63 - i) (UInt8.ofNat (8 * n / 256 ^ i)) = cnt B n (i + 1) := by
  unfold cnt
  rw [List.set_append_left _ _ (by simp; omega), le_snoc, List.reverse_append, List.reverse_singleton, show 64 - i = 63 - i + 1 by omega, List.take_succ_eq_append_getElem (by omega), List.set_append_right _ _ (by simp; omega)]
  have e : (B.take (63 - i)).length = 63 - i := by simp; omega
  simp [e, show 64 - (i + 1) = 63 - i by omega]
theorem ended_take (blk : List UInt8) (u : Nat) (h : blk.length = 64) (hu : u ≤ 55) : (ended blk u).take (64 - 8) = blk.take u ++ 128 :: List.replicate (55 - u) 0 := by
  unfold ended
  rw [List.take_append, List.take_of_length_le (by simp; omega)]
  congr 1
  rw [show 64 - 8 - (blk.take u).length = (55 - u) + 1 by simp; omega, List.take_succ_cons, List.take_replicate, Nat.min_eq_left (by omega)]
theorem cntv (N i : Nat) (h : N ≤ 1099511627776) : IntKind.u64.wrap (8 * IntKind.u64.wrap (N : Int)) / 2 ^ (8 * i) % 256 = ((8 * N / 256 ^ i : Nat) : Int) % 256 := by
  rw [IntKind.wrap_u64, IntKind.wrap_u64]
  have e : (8 * ((N : Int) % 18446744073709551616)) % 18446744073709551616 = ((8 * N : Nat) : Int) := by omega
  rw [e, ← pow256]
  simp
theorem IsH.setb {w : World} {b : Nat} {s : St} {l : List UInt8} {n : Nat} (h : IsH w b s l n) (j : Nat) (x : UInt8) (hj : j < 64) : IsH (w.setCell ⟨b, 8 + j, none⟩ (bv x)) b s (l.set j x) n := by
  refine ⟨by rw [List.length_set]; exact h.1, ?_⟩
  have := h.2.set_ (8 + j) (bv x)
  have hl := h.1
  rw [List.append_assoc, List.set_append_right _ _ (by simp [St.list]), List.set_append_left _ _ (by simp [St.list]; omega), ← List.append_assoc, show 8 + j - (uvs s.list).length = j by simp [St.list], bvs, ← List.map_set] at this
  exact this
set_option maxHeartbeats 4000000 in
theorem end_any (b : Nat) (s : St) (l blk : List UInt8) (w : World) (h : IsH w b s blk l.length) (hT : Taken l s blk) (ht : Tabs w) (hb : Far b) (hl : l.length ≤ 1099511627776) :
    Calls Tryd.prog 33 #[.pointer (some ⟨b, 0, none⟩)] w fun e w' => e = .returned (.tuple #[]) ∧ (∃ blk' n, IsH w' b (run H0 (padded l) ((padded l).length / 64)) blk' n) ∧ Kp (oneB b) w w' := by
  obtain ⟨N, hN⟩ : ∃ N, N = l.length := ⟨_, rfl⟩
  rw [← hN] at h
  have hsz := h.size
  have hbl := h.1
  obtain ⟨u, hu⟩ : ∃ u, u = N % 64 := ⟨_, rfl⟩
  have hu1 : u < 64 := by omega
  have hum : ((N : Int).tmod 64) = (u : Int) := by rw [Int.tmod_eq_emod_of_nonneg (by omega)]; omega
  have hum2 : ((N : Int) % 64) = (u : Int) := by omega
  obtain ⟨x, hcu⟩ : ∃ x, w.cell? ⟨b, 8 + u, none⟩ = some (.int .u8 x) := ⟨_, h.block u _ (bvs_get (by omega))⟩
  have hfu : w.frozen? ⟨b, 8 + u, none⟩ = false := h.2.frozen _
  have H := Lib.hid h
  have hsl := slice_block_i b (u + 1) (by omega)
  have hsl0 := slice_block_i b 0 (by omega)
  have HN := Lib.hid hN; have HU := Lib.hid hu; have HBL := Lib.hid hbl; have HT := Lib.hid hT
  clear hN hu h hbl hT
  obtain ⟨Z, hZ, hZ2⟩ : ∃ Z, Z = (if 64 = u + 1 then some (⟨b, 8, none⟩ : Addr) else some ⟨b, 8 + (u + 1), none⟩) ∧ (0 < 63 - u → Z = some ⟨b, 8 + (u + 1), none⟩) := ⟨_, rfl, fun h => if_neg (by omega)⟩
  rw [← hZ] at hsl
  simp at hsl hsl0
  have HZ := Lib.hid hZ2; clear hZ hZ2
  by_cases hbig : 56 ≤ u
  · have hd : decide ((56 : Int) < (u : Int) + 1) = true := by simp; omega
    go_enter Tryd.func33, Tryd.ntmps33
    go_wp2_with (first
      | (refine wpList_clear_blk rfl (.tmp 21) 22 rfl 5 u8s_under _ u8_zero rfl rfl b (8 + (u + 1)) Z (63 - u) (63 - u) rfl _ 67 (H.out.2.set_ (8 + u) (.int .u8 128)) HZ.out (by simp [St.list, HBL.out]; omega) ?_
         rw [ended_cells s blk u _ HBL.out hu1]
         intro w2 hB2 k2 z2
         have I2 : Hid (IsH w2 b s (ended blk u) N) := Lib.hid ⟨ended_length blk u HBL.out hu1, hB2⟩
         have K2 : Kp (oneB b) w w2 := ((Kp.refl (oneB b) w).setCell (p := ⟨b, 8 + u, none⟩) (.inl rfl) _).trans k2 (fun _ e => .inl e)
         have T2 := Lib.hid (ht.keep K2 (fun k e => by cases e; exact hb))
         clear hB2 k2 z2)
      | (go_at_call 32
         refine (mix_any b s _ _ _ I2.out T2.out).mono ?_
         rintro e w3 ⟨rfl, hI3, k3⟩
         have I3 := Lib.hid hI3
         have K3 := K2.trans k3 (fun _ e => .inl e)
         clear hI3 k3)
      | (refine wpList_clear_blk rfl (.tmp 29) 22 rfl 5 u8s_under _ u8_zero rfl rfl b 8 (some ⟨b, 8, none⟩) 64 64 rfl _ 67 I3.out.2 (fun _ => rfl) (by simp [St.list, I3.out.1]) ?_
         rw [zeroed_cells _ _ _ I3.out.1]
         intro w4 hB4 k4 z4
         have hI4 : IsH w4 b (next s (ended blk u)) (List.replicate 64 0) N := ⟨by simp, hB4⟩
         have hsz4 := hI4.size
         have I4 := Lib.hid hI4
         have K4 := K3.trans k4 (fun _ e => .inl e)
         clear hI4 hB4 k4 z4))
    have HB4 : Hid ((List.replicate 64 (0 : UInt8)).length = 64) := Lib.hid (by simp)
    go_loopw [36] (fun vi wr => ∃ i : Nat, i ≤ 8 ∧ vi = .int .i64 i ∧ IsH wr b (next s (ended blk u)) (cnt (List.replicate 64 0) N i) N ∧ Kp (oneB b) w wr)
      (fun vi _ => 8 - (intOf vi).toNat)
    case atStart => exact ⟨0, by omega, rfl, by rw [cnt_zero _ _ I4.out.1]; exact I4.out, K4⟩
    case round =>
      obtain ⟨i, hi, rfl, hI, hK⟩ := hrel
      have HI := Lib.hid hI
      clear K4 hsz4
      by_cases hlt : i < 8
      · obtain ⟨j, hj⟩ : ∃ j, j = 63 - i := ⟨_, rfl⟩
        have hj1 : j < 64 := by omega
        have hji : IntKind.i64.wrap (63 - (i : Int)) = (j : Int) := by rw [IntWalk.i64_in _ (by omega)]; omega
        obtain ⟨y, hcj⟩ : ∃ y, wr.cell? ⟨b, 8 + j, none⟩ = some (.int .u8 y) := ⟨_, hI.block j _ (bvs_get (by rw [hI.1]; omega))⟩
        have hfj : wr.frozen? ⟨b, 8 + j, none⟩ = false := hI.2.frozen _
        have HJ := Lib.hid hj; clear hj hI
        go_wp2
        go_region
        go_wp2
        go_roundw
        case rel =>
          rw [cntv N i (by rw [HN.out]; exact hl), ← bv_ofNat]
          refine ⟨i + 1, by omega, by go_num, ?_, (hK.setCell (p := ⟨b, 8 + j, none⟩) (.inl rfl) _).drew⟩
          have := (HI.out.setb j (UInt8.ofNat (8 * N / 256 ^ i)) hj1).keep (Kp.refl nob _).drew (fun e => e)
          rw [HJ.out, cnt_succ _ _ _ HB4.out hlt, ← HJ.out] at this
          exact this
        case measure => simp [intOf]; omega
      · obtain rfl : i = 8 := by omega
        have hTb := ht.keep hK (fun k e => by cases e; exact hb)
        have hfin := Lib.hid (show next (next s (ended blk u)) (cnt (List.replicate 64 0) N 8) = run H0 (padded l) ((padded l).length / 64) by rw [HT.out.last2 (by rw [← HN.out, ← HU.out]; exact hbig), ← HN.out, ← HU.out]; simp [cnt, ended])
        go_wp2_with fail
        refine (mix_any b _ _ _ _ hI hTb).mono ?_
        rintro e w5 ⟨rfl, hI5, k5⟩
        rw [hfin.out] at hI5
        go_wp2
        go_end0
        exact ⟨rfl, ⟨_, _, hI5⟩, hK.trans k5 (fun _ e => .inl e)⟩
  · have hd : decide ((56 : Int) < (u : Int) + 1) = false := by simp; omega
    go_enter Tryd.func33, Tryd.ntmps33
    go_wp2_with (first
      | (refine wpList_clear_blk rfl (.tmp 21) 22 rfl 5 u8s_under _ u8_zero rfl rfl b (8 + (u + 1)) Z (63 - u) (63 - u) rfl _ 67 (H.out.2.set_ (8 + u) (.int .u8 128)) HZ.out (by simp [St.list, HBL.out]; omega) ?_
         rw [ended_cells s blk u _ HBL.out hu1]
         intro w4 hB4 k4 z4
         have hI4 : IsH w4 b s (ended blk u) N := ⟨ended_length blk u HBL.out hu1, hB4⟩
         have hsz4 := hI4.size
         have I4 := Lib.hid hI4
         have K4 : Kp (oneB b) w w4 := ((Kp.refl (oneB b) w).setCell (p := ⟨b, 8 + u, none⟩) (.inl rfl) _).trans k4 (fun _ e => .inl e)
         clear hI4 hB4 k4 z4))
    have HB4 : Hid ((ended blk u).length = 64) := Lib.hid (ended_length blk u HBL.out hu1)
    go_loopw [36] (fun vi wr => ∃ i : Nat, i ≤ 8 ∧ vi = .int .i64 i ∧ IsH wr b (s) (cnt (ended blk u) N i) N ∧ Kp (oneB b) w wr)
      (fun vi _ => 8 - (intOf vi).toNat)
    case atStart => exact ⟨0, by omega, rfl, by rw [cnt_zero _ _ I4.out.1]; exact I4.out, K4⟩
    case round =>
      obtain ⟨i, hi, rfl, hI, hK⟩ := hrel
      have HI := Lib.hid hI
      clear K4 hsz4
      by_cases hlt : i < 8
      · obtain ⟨j, hj⟩ : ∃ j, j = 63 - i := ⟨_, rfl⟩
        have hj1 : j < 64 := by omega
        have hji : IntKind.i64.wrap (63 - (i : Int)) = (j : Int) := by rw [IntWalk.i64_in _ (by omega)]; omega
        obtain ⟨y, hcj⟩ : ∃ y, wr.cell? ⟨b, 8 + j, none⟩ = some (.int .u8 y) := ⟨_, hI.block j _ (bvs_get (by rw [hI.1]; omega))⟩
        have hfj : wr.frozen? ⟨b, 8 + j, none⟩ = false := hI.2.frozen _
        have HJ := Lib.hid hj; clear hj hI
        go_wp2
        go_region
        go_wp2
        go_roundw
        case rel =>
          rw [cntv N i (by rw [HN.out]; exact hl), ← bv_ofNat]
          refine ⟨i + 1, by omega, by go_num, ?_, (hK.setCell (p := ⟨b, 8 + j, none⟩) (.inl rfl) _).drew⟩
          have := (HI.out.setb j (UInt8.ofNat (8 * N / 256 ^ i)) hj1).keep (Kp.refl nob _).drew (fun e => e)
          rw [HJ.out, cnt_succ _ _ _ HB4.out hlt, ← HJ.out] at this
          exact this
        case measure => simp [intOf]; omega
      · obtain rfl : i = 8 := by omega
        have hTb := ht.keep hK (fun k e => by cases e; exact hb)
        have hfin := Lib.hid (show next s (cnt (ended blk u) N 8) = run H0 (padded l) ((padded l).length / 64) by rw [HT.out.last (by rw [← HN.out, ← HU.out]; omega), ← HN.out, ← HU.out, cnt, ended_take _ _ HBL.out (by omega)])
        go_wp2_with fail
        refine (mix_any b _ _ _ _ hI hTb).mono ?_
        rintro e w5 ⟨rfl, hI5, k5⟩
        rw [hfin.out] at hI5
        go_wp2
        go_end0
        exact ⟨rfl, ⟨_, _, hI5⟩, hK.trans k5 (fun _ e => .inl e)⟩
end Go.Proofs.YtnpidcehioljaaaDoor.Sha
