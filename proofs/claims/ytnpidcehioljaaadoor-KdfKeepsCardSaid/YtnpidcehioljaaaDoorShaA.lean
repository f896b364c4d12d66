/- Contracts of package sha, from the words up. -/
import Derived.Test.YtnpidcehioljaaaDoorRows
import Derived.Test.YtnpidcehioljaaaDoorShaS
import Derived.Test.YtnpidcehioljaaaDoorBlk
import Derived.BigQuiet
import Derived.Deep.QuietTactic
import Derived.StillTailTactics
import Derived.RegionTactic
namespace Go.Proofs.YtnpidcehioljaaaDoor.Sha
open Go Go.RowKit Kit

theorem and31 (k : Nat) (h : 1 ≤ k) (hk : k ≤ 31) : bits .and .u64 (IntKind.u64.wrap (-(k : Int))) 31 = ((32 - k : Nat) : Int) := by
  have : k = 1 ∨ k = 2 ∨ k = 3 ∨ k = 4 ∨ k = 5 ∨ k = 6 ∨ k = 7 ∨ k = 8 ∨ k = 9 ∨ k = 10 ∨ k = 11 ∨ k = 12 ∨ k = 13 ∨ k = 14 ∨ k = 15 ∨ k = 16 ∨ k = 17 ∨ k = 18 ∨ k = 19 ∨ k = 20 ∨ k = 21 ∨ k = 22 ∨ k = 23 ∨ k = 24 ∨ k = 25 ∨ k = 26 ∨ k = 27 ∨ k = 28 ∨ k = 29 ∨ k = 30 ∨ k = 31 := by omega
  rcases this with rfl | rfl | rfl | rfl | rfl | rfl | rfl | rfl | rfl | rfl | rfl | rfl | rfl | rfl | rfl | rfl | rfl | rfl | rfl | rfl | rfl | rfl | rfl | rfl | rfl | rfl | rfl | rfl | rfl | rfl | rfl <;> decide +kernel

theorem turned_nat (x : UInt32) (k : Nat) (w : World) (h : 1 ≤ k) (hk : k ≤ 31) :
    Calls Tryd.prog 36 #[.int .u32 (cw x), .int .i64 k] w fun e w' => e = .returned (.int .u32 (cw (rotr x k))) ∧ w = w' := by
  obtain ⟨j, hj⟩ : ∃ j, j = 32 - k := ⟨_, rfl⟩
  have ha := and31 k h hk
  rw [← hj] at ha
  have hj1 : j ≤ 32 := by omega
  have hs1 : IntKind.u32.wrap (cw x * 2 ^ j) = cw (x <<< UInt32.ofNat j) := cw_shl x j (by omega)
  have hs2 : cw x / 2 ^ k = cw (x >>> UInt32.ofNat k) := cw_shr x k (by omega)
  have h64 : IntKind.u64.wrap (32 - (j : Int)) = (k : Int) := by rw [IntKind.wrap_u64]; omega
  have hm1 : min j 32 = j := by omega
  have hm2 : min k 32 = k := by omega
  have HR := Lib.hid (show rotr x k = x <<< UInt32.ofNat j ||| x >>> UInt32.ofNat k by rw [rotr, UInt32.or_comm, hj])
  clear hj
  go_enter Tryd.func36, Tryd.ntmps36
  go_wp2
  go_ret
  rw [HR.out]
  exact ⟨rfl, rfl⟩
theorem turned_any (x : UInt32) (i : Int) (w : World) (h : 1 ≤ i) (hk : i ≤ 31) :
    Calls Tryd.prog 36 #[.int .u32 (cw x), .int .i64 i] w fun e w' => e = .returned (.int .u32 (cw (rotr x i.toNat))) ∧ w = w' := by
  obtain ⟨k, rfl⟩ := Int.eq_ofNat_of_zero_le (a := i) (by omega)
  exact turned_nat x k w (by omega) (by omega)

/-- Word i of the first k bytes. -/
def pw (l : List UInt8) (k i : Nat) : UInt32 := (((l.take k).drop (4 * i)).take 4).foldl (fun x b => x <<< 8 ||| b.toUInt32) 0
def pws (l : List UInt8) (k : Nat) : List UInt32 := (List.range 64).map (pw l k)
theorem pws_length (l : List UInt8) (k : Nat) : (pws l k).length = 64 := by simp [pws]
theorem pws_get (l : List UInt8) (k i : Nat) (h : i < 64) : (uvs (pws l k))[i]? = some (.int .u32 (cw (pw l k i))) := by simp [uvs, pws, h, uv]
theorem pw_step (l : List UInt8) (k i : Nat) (hk : k < l.length) : pw l (k + 1) i = if i = k / 4 then pw l k i <<< 8 ||| (l[k]).toUInt32 else pw l k i := by
  have e : l.take (k + 1) = l.take k ++ [l[k]] := by rw [List.take_succ_eq_append_getElem hk]
  have hlen : (l.take k).length = k := by simp; omega
  unfold pw
  rw [e]
  by_cases h : i = k / 4
  · have t1 : ((l.take k ++ [l[k]]).drop (4 * i)).take 4 = (l.take k).drop (4 * i) ++ [l[k]] := by rw [List.drop_append_of_le_length (by omega), List.take_of_length_le (by simp; omega)]
    have t2 : ((l.take k).drop (4 * i)).take 4 = (l.take k).drop (4 * i) := List.take_of_length_le (by simp; omega)
    rw [if_pos h, t1, t2, List.foldl_append]
    rfl
  · rw [if_neg h]
    by_cases h1 : 4 * i ≤ k
    · rw [List.drop_append_of_le_length (by omega), List.take_append_of_le_length (by simp; omega)]
    · rw [List.drop_eq_nil_of_le (by simp; omega), List.drop_eq_nil_of_le (by omega)]
theorem pws_step (l : List UInt8) (k : Nat) (x : UInt8) (hx : l[k]? = some x) (_ : k < 64) : (uvs (pws l k)).set (k / 4) (.int .u32 (cw (pw l k (k / 4) <<< 8 ||| x.toUInt32))) = uvs (pws l (k + 1)) := by
  obtain ⟨hk, rfl⟩ := List.getElem?_eq_some_iff.1 hx
  apply List.ext_getElem
  · simp [uvs, pws]
  · intro i h1 h2
    simp only [uvs, pws, List.getElem_set, List.getElem_map, List.getElem_range, pw_step l k i hk]
    by_cases h : i = k / 4
    · rw [if_pos h.symm, if_pos h, h]; rfl
    · rw [if_neg (fun e => h e.symm), if_neg h]
theorem pws_end (l : List UInt8) (hl : l.length = 64) : pws l 64 = words l 16 ++ List.replicate 48 0 := by
  apply List.ext_getElem
  · simp [pws, words]
  · intro i h1 h2
    by_cases h : i < 16
    · rw [List.getElem_append_left (by simp [words]; exact h)]
      simp only [pws, words, List.getElem_map, List.getElem_range, pw]
      rw [List.take_of_length_le (i := 64) (l := l) (by omega)]
      have e : (l.drop (4 * i)).take 4 = [l.getD (4 * i) 0, l.getD (4 * i + 1) 0, l.getD (4 * i + 2) 0, l.getD (4 * i + 3) 0] := by
        apply List.ext_getElem
        · simp; omega
        · intro j h3 h4
          simp at h4
          rw [List.getElem_take, List.getElem_drop]
          match j, h4 with
          | 0, _ => simp [List.getD]; rw [List.getElem?_eq_getElem (by omega)]; rfl
          | 1, _ => simp [List.getD]; rw [List.getElem?_eq_getElem (by omega)]; rfl
          | 2, _ => simp [List.getD]; rw [List.getElem?_eq_getElem (by omega)]; rfl
          | 3, _ => simp [List.getD]; rw [List.getElem?_eq_getElem (by omega)]; rfl
      rw [e]
      simp [word]
    · rw [List.getElem_append_right (by simp [words]; omega)]
      simp only [pws, List.getElem_map, List.getElem_range, List.getElem_replicate, pw]
      rw [List.drop_eq_nil_of_le (by simp; omega)]
      rfl

theorem arr8 : Tryd.prog.underlying 48 = some (.array 64 5) := by kernel_rfl
theorem arr32 : Tryd.prog.underlying 55 = some (.array 64 52) := by kernel_rfl

theorem sch_set (l : List UInt8) (m m16 : Nat) (x : UInt32) (hm : m = m16 + 16) (hlt : m < 64) (hx : sch l (m16 + 1) = sch l m16 ++ [x]) :
    (uvs (sch l m16 ++ List.replicate (64 - m) 0)).set m (uv x) = uvs (sch l (m + 1 - 16) ++ List.replicate (64 - (m + 1)) 0) := by
  have hl := sch_length l m16
  rw [show m + 1 - 16 = m16 + 1 by omega, hx, show 64 - m = (64 - (m + 1)) + 1 by omega, List.replicate_succ]
  simp only [uvs, List.map_append, List.map_cons, List.append_assoc, List.cons_append, List.nil_append]
  rw [List.set_append_right _ _ (by simp; omega)]
  simp [hl, show m - (16 + m16) = 0 by omega]
theorem sch_ext (l : List UInt8) (m m16 m15 m7 m2 : Nat) (hm : 16 ≤ m) (h16 : m16 = m - 16) (h15 : m15 = m - 15) (h7 : m7 = m - 7) (h2 : m2 = m - 2) :
    sch l (m - 16 + 1) = sch l (m - 16) ++ [(sch l (m - 16)).getD m16 0 + sml ((sch l (m - 16)).getD m15 0) 7 18 3 + (sch l (m - 16)).getD m7 0 + sml ((sch l (m - 16)).getD m2 0) 17 19 10] := by
  subst h16; subst h15; subst h7; subst h2
  rw [sch_succ, ext, sch_length, show 16 + (m - 16) = m by omega]

set_option maxHeartbeats 800000 in
set_option maxRecDepth 100000 in
theorem spread_any (b o : Nat) (l : List UInt8) (w : World) (hl : l.length = 64) (hb : b < w.heap.size) (hr : w.rangeAt b o (bvs l)) :
    Calls Tryd.prog 35 #[.pointer (some ⟨b, o, none⟩)] w fun e w' => e = .returned (.agg (uvs (sch l 48)).toArray) ∧ Kp nob w w' := by
  have HL := Lib.hid hl; have HR := Lib.hid hr; clear hl hr
  go_enter Tryd.func35, Tryd.ntmps35
  go_wp2
  go_loopw [12] (fun i wr => ∃ k : Nat, k ≤ 64 ∧ i = .int .i64 k ∧ Blk wr w.heap.size 55 (uvs (List.replicate 64 0)) ∧ Blk wr (w.heap.size + 1) 55 (uvs (pws l k)) ∧ Kp nob w wr)
    (fun i _ => 64 - (intOf i).toNat)
  case atStart =>
    refine ⟨0, by omega, rfl, (Blk.new' rfl ?_).alloc _, Blk.new' (by simp) ?_, ((Kp.refl _ _).alloc _).alloc _⟩
    · rfl
    · have : pws l 0 = List.replicate 64 0 := by unfold pws; rw [List.eq_replicate_iff]; refine ⟨by simp, fun x hx => ?_⟩; simp [pw] at hx; exact hx.2.symm
      rw [this]; rfl
  case round =>
    obtain ⟨k, hk, rfl, h1, h2, hkp⟩ := hrel
    have H1 := Lib.hid h1; have H2 := Lib.hid h2; clear h1 h2
    have hl := HL.out
    by_cases hlt : k < 64
    · obtain ⟨x, hx⟩ : ∃ x, x = l[k] := ⟨_, rfl⟩
      have hc : wr.cell? ⟨b, o + k, none⟩ = some (.int .u8 x.toNat) := by
        rw [hkp.cell (p := ⟨b, o + k, none⟩) hb (fun e => e), HR.out k (bv l[k]) (bvs_get (by omega)), hx]; rfl
      have hd : wr.cell? ⟨w.heap.size + 1, k / 4, none⟩ = some (.int .u32 (cw (pw l k (k / 4)))) := by
        rw [H2.out.cell, pws_get l k (k / 4) (by omega)]
      have hf : wr.frozen? ⟨w.heap.size + 1, k / 4, none⟩ = false := H2.out.frozen _
      have HX : Hid (l[k]? = some x) := Lib.hid (by rw [hx]; exact List.getElem?_eq_getElem _)
      clear hx hl
      go_wp2
      go_quiet (fail)
      go_wp2
      go_roundw
      case rel =>
        refine ⟨k + 1, by omega, by go_num, ?_, ?_, ?_⟩
        · exact (H1.out.keep ((Kp.refl nob _).drewN nq) (fun e => e)).far (by simp) _
        · have := (H2.out.keep ((Kp.refl nob _).drewN nq) (fun e => e)).set_ (k / 4) (.int .u32 (cw (pw l k (k / 4) <<< 8 ||| x.toUInt32)))
          rwa [pws_step l k x HX.out hlt] at this
        · exact (hkp.drewN nq).setCell (.inr (by simp)) _
      case measure => simp [intOf]; omega
    · go_wp2
      go_loopw [6] (fun i wr => ∃ m : Nat, 16 ≤ m ∧ m ≤ 64 ∧ i = .int .i64 m ∧ Blk wr w.heap.size 55 (uvs (List.replicate 64 0)) ∧ Blk wr (w.heap.size + 1) 55 (uvs (sch l (m - 16) ++ List.replicate (64 - m) 0)) ∧ Kp nob w wr)
        (fun i _ => 64 - (intOf i).toNat)
      case atStart =>
        obtain rfl : k = 64 := by omega
        exact ⟨16, by omega, by omega, rfl, H1.out, by have := H2.out; rwa [pws_end l HL.out, ← sch_zero] at this, hkp⟩
      case round =>
        clear H1 H2 hkp hk hl hlt
        obtain ⟨m, hm, hj, rfl, h1, h2, hkp⟩ := hrel
        have H1 := Lib.hid h1; have H2 := Lib.hid h2; clear h1 h2
        by_cases hlt : m < 64
        · have hs := sch_length l (m - 16)
          have hc : ∀ i, i < m → wr.cell? ⟨w.heap.size + 1, i, none⟩ = some (.int .u32 (cw ((sch l (m - 16)).getD i 0))) := fun i hi => by
            rw [H2.out.cell, uvs, List.map_append, List.getElem?_append_left (by simp; omega), List.getElem?_map, List.getElem?_eq_getElem (by omega), List.getD, List.getElem?_eq_getElem (by omega)]; rfl
          obtain ⟨m16, h16⟩ : ∃ q, q = m - 16 := ⟨_, rfl⟩
          obtain ⟨m15, h15⟩ : ∃ q, q = m - 15 := ⟨_, rfl⟩
          obtain ⟨m7, h7⟩ : ∃ q, q = m - 7 := ⟨_, rfl⟩
          obtain ⟨m2, h2⟩ : ∃ q, q = m - 2 := ⟨_, rfl⟩
          have e16 : IntKind.i64.wrap ((m : Int) - 16) = (m16 : Int) := by rw [IntWalk.i64_in _ (by omega)]; omega
          have e15 : IntKind.i64.wrap ((m : Int) - 15) = (m15 : Int) := by rw [IntWalk.i64_in _ (by omega)]; omega
          have e7 : IntKind.i64.wrap ((m : Int) - 7) = (m7 : Int) := by rw [IntWalk.i64_in _ (by omega)]; omega
          have e2 : IntKind.i64.wrap ((m : Int) - 2) = (m2 : Int) := by rw [IntWalk.i64_in _ (by omega)]; omega
          have hc16 := hc m16 (by omega)
          have hc15 := hc m15 (by omega)
          have hc7 := hc m7 (by omega)
          have hc2 := hc m2 (by omega)
          have hx := sch_ext l m m16 m15 m7 m2 hm h16 h15 h7 h2
          have hi16 : m16 < 64 := by omega
          have hi15 : m15 < 64 := by omega
          have hi7 : m7 < 64 := by omega
          have hi2 : m2 < 64 := by omega
          have hf : wr.frozen? ⟨w.heap.size + 1, m, none⟩ = false := H2.out.frozen _
          have hcm : wr.cell? ⟨w.heap.size + 1, m, none⟩ = some (.int .u32 0) := by
            rw [H2.out.cell, uvs, List.map_append, List.getElem?_append_right (by simp; omega), List.getElem?_map, List.getElem?_replicate, if_pos (by simp; omega)]; rfl
          rw [← h16] at hc16 hc15 hc7 hc2 hx
          rw [← h16] at H2
          generalize (sch l m16).getD m16 0 = X16 at hc16 hx
          generalize (sch l m16).getD m15 0 = X15 at hc15 hx
          generalize (sch l m16).getD m7 0 = X7 at hc7 hx
          generalize (sch l m16).getD m2 0 = X2 at hc2 hx
          have HX := Lib.hid hx
          have HJ : Hid (m = m16 + 16) := Lib.hid (by omega)
          clear hc hs hx h16 h15 h7 h2
          go_wp2
          go_quiet (fail)
          go_wp2_with fail
          refine (turned_any _ 7 _ (by omega) (by omega)).mono ?_
          rintro e w2 ⟨rfl, rfl⟩
          go_wp2_with fail
          refine (turned_any _ 18 _ (by omega) (by omega)).mono ?_
          rintro e w2 ⟨rfl, rfl⟩
          go_wp2_with fail
          refine (turned_any _ 17 _ (by omega) (by omega)).mono ?_
          rintro e w2 ⟨rfl, rfl⟩
          go_wp2_with fail
          refine (turned_any _ 19 _ (by omega) (by omega)).mono ?_
          rintro e w2 ⟨rfl, rfl⟩
          go_wp2
          go_region
          go_wp2
          go_roundw
          case rel =>
            refine ⟨m + 1, by omega, by omega, by go_num, ?_, ?_, ?_⟩
            · exact (H1.out.keep ((Kp.refl nob _).drewN _) (fun e => e)).far (by simp) _
            · have := (H2.out.keep ((Kp.refl nob _).drewN (nq + 1)) (fun e => e)).set_ m (uv (X16 + sml X15 7 18 3 + X7 + sml X2 17 19 10))
              rw [sch_set l m m16 _ HJ.out hlt HX.out] at this
              exact this
            · exact (hkp.drewN _).setCell (.inr (by simp)) _
          case measure => simp [intOf]; omega
        · obtain rfl : m = 64 := by omega
          have h2 : Blk wr (w.heap.size + 1) 55 (uvs (sch l 48)) := by simpa using H2.out
          have h1 := H1.out
          clear H1 H2
          have hd1 : wr.rangeAt (w.heap.size + 1) 0 (uvs (sch l 48)) := fun j v hv => by rw [h2.cell]; simpa using hv
          have ht1 : wr.there w.heap.size 0 (uvs (sch l 48)).toArray.size := fun j hj => by
            rw [h1.cell, Nat.zero_add, List.getElem?_eq_getElem (by simpa [sch_length] using hj)]
            exact ⟨rfl, h1.frozen _⟩
          go_wp2_with (first
            | (refine wpList_load_mid rfl 55 (.tmp 3) rfl (w.heap.size + 1) 0 rfl (uvs (sch l 48)) _ hd1 arr32 rfl (by kernel_rfl) ?_)
            | (refine wpList_store_mid rfl 55 (.tmp 2) (.tmp 73) rfl w.heap.size 0 _ rfl rfl ht1 (by kernel_rfl) ?h1 ?_))
          case h1 => exact all_oneCell_toArray (uvs_one _)
          have hB : Blk (wr.setCells w.heap.size 0 (uvs (sch l 48))) w.heap.size 55 (uvs (sch l 48)) := h1.setAll (by simp [sch_length])
          have hK : Kp nob w (wr.setCells w.heap.size 0 (uvs (sch l 48))) := hkp.setCells (.inr (Nat.le_refl _)) _
          refine bodyPost_ret (results_cell_row rfl _ _ w.heap.size _ _ _ _ rfl hB arr32 rfl (by kernel_rfl)) rfl ⟨rfl, hK⟩
end Go.Proofs.YtnpidcehioljaaaDoor.Sha
